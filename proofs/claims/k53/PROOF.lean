import PyProof.Rows.All
import Wide.All
import OpenK.AllK
import Wide.FinOn
import Lean
import PyProof.EqAt
import PyProof.EqKinds
import PyProof.TupleCall
import PyProof.Rows.SortRunsK
import PyProof.Rows.SortShellK
import KE.KSortTup
import PyProof.TupleKey
import PySem.SetOps
import PyProof.Rows.SetFrom
import PyProof.EnumFor
import PyProof.EnumStmt
import PyProof.EnumMake
import PyProof.P3Eq
import PyProof.NeData
import PyProof.P3In
import PyProof.Rows.SumAny
import KE.KLam
import KE.KSortKey
import PyProof.ListRange
import KE.KTryMore
import PyProof.NsDelKeeps
import PyProof.RulesAs
import PyProof.ExcBaseAll.ValueError
import PyProof.ExcArgsOwn
import KE.KIsAll
import PyProof.Rows.SortRev
import PyProof.TupleOfSeq
import PyProof.Draws
import KE.KTupSum
import Wide.Txt2
import PyProof.ZipIter
import PyProof.Rows.TupAdd
import KE.KMinKey
import PyProof.Cells
import PyProof.DictWalks
import PyProof.ConsumeWalk
import PyProof.DictKeyH
import PyProof.ListNew
import PyProof.ConsumeS
import PyProof.WalksMore
import PyProof.ListOps
import PyProof.AutoSeq1
import PyProof.DictRoadsH
import PyProof.MeetsDictList
import KE.KDictOf
import PyProof.DictUpdate
import PyProof.DictCopy
import KE.RegKIsAll
import KE.RegKTryMore
import PySem.Challenge.RW_tallyweb_k53_least_on
local macro_rules | `(tactic| omega) => `(tactic| lia)
set_option autoImplicit false
set_option linter.all false
set_option Elab.async false
set_option maxRecDepth 100000
open PySem renaming wpAny_bind->b7,wpAny_pure->d3,mainGlobals->j5,sizeLine->j7,wpAny->p8,model->t9,tupleKeyHash->u9,starEach->v9,intKind->B0,wpAny_holding->D9,wpAny_mono->E3,sizeLine_eq->E4,compareOp->F4,wpAny_truthy_bool->F6,wpAny_seqItems->G5,wpAny_pyIter_tuple->G9,wpAny_pyIter_list->K6,intItems->K8,bootBuiltins->L6,wpAny_Call_Name_kw->M0,IsTupleKey->M3,wpAny_callSpecial?_slot->N1,wpAny_call_entry->O8,wpAny_field->P9,codeAny_builtin->R0,wpAny_typeNameOfWhole_keyiter->T5,backTo->V0,wpAny_passesOwn->V1,sysModules->V4,wpAny_newList->V5,wpAny_setState_of->V6,compEnvC->V7,wpAny_newObj_type->V8,argBest->X0,intItems_at->Y8,rawInt->Z4,wpAny_typeNameOf_keyiter->Z5,IsPair->aa6,wpAny_setField_rec->aa7,binaryOp->ad5,Paired->ae7,cLine->ae8,DictEntry->ae9,wpAny_newFunctionEnv->ah0,PyData->ah1,wpAny_attempt->ah3,plainId_quiet->ah5,assignEach->ai9,sliceBounds->aj7,unsupported->aj8,wpAny_letGo->aj9,codeAny_mono->am7,wpAny_tryCatch->ao5,pyNext->aq0,foldedSetIterable->aq1,wpAny_rule->aq2,ofAClassStatement->aq4,wpAny_pyIter_enum->aq5,behindInMarks->ar6,wpAny_standAt->ar7,codeAny->ar8,numAt->ar9,wpAny_forIn_list->av8,wpAny_execs_nil->aA6,recursionLimit->aJ3,wpAny_setField->aJ4,firstArgMember->aJ5,Keyword->aJ8,keywordEach->aJ9,wpAny_of_eq->aK1,NameKind->aO9,setSearchFrom->aP1,tupleKind_room_in1->aP2,builtinsNs->aU4,holding->aU5,call_meets->aU6,closureFor->aU7,IsZip->aU8,wpAny_dictEntries->aU9,wpAny_execs_cons->be3,bindArgs->bj8,tupleKind->bq2,letOwnedTupleGo->bq3,BindsTo->bq4,subscripted->bq5,callerA->bq6,hashByValue->br0,valueAt->br1,seqItems?->br2,wpAny_updateSeq->br3,wpAny_dictEpoch->br4,wpAny_letOwnedTupleGo_enum->bw2,wpAny_newTuple->bw6,wpAny_call->bJ6,wpAny_comprehension_free->bJ9,GenState->bK6,backToKw->bK7,getItem->bK8,attributeBase->bL0,compPost->bL2,ReadsAll->bL3,wpAny_onRaise->bL4,codeAny_compStart_list->bU9,wpAny_isTrue_Compare1->bX8,swapsWith->bX9,assign->bY0,again->bY1,seqIndex_neg->bY2,setSearch->bY6,wpAny_eqIsQuiet_tuple->bY7,codeAmong->bY8,wpAny_isOneOf_keyiter->bY9,wpAny_loadName_local->ci2,wpAny_updateSeq_pair->ci3,wpAny_pyIter_keyiter->ci4,wpAny_loadName_cell->cj3,seqIndex_of->cj4,atKey->ck0
open List renaming length_map->b8,getElem?_eq_getElem->c7,getD_eq_getElem?_getD->c8,mem_cons_of_mem->d6,mem_cons->d7,mem_of_getElem?->d8,getElem?_eq_some_iff->d9,mem_cons_self->f9,size_toArray->i9,map_append->j9,take_of_length_le->k8,length_append->m6,map_cons->m8,mem_append_right->m9,getElem?_map->o5,mem_iff_getElem?->o6,getElem?_eq_none->o7,mem_map->p0,range->p5,length_cons->p6,length_take->q8,pairwise_iff_getElem->t7,replicate->u5,mem_append->u6,mem_range->v8,mem_singleton->x8,length_range->y7,pairwise_append->A3,append_assoc->A6,take_add_one->A7,append_nil->B4,nodup_cons->B5,take_append_drop->B6,not_mem_nil->C2,getElem?_append_right->C6,range_succ->D0,lookup->E2,mem_filter->F1,length_drop->F3,length_filter_le->F5,pairwise_cons->F9,filter_cons_of_pos->G0,filter_cons_of_neg->G1,sum_cons->G2,mem_append_left->G3,mem_of_mem_take->G4,all_eq_true->G8,nodup_iff_pairwise_ne->J2,drop_of_length_le->J5,getElem?_range->J9,map_congr_left->K1,length_set->K7,filter_append->L5,map_map->M4,take_sublist->M7,ext_getElem?->M8,pairwise_map->M9,replicate_succ->N3,countP_cons->N9,mem_nil_iff->O0,getElem?_append_left->O7,mem_of_mem_drop->P8,flatten_cons->Q2,nil_append->Q3,getElem?_drop->S9,getElem?_take->T4,mem_iff_getElem->V3,extract_eq_take_drop->W7,getElem_mem->W9,filterMap_cons->X2,filter_sublist->X3,getElem?_take_of_lt->X6,zip_cons_cons->Z1,any_cons->Z2,find?_cons->Z3,pairwise_lt_range->aa3,filter_eq_nil_iff->aa4,reverse_perm->ab4,drop_sublist->ab5,pairwise_reverse->ac9,drop_append->ad3,take_append_of_le_length->ad4,getElem?_set_ne->ae5,foldl->af4,foldl_cons->ag9,mem_filterMap->aj4,getElem_range->aj6,drop_eq_getElem_cons->ak1,nodup_nil->ak4,length->ao9,range'->ap0,length_eq_zero_iff->ap1,any_toArray->ap7,filter_cons->ap9,of_mem_zip->av4,length_replicate->av5,map_id'->av6,map_set->av7,range_eq_range'->az4,length_pos_iff->aB3,map_drop->aJ0,map_take->aJ1,length_range'->aJ2,mem_range'_1->aK9,nodup_append->aL0,mem_reverse->aT5,cons_append->aT6,zipIdx_cons->aT7,drop_append_of_le_length->aT9,eq_nil_of_length_eq_zero->aU0,take->bd6,length_nil->bd8,filter_nil->bd9,perm_ext_iff_of_nodup->be1,drop_drop->bj2,drop_zero->bj3,take_zero->bj7,length_erase_of_mem->bq1,getElem?_replicate->bw1,getElem?_set_self->bw3,drop_eq_nil_of_le->bw4,length_pos_of_mem->bw5,map_nil->bJ3,length_singleton->bJ4,perm_append_comm->bJ5,getElem_toArray->bK4,reverse_append->bU1,flatMap_append->bU3,toList_toArray->bU4,take_succ_cons->bU6,length_reverse->bU7,getElem?_set->ch8,drop_reverse->ch9,take_reverse->ci0,take_append->ci5,lookup_cons->ci9,mem_flatMap->cj0,map_reverse->cj1,take_length->cj2
open PySem.Heap renaming get?_push_of_some->c5,lt_size->d5,get?_push_size->i6,get?_update_other->B1,size_push->B9,get?_update_self->O5,get?_none_of_le->az3,size_update->ci6
open Nat renaming le_refl->c9,ne_of_lt->k9,lt_of_lt_of_le->p9,zero_le->t8,le_trans->x9,lt_or_ge->A1,lt_irrefl->B2,lt_succ_of_lt->B3,lt_or_eq_of_le->L7,ne_of_gt->M6,zero_add->O6,add_sub_cancel_left->R4,le_add_right->S5,lt_trichotomy->U8,add_le_add_left->X7,le_succ->ab9,lt_succ_self->ae6,add_sub_cancel->ak2,succ_pos->ak3,le_of_succ_le->ao3,le_of_lt_succ->ao4,div_div_eq_div_mul->ar5,le_of_lt->av9,le_of_eq->aw1,add_zero->aT8,pow_succ->aU1,not_lt_zero->be0,sub_self->bK1,lt_trans->bK2,testBit_two_pow->bX5,lt_of_le_of_lt->ci1,mod_lt->ci7
open Array renaming getElem?_toList->g6,length_toList->l5,size_push->A9,toList_append->B7,size_extract->F8,size_append->J6,perm_iff_toList_perm->N5,getElem?_eq_none->Z9,toList_push->aa2,toList_extract->ad1,toList_reverse->ad2,forIn_toList->ai8,size_map->aj5,mem_toList_iff->aw0,toArray_toList->aw2,toList_setIfInBounds->bd5,getElem?_append_left->bd7,size_setIfInBounds->bj4,getElem?_replicate->bj5,setIfInBounds->bK0,append_assoc->bU0,size_reverse->bU2,getD->bX6,toList_map->ch7
open Bool renaming false_ne_true->i7,false_eq_true->l9,and_eq_true->C9,not_true->U6,eq_iff_iff->ag8,not_false->bj6,not_eq_true'->ch6,not_eq_true->ci8
open PySem.W renaming nsIn->j8,mg_none_of->v7,keepIn->U9,fnOf->W8,mg_of->ad0,codeIn->aU3
open PyProof.Rows renaming wpS_bind->k7,wpS_pure->m5,arrOf->o4,SortSt->A8,pendingOf->B8,wpS_forRange->F2,seqObj->J0,IntsAre->J7,envOfC->O9,failedOf->P0,wpS_mono->Y4,get?_update_seq->aa5,listUpdate_at->ah4,elem'->ak5,mem_zip_self->am8,sortedHeap->aq3,AllBare->aA5,wpS_get->aA7,wpS_modify->aB4,wpS_reverse->aK0,KeyOrd->aP0,mirror_perm->bq7,seqEpoch_at->bq8,entry_list_sort->bq9,slot_list_sort->bw7,setPending->bJ7,size_push'->bJ8,subscriptTail->bK9,tuples'->bL1,subscriptTail_builtinR->bU8,call_function_entry_kw->bV0,listItems_at->bY3,plain_sorted->bY4,entry_sorted->bY5,getElem?_mirror_all->cj5,pairsOf->cj6,kind_sorted->cj7,wpAny_call_entry_kw->cj8,callWith_kw->cj9
open Int renaming toNat_natCast->m7,le_refl->E8,mul_one->K3,emod_lt_of_pos->L8,emod_nonneg->Q6,mul_zero->R3,mul_assoc->R5,mul_le_mul_of_nonneg_left->S6,mul_comm->U3,zero_mul->Y3,mul_sub->ah2,one_mul->ap8,sub_zero->aw3,natCast_nonneg->aJ6,lt_irrefl->aJ7,sub_self->aU2,mul_add->be2,fdiv_eq_ediv_of_nonneg->bj1,mul_nonneg->bq0,lt_or_le->bK3,toNat_of_nonneg->bX7
open Option renaming isSome_iff_exists->o9,map_some->af3,toList_some->bK5,isSome_map->bU5,getD_none->bX4
variable {A:PySem.Around}{B:PyProof.Rows.Keyed->PyProof.Rows.Keyed->Bool}{C CB a b c f fT:PySem.Addr}{E Q:PySem.Value->PySem.Shared->Prop}{L:Int}{M:PySem.Model}{N N' ps:List PySem.Str}{P prog:PySem.Program}{R:PyProof.Rows.Keyed->PyProof.Rows.Keyed->Prop}{XP:(PySem.Str->Option PySem.Value)->PySem.Heap->Prop}{YP:PySem.World->PySem.Heap->Prop}{a₀:Array PyProof.Rows.Keyed}{cl:List (PySem.Str × PySem.Addr)}{cs k ns zs:List Int}{d:Nat->Int}{e tg:PySem.Expr}{elts es:List PySem.Expr}{fd fdA fdC fdF fdI fdO fdT fdW fdβ:PySem.FuncData}{fp:List PySem.Addr}{g:Nat->Nat->Bool}{h h':PySem.Heap}{i j m n p t':Nat}{its us vs:List PySem.Value}{ks:List (List Int)}{l:PySem.Addr->Option PySem.Obj}{lk:List (Option Nat)}{mA:PySem.Str->Option PySem.Value}{o:PySem.Obj}{out ra rb:List PyProof.Rows.Keyed}{params:PySem.Arguments}{pins:List (PySem.Addr × PySem.Obj)}{pos:PySem.Pos}{qual x:PySem.Str}{s:PySem.Shared}{scope:PySem.Scope}{tk:PySem.Tok}{u v:PySem.Value}{w:PySem.World}{ws:List (List (List Int))}{κ:PyProof.Rows.SortKind}{τ:Nat->Bool}
namespace L2
open PySem PySem.Spec PyProof.Rows
abbrev Key:=Sum Int Str
def aM7:Key->Value->Bool
 | .inl k,v=>Value.isInt k v
 | .inr x,v=>Value.isStrOf x v
def cs3 (w:World):Key->Int
 | .inl k=>hashInt k
 | .inr x=>hashStr w x
theorem N2:∀ {k:Key} {v:Value},aM7 k v=true->(∃ i t,k=Sum.inl i/\v=Value.int i t)\/(∃ x t,k=Sum.inr x/\v=Value.str x t)
 | .inl i,v,h=>by
  obtain⟨t,e⟩:=Value.isInt_shape (k:=i) (v:=v) h
  exact .inl ⟨i,t,rfl,e⟩
 | .inr x,v,h=>by
  obtain⟨t,e⟩:=Value.isStrOf_shape (x:=x) (v:=v) h
  exact .inr ⟨x,t,rfl,e⟩
theorem bu0 (i:Int)(t:Tok):aM7 (.inl i) (.int i t)=true:=by simp[aM7,Value.isInt]
theorem bt9 (x:Str)(t:Tok):aM7 (.inr x) (.str x t)=true:=by simp[aM7,Value.isStrOf]
theorem ce5 (a b:Int):decide ((Sum.inl a:Key)=Sum.inl b)=(a == b):=by
 by_cases e:a=b
 ·subst e;simp
 ·have h:¬ (Sum.inl a:Key)=Sum.inl b:=fun q=>e (Sum.inl.inj q)
  rw[decide_eq_false h]
  exact(beq_eq_false_iff_ne.mpr e).symm
theorem ce2 (a b:Str):decide ((Sum.inr a:Key)=Sum.inr b)=decide (a=b):=by
 by_cases e:a=b
 ·subst e;simp
 ·have h:¬ (Sum.inr a:Key)=Sum.inr b:=fun q=>e (Sum.inr.inj q)
  rw[decide_eq_false h,decide_eq_false e]
theorem ce4 (a:Int)(b:Str):decide ((Sum.inl a:Key)=Sum.inr b)=false:=decide_eq_false (fun q=>nomatch q)
theorem ce3 (a:Str)(b:Int):decide ((Sum.inr a:Key)=Sum.inl b)=false:=decide_eq_false (fun q=>nomatch q)
def Q9 (prog:Program) (w:World):PySem.KeyKind prog w Key where
  is:=aM7
  hash:=cs3 w
  inj:=fun v a b ha hb=>by
    rcases N2 ha with⟨i,t,rfl,rfl⟩ | ⟨x,t,rfl,rfl⟩
    · rcases N2 hb with⟨j,u,rfl,e⟩ | ⟨y,u,rfl,e⟩
      · injection e with e1 _;rw[e1]
      · exact nomatch e
    · rcases N2 hb with⟨j,u,rfl,e⟩ | ⟨y,u,rfl,e⟩
      · exact nomatch e
      · injection e with e1 _;rw[e1]
  byValue := fun k v h => by
    rcases N2 h with⟨i,t,rfl,rfl⟩ | ⟨x,t,rfl,rfl⟩<;>rfl
  pyHash:=fun hv h=>by
    rcases N2 hv with⟨i,t,rfl,rfl⟩ | ⟨x,t,rfl,rfl⟩
    · exact wpAny_pyHash_int h
    · exact wpAny_pyHash_str h
  eqBool:=fun hu hv h=>by
    rcases N2 hu with⟨i,t,rfl,rfl⟩ | ⟨x,t,rfl,rfl⟩
    · rcases N2 hv with⟨j,u,rfl,rfl⟩ | ⟨y,u,rfl,rfl⟩
      · rw[ce5]at h;exact wpAny_eqBool_int h
      · rw[ce4]at h;exact SeqAt.EqAt.int_str i t y u _ _ _ _ h
    · rcases N2 hv with⟨j,u,rfl,rfl⟩ | ⟨y,u,rfl,rfl⟩
      · rw[ce3]at h;exact SeqAt.EqAt.str_int x t j u _ _ _ _ h
      · rw[ce2]at h;exact wpAny_eqBool_str h
  «strs»:=fun k x t v h=>by
    rcases N2 h with⟨i,u,rfl,e⟩ | ⟨y,u,rfl,e⟩
    · exact nomatch e
    · injection e with e1 _
      subst e1
      cases v<;>rfl
theorem ba1 (prog:Program)(w:World)(i:Int)(t:Tok):(Q9 prog w).is (.inl i) (.int i t)=true:=bu0 i t
theorem ba0 (prog:Program)(w:World)(x:Str)(t:Tok):(Q9 prog w).is (.inr x) (.str x t)=true:=bt9 x t
inductive V where
 | non | bl (b:Bool) | int (i:Int) | str (x:Str) | byt (b:Array UInt8) | flt (b:UInt64) | ref (a:Addr) | ty (n:String)
 deriving DecidableEq
def RelV:V->Value->Prop
 | .non,u=>u=Value.none
 | .bl b,u=>u=Value.bool b
 | .int i,u=>∃ t,u=Value.int i t
 | .str x,u=>∃ t,u=Value.str x t
 | .byt b,u=>∃ t,u=Value.bytes b t
 | .flt b,u=>∃ t,u=Value.float b t
 | .ref a,u=>u=Value.ref a
 | .ty n,u=>u=Value.type n
abbrev C8:List V->List Value->Prop:=ae7 RelV
theorem C8.length {xs:List V}(r:C8 xs us):xs.length=us.length:=Paired.length r
theorem C8.get:∀ {xs:List V} {us:List Value} {i:Nat} {x:V},C8 xs us->xs[i]?=some x->∃ u,us[i]?=some u/\RelV x u
 | _,_,_,_,.nil,e=>by simp at e
 | _,_,0,_,.cons r _,e=>by simp at e;subst e;exact⟨_,rfl,r⟩
 | _,_,i+1,x,.cons _ t,e=>by
  obtain⟨u,h1,h2⟩:=C8.get (i:=i) (x:=x) t (by simpa using e)
  exact⟨u,by simpa using h1,h2⟩
theorem C8.set {x:V}(r:RelV x u):∀ {xs:List V} {us:List Value} (i:Nat),C8 xs us->C8 (xs.set i x) (us.set i u)
 | _,_,_,.nil=>.nil
 | _,_,0,.cons _ t=>.cons r t
 | _,_,i+1,.cons q t=>.cons q (C8.set r i t)
theorem C8.append:∀ {xs ys:List V} {us ws:List Value},C8 xs us->C8 ys ws->C8 (xs++ys) (us++ws)
 | _,_,_,_,.nil,s=>s
 | _,_,_,_,.cons r t,s=>.cons r (C8.append t s)
theorem C8.take:∀ {xs:List V} {us:List Value} (n:Nat),C8 xs us->C8 (xs.take n) (us.take n)
 | _,_,0,_=>.nil
 | _,_,_+1,.nil=>.nil
 | _,_,n+1,.cons r t=>.cons r (C8.take n t)
theorem C8.drop:∀ {xs:List V} {us:List Value} (n:Nat),C8 xs us->C8 (xs.drop n) (us.drop n)
 | _,_,0,r=>r
 | _,_,_+1,.nil=>.nil
 | _,_,n+1,.cons _ t=>C8.drop n t
def aI7:Option V->Option Value->Prop
 | some v,some u=>RelV v u
 | none,none=>True
 | _,_=>False
def KV {κ:Type}:List (κ × V)->List (κ × Value)->Prop:=ae7 fun(p:κ × V) (q:κ × Value)=>p.1=q.1/\RelV p.2 q.2
def kV:Key->V
 | .inl i=>.int i
 | .inr x=>.str x
inductive HO where
  | lst (xs:List V)
  | tup (xs:List V)
  | dK (kvs:List (Key × V)) | dT (kvs:List (List Key × V))
  | set (S:Int->Bool) (n:Nat)
  | ins (C dx:Addr) (fs:List (Str × V))
  | own (x:Addr)
  | xd (fs:List (Str × V))
  | met (f x:Addr)
  | rng (lo hi:Int)
  | frz (o:Obj) (u:HO)
  | tbl (ps:Array Value)
  | ext (φ:Heap->Prop)
abbrev Hp:=Addr->Option HO
def upd (H:Hp)(a:Addr)(o:HO):Hp:=fun b=>if b=a then some o else H b
theorem c6 {H:Hp}{o:HO}:upd H a o a=some o:=by unfold upd;rw[if_pos rfl]
theorem t4 {H:Hp}{o:HO}(h:b≠a):upd H a o b=H b:=by unfold upd;rw[if_neg h]
theorem aP4 {H:Hp}{o u:HO}:upd (upd H a o) a u=upd H a u:=by
 funext b;unfold upd;split<;>rfl
theorem bD1 {H:Hp}{o u:HO}(h:H a=some o)(h':H b=some u)(d:o≠u):a≠b:=by
 intro e;subst e;rw[h]at h';exact d (Option.some.inj h')
theorem r6 {H:Hp}{o:HO}(h:H a=some o)(h':H b=none):a≠b:=by
 intro e;subst e;rw[h]at h';cases h'
section
variable (P:Program) (w:World)
def G7 (H:Hp)(h:Heap)(a:Addr):HO->Prop
 | .lst xs=>xs.length<=j7/\∃ (its:List Value) (n:Nat),C8 xs its/\h.get? a=some { cls:=.type "list",data:=.seq its.toArray n }
 | .tup xs=>xs.length<=j7/\∃ its:List Value,C8 xs its/\IsTup h a its.toArray
 | .dK kvs=>kvs.length<=j7/\(a == V4)=false/\∃ vs,KV kvs vs/\h.DictOf (Q9 P w) a vs
 | .dT kvs=>kvs.length<=j7/\(a == V4)=false/\∃ xs:List (List Key × Addr × Value),
   ae7 (fun(p:List Key × V) (q:List Key × Addr × Value)=>p.1=q.1/\H q.2.1=some (.tup (p.1.map kV))/\RelV p.2 q.2.2) kvs xs /\
   ∃ o es ep,h.get? a=some o/\o.ExactDict/\o.data=.dict es ep/\es.toList=xs.map (entryOfKey (bq2 (Q9 P w)))/\(xs.map (·.1)).Nodup
 | .set S n=>h.SetOf (B0 P w) a S n
 | .ins C dx fs=>H dx=some (.own a)/\fs.length<=1000/\dx≠a/\h.get? a=some (PySem.W.instObj C dx) /\
   ∃ mA,h.Ns1 dx mA/\(∀ f,aI7 (fs.lookup f) (mA f))/\PySem.Within mA (fs.map (·.1))
 | .own _=>∃ o,h.get? a=some o
 | .xd fs=>∃ mA,h.Ns1 a mA/\∀ f,aI7 (fs.lookup f) (mA f)
 | .rng lo hi=>∃ t u v,h.get? a=some { cls:=.type "range",data:=.fields #[.int lo t,.int hi u,.int 1 v] }
 | .frz o u=>h.get? a=some o/\G7 H h a u
 | .tbl ps=>h.get? a=some { cls:=.none,data:=.fields ps }
 | .met f x=>h.get? a=some (PySem.W.methodObj (.ref f) (.ref x))
 | .ext φ=>φ h/\(∃ o,h.get? a=some o)/\∀ h1 h2:Heap,φ h1->(∀ o,h1.get? a=some o->h2.get? a=some o)->φ h2
def HOk (H:Hp)(h:Heap):Prop:=∀ a o,H a=some o->G7 P w H h a o
end
section
variable {H H':Hp} {o:HO}
theorem G7.lt (x:G7 P w H h a o):a<h.objs.size:=by
 cases o with
 | lst xs=>obtain⟨_,_,_,_,e⟩:=x;exact d5 e
 | tup xs=>obtain⟨_,_,_,p⟩:=x;exact p.lt
 | dK kvs=>obtain⟨_,_,_,_,o,_,_,e,_⟩:=x;exact d5 e
 | dT kvs=>obtain⟨_,_,_,_,o,_,_,e,_⟩:=x;exact d5 e
 | set S n=>obtain⟨o,_,_,_,e,_⟩:=x;exact d5 e
 | ins C dx fs=>obtain⟨_,_,_,e,_⟩:=x;exact d5 e
 | own y=>obtain⟨_,e⟩:=x;exact d5 e
 | xd fs=>obtain⟨_,⟨_,_,_,e,_⟩,_⟩:=x;exact d5 e
 | rng lo hi=>obtain⟨_,_,_,e⟩:=x;exact d5 e
 | frz ob u=>obtain⟨e,_⟩:=x;exact d5 e
 | tbl ps=>exact d5 (show h.get? a=some _ from x)
 | met f y=>exact d5 (show h.get? a=some _ from x)
 | ext φ=>obtain⟨_,⟨_,e⟩,_⟩:=x;exact d5 e
theorem Paired.mapP {α β:Type}{F G:α->β->Prop}:∀ {l₁:List α} {l₂:List β},ae7 F l₁ l₂->(∀ a b,F a b->G a b)->ae7 G l₁ l₂
 | _,_,.nil,_=>.nil
 | _,_,.cons r t,f=>.cons (f _ _ r) (Paired.mapP t f)
theorem G7.stay (x:G7 P w H h a o)(k:∀ b u,(b=a\/H b=some (.own a))->h.get? b=some u->h'.get? b=some u)
  (ho:∀ b,H b=some (.own a)->H' b=some (.own a))(ht:∀ b xs,H b=some (.tup xs)->H' b=some (.tup xs)):G7 P w H' h' a o:=by
 induction o with
 | lst xs=>obtain⟨z,its,n,r,e⟩:=x;exact⟨z,its,n,r,k _ _ (.inl rfl) e⟩
 | tup xs=>obtain⟨z,its,r,ob,e,c⟩:=x;exact⟨z,its,r,ob,k _ _ (.inl rfl) e,c⟩
 | dK kvs=>obtain⟨z,y,vs,r,ob,es,ep,e,c⟩:=x;exact⟨z,y,vs,r,ob,es,ep,k _ _ (.inl rfl) e,c⟩
 | dT kvs =>
  obtain⟨z,y,xs,r,ob,es,ep,e,c⟩:=x
  exact⟨z,y,xs,Paired.mapP r fun p q z=>⟨z.1,ht _ _ z.2.1,z.2.2⟩,ob,es,ep,k _ _ (.inl rfl) e,c⟩
 | set S n=>obtain⟨ob,es,ep,t,e,c⟩:=x;exact⟨ob,es,ep,t,k _ _ (.inl rfl) e,c⟩
 | ins C dx fs =>
  obtain⟨d,z,ne,e,mA,⟨od,es,ep,e2,c⟩,r⟩:=x
  exact⟨ho _ d,z,ne,k _ _ (.inl rfl) e,mA,⟨od,es,ep,k _ _ (.inr d) e2,c⟩,r⟩
 | own y=>obtain⟨ob,e⟩:=x;exact⟨ob,k _ _ (.inl rfl) e⟩
 | xd fs=>obtain⟨mA,⟨od,es,ep,e,c⟩,r⟩:=x;exact⟨mA,⟨od,es,ep,k _ _ (.inl rfl) e,c⟩,r⟩
 | rng lo hi=>obtain⟨t,u,v,e⟩:=x;exact⟨t,u,v,k _ _ (.inl rfl) e⟩
 | frz ob u ih=>obtain⟨e,q⟩:=x;exact⟨k _ _ (.inl rfl) e,ih q⟩
 | tbl ps =>
  have e:h.get? a=some { cls:=.none,data:=.fields ps }:=x
  show h'.get? a=some { cls:=.none,data:=.fields ps }
  exact k a _ (.inl rfl) e
 | met f y =>
  have e:h.get? a=some (PySem.W.methodObj (.ref f) (.ref y)):=x
  show h'.get? a=some (PySem.W.methodObj (.ref f) (.ref y))
  exact k a _ (.inl rfl) e
 | ext φ=>obtain⟨p,⟨o,e⟩,st⟩:=x;exact⟨st _ _ p fun o q=>k _ _ (.inl rfl) q,⟨o,k _ _ (.inl rfl) e⟩,st⟩
theorem HOk.lt (x:HOk P w H h)(e:H a=some o):a<h.objs.size:=(x a o e).lt
theorem HOk.fresh (x:HOk P w H h)(e:h.objs.size<=a):H a=none:=by
 cases q:H a with
 | none=>rfl
 | some u=>exact absurd (p9 (x.lt q) e) (B2 _)
theorem HOk.kept (x:HOk P w H h)(k:∀ b u,h.get? b=some u->h'.get? b=some u):HOk P w H h':=fun a o e =>
 (x a o e).stay (fun b u _ q=>k b u q) (fun _ q=>q) fun _ _ q=>q
theorem HOk.laid (x:HOk P w H h)(k:∀ b u,h.get? b=some u->h'.get? b=some u)(hp:h.objs.size<=a)(new:G7 P w (upd H a o) h' a o):HOk P w (upd H a o) h':=fun b u e=>by
 have hn:=x.fresh hp
 by_cases hb:b=a
 ·subst hb;rw[c6]at e;cases e;exact new
 ·rw[t4 hb]at e
  exact(x b u e).stay (fun c v _ q=>k c v q) (fun c q=>by rw[t4 (r6 q hn)];exact q) fun c xs q=>by rw[t4 (r6 q hn)];exact q
end
def Rd (H:Hp)(a:Addr)(u:HO):Prop:=H a=some u\/∃ o,H a=some (.frz o u)
theorem Rd.ok {H:Hp}{u:HO}(r:Rd H a u)(x:HOk P w H h):G7 P w H h a u:=by
 rcases r with r | ⟨o,r⟩
 ·exact x a u r
 ·obtain⟨_,q⟩:=x a _ r
  exact q
def Mut:Option HO->Prop
 | some (.lst _)=>True
 | some (.dK _)=>True
 | some (.dT _)=>True
 | some (.set _ _)=>True
 | some (.ins _ _ _)=>True
 | some (.ext _)=>True
 | _=>False
section
variable {H:Hp} {x e:Addr} {o':HO}
theorem HOk.write (ok:HOk P w H h)(mu:Mut (H x))(he:e=x\/H e=some (.own x))(k:∀ b u,b≠e->h.get? b=some u->h'.get? b=some u)(heo:∃ u,h'.get? e=some u)
  (new:G7 P w (upd H x o') h' x o'):HOk P w (upd H x o') h':=fun b u q=>by
 have nown:∀ c y,H c=some (.own y)->c≠x:=fun c y r z=>by subst z;rw[r]at mu;exact mu
 have ntup:∀ c xs,H c=some (.tup xs)->c≠x:=fun c xs r z=>by subst z;rw[r]at mu;exact mu
 by_cases hb:b=x
 ·subst hb;rw[c6]at q;cases q;exact new
 ·rw[t4 hb]at q
  by_cases hbe:b=e
  ·have q':H b=some (.own x):=by
    rcases he with z | z
    ·exact absurd (hbe.trans z) hb
    ·rw[hbe];exact z
   rw[q]at q';cases q'
   obtain⟨v,hv⟩:=heo
   exact⟨v,by rw[hbe];exact hv⟩
  ·refine(ok b u q).stay (fun c v hc r=>k c v ?_ r) (fun c r=>by rw[t4 (nown c b r)];exact r) fun c xs r=>by rw[t4 (ntup c xs r)];exact r
   rcases hc with rfl | hc
   ·exact hbe
   ·rintro rfl
    rcases he with z | z
    ·exact nown c b hc z
    ·rw[hc]at z;cases z;exact hb rfl
end
structure Un (fs ex:List Addr) (H H':Hp) (h h':Heap):Prop where
 keep:∀ b o,h.get? b=some o->H b=none->b∉fs->b∉ex->h'.get? b=some o
 slot:∀ b o,h.get? b=some o->H b=none->b∈fs->b∉ex->∃ sl,h'.get? b=some { o with slots:=sl }
 free:∀ b o,h.get? b=some o->H b=none->b∉ex->H' b=none
 there:∀ b o,h.get? b=some o->b∉ex->∃ o',h'.get? b=some o'
 tups:∀ b xs,H b=some (.tup xs)->H' b=some (.tup xs)
 frzs:∀ b o u,H b=some (.frz o u)->H' b=some (.frz o u)
 tbls:∀ b ps,H b=some (.tbl ps)->∃ more,H' b=some (.tbl (ps++more))
section
variable {fs fs' ex ex':List Addr} {H H1 H2:Hp} {h1 h2:Heap} {x e:Addr} {o:HO}
theorem Un.any (u:Un fs ex H H1 h h1){ob:Obj}(q:h.get? b=some ob)(n:H b=none)(hx:b∉ex):∃ sl,h1.get? b=some { ob with slots:=sl }:=by
 by_cases hb:b∈fs
 ·exact u.slot b ob q n hb hx
 ·exact⟨ob.slots,u.keep b ob q n hb hx⟩
theorem Un.kept (k:∀ b u,h.get? b=some u->h'.get? b=some u):Un fs ex H H h h':=
 ⟨fun b ob q _ _ _=>k b ob q,fun b ob q _ _ _=>⟨ob.slots,k b ob q⟩,fun _ _ _ n _=>n,fun b ob q _=>⟨ob,k b ob q⟩,fun _ _ q=>q,fun _ _ _ q=>q,fun _ ps q=>⟨#[],by rw[q];simp⟩⟩
theorem Un.refl:Un fs ex H H h h:=Un.kept fun _ _ q=>q
theorem Un.laid (k:∀ b u,h.get? b=some u->h'.get? b=some u)(hp:h.objs.size<=a)(hn:H a=none):Un fs ex H (upd H a o) h h' where
 keep:=fun b u q _ _ _=>k b u q
 slot:=fun b u q _ _ _=>⟨u.slots,k b u q⟩
 free:=fun b u q n _=>by rw[t4 (k9 (p9 (d5 q) hp))];exact n
 there:=fun b u q _=>⟨u,k b u q⟩
 tups:=fun b xs q=>by rw[t4 (r6 q hn)];exact q
 frzs:=fun b u xs q=>by rw[t4 (r6 q hn)];exact q
 tbls:=fun b ps q=>⟨#[],by rw[t4 (r6 q hn),q];simp⟩
theorem Un.write (mu:Mut (H x))(he:e=x\/H e=some (.own x))(k:∀ b u,b≠e->h.get? b=some u->h'.get? b=some u)(heo:∃ u,h'.get? e=some u):Un fs ex H (upd H x o) h h':=by
 have hx:∀ b,H b=none->b≠x:=fun b n z=>by subst z;rw[n]at mu;exact mu
 have hb:∀ b,H b=none->b≠e:=fun b n z=>by
  subst z
  rcases he with r | r
  ·exact hx b n r
  ·rw[n]at r;cases r
 have hm:∀ b u,H b=some u->¬ Mut (some u)->b≠x:=fun b u q nm z=>by subst z;rw[q]at mu;exact nm mu
 refine⟨fun b u q n _ _=>k b u (hb b n) q,fun b u q n _ _=>⟨u.slots,k b u (hb b n) q⟩,fun b u q n _=>by rw[t4 (hx b n)];exact n,fun b u q _=>?_,
  fun b xs q=>by rw[t4 (hm b _ q fun z=>z)];exact q,fun b u xs q=>by rw[t4 (hm b _ q fun z=>z)];exact q,fun b ps q=>⟨#[],by rw[t4 (hm b _ q fun z=>z),q];simp⟩⟩
 by_cases hbe:b=e
 ·subst hbe;exact heo
 ·exact⟨u,k b u hbe q⟩
end
def trk (h:Heap)(H:Hp):List Addr:=(p5 h.objs.size).filter fun a=>(H a).isSome
def aK6 (h:Heap)(H:Hp):Heap:=PySem.W.hideAll h (trk h H)
theorem bu5 (h:Heap)(H:Hp):(aK6 h H).objs.size=h.objs.size:=PySem.W.hideAll_size _ _
theorem bF7 {H:Hp}(e:h.get? b=some o)(n:H b=none):(aK6 h H).get? b=some o:=
 PySem.W.hideAll_get _ e fun hm=>by
  have q:(H b).isSome=true:=(F1.mp hm).2
  rw[n]at q;simp at q
theorem bQ2 {H:Hp}(e:(aK6 h H).get? b=some o):h.get? b=some o/\H b=none:=by
 have e':h.get? b=some o:=PySem.W.of_hideAll (trk h H) e
 refine⟨e',?_⟩
 cases q:H b with
 | none=>rfl
 | some x =>
  have hm:b∈trk h H:=F1.mpr ⟨v8.mpr (d5 e'),by simp[q]⟩
  have z:(aK6 h H).get? b=none:=PySem.W.hideAll_none (trk h H) hm
  rw[z]at e;cases e
def bT5 (g h:Heap)(L:Addr):List (Addr × Obj):=(p5 h.objs.size).filterMap fun a=>if a=L\/(g.get? a).isSome=true then none else (h.get? a).map fun o=>(a,o)
def rest (g h:Heap)(L d:Addr):List (Addr × Obj):=(bT5 g h L).filter fun p=>decide (p.1≠d)
end L2
variable {H H':L2.Hp}{Qd:L2.Hp->Prop}{gV:List L2.V->List L2.V->List L2.V}{kvs:List (List L2.Key × L2.V)}{xs ys:List L2.V}
namespace L2
open PySem PySem.Spec PyProof.Rows
structure Mod (K:W.Frag) (mg:Str->Option Value) (base:Heap):Prop where
 kin:K.In base
 glob:base.Ns j5 mg
 blt:∃ mb,base.Ns aU4 mb/\∀ x:Str,x≠"__name__"->mb x=L6 x
 nolimit:base.NoLimit
structure Cx where
 prog:Program
 w:World
 K:W.Frag
 mg:Str->Option Value
 base:Heap
 A:Around
 N:List Str
 s₀:Shared
 H₀:Hp
 env:Env
 outer:List Env
 stack:List Env
 ex:List Addr
 fn:Str->Bool
 calm:Bool
 pn:List (Addr × Obj)
 xe:Value->Shared->Prop
def frs (l:List Env):List Addr:=l.filterMap (·.frame)
abbrev Cx.fs (X:Cx):List Addr:=frs X.outer
def Vis (sc:Scope)(x:Str):Prop:=sc.names.lookup x=some .local\/sc.names.lookup x=some .cell\/sc.names.lookup x=some .free
def Loc (sc:Scope)(x:Str):Prop:=sc.names.lookup x=some .local\/sc.names.lookup x=some .cell
def Look (env:Env)(h:Heap)(m:Str->Option Value)(x:Str)(u:Value):Prop:=
 (env.kindOf x=some .local/\m x=some u)\/((env.kindOf x=some .cell\/env.kindOf x=some .free)/\∃ c,env.cells.lookup x=some c/\h.IsCell c (some u))
structure Cx.Ok (X:Cx):Prop where
 mod:Mod X.K X.mg X.base
 kind:X.env.scope.kind=.function
 glob:X.env.globals=j5
 blt:X.env.builtins=aU4
 above:X.s₀.heap.objs.size<=X.env.locals
 inj:∀ x y c,X.env.cells.lookup x=some c->X.env.cells.lookup y=some c->x=y
 has:∀ x,(X.env.kindOf x=some .cell\/X.env.kindOf x=some .free)->∃ c,X.env.cells.lookup x=some c
 cab:∀ x c,X.fn x=true->X.env.cells.lookup x=some c->X.s₀.heap.objs.size<=c
 hd:X.calm=true->X.A.handled=none
 frames:X.A.frames=some X.stack
 stk:X.stack=X.outer\/(X.stack=X.env::X.outer/\X.env.frame=some X.env.locals)
 exf:∀ b∈X.ex,b≠X.env.locals/\∀ x c,X.env.cells.lookup x=some c->c≠b
 bs:∀ b o,X.base.get? b=some o->X.s₀.heap.get? b=some o/\X.H₀ b=none
 bsz:X.base.objs.size<=X.s₀.heap.objs.size
 noex:∀ b o,X.base.get? b=some o->b∉X.ex
 exfs:∀ b∈X.ex,b∉X.fs
 funs:X.s₀.heap.FunFrames X.base X.outer
 frf:∀ b∈X.fs,X.H₀ b=none
structure Inv (X:Cx) (pins:List (Addr × Obj)) (σ:List (Option V)) (H:Hp) (s:Shared):Prop where
 ok:X.Ok
 os:s.os=X.s₀.os
 bare:aA5 s.gens
 base:Un X.fs X.ex X.H₀ H X.s₀.heap s.heap
 loc:∃ m,s.heap.Ns X.env.locals m/\∀ (i:Nat) (x:Str) (v:V),X.N[i]?=some x->σ[i]?=some (some v)->Vis X.env.scope x->∃ u,RelV v u/\Look X.env s.heap m x u
 cell:∀ x c,X.env.cells.lookup x=some c->∃ v,s.heap.IsCell c v
 free:H X.env.locals=none
 freeC:∀ x c,X.env.cells.lookup x=some c->H c=none
 pin:∀ p∈X.pn++pins,s.heap.get? p.1=some p.2/\H p.1=none/\p.1≠X.env.locals/\p.1∉X.fs/\∀ v,p.2.data≠.cell v
 hok:HOk X.prog X.w H s.heap
 len:σ.length=X.N.length
section
variable {X:Cx} {σ:List (Option V)}
theorem Cx.Ok.nofr (ok:X.Ok)(e:X.base.get? b=some o):b∉X.fs:=fun hb=>by
 have:=(ok.funs.mem hb).1
 rw[e]at this;cases this
theorem Inv.bs (I:Inv X pins σ H s):∀ b o,X.base.get? b=some o->s.heap.get? b=some o/\H b=none:=fun b o e =>
 ⟨I.base.keep b o (I.ok.bs b o e).1 (I.ok.bs b o e).2 (I.ok.nofr e) (I.ok.noex b o e),I.base.free b o (I.ok.bs b o e).1 (I.ok.bs b o e).2 (I.ok.noex b o e)⟩
theorem Inv.bk (I:Inv X pins σ H s):∀ b o,X.base.get? b=some o->s.heap.get? b=some o:=fun b o e=>(I.bs b o e).1
theorem Inv.mod (I:Inv X pins σ H s):Mod X.K X.mg X.base:=I.ok.mod
theorem Inv.kIn (I:Inv X pins σ H s):X.K.In s.heap:=I.ok.mod.kin.keeps I.bk
theorem Inv.nolimit (I:Inv X pins σ H s):s.heap.NoLimit:=I.ok.mod.nolimit.keeps I.bk
theorem Inv.lt (I:Inv X pins σ H s):X.env.locals<s.heap.objs.size:=let ⟨_,hn,_⟩:=I.loc;hn.lt
theorem Inv.sz (I:Inv X pins σ H s):X.s₀.heap.objs.size<=s.heap.objs.size:=x9 I.ok.above (av9 I.lt)
theorem Inv.nofs (I:Inv X pins σ H s)(h:s.heap.objs.size<=a):a∉X.fs:=fun hb=>by
 obtain⟨_,o,ho,_⟩:=I.ok.funs.mem hb
 exact absurd (p9 (d5 ho) (x9 I.sz h)) (B2 _)
theorem Inv.cne (I:Inv X pins σ H s):∀ x c,X.env.cells.lookup x=some c->c≠X.env.locals:=fun x c e z=>by
 obtain⟨v,o,ho,hd⟩:=I.cell x c e
 obtain⟨m,⟨o',es,ep,ho',hd',_⟩,_⟩:=I.loc
 rw[z,ho']at ho;cases ho;rw[hd']at hd;cases hd
theorem Inv.funs (I:Inv X pins σ H s):s.heap.FunFrames X.base X.outer:=by
 have all:∀ (l:List Env),(∀ b∈frs l,b∈X.fs)->X.s₀.heap.FunFrames X.base l->s.heap.FunFrames X.base l:=by
  intro l
  induction l with
  | nil=>intro _ _;trivial
  | cons env r ih =>
   intro hs hl
   obtain⟨hk,⟨L,o,hf,hn,ho,hd⟩,hr⟩:=hl
   have hL:L∈X.fs:=hs L (by unfold frs;rw[X2,hf];exact f9)
   obtain⟨sl,e⟩:=I.base.slot L o ho (I.ok.frf L hL) hL fun z=>I.ok.exfs L z hL
   exact⟨hk,⟨L,_,hf,hn,e,hd⟩,ih (fun b hb=>hs b (by unfold frs;rw[X2,hf];exact d6 _ hb)) hr⟩
 exact all X.outer (fun _ hb=>hb) I.ok.funs
theorem Inv.stack (I:Inv X pins σ H s):s.heap.FunFrames X.base X.stack:=by
 rcases I.ok.stk with e | ⟨e,hf⟩
 ·rw[e];exact I.funs
 ·rw[e]
  obtain⟨m,hn,_⟩:=I.loc
  refine .cons (by rw[I.ok.kind];decide) hf hn ?_ I.funs
  exact az3 (x9 I.ok.bsz I.ok.above)
theorem Inv.stkSub (I:Inv X pins σ H s):∀ b∈frs X.stack,b∈X.env.locals::X.fs:=fun b hb=>by
 rcases I.ok.stk with e | ⟨e,hf⟩
 ·rw[e]at hb;exact d6 _ hb
 ·rw[e]at hb
  unfold frs at hb
  rw[X2,hf]at hb
  exact hb
theorem Inv.stkFree (I:Inv X pins σ H s):∀ b∈frs X.stack,H b=none:=fun b hb=>by
 rcases d7.mp (I.stkSub b hb) with e | hb
 ·rw[e];exact I.free
 ·obtain⟨_,o,ho,_⟩:=I.ok.funs.mem hb
  exact I.base.free b o ho (I.ok.frf b hb) fun z=>I.ok.exfs b z hb
theorem Inv.step {g':Array bK6}{d':Drawn}{ch:List Addr}(I:Inv X pins σ H s)
  (hch:∀ b∈ch,(b∈X.ex\/X.s₀.heap.objs.size<=b)/\b≠X.env.locals/\(∀ x c,X.env.cells.lookup x=some c->c≠b)/\∀ p∈X.pn++pins,p.1≠b)
  (keep:∀ b o,b≠X.env.locals->b∉X.fs->b∉ch->s.heap.get? b=some o->H b=none->h'.get? b=some o)
  (slot:∀ b o,b≠X.env.locals->b∈X.fs->b∉ch->s.heap.get? b=some o->H b=none->∃ sl,h'.get? b=some { o with slots:=sl })(free:∀ b o,b∉ch->s.heap.get? b=some o->H b=none->H' b=none)
  (there:∀ b o,b∉ch->s.heap.get? b=some o->∃ o',h'.get? b=some o')
  (tups:∀ b xs,H b=some (.tup xs)->H' b=some (.tup xs))(frzs:∀ b o u,H b=some (.frz o u)->H' b=some (.frz o u))(tbls:∀ b ps,H b=some (.tbl ps)->∃ more,H' b=some (.tbl (ps++more)))
  (ns:∀ m,s.heap.Ns X.env.locals m->h'.Ns X.env.locals m)(hok:HOk X.prog X.w H' h')(hg:aA5 g') :
  Inv X pins σ H' { s with heap:=h',gens:=g',drawn:=d',toks:=t' }:=by
 have neL:∀ b o,X.s₀.heap.get? b=some o->b≠X.env.locals:=fun b o e=>k9 (p9 (d5 e) I.ok.above)
 have neC:∀ b o,X.s₀.heap.get? b=some o->b∉X.ex->b∉ch:=fun b o e hx hb=>by
  rcases(hch b hb).1 with z | z
  ·exact hx z
  ·exact absurd (p9 (d5 e) z) (B2 _)
 have cellK:∀ x c,X.env.cells.lookup x=some c->∀ v,s.heap.IsCell c v->h'.IsCell c v:=fun x c e v ⟨o,ho,hd⟩=>by
  have nch:c∉ch:=fun z=>(hch c z).2.2.1 x c e rfl
  by_cases hc:c∈X.fs
  ·obtain⟨sl,q⟩:=slot c o (I.cne x c e) hc nch ho (I.freeC x c e)
   exact⟨_,q,hd⟩
  ·exact⟨o,keep c o (I.cne x c e) hc nch ho (I.freeC x c e),hd⟩
 refine⟨I.ok,I.os,hg,⟨fun b o e n hb hx=>?_,fun b o e n hb hx=>?_,fun b o e n hx=>?_,fun b o e hx=>?_,fun b xs e=>tups b xs (I.base.tups b xs e),fun b o xs e=>frzs b o xs (I.base.frzs b o xs e),fun b ps e=>?_⟩,?_,fun x c e=>?_,?_,fun x c e=>?_,fun p hp=>?_,hok,I.len⟩
 ·exact keep b o (neL b o e) hb (neC b o e hx) (I.base.keep b o e n hb hx) (I.base.free b o e n hx)
 ·obtain⟨sl,e1⟩:=I.base.slot b o e n hb hx
  obtain⟨sl',e2⟩:=slot b _ (neL b o e) hb (neC b o e hx) e1 (I.base.free b o e n hx)
  exact⟨sl',e2⟩
 ·obtain⟨o',e1⟩:=I.base.there b o e hx
  exact free b o' (neC b o e hx) e1 (I.base.free b o e n hx)
 ·obtain⟨o',e1⟩:=I.base.there b o e hx
  exact there b o' (neC b o e hx) e1
 ·obtain⟨m1,e1⟩:=I.base.tbls b ps e
  obtain⟨m2,e2⟩:=tbls b _ e1
  exact⟨m1++m2,by rw[e2,bU0]⟩
 ·obtain⟨m,hn,hl⟩:=I.loc
  refine⟨m,ns m hn,fun i x v e1 e2 e3=>?_⟩
  obtain⟨u,r,l⟩:=hl i x v e1 e2 e3
  refine⟨u,r,?_⟩
  rcases l with l | ⟨k,c,e,z⟩
  ·exact .inl l
  ·exact .inr ⟨k,c,e,cellK x c e _ z⟩
 ·obtain⟨v,z⟩:=I.cell x c e
  exact⟨v,cellK x c e v z⟩
 ·obtain⟨m,⟨o,_,_,ho,_⟩,_⟩:=I.loc
  exact free _ o (fun z=>(hch _ z).2.1 rfl) ho I.free
 ·obtain⟨v,o,ho,hd⟩:=I.cell x c e
  exact free c o (fun z=>(hch c z).2.2.1 x c e rfl) ho (I.freeC x c e)
 ·obtain⟨e,n,ne,nf,d⟩:=I.pin p hp
  have nch:p.1∉ch:=fun z=>(hch p.1 z).2.2.2 p hp rfl
  exact⟨keep p.1 p.2 ne nf nch e n,free p.1 p.2 nch e n,ne,nf,d⟩
theorem Inv.un (I:Inv X pins σ H s)(u:Un X.fs [] H H' s.heap h')(hok:HOk X.prog X.w H' h'):Inv X pins σ H' { s with heap:=h',toks:=t' }:=by
 obtain⟨m,⟨o,es,ep,ho,r⟩,_⟩:=id I.loc
 obtain⟨sl,hL⟩:=u.any ho I.free (by simp)
 exact I.step (g':=s.gens) (d':=s.drawn) (ch:=[]) (fun _ z=>nomatch z) (fun b o _ hb _ e n=>u.keep b o e n hb (by simp)) (fun b o _ hb _ e n=>u.slot b o e n hb (by simp)) (fun b o _ e n=>u.free b o e n (by simp)) (fun b o _ e=>u.there b o e (by simp)) u.tups u.frzs u.tbls (fun m' hm=>by
  obtain⟨o',es',ep',ho',r'⟩:=hm
  rw[ho]at ho';cases ho'
  exact⟨_,es',ep',hL,r'⟩) hok I.bare
theorem Inv.call {g':Array bK6}{d':Drawn}{ch:List Addr}(I:Inv X pins σ H s)(u:Un (frs X.stack) ch H H' s.heap h')(hok:HOk X.prog X.w H' h')(hg:aA5 g')
  (hch:∀ b∈ch,(b∈X.ex\/X.s₀.heap.objs.size<=b)/\b≠X.env.locals/\(∀ x c,X.env.cells.lookup x=some c->c≠b)/\∀ p∈X.pn++pins,p.1≠b) :
  Inv X pins σ H' { s with heap:=h',gens:=g',drawn:=d',toks:=t' }:=by
 obtain⟨m,⟨o,es,ep,ho,r⟩,_⟩:=id I.loc
 obtain⟨sl,hL⟩:=u.any ho I.free fun z=>(hch _ z).2.1 rfl
 exact I.step (ch:=ch) hch (fun b o hL hb hc e n=>u.keep b o e n (fun z=>(d7.mp (I.stkSub b z)).elim hL hb) hc) (fun b o _ _ hc e n=>u.any e n hc) (fun b o hc e n=>u.free b o e n hc) (fun b o hc e=>u.there b o e hc) u.tups u.frzs u.tbls (fun m' hm=>by
  obtain⟨o',es',ep',ho',r'⟩:=hm
  rw[ho]at ho';cases ho'
  exact⟨_,es',ep',hL,r'⟩) hok hg
theorem Inv.turned {it:Addr}(I:Inv X pins σ H s)(k:∀ b o,b≠it->s.heap.get? b=some o->h'.get? b=some o)(hn:H it=none)(hL:it≠X.env.locals)
  (h1:it∈X.ex\/X.s₀.heap.objs.size<=it)(h2:∀ x c,X.env.cells.lookup x=some c->c≠it)(h3:∀ p∈X.pn++pins,p.1≠it):Inv X pins σ H { s with heap:=h',toks:=t' }:=by
 have nit:∀ b u,H b=some u->b≠it:=fun b u e z=>by rw[z,hn]at e;cases e
 refine I.step (g':=s.gens) (d':=s.drawn) (ch:=[it]) (fun b hb=>?_) (fun b o _ _ hc e _=>k b o (fun z=>hc (by simp[z])) e) (fun b o _ _ hc e _=>⟨o.slots,k b o (fun z=>hc (by simp[z])) e⟩) (fun _ _ _ _ n=>n)
  (fun b o hc e=>⟨o,k b o (fun z=>hc (by simp[z])) e⟩) (fun _ _ e=>e) (fun _ _ _ e=>e) (fun b ps e=>⟨#[],by rw[e];simp⟩) (fun m hm=>?_) (fun b u e=>?_) I.bare
 ·have e:b=it:=by simpa using hb
  subst e
  exact⟨h1,hL,h2,h3⟩
 ·obtain⟨o,es,ep,ho,r⟩:=hm
  exact⟨o,es,ep,k _ o (Ne.symm hL) ho,r⟩
 ·refine(I.hok b u e).stay (fun c v hc q=>k c v ?_ q) (fun _ q=>q) fun _ _ q=>q
  rcases hc with z | z
  ·rw[z];exact nit b u e
  ·exact nit c _ z
theorem Inv.tok (I:Inv X pins σ H s)(t:Nat):Inv X pins σ H { s with toks:=t }:=I.un (h':=s.heap) (t':=t) Un.refl I.hok
theorem Inv.kept (I:Inv X pins σ H s)(k:∀ b u,s.heap.get? b=some u->h'.get? b=some u):Inv X pins σ H { s with heap:=h',toks:=t' }:=I.un (Un.kept k) (I.hok.kept k)
theorem Inv.laid {o:HO}(I:Inv X pins σ H s)(k:∀ b u,s.heap.get? b=some u->h'.get? b=some u)(hp:s.heap.objs.size<=a)(new:G7 X.prog X.w (upd H a o) h' a o) :
  Inv X pins σ (upd H a o) { s with heap:=h',toks:=t' }:=I.un (Un.laid k hp (I.hok.fresh hp)) (I.hok.laid k hp new)
theorem Inv.write {x e:Addr}{o:HO}(I:Inv X pins σ H s)(mu:Mut (H x))(he:e=x\/H e=some (.own x))(k:∀ b u,b≠e->s.heap.get? b=some u->h'.get? b=some u)(heo:∃ u,h'.get? e=some u)
  (new:G7 X.prog X.w (upd H x o) h' x o):Inv X pins σ (upd H x o) { s with heap:=h',toks:=t' }:=I.un (Un.write mu he k heo) (I.hok.write mu he k heo new)
theorem Inv.pins_of {pins':List (Addr × Obj)}(I:Inv X pins σ H s)(h:∀ p∈pins',s.heap.get? p.1=some p.2/\H p.1=none/\p.1≠X.env.locals/\p.1∉X.fs/\∀ v,p.2.data≠.cell v):Inv X pins' σ H s:=
 ⟨I.ok,I.os,I.bare,I.base,I.loc,I.cell,I.free,I.freeC,fun p hp=>(u6.mp hp).elim (fun z=>I.pin p (G3 _ z)) (h p),I.hok,I.len⟩
theorem aZ5 (hN:N.Nodup)(a:N[i]?=some x)(b:N[j]?=some x):i=j:=by
 obtain⟨h1,e1⟩:=d9.mp a
 obtain⟨h2,e2⟩:=d9.mp b
 exact(List.getElem_inj hN).mp (e1.trans e2.symm)
theorem aL4 {v:V}{Q:Unit->Shared->Prop}(I:Inv X pins σ H s)(hN:X.N.Nodup)(hi:X.N[i]?=some x)(hx:Loc X.env.scope x)(r:RelV v u)
  (h:∀ s',Inv X pins (σ.set i (some v)) H s'->(∃ a,Heap.SameBut a s.heap s'.heap/\(a=X.env.locals\/X.env.cells.lookup x=some a))->Q () s')(hf:X.fn x=true\/X.env.scope.names.lookup x=some .local:=by first | exact .inl rfl | exact .inr rfl | assumption):p8 M A (storeName X.env x u) Q E s:=by
 obtain⟨m,hn,hl⟩:=id I.loc
 have hcls:(X.env.scope.kind == .class || (X.env.scope.kind == .module && X.env.locals != X.env.globals))=false:=by rw[I.ok.kind];rfl
 have hiσ:i<σ.length:=by rw[I.len];exact(d9.mp hi).1
 have cne:=I.cne
 have tracked:∀ {a:Addr} {h':Heap},(∃ o,s.heap.get? a=some o/\H a=none)->Heap.SameBut a s.heap h'->HOk X.prog X.w H h':=fun {a h'} ha hs b ob e=>by
  obtain⟨_,_,hfree⟩:=ha
  refine(I.hok b ob e).stay (fun c w' hc q=>(hs.2 c ?_).trans q) (fun _ q=>q) fun _ _ q=>q
  rintro rfl
  rcases hc with rfl | hc
  ·rw[hfree]at e;cases e
  ·rw[hfree]at hc;cases hc
 rcases hx with hk | hk
 ·refine wpAny_storeName_local hk hn (fun h' hn' hs=>?_) hcls
  obtain⟨oL,_,_,hoL,_⟩:=id hn
  refine h _ ⟨I.ok,I.os,I.bare,⟨fun b o e n hb hx=>?_,fun b o e n hb hx=>?_,I.base.free,fun b o e hx=>?_,I.base.tups,I.base.frzs,I.base.tbls⟩,⟨_,hn',fun j y v' e1 e2 e3=>?_⟩,fun y c e=>?_,I.free,I.freeC,fun p hp=>?_,tracked ⟨oL,hoL,I.free⟩ hs,by simpa using I.len⟩ ⟨_,hs,.inl rfl⟩
  ·exact(hs.2 b (k9 (p9 (d5 e) I.ok.above))).trans (I.base.keep b o e n hb hx)
  ·obtain⟨sl,e1⟩:=I.base.slot b o e n hb hx
   exact⟨sl,(hs.2 b (k9 (p9 (d5 e) I.ok.above))).trans e1⟩
  ·obtain⟨o',e1⟩:=I.base.there b o e hx
   exact⟨o',(hs.2 b (k9 (p9 (d5 e) I.ok.above))).trans e1⟩
  ·by_cases hj:j=i
   ·subst hj
    rw[hi]at e1;cases e1
    rw[bw3 hiσ]at e2
    cases e2
    exact⟨u,r,.inl ⟨hk,by simp⟩⟩
   ·rw[ae5 (Ne.symm hj)]at e2
    obtain⟨u',r',q⟩:=hl j y v' e1 e2 e3
    refine⟨u',r',?_⟩
    rcases q with⟨k,e⟩ | ⟨k,c,e,z⟩
    ·refine .inl ⟨k,?_⟩
     have:y≠x:=fun e=>hj (aZ5 hN e1 (e ▸ hi))
     simp[this,e]
    ·exact .inr ⟨k,c,e,z.sameBut hs (cne y c e)⟩
  ·obtain⟨w',z⟩:=I.cell y c e
   exact⟨w',z.sameBut hs (cne y c e)⟩
  ·obtain⟨e,n,ne,nf,d⟩:=I.pin p hp
   exact⟨(hs.2 p.1 ne).trans e,n,ne,nf,d⟩
 ·have hfn:X.fn x=true:=by
   rcases hf with z | z
   ·exact z
   ·rw[z]at hk;cases hk
  obtain⟨c,hc⟩:=I.ok.has x (.inl hk)
  obtain⟨w',z⟩:=I.cell x c hc
  refine wpAny_storeName_cell I.ok.kind hk hc z (fun h' hc' hs=>?_)
  obtain⟨oc,hoc,hocd⟩:=id z
  refine h { s with heap:=h' } ⟨I.ok,I.os,I.bare,⟨fun b o e n hb hx=>?_,fun b o e n hb hx=>?_,I.base.free,fun b o e hx=>?_,I.base.tups,I.base.frzs,I.base.tbls⟩,⟨m,hn.sameBut hs (Ne.symm (cne x c hc)),fun j y v' e1 e2 e3=>?_⟩,fun y c' e=>?_,I.free,I.freeC,fun p hp=>?_,tracked ⟨oc,hoc,I.freeC x c hc⟩ hs,by simpa using I.len⟩ ⟨c,hs,.inr hc⟩
  ·exact(hs.2 b (k9 (p9 (d5 e) (I.ok.cab x c hfn hc)))).trans (I.base.keep b o e n hb hx)
  ·obtain⟨sl,e1⟩:=I.base.slot b o e n hb hx
   exact⟨sl,(hs.2 b (k9 (p9 (d5 e) (I.ok.cab x c hfn hc)))).trans e1⟩
  ·obtain⟨o',e1⟩:=I.base.there b o e hx
   exact⟨o',(hs.2 b (k9 (p9 (d5 e) (I.ok.cab x c hfn hc)))).trans e1⟩
  ·by_cases hj:j=i
   ·subst hj
    rw[hi]at e1;cases e1
    rw[bw3 hiσ]at e2
    cases e2
    exact⟨u,r,.inr ⟨.inl hk,c,hc,hc'⟩⟩
   ·rw[ae5 (Ne.symm hj)]at e2
    obtain⟨u',r',q⟩:=hl j y v' e1 e2 e3
    refine⟨u',r',?_⟩
    rcases q with q | ⟨k,c',e,z'⟩
    ·exact .inl q
    ·refine .inr ⟨k,c',e,z'.sameBut hs ?_⟩
     rintro rfl
     exact hj (aZ5 hN e1 (I.ok.inj _ _ _ e hc ▸ hi))
  ·by_cases hcc:c'=c
   ·subst hcc;exact⟨_,hc'⟩
   ·obtain⟨w2,z2⟩:=I.cell y c' e
    exact⟨w2,z2.sameBut hs hcc⟩
  ·obtain⟨e,n,ne,nf,d⟩:=I.pin p hp
   refine⟨(hs.2 p.1 ?_).trans e,n,ne,nf,d⟩
   intro q
   rw[q,hoc]at e
   have q':oc=p.2:=Option.some.inj e
   exact d w' (by rw[<- q'];exact hocd)
theorem aE0 {v:V}{Q:Unit->Shared->Prop}(I:Inv X pins σ H s)(hN:X.N.Nodup)(hi:X.N[i]?=some x)(hx:Loc X.env.scope x)(r:RelV v u)
  (h:∀ s',Inv X pins (σ.set i (some v)) H s'->Q () s')(hf:X.fn x=true\/X.env.scope.names.lookup x=some .local:=by first | exact .inl rfl | exact .inr rfl | assumption):p8 M A (storeName X.env x u) Q E s:=
 aL4 I hN hi hx r (fun s' I' _=>h s' I') hf
theorem Inv.call' {s':Shared}{ch:List Addr}(I:Inv X pins σ H s)(ho:s'.os=s.os)(u:Un (frs X.stack) ch H H' s.heap s'.heap)(hok:HOk X.prog X.w H' s'.heap)(hg:aA5 s'.gens)
  (hch:∀ b∈ch,(b∈X.ex\/X.s₀.heap.objs.size<=b)/\b≠X.env.locals/\(∀ x c,X.env.cells.lookup x=some c->c≠b)/\∀ p∈X.pn++pins,p.1≠b):Inv X pins σ H' s':=by
 obtain⟨h',g',d',t',o'⟩:=s'
 have e:o'=s.os:=ho
 subst e
 exact I.call (g':=g') (t':=t') (d':=d') u hok hg hch
end
abbrev XK:=Value->Option Addr->Hp->Prop
abbrev St:=List (Option V)
abbrev VK:=V->Hp->Prop
abbrev TE:=St->Hp->VK->Prop
abbrev TT:=St->Hp->(Bool->Hp->Prop)->Prop
abbrev TA:=St->Hp->(List V->Hp->Prop)->Prop
structure Ends where
 nx:St->Hp->Prop
 rt:VK
 bk:St->Hp->Prop:=fun _ _=>False
 ct:St->Hp->Prop:=fun _ _=>False
abbrev TS:=Ends->St->Hp->Prop
def EP (X:Cx)(pins:List (Addr × Obj))(σ:St)(Q:VK)(u:Value)(s':Shared):Prop:=∃ v H',Inv X pins σ H' s'/\RelV v u/\Q v H'
def TP (X:Cx)(pins:List (Addr × Obj))(σ:St)(Q:Bool->Hp->Prop)(b:Bool)(s':Shared):Prop:=∃ H',Inv X pins σ H' s'/\Q b H'
def AP (X:Cx)(pins:List (Addr × Obj))(σ:St)(Q:List V->Hp->Prop)(us:List Value)(s':Shared):Prop:=∃ vs H',Inv X pins σ H' s'/\C8 vs us/\Q vs H'
def SP (X:Cx)(pins:List (Addr × Obj))(D:Ends)(f:Flow)(s':Shared):Prop:=
 match f with
 | .next=>∃ σ' H',Inv X pins σ' H' s'/\D.nx σ' H'
 | .brk=>∃ σ' H',Inv X pins σ' H' s'/\D.bk σ' H'
 | .cont=>∃ σ' H',Inv X pins σ' H' s'/\D.ct σ' H'
 | .ret u=>∃ v σ' H',Inv X pins σ' H' s'/\RelV v u/\D.rt v H'
def PE (X:Cx)(e:Expr)(t:TE):Prop:=
 ∀ (pins:List (Addr × Obj)) (s:Shared) (σ:St) (H:Hp) (Q:VK),Inv X pins σ H s->t σ H Q->p8 (t9 X.prog X.w) X.A (eval e X.env) (EP X pins σ Q) X.xe s
def PT (X:Cx)(e:Expr)(t:TT):Prop:=
 ∀ (pins:List (Addr × Obj)) (s:Shared) (σ:St) (H:Hp) (Q:Bool->Hp->Prop),Inv X pins σ H s->t σ H Q->p8 (t9 X.prog X.w) X.A (isTrue e X.env (eval e X.env)) (TP X pins σ Q) X.xe s
def PW (X:Cx)(e:Expr)(t:TT):Prop:=
 ∀ (whole:Sem Value) (pins:List (Addr × Obj)) (s:Shared) (σ:St) (H:Hp) (Q:Bool->Hp->Prop),Inv X pins σ H s->t σ H Q->p8 (t9 X.prog X.w) X.A (isTrue e X.env whole) (TP X pins σ Q) X.xe s
theorem PW.pt {X:Cx}{t:TT}(h:PW X e t):PT X e t:=h _
def PA (X:Cx)(es:List Expr)(t:TA):Prop:=
 ∀ (pos:Pos) (pins:List (Addr × Obj)) (s:Shared) (σ:St) (H:Hp) (Q:List V->Hp->Prop),Inv X pins σ H s->t σ H Q->p8 (t9 X.prog X.w) X.A (spliced (V0 pos (v9 es X.env))) (AP X pins σ Q) X.xe s
def PS (X:Cx)(st:Stmt)(t:TS):Prop:=
 ∀ (pins:List (Addr × Obj)) (s:Shared) (σ:St) (H:Hp) (D:Ends),Inv X pins σ H s->t D σ H->p8 (t9 X.prog X.w) X.A (exec st X.env) (SP X pins D) X.xe s
def PSs (X:Cx)(st:List Stmt)(t:TS):Prop:=
 ∀ (pins:List (Addr × Obj)) (s:Shared) (σ:St) (H:Hp) (D:Ends),Inv X pins σ H s->t D σ H->p8 (t9 X.prog X.w) X.A (execs st X.env) (SP X pins D) X.xe s
theorem thn {α:Type}{t:Sem α}{Q Q':α->Shared->Prop}(h:p8 M A t Q E s)(hQ:∀ a s,Q a s->Q' a s):p8 M A t Q' E s:=E3 h hQ fun _ _ x=>x
end L2
variable {X:L2.Cx}{r:L2.V->List L2.V->L2.Hp->L2.VK->Prop}{ta te:L2.TE}{σ:L2.St}
namespace L2
open PySem PySem.Spec PyProof.Rows
section
def ck1 (i:Nat):TE:=fun σ H Q=>∃ v,σ[i]?=some (some v)/\Q v H
def tC (v:V):TE:=fun _ H Q=>Q v H
theorem bB1 (hN:X.N[i]?=some x)(hv:Vis X.env.scope x)(hd:(x == ("__debug__":Str))=false:=by decide)(hcd:(x == ("__classdict__":Str))=false:=by decide):PE X (.Name x pos) (ck1 i):=by
 intro pins s σ H Q I h
 obtain⟨v,e,h⟩:=h
 obtain⟨m,hn,hl⟩:=I.loc
 obtain⟨u,r,l⟩:=hl i x v hN e hv
 have fin:EP X pins σ Q u s:=⟨v,H,I,r,h⟩
 rcases l with⟨hk,hm⟩ | ⟨hk,c,hc,hcell⟩
 ·exact wpAny_Name (ci2 I.ok.kind hk hn hm fin) hd
 ·rcases hk with hk | hk
  ·exact wpAny_Name (cj3 I.ok.kind hk hc hcell fin) hd
  ·exact wpAny_Name (wpAny_loadName_free I.ok.kind hk hc hcell fin hcd) hd
theorem j6 {i j pos}:PE X (.Constant (.int i) j pos) (tC (.int i)):=fun _ _ _ H _ I h=>wpAny_Constant_int ⟨.int i,H,I.tok _,⟨_,rfl⟩,h⟩
theorem cn2 {b j pos}:PE X (.Constant (.bool b) j pos) (tC (.bl b)):=fun _ _ _ H _ I h=>Constant_bool ⟨.bl b,H,I,rfl,h⟩
theorem bg5 {j pos}:PE X (.Constant .none j pos) (tC .non):=fun _ _ _ H _ I h=>Constant_none ⟨.non,H,I,rfl,h⟩
theorem aF4 {x j pos}:PE X (.Constant (.str x) j pos) (tC (.str x)):=fun _ _ _ H _ I h=>Calls.Constant_str ⟨.str x,H,I.tok _,⟨_,rfl⟩,h⟩
def Gl (X:Cx)(x:Str):Prop:=X.env.kindOf x=some .globalImplicit
theorem aC5 (I:Inv X pins σ H s)(hg:Gl X x)(hm:X.mg x=some u)(h:Q u s)
  (hd:(x == ("__debug__":Str))=false:=by decide):p8 (t9 X.prog X.w) X.A (eval (.Name x pos) X.env) Q E s :=
 Calls.Name_function_global I.ok.kind hg (Calls.loadGlobal_global (by rw[I.ok.glob];exact I.mod.glob.keeps I.bk) hm h) hd
theorem Z7 (I:Inv X pins σ H s)(hg:Gl X x)(hm:X.mg x=none)(hv:L6 x=some u)(h:Q u s)
  (hn:x≠"__name__":=by decide)(hd:(x == ("__debug__":Str))=false:=by decide):p8 (t9 X.prog X.w) X.A (eval (.Name x pos) X.env) Q E s:=by
 obtain⟨mb,h1,h2⟩:=I.mod.blt
 exact Calls.Name_function_global I.ok.kind hg (Calls.loadGlobal_builtin (by rw[I.ok.glob];exact I.mod.glob.keeps I.bk) hm (by rw[I.ok.blt];exact h1.keeps I.bk) ((h2 x hn).trans hv) h) hd
theorem aR1 {v:V}(hg:Gl X x)(hm:X.mg x=some u)(r:RelV v u)(hd:(x == ("__debug__":Str))=false:=by decide):PE X (.Name x pos) (tC v) :=
 fun _ _ _ H _ I h=>aC5 I hg hm ⟨v,H,I,r,h⟩ hd
theorem an6 {v:V}(hg:Gl X x)(hm:X.mg x=none)(hv:L6 x=some u)(r:RelV v u)(hn:x≠"__name__":=by decide)(hd:(x == ("__debug__":Str))=false:=by decide):PE X (.Name x pos) (tC v) :=
 fun _ _ _ H _ I h=>Z7 I hg hm hv ⟨v,H,I,r,h⟩ hn hd
variable {a b:Expr} {tb:TE}
def PC (X:Cx)(op:CmpOp)(a b:Expr)(t:TE):Prop:=
 ∀ (pins:List (Addr × Obj)) (s:Shared) (σ:St) (H:Hp) (Q:VK),Inv X pins σ H s->t σ H Q ->
  p8 (t9 X.prog X.w) X.A (eval a X.env) (fun v s₁=>p8 (t9 X.prog X.w) X.A (eval b X.env) (fun u s₂=>p8 (t9 X.prog X.w) X.A (F4 op v u) (EP X pins σ Q) X.xe s₂) X.xe s₁) X.xe s
def tB (t:TE):TT:=fun σ H Q=>t σ H fun x H1=>∃ c,x=.bl c/\Q c H1
theorem cb6 {op:CmpOp}{t:TE}(h:PC X op a b t)(h1:ar6 op b=false:=by first | exact nobehind _ (by decide) (by decide) | rfl):PT X (.Compare a [op] [b] pos) (tB t):=by
 intro pins s σ H Q I hw
 refine bX8 (thn (h pins s σ H _ I hw) fun v s1 h1=>thn h1 fun u s2 h2=>thn h2 fun c s3 ⟨x,H1,I1,r1,q1⟩=>?_) h1
 obtain⟨d,rfl,q⟩:=q1
 cases r1
 exact F6 ⟨H1,I1,q⟩
theorem ac2 {t:TE}(h:PE X e t)(he:∀ whole,isTrue e X.env whole=(do let v <- whole;standAt e.pos;aU5 [v] (truthy v)):=by intro _;rfl):PT X e (tB t):=by
 intro pins s σ H Q I hw
 refine isTrue_plain (thn (h pins s σ H _ I hw) fun v s1 ⟨x,H1,I1,r1,q1⟩=>?_) (he _)
 obtain⟨d,rfl,q⟩:=q1
 cases r1
 exact F6 ⟨H1,I1,q⟩
variable {tA tB':TT} {rest:List Expr}
def tOr (t u:TT):TT:=fun σ H Q=>t σ H fun c H1=>if c=true then Q true H1 else u σ H1 Q
def cq9 (t:TT):TT:=fun σ H Q=>t σ H fun c H1=>Q (!c) H1
theorem ax3 (ha:PT X a tA):PW X (.BoolOp .Or [a] pos) tA:=by
 intro wh pins s σ H Q I h
 refine isTrue_or (thn (ha pins s σ H Q I h) fun c s1 e=>?_)
 cases c with
 | false=>exact isTrue_or_nil e
 | true=>exact e
theorem af9 (ha:PT X a tA)(hb:PW X (.BoolOp .Or (b::rest) pos) tB'):PW X (.BoolOp .Or (a::b::rest) pos) (tOr tA tB'):=by
 intro wh pins s σ H Q I h
 refine isTrue_or (thn (ha pins s σ H _ I h) fun c s1 ⟨H1,I1,q1⟩=>?_)
 cases c with
 | true=>exact⟨H1,I1,q1⟩
 | false=>exact hb wh pins s1 σ H1 Q I1 q1
theorem Y1 (ha:PT X a tA):PT X (.UnaryOp .Not a pos) (cq9 tA):=by
 intro pins s σ H Q I h
 exact isTrue_not (ha pins s σ H (fun c H1=>Q (!c) H1) I h)
def cl2 (ta tb:TE):TE:=fun σ H Q=>ta σ H fun x H1=>∃ c,x=.bl c/\if c=true then tb σ H1 Q else Q (.bl false) H1
def ck5 (ta:TE):TE:=fun σ H Q=>ta σ H fun x H1=>∃ c,x=.bl c/\Q (.bl (!c)) H1
theorem bB4 {op}{t:TE}(h:PE X a t):PE X (.BoolOp op [a] pos) t:=fun pins s σ H Q I hw=>BoolOp_one (h pins s σ H Q I hw)
theorem bC0 (ha:PE X a ta)(hb:PE X (.BoolOp .And (b::rest) pos) tb):PE X (.BoolOp .And (a::b::rest) pos) (cl2 ta tb):=by
 intro pins s σ H Q I h
 refine BoolOp_and (thn (ha pins s σ H _ I h) fun v s1 ⟨x,H1,I1,r1,q1⟩=>?_)
 obtain⟨c,rfl,q1⟩:=q1
 cases r1
 refine F6 ?_
 cases c with
 | true=>exact hb pins s1 σ H1 Q I1 q1
 | false=>exact⟨.bl false,H1,I1,rfl,q1⟩
theorem cb7 (ha:PE X a ta):PE X (.UnaryOp .Not a pos) (ck5 ta):=by
 intro pins s σ H Q I h
 refine UnaryOp_ (thn (ha pins s σ H _ I h) fun v s1 ⟨x,H1,I1,r1,q1⟩=>?_)
 obtain⟨c,rfl,q1⟩:=q1
 cases r1
 exact not_of (F6 ⟨.bl (!c),H1,I1,rfl,q1⟩)
def tIf (t:TT)(ta tb:TE):TE:=fun σ H Q=>t σ H fun c H1=>if c=true then ta σ H1 Q else tb σ H1 Q
theorem aY6 {c:Expr}(hc:PT X c tA)(ha:PE X a ta)(hb:PE X b tb):PE X (.IfExp c a b pos) (tIf tA ta tb):=by
 intro pins s σ H Q I h
 refine wpAny_IfExp (thn (hc pins s σ H _ I h) fun d s1 ⟨H1,I1,q1⟩=>?_)
 cases d with
 | true=>exact ha pins s1 σ H1 Q I1 q1
 | false=>exact hb pins s1 σ H1 Q I1 q1
end
def SqL (K:W.Frag)(H:Hp)(a:Addr)(xs:List V):Prop:=
 Rd H a (.lst xs) \/
  ∃ (o:Obj) (its:Array Value) (n:Nat),K.lookup a=some o/\o.cls=.type "list"/\o.dict=none/\o.data=.seq its n/\its.size<=j7/\C8 xs its.toList
def SqT (K:W.Frag)(H:Hp)(a:Addr)(xs:List V):Prop:=
 Rd H a (.tup xs) \/
  ∃ (o:Obj) (its:Array Value) (n:Nat),K.lookup a=some o/\o.cls=.type "tuple"/\o.data=.seq its n/\its.size<=j7/\C8 xs its.toList
def ct0:Value->Option V
 | .none=>some .non
 | .bool b=>some (.bl b)
 | .int i _=>some (.int i)
 | .str x _=>some (.str x)
 | .bytes b _=>some (.byt b)
 | .float b _=>some (.flt b)
 | .ref a=>some (.ref a)
 | .type n=>some (.ty n)
 | _=>none
theorem RelV.abs {x:V}(r:RelV x u):ct0 u=some x:=by
 cases x with
 | non=>cases r;rfl
 | bl _=>cases r;rfl
 | int _=>obtain⟨t,rfl⟩:=r;rfl
 | str _=>obtain⟨t,rfl⟩:=r;rfl
 | byt _=>obtain⟨t,rfl⟩:=r;rfl
 | flt _=>obtain⟨t,rfl⟩:=r;rfl
 | ref _=>cases r;rfl
 | ty _=>cases r;rfl
theorem RelV.inj {x y:V}(r:RelV x u)(q:RelV y u):x=y:=Option.some.inj (r.abs.symm.trans q.abs)
theorem C8.inj:∀ {xs ys:List V} {us:List Value},C8 xs us->C8 ys us->xs=ys
 | _,_,_,.nil,.nil=>rfl
 | _,_,_,.cons r t,.cons r' t'=>by rw[r.inj r',C8.inj t t']
theorem SqL.of {K:W.Frag}(h:H a=some (.lst xs)):SqL K H a xs:=.inl (.inl h)
theorem SqT.of {K:W.Frag}(h:H a=some (.tup xs)):SqT K H a xs:=.inl (.inl h)
theorem Inv.list (I:Inv X pins σ H s)(h:SqL X.K H a xs):∃ its:List Value,C8 xs its/\PlainL s.heap a its.toArray/\xs.length<=j7:=by
 rcases h with h | ⟨o,its,n,hk,hc,hd,hs,hz,r⟩
 ·obtain⟨z,its,n,r,e⟩:=h.ok I.hok
  exact⟨its,r,⟨_,n,e,rfl,rfl,rfl⟩,z⟩
 ·refine⟨its.toList,r,⟨o,n,I.kIn a o hk,hc,hd,by simpa using hs⟩,?_⟩
  have e:=r.length
  simp only[l5]at e
  omega
theorem Inv.tuple (I:Inv X pins σ H s)(h:SqT X.K H a xs):∃ its:List Value,C8 xs its/\IsTup s.heap a its.toArray/\xs.length<=j7:=by
 rcases h with h | ⟨o,its,n,hk,hc,hs,hz,r⟩
 ·obtain⟨z,its,r,p⟩:=h.ok I.hok
  exact⟨its,r,p,z⟩
 ·refine⟨its.toList,r,⟨o,I.kIn a o hk,hc,n,by simpa using hs⟩,?_⟩
  have e:=r.length
  simp only[l5]at e
  omega
theorem Inv.list_inj (I:Inv X pins σ H s)(h:SqL X.K H a xs)(h':SqL X.K H a ys):xs=ys:=by
 obtain⟨its,r,⟨o,n,e,_,_,d⟩,_⟩:=I.list h
 obtain⟨its',r',⟨o',n',e',_,_,d'⟩,_⟩:=I.list h'
 rw[e]at e';cases e'
 rw[d]at d'
 injection d' with d1 _
 have:its=its':=by simpa using congrArg Array.toList d1
 subst this
 exact r.inj r'
theorem Inv.tuple_inj (I:Inv X pins σ H s)(h:SqT X.K H a xs)(h':SqT X.K H a ys):xs=ys:=by
 obtain⟨its,r,⟨o,e,_,n,d⟩,_⟩:=I.tuple h
 obtain⟨its',r',⟨o',e',_,n',d'⟩,_⟩:=I.tuple h'
 rw[e]at e';cases e'
 rw[d]at d'
 injection d' with d1 _
 have:its=its':=by simpa using congrArg Array.toList d1
 subst this
 exact r.inj r'
abbrev Cx.wish (X:Cx)(E:Value->Shared->Prop):Cx:={ X with xe:=E }
abbrev Cx.nox (X:Cx):Cx:=X.wish fun _ _=>False
theorem Cx.Ok.wish (ok:X.Ok)(E:Value->Shared->Prop):(X.wish E).Ok:=
 ⟨ok.mod,ok.kind,ok.glob,ok.blt,ok.above,ok.inj,ok.has,ok.cab,ok.hd,ok.frames,ok.stk,ok.exf,ok.bs,ok.bsz,ok.noex,ok.exfs,ok.funs,ok.frf⟩
theorem Cx.Ok.unwish (ok:(X.wish E).Ok):X.Ok:=
 ⟨ok.mod,ok.kind,ok.glob,ok.blt,ok.above,ok.inj,ok.has,ok.cab,ok.hd,ok.frames,ok.stk,ok.exf,ok.bs,ok.bsz,ok.noex,ok.exfs,ok.funs,ok.frf⟩
theorem Inv.wish (I:Inv X pins σ H s)(E:Value->Shared->Prop):Inv (X.wish E) pins σ H s:=⟨I.ok.wish E,I.os,I.bare,I.base,I.loc,I.cell,I.free,I.freeC,I.pin,I.hok,I.len⟩
theorem Inv.unwish (I:Inv (X.wish E) pins σ H s):Inv X pins σ H s:=⟨I.ok.unwish,I.os,I.bare,I.base,I.loc,I.cell,I.free,I.freeC,I.pin,I.hok,I.len⟩
theorem SP.unwish {D:Ends}{f:Flow}{s':Shared}(h:SP (X.wish E) pins D f s'):SP X pins D f s':=by
 cases f with
 | next=>obtain⟨σ',H',I,q⟩:=h;exact⟨σ',H',I.unwish,q⟩
 | brk=>obtain⟨σ',H',I,q⟩:=h;exact⟨σ',H',I.unwish,q⟩
 | cont=>obtain⟨σ',H',I,q⟩:=h;exact⟨σ',H',I.unwish,q⟩
 | ret u=>obtain⟨v,σ',H',I,r,q⟩:=h;exact⟨v,σ',H',I.unwish,r,q⟩
theorem PSs.nox {st:List Stmt}{t:TS}(h:PSs X.nox st t):PSs X st t:=fun pins s σ H D I hw =>
 E3 (h pins s σ H D (I.wish _) hw) (fun _ _ q=>q.unwish) fun _ _ z=>False.elim z
section
variable {st:Stmt} {rest:List Stmt} {t u:TS}
def ck6:TS:=fun D σ H=>D.nx σ H
def cq7 (t u:TS):TS:=fun D σ H=>t { D with nx:=u D } σ H
theorem E6:PSs X [] ck6:=fun _ _ σ H _ I h=>aA6 ⟨σ,H,I,h⟩
theorem j0 (h1:PS X st t)(h2:PSs X rest u):PSs X (st::rest) (cq7 t u):=by
 intro pins s σ H D I h
 refine be3 (thn (h1 pins s σ H { D with nx:=u D } I h) fun f s1 q=>?_)
 cases f with
 | next =>
  obtain⟨σ',H',I',q⟩:=q
  exact h2 pins s1 σ' H' D I' q
 | ret v=>exact q
 | brk=>exact q
 | cont=>exact q
theorem o8 (h1:PS X st t):PSs X [st] t:=by
 intro pins s σ H D I h
 refine be3 (thn (h1 pins s σ H D I h) fun f s1 q=>?_)
 cases f with
 | next=>exact aA6 q
 | ret v=>exact q
 | brk=>exact q
 | cont=>exact q
theorem Inv.quiet (I:Inv X pins σ H s):interactive X.env=false:=by simp[interactive,I.ok.kind]
def ck9 (te:TE):TS:=fun D σ H=>te σ H fun _ H1=>D.nx σ H1
theorem Y5 (he:PE X e te)(hs:bX9 e none pos.line X.env=pure false:=by rfl):PS X (.Expr e pos) (ck9 te):=by
 intro pins s σ H D I h
 exact wpAny_Expr_any (thn (he pins s σ H _ I h) fun v s1 ⟨x,H1,I1,r1,q1⟩=>⟨σ,H1,I1,q1⟩) I.quiet hs
def cq8 (te:TE):TS:=fun D σ H=>te σ H D.rt
theorem C3 (he:PE X e te):PS X (.Return (some e) pos) (cq8 te):=by
 intro pins s σ H D I h
 exact wpAny_Return_some (thn (he pins s σ H _ I h) fun v s1 ⟨x,H1,I1,r1,q1⟩=>⟨x,σ,H1,I1,r1,q1⟩)
def cr1 (c:TT)(t u:TS):TS:=fun D σ H=>c σ H fun b H1=>if b=true then t D σ H1 else u D σ H1
theorem O1 {c:Expr}{a b:List Stmt}{tc:TT}(hc:PT X c tc)(ha:PSs X a t)(hb:PSs X b u):PS X (.If c a b pos) (cr1 tc t u):=by
 intro pins s σ H D I h
 refine wpAny_If (thn (hc pins s σ H _ I h) fun d s1 ⟨H1,I1,q1⟩=>?_)
 cases d with
 | true=>exact ha pins s1 σ H1 D I1 q1
 | false=>exact hb pins s1 σ H1 D I1 q1
def ca1:TS:=fun _ _ _=>False
theorem N0 {sts:List Stmt}:PSs X sts ca1:=fun _ _ _ _ _ _ h=>h.elim
end
abbrev TG:=V->St->Hp->(St->Hp->Prop)->Prop
abbrev TGs:=List V->St->Hp->(St->Hp->Prop)->Prop
def PG (X:Cx)(target:Expr)(t:TG):Prop:=
 ∀ (pins:List (Addr × Obj)) (s:Shared) (σ:St) (H:Hp) (v:V) (u:Value) (Q:St->Hp->Prop),Inv X pins σ H s->RelV v u->t v σ H Q ->
  p8 (t9 X.prog X.w) X.A (bY0 target X.env u) (fun _ s'=>∃ σ' H',Inv X pins σ' H' s'/\Q σ' H') X.xe s
def PGs (X:Cx)(ts:List Expr)(t:TGs):Prop:=
 ∀ (pins:List (Addr × Obj)) (s:Shared) (σ:St) (H:Hp) (vs:List V) (us:List Value) (Q:St->Hp->Prop),Inv X pins σ H s->C8 vs us->t vs σ H Q ->
  p8 (t9 X.prog X.w) X.A (assignInOrder ((ai9 ts X.env).map (·.2)) us) (fun _ s'=>∃ σ' H',Inv X pins σ' H' s'/\Q σ' H') X.xe s
abbrev ch3:=V->V->V->Hp->(Hp->Prop)->Prop
def cq0 (X:Cx)(t:ch3):Prop:=
 ∀ (pins:List (Addr × Obj)) (s:Shared) (σ:St) (H:Hp) (o i v:V) (ov iv u:Value) (Q:Hp->Prop),Inv X pins σ H s->RelV o ov->RelV i iv->RelV v u->t o i v H Q ->
  p8 (t9 X.prog X.w) X.A (setItem ov iv u) (fun _ s'=>∃ H',Inv X pins σ H' s'/\Q H') X.xe s
abbrev TIp:=V->V->Hp->VK->Prop
def PIp (X:Cx)(op:Operator)(t:TIp):Prop:=
 ∀ (pins:List (Addr × Obj)) (s:Shared) (σ:St) (H:Hp) (x y:V) (v u:Value) (Q:VK),Inv X pins σ H s->RelV x v->RelV y u->t x y H Q ->
  p8 (t9 X.prog X.w) X.A (inplaceOp op v u) (EP X pins σ Q) X.xe s
def aH4 (i:Nat):TG:=fun v σ H Q=>Q (σ.set i (some v)) H
theorem A2 (hN:X.N.Nodup)(hi:X.N[i]?=some x)(hx:Loc X.env.scope x)(hf:X.fn x=true\/X.env.scope.names.lookup x=some .local:=by first | exact .inl rfl | exact .inr rfl | assumption):PG X (.Name x pos) (aH4 i):=by
 intro pins s σ H v u Q I r h
 exact wpAny_assign_Name (aE0 I hN hi hx r (fun s' I'=>⟨_,H,I',h⟩) hf)
def cs7:TGs:=fun vs σ H Q=>vs=[]/\Q σ H
def co9 (t:TG)(u:TGs):TGs:=fun vs σ H Q=>∃ v r,vs=v::r/\t v σ H fun σ' H'=>u r σ' H' Q
theorem an5:PGs X [] cs7:=by
 intro pins s σ H vs us Q I r h
 obtain⟨e,h⟩:=h
 subst e
 cases r
 exact assignInOrder_nil ⟨σ,H,I,h⟩
theorem Q0 {t:TG}{u:TGs}(h1:PG X e t)(h2:PGs X es u)
  (hs:(ai9 (e::es) X.env).map (·.2)=bY0 e X.env::(ai9 es X.env).map (·.2):=by rfl):PGs X (e::es) (co9 t u):=by
 intro pins s σ H vs us Q I r h
 obtain⟨v,vr,e1,h⟩:=h
 subst e1
 cases r with
 | cons r rr =>
  rw[hs]
  refine assignInOrder_cons (thn (h1 pins s σ H _ _ _ I r h) fun _ s1 ⟨σ1,H1,I1,q1⟩=>?_)
  exact h2 pins s1 σ1 H1 _ _ Q I1 rr q1
def co8 (K:W.Frag)(n:Nat)(t:TGs):TG:=fun v σ H Q=>∃ a xs,v=.ref a/\SqT K H a xs/\xs.length=n/\t xs σ H Q
theorem bg4 {k:Nat}{t:TGs}(hc:X.calm=true)(h:PGs X es t)
  (hn:(ai9 es X.env).length=n:=by rfl)(hst:(ai9 es X.env).findIdx? (·.1)=none:=by rfl):PG X (.Tuple es k pos) (co8 X.K n t):=by
 intro pins s σ H v u Q I r hw
 obtain⟨a,xs,e1,hq,hl,hw⟩:=hw
 subst e1
 cases r
 obtain⟨its,rv,ht,hz⟩:=I.tuple hq
 refine assign_Tuple_tuple (I.ok.hd hc) ht (by simp[hn,<- hl,rv.length]) hst fun h' hx=>?_
 have I1:Inv X pins σ H { s with heap:=h' }:=I.kept (t':=s.toks) fun b o e=>hx b o (k9 (d5 e)) e
 exact h pins _ σ H xs _ Q I1 (by simpa using rv) hw
def cs6 (to ti:TE)(t:ch3):TG:=fun v σ H Q=>to σ H fun o H1=>ti σ H1 fun i H2=>t o i v H2 fun H3=>Q σ H3
theorem al8 {o i:Expr} {to ti:TE} {t:ch3} (ho:PE X o to) (hi:PE X i ti) (hs:cq0 X t)
  (ha : ∀ v, bY0 (.Subscript o i pos) X.env v = (do
   let ov <- aU5 [v] (eval o X.env)
   let iv <- aU5 [v,ov] (eval i X.env)
   standAt pos
   aU5 [v,ov,iv] (setItem ov iv v)
   release [v,ov,iv] []):=by intro _;rfl):PG X (.Subscript o i pos) (cs6 to ti t):=by
 intro pins s σ H v u Q I r h
 rw[ha]
 refine b7 (D9 (thn (ho pins s σ H _ I h) fun ov s1 ⟨x,H1,I1,r1,q1⟩=>?_))
 refine b7 (D9 (thn (hi pins s1 σ H1 _ I1 q1) fun iv s2 ⟨y,H2,I2,r2,q2⟩=>?_))
 refine b7 (ar7 (b7 (D9 (thn (hs pins s2 σ H2 x y v ov iv u _ I2 r1 r2 r q2) fun _ s3 ⟨H3,I3,q3⟩=>?_))))
 exact wpAny_release ⟨σ,H3,I3,q3⟩
def cl1 (te:TE)(g:TG):TS:=fun D σ H=>te σ H fun x H1=>g x σ H1 D.nx
theorem al7 {g:TG}(he:PE X e te)(hg:PG X tg g)(hs:swapsWithSole [tg] e pos.line X.env=pure false:=by rfl)(hw:swappedStores [tg] e X.env=pure none:=by rfl)
  (h1:(ai9 [tg] X.env).map (·.2)=[bY0 tg X.env]:=by rfl):PS X (.Assign [tg] e pos) (cl1 te g):=by
 intro pins s σ H D I h
 refine wpAny_Assign_stores (thn (he pins s σ H _ I h) fun v s1 ⟨x,H1,I1,r1,q1⟩=>?_) hs hw
 rw[h1]
 exact thn (hg pins s1 σ H1 x v _ I1 r1 q1) fun _ s2 q=>q
theorem x5 {pos':Pos}(hN:X.N.Nodup)(hi:X.N[i]?=some x)(hx:Loc X.env.scope x)(he:PE X e te)(hs:bX9 e (some (.Name x pos')) pos.line X.env=pure false:=by rfl)(hf:X.fn x=true\/X.env.scope.names.lookup x=some .local:=by first | exact .inl rfl | exact .inr rfl | assumption) :
  PS X (.Assign [.Name x pos'] e pos) (cl1 te (aH4 i)):=by
 intro pins s σ H D I h
 refine wpAny_Assign_Name (thn (he pins s σ H _ I h) fun v s1 ⟨y,H1,I1,r1,q1⟩=>?_) hs
 exact aE0 I1 hN hi hx r1 (fun s2 I2=>⟨_,H1,I2,q1⟩) hf
def cr4 (i:Nat)(te:TE)(ti:TIp):TS:=fun D σ H=>∃ x,σ[i]?=some (some x)/\te σ H fun y H1=>ti x y H1 fun z H2=>D.nx (σ.set i (some z)) H2
theorem bA9 {op:Operator}{ti:TIp}{pos':Pos}(hN:X.N.Nodup)(hi:X.N[i]?=some x)(hx:Loc X.env.scope x)(he:PE X e te)(ho:PIp X op ti)(hf:X.fn x=true\/X.env.scope.names.lookup x=some .local:=by first | exact .inl rfl | exact .inr rfl | assumption) :
  PS X (.AugAssign (.Name x pos') op e pos) (cr4 i te ti):=by
 intro pins s σ H D I h
 obtain⟨v,e1,h⟩:=h
 obtain⟨m,hn,hl⟩:=I.loc
 have vis:Vis X.env.scope x:=by rcases hx with k | k;exact .inl k;exact .inr (.inl k)
 obtain⟨u,r,l⟩:=hl i x v hi e1 vis
 refine wpAny_AugAssign_Name ?_
 have go:p8 (t9 X.prog X.w) X.A (eval e X.env) (fun w s₂=>p8 (t9 X.prog X.w) X.A (inplaceOp op u w) (fun r s₃=>p8 (t9 X.prog X.w) X.A (storeName X.env x r) (fun _=>SP X pins D .next) X.xe s₃) X.xe s₂) X.xe s:=by
  refine thn (he pins s σ H _ I h) fun w s1 ⟨y,H1,I1,r1,q1⟩=>?_
  refine thn (ho pins s1 σ H1 v y u w _ I1 r r1 q1) fun z s2 ⟨zv,H2,I2,r2,q2⟩=>?_
  exact aE0 I2 hN hi hx r2 (fun s3 I3=>⟨_,H2,I3,q2⟩) hf
 rcases l with⟨hk,hm⟩ | ⟨hk,c,hc,hcell⟩
 ·exact ci2 I.ok.kind hk hn hm go
 ·rcases hk with hk | hk
  ·exact cj3 I.ok.kind hk hc hcell go
  ·rcases hx with k | k
   ·have:X.env.scope.names.lookup x=some .free:=hk
    rw[k]at this;cases this
   ·have:X.env.scope.names.lookup x=some .free:=hk
    rw[k]at this;cases this
def bZ7 (c:TT)(tb:TS):TS:=fun D σ H=>∃ W:Nat->St->Hp->Prop,(∃ m,W m σ H)/\∀ m σ H,W m σ H ->
 c σ H fun b H1=>if b=true then ∃ N:St->Hp->Prop,(∀ σ' H',N σ' H'->∃ m',m'<m/\W m' σ' H')/\tb { D with nx:=N,ct:=N,bk:=D.nx } σ H1 else D.nx σ H1
theorem aY3 {c:Expr}{body:List Stmt}{tc:TT}{tb:TS}(hp:PassesOwn (t9 X.prog X.w) X.A X.env X.xe)(hc:PT X c tc)(hb:PSs X body tb):PS X (.While c body [] pos) (bZ7 tc tb):=by
 intro pins s σ H D I h
 obtain⟨W,⟨m0,w0⟩,turn⟩:=h
 refine wpAny_While (codeAny_whileLoop (fun n s'=>∃ σ' H',Inv X pins σ' H' s'/\W n σ' H') ?_ m0 ⟨σ,H,I,w0⟩)
 rintro n s1 ⟨σ1,H1,I1,w1⟩
 refine V1 hp (thn (hc pins s1 σ1 H1 _ I1 (turn n σ1 H1 w1)) fun b s2 ⟨H2,I2,q2⟩=>?_)
 cases b with
 | true =>
  obtain⟨N,hN,q2⟩:=q2
  rw[if_pos rfl]
  refine V1 hp (thn (hb pins s2 σ1 H2 _ I2 q2) fun f s3 q3=>?_)
  cases f with
  | next =>
   obtain⟨σ3,H3,I3,n3⟩:=q3
   obtain⟨m',hm,w3⟩:=hN σ3 H3 n3
   exact⟨m',hm,σ3,H3,I3,w3⟩
  | cont =>
   obtain⟨σ3,H3,I3,n3⟩:=q3
   obtain⟨m',hm,w3⟩:=hN σ3 H3 n3
   exact⟨m',hm,σ3,H3,I3,w3⟩
  | brk=>exact q3
  | ret v=>exact q3
 | false =>
  rw[if_neg i7]
  exact aA6 ⟨σ1,H2,I2,q2⟩
structure It where
 go:Nat->Hp->Prop
 yld:Nat->Hp->V->Hp->Prop
 stop:Nat->Hp->Prop
def R1 (X:Cx)(pins:List (Addr × Obj))(H:Hp)(b:Addr):Prop:=
 H b=none/\b≠X.env.locals/\b∉X.fs/\(b∈X.ex\/X.s₀.heap.objs.size<=b)/\(∀ x c,X.env.cells.lookup x=some c->c≠b)/\∀ p∈X.pn++pins,p.1≠b
theorem Inv.fpOk (I:Inv X pins σ H s)(hb:s.heap.objs.size<=b)(hn:H' b=none):R1 X pins H' b:=by
 refine⟨hn,M6 (p9 I.lt hb),I.nofs hb,.inr (x9 I.sz hb),fun x c e z=>?_,fun p hp z=>?_⟩
 ·obtain⟨v,q⟩:=I.cell x c e
  exact absurd (p9 q.lt (by rw[z];exact hb)) (B2 _)
 ·exact absurd (p9 (d5 (I.pin p hp).1) (by rw[z];exact hb)) (B2 _)
structure Turn (P:Program) (w:World) (K:W.Frag) (tg:Expr) (J:It) (fp:List Addr) (it:Addr) (tn:Nat->Heap->Prop):Prop where
 mem:it∈fp
 obj:∀ i h,tn i h->∀ b∈fp,∃ o,h.get? b=some o/\∀ v,o.data≠.cell v
 keep:∀ i h h',tn i h->(∀ b∈fp,∀ o,h.get? b=some o->h'.get? b=some o)->tn i h'
 item:∀ (X:Cx),X.prog=P->X.w=w->X.K=K->X.calm=true->∀ (i:Nat) (pins:List (Addr × Obj)) (s:Shared) (σ:St) (H:Hp) (E:Value->Shared->Prop),Inv X pins σ H s->(∀ b∈fp,R1 X pins H b)->tn i s.heap->J.go i H ->
  p8 (t9 P w) X.A (aq0 (.ref it)) (fun r s1=>∃ u,r=some u /\
   p8 (t9 P w) X.A (bq3 tg (.ref it) u) (fun _ s2=>∃ x H',Inv X pins σ H' s2/\RelV x u/\J.yld i H x H'/\tn (i+1) s2.heap/\∀ b∈fp,H' b=none) E s1) E s
 done:∀ (X:Cx),X.prog=P->X.w=w->X.K=K->X.calm=true->∀ (i:Nat) (pins:List (Addr × Obj)) (s:Shared) (σ:St) (H:Hp) (E:Value->Shared->Prop),Inv X pins σ H s->(∀ b∈fp,R1 X pins H b)->tn i s.heap->J.stop i H ->
  p8 (t9 P w) X.A (aq0 (.ref it)) (fun r s1=>r=none/\Inv X pins σ H s1) E s
 self:∀ (A:Around) (i:Nat) (s:Shared) (Q:Value->Shared->Prop) (E:Value->Shared->Prop),tn i s.heap->Q (.ref it) s->p8 (t9 P w) A (pyIter (.ref it)) Q E s
abbrev TI:=St->Hp->(It->Hp->Prop)->Prop
def PIE (X:Cx)(pins:List (Addr × Obj))(σ:St)(tg:Expr)(R:It->Hp->Prop)(itv:Value)(s2:Shared):Prop:=
 ∃ (it:Addr) (fp:List Addr) (tn:Nat->Heap->Prop) (J:It) (H':Hp),itv=.ref it/\Inv X pins σ H' s2/\Turn X.prog X.w X.K tg J fp it tn/\tn 0 s2.heap/\(∀ b∈fp,R1 X pins H' b)/\R J H'
def PI (X:Cx)(tg iter:Expr)(wi:TI):Prop:=
 ∀ (pins:List (Addr × Obj)) (s:Shared) (σ:St) (H:Hp) (R:It->Hp->Prop),Inv X pins σ H s->wi σ H R ->
  p8 (t9 X.prog X.w) X.A (eval iter X.env) (fun v s1=>p8 (t9 X.prog X.w) X.A (pyIter v) (PIE X pins σ tg R) X.xe s1) X.xe s
theorem bn9 {it:Addr} {n:String} {vs:Array Value} {Q:Unit->Shared->Prop} (ho:s.heap.get? it=some o) (hc:o.cls=.type n) (hd:o.data=.fields vs)
    (hn:["enumerate","zip","dict_itemiterator","dict_reverseitemiterator","odict_iterator","itertools.zip_longest","itertools.pairwise"].contains n=false) (hQ:Q () s):p8 M A (bq3 tg (.ref it) u) Q E s:=by
  unfold bq3
  cases tg<;>first
    | exact d3 hQ
    | (cases u<;>first
        | exact d3 hQ
        | (refine b7 (wpAny_load ho ?_)
           rw[hc,hd]
           show p8 M A (if (["enumerate","zip","dict_itemiterator","dict_reverseitemiterator","odict_iterator","itertools.zip_longest","itertools.pairwise"].contains n && vs[0]? == some (Z4 _))=true then _ else _) Q E s
           rw[if_neg (by intro h;rw[hn,Bool.false_and]at h;cases h)]
           exact d3 hQ))
def Itl (K:W.Frag)(a:Addr):It:=
 ⟨fun i H=>∃ xs x,SqL K H a xs/\xs[i]?=some x,fun i H x H'=>H'=H/\∀ xs,SqL K H a xs->xs[i]?=some x,fun i H=>∃ xs,SqL K H a xs/\xs.length<=i⟩
def Itt (K:W.Frag)(a:Addr):It:=
 ⟨fun i H=>∃ xs x,SqT K H a xs/\xs[i]?=some x,fun i H x H'=>H'=H/\∀ xs,SqT K H a xs->xs[i]?=some x,fun i H=>∃ xs,SqT K H a xs/\xs.length<=i⟩
def Itr (lo:Int)(n:Nat):It:=⟨fun i _=>i<n,fun i H x H'=>H'=H/\x=.int (lo+i),fun i _=>n<=i⟩
theorem br7 {K:W.Frag}(a it:Addr):Turn P w K tg (Itl K a) [it] it (fun i h=>h.IsListIter it a i) where
 mem:=by simp
 obj:=fun i h st b hb=>by
  have e:b=it:=by simpa using hb
  subst e
  obtain⟨o,e,c,d⟩:=st
  exact⟨o,e,fun v z=>by rw[d]at z;cases z⟩
 keep:=fun i h h' st k=>st.at fun o e=>k it (by simp) o e
 item:=by
  intro X hP hw hK hc i pins s σ H E I hf st hg
  subst hP hw hK
  obtain⟨xs,x,hq,hx⟩:=hg
  obtain⟨its,rv,p,hz⟩:=I.list hq
  obtain⟨u,hu,ru⟩:=rv.get hx
  obtain⟨f0,f1,f2,f3,f4,f5⟩:=hf it (by simp)
  refine wpAny_pyNext_list_item st p.isList (x:=u) (by simpa using hu) fun h' st' sb=>?_
  have I1:Inv X pins σ H { s with heap:=h' }:=I.turned (t':=s.toks) (fun b o hb e=>(sb.2 b hb).trans e) f0 f1 f3 f4 f5
  obtain⟨o,e,c,d⟩:=id st'
  exact⟨u,rfl,bn9 (s:={ s with heap:=h' }) e c d (by decide) ⟨x,H,I1,ru,⟨rfl,fun ys hy=>by rw[I.list_inj hy hq];exact hx⟩,st',fun b hb=>(hf b hb).1⟩⟩
 done:=by
  intro X hP hw hK hc i pins s σ H E I hf st hg
  subst hP hw hK
  obtain⟨xs,hq,hx⟩:=hg
  obtain⟨its,rv,p,hz⟩:=I.list hq
  obtain⟨f0,f1,f2,f3,f4,f5⟩:=hf it (by simp)
  have hl:=rv.length
  exact wpAny_pyNext_list_end (I.ok.hd hc) st p.isList (by simp;omega) fun h' eb=>⟨rfl,I.turned (t':=s.toks) (fun b o hb e=>eb b o hb e) f0 f1 f3 f4 f5⟩
 self:=fun _ _ _ _ _ st h=>wpAny_pyIter_listiter st h
theorem be7 {K:W.Frag}(a it:Addr):Turn P w K tg (Itt K a) [it] it (fun i h=>h.IsTupleIter it a i) where
 mem:=by simp
 obj:=fun i h st b hb=>by
  have e:b=it:=by simpa using hb
  subst e
  obtain⟨o,e,c,d⟩:=st
  exact⟨o,e,fun v z=>by rw[d]at z;cases z⟩
 keep:=fun i h h' st k=>st.at fun o e=>k it (by simp) o e
 item:=by
  intro X hP hw hK hc i pins s σ H E I hf st hg
  subst hP hw hK
  obtain⟨xs,x,hq,hx⟩:=hg
  obtain⟨its,rv,p,hz⟩:=I.tuple hq
  obtain⟨u,hu,ru⟩:=rv.get hx
  obtain⟨f0,f1,f2,f3,f4,f5⟩:=hf it (by simp)
  refine wpAny_pyNext_tuple_item st (show s.heap.IsTuple a its.toArray from p) (x:=u) (by simpa using hu) fun h' st' sb=>?_
  have I1:Inv X pins σ H { s with heap:=h' }:=I.turned (t':=s.toks) (fun b o hb e=>(sb.2 b hb).trans e) f0 f1 f3 f4 f5
  obtain⟨o,e,c,d⟩:=id st'
  exact⟨u,rfl,bn9 (s:={ s with heap:=h' }) e c d (by decide) ⟨x,H,I1,ru,⟨rfl,fun ys hy=>by rw[I.tuple_inj hy hq];exact hx⟩,st',fun b hb=>(hf b hb).1⟩⟩
 done:=by
  intro X hP hw hK hc i pins s σ H E I hf st hg
  subst hP hw hK
  obtain⟨xs,hq,hx⟩:=hg
  obtain⟨its,rv,p,hz⟩:=I.tuple hq
  obtain⟨f0,f1,f2,f3,f4,f5⟩:=hf it (by simp)
  have hl:=rv.length
  exact wpAny_pyNext_tuple_end (I.ok.hd hc) st (show s.heap.IsTuple a its.toArray from p) (by simp;omega) fun h' eb=>⟨rfl,I.turned (t':=s.toks) (fun b o hb e=>eb b o hb e) f0 f1 f3 f4 f5⟩
 self:=fun _ _ _ _ _ st h=>wpAny_pyIter_tupleiter st h
theorem be8 {K:W.Frag}(it:Addr)(lo:Int)(n:Nat):Turn P w K tg (Itr lo n) [it] it (fun i h=>IsRangeIter h it (lo+(i:Nat)*1) ((n:Int) - (i:Nat)) 1) where
 mem:=by simp
 obj:=fun i h st b hb=>by
  have e:b=it:=by simpa using hb
  subst e
  exact⟨_,st,fun v z=>by
   have z':Data.fields _=Data.cell v:=z
   cases z'⟩
 keep:=fun i h h' st k=>k it (by simp) _ st
 item:=by
  intro X hP hw hK hc i pins s σ H E I hf st hg
  subst hP hw hK
  obtain⟨f0,f1,f2,f3,f4,f5⟩:=hf it (by simp)
  have W:=Walks.range (prog:=X.prog) (w:=X.w) (I.ok.hd hc) it lo 1 n
  refine W.item i s _ _ hg st fun v h' tk hv st' kk=>?_
  obtain⟨t,rfl⟩:=hv
  have I1:Inv X pins σ H { s with heap:=h',toks:=tk }:=I.turned (fun b o hb e=>kk b o (by simpa using hb) e) f0 f1 f3 f4 f5
  refine⟨_,rfl,bn9 (s:={ s with heap:=h',toks:=tk }) (n:="range_iterator") st' rfl rfl (by decide) ⟨.int (lo+i),H,I1,⟨t,?_⟩,⟨rfl,rfl⟩,st',fun b hb=>(hf b hb).1⟩⟩
  rw[K3]
 done:=by
  intro X hP hw hK hc i pins s σ H E I hf st hg
  subst hP hw hK
  obtain⟨f0,f1,f2,f3,f4,f5⟩:=hf it (by simp)
  exact wpAny_pyNext_range_end (I.ok.hd hc) st (by have:n<=i:=hg;omega) fun h' eb=>⟨rfl,I.turned (t':=s.toks) (fun b o hb e=>eb b o hb e) f0 f1 f3 f4 f5⟩
 self:=fun _ _ _ _ _ st h=>wpAny_pyIter_rangeiter st h
def co3 (K:W.Frag)(tl:TE):TI:=fun σ H R=>tl σ H fun x H1=>∃ a,x=.ref a/\(∃ xs,SqL K H1 a xs)/\R (Itl K a) H1
def cs5 (K:W.Frag)(tl:TE):TI:=fun σ H R=>tl σ H fun x H1=>∃ a,x=.ref a/\(∃ xs,SqT K H1 a xs)/\R (Itt K a) H1
theorem U0 {l:Expr}{tl:TE}(hl:PE X l tl):PI X tg l (co3 X.K tl):=by
 intro pins s σ H R I h
 refine thn (hl pins s σ H _ I h) fun v s1 ⟨x,H1,I1,r1,q1⟩=>?_
 obtain⟨a,e,⟨xs,hq⟩,q⟩:=q1
 subst e
 cases r1
 obtain⟨its,rv,p,hz⟩:=I1.list hq
 refine K6 p.isList ?_
 refine⟨s1.heap.objs.size,[s1.heap.objs.size],_,_,H1,rfl,I1.kept (t':=s1.toks) fun b o e=>c5 _ e,br7 a _,⟨_,i6 _ rfl,rfl,rfl⟩,fun b hb=>?_,q⟩
 have e:b=s1.heap.objs.size:=by simpa using hb
 subst e
 exact I1.fpOk (c9 _) (I1.hok.fresh (c9 _))
theorem aR0 {l:Expr}{tl:TE}(hl:PE X l tl):PI X tg l (cs5 X.K tl):=by
 intro pins s σ H R I h
 refine thn (hl pins s σ H _ I h) fun v s1 ⟨x,H1,I1,r1,q1⟩=>?_
 obtain⟨a,e,⟨xs,hq⟩,q⟩:=q1
 subst e
 cases r1
 obtain⟨its,rv,p,hz⟩:=I1.tuple hq
 refine G9 (show s1.heap.IsTuple a its.toArray from p) ?_
 refine⟨s1.heap.objs.size,[s1.heap.objs.size],_,_,H1,rfl,I1.kept (t':=s1.toks) fun b o e=>c5 _ e,be7 a _,⟨_,i6 _ rfl,rfl,rfl⟩,fun b hb=>?_,q⟩
 have e:b=s1.heap.objs.size:=by simpa using hb
 subst e
 exact I1.fpOk (c9 _) (I1.hok.fresh (c9 _))
theorem aY0 {R:It->Hp->Prop}{lo hi:Int}{t u v:Tok}{tk:Nat}(I:Inv X pins σ H s)(h1:-(2 ^ 62)<=lo)(h2:lo<2 ^ 62)(h3:-(2 ^ 62)<=hi)(h4:hi<2 ^ 62)
  (q:R (Itr lo (hi - lo).toNat) H):p8 (t9 X.prog X.w) X.A (pyIter (.ref s.heap.objs.size)) (PIE X pins σ tg R) E { s with heap:=s.heap.push { cls:=.type "range",data:=.fields #[.int lo t,.int hi u,.int 1 v] },toks:=tk }:=by
 refine wpAny_pyIter_range (IsRange.new ..) (small_one h1 h2 h3 h4) ?_
 have I1:Inv X pins σ H { s with heap:=s.heap.push { cls:=.type "range",data:=.fields #[.int lo t,.int hi u,.int 1 v] },toks:=tk }:=I.kept fun b o e=>c5 _ e
 refine⟨(s.heap.push { cls:=.type "range",data:=.fields #[.int lo t,.int hi u,.int 1 v] }).objs.size,[(s.heap.push { cls:=.type "range",data:=.fields #[.int lo t,.int hi u,.int 1 v] }).objs.size],_,_,H,rfl,
  I1.kept (t':=tk) fun b o e=>c5 _ e,be8 _ lo (hi - lo).toNat,?_,fun b hb=>?_,q⟩
 ·have e1:lo+((0:Nat):Int)*1=lo:=by simp
  have e2:(((hi - lo).toNat:Nat):Int) - ((0:Nat):Int)=Builtin.Range.rangeSize lo hi 1:=by rw[rangeSize_one];split<;>omega
  show IsRangeIter _ _ (lo+((0:Nat):Int)*1) ((((hi - lo).toNat:Nat):Int) - ((0:Nat):Int)) 1
  rw[e1,e2]
  exact i6 _ rfl
 ·have e:b=(s.heap.push { cls:=.type "range",data:=.fields #[.int lo t,.int hi u,.int 1 v] }).objs.size:=by simpa using hb
  subst e
  exact I1.fpOk (c9 _) (I1.hok.fresh (c9 _))
def co2 (ta:TA):TI:=fun σ H R=>ta σ H fun vs H1=>∃ j:Int,vs=[.int j] /\ -(2 ^ 62)<=j/\j<2 ^ 62/\R (Itr 0 j.toNat) H1
def co1 (ta:TA):TI:=fun σ H R=>ta σ H fun vs H1=>∃ i j:Int,vs=[.int i,.int j]/\(-(2 ^ 62)<=i/\i<2 ^ 62 /\ -(2 ^ 62)<=j/\j<2 ^ 62)/\R (Itr i (j - i).toNat) H1
theorem S7 {a:Expr}{ta:TA}{p:Pos}(hg:Gl X "range")(hm:X.mg "range"=none)(ha:PA X [a] ta)(hs:v9 [a] X.env=[(false,eval a X.env)]:=by rfl):PI X tg (.Call (.Name "range" p) [a] [] pos) (co2 ta):=by
 intro pins s σ H R I h
 refine Call_ (Z7 I hg hm boot_range (PyProof.Rows.callWith_type1 (thn (ha pos pins s σ H _ I h) fun us s1 ⟨vs,H1,I1,r1,q1⟩=>?_) hs rfl))
 obtain⟨j,e,q1,q2,q⟩:=q1
 subst e
 cases r1 with
 | cons r rr =>
  cases rr
  obtain⟨t,rfl⟩:=r
  exact call_range_1 (aY0 I1 (by omega) (by omega) q1 q2 (by simpa using q))
theorem ax5 {a b:Expr}{ta:TA}{p:Pos}(hg:Gl X "range")(hm:X.mg "range"=none)(ha:PA X [a,b] ta)(hs:v9 [a,b] X.env=[(false,eval a X.env),(false,eval b X.env)]:=by rfl)(hs2:v9 [b] X.env=[(false,eval b X.env)]:=by rfl) :
  PI X tg (.Call (.Name "range" p) [a,b] [] pos) (co1 ta):=by
 intro pins s σ H R I h
 refine Call_ (Z7 I hg hm boot_range (PyProof.Rows.callWith_type1 (thn (ha pos pins s σ H _ I h) fun us s1 ⟨vs,H1,I1,r1,q1⟩=>?_) (by rw[hs,hs2]) (by rw[hs2];rfl)))
 obtain⟨i,j,e,⟨q1,q2,q3,q4⟩,q⟩:=q1
 subst e
 cases r1 with
 | cons r rr =>
  cases rr with
  | cons r' rr =>
   cases rr
   obtain⟨t,rfl⟩:=r
   obtain⟨t',rfl⟩:=r'
   exact call_range_2 (aY0 I1 q1 q2 q3 q4 q)
def cr2 (wi:TI)(g:TG)(tb:TS):TS:=fun D σ H=>wi σ H fun J H1=>∃ W:Nat->Nat->St->Hp->Prop,(∃ m,W 0 m σ H1)/\∀ i m σ H,W i m σ H ->
 (J.stop i H/\D.nx σ H)\/(J.go i H/\∃ N:St->Hp->Prop,(∀ σ' H',N σ' H'->∃ m',m'<m/\W (i+1) m' σ' H')/\∀ x H',J.yld i H x H'->g x σ H' fun σ2 H2=>tb { D with nx:=N,ct:=N,bk:=D.nx } σ2 H2)
def aq9 (fp:List Addr)(h:Heap):List (Addr × Obj):=fp.filterMap fun b=>(h.get? b).map fun o=>(b,o)
theorem U4 (hb:b∈fp)(e:h.get? b=some o):(b,o)∈aq9 fp h:=aj4.mpr ⟨b,hb,by rw[e];rfl⟩
theorem bs9 {p:Addr × Obj}(hp:p∈aq9 fp h):p.1∈fp/\h.get? p.1=some p.2:=by
 obtain⟨b,hb,e⟩:=aj4.mp hp
 cases q:h.get? b with
 | none=>rw[q]at e;cases e
 | some o =>
  rw[q]at e
  have e':(b,o)=p:=Option.some.inj e
  subst e'
  exact⟨hb,q⟩
theorem Inv.pinned (I:Inv X pins σ H s)(hf:∀ b∈fp,R1 X pins H b)(ho:∀ b∈fp,∃ o,s.heap.get? b=some o/\∀ v,o.data≠.cell v):Inv X (pins++aq9 fp s.heap) σ H s:=
 I.pins_of fun p hp=>(u6.mp hp).elim (fun z=>I.pin p (m9 _ z)) fun z=>by
  obtain⟨hb,e⟩:=bs9 z
  obtain⟨f0,f1,f2,_⟩:=hf p.1 hb
  obtain⟨o,e',d⟩:=ho p.1 hb
  rw[e]at e';cases e'
  exact⟨e,f0,f1,f2,d⟩
theorem Inv.unpinned {pl:List (Addr × Obj)}(I:Inv X (pins++pl) σ H s):Inv X pins σ H s:=I.pins_of fun p hp=>I.pin p (m9 _ (G3 _ hp))
theorem ac3 {iter:Expr}{body:List Stmt}{wi:TI}{g:TG}{tb:TS}(hp:PassesOwn (t9 X.prog X.w) X.A X.env X.xe)(hc:X.calm=true)(hi:PI X tg iter wi)(hg:PG X tg g)(hb:PSs X body tb)
  (hs:∀ x,aq1 iter X.env x=pure x:=by intro _;rfl):PS X (.For tg iter body [] pos) (cr2 wi g tb):=by
 intro pins s σ H D I h
 refine wpAny_For (thn (hi pins s σ H _ I h) fun v s1 h1=>thn h1 fun itv s2 h2=>?_) hs
 obtain⟨it,fp,tn,J,H2,e,I2,T,st2,f2,W,⟨m0,w0⟩,turn⟩:=h2
 subst e
 have stat:∀ {H':Hp},(∀ b∈fp,H' b=none)->∀ b∈fp,R1 X pins H' b:=fun hn b hb=>⟨hn b hb,(f2 b hb).2⟩
 refine codeAny_forLoop_any (fun n s'=>∃ i σ' H',Inv X pins σ' H' s'/\tn i s'.heap/\(∀ b∈fp,H' b=none)/\W i n σ' H') ?_ m0 ⟨0,σ,H2,I2,st2,fun b hb=>(f2 b hb).1,w0⟩
 rintro n s3 ⟨i,σ3,H3,I3,st3,fr3,w3⟩
 rcases turn i n σ3 H3 w3 with⟨stop,qn⟩ | ⟨go,N,hN,step⟩
 ·refine V1 hp (thn (T.done X rfl rfl rfl hc i pins s3 σ3 H3 X.xe I3 (stat fr3) st3 stop) fun r s4 ⟨hr,I4⟩=>?_)
  subst hr
  exact aA6 ⟨σ3,H3,I4,qn⟩
 ·refine V1 hp (thn (T.item X rfl rfl rfl hc i pins s3 σ3 H3 X.xe I3 (stat fr3) st3 go) fun r s4 ⟨u,hr,h4⟩=>?_)
  subst hr
  refine V1 hp (thn h4 fun _ s5 ⟨x,H5,I5,r5,y5,st5,fr5⟩=>?_)
  have I5':=I5.pinned (stat fr5) (T.obj _ _ st5)
  refine V1 hp (thn (hg _ s5 σ3 H5 x u _ I5' r5 (step x H5 y5)) fun _ s6 ⟨σ6,H6,I6,q6⟩=>?_)
  refine V1 hp (thn (hb _ s6 σ6 H6 _ I6 q6) fun f s7 q7=>?_)
  have bY1:∀ {σ7:St} {H7:Hp},Inv X (pins++aq9 fp s5.heap) σ7 H7 s7->N σ7 H7->∃ m,m<n/\∃ i σ' H',Inv X pins σ' H' s7/\tn i s7.heap/\(∀ b∈fp,H' b=none)/\W i m σ' H':=fun {σ7 H7} I7 n7=>by
   obtain⟨m',hm,w7⟩:=hN σ7 H7 n7
   refine⟨m',hm,i+1,σ7,H7,I7.unpinned,T.keep _ _ _ st5 fun b hb o e=>(I7.pin (b,o) (m9 _ (m9 _ (U4 hb e)))).1,fun b hb=>?_,w7⟩
   obtain⟨o,e,d⟩:=T.obj _ _ st5 b hb
   exact(I7.pin (b,o) (m9 _ (m9 _ (U4 hb e)))).2.1
  cases f with
  | next=>obtain⟨σ7,H7,I7,n7⟩:=q7;exact bY1 I7 n7
  | cont=>obtain⟨σ7,H7,I7,n7⟩:=q7;exact bY1 I7 n7
  | brk=>obtain⟨σ7,H7,I7,q7⟩:=q7;exact⟨σ7,H7,I7.unpinned,q7⟩
  | ret v=>obtain⟨x7,σ7,H7,I7,r7,q7⟩:=q7;exact⟨x7,σ7,H7,I7.unpinned,r7,q7⟩
theorem bG4 {K:W.Frag}{g:TG}{tb:TS}{D:Ends}(Pv:Nat->St->Hp->Prop)(h0:Pv 0 σ H)(hl:∀ i σ H,i<=xs.length->Pv i σ H->SqL K H a xs)
  (hs:∀ i x σ H,xs[i]?=some x->Pv i σ H->g x σ H fun σ2 H2=>tb { D with nx:=Pv (i+1),ct:=Pv (i+1),bk:=D.nx } σ2 H2)(hd:∀ σ H,Pv xs.length σ H->D.nx σ H) :
  ∃ W:Nat->Nat->St->Hp->Prop,(∃ m,W 0 m σ H)/\∀ i m σ H,W i m σ H ->
   ((Itl K a).stop i H/\D.nx σ H)\/((Itl K a).go i H/\∃ N:St->Hp->Prop,(∀ σ' H',N σ' H'->∃ m',m'<m/\W (i+1) m' σ' H')/\∀ x H',(Itl K a).yld i H x H'->g x σ H' fun σ2 H2=>tb { D with nx:=N,ct:=N,bk:=D.nx } σ2 H2):=by
 refine⟨fun i m σ H=>m=xs.length - i/\i<=xs.length/\Pv i σ H,⟨xs.length,by simp,t8 _,h0⟩,?_⟩
 rintro i m σ H ⟨rfl,hi,p⟩
 have q:=hl i σ H hi p
 by_cases hlt:i<xs.length
 ·refine .inr ⟨⟨xs,xs[i],q,by simp[hlt]⟩,Pv (i+1),fun σ' H' p'=>⟨xs.length - (i+1),by omega,rfl,hlt,p'⟩,fun x H' y=>?_⟩
  obtain⟨e,y⟩:=y
  subst e
  exact hs i x σ _ (y xs q) p
 ·have e:i=xs.length:=by omega
  subst e
  exact .inl ⟨⟨xs,q,c9 _⟩,hd σ H p⟩
theorem bS6 {K:W.Frag}{g:TG}{tb:TS}{D:Ends}(Pv:Nat->St->Hp->Prop)(h0:Pv 0 σ H)(hl:∀ i σ H,i<=xs.length->Pv i σ H->SqT K H a xs)
  (hs:∀ i x σ H,xs[i]?=some x->Pv i σ H->g x σ H fun σ2 H2=>tb { D with nx:=Pv (i+1),ct:=Pv (i+1),bk:=D.nx } σ2 H2)(hd:∀ σ H,Pv xs.length σ H->D.nx σ H) :
  ∃ W:Nat->Nat->St->Hp->Prop,(∃ m,W 0 m σ H)/\∀ i m σ H,W i m σ H ->
   ((Itt K a).stop i H/\D.nx σ H)\/((Itt K a).go i H/\∃ N:St->Hp->Prop,(∀ σ' H',N σ' H'->∃ m',m'<m/\W (i+1) m' σ' H')/\∀ x H',(Itt K a).yld i H x H'->g x σ H' fun σ2 H2=>tb { D with nx:=N,ct:=N,bk:=D.nx } σ2 H2):=by
 refine⟨fun i m σ H=>m=xs.length - i/\i<=xs.length/\Pv i σ H,⟨xs.length,by simp,t8 _,h0⟩,?_⟩
 rintro i m σ H ⟨rfl,hi,p⟩
 have q:=hl i σ H hi p
 by_cases hlt:i<xs.length
 ·refine .inr ⟨⟨xs,xs[i],q,by simp[hlt]⟩,Pv (i+1),fun σ' H' p'=>⟨xs.length - (i+1),by omega,rfl,hlt,p'⟩,fun x H' y=>?_⟩
  obtain⟨e,y⟩:=y
  subst e
  exact hs i x σ _ (y xs q) p
 ·have e:i=xs.length:=by omega
  subst e
  exact .inl ⟨⟨xs,q,c9 _⟩,hd σ H p⟩
theorem Y2 {lo:Int}{g:TG}{tb:TS}{D:Ends}(Pv:Nat->St->Hp->Prop)(h0:Pv 0 σ H)
  (hs:∀ i σ H,i<n->Pv i σ H->g (.int (lo+i)) σ H fun σ2 H2=>tb { D with nx:=Pv (i+1),ct:=Pv (i+1),bk:=D.nx } σ2 H2)(hd:∀ σ H,Pv n σ H->D.nx σ H) :
  ∃ W:Nat->Nat->St->Hp->Prop,(∃ m,W 0 m σ H)/\∀ i m σ H,W i m σ H ->
   ((Itr lo n).stop i H/\D.nx σ H)\/((Itr lo n).go i H/\∃ N:St->Hp->Prop,(∀ σ' H',N σ' H'->∃ m',m'<m/\W (i+1) m' σ' H')/\∀ x H',(Itr lo n).yld i H x H'->g x σ H' fun σ2 H2=>tb { D with nx:=N,ct:=N,bk:=D.nx } σ2 H2):=by
 refine⟨fun i m σ H=>m=n - i/\i<=n/\Pv i σ H,⟨n,by simp,t8 _,h0⟩,?_⟩
 rintro i m σ H ⟨rfl,hi,p⟩
 by_cases hlt:i<n
 ·refine .inr ⟨hlt,Pv (i+1),fun σ' H' p'=>⟨n - (i+1),by omega,rfl,hlt,p'⟩,fun x H' y=>?_⟩
  obtain⟨e,y⟩:=y
  subst e y
  exact hs i σ _ hlt p
 ·have e:i=n:=by omega
  subst e
  exact .inl ⟨c9 _,hd σ H p⟩
abbrev R2:=V->V->Hp->VK->Prop
def OpR (X:Cx)(f:Value->Value->Sem Value)(r:R2):Prop:=
 ∀ (pins:List (Addr × Obj)) (s:Shared) (σ:St) (H:Hp) (x y:V) (v u:Value) (Q:VK),Inv X pins σ H s->RelV x v->RelV y u->r x y H Q ->
  p8 (t9 X.prog X.w) X.A (f v u) (EP X pins σ Q) X.xe s
def UnR (X:Cx)(f:Value->Sem Value)(r:V->Hp->VK->Prop):Prop:=
 ∀ (pins:List (Addr × Obj)) (s:Shared) (σ:St) (H:Hp) (x:V) (v:Value) (Q:VK),Inv X pins σ H s->RelV x v->r x H Q ->
  p8 (t9 X.prog X.w) X.A (f v) (EP X pins σ Q) X.xe s
def S4 (X:Cx)(f:Value)(r:List V->Hp->VK->Prop):Prop:=
 ∀ (pins:List (Addr × Obj)) (s:Shared) (σ:St) (H:Hp) (xs:List V) (us:List Value) (Q:VK),Inv X pins σ H s->C8 xs us->r xs H Q ->
  p8 (t9 X.prog X.w) X.A (call f us) (EP X pins σ Q) X.xe s
def ct1 (X:Cx)(r:V->Hp->(Bool->Hp->Prop)->Prop):Prop:=
 ∀ (pins:List (Addr × Obj)) (s:Shared) (σ:St) (H:Hp) (x:V) (v:Value) (Q:Bool->Hp->Prop),Inv X pins σ H s->RelV x v->r x H Q ->
  p8 (t9 X.prog X.w) X.A (truthy v) (TP X pins σ Q) X.xe s
def tOp (r:R2)(ta tb:TE):TE:=fun σ H Q=>ta σ H fun x H1=>tb σ H1 fun y H2=>r x y H2 Q
def tUn (r:V->Hp->VK->Prop)(ta:TE):TE:=fun σ H Q=>ta σ H fun x H1=>r x H1 Q
def rI (C:Int->Int->Prop)(g:Int->Int->V):R2:=fun x y H Q=>∃ i j,x=.int i/\y=.int j/\C i j/\Q (g i j) H
def rI0 (g:Int->Int->V):R2:=fun x y H Q=>∃ i j,x=.int i/\y=.int j/\Q (g i j) H
def rU (g:Int->V):V->Hp->VK->Prop:=fun x H Q=>∃ i,x=.int i/\Q (g i) H
section
variable {a b c:Expr} {tb tc:TE}
theorem cg8 (ha:PE X a ta)(hb:PE X b tb){R:V->V->Hp->Prop}(I:Inv X pins σ H s)
  (h:ta σ H fun x H1=>tb σ H1 fun y H2=>R x y H2){f:Value->Value->Sem Value}
  (hf:∀ v u s2 x y H2,Inv X pins σ H2 s2->RelV x v->RelV y u->R x y H2->p8 (t9 X.prog X.w) X.A (f v u) Q X.xe s2) :
  p8 (t9 X.prog X.w) X.A (eval a X.env) (fun v s₁=>p8 (t9 X.prog X.w) X.A (eval b X.env) (fun u s₂=>p8 (t9 X.prog X.w) X.A (f v u) Q X.xe s₂) X.xe s₁) X.xe s:=by
 refine thn (ha pins s σ H _ I h) fun v s1 ⟨x,H1,I1,r1,q1⟩=>?_
 refine thn (hb pins s1 σ H1 _ I1 q1) fun u s2 ⟨y,H2,I2,r2,q2⟩=>?_
 exact hf v u s2 x y H2 I2 r1 r2 q2
theorem u4 {op:Operator}{r:R2}(ho:OpR X (ad5 op) r)(ha:PE X a ta)(hb:PE X b tb):PE X (.BinOp a op b pos) (tOp r ta tb):=by
 intro pins s σ H Q I h
 exact wpAny_BinOp (cg8 ha hb I h fun v u s2 x y H2 I2 rx ry q=>ho pins s2 σ H2 x y v u Q I2 rx ry q)
theorem aF3 {op:UnaryOp}{r:V->Hp->VK->Prop}(ho:UnR X (unaryOp op) r)(ha:PE X a ta):PE X (.UnaryOp op a pos) (tUn r ta):=by
 intro pins s σ H Q I h
 exact UnaryOp_ (thn (ha pins s σ H _ I h) fun v s1 ⟨x,H1,I1,r1,q1⟩=>ho pins s1 σ H1 x v Q I1 r1 q1)
theorem opI {f:Value->Value->Sem Value}{C:Int->Int->Prop}{g:Int->Int->Int}
  (rule:∀ (i j:Int) (t u:Tok) (s:Shared) (Q:Value->Shared->Prop) (E:Value->Shared->Prop),C i j->Q (.int (g i j) s.toks) { s with toks:=s.toks+1 }->p8 (t9 X.prog X.w) X.A (f (.int i t) (.int j u)) Q E s) :
  OpR X f (rI C fun i j=>.int (g i j)):=by
 intro pins s σ H x y v u Q I rx ry h
 obtain⟨i,j,rfl,rfl,hc,q⟩:=h
 obtain⟨t,rfl⟩:=rx
 obtain⟨t',rfl⟩:=ry
 exact rule i j t t' s _ _ hc ⟨.int (g i j),H,I.tok _,⟨_,rfl⟩,q⟩
theorem cc7 {f:Value->Value->Sem Value}{g:Int->Int->Int}
  (rule:∀ (i j:Int) (t u:Tok) (s:Shared) (Q:Value->Shared->Prop) (E:Value->Shared->Prop),Q (.int (g i j) s.toks) { s with toks:=s.toks+1 }->p8 (t9 X.prog X.w) X.A (f (.int i t) (.int j u)) Q E s) :
  OpR X f (rI0 fun i j=>.int (g i j)):=by
 intro pins s σ H x y v u Q I rx ry h
 obtain⟨i,j,rfl,rfl,q⟩:=h
 obtain⟨t,rfl⟩:=rx
 obtain⟨t',rfl⟩:=ry
 exact rule i j t t' s _ _ ⟨.int (g i j),H,I.tok _,⟨_,rfl⟩,q⟩
theorem bO9 {f:Value->Value->Sem Value}{g:Int->Int->Bool}
  (rule:∀ (i j:Int) (t u:Tok) (s:Shared) (Q:Value->Shared->Prop) (E:Value->Shared->Prop),Q (.bool (g i j)) s->p8 (t9 X.prog X.w) X.A (f (.int i t) (.int j u)) Q E s) :
  OpR X f (rI0 fun i j=>.bl (g i j)):=by
 intro pins s σ H x y v u Q I rx ry h
 obtain⟨i,j,rfl,rfl,q⟩:=h
 obtain⟨t,rfl⟩:=rx
 obtain⟨t',rfl⟩:=ry
 exact rule i j t t' s _ _ ⟨.bl (g i j),H,I,rfl,q⟩
def ct3 (i j:Int):Prop:=0<j/\j<1073741824
def cq3 (i j:Int):Prop:=0<=j/\j<=1000000/\i.natAbs<2 ^ 64
def ch5 (i j:Int):Prop:=(-(2 ^ 64)<i/\i<2 ^ 64)\/(-(2 ^ 64)<j/\j<2 ^ 64)
theorem ch5.ok {i j:Int}(h:ch5 i j):IntMulOk i j:=by
 rcases h with⟨h1,h2⟩ | ⟨h1,h2⟩
 ·exact .of_left (intBits_le_64 h1 h2)
 ·exact .of_right (intBits_le_64 h1 h2)
theorem be6 (k:Nat):(0:Int)<=2 ^ k:=by
 rw[two_pow_cast]
 exact aJ6 _
theorem L1:OpR X (ad5 .Add) (rI0 fun i j=>.int (i+j)):=cc7 fun _ _ _ _ _ _ _ q=>add_int q
theorem W2:OpR X (ad5 .Sub) (rI0 fun i j=>.int (i - j)):=cc7 fun _ _ _ _ _ _ _ q=>sub_int q
theorem ar1:OpR X (ad5 .Mult) (rI ch5 fun i j=>.int (i*j)):=opI fun _ _ _ _ _ _ _ hc q=>mul_int q hc.ok
theorem Y6:OpR X (ad5 .FloorDiv) (rI ct3 fun i j=>.int (i / j)):=opI fun i j _ _ _ _ _ hc q=>by
 have h1:(0:Int)<j:=hc.1
 have h2:j<1073741824:=hc.2
 exact floordiv_int (by omega) (by rw[bj1 i (by omega)];exact q) (.inl (PyProof.noPylong_small (by omega)))
theorem O3:OpR X (ad5 .Mod) (rI (fun _ j=>0<j) fun i j=>.int (i % j)):=opI fun i j _ _ _ _ _ hc q=>by
 have h1:(0:Int)<j:=hc
 exact mod_int' (by omega) (by rw[Int.fmod_eq_emod_of_nonneg i (by omega)];exact q)
theorem bg7:OpR X (ad5 .Pow) (rI cq3 fun i j=>.int (i ^ j.toNat)):=opI fun _ _ _ _ _ _ _ hc q=>pow_int_small hc.1 hc.2.1 hc.2.2 q
theorem cc1:OpR X (ad5 .LShift) (rI cq3 fun i j=>.int (i*2 ^ j.toNat)):=opI fun _ _ _ _ _ _ _ hc q=>lshift_int_small hc.1 hc.2.1 hc.2.2 q
theorem cc0:OpR X (ad5 .RShift) (rI (fun _ j=>0<=j) fun i j=>.int (i / 2 ^ j.toNat)):=opI fun i j _ _ _ _ _ hc q =>
 rshift_int hc (by rw[bj1 i (be6 _)];exact q)
theorem cc6:OpR X (ad5 .BitAnd) (rI0 fun i j=>.int (Builtin.bitAnd i j)):=cc7 fun _ _ _ _ _ _ _ q=>and_int q
theorem unI {f:Value->Sem Value}{g:Int->Int}
  (rule:∀ (i:Int) (t:Tok) (s:Shared) (Q:Value->Shared->Prop) (E:Value->Shared->Prop),Q (.int (g i) s.toks) { s with toks:=s.toks+1 }->p8 (t9 X.prog X.w) X.A (f (.int i t)) Q E s) :
  UnR X f (rU fun i=>.int (g i)):=by
 intro pins s σ H x v Q I rx h
 obtain⟨i,rfl,q⟩:=h
 obtain⟨t,rfl⟩:=rx
 exact rule i t s _ _ ⟨.int (g i),H,I.tok _,⟨_,rfl⟩,q⟩
theorem aq6:UnR X (unaryOp .USub) (rU fun i=>.int (-i)):=unI fun _ _ _ _ _ q=>neg_int q
end
def cl7:V->V->Bool
 | .non,.non=>true | .non,.int _=>true | .int _,.non=>true | .non,.bl _=>true | .bl _,.non=>true | .non,.str _=>true | .str _,.non=>true
 | .int _,.int _=>true | .bl _,.bl _=>true | .str _,.str _=>true | .byt _,.byt _=>true
 | .int _,.str _=>true | .str _,.int _=>true | .bl _,.str _=>true | .str _,.bl _=>true
 | _,_=>false
def rEq:R2:=fun x y H Q=>cl7 x y=true/\Q (.bl (decide (x=y))) H
def rNe:R2:=fun x y H Q=>cl7 x y=true/\Q (.bl (!decide (x=y))) H
theorem bp1 {i j:Int}:decide (V.int i=V.int j)=(i == j):=by
 rw[ag8]
 simp
theorem bH4 {i j:Bool}:decide (V.bl i=V.bl j)=(i == j):=by
 rw[ag8]
 simp
theorem bp0 {i j:Str}:decide (V.str i=V.str j)=(i == j):=by
 rw[ag8]
 simp
theorem bp2 {i j:Array UInt8}:decide (V.byt i=V.byt j)=(i.toList == j.toList):=by
 rw[ag8]
 cases i
 cases j
 simp
section
variable {a b c:Expr} {tb tc:TE}
theorem E5 {Q:VK}{k k':Bool}(I:Inv X pins σ H s)(q:Q (.bl k) H)(e:k=k'):EP X pins σ Q (.bool k') s:=by
 subst e
 exact⟨.bl k,H,I,rfl,q⟩
theorem aY8:OpR X (F4 .Eq) rEq:=by
 intro pins s σ H x y v u Q I rx ry h
 obtain⟨hs,q⟩:=h
 cases x with
 | non =>
  cases rx
  cases y with
  | non=>cases ry;exact PySem.EqNone.eq_none_none (E5 I q (by simp))
  | bl j=>cases ry;exact PySem.EqNone.eq_none_bool (E5 I q (by simp))
  | int j=>obtain⟨t',rfl⟩:=ry;exact PySem.EqNone.eq_none_int (E5 I q (by simp))
  | str j=>obtain⟨t',rfl⟩:=ry;exact PySem.EqNone.eq_none_str (E5 I q (by simp))
  | _=>exact absurd (show false=true from hs) i7
 | bl i =>
  cases rx
  cases y with
  | non=>cases ry;exact PySem.EqNone.eq_bool_none (E5 I q (by simp))
  | bl j=>cases ry;exact eq_bool (E5 I q bH4)
  | str j=>obtain⟨t',rfl⟩:=ry;exact PySem.EqMixed.eq_bool_str (E5 I q (by simp))
  | _=>exact absurd (show false=true from hs) i7
 | int i =>
  obtain⟨t,rfl⟩:=rx
  cases y with
  | non=>cases ry;exact PySem.EqNone.eq_int_none (E5 I q (by simp))
  | int j=>obtain⟨t',rfl⟩:=ry;exact eq_int (E5 I q bp1)
  | str j=>obtain⟨t',rfl⟩:=ry;exact PySem.EqMixed.eq_int_str (E5 I q (by simp))
  | _=>exact absurd (show false=true from hs) i7
 | str i =>
  obtain⟨t,rfl⟩:=rx
  cases y with
  | non=>cases ry;exact PySem.EqNone.eq_str_none (E5 I q (by simp))
  | bl j=>cases ry;exact PySem.EqMixed.eq_str_bool (E5 I q (by simp))
  | int j=>obtain⟨t',rfl⟩:=ry;exact PySem.EqMixed.eq_str_int (E5 I q (by simp))
  | str j=>obtain⟨t',rfl⟩:=ry;exact eq_str (E5 I q bp0)
  | _=>exact absurd (show false=true from hs) i7
 | byt i =>
  obtain⟨t,rfl⟩:=rx
  cases y with
  | byt j=>obtain⟨t',rfl⟩:=ry;exact PySem.W.eq_bytes (E5 I q bp2)
  | _=>exact absurd (show false=true from hs) i7
 | _=>cases y<;>exact absurd (show false=true from hs) i7
theorem az9:OpR X (F4 .NotEq) rNe:=by
 intro pins s σ H x y v u Q I rx ry h
 obtain⟨hs,q⟩:=h
 cases x with
 | non =>
  cases rx
  cases y with
  | non=>cases ry;exact PySem.EqNone.ne_none_none (E5 I q (by simp))
  | bl j=>cases ry;exact PySem.EqNone.ne_none_bool (E5 I q (by simp))
  | int j=>obtain⟨t',rfl⟩:=ry;exact PySem.EqNone.ne_none_int (E5 I q (by simp))
  | str j=>obtain⟨t',rfl⟩:=ry;exact PySem.EqNone.ne_none_str (E5 I q (by simp))
  | _=>exact absurd (show false=true from hs) i7
 | bl i =>
  cases rx
  cases y with
  | non=>cases ry;exact PySem.EqNone.ne_bool_none (E5 I q (by simp))
  | bl j=>cases ry;exact ne_bool (E5 I q (congrArg not bH4))
  | str j=>obtain⟨t',rfl⟩:=ry;exact PySem.EqMixed.ne_bool_str (E5 I q (by simp))
  | _=>exact absurd (show false=true from hs) i7
 | int i =>
  obtain⟨t,rfl⟩:=rx
  cases y with
  | non=>cases ry;exact PySem.EqNone.ne_int_none (E5 I q (by simp))
  | int j=>obtain⟨t',rfl⟩:=ry;exact ne_int (E5 I q (congrArg not bp1))
  | str j=>obtain⟨t',rfl⟩:=ry;exact PySem.EqMixed.ne_int_str (E5 I q (by simp))
  | _=>exact absurd (show false=true from hs) i7
 | str i =>
  obtain⟨t,rfl⟩:=rx
  cases y with
  | non=>cases ry;exact PySem.EqNone.ne_str_none (E5 I q (by simp))
  | bl j=>cases ry;exact PySem.EqMixed.ne_str_bool (E5 I q (by simp))
  | int j=>obtain⟨t',rfl⟩:=ry;exact PySem.EqMixed.ne_str_int (E5 I q (by simp))
  | str j=>obtain⟨t',rfl⟩:=ry;exact ne_str (E5 I q (congrArg not bp0))
  | _=>exact absurd (show false=true from hs) i7
 | byt i =>
  obtain⟨t,rfl⟩:=rx
  cases y with
  | byt j=>obtain⟨t',rfl⟩:=ry;exact PySem.W.ne_bytes (E5 I q (congrArg not bp2))
  | _=>exact absurd (show false=true from hs) i7
 | _=>cases y<;>exact absurd (show false=true from hs) i7
theorem ap3:OpR X (F4 .Lt) (rI0 fun i j=>.bl (decide (i<j))):=bO9 fun _ _ _ _ _ _ _ q=>lt_int q
theorem ap4:OpR X (F4 .LtE) (rI0 fun i j=>.bl (decide (i<=j))):=bO9 fun _ _ _ _ _ _ _ q=>le_int q
theorem cn3:OpR X (F4 .Gt) (rI0 fun i j=>.bl (decide (j<i))):=bO9 fun _ _ _ _ _ _ _ q=>gt_int q
theorem bC1:OpR X (F4 .GtE) (rI0 fun i j=>.bl (decide (j<=i))):=bO9 fun _ _ _ _ _ _ _ q=>ge_int q
theorem cc3:OpR X (F4 .Is) (fun x y H Q=>y=.non/\Q (.bl (decide (x=.non))) H):=by
 intro pins s σ H x y v u Q I rx ry h
 obtain⟨rfl,q⟩:=h
 cases ry
 refine is_none_gen (E5 I q ?_)
 cases x<;>first
  | (cases rx;rfl)
  | (obtain⟨t,rfl⟩:=rx;rfl)
theorem bO8:OpR X (F4 .IsNot) (fun x y H Q=>y=.non/\Q (.bl (!decide (x=.non))) H):=by
 intro pins s σ H x y v u Q I rx ry h
 obtain⟨rfl,q⟩:=h
 cases ry
 refine isnot_none_gen (E5 I q ?_)
 cases x<;>first
  | (cases rx;rfl)
  | (obtain⟨t,rfl⟩:=rx;rfl)
theorem E9 (b:Expr){op:CmpOp}(h:op≠.In:=by decide)(h2:op≠.NotIn:=by decide):ar6 op b=false:=by
 have e1:(op == CmpOp.In)=false:=by cases op<;>first | rfl | exact absurd rfl h
 have e2:(op == CmpOp.NotIn)=false:=by cases op<;>first | rfl | exact absurd rfl h2
 cases b<;>simp[ar6,e1,e2]
theorem aC2 {op:CmpOp}{r:R2}(ho:OpR X (F4 op) r)(ha:PE X a ta)(hb:PE X b tb)(hm:ar6 op b=false):PE X (.Compare a [op] [b] pos) (tOp r ta tb):=by
 intro pins s σ H Q I h
 exact wpAny_Compare1 (cg8 ha hb I h fun v u s2 x y H2 I2 rx ry q=>ho pins s2 σ H2 x y v u Q I2 rx ry q) hm
def bV3 (t:TE):TT:=fun σ H Q=>t σ H fun x H'=>∃ k,x=.bl k/\Q k H'
theorem C0 {op:CmpOp}{r:R2}(ho:OpR X (F4 op) r)(ha:PE X a ta)(hb:PE X b tb)(hm:ar6 op b=false):PT X (.Compare a [op] [b] pos) (bV3 (tOp r ta tb)):=by
 intro pins s σ H Q I h
 refine bX8 (thn (ha pins s σ H _ I h) fun v s1 ⟨x,H1,I1,r1,q1⟩=>thn (hb pins s1 σ H1 _ I1 q1) fun u s2 ⟨y,H2,I2,r2,q2⟩ =>
  thn (ho pins s2 σ H2 x y v u _ I2 r1 r2 q2) fun c s3 ⟨z,H3,I3,r3,k,e,q3⟩=>?_) hm
 subst e
 cases r3
 exact F6 ⟨H3,I3,q3⟩
def bx4 (r r':R2)(ta tb tc:TE):TE:=fun σ H Q=>ta σ H fun x H1=>tb σ H1 fun y H2=>r x y H2 fun z H3=>∃ k,z=.bl k /\
 (if k=true then tc σ H3 fun w' H4=>r' y w' H4 Q else Q (.bl false) H3)
theorem bB7 {op op':CmpOp}{r r':R2}(ho:OpR X (F4 op) r)(ho':OpR X (F4 op') r')(ha:PE X a ta)(hb:PE X b tb)(hc:PE X c tc)
  (hm:lastMarks [op,op'] [b,c]=false:=by with_unfolding_all rfl):PE X (.Compare a [op,op'] [b,c] pos) (bx4 r r' ta tb tc):=by
 intro pins s σ H Q I h
 refine Compare_chain (thn (ha pins s σ H _ I h) fun v s1 ⟨x,H1,I1,r1,q1⟩=>chain_link (thn (hb pins s1 σ H1 _ I1 q1) fun u s2 ⟨y,H2,I2,r2,q2⟩ =>
  thn (ho pins s2 σ H2 x y v u _ I2 r1 r2 q2) fun d s3 ⟨z,H3,I3,r3,k,e,q3⟩=>?_)) hm
 subst e
 cases r3
 refine F6 ?_
 cases k with
 | false=>exact ite_ff ⟨.bl false,H3,I3,rfl,q3⟩
 | true=>exact ite_tt (chain_last (thn (hc pins s3 σ H3 _ I3 q3) fun w' s4 ⟨z',H4,I4,r4,q4⟩=>ho' pins s4 σ H4 y z' u w' Q I4 r2 r4 q4))
theorem at3 {op op':CmpOp}{r r':R2}(ho:OpR X (F4 op) r)(ho':OpR X (F4 op') r')(ha:PE X a ta)(hb:PE X b tb)(hc:PE X c tc)
  (hm:lastMarks [op,op'] [b,c]=false:=by with_unfolding_all rfl):PT X (.Compare a [op,op'] [b,c] pos) (bV3 (bx4 r r' ta tb tc)):=by
 intro pins s σ H Q I h
 refine isTrue_chain (thn (ha pins s σ H _ I h) fun v s1 ⟨x,H1,I1,r1,q1⟩=>test_link (thn (hb pins s1 σ H1 _ I1 q1) fun u s2 ⟨y,H2,I2,r2,q2⟩ =>
  thn (ho pins s2 σ H2 x y v u _ I2 r1 r2 q2) fun d s3 ⟨z,H3,I3,r3,k,e,q3⟩=>?_)) hm
 subst e
 cases r3
 refine F6 ?_
 cases k with
 | false =>
  obtain⟨k',e',q'⟩:=q3
  cases e'
  exact ite_ff ⟨H3,I3,q'⟩
 | true =>
  refine ite_tt (test_last (thn (hc pins s3 σ H3 _ I3 q3) fun w' s4 ⟨z',H4,I4,r4,q4⟩=>thn (ho' pins s4 σ H4 y z' u w' _ I4 r2 r4 q4) fun d' s5 ⟨z2,H5,I5,r5,k2,e2,q5⟩=>?_))
  subst e2
  cases r5
  exact F6 ⟨H5,I5,q5⟩
def cp9 (K:W.Frag)(x:V)(H:Hp)(k:Bool):Prop:=
 match x with
 | .non=>k=false
 | .bl b=>k=b
 | .int i=>k=(i != 0)
 | .str y=>y.length<=j7/\k=((y.length:Int) != 0)
 | .byt y=>y.size<=j7/\k=((y.size:Int) != 0)
 | .ref p=>(∃ xs,SqL K H p xs/\k=!xs.isEmpty)\/(∃ xs,SqT K H p xs/\k=!xs.isEmpty)\/∃ kvs,H p=some (.dK kvs)/\k=!kvs.isEmpty
 | _=>False
theorem bh4 {κ:Type}{kvs:List (κ × V)}{vs:List (κ × Value)}(r:KV kvs vs):(!vs.isEmpty)=!kvs.isEmpty:=by
 cases r<;>rfl
theorem aG9 (r:C8 xs its):(!its.toArray.isEmpty)=!xs.isEmpty:=by
 cases r<;>simp
theorem ax8:(j7:Nat)<2 ^ 63:=by rw[E4];decide
theorem bZ4:ct1 X (fun x H Q=>∃ k,cp9 X.K x H k/\Q k H):=by
 intro pins s σ H x v Q I rx h
 obtain⟨k,e,q⟩:=h
 have hl:=ax8
 have hs:j7=16777216:=E4
 cases x with
 | non =>
  cases rx
  have e':k=false:=e
  subst e'
  exact truthy_none ⟨H,I,q⟩
 | bl b =>
  cases rx
  have e':k=b:=e
  subst e'
  exact F6 ⟨H,I,q⟩
 | int i =>
  obtain⟨t,rfl⟩:=rx
  have e':k=(i != 0):=e
  subst e'
  exact PySem.P.truthy_int ⟨H,I,q⟩
 | str y =>
  obtain⟨t,rfl⟩:=rx
  obtain⟨hy,e'⟩:y.length<=j7/\k=((y.length:Int) != 0):=e
  subst e'
  exact PySem.P.truthy_str (by omega) ⟨H,I.tok _,q⟩
 | byt y =>
  obtain⟨t,rfl⟩:=rx
  obtain⟨hy,e'⟩:y.size<=j7/\k=((y.size:Int) != 0):=e
  subst e'
  exact PySem.W.truthy_bytes (by omega) ⟨H,I.tok _,q⟩
 | ref p =>
  cases rx
  have e':(∃ xs,SqL X.K H p xs/\k=!xs.isEmpty)\/(∃ xs,SqT X.K H p xs/\k=!xs.isEmpty)\/∃ kvs,H p=some (.dK kvs)/\k=!kvs.isEmpty:=e
  rcases e' with⟨xs,hx,e'⟩ | ⟨xs,hx,e'⟩ | ⟨kvs,hx,e'⟩
  ·subst e'
   obtain⟨its,r,pl,hz⟩:=I.list hx
   have hlen:=r.length
   exact wpAny_truthy_list pl.isList (by simp only[i9];omega) ⟨H,I.tok _,by rw[aG9 r];exact q⟩
  ·subst e'
   obtain⟨its,r,pl,hz⟩:=I.tuple hx
   have hlen:=r.length
   exact truthy_tuple pl (by simp only[i9];omega) ⟨H,I.tok _,by rw[aG9 r];exact q⟩
  ·subst e'
   obtain⟨hz,hS,vs,r,m⟩:kvs.length<=j7/\(p == V4)=false/\∃ vs,KV kvs vs/\s.heap.DictOf (Q9 X.prog X.w) p vs:=I.hok p _ hx
   have hlen:kvs.length=vs.length:=Paired.length r
   exact wpAny_truthy_dict hS m (by omega) ⟨H,I.tok _,by rw[bh4 r];exact q⟩
 | _=>exact(show False from e).elim
theorem aF1 (ha:PE X a ta)(he:∀ whole,isTrue a X.env whole=(do let v <- whole;standAt a.pos;aU5 [v] (truthy v))) :
  PT X a (fun σ H Q=>ta σ H fun x H'=>∃ k,cp9 X.K x H' k/\Q k H'):=by
 intro pins s σ H Q I h
 exact isTrue_plain (thn (ha pins s σ H _ I h) fun v s1 ⟨x,H1,I1,r1,q1⟩=>bZ4 pins s1 σ H1 x v Q I1 r1 q1) (he _)
theorem vals1 {x:V}(r:C8 [x] us):∃ u,us=[u]/\RelV x u:=by
 cases r with
 | cons r1 r2=>cases r2;exact⟨_,rfl,r1⟩
theorem vals2 {x y:V}(r:C8 [x,y] us):∃ u w',us=[u,w']/\RelV x u/\RelV y w':=by
 cases r with
 | cons r1 r2 =>
  cases r2 with
  | cons r3 r4=>cases r4;exact⟨_,_,rfl,r1,r3⟩
theorem ay9 (hc:X.calm=true):S4 X (.builtin "max") (fun xs H Q=>∃ i j,xs=[.int i,.int j]/\Q (.int (if j > i then j else i)) H):=by
 intro pins s σ H xs us Q I r h
 obtain⟨i,j,rfl,q⟩:=h
 obtain⟨u,w',rfl,⟨t,rfl⟩,⟨t',rfl⟩⟩:=vals2 r
 refine max_two_ints (I.ok.hd hc) fun h' tk k=>⟨_,H,I.kept k,?_,q⟩
 by_cases hj:j > i
 ·rw[if_pos hj,if_pos hj];exact⟨_,rfl⟩
 ·rw[if_neg hj,if_neg hj];exact⟨_,rfl⟩
theorem ao1 (hc:X.calm=true):S4 X (.builtin "min") (fun xs H Q=>∃ i j,xs=[.int i,.int j]/\Q (.int (if j<i then j else i)) H):=by
 intro pins s σ H xs us Q I r h
 obtain⟨i,j,rfl,q⟩:=h
 obtain⟨u,w',rfl,⟨t,rfl⟩,⟨t',rfl⟩⟩:=vals2 r
 refine min_two_ints (I.ok.hd hc) fun h' tk k=>⟨_,H,I.kept k,?_,q⟩
 by_cases hj:j<i
 ·rw[if_pos hj,if_pos hj];exact⟨_,rfl⟩
 ·rw[if_neg hj,if_neg hj];exact⟨_,rfl⟩
end
structure ch4 (h:Heap) (x dx C:Addr) (mA:Str->Option Value):Prop where
 obj:h.get? x=some (PySem.W.instObj C dx)
 ns:h.Ns1 dx mA
 ne:dx≠x
theorem bt3 {dx:Addr}(n:h.Ns1 dx mA):∃ od,h.get? dx=some od/\∀ name,PySem.W.lookIn name od=some (mA name):=by
 obtain⟨o,es,ep,ho,hd,hk,_,hm⟩:=n
 refine⟨o,ho,fun name=>?_⟩
 have e:=hm name
 unfold nsFind findBy at e
 rw[<- Array.find?_toList]at e
 unfold PySem.W.lookIn
 rw[hd]
 dsimp only
 split
 ·rename_i y q
  rw[q]at e
  exact congrArg some e
 ·rename_i q
  rw[q]at e
  have a:es.toList.any (·.refKey)=false:=by
   rw[List.any_eq_false]
   intro y hy
   obtain⟨z,t,hkey⟩:=hk y (aw0.mp hy)
   simp[DictEntry.refKey,hkey]
  have a':¬ es.toList.any (·.refKey)=true:=by rw[a];exact i7
  rw[if_neg a']
  exact congrArg some e
theorem ch4.look {x dx:Addr}(I:ch4 h x dx C mA):∃ od,PySem.W.InstAt h x (PySem.W.instObj C dx) C (some od)/\∀ name,PySem.W.lookIn name od=some (mA name):=
 let ⟨od,ho,hl⟩:=bt3 I.ns
 ⟨od,⟨I.obj,rfl,rfl,ho⟩,hl⟩
section
variable {K:W.Frag} {x dx:Addr} {name:Str}
end
theorem aI7.some_of {v:V}{o:Option Value}(r:aI7 (some v) o):∃ u,o=some u/\RelV v u:=by
 cases o with
 | none=>exact(show False from r).elim
 | some u=>exact⟨u,rfl,r⟩
section
variable {dx:Addr} {fs fs':List (Str × V)}
theorem bR9 (hok:HOk P w H h)(e:H a=some (.ins C dx fs)):∃ mA,ch4 h a dx C mA/\(∀ f,aI7 (fs.lookup f) (mA f))/\PySem.Within mA (fs.map (·.1))/\fs.length<=1000/\H dx=some (.own a):=by
 obtain⟨d,z,ne,ob,mA,n,r,q⟩:=(show G7 P w H h a (.ins C dx fs) from hok a _ e)
 exact⟨mA,⟨ob,n,ne⟩,r,q,z,d⟩
end
structure Cls (K:W.Frag) (C:Addr):Prop where
 pg:PySem.W.plainGet K C Str.empty=true
 hd:PySem.W.hasDictIn K C=true
 po:PySem.W.plainOver K C=true
 sa:PySem.W.findIn K (.ref C) "__setattr__"=some (some (.builtin "object.__setattr__"))
theorem Cls.get {K:W.Frag}(c:Cls K C)(f:Str):PySem.W.plainGet K C f=true:=c.pg
structure Con (K:W.Frag) (C:Addr) (f:Str) (v:V) (u:Value):Prop where
 at_:PySem.W.findIn K (.ref C) f=some (some u)
 rel:RelV v u
 get:PySem.W.specialIn K u "__get__"=some none
 cp:PySem.W.copiedNames.contains f=false
structure ct4 (K:W.Frag) (C:Addr) (m:Str) (f:Addr):Prop where
 at_:PySem.W.findIn K (.ref C) m=some (some (.ref f))
 fn:PySem.W.isFn K (.ref f)=true
 kp:U9 K (.ref f)=true
section
variable {dx:Addr} {fs:List (Str × V)} {f:Str} {v:V}
end
section
variable {o value:Expr} {f:Str} {pos' tpos:Pos} {tv:TE}
end
section
variable {c:Value} {b:Bool}
inductive av0 (K:W.Frag) (H:Hp):V->Value->Prop where
 | non:av0 K H .non (.type "NoneType")
 | bl (x:Bool):av0 K H (.bl x) (.type "bool")
 | int (i:Int):av0 K H (.int i) (.type "int")
 | str (x:Str):av0 K H (.str x) (.type "str")
 | flt (x:UInt64):av0 K H (.flt x) (.type "float")
 | lst {a:Addr} {xs:List V} (e:H a=some (.lst xs)):av0 K H (.ref a) (.type "list")
 | frz {a:Addr} {o:Obj} {xs:List V} (e:H a=some (.frz o (.lst xs))):av0 K H (.ref a) (.type "list")
 | tup {a:Addr} {xs:List V} (e:H a=some (.tup xs)):av0 K H (.ref a) (.type "tuple")
 | dK {a:Addr} {kvs:List (Key × V)} (e:H a=some (.dK kvs)):av0 K H (.ref a) (.type "dict")
 | dT {a:Addr} {kvs:List (List Key × V)} (e:H a=some (.dT kvs)):av0 K H (.ref a) (.type "dict")
 | ins {a C dx:Addr} {fs:List (Str × V)} (e:H a=some (.ins C dx fs)) (cl:Cls K C) (ha:PySem.W.findIn K (.ref C) "__class__"=some (some (.builtin "object.__class__")))
   (hn:PySem.W.specialIn K (.builtin "object.__class__") "__get__"=some (some (.builtin "getset_descriptor.__get__"))) (htk:PySem.W.takesIn K (.builtin "object.__class__")=some true)
   (hm:PySem.W.mroIn K C (.type "object")=some true):av0 K H (.ref a) (.ref C)
theorem bu2 {x:V}{t:Value}(I:Inv X pins σ H s)(rx:RelV x u)(ty:av0 X.K H x t)(e:PySem.W.kitOne X.K t c=some b)(h:∀ tk,Q (.bool b) { s with toks:=tk }) :
  p8 (t9 X.prog X.w) A (call (.builtin "isinstance") [u,c]) Q E s:=by
 cases ty with
 | non=>cases (show u=Value.none from rx);exact PySem.W.kia_one PySem.W.kitx_none I.kIn True.intro e (fun z=>nomatch z) h
 | bl y=>cases (show u=Value.bool y from rx);exact PySem.W.kia_one PySem.W.kitx_bool I.kIn True.intro e (fun z=>nomatch z) h
 | int i=>obtain⟨t,q⟩:=(show ∃ t,u=Value.int i t from rx);cases q;exact PySem.W.kia_one PySem.W.kitx_int I.kIn True.intro e (fun z=>nomatch z) h
 | str y=>obtain⟨t,q⟩:=(show ∃ t,u=Value.str y t from rx);cases q;exact PySem.W.kia_one PySem.W.kitx_str I.kIn True.intro e (fun z=>nomatch z) h
 | flt y=>obtain⟨t,q⟩:=(show ∃ t,u=Value.float y t from rx);cases q;exact PySem.W.kia_one PySem.W.kitx_float I.kIn True.intro e (fun z=>nomatch z) h
 | @lst a xs ea =>
  cases (show u=Value.ref a from rx)
  obtain⟨_,_,n,_,h1⟩:=(show G7 X.prog X.w H s.heap a (.lst xs) from I.hok a _ ea)
  exact PySem.W.kia_one PySem.W.kitx_list I.kIn ⟨_,h1,rfl⟩ e (fun z=>nomatch z) h
 | @frz a ob xs ea =>
  cases (show u=Value.ref a from rx)
  obtain⟨_,_,_,n,_,h1⟩:=(show G7 X.prog X.w H s.heap a (.frz ob (.lst xs)) from I.hok a _ ea)
  exact PySem.W.kia_one PySem.W.kitx_list I.kIn ⟨_,h1,rfl⟩ e (fun z=>nomatch z) h
 | @tup a xs ea =>
  cases (show u=Value.ref a from rx)
  obtain⟨_,_,_,p⟩:=(show G7 X.prog X.w H s.heap a (.tup xs) from I.hok a _ ea)
  obtain⟨o,h1,h2,_⟩:=p
  exact PySem.W.kia_one PySem.W.kitx_tuple I.kIn ⟨o,h1,h2⟩ e (fun z=>nomatch z) h
 | @dK a kvs ea =>
  cases (show u=Value.ref a from rx)
  obtain⟨_,_,vs,_,p⟩:=(show G7 X.prog X.w H s.heap a (.dK kvs) from I.hok a _ ea)
  obtain⟨o,es,ep,h1,h2,_⟩:=p
  exact PySem.W.kia_one PySem.W.kitx_dict I.kIn ⟨o,h1,h2.1⟩ e (fun z=>nomatch z) h
 | @dT a kvs ea =>
  cases (show u=Value.ref a from rx)
  obtain⟨_,_,xs,_,o,es,ep,h1,h2,_⟩:=(show G7 X.prog X.w H s.heap a (.dT kvs) from I.hok a _ ea)
  exact PySem.W.kia_one PySem.W.kitx_dict I.kIn ⟨o,h1,h2.1⟩ e (fun z=>nomatch z) h
 | @ins a C dx fs ea cl ha hn htk hm =>
  cases (show u=Value.ref a from rx)
  obtain⟨mA,O,_⟩:=bR9 I.hok ea
  obtain⟨od,J,_⟩:=O.look
  exact PySem.W.kia_one (PySem.W.kitx_own (cl.get _) cl.hd ha hn htk hm) I.kIn J e (fun z=>nomatch z) h
end
structure Z0 (k:Nat) (A:Around):Prop where
 hd:A.handled=none
 dp:A.depth+3*k+5<aJ3
 un:A.units+16*k+200<ae8
theorem Z0.mono {k:Nat}(r:Z0 k A)(h:j<=k):Z0 j A:=⟨r.hd,by have:=r.dp;omega,by have:=r.un;omega⟩
theorem Z0.deeper {k:Nat}(r:Z0 (k+1) A)(env:Env):Z0 k (A.deeper env):=
 ⟨r.hd,by have:=r.dp;show A.depth+1+3*k+5<_;omega,by have:=r.un;show A.units+3+16*k+200<_;omega⟩
theorem Z0.depth {k:Nat}(r:Z0 k A):A.depth<aJ3:=by have:=r.dp;omega
theorem Z0.units {k:Nat}(r:Z0 k A):A.units+64<ae8:=by have:=r.un;omega
def bx2:TA:=fun _ H Q=>Q [] H
def aW0 (ta:TE)(tr:TA):TA:=fun σ H Q=>ta σ H fun x H1=>tr σ H1 fun xs H2=>Q (x::xs) H2
section
variable {t:TA}
theorem d4:PA X [] bx2:=fun _ _ _ _ H Q I h=>Calls.spliced_nil ⟨[],H,I,.nil,h⟩
theorem b9 (ha:PE X e te)(hr:PA X es t)(hs:v9 (e::es) X.env=(false,eval e X.env)::v9 es X.env:=by rfl):PA X (e::es) (aW0 te t):=by
 intro pos pins s σ H Q I h
 rw[hs]
 show p8 _ _ (spliced ((false,eval e X.env)::V0 pos (v9 es X.env))) _ _ s
 refine Calls.spliced_cons (thn (ha pins s σ H _ I h) fun u s1 ⟨x,H1,I1,r1,q1⟩=>?_)
 exact thn (hr pos pins s1 σ H1 _ I1 q1) fun us s2 ⟨xs,H2,I2,r2,q2⟩=>⟨x::xs,H2,I2,.cons r1 r2,q2⟩
def cq6 (t:TA):TE:=fun σ H Q=>t σ H fun xs H1=>xs.length<=j7/\∀ p,H1 p=none->Q (.ref p) (upd H1 p (.tup xs))
def cr0 (t:TA):TE:=fun σ H Q=>t σ H fun xs H1=>xs.length<=j7/\∀ p,H1 p=none->Q (.ref p) (upd H1 p (.lst xs))
theorem R9 {x1}(h:PA X es t):PE X (.Tuple es x1 pos) (cq6 t):=by
 intro pins s σ H Q I hq
 refine wpAny_Tuple_spliced (thn (h pos pins s σ H _ I hq) fun us s1 ⟨xs,H1,I1,r,z,q⟩=>⟨by rw[<- r.length];exact z,?_⟩)
 have hf:H1 s1.heap.objs.size=none:=I1.hok.fresh (c9 _)
 refine⟨.ref s1.heap.objs.size,upd H1 s1.heap.objs.size (.tup xs),I1.laid (t':=s1.toks) (fun b u e=>c5 _ e) (c9 _) ?_,rfl,q _ hf⟩
 exact⟨z,us,r,⟨_,i6 _ rfl,rfl,_,rfl⟩⟩
theorem Z6 (h:PA X es t):PE X (.List es pos) (cr0 t):=by
 intro pins s σ H Q I hq
 refine wpAny_List_spliced (thn (h pos pins s σ H _ I hq) fun us s1 ⟨xs,H1,I1,r,z,q⟩=>⟨by rw[<- r.length];exact z,?_⟩)
 have hf:H1 s1.heap.objs.size=none:=I1.hok.fresh (c9 _)
 refine⟨.ref s1.heap.objs.size,upd H1 s1.heap.objs.size (.lst xs),I1.laid (t':=s1.toks) (fun b u e=>c5 _ e) (c9 _) ?_,rfl,q _ hf⟩
 exact⟨z,us,0,r,i6 _ rfl⟩
end
abbrev Sp:=List V->Hp->VK->XK->Prop
abbrev CXT:=List Env->Hp->Shared->XK->Value->Shared->Prop
structure bJ1 (P:Program) (w:World) (K:W.Frag) (mg:Str->Option Value) (base:Heap) (A:Around) (outer:List Env) (s:Shared) (H:Hp):Prop where
 frames:A.frames=some outer
 mod:Mod K mg base
 bs:∀ b o,base.get? b=some o->s.heap.get? b=some o/\H b=none
 bsz:base.objs.size<=s.heap.objs.size
 funs:s.heap.FunFrames base outer
 frf:∀ b∈frs outer,H b=none
 hok:HOk P w H s.heap
 bare:aA5 s.gens
def CE (outer:List Env)(P:Program)(w:World)(H:Hp)(s:Shared)(Q:VK)(u:Value)(s':Shared):Prop:=
 ∃ v H',s'.os=s.os/\aA5 s'.gens/\Un (frs outer) [] H H' s.heap s'.heap/\HOk P w H' s'.heap/\RelV v u/\Q v H'
def CR (CX:CXT)(outer:List Env)(P:Program)(w:World)(H:Hp)(s:Shared)(Q:VK)(E:XK)(r:Result)(s':Shared):Prop:=
 match r with
 | .ok (.ret u)=>CE outer P w H s Q u s'
 | .ok _=>False
 | .error e=>CX outer H s E e s'
structure A0 (P:Program) (w:World) (K:W.Frag) (mg:Str->Option Value) (base:Heap) (CX:CXT) (k:Nat) (f:Addr) (fd:FuncData) (ps:List Str) (sp:Sp):Prop where
 len:∀ vs H Q E,sp vs H Q E->vs.length=ps.length
 run:∀ (A:Around) (outer:List Env) (s:Shared) (H:Hp) (args:Args) (us:List Value) (vs:List V) (Q:VK) (E:XK),Z0 k A->bJ1 P w K mg base A outer s H->bq4 s fd args (ps.zip us)->C8 vs us->sp vs H Q E ->
  ar8 (t9 P w) A (.call (.ref f) args) (CR CX outer P w H s Q E) s
theorem A0.mono {K:W.Frag}{mg:Str->Option Value}{base:Heap}{CX:CXT}{k:Nat}{sp:Sp}(F:A0 P w K mg base CX j f fd ps sp)(h:j<=k) :
  A0 P w K mg base CX k f fd ps sp:=⟨F.len,fun A outer s H args us vs Q E hr=>F.run A outer s H args us vs Q E (hr.mono h)⟩
section
variable {s':Shared}
theorem Inv.env0 (I:Inv X pins σ H s):bJ1 X.prog X.w X.K X.mg X.base X.A X.stack s H:=
 ⟨I.ok.frames,I.ok.mod,I.bs,x9 I.ok.bsz I.sz,I.stack,I.stkFree,I.hok,I.bare⟩
theorem Inv.after {Q:VK}(I:Inv X pins σ H s)(h:CE X.stack X.prog X.w H s Q u s'):EP X pins σ Q u s':=by
 obtain⟨v,H',os,bare,un,hok,r,q⟩:=h
 obtain⟨hh,g,d,t,os'⟩:=s'
 obtain rfl:os'=s.os:=os
 exact⟨v,H',I.call (h':=hh) (g':=g) (d':=d) (t':=t) (ch:=[]) un hok bare (fun b z=>absurd z (by simp)),r,q⟩
end
def bV4 (sp:Sp)(dvs:List V)(E:XK)(t:TA):TE:=fun σ H Q=>t σ H fun vs H1=>sp (vs++dvs) H1 Q E
def Binds (K:W.Frag)(fd:FuncData)(ps:List Str)(ds:List Value):Prop:=
 ∀ (s:Shared) (us:List Value),K.In s.heap->(us++ds).length=ps.length->bq4 s fd ⟨us,[]⟩ (ps.zip (us++ds))
theorem Binds.all {K:W.Frag}(h:∀ us:List Value,us.length=ps.length->bj8 fd ⟨us,[]⟩=pure (ps.zip us)):Binds K fd ps []:=fun s us _ hl=>by
 rw[B4]at hl ⊢
 exact .of_eq (h us hl)
def az1 (CX:CXT)(X:Cx)(E:XK):Prop:=∀ (pins:List (Addr × Obj)) (σ:St) (H:Hp) (s:Shared) (e:Value) (s':Shared),Inv X pins σ H s->CX X.stack H s E e s'->X.xe e s'
section
variable {CX:CXT} {k:Nat} {sp:Sp} {dvs:List V} {ds:List Value} {E:XK} {m:Str} {p apos:Pos} {o:Expr} {t:TA}
theorem bA5 {Q:VK}{vs:List V}(F:A0 X.prog X.w X.K X.mg X.base CX k f fd ps sp)(hr:Z0 k X.A)(hb:Binds X.K fd ps ds)(hd:C8 dvs ds)(hx:az1 CX X E)
  (I:Inv X pins σ H s)(r:C8 vs us)(h:sp (vs++dvs) H Q E):p8 (t9 X.prog X.w) X.A (call (.ref f) us) (EP X pins σ Q) X.xe s:=by
 have r2:C8 (vs++dvs) (us++ds):=r.append hd
 have hl:(us++ds).length=ps.length:=by rw[<- r2.length];exact F.len _ _ _ _ h
 refine bJ6 (am7 (F.run X.A X.stack s H ⟨us,[]⟩ (us++ds) (vs++dvs) Q E hr I.env0 (hb s us I.kIn hl) r2 h) fun r s' hq=>?_)
 cases r with
 | error e=>exact hx pins σ H s e s' I hq
 | ok fl =>
  cases fl with
  | ret u=>exact I.after hq
  | next=>exact False.elim hq
  | brk=>exact False.elim hq
  | cont=>exact False.elim hq
theorem aC3 (F:A0 X.prog X.w X.K X.mg X.base CX k f fd ps sp)(hr:Z0 k X.A)(hg:Gl X x)(hm:X.mg x=some (.ref f))(hk:U9 X.K (.ref f)=true)(hb:Binds X.K fd ps ds)(hd:C8 dvs ds)(hx:az1 CX X E)
  (ha:PA X (e::es) t)(hdb:(x == ("__debug__":Str))=false:=by decide)(he:v9 (e::es) X.env=(false,eval e X.env)::v9 es X.env:=by rfl)(hpl:(V0 pos (v9 es X.env)).any (·.1)=false:=by rfl) :
  PE X (.Call (.Name x p) (e::es) [] pos) (bV4 sp dvs E t):=by
 intro pins s σ H Q I h
 refine M0 (aC5 I hg hm ?_ hdb)
 refine PySem.W.callWith_K (h₀:=X.base) I.ok.mod.kin hk (thn (ha pos pins s σ H _ I h) fun us s1 ⟨vs,H1,I1,r,q⟩=>⟨I1.kIn,?_⟩) he hpl
 exact bA5 F hr hb hd hx I1 r q
structure Mk (K:W.Frag) (C f:Addr):Prop where
 makes:PySem.W.makesIn K C=true
 init:PySem.W.findIn K (.ref C) "__init__"=some (some (.ref f))
 fn:PySem.W.isFn K (.ref f)=true
 kp:U9 K (.ref C)=true
end
def PK (X:Cx)(kws:List aJ8)(t:TA):Prop:=
 ∀ (pos:Pos) (pins:List (Addr × Obj)) (s:Shared) (σ:St) (H:Hp) (Q:List V->Hp->Prop),Inv X pins σ H s->t σ H Q->p8 (t9 X.prog X.w) X.A (evalAll ((bK7 pos (aJ9 kws X.env)).map (·.2))) (AP X pins σ Q) X.xe s
section
variable {CX:CXT} {k:Nat} {ks:List Str} {sp:Sp} {E:XK} {m:Str} {p apos kpos:Pos} {o:Expr} {kws:List aJ8} {t tk:TA} {nm:Option Str}
theorem bg3:PK X [] bx2:=fun _ _ _ _ H Q I h=>wpAny_evalAll_nil ⟨[],H,I,.nil,h⟩
theorem aQ8 (ha:PE X e te)(hr:PK X kws t):PK X (⟨nm,e,kpos⟩::kws) (aW0 te t):=by
 intro pos pins s σ H Q I h
 show p8 _ _ (evalAll ((do let v <- eval e X.env;standAt pos;pure v)::(bK7 pos (aJ9 kws X.env)).map (·.2))) _ _ s
 refine wpAny_evalAll_cons (b7 (thn (ha pins s σ H _ I h) fun u s1 ⟨x,H1,I1,r1,q1⟩=>b7 (ar7 (d3 ?_))))
 exact thn (hr pos pins s1 σ H1 _ I1 q1) fun us s2 ⟨xs,H2,I2,r2,q2⟩=>⟨x::xs,H2,I2,.cons r1 r2,q2⟩
structure ct2 (K:W.Frag) (fd:FuncData) (ps ks:List Str) (g:List Value->List Value->List Value) (gV:List V->List V->List V):Prop where
 to:∀ (s:Shared) (us ws:List Value),K.In s.heap->(g us ws).length=ps.length->bq4 s fd ⟨us,ks.zip ws⟩ (ps.zip (g us ws))
 rel:∀ {vs:List V} {us:List Value} {zs:List V} {ws:List Value},C8 vs us->C8 zs ws->C8 (gV vs zs) (g us ws)
variable {g:List Value->List Value->List Value}
end
structure y9 (N P:List Str) (sc:Scope):Prop where
 kind:sc.kind=.function
 co:sc.isCoroutine=false
 gen:sc.isGenerator=false
 nd:N.Nodup
 pre:N.take P.length=P
 par:∀ x∈P,sc.names.lookup x=some .local\/sc.names.lookup x=some .cell
 nofree:∀ y∈sc.names,y.2≠.free
theorem y9.mk' {P:List Str}{sc:Scope}(a:sc.kind=.function:=by rfl)(b:sc.isCoroutine=false:=by rfl)(c:sc.isGenerator=false:=by rfl)(d:N.Nodup:=by decide +kernel)(e:N.take P.length=P:=by rfl)(f:∀ x∈P,sc.names.lookup x=some .local\/sc.names.lookup x=some .cell:=by decide +kernel)(g:∀ y∈sc.names,y.2≠.free:=by decide +kernel):y9 N P sc:=⟨a,b,c,d,e,f,g⟩
theorem aO0 {kindOf:Str->Option aO9}:∀ {binds:List (Str × Value)} {m:Str->Option Value},(∀ v,(x,v)∉binds)->bindL kindOf binds m x=m x
 | [],_,_=>rfl
 | (n,v)::r,m,h=>by
  unfold bindL
  rw[aO0 fun w hw=>h w (d6 _ hw)]
  split
  ·have:x≠n:=by rintro rfl;exact h v f9
   simp[this]
  ·rfl
theorem aO2 {kindOf:Str->Option aO9}:∀ {binds:List (Str × Value)} {m:Str->Option Value},(∀ v,(x,v)∉binds)->bindC kindOf binds m x=m x
 | [],_,_=>rfl
 | (n,v)::r,m,h=>by
  unfold bindC
  rw[aO2 fun w hw=>h w (d6 _ hw)]
  split
  ·rfl
  ·have:x≠n:=by rintro rfl;exact h v f9
   simp[this]
theorem aO1 {kindOf:Str->Option aO9}:∀ {P:List Str} {vs:List Value} {i:Nat} {m:Str->Option Value},P.Nodup->P[i]?=some x->vs[i]?=some v->kindOf x=some .local ->
  bindL kindOf (P.zip vs) m x=some v
 | [],_,_,_,_,h,_,_=>by simp at h
 | _::_,[],_,_,_,_,h,_=>by simp at h
 | p::P,w::vs,0,m,nd,h1,h2,hk=>by
  simp at h1 h2;subst h1;subst h2
  show bindL kindOf ((p,w)::P.zip vs) m p=_
  unfold bindL
  rw[aO0 fun v hv=>(B5.mp nd).1 (av4 hv).1,if_pos hk]
  simp
 | p::P,w::vs,i+1,m,nd,h1,h2,hk=>by
  show bindL kindOf ((p,w)::P.zip vs) m x=_
  unfold bindL
  exact aO1 (i:=i) (B5.mp nd).2 (by simpa using h1) (by simpa using h2) hk
theorem aO3 {kindOf:Str->Option aO9}:∀ {P:List Str} {vs:List Value} {i:Nat} {m:Str->Option Value},P.Nodup->P[i]?=some x->vs[i]?=some v->kindOf x≠some .local ->
  bindC kindOf (P.zip vs) m x=some v
 | [],_,_,_,_,h,_,_=>by simp at h
 | _::_,[],_,_,_,_,h,_=>by simp at h
 | p::P,w::vs,0,m,nd,h1,h2,hk=>by
  simp at h1 h2;subst h1;subst h2
  show bindC kindOf ((p,w)::P.zip vs) m p=_
  unfold bindC
  rw[aO2 fun v hv=>(B5.mp nd).1 (av4 hv).1,if_neg hk]
  simp
 | p::P,w::vs,i+1,m,nd,h1,h2,hk=>by
  show bindC kindOf ((p,w)::P.zip vs) m x=_
  unfold bindC
  exact aO3 (i:=i) (B5.mp nd).2 (by simpa using h1) (by simpa using h2) hk
def start (N:List Str)(vs:List V):St:=vs.map some++u5 (N.length - vs.length) none
def am2 (CX:CXT)(P:Program)(w:World)(K:W.Frag)(mg:Str->Option Value)(base:Heap)(N:List Str)(qual:Str)(scope:Scope)(f:Addr)(cd:Value)(A:Around)(outer:List Env)(s:Shared)(H:Hp)(E:XK):Cx where
 prog:=P
 w:=w
 K:=K
 mg:=mg
 base:=base
 A:=A.deeper (O9 qual scope s.heap.objs.size f cd)
 N:=N
 s₀:=s
 H₀:=H
 env:=O9 qual scope s.heap.objs.size f cd
 outer:=outer
 stack:=O9 qual scope s.heap.objs.size f cd::outer
 ex:=[]
 calm:=true
 fn:=fun _=>true
 pn:=[]
 xe:=fun e s'=>p8 (t9 P w) (A.deeper (O9 qual scope s.heap.objs.size f cd)) (leaving (O9 qual scope s.heap.objs.size f cd) e) (fun _ s''=>CX outer H s E e s'') (fun e' s''=>CX outer H s E e' s'') s'
theorem bc7 {sc:Scope}(h:sc.names.lookup x=some .cell):∃ c,(cellsFrom n sc.names []).lookup x=some c:=by
 have q:=PySem.W.cellsFrom_some sc.names n [] (.inl h)
 exact o9.mp q
theorem bu4 {CX:CXT}{K:W.Frag}{mg:Str->Option Value}{base:Heap}{cd:Value}{outer:List Env}{s1:Shared}{E:XK}{vs:List V}
  (S:y9 N ps scope)(hd:A.handled=none)(e0:bJ1 P w K mg base A outer s H)(hl:vs.length=ps.length)(r:C8 vs us)
  (x:InCallC s s.heap.objs.size (bindL (O9 qual scope s.heap.objs.size f cd).kindOf (ps.zip us) fun _=>none) (cellsFrom (s.heap.objs.size+1) scope.names []) (bindC (O9 qual scope s.heap.objs.size f cd).kindOf (ps.zip us) fun _=>none) s1) :
  Inv (am2 CX P w K mg base N qual scope f cd A outer s H E) [] (start N vs) H s1:=by
 have hpl:ps.length<=N.length:=by have:=congrArg ao9 S.pre;rw[q8]at this;omega
 obtain⟨h1,tk,rfl,hk⟩:=x.done
 have noA:∀ b:Addr,b∉(am2 CX P w K mg base N qual scope f cd A outer s H E).ex:=fun b z=>absurd (show b∈([]:List Addr) from z) (by simp)
 refine⟨⟨e0.mod,S.kind,rfl,rfl,c9 _,fun y z c h1 h2=>?_,fun y hy=>?_,fun y c _ h=>?_,fun _=>hd,Around.frames_deeper e0.frames,.inr ⟨rfl,rfl⟩,fun b z=>absurd z (noA b),e0.bs,e0.bsz,fun b _ _=>noA b,fun b z=>absurd z (noA b),e0.funs,e0.frf⟩,
  rfl,e0.bare,Un.kept hk,⟨_,x.toInCall.ns,fun i y v h1 h2 h3=>?_⟩,fun y c h=>⟨_,x.cell y c h⟩,e0.hok.fresh (c9 _),fun y c h=>?_,fun p hp=>absurd (show p∈([]:List (Addr × Obj)) from hp) (by simp),e0.hok.kept hk,?_⟩
 ·exact name_of_addr x.apart (PySem.mem_of_lookup h1) (PySem.mem_of_lookup h2)
 ·have hy:scope.names.lookup y=some .cell\/scope.names.lookup y=some .free:=hy
  rcases hy with hy | hy
  ·exact bc7 hy
  ·exact absurd rfl (S.nofree _ (PySem.mem_of_lookup hy))
 ·exact av9 (x.above y c (PySem.mem_of_lookup h))
 ·have hi:i<vs.length:=by
   unfold start at h2
   by_cases hi:i<vs.length
   ·exact hi
   ·rw[C6 (by simpa using hi)]at h2
    rw[bw1]at h2
    split at h2<;>cases h2
  have ha:vs[i]?=some v:=by
   unfold start at h2
   rw[O7 (by simpa using hi),o5]at h2
   cases e:vs[i]? with
   | none=>rw[e]at h2;cases h2
   | some a=>rw[e]at h2;cases h2;rfl
  obtain⟨u,hu,rv⟩:=r.get ha
  have hp:ps[i]?=some y:=by
   rw[<- S.pre,X6 (by omega)];exact h1
  have ndP:ps.Nodup:=by rw[<- S.pre];exact S.nd.sublist (M7 _ _)
  refine⟨u,rv,?_⟩
  rcases S.par y (d8 hp) with k | k
  ·exact .inl ⟨k,aO1 ndP hp hu k⟩
  ·obtain⟨c,e⟩:=bc7 (n:=s.heap.objs.size+1) k
   refine .inr ⟨.inl k,c,e,?_⟩
   have q:=x.cell y c e
   rw[aO3 ndP hp hu (by show scope.names.lookup y≠_;rw[k];decide)]at q
   exact q
 ·exact e0.hok.fresh (av9 (x.above y c (PySem.mem_of_lookup h)))
 ·unfold start
  show _=N.length
  rw[m6,b8,av5]
  omega
theorem bG5 {CX:CXT} {K:W.Frag} {mg:Str->Option Value} {base:Heap} {k:Nat} {name:Str} {body:List Stmt} {dV kV doc pm cdv ct oc:Value} {an od:Option Addr}
  {osl:Array (Option Value)} {sp:Sp} (lk:K.lookup f=some ⟨oc,od,.func (W8 name qual params body scope dV kV doc pm an cdv ct),osl⟩) (hcd:aU3 K cdv qual=true) (S:y9 N ps scope)
  (len:∀ vs H Q E,sp vs H Q E->vs.length=ps.length)
  (hbody : ∀ (A : Around) (outer : List Env) (s : Shared) (H : Hp) (vs : List V) (Q : VK) (E : XK), Z0 k (A.deeper (O9 qual scope s.heap.objs.size f cdv)) -> sp vs H Q E ->
   ∃ t,PSs (am2 CX P w K mg base N qual scope f cdv A outer s H E) body t/\t { nx:=fun _ H'=>Q .non H',rt:=Q } (start N vs) H) :
  A0 P w K mg base CX (k+1) f (W8 name qual params body scope dV kV doc pm an cdv ct) ps sp:=by
 refine⟨len,fun A outer s H args us vs Q E hr e0 hb r hsp=>?_⟩
 have hl:=len _ _ _ _ hsp
 have KX:K.In s.heap:=e0.mod.kin.keeps fun b o e=>(e0.bs b o e).1
 have lim:s.heap.NoLimit:=e0.mod.nolimit.keeps fun b o e=>(e0.bs b o e).1
 have hkind:∀ y∈ps.zip us,scope.names.lookup y.1=some .local\/(scope.names.lookup y.1=some .cell/\((cellsFrom (s.heap.objs.size+1) scope.names []).lookup y.1).isSome=true):=fun⟨n,v⟩ hy=>by
  rcases S.par n (av4 hy).1 with q | q
  ·exact .inl q
  ·exact .inr ⟨q,PySem.W.cellsFrom_some _ _ _ (.inl q)⟩
 refine codeAny_call_function hr.depth (KX _ _ lk) rfl S.co S.gen rfl (PySem.W.codeRec_of KX hcd) (hb _ _ _ _ ?_)
 refine wpAny_newFunctionEnv_cells S.kind hkind fun env he s1 x=>?_
 subst he
 refine⟨lim.keeps x.toInCall.keep,codeAny_func ?_⟩
 obtain⟨t,ht,hq⟩:=hbody A outer s H vs Q E (hr.deeper _) hsp
 have I:Inv (am2 CX P w K mg base N qual scope f cdv A outer s H E) [] (start N vs) H s1:=bu4 S hr.hd e0 hl r x
 refine E3 (ht [] s1 (start N vs) H _ I hq) (fun fl s' hs=>?_) fun e s' hs=>hs
 have fin:∀ {σ':St} {H':Hp} {v:V} {u:Value},Inv (am2 CX P w K mg base N qual scope f cdv A outer s H E) [] σ' H' s'->RelV v u->Q v H'->CE outer P w H s Q u s':=
  fun {σ' H' v u} J rv q=>⟨v,H',J.os,J.bare,J.base,J.hok,rv,q⟩
 cases fl with
 | ret u =>
  obtain⟨v,σ',H',J,rv,q⟩:=hs
  exact fin J rv q
 | next =>
  obtain⟨σ',H',J,q⟩:=hs
  exact fin (v:=V.non) (u:=Value.none) J rfl q
 | brk =>
  obtain⟨_,_,_,q⟩:=hs
  exact False.elim q
 | cont =>
  obtain⟨_,_,_,q⟩:=hs
  exact False.elim q
section
variable {p:Pos} {t:TA} {id T:String} {r:List V->Hp->VK->Prop}
def tCB (r:List V->Hp->VK->Prop)(t:TA):TE:=fun σ H Q=>t σ H fun vs H1=>r vs H1 Q
theorem p7 (hc:S4 X (.builtin id) r)(hg:Gl X x)(hm:X.mg x=none)(hv:L6 x=some (.builtin id))(ha:PA X (e::es) t)(hn:x≠"__name__":=by decide)(hdb:(x == ("__debug__":Str))=false:=by decide)
  (he:v9 (e::es) X.env=(false,eval e X.env)::v9 es X.env:=by rfl)(hpl:(V0 pos (v9 es X.env)).any (·.1)=false:=by rfl):PE X (.Call (.Name x p) (e::es) [] pos) (tCB r t):=by
 intro pins s σ H Q I h
 refine M0 (Z7 I hg hm hv ?_ hn hdb)
 exact PyProof.Rows.callWith_builtin1 (thn (ha pos pins s σ H _ I h) fun us s1 ⟨vs,H1,I1,r1,q1⟩=>hc pins s1 σ H1 vs us Q I1 r1 q1) he hpl
theorem O2 (hc:S4 X (.type T) r)(hg:Gl X x)(hm:X.mg x=none)(hv:L6 x=some (.type T))(ha:PA X (e::es) t)(hn:x≠"__name__":=by decide)(hdb:(x == ("__debug__":Str))=false:=by decide)
  (he:v9 (e::es) X.env=(false,eval e X.env)::v9 es X.env:=by rfl)(hpl:(V0 pos (v9 es X.env)).any (·.1)=false:=by rfl):PE X (.Call (.Name x p) (e::es) [] pos) (tCB r t):=by
 intro pins s σ H Q I h
 refine M0 (Z7 I hg hm hv ?_ hn hdb)
 exact PyProof.Rows.callWith_type1 (thn (ha pos pins s σ H _ I h) fun us s1 ⟨vs,H1,I1,r1,q1⟩=>hc pins s1 σ H1 vs us Q I1 r1 q1) he hpl
end
end L2
namespace HT
open PySem PyProof.Rows
def lexLt:List Int->List Int->Bool
 | [],[]=>false
 | [],_::_=>true
 | _::_,[]=>false
 | x::xs,y::ys=>if x=y then lexLt xs ys else decide (x<y)
theorem ai3 (x y:Int)(xs ys:List Int):lexLt (x::xs) (y::ys)=if x=y then lexLt xs ys else decide (x<y):=rfl
theorem bH0 (A:Around)(s:Shared)(a:Int)(t:Tok)(c:Int)(u:Tok):∃ e,SeqAt.EqAt A s (.int a t) (.int c u) e/\(e=true↔a=c):=
 ⟨(a == c),SeqAt.EqAt.int_int a t c u,by simp⟩
section
open PySem.SeqAt
open PySem.AutoSeq1 (wpAny_loadPart')
open PySem.MeetsSeq PySem.MeetsSeq2 PySem.MeetsSeq3
end
def sIx (n d:Nat):Option Int->Nat
 | none=>d
 | some v=>if v<0 then (v+(n:Int)).toNat else min v.toNat n
theorem aX2 (n d:Nat):sIx n d none=d:=rfl
theorem bl5 (n d k:Nat):sIx n d (some (k:Int))=min k n:=by
 show (if (k:Int)<0 then ((k:Int)+(n:Int)).toNat else min (k:Int).toNat n)=min k n
 rw[if_neg (by omega),m7]
end HT
namespace L2
open PySem PySem.Spec PyProof.Rows
abbrev TO:=St->Hp->(Option Int->Hp->Prop)->Prop
def PO (X:Cx)(e:Option Expr)(t:TO):Prop:=
 ∀ (pins:List (Addr × Obj)) (s:Shared) (σ:St) (H:Hp) (Q:Option Int->Hp->Prop),Inv X pins σ H s->t σ H Q ->
  p8 (t9 X.prog X.w) X.A (evalPart e X.env) (fun u s'=>∃ o H',Inv X pins σ H' s'/\IsPart u o/\Q o H') X.xe s
def bM6:TO:=fun _ H Q=>Q none H
def ck4 (t:TE):TO:=fun σ H Q=>t σ H fun x H1=>∃ i,x=.int i/\Q (some i) H1
theorem intsAre_of:∀ {us:List Value},C8 (ns.map V.int) us->J7 us ns:=by
 induction ns with
 | nil=>intro us r;rw[bJ3]at r;cases r;exact .nil
 | cons n ns ih =>
  intro us r
  rw[m8]at r
  cases r with
  | cons r1 r2 =>
   obtain⟨t,e⟩:=r1
   subst e
   exact .cons n t (ih r2)
section
variable {lo hi:Option Expr} {tl th:TO} {p2:Pos}
theorem at4:PO X none bM6:=by
 intro pins s σ H Q I h
 rw[evalPart_none]
 exact d3 ⟨none,H,I,.none,h⟩
theorem ai0 (h:PE X e te):PO X (some e) (ck4 te):=by
 intro pins s σ H Q I hw
 rw[evalPart_some]
 refine thn (h pins s σ H _ I hw) fun u s1 ⟨x,H1,I1,r1,q1⟩=>?_
 obtain⟨i,rfl,q⟩:=q1
 obtain⟨t,rfl⟩:=r1
 exact⟨some i,H1,I1,.int i t,q⟩
def SlR (X:Cx)(r:V->Option Int->Option Int->Hp->VK->Prop):Prop:=
 ∀ (pins:List (Addr × Obj)) (s:Shared) (σ:St) (H:Hp) (x:V) (v vl vu:Value) (lo hi:Option Int) (sl:Addr) (Q:VK),Inv X pins σ H s->RelV x v->s.heap.IsSliceOf sl vl vu .none->IsPart vl lo->IsPart vu hi->r x lo hi H Q ->
  ∃ T id,typeLookup (.type T) "__getitem__"=pure (some (.builtin id))/\s.TypeIs v T/\p8 (t9 X.prog X.w) X.A (bK8 v (.ref sl)) (EP X pins σ Q) X.xe s
def tSl (r:V->Option Int->Option Int->Hp->VK->Prop)(te:TE)(tl th:TO):TE:=fun σ H Q=>te σ H fun x H1=>tl σ H1 fun l H2=>th σ H2 fun u H3=>r x l u H3 Q
theorem ag0 {r:V->Option Int->Option Int->Hp->VK->Prop}(hr:SlR X r)(he:PE X e te)(hl:PO X lo tl)(hu:PO X hi th):PE X (.Subscript e (.Slice lo hi none p2) pos) (tSl r te tl th):=by
 intro pins s σ H Q I h
 refine Subscript_ (thn (he pins s σ H _ I h) fun v s1 ⟨x,H1,I1,r1,q1⟩=>?_)
 refine wpAny_Slice (thn (hl pins s1 σ H1 _ I1 q1) fun vl s2 ⟨l,H2,I2,pl,q2⟩=>thn (hu pins s2 σ H2 _ I2 q2) fun vu s3 ⟨u,H3,I3,pu,q3⟩=>?_)
 rw[evalPart_none]
 refine d3 ?_
 have I4:Inv X pins σ H3 { s3 with heap:=s3.heap.push { cls:=.type "slice",data:=.fields #[vl,vu,.none] } }:=I3.kept (t':=s3.toks) fun b ob q=>c5 _ q
 obtain⟨T,id,hT,ht,hg⟩:=hr pins { s3 with heap:=s3.heap.push { cls:=.type "slice",data:=.fields #[vl,vu,.none] } } σ H3 x v vl vu l u s3.heap.objs.size Q I4 r1 (Heap.IsSliceOf.new ..) pl pu q3
 show p8 (t9 X.prog X.w) X.A (bK9 e (.Slice lo hi none p2) v (.ref s3.heap.objs.size)) (EP X pins σ Q) X.xe { s3 with heap:=s3.heap.push { cls:=.type "slice",data:=.fields #[vl,vu,.none] } }
 exact tail_any (ops:=[.ref s3.heap.objs.size,v]) ht hT hg (by with_unfolding_all rfl)
def ay5 (xs:List V)(lo hi:Option Int):List V:=(xs.drop (HT.sIx xs.length 0 lo)).take (HT.sIx xs.length xs.length hi - HT.sIx xs.length 0 lo)
theorem bc3 (xs:List V)(lo hi:Option Int):(ay5 xs lo hi).length<=xs.length:=by
 unfold ay5
 rw[q8,F3]
 omega
end
def ixN (n:Nat)(i:Int):Option Nat:=if 0<=i then (if i<n then some i.toNat else none) else if -(n:Int)<=i then some (i+n).toNat else none
def atI {α:Type}(xs:List α)(i:Int):Option α:=(ixN xs.length i).bind fun j=>xs[j]?
theorem bn3 {i:Int}(h:ixN n i=some j):seqIndex? i n=some j/\j<n /\ -(n:Int)<=i/\i<n:=by
 unfold ixN at h
 by_cases h0:0<=i
 ·rw[if_pos h0]at h
  by_cases h1:i<n
  ·rw[if_pos h1]at h
   have e:i.toNat=j:=Option.some.inj h
   exact⟨by rw[cj4 h0 h1,e],by omega,by omega,h1⟩
  ·rw[if_neg h1]at h;cases h
 ·rw[if_neg h0]at h
  by_cases h1:-(n:Int)<=i
  ·rw[if_pos h1]at h
   have e:(i+n).toNat=j:=Option.some.inj h
   exact⟨by rw[bY2 (by omega) h1,e],by omega,h1,by omega⟩
  ·rw[if_neg h1]at h;cases h
theorem aT0 {α:Type}{xs:List α}{i:Int}{v:α}(h:atI xs i=some v):∃ j,seqIndex? i xs.length=some j/\xs[j]?=some v/\j<xs.length /\ -(xs.length:Int)<=i/\i<xs.length:=by
 unfold atI at h
 cases e:ixN xs.length i with
 | none=>rw[e]at h;cases h
 | some j =>
  rw[e]at h
  obtain⟨h1,h2,h3,h4⟩:=bn3 e
  exact⟨j,h1,h,h2,h3,h4⟩
theorem C1 {α:Type}{xs:List α}{v:α}(h:xs[j]?=some v):atI xs (j:Int)=some v:=by
 have hj:j<xs.length:=(d9.mp h).1
 have e:ixN xs.length (j:Int)=some j:=by
  unfold ixN
  rw[if_pos (by omega),if_pos (by omega)];simp
 unfold atI;rw[e];exact h
def aD5 (b:Expr):Prop:=∀ o i,bq5 b false o i=operate [o,i] (bK8 o i)
def IxR (X:Cx)(r:R2):Prop:=
 ∀ (value slice:Expr) (pins:List (Addr × Obj)) (s:Shared) (σ:St) (H:Hp) (x y:V) (v u:Value) (Q:VK),Inv X pins σ H s->RelV x v->RelV y u->r x y H Q ->
  bq5 slice false v u=operate [v,u] (bK8 v u)->p8 (t9 X.prog X.w) X.A (bK9 value slice v u) (EP X pins σ Q) X.xe s
def MtR (X:Cx)(id:String)(r:V->List V->Hp->VK->Prop):Prop:=
 ∀ (pins:List (Addr × Obj)) (s:Shared) (σ:St) (H:Hp) (x:V) (xs:List V) (v:Value) (us:List Value) (Q:VK),Inv X pins σ H s->RelV x v->C8 xs us->r x xs H Q ->
  p8 (t9 X.prog X.w) X.A (call (.builtin id) (v::us)) (EP X pins σ Q) X.xe s
section
variable {a b:Expr} {tb:TE}
theorem IxR.or {r r':R2}(h:IxR X r)(h':IxR X r'):IxR X (fun x y H Q=>r x y H Q\/r' x y H Q):=by
 intro value slice pins s σ H x y v u Q I rx ry q hs
 rcases q with q | q
 ·exact h value slice pins s σ H x y v u Q I rx ry q hs
 ·exact h' value slice pins s σ H x y v u Q I rx ry q hs
theorem C7 {r:R2}(hr:IxR X r)(ha:PE X a ta)(hb:PE X b tb)(hs:aD5 b):PE X (.Subscript a b pos) (tOp r ta tb):=by
 intro pins s σ H Q I h
 exact Subscript_ (cg8 ha hb I h fun v u s2 x y H2 I2 rx ry q=>hr a b pins s2 σ H2 x y v u Q I2 rx ry q (hs _ _))
def cm7 (K:W.Frag):R2:=fun x y H Q=>∃ p xs i v,x=.ref p/\y=.int i/\SqL K H p xs/\atI xs i=some v/\Q v H
def cb5 (K:W.Frag):R2:=fun x y H Q=>∃ p xs i v,x=.ref p/\y=.int i/\SqT K H p xs/\atI xs i=some v/\Q v H
def cm6:R2:=fun x y H Q=>∃ z i c,x=.str z/\y=.int i/\z.length<=j7/\atI z.cps.toList i=some c/\Q (.str ⟨#[c]⟩) H
theorem U1:IxR X (cm7 X.K):=by
 intro value slice pins s σ H x y v u Q I rx ry h hs
 obtain⟨p,xs,i,z,rfl,rfl,hq,he,q⟩:=h
 cases rx
 obtain⟨t,rfl⟩:=ry
 obtain⟨its,r,pl,hz⟩:=I.list hq
 obtain⟨j,h1,h2,h3,h4,h5⟩:=aT0 he
 obtain⟨w,ew,rw'⟩:=r.get h2
 have hl:=r.length
 have hn:=ax8
 have fin:EP X pins σ Q w s:=⟨z,H,I,rw',q⟩
 by_cases h0:0<=i
 ·have hj:i.toNat=j:=by
   rw[cj4 h0 h5]at h1
   exact Option.some.inj h1
  exact item_listR pl.isList h0 (by omega) (by rw[hj];simpa using ew) fin hs
 ·have hj:(i+(its.toArray.size:Int)).toNat=j:=by
   rw[bY2 (by omega) h4]at h1
   rw[i9,<- hl]
   exact Option.some.inj h1
  exact bU8 (x:=w) pl.isList.typeIs slot_list_getitem.lookup
   (wpAny_getItem_list_neg (Q:=fun r s'=>r=w/\EP X pins σ Q r s') pl.isList (by omega) (by rw[i9]<;>omega) (by omega) (by rw[hj];simpa using ew) ⟨rfl,fin⟩) hs
theorem C5:IxR X (cb5 X.K):=by
 intro value slice pins s σ H x y v u Q I rx ry h hs
 obtain⟨p,xs,i,z,rfl,rfl,hq,he,q⟩:=h
 cases rx
 obtain⟨t,rfl⟩:=ry
 obtain⟨its,r,pl,hz⟩:=I.tuple hq
 obtain⟨j,h1,h2,h3,h4,h5⟩:=aT0 he
 obtain⟨w,ew,rw'⟩:=r.get h2
 have hl:=r.length
 have hn:=ax8
 have fin:EP X pins σ Q w s:=⟨z,H,I,rw',q⟩
 exact bU8 (x:=w) pl.typeIs slot_tuple_getitem.lookup
  (getItem_tuple (j:=j) (Q:=fun r s'=>r=w/\EP X pins σ Q r s') pl (by omega) (by omega) (by rw[i9,<- hl];exact h1) (by simpa using ew) ⟨rfl,fin⟩) hs
theorem ce6:IxR X cm6:=by
 intro value slice pins s σ H x y v u Q I rx ry h hs
 obtain⟨z,i,c,rfl,rfl,hz,he,q⟩:=h
 obtain⟨t,rfl⟩:=rx
 obtain⟨t',rfl⟩:=ry
 obtain⟨j,h1,h2,h3,h4,h5⟩:=aT0 he
 have hl:z.cps.toList.length=z.length:=by simp[Str.length]
 rw[hl]at h1 h4 h5
 have hn:=ax8
 exact tail_any (typeIs_str s z t) slot_str_getitem.lookup (getItem_str (c:=c) (by
  have e1:decide (i < -(2 ^ 63:Int))=false:=decide_eq_false (by omega)
  have e2:decide (i≥2 ^ 63)=false:=decide_eq_false (by omega)
  rw[e1,e2,Bool.or_false]) (by rw[h1];simpa using h2) ⟨.str ⟨#[c]⟩,H,I.tok _,⟨_,rfl⟩,q⟩) hs
def rIx (K:W.Frag):R2:=fun x y H Q=>cm7 K x y H Q\/cb5 K x y H Q\/cm6 x y H Q
theorem bF1:IxR X (rIx X.K):=U1.or (C5.or ce6)
theorem bh0 (its:List Value)(n j:Nat)(u:Value):Obj.mapSeq (·.setIfInBounds j u) { cls:=.type "list",data:=.seq its.toArray n }={ cls:=.type "list",data:=.seq (its.set j u).toArray n }:=by
 simp[Obj.mapSeq]
theorem Inv.lst {pins:List (Addr × Obj)}{σ:St}{H:Hp}{s:Shared}{p:Addr}{xs:List V}(I:Inv X pins σ H s)(h:H p=some (.lst xs)) :
  ∃ (its:List Value) (n:Nat),C8 xs its/\s.heap.get? p=some { cls:=.type "list",data:=.seq its.toArray n }/\xs.length<=j7:=by
 obtain⟨z,its,n,r,e⟩:=I.hok p _ h
 exact⟨its,n,r,e,z⟩
theorem Inv.lstUpd {p:Addr}{its':List Value}{n':Nat}{f:Obj->Obj}(I:Inv X pins σ H s)(h:H p=some (.lst xs))
  (ho:s.heap.get? p=some { cls:=.type "list",data:=.seq its.toArray n })(hf:f { cls:=.type "list",data:=.seq its.toArray n }={ cls:=.type "list",data:=.seq its'.toArray n' })(r:C8 ys its')(hz:ys.length<=j7)(t:Nat) :
  Inv X pins σ (upd H p (.lst ys)) { s with heap:=s.heap.update p f,toks:=t }:=by
 have e:(s.heap.update p f).get? p=some { cls:=.type "list",data:=.seq its'.toArray n' }:=by
  rw[O5 f ho (by rw[hf]<;>rfl),hf]
 refine I.write (x:=p) (e:=p) (by rw[h];trivial) (.inl rfl) (fun b u hb q=>(B1 _ _ (Ne.symm hb)).trans q) ⟨_,e⟩ ?_
 exact⟨hz,its',n',r,e⟩
def cm5:V->V->V->Hp->(Hp->Prop)->Prop:=fun o i v H Q=>∃ p xs k j,o=.ref p/\i=.int k/\H p=some (.lst xs)/\ixN xs.length k=some j/\Q (upd H p (.lst (xs.set j v)))
theorem set_list:cq0 X cm5:=by
 intro pins s σ H o i v ov iv u Q I ro ri rv h
 obtain⟨p,xs,k,j,rfl,rfl,hp,hj,q⟩:=h
 cases ro
 obtain⟨t,rfl⟩:=ri
 obtain⟨its,n,r,ho,hz⟩:=I.lst hp
 obtain⟨h1,h2,h3,h4⟩:=bn3 hj
 have hl:=r.length
 have hn:=ax8
 have I':Inv X pins σ (upd H p (.lst (xs.set j v))) { s with heap:=s.heap.update p (Obj.mapSeq (·.setIfInBounds j u)) }:=
  I.lstUpd hp ho (bh0 its n j u) (r.set rv j) (by rw[K7];exact hz) s.toks
 by_cases h0:0<=k
 ·have hk:k.toNat=j:=by
   rw[cj4 h0 h4]at h1
   exact Option.some.inj h1
  exact PySem.W.ki_setAt ho h0 (by omega) (by rw[i9,<- hl];exact h4) (by rw[hk];exact⟨_,I',q⟩)
 ·have hk:(k+(its.toArray.size:Int)).toNat=j:=by
   rw[bY2 (by omega) h3]at h1
   rw[i9,<- hl]
   exact Option.some.inj h1
  exact PySem.W.ki_setBack ho (by omega) (by rw[i9,<- hl];exact h3) (by omega) (by rw[hk];exact⟨_,I',q⟩)
theorem aQ2 (lo hi:Option Int)(n:Nat):(aj7 lo hi none n).1=((HT.sIx n 0 lo:Nat):Int)/\(aj7 lo hi none n).2.1=((HT.sIx n n hi:Nat):Int)/\(aj7 lo hi none n).2.2=1:=by
 refine⟨?_,?_,rfl⟩
 ·cases lo with
  | none=>simp[aj7,HT.sIx]
  | some i =>
   simp only[aj7,HT.sIx,bX4,show (1:Int) > 0 by decide,if_true]
   by_cases h:i<0
   ·simp only[h,if_true]<;>omega
   ·simp only[h,if_false]<;>omega
 ·cases hi with
  | none=>simp[aj7,HT.sIx]
  | some i =>
   simp only[aj7,HT.sIx,bX4,show (1:Int) > 0 by decide,if_true]
   by_cases h:i<0
   ·simp only[h,if_true]<;>omega
   ·simp only[h,if_false]<;>omega
theorem aK4 (its:List Value)(lo hi:Option Int):slicePick its.toArray lo hi none=((its.drop (HT.sIx its.length 0 lo)).take (HT.sIx its.length its.length hi - HT.sIx its.length 0 lo)).toArray:=by
 obtain⟨h1,h2,h3⟩:=aQ2 lo hi its.toArray.size
 unfold slicePick
 rw[h1,h2,h3]
 simp only[sliceRange_one,pick_run,i9]<;>rfl
def cr6 (K:W.Frag):V->Option Int->Option Int->Hp->VK->Prop:=fun x lo hi H Q=>∃ a xs,x=.ref a/\SqL K H a xs/\∀ p,H p=none->Q (.ref p) (upd H p (.lst (ay5 xs lo hi)))
theorem an3:SlR X (cr6 X.K):=by
 intro pins s σ H x v vl vu lo hi sl Q I rx hs pl pu h
 obtain⟨a,xs,rfl,hx,q⟩:=h
 cases rx
 obtain⟨its,r,ht,hz⟩:=I.list hx
 have hlen:=r.length
 refine⟨"list",_,slot_list_getitem.lookup,ht.isList.typeIs,?_⟩
 refine wpAny_getItem_list_slice ht.isList hs pl pu .none (by simp) ?_ (by rw[i9]<;>omega)
 rw[aK4,<- hlen]
 refine⟨.ref s.heap.objs.size,_,I.laid (t':=s.toks) (o:=.lst (ay5 xs lo hi)) (fun b ob q=>c5 _ q) (c9 _) ?_,rfl,q _ (I.hok.fresh (c9 _))⟩
 exact⟨x9 (bc3 xs lo hi) hz,_,0,(r.drop (HT.sIx xs.length 0 lo)).take (HT.sIx xs.length xs.length hi - HT.sIx xs.length 0 lo),i6 _ rfl⟩
theorem A5:S4 X (.builtin "len") (fun xs H Q=>∃ p ys,xs=[.ref p]/\(SqL X.K H p ys\/SqT X.K H p ys)/\Q (.int ys.length) H):=by
 intro pins s σ H xs us Q I r h
 obtain⟨p,ys,rfl,hq,q⟩:=h
 obtain⟨u,rfl,rx⟩:=vals1 r
 cases rx
 have hn:=ax8
 rcases hq with hq | hq
 ·obtain⟨its,r',pl,hz⟩:=I.list hq
  have hlen:=r'.length
  exact Calls.call_len_list pl.isList (by simp only[i9]<;>omega) ⟨.int ys.length,H,I.tok _,⟨s.toks+1,by rw[i9,hlen]⟩,q⟩
 ·obtain⟨its,r',pl,hz⟩:=I.tuple hq
  have hlen:=r'.length
  exact len_tuple pl (by simp only[i9]<;>omega) ⟨.int ys.length,H,I.tok _,⟨s.toks+1,by rw[i9,hlen]⟩,q⟩
theorem aS8:S4 X (.type "list") (fun xs H Q=>∃ p ys,xs=[.ref p]/\(SqL X.K H p ys\/SqT X.K H p ys)/\∀ l,H l=none->Q (.ref l) (upd H l (.lst ys))):=by
 intro pins s σ H xs us Q I r h
 obtain⟨p,ys,rfl,hq,q⟩:=h
 obtain⟨u,rfl,rx⟩:=vals1 r
 cases rx
 have fin:∀ (its:List Value),C8 ys its->ys.length<=j7->∀ (h':Heap) (c':Nat),(∀ b o',s.heap.get? b=some o'->h'.get? b=some o') ->
   h'.get? s.heap.objs.size=some { cls:=.type "list",dict:=none,data:=.seq its.toArray c',slots:=#[] }->EP X pins σ Q (.ref s.heap.objs.size) { s with heap:=h' }:=fun its r' hz h' c' kp e =>
  ⟨.ref s.heap.objs.size,_,I.laid (t':=s.toks) kp (c9 _) (show G7 X.prog X.w _ h' _ (.lst ys) from ⟨hz,its,c',r',e⟩),rfl,q _ (I.hok.fresh (c9 _))⟩
 rcases hq with hq | hq
 ·obtain⟨its,r',pl,hz⟩:=I.list hq
  have hlen:=r'.length
  obtain⟨o,ho,hc,n,hd⟩:=pl.isList
  exact call_list_seq p (.inl rfl) ho hc hd (fun h' c' kp e=>fin its r' hz h' c' kp e) (by simp only[i9]<;>omega)
 ·obtain⟨its,r',pl,hz⟩:=I.tuple hq
  have hlen:=r'.length
  obtain⟨o,ho,hc,n,hd⟩:=pl
  exact call_list_seq p (.inr rfl) ho hc hd (fun h' c' kp e=>fin its r' hz h' c' kp e) (by simp only[i9]<;>omega)
theorem L4:S4 X (.type "tuple") (fun xs H Q=>∃ p ys,xs=[.ref p]/\((SqL X.K H p ys/\∀ l,H l=none->Q (.ref l) (upd H l (.tup ys)))\/(SqT X.K H p ys/\Q (.ref p) H))):=by
 intro pins s σ H xs us Q I r h
 obtain⟨p,ys,rfl,h⟩:=h
 obtain⟨u,rfl,rx⟩:=vals1 r
 cases rx
 rcases h with⟨hq,q⟩ | ⟨hq,q⟩
 ·obtain⟨its,r',pl,hz⟩:=I.list hq
  have hlen:=r'.length
  refine call_tuple_list pl.isList (fun h' kp=>?_) (by simp only[i9]<;>omega)
  have I1:Inv X pins σ H { s with heap:=h' }:=I.kept (t':=s.toks) kp
  have I2:Inv X pins σ (upd H h'.objs.size (.tup ys)) { s with heap:=h'.push { cls:=.type "tuple",data:=.seq its.toArray } } :=
   I1.laid (t':=s.toks) (fun b o e=>c5 _ e) (c9 _) (show G7 X.prog X.w _ _ _ (.tup ys) from ⟨hz,its,r',IsTup.new _ _⟩)
  exact⟨.ref h'.objs.size,_,I2,rfl,q _ (I1.hok.fresh (c9 _))⟩
 ·obtain⟨its,r',pl,hz⟩:=I.tuple hq
  exact call_tuple_same pl ⟨.ref p,H,I,rfl,q⟩
def tyV (K:W.Frag)(T:String)(x:V)(H:Hp):Prop:=match x with
 | .str _=>T="str"
 | .int _=>T="int"
 | .ref p=>(T="list"/\∃ xs,SqL K H p xs)\/(T="tuple"/\∃ o,K.lookup p=some o/\o.cls=.type "tuple"/\o.dict=none) \/
   (T="dict"/\((∃ kvs,H p=some (.dK kvs))\/∃ kvs,H p=some (.dT kvs)))\/(T="set"/\∃ S n,H p=some (.set S n))
 | _=>False
theorem bZ3 {T:String}{x:V}(I:Inv X pins σ H s)(r:RelV x v)(ty:tyV X.K T x H) :
  s.TypeIs v T/\∀ a,v=.ref a->∃ ob,s.heap.get? a=some ob/\ob.dict=none:=by
 cases x with
 | str z =>
  obtain⟨t,rfl⟩:=r
  cases (show T="str" from ty)
  exact⟨typeIs_str s z t,fun _ e=>nomatch e⟩
 | int i =>
  obtain⟨t,rfl⟩:=r
  cases (show T="int" from ty)
  exact⟨typeIs_int s i t,fun _ e=>nomatch e⟩
 | ref p =>
  cases r
  rcases ty with⟨rfl,xs,hq⟩ | ⟨rfl,o,hk,hc,hd⟩ | ⟨rfl,hk⟩ | ⟨rfl,S,n,hk⟩
  ·obtain⟨its,_,pl,_⟩:=I.list hq
   refine⟨pl.isList.typeIs,fun a e=>?_⟩
   cases e
   obtain⟨o,n,e,c,hd,_⟩:=pl
   exact⟨o,e,hd⟩
  ·refine⟨⟨o,I.kIn p o hk,hc⟩,fun a e=>?_⟩
   cases e
   exact⟨o,I.kIn _ o hk,hd⟩
  ·have z:∃ o,s.heap.get? p=some o/\o.ExactDict:=by
    rcases hk with⟨kvs,hk⟩ | ⟨kvs,hk⟩
    ·obtain⟨_,_,_,_,o,_,_,e,ex,_⟩:=I.hok p _ hk
     exact⟨o,e,ex⟩
    ·obtain⟨_,_,_,_,o,_,_,e,ex,_⟩:=I.hok p _ hk
     exact⟨o,e,ex⟩
   obtain⟨o,e,ex⟩:=z
   refine⟨⟨o,e,ex.1⟩,fun a e2=>?_⟩
   cases e2
   exact⟨o,e,ex.2.1⟩
  ·obtain⟨o,_,_,_,e,ex,_⟩:=I.hok p _ hk
   refine⟨⟨o,e,ex.1⟩,fun a e2=>?_⟩
   cases e2
   exact⟨o,e,ex.2.1⟩
 | _=>exact False.elim ty
def tBM (K:W.Frag)(T:String)(r:V->List V->Hp->VK->Prop)(to:TE)(t:TA):TE:=fun σ H Q=>to σ H fun x H1=>tyV K T x H1/\t σ H1 fun xs H2=>r x xs H2 Q
variable {o:Expr} {to:TE} {t:TA} {name:Str} {apos cpos:Pos} {T id:String}
theorem aY7 (pa:PlainAttrs T) (slot:Slot T name id) (hty:typeOf (.builtin id)=pure (.type "method_descriptor")) (hm:MtR X id r) (ho:PE X o to) (ha:PA X (e::es) t)
  (hbase:bL0 o name X.env (eval o X.env)=eval o X.env:=by rfl)
  (hfew : ((V0 cpos (v9 (e :: es) X.env)).all (fun x => !x.1) && (bK7 cpos (aJ9 [] X.env)).all (fun x => x.1.isSome)
   && decide ((e::es).length+([]:List aJ8).length+(if ([]:List aJ8).isEmpty then 0 else 1)<30))=true:=by rfl)
  (hline:(apos.endLine == cpos.line)=true:=by rfl) (hs:v9 (e::es) X.env=(false,eval e X.env)::v9 es X.env:=by rfl) (hplain:(V0 cpos (v9 es X.env)).any (·.1)=false:=by rfl) :
  PE X (.Call (.Attribute o name apos) (e::es) [] cpos) (tBM X.K T r to t):=by
 intro pins s σ H Q I h
 refine wpAny_Call_method_late hbase hfew hline rfl (thn (ho pins s σ H _ I h) fun v s1 ⟨x,H1,I1,r1,ty,q1⟩=>?_)
 obtain⟨h1,h2⟩:=bZ3 I1 r1 ty
 refine⟨T,id,pa,slot,hty,h1,h2,?_⟩
 have hA:=ha cpos pins s1 σ H1 _ I1 q1
 rw[hs]at hA ⊢
 refine Calls.callWith_builtin (by show (false || (V0 cpos (v9 es X.env)).any (·.1))=false;rw[hplain]<;>rfl) (Calls.evalArgs_plain ?_)
 exact thn hA fun us s2 ⟨vs,H2,I2,r2,q2⟩=>hm pins s2 σ H2 x vs v us Q I2 r1 r2 q2
/- xs.append(e),list.index on a module's tuple .. are MtR facts of 06m -/
end
def MtM (X:Cx)(id:String)(r:V->List V->Hp->VK->Prop):Prop:=
 ∀ (pins:List (Addr × Obj)) (s:Shared) (σ:St) (H:Hp) (x:V) (xs:List V) (v:Value) (us:List Value) (Q:VK),Inv X pins σ H s->RelV x v->C8 xs us->r x xs H Q ->
  p8 (t9 X.prog X.w) X.A (call (.builtin id) (v::us)) (EP X pins σ Q) X.xe s
theorem C8.one:∀ {x:V} {us:List Value},C8 [x] us->∃ u,us=[u]/\RelV x u
 | _,_,.cons r .nil=>⟨_,rfl,r⟩
theorem C8.two:∀ {x y:V} {us:List Value},C8 [x,y] us->∃ u v,us=[u,v]/\RelV x u/\RelV y v
 | _,_,_,.cons r (.cons q .nil)=>⟨_,_,rfl,r,q⟩
theorem C8.rep (h:C8 xs us):∀ k:Nat,C8 (u5 k xs).flatten (u5 k us).flatten
 | 0=>.nil
 | k+1=>by
  rw[N3,N3,Q2,Q2]
  exact C8.append h (C8.rep h k)
theorem foldl_rep (its:List Value):∀ (k:Nat) (acc:List Value),
  af4 (fun x1 x2=>x1++x2) acc.toArray (u5 k its.toArray)=(acc++(u5 k its).flatten).toArray
 | 0,acc=>by simp
 | k+1,acc=>by
  have e:acc.toArray++its.toArray=(acc++its).toArray:=by simp
  have e2:(acc++its)++(u5 k its).flatten=acc++(u5 (k+1) its).flatten:=by
   rw[N3,Q2,A6]
  rw[<- e2,<- foldl_rep its k (acc++its),<- e,N3,ag9]
section
variable {l:Addr} {zs:List V}
theorem Inv.lset {its':List Value}{f:Array Value->Array Value}(I:Inv X pins σ H s)(hH:H l=some (.lst xs))
  (e:s.heap.get? l=some { cls:=.type "list",data:=.seq its.toArray n })(hf:f its.toArray=its'.toArray)(hv:C8 ys its')(hz:ys.length<=j7) :
  Inv X pins σ (upd H l (.lst ys)) { s with heap:=s.heap.update l (Obj.mapSeq f),toks:=t' }:=by
 have q:=PySem.IsL.update e f
 rw[hf]at q
 refine I.write (x:=l) (e:=l) (by rw[hH];exact trivial) (.inl rfl) (fun b' u hb hu=>(B1 s.heap (Obj.mapSeq f) (Ne.symm hb)).trans hu) ⟨_,q⟩ ?_
 exact⟨hz,its',_,hv,q⟩
theorem Inv.lnew (I:Inv X pins σ H s)(hv:C8 ys its)(hz:ys.length<=j7) :
  Inv X pins σ (upd H s.heap.objs.size (.lst ys)) { s with heap:=s.heap.push { cls:=.type "list",data:=.seq its.toArray },toks:=t' } :=
 I.laid (fun _ _ q=>c5 _ q) (c9 _) ⟨hz,its,0,hv,i6 _ rfl⟩
theorem Inv.fresh (I:Inv X pins σ H s):H s.heap.objs.size=none:=I.hok.fresh (c9 _)
theorem Inv.lstM (I:Inv X pins σ H s)(hH:H l=some (.lst xs)):xs.length<=j7/\∃ (its:List Value) (n:Nat),C8 xs its/\xs.length=its.length/\s.heap.get? l=some { cls:=.type "list",data:=.seq its.toArray n }:=by
 obtain⟨z,its,n,r,e⟩:=I.hok l _ hH
 exact⟨z,its,n,r,r.length,e⟩
theorem bD0 (h:n<=j7):Builtin.List.listTooLong n=false:=by
 unfold Builtin.List.listTooLong
 exact decide_eq_false (by omega)
end
def bO0:V->List V->Hp->VK->Prop:=fun x vs H Q=>∃ l xs y,x=.ref l/\vs=[y]/\H l=some (.lst xs)/\xs.length<j7/\Q .non (upd H l (.lst (xs++[y])))
theorem ab7:MtM X "list.append" bO0:=by
 intro pins s σ H x vs v us Q I rx rv h
 obtain⟨l,xs,y,rfl,rfl,hH,hz,q⟩:=h
 cases rx
 obtain⟨u,rfl,ru⟩:=rv.one
 obtain⟨z,its,n,r,hl,e⟩:=I.lstM hH
 refine aU6 F.slot_list_append ⟨_,e,rfl⟩ F.entry_list_append (F.args_list_append_2 _ _) (PySem.list_append l its.toArray n u (by rw[i9];omega)) ⟨e,?_⟩
 refine⟨.non,_,I.lset (its':=its++[u]) hH e (by simp) (r.append (.cons ru .nil)) ?_,rfl,q⟩
 rw[m6,bJ4]
 omega
def cr9:R2:=fun x y H Q=>∃ l b xs zs,x=.ref l/\y=.ref b/\H l=some (.lst xs)/\H b=some (.lst zs)/\xs.length+zs.length<=j7/\∀ p,H p=none->Q (.ref p) (upd H p (.lst (xs++zs)))
theorem cc5:OpR X (ad5 .Add) cr9:=by
 intro pins s σ H x y v u Q I rx ry h
 obtain⟨l,b,xs,zs,rfl,rfl,hH,hB,hz,q⟩:=h
 cases rx
 cases ry
 obtain⟨z,its,n,r,hl,e⟩:=I.lstM hH
 obtain⟨z2,its2,n2,r2,hl2,e2⟩:=I.lstM hB
 refine PySem.P.add_list e e2 ?_ (by rw[i9,i9];omega)
 have ea:its.toArray++its2.toArray=(its++its2).toArray:=by simp
 rw[ea]
 exact⟨.ref _,_,I.lnew (t':=s.toks) (r.append r2) (by rw[m6];omega),rfl,q _ I.fresh⟩
def cr7:R2:=fun x y H Q=>∃ l k xs,x=.ref l/\y=.int k/\H l=some (.lst xs) /\ -(2 ^ 63)<=k/\k<2 ^ 63/\xs.length*k.toNat<=j7 /\
 ∀ p,H p=none->Q (.ref p) (upd H p (.lst (u5 k.toNat xs).flatten))
theorem len_rep {α:Type}(xs:List α)(k:Nat):(u5 k xs).flatten.length=k*xs.length:=by
 induction k with
 | zero=>simp
 | succ k ih=>rw[N3,Q2,m6,ih,Nat.succ_mul,Nat.add_comm]
theorem bg6:OpR X (ad5 .Mult) cr7:=by
 intro pins s σ H x y v u Q I rx ry h
 obtain⟨l,k,xs,rfl,rfl,hH,h1,h2,hz,q⟩:=h
 cases rx
 obtain⟨t,rfl⟩:=ry
 obtain⟨z,its,n,r,hl,e⟩:=I.lstM hH
 have hlen:its.toArray.size*k.toNat<=j7:=by rw[i9,<- hl];exact hz
 have hcap:¬ its.toArray.size*k.toNat > (2 ^ 63 - 1) / 8:=by
  have:(j7:Nat)<=(2 ^ 63 - 1) / 8:=by decide
  omega
 have hfit:¬ (!Builtin.List.listFitsIndex k)=true:=by
  rw[fitsIndex_both h1 h2]
  exact i7
 have hlong:¬ Builtin.List.listTooLong (its.toArray.size*k.toNat)=true:=by
  rw[bD0 hlen]
  exact i7
 have hnew:af4 (fun x1 x2=>x1++x2) #[] (u5 (if its.toArray.isEmpty=true then 0 else k.toNat) its.toArray)=(u5 k.toNat its).flatten.toArray:=by
  have f0:∀ m:Nat,af4 (fun x1 x2=>x1++x2) #[] (u5 m its.toArray)=(u5 m its).flatten.toArray:=fun m=>by
   have:=foldl_rep its m []
   rw[Q3]at this
   exact this
  rw[f0]
  cases its with
  | nil=>simp
  | cons a r'=>rw[if_neg (by simp)]
 refine wpAny_binaryOp_repeat_ref (T:="list") (U:="int") (by decide) ⟨_,e,rfl⟩ (fun s'=>typeIs_int s' k t) noFill_list_mul F.fills_int_mul F.slot_int_rmul repeat_list F.slot_int_index.lookup
  (aU6 F.slot_int_rmul (typeIs_int s k t) F.entry_int_rmul (F.args_int_rmul_2 _ _) (int___rmul___int_list k t l its.toArray n)
   ⟨e,rfl,⟨_,e,rfl⟩,aU6 F.slot_list_mul ⟨_,e,rfl⟩ F.entry_list_mul (F.args_list_mul_2 _ _) (AutoListH.list___mul___list_int_3 l its.toArray n k t hfit hcap hlong) ⟨e,?_⟩⟩)
 rw[hnew]
 exact⟨.ref _,_,I.lnew (t':=s.toks) (r.rep k.toNat) (by rw[len_rep,Nat.mul_comm];exact hz),rfl,q _ I.fresh⟩
end L2
namespace Att
open PySem PySem.W PySem.Calls PyProof.Rows
theorem aB1 {P:Params}:∀ (ns:List Int) (vs:List Value),WellAll P h vs (ns.map WData.int)->J7 vs ns:=by
 intro ns
 induction ns with
 | nil =>
  intro vs w
  rw[bJ3]at w
  cases w
  exact .nil
 | cons n ns ih =>
  intro vs w
  rw[m8]at w
  cases w with
  | cons a b =>
   cases a
   exact .cons _ _ (ih _ b)
theorem bs1 {l:OpenLaw}(hn:l.most=some n){P:Params}{args:List WData}{vals:List Value}
  (hpre:l.row.toRowW.claim.pre args=true)(hwl:WellAll P h vals args) :
  ∃ a vs ns,vals=[Value.ref a]/\args=[WData.list (ns.map WData.int)]/\h.get? a=some { cls:=.type "list",data:=.seq vs.toArray }/\J7 vs ns/\ns.length<=n:=by
 have hsh:WShape.hasAll [] args [.list .int]=true:=(pre_splitW hpre).1
 have hc:l.pre.holds [] { args:=args }=true:=(pre_splitW hpre).2
 obtain⟨d,r,rfl,h1,h2⟩:=hasAllW_cons hsh
 obtain rfl:=hasAllW_nil h2
 obtain⟨xs,rfl,h3⟩:=hasW_list h1
 obtain⟨ns,rfl⟩:=items_int h3
 have hlen:ns.length<=n:=by
  unfold OpenLaw.pre at hc
  have h4:(WTm.not (.lt (.lit (.int (n:Int))) (.len (.arg 0)))).holds [] { args:=[.list (ns.map .int)] }=true:=by
   have h4:=(holds_andW hc).1
   rw[hn]at h4
   exact h4
  have h5:=condW_of h4 (w_not (w_lt w_lit (w_len_list (w_arg rfl))))
  rw[b8]at h5
  refine Nat.le_of_not_lt fun q=>?_
  have q':(n:Int)<((ns.length:Nat):Int):=by omega
  first
   | (rw[decide_eq_true q']at h5;exact absurd h5 (by decide))
   | (simp at h5;omega)
 cases hwl with
 | cons w1 w2 =>
  cases w2
  cases w1 with
  | list ho hall=>exact⟨_,_,ns,rfl,rfl,ho,aB1 ns _ hall,hlen⟩
theorem bs5 (l:OpenLaw)(args:List WData):l.row.toRowW.claim.post args (.bool true) args=true:=
 postW_of (r:=l.row.toRowW) (X:=(true == true))
  (show WShape.has [] (.bool true) .bool=true by first | rfl | decide | simp[WShape.has,WShape.arms,WShape.armsAll])
  (show (WTm.eq .res (.lit (.bool true))).value [] { args:=args,res:=some (.bool true),after:=args }=some (.bool (true == true)) from w_eq_bool (w_res rfl) w_lit) rfl
theorem attach_call {l:OpenLaw} {q:Program} {loose:List Str} {d:DefRec}
  (hn:l.most=some n) (hdf:d.params.defaults=[])
  (call : ∀ (w : World) (s₀ s₁ : Shared) (mg mb : Str -> Option Value) (fa : Addr) (o : Obj) (pm cd doc : Value) (a : Addr) (vs : List Value) (ns : List Int),
   Ground q loose [] XP w s₀ mg mb s₁.heap->YP w s₁.heap ->
   s₁.heap.get? fa=some o->o.data=.func (docDef d.name d.params d.body d.scope pm cd doc)->s₁.heap.CodeRec cd d.name->mg d.name=some (.ref fa) ->
   s₁.heap.get? a=some { cls:=.type "list",data:=.seq vs.toArray }->J7 vs ns->ns.length<=n->s₁.gens=#[] ->
   ar8 (t9 l.prog w) bq6 (.call (.ref fa) ⟨[.ref a],[]⟩) (fun r s'=>r=.ok (.ret (.bool true))/\OldK s₁.heap s'.heap/\s'.os=s₁.os/\aA5 s'.gens) s₁) :
  WalkO q loose XP YP l.row.toRowW d [] (fun f vs=>PySem.call f vs):=by
 intro w s₀ s₁ mg mb G Y fa o pm cd doc dV kV ho hd hcd hD hmg hg args vals as hpre hlay hrd hwl hlo
 obtain rfl:dV=.none:=Dflts.none hD hdf
 obtain rfl:kV=.none:=Dflts.noKw hD
 obtain⟨a,vs,ns,rfl,rfl,hobj,hints,hlen⟩:=bs1 hn hpre hwl
 refine enter_call (am7 (call w s₀ s₁ mg mb fa o pm cd doc a vs ns G Y ho (fd_plain hd) hcd hmg hobj hints hlen hg) fun r s' hq=>?_)
 obtain⟨rfl,h2,h3,h4⟩:=hq
 exact⟨.inl ⟨.bool true,.bool true,[],rfl,fun _=>rfl,.bool true,bs5 l _,fun _=>⟨List.Pairwise.nil,fun _ hm=>(nomatch hm)⟩⟩,h2,h3,h4⟩
section
variable {K:Frag}
end
end Att
namespace L2
open PySem PySem.Spec PyProof.Rows
theorem an1:∀ {vs:List Value} {ns:List Int},J7 vs ns->C8 (ns.map V.int) vs
 | _,_,.nil=>.nil
 | _,_,.cons n t h=>.cons ⟨t,rfl⟩ (an1 h)
end L2
namespace L2
open PySem PySem.Spec PyProof.Rows
def ao0 (s:Stmt):Arguments:=match s with
 | .FunctionDef _ a _ _ _ _ _ _ _ _=>a
 | _=>{ posonlyargs:=[],args:=[],vararg:=none,kwonlyargs:=[],kw_defaults:=[],kwarg:=none,defaults:=[] }
def U2 (s:Stmt):List Stmt:=match s with
 | .FunctionDef _ _ b _ _ _ _ _ _ _=>b
 | _=>[]
def q0 (s:Stmt):Scope:=match s with
 | .FunctionDef _ _ _ _ _ _ sc _ _ _=>sc
 | _=>{ kind:=.function,names:=[],isGenerator:=false,isCoroutine:=false }
abbrev CX0:CXT:=fun _ _ _ _ _ _=>False
abbrev E0:XK:=fun _ _ _=>False
theorem G6:az1 CX0 X E0:=fun _ _ _ _ _ _ _ h=>h.elim
structure Fun (K:W.Frag) (x qual:Str) (st:Stmt) (f:Addr) (fd:FuncData):Prop where
 ex:∃ (oc:Value) (od:Option Addr) (kV doc pm:Value) (an:Option Addr) (cdv ct:Value) (osl:Array (Option Value)),
  fd=W8 x qual (ao0 st) (U2 st) (q0 st) .none kV doc pm an cdv ct/\K.lookup f=some ⟨oc,od,.func fd,osl⟩/\aU3 K cdv qual=true
 kp:U9 K (.ref f)=true
section
variable {K:W.Frag} {mg:Str->Option Value} {base:Heap}
theorem Fun.ok {st:Stmt} {k:Nat} {sp:Sp} (F:Fun K x qual st f fd) (S:y9 N ps (q0 st))
  (hbody : ∀ (cdv : Value) (A : Around) (outer : List Env) (s : Shared) (H : Hp) (vs : List V) (Q : VK) (E : XK), Z0 k (A.deeper (O9 qual (q0 st) s.heap.objs.size f cdv)) -> sp vs H Q E ->
   ∃ t,PSs (am2 CX0 P w K mg base N qual (q0 st) f cdv A outer s H E).nox (U2 st) t/\t { nx:=fun _ H'=>Q .non H',rt:=Q } (start N vs) H) (len:∀ vs H Q E,sp vs H Q E->vs.length=ps.length:=by intro _ _ _ _ h;repeat first | (obtain⟨rfl,_⟩:=h;rfl) | obtain⟨_,h⟩:=h):A0 P w K mg base CX0 (k+1) f fd ps sp:=by
 obtain⟨oc,od,kV,doc,pm,an,cdv,ct,osl,rfl,lk,hcd⟩:=F.ex
 refine bG5 lk hcd S len fun A outer s H vs Q E hr hsp=>?_
 obtain⟨t,h,q⟩:=hbody cdv A outer s H vs Q E hr hsp
 exact⟨t,h.nox,q⟩
theorem Fun.binds {st:Stmt}(F:Fun K x qual st f fd)
  (h:∀ (kV doc pm:Value) (an:Option Addr) (cdv ct:Value) (us:List Value),us.length=ps.length->bj8 (W8 x qual (ao0 st) (U2 st) (q0 st) .none kV doc pm an cdv ct) ⟨us,[]⟩=pure (ps.zip us)):Binds K fd ps []:=by
 obtain⟨oc,od,kV,doc,pm,an,cdv,ct,osl,rfl,lk,hcd⟩:=F.ex
 exact .all (h kV doc pm an cdv ct)
theorem fun_mk {st:Stmt}{oc:Value}{od an:Option Addr}{osl:Array (Option Value)}{kV doc pm cdv ct:Value}(l:K.lookup f=some ⟨oc,od,.func (W8 x qual (ao0 st) (U2 st) (q0 st) .none kV doc pm an cdv ct),osl⟩)
  (c:aU3 K cdv qual=true)(k:U9 K (.ref f)=true):Fun K x qual st f (W8 x qual (ao0 st) (U2 st) (q0 st) .none kV doc pm an cdv ct):=⟨⟨oc,od,kV,doc,pm,an,cdv,ct,osl,rfl,l,c⟩,k⟩
structure Fq (K:W.Frag) (mg:Str->Option Value) (x:Str) (st:Stmt) (f:Addr) (fd:FuncData) (ps:List Str):Prop where
 F:Fun K x x st f fd
 b:Binds K fd ps []
 m:mg x=some (.ref f)
theorem C4 {CX:CXT}{k:Nat}{sp:Sp}{t:TA}{E:XK}{p:Pos}{st:Stmt}(F:A0 X.prog X.w X.K X.mg X.base CX k f fd ps sp)(hr:Z0 k X.A)(hg:Gl X x)(q:Fq X.K X.mg x st f fd ps)(hx:az1 CX X E)
  (ha:PA X (e::es) t)(hdb:(x == ("__debug__":Str))=false:=by decide)(he:v9 (e::es) X.env=(false,eval e X.env)::v9 es X.env:=by rfl)(hpl:(V0 pos (v9 es X.env)).any (·.1)=false:=by rfl) :
  PE X (.Call (.Name x p) (e::es) [] pos) (bV4 sp [] E t):=aC3 F hr hg q.m q.F.kp q.b .nil hx ha hdb he hpl
end
theorem pv (i:Nat)(hN:X.N[i]?=some x:=by rfl)(hv:Vis X.env.scope x:=by first | exact Or.inl rfl | exact Or.inr (Or.inl rfl) | exact Or.inr (Or.inr rfl))(hd:(x == ("__debug__":Str))=false:=by decide)
  (hcd:(x == ("__classdict__":Str))=false:=by decide):PE X (.Name x pos) (ck1 i):=bB1 hN hv hd hcd
theorem P5 {A B:Prop}(h:B):if false=true then A else B:=by
 rw[if_neg i7]
 exact h
theorem X1 {A B:Prop}(h:A):if true=true then A else B:=by
 rw[if_pos rfl]
 exact h
theorem bb3 {c A B:Prop}[Decidable c](h1:c->A)(h2:¬ c->B):if c then A else B:=by
 by_cases h:c
 ·rw[if_pos h]
  exact h1 h
 ·rw[if_neg h]
  exact h2 h
theorem aA0 {c A B:Prop}[Decidable c](hc:c)(h:B):if (!decide c)=true then A else B:=by
 rw[decide_eq_true hc]
 exact P5 h
def u7 (H H':Hp):Prop:=∀ b o,H b=some o->H' b=some o
theorem u7.refl (H:Hp):u7 H H:=fun _ _ h=>h
theorem u7.trans {H1 H2:Hp}(a:u7 H H1)(b:u7 H1 H2):u7 H H2:=fun c o h=>b c o (a c o h)
theorem u7.free (e:u7 H H'){l:Addr}(h:H' l=Option.none):H l=Option.none:=by
 cases q:H l with
 | none=>rfl
 | some o =>
  rw[e l o q]at h
  cases h
theorem u7.seq {K:W.Frag}(e:u7 H H')(h:SqL K H a xs):SqL K H' a xs:=by
 rcases h with(h | ⟨o,h⟩) | h
 ·exact .inl (.inl (e _ _ h))
 ·exact .inl (.inr ⟨o,e _ _ h⟩)
 ·exact .inr h
end L2
namespace Tim
open PySem PyProof.Rows
def ab1:Bool->Keyed->Array Keyed->Nat->Nat->Nat->StateT A8 Sem (Option Nat):=sortPriv% PySem.Builtin.gallop
def Q4:Nat->StateT A8 Sem Unit:=sortPriv% PySem.Builtin.setMinGallop
def aG2:Array Keyed->Array Keyed->StateT A8 Sem (Array Keyed):=sortPriv% PySem.Builtin.mergeLo
def aG3:Array Keyed->Array Keyed->StateT A8 Sem (Array Keyed):=sortPriv% PySem.Builtin.mergeHi
def ai6 (left:Bool)(key:Keyed)(arr:Array Keyed)(base:Nat)(i:Nat):StateT A8 Sem (Option Bool):=do
 let x <- ak5 arr (base+i)
 if left then lt' x key else return (<- lt' key x).map (!·)
theorem bi1 (left:Bool)(key:Keyed)(arr:Array Keyed)(base n hint:Nat):ab1 left key arr base n hint=(do
 let mut lastofs:=0
 let mut ofs:=1
 let mut lo:=0
 let mut hi:=0
 let some right <- ai6 left key arr base hint | return none
 if right then
  let maxofs:=n - hint
  for _ in [0:n] do
   if ofs≥maxofs then break
   let some more <- ai6 left key arr base (hint+ofs) | return none
   if !more then break
   lastofs:=ofs
   ofs:=2*ofs+1
  lo:=hint+lastofs+1
  hi:=hint+min ofs maxofs
 else
  let maxofs:=hint+1
  for _ in [0:n] do
   if ofs≥maxofs then break
   let some found <- ai6 left key arr base (hint - ofs) | return none
   if found then break
   lastofs:=ofs
   ofs:=2*ofs+1
  lo:=hint+1 - min ofs maxofs
  hi:=hint - lastofs
 for _ in [0:n] do
  if lo≥hi then break
  let m:=lo+(hi - lo) / 2
  let some more <- ai6 left key arr base m | return none
  if more then lo:=m+1 else hi:=m
 return some hi):=rfl
theorem aw6 (g:Nat):Q4 g=modify (fun s=>SortSt.mk' (kindOf s) (o4 s) (B8 s) g (P0 s)):=rfl
structure Ord (B:Keyed->Keyed->Bool):Prop where
 irr:∀ x,B x x=false
 tr:∀ x y z,B x y=true->B y z=true->B x z=true
 ng:∀ x y z,B x z=true->B x y=true\/B y z=true
def le (B:Keyed->Keyed->Bool)(x y:Keyed):Prop:=B y x=false
theorem Ord.rf (o:Ord B)(x:Keyed):le B x x:=o.irr x
theorem Ord.of_lt (o:Ord B){x y:Keyed}(h:B x y=true):le B x y:=by
 unfold le
 cases e:B y x with
 | false=>rfl
 | true =>
  have:=o.tr _ _ _ h e
  rw[o.irr]at this
  cases this
theorem Ord.trans (o:Ord B){x y z:Keyed}(h1:le B x y)(h2:le B y z):le B x z:=by
 unfold le at *
 cases e:B z x with
 | false=>rfl
 | true =>
  rcases o.ng _ y _ e with h | h
  ·rw[h2]at h;cases h
  ·rw[h1]at h;cases h
theorem Ord.lt_le (o:Ord B){x y z:Keyed}(h1:B x y=true)(h2:le B y z):B x z=true:=by
 unfold le at h2
 rcases o.ng _ z _ h1 with h | h
 ·exact h
 ·rw[h2]at h;cases h
theorem Ord.le_lt (o:Ord B){x y z:Keyed}(h1:le B x y)(h2:B y z=true):B x z=true:=by
 unfold le at h1
 rcases o.ng _ x _ h2 with h | h
 ·rw[h1]at h;cases h
 ·exact h
section
variable {S:Keyed->Prop}
def Cmp (prog:Program)(w:World)(A:Around)(E:Value->Shared->Prop)(s:Shared)(κ:SortKind)(S:Keyed->Prop)(B:Keyed->Keyed->Bool):Prop:=
 ∀ (x y:Keyed),S x->S y->∀ (Q:Bool->Shared->Prop),Q (B x y) s->p8 (t9 prog w) A (keyLt' κ x.1 y.1) Q (fun _ _=>False) s
theorem aD7 (C:Cmp prog w A E s κ S B){x y:Keyed}{st:A8}{Q:Option Bool->A8->Prop}(hk:kindOf st=κ)(hx:S x)(hy:S y)(h:Q (some (B x y)) st):wpS (t9 prog w) A E s (lt' x y) Q st:=by
 rw[lt'_eq]
 refine k7 (aA7 ?_)
 rw[hk]
 refine k7 (wpS_lift (ah3 ?_))
 refine E3 (C x y hx hy (fun b s'=>s'=s/\b=B x y) ⟨rfl,rfl⟩) (fun b s' hb=>?_) (fun _ _ f=>f.elim)
 obtain⟨rfl,rfl⟩:=hb
 exact⟨rfl,m5 h⟩
theorem D6 {arr:Array Keyed}{x:Keyed}{st:A8}{Q:Keyed->A8->Prop}(hi:arr[i]?=some x)(h:Q x st):wpS (t9 prog w) A E s (ak5 arr i) Q st:=by
 rw[elem'_eq,hi]
 exact m5 h
theorem br5 (C:Cmp prog w A E s κ S B){x y:Keyed}{st:A8}{Q:Option Bool->A8->Prop}(hk:kindOf st=κ)(hi:(o4 st)[i]?=some x)(hj:(o4 st)[j]?=some y)(hx:S x)(hy:S y)(h:Q (some (B x y)) st) :
  wpS (t9 prog w) A E s (ltAt' i j) Q st:=by
 rw[ltAt'_eq]
 refine k7 (aA7 ?_)
 show wpS _ _ _ _ (do let x <- ak5 (o4 st) i;let y <- ak5 (o4 st) j;lt' x y) Q st
 exact k7 (D6 hi (k7 (D6 hj (aD7 C hk hx hy h))))
theorem af5 {n:String}{st:A8}{Q:Unit->A8->Prop}(h:Q () st):wpS (t9 prog w) A E s (liftM (rule n):StateT A8 Sem Unit) Q st:=wpS_lift (aq2 ⟨rfl,h⟩)
def byn (B:Keyed->Keyed->Bool)(left:Bool)(key x:Keyed):Bool:=if left=true then B x key else !B key x
theorem be4 (C:Cmp prog w A E s κ S B){left:Bool}{key x:Keyed}{arr:Array Keyed}{base:Nat}{st:A8}{Q:Option Bool->A8->Prop}(hk:kindOf st=κ)(hi:arr[base+i]?=some x)(hx:S x)(hy:S key)
  (h:Q (some (byn B left key x)) st):wpS (t9 prog w) A E s (ai6 left key arr base i) Q st:=by
 unfold ai6
 refine k7 (D6 hi ?_)
 cases left with
 | true=>exact aD7 C hk hx hy h
 | false=>exact k7 (aD7 C hk hy hx (m5 h))
theorem aL1 {st:A8} {Q:Option Nat->A8->Prop} (P:Nat->Bool) {f:Nat->Option (Option Nat) × Nat × Nat->StateT A8 Sem (ForInStep (Option (Option Nat) × Nat × Nat))} {k:Option (Option Nat) × Nat × Nat->StateT A8 Sem (Option Nat)}
  (mono:∀ i j,i<=j->j<n->P j=true->P i=true)
  (hf : ∀ x lo hi (R : ForInStep (Option (Option Nat) × Nat × Nat) -> A8 -> Prop), hi <= n -> (hi <= lo -> R (.done (none, lo, hi)) st) -> (lo < hi -> P (lo + (hi - lo) / 2) = true -> R (.yield (none, lo + (hi - lo) / 2 + 1, hi)) st) ->
   (lo<hi->P (lo+(hi - lo) / 2)=false->R (.yield (none,lo,lo+(hi - lo) / 2)) st)->wpS (t9 prog w) A E s (f x (none,lo,hi)) R st)
  (hk:∀ lo hi (R:Option Nat->A8->Prop),R (some hi) st->wpS (t9 prog w) A E s (k (none,lo,hi)) R st)
  (h:∀ k,k<=n->(∀ i,i<k->P i=true)->(∀ i,k<=i->i<n->P i=false)->Q (some k) st) {lo hi:Nat}
  (h1:lo<=hi) (h2:hi<=n) (h3:∀ i,i<lo->P i=true) (h4:∀ i,hi<=i->i<n->P i=false) :
  wpS (t9 prog w) A E s (forIn [:n] ((none,lo,hi):Option (Option Nat) × Nat × Nat) f >>= k) Q st:=by
 have anti:∀ i j,i<=j->j<n->P i=false->P j=false:=fun i j h1 h2 h3=>by
  cases e:P j with
  | false=>rfl
  | true=>rw[mono i j h1 h2 e]at h3;cases h3
 refine k7 (Y4 (F2 (I:=fun x c st'=>st'=st/\∃ lo hi,c=(none,lo,hi)/\lo<=hi/\hi<=n/\hi - lo<=n - x/\(∀ i,i<lo->P i=true)/\(∀ i,hi<=i->i<n->P i=false))
  (Q:=fun c st'=>st'=st/\∃ k,c=(none,k,k)/\k<=n/\(∀ i,i<k->P i=true)/\(∀ i,k<=i->i<n->P i=false)) ?step ?fin ⟨rfl,lo,hi,rfl,h1,h2,by omega,h3,h4⟩) ?post)
 case fin =>
  rintro c st' ⟨rfl,lo,hi,rfl,h1,h2,hm,h3,h4⟩
  have:lo=hi:=by omega
  subst this
  exact⟨rfl,lo,rfl,h2,h3,h4⟩
 case post =>
  rintro c st' ⟨rfl,k,rfl,h2,h3,h4⟩
  exact hk _ _ _ (h k h2 h3 h4)
 case step =>
  rintro x c st' _ hx ⟨rfl,lo,hi,rfl,h1,h2,hm,h3,h4⟩
  refine hf x lo hi _ h2 (fun hge=>?_) (fun hlt e=>?_) (fun hlt e=>?_)
  ·have:lo=hi:=by omega
   subst this
   exact⟨rfl,lo,rfl,h2,h3,h4⟩
  ·exact⟨rfl,_,hi,rfl,by omega,h2,by omega,fun i hi'=>mono i _ (by omega) (by omega) e,h4⟩
  ·exact⟨rfl,lo,_,rfl,by omega,by omega,by omega,h3,fun i h5 h6=>anti _ i h5 h6 e⟩
theorem aP3 {left:Bool} {key:Keyed} {arr:Array Keyed} {base hint:Nat} {st:A8} {Q:Option Nat->A8->Prop} (P:Nat->Bool)
  (hP:∀ i,i<n->∀ R:Option Bool->A8->Prop,R (some (P i)) st->wpS (t9 prog w) A E s (ai6 left key arr base i) R st)
  (mono:∀ i j,i<=j->j<n->P j=true->P i=true) (hh:hint<n)
  (h:∀ k,k<=n->(∀ i,i<k->P i=true)->(∀ i,k<=i->i<n->P i=false)->Q (some k) st) :
  wpS (t9 prog w) A E s (ab1 left key arr base n hint) Q st:=by
 have anti:∀ i j,i<=j->j<n->P i=false->P j=false:=fun i j h1 h2 h3=>by
  cases e:P j with
  | false=>rfl
  | true=>rw[mono i j h1 h2 e]at h3;cases h3
 rw[bi1]
 dsimp only
 refine k7 (hP hint hh _ ?_)
 cases e0:P hint with
 | true =>
  dsimp only
  rw[if_pos rfl]
  refine k7 (Y4 (F2 (I:=fun x c st'=>st'=st/\∃ l o,c=(none,l,o)/\l<o/\x+1<=o/\hint+l<n/\P (hint+l)=true)
   (Q:=fun c st'=>st'=st/\∃ l o,c=(none,l,o)/\l<o/\hint+l<n/\P (hint+l)=true/\(n - hint<=o\/(hint+o<n/\P (hint+o)=false))) ?step ?fin ⟨rfl,0,1,rfl,by omega,by omega,by omega,e0⟩) ?post)
  case fin =>
   rintro c st' ⟨rfl,l,o,rfl,h1,h2,h3,h4⟩
   exact⟨rfl,l,o,rfl,h1,h3,h4,.inl (by omega)⟩
  case post =>
   rintro c st' ⟨rfl,l,o,rfl,h1,h3,h4,h5⟩
   dsimp only
   refine aL1 P mono
    (fun x lo hi R hn a b c => by
     dsimp only
     by_cases hge:lo≥hi
     ·rw[if_pos hge]
      exact m5 (a hge)
     ·rw[if_neg hge]
      refine k7 (hP _ (by omega) _ ?_)
      cases e:P (lo+(hi - lo) / 2) with
      | true =>
       dsimp only
       rw[if_pos rfl]
       exact m5 (b (by omega) e)
      | false =>
       dsimp only
       rw[if_neg i7]
       exact m5 (c (by omega) e)) (fun lo hi R hR=>m5 hR) h (lo:=hint+l+1) (hi:=hint+min o (n - hint)) (by omega) (by omega) (fun i hi=>mono i _ (by omega) h3 h4) (fun i h6 h7=>?_)
   rcases h5 with h5 | ⟨h5,h8⟩
   ·omega
   ·exact anti _ i (by omega) h7 h8
  case step =>
   rintro x c st' _ hx ⟨rfl,l,o,rfl,h1,h2,h3,h4⟩
   dsimp only
   by_cases hge:o≥n - hint
   ·rw[if_pos hge]
    exact m5 ⟨rfl,l,o,rfl,h1,h3,h4,.inl hge⟩
   ·rw[if_neg hge]
    refine k7 (hP _ (by omega) _ ?_)
    cases e:P (hint+o) with
    | true =>
     dsimp only
     rw[if_neg (by simp)]
     exact m5 ⟨rfl,o,2*o+1,rfl,by omega,by omega,by omega,e⟩
    | false =>
     dsimp only
     rw[if_pos (by simp)]
     exact m5 ⟨rfl,l,o,rfl,h1,h3,h4,.inr ⟨by omega,e⟩⟩
 | false =>
  dsimp only
  rw[if_neg i7]
  refine k7 (Y4 (F2 (I:=fun x c st'=>st'=st/\∃ l o,c=(none,l,o)/\l<o/\x+1<=o/\l<=hint/\P (hint - l)=false)
   (Q:=fun c st'=>st'=st/\∃ l o,c=(none,l,o)/\l<o/\l<=hint/\P (hint - l)=false/\(hint+1<=o\/(o<=hint/\P (hint - o)=true))) ?step ?fin ⟨rfl,0,1,rfl,by omega,by omega,by omega,e0⟩) ?post)
  case fin =>
   rintro c st' ⟨rfl,l,o,rfl,h1,h2,h3,h4⟩
   exact⟨rfl,l,o,rfl,h1,h3,h4,.inl (by omega)⟩
  case post =>
   rintro c st' ⟨rfl,l,o,rfl,h1,h3,h4,h5⟩
   dsimp only
   refine aL1 P mono
    (fun x lo hi R hn a b c => by
     dsimp only
     by_cases hge:lo≥hi
     ·rw[if_pos hge]
      exact m5 (a hge)
     ·rw[if_neg hge]
      refine k7 (hP _ (by omega) _ ?_)
      cases e:P (lo+(hi - lo) / 2) with
      | true =>
       dsimp only
       rw[if_pos rfl]
       exact m5 (b (by omega) e)
      | false =>
       dsimp only
       rw[if_neg i7]
       exact m5 (c (by omega) e)) (fun lo hi R hR=>m5 hR) h (lo:=hint+1 - min o (hint+1)) (hi:=hint - l) (by omega) (by omega) (fun i hi=>?_) (fun i h6 h7=>anti _ i h6 h7 h4)
   rcases h5 with h5 | ⟨h5,h8⟩
   ·omega
   ·exact mono i _ (by omega) (by omega) h8
  case step =>
   rintro x c st' _ hx ⟨rfl,l,o,rfl,h1,h2,h3,h4⟩
   dsimp only
   by_cases hge:o≥hint+1
   ·rw[if_pos hge]
    exact m5 ⟨rfl,l,o,rfl,h1,h3,h4,.inl hge⟩
   ·rw[if_neg hge]
    refine k7 (hP _ (by omega) _ ?_)
    cases e:P (hint - o) with
    | true =>
     dsimp only
     rw[if_pos rfl]
     exact m5 ⟨rfl,l,o,rfl,h1,h3,h4,.inr ⟨by omega,e⟩⟩
    | false =>
     dsimp only
     rw[if_neg i7]
     exact m5 ⟨rfl,o,2*o+1,rfl,by omega,by omega,by omega,e⟩
theorem X8 (o:Ord B)(C:Cmp prog w A E s κ S B){left:Bool}{key:Keyed}{arr:Array Keyed}{base hint:Nat}{st:A8}{Q:Option Nat->A8->Prop}(hk:kindOf st=κ)(hkey:S key)(hb:base+n<=arr.size)
  (hS:∀ (i:Nat) (x:Keyed),i<n->arr[base+i]?=some x->S x)
  (hs:∀ (i j:Nat) (x y:Keyed),i<=j->j<n->arr[base+i]?=some x->arr[base+j]?=some y->le B x y)(hh:hint<n)
  (h:∀ k,k<=n->(∀ (i:Nat) (x:Keyed),i<k->arr[base+i]?=some x->byn B left key x=true)->(∀ (i:Nat) (x:Keyed),k<=i->i<n->arr[base+i]?=some x->byn B left key x=false)->Q (some k) st) :
  wpS (t9 prog w) A E s (ab1 left key arr base n hint) Q st:=by
 have ex:∀ i,i<n->∃ x,arr[base+i]?=some x:=fun i hi=>⟨arr[base+i]'(by omega),getElem?_pos arr _ (by omega)⟩
 have ev:∀ (i:Nat) (x:Keyed),arr[base+i]?=some x->((arr[base+i]?).getD key)=x:=fun i x e=>by rw[e];rfl
 refine aP3 (fun i=>byn B left key ((arr[base+i]?).getD key)) (fun i hi R hR=>?_) (fun i j hij hj hp=>?_) hh (fun k hk' h1 h2=>h k hk' (fun i x hi e=>?_) (fun i x h3 h4 e=>?_))
 ·obtain⟨x,e⟩:=ex i hi
  rw[ev i x e]at hR
  exact be4 C hk e (hS i x hi e) hkey hR
 ·obtain⟨x,e⟩:=ex i (by omega)
  obtain⟨y,e'⟩:=ex j hj
  rw[ev j y e']at hp
  rw[ev i x e]
  have l:=hs i j x y hij hj e e'
  unfold byn at hp ⊢
  cases left with
  | true =>
   simp only[if_true]at hp ⊢
   exact o.le_lt l hp
  | false =>
   simp only[l9,if_false,ch6]at hp ⊢
   exact o.trans l hp
 ·have:=h1 i hi;rw[ev i x e]at this;exact this
 ·have:=h2 i h3 h4;rw[ev i x e]at this;exact this
end
theorem ba2 (a b:Array Keyed):aG2 a b=(do
 rule "list.sort.merge-lo"
 let total:=a.size+b.size
 let done (out:Array Keyed) (ia ib:Nat):=out++a.extract ia a.size++b.extract ib b.size
 let lastOfA (out:Array Keyed) (ia ib:Nat):=out++b.extract ib b.size++a.extract ia a.size
 let mut out:Array Keyed:=#[<- ak5 b 0]
 let mut ia:=0
 let mut ib:=1
 if ib == b.size then return done out ia ib
 if ia+1 == a.size then return lastOfA out ia ib
 let mut minGallop:=gallopOf (<- get)
 for _ in [0:total] do
  let mut acount:=0
  let mut bcount:=0
  for _ in [0:total] do
   let some bWins <- lt' (<- ak5 b ib) (<- ak5 a ia) | return done out ia ib
   if bWins then
    out:=out.push (<- ak5 b ib);ib:=ib+1;bcount:=bcount+1;acount:=0
    if ib == b.size then return done out ia ib
    if bcount≥minGallop then break
   else
    out:=out.push (<- ak5 a ia);ia:=ia+1;acount:=acount+1;bcount:=0
    if ia+1 == a.size then return lastOfA out ia ib
    if acount≥minGallop then break
  rule "list.sort.gallop"
  minGallop:=minGallop+1
  for _ in [0:total] do
   if minGallop > 1 then minGallop:=minGallop - 1
   Q4 minGallop
   let some k <- ab1 false (<- ak5 b ib) a ia (a.size - ia) 0 | return done out ia ib
   acount:=k
   if k > 0 then
    out:=out++a.extract ia (ia+k);ia:=ia+k
    if ia+1 == a.size then return lastOfA out ia ib
    if ia == a.size then return done out ia ib
   out:=out.push (<- ak5 b ib);ib:=ib+1
   if ib == b.size then return done out ia ib
   let some k <- ab1 true (<- ak5 a ia) b ib (b.size - ib) 0 | return done out ia ib
   bcount:=k
   if k > 0 then
    out:=out++b.extract ib (ib+k);ib:=ib+k
    if ib == b.size then return done out ia ib
   out:=out.push (<- ak5 a ia);ia:=ia+1
   if ia+1 == a.size then return lastOfA out ia ib
   if acount<7 && bcount<7 then break
  minGallop:=minGallop+1
  Q4 minGallop
 aj8 "internal:list.sort.merge-bound"):=rfl
theorem ba3 (a b:Array Keyed):aG3 a b=(do
 rule "list.sort.merge-hi"
 let total:=a.size+b.size
 let done (out:Array Keyed) (na nb:Nat):=a.extract 0 na++b.extract 0 nb++out.reverse
 let firstOfB (out:Array Keyed) (na nb:Nat):=b.extract 0 nb++a.extract 0 na++out.reverse
 let mut na:=a.size - 1
 let mut nb:=b.size
 let mut out:Array Keyed:=#[<- ak5 a na]
 if na == 0 then return done out na nb
 if nb == 1 then return firstOfB out na nb
 let mut minGallop:=gallopOf (<- get)
 for _ in [0:total] do
  let mut acount:=0
  let mut bcount:=0
  for _ in [0:total] do
   let some aWins <- lt' (<- ak5 b (nb - 1)) (<- ak5 a (na - 1)) | return done out na nb
   if aWins then
    na:=na - 1;out:=out.push (<- ak5 a na);acount:=acount+1;bcount:=0
    if na == 0 then return done out na nb
    if acount≥minGallop then break
   else
    nb:=nb - 1;out:=out.push (<- ak5 b nb);bcount:=bcount+1;acount:=0
    if nb == 1 then return firstOfB out na nb
    if bcount≥minGallop then break
  rule "list.sort.gallop"
  minGallop:=minGallop+1
  for _ in [0:total] do
   if minGallop > 1 then minGallop:=minGallop - 1
   Q4 minGallop
   let some at_ <- ab1 false (<- ak5 b (nb - 1)) a 0 na (na - 1) | return done out na nb
   let k:=na - at_
   acount:=k
   if k > 0 then
    out:=out++(a.extract at_ na).reverse;na:=at_
    if na == 0 then return done out na nb
   nb:=nb - 1;out:=out.push (<- ak5 b nb)
   if nb == 1 then return firstOfB out na nb
   let some at_ <- ab1 true (<- ak5 a (na - 1)) b 0 nb (nb - 1) | return done out na nb
   let k:=nb - at_
   bcount:=k
   if k > 0 then
    out:=out++(b.extract at_ nb).reverse;nb:=at_
    if nb == 1 then return firstOfB out na nb
    if nb == 0 then return done out na nb
   na:=na - 1;out:=out.push (<- ak5 a na)
   if na == 0 then return done out na nb
   if acount<7 && bcount<7 then break
  minGallop:=minGallop+1
  Q4 minGallop
 aj8 "internal:list.sort.merge-bound"):=rfl
structure MI (R:Keyed->Keyed->Prop) (out ra rb all:List Keyed):Prop where
 so:out.Pairwise R
 oa:∀ x∈out,∀ y∈ra,R x y
 ob:∀ x∈out,∀ y∈rb,R x y
 sa:ra.Pairwise R
 sb:rb.Pairwise R
 pm:(out++(ra++rb)).Perm all
theorem MI.blkA {blk all:List Keyed}(m:MI R out (blk++ra) rb all)(h:∀ x∈blk,∀ y∈rb,R x y):MI R (out++blk) ra rb all:=by
 obtain⟨s1,s2,s3⟩:=A3.mp m.sa
 refine⟨A3.mpr ⟨m.so,s1,fun x hx y hy=>m.oa x hx y (G3 _ hy)⟩,fun x hx y hy=>?_,fun x hx y hy=>?_,s2,m.sb,?_⟩
 ·rcases u6.mp hx with hx | hx
  ·exact m.oa x hx y (m9 _ hy)
  ·exact s3 x hx y hy
 ·rcases u6.mp hx with hx | hx
  ·exact m.ob x hx y hy
  ·exact h x hx y hy
 ·have:=m.pm
  simpa [A6] using this
theorem MI.blkB {blk all:List Keyed}(m:MI R out ra (blk++rb) all)(h:∀ x∈blk,∀ y∈ra,R x y):MI R (out++blk) ra rb all:=by
 obtain⟨s1,s2,s3⟩:=A3.mp m.sb
 refine⟨A3.mpr ⟨m.so,s1,fun x hx y hy=>m.ob x hx y (G3 _ hy)⟩,fun x hx y hy=>?_,fun x hx y hy=>?_,m.sa,s2,?_⟩
 ·rcases u6.mp hx with hx | hx
  ·exact m.oa x hx y hy
  ·exact h x hx y hy
 ·rcases u6.mp hx with hx | hx
  ·exact m.ob x hx y (m9 _ hy)
  ·exact s3 x hx y hy
 ·refine List.Perm.trans ?_ m.pm
  rw[A6]
  refine List.Perm.append_left _ ?_
  rw[<- A6,<- A6]
  exact List.Perm.append_right _ bJ5
theorem MI.oneA {x:Keyed}{all:List Keyed}(m:MI R out (x::ra) rb all)(h:∀ y∈rb,R x y):MI R (out++[x]) ra rb all:=
 MI.blkA (blk:=[x]) m fun z hz y hy=>by rw[x8.mp hz];exact h y hy
theorem MI.oneB {x:Keyed}{all:List Keyed}(m:MI R out ra (x::rb) all)(h:∀ y∈ra,R x y):MI R (out++[x]) ra rb all:=
 MI.blkB (blk:=[x]) m fun z hz y hy=>by rw[x8.mp hz];exact h y hy
theorem MI.endAB {all:List Keyed}(m:MI R out ra rb all)(h:∀ x∈ra,∀ y∈rb,R x y):(out++(ra++rb)).Pairwise R/\(out++(ra++rb)).Perm all:=by
 refine⟨A3.mpr ⟨m.so,A3.mpr ⟨m.sa,m.sb,h⟩,fun x hx y hy=>?_⟩,m.pm⟩
 rcases u6.mp hy with hy | hy
 ·exact m.oa x hx y hy
 ·exact m.ob x hx y hy
theorem MI.endBA {all:List Keyed}(m:MI R out ra rb all)(h:∀ x∈rb,∀ y∈ra,R x y):(out++(rb++ra)).Pairwise R/\(out++(rb++ra)).Perm all:=by
 refine⟨A3.mpr ⟨m.so,A3.mpr ⟨m.sb,m.sa,h⟩,fun x hx y hy=>?_⟩,List.Perm.trans (List.Perm.append_left _ bJ5) m.pm⟩
 rcases u6.mp hy with hy | hy
 ·exact m.ob x hx y hy
 ·exact m.oa x hx y hy
theorem drop_cons {α:Type}{l:List α}{x:α}(h:l[i]?=some x):l.drop i=x::l.drop (i+1):=by
 obtain⟨hi,rfl⟩:=d9.mp h
 exact ak1 hi
theorem ar3 {α:Type}(l:List α)(i k:Nat):l.drop i=(l.drop i).take k++l.drop (i+k):=by
 rw[<- bj2]
 exact(B6 k (l.drop i)).symm
theorem J1 {α:Type}{l:List α}{x:α}(h:x∈l.drop i):∃ j,i<=j/\j<l.length/\l[j]?=some x:=by
 obtain⟨k,hk⟩:=o6.mp h
 rw[S9]at hk
 exact⟨i+k,by omega,(d9.mp hk).1,hk⟩
theorem Y7 {α:Type}{l:List α}{k:Nat}{x:α}(h:x∈(l.drop i).take k):∃ j,j<k/\l[i+j]?=some x:=by
 obtain⟨j,hj⟩:=o6.mp h
 rw[T4]at hj
 split at hj
 ·rename_i hlt
  rw[S9]at hj
  exact⟨j,hlt,hj⟩
 ·cases hj
theorem bc0 (a:Array Keyed)(i k:Nat):(a.extract i (i+k)).toList=(a.toList.drop i).take k:=by
 rw[ad1,W7,R4]
theorem aD1 (a:Array Keyed)(i:Nat):(a.extract i a.size).toList=a.toList.drop i:=by
 rw[ad1,W7]
 exact k8 (by simp)
theorem aS1 (a:Array Keyed)(i:Nat):(a.extract 0 i).toList=a.toList.take i:=by
 rw[ad1,W7,bj3,Nat.sub_zero]
structure Sm (st st':A8):Prop where
 k:kindOf st'=kindOf st
 a:o4 st'=o4 st
 p:B8 st'=B8 st
 f:P0 st'=P0 st
theorem Sm.rfl' (st:A8):Sm st st:=⟨rfl,rfl,rfl,rfl⟩
theorem Sm.mg {st st':A8}(h:Sm st st')(g:Nat):Sm st (SortSt.mk' (kindOf st') (o4 st') (B8 st') g (P0 st')):=⟨h.k,h.a,h.p,h.f⟩
section
variable {S:Keyed->Prop}
theorem an0 {g:Nat}{st:A8}{Q:Unit->A8->Prop}(h:Q () (SortSt.mk' (kindOf st) (o4 st) (B8 st) g (P0 st))):wpS (t9 prog w) A E s (Q4 g) Q st:=by
 rw[aw6]
 exact aB4 h
structure LoI (B:Keyed->Keyed->Bool) (a b out:Array Keyed) (ia ib:Nat):Prop where
 m:MI (le B) out.toList (a.toList.drop ia) (b.toList.drop ib) (a.toList++b.toList)
 ha:ia+1<a.size
 hb:ib<b.size
 sz:out.size=ia+ib
def Good (B:Keyed->Keyed->Bool)(a b r:Array Keyed):Prop:=r.toList.Pairwise (le B)/\r.toList.Perm (a.toList++b.toList)
theorem K9 {α σ:Type}{c:Prop}[Decidable c]{X Y:StateT σ Sem α}{Q:α->σ->Prop}{st:σ}(h:c)(k:wpS M A E s X Q st):wpS M A E s (if c then X else Y) Q st:=by
 rw[if_pos h]
 exact k
theorem K2 {α σ:Type}{c:Prop}[Decidable c]{X Y:StateT σ Sem α}{Q:α->σ->Prop}{st:σ}(h:¬ c)(k:wpS M A E s Y Q st):wpS M A E s (if c then X else Y) Q st:=by
 rw[if_neg h]
 exact k
theorem am9 {α σ:Type}{c:Prop}[Decidable c]{X Y:StateT σ Sem α}{Q:α->σ->Prop}{st:σ}(h:wpS M A E s X Q st)(k:wpS M A E s Y Q st):wpS M A E s (if c then X else Y) Q st:=by
 split
 ·exact h
 ·exact k
theorem aV2 {α σ:Type}{c:Nat->Prop}[∀ m,Decidable (c m)]{X Y:Nat->StateT σ Sem α}{Q:α->σ->Prop}{st:σ}(hX:∀ m,X m=Y (m - 1))(h:∀ m,wpS M A E s (Y m) Q st):∀ m,wpS M A E s (if c m then X m else Y m) Q st:=fun m=>by
 split
 ·rw[hX]
  exact h _
 ·exact h m
theorem as0 {α σ β γ:Type}{u0:β}{v0:γ}{c:β->γ->Prop}[∀ u v,Decidable (c u v)]{X Y:β->γ->StateT σ Sem α}{Q:α->σ->Prop}{st:σ}{R:β->γ->Prop}(J:∀ u v,R u v->wpS M A E s (Y u v) Q st)(h1:c u0 v0->(∀ u v,R u v->wpS M A E s (Y u v) Q st)->wpS M A E s (X u0 v0) Q st)(h2:¬ c u0 v0->R u0 v0):∀ u,u0=u->∀ v,v0=v->wpS M A E s (if c u v then X u v else Y u v) Q st:=by
 rintro _ rfl _ rfl
 by_cases h:c u0 v0
 ·rw[if_pos h]
  exact h1 h J
 ·rw[if_neg h]
  exact J u0 v0 (h2 h)
theorem aV0 (o:Ord B)(C:Cmp prog w A E s κ S B){a b:Array Keyed}{st:A8}{Q:Array Keyed->A8->Prop}(hk:kindOf st=κ)(hSa:∀ x∈a.toList,S x)(hSb:∀ x∈b.toList,S x)
  (sa:a.toList.Pairwise (le B))(sb:b.toList.Pairwise (le B))(ha:0<a.size)(hb:0<b.size)
  (h0:∀ x y,b[0]?=some x->a[0]?=some y->B x y=true)(hl:∀ x∈b.toList,∀ y,a[a.size - 1]?=some y->B x y=true)
  (h:∀ r st',Sm st st'->Good B a b r->Q r st'):wpS (t9 prog w) A E s (aG2 a b) Q st:=by
 have ga:∀ i,i<a.size->∃ x,a[i]?=some x/\a.toList[i]?=some x/\S x:=fun i hi=>by
  refine⟨a[i],getElem?_pos a i hi,by rw[g6];exact getElem?_pos a i hi,hSa _ (by simp)⟩
 have gb:∀ i,i<b.size->∃ x,b[i]?=some x/\b.toList[i]?=some x/\S x:=fun i hi=>by
  refine⟨b[i],getElem?_pos b i hi,by rw[g6];exact getElem?_pos b i hi,hSb _ (by simp)⟩
 have leA:∀ (i j:Nat) (x y:Keyed),i<=j->a.toList[i]?=some x->a.toList[j]?=some y->le B x y:=fun i j x y hij hx hy=>by
  obtain⟨h1,rfl⟩:=d9.mp hx
  obtain⟨h2,rfl⟩:=d9.mp hy
  rcases L7 hij with hlt | rfl
  ·exact t7.mp sa i j h1 h2 hlt
  ·exact o.rf _
 have leB:∀ (i j:Nat) (x y:Keyed),i<=j->b.toList[i]?=some x->b.toList[j]?=some y->le B x y:=fun i j x y hij hx hy=>by
  obtain⟨h1,rfl⟩:=d9.mp hx
  obtain⟨h2,rfl⟩:=d9.mp hy
  rcases L7 hij with hlt | rfl
  ·exact t7.mp sb i j h1 h2 hlt
  ·exact o.rf _
 have tl:∀ (z:Array Keyed) (i:Nat),z[i]?=z.toList[i]?:=fun z i=>(g6 ..).symm
 have goodDone:∀ (out:Array Keyed) (ia ib:Nat),MI (le B) out.toList (a.toList.drop ia) (b.toList.drop ib) (a.toList++b.toList)->ib=b.size->Good B a b (out++a.extract ia a.size++b.extract ib b.size):=fun out ia ib m e=>by
  have en:b.toList.drop ib=[]:=by rw[e];exact J5 (by simp)
  have:=m.endAB (fun x _ y hy=>by rw[en]at hy;cases hy)
  unfold Good
  rw[B7,B7,aD1,aD1,A6]
  exact this
 have lastA:∀ (ia:Nat) (x:Keyed),ia+1=a.size->x∈a.toList.drop ia->a[a.size - 1]?=some x:=fun ia x e hx=>by
  obtain⟨j,h1,h2,h3⟩:=J1 hx
  have:j=a.size - 1:=by rw[l5]at h2;omega
  rw[<- this,tl]
  exact h3
 have goodLast:∀ (out:Array Keyed) (ia ib:Nat),MI (le B) out.toList (a.toList.drop ia) (b.toList.drop ib) (a.toList++b.toList)->ia+1=a.size->Good B a b (out++b.extract ib b.size++a.extract ia a.size):=fun out ia ib m e=>by
  have:=m.endBA (fun x hx y hy=>o.of_lt (hl x (P8 hx) y (lastA ia y e hy)))
  unfold Good
  rw[B7,B7,aD1,aD1,A6]
  exact this
 have pushB:∀ (out:Array Keyed) (ia ib:Nat) (x:Keyed),MI (le B) out.toList (a.toList.drop ia) (b.toList.drop ib) (a.toList++b.toList)->b.toList[ib]?=some x->(∀ y∈a.toList.drop ia,le B x y) ->
   MI (le B) (out.push x).toList (a.toList.drop ia) (b.toList.drop (ib+1)) (a.toList++b.toList):=fun out ia ib x m e hx=>by
  rw[drop_cons e]at m
  rw[aa2]
  exact m.oneB hx
 have pushA:∀ (out:Array Keyed) (ia ib:Nat) (x:Keyed),MI (le B) out.toList (a.toList.drop ia) (b.toList.drop ib) (a.toList++b.toList)->a.toList[ia]?=some x->(∀ y∈b.toList.drop ib,le B x y) ->
   MI (le B) (out.push x).toList (a.toList.drop (ia+1)) (b.toList.drop ib) (a.toList++b.toList):=fun out ia ib x m e hx=>by
  rw[drop_cons e]at m
  rw[aa2]
  exact m.oneA hx
 have blkA:∀ (out:Array Keyed) (ia ib k:Nat),MI (le B) out.toList (a.toList.drop ia) (b.toList.drop ib) (a.toList++b.toList)->(∀ x∈(a.toList.drop ia).take k,∀ y∈b.toList.drop ib,le B x y) ->
   MI (le B) (out++a.extract ia (ia+k)).toList (a.toList.drop (ia+k)) (b.toList.drop ib) (a.toList++b.toList):=fun out ia ib k m hx=>by
  rw[ar3 a.toList ia k]at m
  rw[B7,bc0]
  exact m.blkA hx
 have blkB:∀ (out:Array Keyed) (ia ib k:Nat),MI (le B) out.toList (a.toList.drop ia) (b.toList.drop ib) (a.toList++b.toList)->(∀ x∈(b.toList.drop ib).take k,∀ y∈a.toList.drop ia,le B x y) ->
   MI (le B) (out++b.extract ib (ib+k)).toList (a.toList.drop ia) (b.toList.drop (ib+k)) (a.toList++b.toList):=fun out ia ib k m hx=>by
  rw[ar3 b.toList ib k]at m
  rw[B7,bc0]
  exact m.blkB hx
 rw[ba2]
 refine k7 (af5 ?_)
 obtain⟨b0,eb0,eb0',Sb0⟩:=gb 0 hb
 obtain⟨a0,ea0,ea0',Sa0⟩:=ga 0 ha
 have lt0:=h0 b0 a0 eb0 ea0
 refine k7 (D6 eb0 ?_)
 have m0:MI (le B) ([]:List Keyed) (a.toList.drop 0) (b.toList.drop 0) (a.toList++b.toList):=⟨List.Pairwise.nil,(fun _ hx=>nomatch hx),(fun _ hx=>nomatch hx),sa,sb,List.Perm.refl _⟩
 have m1:MI (le B) (#[b0]:Array Keyed).toList (a.toList.drop 0) (b.toList.drop 1) (a.toList++b.toList):=pushB #[] 0 0 b0 m0 eb0' fun y hy=>by
  obtain⟨j,h1,h2,h3⟩:=J1 hy
  exact o.of_lt (o.lt_le lt0 (leA 0 j a0 y (t8 _) ea0' h3))
 by_cases e1:1=b.size
 ·refine K9 (by simpa using e1) ?_
  exact m5 (h _ st (Sm.rfl' st) (goodDone _ 0 1 m1 e1))
 refine K2 (by simpa using e1) ?_
 by_cases e2:0+1=a.size
 ·refine K9 (by simpa using e2) ?_
  exact m5 (h _ st (Sm.rfl' st) (goodLast _ 0 1 m1 e2))
 refine K2 (by simpa using e2) ?_
 refine k7 (aA7 ?_)
 have I0:LoI B a b #[b0] 0 1:=⟨m1,by omega,by omega,rfl⟩
 refine k7 (Y4 (F2
  (I:=fun x c st'=>Sm st st'/\∃ out ia ib mg,c=(none,out,ia,ib,mg)/\LoI B a b out ia ib/\x+1<=out.size)
  (Q:=fun c st'=>Sm st st'/\∃ r out ia ib mg,c=(some r,out,ia,ib,mg)/\Good B a b r) ?step ?fin ⟨Sm.rfl' st,#[b0],0,1,_,rfl,I0,by simp⟩) ?post)
 case fin =>
  rintro c st' ⟨hS,out,ia,ib,mg,rfl,I,hx⟩
  have h1:=I.sz
  have h2:=I.ha
  have h3:=I.hb
  exfalso
  omega
 case post =>
  rintro c st' ⟨hS,r,out,ia,ib,mg,rfl,hg⟩
  exact m5 (h r st' hS hg)
 case step =>
  rintro x c st1 _ hx ⟨hS1,out,ia,ib,mg,rfl,I,hsz⟩
  refine k7 (Y4 (F2
   (I:=fun j c st'=>Sm st st'/\∃ out' ia' ib' ac bc,c=(none,out',ia',ib',ac,bc)/\LoI B a b out' ia' ib'/\x+1<=out'.size/\(1<=j->x+2<=out'.size))
   (Q:=fun c st'=>Sm st st'/\((∃ r out' ia' ib' ac bc,c=(some r,out',ia',ib',ac,bc)/\Good B a b r)\/(∃ out' ia' ib' ac bc,c=(none,out',ia',ib',ac,bc)/\LoI B a b out' ia' ib'/\x+2<=out'.size)))
   ?istep ?ifin ⟨hS1,out,ia,ib,0,0,rfl,I,hsz,by omega⟩) ?ipost)
  case ifin =>
   rintro c st' ⟨hS,out',ia',ib',ac,bc,rfl,I',h1,h2⟩
   exact⟨hS,.inr ⟨out',ia',ib',ac,bc,rfl,I',h2 (by omega)⟩⟩
  case istep =>
   rintro j c st' _ hj ⟨hS,out',ia',ib',ac,bc,rfl,I',h1,_⟩
   obtain⟨bx,eb,eb',Sb⟩:=gb ib' I'.hb
   obtain⟨ax,ea,ea',Sa⟩:=ga ia' (by have:=I'.ha;omega)
   refine k7 (D6 eb (k7 (D6 ea (k7 (aD7 C (hS.k.trans hk) Sb Sa ?_)))))
   cases ew:B bx ax with
   | true =>
    refine K9 rfl ?_
    refine k7 (D6 eb ?_)
    have m2:=pushB out' ia' ib' bx I'.m eb' fun y hy=>by
     obtain⟨j,h1,h2,h3⟩:=J1 hy
     exact o.of_lt (o.lt_le ew (leA ia' j ax y h1 ea' h3))
    by_cases e3:ib'+1=b.size
    ·refine K9 (by simpa using e3) ?_
     exact m5 ⟨hS,.inl ⟨_,_,_,_,_,_,rfl,goodDone _ _ _ m2 e3⟩⟩
    refine K2 (by simpa using e3) ?_
    have I2:LoI B a b (out'.push bx) ia' (ib'+1):=⟨m2,I'.ha,by have:=I'.hb;omega,by rw[A9,I'.sz];omega⟩
    have z2:x+2<=(out'.push bx).size:=by rw[A9];omega
    refine am9 ?_ ?_
    ·exact m5 ⟨hS,.inr ⟨_,_,_,_,_,rfl,I2,z2⟩⟩
    ·exact m5 ⟨hS,_,_,_,_,_,rfl,I2,ao3 z2,fun _=>z2⟩
   | false =>
    refine K2 i7 ?_
    refine k7 (D6 ea ?_)
    have m2:=pushA out' ia' ib' ax I'.m ea' fun y hy=>by
     obtain⟨j,h1,h2,h3⟩:=J1 hy
     exact o.trans ew (leB ib' j bx y h1 eb' h3)
    by_cases e3:ia'+1+1=a.size
    ·refine K9 (by simpa using e3) ?_
     exact m5 ⟨hS,.inl ⟨_,_,_,_,_,_,rfl,goodLast _ _ _ m2 e3⟩⟩
    refine K2 (by simpa using e3) ?_
    have I2:LoI B a b (out'.push ax) (ia'+1) ib':=⟨m2,by have:=I'.ha;omega,I'.hb,by rw[A9,I'.sz];omega⟩
    have z2:x+2<=(out'.push ax).size:=by rw[A9];omega
    refine am9 ?_ ?_
    ·exact m5 ⟨hS,.inr ⟨_,_,_,_,_,rfl,I2,z2⟩⟩
    ·exact m5 ⟨hS,_,_,_,_,_,rfl,I2,ao3 z2,fun _=>z2⟩
  case ipost =>
   rintro c st2 ⟨hS2,⟨r,out',ia',ib',ac,bc,rfl,hg⟩ | ⟨out',ia',ib',ac,bc,rfl,I',hz⟩⟩
   ·exact m5 ⟨hS2,r,_,_,_,_,rfl,hg⟩
   refine k7 (af5 ?_)
   refine k7 (Y4 (F2
    (I:=fun j c st'=>Sm st st'/\∃ out' ia' ib' mg ac bc,c=(none,out',ia',ib',mg,ac,bc)/\LoI B a b out' ia' ib'/\x+2<=out'.size)
    (Q:=fun c st'=>Sm st st'/\((∃ r out' ia' ib' mg ac bc,c=(some r,out',ia',ib',mg,ac,bc)/\Good B a b r)\/(∃ out' ia' ib' mg ac bc,c=(none,out',ia',ib',mg,ac,bc)/\LoI B a b out' ia' ib'/\x+2<=out'.size)))
    ?gstep ?gfin ⟨hS2,out',ia',ib',_,ac,bc,rfl,I',hz⟩) ?gpost)
   case gfin =>
    rintro c st' ⟨hS,out',ia',ib',mg,ac,bc,rfl,I',h1⟩
    exact⟨hS,.inr ⟨out',ia',ib',mg,ac,bc,rfl,I',h1⟩⟩
   case gpost =>
    rintro c st3 ⟨hS3,⟨r,out',ia',ib',mg,ac,bc,rfl,hg⟩ | ⟨out',ia',ib',mg,ac,bc,rfl,I',hz⟩⟩
    ·exact m5 ⟨hS3,r,_,_,_,_,rfl,hg⟩
    exact k7 (an0 (m5 ⟨hS3.mg _,_,_,_,_,rfl,I',by omega⟩))
   case gstep =>
    rintro j c st' _ hj ⟨hS,out',ia',ib',mg,ac,bc,rfl,I',hz⟩
    dsimp (config:={ zeta:=false }) only
    obtain⟨bx,eb,eb',Sb⟩:=gb ib' I'.hb
    obtain⟨al,eal,eal',Sal⟩:=ga (a.size - 1) (by omega)
    revert mg
    refine aV2 (fun _=>rfl) fun mg1=>?_
    try dsimp (config:={ zeta:=false }) only
    refine k7 (an0 (k7 (D6 eb ?_)))
    refine k7 (X8 o C (hS.k.trans hk) Sb (by have:=I'.ha;omega) (fun i y hi e=>hSa y (d8 (by rw[<- tl];exact e))) (fun i j y z hij hj e e'=>leA _ _ y z (X7 hij _) (by rw[<- tl];exact e) (by rw[<- tl];exact e')) (by have:=I'.ha;omega) fun k hkn hlt hge=>?_)
    dsimp (config:={ zeta:=false }) only
    have hS':=hS
    have hlt':∀ y∈(a.toList.drop ia').take k,∀ z∈b.toList.drop ib',le B y z:=fun y hy z hz'=>by
     obtain⟨i,hi,e⟩:=Y7 hy
     have q:=hlt i y hi (by rw[tl];exact e)
     obtain⟨j',h1,h2,h3⟩:=J1 hz'
     simp only[byn,l9,if_false,ch6]at q
     exact o.trans q (leB ib' j' bx z h1 eb' h3)
    have m1':=blkA out' ia' ib' k I'.m hlt'
    have hge':∀ y∈a.toList.drop (ia'+k),B bx y=true:=fun y hy=>by
     obtain⟨j',h1,h2,h3⟩:=J1 hy
     have q:=hge (j' - ia') y (by omega) (by rw[l5]at h2;omega) (by rw[show ia'+(j' - ia')=j' by omega,tl];exact h3)
     simpa [byn] using q
    have hka:ia'+k<a.size:=by
     rcases A1 (ia'+k) a.size with q | q
     ·exact q
     ·exfalso
      have h9:=I'.ha
      have q1:=hlt (a.size - 1 - ia') al (by omega) (by rw[show ia'+(a.size - 1 - ia')=a.size - 1 by omega];exact eal)
      have q2:=hl bx (d8 eb') al eal
      simp[byn,q2]at q1
    generalize eo:out'=o
    generalize en:ia'=n
    revert o n
    refine as0 (R:=fun out1 ia1=>MI (le B) out1.toList (a.toList.drop ia1) (b.toList.drop ib') (a.toList++b.toList)/\(∀ y∈a.toList.drop ia1,B bx y=true)/\ia1+1<a.size/\out1.size=ia1+ib'/\x+2<=out1.size) ?_ (fun hk J=>?_) (fun hk=>?_)
    rotate_left
    ·by_cases e4:ia'+k+1=a.size
     ·refine K9 (by simpa using e4) ?_
      exact m5 ⟨hS.mg _,.inl ⟨_,_,_,_,_,_,_,rfl,goodLast _ _ _ m1' e4⟩⟩
     refine K2 (by simpa using e4) (K2 (by simp;omega) ?_)
     exact J (out'++a.extract ia' (ia'+k)) (ia'+k) ⟨m1',hge',by omega,by rw[J6,F8,I'.sz];omega,by rw[J6];omega⟩
    ·have e9:k=0:=by omega
     rw[e9]at hge'
     exact⟨I'.m,hge',I'.ha,I'.sz,hz⟩
    rintro out1 ia1 ⟨m1,hge1,hne1,sz1,z1⟩
    refine k7 (D6 eb ?_)
    have m2:=pushB out1 ia1 ib' bx m1 eb' fun y hy=>o.of_lt (hge1 y hy)
    by_cases e5:ib'+1=b.size
    ·refine K9 (by simpa using e5) ?_
     exact m5 ⟨hS.mg _,.inl ⟨_,_,_,_,_,_,_,rfl,goodDone _ _ _ m2 e5⟩⟩
    refine K2 (by simpa using e5) ?_
    generalize ho:out1.push bx=o2 at m2 ⊢
    have so2:o2.size=out1.size+1:=by rw[<- ho,A9]
    generalize hn:ib'+1=n2 at m2 e5 ⊢
    obtain⟨ax,ea,ea',Sa⟩:=ga ia1 (by omega)
    have hib:=I'.hb
    refine k7 (D6 ea ?_)
    refine k7 (X8 o C (hS.k.trans hk) Sa (by omega) (fun i y hi e=>hSb y (d8 (by rw[<- tl];exact e))) (fun i j y z hij hj e e'=>leB _ _ y z (X7 hij _) (by rw[<- tl];exact e) (by rw[<- tl];exact e')) (by omega) fun k' hkn' hlt2 hge2=>?_)
    dsimp (config:={ zeta:=false }) only
    have hlt2':∀ y∈(b.toList.drop n2).take k',∀ z∈a.toList.drop ia1,le B y z:=fun y hy z hz'=>by
     obtain⟨i,hi,e⟩:=Y7 hy
     have q:=hlt2 i y hi (by rw[tl];exact e)
     obtain⟨j',h1,h2,h3⟩:=J1 hz'
     simp only[byn,if_true]at q
     exact o.of_lt (o.lt_le q (leA ia1 j' ax z h1 ea' h3))
    have m3':=blkB o2 ia1 n2 k' m2 hlt2'
    have hge2':∀ y∈b.toList.drop (n2+k'),le B ax y:=fun y hy=>by
     obtain⟨j',h1,h2,h3⟩:=J1 hy
     have q:=hge2 (j' - n2) y (by omega) (by rw[l5]at h2;omega) (by rw[show n2+(j' - n2)=j' by omega,tl];exact h3)
     show B y ax=false
     simpa [byn] using q
    have sz2:o2.size=ia1+n2:=by omega
    generalize eo:o2=o
    generalize en:n2=n
    revert o n
    refine as0 (R:=fun out2 ib2=>MI (le B) out2.toList (a.toList.drop ia1) (b.toList.drop ib2) (a.toList++b.toList)/\(∀ y∈b.toList.drop ib2,le B ax y)/\ib2<b.size/\out2.size=ia1+ib2/\x+2<=out2.size) ?_ (fun hk J=>?_) (fun hk=>?_)
    rotate_left
    ·by_cases e6:n2+k'=b.size
     ·refine K9 (by simpa using e6) ?_
      exact m5 ⟨hS.mg _,.inl ⟨_,_,_,_,_,_,_,rfl,goodDone _ _ _ m3' e6⟩⟩
     refine K2 (by simpa using e6) ?_
     exact J (o2++b.extract n2 (n2+k')) (n2+k') ⟨m3',hge2',by omega,by rw[J6,F8,sz2];omega,by rw[J6];omega⟩
    ·have e8:k'=0:=by omega
     rw[e8]at hge2'
     exact⟨m2,hge2',by omega,sz2,by omega⟩
    rintro out2 ib2 ⟨m3,hge3,hne3,sz3,z3⟩
    refine k7 (D6 ea ?_)
    have m4:=pushA out2 ia1 ib2 ax m3 ea' hge3
    by_cases e7:ia1+1+1=a.size
    ·refine K9 (by simpa using e7) ?_
     exact m5 ⟨hS.mg _,.inl ⟨_,_,_,_,_,_,_,rfl,goodLast _ _ _ m4 e7⟩⟩
    refine K2 (by simpa using e7) ?_
    have I4:LoI B a b (out2.push ax) (ia1+1) ib2:=⟨m4,by omega,hne3,by rw[A9,sz3];omega⟩
    have z4:x+2<=(out2.push ax).size:=by
     rw[A9,sz3]
     have:=I'.sz
     omega
    refine am9 ?_ ?_
    ·exact m5 ⟨hS.mg _,.inr ⟨_,_,_,_,_,_,rfl,I4,z4⟩⟩
    ·exact m5 ⟨hS.mg _,_,_,_,_,_,_,rfl,I4,z4⟩
end
theorem aV6 {α:Type}{l:List α}{x:α}(h:l[n]?=some x):(l.take (n+1)).reverse=x::(l.take n).reverse:=by
 rw[A7,h,bU1]
 rfl
theorem ak8 {α:Type}(l:List α){k:Nat}(h:k<=n):(l.take n).reverse=((l.drop k).take (n - k)).reverse++(l.take k).reverse:=by
 rw[<- bU1]
 congr 1
 obtain⟨d,rfl⟩:=Nat.le.dest h
 rw[R4,List.take_add]
theorem L3 {α:Type}{l:List α}{x:α}(h:x∈(l.take n).reverse):∃ j,j<n/\j<l.length/\l[j]?=some x:=by
 rw[aT5]at h
 obtain⟨j,hj⟩:=o6.mp h
 rw[T4]at hj
 split at hj
 ·rename_i hlt
  exact⟨j,hlt,(d9.mp hj).1,hj⟩
 ·cases hj
theorem aD0 (a:Array Keyed)(i k:Nat):(a.extract i k).toList=(a.toList.drop i).take (k - i):=by
 rw[ad1,W7]
section
variable {S:Keyed->Prop}
abbrev HM (B:Keyed->Keyed->Bool)(a b out:Array Keyed)(na nb:Nat):Prop:=MI (fun x y=>le B y x) out.toList (a.toList.take na).reverse (b.toList.take nb).reverse (a.toList++b.toList)
structure HiI (B:Keyed->Keyed->Bool) (a b out:Array Keyed) (na nb:Nat):Prop where
 m:HM B a b out na nb
 ha:0<na
 ha':na<=a.size
 hb:1<nb
 hb':nb<=b.size
 sz:out.size+na+nb=a.size+b.size
theorem aV1 (o:Ord B)(C:Cmp prog w A E s κ S B){a b:Array Keyed}{st:A8}{Q:Array Keyed->A8->Prop}(hk:kindOf st=κ)(hSa:∀ x∈a.toList,S x)(hSb:∀ x∈b.toList,S x)
  (sa:a.toList.Pairwise (le B))(sb:b.toList.Pairwise (le B))(ha:0<a.size)(hb:0<b.size)
  (h0:∀ x y,b[0]?=some x->a[0]?=some y->B x y=true)(hl:∀ x∈b.toList,∀ y,a[a.size - 1]?=some y->B x y=true)
  (h:∀ r st',Sm st st'->Good B a b r->Q r st'):wpS (t9 prog w) A E s (aG3 a b) Q st:=by
 have ga:∀ i,i<a.size->∃ x,a[i]?=some x/\a.toList[i]?=some x/\S x:=fun i hi=>by
  refine⟨a[i],getElem?_pos a i hi,by rw[g6];exact getElem?_pos a i hi,hSa _ (by simp)⟩
 have gb:∀ i,i<b.size->∃ x,b[i]?=some x/\b.toList[i]?=some x/\S x:=fun i hi=>by
  refine⟨b[i],getElem?_pos b i hi,by rw[g6];exact getElem?_pos b i hi,hSb _ (by simp)⟩
 have leA:∀ (i j:Nat) (x y:Keyed),i<=j->a.toList[i]?=some x->a.toList[j]?=some y->le B x y:=fun i j x y hij hx hy=>by
  obtain⟨h1,rfl⟩:=d9.mp hx
  obtain⟨h2,rfl⟩:=d9.mp hy
  rcases L7 hij with hlt | rfl
  ·exact t7.mp sa i j h1 h2 hlt
  ·exact o.rf _
 have leB:∀ (i j:Nat) (x y:Keyed),i<=j->b.toList[i]?=some x->b.toList[j]?=some y->le B x y:=fun i j x y hij hx hy=>by
  obtain⟨h1,rfl⟩:=d9.mp hx
  obtain⟨h2,rfl⟩:=d9.mp hy
  rcases L7 hij with hlt | rfl
  ·exact t7.mp sb i j h1 h2 hlt
  ·exact o.rf _
 have tl:∀ (z:Array Keyed) (i:Nat),z[i]?=z.toList[i]?:=fun z i=>(g6 ..).symm
 have rel:∀ {l:List Keyed},l.Pairwise (fun x y=>le B y x)->l.reverse.Pairwise (le B):=fun {l} hp=>ac9.mpr hp
 have goodDone:∀ (out:Array Keyed) (na nb:Nat),HM B a b out na nb->(na=0\/nb=0)->Good B a b (a.extract 0 na++b.extract 0 nb++out.reverse):=fun out na nb m e=>by
  have:=m.endBA (fun x hx y hy=>by
   rcases e with rfl | rfl
   ·simp at hy
   ·simp at hx)
  unfold Good
  rw[B7,B7,aS1,aS1,ad2]
  have q:(out.toList++((b.toList.take nb).reverse++(a.toList.take na).reverse)).reverse=a.toList.take na++b.toList.take nb++out.toList.reverse:=by simp
  exact⟨by rw[<- q];exact rel this.1,by rw[<- q];exact(ab4 _).trans this.2⟩
 obtain⟨b0,eb0,eb0',Sb0⟩:=gb 0 hb
 obtain⟨a0,ea0,ea0',Sa0⟩:=ga 0 ha
 have lt0:=h0 b0 a0 eb0 ea0
 have goodFirst:∀ (out:Array Keyed) (na nb:Nat),HM B a b out na nb->nb=1->Good B a b (b.extract 0 nb++a.extract 0 na++out.reverse):=fun out na nb m e=>by
  have:=m.endAB (fun x hx y hy=>by
   subst e
   obtain⟨i,h1,h2,h3⟩:=L3 hx
   obtain⟨j,h4,h5,h6⟩:=L3 hy
   have:j=0:=by omega
   subst this
   rw[eb0']at h6
   cases h6
   exact o.of_lt (o.lt_le lt0 (leA 0 i a0 x (t8 _) ea0' h3)))
  unfold Good
  rw[B7,B7,aS1,aS1,ad2]
  have q:(out.toList++((a.toList.take na).reverse++(b.toList.take nb).reverse)).reverse=b.toList.take nb++a.toList.take na++out.toList.reverse:=by simp
  exact⟨by rw[<- q];exact rel this.1,by rw[<- q];exact(ab4 _).trans this.2⟩
 have pushA:∀ (out:Array Keyed) (na nb:Nat) (x:Keyed),0<na->HM B a b out na nb->a.toList[na - 1]?=some x->(∀ y∈(b.toList.take nb).reverse,le B y x)->HM B a b (out.push x) (na - 1) nb:=fun out na nb x hn m e hx=>by
  obtain⟨n,rfl⟩:∃ n,na=n+1:=⟨na - 1,by omega⟩
  unfold HM at m ⊢
  rw[ak2]at e ⊢
  rw[aV6 e]at m
  rw[aa2]
  exact m.oneA hx
 have pushB:∀ (out:Array Keyed) (na nb:Nat) (x:Keyed),0<nb->HM B a b out na nb->b.toList[nb - 1]?=some x->(∀ y∈(a.toList.take na).reverse,le B y x)->HM B a b (out.push x) na (nb - 1):=fun out na nb x hn m e hx=>by
  obtain⟨n,rfl⟩:∃ n,nb=n+1:=⟨nb - 1,by omega⟩
  unfold HM at m ⊢
  rw[ak2]at e ⊢
  rw[aV6 e]at m
  rw[aa2]
  exact m.oneB hx
 have blkA:∀ (out:Array Keyed) (na nb k:Nat),k<=na->HM B a b out na nb->(∀ x∈((a.toList.drop k).take (na - k)).reverse,∀ y∈(b.toList.take nb).reverse,le B y x)->HM B a b (out++(a.extract k na).reverse) k nb:=fun out na nb k hkn m hx=>by
  unfold HM at m ⊢
  rw[ak8 a.toList hkn]at m
  rw[B7,ad2,aD0]
  exact m.blkA hx
 have blkB:∀ (out:Array Keyed) (na nb k:Nat),k<=nb->HM B a b out na nb->(∀ x∈((b.toList.drop k).take (nb - k)).reverse,∀ y∈(a.toList.take na).reverse,le B y x)->HM B a b (out++(b.extract k nb).reverse) na k:=fun out na nb k hkn m hx=>by
  unfold HM at m ⊢
  rw[ak8 b.toList hkn]at m
  rw[B7,ad2,aD0]
  exact m.blkB hx
 rw[ba3]
 refine k7 (af5 ?_)
 obtain⟨al,eal,eal',Sal⟩:=ga (a.size - 1) (by omega)
 refine k7 (D6 eal ?_)
 have m0:HM B a b #[] a.size b.size:=by
  unfold HM
  rw[k8 (by simp),k8 (by simp)]
  refine⟨List.Pairwise.nil,(fun _ hx=>nomatch hx),(fun _ hx=>nomatch hx),ac9.mpr sa,ac9.mpr sb,?_⟩
  rw[Q3]
  exact List.Perm.append (ab4 _) (ab4 _)
 have m1:HM B a b #[al] (a.size - 1) b.size:=pushA #[] a.size b.size al ha m0 eal' fun y hy=>by
  obtain⟨j,h1,h2,h3⟩:=L3 hy
  exact o.of_lt (hl y (d8 h3) al eal)
 by_cases e1:a.size - 1=0
 ·refine K9 (by simpa using e1) ?_
  exact m5 (h _ st (Sm.rfl' st) (goodDone _ _ _ m1 (.inl e1)))
 refine K2 (by simpa using e1) ?_
 by_cases e2:b.size=1
 ·refine K9 (by simpa using e2) ?_
  exact m5 (h _ st (Sm.rfl' st) (goodFirst _ _ _ m1 e2))
 refine K2 (by simpa using e2) ?_
 refine k7 (aA7 ?_)
 have I0:HiI B a b #[al] (a.size - 1) b.size:=⟨m1,by omega,by omega,by omega,by omega,by simp;omega⟩
 refine k7 (Y4 (F2
  (I:=fun x c st'=>Sm st st'/\∃ na nb out mg,c=(none,na,nb,out,mg)/\HiI B a b out na nb/\x+1<=out.size)
  (Q:=fun c st'=>Sm st st'/\∃ r na nb out mg,c=(some r,na,nb,out,mg)/\Good B a b r) ?step ?fin ⟨Sm.rfl' st,_,_,#[al],_,rfl,I0,by simp⟩) ?post)
 case fin =>
  rintro c st' ⟨hS,na,nb,out,mg,rfl,I,hx⟩
  have h1:=I.sz
  have h2:=I.ha
  have h3:=I.hb
  exfalso
  omega
 case post =>
  rintro c st' ⟨hS,r,na,nb,out,mg,rfl,hg⟩
  exact m5 (h r st' hS hg)
 case step =>
  rintro x c st1 _ hx ⟨hS1,na,nb,out,mg,rfl,I,hsz⟩
  refine k7 (Y4 (F2
   (I:=fun j c st'=>Sm st st'/\∃ na' nb' out' ac bc,c=(none,na',nb',out',ac,bc)/\HiI B a b out' na' nb'/\x+1<=out'.size/\(1<=j->x+2<=out'.size))
   (Q:=fun c st'=>Sm st st'/\((∃ r na' nb' out' ac bc,c=(some r,na',nb',out',ac,bc)/\Good B a b r)\/(∃ na' nb' out' ac bc,c=(none,na',nb',out',ac,bc)/\HiI B a b out' na' nb'/\x+2<=out'.size)))
   ?istep ?ifin ⟨hS1,na,nb,out,0,0,rfl,I,hsz,by omega⟩) ?ipost)
  case ifin =>
   rintro c st' ⟨hS,na',nb',out',ac,bc,rfl,I',h1,h2⟩
   exact⟨hS,.inr ⟨na',nb',out',ac,bc,rfl,I',h2 (by omega)⟩⟩
  case istep =>
   rintro j c st' _ hj ⟨hS,na',nb',out',ac,bc,rfl,I',h1,_⟩
   have i1:=I'.ha
   have i2:=I'.ha'
   have i3:=I'.hb
   have i4:=I'.hb'
   have i5:=I'.sz
   obtain⟨bx,eb,eb',Sb⟩:=gb (nb' - 1) (by omega)
   obtain⟨ax,ea,ea',Sa⟩:=ga (na' - 1) (by omega)
   refine k7 (D6 eb (k7 (D6 ea (k7 (aD7 C (hS.k.trans hk) Sb Sa ?_)))))
   cases ew:B bx ax with
   | true =>
    refine K9 rfl ?_
    refine k7 (D6 ea ?_)
    have m2:=pushA out' na' nb' ax i1 I'.m ea' fun y hy=>by
     obtain⟨j,h1,h2,h3⟩:=L3 hy
     exact o.of_lt (o.le_lt (leB j (nb' - 1) y bx (by omega) h3 eb') ew)
    by_cases e3:na' - 1=0
    ·refine K9 (by simpa using e3) ?_
     exact m5 ⟨hS,.inl ⟨_,_,_,_,_,_,rfl,goodDone _ _ _ m2 (.inl e3)⟩⟩
    refine K2 (by simpa using e3) ?_
    have I2:HiI B a b (out'.push ax) (na' - 1) nb':=⟨m2,by omega,by omega,i3,i4,by rw[A9];omega⟩
    have z2:x+2<=(out'.push ax).size:=by rw[A9];omega
    refine am9 ?_ ?_
    ·exact m5 ⟨hS,.inr ⟨_,_,_,_,_,rfl,I2,z2⟩⟩
    ·exact m5 ⟨hS,_,_,_,_,_,rfl,I2,ao3 z2,fun _=>z2⟩
   | false =>
    refine K2 i7 ?_
    refine k7 (D6 eb ?_)
    have m2:=pushB out' na' nb' bx (by omega) I'.m eb' fun y hy=>by
     obtain⟨j,h1,h2,h3⟩:=L3 hy
     exact o.trans (leA j (na' - 1) y ax (by omega) h3 ea') ew
    by_cases e3:nb' - 1=1
    ·refine K9 (by simpa using e3) ?_
     exact m5 ⟨hS,.inl ⟨_,_,_,_,_,_,rfl,goodFirst _ _ _ m2 e3⟩⟩
    refine K2 (by simpa using e3) ?_
    have I2:HiI B a b (out'.push bx) na' (nb' - 1):=⟨m2,i1,i2,by omega,by omega,by rw[A9];omega⟩
    have z2:x+2<=(out'.push bx).size:=by rw[A9];omega
    refine am9 ?_ ?_
    ·exact m5 ⟨hS,.inr ⟨_,_,_,_,_,rfl,I2,z2⟩⟩
    ·exact m5 ⟨hS,_,_,_,_,_,rfl,I2,ao3 z2,fun _=>z2⟩
  case ipost =>
   rintro c st2 ⟨hS2,⟨r,na',nb',out',ac,bc,rfl,hg⟩ | ⟨na',nb',out',ac,bc,rfl,I',hz⟩⟩
   ·exact m5 ⟨hS2,r,_,_,_,_,rfl,hg⟩
   refine k7 (af5 ?_)
   refine k7 (Y4 (F2
    (I:=fun j c st'=>Sm st st'/\∃ na' nb' out' mg ac bc,c=(none,na',nb',out',mg,ac,bc)/\HiI B a b out' na' nb'/\x+2<=out'.size)
    (Q:=fun c st'=>Sm st st'/\((∃ r na' nb' out' mg ac bc,c=(some r,na',nb',out',mg,ac,bc)/\Good B a b r)\/(∃ na' nb' out' mg ac bc,c=(none,na',nb',out',mg,ac,bc)/\HiI B a b out' na' nb'/\x+2<=out'.size)))
    ?gstep ?gfin ⟨hS2,na',nb',out',_,ac,bc,rfl,I',hz⟩) ?gpost)
   case gfin =>
    rintro c st' ⟨hS,na',nb',out',mg,ac,bc,rfl,I',h1⟩
    exact⟨hS,.inr ⟨na',nb',out',mg,ac,bc,rfl,I',h1⟩⟩
   case gpost =>
    rintro c st3 ⟨hS3,⟨r,na',nb',out',mg,ac,bc,rfl,hg⟩ | ⟨na',nb',out',mg,ac,bc,rfl,I',hz⟩⟩
    ·exact m5 ⟨hS3,r,_,_,_,_,rfl,hg⟩
    exact k7 (an0 (m5 ⟨hS3.mg _,_,_,_,_,rfl,I',by omega⟩))
   case gstep =>
    rintro j c st' _ hj ⟨hS,na',nb',out',mg,ac,bc,rfl,I',hz⟩
    dsimp (config:={ zeta:=false }) only
    have i1:=I'.ha
    have i2:=I'.ha'
    have i3:=I'.hb
    have i4:=I'.hb'
    have i5:=I'.sz
    obtain⟨bx,eb,eb',Sb⟩:=gb (nb' - 1) (by omega)
    revert mg
    refine aV2 (fun _=>rfl) fun mg1=>?_
    try dsimp (config:={ zeta:=false }) only
    refine k7 (an0 (k7 (D6 eb ?_)))
    refine k7 (X8 o C (hS.k.trans hk) Sb (by omega) (fun i y hi e=>hSa y (d8 (by rw[<- tl];exact e))) (fun i j y z hij hj e e'=>leA _ _ y z (X7 hij _) (by rw[<- tl];exact e) (by rw[<- tl];exact e')) (by omega) fun k hkn hlt hge=>?_)
    dsimp (config:={ zeta:=false }) only
    have hlt':∀ y∈(a.toList.take k).reverse,le B y bx:=fun y hy=>by
     obtain⟨i,h1,h2,h3⟩:=L3 hy
     have q:=hlt i y h1 (by rw[O6,tl];exact h3)
     show B bx y=false
     simpa [byn] using q
    have hge':∀ y∈((a.toList.drop k).take (na' - k)).reverse,∀ z∈(b.toList.take nb').reverse,le B z y:=fun y hy z hz'=>by
     rw[aT5]at hy
     obtain⟨i,h1,h3⟩:=Y7 hy
     have q:=hge (k+i) y (by omega) (by omega) (by rw[O6,tl];exact h3)
     obtain⟨j',h4,h5,h6⟩:=L3 hz'
     have q':B bx y=true:=by simpa [byn] using q
     exact o.of_lt (o.le_lt (leB j' (nb' - 1) z bx (by omega) h6 eb') q')
    have m1':=blkA out' na' nb' k hkn I'.m hge'
    generalize hd:na' - k=d
    generalize eo:out'=o
    generalize en:na'=n
    revert o n
    refine as0 (R:=fun out1 na1=>HM B a b out1 na1 nb'/\(∀ y∈(a.toList.take na1).reverse,le B y bx)/\0<na1/\na1<=a.size/\out1.size+na1+nb'=a.size+b.size/\x+2<=out1.size) ?_ (fun hk J=>?_) (fun hk=>?_)
    rotate_left
    ·by_cases e4:k=0
     ·refine K9 (by simpa using e4) ?_
      exact m5 ⟨hS.mg _,.inl ⟨_,_,_,_,_,_,_,rfl,goodDone _ _ _ m1' (.inl e4)⟩⟩
     refine K2 (by simpa using e4) ?_
     exact J (out'++(a.extract k na').reverse) k ⟨m1',hlt',by omega,by omega,by rw[J6,bU2,F8];omega,by rw[J6];omega⟩
    ·have e9:k=na':=by omega
     exact⟨I'.m,by rw[<- e9];exact hlt',i1,i2,i5,hz⟩
    rintro out1 na1 ⟨m1,hge1,hne1,hle1,sz1,z1⟩
    refine k7 (D6 eb ?_)
    have m2:=pushB out1 na1 nb' bx (by omega) m1 eb' hge1
    by_cases e5:nb' - 1=1
    ·refine K9 (by simpa using e5) ?_
     exact m5 ⟨hS.mg _,.inl ⟨_,_,_,_,_,_,_,rfl,goodFirst _ _ _ m2 e5⟩⟩
    refine K2 (by simpa using e5) ?_
    generalize ho:out1.push bx=o2 at m2 ⊢
    have so2:o2.size=out1.size+1:=by rw[<- ho,A9]
    generalize hn:nb' - 1=n2 at m2 e5 ⊢
    obtain⟨ax,ea,ea',Sa⟩:=ga (na1 - 1) (by omega)
    refine k7 (D6 ea ?_)
    refine k7 (X8 o C (hS.k.trans hk) Sa (by omega) (fun i y hi e=>hSb y (d8 (by rw[<- tl];exact e))) (fun i j y z hij hj e e'=>leB _ _ y z (X7 hij _) (by rw[<- tl];exact e) (by rw[<- tl];exact e')) (by omega) fun k' hkn' hlt2 hge2=>?_)
    dsimp (config:={ zeta:=false }) only
    have hlt2':∀ y∈(b.toList.take k').reverse,le B y ax:=fun y hy=>by
     obtain⟨i,h1,h2,h3⟩:=L3 hy
     have q:=hlt2 i y h1 (by rw[O6,tl];exact h3)
     have q':B y ax=true:=by simpa [byn] using q
     exact o.of_lt q'
    have hge2':∀ y∈((b.toList.drop k').take (n2 - k')).reverse,∀ z∈(a.toList.take na1).reverse,le B z y:=fun y hy z hz'=>by
     rw[aT5]at hy
     obtain⟨i,h1,h3⟩:=Y7 hy
     have q:=hge2 (k'+i) y (by omega) (by omega) (by rw[O6,tl];exact h3)
     obtain⟨j',h4,h5,h6⟩:=L3 hz'
     have q':B y ax=false:=by simpa [byn] using q
     exact o.trans (leA j' (na1 - 1) z ax (by omega) h6 ea') q'
    have m3':=blkB o2 na1 n2 k' hkn' m2 hge2'
    have sz2:o2.size+na1+n2=a.size+b.size:=by omega
    generalize hd2:n2 - k'=d2
    generalize eo:o2=o
    generalize en:n2=n
    revert o n
    refine as0 (R:=fun out2 nb2=>HM B a b out2 na1 nb2/\(∀ y∈(b.toList.take nb2).reverse,le B y ax)/\1<nb2/\nb2<=b.size/\out2.size+na1+nb2=a.size+b.size/\x+2<=out2.size) ?_ (fun hk J=>?_) (fun hk=>?_)
    rotate_left
    ·by_cases e6:k'=1
     ·refine K9 (by simpa using e6) ?_
      exact m5 ⟨hS.mg _,.inl ⟨_,_,_,_,_,_,_,rfl,goodFirst _ _ _ m3' e6⟩⟩
     refine K2 (by simpa using e6) ?_
     by_cases e7:k'=0
     ·refine K9 (by simpa using e7) ?_
      exact m5 ⟨hS.mg _,.inl ⟨_,_,_,_,_,_,_,rfl,goodDone _ _ _ m3' (.inr e7)⟩⟩
     refine K2 (by simpa using e7) ?_
     exact J (o2++(b.extract k' n2).reverse) k' ⟨m3',hlt2',by omega,by omega,by rw[J6,bU2,F8];omega,by rw[J6];omega⟩
    ·have e8:k'=n2:=by omega
     exact⟨m2,by rw[<- e8];exact hlt2',by omega,by omega,sz2,by omega⟩
    rintro out2 nb2 ⟨m3,hge3,hne3,hle3,sz3,z3⟩
    refine k7 (D6 ea ?_)
    have m4:=pushA out2 na1 nb2 ax hne1 m3 ea' hge3
    by_cases e7:na1 - 1=0
    ·refine K9 (by simpa using e7) ?_
     exact m5 ⟨hS.mg _,.inl ⟨_,_,_,_,_,_,_,rfl,goodDone _ _ _ m4 (.inl e7)⟩⟩
    refine K2 (by simpa using e7) ?_
    have I4:HiI B a b (out2.push ax) (na1 - 1) nb2:=⟨m4,by omega,by omega,hne3,hle3,by rw[A9];omega⟩
    have z4:x+2<=(out2.push ax).size:=by
     rw[A9]
     omega
    refine am9 ?_ ?_
    ·exact m5 ⟨hS.mg _,.inr ⟨_,_,_,_,_,_,rfl,I4,z4⟩⟩
    ·exact m5 ⟨hS.mg _,_,_,_,_,_,_,rfl,I4,z4⟩
end
def KF {O:aP0}(f:Keyed->O.α)(d:O.α)(xs:Array Keyed)(i:Nat):O.α:=match xs[i]? with
 | some p=>f p
 | none=>d
def Bf {O:aP0}(f:Keyed->O.α)(x y:Keyed):Bool:=O.blt (f x) (f y)
theorem Bf.ord {O:aP0}(f:Keyed->O.α):Ord (Bf f):=⟨fun x=>O.irrefl _,fun x y z=>O.trans _ _ _,fun x y z=>O.negTrans _ _ _⟩
section
variable {O:aP0} {f:Keyed->O.α} {d:O.α}
theorem am5 {xs ys:Array Keyed}(h:xs[i]?=ys[j]?):KF f d xs i=KF f d ys j:=by unfold KF;rw[h]
theorem aD6 {xs:Array Keyed}{x:Keyed}(h:xs[i]?=some x):KF f d xs i=f x:=by unfold KF;rw[h]
theorem aO8 {xs:Array Keyed}{src dd:Nat}(hs:src<xs.size)(hd:dd<=src)(k:Nat) :
  KF f d (bubble xs src dd) k=if k=src - dd then KF f d xs src else if src - dd<k/\k<=src then KF f d xs (k - 1) else KF f d xs k:=by
 have e:=getElem?_bubble hs dd hd k
 repeat' split at e
 all_goals first
  | (rw[if_pos (by assumption)];exact am5 e)
  | (rw[if_neg (by assumption),if_pos (by assumption)];exact am5 e)
  | (rw[if_neg (by assumption),if_neg (by assumption)];exact am5 e)
theorem az2 {xs:Array Keyed}(hj:j<=xs.size)(k:Nat):KF f d (mirror xs i j ((j - i) / 2)) k=if i<=k/\k<j then KF f d xs (i+j - 1 - k) else KF f d xs k:=by
 have e:=cj5 (i:=i) hj k
 split at e
 ·rw[if_pos (by assumption)];exact am5 e
 ·rw[if_neg (by assumption)];exact am5 e
theorem Q1 {xs:Array Keyed}(hj:j<=xs.size)(heq:∀ k,i<=k->k<j->KF f d xs k=KF f d xs (j - 1))(k:Nat):KF f d (mirror xs i j ((j - i) / 2)) k=KF f d xs k:=by
 rw[az2 hj]
 split
 ·rw[heq _ (by omega) (by omega),heq k (by omega) (by omega)]
 ·rfl
end
def W6 {O:aP0}(f:Keyed->O.α)(d:O.α)(lo:Nat)(xs:Array Keyed)(k:Nat):Prop:=∀ i j,i<=j->j<k->O.kle (KF f d xs (lo+i)) (KF f d xs (lo+j))
def ai7 {O:aP0}(f:Keyed->O.α)(d:O.α)(lo:Nat)(xs:Array Keyed)(k:Nat):Prop:=∀ i j,i<=j->j<k->O.kle (KF f d xs (lo+j)) (KF f d xs (lo+i))
def Pre (lo:Nat)(xs ys:Array Keyed):Prop:=∀ k,k<lo->ys[k]?=xs[k]?
theorem Pre.rf (lo:Nat)(xs:Array Keyed):Pre lo xs xs:=fun _ _=>rfl
theorem Pre.trans {lo:Nat}{xs ys zs:Array Keyed}(a:Pre lo xs ys)(b:Pre lo ys zs):Pre lo xs zs:=fun k hk=>(b k hk).trans (a k hk)
theorem Pre.mirror {lo:Nat}{xs:Array Keyed}(hj:j<=xs.size)(hi:lo<=i):Pre lo xs (mirror xs i j ((j - i) / 2)):=fun k hk=>by
 rw[cj5 hj,if_neg (by omega)]
theorem Pre.bubble {lo src dd:Nat}{xs:Array Keyed}(hs:src<xs.size)(hd:dd<=src)(hl:lo<=src - dd):Pre lo xs (bubble xs src dd):=fun k hk=>by
 rw[getElem?_bubble hs dd hd,if_neg (by omega),if_neg (by omega)]
structure SI (a₀:Array Keyed) (κ:SortKind) (p:Array (Nat × Nat × Nat)) (st:A8):Prop where
 perm:(o4 st).Perm a₀
 kind:kindOf st=κ
 failed:P0 st=none
 pend:B8 st=p
section
variable {p:Array (Nat × Nat × Nat)} {O:aP0} {f:Keyed->O.α} {d:O.α}
theorem SI.size {st:A8}(h:SI a₀ κ p st):(o4 st).size=a₀.size:=h.perm.size_eq
theorem SI.setArr {st:A8}(h:SI a₀ κ p st){xs:Array Keyed}(hp:xs.Perm (o4 st)):SI a₀ κ p (setArr st xs):=⟨hp.trans h.perm,h.kind,h.failed,h.pend⟩
theorem SI.at {st:A8}(h:SI a₀ κ p st)(hi:i<a₀.size):∃ x,(o4 st)[i]?=some x/\x∈a₀.toList:=by
 have hi':i<(o4 st).size:=by rw[h.size];exact hi
 exact⟨(o4 st)[i],getElem?_pos _ i hi',(N5.mp h.perm).mem_iff.mp (by simp)⟩
abbrev bT9 (prog:Program)(w:World)(A:Around)(E:Value->Shared->Prop)(s:Shared)(κ:SortKind)(a₀:Array Keyed){O:aP0}(f:Keyed->O.α):Prop:=Cmp prog w A E s κ (·∈a₀.toList) (Bf f)
theorem ah6 (C:bT9 prog w A E s κ a₀ f){st:A8}{Q:Option Bool->A8->Prop}(hB:SI a₀ κ p st)(hi:i<a₀.size)(hj:j<a₀.size)
  (h:Q (some (O.blt (KF f d (o4 st) i) (KF f d (o4 st) j))) st):wpS (t9 prog w) A E s (ltAt' i j) Q st:=by
 obtain⟨x,e1,hx⟩:=hB.at hi
 obtain⟨y,e2,hy⟩:=hB.at hj
 rw[aD6 e1,aD6 e2]at h
 exact br5 C hB.kind e1 e2 hx hy h
theorem bj9 {st:A8} {lo a nrem:Nat} {Q:Option (Option Nat) × Nat->A8->Prop} {b:Nat->Option (Option Nat) × Nat->StateT A8 Sem (ForInStep (Option (Option Nat) × Nat))} (ha:1<=a) (han:a<=nrem)
  (hb : ∀ x n (R : ForInStep (Option (Option Nat) × Nat) -> A8 -> Prop), 1 <= n -> n < nrem -> (O.klt (KF f d (o4 st) (lo + n)) (KF f d (o4 st) (lo + n - 1)) -> R (.done (none, n)) st) ->
   (O.kle (KF f d (o4 st) (lo+n - 1)) (KF f d (o4 st) (lo+n))->R (.yield (none,n+1)) st)->wpS (t9 prog w) A E s (b x (none,n)) R st)
  (hs:W6 f d lo (o4 st) a)
  (h:∀ n,a<=n->n<=nrem->W6 f d lo (o4 st) n->(n=nrem\/O.klt (KF f d (o4 st) (lo+n)) (KF f d (o4 st) (lo+n - 1)))->Q (none,n) st) :
  wpS (t9 prog w) A E s (forIn [a:nrem] (none,a) b) Q st:=by
 refine F2 (I:=fun x c st'=>st'=st/\c=(none,x)/\W6 f d lo (o4 st) x) ?step ?fin ⟨rfl,rfl,hs⟩
 case fin =>
  rintro c st' ⟨rfl,rfl,hs'⟩
  rw[show max a nrem=nrem by omega]at hs' ⊢
  exact h nrem han (c9 _) hs' (.inl rfl)
 case step =>
  rintro x c st' hax hxn ⟨rfl,rfl,hs'⟩
  refine hb x x _ (by omega) hxn (fun q=>h x hax (by omega) hs' (.inr q)) (fun q=>⟨rfl,rfl,fun i j hij hj=>?_⟩)
  by_cases hjx:j<x
  ·exact hs' i j hij hjx
  ·have hj':j=x:=by omega
   subst hj'
   by_cases hi':i=j
   ·subst hi';exact KeyOrd.kle_refl _
   ·refine KeyOrd.kle_trans (hs' i (j - 1) (by omega) (by omega)) ?_
    rw[show lo+(j - 1)=lo+j - 1 by omega]
    exact q
theorem bw8 {st:A8} {lo nrem:Nat} {Q:Option (Option Nat) × Nat × Nat->A8->Prop} {b:Nat->Option (Option Nat) × Nat × Nat->StateT A8 Sem (ForInStep (Option (Option Nat) × Nat × Nat))} (hn:lo+nrem<=a₀.size) (h1:1<=n) (hnn:n<=nrem) (hB:SI a₀ κ p st)
  (hb : ∀ y x neq st' (R : ForInStep (Option (Option Nat) × Nat × Nat) -> A8 -> Prop), SI a₀ κ p st' -> 1 <= x -> x < nrem ->
   (O.klt (KF f d (o4 st') (lo+x)) (KF f d (o4 st') (lo+x - 1))->0<neq->R (.yield (none,x+1,0)) (setArr st' (mirror (o4 st') (lo+x - (neq+1)) (lo+x) ((lo+x - (lo+x - (neq+1))) / 2)))) ->
   (O.klt (KF f d (o4 st') (lo+x)) (KF f d (o4 st') (lo+x - 1))->R (.yield (none,x+1,0)) st') ->
   (R (.done (none,x,neq)) st') ->
   (O.kle (KF f d (o4 st') (lo+x - 1)) (KF f d (o4 st') (lo+x))->O.kle (KF f d (o4 st') (lo+x)) (KF f d (o4 st') (lo+x - 1))->R (.yield (none,x+1,neq+1)) st')->wpS (t9 prog w) A E s (b y (none,x,neq)) R st')
  (hs:ai7 f d lo (o4 st) n)
  (h:∀ m neq st',SI a₀ κ p st'->Pre lo (o4 st) (o4 st')->n<=m->m<=nrem->ai7 f d lo (o4 st') m->neq+1<=m->(∀ i,m - (neq+1)<=i->i<m->KF f d (o4 st') (lo+i)=KF f d (o4 st') (lo+m - 1))->Q (none,m,neq) st') :
  wpS (t9 prog w) A E s (forIn [n:nrem] (none,n,0) b) Q st:=by
 refine F2 (I:=fun x c st'=>∃ neq,c=(none,x,neq)/\SI a₀ κ p st'/\Pre lo (o4 st) (o4 st')/\ai7 f d lo (o4 st') x/\neq+1<=x /\
   (∀ i,x - (neq+1)<=i->i<x->KF f d (o4 st') (lo+i)=KF f d (o4 st') (lo+x - 1))) ?step ?fin ⟨0,rfl,hB,Pre.rf _ _,hs,by omega,fun i h1 h2=>by congr 1;omega⟩
 case fin =>
  rintro c st' ⟨neq,rfl,hB',hp',hs',hq,he⟩
  rw[show max n nrem=nrem by omega]at hs' hq he ⊢
  exact h nrem neq st' hB' hp' hnn (c9 _) hs' hq he
 case step =>
  rintro x c st' hax hxn ⟨neq,rfl,hB',hp',hs',hq,he⟩
  have hsz:lo+x<=(o4 st').size:=by rw[hB'.size];omega
  have step1:O.klt (KF f d (o4 st') (lo+x)) (KF f d (o4 st') (lo+x - 1))->∀ xs:Array Keyed,(∀ k,KF f d xs k=KF f d (o4 st') k)->ai7 f d lo xs (x+1):=by
   intro hless xs hk i j hij hj
   rw[hk,hk]
   by_cases hjx:j<x
   ·exact hs' i j hij hjx
   ·have hj':j=x:=by omega
    subst hj'
    by_cases hi':i=j
    ·subst hi';exact KeyOrd.kle_refl _
    ·refine KeyOrd.kle_trans (KeyOrd.kle_of_klt hless) ?_
     rw[show lo+j - 1=lo+(j - 1) by omega]
     exact hs' i (j - 1) (by omega) (by omega)
  have he':∀ k,lo+x - (neq+1)<=k->k<lo+x->KF f d (o4 st') k=KF f d (o4 st') (lo+x - 1):=fun k h1 h2=>by
   have:=he (k - lo) (by omega) (by omega)
   rw[show lo+(k - lo)=k by omega]at this
   exact this
  refine hb x x neq st' _ hB' (by omega) hxn (fun q hneq=>?_) (fun q=>?_) (h x neq st' hB' hp' hax (by omega) hs' hq he) (fun q q'=>?_)
  ·exact⟨0,rfl,hB'.setArr (bq7 _ _ _ _),hp'.trans (Pre.mirror hsz (by omega)),step1 q _ (Q1 hsz he'),by omega,fun i h1 h2=>by congr 1;omega⟩
  ·exact⟨0,rfl,hB',hp',step1 q _ (fun _=>rfl),by omega,fun i h1 h2=>by congr 1;omega⟩
  ·have heqx:KF f d (o4 st') (lo+x)=KF f d (o4 st') (lo+x - 1):=KeyOrd.kle_antisymm q' q
   refine⟨neq+1,rfl,hB',hp',fun i j hij hj=>?_,by omega,fun i h1 h2=>?_⟩
   ·by_cases hjx:j<x
    ·exact hs' i j hij hjx
    ·have hj':j=x:=by omega
     subst hj'
     by_cases hi':i=j
     ·subst hi';exact KeyOrd.kle_refl _
     ·rw[heqx,show lo+j - 1=lo+(j - 1) by omega];exact hs' i (j - 1) (by omega) (by omega)
   ·rw[show lo+(x+1) - 1=lo+x by omega]
    by_cases hix:i=x
    ·subst hix;rfl
    ·rw[heqx];exact he i (by omega) (by omega)
theorem wpS_countRun (C:bT9 prog w A E s κ a₀ f) {st:A8} {lo nrem:Nat} {Q:Option Nat->A8->Prop} (d:O.α) (hn:lo+nrem<=a₀.size) (h1:1<=nrem) (hB:SI a₀ κ p st)
    (h:∀ m st',SI a₀ κ p st'->Pre lo (o4 st) (o4 st')->1<=m->m<=nrem->W6 f d lo (o4 st') m->Q (some m) st') :
    wpS (t9 prog w) A E s (countRun' lo nrem) Q st:=by
  rw[countRun'_eq]
  dsimp only
  refine k7 (bj9 (f:=f) (d:=d) (lo:=lo) (c9 1) h1 (fun x n R hn1 hn2 q1 q2=>?_) (fun i j hij hj=>by have:i=j:=(by omega);subst this;exact KeyOrd.kle_refl _) fun n hn1 hn2 hsn hor=>?_)
  · dsimp only
    refine k7 (ah6 (d:=d) C hB (by omega) (by omega) ?_)
    cases e:O.blt (KF f d (o4 st) (lo+n)) (KF f d (o4 st) (lo+n - 1)) with
    | true=>exact m5 (q1 e)
    | false=>exact m5 (q2 e)
  dsimp only
  by_cases hnn:n=nrem
  · rw[if_pos (by simpa using hnn)]
    exact m5 (h n st hB (Pre.rf _ _) hn1 hn2 hsn)
  rw[if_neg (by simpa using hnn)]
  have hlt:=hor.resolve_left hnn
  by_cases hrose:1<n/\O.blt (KF f d (o4 st) lo) (KF f d (o4 st) (lo+n - 1))=true
  · rw[if_pos hrose.1]
    refine k7 (ah6 (d:=d) C hB (by omega) (by omega) ?_)
    rw[hrose.2]
    exact m5 (h n st hB (Pre.rf _ _) hn1 hn2 hsn)
  have hfell:1<n->O.blt (KF f d (o4 st) lo) (KF f d (o4 st) (lo+n - 1))=false:=fun hgt=>by
    cases e:O.blt (KF f d (o4 st) lo) (KF f d (o4 st) (lo+n - 1)) with
    | false=>rfl
    | true=>exact absurd ⟨hgt,e⟩ hrose
  have fall:∃ st2,SI a₀ κ p st2/\Pre lo (o4 st) (o4 st2)/\ai7 f d lo (o4 st2) (n+1)/\(n > 1->st2=setArr st (mirror (o4 st) lo (lo+n) ((lo+n - lo) / 2)))/\(¬ n > 1->st2=st):=by
    by_cases hgt:1<n
    · have hfell:=hfell hgt
      have hsz:lo+n<=(o4 st).size:=by rw[hB.size];omega
      have hall:∀ k,lo<=k->k<lo+n->KF f d (o4 st) k=KF f d (o4 st) (lo+n - 1):=by
        intro k hk0 hk
        have a1:=hsn 0 (k - lo) (by omega) (by omega)
        have a2:=hsn (k - lo) (n - 1) (by omega) (by omega)
        rw[show lo+0=lo by omega,show lo+(k - lo)=k by omega]at a1
        rw[show lo+(k - lo)=k by omega,show lo+(n - 1)=lo+n - 1 by omega]at a2
        exact KeyOrd.kle_antisymm a2 (KeyOrd.kle_trans hfell a1)
      refine⟨_,hB.setArr (bq7 _ _ _ _),Pre.mirror hsz (c9 _),?_,fun _=>rfl,fun e=>by omega⟩
      intro i j hij hj
      show O.kle (KF f d (mirror (o4 st) _ _ _) (lo+j)) (KF f d (mirror (o4 st) _ _ _) (lo+i))
      rw[Q1 hsz hall,Q1 hsz hall]
      by_cases hjn:j<n
      · rw[hall (lo+i) (by omega) (by omega),hall (lo+j) (by omega) (by omega)];exact KeyOrd.kle_refl _
      · have hj':j=n:=by omega
        subst hj'
        by_cases hi':i=j
        · subst hi';exact KeyOrd.kle_refl _
        · rw[hall (lo+i) (by omega) (by omega)];exact KeyOrd.kle_of_klt hlt
    · have hn1':n=1:=by omega
      subst hn1'
      refine⟨st,hB,Pre.rf _ _,?_,fun q=>by omega,fun _=>rfl⟩
      intro i j hij hj
      by_cases hi':i=j
      · subst hi';exact KeyOrd.kle_refl _
      · have hi0:i=0:=by omega
        have hj1:j=1:=by omega
        subst hi0;subst hj1
        rw[show lo+0=lo+1 - 1 by omega]
        exact KeyOrd.kle_of_klt hlt
  obtain⟨st2,hB2,hp2,hs2,e2,e3⟩:=fall
  by_cases hgt:n > 1
  all_goals first
    | (rw [if_pos hgt]
       refine k7 (ah6 (d:=d) C hB (by omega) (by omega) ?_)
       rw[hfell hgt]
       dsimp only
       rw[if_neg i7]
       refine k7 (aK0 ?_)
       rw[<- e2 hgt])
    | (rw [if_neg hgt]
       have e3:=e3 hgt
       rw[<- e3])
  all_goals
    clear e2 e3
    refine k7 (af5 ?_)
    refine k7 (bw8 (f:=f) (d:=d) (lo:=lo) hn (by omega) (by omega) hB2 (fun y x neq st' R hB' x1 x2 q1 q2 q3 q4=>?_) hs2 fun m neq st' hB' hp' hm1 hm2 hs' hq he=>?_)
    · dsimp only
      refine k7 (ah6 (d:=d) C hB' (by omega) (by omega) ?_)
      cases e:O.blt (KF f d (o4 st') (lo+x)) (KF f d (o4 st') (lo+x - 1)) with
      | true =>
        dsimp only
        rw[if_pos rfl]
        split
        · rename_i hz
          exact k7 (aK0 (m5 (q1 e hz)))
        · exact m5 (q2 e)
      | false =>
        dsimp only
        rw[if_neg i7]
        refine k7 (ah6 (d:=d) C hB' (by omega) (by omega) ?_)
        cases e':O.blt (KF f d (o4 st') (lo+x - 1)) (KF f d (o4 st') (lo+x)) with
        | true=>exact m5 q3
        | false=>exact m5 (q4 e e')
    · dsimp only
      have hsz:lo+m<=(o4 st').size:=by rw[hB'.size];omega
      have he':∀ k,lo+m - (neq+1)<=k->k<lo+m->KF f d (o4 st') k=KF f d (o4 st') (lo+m - 1):=fun k h1 h2=>by
        have:=he (k - lo) (by omega) (by omega)
        rw[show lo+(k - lo)=k by omega]at this
        exact this
      have tailOk:∀ st3,SI a₀ κ p st3->Pre lo (o4 st) (o4 st3)->ai7 f d lo (o4 st3) m->SI a₀ κ p (setArr st3 (mirror (o4 st3) lo (lo+m) ((lo+m - lo) / 2)))/\Pre lo (o4 st) (mirror (o4 st3) lo (lo+m) ((lo+m - lo) / 2))/\W6 f d lo (mirror (o4 st3) lo (lo+m) ((lo+m - lo) / 2)) m:=fun st3 hB3 hp3 hs3=>by
        have hsz3:lo+m<=(o4 st3).size:=by rw[hB3.size];omega
        refine⟨hB3.setArr (bq7 _ _ _ _),hp3.trans (Pre.mirror hsz3 (c9 _)),fun i j hij hj=>?_⟩
        rw[az2 hsz3,az2 hsz3,if_pos (by omega),if_pos (by omega),show lo+(lo+m) - 1 - (lo+i)=lo+(m - 1 - i) by omega,show lo+(lo+m) - 1 - (lo+j)=lo+(m - 1 - j) by omega]
        exact hs3 _ _ (by omega) (by omega)
      have mm:ai7 f d lo (mirror (o4 st') (lo+m - (neq+1)) (lo+m) ((lo+m - (lo+m - (neq+1))) / 2)) m:=fun i j hij hj=>by
        rw[Q1 hsz he',Q1 hsz he']
        exact hs' i j hij hj
      by_cases hneq:neq > 0
      all_goals first
        | (rw [if_pos hneq]
           refine k7 (aK0 (k7 (aK0 ?_)))
           obtain⟨hB4,hp4,hs4⟩:=tailOk (setArr st' (mirror (o4 st') (lo+m - (neq+1)) (lo+m) ((lo+m - (lo+m - (neq+1))) / 2))) (hB'.setArr (bq7 _ _ _ _)) ((hp2.trans hp').trans (Pre.mirror hsz (by omega))) mm)
        | (rw [if_neg hneq]
           refine k7 (aK0 ?_)
           obtain⟨hB4,hp4,hs4⟩:=tailOk st' hB' (hp2.trans hp') hs')
      all_goals
        refine k7 (bj9 (f:=f) (d:=d) (lo:=lo) (by omega) hm2 (fun x n R hn1 hn2 q1 q2=>?_) hs4 fun n' hn1' hn2' hsn' _=>m5 (h n' _ hB4 hp4 (by omega) hn2' hsn'))
        dsimp only
        refine k7 (ah6 (d:=d) C hB4 (by omega) (by omega) ?_)
        revert q1 q2
        generalize KF f d (o4 _) (lo+n)=u
        generalize KF f d (o4 _) (lo+n - 1)=v
        intro q1 q2
        cases e:O.blt u v with
        | true=>exact m5 (q1 e)
        | false=>exact m5 (q2 e)
theorem aA8 (C:bT9 prog w A E s κ a₀ f) {st:A8} {lo ok:Nat} {Q:Bool->A8->Prop} (d:O.α) (hn:lo+n<=a₀.size) (hok:ok<=n) (hB:SI a₀ κ p st) (hs:W6 f d lo (o4 st) ok)
  (h:∀ st',SI a₀ κ p st'->Pre lo (o4 st) (o4 st')->W6 f d lo (o4 st') n->Q true st'):wpS (t9 prog w) A E s (binarySort' lo n ok) Q st:=by
 rw[binarySort'_eq]
 refine k7 (Y4 (F2 (I:=fun k c st'=>c=(none,())/\SI a₀ κ p st'/\Pre lo (o4 st) (o4 st')/\W6 f d lo (o4 st') (min k n))
  (Q:=fun c st'=>c=(none,())/\SI a₀ κ p st'/\Pre lo (o4 st) (o4 st')/\W6 f d lo (o4 st') n) ?step ?fin ?init) ?post)
 case post =>
  rintro c st' ⟨rfl,hB',hp',hs'⟩
  exact m5 (h st' hB' hp' hs')
 case init =>
  refine⟨rfl,hB,Pre.rf _ _,fun i j hij hj=>?_⟩
  by_cases h1:ok=0
  ·have:i=j:=by omega
   subst this;exact KeyOrd.kle_refl _
  ·exact hs i j hij (by omega)
 case fin =>
  rintro c st' ⟨hc,hB',hp',hs'⟩
  refine⟨hc,hB',hp',?_⟩
  rwa [show min (max (max ok 1) n) n=n by omega]at hs'
 case step =>
  rintro k c st' hak hkn ⟨rfl,hB',hp',hs'⟩
  rw[show min k n=k by omega]at hs'
  have hk:lo+k<a₀.size:=by omega
  refine k7 (Y4 (F2 (I:=fun x c st''=>st''=st'/\∃ l r,c=(none,l,r)/\l<=r/\r<=k/\r - l<=k - x /\
    (∀ i,i<l->O.kle (KF f d (o4 st') (lo+i)) (KF f d (o4 st') (lo+k)))/\(∀ i,r<=i->i<k->O.klt (KF f d (o4 st') (lo+k)) (KF f d (o4 st') (lo+i))))
   (Q := fun c st'' => st'' = st' /\ ∃ l r, c = (none, l, r) /\ l <= k /\
    (∀ i,i<l->O.kle (KF f d (o4 st') (lo+i)) (KF f d (o4 st') (lo+k)))/\(∀ i,l<=i->i<k->O.klt (KF f d (o4 st') (lo+k)) (KF f d (o4 st') (lo+i)))) ?istep ?ifin ?iinit) ?ipost)
  case iinit=>exact⟨rfl,0,k,rfl,by omega,by omega,by omega,fun i hi=>by omega,fun i h1 h2=>by omega⟩
  case ifin =>
   rintro c st'' ⟨rfl,l,r,rfl,hlr,hrk,hm,hlo,hhi⟩
   have:l=r:=by omega
   subst this
   exact⟨rfl,l,l,rfl,hrk,hlo,hhi⟩
  case istep =>
   rintro x c st'' _ hxk ⟨rfl,l,r,rfl,hlr,hrk,hm,hlo,hhi⟩
   dsimp only
   by_cases hge:l≥r
   ·rw[if_pos hge]
    have:l=r:=by omega
    subst this
    exact m5 ⟨rfl,l,l,rfl,hrk,hlo,hhi⟩
   ·rw[if_neg hge]
    refine k7 (ah6 (d:=d) C hB' hk (by omega) ?_)
    cases hless:O.blt (KF f d (o4 st'') (lo+k)) (KF f d (o4 st'') (lo+(l+r) / 2))
    case true =>
     simp only[if_true]
     refine m5 ⟨rfl,l,(l+r) / 2,rfl,by omega,by omega,by omega,hlo,fun i h1 h2=>?_⟩
     exact KeyOrd.klt_of_klt_of_kle hless (hs' _ _ h1 h2)
    case false =>
     simp only[l9,if_false]
     refine m5 ⟨rfl,(l+r) / 2+1,r,rfl,by omega,by omega,by omega,fun i h1=>?_,hhi⟩
     exact KeyOrd.kle_trans (hs' i ((l+r) / 2) (by omega) (by omega)) (show O.kle _ _ from hless)
  case ipost =>
   rintro c st'' ⟨rfl,l,r,rfl,hlk,hlo,hhi⟩
   show wpS _ _ _ _ (do moveDown' (lo+k) (lo+l);pure (ForInStep.yield (none,()))) _ _
   rw[moveDown'_eq]
   have hks:lo+k<(o4 st'').size:=by rw[hB'.size];exact hk
   refine k7 (aB4 (m5 ⟨rfl,hB'.setArr (bubble_perm _ _ _),hp'.trans (Pre.bubble hks (by omega) (by omega)),?_⟩))
   rw[show min (k+1) n=k+1 by omega]
   intro i j hij hj
   show O.kle (KF f d (bubble (o4 st'') (lo+k) (lo+k - (lo+l))) (lo+i)) (KF f d (bubble (o4 st'') (lo+k) (lo+k - (lo+l))) (lo+j))
   rw[aO8 hks (by omega),aO8 hks (by omega),show lo+k - (lo+k - (lo+l))=lo+l by omega]
   have e1:∀ t:Nat,0<t->lo+t - 1=lo+(t - 1):=fun t ht=>by omega
   repeat' split
   all_goals first
    | (exfalso;omega)
    | exact KeyOrd.kle_refl _
    | exact hlo _ (by omega)
    | (rw[e1 _ (by omega)];exact KeyOrd.kle_of_klt (hhi _ (by omega) (by omega)))
    | exact KeyOrd.kle_of_klt (hhi _ (by omega) (by omega))
    | exact hs' _ _ (by omega) (by omega)
    | (rw[e1 _ (by omega)];exact hs' _ _ (by omega) (by omega))
    | (rw[e1 _ (by omega),e1 _ (by omega)];exact hs' _ _ (by omega) (by omega))
end
theorem ba4 (i:Nat):mergeAt' i=(do
 let s <- get
 let (some (sa,na,power),some (sb,nb,_)):=((B8 s)[i]?,(B8 s)[i+1]?) | aj8 "internal:list.sort.pending"
 set (bJ7 s (((B8 s).setIfInBounds i (sa,na+nb,power)).eraseIdxIfInBounds (i+1)))
 let some k <- ab1 false (<- ak5 (o4 s) sb) (o4 s) sa na 0 | return false
 let (sa,na):=(sa+k,na - k)
 if na == 0 then return true
 let some nb <- ab1 true (<- ak5 (o4 s) (sa+na - 1)) (o4 s) sb nb (nb - 1) | return false
 if nb == 0 then return true
 let x:=(o4 s).extract sa sb
 let y:=(o4 s).extract sb (sb+nb)
 let merged <- if na<=nb then aG2 x y else aG3 x y
 modify fun s=>setArr s (merged.toList.zipIdx.foldl (fun a (p,j)=>a.setIfInBounds (sa+j) p) (o4 s))
 return (P0 (<- get)).isNone):=rfl
def shape (ps:List (Nat × Nat × Nat)):List (Nat × Nat):=ps.map fun x=>(x.1,x.2.1)
def at7:Nat->List (List Keyed)->List (Nat × Nat)
 | _,[]=>[]
 | k,r::rs=>(k,r.length)::at7 (k+r.length) rs
theorem ad9:∀ (k:Nat) (rs ts:List (List Keyed)),at7 k (rs++ts)=at7 k rs++at7 (k+rs.flatten.length) ts
 | k,[],ts=>by simp[at7]
 | k,r::rs,ts=>by
  rw[aT6]
  show (k,r.length)::at7 (k+r.length) (rs++ts)=(k,r.length)::(at7 (k+r.length) rs++_)
  rw[ad9 (k+r.length) rs ts,Q2,m6,Nat.add_assoc]
theorem ad8:∀ (k:Nat) (rs:List (List Keyed)),(at7 k rs).length=rs.length
 | _,[]=>rfl
 | k,r::rs=>by
  show (at7 (k+r.length) rs).length+1=rs.length+1
  rw[ad8]
theorem aW2 {α:Type}{l:List α}(h:i+1<l.length):∃ l1 u v l2,l=l1++u::v::l2/\l1.length=i:=by
 refine⟨l.take i,l[i],l[i+1],l.drop (i+2),?_,by rw[q8];omega⟩
 rw[<- ak1,<- ak1,B6]
theorem bb9 (b:Nat):∀ (m:List Keyed) (k:Nat) (arr:Array Keyed),b+k+m.length<=arr.size ->
  (af4 (fun a x=>match x with | (p,j)=>bK0 a (b+j) p) arr (m.zipIdx k)).toList=arr.toList.take (b+k)++(m++arr.toList.drop (b+k+m.length))
 | [],k,arr,h=>by simp
 | x::m,k,arr,h=>by
  rw[p6]at h
  rw[aT7,ag9,bb9 b m (k+1) _ (by rw[bj4];omega)]
  dsimp only
  rw[bd5]
  have hl:b+k<arr.toList.length:=by rw[l5];omega
  rw[List.set_eq_take_append_cons_drop,if_pos hl]
  have e1:(bd6 (b+k) arr.toList).length=b+k:=by rw[q8];omega
  have e2:(bd6 (b+k) arr.toList++x::List.drop (b+k+1) arr.toList).take (b+(k+1))=bd6 (b+k) arr.toList++[x]:=by
   rw[ci5,e1,show b+(k+1) - (b+k)=1 by omega,k8 (by rw[e1];omega)]
   rfl
  have e3:(bd6 (b+k) arr.toList++x::List.drop (b+k+1) arr.toList).drop (b+(k+1)+m.length)=arr.toList.drop (b+k+(m.length+1)):=by
   rw[ad3,e1,J5 (by rw[e1];omega),Q3,show b+(k+1)+m.length - (b+k)=m.length+1 by omega,List.drop_succ_cons,bj2]
   congr 1
   omega
  rw[e2,e3,A6]
  rfl
theorem bL9 {σ:Type}{x:σ}{Q:PUnit->σ->Prop}{st:σ}(h:Q ⟨⟩ x):wpS M A E s (set x:StateT σ Sem PUnit) Q st:=by
 unfold wpS;rw[StateT.run_set];exact d3 ⟨rfl,h⟩
structure SR (a₀:Array Keyed) (κ:SortKind) (B:Keyed->Keyed->Bool) (runs:List (List Keyed)) (suf:List Keyed) (st:A8):Prop where
 perm:(o4 st).Perm a₀
 kind:kindOf st=κ
 failed:P0 st=none
 sh:shape (B8 st).toList=at7 0 runs
 ok:∀ r∈runs,r≠[]/\r.Pairwise (le B)
 arr:(o4 st).toList=runs.flatten++suf
theorem ag1 {l:List Keyed}(h:l.Pairwise R)(rf:∀ x,R x x){x y:Keyed}(hij:i<=j)(hx:l[i]?=some x)(hy:l[j]?=some y):R x y:=by
 obtain⟨h1,rfl⟩:=d9.mp hx
 obtain⟨h2,rfl⟩:=d9.mp hy
 rcases L7 hij with hlt | rfl
 ·exact t7.mp h i j h1 h2 hlt
 ·exact rf _
theorem az6 (o:Ord B)(C:Cmp prog w A E s κ (·∈a₀.toList) B){st:A8}{runs:List (List Keyed)}{suf:List Keyed}{Q:Bool->A8->Prop}(I:SR a₀ κ B runs suf st)(hi:i+1<runs.length)
  (h:∀ runs' st',SR a₀ κ B runs' suf st'->runs'.length+1=runs.length->runs'.flatten.length=runs.flatten.length->Q true st'):wpS (t9 prog w) A E s (mergeAt' i) Q st:=by
 obtain⟨r1,R,R',r2,rfl,hr1⟩:=aW2 hi
 have hpl:(B8 st).toList.length=(r1++R::R'::r2).length:=by
  have:=congrArg ao9 I.sh
  rw[ad8]at this
  unfold shape at this
  rw[b8]at this
  exact this
 obtain⟨l1,u,v,l2,hp,hl1⟩:=aW2 (l:=(B8 st).toList) (i:=i) (by rw[hpl];exact hi)
 have hsh:=I.sh
 rw[hp,ad9]at hsh
 unfold shape at hsh
 rw[j9]at hsh
 obtain⟨s1,s2⟩:=List.append_inj hsh (by rw[b8,ad8,hl1,hr1])
 rw[m8,m8]at s2
 simp only[at7,List.cons.injEq,O6]at s2
 obtain⟨su,sv,s2⟩:=s2
 obtain⟨sa,na,pw⟩:=u
 obtain⟨sb,nb,pw2⟩:=v
 simp only[Prod.mk.injEq]at su sv
 obtain⟨hsa,hna⟩:=su
 obtain⟨hsb,hnb⟩:=sv
 have okR:=I.ok R (by simp)
 have okR':=I.ok R' (by simp)
 have nR:0<R.length:=aB3.mpr okR.1
 have nR':0<R'.length:=aB3.mpr okR'.1
 have g1:(B8 st)[i]?=some (sa,na,pw):=by
  rw[<- g6,hp,C6 (by omega),hl1,bK1]
  rfl
 have g2:(B8 st)[i+1]?=some (sb,nb,pw2):=by
  rw[<- g6,hp,C6 (by omega),hl1,show i+1 - i=1 by omega]
  rfl
 have harr:(o4 st).toList=r1.flatten++(R++(R'++(r2.flatten++suf))):=by
  rw[I.arr]
  simp
 have hsize:(o4 st).size=sa+(na+(nb+(r2.flatten++suf).length)):=by
  rw[<- l5,harr,m6,m6,m6,hsa,hna,hnb]
 have atR:∀ k,k<na->(o4 st)[sa+k]?=R[k]?:=fun k hk=>by
  rw[<- g6,harr,C6 (by omega),hsa,R4,O7 (by omega)]
 have atR':∀ k,k<nb->(o4 st)[sb+k]?=R'[k]?:=fun k hk=>by
  rw[<- g6,harr,C6 (by omega),C6 (by omega),O7 (by omega)]
  congr 1
  omega
 have inS:∀ x∈(o4 st).toList,x∈a₀.toList:=fun x hx=>(N5.mp I.perm).mem_iff.mp hx
 have hpend:∀ M:List Keyed,M.length=na+nb->shape (((B8 st).setIfInBounds i (sa,na+nb,pw)).eraseIdxIfInBounds (i+1)).toList=at7 0 (r1++M::r2):=fun M hM=>by
  have e:(((B8 st).setIfInBounds i (sa,na+nb,pw)).eraseIdxIfInBounds (i+1)).toList=l1++(sa,na+nb,pw)::l2:=by
   rw[Array.toList_eraseIdxIfInBounds,bd5,hp]
   subst hl1
   rw[List.set_append_right _ _ (c9 _),bK1,List.set_cons_zero,List.eraseIdx_append_of_length_le (by omega)]
   rw[show l1.length+1 - l1.length=1 by omega]
   rfl
  unfold shape
  rw[e,j9,s1,ad9,m8]
  show _++(sa,na+nb)::_=_++(0+r1.flatten.length,M.length)::at7 (0+r1.flatten.length+M.length) r2
  rw[hM,s2,O6,hsa,hna,hnb,Nat.add_assoc]
 have fin:∀ (st':A8) (M:List Keyed),kindOf st'=κ->P0 st'=none->B8 st'=((B8 st).setIfInBounds i (sa,na+nb,pw)).eraseIdxIfInBounds (i+1) ->
   (o4 st').toList=r1.flatten++(M++(r2.flatten++suf))->M.Perm (R++R')->M.Pairwise (le B)->Q true st':=fun st' M k1 k2 k3 k4 k5 k6=>by
  have hM:M.length=na+nb:=by rw[k5.length_eq,m6,hna,hnb]
  refine h (r1++M::r2) st' ⟨?_,k1,k2,by rw[k3];exact hpend M hM,fun r hr=>?_,?_⟩ (by simp;omega) (by simp;omega)
  ·refine Array.Perm.trans ?_ I.perm
   rw[N5,k4,harr]
   refine List.Perm.append_left _ ?_
   rw[<- A6 R]
   exact List.Perm.append_right _ k5
  ·rcases u6.mp hr with hr | hr
   ·exact I.ok r (G3 _ hr)
   ·rcases d7.mp hr with rfl | hr
    ·exact⟨by intro e;rw[e]at hM;simp at hM;omega,k6⟩
    ·exact I.ok r (m9 _ (d6 _ (d6 _ hr)))
  ·rw[k4];simp
 have both:(∀ x∈R,∀ y∈R',le B x y)->(R++R').Pairwise (le B):=fun hxy=>A3.mpr ⟨okR.2,okR'.2,hxy⟩
 rw[ba4]
 refine k7 (aA7 ?_)
 rw[g1,g2]
 dsimp only
 refine k7 (bL9 ?_)
 obtain⟨y0,ey0⟩:∃ y0,R'[0]?=some y0:=⟨R'[0],c7 nR'⟩
 have ey:(o4 st)[sb]?=some y0:=by
  have:=atR' 0 (by omega)
  rw[aT8]at this
  rw[this,ey0]
 refine k7 (D6 ey ?_)
 have hy0:y0∈a₀.toList:=inS y0 (d8 (by rw[g6];exact ey))
 refine k7 (X8 o C (by exact I.kind) hy0 (by omega) (fun i x hi' e=>inS x (d8 (by rw[g6];exact e)))
  (fun i j x y hij hj e e'=>ag1 okR.2 o.rf hij (by rw[<- atR i (by omega)];exact e) (by rw[<- atR j hj];exact e')) (by omega) fun k hk hlt hge=>?_)
 dsimp only
 have leR:∀ (j:Nat) (x:Keyed),j<k->R[j]?=some x->le B x y0:=fun j x hj e=>by
  have q:=hlt j x hj (by rw[atR j (by omega)];exact e)
  show B y0 x=false
  simpa [byn] using q
 have gtR:∀ (j:Nat) (x:Keyed),k<=j->R[j]?=some x->B y0 x=true:=fun j x hj e=>by
  have hjl:j<R.length:=(d9.mp e).1
  have q:=hge j x hj (by omega) (by rw[atR j (by omega)];exact e)
  simpa [byn] using q
 have leY:∀ y∈R',le B y0 y:=fun y hy=>by
  obtain⟨j,hj⟩:=o6.mp hy
  exact ag1 okR'.2 o.rf (t8 j) ey0 hj
 by_cases e0:na - k=0
 ·rw[if_pos (by simpa using e0)]
  refine m5 (fin _ (R++R') I.kind I.failed rfl ?_ (List.Perm.refl _) (both fun x hx y hy=>?_))
  ·show (o4 st).toList=_
   rw[harr];simp
  ·obtain⟨j,hj⟩:=o6.mp hx
   have hjl:j<R.length:=(d9.mp hj).1
   exact o.trans (leR j x (by omega) hj) (leY y hy)
 rw[if_neg (by simpa using e0)]
 obtain⟨xl,exl⟩:∃ xl,R[na - 1]?=some xl:=⟨R[na - 1]'(by omega),c7 (by omega)⟩
 have ex:(o4 st)[sa+k+(na - k) - 1]?=some xl:=by
  rw[show sa+k+(na - k) - 1=sa+(na - 1) by omega,atR _ (by omega),exl]
 refine k7 (D6 ex ?_)
 have hxl:xl∈a₀.toList:=inS xl (d8 (by rw[g6];exact ex))
 refine k7 (X8 o C (by exact I.kind) hxl (by omega) (fun i x hi' e=>inS x (d8 (by rw[g6];exact e)))
  (fun i j x y hij hj e e'=>ag1 okR'.2 o.rf hij (by rw[<- atR' i (by omega)];exact e) (by rw[<- atR' j hj];exact e')) (by omega) fun k2 hk2 hlt2 hge2=>?_)
 dsimp only
 have ltY:∀ (j:Nat) (x:Keyed),j<k2->R'[j]?=some x->B x xl=true:=fun j x hj e=>by
  have q:=hlt2 j x hj (by rw[atR' j (by omega)];exact e)
  simpa [byn] using q
 have geY:∀ (j:Nat) (x:Keyed),k2<=j->R'[j]?=some x->le B xl x:=fun j x hj e=>by
  have hjl:j<R'.length:=(d9.mp e).1
  have q:=hge2 j x hj (by omega) (by rw[atR' j (by omega)];exact e)
  show B x xl=false
  simpa [byn] using q
 have leX:∀ x∈R,le B x xl:=fun x hx=>by
  obtain⟨j,hj⟩:=o6.mp hx
  have hjl:j<R.length:=(d9.mp hj).1
  exact ag1 okR.2 o.rf (by omega) hj exl
 by_cases e1:k2=0
 ·rw[if_pos (by simpa using e1)]
  refine m5 (fin _ (R++R') I.kind I.failed rfl ?_ (List.Perm.refl _) (both fun x hx y hy=>?_))
  ·show (o4 st).toList=_
   rw[harr];simp
  ·obtain⟨j,hj⟩:=o6.mp hy
   exact o.trans (leX x hx) (geY j y (by omega) hj)
 rw[if_neg (by simpa using e1)]
 have ex1:((o4 st).extract (sa+k) sb).toList=R.drop k:=by
  rw[aD0,harr,hsa,ad3,J5 (by omega),Q3,R4,aT9 (by omega),ad4 (by rw[F3];omega)]
  exact k8 (by rw[F3];omega)
 have ey1:((o4 st).extract sb (sb+k2)).toList=R'.take k2:=by
  rw[aD0,harr,hsb,<- A6,ad3,J5 (by rw[m6];omega),Q3,m6,bK1,bj3,R4,ad4 (by omega)]
 have sx:((o4 st).extract (sa+k) sb).size=na - k:=by rw[<- l5,ex1,F3];omega
 have sy:((o4 st).extract sb (sb+k2)).size=k2:=by rw[<- l5,ey1,q8];omega
 have pre1:∀ x y,((o4 st).extract sb (sb+k2))[0]?=some x->((o4 st).extract (sa+k) sb)[0]?=some y->B x y=true:=fun x y hx hy=>by
  rw[<- g6,ey1,X6 (by omega),ey0]at hx
  cases hx
  rw[<- g6,ex1,S9]at hy
  exact gtR (k+0) y (by omega) hy
 have pre2:∀ x∈((o4 st).extract sb (sb+k2)).toList,∀ y,((o4 st).extract (sa+k) sb)[((o4 st).extract (sa+k) sb).size - 1]?=some y->B x y=true:=fun x hx y hy=>by
  rw[<- g6,ex1,S9,sx,show k+(na - k - 1)=na - 1 by omega,exl]at hy
  cases hy
  rw[ey1]at hx
  obtain⟨j,hj⟩:=o6.mp hx
  rw[T4]at hj
  split at hj
  ·rename_i hlt'
   exact ltY j x hlt' hj
  ·cases hj
 have sS1:∀ x∈((o4 st).extract (sa+k) sb).toList,x∈a₀.toList:=fun x hx=>by
  rw[ex1]at hx
  refine inS x ?_
  rw[harr]
  exact m9 _ (G3 _ (P8 hx))
 have sS2:∀ x∈((o4 st).extract sb (sb+k2)).toList,x∈a₀.toList:=fun x hx=>by
  rw[ey1]at hx
  refine inS x ?_
  rw[harr]
  exact m9 _ (m9 _ (G3 _ (G4 hx)))
 have so1:((o4 st).extract (sa+k) sb).toList.Pairwise (le B):=by rw[ex1];exact okR.2.sublist (ab5 _ _)
 have so2:((o4 st).extract sb (sb+k2)).toList.Pairwise (le B):=by rw[ey1];exact okR'.2.sublist (M7 _ _)
 have done:∀ (r:Array Keyed) (st3:A8),Sm (bJ7 st (((B8 st).setIfInBounds i (sa,na+nb,pw)).eraseIdxIfInBounds (i+1))) st3->Good B ((o4 st).extract (sa+k) sb) ((o4 st).extract sb (sb+k2)) r ->
   wpS (t9 prog w) A E s (do
    modify fun s=>setArr s (af4 (fun a x=>match x with | (p,j)=>bK0 a (sa+k+j) p) (o4 s) r.toList.zipIdx)
    let __do_lift <- get
    pure (P0 __do_lift).isNone) Q st3:=fun r st3 hS hg=>by
  refine k7 (aB4 (k7 (aA7 (m5 ?_))))
  have hf:P0 st3=none:=hS.f.trans I.failed
  show Q (P0 st3).isNone _
  rw[hf]
  obtain⟨g1,g2⟩:=hg
  rw[ex1,ey1]at g2
  have hrl:r.toList.length=na - k+k2:=by rw[g2.length_eq,m6,F3,q8];omega
  refine fin _ (R.take k++(r.toList++R'.drop k2)) (hS.k.trans I.kind) hf hS.p ?_ ?_ ?_
  ·show (af4 _ (o4 st3) (r.toList.zipIdx 0)).toList=_
   rw[hS.a]
   show (af4 _ (o4 st) (r.toList.zipIdx 0)).toList=_
   rw[bb9 (sa+k) r.toList 0 (o4 st) (by omega),harr,aT8,hrl]
   have t1:bd6 (sa+k) (r1.flatten++(R++(R'++(r2.flatten++suf))))=r1.flatten++R.take k:=by
    rw[ci5,k8 (by omega),show sa+k - r1.flatten.length=k by omega,ad4 (by omega)]
   have t2:List.drop (sa+k+(na - k+k2)) (r1.flatten++(R++(R'++(r2.flatten++suf))))=R'.drop k2++(r2.flatten++suf):=by
    rw[ad3,J5 (by omega),Q3,ad3,J5 (by omega),Q3,aT9 (by omega)]
    congr 2
    omega
   rw[t1,t2]
   simp
  ·have:(R.take k++(r.toList++R'.drop k2)).Perm (R.take k++((R.drop k++R'.take k2)++R'.drop k2)):=List.Perm.append_left _ (List.Perm.append_right _ g2)
   refine this.trans (List.Perm.of_eq ?_)
   rw[A6,B6,<- A6,B6]
  ·have inM:∀ z∈r.toList,z∈R.drop k\/z∈R'.take k2:=fun z hz=>u6.mp (g2.mem_iff.mp hz)
   have tk:∀ {l:List Keyed} {n:Nat} {x:Keyed},x∈l.take n->∃ j,j<n/\l[j]?=some x:=fun {l n x} hx=>by
    obtain⟨j,hj⟩:=o6.mp hx
    rw[T4]at hj
    split at hj
    ·rename_i hlt'
     exact⟨j,hlt',hj⟩
    ·cases hj
   refine A3.mpr ⟨okR.2.sublist (M7 _ _),A3.mpr ⟨g1,okR'.2.sublist (ab5 _ _),fun x hx y hy=>?_⟩,fun x hx y hy=>?_⟩
   ·obtain⟨j,h1,h2,h3⟩:=J1 hy
    rcases inM x hx with hx | hx
    ·exact o.trans (leX x (P8 hx)) (geY j y h1 h3)
    ·obtain⟨i',h4,h5⟩:=tk hx
     exact ag1 okR'.2 o.rf (by omega) h5 h3
   ·obtain⟨i',h4,h5⟩:=tk hx
    rcases u6.mp hy with hy | hy
    ·rcases inM y hy with hy | hy
     ·obtain⟨j,h1,h2,h3⟩:=J1 hy
      exact ag1 okR.2 o.rf (by omega) h5 h3
     ·exact o.trans (leR i' x h4 h5) (leY y (G4 hy))
    ·exact o.trans (leR i' x h4 h5) (leY y (P8 hy))
 by_cases e2:na - k<=k2
 ·rw[if_pos e2]
  exact k7 (aV0 o C (by exact I.kind) sS1 sS2 so1 so2 (by omega) (by omega) pre1 pre2 fun r st3 hS hg=>done r st3 hS hg)
 ·rw[if_neg e2]
  exact k7 (aV1 o C (by exact I.kind) sS1 sS2 so1 so2 (by omega) (by omega) pre1 pre2 fun r st3 hS hg=>done r st3 hS hg)
theorem aY5 {runs:List (List Keyed)}{suf:List Keyed}{st:A8}(I:SR a₀ κ B runs suf st):(B8 st).size=runs.length:=by
 have:=congrArg ao9 I.sh
 rw[ad8]at this
 unfold shape at this
 rw[b8,l5]at this
 exact this
theorem bl6:∀ (runs:List (List Keyed)),(∀ r∈runs,r≠[]/\r.Pairwise (le B))->runs.length<=runs.flatten.length
 | [],_=>c9 _
 | r::rs,h=>by
  have h1:=bl6 rs fun r hr=>h r (d6 _ hr)
  have h2:0<r.length:=aB3.mpr (h r f9).1
  rw[p6,Q2,m6]
  omega
section
variable {O:aP0} {f:Keyed->O.α}
theorem cb4 {d:O.α}{xs:Array Keyed}{lo:Nat}(hs:W6 f d lo xs n)(hn:lo+n<=xs.size):((xs.toList.drop lo).take n).Pairwise (le (Bf f))/\((xs.toList.drop lo).take n).length=n:=by
 refine⟨t7.mpr fun i j hi hj hij=>?_,by rw[q8,F3,l5];omega⟩
 have hjn:j<n:=by rw[q8]at hj;omega
 have gi:∀ k,(hk:k<n)->(xs.toList.drop lo)[k]?=some (xs[lo+k]'(by omega)):=fun k hk=>by
  rw[S9,g6]
  exact getElem?_pos xs _ _
 have e1:((xs.toList.drop lo).take n)[i]=xs[lo+i]'(by omega):=by
  have:=gi i (by omega)
  rw[<- X6 (show i<n by omega),c7 hi]at this
  exact Option.some.inj this
 have e2:((xs.toList.drop lo).take n)[j]=xs[lo+j]'(by omega):=by
  have:=gi j hjn
  rw[<- X6 hjn,c7 hj]at this
  exact Option.some.inj this
 rw[e1,e2]
 have:=hs i j (av9 hij) hjn
 rw[aD6 (getElem?_pos xs (lo+i) (by omega)),aD6 (getElem?_pos xs (lo+j) (by omega))]at this
 exact this
theorem aV7 {lo:Nat}{xs ys:Array Keyed}(h:Pre lo xs ys)(hz:ys.size=xs.size):ys.toList.take lo=xs.toList.take lo:=by
 apply M8
 intro k
 rw[T4,T4]
 split
 ·rw[g6,g6]
  exact h k (by assumption)
 ·rfl
theorem az5 (C:bT9 prog w A E s κ a₀ f) {st:A8} {Q:Unit->A8->Prop} (d:O.α) (hp:(o4 st).Perm a₀) (hk:kindOf st=κ) (hf:P0 st=none) (hpe:B8 st=#[])
    (h:∀ st',(o4 st').Perm a₀->P0 st'=none->(o4 st').toList.Pairwise (le (Bf f))->Q () st'):wpS (t9 prog w) A E s sortRuns' Q st:=by
  have o:Ord (Bf f):=Bf.ord f
  have hsz:(o4 st).size=a₀.size:=hp.size_eq
  rw[sortRuns'_eq]
  refine k7 (aA7 ?_)
  dsimp only
  rw[hsz]
  refine k7 (Y4 (F2
    (I:=fun x c st'=>∃ runs suf lo,c=(none,lo)/\SR a₀ κ (Bf f) runs suf st'/\lo=runs.flatten.length/\(x<=lo\/lo=a₀.size)/\lo<=a₀.size)
    (Q:=fun c st'=>∃ runs,c=(none,a₀.size)/\SR a₀ κ (Bf f) runs [] st') ?step ?fin
    ⟨[],(o4 st).toList,0,rfl,⟨hp,hk,hf,by rw[hpe];rfl,(fun _ hr=>nomatch hr),by simp⟩,rfl,.inl (c9 _),t8 _⟩) ?post)
  case fin =>
    rintro c st' ⟨runs,suf,lo,rfl,I,h1,h2,h3⟩
    have e:lo=a₀.size:=by omega
    have hl:=congrArg ao9 I.arr
    rw[l5,I.perm.size_eq,m6]at hl
    have:suf=[]:=aU0 (by omega)
    subst this
    exact⟨runs,by rw[e],I⟩
  case step =>
    rintro x c st1 _ hx ⟨runs,suf,lo,rfl,I,h1,h2,h3⟩
    dsimp only
    by_cases hge:lo≥a₀.size
    · rw[if_pos hge]
      have e:lo=a₀.size:=by omega
      have hl:=congrArg ao9 I.arr
      rw[l5,I.perm.size_eq,m6]at hl
      have:suf=[]:=aU0 (by omega)
      subst this
      exact m5 ⟨runs,by rw[e],I⟩
    rw[if_neg hge]
    refine k7 (wpS_countRun C d (p:=B8 st1) (by omega) (by omega) ⟨I.perm,I.kind,I.failed,rfl⟩ fun n st2 hB2 hp2 hn1 hn2 hs2=>?_)
    dsimp only
    have cont:∀ (n':Nat) (st3:A8),SI a₀ κ (B8 st1) st3->Pre lo (o4 st1) (o4 st3)->1<=n'->n'<=a₀.size - lo->W6 f d lo (o4 st3) n' ->
        ∃ run suf',SR a₀ κ (Bf f) runs (run++suf') st3/\run.length=n'/\run.Pairwise (le (Bf f)):=fun n' st3 hB3 hp3 k1 k2 hs3=>by
      obtain⟨q1,q2⟩:=cb4 hs3 (by rw[hB3.size];omega)
      refine⟨((o4 st3).toList.drop lo).take n',(o4 st3).toList.drop (lo+n'),⟨hB3.perm,hB3.kind,hB3.failed,by rw[hB3.pend];exact I.sh,I.ok,?_⟩,q2,q1⟩
      rw[<- ar3]
      refine(B6 lo (o4 st3).toList).symm.trans ?_
      congr 1
      rw[aV7 hp3 (by rw[hB3.size,I.perm.size_eq]),I.arr,h1]
      exact List.take_left
    have more:∀ (rs:List (List Keyed)) (run suf':List Keyed) (n':Nat) (st3:A8),SR a₀ κ (Bf f) rs (run++suf') st3->rs.flatten.length=lo->run.length=n'->run.Pairwise (le (Bf f))->1<=n'->n'<=a₀.size - lo ->
        ∃ runs suf lo',((none,lo+n'):Option Unit × Nat)=(none,lo')/\SR a₀ κ (Bf f) runs suf (bJ7 st3 ((B8 st3).push (lo,n',0)))/\lo'=runs.flatten.length/\(x+1<=lo'\/lo'=a₀.size)/\lo'<=a₀.size:=fun rs run suf' n' st3 I3 e1 e2 e3 k1 k2=>by
      refine⟨rs++[run],suf',lo+n',rfl,⟨I3.perm,I3.kind,I3.failed,?_,fun r hr=>?_,?_⟩,by simp[e1,e2],by omega,by omega⟩
      · show shape ((B8 st3).push (lo,n',0)).toList=_
        rw[aa2,ad9,<- I3.sh]
        unfold shape
        rw[j9,O6,e1]
        simp[at7,e2]
      · rcases u6.mp hr with hr | hr
        · exact I3.ok r hr
        · rw[x8.mp hr]
          exact⟨by intro z;rw[z]at e2;simp at e2;omega,e3⟩
      · show (o4 st3).toList=_
        rw[I3.arr]
        simp
    by_cases hlt:n<minRun' a₀.size a₀.size 0
    all_goals first
      | (rw [if_pos hlt]
         refine k7 (af5 ?_)
         refine k7 (aA8 C d (by omega) (by omega) hB2 hs2 fun st3 hB3 hp3 hs3=>?_)
         simp only[U6,l9,if_false]
         obtain⟨run,suf',I3,e2,e3⟩:=cont _ st3 hB3 (hp2.trans hp3) (by omega) (by omega) hs3
         have k1:1<=min (a₀.size - lo) (minRun' a₀.size a₀.size 0):=by omega
         have k2:min (a₀.size - lo) (minRun' a₀.size a₀.size 0)<=a₀.size - lo:=by omega
         revert e2 k1 k2
         generalize min (a₀.size - lo) (minRun' a₀.size a₀.size 0)=n'
         intro e2 k1 k2)
      | (rw [if_neg hlt]
         obtain⟨run,suf',I3,e2,e3⟩:=cont n st2 hB2 hp2 hn1 hn2 hs2
         have k1:1<=n:=hn1
         have k2:n<=a₀.size - lo:=hn2
         revert e2 k1 k2
         generalize n=n'
         intro e2 k1 k2)
    all_goals
      refine k7 (aA7 ?_)
      split
      ·
        rename_i s1 n1 pw1 hback
        refine k7 (Y4 (F2
          (I:=fun _ c st'=>c=(none,())/\∃ rs,SR a₀ κ (Bf f) rs (run++suf') st'/\rs.flatten.length=lo)
          (Q:=fun c st'=>c=(none,())/\∃ rs,SR a₀ κ (Bf f) rs (run++suf') st'/\rs.flatten.length=lo) ?mstep (fun _ _ q=>q) ⟨rfl,runs,I3,h1.symm⟩) ?mpost)
        case mstep =>
          rintro y c st4 _ _ ⟨rfl,rs,I4,e4⟩
          refine k7 (aA7 ?_)
          try dsimp only
          by_cases hz:(B8 st4).size > 1
          · rw[if_pos hz]
            split
            · split
              · exact m5 ⟨rfl,rs,I4,e4⟩
              · refine k7 (az6 o C I4 (by rw[<- aY5 I4];omega) fun rs' st5 I5 _ e5=>?_)
                simp only[U6,l9,if_false]
                exact m5 ⟨rfl,rs',I5,e5.trans e4⟩
            · exact m5 ⟨rfl,rs,I4,e4⟩
          · rw[if_neg hz]
            exact m5 ⟨rfl,rs,I4,e4⟩
        case mpost =>
          rintro c st4 ⟨rfl,rs,I4,e4⟩
          try dsimp only
          refine k7 (aB4 ?_)
          have I5:SR a₀ κ (Bf f) rs (run++suf') (bJ7 st4 ((B8 st4).modify ((B8 st4).size - 1) fun x=>match x with | (st,len,snd)=>(st,len,power' a₀.size (2*s1+n1) (2*s1+n1+n1+n') a₀.size))):=by
            refine⟨I4.perm,I4.kind,I4.failed,?_,I4.ok,I4.arr⟩
            rw[<- I4.sh]
            show shape ((B8 st4).modify _ _).toList=_
            rw[Array.toList_modify]
            unfold shape
            apply M8
            intro k
            rw[o5,o5,List.getElem?_modify]
            cases (B8 st4).toList[k]? with
            | none=>rfl
            | some v =>
              obtain⟨v1,v2,v3⟩:=v
              simp only[af3]
              split<;>rfl
          exact k7 (aB4 (m5 (more rs run suf' n' _ I5 e4 e2 e3 k1 k2)))
      · exact k7 (aB4 (m5 (more runs run suf' n' _ I3 h1.symm e2 e3 k1 k2)))
  case post =>
    rintro c st1 ⟨runs,rfl,I⟩
    try dsimp only
    refine k7 (Y4 (F2
      (I:=fun x c st'=>c=(none,())/\∃ rs,SR a₀ κ (Bf f) rs [] st'/\(rs.length+x<=a₀.size\/rs.length<=1))
      (Q:=fun c st'=>c=(none,())/\∃ rs,SR a₀ κ (Bf f) rs [] st'/\rs.length<=1) ?fstep ?ffin ⟨rfl,runs,I,.inl ?fst⟩) ?fpost)
    case fst =>
      have h1:=bl6 runs I.ok
      have hl:=congrArg ao9 I.arr
      rw[l5,I.perm.size_eq,B4]at hl
      omega
    case ffin =>
      rintro c st' ⟨rfl,rs,I',q⟩
      exact⟨rfl,rs,I',by omega⟩
    case fstep =>
      rintro x c st2 _ hx ⟨rfl,rs,I2,q⟩
      refine k7 (aA7 ?_)
      try dsimp only
      have hpl:=aY5 I2
      by_cases hz:(B8 st2).size<=1
      · rw[if_pos hz]
        exact m5 ⟨rfl,rs,I2,by omega⟩
      rw[if_neg hz]
      refine k7 (az6 o C I2 ?_ fun rs' st3 I3 e3 _=>?_)
      · (repeat' split)<;>omega
      · simp only[U6,l9,if_false]
        exact m5 ⟨rfl,rs',I3,by omega⟩
    case fpost =>
      rintro c st2 ⟨rfl,rs,I2,q⟩
      refine m5 (h st2 I2.perm I2.failed ?_)
      rw[I2.arr,B4]
      match rs,I2.ok,q with
      | [],_,_=>exact List.Pairwise.nil
      | [r],ok,_=>simpa using (ok r (by simp)).2
end
end Tim
namespace Tim
open PySem PyProof.Rows PySem.W
def K4:List Int->List Int->Bool
 | [],[]=>false
 | [],_::_=>true
 | _::_,[]=>false
 | a::x,b::y=>if a=b then K4 x y else decide (a<b)
theorem au0:∀ x,K4 x x=false
 | []=>rfl
 | a::x=>by unfold K4;rw[if_pos rfl];exact au0 x
theorem aR5:∀ x y z,K4 x y=true->K4 y z=true->K4 x z=true
 | [],[],z,h,_=>by cases h
 | [],_::_,[],_,h=>by cases h
 | [],_::_,_::_,_,_=>rfl
 | _::_,[],z,h,_=>by cases h
 | _::_,_::_,[],_,h=>by cases h
 | a::x,b::y,c::z,h1,h2=>by
  unfold K4 at h1 h2 ⊢
  by_cases e1:a=b
  ·subst e1
   rw[if_pos rfl]at h1
   by_cases e2:a=c
   ·rw[if_pos e2]at h2 ⊢
    exact aR5 x y z h1 h2
   ·rw[if_neg e2]at h2 ⊢
    exact h2
  ·rw[if_neg e1,decide_eq_true_eq]at h1
   by_cases e2:b=c
   ·subst e2
    rw[if_neg e1,decide_eq_true_eq]
    exact h1
   ·rw[if_neg e2,decide_eq_true_eq]at h2
    rw[if_neg (by omega),decide_eq_true_eq]
    omega
theorem aG5:∀ x y,K4 x y=false->K4 y x=false->x=y
 | [],[],_,_=>rfl
 | [],_::_,h,_=>by cases h
 | _::_,[],_,h=>by cases h
 | a::x,b::y,h1,h2=>by
  unfold K4 at h1 h2
  by_cases e:a=b
  ·subst e
   rw[if_pos rfl]at h1 h2
   rw[aG5 x y h1 h2]
  ·rw[if_neg e,decide_eq_false_iff_not]at h1
   rw[if_neg (Ne.symm e),decide_eq_false_iff_not]at h2
   omega
theorem bQ7 (x y z:List Int)(h:K4 x z=true):K4 x y=true\/K4 y z=true:=by
 cases e1:K4 x y with
 | true=>exact .inl rfl
 | false =>
  cases e2:K4 y x with
  | true=>exact .inr (aR5 _ _ _ e2 h)
  | false=>rw[aG5 x y e1 e2]at h;exact .inr h
def bh1:aP0:=⟨List Int,K4,au0,aR5,bQ7,aG5⟩
def IsK (prog:Program)(w:World)(h:Heap)(k:List Int)(v:Value):Prop:=∃ a,v=.ref a/\M3 (B0 prog w) h k a
theorem IsK.inj {k':List Int}(x:IsK prog w h k v)(y:IsK prog w h k' v):k=k':=by
 obtain⟨a,rfl,h1⟩:=x
 obtain⟨b,e,h2⟩:=y
 cases e
 exact h1.inj h2
open Classical in
noncomputable def X5 (prog:Program)(w:World)(h:Heap)(v:Value):List Int:=if q:∃ k,IsK prog w h k v then Classical.choose q else []
theorem W3 (x:IsK prog w h k v):X5 prog w h v=k:=by
 unfold X5
 rw[dif_pos ⟨k,x⟩]
 exact(Classical.choose_spec (⟨k,x⟩:∃ k,IsK prog w h k v)).inj x
theorem IsK.up (x:IsK prog w h k v)(hs:∀ b o,h.get? b=some o->h'.get? b=some o):IsK prog w h' k v:=by
 obtain⟨a,e,o,items,n,h2,h3⟩:=x
 exact⟨a,e,o,items,n,hs a o h2,h3⟩
theorem aM4 {b:Bool}{Q:Bool->Shared->Prop}(hb:b=true):∀ (x y:List Int) (vs us:List Value) (i:Nat) (fin:Bool),ItemsAre (B0 prog w) x vs->ItemsAre (B0 prog w) y us->(x.length<y.length↔fin=true)->Q (K4 x y) s->KatLex prog w A b fin Q (vs.zip us) i s
 | [],[],_,_,i,fin,.nil,.nil,hf,h=>by
  have:fin=false:=by cases fin with | false=>rfl | true=>exact absurd (hf.mpr rfl) (by simp)
  subst this
  exact kat_nil h
 | [],_::_,_,_,i,fin,.nil,.cons _ _,hf,h=>by
  have:fin=true:=hf.mp (by simp)
  subst this
  exact kat_nil h
 | _::_,[],_,_,i,fin,.cons _ _,.nil,hf,h=>by
  have:fin=false:=by cases fin with | false=>rfl | true=>exact absurd (hf.mpr rfl) (by simp)
  subst this
  exact kat_nil h
 | a::x,c::y,_,_,i,fin,.cons h1 t1,.cons h2 t2,hf,h=>by
  obtain⟨t,rfl⟩:=Value.isInt_shape h1
  obtain⟨u,rfl⟩:=Value.isInt_shape h2
  rw[Z1]
  refine kat_cons (wpAny_eqBool_int ?_)
  unfold K4 at h
  by_cases e:a=c
  ·subst e
   rw[if_pos rfl]at h
   rw[show (a == a)=true by simp]
   exact kat_yes (aM4 hb x y _ _ (i+1) fin t1 t2 (by rw[<- hf];simp) h)
  ·rw[if_neg e]at h
   rw[show (a == c)=false by simpa using e]
   refine kat_no ?_
   cases hi:(b && i == 0) with
   | true=>exact oneLt_int h
   | false=>exact kat_one _ _ (lt_int h)
theorem ba5 {x y:Value}{k':List Int}{Q:Bool->Shared->Prop}(hx:IsK prog w s.heap k x)(hy:IsK prog w s.heap k' y)(h:Q (K4 k k') s):p8 (t9 prog w) A (keyLt' (bL1 true) x y) Q E s:=by
 obtain⟨a,rfl,o,xs,n,ho,hc,hd,hi⟩:=hx
 obtain⟨b,rfl,o',ys,n',ho',hc',hd',hi'⟩:=hy
 refine kat_lt ho hd ho' hd' (aM4 rfl k k' _ _ 0 _ hi hi' ?_ h)
 have e1:k.length=xs.size:=by have:=hi.length;simpa using this
 have e2:k'.length=ys.size:=by have:=hi'.length;simpa using this
 rw[e1,e2]
 simp
theorem aG7 {Q:SortKind->Shared->Prop}(hne:0<vs.length)(hv:∀ v∈vs,∃ i k,IsK prog w s.heap (i::k) v)(h:Q (bL1 true) s):p8 (t9 prog w) A (keyKind' vs.toArray) Q E s:=by
 have ex:∀ l:List Value,(∀ v∈l,∃ i k,IsK prog w s.heap (i::k) v)->∃ fs:List Value,KatTups s.heap l fs/\fs.length=l.length/\∀ v∈fs,∃ i t,v=.int i t:=fun l=>by
  induction l with
  | nil=>intro _;exact⟨[],KatTups.nil,rfl,(fun _ h=>nomatch h)⟩
  | cons v l ih =>
   intro hl
   obtain⟨i,k,a,rfl,o,xs,n,ho,hc,hd,hi⟩:=hl v f9
   obtain⟨fs,f1,f2,f3⟩:=ih fun v hv=>hl v (d6 _ hv)
   obtain⟨f,hf,t,rfl⟩:∃ f,xs[0]?=some f/\∃ t,f=.int i t:=by
    cases e:xs.toList with
    | nil=>rw[e]at hi;cases hi
    | cons f r =>
     rw[e]at hi
     cases hi with
     | cons h1 _ =>
      obtain⟨t,et⟩:=Value.isInt_shape h1
      exact⟨f,by rw[<- g6,e];rfl,t,et⟩
   refine⟨.int i t::fs,KatTups.cons ho hc hd hf f1,by rw[p6,f2,p6],fun v hv=>?_⟩
   rcases d7.mp hv with rfl | hv
   ·exact⟨i,t,rfl⟩
   ·exact f3 v hv
 obtain⟨fs,f1,f2,f3⟩:=ex vs hv
 refine kat_kind (T:=.type "int") f1 (by omega) (fun v hv=>?_) (by decide) ?_
 ·obtain⟨i,t,rfl⟩:=f3 v hv
  exact .now
 ·exact h
theorem bs0 {P:PySem.Fin->Shared->Prop}(ho:s.heap.get? a=some (J0 "list" vs.toArray n))(hz:vs.length<=j7)
  (hv:∀ v∈vs,∃ i k,IsK prog w s.heap (i::k) v)(hna:∀ v∈vs,v≠.ref a)
  (h:∀ out:List Value,out.Perm vs->out.Pairwise (fun x y=>K4 (X5 prog w s.heap y) (X5 prog w s.heap x)=false)->P (.done (.ret .none)) { s with heap:=aq3 s.heap a vs out.toArray }) :
  p8 (t9 prog w) A (Builtin.«list.sort» ⟨[.ref a],[]⟩) P E s:=by
 rw[list_sort_plain]
 have ha:a<s.heap.objs.size:=d5 ho
 refine b7 (bY3 ho rfl ?_)
 refine b7 (ah4 ho rfl ?_ (by rw[i9];exact hz) (t8 _))
 obtain⟨e1,ho1⟩:∃ e1,(s.heap.update a (Obj.mapSeq fun _=>#[])).get? a=some (J0 "list" #[] e1):=⟨_,aa5 ho (fun _=>#[])⟩
 refine b7 (bq8 ho1 rfl ?_)
 refine b7 (bw6 ?_ (by show vs.length<=_;exact hz))
 refine b7 (V5 ?_ (t8 _))
 refine D9 ?_
 generalize hH:((s.heap.update a (Obj.mapSeq fun _=>#[])).push (J0 "tuple" vs.toArray 0)).push (J0 "list" #[] 0)=h6
 have ho6:h6.get? a=some (J0 "list" #[] e1):=by rw[<- hH];exact c5 _ (c5 _ ho1)
 have keep:∀ b o,b≠a->s.heap.get? b=some o->h6.get? b=some o:=fun b o hb e=>by
  rw[<- hH]
  exact c5 _ (c5 _ ((B1 s.heap _ (Ne.symm hb)).trans e))
 have up:∀ v∈vs,∀ k,IsK prog w s.heap k v->IsK prog w h6 k v:=fun v hv' k hk=>by
  obtain⟨c,rfl,o,items,n,h2,h3⟩:=hk
  exact⟨c,rfl,o,items,n,keep c o (fun z=>hna _ hv' (by rw[z])) h2,h3⟩
 have fin:∀ st':A8,(o4 st').Perm (cj6 vs)->(o4 st').toList.Pairwise (le (Bf (O:=bh1) fun p=>X5 prog w s.heap p.1))->P (.done (.ret .none)) { s with heap:=aq3 s.heap a vs ((o4 st').map (·.2)) }:=fun st' hp hs=>by
  have hl:(o4 st').toList.Perm (vs.zip vs):=by rw[<- pairsOf_toList];exact N5.mp hp
  have hm:((o4 st').map (·.2)).toList=(o4 st').toList.map (·.2):=ch7 ..
  have hz2:(vs.zip vs).map (·.2)=vs:=List.map_snd_zip (c9 _)
  have:=h ((o4 st').toList.map (·.2)) (by have:=hl.map (·.2);rw[hz2]at this;exact this) ?_
  ·rw[show (o4 st').map (·.2)=((o4 st').toList.map (·.2)).toArray by rw[<- hm]]
   exact this
  ·rw[M9]
   refine List.Pairwise.imp_of_mem ?_ hs
   intro x y hx hy hxy
   have ex:=(am8 (hl.mem_iff.mp hx)).1
   have ey:=(am8 (hl.mem_iff.mp hy)).1
   rw[<- ex,<- ey]
   exact hxy
 have out:∀ st':A8,(o4 st').Perm (cj6 vs)->P0 st'=none->(o4 st').toList.Pairwise (le (Bf (O:=bh1) fun p=>X5 prog w s.heap p.1)) ->
   p8 (t9 prog w) A (do
    let sorted:=(o4 st').map (·.2)
    let touched:=(<- seqEpoch a) != e1
    Builtin.List.listUpdate (.ref a) fun _=>sorted
    if let some e:=P0 st' then rule "list.sort.comparison-raised";throw e
    if touched then rule "list.sort.modified";raiseError "ValueError" "list modified during sort"
    ret .none) P E { s with heap:=h6 }:=fun st' hp hf hs=>by
  dsimp only
  refine b7 (bq8 (s:={ s with heap:=h6 }) ho6 rfl ?_)
  refine b7 (ah4 (s:={ s with heap:=h6 }) ho6 rfl ?_ (t8 _) (by refine x9 (aw1 ((aj5 ..).trans (hp.size_eq.trans (pairsOf_size _)))) ?_;omega))
  rw[hf]
  simp only[bne_self_eq_false,l9,if_false]
  refine d3 ?_
  have:=fin st' hp hs
  unfold aq3 at this
  rw[hH]at this
  exact this
 show p8 (t9 prog w) A _ P E { s with heap:=h6 }
 dsimp only
 by_cases h2:vs.toArray.size<2
 ·rw[if_pos h2,if_pos h2]
  refine b7 (d3 ?_)
  rw[StateT.run_pure]
  refine b7 (d3 ?_)
  refine out (SortSt.mk' general' (vs.toArray.zip vs.toArray) #[] 7 none) (Array.Perm.refl _) rfl ?_
  show (cj6 vs).toList.Pairwise _
  rw[t7]
  intro i j hi hj hij
  rw[l5,pairsOf_size]at hj
  rw[i9]at h2
  omega
 ·rw[if_neg h2,if_neg h2]
  rw[i9]at h2
  refine b7 (aG7 (s:={ s with heap:=h6 }) (by omega) (fun v hv'=>?_) ?_)
  ·obtain⟨i,k,hk⟩:=hv v hv'
   exact⟨i,k,up v hv' _ hk⟩
  refine b7 (E3 (az5 (s:={ s with heap:=h6 }) (a₀:=cj6 vs) (κ:=bL1 true) (O:=bh1) (f:=fun p=>X5 prog w s.heap p.1) (st:=SortSt.mk' (bL1 true) (vs.toArray.zip vs.toArray) #[] 7 none)
   (Q:=fun _ st'=>(o4 st').Perm (cj6 vs)/\P0 st'=none/\(o4 st').toList.Pairwise (le (Bf (O:=bh1) fun p=>X5 prog w s.heap p.1))) ?_ ([]:List Int) (Array.Perm.refl _) rfl rfl rfl fun st' a1 a2 a3=>⟨a1,a2,a3⟩) ?_ fun _ _ e=>e)
  ·intro x y hx hy Q hq
   rw[pairsOf_toList]at hx hy
   obtain⟨i,k,hk⟩:=hv x.1 (am8 hx).2
   obtain⟨j,k',hk'⟩:=hv y.1 (am8 hy).2
   refine ba5 (s:={ s with heap:=h6 }) (up _ (am8 hx).2 _ hk) (up _ (am8 hy).2 _ hk') ?_
   rw[<- W3 hk,<- W3 hk']
   exact hq
  ·rintro⟨⟨⟩,st'⟩ s' ⟨rfl,hp,hf,hs⟩
   exact out st' hp hf hs
theorem aK3 {l:Addr} (hl:s.heap.IsList l vs.toArray) (hz:vs.length<=j7) (hv:∀ v∈vs,∃ i k,IsK prog w s.heap (i::k) v)
  (h : ∀ (out : List Value) (h' : Heap) (n : Nat), out.Perm vs -> out.Pairwise (fun x y => K4 (X5 prog w s.heap y) (X5 prog w s.heap x) = false) -> (∀ b o, s.heap.get? b = some o -> h'.get? b = some o) ->
   h'.get? (s.heap.objs.size+1)=some { cls:=.type "list",data:=.seq out.toArray n }->Q (.ref (s.heap.objs.size+1)) { s with heap:=h' }) :
  p8 (t9 prog w) A (call (.builtin "sorted") [.ref l]) Q E s:=by
 refine Calls.call_function_entry cj7 bY4 bY5 (args_sorted1 _) ?_
 unfold Builtin.«sorted»
 refine b7 (m:=checkCount "sorted" 1 1 _) (d3 ?_)
 refine b7 (collect_list hl ?_ hz)
 refine b7 (V5 ?_ hz)
 have hsz:((s.heap.push (J0 "list" #[] 0)).update s.heap.objs.size (Obj.mapSeq (·++vs.toArray))).objs.size=s.heap.objs.size+1:=by
  rw[ci6,bJ8]
 generalize hH:((s.heap.push (J0 "list" #[] 0)).update s.heap.objs.size (Obj.mapSeq (·++vs.toArray))).push (J0 "list" vs.toArray 0)=h2
 have hoL:h2.get? (s.heap.objs.size+1)=some (J0 "list" vs.toArray 0):=by
  rw[<- hH,<- hsz];exact i6 _ rfl
 have keep:∀ b o,s.heap.get? b=some o->h2.get? b=some o:=fun b o e=>by
  rw[<- hH]
  refine c5 _ ((B1 _ _ ?_).trans (c5 _ e))
  exact Ne.symm (k9 (d5 e))
 have hsz2:h2.objs.size=s.heap.objs.size+2:=by rw[<- hH,bJ8,hsz]
 rw[hsz]
 have up:∀ v k,IsK prog w s.heap k v->IsK prog w h2 k v:=fun v k hk=>hk.up keep
 have kA:∀ v∈vs,X5 prog w h2 v=X5 prog w s.heap v:=fun v hv'=>by
  obtain⟨i,k,hk⟩:=hv v hv'
  rw[W3 hk,W3 (up v _ hk)]
 refine b7 (D9 (O8 bw7 (s:={ s with heap:=h2 }) ⟨_,hoL,rfl⟩ bq9 (bs0 (s:={ s with heap:=h2 }) hoL hz (fun v hv'=>?_) (fun v hv' z=>?_) fun out a1 a2=>⟨_,rfl,?_⟩) (args_list_sort _)))
 ·obtain⟨i,k,hk⟩:=hv v hv'
  exact⟨i,k,up v _ hk⟩
 ·obtain⟨i,k,a,rfl,o,items,n,ho,_⟩:=hv v hv'
  cases z
  exact absurd (d5 ho) (Nat.not_lt.mpr (ab9 _))
 ·have hlast:∃ n,(aq3 h2 (s.heap.objs.size+1) vs out.toArray).get? (s.heap.objs.size+1)=some (J0 "list" out.toArray n):=by
   unfold aq3
   have g1:=aa5 hoL (fun _=>(#[]:Array Value))
   have g2:(((h2.update (s.heap.objs.size+1) (Obj.mapSeq fun _=>#[])).push (J0 "tuple" vs.toArray 0)).push (J0 "list" #[] 0)).get? (s.heap.objs.size+1)=_:=c5 _ (c5 _ g1)
   exact⟨_,aa5 g2 (fun _=>out.toArray)⟩
  obtain⟨n,hn⟩:=hlast
  refine d3 ⟨_,rfl,h out _ n a1 ?_ (fun b o e=>?_) hn⟩
  ·refine List.Pairwise.imp_of_mem ?_ a2
   intro x y hx hy hxy
   rw[kA x (a1.mem_iff.mp hx),kA y (a1.mem_iff.mp hy)]at hxy
   exact hxy
  ·have hb:b≠s.heap.objs.size+1:=k9 (B3 (d5 e))
   unfold aq3
   refine(B1 _ _ (Ne.symm hb)).trans (c5 _ (c5 _ ((B1 _ _ (Ne.symm hb)).trans (keep b o e))))
end Tim
namespace Sett
open PySem PySem.SetTable
theorem aS2 {P:Nat->Prop}(h:∃ n,P n):∃ n,P n/\∀ m,m<n->¬ P m:=by
 obtain⟨n,hn⟩:=h
 induction n using Nat.strongRecOn with
 | ind n ih =>
  by_cases q:∃ m,m<n/\P m
  ·obtain⟨m,hm,pm⟩:=q
   exact ih m hm pm
  ·exact⟨n,hn,fun m hm pm=>q ⟨m,hm,pm⟩⟩
def st (m i pt:Nat):Probe:={ j:=i,more:=runEnd m i - i,i:=i,perturb:=pt,dummy:=none }
def it (t:SetTable):Nat->Probe->Probe
 | 0,p=>p
 | n+1,p=>it t n (t.advance p)
theorem aR9 (t:SetTable):∀ (a b:Nat) (p:Probe),it t (a+b) p=it t b (it t a p)
 | 0,b,p=>by rw[O6];rfl
 | a+1,b,p=>by
  rw[show a+1+b=(a+b)+1 by omega]
  exact aR9 t a b (t.advance p)
theorem an9 (t:SetTable)(n:Nat)(p:Probe):it t (n+1) p=t.advance (it t n p):=aR9 t n 1 p
theorem ax2 (m i:Nat):i<=runEnd m i/\runEnd m i<=i+9:=by unfold runEnd;split<;>omega
theorem aX6 (h:i<=m):runEnd m i<=m:=by unfold runEnd;split<;>omega
theorem aR7 (t:SetTable)(i pt:Nat):∀ k,k<=runEnd t.mask i - i->it t k (st t.mask i pt)={ j:=i+k,more:=runEnd t.mask i - i - k,i:=i,perturb:=pt,dummy:=none }
 | 0,_=>rfl
 | k+1,h=>by
  rw[an9,aR7 t i pt k (by omega)]
  unfold advance
  dsimp only
  rw[if_pos (by omega)]
  simp only[Probe.mk.injEq,and_true,true_and]
  omega
theorem aR8 (t:SetTable)(i pt:Nat):it t (runEnd t.mask i - i+1) (st t.mask i pt)=st t.mask (leap t.mask i pt).1 (leap t.mask i pt).2:=by
 rw[an9,aR7 t i pt _ (c9 _)]
 unfold advance
 dsimp only
 rw[if_neg (by omega)]
 rfl
def rn (m i pt:Nat):Nat->Nat × Nat
 | 0=>(i,pt)
 | r+1=>leap m (rn m i pt r).1 (rn m i pt r).2
theorem bW3 (m i pt:Nat):∀ r,(rn m i pt r).2=pt / 32 ^ r
 | 0=>by simp[rn]
 | r+1=>by
  show (rn m i pt r).2 / 32=_
  rw[bW3 m i pt r,ar5,aU1]
theorem bW4 (m i pt:Nat)(h:i<=m):∀ r,(rn m i pt r).1<=m
 | 0=>h
 | r+1=>ao4 (ci7 _ (ak3 m))
theorem bW8 (t:SetTable)(i pt:Nat):∀ r,∃ n,n<=10*r/\it t n (st t.mask i pt)=st t.mask (rn t.mask i pt r).1 (rn t.mask i pt r).2
 | 0=>⟨0,c9 _,rfl⟩
 | r+1=>by
  obtain⟨n,hn,e⟩:=bW8 t i pt r
  have h9:=ax2 t.mask (rn t.mask i pt r).1
  refine⟨n+(runEnd t.mask (rn t.mask i pt r).1 - (rn t.mask i pt r).1+1),by omega,?_⟩
  rw[aR9,e,aR8]
  rfl
def f5 (m i:Nat):Nat:=(i*5+1) % (m+1)
def orb (m:Nat):Nat->Nat->List Nat
 | 0,_=>[]
 | k+1,i=>i::orb m k (f5 m i)
def Full (m:Nat):Prop:=∀ b,b<=m->∀ a,a<=m->∃ n,n<=m/\Nat.repeat (f5 m) n a=b
def chk (m:Nat):Bool:=(orb m (m+1) 0).foldl (fun acc i=>acc ||| 2 ^ i) 0 == 2 ^ (m+1) - 1
theorem bd0:∀ (l:List Nat) (acc b:Nat),(l.foldl (fun acc i=>acc ||| 2 ^ i) acc).testBit b=true->acc.testBit b=true\/b∈l
 | [],acc,b,h=>.inl h
 | i::l,acc,b,h=>by
  rcases bd0 l _ b h with q | q
  ·rw[Nat.testBit_or,Bool.or_eq_true]at q
   rcases q with q | q
   ·exact .inl q
   ·rw[bX5]at q
    exact .inr (by rw[of_decide_eq_true q];exact f9)
  ·exact .inr (d6 _ q)
theorem as9 (f:Nat->Nat)(a:Nat):∀ n k,Nat.repeat f (n+k) a=Nat.repeat f k (Nat.repeat f n a)
 | n,0=>rfl
 | n,k+1=>by
  show f (Nat.repeat f (n+k) a)=f (Nat.repeat f k (Nat.repeat f n a))
  rw[as9 f a n k]
theorem bm6 (m:Nat):∀ k i x,x∈orb m k i->∃ n,n<k/\Nat.repeat (f5 m) n i=x
 | 0,i,x,h=>by cases h
 | k+1,i,x,h=>by
  rcases d7.mp h with rfl | h
  ·exact⟨0,ak3 _,rfl⟩
  ·obtain⟨n,hn,e⟩:=bm6 m k (f5 m i) x h
   refine⟨n+1,by omega,?_⟩
   rw[Nat.add_comm n 1,as9]
   exact e
theorem aC8 (hc:chk m=true)(hz:Nat.repeat (f5 m) (m+1) 0=0):Full m:=by
 intro b hb a ha
 unfold chk at hc
 have hc:=eq_of_beq hc
 have get:∀ x,x<=m->∃ n,n<m+1/\Nat.repeat (f5 m) n 0=x:=fun x hx=>by
  have hb:(2 ^ (m+1) - 1).testBit x=true:=by rw[Nat.testBit_two_pow_sub_one];exact decide_eq_true (by omega)
  rw[<- hc]at hb
  rcases bd0 _ _ _ hb with q | q
  ·simp at q
  ·exact bm6 m (m+1) 0 x q
 obtain⟨p,hp,ep⟩:=get a ha
 obtain⟨q,hq,eq⟩:=get b hb
 by_cases h:p<=q
 ·refine⟨q - p,by omega,?_⟩
  rw[<- ep,<- as9,show p+(q - p)=q by omega,eq]
 ·refine⟨m+1 - p+q,by omega,?_⟩
  rw[<- ep,<- as9,show p+(m+1 - p+q)=(m+1)+q by omega,as9,hz,eq]
def Good (m:Nat):Prop:=m=7\/m=31\/m=127\/m=511
set_option maxRecDepth 100000 in
theorem Good.full (h:Good m):Full m:=by
 rcases h with rfl | rfl | rfl | rfl
 ·exact aC8 (by decide +kernel) (by decide +kernel)
 ·exact aC8 (by decide +kernel) (by decide +kernel)
 ·exact aC8 (by decide +kernel) (by decide +kernel)
 ·exact aC8 (by decide +kernel) (by decide +kernel)
theorem bl7 (m i pt:Nat)(hp:pt<2 ^ 64):∀ k,(rn m i pt (13+k)).1=Nat.repeat (f5 m) k (rn m i pt 13).1
 | 0=>rfl
 | k+1=>by
  show (leap m (rn m i pt (13+k)).1 (rn m i pt (13+k)).2).1=f5 m (Nat.repeat (f5 m) k (rn m i pt 13).1)
  rw[<- bl7 m i pt hp k]
  unfold leap f5
  have:(rn m i pt (13+k)).2 / 32=0:=by
   rw[bW3,Nat.pow_add,<- ar5]
   have:pt / 32 ^ 13=0:=Nat.div_eq_of_lt (bK2 hp (by decide))
   rw[this]
   simp
  dsimp only
  rw[this,aT8]
theorem bl8 {pt b:Nat}(g:Good m)(hi:i<=m)(hp:pt<2 ^ 64)(hb:b<=m):∃ r,r<turns m/\(rn m i pt r).1=b:=by
 obtain⟨n,hn,e⟩:=g.full b hb (rn m i pt 13).1 (bW4 m i pt hi 13)
 exact⟨13+n,by unfold turns;omega,by rw[bl7 m i pt hp];exact e⟩
theorem bR6 (t:SetTable){pt b:Nat}(g:Good t.mask)(hi:i<=t.mask)(hp:pt<2 ^ 64)(hb:b<=t.mask):∃ n,n<10*turns t.mask/\(it t n (st t.mask i pt)).j=b:=by
 obtain⟨r,hr,e⟩:=bl8 g hi hp hb
 obtain⟨n,hn,e'⟩:=bW8 t i pt r
 refine⟨n,by omega,?_⟩
 rw[e']
 exact e
theorem bb4 (t:SetTable):∀ (n:Nat) (p:Probe),(it t n p).dummy=p.dummy
 | 0,p=>rfl
 | n+1,p=>by
  show (it t n (t.advance p)).dummy=_
  rw[bb4 t n]
  unfold advance
  split<;>rfl
theorem bp4 (h:Int):bits h<2 ^ 64:=by
 unfold bits
 have h1:=Q6 h (show (2 ^ 64:Int)≠0 by decide)
 have h2:=L8 h (show (0:Int)<2 ^ 64 by decide)
 omega
theorem al3 (t:SetTable)(h:Int):t.probeStart h=st t.mask (bits h % (t.mask+1)) (bits h):=rfl
theorem aC6 {t t':SetTable}(h:t'.mask=t.mask):∀ (n:Nat) (p:Probe),it t' n p=it t n p
 | 0,p=>rfl
 | n+1,p=>by
  show it t' n (t'.advance p)=it t n (t.advance p)
  have:t'.advance p=t.advance p:=by unfold advance;rw[h]
  rw[this,aC6 h n]
def Asc (xs:Array Nat):Prop:=∀ (i j a b:Nat),i<j->xs[i]?=some a->xs[j]?=some b->a<b
theorem aI2 {xs:Array Nat}(asc:Asc xs)(j:Nat):∀ (fuel lo hi:Nat),hi - lo<=fuel->lo<=hi->hi<=xs.size->(∀ i a,i<lo->xs[i]?=some a->a<j)->(∀ i a,hi<=i->xs[i]?=some a->j<=a) ->
  (below.go xs j fuel lo hi)<=xs.size/\(∀ i a,i<below.go xs j fuel lo hi->xs[i]?=some a->a<j)/\(∀ i a,below.go xs j fuel lo hi<=i->xs[i]?=some a->j<=a)
 | 0,lo,hi,h0,h1,h2,h3,h4=>by
  have:lo=hi:=by omega
  subst this
  exact⟨h2,h3,h4⟩
 | fuel+1,lo,hi,h0,h1,h2,h3,h4=>by
  unfold below.go
  by_cases hlt:lo<hi
  ·rw[if_pos hlt]
   dsimp only
   have hm:(lo+hi) / 2<xs.size:=by omega
   have hg:xs.getD ((lo+hi) / 2) j=xs[(lo+hi) / 2]:=by simp[bX6,hm]
   have hq:xs[(lo+hi) / 2]?=some xs[(lo+hi) / 2]:=getElem?_pos xs _ hm
   by_cases hc:xs.getD ((lo+hi) / 2) j<j
   ·rw[if_pos hc]
    refine aI2 asc j fuel _ hi (by omega) (by omega) h2 (fun i a hi' e=>?_) h4
    rw[hg]at hc
    by_cases he:i=(lo+hi) / 2
    ·subst he;rw[hq]at e;cases e;exact hc
    ·have:=asc i _ a _ (by omega) e hq
     omega
   ·rw[if_neg hc]
    refine aI2 asc j fuel lo _ (by omega) (by omega) (by omega) h3 (fun i a hi' e=>?_)
    rw[hg]at hc
    by_cases he:i=(lo+hi) / 2
    ·subst he;rw[hq]at e;cases e;omega
    ·have:=asc _ i _ a (by omega) hq e
     omega
  ·rw[if_neg hlt]
   have:lo=hi:=by omega
   subst this
   exact⟨h2,h3,h4⟩
theorem aI1 {xs:Array Nat}(asc:Asc xs)(j:Nat):below xs j<=xs.size/\(∀ i a,i<below xs j->xs[i]?=some a->a<j)/\(∀ i a,below xs j<=i->xs[i]?=some a->j<=a):=
 aI2 asc j xs.size 0 xs.size (by omega) (by omega) (c9 _) (fun i a h=>by omega) fun i a h e=>by
  have:=(getElem?_eq_some_iff.mp e).1
  omega
theorem below_at {xs:Array Nat}(asc:Asc xs)(h:xs[i]?=some j):below xs j=i:=by
 obtain⟨h1,h2,h3⟩:=aI1 asc j
 rcases U8 (below xs j) i with q | q | q
 ·exfalso
  have hlt:below xs j<xs.size:=bK2 q (getElem?_eq_some_iff.mp h).1
  have e:=getElem?_pos xs (below xs j) hlt
  have a1:=h3 (below xs j) _ (c9 _) e
  have a2:=asc _ _ _ _ q e h
  omega
 ·exact q
 ·have:=h2 i j q h
  omega
theorem aw4 {t:SetTable}(asc:Asc t.place)(h:t.place[i]?=some j):t.slot j=.live i:=by
 unfold slot
 dsimp only
 rw[below_at asc h,h]
 simp
theorem bf7 {t:SetTable}(hd:t.dummies=#[])(h:∀ i:Nat,t.place[i]?≠some j):t.slot j=.empty:=by
 unfold slot
 dsimp only
 rw[if_neg (by simpa using h _),if_neg (by rw[hd];simp[has])]
theorem bb6 {t:SetTable}{hashAt:Nat->Int}{h:Int}:∀ (n fuel:Nat) (p:Probe),n<fuel->(∀ k,k<n->∃ i,t.slot (it t k p).j=.live i/\hashAt i≠h)->t.slot (it t n p).j=.empty ->
  probe.go t hashAt h fuel p=some (.empty (it t n p).j (it t n p).dummy)
 | 0,fuel+1,p,_,_,he=>by
  unfold probe.go
  have he':t.slot p.j=.empty:=he
  rw[he']
  rfl
 | n+1,fuel+1,p,hl,hk,he=>by
  obtain⟨i,e,hne⟩:=hk 0 (ak3 _)
  have e':t.slot p.j=.live i:=e
  unfold probe.go
  rw[e']
  dsimp only
  rw[if_neg (by simpa using hne)]
  exact bb6 n fuel (t.advance p) (by omega) (fun k hk'=>hk (k+1) (by omega)) he
theorem bo0 {t:SetTable}{hashAt:Nat->Int}{h:Int}:∀ (n fuel:Nat) (p:Probe),n<fuel->(∀ k,k<n->∃ i,t.slot (it t k p).j=.live i/\hashAt i≠h)->t.slot (it t n p).j=.live i->hashAt i=h ->
  ∃ q,probe.go t hashAt h fuel p=some (.candidate (it t n p).j i q)
 | 0,fuel+1,p,_,_,he,hh=>by
  unfold probe.go
  have he':t.slot p.j=.live i:=he
  rw[he']
  dsimp only
  rw[if_pos (by simpa using hh)]
  exact⟨_,rfl⟩
 | n+1,fuel+1,p,hl,hk,he,hh=>by
  obtain⟨i',e,hne⟩:=hk 0 (ak3 _)
  have e':t.slot p.j=.live i':=e
  unfold probe.go
  rw[e']
  dsimp only
  rw[if_neg (by simpa using hne)]
  exact bo0 n fuel (t.advance p) (by omega) (fun k hk'=>hk (k+1) (by omega)) he hh
abbrev En:=Int × Value
structure Tb (t:SetTable) (es:Array En):Prop where
 dum:t.dummies=#[]
 len:t.place.size=es.size
 asc:Asc t.place
 bnd:∀ (i j:Nat),t.place[i]?=some j->j<=t.mask
 good:Good t.mask
 nf:es.size*5<t.mask*3
 path:∀ (i:Nat) (e:En),es[i]?=some e->∃ n,n<10*turns t.mask/\t.place[i]?=some (it t n (t.probeStart e.1)).j/\∀ k,k<n->∃ i':Nat,t.place[i']?=some (it t k (t.probeStart e.1)).j
theorem bI1 {xs:Array Nat}(asc:Asc xs):∀ (i a:Nat),xs[i]?=some a->i<=a
 | 0,a,_=>t8 _
 | i+1,a,h=>by
  have hi:i+1<xs.size:=(getElem?_eq_some_iff.mp h).1
  have e:=getElem?_pos xs i (by omega)
  have h1:=bI1 asc i _ e
  have h2:=asc i (i+1) _ a (by omega) e h
  omega
theorem bu7 {xs:Array Nat}(asc:Asc xs)(h:xs.size<=m):∃ b,b<=m/\∀ i:Nat,xs[i]?≠some b:=by
 by_cases q:∃ i,i<xs.size/\xs[i]?≠some i
 ·obtain⟨i,⟨hi,hne⟩,hmin⟩:=aS2 q
  refine⟨i,by omega,fun k e=>?_⟩
  have hk:=bI1 asc k i e
  rcases L7 hk with hlt | rfl
  ·have ek:xs[k]?=some k:=Classical.byContradiction fun z=>hmin k hlt ⟨by omega,z⟩
   rw[ek]at e
   cases e
   omega
  ·exact hne e
 ·refine⟨xs.size,h,fun k e=>?_⟩
  have hk:k<xs.size:=(getElem?_eq_some_iff.mp e).1
  have ek:xs[k]?=some k:=Classical.byContradiction fun z=>q ⟨k,hk,z⟩
  rw[ek]at e
  cases e
  omega
theorem Tb.small {t:SetTable}{es:Array En}(T:Tb t es):es.size<=t.mask:=by
 have:=T.nf
 omega
theorem Tb.fits {t:SetTable}{es:Array En}(T:Tb t es):t.fits es.size=true:=by
 unfold SetTable.fits fill
 rw[T.dum,T.len]
 have:=T.small
 simp
 exact this
theorem Tb.odd {t:SetTable}{es:Array En}(T:Tb t es):t.gaveWay=false:=by
 unfold gaveWay
 rcases T.good with e | e | e | e<;>rw[e]<;>rfl
def hashOf (es:Array En)(i:Nat):Int:=(es[i]?.map (·.1)).getD 0
theorem ae3 {es:Array En}{e:En}(h:es[i]?=some e):hashOf es i=e.1:=by unfold hashOf;rw[h];rfl
theorem al0 (t:SetTable)(h:Int):bits h % (t.mask+1)<=t.mask:=ao4 (ci7 _ (ak3 _))
theorem Tb.absent {t:SetTable}{es:Array En}(T:Tb t es){h:Int}(hh:∀ e∈es.toList,e.1≠h):∃ n,n<10*turns t.mask/\(∀ i:Nat,t.place[i]?≠some (it t n (t.probeStart h)).j)/\(it t n (t.probeStart h)).j<=t.mask /\
  (∀ k,k<n->∃ i':Nat,t.place[i']?=some (it t k (t.probeStart h)).j)/\t.probe (hashOf es) h (t.probeStart h)=some (.empty (it t n (t.probeStart h)).j none):=by
 obtain⟨b,hb,hfree⟩:=bu7 T.asc (m:=t.mask) (by rw[T.len];exact T.small)
 obtain⟨n0,hn0,e0⟩:=bR6 t T.good (al0 t h) (bp4 h) hb
 rw[<- al3]at e0
 obtain⟨n,⟨hfr,hn,hle⟩,hmin⟩:=aS2 (P:=fun n=>(∀ i:Nat,t.place[i]?≠some (it t n (t.probeStart h)).j)/\n<=n0/\(it t n (t.probeStart h)).j<=t.mask) ⟨n0,by rw[e0];exact hfree,c9 _,by rw[e0];exact hb⟩
 have hocc:∀ k,k<n->∃ i':Nat,t.place[i']?=some (it t k (t.probeStart h)).j:=fun k hk=>Classical.byContradiction fun z=>by
  have hk':∀ i:Nat,t.place[i]?≠some (it t k (t.probeStart h)).j:=fun i e=>z ⟨i,e⟩
  by_cases hkm:(it t k (t.probeStart h)).j<=t.mask
  ·exact hmin k hk ⟨hk',by omega,hkm⟩
  ·-- every place on the way is a slot
   exact hkm (by
    clear z hk' hkm hmin hfr hle hn hk
    rw[al3]
    induction k with
    | zero=>exact al0 t h
    | succ k ih =>
     have key:∀ k,∃ r c,c<=runEnd t.mask (rn t.mask (bits h % (t.mask+1)) (bits h) r).1 - (rn t.mask (bits h % (t.mask+1)) (bits h) r).1 /\
       it t k (st t.mask (bits h % (t.mask+1)) (bits h))=it t c (st t.mask (rn t.mask (bits h % (t.mask+1)) (bits h) r).1 (rn t.mask (bits h % (t.mask+1)) (bits h) r).2):=fun k=>by
      induction k with
      | zero=>exact⟨0,0,t8 _,rfl⟩
      | succ k ih =>
       obtain⟨r,c,hc,e⟩:=ih
       rcases L7 hc with hlt | heq
       ·exact⟨r,c+1,hlt,by rw[an9,e,<- an9]⟩
       ·refine⟨r+1,0,t8 _,?_⟩
        rw[an9,e,<- an9,heq,aR8]
        rfl
     obtain⟨r,c,hc,e⟩:=key (k+1)
     rw[e,aR7 t _ _ c hc]
     have h1:=bW4 t.mask (bits h % (t.mask+1)) (bits h) (al0 t h) r
     have h2:=aX6 h1
     have h3:=ax2 t.mask (rn t.mask (bits h % (t.mask+1)) (bits h) r).1
     show (rn t.mask (bits h % (t.mask+1)) (bits h) r).1+c<=t.mask
     omega)
 refine⟨n,by omega,hfr,hle,hocc,?_⟩
 unfold probe
 have:=bb6 (hashAt:=hashOf es) (h:=h) n (10*turns t.mask) (t.probeStart h) (by omega) (fun k hk=>?_) (bf7 T.dum hfr)
 ·rw[this,bb4]
  rfl
 ·obtain⟨i',e⟩:=hocc k hk
  refine⟨i',aw4 T.asc e,?_⟩
  have hi:i'<es.size:=by rw[<- T.len];exact(getElem?_eq_some_iff.mp e).1
  have e2:=getElem?_pos es i' hi
  rw[ae3 e2]
  exact hh _ (by simp)
theorem Tb.present {t:SetTable}{es:Array En}(T:Tb t es){e:En}(he:es[i]?=some e)(hu:∀ (k:Nat) (e':En),es[k]?=some e'->e'.1=e.1->k=i):∃ j q,t.probe (hashOf es) e.1 (t.probeStart e.1)=some (.candidate j i q):=by
 obtain⟨n,hn,hp,hocc⟩:=T.path i e he
 unfold probe
 obtain⟨m,⟨hm,i1,hi1,hs1⟩,hmin⟩:=aS2 (P:=fun m=>m<=n/\∃ i1:Nat,t.place[i1]?=some (it t m (t.probeStart e.1)).j/\hashOf es i1=e.1) ⟨n,c9 _,i,hp,ae3 he⟩
 have hi2:i1<es.size:=by rw[<- T.len];exact(getElem?_eq_some_iff.mp hi1).1
 have e2:=getElem?_pos es i1 hi2
 rw[ae3 e2]at hs1
 have hii:i1=i:=hu i1 _ e2 hs1
 subst hii
 obtain⟨q,hq⟩:=bo0 (hashAt:=hashOf es) (h:=e.1) (i:=i1) m (10*turns t.mask) (t.probeStart e.1) (by omega) (fun k hk=>by
  obtain⟨i',e3⟩:=hocc k (by omega)
  exact⟨i',aw4 T.asc e3,fun z=>hmin k hk ⟨by omega,i',e3,z⟩⟩) (aw4 T.asc hi1) (ae3 he)
 exact⟨_,q,hq⟩
theorem get_ins {α:Type}{xs:Array α}{x:α}(hp:p<=xs.size)(i:Nat):(insertAt xs p x)[i]?=if i<p then xs[i]? else if i=p then some x else xs[i - 1]?:=by
 unfold insertAt
 have e0:((xs.extract 0 p).push x).size=p+1:=by rw[A9,F8];omega
 by_cases h1:i<p
 ·rw[if_pos h1,bd7 (by omega),Array.getElem?_push_lt (by rw[F8];omega)]
  rw[Array.getElem_extract]
  simp only[O6]
  exact(getElem?_pos xs i (by omega)).symm
 ·rw[if_neg h1]
  by_cases h2:i=p
  ·subst h2
   rw[if_pos rfl,bd7 (by omega)]
   have e1:(xs.extract 0 i).size=i:=by rw[F8];omega
   rw[Array.getElem?_push,e1,if_pos rfl]
  ·rw[if_neg h2,Array.getElem?_append_right (by omega),e0,Array.getElem?_extract]
   split
   ·congr 1;omega
   ·rw[getElem?_neg]
    omega
theorem as6 {α:Type}{xs:Array α}{x:α}(hp:p<=xs.size):(insertAt xs p x).size=xs.size+1:=by
 unfold insertAt
 rw[J6,A9,F8,F8]
 omega
theorem bQ5 {α:Type}{xs:Array α}{x:α}(hp:p<=xs.size)(y:α):y∈(insertAt xs p x).toList↔y=x\/y∈xs.toList:=by
 constructor
 ·intro h
  obtain⟨i,hi⟩:=o6.mp h
  rw[g6,get_ins hp]at hi
  split at hi
  ·exact .inr (d8 (by rw[g6];exact hi))
  ·split at hi
   ·cases hi;exact .inl rfl
   ·exact .inr (d8 (by rw[g6];exact hi))
 ·rintro(rfl | h)
  ·exact d8 (i:=p) (by rw[g6,get_ins hp,if_neg (B2 _),if_pos rfl])
  ·obtain⟨i,hi⟩:=o6.mp h
   rw[g6]at hi
   have hi':i<xs.size:=(getElem?_eq_some_iff.mp hi).1
   by_cases q:i<p
   ·exact d8 (i:=i) (by rw[g6,get_ins hp,if_pos q];exact hi)
   ·exact d8 (i:=i+1) (by rw[g6,get_ins hp,if_neg (by omega),if_neg (by omega)];simpa using hi)
structure Tb' (t:SetTable) (es:Array En):Prop where
 dum:t.dummies=#[]
 len:t.place.size=es.size
 asc:Asc t.place
 bnd:∀ (i j:Nat),t.place[i]?=some j->j<=t.mask
 good:Good t.mask
 fil:es.size<=t.mask
 path:∀ (i:Nat) (e:En),es[i]?=some e->∃ n,n<10*turns t.mask/\t.place[i]?=some (it t n (t.probeStart e.1)).j/\∀ k,k<n->∃ i':Nat,t.place[i']?=some (it t k (t.probeStart e.1)).j
theorem Tb'.full {t:SetTable}{es:Array En}(T:Tb' t es)(h:es.size*5<t.mask*3):Tb t es:=⟨T.dum,T.len,T.asc,T.bnd,T.good,h,T.path⟩
theorem Tb'.fits {t:SetTable}{es:Array En}(T:Tb' t es):t.fits es.size=true:=by
 unfold SetTable.fits fill
 rw[T.dum,T.len]
 have:=T.fil
 simp
 exact this
theorem Tb'.plain {t:SetTable}{es:Array En}(T:Tb' t es)(b:Bool):Tb' { t with plain:=b } es:=by
 have e:∀ n (p:Probe),it { t with plain:=b } n p=it t n p:=fun n p=>aC6 (t:=t) (t':={ t with plain:=b }) rfl n p
 refine⟨T.dum,T.len,T.asc,T.bnd,T.good,T.fil,fun i x hx=>?_⟩
 obtain⟨n,h1,h2,h3⟩:=T.path i x hx
 exact⟨n,h1,by rw[e];exact h2,fun k hk=>by rw[e];exact h3 k hk⟩
theorem Tb.put {t:SetTable}{es:Array En}(T:Tb t es){h:Int}{x:Value}(hn:n<10*turns t.mask)(hfr:∀ i:Nat,t.place[i]?≠some (it t n (t.probeStart h)).j)(hle:(it t n (t.probeStart h)).j<=t.mask)
  (hocc:∀ k,k<n->∃ i':Nat,t.place[i']?=some (it t k (t.probeStart h)).j) :
  (t.put (it t n (t.probeStart h)).j).2<=es.size/\Tb' (t.put (it t n (t.probeStart h)).j).1 (insertAt es (t.put (it t n (t.probeStart h)).j).2 (h,x)):=by
 generalize hj:(it t n (t.probeStart h)).j=j at *
 obtain⟨b1,b2,b3⟩:=aI1 T.asc j
 have hp:(t.put j).2=below t.place j:=rfl
 have hd:has t.dummies j=false:=by rw[T.dum];simp[has]
 have ht:(t.put j).1={ t with place:=insertAt t.place (below t.place j) j }:=by
  unfold SetTable.put
  dsimp only
  rw[if_neg (by rw[hd];exact i7)]
 have hm:(t.put j).1.mask=t.mask:=by rw[ht]
 have hpl:(t.put j).1.place=insertAt t.place (below t.place j) j:=by rw[ht]
 have hsz:=T.nf
 have old:∀ (i a:Nat),t.place[i]?=some a->∃ i':Nat,(insertAt t.place (below t.place j) j)[i']?=some a:=fun i a e=>by
  by_cases q:i<below t.place j
  ·exact⟨i,by rw[get_ins b1,if_pos q];exact e⟩
  ·exact⟨i+1,by rw[get_ins b1,if_neg (by omega),if_neg (by omega)];simpa using e⟩
 have hit:∀ k (p:Probe),it (t.put j).1 k p=it t k p:=fun k p=>aC6 hm k p
 have hst:∀ z:Int,(t.put j).1.probeStart z=t.probeStart z:=fun z=>by rw[al3,al3,hm]
 refine⟨by rw[hp,<- T.len];exact b1,?_⟩
 rw[hp]
 refine⟨by rw[ht];exact T.dum,by rw[hpl,as6 b1,as6 (by rw[<- T.len];exact b1),T.len],?_,?_,by rw[hm];exact T.good,?_,?_⟩
 ·rw[hpl]
  intro i k a c hik ea ec
  rw[get_ins b1]at ea ec
  split at ea
  ·rename_i hi
   split at ec
   ·exact T.asc i k a c hik ea ec
   ·split at ec
    ·cases ec;exact b2 i a hi ea
    ·exact T.asc i (k - 1) a c (by omega) ea ec
  ·split at ea
   ·rename_i hi1 hi2
    cases ea
    rw[if_neg (by omega),if_neg (by omega)]at ec
    have h1:=b3 (k - 1) c (by omega) ec
    rcases L7 h1 with h2 | h2
    ·exact h2
    ·subst h2;exact absurd ec (hfr (k - 1))
   ·rw[if_neg (by omega),if_neg (by omega)]at ec
    exact T.asc (i - 1) (k - 1) a c (by omega) ea ec
 ·rw[hpl,hm]
  intro i a ea
  rw[get_ins b1]at ea
  split at ea
  ·exact T.bnd i a ea
  ·split at ea
   ·cases ea;exact hle
   ·exact T.bnd _ a ea
 ·rw[hm,as6 (by rw[<- T.len];exact b1)]
  have:=T.good
  unfold Good at this
  omega
 ·intro i e he
  rw[hpl,hm]
  have b1':below t.place j<=es.size:=by rw[<- T.len];exact b1
  rw[get_ins b1']at he
  have lift:∀ (i0:Nat) (i':Nat),es[i0]?=some e->(∀ a,t.place[i0]?=some a->(insertAt t.place (below t.place j) j)[i']?=some a) ->
    ∃ n,n<10*turns t.mask/\(insertAt t.place (below t.place j) j)[i']?=some (it (t.put j).1 n ((t.put j).1.probeStart e.1)).j/\∀ k,k<n->∃ i':Nat,(insertAt t.place (below t.place j) j)[i']?=some (it (t.put j).1 k ((t.put j).1.probeStart e.1)).j:=fun i0 i' h0 h1=>by
   obtain⟨n',q1,q2,q3⟩:=T.path i0 e h0
   refine⟨n',q1,?_,fun k hk=>?_⟩
   ·rw[hit,hst];exact h1 _ q2
   ·obtain⟨i2,e2⟩:=q3 k hk
    rw[hit,hst]
    exact old i2 _ e2
  split at he
  ·rename_i hi
   exact lift i i he fun a ea=>by rw[get_ins b1,if_pos hi];exact ea
  ·split at he
   ·rename_i hi1 hi2
    cases he
    refine⟨n,hn,?_,fun k hk=>?_⟩
    ·rw[hit,hst,hj,get_ins b1,if_neg hi1,if_pos hi2]
    ·obtain⟨i2,e2⟩:=hocc k hk
     rw[hit,hst]
     exact old i2 _ e2
   ·rename_i hi1 hi2
    exact lift (i - 1) i he fun a ea=>by rw[get_ins b1,if_neg hi1,if_neg hi2];exact ea
theorem aQ9:∀ (k n:Nat) (g:Nat->Nat),(∀ i,i<n->g i<k)->(∀ i j,i<n->j<n->g i=g j->i=j)->n<=k
 | 0,n,g,h,_=>by
  rcases Nat.eq_zero_or_pos n with e | e
  ·omega
  ·exact absurd (h 0 e) (be0 _)
 | k+1,0,g,_,_=>t8 _
 | k+1,n+1,g,h,inj=>by
  by_cases q:∃ i0,i0<n+1/\g i0=k
  ·obtain⟨i0,h0,e0⟩:=q
   have:=aQ9 k n (fun i=>if i=i0 then g n else g i) (fun i hi=>?_) (fun i j hi hj e=>?_)
   ·omega
   ·try dsimp only
    split
    ·rename_i hii
     have h1:=h n (by omega)
     have h2:g n≠k:=fun z=>by have:=inj n i0 (by omega) h0 (by rw[z,e0]);omega
     omega
    ·have h1:=h i (by omega)
     have h2:g i≠k:=fun z=>by have:=inj i i0 (by omega) h0 (by rw[z,e0]);omega
     omega
   ·try dsimp only at e
    split at e
    ·split at e
     ·omega
     ·have:=inj n j (by omega) (by omega) e;omega
    ·split at e
     ·have:=inj i n (by omega) (by omega) e;omega
     ·exact inj i j (by omega) (by omega) e
  ·have:=aQ9 k (n+1) g (fun i hi=>?_) inj
   ·omega
   ·have h1:=h i hi
    have h2:g i≠k:=fun z=>q ⟨i,hi,z⟩
    omega
structure LI (t:SetTable) (hs:Array Int) (owner:Array (Option Nat)) (k:Nat):Prop where
 size:owner.size=t.mask+1
 lt:∀ (j i:Nat),owner[j]?=some (some i)->i<k
 inj:∀ (j j' i:Nat),owner[j]?=some (some i)->owner[j']?=some (some i)->j=j'
 has:∀ (i:Nat) (h:Int),i<k->hs[i]?=some h->∃ n,n<10*turns t.mask/\owner[(it t n (t.probeStart h)).j]?=some (some i)/\∀ c,c<n->∃ i':Nat,owner[(it t c (t.probeStart h)).j]?=some (some i')
theorem LI.free {t:SetTable}{hs:Array Int}{owner:Array (Option Nat)}{k:Nat}(L:LI t hs owner k)(hk:k<=t.mask):∃ b,b<=t.mask/\owner[b]?=some none:=by
 apply Classical.byContradiction
 intro z
 have all:∀ b,b<=t.mask->∃ i,owner[b]?=some (some i):=fun b hb=>by
  have e:=getElem?_pos owner b (by rw[L.size];omega)
  cases q:owner[b]'(by rw[L.size];omega) with
  | none=>rw[q]at e;exact absurd ⟨b,hb,e⟩ z
  | some i=>rw[q]at e;exact⟨i,e⟩
 have:=aQ9 k (t.mask+1) (fun b=>match owner[b]? with | some (some i)=>i | _=>0) (fun b hb=>?_) (fun b b' hb hb' e=>?_)
 ·omega
 ·obtain⟨i,e⟩:=all b (by omega)
  try dsimp only
  rw[e]
  exact L.lt b i e
 ·obtain⟨i,e1⟩:=all b (by omega)
  obtain⟨i',e2⟩:=all b' (by omega)
  try dsimp only at e
  rw[e1,e2]at e
  dsimp only at e
  subst e
  exact L.inj b b' i e1 e2
theorem aN3 (t:SetTable)(owner:Array (Option Nat))(hz:owner.size=t.mask+1):∀ (fuel i pt:Nat),i<=t.mask->(∃ r,r<fuel/\∃ b,b=(rn t.mask i pt r).1/\owner[b]?=some none) ->
  ∃ n,n<10*fuel/\layClean.free t.mask owner fuel i pt=some (it t n (st t.mask i pt)).j/\owner[(it t n (st t.mask i pt)).j]?=some none/\∀ c,c<n->∃ i':Nat,owner[(it t c (st t.mask i pt)).j]?=some (some i')
 | 0,i,pt,_,⟨r,hr,_⟩=>absurd hr (be0 _)
 | fuel+1,i,pt,hi,⟨r,hr,b,hb,hbo⟩=>by
  have h9:=ax2 t.mask i
  have hm:=aX6 hi
  unfold layClean.free
  have slotOf:∀ k,k<=runEnd t.mask i - i->(it t k (st t.mask i pt)).j=i+k:=fun k hk=>by rw[aR7 t i pt k hk]
  have getS:∀ k,k<=runEnd t.mask i - i->(owner.getD (i+k) (some 0)).isNone=false->∃ i':Nat,owner[i+k]?=some (some i'):=fun k hk e=>by
   have hlt:i+k<owner.size:=by omega
   have e1:=getElem?_pos owner (i+k) hlt
   have e2:owner.getD (i+k) (some 0)=owner[i+k]:=by simp[bX6,hlt]
   rw[e2]at e
   cases q:owner[i+k] with
   | none=>rw[q]at e;cases e
   | some i'=>rw[q]at e1;exact⟨i',e1⟩
  cases hf:(p5 (runEnd t.mask i+1 - i)).find? (fun k=>(owner.getD (i+k) (some 0)).isNone) with
  | some k =>
   dsimp only
   rw[List.find?_eq_some_iff_getElem]at hf
   obtain⟨hp,k',hk',ek,hbef⟩:=hf
   rw[y7]at hk'
   rw[aj6]at ek
   subst ek
   refine⟨k',by omega,by rw[slotOf k' (by omega)],?_,fun c hc=>?_⟩
   ·rw[slotOf k' (by omega)]
    have hlt:i+k'<owner.size:=by omega
    have e2:owner.getD (i+k') (some 0)=owner[i+k']:=by simp[bX6,hlt]
    rw[e2]at hp
    rw[getElem?_pos owner _ hlt]
    cases q:owner[i+k'] with
    | none=>rfl
    | some z=>rw[q]at hp;cases hp
   ·rw[slotOf c (by omega)]
    have:=hbef c hc
    rw[aj6]at this
    exact getS c (by omega) (by simpa using this)
  | none =>
   dsimp only
   rw[List.find?_eq_none]at hf
   have all:∀ c,c<=runEnd t.mask i - i->∃ i':Nat,owner[i+c]?=some (some i'):=fun c hc=>getS c hc (by simpa only [ci8] using hf c (v8.mpr (by omega)))
   have hr0:r≠0:=fun z=>by
    subst z
    obtain⟨i',e⟩:=all 0 (t8 _)
    have hb':b=i:=hb
    rw[hb']at hbo
    rw[aT8,hbo]at e
    cases e
   obtain⟨r',rfl⟩:∃ r',r=r'+1:=⟨r - 1,by omega⟩
   have shift:∀ r,rn t.mask (leap t.mask i pt).1 (leap t.mask i pt).2 r=rn t.mask i pt (r+1):=fun r=>by
    induction r with
    | zero=>rfl
    | succ r ih =>
     show leap t.mask _ _=leap t.mask _ _
     rw[ih]
   obtain⟨n,hn,e1,e2,e3⟩:=aN3 t owner hz fuel (leap t.mask i pt).1 (leap t.mask i pt).2 (ao4 (ci7 _ (ak3 _))) ⟨r',by omega,b,by rw[hb,shift],hbo⟩
   have sh:∀ c,it t (runEnd t.mask i - i+1+c) (st t.mask i pt)=it t c (st t.mask (leap t.mask i pt).1 (leap t.mask i pt).2):=fun c=>by rw[aR9,aR8]
   refine⟨runEnd t.mask i - i+1+n,by omega,by rw[sh];exact e1,by rw[sh];exact e2,fun c hc=>?_⟩
   by_cases q:c<=runEnd t.mask i - i
   ·rw[slotOf c q]
    exact all c q
   ·have:=e3 (c - (runEnd t.mask i - i+1)) (by omega)
    rw[<- sh,show runEnd t.mask i - i+1+(c - (runEnd t.mask i - i+1))=c by omega]at this
    exact this
theorem ba8 (t:SetTable)(g:Good t.mask)(hs:Array Int)(hsz:hs.size<=t.mask):∀ (l:List Int) (k:Nat) (owner:Array (Option Nat)),LI t hs owner k->hs.toList.drop k=l ->
  ∃ owner',(l.foldl (fun acc h=>do
   let (owner,k) <- acc
   let j <- layClean.free t.mask owner (turns t.mask) (bits h % (t.mask+1)) (bits h)
   pure (owner.setIfInBounds j (some k),k+1)) (some (owner,k)))=some (owner',k+l.length)/\LI t hs owner' (k+l.length)
 | [],k,owner,L,_=>⟨owner,rfl,L⟩
 | h::l,k,owner,L,hd=>by
  have hk:k<hs.size:=by
   apply Classical.byContradiction
   intro z
   rw[J5 (by rw[l5];omega)]at hd
   cases hd
  have hget:hs[k]?=some h:=by
   rw[<- g6]
   have:=congrArg (fun l=>l[0]?) hd
   simpa using this
  obtain⟨b,hb,hbo⟩:=L.free (by omega)
  obtain⟨r,hr,er⟩:=bl8 g (al0 t h) (bp4 h) hb
  obtain⟨n,hn,e1,e2,e3⟩:=aN3 t owner L.size (turns t.mask) (bits h % (t.mask+1)) (bits h) (al0 t h) ⟨r,hr,b,er.symm,hbo⟩
  rw[<- al3]at e1 e2 e3
  have hjs:(it t n (t.probeStart h)).j<owner.size:=(getElem?_eq_some_iff.mp e2).1
  have gs:∀ x,(owner.setIfInBounds (it t n (t.probeStart h)).j (some k))[x]?=if (it t n (t.probeStart h)).j=x then some (some k) else owner[x]?:=fun x=>by
   rw[Array.getElem?_setIfInBounds]
   split
   ·rename_i hx;subst hx;simp[hjs]
   ·rfl
  have occ:∀ (x i:Nat),owner[x]?=some (some i)->∃ i':Nat,(owner.setIfInBounds (it t n (t.probeStart h)).j (some k))[x]?=some (some i'):=fun x i e=>by
   rw[gs];split
   ·exact⟨k,rfl⟩
   ·exact⟨i,e⟩
  have L':LI t hs (owner.setIfInBounds (it t n (t.probeStart h)).j (some k)) (k+1):=by
   refine⟨by rw[bj4];exact L.size,fun j i e=>?_,fun j j' i ea ec=>?_,fun i h' hi hh=>?_⟩
   ·rw[gs]at e
    split at e
    ·cases e;omega
    ·have:=L.lt j i e;omega
   ·rw[gs]at ea ec
    split at ea
    ·rename_i q1
     cases ea
     split at ec
     ·rename_i q2;rw[<- q1,<- q2]
     ·have:=L.lt j' k ec;omega
    ·split at ec
     ·cases ec
      have:=L.lt j k ea;omega
     ·exact L.inj j j' i ea ec
   ·by_cases q:i=k
    ·subst q
     rw[hget]at hh
     cases hh
     refine⟨n,hn,by rw[gs,if_pos rfl],fun c hc=>?_⟩
     obtain⟨i',e⟩:=e3 c hc
     exact occ _ i' e
    ·obtain⟨n',q1,q2,q3⟩:=L.has i h' (by omega) hh
     refine⟨n',q1,?_,fun c hc=>?_⟩
     ·rw[gs]
      split
      ·rename_i q4
       rw[q4]at e2
       rw[e2]at q2
       cases q2
      ·exact q2
     ·obtain⟨i',e⟩:=q3 c hc
      exact occ _ i' e
  obtain⟨owner',f1,f2⟩:=ba8 t g hs hsz l (k+1) _ L' (by
   have e5:hs.toList.drop (k+1)=(hs.toList.drop k).drop 1:=by rw[bj2]
   rw[e5,hd]
   rfl)
  refine⟨owner',?_,?_⟩
  ·rw[ag9]
   have:(do
     let (owner,k) <- some (owner,k)
     let j <- layClean.free t.mask owner (turns t.mask) (bits h % (t.mask+1)) (bits h)
     pure (owner.setIfInBounds j (some k),k+1))=some (owner.setIfInBounds (it t n (t.probeStart h)).j (some k),k+1):=by
    show (layClean.free t.mask owner (turns t.mask) (bits h % (t.mask+1)) (bits h) >>= fun j=>pure (owner.setIfInBounds j (some k),k+1))=_
    rw[e1]
    rfl
   rw[this,f1,p6]
   congr 2
   omega
  ·rw[p6,show k+(l.length+1)=k+1+l.length by omega]
   exact f2
theorem bE1 {M finger moves:Nat}{led plain:Bool}{es:Array En}(g:Good M)(hsz:es.size*5<M*3) :
  ∃ t2 order,laid M finger moves led plain (es.map (·.1))=some (t2,order)/\Tb t2 (order.filterMap (es[·]?))/\(order.filterMap (es[·]?)).toList.Perm es.toList/\order.toList.Perm (p5 es.size)/\t2.led=led/\t2.plain=plain:=by
 let t:SetTable:={ mask:=M,place:=#[],dummies:=#[],finger:=finger,led:=led,moves:=moves,plain:=plain }
 have ht:t.mask=M:=rfl
 have h0:LI t (es.map (·.1)) (Array.replicate (M+1) none) 0:=by
  refine⟨by simp[ht],fun j i e=>?_,fun j j' i e=>?_,fun i h hi=>by omega⟩
  ·rw[bj5]at e;split at e<;>cases e
  ·rw[bj5]at e;split at e<;>cases e
 obtain⟨owner,f1,L⟩:=ba8 t g (es.map (·.1)) (by rw[aj5,ht];omega) (es.map (·.1)).toList 0 _ h0 rfl
 rw[O6,l5,aj5]at f1 L
 have hlay:layClean M (es.map (·.1))=some owner:=by
  unfold layClean
  rw[<- Array.foldl_toList]
  have:(af4 _ _ (es.map (·.1)).toList)=some (owner,es.size):=f1
  rw[this]
  rfl
 let live:List (Nat × Nat):=(p5 (M+1)).filterMap fun j=>(owner.getD j none).map (j,·)
 have hlive:∀ p:Nat × Nat,p∈live↔owner[p.1]?=some (some p.2):=fun p=>by
  obtain⟨j,i⟩:=p
  have hg:∀ j,owner.getD j none=(owner[j]?).getD none:=fun j=>by simp
  show (j,i)∈List.filterMap _ _↔_
  rw[aj4]
  constructor
  ·rintro⟨j',hj',e⟩
   rw[hg]at e
   cases q:owner[j']? with
   | none=>rw[q]at e;cases e
   | some z =>
    rw[q]at e
    cases z with
    | none=>cases e
    | some i' =>
     have e':(j',i')=(j,i):=Option.some.inj e
     cases e'
     exact q
  ·intro e
   have hj:j<owner.size:=(getElem?_eq_some_iff.mp e).1
   refine⟨j,v8.mpr (by rw[L.size,ht]at hj;exact hj),?_⟩
   rw[hg,e]
   rfl
 have hpw:live.Pairwise (fun a b=>a.1<b.1):=by
  show (List.filterMap _ _).Pairwise _
  rw[List.pairwise_filterMap]
  refine List.Pairwise.imp ?_ aa3
  intro a b hab p hp q hq
  cases h1:owner.getD a none with
  | none=>rw[h1]at hp;cases hp
  | some i =>
   cases h2:owner.getD b none with
   | none=>rw[h2]at hq;cases hq
   | some i' =>
    rw[h1]at hp
    rw[h2]at hq
    have e1:(a,i)=p:=Option.some.inj hp
    have e2:(b,i')=q:=Option.some.inj hq
    subst e1 e2
    exact hab
 have hnd:(live.map (·.2)).Nodup:=by
  unfold List.Nodup
  rw[M9]
  refine List.Pairwise.imp_of_mem ?_ hpw
  intro a b ha hb hab e
  have h1:=(hlive a).mp ha
  have h2:=(hlive b).mp hb
  rw[<- e]at h2
  have:=L.inj _ _ _ h1 h2
  omega
 have hord:(live.map (·.2)).Perm (p5 es.size):=by
  refine(be1 hnd List.nodup_range).mpr fun i=>?_
  rw[v8,p0]
  constructor
  ·rintro⟨p,hp,rfl⟩
   exact L.lt _ _ ((hlive p).mp hp)
  ·intro hi
   obtain⟨n,_,q,_⟩:=L.has i ((es.map (·.1))[i]'(by rw[aj5];exact hi)) hi (getElem?_pos _ _ _)
   exact⟨(_,i),(hlive _).mpr q,rfl⟩
 have hlen:live.length=es.size:=by have:=hord.length_eq;simpa using this
 have hes:∀ i,i∈live.map (·.2)->∃ e,es[i]?=some e:=fun i hi=>by
  have:=hord.mem_iff.mp hi
  rw[v8]at this
  exact⟨es[i],getElem?_pos es i this⟩
 have fm:∀ (l:List Nat),(∀ i∈l,∃ e,es[i]?=some e)->(l.filterMap (es[·]?)).length=l.length/\∀ (p:Nat),(l.filterMap (es[·]?))[p]?=(l[p]?).bind (es[·]?):=fun l=>by
  induction l with
  | nil=>intro _;exact⟨rfl,fun p=>rfl⟩
  | cons a l ih =>
   intro h
   obtain⟨e,he⟩:=h a f9
   obtain⟨i1,i2⟩:=ih fun i hi=>h i (d6 _ hi)
   rw[List.filterMap_cons_some he]
   refine⟨by rw[p6,i1,p6],fun p=>?_⟩
   cases p with
   | zero=>simp[he]
   | succ p=>simpa using i2 p
 obtain⟨fl,fg⟩:=fm _ hes
 have hperm:((live.map (·.2)).filterMap (es[·]?)).Perm es.toList:=by
  refine(hord.filterMap _).trans (List.Perm.of_eq ?_)
  apply M8
  intro p
  obtain⟨_,g2⟩:=fm (p5 es.size) fun i hi=>⟨es[i]'(v8.mp hi),getElem?_pos es i (v8.mp hi)⟩
  rw[g2,show es.toList[p]?=es[p]? from g6 ..]
  by_cases hp:p<es.size
  ·rw[J9 hp];rfl
  ·rw[o7 (by simp;omega),getElem?_neg es p hp];rfl
 let t2:SetTable:={ mask:=M,place:=(live.map (·.1)).toArray,dummies:=#[],finger:=finger,led:=led,moves:=moves,plain:=plain }
 have hes':((live.map (·.2)).toArray.filterMap (es[·]?)).toList=(live.map (·.2)).filterMap (es[·]?):=by simp
 have getE:∀ (p:Nat) (e:En),((live.map (·.2)).toArray.filterMap (es[·]?))[p]?=some e->∃ j i:Nat,live[p]?=some (j,i)/\es[i]?=some e:=fun p e h=>by
  rw[<- g6,hes',fg,o5]at h
  cases q:live[p]? with
  | none=>rw[q]at h;cases h
  | some ji=>rw[q]at h;exact⟨ji.1,ji.2,rfl,h⟩
 have getP:∀ (p:Nat) (j:Nat),t2.place[p]?=some j↔∃ i,live[p]?=some (j,i):=fun p j=>by
  show (live.map (·.1)).toArray[p]?=some j↔_
  rw[List.getElem?_toArray,o5]
  cases q:live[p]? with
  | none=>simp
  | some ji =>
   obtain⟨a,b⟩:=ji
   simp
 have itE:∀ n (p:Probe),it t2 n p=it t n p:=fun n p=>aC6 (t:=t) (t':=t2) rfl n p
 refine⟨t2,(live.map (·.2)).toArray,?_,?_,(by rw[hes'];exact hperm),hord,rfl,rfl⟩
 ·unfold laid
  rw[hlay]
  rfl
 ·refine⟨rfl,?_,?_,?_,g,?_,?_⟩
  ·show (live.map (·.1)).toArray.size=_
   rw[i9,b8,<- l5,hes',fl,b8]
  ·intro i j a b hij ea eb
   obtain⟨_,ea⟩:=(getP i a).mp ea
   obtain⟨_,eb⟩:=(getP j b).mp eb
   obtain⟨h1,e1⟩:=d9.mp ea
   obtain⟨h2,e2⟩:=d9.mp eb
   have:=t7.mp hpw i j h1 h2 hij
   rw[e1,e2]at this
   exact this
  ·intro i j e
   obtain⟨i',e⟩:=(getP i j).mp e
   have:=(hlive _).mp (d8 e)
   have hj:j<owner.size:=(getElem?_eq_some_iff.mp this).1
   rw[L.size]at hj
   show j<=M
   exact ao4 hj
  ·rw[<- l5,hes',fl,b8,hlen]
   exact hsz
  ·intro p e he
   obtain⟨j,i,hl,hi⟩:=getE p e he
   have ho:=(hlive _).mp (d8 hl)
   have hi':i<es.size:=(getElem?_eq_some_iff.mp hi).1
   obtain⟨n,q1,q2,q3⟩:=L.has i e.1 hi' (by rw[Array.getElem?_map,hi];rfl)
   have ej:=L.inj _ _ _ ho q2
   refine⟨n,q1,?_,fun c hc=>?_⟩
   ·rw[itE]
    exact(getP p _).mpr ⟨i,by rw[hl];congr 2⟩
   ·obtain⟨i',e'⟩:=q3 c hc
    obtain⟨p',hp'⟩:=o6.mp ((hlive (_,i')).mpr e')
    exact⟨p',by rw[itE];exact(getP p' _).mpr ⟨i',hp'⟩⟩
theorem bR1 {M finger moves:Nat}{led plain:Bool}{es:Array En}(g:Good M)(hsz:es.size*5<M*3) :
  ∃ t2 order,laid M finger moves led plain (es.map (·.1))=some (t2,order)/\Tb t2 (order.filterMap (es[·]?))/\(order.filterMap (es[·]?)).toList.Perm es.toList:=
 let ⟨a,b,c,d,e,_⟩:=bE1 (finger:=finger) (moves:=moves) (led:=led) (plain:=plain) g hsz;⟨a,b,c,d,e⟩
end Sett
namespace Sett
open PySem PySem.SetTable PyProof.Rows
def an7:List Nat->Nat->Bool
 | [],_=>true
 | x::l,acc=>!acc.testBit x && an7 l (acc ||| 2 ^ x)
theorem at8:∀ (l:List Nat) (acc:Nat),an7 l acc=true->l.Nodup/\∀ x∈l,acc.testBit x=false
 | [],_,_=>⟨ak4,(fun _ h=>nomatch h)⟩
 | x::l,acc,h=>by
  unfold an7 at h
  rw[C9]at h
  obtain⟨h1,h2⟩:=h
  obtain⟨n,m⟩:=at8 l _ h2
  have m':∀ y∈l,acc.testBit y=false/\x≠y:=fun y hy=>by
   have:=m y hy
   rw[Nat.testBit_or,Bool.or_eq_false_iff,bX5]at this
   exact⟨this.1,of_decide_eq_false this.2⟩
  refine⟨B5.mpr ⟨fun hx=>(m' x hx).2 rfl,n⟩,fun y hy=>?_⟩
  rcases d7.mp hy with rfl | hy
  ·simpa using h1
  ·exact(m' y hy).1
def hp (n:Nat):Nat:=bits (reduceHash (Builtin.Tuple.tupleHashOf [hashInt ((n / 24:Nat):Int),hashInt ((n % 24:Nat):Int)])) % 3708
set_option maxRecDepth 100000 in
theorem cf3:an7 ((p5 576).map hp) 0=true:=by decide +kernel
theorem cf2 {a b:Nat}(ha:a<576)(hb:b<576)(h:hp a=hp b):a=b:=by
 have:=(at8 _ _ cf3).1
 unfold List.Nodup at this
 rw[M9]at this
 rw[t7]at this
 rcases U8 a b with q | q | q
 ·have:=this a b (by simpa using ha) (by simpa using hb) q
  simp only[aj6]at this
  exact absurd h this
 ·exact q
 ·have:=this b a (by simpa using hb) (by simpa using ha) q
  simp only[aj6]at this
  exact absurd h.symm this
def aA2 (ks:List Int):Prop:=∃ i j:Nat,i<24/\j<24/\ks=[(i:Int),(j:Int)]
theorem bb5 {k':List Int}(h1:aA2 k)(h2:aA2 k')(e:u9 (B0 prog w) k=u9 (B0 prog w) k'):k=k':=by
 obtain⟨i,j,hi,hj,rfl⟩:=h1
 obtain⟨i',j',hi',hj',rfl⟩:=h2
 have e2:hp (24*i+j)=hp (24*i'+j'):=by
  unfold hp
  rw[show (24*i+j) / 24=i by omega,show (24*i+j) % 24=j by omega,show (24*i'+j') / 24=i' by omega,show (24*i'+j') % 24=j' by omega]
  exact congrArg (fun z=>bits z % 3708) e
 have:=cf2 (by omega) (by omega) e2
 have h3:i=i':=by omega
 have h4:j=j':=by omega
 rw[h3,h4]
def ao8 (prog:Program)(w:World)(h:Heap)(k:List Int)(e:En):Prop:=∃ a,e.2=.ref a/\M3 (B0 prog w) h k a/\e.1=u9 (B0 prog w) k
def aB2 (prog:Program)(w:World)(hk h:Heap)(S:Addr)(ks:List (List Int)):Prop:=
 ∃ o es ep t,h.get? S=some o/\o.ExactSet/\o.data=.set es ep t/\Tb t es/\es.size=ks.length/\ks.Nodup/\(∀ k∈ks,aA2 k)/\(∀ k∈ks,∃ e∈es.toList,ao8 prog w hk k e)/\∀ e∈es.toList,∃ k∈ks,ao8 prog w hk k e
theorem bE7 (x:M3 (B0 prog w) h k a)(hs:∀ b o,h.get? b=some o->h'.get? b=some o):M3 (B0 prog w) h' k a:=by
 obtain⟨o,items,n,h2,h3⟩:=x
 exact⟨o,items,n,hs a o h2,h3⟩
theorem ao8.up {e:En}(x:ao8 prog w h k e)(hs:∀ b o,h.get? b=some o->h'.get? b=some o):ao8 prog w h' k e:=by
 obtain⟨a,h1,h2,h6⟩:=x
 exact⟨a,h1,bE7 h2 hs,h6⟩
theorem ao8.inj {k':List Int}{e:En}(x:ao8 prog w h k e)(y:ao8 prog w h k' e):k=k':=by
 obtain⟨a,h1,h2,_⟩:=x
 obtain⟨b,h3,h4,_⟩:=y
 rw[h1]at h3
 cases h3
 exact h2.inj h4
theorem bi6 (x:Addr)(es:Array En):byScan (.ref x) es=false:=by
 unfold byScan Value.scannable
 rfl
theorem ay1 {x:Addr}{Q:Bool->Shared->Prop}(hx:M3 (B0 prog w) s.heap k x)(h:Q true s):p8 (t9 prog w) A (br0 8 (.ref x)) Q E s:=by
 have hT:=hx.typeIs
 obtain⟨o,items,n,ho,hc,hd,hi⟩:=hx
 unfold br0
 refine b7 (wpAny_specialOf hT F.slot_tuple_hash.lookup ?_)
 dsimp only
 refine b7 (G5 ho hd ?_)
 show p8 _ _ (forIn items _ _ >>= _) _ _ s
 rw[<- ai8]
 have hv:∀ v∈items.toList,∃ i t,v=.int i t:=fun v hv=>by
  clear ho hd
  generalize items.toList=l at hi hv
  induction hi with
  | nil=>cases hv
  | cons h1 _ ih =>
   rcases d7.mp hv with rfl | hv
   ·obtain⟨t,e⟩:=Value.isInt_shape h1
    exact⟨_,t,e⟩
   ·exact ih hv
 refine b7 (av8 _ (fun rest r s'=>r.1=none/\s'=s/\∀ v∈rest,∃ i t,v=.int i t) _ ?_ ?_ _ _ ⟨rfl,rfl,hv⟩)
 ·rintro v rest r s' ⟨hr,rfl,hall⟩
  obtain⟨i,t,rfl⟩:=hall v f9
  have e:br0 7 (.int i t)=pure true:=by unfold br0;rfl
  rw[e]
  refine b7 (d3 ?_)
  simp only[U6,l9,if_false]
  exact d3 ⟨rfl,rfl,fun u hu'=>hall u (d6 _ hu')⟩
 ·rintro⟨r1,r2⟩ s' ⟨hr,rfl,_⟩
  simp only at hr
  subst hr
  exact d3 h
theorem aK5 {S x:Addr}{es:Array En}{ep:Nat}{t:SetTable}{h:Int}{Q:SetFound->Shared->Prop}(ho:s.heap.get? S=some o)(hd:o.data=.set es ep t)(T:Tb t es)(hh:∀ e∈es.toList,e.1≠h)
  (hq:∀ n,n<10*turns t.mask->(∀ i:Nat,t.place[i]?≠some (it t n (t.probeStart h)).j)->(it t n (t.probeStart h)).j<=t.mask->(∀ k,k<n->∃ i':Nat,t.place[i']?=some (it t k (t.probeStart h)).j)->Q (.free (it t n (t.probeStart h)).j false) s) :
  p8 (t9 prog w) A (bY6 S (.ref x) h true) Q E s:=by
 obtain⟨n,h1,h2,h3,h4,h5⟩:=T.absent hh
 unfold bY6 aP1
 refine b7 (V6 ho hd T.fits ?_)
 dsimp only
 rw[T.odd]
 simp only[l9,if_false]
 split
 ·rename_i met hm
  have e:=hm.symm.trans h5
  cases e
  exact d3 (hq n h1 h2 h3 h4)
 ·rename_i hm
  exact absurd h5 (fun z=>hm _ z)
theorem bc6 {x:Addr}{Q:Bool->Shared->Prop}(hx:M3 (B0 prog w) s.heap k x)(h:Q false s):p8 (t9 prog w) A (aq4 8 (.ref x)) Q E s:=by
 have hT:=hx.typeIs
 obtain⟨o,items,n,ho,hc,hd,hi⟩:=hx
 unfold aq4
 refine b7 (wpAny_typeOf hT ?_)
 dsimp only
 rw[if_pos (by decide)]
 refine b7 (d3 ?_)
 simp only[U6,l9,if_false]
 refine b7 (G5 ho hd ?_)
 dsimp only
 rw[<- ai8]
 have hv:∀ v∈items.toList,∃ i t,v=.int i t:=fun v hv=>by
  clear ho hd
  generalize items.toList=l at hi hv
  induction hi with
  | nil=>cases hv
  | cons h1 _ ih =>
   rcases d7.mp hv with rfl | hv
   ·obtain⟨t,e⟩:=Value.isInt_shape h1
    exact⟨_,t,e⟩
   ·exact ih hv
 refine b7 (av8 _ (fun rest r s'=>r.1=none/\s'=s/\∀ v∈rest,∃ i t,v=.int i t) _ ?_ ?_ _ _ ⟨rfl,rfl,hv⟩)
 ·rintro v rest r s' ⟨hr,rfl,hall⟩
  obtain⟨i,t,rfl⟩:=hall v f9
  have e:aq4 7 (.int i t)=pure false:=by unfold aq4;rfl
  rw[e]
  refine b7 (d3 ?_)
  simp only[l9,if_false]
  exact d3 ⟨rfl,rfl,fun u hu'=>hall u (d6 _ hu')⟩
 ·rintro⟨r1,r2⟩ s' ⟨hr,rfl,_⟩
  simp only at hr
  subst hr
  exact d3 h
theorem bZ2 {x:Addr}{l:List Value}{Q:Bool->Shared->Prop}(hx:M3 (B0 prog w) s.heap k x)(hl:∀ v∈l,∃ a k',v=.ref a/\M3 (B0 prog w) s.heap k' a)(h:Q false s) :
  p8 (t9 prog w) A (searchCouldBeSeen (.ref x) l) Q E s:=by
 unfold searchCouldBeSeen
 refine b7 (av8 _ (fun rest r s'=>r.1=none/\s'=s/\∀ v∈rest,∃ a k',v=.ref a/\M3 (B0 prog w) s.heap k' a) _ ?_ ?_ _ _ ⟨rfl,rfl,hl⟩)
 ·rintro v rest r s' ⟨hr,rfl,hall⟩
  obtain⟨a,k',rfl,ha⟩:=hall v f9
  have hrest:∀ v∈rest,∃ a k',v=.ref a/\M3 (B0 prog w) s'.heap k' a:=fun u hu'=>hall u (d6 _ hu')
  dsimp only
  split
  ·exact d3 ⟨rfl,rfl,hrest⟩
  ·refine b7 (bY7 hx ?_)
   simp only[U6,l9,if_false]
   refine b7 (bY7 ha ?_)
   simp only[U6,l9,if_false]
   refine b7 (bc6 hx ?_)
   simp only[l9,if_false]
   refine b7 (bc6 ha ?_)
   simp only[l9,if_false]
   exact d3 ⟨rfl,rfl,hrest⟩
 ·rintro⟨r1,r2⟩ s' ⟨hr,rfl,_⟩
  simp only at hr
  subst hr
  exact d3 h
theorem aE2 {S x:Addr}{es:Array En}{ep:Nat}{t:SetTable}{e:En}{Q:SetFound->Shared->Prop}(hu:A.units<ae8)(ho:s.heap.get? S=some o)(hd:o.data=.set es ep t)(T:Tb t es)
  (hx:M3 (B0 prog w) s.heap k x)(he:es[i]?=some e)(hk:ao8 prog w s.heap k e)(hall:∀ e∈es.toList,∃ k,ao8 prog w s.heap k e)(huq:∀ (c:Nat) (e':En),es[c]?=some e'->e'.1=e.1->c=i)
  (hq:Q (.there none) s):p8 (t9 prog w) A (bY6 S (.ref x) (u9 (B0 prog w) k) true) Q E s:=by
 obtain⟨y,hy1,hy2,hy3⟩:=hk
 obtain⟨j,q,hp⟩:=T.present he huq
 rw[hy3]at hp
 unfold bY6 aP1
 refine b7 (V6 ho hd T.fits ?_)
 dsimp only
 rw[T.odd]
 simp only[l9,if_false]
 have fin:p8 (t9 prog w) A (do
   let some (_,y):=es[i]? | aj8 "internal:set-entry"
   let equal <- aU5 [y] (eqBool y (.ref x))
   let (es',_,t') <- setState S
   if true && equal then return .there none
   let some same:=t'.sameMemory t.moves t.mask | aj8 "set.changed-during-lookup:is-the-new-block-at-the-old-address"
   let still <- match (if same then t'.slot j else .empty) with
    | .live i'=>match es'[i']? with
     | some (_,y')=>do pure (if <- isSame y' y then some i' else none)
     | none=>pure none
    | _=>pure none
   match still with
   | none=>rule "set.search.anew";aP1 S (.ref x) (u9 (B0 prog w) k) true 99999 none
   | some i'=>if equal then return .there (some i') else aP1 S (.ref x) (u9 (B0 prog w) k) true 99999 (some q)) Q E s:=by
  rw[he]
  obtain⟨e1,e2⟩:=e
  have hy1:e2=.ref y:=hy1
  subst hy1
  dsimp only
  refine b7 (D9 (wpAny_eqBool_tuple hu hy2 hx ?_))
  refine b7 (V6 ho hd T.fits ?_)
  dsimp only
  rw[decide_eq_true rfl]
  simp only[Bool.and_self,if_true]
  exact d3 hq
 split
 ·rename_i met hm
  have e9:=hm.symm.trans hp
  cases e9
  dsimp only
  cases hled:t.led with
  | true =>
   simp only[U6,l9,if_false]
   exact fin
  | false =>
   simp only[bj6,if_true]
   refine b7 (bZ2 hx (fun v hv=>?_) ?_)
   ·rw[p0]at hv
    obtain⟨e',he',rfl⟩:=hv
    have he'':e'∈es.toList:=by
     have:=Array.mem_filter.mp (aw0.mp he')
     exact aw0.mpr this.1
    obtain⟨k',a,h1,h2,_⟩:=hall e' he''
    exact⟨a,k',h1,h2⟩
   ·simp only[l9,if_false]
    exact fin
 ·rename_i hm
  exact absurd hp (fun z=>hm _ z)
theorem thr (g:Good m)(h1:n*5<m*3)(h2:m*3<=(n+1)*5)(h3:n<300):(m=7/\n+1=5)\/(m=31/\n+1=19)\/(m=127/\n+1=77):=by
 rcases g with rfl | rfl | rfl | rfl<;>omega
theorem bh7 (g:Good m)(h1:n*5<m*3)(h2:m*3<=(n+1)*5)(h3:n<300):Good (sizeAbove (grown (n+1)) - 1)/\(n+1)*5<(sizeAbove (grown (n+1)) - 1)*3/\sizeAbove (grown (n+1))<=4096:=by
 rcases thr g h1 h2 h3 with⟨_,e⟩ | ⟨_,e⟩ | ⟨_,e⟩<;>rw[e]<;>refine⟨?_,by decide +kernel,by decide +kernel⟩
 ·exact .inr (.inl (by decide +kernel))
 ·exact .inr (.inr (.inl (by decide +kernel)))
 ·exact .inr (.inr (.inr (by decide +kernel)))
theorem bM5 {t:SetTable}{es:Array En}(T:Tb' t es):t.tooFull=decide (t.mask*3<=es.size*5):=by
 unfold tooFull PySem.SetTable.fill
 rw[T.dum,T.len]
 rfl
theorem stored {S:Addr}{es es':Array En}{ep:Nat}{t t':SetTable}(ho:h.get? S=some o)(hd:o.data=.set es ep t) :
  (h.update S (Obj.putSet es' t')).get? S=some { o with data:=.set es' (ep+1) t' }:=by
 have:=O5 (Obj.putSet es' t') ho (by rw[putSet_of es' t' hd];rfl)
 rw[putSet_of es' t' hd]at this
 exact this
theorem aW5 {S x:Addr}{Q:Bool->Shared->Prop}{hp:Heap}(hup:∀ b o,hp.get? b=some o->s.heap.get? b=some o)(hu:A.units<ae8)(hS:aB2 prog w hp s.heap S ks)(hx0:M3 (B0 prog w) hp k x)(hk:aA2 k)(hn:ks.length<300)
  (hq:∀ (b:Bool) (h':Heap) (tk:Nat),s.toks<=tk->Heap.SameBut S s.heap h'->aB2 prog w hp h' S (if k∈ks then ks else k::ks)->Q b { s with heap:=h',toks:=tk }) :
  p8 (t9 prog w) A (setAdd S (.ref x)) Q E s:=by
 have hx:=bE7 hx0 hup
 unfold setAdd
 refine D9 (b7 (wpAny_pyHash_tuple hu hx ?_))
 obtain⟨o,es,ep,t,ho,hex,hd,T,hsz,hnd,hok,hto,hfrom⟩:=hS
 unfold setAddHashed
 refine D9 ?_
 unfold setAddHashedIn
 refine b7 (V6 (s:={ s with toks:=s.toks+(k.length+1) }) ho hd T.fits ?_)
 dsimp only
 rw[bi6]
 simp only[l9,if_false]
 by_cases hmem:k∈ks
 ·-- it is there
  obtain⟨e,he,hek⟩:=hto k hmem
  obtain⟨i,hi⟩:=o6.mp he
  rw[g6]at hi
  have huq:∀ (c:Nat) (e':En),es[c]?=some e'->e'.1=e.1->c=i:=fun c e' hc hh=>by
   apply Classical.byContradiction
   intro hci
   have hkey:∀ (c:Nat),c<es.size->∃ kk,kk∈ks/\∃ e,es[c]?=some e/\ao8 prog w hp kk e:=fun c hc=>by
    have e:=getElem?_pos es c hc
    obtain⟨kk,h1,h2⟩:=hfrom es[c] (by simp)
    exact⟨kk,h1,_,e,h2⟩
   have e'k:ao8 prog w hp k e':=by
    obtain⟨kk,h1,h2⟩:=hfrom e' (d8 (by rw[g6];exact hc))
    have h3:=h2
    obtain⟨_,_,_,h4⟩:=h2
    have h5:=hek
    obtain⟨_,_,_,h6⟩:=h5
    have:kk=k:=bb5 (prog:=prog) (w:=w) (hok kk h1) hk (by rw[<- h4,hh,h6])
    rw[<- this]
    exact h3
   have hch:∀ n,n<ks.length->∃ c,c<es.size/\∃ e,es[c]?=some e/\∃ kk,ks[n]?=some kk/\ao8 prog w hp kk e:=fun n hn'=>by
    obtain⟨e,he,hek⟩:=hto ks[n] (W9 hn')
    obtain⟨c,hc⟩:=o6.mp he
    rw[g6]at hc
    exact⟨c,(getElem?_eq_some_iff.mp hc).1,e,hc,ks[n],c7 hn',hek⟩
   have:=aQ9 (es.size - 1) ks.length (fun n=>if hn':n<ks.length then (let c0:=Classical.choose (hch n hn');let c1:=if c0=c then i else c0;if c1<c then c1 else c1 - 1) else 0) ?_ ?_
   ·have hc':=(getElem?_eq_some_iff.mp hc).1
    omega
   ·intro n hn'
    dsimp only
    rw[dif_pos hn']
    have hp:=Classical.choose_spec (hch n hn')
    generalize Classical.choose (hch n hn')=c0 at hp
    obtain⟨p1,_⟩:=hp
    have hc':=(getElem?_eq_some_iff.mp hc).1
    have hi':=(getElem?_eq_some_iff.mp hi).1
    split<;>split<;>omega
   ·intro n n' hn1 hn2 eqn
    dsimp only at eqn
    rw[dif_pos hn1,dif_pos hn2]at eqn
    have hp:=Classical.choose_spec (hch n hn1)
    have hp':=Classical.choose_spec (hch n' hn2)
    generalize Classical.choose (hch n hn1)=c0 at hp eqn
    generalize Classical.choose (hch n' hn2)=c0' at hp' eqn
    obtain⟨p1,e1,p2,kk,p3,p4⟩:=hp
    obtain⟨p1',e1',p2',kk',p3',p4'⟩:=hp'
    have same:kk=kk':=by
     have r1:ao8 prog w hp kk (if c0=c then e else e1):=by
      split
      ·rename_i hcc
       subst hcc
       rw[hc]at p2
       cases p2
       have:=p4.inj e'k
       rw[this]
       exact hek
      ·exact p4
     have r2:ao8 prog w hp kk' (if c0'=c then e else e1'):=by
      split
      ·rename_i hcc
       subst hcc
       rw[hc]at p2'
       cases p2'
       have:=p4'.inj e'k
       rw[this]
       exact hek
      ·exact p4'
     have g1:es[if c0=c then i else c0]?=some (if c0=c then e else e1):=by split<;>assumption
     have g2:es[if c0'=c then i else c0']?=some (if c0'=c then e else e1'):=by split<;>assumption
     have ne1:(if c0=c then i else c0)≠c:=by split<;>omega
     have ne2:(if c0'=c then i else c0')≠c:=by split<;>omega
     have eqc:(if c0=c then i else c0)=(if c0'=c then i else c0'):=by
      generalize (if c0=c then i else c0)=u at eqn ne1
      generalize (if c0'=c then i else c0')=v at eqn ne2
      split at eqn<;>split at eqn<;>omega
     rw[eqc,g2]at g1
     rw[<- Option.some.inj g1]at r1
     exact r1.inj r2
    subst same
    obtain⟨q1,q2⟩:=d9.mp p3
    obtain⟨q3,q4⟩:=d9.mp p3'
    rcases U8 n n' with z | z | z
    ·exact absurd (q2.trans q4.symm) (t7.mp hnd n n' q1 q3 z)
    ·exact z
    ·exact absurd (q4.trans q2.symm) (t7.mp hnd n' n q3 q1 z)
  refine b7 (aE2 (s:={ s with toks:=s.toks+(k.length+1) }) hu ho hd T hx hi (hek.up hup) (fun e he=>?_) huq ?_)
  ·obtain⟨kk,_,h2⟩:=hfrom e he
   exact⟨kk,h2.up hup⟩
  ·refine d3 ?_
   have:=hq false s.heap (s.toks+(k.length+1)) (S5 _ _) (Heap.SameBut.refl S s.heap)
   rw[if_pos hmem]at this
   exact this ⟨o,es,ep,t,ho,hex,hd,T,hsz,hnd,hok,hto,hfrom⟩
 ·-- it is new
  have hh:∀ e∈es.toList,e.1≠u9 (B0 prog w) k:=fun e he z=>by
   obtain⟨kk,h1,h2⟩:=hfrom e he
   obtain⟨_,_,_,h4⟩:=h2
   have:kk=k:=bb5 (prog:=prog) (w:=w) (hok kk h1) hk (by rw[<- h4,z])
   exact hmem (this ▸ h1)
  refine b7 (aK5 (s:={ s with toks:=s.toks+(k.length+1) }) ho hd T hh fun n hn1 hfr hle hocc=>?_)
  dsimp only
  refine b7 (V6 (s:={ s with toks:=s.toks+(k.length+1) }) ho hd T.fits ?_)
  dsimp only
  obtain⟨hp1,T1⟩:=T.put (h:=u9 (B0 prog w) k) (x:=Value.ref x) hn1 hfr hle hocc
  generalize hpt:t.put (it t n (t.probeStart (u9 (B0 prog w) k))).j=tp at hp1 T1 ⊢
  have hled:tp.1.mask=t.mask:=by
   rw[<- hpt]
   unfold SetTable.put
   rfl
  obtain⟨t1,p⟩:=tp
  dsimp only at hp1 T1 hled ⊢
  have hsz1:(insertAt es p (u9 (B0 prog w) k,Value.ref x)).size=es.size+1:=as6 hp1
  have fits1:(insertAt es p (u9 (B0 prog w) k,Value.ref x)).size<=j7:=by rw[hsz1,hsz,E4];omega
  have made:∀ (h':Heap) (o':Obj) (es':Array En) (ep':Nat) (t':SetTable),Heap.SameBut S s.heap h'->h'.get? S=some o'->o'.ExactSet->o'.data=.set es' ep' t'->Tb t' es' ->
    es'.toList.Perm (insertAt es p (u9 (B0 prog w) k,Value.ref x)).toList->aB2 prog w hp h' S (k::ks):=fun h' o' es' ep' t' hsb ho' hex' hd' T' hpm=>by
   have hmemE:∀ e,e∈es'.toList↔e=(u9 (B0 prog w) k,Value.ref x)\/e∈es.toList:=fun e=>by rw[hpm.mem_iff];exact bQ5 hp1 e
   have hnew:ao8 prog w hp k (u9 (B0 prog w) k,Value.ref x):=⟨x,rfl,hx0,rfl⟩
   refine⟨o',es',ep',t',ho',hex',hd',T',?_,B5.mpr ⟨hmem,hnd⟩,fun kk hkk=>?_,fun kk hkk=>?_,fun e he=>?_⟩
   ·have:=hpm.length_eq
    rw[l5,l5,hsz1,hsz]at this
    rw[this,p6]
   ·rcases d7.mp hkk with rfl | hkk
    ·exact hk
    ·exact hok kk hkk
   ·rcases d7.mp hkk with rfl | hkk
    ·exact⟨_,(hmemE _).mpr (.inl rfl),hnew⟩
    ·obtain⟨e,he,hek⟩:=hto kk hkk
     exact⟨e,(hmemE e).mpr (.inr he),hek⟩
   ·rcases(hmemE e).mp he with rfl | he
    ·exact⟨k,f9,hnew⟩
    ·obtain⟨kk,h1,h2⟩:=hfrom e he
     exact⟨kk,d6 _ h1,h2⟩
  have rest:∀ b:Bool,p8 (t9 prog w) A (do
    storeSet S (insertAt es p (u9 (B0 prog w) k,Value.ref x)) (if b=true then t1 else { t1 with plain:=false })
    if (!false && (if b=true then t1 else { t1 with plain:=false }).tooFull)=true then do
     setRelay S (grown (es.size+1))
     pure true
    else pure true) Q E { s with toks:=s.toks+(k.length+1) }:=fun b=>by
   have T2:Tb' (if b=true then t1 else { t1 with plain:=false }) (insertAt es p (u9 (B0 prog w) k,Value.ref x)):=by
    split
    ·exact T1
    ·exact T1.plain false
   have hm2:(if b=true then t1 else { t1 with plain:=false }).mask=t.mask:=by split<;>exact hled
   generalize (if b=true then t1 else { t1 with plain:=false })=t2 at T2 hm2
   refine b7 (wpAny_storeSet_of (s:={ s with toks:=s.toks+(k.length+1) }) ho hd ?_ fits1)
   have ho1:=stored (es':=insertAt es p (u9 (B0 prog w) k,Value.ref x)) (t':=t2) ho hd
   have hsb1:=Heap.SameBut.update s.heap S (Obj.putSet (insertAt es p (u9 (B0 prog w) k,Value.ref x)) t2)
   rw[bM5 T2]
   simp only[bj6,Bool.true_and,decide_eq_true_eq]
   by_cases hful:t2.mask*3<=(insertAt es p (u9 (B0 prog w) k,Value.ref x)).size*5
   ·rw[if_pos hful]
    rw[hsz1,hm2]at hful
    obtain⟨g1,g2,g3⟩:=bh7 T.good T.nf hful (by rw[hsz];exact hn)
    unfold setRelay
    refine b7 (b7 (V6 (s:={ s with heap:=s.heap.update S (Obj.putSet (insertAt es p (u9 (B0 prog w) k,Value.ref x)) t2),toks:=s.toks+(k.length+1) }) ho1 rfl T2.fits ?_))
    dsimp only
    rw[if_neg (by rw[E4];omega)]
    obtain⟨t3,order,hl3,T3,hpm3⟩:=bR1 (M:=sizeAbove (grown (es.size+1)) - 1) (finger:=t2.finger) (moves:=t2.movedTo (sizeAbove (grown (es.size+1)) - 1)) (led:=t2.led) (plain:=t2.plain) (es:=insertAt es p (u9 (B0 prog w) k,Value.ref x)) g1 (by rw[hsz1];exact g2)
    have hrel:t2.relaid ((insertAt es p (u9 (B0 prog w) k,Value.ref x)).map (·.1)) (grown (es.size+1))=some (t3,order):=by
     unfold relaid
     exact hl3
    rw[hrel]
    have hsz3:(order.filterMap ((insertAt es p (u9 (B0 prog w) k,Value.ref x))[·]?)).size=(insertAt es p (u9 (B0 prog w) k,Value.ref x)).size:=by
     rw[<- l5,hpm3.length_eq,l5]
    refine b7 ?_
    show p8 _ _ (if ((order.filterMap ((insertAt es p (u9 (B0 prog w) k,Value.ref x))[·]?)).size != (insertAt es p (u9 (B0 prog w) k,Value.ref x)).size)=true then _ else _) _ _ _
    rw[if_neg (by rw[hsz3];simp)]
    first | refine d3 ?_ | refine b7 (d3 (d3 ?_))
    dsimp only
    refine wpAny_storeSet_of (s:={ s with heap:=s.heap.update S (Obj.putSet (insertAt es p (u9 (B0 prog w) k,Value.ref x)) t2),toks:=s.toks+(k.length+1) }) ho1 rfl ?_ (by rw[hsz3];exact fits1)
    refine d3 ?_
    have ho2:=stored (es':=order.filterMap ((insertAt es p (u9 (B0 prog w) k,Value.ref x))[·]?)) (t':=t3) ho1 rfl
    have hsb2:=hsb1.trans (Heap.SameBut.update _ S (Obj.putSet (order.filterMap ((insertAt es p (u9 (B0 prog w) k,Value.ref x))[·]?)) t3))
    have:=hq true _ (s.toks+(k.length+1)) (S5 _ _) hsb2
    rw[if_neg hmem]at this
    exact this (made _ _ _ _ _ hsb2 ho2 hex rfl T3 hpm3)
   ·rw[if_neg hful]
    refine d3 ?_
    have:=hq true _ (s.toks+(k.length+1)) (S5 _ _) hsb1
    rw[if_neg hmem]at this
    exact this (made _ _ _ _ _ hsb1 ho1 hex rfl (T2.full (by omega)) (List.Perm.refl _))
  cases hpl:t1.plain with
  | true =>
   rw[if_pos rfl]
   refine b7 (ay1 (s:={ s with toks:=s.toks+(k.length+1) }) hx ?_)
   exact rest true
  | false =>
   rw[if_neg i7]
   refine b7 (d3 ?_)
   exact rest true
def aa9 (ks:List (List Int))(k:List Int):List (List Int):=if k∈ks then ks else k::ks
theorem bF4 (ks:List (List Int))(k:List Int):(aa9 ks k).length<=ks.length+1:=by unfold aa9;split<;>simp
theorem aC9:∀ (l ks:List (List Int)),(l.foldl aa9 ks).length<=ks.length+l.length
 | [],ks=>by simp
 | k::l,ks=>by
  rw[ag9]
  have h1:=aC9 l (aa9 ks k)
  have h2:=bF4 ks k
  rw[p6]
  omega
theorem ay3:∀ (l ks:List (List Int)),(l.foldl aa9 ks).length=ks.length+l.length↔l.Nodup/\∀ x∈l,x∉ks
 | [],ks=>by simp
 | k::l,ks=>by
  rw[ag9,p6,B5]
  by_cases h:k∈ks
  ·have e:aa9 ks k=ks:=by unfold aa9;rw[if_pos h]
   rw[e]
   have:=aC9 l ks
   constructor
   ·intro q;omega
   ·rintro⟨_,q⟩
    exact absurd h (q k f9)
  ·have e:aa9 ks k=k::ks:=by unfold aa9;rw[if_neg h]
   rw[e]
   have:=ay3 l (k::ks)
   rw[p6]at this
   constructor
   ·intro q
    obtain⟨q1,q2⟩:=this.mp (by omega)
    refine⟨⟨fun hk=>q2 k hk f9,q1⟩,fun x hx=>?_⟩
    rcases d7.mp hx with rfl | hx
    ·exact h
    ·exact fun z=>q2 x hx (d6 _ z)
   ·rintro⟨⟨q1,q2⟩,q3⟩
    have:=this.mpr ⟨q2,fun x hx z=>by
     rcases d7.mp z with rfl | z
     ·exact q1 hx
     ·exact q3 x (d6 _ hx) z⟩
    omega
theorem aV5 {R:Result->Shared->Prop}{I:Addr}{wr:List Addr}{G:Array bK6->Array bK6->Prop}{P:Nat->Value->Prop}{St:Nat->Shared->Prop}
  (W:WalksS prog w A.in1 I fp wr G n P St)(hu:A.in1.units<ae8)(S:Addr)(hSf:S∉fp)(hp:Heap)(hS0:hp.get? S=none)(hw0:∀ b∈wr,hp.get? b=none)(keys:List (List Int))(hn:keys.length=n)(hb:n<300)
  (hkey:∀ i v,P i v->∃ x k,v=.ref x/\keys[i]?=some k/\aA2 k/\M3 (B0 prog w) hp k x) :
  ∀ (c i:Nat) (s:Shared),n - i=c->i<=n->St i s->(∀ b o,hp.get? b=some o->s.heap.get? b=some o)->aB2 prog w hp s.heap S ((keys.take i).foldl aa9 []) ->
   (∀ s',Moved (S::wr) G s s'->aB2 prog w hp s'.heap S (keys.foldl aa9 [])->R (.ok (.ret .none)) s') ->
   ar8 (t9 prog w) A (.builtin "set.update.loop" ⟨[.ref S,.ref I],[]⟩) R s:=by
 have hSw:S∉wr:=fun h=>hSf (W.sub _ h)
 have hsub:∀ b∈wr,b∈S::wr:=fun b hb=>d6 _ hb
 have nw:∀ b o,hp.get? b=some o->b∉wr:=fun b o e hm=>by rw[hw0 b hm]at e;cases e
 have nS:∀ b o,hp.get? b=some o->b≠S:=fun b o e hm=>by rw[hm,hS0]at e;cases e
 have setKept:∀ {s s':Shared} {ks:List (List Int)},aB2 prog w hp s.heap S ks->(∀ b o,b∉wr->s.heap.get? b=some o->s'.heap.get? b=some o)->aB2 prog w hp s'.heap S ks:=fun {s s' ks} hS hk=>by
  obtain⟨o,es,ep,t,ho,rest⟩:=hS
  exact⟨o,es,ep,t,hk S o hSw ho,rest⟩
 intro c
 induction c with
 | zero =>
  intro i s hk hi hst hup hS hR
  have hin:i=n:=by omega
  subst hin
  refine R0 PyProof.Rows.F.entry_set_update_loop ?_
  rw[Around.under_plainId PyProof.Rows.F.plain_set_update_loop _]
  show p8 _ A.in1 (aq0 (.ref I) >>= _) _ _ s
  refine b7 (W.done s _ _ hst fun s' hm=>?_)
  show p8 _ A.in1 (ret Value.none) _ _ s'
  refine d3 (hR s' (hm.mono hsub) ?_)
  have:=setKept hS hm.heap
  rw[k8 (by omega)]at this
  exact this
 | succ c ih =>
  intro i s hk hi hst hup hS hR
  have hlt:i<n:=by omega
  refine R0 PyProof.Rows.F.entry_set_update_loop ?_
  rw[Around.under_plainId PyProof.Rows.F.plain_set_update_loop _]
  show p8 _ A.in1 (aq0 (.ref I) >>= _) _ _ s
  refine b7 (W.item i s _ _ hlt hst fun v s' hP hst' hm=>?_)
  obtain⟨x,k,rfl,hki,hok,hx⟩:=hkey i v hP
  have hup':∀ b o,hp.get? b=some o->s'.heap.get? b=some o:=fun b o e=>hm.heap b o (nw b o e) (hup b o e)
  have hS':=setKept (s':=s') hS hm.heap
  show p8 _ A.in1 (aU5 [Value.ref x] (setAdd S (.ref x)) >>= _) _ _ s'
  refine b7 (D9 ?_)
  have hlen:((keys.take i).foldl aa9 []).length<300:=by
   have:=aC9 (keys.take i) []
   rw[q8]at this
   simp only[bd8]at this
   omega
  refine aW5 hup' hu hS' hx hok hlen fun b h' tk htk hsb hS2=>?_
  have hS3:aB2 prog w hp h' S ((keys.take (i+1)).foldl aa9 []):=by
   rw[A7,hki,List.foldl_append]
   exact hS2
  refine d3 ⟨ah5 PyProof.Rows.F.plain_set_update_loop _,ih (i+1) _ (by omega) hlt (W.frame _ s' _ _ hst' htk fun b hb o e=>?_) (fun b o e=>?_) hS3 fun s'' hm'' hS''=>?_⟩
  ·rw[hsb.2 b (fun h:b=S=>hSf (h ▸ hb))];exact e
  ·show h'.get? b=some o
   rw[hsb.2 b (nS b o e)]
   exact hup' b o e
  ·refine hR s'' (Moved.trans W.gtrans ((hm.mono hsub).then_heap htk fun b o hb e=>?_) hm'') hS''
   rw[hsb.2 b (fun h:b=S=>hb (h ▸ f9))];exact e
set_option maxRecDepth 100000 in
set_option maxHeartbeats 3200000 in
theorem aW4 {l:Addr}{items:Array Value}{keys:List (List Int)}(hh:A.handled=none)(hu:A.units+8<ae8)(hl:s.heap.IsList l items)(hn:keys.length=items.size)(hb:items.size<300)
  (hkey:∀ (i:Nat) (v:Value),items[i]?=some v->∃ x k,v=.ref x/\keys[i]?=some k/\aA2 k/\M3 (B0 prog w) s.heap k x)
  (h:∀ (h':Heap) (tk:Nat),aB2 prog w s.heap h' s.heap.objs.size (keys.foldl aa9 [])->(∀ b o,s.heap.get? b=some o->h'.get? b=some o)->Q (.ref s.heap.objs.size) { s with heap:=h',toks:=tk }) :
  p8 (t9 prog w) A (call (.type "set") [.ref l]) Q E s:=by
 obtain⟨c,tl,hmro⟩:=F.called_set.mro
 have hmade:=F.called_set.made
 have hsub:=F.called_set.sub
 refine bJ6 (codeAny_of_tree ?_)
 show p8 _ _ (callAny (.type "set") _) _ _ _
 refine d3 ⟨Code.quiet_builtin _ (by decide +kernel),R0 F.entry_type_call ?_⟩
 rw[Around.under_plain (weight_type_call_type "set" [.ref l] []) rfl]
 have h1:=F.called_set.notType
 have h2:=F.called_set.canCreate
 have hct:=F.typeCall_set_1 (.ref l)
 repeat (any_goals (first | assumption | wp_step))
 refine am7 (code_set_new_1 (.ref l) (E:=E) (Q₁:=fun obj s₁=>∃ led:Bool,obj=.ref s.heap.objs.size/\s₁={ s with heap:=s.heap.push { cls:=.type "set",dict:=none,data:=.set #[] 0 (.fresh 0 0 led) } }) fun led=>⟨led,rfl,rfl⟩) fun r s₁ hr=>?_
 cases r with
 | error e=>exact hr
 | ok fl =>
  cases fl with
  | ret obj =>
   obtain⟨led,rfl,rfl⟩:=hr
   have hS:(s.heap.push { cls:=.type "set",dict:=none,data:=.set #[] 0 (.fresh 0 0 led) }).get? s.heap.objs.size=some { cls:=.type "set",dict:=none,data:=.set #[] 0 (.fresh 0 0 led) }:=i6 _ rfl
   have hT:Shared.TypeIs { s with heap:=s.heap.push { cls:=.type "set",dict:=none,data:=.set #[] 0 (.fresh 0 0 led) } } (.ref s.heap.objs.size) "set":=⟨_,hS,rfl⟩
   have hli:=F.called_set.init.lookup
   have hbi:=F.called_set.init.bind (.ref s.heap.objs.size)
   repeat (any_goals (first | assumption | wp_step))
   refine am7 (codeAny_call_builtin (R:=wants (fun r s₂=>r=.none/\∃ h' tk,s₂={ s with heap:=h',toks:=tk }/\aB2 prog w s.heap h' s.heap.objs.size (keys.foldl aa9 [])/\(∀ b o,s.heap.get? b=some o->h'.get? b=some o)) E) F.called_set.init.plain F.entry_set_init (check_set_init_1 hT ?_)) fun r₂ s₂ hr₂=>?_
   ·obtain⟨ol,hol,hcl,nl,hdl⟩:=hl
    obtain⟨ocls,odict,odata,oslots⟩:=ol
    simp only at hcl hdl
    subst hcl;subst hdl
    have hol':(s.heap.push { cls:=.type "set",dict:=none,data:=.set #[] 0 (.fresh 0 0 led) }).get? l=some { cls:=.type "list",dict:=odict,data:=.seq items nl,slots:=oslots }:=c5 _ hol
    have hsls:=F.sub_list_set
    have hslf:=F.sub_list_frozenset
    have hne:(Value.type "list" == Value.type "dict")=false:=by decide
    have hl1:(s.heap.push { cls:=.type "set",dict:=none,data:=.set #[] 0 (.fresh 0 0 led) }).IsList l items:=⟨_,hol',rfl,nl,rfl⟩
    unfold Builtin.«set.__init__» noKeywords Builtin.Frozenset.updateFrom
    generalize hPI:pyIter=PI
    wp_walk
    subst hPI
    refine K6 hl1 ?_
    refine b7 (wpAny_runValue ?_)
    have hlS:l<s.heap.objs.size:=d5 hol
    have hh3:A.in1.in1.in1.handled=none:=by simp[hh]
    have hneI:l≠(s.heap.push { cls:=.type "set",dict:=none,data:=.set #[] 0 (.fresh 0 0 led) }).objs.size:=by
     rw[B9];exact k9 (B3 hlS)
    have hSf:s.heap.objs.size∉[(s.heap.push { cls:=.type "set",dict:=none,data:=.set #[] 0 (.fresh 0 0 led) }).objs.size,l]:=by
     rw[B9];simp only[d7,x8,C2,or_false,not_or]
     exact⟨k9 (ae6 _),M6 hlS⟩
    refine aV5 ((Walks.list hh3 _ l hneI items).toS) ?hu s.heap.objs.size hSf s.heap ?hn ?hw keys hn hb hkey (items.size - 0) 0 _ (by omega) (t8 _)
     ⟨⟨_,i6 _ rfl,rfl,rfl⟩,(hl1.push _)⟩ (fun b o e=>c5 _ (c5 _ e)) ?hS0 ?hR
    case hu=>show A.units+1+1+1<ae8;omega
    case hn=>exact az3 (c9 _)
    case hw =>
     intro b hb
     have e:b=(s.heap.push { cls:=.type "set",dict:=none,data:=.set #[] 0 (.fresh 0 0 led) }).objs.size:=by simpa using hb
     rw[e]
     exact az3 (by rw[B9];exact ab9 _)
    case hS0 =>
     have hget:((s.heap.push { cls:=.type "set",dict:=none,data:=.set #[] 0 (.fresh 0 0 led) }).push { cls:=.type "list_iterator",data:=.fields #[.ref l,.int 0 0] }).get? s.heap.objs.size
       = some { cls:=.type "set",dict:=none,data:=.set #[] 0 (.fresh 0 0 led) }:=c5 _ hS
     refine⟨_,_,_,_,hget,⟨rfl,rfl,rfl⟩,rfl,⟨rfl,rfl,?_,?_,.inl rfl,by show 0*5<7*3;decide,?_⟩,rfl,ak4,(fun _ h=>nomatch h),(fun _ h=>nomatch h),(fun _ h=>nomatch h)⟩
     ·intro i j a b hij ea
      simp[SetTable.fresh]at ea
     ·intro i j ea
      simp[SetTable.fresh]at ea
     ·intro i e ea
      simp at ea
    case hR =>
     intro s' hm hS'
     obtain⟨h',g',d',tk',os'⟩:=s'
     have eg:g'=s.gens:=hm.gens
     have ed:d'=s.drawn:=hm.drawn
     have eo:os'=s.os:=hm.os
     subst eg;subst ed;subst eo
     show p8 _ _ _ _ _ _
     refine d3 ?_
     show p8 _ _ (ret Value.none) _ _ _
     refine d3 ⟨rfl,h',tk',rfl,hS',fun b o e=>?_⟩
     have hlt:=d5 e
     have hb1:b≠s.heap.objs.size:=k9 hlt
     have hb2:b≠(s.heap.push { cls:=.type "set",dict:=none,data:=.set #[] 0 (.fresh 0 0 led) }).objs.size:=by
      rw[B9];exact k9 (B3 hlt)
     exact hm.heap b o (by simp only[d7,x8,C2,or_false,not_or];exact⟨hb1,hb2⟩) (c5 _ (c5 _ e))
   ·cases r₂ with
    | error e=>exact hr₂
    | ok fl₂ =>
     cases fl₂ with
     | ret r =>
      obtain⟨rfl,h',tk,rfl,hS',hk'⟩:=hr₂
      repeat (any_goals (first | assumption | wp_step))
      exact h _ _ hS' hk'
     | _=>exact hr₂.elim
  | _=>exact hr.elim
theorem bh2 {S:Addr}{hp:Heap}(hS:aB2 prog w hp s.heap S ks)(hn:ks.length<300)(h:∀ t tk,Q (.int ks.length t) { s with toks:=tk }) :
  p8 (t9 prog w) A (call (.builtin "len") [.ref S]) Q E s:=by
 obtain⟨o,es,ep,t,ho,hex,hd,T,hsz,_⟩:=hS
 refine call_len_set ho hex hd T.fits (by omega) ?_
 rw[hsz]
 exact h _ _
end Sett
namespace L2
open PySem PySem.Spec PyProof.Rows
def A4 (K:W.Frag)(H:Hp)(ys:List V)(ks:List (List Int)):Prop:=ae7 (fun y k=>∃ a,y=V.ref a/\SqT K H a (k.map V.int)) ys ks
theorem A4.len {K:W.Frag}(t:A4 K H ys ks):ys.length=ks.length:=Paired.length t
theorem A4.get {K:W.Frag}:∀ {ys:List V} {ks:List (List Int)} {i:Nat} {y:V},A4 K H ys ks->ys[i]?=some y->∃ a k,y=V.ref a/\ks[i]?=some k/\SqT K H a (k.map V.int)
 | _,_,_,_,.nil,e=>by simp at e
 | _,_,0,_,.cons r _,e=>by
  simp at e
  subst e
  obtain⟨a,h1,h2⟩:=r
  exact⟨a,_,h1,rfl,h2⟩
 | _,_,i+1,y,.cons _ t,e=>by
  obtain⟨a,k,h1,h2,h3⟩:=A4.get (i:=i) (y:=y) t (by simpa using e)
  exact⟨a,k,h1,by simpa using h2,h3⟩
theorem A4.same {K:W.Frag}(hs:∀ b o,H b=some o->H' b=some o):∀ {ys:List V} {ks:List (List Int)},A4 K H ys ks->A4 K H' ys ks
 | _,_,.nil=>.nil
 | _,_,.cons r t=>by
  obtain⟨a,h1,h2⟩:=r
  refine .cons ⟨a,h1,?_⟩ (A4.same hs t)
  rcases h2 with(h | ⟨o,h⟩) | h
  ·exact .inl (.inl (hs _ _ h))
  ·exact .inl (.inr ⟨o,hs _ _ h⟩)
  ·exact .inr h
theorem A4.append {K:W.Frag}:∀ {ys zs:List V} {ks ls:List (List Int)},A4 K H ys ks->A4 K H zs ls->A4 K H (ys++zs) (ks++ls)
 | _,_,_,_,.nil,s=>s
 | _,_,_,_,.cons r t,s=>.cons r (A4.append t s)
theorem bb2:∀ {k:List Int} {its:List Value},C8 (k.map V.int) its->ItemsAre (B0 prog w) k its
 | [],_,.nil=>.nil
 | i::k,_,.cons r t=>by
  obtain⟨tk,rfl⟩:=r
  exact .cons (by simp[B0,Value.isInt]) (bb2 t)
theorem bM4 (I:Inv X pins σ H s)(h:SqT X.K H a (k.map V.int)):M3 (B0 X.prog X.w) s.heap k a:=by
 obtain⟨its,r,⟨o,ho,hc,n,hd⟩,_⟩:=I.tuple h
 exact⟨o,its.toArray,n,ho,hc,hd,by simpa using bb2 r⟩
theorem af6 (I:Inv X pins σ H s):∀ {ys:List V} {ks:List (List Int)} {us:List Value},A4 X.K H ys ks->C8 ys us->ae7 (fun u k=>∃ a,u=Value.ref a/\M3 (B0 X.prog X.w) s.heap k a) us ks
 | _,_,_,.nil,.nil=>.nil
 | _,_,_,.cons r t,.cons q v=>by
  obtain⟨a,rfl,h⟩:=r
  cases q
  exact .cons ⟨a,rfl,bM4 I h⟩ (af6 I t v)
theorem ac4 {α β:Type}{R:α->β->Prop}:∀ {l:List α} {m:List β} {i:Nat} {x:α},ae7 R l m->l[i]?=some x->∃ y,m[i]?=some y/\R x y
 | _,_,_,_,.nil,e=>by simp at e
 | _,_,0,_,.cons r _,e=>by simp at e;subst e;exact⟨_,rfl,r⟩
 | _,_,i+1,x,.cons _ t,e=>by
  obtain⟨y,h1,h2⟩:=ac4 (i:=i) (x:=x) t (by simpa using e)
  exact⟨y,by simpa using h1,h2⟩
theorem az8 {α β:Type}{R:α->β->Prop}{l l':List α}(p:l'.Perm l):∀ {m:List β},ae7 R l m->∃ m',m'.Perm m/\ae7 R l' m':=by
 induction p with
 | nil=>intro m h;exact⟨m,List.Perm.refl _,h⟩
 | cons x _ ih =>
  intro m h
  cases h with
  | cons r t =>
   obtain⟨m',p',h'⟩:=ih t
   exact⟨_::m',p'.cons _,.cons r h'⟩
 | swap x y l =>
  intro m h
  cases h with
  | cons r t =>
   cases t with
   | cons r' t'=>exact⟨_::_::_,List.Perm.swap _ _ _,.cons r' (.cons r t')⟩
 | trans _ _ ih1 ih2 =>
  intro m h
  obtain⟨m1,p1,h1⟩:=ih2 h
  obtain⟨m2,p2,h2⟩:=ih1 h1
  exact⟨m2,p2.trans p1,h2⟩
theorem al9 {α β:Type}{R:α->β->Prop}:∀ {l:List α} {m:List β},ae7 R l m->ae7 (fun b a=>R a b) m l
 | _,_,.nil=>.nil
 | _,_,.cons r t=>.cons r (al9 t)
theorem aF5 {α β:Type}{R S:α->β->Prop}(f:∀ a b,R a b->S a b):∀ {l:List α} {m:List β},ae7 R l m->ae7 S l m
 | _,_,.nil=>.nil
 | _,_,.cons r t=>.cons (f _ _ r) (aF5 f t)
theorem aA1:S4 X (.builtin "sorted") (fun xs H Q=>∃ p ys ks,xs=[.ref p]/\SqL X.K H p ys/\A4 X.K H ys ks/\(∀ k∈ks,k≠[]) /\
  ∀ l zs ks',H l=none->ks'.Perm ks->ks'.Pairwise (fun a b=>Tim.K4 b a=false)->A4 X.K (upd H l (.lst zs)) zs ks'->Q (.ref l) (upd H l (.lst zs))):=by
 intro pins s σ H xs us Q I r h
 obtain⟨p,ys,ks,rfl,hq,ht,hne,q⟩:=h
 obtain⟨u,rfl,rx⟩:=vals1 r
 cases rx
 obtain⟨its,r',pl,hz⟩:=I.list hq
 have hlen:=r'.length
 have hk:=af6 I ht r'
 have hv:∀ v∈its,∃ i k,Tim.IsK X.prog X.w s.heap (i::k) v:=fun v hv=>by
  obtain⟨j,hj⟩:=o6.mp hv
  obtain⟨k,h1,a,rfl,h2⟩:=ac4 hk hj
  cases k with
  | nil=>exact absurd rfl (hne [] (d8 h1))
  | cons i k=>exact⟨i,k,a,rfl,h2⟩
 refine Tim.aK3 pl.isList (by omega) hv fun out h' n hp hs kp e=>?_
 obtain⟨zs,pz,rz⟩:=az8 hp (al9 r')
 have rz':C8 zs out:=al9 rz
 have hzl:zs.length<=j7:=by rw[pz.length_eq];exact hz
 have hfr:H (s.heap.objs.size+1)=none:=I.hok.fresh (ab9 _)
 have keepS:∀ b o,H b=some o->upd H (s.heap.objs.size+1) (.lst zs) b=some o:=fun b o e=>by rw[t4 (r6 e hfr)];exact e
 refine⟨.ref (s.heap.objs.size+1),upd H (s.heap.objs.size+1) (.lst zs),I.laid (t':=s.toks) kp (ab9 _) (show G7 X.prog X.w _ h' _ (.lst zs) from ⟨hzl,out,n,rz',e⟩),rfl,?_⟩
 obtain⟨ks',pk,hk'⟩:=az8 pz (show ae7 (fun y k=>∃ a,y=V.ref a/\SqT X.K H a (k.map V.int)) ys ks from ht)
 refine q _ zs ks' hfr pk ?_ (A4.same keepS hk')
 have hko:=af6 I (show A4 X.K H zs ks' from hk') rz'
 have eq:ks'=out.map (Tim.X5 X.prog X.w s.heap):=by
  clear hs hp rz rz' hk' pk e
  induction hko with
  | nil=>rfl
  | cons r t ih =>
   obtain⟨a,rfl,hka⟩:=r
   rw[m8,Tim.W3 ⟨a,rfl,hka⟩,<- ih]
 rw[eq,M9]
 exact hs
def bi8 (P:Program)(w:World)(S:Addr)(n:Nat):HO:=.ext fun h=>∃ hk ks,ks.length=n/\n<300/\Sett.aB2 P w hk h S ks
theorem bc8 (hc:X.calm=true)(hu:X.A.units+8<ae8):S4 X (.type "set") (fun xs H Q=>∃ p ys ks,xs=[.ref p]/\SqL X.K H p ys/\A4 X.K H ys ks/\(∀ k∈ks,Sett.aA2 k)/\ks.length<300 /\
  ∀ S,H S=none->Q (.ref S) (upd H S (bi8 X.prog X.w S (ks.foldl Sett.aa9 []).length))):=by
 intro pins s σ H xs us Q I r h
 obtain⟨p,ys,ks,rfl,hq,ht,hok,hb,q⟩:=h
 obtain⟨u,rfl,rx⟩:=vals1 r
 cases rx
 obtain⟨its,r',pl,hz⟩:=I.list hq
 have hlen:=r'.length
 have hk:=af6 I ht r'
 have hkl:=ht.len
 refine Sett.aW4 (keys:=ks) (I.ok.hd hc) hu pl.isList (by simp;omega) (by simp;omega) (fun i v hv=>?_) fun h' tk hS kp=>?_
 ·obtain⟨k,h1,a,rfl,h2⟩:=ac4 hk (by simpa using hv)
  exact⟨a,k,rfl,h1,hok k (d8 h1),h2⟩
 ·have hle:=Sett.aC9 ks []
  simp only[bd8]at hle
  refine⟨.ref s.heap.objs.size,_,I.laid (o:=bi8 X.prog X.w s.heap.objs.size (ks.foldl Sett.aa9 []).length) (t':=tk) kp (c9 _) ?_,rfl,q _ (I.hok.fresh (c9 _))⟩
  refine⟨⟨s.heap,ks.foldl Sett.aa9 [],rfl,by omega,hS⟩,?_,fun h1 h2 ⟨hk1,ks1,e1,e2,hS1⟩ hkeep=>⟨hk1,ks1,e1,e2,?_⟩⟩
  ·obtain⟨o,_,_,_,ho,_⟩:=hS
   exact⟨o,ho⟩
  ·obtain⟨o,es,ep,t,ho,rest⟩:=hS1
   exact⟨o,es,ep,t,hkeep o ho,rest⟩
theorem call_len_set:S4 X (.builtin "len") (fun xs H Q=>∃ S n,xs=[.ref S]/\H S=some (bi8 X.prog X.w S n)/\Q (.int n) H):=by
 intro pins s σ H xs us Q I r h
 obtain⟨S,n,rfl,hS,q⟩:=h
 obtain⟨u,rfl,rx⟩:=vals1 r
 cases rx
 obtain⟨⟨hk,ks,e1,e2,hS1⟩,_⟩:=I.hok S _ hS
 refine Sett.bh2 hS1 (by omega) fun t tk=>?_
 exact⟨.int n,H,I.tok _,⟨t,by rw[e1]⟩,q⟩
def F7 (X:Cx)(scope:Scope)(cl:List (Str × Addr))(N':List Str)(s₃:Shared)(H₃:Hp)(fp:List Addr)(xe':Value->Shared->Prop):Cx:=
 { X with N:=N',s₀:=s₃,H₀:=H₃,env:=V7 scope cl s₃.heap.objs.size X.env,outer:=X.stack,ex:=fp,fn:=fun _=>false,pn:=[],xe:=xe' }
def aI9 (env:Env):List (Str × Addr)->Prop
 | []=>True
 | (x,c)::r=>env.cells.lookup x=some c/\aI9 env r
theorem aI9.get {env:Env}:∀ {cl:List (Str × Addr)} {x:Str} {c:Addr},aI9 env cl->cl.lookup x=some c->env.cells.lookup x=some c
 | [],_,_,_,h=>by cases h
 | (y,d)::r,x,c,⟨h1,h2⟩,h=>by
  rw[ci9]at h
  cases e:x == y with
  | true =>
   rw[e]at h
   cases h
   rw[eq_of_beq e]
   exact h1
  | false =>
   rw[e]at h
   exact aI9.get h2 h
def av3 (names:List (Str × aO9))(cl:List (Str × Addr)):Bool:=names.all fun y=>y.2 != .cell && (y.2 != .free || (cl.lookup y.1).isSome)
theorem ac6 {env:Env}:∀ {names:List (Str × aO9)} {x:Str} {k:aO9},(names.map fun(n,k)=>if (k == NameKind.free && env.scope.kind == .function && env.kindOf n == some .cell) then (n,NameKind.cell) else (n,k)).lookup x=some k ->
  ∃ k',(x,k')∈names/\(k'=k\/(k'=.free/\k=.cell))
 | [],_,_,h=>by cases h
 | (n,k0)::r,x,k,h=>by
  rw[m8]at h
  have hn:∀ k1,(E2 x ((n,k1)::r.map fun(n,k)=>if (k == NameKind.free && env.scope.kind == .function && env.kindOf n == some .cell) then (n,NameKind.cell) else (n,k)))=some k->(x=n/\k1=k)\/∃ k',(x,k')∈r/\(k'=k\/(k'=.free/\k=.cell)):=fun k1 h=>by
   rw[ci9]at h
   cases e:x == n with
   | true=>rw[e]at h;cases h;exact .inl ⟨eq_of_beq e,rfl⟩
   | false=>rw[e]at h;exact .inr (ac6 h)
  dsimp only at h
  by_cases hc:(k0 == NameKind.free && env.scope.kind == .function && env.kindOf n == some .cell)=true
  ·rw[if_pos hc]at h
   rcases hn _ h with⟨rfl,rfl⟩ | ⟨k',h1,h2⟩
   ·simp only[C9]at hc
    have e0:k0=.free:=eq_of_beq hc.1.1
    exact⟨k0,f9,.inr ⟨e0,rfl⟩⟩
   ·exact⟨k',d6 _ h1,h2⟩
  ·rw[if_neg hc]at h
   rcases hn _ h with⟨rfl,rfl⟩ | ⟨k',h1,h2⟩
   ·exact⟨k0,f9,.inl rfl⟩
   ·exact⟨k',d6 _ h1,h2⟩
def ai5 (lk:List (Option Nat))(σ:St):St:=lk.map fun o=>o.bind fun j=>(σ[j]?).join
def bI9 (X:Cx)(N':List Str)(lk:List (Option Nat))(scope:Scope)(cl:List (Str × Addr)):Prop:=
 lk.length=N'.length/\∀ (i j:Nat) (x:Str),N'[i]?=some x->lk[i]?=some (some j)->X.N[j]?=some x/\(X.env.scope.names.lookup x=some .cell\/X.env.scope.names.lookup x=some .free)/\(cl.lookup x).isSome=true /\
  ((V7 scope cl 0 X.env).kindOf x=some .cell\/(V7 scope cl 0 X.env).kindOf x=some .free)
theorem aH5 {H3:Hp}{s3:Shared}{h1:Heap}{tk:Nat}{xe':Value->Shared->Prop}{m0:Str->Option Value}
  (I:Inv X pins σ H3 s3)(hf:∀ b∈fp,R1 X pins H3 b)(hkind:scope.kind=.function)(hcl:aI9 X.env cl)(hfr:av3 scope.names cl=true)(hlk:bI9 X N' lk scope cl)
  (hn:h1.Ns s3.heap.objs.size m0)(hk:∀ b u,s3.heap.get? b=some u->h1.get? b=some u)(hfs:∀ b∈fp,b<s3.heap.objs.size):Inv (F7 X scope cl N' s3 H3 fp xe') [] (ai5 lk σ) H3 { s3 with heap:=h1,toks:=tk }:=by
 have hC:H3 s3.heap.objs.size=none:=I.hok.fresh (c9 _)
 have hmem:∀ y∈scope.names,y.2≠.cell/\(y.2=.free->(cl.lookup y.1).isSome=true):=fun y hy=>by
  unfold av3 at hfr
  rw[G8]at hfr
  have:=hfr y hy
  rw[C9]at this
  refine⟨by simpa using this.1,fun e=>?_⟩
  have h2:=this.2
  rw[e]at h2
  simpa using h2
 have hcell:∀ x c,cl.lookup x=some c->X.env.cells.lookup x=some c:=fun x c e=>hcl.get e
 have clt:∀ x c,cl.lookup x=some c->c<s3.heap.objs.size:=fun x c e=>by
  obtain⟨v,q⟩:=I.cell x c (hcell x c e)
  exact q.lt
 refine⟨⟨I.ok.mod,hkind,I.ok.glob,I.ok.blt,c9 _,fun x y c e1 e2=>I.ok.inj x y c (hcell x c e1) (hcell y c e2),fun x hx=>?_,(fun x c e=>by cases e),I.ok.hd,I.ok.frames,.inl rfl,fun b hb=>?_,fun b o e=>I.bs b o e,x9 I.ok.bsz I.sz,fun b o e hb=>?_,fun b hb z=>?_,I.stack,I.stkFree⟩,
  rfl,I.bare,Un.kept hk,⟨m0,hn,fun i x v e1 e2 e3=>?_⟩,fun x c e=>?_,hC,fun x c e=>?_,(fun p hp=>nomatch hp),I.hok.kept hk,?_⟩
 ·have hx':(relabel scope X.env).names.lookup x=some .cell\/(relabel scope X.env).names.lookup x=some .free:=hx
  have:∃ k',(x,k')∈scope.names/\k'=.free:=by
   rcases hx' with h | h
   ·obtain⟨k',h1,h2⟩:=ac6 h
    rcases h2 with h2 | h2
    ·exact absurd h2 (hmem _ h1).1
    ·exact⟨k',h1,h2.1⟩
   ·obtain⟨k',h1,h2⟩:=ac6 h
    rcases h2 with h2 | h2
    ·exact⟨k',h1,h2⟩
    ·exact⟨k',h1,h2.1⟩
  obtain⟨k',h1,h2⟩:=this
  exact o9.mp ((hmem _ h1).2 h2)
 ·obtain⟨f0,f1,f2,f3,f4,f5⟩:=hf b hb
  exact⟨k9 (hfs b hb),fun x c e=>f4 x c (hcell x c e)⟩
 ·obtain⟨f0,f1,f2,f3,f4,f5⟩:=hf b hb
  rcases f3 with f3 | f3
  ·exact I.ok.noex b o e f3
  ·exact absurd (p9 (d5 e) (x9 I.ok.bsz f3)) (B2 _)
 ·obtain⟨f0,f1,f2,f3,f4,f5⟩:=hf b hb
  rcases d7.mp (I.stkSub b z) with e | e
  ·exact f1 e
  ·exact f2 e
 ·-- a captured name
  have e2':(ai5 lk σ)[i]?=some (some v):=e2
  unfold ai5 at e2'
  rw[o5]at e2'
  cases hq:lk[i]? with
  | none=>rw[hq]at e2';cases e2'
  | some o =>
   rw[hq]at e2'
   have e2'':(o.bind fun j=>(σ[j]?).join)=some v:=Option.some.inj e2'
   cases o with
   | none=>cases e2''
   | some j =>
    obtain⟨q1,q2,q3,q4⟩:=hlk.2 i j x e1 hq
    have hσ:σ[j]?=some (some v):=by
     have z:(σ[j]?).join=some v:=e2''
     cases hh:σ[j]? with
     | none=>rw[hh]at z;cases z
     | some o=>rw[hh]at z;rw[show o=some v from z]
    obtain⟨m,hnX,hl⟩:=I.loc
    obtain⟨u,r,lo⟩:=hl j x v q1 hσ (q2.elim (fun a=>.inr (.inl a)) (fun a=>.inr (.inr a)))
    refine⟨u,r,.inr ?_⟩
    obtain⟨c,hc⟩:=o9.mp q3
    refine⟨q4,c,hc,?_⟩
    have hcX:=hcell x c hc
    rcases lo with⟨k,_⟩ | ⟨_,c',hc',z⟩
    ·have k':X.env.scope.names.lookup x=some .local:=k
     rw[k']at q2
     rcases q2 with q2 | q2<;>cases q2
    ·rw[hcX]at hc'
     cases hc'
     obtain⟨o,ho,hd⟩:=z
     exact⟨o,hk c o ho,hd⟩
 ·obtain⟨v,o,ho,hd⟩:=I.cell x c (hcell x c e)
  exact⟨v,o,hk c o ho,hd⟩
 ·exact I.freeC x c (hcell x c e)
 ·show (ai5 lk σ).length=N'.length
  unfold ai5
  rw[b8]
  exact hlk.1
def PTs (X:Cx)(ifs:List Expr)(t:TT):Prop:=
 ∀ (pins:List (Addr × Obj)) (s:Shared) (σ:St) (H:Hp) (Q:Bool->Hp->Prop),Inv X pins σ H s->t σ H Q->p8 (t9 X.prog X.w) X.A (forIn ifs true fun c r=>if r=true then do let ok <- isTrue c X.env (eval c X.env);pure (ForInStep.yield ok) else pure (ForInStep.yield r)) (TP X pins σ Q) X.xe s
def bV2:TT:=fun _ H Q=>Q true H
theorem P4:PTs X [] bV2:=fun pins s σ H Q I h=>wpAny_tests_nil ⟨H,I,h⟩
theorem ah9 {c:Expr}{t:TT}(h:PT X c t):PTs X [c] t:=fun pins s σ H Q I q=>wpAny_tests_one (h pins s σ H Q I q)
def bx3 (wi:TI)(lk:List (Option Nat))(g:TG)(tt:TT)(te:TE):TE:=fun σ H Q=>wi σ H fun J H1=>∀ D,H1 D=none->∃ W:Nat->Nat->List V->St->Hp->Prop,(∃ m,W 0 m [] (ai5 lk σ) (upd H1 D (.lst [])))/\∀ i m xs σ' H',W i m xs σ' H' ->
 H' D=some (.lst xs)/\((J.stop i H'/\Q (.ref D) H')\/(J.go i H'/\xs.length<j7/\∀ x H'',J.yld i H' x H''->g x σ' H'' fun σ2 H2=>tt σ2 H2 fun b H3 =>
  if b=true then te σ2 H3 fun v H4=>H4 D=some (.lst xs)/\∃ m',m'<m/\W (i+1) m' (xs++[v]) σ2 (upd H4 D (.lst (xs++[v]))) else ∃ m',m'<m/\W (i+1) m' xs σ2 H3))
theorem L0 {elt iter:Expr}{ifs:List Expr}{wi:TI}{g:TG}{tt:TT}(hc:X.calm=true)(hi:PI X tg iter wi)(hclos:aU7 scope X.env=pure cl)(hkind:scope.kind=.function)
  (hnames:∀ y∈scope.names,y.2=.local->scope.names.lookup y.1=some .local)(hcl:aI9 X.env cl)(hfr:av3 scope.names cl=true)(hlk:bI9 X N' lk scope cl)
  (hg:∀ s3 H3 fp,PG (F7 X scope cl N' s3 H3 fp fun _ _=>False) tg g)(ht:∀ s3 H3 fp,PTs (F7 X scope cl N' s3 H3 fp fun _ _=>False) ifs tt)(he:∀ s3 H3 fp,PE (F7 X scope cl N' s3 H3 fp fun _ _=>False) elt te)
  (hs:∀ x,aq1 iter X.env x=pure x:=by intro _;rfl):PE X (.ListComp elt [⟨tg,iter,ifs,0⟩] scope pos) (bx3 wi lk g tt te):=by
 intro pins s σ H Q I h
 rw[eval_ListComp]
 have hcellN:∀ y∈scope.names,y.2≠.cell:=fun y hy=>by
  unfold av3 at hfr
  rw[G8]at hfr
  have:=hfr y hy
  rw[C9]at this
  simpa using this.1
 refine bJ9 (use:=none) rfl hs hclos hkind hnames (thn (hi pins s σ H _ I h) fun v s1 h1=>thn h1 fun itv s2 h2=>?_)
 obtain⟨it,fp,tn,J,H2,e,I2,T,st2,f2,q⟩:=h2
 subst e
 refine V5 ?_ (t8 _)
 have hD:H2 s2.heap.objs.size=none:=I2.hok.fresh (c9 _)
 have I3:=I2.lnew (ys:=[]) (its:=[]) (t':=s2.toks) .nil (t8 _)
 obtain⟨W,⟨m0,w0⟩,turn⟩:=q s2.heap.objs.size hD
 have fpl:∀ b∈fp,b<s2.heap.objs.size:=fun b hb=>by
  obtain⟨o,ho,_⟩:=T.obj 0 s2.heap st2 b hb
  exact d5 ho
 refine ah0 hcellN (by intro y hy;cases hy) (fun h1 hns1 hsb1=>?_) hkind
 dsimp only at hns1 hsb1 ⊢
 have e3:s2.heap.push { cls:=.type "list",dict:=none,data:=.seq ([]:List Value).toArray }=s2.heap.push { cls:=.type "list",data:=.seq ([]:List Value).toArray }:=rfl
 generalize hh3:s2.heap.push { cls:=.type "list",dict:=none,data:=.seq ([]:List Value).toArray }=h3 at *
 have I3':Inv X pins σ (upd H2 s2.heap.objs.size (.lst [])) { s2 with heap:=h3,toks:=s2.toks }:=I3
 have size3:h3.objs.size=s2.heap.objs.size+1:=by rw[<- hh3,B9]
 have f3:∀ b∈fp,R1 X pins (upd H2 s2.heap.objs.size (.lst [])) b:=fun b hb=>by
  obtain⟨f0,fr⟩:=f2 b hb
  exact⟨by rw[t4 (k9 (fpl b hb))];exact f0,fr⟩
 have up:∀ b u,h3.get? b=some u->h1.get? b=some u:=fun b u eb=>by
  rw[hsb1.2 b (k9 (d5 eb))]
  exact c5 _ eb
 have I4:Inv (F7 X scope cl N' { s2 with heap:=h3,toks:=s2.toks } (upd H2 s2.heap.objs.size (.lst [])) fp fun _ _=>False) [] (ai5 lk σ) (upd H2 s2.heap.objs.size (.lst [])) { s2 with heap:=h1,toks:=s2.toks+([]:List (Str × Value)).length }:=
  aH5 (s3:={ s2 with heap:=h3,toks:=s2.toks }) I3' f3 hkind hcl hfr hlk hns1 up fun b hb=>by show b<h3.objs.size;rw[size3];exact B3 (fpl b hb)
 have st4:tn 0 h1:=T.keep 0 s2.heap h1 st2 fun b hb o eb=>up b o (by rw[<- hh3];exact c5 _ eb)
 have hCs:h3.objs.size=(V7 scope cl h3.objs.size X.env).locals:=rfl
 have stat:∀ {H':Hp},(∀ b∈fp,H' b=none)->∀ b∈fp,R1 (F7 X scope cl N' { s2 with heap:=h3,toks:=s2.toks } (upd H2 s2.heap.objs.size (.lst [])) fp fun _ _=>False) [] H' b:=fun {H'} hn b hb=>by
  obtain⟨f0,f1,f2',f3',f4,f5⟩:=f3 b hb
  refine⟨hn b hb,?_,fun z=>?_,.inl hb,fun x c ex=>f4 x c (hcl.get ex),fun p hp=>nomatch hp⟩
  ·show b≠h3.objs.size
   rw[size3]
   exact k9 (B3 (fpl b hb))
  ·rcases d7.mp (I3'.stkSub b z) with q | q
   ·exact f1 q
   ·exact f2' q
 have fin:∀ (s':Shared) (σ':St) (H':Hp),Inv (F7 X scope cl N' { s2 with heap:=h3,toks:=s2.toks } (upd H2 s2.heap.objs.size (.lst [])) fp fun _ _=>False) [] σ' H' s'->Q (.ref s2.heap.objs.size) H' ->
   bL2 (t9 X.prog X.w) X.A X.xe none (EP X pins σ Q) (.ref s2.heap.objs.size) h3.objs.size (.ok .next) s':=fun s' σ' H' I' q'=>by
  obtain⟨m,hm,_⟩:=id I'.loc
  have I5:Inv X pins σ H' s':=I3'.call' (ch:=fp) I'.os I'.base I'.hok I'.bare fun b hb=>by
   obtain⟨f0,f1,f2',f3',f4,f5⟩:=f3 b hb
   exact⟨f3',f1,f4,f5⟩
  refine⟨m,hm,fun h' hsb=>?_⟩
  refine⟨.ref s2.heap.objs.size,H',?_,rfl,q'⟩
  have hfc:H' h3.objs.size=none:=I'.free
  have hcl1:∀ b o,h3.get? b=some o->b≠h3.objs.size:=fun b o eb=>k9 (d5 eb)
  obtain⟨h0',g0,d0,t0,o0⟩:=s'
  refine I5.turned (t':=t0) (it:=h3.objs.size) (fun b o hb eb=>(hsb.2 b hb).trans eb) hfc ?_ (.inr I3'.sz) (fun x c ex z=>?_) (fun p hp z=>?_)
  ·exact M6 I3'.lt
  ·obtain⟨v',q2⟩:=I3'.cell x c ex
   exact absurd q2.lt (by rw[z];exact B2 _)
  ·exact absurd (d5 (I3'.pin p hp).1) (by rw[z];exact B2 _)
 have loop:∀ s5:Shared,s5={ s2 with heap:=h1,toks:=s2.toks+([]:List (Str × Value)).length } ->
   ar8 (t9 X.prog X.w) X.A (.compLoop (.ListComp elt [⟨tg,iter,ifs,0⟩] scope pos) 0 (.ref it) (.ref s2.heap.objs.size) (V7 scope cl h3.objs.size X.env)) (bL2 (t9 X.prog X.w) X.A X.xe none (EP X pins σ Q) (.ref s2.heap.objs.size) h3.objs.size) s5:=by
  rintro s5 rfl
  refine codeAny_loop rfl (fun n s'=>∃ i xs σ' H',Inv (F7 X scope cl N' { s2 with heap:=h3,toks:=s2.toks } (upd H2 s2.heap.objs.size (.lst [])) fp fun _ _=>False) [] σ' H' s'/\tn i s'.heap/\(∀ b∈fp,H' b=none)/\W i n xs σ' H')
   (fun n s6 hI=>?_) m0 ⟨0,[],ai5 lk σ,_,I4,st4,fun b hb=>(f3 b hb).1,w0⟩
  obtain⟨i,xs,σ6,H6,I6,st6,fr6,w6⟩:=hI
  show p8 _ X.A ((compTurn (.ListComp elt [⟨tg,iter,ifs,0⟩] scope pos) 0 (.ref it) (.ref s2.heap.objs.size) (V7 scope cl h3.objs.size X.env)).onRaise (fun x=>do noteFrame x (V7 scope cl h3.objs.size X.env);theTreesLotGoes x)) _ _ s6
  refine wpAny_noted ?_
  rw[compTurn_list]
  refine b7 (ar7 (b7 ?_))
  obtain⟨hD6,hw⟩:=turn i n xs σ6 H6 w6
  rcases hw with⟨stop,qn⟩ | ⟨go,hlen,step⟩
  ·refine thn (T.done (F7 X scope cl N' { s2 with heap:=h3,toks:=s2.toks } (upd H2 s2.heap.objs.size (.lst [])) fp fun _ _=>False) rfl rfl rfl hc i [] s6 σ6 H6 _ I6 (stat fr6) st6 stop) fun r s7 ⟨hr,I7⟩=>?_
   subst hr
   exact d3 (fin s7 σ6 H6 I7 qn)
  ·refine thn (T.item (F7 X scope cl N' { s2 with heap:=h3,toks:=s2.toks } (upd H2 s2.heap.objs.size (.lst [])) fp fun _ _=>False) rfl rfl rfl hc i [] s6 σ6 H6 _ I6 (stat fr6) st6 go) fun r s7 ⟨u,hr,h7⟩=>?_
   subst hr
   refine b7 (thn h7 fun _ s8 ⟨x,H8,I8,r8,y8,st8,fr8⟩=>?_)
   have I8':=I8.pinned (stat fr8) (T.obj _ _ st8)
   refine b7 (E3 (hg _ _ _ _ s8 σ6 H8 x u _ I8' r8 (step x H8 y8)) (fun _ s9 ⟨σ9,H9,I9,q9⟩=>?_) (fun _ _ z=>False.elim z))
   refine b7 (E3 (ht _ _ _ _ s9 σ9 H9 _ I9 q9) (fun ok s10 ⟨H10,I10,q10⟩=>?_) (fun _ _ z=>False.elim z))
   have bY1:∀ {σ':St} {H':Hp} {ys:List V} {s':Shared},Inv (F7 X scope cl N' { s2 with heap:=h3,toks:=s2.toks } (upd H2 s2.heap.objs.size (.lst [])) fp fun _ _=>False) ([]++aq9 fp s8.heap) σ' H' s'->(∃ m',m'<n/\W (i+1) m' ys σ' H') ->
     ∃ m',m'<n/\∃ i xs σ' H',Inv (F7 X scope cl N' { s2 with heap:=h3,toks:=s2.toks } (upd H2 s2.heap.objs.size (.lst [])) fp fun _ _=>False) [] σ' H' s'/\tn i s'.heap/\(∀ b∈fp,H' b=none)/\W i m' xs σ' H':=fun {σ' H' ys s'} I' ⟨m',hm,w'⟩=>by
    refine⟨m',hm,i+1,ys,σ',H',I'.unpinned,T.keep _ _ _ st8 fun b hb o eb=>(I'.pin (b,o) (m9 _ (m9 _ (U4 hb eb)))).1,fun b hb=>?_,w'⟩
    obtain⟨o,eb,_⟩:=T.obj _ _ st8 b hb
    exact(I'.pin (b,o) (m9 _ (m9 _ (U4 hb eb)))).2.1
   cases ok with
   | false =>
    have q10':∃ m',m'<n/\W (i+1) m' xs σ9 H10:=by simpa using q10
    exact d3 ⟨rfl,bY1 I10 q10'⟩
   | true =>
    rw[if_pos rfl]at q10
    refine b7 (b7 (E3 (he _ _ _ _ s10 σ9 H10 _ I10 q10) (fun y s11 ⟨v11,H11,I11,r11,hD11,q11⟩=>?_) (fun _ _ z=>False.elim z)))
    refine b7 (E3 (ab7 (X:=F7 X scope cl N' { s2 with heap:=h3,toks:=s2.toks } (upd H2 s2.heap.objs.size (.lst [])) fp fun _ _=>False) _ s11 σ9 H11 (.ref s2.heap.objs.size) [v11] (.ref s2.heap.objs.size) [y] (fun _ H'=>∃ m',m'<n/\W (i+1) m' (xs++[v11]) σ9 H') I11 rfl (.cons r11 .nil) ⟨s2.heap.objs.size,xs,v11,rfl,rfl,hD11,hlen,q11⟩) (fun _ s12 ⟨_,H12,I12,_,q12⟩=>?_) (fun _ _ z=>False.elim z))
    exact d3 (d3 ⟨rfl,bY1 I12 q12⟩)
 exact bU9 (loop _ rfl) (T.self X.A 0 _ _ _ st4 (loop _ rfl))
def Itn (K:W.Frag)(a:Addr):It:=
 ⟨fun i H=>∃ xs x,SqL K H a xs/\xs[i]?=some x,fun i H x H'=>∃ t v,H t=none/\x=.ref t/\(∀ xs,SqL K H a xs->xs[i]?=some v)/\H'=upd H t (.tup [.int i,v]),fun i H=>∃ xs,SqL K H a xs/\xs.length<=i⟩
def co4 (K:W.Frag)(ta:TA):TI:=fun σ H R=>ta σ H fun vs H1=>∃ a,vs=[.ref a]/\(∃ xs,SqL K H1 a xs)/\R (Itn K a) H1
theorem br8 {K:W.Frag}{x1:Nat}(a it e:Addr)(hne:e≠it):Turn P w K (.Tuple elts x1 pos) (Itn K a) [e,it] e (fun i h=>(∃ old,IsEnum h e it (i:Int) old)/\h.IsListIter it a i) where
 mem:=by simp
 obj:=fun i h st b hb=>by
  obtain⟨⟨old,he⟩,o,ho,hc,hd⟩:=st
  rcases d7.mp hb with rfl | hb
  ·exact⟨_,he,fun v z=>by cases z⟩
  ·have eb:b=it:=by simpa using hb
   subst eb
   exact⟨o,ho,fun v z=>by rw[hd]at z;cases z⟩
 keep:=fun i h h' st k=>by
  obtain⟨⟨old,he⟩,hit⟩:=st
  exact⟨⟨old,k e (by simp) _ he⟩,hit.at fun o q=>k it (by simp) o q⟩
 item:=by
  intro X hP hw hK hc i pins s σ H E I hf st hg
  subst hP hw hK
  obtain⟨xs,x,hq,hx⟩:=hg
  obtain⟨⟨old,he⟩,hit⟩:=st
  obtain⟨its,rv,p,hz⟩:=I.list hq
  obtain⟨u,hu,ru⟩:=rv.get hx
  obtain⟨f0,f1,f2,f3,f4,f5⟩:=hf e (by simp)
  obtain⟨g0,g1,g2,g3,g4,g5⟩:=hf it (by simp)
  refine wpAny_pyNext_enum_item he hit p.isList (x:=u) (by simpa using hu) hne fun h1 heo hit1 ht1 hz1 hk1=>?_
  refine⟨_,rfl,?_⟩
  refine bw2 heo fun h2 he2 hs2=>?_
  have hlt:e<s.heap.objs.size:=d5 he
  have hs2':Heap.SameBut e h1 h2:=hs2
  have ht2:h2.get? s.heap.objs.size=some { cls:=.type "tuple",data:=.seq #[.int i s.toks,u] }:=(hs2'.2 _ (M6 hlt)).trans ht1
  have kp:∀ b o,b≠e->b≠it->s.heap.get? b=some o->h2.get? b=some o:=fun b o h1' h2' q=>(hs2'.2 b h1').trans (hk1 b o h1' h2' q)
  have hT:H s.heap.objs.size=none:=I.hok.fresh (c9 _)
  have nH:∀ b,H b≠none->b≠e/\b≠it:=fun b hb=>⟨fun z=>hb (z ▸ f0),fun z=>hb (z ▸ g0)⟩
  have keepH:∀ b o,H b=some o->upd H s.heap.objs.size (.tup [.int i,x]) b=some o:=fun b o q=>by rw[t4 (r6 q hT)];exact q
  have hok2:HOk X.prog X.w (upd H s.heap.objs.size (.tup [.int i,x])) h2:=fun b o eb=>by
   by_cases hb:b=s.heap.objs.size
   ·subst hb
    rw[c6]at eb
    cases eb
    exact⟨by show 2<=j7;decide,[.int i s.toks,u],.cons ⟨_,rfl⟩ (.cons ru .nil),⟨_,ht2,rfl,_,rfl⟩⟩
   ·rw[t4 hb]at eb
    refine(I.hok b o eb).stay (fun c v hcc q=>kp c v ?_ ?_ q) (fun c q=>keepH c _ q) fun c ys q=>keepH c _ q
    ·rcases hcc with z | z
     ·exact(nH c (by rw[z,eb];simp)).1
     ·exact(nH c (by rw[z];simp)).1
    ·rcases hcc with z | z
     ·exact(nH c (by rw[z,eb];simp)).2
     ·exact(nH c (by rw[z];simp)).2
  have I2:Inv X pins σ (upd H s.heap.objs.size (.tup [.int i,x])) { s with heap:=h2,toks:=s.toks+1 }:=by
   refine I.step (g':=s.gens) (d':=s.drawn) (t':=s.toks+1) (ch:=[e,it]) (fun b hb=>?_) (fun b o _ _ hcc q _=>kp b o (fun z=>hcc (by simp[z])) (fun z=>hcc (by simp[z])) q) (fun b o _ _ hcc q _=>⟨o.slots,kp b o (fun z=>hcc (by simp[z])) (fun z=>hcc (by simp[z])) q⟩) (fun b o _ q n=>?_)
    (fun b o hcc q=>⟨o,kp b o (fun z=>hcc (by simp[z])) (fun z=>hcc (by simp[z])) q⟩) (fun b ys q=>keepH b _ q) (fun b o v q=>keepH b _ q) (fun b ps q=>⟨#[],by rw[keepH b _ q];simp⟩) (fun m hm=>?_) hok2 I.bare
   ·rcases d7.mp hb with rfl | hb
    ·exact⟨f3,f1,f4,f5⟩
    ·have eb:b=it:=by simpa using hb
     subst eb
     exact⟨g3,g1,g4,g5⟩
   ·rw[t4 (k9 (d5 q))]
    exact n
   ·obtain⟨o,es,ep,ho,r⟩:=hm
    exact⟨o,es,ep,kp _ o (Ne.symm f1) (Ne.symm g1) ho,r⟩
  have hilt:it<s.heap.objs.size:=by
   obtain⟨o,ho,_⟩:=id hit
   exact d5 ho
  refine⟨.ref s.heap.objs.size,_,I2,rfl,⟨s.heap.objs.size,x,hT,rfl,fun ys hy=>by rw[I.list_inj hy hq];exact hx,rfl⟩,⟨⟨u,?_⟩,?_⟩,fun b hb=>?_⟩
  ·have:=he2
   rw[show ((i:Int)+1)=(((i+1:Nat):Int)) by simp]at this
   exact this
  ·exact hit1.at fun o q=>(hs2'.2 it (Ne.symm hne)).trans q
  ·rcases d7.mp hb with rfl | hb
   ·rw[t4 (k9 hlt)];exact f0
   ·have eb:b=it:=by simpa using hb
    subst eb
    rw[t4 (k9 hilt)]
    exact g0
 done:=by
  intro X hP hw hK hc i pins s σ H E I hf st hg
  subst hP hw hK
  obtain⟨xs,hq,hx⟩:=hg
  obtain⟨⟨old,he⟩,hit⟩:=st
  obtain⟨its,rv,p,hz⟩:=I.list hq
  obtain⟨g0,g1,g2,g3,g4,g5⟩:=hf it (by simp)
  have hl:=rv.length
  exact wpAny_pyNext_enum_end (I.ok.hd hc) he hit p.isList (by simp;omega) fun h' eb=>⟨rfl,I.turned (t':=s.toks) (fun b o hb q=>eb b o hb q) g0 g1 g3 g4 g5⟩
 self:=fun _ _ _ _ _ st h=>by
  obtain⟨⟨old,he⟩,_⟩:=st
  exact aq5 he h
theorem aC0 {a:Expr}{ta:TA}{x1:Nat}{tpos p:Pos}(hg:Gl X "enumerate")(hm:X.mg "enumerate"=none)(ha:PA X [a] ta)(hv:L6 "enumerate"=some (.type "enumerate"):=by rfl)(hs:v9 [a] X.env=[(false,eval a X.env)]:=by rfl) :
  PI X (.Tuple elts x1 tpos) (.Call (.Name "enumerate" p) [a] [] pos) (co4 X.K ta):=by
 intro pins s σ H R I h
 refine Call_ (Z7 I hg hm hv (PyProof.Rows.callWith_type1 (thn (ha pos pins s σ H _ I h) fun us s1 ⟨vs,H1,I1,r1,q1⟩=>?_) hs rfl))
 obtain⟨b,e,⟨xs,hq⟩,q⟩:=q1
 subst e
 obtain⟨u,rfl,rx⟩:=vals1 r1
 cases rx
 obtain⟨its,rv,pl,hz⟩:=I1.list hq
 refine call_enumerate_list pl.isList fun h' he hit hsz kp=>?_
 refine aq5 he ?_
 have hne:s1.heap.objs.size+1≠s1.heap.objs.size:=Nat.succ_ne_self _
 refine⟨s1.heap.objs.size+1,[s1.heap.objs.size+1,s1.heap.objs.size],_,_,H1,rfl,I1.kept (t':=s1.toks) kp,br8 b s1.heap.objs.size (s1.heap.objs.size+1) hne,⟨⟨_,he⟩,hit⟩,fun c hc=>?_,q⟩
 rcases d7.mp hc with rfl | hc
 ·exact I1.fpOk (ab9 _) (I1.hok.fresh (ab9 _))
 ·have e:c=s1.heap.objs.size:=by simpa using hc
  subst e
  exact I1.fpOk (c9 _) (I1.hok.fresh (c9 _))
theorem bb8 {K:W.Frag}{g:TG}{tb:TS}{D:Ends}(Pv:Nat->St->Hp->Prop)(h0:Pv 0 σ H)(hl:∀ i σ H,i<=xs.length->Pv i σ H->SqL K H a xs)
  (hs:∀ i x t σ H,xs[i]?=some x->Pv i σ H->H t=none->g (.ref t) σ (upd H t (.tup [.int i,x])) fun σ2 H2=>tb { D with nx:=Pv (i+1),ct:=Pv (i+1),bk:=D.nx } σ2 H2)(hd:∀ σ H,Pv xs.length σ H->D.nx σ H) :
  ∃ W:Nat->Nat->St->Hp->Prop,(∃ m,W 0 m σ H)/\∀ i m σ H,W i m σ H ->
   ((Itn K a).stop i H/\D.nx σ H)\/((Itn K a).go i H/\∃ N:St->Hp->Prop,(∀ σ' H',N σ' H'->∃ m',m'<m/\W (i+1) m' σ' H')/\∀ x H',(Itn K a).yld i H x H'->g x σ H' fun σ2 H2=>tb { D with nx:=N,ct:=N,bk:=D.nx } σ2 H2):=by
 refine⟨fun i m σ H=>m=xs.length - i/\i<=xs.length/\Pv i σ H,⟨xs.length,by simp,t8 _,h0⟩,?_⟩
 rintro i m σ H ⟨rfl,hi,p⟩
 have q:=hl i σ H hi p
 by_cases hlt:i<xs.length
 ·refine .inr ⟨⟨xs,xs[i],q,by simp[hlt]⟩,Pv (i+1),fun σ' H' p'=>⟨xs.length - (i+1),by omega,rfl,hlt,p'⟩,fun x H' y=>?_⟩
  obtain⟨t,v,ht,e,hv,e'⟩:=y
  subst e e'
  exact hs i v t σ H (hv xs q) p ht
 ·have e:i=xs.length:=by omega
  subst e
  exact .inl ⟨⟨xs,q,c9 _⟩,hd σ H p⟩
theorem Q5 {K:W.Frag}{D:Addr}{g:TG}{tt:TT}{σ0:St}{H0:Hp}(Pv:Nat->List V->St->Hp->Prop)(h0:Pv 0 [] σ0 H0)(hz:ys.length<=j7)(hl:∀ i xs σ H,i<=ys.length->Pv i xs σ H->SqL K H a ys/\H D=some (.lst xs)/\xs.length<=i)
  (hs:∀ i xs x σ H (N:List V->St->Hp->Prop),(∀ xs' σ' H',Pv (i+1) xs' σ' H'->N xs' σ' H')->ys[i]?=some x->Pv i xs σ H->g x σ H fun σ2 H2=>tt σ2 H2 fun b H3=>if b=true then te σ2 H3 fun v H4=>H4 D=some (.lst xs)/\N (xs++[v]) σ2 (upd H4 D (.lst (xs++[v]))) else N xs σ2 H3)
  (hd:∀ xs σ H,Pv ys.length xs σ H->Qd H) :
  ∃ W:Nat->Nat->List V->St->Hp->Prop,(∃ m,W 0 m [] σ0 H0)/\∀ i m xs σ' H',W i m xs σ' H'->H' D=some (.lst xs)/\(((Itl K a).stop i H'/\Qd H')\/((Itl K a).go i H'/\xs.length<j7/\∀ x H'',(Itl K a).yld i H' x H''->g x σ' H'' fun σ2 H2=>tt σ2 H2 fun b H3 =>
   if b=true then te σ2 H3 fun v H4=>H4 D=some (.lst xs)/\∃ m',m'<m/\W (i+1) m' (xs++[v]) σ2 (upd H4 D (.lst (xs++[v]))) else ∃ m',m'<m/\W (i+1) m' xs σ2 H3)):=by
 refine⟨fun i m xs σ H=>m=ys.length - i/\i<=ys.length/\Pv i xs σ H,⟨ys.length,by simp,t8 _,h0⟩,?_⟩
 rintro i m xs σ H ⟨rfl,hi,p⟩
 obtain⟨q,hD,hx⟩:=hl i xs σ H hi p
 refine⟨hD,?_⟩
 by_cases hlt:i<ys.length
 ·refine .inr ⟨⟨ys,ys[i],q,by simp[hlt]⟩,by omega,fun x H'' y=>?_⟩
  obtain⟨e,y⟩:=y
  subst e
  exact hs i xs x σ _ (fun zs σ' H'=>∃ m',m'<ys.length - i/\m'=ys.length - (i+1)/\i+1<=ys.length/\Pv (i+1) zs σ' H') (fun zs σ' H' r=>⟨_,by omega,rfl,hlt,r⟩) (y ys q) p
 ·have e:i=ys.length:=by omega
  subst e
  exact .inl ⟨⟨ys,q,c9 _⟩,hd xs σ H p⟩
theorem bc4 {K:W.Frag}{D:Addr}{g:TG}{tt:TT}{σ0:St}{H0:Hp}(Pv:Nat->List V->St->Hp->Prop)(h0:Pv 0 [] σ0 H0)(hz:ys.length<=j7)(hl:∀ i xs σ H,i<=ys.length->Pv i xs σ H->SqT K H a ys/\H D=some (.lst xs)/\xs.length<=i)
  (hs:∀ i xs x σ H (N:List V->St->Hp->Prop),(∀ xs' σ' H',Pv (i+1) xs' σ' H'->N xs' σ' H')->ys[i]?=some x->Pv i xs σ H->g x σ H fun σ2 H2=>tt σ2 H2 fun b H3=>if b=true then te σ2 H3 fun v H4=>H4 D=some (.lst xs)/\N (xs++[v]) σ2 (upd H4 D (.lst (xs++[v]))) else N xs σ2 H3)
  (hd:∀ xs σ H,Pv ys.length xs σ H->Qd H) :
  ∃ W:Nat->Nat->List V->St->Hp->Prop,(∃ m,W 0 m [] σ0 H0)/\∀ i m xs σ' H',W i m xs σ' H'->H' D=some (.lst xs)/\(((Itt K a).stop i H'/\Qd H')\/((Itt K a).go i H'/\xs.length<j7/\∀ x H'',(Itt K a).yld i H' x H''->g x σ' H'' fun σ2 H2=>tt σ2 H2 fun b H3 =>
   if b=true then te σ2 H3 fun v H4=>H4 D=some (.lst xs)/\∃ m',m'<m/\W (i+1) m' (xs++[v]) σ2 (upd H4 D (.lst (xs++[v]))) else ∃ m',m'<m/\W (i+1) m' xs σ2 H3)):=by
 refine⟨fun i m xs σ H=>m=ys.length - i/\i<=ys.length/\Pv i xs σ H,⟨ys.length,by simp,t8 _,h0⟩,?_⟩
 rintro i m xs σ H ⟨rfl,hi,p⟩
 obtain⟨q,hD,hx⟩:=hl i xs σ H hi p
 refine⟨hD,?_⟩
 by_cases hlt:i<ys.length
 ·refine .inr ⟨⟨ys,ys[i],q,by simp[hlt]⟩,by omega,fun x H'' y=>?_⟩
  obtain⟨e,y⟩:=y
  subst e
  exact hs i xs x σ _ (fun zs σ' H'=>∃ m',m'<ys.length - i/\m'=ys.length - (i+1)/\i+1<=ys.length/\Pv (i+1) zs σ' H') (fun zs σ' H' r=>⟨_,by omega,rfl,hlt,r⟩) (y ys q) p
 ·have e:i=ys.length:=by omega
  subst e
  exact .inl ⟨⟨ys,q,c9 _⟩,hd xs σ H p⟩
mutual
def Dt (K:W.Frag)(H:Hp):ah1->V->Prop
 | .none,v=>v=.non
 | .bool b,v=>v=.bl b
 | .int i,v=>v=.int i
 | .str x,v=>v=.str x
 | .list ds,v=>∃ a xs,v=.ref a/\SqL K H a xs/\D7 K H ds xs
 | .tuple ds,v=>∃ a xs,v=.ref a/\SqT K H a xs/\D7 K H ds xs
 | .dict _,_=>False
def D7 (K:W.Frag)(H:Hp):List ah1->List V->Prop
 | [],xs=>xs=[]
 | d::ds,xs=>∃ y ys,xs=y::ys/\Dt K H d y/\D7 K H ds ys
end
mutual
theorem Dt.reads (I:Inv X pins σ H s):∀ (d:ah1) (v:V) (u:Value),Dt X.K H d v->RelV v u->∃ as,Reads s.heap u d as
 | .none,v,u,h,r=>by unfold Dt at h;subst h;cases r;exact⟨_,.none⟩
 | .bool b,v,u,h,r=>by unfold Dt at h;subst h;cases r;exact⟨_,.bool b⟩
 | .int i,v,u,h,r=>by unfold Dt at h;subst h;obtain⟨t,rfl⟩:=r;exact⟨_,.int i t⟩
 | .str x,v,u,h,r=>by unfold Dt at h;subst h;obtain⟨t,rfl⟩:=r;exact⟨_,.str x t⟩
 | .list ds,v,u,h,r=>by
  unfold Dt at h
  obtain⟨a,xs,rfl,hq,hd⟩:=h
  cases r
  obtain⟨its,rv,⟨o,n,ho,hc,_,hdd⟩,_⟩:=I.list hq
  obtain⟨as,ra⟩:=D7.reads I ds xs its hd rv
  exact⟨_,.list ho hc hdd (by simpa using ra)⟩
 | .tuple ds,v,u,h,r=>by
  unfold Dt at h
  obtain⟨a,xs,rfl,hq,hd⟩:=h
  cases r
  obtain⟨its,rv,⟨o,ho,hc,n,hdd⟩,_⟩:=I.tuple hq
  obtain⟨as,ra⟩:=D7.reads I ds xs its hd rv
  exact⟨_,.tuple ho hc hdd (by simpa using ra)⟩
 | .dict _,v,u,h,r=>by unfold Dt at h;exact h.elim
theorem D7.reads (I:Inv X pins σ H s):∀ (ds:List ah1) (xs:List V) (us:List Value),D7 X.K H ds xs->C8 xs us->∃ as,bL3 s.heap us ds as
 | [],xs,us,h,r=>by unfold D7 at h;subst h;cases r;exact⟨_,.nil⟩
 | d::ds,xs,us,h,r=>by
  unfold D7 at h
  obtain⟨y,ys,rfl,h1,h2⟩:=h
  cases r with
  | cons q t =>
   obtain⟨as,ra⟩:=Dt.reads I d y _ h1 q
   obtain⟨bs,rb⟩:=D7.reads I ds ys _ h2 t
   exact⟨_,.cons ra rb⟩
end
mutual
theorem Dt.same {K:W.Frag}(hs:∀ b o,H b=some o->H' b=some o):∀ (d:ah1) (v:V),Dt K H d v->Dt K H' d v
 | .none,v,h=>by unfold Dt at h ⊢;exact h
 | .bool b,v,h=>by unfold Dt at h ⊢;exact h
 | .int i,v,h=>by unfold Dt at h ⊢;exact h
 | .str x,v,h=>by unfold Dt at h ⊢;exact h
 | .list ds,v,h=>by
  unfold Dt at h ⊢
  obtain⟨a,xs,rfl,hq,hd⟩:=h
  refine⟨a,xs,rfl,?_,D7.same hs ds xs hd⟩
  rcases hq with(h | ⟨o,h⟩) | h
  ·exact .inl (.inl (hs _ _ h))
  ·exact .inl (.inr ⟨o,hs _ _ h⟩)
  ·exact .inr h
 | .tuple ds,v,h=>by
  unfold Dt at h ⊢
  obtain⟨a,xs,rfl,hq,hd⟩:=h
  refine⟨a,xs,rfl,?_,D7.same hs ds xs hd⟩
  rcases hq with(h | ⟨o,h⟩) | h
  ·exact .inl (.inl (hs _ _ h))
  ·exact .inl (.inr ⟨o,hs _ _ h⟩)
  ·exact .inr h
 | .dict _,v,h=>by unfold Dt at h;exact h.elim
theorem D7.same {K:W.Frag}(hs:∀ b o,H b=some o->H' b=some o):∀ (ds:List ah1) (xs:List V),D7 K H ds xs->D7 K H' ds xs
 | [],xs,h=>by unfold D7 at h ⊢;exact h
 | d::ds,xs,h=>by
  unfold D7 at h ⊢
  obtain⟨y,ys,rfl,h1,h2⟩:=h
  exact⟨y,ys,rfl,Dt.same hs d y h1,D7.same hs ds ys h2⟩
end
def dP (k:List Int):ah1:=.tuple (k.map .int)
theorem D7.ints {K:W.Frag}:∀ (k:List Int),D7 K H (k.map PyData.int) (k.map V.int)
 | []=>by unfold D7;rfl
 | i::k=>by
  rw[m8,m8]
  unfold D7
  exact⟨_,_,rfl,by unfold Dt;rfl,D7.ints k⟩
theorem D7.tups {K:W.Frag}:∀ {ys:List V} {ks:List (List Int)},A4 K H ys ks->D7 K H (ks.map dP) ys
 | _,_,.nil=>by unfold D7;rfl
 | _,_,.cons r t=>by
  obtain⟨a,rfl,h⟩:=r
  rw[m8]
  unfold D7
  refine⟨_,_,rfl,?_,D7.tups t⟩
  unfold dP Dt
  exact⟨a,_,rfl,h,D7.ints _⟩
theorem lay_ints:∀ k:List Int,PyData.canLayAll0 (k.map .int)=true
 | []=>by simp[PyData.canLayAll0]
 | i::k=>by rw[m8];simp[PyData.canLayAll0,PyData.canLay0,lay_ints k]
theorem ax9:∀ ks:List (List Int),PyData.canLayAll0 (ks.map dP)=true
 | []=>by simp[PyData.canLayAll0]
 | k::ks=>by rw[m8];simp[PyData.canLayAll0,PyData.canLay0,dP,lay_ints k,ax9 ks]
theorem au2:∀ k k':List Int,PyData.eqvAll (k.map .int) (k'.map .int)=decide (k=k')
 | [],[]=>by simp[PyData.eqvAll]
 | [],_::_=>by simp[PyData.eqvAll]
 | _::_,[]=>by simp[PyData.eqvAll]
 | i::k,j::k'=>by
  rw[m8,m8]
  simp only[PyData.eqvAll,PyData.eqv,au2 k k']
  by_cases h:i=j
  ·subst h;simp
  ·simp[h]
theorem aN4:∀ ks ks':List (List Int),PyData.eqvAll (ks.map dP) (ks'.map dP)=decide (ks=ks')
 | [],[]=>by simp[PyData.eqvAll]
 | [],_::_=>by simp[PyData.eqvAll]
 | _::_,[]=>by simp[PyData.eqvAll]
 | k::ks,k'::ks'=>by
  rw[m8,m8]
  simp only[PyData.eqvAll,PyData.eqv,dP,au2 k k']
  rw[aN4 ks ks']
  by_cases h:k=k'
  ·subst h;simp
  ·simp[h]
theorem au4:∀ k:List Int,PyData.depthAll (k.map .int)<=1
 | []=>by simp[PyData.depthAll]
 | i::k=>by
  have:=au4 k
  rw[m8]
  simp only[PyData.depthAll,PyData.depth]
  omega
theorem aN5:∀ ks:List (List Int),PyData.depthAll (ks.map dP)<=2
 | []=>by simp[PyData.depthAll]
 | k::ks=>by
  have h1:=au4 k
  have h2:=aN5 ks
  rw[m8]
  simp only[PyData.depthAll,PyData.depth,dP]at h2 ⊢
  omega
def cm9 (K:W.Frag)(A:Around)(neg:Bool):R2:=fun x y H Q=>∃ dx dy,Dt K H dx x/\Dt K H dy y/\dx.canLay0=true/\dy.canLay0=true/\A.units+min dx.depth dy.depth<ae8/\Q (.bl (if neg then !PyData.eqv dx dy else PyData.eqv dx dy)) H
theorem bC2:OpR X (F4 .Eq) (cm9 X.K X.A false):=by
 intro pins s σ H x y v u Q I rx ry h
 obtain⟨dx,dy,h1,h2,h3,h4,h5,q⟩:=h
 obtain⟨as,ra⟩:=h1.reads I dx x v rx
 obtain⟨bs,rb⟩:=h2.reads I dy y u ry
 exact SeqAt.compareEq_reads ra rb h3 h4 h5 ⟨.bl _,H,I,rfl,q⟩
def bg2 (K:W.Frag)(A:Around)(neg:Bool):R2:=fun x y H Q=>∃ p xs dx ds,y=.ref p/\(SqL K H p xs\/SqT K H p xs)/\Dt K H dx x/\D7 K H ds xs/\dx.canLay0=true/\PyData.canLayAll0 ds=true/\A.units+1+dx.depth<ae8 /\
 Q (.bl (if neg then !ds.any (fun d=>PyData.eqv d dx) else ds.any (fun d=>PyData.eqv d dx))) H
open Classical in
noncomputable def aS4 (h:Heap)(dx:ah1)(v:Value):Bool:=if q:∃ d as,d.canLay0=true/\Reads h v d as then PyData.eqv (Classical.choose q) dx else false
theorem aS3 {dx d:ah1}{as:List Addr}(hl:d.canLay0=true)(r:Reads h v d as):aS4 h dx v=PyData.eqv d dx:=by
 unfold aS4
 have q:∃ d as,d.canLay0=true/\Reads h v d as:=⟨d,as,hl,r⟩
 rw[dif_pos q]
 obtain⟨as',h1,h2⟩:=Classical.choose_spec q
 rw[SeqAt.Reads.unique _ _ _ _ _ h1 h2 r]
theorem aI4 {dx:ah1}:∀ {ds:List ah1} {us:List Value} {as:List Addr},PyData.canLayAll0 ds=true->bL3 h us ds as->us.any (aS4 h dx)=ds.any (fun d=>PyData.eqv d dx)
 | _,_,_,_,.nil=>rfl
 | d::ds,u::us,_,hl,.cons r t=>by
  have hl':d.canLay0=true/\PyData.canLayAll0 ds=true:=by simpa [PyData.canLayAll0] using hl
  rw[Z2,Z2,aS3 hl'.1 r,aI4 hl'.2 t]
theorem ax7:∀ {ds:List ah1} {us:List Value} {as:List Addr} {u:Value},PyData.canLayAll0 ds=true->bL3 h us ds as->u∈us->∃ d as,d.canLay0=true/\Reads h u d as
 | _,_,_,_,_,.nil,hu=>by cases hu
 | d::ds,_::us,_,u,hl,.cons r t,hu=>by
  have hl':d.canLay0=true/\PyData.canLayAll0 ds=true:=by simpa [PyData.canLayAll0] using hl
  rcases d7.mp hu with rfl | hu
  ·exact⟨d,_,hl'.1,r⟩
  ·exact ax7 hl'.2 t hu
theorem cc4:OpR X (F4 .In) (bg2 X.K X.A false):=by
 intro pins s σ H x y v u Q I rx ry h
 obtain⟨p,xs,dx,ds,rfl,hq,h1,h2,h3,h4,h5,q⟩:=h
 cases ry
 obtain⟨bs,rb⟩:=h1.reads I dx x v rx
 have he:∀ (its:List Value) (as:List Addr),bL3 s.heap its ds as->∀ y,y∈its.toArray->SeqAt.EqAt X.A.in1 s y v (aS4 s.heap dx y):=fun its as ra y hy=>by
  obtain⟨d,cs,hl,rd⟩:=ax7 h4 ra (by simpa using hy)
  rw[aS3 hl rd]
  refine SeqAt.eqAt_reads d dx X.A.in1 s y v cs bs rd rb hl h3 ?_
  show X.A.units+1+min d.depth dx.depth<ae8
  omega
 rcases hq with hq | hq
 ·obtain⟨its,rv,pl,hz⟩:=I.list hq
  obtain⟨as,ra⟩:=h2.reads I ds xs its rv
  refine SeqAt.in_listAt (aS4 s.heap dx) pl.isList (he its as ra) ⟨.bl _,H,I,rfl,?_⟩
  rw[ap7,aI4 h4 ra]
  exact q
 ·obtain⟨its,rv,pl,hz⟩:=I.tuple hq
  obtain⟨as,ra⟩:=h2.reads I ds xs its rv
  refine SeqAt.in_tupleAt (aS4 s.heap dx) pl (he its as ra) ⟨.bl _,H,I,rfl,?_⟩
  rw[ap7,aI4 h4 ra]
  exact q
theorem bs7:OpR X (F4 .NotIn) (bg2 X.K X.A true):=by
 intro pins s σ H x y v u Q I rx ry h
 obtain⟨p,xs,dx,ds,rfl,hq,h1,h2,h3,h4,h5,q⟩:=h
 cases ry
 obtain⟨bs,rb⟩:=h1.reads I dx x v rx
 have he:∀ (its:List Value) (as:List Addr),bL3 s.heap its ds as->∀ y,y∈its.toArray->SeqAt.EqAt X.A.in1 s y v (aS4 s.heap dx y):=fun its as ra y hy=>by
  obtain⟨d,cs,hl,rd⟩:=ax7 h4 ra (by simpa using hy)
  rw[aS3 hl rd]
  refine SeqAt.eqAt_reads d dx X.A.in1 s y v cs bs rd rb hl h3 ?_
  show X.A.units+1+min d.depth dx.depth<ae8
  omega
 rcases hq with hq | hq
 ·obtain⟨its,rv,pl,hz⟩:=I.list hq
  obtain⟨as,ra⟩:=h2.reads I ds xs its rv
  refine SeqAt.notIn_listAt (aS4 s.heap dx) pl.isList (he its as ra) ⟨.bl _,H,I,rfl,?_⟩
  rw[ap7,aI4 h4 ra]
  exact q
 ·obtain⟨its,rv,pl,hz⟩:=I.tuple hq
  obtain⟨as,ra⟩:=h2.reads I ds xs its rv
  refine SeqAt.notIn_tupleAt (aS4 s.heap dx) pl (he its as ra) ⟨.bl _,H,I,rfl,?_⟩
  rw[ap7,aI4 h4 ra]
  exact q
theorem bc9:S4 X (.builtin "isinstance") (fun xs H Q=>∃ x c t b,xs=[x,.ty c]/\av0 X.K H x t/\PySem.W.kitOne X.K t (.type c)=some b/\Q (.bl b) H):=by
 intro pins s σ H xs us Q I r h
 obtain⟨x,c,t,b,rfl,ty,e,q⟩:=h
 obtain⟨u,v,rfl,ru,rv⟩:=r.two
 cases (show v=Value.type c from rv)
 exact bu2 I ru ty e fun tk=>⟨.bl b,H,I.tok _,rfl,q⟩
end L2
namespace L2
open PySem PySem.Spec PyProof.Rows
theorem ac8 (hc:X.calm=true):S4 X (.builtin "sum") (fun xs H Q=>∃ (p:Addr) (ns:List Int),xs=[.ref p]/\SqL X.K H p (ns.map V.int)/\Q (.int ns.sum) H):=by
 intro pins s σ H xs us Q I r h
 obtain⟨p,ns,rfl,hq,q⟩:=h
 obtain⟨u,rfl,rx⟩:=vals1 r
 cases rx
 obtain⟨its,r',pl,hz⟩:=I.list hq
 have hi:J7 its ns:=intsAre_of r'
 obtain⟨ys,e⟩:=hi.allInts.items
 refine sum_intListG (xs:=ys) (I.ok.hd hc) (by rw[<- e];exact pl.isList) fun h' tk t' hk=>⟨.int ns.sum,H,I.kept (t':=tk) hk,⟨t',?_⟩,q⟩
 have e2:numsOf (K8 ys).toList=ns:=by rw[<- e];exact hi.numsOf
 rw[nums_intItems]at e2
 rw[preSum_eq,k8 (by simp),e2]
theorem ab2:S4 X (.builtin "isinstance") (fun xs H Q=>∃ a ys c b,xs=[.ref a,.ty c]/\SqT X.K H a ys/\PySem.W.kitOne X.K (.type "tuple") (.type c)=some b/\Q (.bl b) H):=by
 intro pins s σ H xs us Q I r h
 obtain⟨a,ys,c,b,rfl,hq,e,q⟩:=h
 obtain⟨u,v,rfl,ru,rv⟩:=r.two
 cases (show v=Value.type c from rv)
 cases ru
 obtain⟨its,rt,⟨o,h1,h2,_⟩,hz⟩:=I.tuple hq
 exact PySem.W.kia_one PySem.W.kitx_tuple I.kIn ⟨o,h1,h2⟩ e (fun z=>nomatch z) fun tk=>⟨.bl b,H,I.tok _,rfl,q⟩
def LkL (X:Cx)(scope:Scope)(cl:List (Str × Addr)):List Str->List (Option Nat)->Prop
 | [],[]=>True
 | _::N,none::lk=>LkL X scope cl N lk
 | x::N,some j::lk=>(X.N[j]?=some x/\(X.env.scope.names.lookup x=some .cell\/X.env.scope.names.lookup x=some .free)/\(cl.lookup x).isSome=true /\
  ((V7 scope cl 0 X.env).kindOf x=some .cell\/(V7 scope cl 0 X.env).kindOf x=some .free))/\LkL X scope cl N lk
 | _,_=>False
theorem LkL.len:∀ {N:List Str} {lk:List (Option Nat)},LkL X scope cl N lk->lk.length=N.length
 | [],[],_=>rfl
 | _::N,none::lk,h=>congrArg (·+1) (LkL.len (N:=N) (lk:=lk) h)
 | _::N,some _::lk,h=>congrArg (·+1) (LkL.len (N:=N) (lk:=lk) h.2)
 | [],_::_,h=>h.elim
 | _::_,[],h=>h.elim
theorem LkL.get:∀ {N:List Str} {lk:List (Option Nat)},LkL X scope cl N lk->∀ (i j:Nat) (x:Str),N[i]?=some x->lk[i]?=some (some j) ->
  X.N[j]?=some x/\(X.env.scope.names.lookup x=some .cell\/X.env.scope.names.lookup x=some .free)/\(cl.lookup x).isSome=true/\((V7 scope cl 0 X.env).kindOf x=some .cell\/(V7 scope cl 0 X.env).kindOf x=some .free)
 | [],[],_,i,j,x,h1,_=>by simp at h1
 | _::N,none::lk,h,0,j,x,h1,h2=>by simp at h2
 | _::N,none::lk,h,i+1,j,x,h1,h2=>LkL.get (N:=N) (lk:=lk) h i j x (by simpa using h1) (by simpa using h2)
 | y::N,some k::lk,h,0,j,x,h1,h2=>by
  simp at h1 h2
  subst h1 h2
  exact h.1
 | _::N,some _::lk,h,i+1,j,x,h1,h2=>LkL.get (N:=N) (lk:=lk) h.2 i j x (by simpa using h1) (by simpa using h2)
 | [],_::_,h,_,_,_,_,_=>h.elim
 | _::_,[],h,_,_,_,_,_=>h.elim
theorem LkL.ok (h:LkL X scope cl N lk):bI9 X N lk scope cl:=⟨h.len,h.get⟩
theorem L9 {A B:Hp->Prop}(h:A H):bV2 σ H (fun b H3=>if b=true then A H3 else B H3):=by
 show if true=true then A H else B H
 exact X1 h
theorem x6 {v:V}{Q:St->Hp->Prop}(h:Q (σ.set i (some v)) H):aH4 i v σ H Q:=h
theorem SqT.updL {K:W.Frag}{l:Addr}{zs:List V}(h:SqT K H a ys)(hl:H l=some (.lst xs)):SqT K (upd H l (.lst zs)) a ys:=by
 rcases h with(h | ⟨o,h⟩) | h
 ·exact .inl (.inl (by rw[t4 (bD1 h hl (by intro z;cases z))];exact h))
 ·exact .inl (.inr ⟨o,by rw[t4 (bD1 h hl (by intro z;cases z))];exact h⟩)
 ·exact .inr h
theorem A4.updL {K:W.Frag}{l:Addr}{zs:List V}(hl:H l=some (.lst xs)):∀ {ys:List V} {ks:List (List Int)},A4 K H ys ks->A4 K (upd H l (.lst zs)) ys ks
 | _,_,.nil=>.nil
 | _,_,.cons r t=>by
  obtain⟨a,h1,h2⟩:=r
  exact .cons ⟨a,h1,h2.updL hl⟩ (A4.updL hl t)
theorem A4.one {K:W.Frag}(h:SqT K H a (k.map V.int)):A4 K H [.ref a] [k]:=.cons ⟨a,rfl,h⟩ .nil
theorem u7.seqT {K:W.Frag}(e:u7 H H')(h:SqT K H a xs):SqT K H' a xs:=by
 rcases h with(h | ⟨o,h⟩) | h
 ·exact .inl (.inl (e _ _ h))
 ·exact .inl (.inr ⟨o,e _ _ h⟩)
 ·exact .inr h
theorem u7.tups {K:W.Frag}(e:u7 H H')(h:A4 K H ys ks):A4 K H' ys ks:=A4.same e h
theorem u7.upd {l:Addr}{o:HO}(e:u7 H H')(h:H l=none):u7 H (upd H' l o):=fun b u q=>by
 rw[t4 (r6 q h)]
 exact e b u q
end L2
namespace L2
open PySem
theorem bG2 {v v':V}{Q:St->Hp->Prop}(e:v=v')(h:aH4 i v' σ H Q):aH4 i v σ H Q:=by
 rw[e]
 exact h
theorem bv1 (xs:List V)(k:Nat):ay5 xs (some (k:Int)) none=xs.drop k:=by
 unfold ay5
 rw[HT.bl5,HT.aX2]
 rcases Nat.le_total k xs.length with h | h
 ·rw[Nat.min_eq_left h]
  exact k8 (by rw[F3];omega)
 ·rw[Nat.min_eq_right h,bw4 h,bw4 (c9 _)]
  simp
theorem bT0 (xs:List V)(k:Nat):ay5 xs none (some (k:Int))=xs.take k:=by
 unfold ay5
 rw[HT.bl5,HT.aX2,bj3,Nat.sub_zero]
 rcases Nat.le_total k xs.length with h | h
 ·rw[Nat.min_eq_left h]
 ·rw[Nat.min_eq_right h,k8 h,k8 (c9 _)]
theorem au6 (K:W.Frag)(hK:X.K=K):S4 X (.builtin "isinstance") (fun xs H Q=>∃ x c t b,xs=[x,.ty c]/\av0 K H x t/\PySem.W.kitOne K t (.type c)=some b/\Q (.bl b) H):=by
 subst hK
 exact bc9
theorem aP5 {u d:Nat}(h:u+64<ae8)(hd:d<=60):u+1+d<ae8:=by omega
theorem bV1 {u d:Nat}(h:u+64<ae8)(hd:d<=64):u+d<ae8:=by omega
theorem Dt.mkInt {K:W.Frag}{i:Int}:Dt K H (.int i) (.int i):=by unfold Dt;rfl
theorem Dt.mkL {K:W.Frag}{ds:List ah1}(h:SqL K H a xs)(d:D7 K H ds xs):Dt K H (.list ds) (.ref a):=by unfold Dt;exact⟨a,xs,rfl,h,d⟩
theorem Dt.mkT {K:W.Frag}{ds:List ah1}(h:SqT K H a xs)(d:D7 K H ds xs):Dt K H (.tuple ds) (.ref a):=by unfold Dt;exact⟨a,xs,rfl,h,d⟩
theorem D7.mkN {K:W.Frag}:D7 K H [] []:=by unfold D7;rfl
theorem D7.mkC {K:W.Frag}{d:ah1}{x:V}{ds:List ah1}(h:Dt K H d x)(t:D7 K H ds xs):D7 K H (d::ds) (x::xs):=by unfold D7;exact⟨x,xs,rfl,h,t⟩
theorem ag5 {z:Int}{Q:St->Hp->Prop}(h:∀ c:Int,c=z->aH4 i (.int c) σ H Q):aH4 i (.int z) σ H Q:=h z rfl
theorem int_at {x:V}(h:(ns.map V.int)[i]?=some x):∃ z:Int,x=V.int z:=by
 rw[o5]at h
 cases e:ns[i]? with
 | none=>rw[e]at h;cases h
 | some z=>rw[e]at h;exact⟨z,(Option.some.inj h).symm⟩
theorem bv0 (ns:List Int)(lo hi:Option Int):∃ ms:List Int,ay5 (ns.map V.int) lo hi=ms.map V.int/\ms.length<=ns.length:=by
 unfold ay5
 rw[<- aJ0,<- aJ1]
 exact⟨_,rfl,by rw[q8,F3];omega⟩
theorem ae2 (h:j<n):ixN n (j:Int)=some j:=by
 unfold ixN
 rw[if_pos (by omega),if_pos (by omega)]
 simp
theorem cg1 (a b:List Int):PyData.eqv (dP a) (dP b)=decide (a=b):=by
 unfold dP
 simp only[PyData.eqv]
 exact au2 a b
theorem bI2 (k:List Int):∀ ks:List (List Int),(ks.map dP).any (fun d=>PyData.eqv d (dP k))=decide (k∈ks)
 | []=>by simp
 | l::ks=>by
  rw[m8,Z2,cg1,bI2 k ks]
  by_cases h:l=k
  ·subst h;simp
  ·have h':k≠l:=fun e=>h e.symm
   simp[h,h']
theorem cd9 (k:List Int):(dP k).canLay0=true:=by simp[dP,PyData.canLay0,lay_ints]
theorem cg5 (k:List Int):(dP k).depth<=2:=by
 have:=au4 k
 simp only[dP,PyData.depth]
 omega
theorem Dt.mkP {K:W.Frag}(h:SqT K H a (k.map V.int)):Dt K H (dP k) (.ref a):=by
 unfold dP
 exact Dt.mkT h (D7.ints k)
theorem bD7 (k:List Int):(PyData.list (k.map .int)).canLay0=true:=by simp[PyData.canLay0,lay_ints]
theorem cg4 (k:List Int):(PyData.list (k.map .int)).depth<=2:=by
 have:=au4 k
 simp only[PyData.depth]
 omega
theorem cg0 (a b:List Int):PyData.eqv (.list (a.map .int)) (.list (b.map .int))=decide (a=b):=by
 simp only[PyData.eqv]
 exact au2 a b
theorem Dt.mkLi {K:W.Frag}(h:SqL K H a (k.map V.int)):Dt K H (.list (k.map .int)) (.ref a):=Dt.mkL h (D7.ints k)
theorem A4.dtAll {K:W.Frag}(t:A4 K H ys ks):D7 K H (ks.map dP) ys:=D7.tups t
def dW (n:Int)(ks:List (List Int)):ah1:=.tuple [.int n,.tuple (ks.map dP)]
theorem cn6 (n:Int)(ks:List (List Int)):(dW n ks).canLay0=true:=by simp[dW,PyData.canLay0,PyData.canLayAll0,ax9]
theorem cp5 (n:Int)(ks:List (List Int)):(dW n ks).depth<=4:=by
 have:=aN5 ks
 simp only[dW,PyData.depth,PyData.depthAll]
 omega
theorem cp2 (n m:Int)(ks ls:List (List Int)):PyData.eqv (dW n ks) (dW m ls)=(decide (n=m) && decide (ks=ls)):=by
 simp only[dW,PyData.eqv,PyData.eqvAll,aN4,Bool.and_true]
 by_cases h:n=m
 ·subst h;simp
 ·simp[h]
end L2
namespace Web
open PySem L2
def ac0 (i m:Nat):List (List Int):=(p5 m).map fun(d:Nat)=>([(i:Int),(i:Int)+1+(d:Int)]:List Int)
def l4 (n:Nat):List (List Int):=(p5 n).flatMap fun i=>ac0 i (n - (i+1))
def Up (n:Nat)(k:List Int):Prop:=∃ i j:Nat,i<j/\j<n/\k=[(i:Int),(j:Int)]
theorem ag4 (h:k∈l4 n):Up n k:=by
 unfold l4 at h
 obtain⟨i,hi,hk⟩:=cj0.mp h
 unfold ac0 at hk
 obtain⟨d,hd,rfl⟩:=p0.mp hk
 rw[v8]at hi hd
 exact⟨i,i+1+d,by omega,by omega,by simp⟩
def Asc (ks:List (List Int)):Prop:=ks.Pairwise fun a b=>Tim.K4 a b=true
theorem bT4 (i m:Nat):Asc (ac0 i m):=by
 unfold Asc ac0
 rw[M9]
 refine List.Pairwise.imp ?_ aa3
 intro a b hab
 unfold Tim.K4
 rw[if_pos rfl]
 unfold Tim.K4
 rw[if_neg (by omega)]
 exact decide_eq_true (by omega)
theorem ag6 (n:Nat):Asc (l4 n):=by
 unfold Asc l4
 rw[List.pairwise_flatMap]
 refine⟨fun i _=>bT4 i _,?_⟩
 refine List.Pairwise.imp ?_ aa3
 intro a b hab x hx y hy
 unfold ac0 at hx hy
 obtain⟨d,hd,rfl⟩:=p0.mp hx
 obtain⟨e,he,rfl⟩:=p0.mp hy
 unfold Tim.K4
 rw[if_neg (by omega)]
 exact decide_eq_true (by omega)
theorem ab8:∀ n:Nat,n<=24->(l4 n).length<=276:=by decide +kernel
theorem ai2 (n i:Nat):((p5 (i+1)).flatMap fun j=>ac0 j (n - (j+1)))=((p5 i).flatMap fun j=>ac0 j (n - (j+1)))++ac0 i (n - (i+1)):=by
 rw[D0,bU3]
 simp
theorem aM0 (i m:Nat):ac0 i (m+1)=ac0 i m++[[(i:Int),(i:Int)+1+(m:Int)]]:=by
 unfold ac0
 rw[D0,j9]
 rfl
theorem ba6 (n:Nat):∀ i:Nat,i<=n->((p5 i).flatMap fun j=>ac0 j (n - (j+1))).length<=(l4 n).length:=by
 intro i hi
 unfold l4
 obtain⟨d,rfl⟩:=Nat.exists_eq_add_of_le hi
 rw[List.range_add,bU3,m6]
 omega
theorem ao2 (h:Asc ks):ks.Nodup:=by
 refine List.Pairwise.imp ?_ h
 intro a b hab e
 subst e
 rw[Tim.au0]at hab
 cases hab
theorem bp6 {ls:List (List Int)}(h:ks.Sublist ls)(a:Asc ls):Asc ks:=List.Pairwise.sublist h a
theorem aI3:∀ {ks ls:List (List Int)},Asc ks->ls.Perm ks->ls.Pairwise (fun a b=>Tim.K4 b a=false)->ls=ks
 | [],ls,_,p,_=>p.eq_nil
 | k::ks,[],_,p,_=>by
  have:=p.length_eq
  simp at this
 | k::ks,l::ls,h,p,q=>by
  have hkl:l=k:=by
   have h1:l∈k::ks:=p.mem_iff.mp f9
   have h2:k∈l::ls:=p.mem_iff.mpr f9
   rcases d7.mp h1 with e | e
   ·exact e
   ·rcases d7.mp h2 with e2 | e2
    ·exact e2.symm
    ·have a1:=(F9.mp h).1 l e
     have a2:=(F9.mp q).1 k e2
     rw[a1]at a2
     cases a2
  subst hkl
  rw[aI3 (F9.mp h).2 ((List.perm_cons _).mp p) (F9.mp q).2]
def up:List Int->List Int
 | [a,b]=>[if b<a then b else a,if b > a then b else a]
 | k=>k
theorem Up.key (h:Up n k)(hn:n<=24):Sett.aA2 k:=by
 obtain⟨i,j,h1,h2,rfl⟩:=h
 exact⟨i,j,by omega,by omega,rfl⟩
theorem Up.len (h:Up n k):k.length=2:=by
 obtain⟨i,j,h1,h2,rfl⟩:=h
 rfl
def aA3 (n:Nat)(k:List Int):Prop:=∃ i j:Nat,i<n/\j<n/\i≠j/\k=[(i:Int),(j:Int)]
theorem aA3.up (h:aA3 n k):Up n (up k):=by
 obtain⟨i,j,h1,h2,h3,rfl⟩:=h
 show Up n [if (j:Int)<i then (j:Int) else i,if (j:Int) > i then (j:Int) else i]
 by_cases h:i<j
 ·rw[if_neg (by omega),if_pos (by omega)]
  exact⟨i,j,h,h2,rfl⟩
 ·rw[if_pos (by omega),if_neg (by omega)]
  exact⟨j,i,by omega,h1,rfl⟩
end Web
namespace L2
open PySem
def Z0.around {k:Nat}{A:Around}(_:Z0 k A):Around:=A
theorem bm7 (K:W.Frag)(A:Around)(hK:X.K=K)(hA:X.A=A):OpR X (F4 .In) (bg2 K A false):=by subst hK hA;exact cc4
theorem aF7 (K:W.Frag)(A:Around)(hK:X.K=K)(hA:X.A=A):OpR X (F4 .NotIn) (bg2 K A true):=by subst hK hA;exact bs7
end L2
namespace L2
open PySem PySem.Spec PyProof.Rows
section
variable {o:Expr} {to:TE} {t:TA} {name:Str} {apos cpos:Pos} {T id:String}
theorem au3 (p:Int):∀ k:List Int,(k.map PyData.int).any (fun d=>PyData.eqv d (.int p))=decide (p∈k)
 | []=>by simp
 | i::k=>by
  rw[m8,Z2,au3 p k]
  by_cases h:i=p
  ·subst h;simp[PyData.eqv]
  ·have h':p≠i:=fun e=>h e.symm
   simp[PyData.eqv,h,h']
end
theorem bn4:∀ {vs:List Value} {n i:Nat},vs.length=n->(∀ j v,vs[j]?=some v->∃ t,v=Value.int (((i+j:Nat):Int)) t)->J7 vs ((ap0 i n).map fun k:Nat=>(k:Int))
 | [],n,i,e,_=>by subst e;exact .nil
 | v::vs,0,i,e,_=>by cases e
 | v::vs,n+1,i,e,h=>by
  obtain⟨t,rfl⟩:=h 0 v rfl
  rw[List.range'_succ,m8]
  refine .cons _ t (bn4 (by simpa using e) fun j v hv=>?_)
  obtain⟨t',e'⟩:=h (j+1) v (by simpa using hv)
  exact⟨t',by rw[e'];congr 2;omega⟩
theorem bc5 {r:Addr}{t u v:Tok}{Q:List Value->Shared->Prop}(hh:A.handled=none)(hr:IsRange s.heap r 0 n 1 t u v)(hn:n<=1000)
  (h:∀ h' tk vs,(∀ b o,s.heap.get? b=some o->h'.get? b=some o)->J7 vs ((ap0 0 n).map fun k:Nat=>(k:Int))->Q vs { s with heap:=h',toks:=tk }) :
  p8 (t9 prog w) A (collect (.ref r)) Q E s:=by
 unfold collect
 refine b7 (wpAny_runValue (R0 F.entry_proto_collect ?_))
 rw[Around.under_plainId F.plain_proto_collect _]
 show p8 _ A.in1 (newList [] >>= fun l=>bY1 (.builtin "list.__iadd__" ⟨[l,.ref r],[]⟩)) _ _ s
 refine b7 (V8 ?_)
 refine d3 ⟨ah5 F.plain_list_iadd _,R0 F.entry_list_iadd ?_⟩
 rw[Around.under_plainId F.plain_list_iadd _]
 show p8 _ A.in1 (Builtin.List.listExtendWith (.ref s.heap.objs.size) (.ref r) (.ref s.heap.objs.size)) _ _ _
 have hS:(s.heap.push { cls:=.type "list",data:=.seq ([]:List Value).toArray }).get? s.heap.objs.size=some { cls:=.type "list",data:=.seq #[] }:=i6 _ rfl
 have hrs:Builtin.Range.rangeSize 0 n 1=(n:Int):=by rw[rangeSize_one];split<;>omega
 refine wpAny_extend_range (R:=fun rr s'=>match rr with
  | .ok (.ret v)=>p8 (t9 prog w) A (match v with
   | .ref a=>(do
    let o <- load a
    match o.data with
    | .seq xs _=>pure xs.toList
    | _=>aj8 "internal:collect")
   | _=>aj8 "internal:collect") Q E s'
  | .ok _=>False
  | .error e=>E e s') (s:={ s with heap:=s.heap.push { cls:=.type "list",data:=.seq ([]:List Value).toArray } }) (n:=n) hh (c5 _ hr) (small_one (by omega) (by omega) (by omega) (by omega)) hrs (by omega) s.heap.objs.size _ 0 hS fun h' tk acc' c' hk hS' hacc=>?_
 show p8 _ A (load s.heap.objs.size >>= _) _ _ _
 refine b7 (wpAny_load hS' ?_)
 refine d3 (h h' tk _ (fun b o e=>hk b o (k9 (d5 e)) (c5 _ e)) (bn4 (by rw[l5];exact hacc.1) fun j v hj=>?_))
 obtain⟨t',e⟩:=hacc.2 j v (by rw[<- g6];exact hj)
 exact⟨t',by rw[e];congr 1;omega⟩
theorem R1.to (f:R1 X pins H b)(h:H' b=none):R1 X pins H' b:=⟨h,f.2⟩
theorem Inv.turn {it:Addr}(I:Inv X pins σ H s)(f:R1 X pins H it)(k:∀ b o,b≠it->s.heap.get? b=some o->h'.get? b=some o):Inv X pins σ H { s with heap:=h',toks:=t' }:=
 I.turned k f.1 f.2.1 f.2.2.2.1 f.2.2.2.2.1 f.2.2.2.2.2
theorem Inv.take {o:HO}(I:Inv X pins σ H s)(f:R1 X pins H a)(k:∀ b u,b≠a->s.heap.get? b=some u->h'.get? b=some u)(new:G7 X.prog X.w (upd H a o) h' a o):Inv X pins σ (upd H a o) { s with heap:=h',toks:=t' }:=by
 have hn:=f.1
 have ne:∀ b u,H b=some u->b≠a:=fun b u e=>r6 e hn
 have kp:∀ b u,H b=some u->upd H a o b=some u:=fun b u e=>by rw[t4 (ne b u e)];exact e
 refine I.step (g':=s.gens) (d':=s.drawn) (ch:=[a]) (fun b hb=>?_) (fun b u _ _ hc e _=>k b u (fun z=>hc (by simp[z])) e) (fun b u _ _ hc e _=>⟨u.slots,k b u (fun z=>hc (by simp[z])) e⟩) (fun b u hc _ n=>by rw[t4 (fun z=>hc (by simp[z]))];exact n)
  (fun b u hc e=>⟨u,k b u (fun z=>hc (by simp[z])) e⟩) (fun b xs e=>kp b _ e) (fun b u xs e=>kp b _ e) (fun b ps e=>⟨#[],by rw[kp b _ e];simp⟩) (fun m hm=>?_) (fun b u e=>?_) I.bare
 ·have e:b=a:=by simpa using hb
  subst e
  exact⟨f.2.2.2.1,f.2.1,f.2.2.2.2.1,f.2.2.2.2.2⟩
 ·obtain⟨o',es,ep,ho,r⟩:=hm
  exact⟨o',es,ep,k _ o' (Ne.symm f.2.1) ho,r⟩
 ·by_cases hb:b=a
  ·subst hb
   rw[c6]at e
   cases e
   exact new
  ·rw[t4 hb]at e
   refine(I.hok b u e).stay (fun c v hc q=>k c v ?_ q) (fun c q=>?_) fun c xs q=>?_
   ·rcases hc with z | z
    ·rw[z];exact hb
    ·exact ne c _ z
   ·exact kp _ _ q
   ·exact kp _ _ q
abbrev aT2 (X:Cx)(A:Around)(σ:St)(H:Hp)(f:Value)(key:Int->List Int)(z:Int):Prop:=∀ (t:Tok) (pins':List (Addr × Obj)) (s':Shared) (H':Hp),Inv X pins' σ H' s'->u7 H H' ->
 p8 (t9 X.prog X.w) A (call f [.int z t]) (fun u s''=>∃ k H'',u=.ref k/\H'' k=some (.tup ((key z).map V.int))/\Inv X pins' σ H'' s''/\u7 H' H'') (fun _ _=>False) s'
abbrev aT3 (X:Cx)(pins:List (Addr × Obj))(σ:St)(H:Hp)(a:Addr)(zs:List Int)(key:Int->List Int)(P:PySem.Fin->Shared->Prop):Prop:=∀ (H':Hp) (s':Shared) (out:List Value) (zs':List Int) (c:Nat),Inv X pins σ H' s'->u7 H H'->R1 X pins H' a ->
 s'.heap.get? a=some (J0 "list" out.toArray c)->J7 out zs'->zs'.Perm zs->zs'.Pairwise (fun x y=>Tim.K4 (key y) (key x)=false)->P (.done (.ret .none)) s'
theorem aG8 {key:Int->List Int}:∀ {ks vs:List Value} {zs:List Int},ae7 (fun u k=>Tim.IsK prog w h k u) ks (zs.map key)->J7 vs zs ->
  (∀ p∈ks.zip vs,Tim.IsK prog w h (key (numOf p.2)) p.1)/\(ks.zip vs).map (fun p=>numOf p.2)=zs
 | _,_,[],.nil,.nil=>⟨fun p h=>(nomatch h),rfl⟩
 | _,_,z::zs,.cons r t,.cons _ t' q=>by
  obtain⟨h1,h2⟩:=aG8 t q
  refine⟨fun p hp=>?_,by rw[Z1,m8,h2];rfl⟩
  rw[Z1]at hp
  rcases d7.mp hp with rfl | hp
  ·exact r
  ·exact h1 p hp
theorem aM9:∀ {vs:List Value} {zs:List Int},J7 vs zs->∀ v∈vs,∃ t,v=.int (numOf v) t
 | _,_,.nil,v,h=>by cases h
 | _,_,.cons z t q,v,h=>by
  rcases d7.mp h with rfl | h
  ·exact⟨t,rfl⟩
  ·exact aM9 q v h
theorem bn5:∀ {vs:List Value},(∀ v∈vs,∃ t,v=.int (numOf v) t)->J7 vs (vs.map numOf)
 | [],_=>.nil
 | v::vs,h=>by
  obtain⟨t,e⟩:=h v f9
  rw[m8]
  rw[e]
  exact .cons _ t (bn5 fun v hv=>h v (d6 _ hv))
set_option maxHeartbeats 2000000 in
theorem bb0 {kS:Addr}{keys:Array Value}{e e1:Nat}{key:Int->List Int}{P:PySem.Fin->Shared->Prop}{st:A8}{H0:Hp}(I:Inv X pins σ H s)(hS:u7 H0 H)(hk:s.heap.get? kS=some (J0 "list" keys e))(ha:s.heap.get? a=some (J0 "list" #[] e1))
  (fk:R1 X pins H kS)(fa:R1 X pins H a)(hka:kS≠a)(hz:vs.length<=1000)(hkl:keys.size=vs.length)(hi:J7 vs zs)
  (hK:ae7 (fun u k=>Tim.IsK X.prog X.w s.heap k u) keys.toList (zs.map key))(hp:(o4 st).Perm (keys.zip vs.toArray))(hf:P0 st=none)
  (hs:(o4 st).toList.Pairwise (Tim.le (Tim.Bf (O:=Tim.bh1) fun p=>Tim.X5 X.prog X.w s.heap p.1)))(h:aT3 X pins σ H0 a zs key P) :
  p8 (t9 X.prog X.w) A (ksk_tail a false e1 (.ref kS) st) P E s:=by
 obtain⟨k1,k2⟩:=aG8 hK hi
 have hl:(o4 st).toList.Perm (keys.toList.zip vs):=by rw[<- ksk_zip];exact N5.mp hp
 have hsz2:(o4 st).size=vs.length:=by rw[hp.size_eq,Array.size_zip,hkl,i9,Nat.min_self]
 have s1:=Heap.SameBut.update s.heap kS (Obj.mapSeq fun _=>(#[]:Array Value))
 have na1:(s.heap.update kS (Obj.mapSeq fun _=>(#[]:Array Value))).get? a=some (J0 "list" #[] e1):=(s1.2 a hka.symm).trans ha
 have hout:((o4 st).map (·.2)).size=vs.length:=by rw[aj5];exact hsz2
 have hmem:∀ v∈(o4 st).toList.map (·.2),∃ t,v=.int (numOf v) t:=fun v hv=>by
  obtain⟨p,hp',rfl⟩:=p0.mp hv
  exact aM9 hi _ (av4 (hl.mem_iff.mp hp')).2
 unfold ksk_tail
 dsimp only
 refine b7 (ah4 hk rfl ?_ (by rw[hkl,E4];omega) (t8 _))
 refine b7 (aj9 ?_)
 refine b7 (bq8 na1 rfl ?_)
 refine b7 (ah4 na1 rfl ?_ (t8 _) (x9 (aw1 hout) (by rw[E4];omega)))
 rw[hf]
 simp only[bne_self_eq_false,l9,if_false]
 have I1:Inv X pins σ H { s with heap:=s.heap.update kS (Obj.mapSeq fun _=>(#[]:Array Value)),toks:=s.toks }:=I.turn fk fun b o hb q=>(s1.2 b hb).trans q
 have s2:=Heap.SameBut.update (s.heap.update kS (Obj.mapSeq fun _=>(#[]:Array Value))) a (Obj.mapSeq fun _=>(o4 st).map (·.2))
 have I2:Inv X pins σ H { s with heap:=(s.heap.update kS (Obj.mapSeq fun _=>(#[]:Array Value))).update a (Obj.mapSeq fun _=>(o4 st).map (·.2)),toks:=s.toks }:=
  I1.turn (t':=s.toks) fa fun b o hb q=>(s2.2 b hb).trans q
 obtain⟨c2,hc2⟩:∃ c2,((s.heap.update kS (Obj.mapSeq fun _=>(#[]:Array Value))).update a (Obj.mapSeq fun _=>(o4 st).map (·.2))).get? a=some (J0 "list" ((o4 st).map (·.2)) c2):=⟨_,aa5 na1 fun _=>(o4 st).map (·.2)⟩
 have eo:((o4 st).toList.map (·.2)).toArray=(o4 st).map (·.2):=by rw[<- ch7,aw2]
 refine d3 (h H _ ((o4 st).toList.map (·.2)) (((o4 st).toList.map (·.2)).map numOf) c2 I2 hS fa (by rw[eo];exact hc2) (bn5 hmem) ?_ ?_)
 ·have:=hl.map fun p=>numOf p.2
  rw[k2]at this
  rw[M4]
  exact this
 ·rw[M4,M9]
  refine List.Pairwise.imp_of_mem ?_ hs
  intro x y hx hy hxy
  have ex:=Tim.W3 (k1 x (hl.mem_iff.mp hx))
  have ey:=Tim.W3 (k1 y (hl.mem_iff.mp hy))
  have hxy':Tim.K4 (Tim.X5 X.prog X.w s.heap y.1) (Tim.X5 X.prog X.w s.heap x.1)=false:=hxy
  rw[ex,ey]at hxy'
  exact hxy'
theorem bR5 {kS:Addr}{keys:Array Value}{e e1:Nat}{key:Int->List Int}{P:PySem.Fin->Shared->Prop}{H0:Hp}(I:Inv X pins σ H s)(hS:u7 H0 H)(hk:s.heap.get? kS=some (J0 "list" keys e))(ha:s.heap.get? a=some (J0 "list" #[] e1))
  (fk:R1 X pins H kS)(fa:R1 X pins H a)(hka:kS≠a)(hz:vs.length<=1000)(hkl:keys.size=vs.length)(hi:J7 vs zs)
  (hK:ae7 (fun u k=>Tim.IsK X.prog X.w s.heap k u) keys.toList (zs.map key))(hne:∀ z,∃ i k,key z=i::k)(h:aT3 X pins σ H0 a zs key P) :
  p8 (t9 X.prog X.w) A (ksk_end a false vs.toArray e1 (.ref kS) keys) P E s:=by
 obtain⟨k1,k2⟩:=aG8 hK hi
 have hzt:=ksk_zip keys vs
 unfold ksk_end
 dsimp only
 simp only[l9,if_false]
 by_cases h2:vs.toArray.size<2
 ·rw[if_pos h2,if_pos h2]
  refine b7 (d3 ?_)
  rw[StateT.run_pure]
  refine b7 (d3 ?_)
  refine bb0 (st:=SortSt.mk' general' (keys.zip vs.toArray) #[] 7 none) I hS hk ha fk fa hka hz hkl hi hK (Array.Perm.refl _) rfl ?_ h
  show (keys.zip vs.toArray).toList.Pairwise _
  rw[t7]
  intro i j hi hj hij
  rw[l5,Array.size_zip,hkl]at hj
  rw[i9]at h2 hj
  omega
 ·rw[if_neg h2,if_neg h2]
  rw[i9]at h2
  have hmemK:∀ v∈keys.toList,∃ i k,Tim.IsK X.prog X.w s.heap (i::k) v:=fun v hv=>by
   obtain⟨j,hj⟩:=o6.mp hv
   obtain⟨k,q1,q2⟩:=ac4 hK hj
   obtain⟨z,_,rfl⟩:=p0.mp (d8 q1)
   obtain⟨i,k',ek⟩:=hne z
   rw[ek]at q2
   exact⟨i,k',q2⟩
  have kk:keyKind' keys=keyKind' keys.toList.toArray:=by rw[aw2]
  rw[kk]
  refine b7 (Tim.aG7 (vs:=keys.toList) (by rw[l5,hkl];omega) hmemK ?_)
  refine b7 (E3 (Tim.az5 (a₀:=keys.zip vs.toArray) (κ:=bL1 true) (O:=Tim.bh1) (f:=fun p=>Tim.X5 X.prog X.w s.heap p.1) (st:=SortSt.mk' (bL1 true) (keys.zip vs.toArray) #[] 7 none)
   (Q:=fun _ st'=>(o4 st').Perm (keys.zip vs.toArray)/\P0 st'=none/\(o4 st').toList.Pairwise (Tim.le (Tim.Bf (O:=Tim.bh1) fun p=>Tim.X5 X.prog X.w s.heap p.1))) ?_ ([]:List Int) (Array.Perm.refl _) rfl rfl rfl fun st' a1 a2 a3=>⟨a1,a2,a3⟩) ?_ fun _ _ e=>e)
  ·intro x y hx hy Q hq
   rw[hzt]at hx hy
   refine Tim.ba5 (k1 x hx) (k1 y hy) ?_
   rw[<- Tim.W3 (k1 x hx),<- Tim.W3 (k1 y hy)]
   exact hq
  ·rintro⟨⟨⟩,st'⟩ s' ⟨rfl,hp,hf,hs⟩
   exact bb0 I hS hk ha fk fa hka hz hkl hi hK hp hf hs h
theorem bF6:∀ {vs:List Value} {zs:List Int} {j:Nat} {x:Value},J7 vs zs->vs[j]?=some x->∃ z t,zs[j]?=some z/\x=.int z t
 | _,_,_,_,.nil,h=>by simp at h
 | _,_,0,_,.cons n t q,h=>by simp at h;exact⟨n,t,rfl,h.symm⟩
 | _,_,j+1,_,.cons n t q,h=>by
  obtain⟨z,t',h1,h2⟩:=bF6 q (by simpa using h)
  exact⟨z,t',by simpa using h1,h2⟩
theorem bG3 {s':Shared}(I:Inv X (pins++aq9 fp h) σ H' s')(hb:b∈fp)(e:h.get? b=some o):s'.heap.get? b=some o/\H' b=none:=
 let p:=I.pin (b,o) (m9 _ (m9 _ (U4 hb e)))
 ⟨p.1,p.2.1⟩
theorem bE9 {kS:Addr}{f:Value}{e1:Nat}{key:Int->List Int}{P:PySem.Fin->Shared->Prop}(I:Inv X pins σ H s)(hk:s.heap.get? kS=some (J0 "list" #[] 0))(ha:s.heap.get? a=some (J0 "list" #[] e1))
  (fk:R1 X pins H kS)(fa:R1 X pins H a)(hka:kS≠a)(hz:vs.length<=1000)(hi:J7 vs zs)(hne:∀ z,∃ i k,key z=i::k)(turn:∀ z∈zs,aT2 X A σ H f key z)(h:aT3 X pins σ H a zs key P) :
  p8 (t9 X.prog X.w) A (ksk_rest a f false vs.toArray e1 (.ref kS)) P E s:=by
 have hlen:=hi.length
 unfold ksk_rest
 refine b7 (aq2 ?_)
 first
  | rw[List.forIn_toArray]
  | (rw[<- ai8];simp only[bU4])
  | rw[<- ai8]
 refine b7 (ksk_fold (fun i s'=>∃ (kA:Array Value) (e:Nat) (H':Hp) (ys:List V),Inv X pins σ H' s'/\u7 H H'/\s'.heap.get? kS=some (J0 "list" kA e)/\s'.heap.get? a=some (J0 "list" #[] e1)/\R1 X pins H' kS/\R1 X pins H' a /\
   C8 ys kA.toList/\A4 X.K H' ys ((zs.take i).map key)) vs 0 s ⟨#[],0,H,[],I,u7.refl H,hk,ha,fk,fa,.nil,.nil⟩ ?step ?done)
 case step =>
  rintro j x s' hx ⟨kA,e,H',ys,I',hS,hk',ha',fk',fa',hv,ht⟩
  simp only[O6]at ht ⊢
  have hj:j<vs.length:=(d9.mp hx).1
  obtain⟨z,t,hzj,rfl⟩:=bF6 hi hx
  have hzA:kA.size<=vs.length:=by
   have h1:ys.length=kA.size:=by rw[<- l5];exact hv.length
   have h2:=ht.len
   rw[b8,q8]at h2
   omega
  have Ip:=I'.pinned (fp:=[kS,a]) (fun b hb=>by
   rcases d7.mp hb with rfl | hb
   ·exact fk'
   ·rw[x8.mp hb];exact fa') (fun b hb=>by
   rcases d7.mp hb with rfl | hb
   ·exact⟨_,hk',fun v q=>by cases q⟩
   ·rw[x8.mp hb];exact⟨_,ha',fun v q=>by cases q⟩)
  refine b7 (ah3 (E3 (turn z (d8 hzj) t _ s' H' Ip hS) (fun v s'' he=>?_) fun _ _ hF=>hF.elim))
  obtain⟨k,H'',rfl,hk'',I'',hS'⟩:=he
  obtain⟨nk,fk0⟩:=bG3 I'' f9 hk'
  obtain⟨na,fa0⟩:=bG3 I'' (d6 _ f9) ha'
  have Iu:=I''.unpinned
  have fk'':R1 X pins H'' kS:=fk'.to fk0
  have fa'':R1 X pins H'' a:=fa'.to fa0
  have s1:=Heap.SameBut.update s''.heap kS (Obj.mapSeq (·.push (.ref k)))
  obtain⟨c2,hc2⟩:∃ c2,(s''.heap.update kS (Obj.mapSeq (·.push (Value.ref k)))).get? kS=some (J0 "list" (kA.push (.ref k)) c2):=⟨_,aa5 nk (·.push (.ref k))⟩
  have ea:(kA.push (Value.ref k)).toList=kA.toList++[Value.ref k]:=by simp
  have ek:zs.take (j+1)=zs.take j++[z]:=by rw[A7,hzj];simp
  refine b7 (ah4 nk rfl ?_ (by rw[E4];omega) (x9 (aw1 (A9 ..)) (by rw[E4];omega)))
  refine d3 ⟨rfl,kA.push (.ref k),c2,H'',ys++[.ref k],?_,hS.trans hS',hc2,(s1.2 a hka.symm).trans na,fk'',fa'',?_,?_⟩
  ·exact Iu.turn (t':=s''.toks) fk'' fun b o hb q=>(s1.2 b hb).trans q
  ·rw[ea]
   exact hv.append (.cons rfl .nil)
  ·rw[ek,j9]
   exact A4.append (A4.same hS' ht) (.cons ⟨k,rfl,.of hk''⟩ .nil)
 case done =>
  rintro s' ⟨kA,e,H',ys,I',hS,hk',ha',fk',fa',hv,ht⟩
  have e3:zs.take (0+vs.length)=zs:=k8 (by omega)
  rw[e3]at ht
  refine b7 (bY3 hk' rfl ?_)
  have h1:ys.length=kA.size:=by rw[<- l5];exact hv.length
  have h2:=ht.len
  rw[b8]at h2
  have hK:=af6 I' ht hv
  exact bR5 I' hS hk' ha' fk' fa' hka hz (by omega) hi (aF5 (fun u k q=>q) hK) hne h
theorem bE8 {f:Value}{key:Int->List Int}{P:PySem.Fin->Shared->Prop}(I:Inv X pins σ H s)(ha:s.heap.get? a=some (J0 "list" vs.toArray n))
  (fa:R1 X pins H a)(hz:vs.length<=1000)(hi:J7 vs zs)(hne:∀ z,∃ i k,key z=i::k)(turn:∀ z∈zs,aT2 X A σ H f key z)(h:aT3 X pins σ H a zs key P) :
  p8 (t9 X.prog X.w) A (ksk_tree a f false) P E s:=by
 have hlt:a<s.heap.objs.size:=d5 ha
 have s1:=Heap.SameBut.update s.heap a (Obj.mapSeq fun _=>(#[]:Array Value))
 obtain⟨e1,ho1⟩:∃ e1,(s.heap.update a (Obj.mapSeq fun _=>(#[]:Array Value))).get? a=some (J0 "list" #[] e1):=⟨_,aa5 ha fun _=>#[]⟩
 have I1:Inv X pins σ H { s with heap:=s.heap.update a (Obj.mapSeq fun _=>(#[]:Array Value)),toks:=s.toks }:=I.turn fa fun b o hb q=>(s1.2 b hb).trans q
 unfold ksk_tree
 refine b7 (bY3 ha rfl ?_)
 refine b7 (ah4 ha rfl ?_ (by rw[i9,E4];omega) (t8 _))
 refine b7 (bq8 ho1 rfl ?_)
 refine b7 (bw6 ?_ (by show vs.length<=_;rw[E4];omega))
 refine b7 (V5 ?_ (t8 _))
 refine D9 ?_
 generalize hh2:(s.heap.update a (Obj.mapSeq fun _=>(#[]:Array Value))).push (J0 "tuple" vs.toArray 0)=h2
 have hsz:h2.objs.size=s.heap.objs.size+1:=by rw[<- hh2,bJ8,ci6]
 have I2:Inv X pins σ H { s with heap:=h2,toks:=s.toks }:=I1.kept (t':=s.toks) fun b o q=>by rw[<- hh2];exact c5 _ q
 have I3:Inv X pins σ H { s with heap:=h2.push (J0 "list" #[] 0),toks:=s.toks }:=I2.kept (t':=s.toks) fun b o q=>c5 _ q
 have fk:R1 X pins H h2.objs.size:=I2.fpOk (c9 _) (I2.hok.fresh (c9 _))
 refine bE9 (s:={ s with heap:=h2.push (J0 "list" #[] 0),toks:=s.toks }) (kS:=h2.objs.size) (e1:=e1) I3 (i6 _ rfl) ?_ fk fa (by rw[hsz];exact M6 (B3 hlt)) hz hi hne turn h
 refine c5 _ ?_
 rw[<- hh2]
 exact c5 _ ho1
theorem bf5 {r q:Addr}{key:Int->List Int}(I:Inv X pins σ H s)(hh:A.handled=none)(hr:∃ t u v,IsRange s.heap r 0 n 1 t u v)(hn:n<=1000)(hne:∀ z,∃ i k,key z=i::k)
  (turn:∀ z∈(ap0 0 n).map (fun k:Nat=>(k:Int)),aT2 X A.in1.in1 σ H (.ref q) key z)
  (h:∀ (H':Hp) (s':Shared) (D:Addr) (zs:List Int),u7 H H'->H' D=none->zs.Perm ((ap0 0 n).map fun k:Nat=>(k:Int))->zs.Pairwise (fun x y=>Tim.K4 (key y) (key x)=false)->Inv X pins σ (upd H' D (.lst (zs.map V.int))) s'->Q (.ref D) s') :
  p8 (t9 X.prog X.w) A (call (.builtin "sorted") [.ref r] [(Str.ofString "key",.ref q)]) Q E s:=by
 obtain⟨t,u,v,hr⟩:=hr
 refine bV0 cj7 bY4 bY5 (ksk_s1 _ _) ?_
 unfold Builtin.«sorted»
 refine b7 (m:=checkCount "sorted" 1 1 _) (d3 ?_)
 refine b7 (bc5 (A:=A.in1) hh hr hn fun h1 tk vs kp hi=>?_)
 have hlen:=hi.length
 rw[b8,aJ2]at hlen
 have I1:Inv X pins σ H { s with heap:=h1,toks:=tk }:=I.kept kp
 refine b7 (V5 ?_ (by rw[E4];omega))
 have fD:R1 X pins H h1.objs.size:=I1.fpOk (c9 _) (I1.hok.fresh (c9 _))
 have I2:Inv X pins σ H { s with heap:=h1.push (J0 "list" vs.toArray 0),toks:=tk }:=I1.kept (t':=tk) fun b o q=>c5 _ q
 have hoL:(h1.push (J0 "list" vs.toArray 0)).get? h1.objs.size=some (J0 "list" vs.toArray 0):=i6 _ rfl
 refine b7 (D9 (cj8 bw7 (s:={ s with heap:=h1.push (J0 "list" vs.toArray 0),toks:=tk }) ⟨_,hoL,rfl⟩ bq9 ?body (ksk_l1 _ _)))
 show p8 (t9 X.prog X.w) A.in1.in1 (Builtin.«list.sort» ⟨[.ref h1.objs.size],[(Str.ofString "key",.ref q)]⟩) _ _ _
 rw[ksk_t1]
 refine bE8 I2 hoL fD (by omega) hi hne turn fun H' s' out zs' c I' hS fa' hout hi' hp hs=>⟨_,rfl,?_⟩
 have hl2:zs'.length<=1000:=by rw[hp.length_eq,b8,aJ2];exact hn
 refine d3 ⟨_,rfl,h H' s' h1.objs.size zs' hS fa'.1 hp hs ?_⟩
 have:=I'.take (t':=s'.toks) (h':=s'.heap) (o:=.lst (zs'.map V.int)) fa' (fun b u _ q=>q) ⟨by rw[b8,E4];omega,out,c,an1 hi',hout⟩
 exact this
abbrev ar2 (qual:Str)(scope:Scope)(cl:List (Str × Addr))(f:Addr)(cv:Value)(s:Shared):Env:=PySem.W.envX qual scope s.heap.objs.size f cv cl
def bE0 (X:Cx)(A:Around)(qual:Str)(scope:Scope)(cl:List (Str × Addr))(N':List Str)(f:Addr)(cv:Value)(s:Shared)(H:Hp):Cx:=
 { X with A:=A.deeper (ar2 qual scope cl f cv s),N:=N',s₀:=s,H₀:=H,env:=ar2 qual scope cl f cv s,outer:=X.stack,stack:=List.cons (ar2 qual scope cl f cv s) X.stack,ex:=[],fn:=fun _=>false,calm:=true,pn:=[],xe:=fun _ _=>False }
def aO6 (X:Cx)(N':List Str)(lk:List (Option Nat))(scope:Scope)(cl:List (Str × Addr)):Prop:=
 lk.length=N'.length/\∀ (i j:Nat) (x:Str),N'[i]?=some x->lk[i]?=some (some j)->X.N[j]?=some x/\(X.env.scope.names.lookup x=some .cell\/X.env.scope.names.lookup x=some .free)/\(cl.lookup x).isSome=true /\
  (scope.names.lookup x=some .cell\/scope.names.lookup x=some .free)
theorem bt7 {h1:Heap}{tk:Nat}{p:Str}{cv:Value}{v:V}(I:Inv X pins σ H s)(hA:A.frames=some X.stack)(hh:A.handled=none)(hkind:scope.kind=.function)(hcl:aI9 X.env cl)(hfr:av3 scope.names cl=true)(hlk:aO6 X N' lk scope cl)
  (hp:scope.names.lookup p=some .local)(rv:RelV v u)(hn:h1.Ns s.heap.objs.size (fun y=>[(p,u)].reverse.lookup y))(hk:∀ b o,s.heap.get? b=some o->h1.get? b=some o) :
  Inv (bE0 X A qual scope cl (p::N') f cv s H) [] (some v::ai5 lk σ) H { s with heap:=h1,toks:=tk }:=by
 have hC:H s.heap.objs.size=none:=I.hok.fresh (c9 _)
 have hmem:∀ y∈scope.names,y.2≠.cell/\(y.2=.free->(cl.lookup y.1).isSome=true):=fun y hy=>by
  unfold av3 at hfr
  rw[G8]at hfr
  have:=hfr y hy
  rw[C9]at this
  refine⟨by simpa using this.1,fun e=>?_⟩
  have h2:=this.2
  rw[e]at h2
  simpa using h2
 have hcell:∀ x c,cl.lookup x=some c->X.env.cells.lookup x=some c:=fun x c e=>hcl.get e
 have noE:∀ b:Addr,b∉([]:List Addr):=fun b z=>nomatch z
 refine⟨⟨I.ok.mod,hkind,rfl,rfl,c9 _,fun x y c e1 e2=>I.ok.inj x y c (hcell x c e1) (hcell y c e2),fun x hx=>?_,(fun x c e=>by cases e),fun _=>hh,Around.frames_deeper hA,.inr ⟨rfl,rfl⟩,fun b z=>absurd z (noE b),fun b o e=>I.bs b o e,x9 I.ok.bsz I.sz,fun b _ _=>noE b,fun b z=>absurd z (noE b),I.stack,I.stkFree⟩,
  rfl,I.bare,Un.kept hk,⟨_,hn,fun i x w e1 e2 e3=>?_⟩,fun x c e=>?_,hC,fun x c e=>I.freeC x c (hcell x c e),(fun q hq=>nomatch hq),I.hok.kept hk,?_⟩
 ·have hx':scope.names.lookup x=some .cell\/scope.names.lookup x=some .free:=hx
  rcases hx' with h | h
  ·exact absurd rfl (hmem _ (PySem.mem_of_lookup h)).1
  ·exact o9.mp ((hmem _ (PySem.mem_of_lookup h)).2 rfl)
 ·cases i with
  | zero =>
   have e1':p=x:=by simpa using (show (p::N')[0]?=some x from e1)
   have e2':v=w:=by simpa using (show (some v::ai5 lk σ)[0]?=some (some w) from e2)
   subst e1' e2'
   refine⟨u,rv,.inl ⟨hp,?_⟩⟩
   show [(p,u)].reverse.lookup p=some u
   simp[E2]
  | succ i =>
   have e1':N'[i]?=some x:=by simpa using (show (p::N')[i+1]?=some x from e1)
   have e2':(ai5 lk σ)[i]?=some (some w):=by simpa using (show (some v::ai5 lk σ)[i+1]?=some (some w) from e2)
   unfold ai5 at e2'
   rw[o5]at e2'
   cases hq:lk[i]? with
   | none=>rw[hq]at e2';cases e2'
   | some o =>
    rw[hq]at e2'
    have e2'':(o.bind fun j=>(σ[j]?).join)=some w:=Option.some.inj e2'
    cases o with
    | none=>cases e2''
    | some j =>
     obtain⟨q1,q2,q3,q4⟩:=hlk.2 i j x e1' hq
     have hσ:σ[j]?=some (some w):=by
      have z:(σ[j]?).join=some w:=e2''
      cases hh:σ[j]? with
      | none=>rw[hh]at z;cases z
      | some o=>rw[hh]at z;rw[show o=some w from z]
     obtain⟨m,hnX,hl⟩:=I.loc
     obtain⟨u',r,lo⟩:=hl j x w q1 hσ (q2.elim (fun a=>.inr (.inl a)) (fun a=>.inr (.inr a)))
     refine⟨u',r,.inr ?_⟩
     obtain⟨c,hc⟩:=o9.mp q3
     refine⟨q4,c,hc,?_⟩
     have hcX:=hcell x c hc
     rcases lo with⟨k,_⟩ | ⟨_,c',hc',z⟩
     ·have k':X.env.scope.names.lookup x=some .local:=k
      rw[k']at q2
      rcases q2 with q2 | q2<;>cases q2
     ·rw[hcX]at hc'
      cases hc'
      obtain⟨o,ho,hd⟩:=z
      exact⟨o,hk c o ho,hd⟩
 ·obtain⟨w,o,ho,hd⟩:=I.cell x c (hcell x c e)
  exact⟨w,o,hk c o ho,hd⟩
 ·show (some v::ai5 lk σ).length=(p::N').length
  unfold ai5
  rw[p6,b8,p6,hlk.1]
theorem bD9 {name p:Str}{body:Expr}{c':Addr}{pm ctv:Value}{v:V}{Q:VK}(I:Inv X pins σ H s)(hA:A.frames=some X.stack)(hh:A.handled=none)(hroom:A.depth<aJ3)
  (ho:s.heap.get? f=some (PySem.W.kla_obj name qual params body scope cl pm c' ctv))(hcd:s.heap.CodeRec (.ref c') qual)(hbind:bj8 (PySem.W.kla_fn name qual params body scope cl pm (.ref c') ctv) ⟨[u],[]⟩=pure [(p,u)])
  (hkind:scope.kind=.function)(hco:scope.isCoroutine=false)(hgen:scope.isGenerator=false)(hcl:aI9 X.env cl)(hfr:av3 scope.names cl=true)(hlk:aO6 X N' lk scope cl)(hp:scope.names.lookup p=some .local)(rv:RelV v u)
  (he:PE (bE0 X A qual scope cl (p::N') f (.ref c') s H) body te)(ht:te (some v::ai5 lk σ) H Q) :
  p8 (t9 X.prog X.w) A (call (.ref f) [u]) (fun u' s'=>∃ v' H',Inv X pins σ H' s'/\RelV v' u'/\Q v' H') (fun _ _=>False) s:=by
 have hcellN:∀ y∈scope.names,y.2≠.cell:=fun y hy=>by
  unfold av3 at hfr
  rw[G8]at hfr
  have:=hfr y hy
  rw[C9]at this
  simpa using this.1
 refine bJ6 (PySem.W.kla_callFunE hroom ho rfl hco hgen rfl hcd ?_)
 show p8 _ _ (bj8 (PySem.W.kla_fn name qual params body scope cl pm (.ref c') ctv) ⟨[u],[]⟩) _ _ s
 rw[hbind]
 refine d3 (ah0 hcellN (fun y hy=>by rw[x8.mp hy];exact hp) (fun h1 hns hsb=>?_) hkind)
 have hk₁:∀ b o,s.heap.get? b=some o->h1.get? b=some o:=fun b o e=>hsb.extBut b o (k9 (d5 e)) (c5 _ e)
 refine⟨I.nolimit.keeps hk₁,?_⟩
 show ar8 _ _ (.expr body (PySem.W.envX qual scope s.heap.objs.size f (.ref c') cl)) _ _
 have I1:=bt7 (tk:=s.toks+[(p,u)].length) (qual:=qual) (f:=f) (cv:=.ref c') I hA hh hkind hcl hfr hlk hp rv hns hk₁
 refine PySem.W.kla_codeExpr (E3 (he [] _ _ H Q I1 ht) (fun u' s' hq=>?_) fun _ _ z=>False.elim z)
 obtain⟨v',H',J,r',q⟩:=hq
 exact⟨v',H',I.call' (ch:=[]) J.os J.base J.hok J.bare (fun b z=>nomatch z),r',q⟩
def aA4 (c:Addr)(qual:Str):HO:=.ext fun h=>h.CodeRec (.ref c) qual
def S8 (f:Addr)(o:Obj):HO:=.ext fun h=>h.get? f=some o
def U7 (P:Addr)(pos:Pos)(qual:Str)(H:Hp):Prop:=∃ ps,H P=some (.tbl ps)/\TriplesOk ps.toList/\(bY8 pos ps.toList=none\/∃ c',bY8 pos ps.toList=some (.ref c')/\H c'=some (aA4 c' qual))
def U5 (P:Addr)(H H':Hp):Prop:=∀ b o,b≠P->H b=some o->H' b=some o
theorem U5.trans {P:Addr}{H1 H2:Hp}(a:U5 P H H1)(b:U5 P H1 H2):U5 P H H2:=fun c o n h=>b c o n (a c o n h)
theorem u7.grow (P:Addr)(h:u7 H H'):U5 P H H':=fun b o _ q=>h b o q
theorem U7.same {P:Addr}(t:U7 P pos qual H)(h:u7 H H'):U7 P pos qual H':=by
 obtain⟨ps,h1,h2,h3⟩:=t
 refine⟨ps,h _ _ h1,h2,?_⟩
 rcases h3 with h3 | ⟨c',h3,h4⟩
 ·exact .inl h3
 ·exact .inr ⟨c',h3,h _ _ h4⟩
structure av2 (base:Heap) (mg:Str->Option Value) (c P:Addr):Prop where
 hd:PySem.W.CodeHd base c P
 blt:base.BuiltinsAt mg P
 ne:j5≠P
theorem bw0 {c:Value}{l:List Value}(h:TriplesOk l)(hn:bY8 pos l=none):bY8 pos (l++[Z4 pos.line,Z4 pos.col,c])=some c:=codeAmong_snoc l h hn
def ck8 (P:Addr)(pos:Pos)(qual:Str)(params:Arguments)(body:Expr)(scope:Scope)(cl:List (Str × Addr))(pm:Value):TE:=fun σ H Q=>U7 P pos qual H/\∀ f c' ctv H',U5 P H H'->U7 P pos qual H'->H f=none ->
 H' f=some (S8 f (PySem.W.kla_obj "<lambda>" qual params body scope cl pm c' ctv))->H' c'=some (aA4 c' qual)->Q (.ref f) H'
theorem bB5 {body:Expr}{P:Addr}(B:av2 X.base X.mg c P)(hcode:X.env.code=.ref c)(hcl:aU7 scope X.env=pure cl)(hdef:defaultsOf params X.env=([],[])) :
  PE X (.Lambda params body scope pos) (ck8 P pos (X.env.qual++"<lambda>") params body scope cl ((X.mg "__name__").getD .none)):=by
 intro pins s σ H Q I h
 obtain⟨⟨ps,hP,ht,hin⟩,q⟩:=h
 have hPh:s.heap.get? P=some (PySem.W.tabObj ps):=I.hok P _ hP
 have C:=B.hd.keeps I.bk
 have hb:s.heap.BuiltinsAt X.mg P:=by
  obtain⟨bm,ob,b1,b2,b3,b4,b5,b6⟩:=B.blt
  exact⟨bm,ob,b1,b2,b3,b4,I.bk _ _ b5,b6⟩
 refine PySem.W.kla_eval hdef ?_
 rcases hin with hnf | ⟨c',hf,hc'⟩
 ·refine PySem.W.kla_makeFunction hcl I.ok.glob (I.mod.glob.keeps I.bk) hcode C hPh ht hnf B.ne hb fun c' ctv h' tk hx hge hlt hrec htb=>?_
  have hPlt:P<s.heap.objs.size:=d5 hPh
  have hsz:s.heap.objs.size<=h'.objs.size:=x9 hge (av9 hlt)
  have cP:P≠c':=k9 (p9 hPlt hge)
  have fP:P≠h'.objs.size:=k9 (p9 hPlt hsz)
  have fc:c'≠h'.objs.size:=k9 hlt
  have hcn:H c'=none:=I.hok.fresh hge
  have hfn:H h'.objs.size=none:=I.hok.fresh hsz
  have hfr:(PySem.W.kla_obj "<lambda>" (X.env.qual++"<lambda>") params body scope cl ((X.mg "__name__").getD .none) c' ctv).isFreed=false:=rfl
  generalize hobj:PySem.W.kla_obj "<lambda>" (X.env.qual++"<lambda>") params body scope cl ((X.mg "__name__").getD .none) c' ctv=ob at *
  generalize hps:ps++#[Z4 pos.line,Z4 pos.col,.ref c']=ps' at *
  have hps2:ps'.toList=ps.toList++[Z4 pos.line,Z4 pos.col,.ref c']:=by rw[<- hps];simp
  generalize hH1:upd (upd (upd H P (.tbl ps')) c' (aA4 c' (X.env.qual++"<lambda>"))) h'.objs.size (S8 h'.objs.size ob)=H1
  have v1:H1 h'.objs.size=some (S8 h'.objs.size ob):=by rw[<- hH1];exact c6
  have v2:H1 c'=some (aA4 c' (X.env.qual++"<lambda>")):=by rw[<- hH1,t4 fc];exact c6
  have v3:H1 P=some (.tbl ps'):=by rw[<- hH1,t4 fP,t4 cP];exact c6
  have v4:∀ b,b≠P->b≠c'->b≠h'.objs.size->H1 b=H b:=fun b n1 n2 n3=>by rw[<- hH1,t4 n3,t4 n2,t4 n1]
  have v5:∀ b u,b≠P->H b=some u->H1 b=some u:=fun b u n e=>by rw[v4 b n (r6 e hcn) (r6 e hfn)];exact e
  have k1:∀ b o,b≠P->s.heap.get? b=some o->(h'.push ob).get? b=some o:=fun b o n e=>c5 _ (hx b o n e)
  have neP:∀ b,H b=none->b≠P:=fun b n z=>by rw[z,hP]at n;cases n
  have hPn:(h'.push ob).get? P=some (PySem.W.tabObj ps'):=c5 _ htb
  have un:Un X.fs [] H H1 s.heap (h'.push ob):=by
   refine⟨fun b o e n _ _=>k1 b o (neP b n) e,fun b o e n _ _=>⟨o.slots,k1 b o (neP b n) e⟩,fun b o e n _=>?_,fun b o e _=>?_,fun b xs e=>v5 b _ (fun z=>by rw[z,hP]at e;cases e) e,fun b o u e=>v5 b _ (fun z=>by rw[z,hP]at e;cases e) e,fun b qs e=>?_⟩
   ·rw[v4 b (neP b n) (k9 (p9 (d5 e) hge)) (k9 (p9 (d5 e) hsz))]
    exact n
   ·by_cases hb:b=P
    ·rw[hb];exact⟨_,hPn⟩
    ·exact⟨o,k1 b o hb e⟩
   ·by_cases hb:b=P
    ·rw[hb,hP]at e
     cases e
     rw[hb]
     exact⟨#[Z4 pos.line,Z4 pos.col,.ref c'],by rw[v3,<- hps]⟩
    ·exact⟨#[],by rw[v5 b _ hb e];simp⟩
  have hok:HOk X.prog X.w H1 (h'.push ob):=by
   intro b u e
   by_cases hb1:b=h'.objs.size
   ·subst hb1
    rw[v1]at e
    cases e
    exact⟨i6 _ hfr,⟨_,i6 _ hfr⟩,fun h1 h2 q z=>z _ q⟩
   ·by_cases hb2:b=c'
    ·subst hb2
     rw[v2]at e
     cases e
     obtain⟨c2,oc,vs,tq,e1,e2,e3,e4⟩:=hrec
     cases e1
     exact⟨⟨_,oc,vs,tq,rfl,c5 _ e2,e3,e4⟩,⟨oc,c5 _ e2⟩,fun h1 h2 ⟨c3,o3,vs3,t3,q1,q2,q3,q4⟩ z=>by cases q1;exact⟨_,o3,vs3,t3,rfl,z _ q2,q3,q4⟩⟩
    ·by_cases hb3:b=P
     ·subst hb3
      rw[v3]at e
      cases e
      exact hPn
     ·rw[v4 b hb3 hb2 hb1]at e
      refine(I.hok b u e).stay (fun d v hd z=>k1 d v ?_ z) (fun d z=>v5 _ _ ?_ z) fun d xs z=>v5 _ _ ?_ z
      ·rcases hd with hd | hd
       ·rw[hd];exact hb3
       ·intro zz;rw[zz,hP]at hd;cases hd
      ·intro zz;rw[zz,hP]at z;cases z
      ·intro zz;rw[zz,hP]at z;cases z
  have I1:Inv X pins σ H1 { s with heap:=h'.push ob,toks:=tk }:=I.un un hok
  refine⟨.ref h'.objs.size,H1,I1,rfl,q _ c' ctv H1 (fun b o n e=>v5 b o n e) ⟨ps',v3,?_,.inr ⟨c',?_,v2⟩⟩ hfn ?_ v2⟩
  ·rw[hps2];exact TriplesOk_snoc _ _ _ _ ht
  ·rw[hps2];exact bw0 ht hnf
  ·rw[hobj];exact v1
 ·refine PySem.W.kla_makeFunctionHit hcl I.ok.glob (I.mod.glob.keeps I.bk) hcode C hPh ht hf hb fun ctv h' tk hk hsz=>?_
  have hfn:H h'.objs.size=none:=I.hok.fresh hsz
  have hfr:(PySem.W.kla_obj "<lambda>" (X.env.qual++"<lambda>") params body scope cl ((X.mg "__name__").getD .none) c' ctv).isFreed=false:=rfl
  generalize hobj:PySem.W.kla_obj "<lambda>" (X.env.qual++"<lambda>") params body scope cl ((X.mg "__name__").getD .none) c' ctv=ob at *
  have I1:Inv X pins σ (upd H h'.objs.size (S8 h'.objs.size ob)) { s with heap:=h'.push ob,toks:=tk }:=I.laid (fun b o e=>c5 _ (hk b o e)) hsz ⟨i6 _ hfr,⟨_,i6 _ hfr⟩,fun h1 h2 q z=>z _ q⟩
  have sm:u7 H (upd H h'.objs.size (S8 h'.objs.size ob)):=fun b o e=>by rw[t4 (r6 e hfn)];exact e
  refine⟨.ref h'.objs.size,_,by rw[<- hobj]at I1;rw[<- hobj];exact I1,rfl,q _ c' ctv _ (sm.grow P) (U7.same ⟨ps,hP,ht,.inr ⟨c',hf,hc'⟩⟩ sm) hfn (by rw[hobj];exact c6) (sm _ _ hc')⟩
def ck3 (ta:TA):TE:=fun σ H Q=>ta σ H fun vs H1=>∃ n:Nat,vs=[.int n]/\n<=1000/\∀ r,H1 r=none->Q (.ref r) (upd H1 r (.rng 0 n))
def bZ9 (P:Addr)(lpos:Pos)(qual:Str)(lk:List (Option Nat))(te:TE)(tr:TA):TE:=fun σ H Q=>tr σ H fun vs H1=>∃ (r:Addr) (n:Nat) (key:Int->List Int),vs=[.ref r]/\H1 r=some (.rng 0 n)/\n<=1000/\(∀ z,∃ i k,key z=i::k)/\U7 P lpos qual H1 /\
 ∀ H2,U5 P H1 H2->U7 P lpos qual H2->(∀ (H3:Hp) (z:Nat),u7 H2 H3->z<n->te (some (.int z)::ai5 lk σ) H3 fun v H4=>∃ k,v=.ref k/\H4 k=some (.tup ((key z).map V.int))/\u7 H3 H4) /\
  ∀ (H':Hp) (D:Addr) (zs:List Int),u7 H2 H'->H' D=none->zs.Perm ((ap0 0 n).map fun k:Nat=>(k:Int))->zs.Pairwise (fun x y=>Tim.K4 (key y) (key x)=false)->Q (.ref D) (upd H' D (.lst (zs.map V.int)))
theorem bO3 {a:Expr}{ta:TA}{p:Pos}(hg:Gl X "range")(hm:X.mg "range"=none)(ha:PA X [a] ta)(hs:v9 [a] X.env=[(false,eval a X.env)]:=by rfl):PE X (.Call (.Name "range" p) [a] [] pos) (ck3 ta):=by
 intro pins s σ H Q I h
 refine Call_ (Z7 I hg hm boot_range (PyProof.Rows.callWith_type1 (thn (ha pos pins s σ H _ I h) fun us s1 ⟨vs,H1,I1,r1,q1⟩=>?_) hs rfl))
 obtain⟨n,e,hn,q⟩:=q1
 subst e
 cases r1 with
 | cons r rr =>
  cases rr
  obtain⟨t,rfl⟩:=r
  refine call_range_1 ?_
  have hf:H1 s1.heap.objs.size=none:=I1.hok.fresh (c9 _)
  exact⟨.ref s1.heap.objs.size,upd H1 s1.heap.objs.size (.rng 0 n),I1.laid (fun b o e=>c5 _ e) (c9 _) ⟨_,_,_,i6 _ rfl⟩,rfl,q _ hf⟩
theorem bB3 {body:Expr}{p:Str}{np lpos kpos:Pos}{P:Addr}{tr:TA}(hc:X.calm=true)(hd:X.A.depth<aJ3)(hg:Gl X "sorted")(hm:X.mg "sorted"=none)(ha:PA X [e] tr)
  (B:av2 X.base X.mg c P)(hcode:X.env.code=.ref c)(hcl:aU7 scope X.env=pure cl)(hdef:defaultsOf params X.env=([],[]))(hkind:scope.kind=.function)(hco:scope.isCoroutine=false)(hgen:scope.isGenerator=false)(hclo:aI9 X.env cl)(hfr:av3 scope.names cl=true)(hlk:aO6 X N' lk scope cl)
  (hp:scope.names.lookup p=some .local)(hbind:∀ (pm ctv u:Value) (c':Addr),bj8 (PySem.W.kla_fn "<lambda>" (X.env.qual++"<lambda>") params body scope cl pm (.ref c') ctv) ⟨[u],[]⟩=pure [(p,u)])
  (he:∀ f c' s3 H3,PE (bE0 X X.A.in1.in1 (X.env.qual++"<lambda>") scope cl (p::N') f (.ref c') s3 H3) body te)
  (hs:V0 pos (v9 [e] X.env)=(false,eval e X.env)::V0 pos (v9 [] X.env):=by rfl)
  (hpl:(V0 pos (v9 [e] X.env)).any (·.1)=false:=by rfl) :
  PE X (.Call (.Name "sorted" np) [e] [⟨some "key",.Lambda params body scope lpos,kpos⟩] pos) (bZ9 P lpos (X.env.qual++"<lambda>") lk te tr):=by
 intro pins s σ H Q I h
 refine M0 (Z7 I hg hm (show L6 "sorted"=some (.builtin "sorted") from rfl) ?_ (by decide) (by decide))
 refine cj9 (thn (ha pos pins s σ H _ I h) fun us s1 ⟨vs,H1,I1,r1,q1⟩=>?_) hs hpl rfl rfl
 obtain⟨r,n,key,rfl,hr,hn,hne,tb,q⟩:=q1
 have hk:PK X [⟨some "key",.Lambda params body scope lpos,kpos⟩] (aW0 (ck8 P lpos (X.env.qual++"<lambda>") params body scope cl ((X.mg "__name__").getD .none)) bx2):=aQ8 (bB5 B hcode hcl hdef) bg3
 refine thn (hk pos pins s1 σ H1 (fun zs H2=>∃ f c' ctv,zs=[.ref f]/\U5 P H1 H2/\U7 P lpos (X.env.qual++"<lambda>") H2/\H2 f=some (S8 f (PySem.W.kla_obj "<lambda>" (X.env.qual++"<lambda>") params body scope cl ((X.mg "__name__").getD .none) c' ctv))/\H2 c'=some (aA4 c' (X.env.qual++"<lambda>"))) I1
  ⟨tb,fun f c' ctv H2 g1 g2 g3 g4 g5=>⟨f,c',ctv,rfl,g1,g2,g4,g5⟩⟩) fun ws s2 ⟨zs,H2,I2,r2,f,c',ctv,ez,g1,g2,g4,g5⟩=>?_
 subst ez
 obtain⟨w,rfl,rw⟩:=vals1 r2
 obtain⟨u,rfl,ru⟩:=vals1 r1
 cases rw
 cases ru
 obtain⟨wish,fin⟩:=q H2 g1 g2
 have rP:r≠P:=fun z=>by
  obtain⟨ps,hP,_⟩:=tb
  rw[z,hP]at hr
  cases hr
 have hr2:H2 r=some (.rng 0 n):=g1 r _ rP hr
 obtain⟨t1,t2,t3,hro⟩:=I2.hok r _ hr2
 have hh:X.A.handled=none:=I.ok.hd hc
 refine bf5 (n:=n) (key:=key) I2 hh ⟨t1,t2,t3,hro⟩ hn hne (fun z hz=>?_) fun H' s' D zs' a1 a2 a3 a4 I'=>⟨.ref D,_,I',rfl,fin H' D zs' a1 a2 a3 a4⟩
 obtain⟨k,hk',rfl⟩:=p0.mp hz
 have hkn:k<n:=by
  have:=aK9.mp hk'
  omega
 intro t pins' s3 H3 I3 sm
 have ho:s3.heap.get? f=some (PySem.W.kla_obj "<lambda>" (X.env.qual++"<lambda>") params body scope cl ((X.mg "__name__").getD .none) c' ctv):=(I3.hok f _ (sm _ _ g4)).1
 have hcd:s3.heap.CodeRec (.ref c') (X.env.qual++"<lambda>"):=(I3.hok c' _ (sm _ _ g5)).1
 refine E3 (bD9 (A:=X.A.in1.in1) (v:=.int k) (u:=.int k t) I3 I3.ok.frames hh hd ho hcd (hbind _ _ _ _) hkind hco hgen hclo hfr hlk hp ⟨t,rfl⟩ (he f c' s3 H3) (wish H3 k sm hkn)) (fun u' s' hq=>?_) fun _ _ z=>z
 obtain⟨v',H',J,r',kk,rfl,hkk,sm'⟩:=hq
 cases r'
 exact⟨kk,H',rfl,hkk,J,sm'⟩
theorem G7.there {o:HO}(x:G7 P w H h a o):∃ ob,h.get? a=some ob:=by
 cases o with
 | lst xs=>obtain⟨_,_,_,_,e⟩:=x;exact⟨_,e⟩
 | tup xs=>obtain⟨_,_,_,ob,e,_⟩:=x;exact⟨_,e⟩
 | dK kvs=>obtain⟨_,_,_,_,o,_,_,e,_⟩:=x;exact⟨_,e⟩
 | dT kvs=>obtain⟨_,_,_,_,o,_,_,e,_⟩:=x;exact⟨_,e⟩
 | set S n=>obtain⟨o,_,_,_,e,_⟩:=x;exact⟨_,e⟩
 | ins C dx fs=>obtain⟨_,_,_,e,_⟩:=x;exact⟨_,e⟩
 | own y=>obtain⟨ob,e⟩:=x;exact⟨ob,e⟩
 | xd fs=>obtain⟨_,⟨_,_,_,e,_⟩,_⟩:=x;exact⟨_,e⟩
 | rng lo hi=>obtain⟨_,_,_,e⟩:=x;exact⟨_,e⟩
 | frz ob u=>obtain⟨e,_⟩:=x;exact⟨_,e⟩
 | tbl ps=>exact⟨_,(show h.get? a=some _ from x)⟩
 | met f y=>exact⟨_,(show h.get? a=some _ from x)⟩
 | ext φ=>obtain⟨_,⟨ob,e⟩,_⟩:=x;exact⟨ob,e⟩
theorem HOk.stays (ok:HOk P w H h) (k:∀ b o,h.get? b=some o->H b≠none->h'.get? b=some o):HOk P w H h':=fun a o e =>
 (ok a o e).stay (fun b u hb q => k b u q (by
  rcases hb with z | z
  ·rw[z,e];simp
  ·rw[z];simp)) (fun _ q=>q) fun _ _ q=>q
def cq2 (outer:List Env)(x:Addr)(cls:Value)(h0:Heap)(H':Hp)(h':Heap):Prop:=
 ∃ (B:Heap) (a0:Value),Heap.FlyingW B outer x cls a0 h'/\∀ b o,h'.get? b=some o->(H' b≠none\/h0.get? b≠none)->b∉frs outer->B.get? b=some o
def CXE (P:Program)(w:World):CXT:=fun outer H s E e s' =>
 ∃ (x:Addr) (cls:Value) (H':Hp),e=.ref x/\s'.os=s.os/\aA5 s'.gens/\Un (frs outer) [] H H' s.heap s'.heap/\HOk P w H' s'.heap/\s.heap.get? x=none/\H' x=none/\cq2 outer x cls s.heap H' s'.heap/\E cls none H'
theorem Un.onto {fs:List Addr}{h'':Heap}(u:Un fs [] H H' h h')(stay:∀ b o,h'.get? b=some o->h.get? b≠none->b∉fs->h''.get? b=some o)
  (slots:∀ b o,h'.get? b=some o->h.get? b≠none->b∈fs->∃ sl,h''.get? b=some { o with slots:=sl }):Un fs [] H H' h h'' where
 keep:=fun b o e n hb hx=>stay b o (u.keep b o e n hb hx) (by rw[e];simp) hb
 slot:=fun b o e n hb hx=>by
  obtain⟨sl,e1⟩:=u.slot b o e n hb hx
  obtain⟨sl2,e2⟩:=slots b _ e1 (by rw[e];simp) hb
  exact⟨sl2,e2⟩
 free:=u.free
 there:=fun b o e hx=>by
  obtain⟨o',e1⟩:=u.there b o e hx
  by_cases hb:b∈fs
  ·obtain⟨sl,e2⟩:=slots b o' e1 (by rw[e];simp) hb
   exact⟨_,e2⟩
  ·exact⟨o',stay b o' e1 (by rw[e];simp) hb⟩
 tups:=u.tups
 frzs:=u.frzs
 tbls:=u.tbls
theorem X9 {α:Type}{o:Option α}(h:o≠none):∃ x,o=some x:=by
 cases o with
 | none=>exact absurd rfl h
 | some x=>exact⟨x,rfl⟩
theorem bb7 {env:Env}{outer:List Env}{L:Addr}(h:env.frame=some L):frs (env::outer)=L::frs outer:=by
 unfold frs
 rw[X2,h]
section
variable {K:W.Frag} {mg:Str->Option Value} {base:Heap} {cd:Value} {outer:List Env} {E:XK} {H1:Hp} {s1:Shared}
theorem bL8 {e:Addr}{cls:Value}{h2:Heap}(I:Inv (am2 (CXE P w) P w K mg base N qual scope f cd A outer s H E) pins σ H1 s1)(hx:Heap.MadeExcOf s1.heap h2 e cls vs)(hE:E cls none H1) :
  (am2 (CXE P w) P w K mg base N qual scope f cd A outer s H E).xe (.ref e) { s1 with heap:=h2 }:=by
 have hst:=I.stack
 have hfr:=I.ok.frames
 have hlt:=I.lt
 have hL:=I.free
 have hab:=I.ok.above
 have hbs:Un (frs outer) [] H H1 s.heap s1.heap:=I.base
 change s1.heap.FunFrames base (O9 qual scope s.heap.objs.size f cd::outer) at hst
 change (A.deeper (O9 qual scope s.heap.objs.size f cd)).frames=some (O9 qual scope s.heap.objs.size f cd::outer) at hfr
 change H1 s.heap.objs.size=none at hL
 have hff:frs (O9 qual scope s.heap.objs.size f cd::outer)=s.heap.objs.size::frs outer:=bb7 rfl
 have hin:∀ env∈(O9 qual scope s.heap.objs.size f cd::outer),∀ b,env.frame=some b->b∈frs (O9 qual scope s.heap.objs.size f cd::outer):=fun env he b hb=>aj4.mpr ⟨env,he,hb⟩
 have old:∀ b,(H1 b≠none\/s.heap.get? b≠none)->b∉frs outer->∃ o,s1.heap.get? b=some o/\b∉frs (O9 qual scope s.heap.objs.size f cd::outer):=fun b hb hno=>by
  have hne:b≠s.heap.objs.size:=by
   rcases hb with z | z
   ·intro q;rw[q]at z;exact z hL
   ·obtain⟨o,z⟩:=X9 z
    exact k9 (d5 z)
  have hex:∃ o,s1.heap.get? b=some o:=by
   rcases hb with z | z
   ·obtain⟨o,z⟩:=X9 z
    exact(I.hok b o z).there
   ·obtain⟨o,z⟩:=X9 z
    exact hbs.there b o z (by simp)
  obtain⟨o,ho⟩:=hex
  refine⟨o,ho,?_⟩
  rw[hff]
  intro hm
  rcases d7.mp hm with q | q
  ·exact hne q
  ·exact hno q
 have eNew:s.heap.get? e=none:=by
  cases q:s.heap.get? e with
  | none=>rfl
  | some o =>
   obtain⟨o',z⟩:=hbs.there e o q (by simp)
   rw[hx.new]at z
   cases z
 have eFree:H1 e=none:=by
  cases q:H1 e with
  | none=>rfl
  | some o =>
   obtain⟨o',z⟩:=(I.hok e o q).there
   rw[hx.new]at z
   cases z
 refine wpAny_leaves_madeW (base:=PySem.W.hideAll s1.heap (frs (O9 qual scope s.heap.objs.size f cd::outer))) hfr rfl (fun b o q=>PySem.W.of_hideAll _ q) (PySem.W.funFrames_hide hst hin) hx fun h' t x1 x2 x3 x4=>?_
 have stay:∀ b o,s1.heap.get? b=some o->(H1 b≠none\/s.heap.get? b≠none)->b∉frs outer->h'.get? b=some o:=fun b o ho hb hno=>by
  obtain⟨o',ho',hm⟩:=old b hb hno
  rw[ho]at ho'
  cases ho'
  exact x1.1 b o (PySem.W.hideAll_get _ ho hm)
 have frNone:∀ b∈frs outer,H1 b=none:=fun b hb=>I.stkFree b (by
  show b∈frs (O9 qual scope s.heap.objs.size f cd::outer)
  rw[hff]
  exact d6 _ hb)
 refine⟨e,cls,H1,rfl,I.os,I.bare,hbs.onto (fun b o ho hh hno=>stay b o ho (.inr hh) hno) (fun b o ho hh hm=>?_),I.hok.stays fun b o ho hh=>stay b o ho (.inl hh) fun hm=>hh (frNone b hm),eNew,eFree,⟨_,_,x1,fun b o ho hb hno=>?_⟩,hE⟩
 ·obtain⟨_,o',ho',hd⟩:=hst.mem (b:=b) (by
   show b∈frs (O9 qual scope s.heap.objs.size f cd::outer)
   rw[hff]
   exact d6 _ hm)
  rw[ho]at ho'
  cases ho'
  exact x4 b o (hx.keeps b o ho) hd
 ·obtain⟨o',ho',hm⟩:=old b hb hno
  have:=stay b o' ho' hb hno
  rw[ho]at this
  cases this
  exact PySem.W.hideAll_get _ ho' hm
theorem ap2:az1 (CXE P w) (am2 (CXE P w) P w K mg base N qual scope f cd A outer s H E) E:=by
 intro pins σ H1 s1 e s2 I hc
 obtain⟨x,cls,H2,rfl,hos,hb2,u,hok,new,hxn,⟨B,a0,fl,st⟩,hE⟩:=hc
 have hst:=I.stack
 have hfr:=I.ok.frames
 have hL:=I.free
 have hbs:Un (frs outer) [] H H1 s.heap s1.heap:=I.base
 change s1.heap.FunFrames base (O9 qual scope s.heap.objs.size f cd::outer) at hst
 change (A.deeper (O9 qual scope s.heap.objs.size f cd)).frames=some (O9 qual scope s.heap.objs.size f cd::outer) at hfr
 change H1 s.heap.objs.size=none at hL
 change Un (frs (O9 qual scope s.heap.objs.size f cd::outer)) [] H1 H2 s1.heap s2.heap at u
 change Heap.FlyingW B (O9 qual scope s.heap.objs.size f cd::outer) x cls a0 s2.heap at fl
 have hff:frs (O9 qual scope s.heap.objs.size f cd::outer)=s.heap.objs.size::frs outer:=bb7 rfl
 have st':∀ b o,s2.heap.get? b=some o->(H2 b≠none\/s1.heap.get? b≠none)->b∉frs (O9 qual scope s.heap.objs.size f cd::outer)->B.get? b=some o:=st
 rw[hff]at u st'
 have hLo:∃ o,s1.heap.get? s.heap.objs.size=some o:=by
  obtain⟨m,⟨o,_,_,ho,_⟩,_⟩:=I.loc
  exact⟨o,ho⟩
 have hL2:H2 s.heap.objs.size=none:=by
  obtain⟨o,ho⟩:=hLo
  exact u.free _ o ho hL (by simp)
 have old:∀ b,(H2 b≠none\/s.heap.get? b≠none)->b∉frs outer->∃ o,s2.heap.get? b=some o/\B.get? b=some o:=fun b hb hno=>by
  have hne:b≠s.heap.objs.size:=by
   rcases hb with z | z
   ·intro q;rw[q]at z;exact z hL2
   ·obtain⟨o,z⟩:=X9 z
    exact k9 (d5 z)
  have hm:b∉s.heap.objs.size::frs outer:=fun hm=>by
   rcases d7.mp hm with q | q
   ·exact hne q
   ·exact hno q
  rcases hb with z | z
  ·obtain⟨o,z'⟩:=X9 z
   obtain⟨o',ho⟩:=(hok b o z').there
   exact⟨o',ho,st' b o' ho (.inl z) hm⟩
  ·obtain⟨o,z⟩:=X9 z
   obtain⟨o1,h1⟩:=hbs.there b o z (by simp)
   obtain⟨o2,h2⟩:=u.there b o1 h1 (by simp)
   exact⟨o2,h2,st' b o2 h2 (.inr (by rw[h1];simp)) hm⟩
 have u2:Un (frs outer) [] H H2 s.heap s2.heap:=by
  refine⟨fun b o e n hb hx=>?_,fun b o e n hb hx=>?_,fun b o e n hx=>?_,fun b o e hx=>?_,fun b xs e=>u.tups b xs (hbs.tups b xs e),fun b o v e=>u.frzs b o v (hbs.frzs b o v e),fun b ps e=>?_⟩
  ·refine u.keep b o (hbs.keep b o e n hb hx) (hbs.free b o e n hx) (fun hm=>?_) hx
   rcases d7.mp hm with q | q
   ·exact k9 (d5 e) q
   ·exact hb q
  ·obtain⟨sl,e1⟩:=hbs.slot b o e n hb hx
   obtain⟨sl2,e2⟩:=u.slot b _ e1 (hbs.free b o e n hx) (d6 _ hb) hx
   exact⟨sl2,e2⟩
  ·obtain⟨o',e1⟩:=hbs.there b o e hx
   exact u.free b o' e1 (hbs.free b o e n hx) hx
  ·obtain⟨o',e1⟩:=hbs.there b o e hx
   exact u.there b o' e1 hx
  ·obtain⟨m1,e1⟩:=hbs.tbls b ps e
   obtain⟨m2,e2⟩:=u.tbls b _ e1
   exact⟨m1++m2,by rw[e2,bU0]⟩
 have frNone:∀ b∈frs outer,H2 b=none:=fun b hb=>by
  have h1:=I.stkFree b (by
   show b∈frs (O9 qual scope s.heap.objs.size f cd::outer)
   rw[hff]
   exact d6 _ hb)
  obtain⟨_,o,ho,_⟩:=hst.mem (b:=b) (by
   show b∈frs (O9 qual scope s.heap.objs.size f cd::outer)
   rw[hff]
   exact d6 _ hb)
  exact u.free b o ho h1 (by simp)
 refine wpAny_leaves_onW hfr rfl fl fun h' x1 x2=>?_
 have stay:∀ b o,s2.heap.get? b=some o->(H2 b≠none\/s.heap.get? b≠none)->b∉frs outer->h'.get? b=some o:=fun b o ho hb hno=>by
  obtain⟨o',ho',hB⟩:=old b hb hno
  rw[ho]at ho'
  cases ho'
  exact x1.1 b o hB
 refine⟨x,cls,H2,rfl,hos.trans I.os,hb2,u2.onto (fun b o ho hh hno=>stay b o ho (.inr hh) hno) (fun b o ho hh hm=>?_),hok.stays fun b o ho hh=>stay b o ho (.inl hh) fun hm=>hh (frNone b hm),?_,hxn,⟨B,a0,x1,fun b o ho hb hno=>?_⟩,hE⟩
 ·obtain⟨_,o',ho',hd⟩:=fl.2.2.1.mem (b:=b) (by
   show b∈frs (O9 qual scope s.heap.objs.size f cd::outer)
   rw[hff]
   exact d6 _ hm)
  rw[ho]at ho'
  cases ho'
  exact x2 b o ho hd
 ·cases q:s.heap.get? x with
  | none=>rfl
  | some o =>
   obtain⟨o',z⟩:=hbs.there x o q (by simp)
   rw[new]at z
   cases z
 ·obtain⟨o',ho',hB⟩:=old b hb hno
  have:=stay b o' ho' hb hno
  rw[ho]at this
  cases this
  exact hB
end
theorem Fun.okX {K:W.Frag} {mg:Str->Option Value} {base:Heap} {st:Stmt} {k:Nat} {sp:Sp} (F:Fun K x qual st f fd) (S:y9 N ps (q0 st))
  (hbody : ∀ (cdv : Value) (A : Around) (outer : List Env) (s : Shared) (H : Hp) (vs : List V) (Q : VK) (E : XK), Z0 k (A.deeper (O9 qual (q0 st) s.heap.objs.size f cdv)) -> sp vs H Q E ->
   ∃ t,PSs (am2 (CXE P w) P w K mg base N qual (q0 st) f cdv A outer s H E) (U2 st) t/\t { nx:=fun _ H'=>Q .non H',rt:=Q } (start N vs) H) (len:∀ vs H Q E,sp vs H Q E->vs.length=ps.length:=by intro _ _ _ _ h;repeat first | (obtain⟨rfl,_⟩:=h;rfl) | obtain⟨_,h⟩:=h):A0 P w K mg base (CXE P w) (k+1) f fd ps sp:=by
 obtain⟨oc,od,kV,doc,pm,an,cdv,ct,osl,rfl,lk,hcd⟩:=F.ex
 exact bG5 lk hcd S len fun A outer s H vs Q E hr hsp=>hbody cdv A outer s H vs Q E hr hsp
theorem bB0 {K:W.Frag}{mg:Str->Option Value}{base:Heap}{cd:Value}{outer:List Env}{E:XK} :
  PassesOwn (t9 P w) (am2 (CXE P w) P w K mg base N qual scope f cd A outer s H E).A (am2 (CXE P w) P w K mg base N qual scope f cd A outer s H E).env (am2 (CXE P w) P w K mg base N qual scope f cd A outer s H E).xe:=PassesOwn.leaving
structure am6 (K:W.Frag) (C:Addr):Prop where
 q:PySem.W.excIn K C [.type "ValueError",.type "Exception",.type "BaseException",.type "object"] "ValueError.__new__"=true
abbrev bmV:List Value:=[.type "ValueError",.type "Exception",.type "BaseException",.type "object"]
theorem cf9 {K:W.Frag}(KI:K.In h)(c:am6 K C):∃ bm N nm q bs hd sn sub ab col dd k0 k1 k2 k3 k5 mN,h.get? C=some (excClassObj nm q C N bs bm hd sn sub ab col dd k0 k1 k2 k3 k5 "ValueError.__new__") /\
  h.Ns N mN/\mN "__init__"=none/\OwnTail h bmV bm:=by
 have z:=c.q
 revert z
 unfold PySem.W.excIn
 split
 ·rename_i d1 c1 s1 hl
  split
  ·rename_i D bm y0 y1 y2 y3 nn y5 e1 e2
   intro z
   rw[C9,C9,C9,C9,C9]at z
   obtain⟨⟨⟨⟨⟨z1,z2⟩,z3⟩,z4⟩,z5⟩,z6⟩:=z
   have z1':D=C:=beq_iff_eq.mp z1
   have z2':nn="ValueError.__new__":=beq_iff_eq.mp z2
   have z6':=beq_iff_eq.mp z6
   subst z1' z2'
   obtain⟨w1,w2,w3,w4,w5,w6,w7,w8,w9,w10,w11⟩:=c1
   dsimp only at e1 z3 z5 z6'
   subst e1
   have z3':w11=false:=by simpa using z3
   subst z3'
   have e3:s1=#[y0,y1,y2,y3,some (.builtin "ValueError.__new__"),y5]:=by
    obtain⟨l1⟩:=s1
    exact congrArg Array.mk e2
   subst e3
   exact⟨bm,w4,w1,w5,w2,w6,w7,w8,w9,w10,d1,y0,y1,y2,y3,y5,_,KI _ _ hl,.of_isNs (PySem.W.isNs_of_in KI z5),PySem.W.nsMap_none_of_in KI z5 z6',PySem.W.tail_of_in KI z4⟩
  ·intro z;cases z
 ·intro z;cases z
section
variable {K:W.Frag} {mg:Str->Option Value} {base:Heap} {cd:Value} {outer:List Env} {E:XK}
def ca0 (E:XK)(C:Addr):TS:=fun _ _ H=>E (.ref C) none H
theorem aF2 {txt:Str}{np cp ep:Pos}(hg:Gl (am2 (CXE P w) P w K mg base N qual scope f cd A outer s H E) x)(hm:mg x=some (.ref C))(c:am6 K C)(hd:(x == ("__debug__":Str))=false:=by decide) :
  PS (am2 (CXE P w) P w K mg base N qual scope f cd A outer s H E) (.Raise (some (.Call (.Name x np) [.Constant (.str txt) j cp] [] ep)) none pos) (ca0 E C):=by
 intro pins s1 σ H1 D I hE
 have hh:(am2 (CXE P w) P w K mg base N qual scope f cd A outer s H E).A.handled=none:=I.ok.hd rfl
 obtain⟨bm,N',nm,q,bs,hdc,sn,sub,ab,col,dd,k0,k1,k2,k3,k5,mN,hC,hN,hni,T⟩:=cf9 I.kIn c
 refine wpAny_Raise_call_subT (C:=C) (nm:=nm) (q:=q) (N:=N') (bs:=bs) (bm:=bm) (hdct:=hdc) (sn:=sn) (sub:=sub) (ab:=ab) (col:=col) (dd:=dd) (k0:=k0) (k1:=k1) (k2:=k2) (k3:=k3) (k5:=k5)
  PySem.F.excBase_ValueError (mN:=mN) (T.hasType (by decide +kernel)) hh rfl hni (aC5 I hg hm ⟨rfl,?_⟩ hd)
 refine Calls.evalArgs_plain ?_
 refine PyProof.Rows.spliced_more (Calls.Constant_str ?_)
 refine PyProof.Rows.spliced_none ⟨rfl,by show 1<=j7;decide,hC,hN,T,fun h' e hx=>?_⟩
 exact bL8 (I.tok _) hx hE
end
section
variable {pins':List (Addr × Obj)} {E:St->XK}
end
section
variable {CX:CXT} {k:Nat} {sp:Sp} {E:St->XK} {p:Pos} {t:TA}
end
end L2
set_option maxRecDepth 100000
namespace L2
open PySem PySem.Spec PyProof.Rows PySem.W
structure ct5 (K:W.Frag) (C:Addr):Prop where
 ga:findIn K (.ref C) "__getattribute__"=some (some (.builtin "BaseException.__getattribute__"))
 na:findIn K (.ref C) "__getattr__"=some none
 cl:findIn K (.ref C) "__class__"=some (some (.builtin "object.__class__"))
 sb:subIn K (.ref C) (.type "BaseException")=some true
 so:subIn K (.ref C) (.type "object")=some true
 cs:(clsIn K C).isSome=true
section
variable {g:Array bK6} {d:Drawn} {t:Nat} {os:OsState} {K:W.Frag}
end
end L2
namespace L2
open PySem PySem.Spec PyProof.Rows
theorem Fun.okXC {K:W.Frag} {mg:Str->Option Value} {base:Heap} {st:Stmt} {k:Nat} {sp:Sp} (F:Fun K x qual st f fd) (hc:fd.code=.ref c) (S:y9 N ps (q0 st))
  (hbody : ∀ (A : Around) (outer : List Env) (s : Shared) (H : Hp) (vs : List V) (Q : VK) (E : XK), Z0 k (A.deeper (O9 qual (q0 st) s.heap.objs.size f (.ref c))) -> sp vs H Q E ->
   ∃ t,PSs (am2 (CXE P w) P w K mg base N qual (q0 st) f (.ref c) A outer s H E) (U2 st) t/\t { nx:=fun _ H'=>Q .non H',rt:=Q } (start N vs) H) (len:∀ vs H Q E,sp vs H Q E->vs.length=ps.length:=by intro _ _ _ _ h;repeat first | (obtain⟨rfl,_⟩:=h;rfl) | obtain⟨_,h⟩:=h):A0 P w K mg base (CXE P w) (k+1) f fd ps sp:=by
 obtain⟨oc,od,kV,doc,pm,an,cdv,ct,osl,rfl,lk,hcd⟩:=F.ex
 have hc':cdv=.ref c:=hc
 subst hc'
 exact bG5 lk hcd S len fun A outer s H vs Q E hr hsp=>hbody A outer s H vs Q E hr hsp
theorem aV9 {K:W.Frag}{P:Addr}{oc:Value}{od:Option Addr}{sl:Array (Option Value)}(ht:PySem.W.tabIn K x=some (c,P))(hn:j8 K j5 x=some (some (.ref f)))(hl:K.lookup f=some ⟨oc,od,.func fd,sl⟩):fd.code=.ref c:=by
 unfold PySem.W.tabIn at ht
 rw[hn]at ht
 dsimp only at ht
 rw[hl]at ht
 dsimp only at ht
 split at ht
 ·rename_i c₂ hc
  split at ht
  ·split at ht
   ·cases ht;exact hc
   ·cases ht
  ·cases ht
 ·cases ht
theorem bt6 {K:W.Frag}{mg mb:Str->Option Value}{CX:CXT}{k:Nat}{fa:Addr}{sp:Sp}{s₁:Shared}{ts:List (Addr × Addr)}(hT:PySem.W.TabsAt ts s₁.heap)(hK0:PySem.W.noTabs K=true)
  (hbm:∃ bm ob,mg "__builtins__"=some (.ref bm)/\bm≠aU4/\s₁.heap.get? bm=some ob/\ob.cls=.type "module"/\ob.dict=some aU4/\ob.data=.plain)
  (KX:K.In s₁.heap)(hns:s₁.heap.Ns j5 mg)(hb:s₁.heap.Ns aU4 mb)(hbb:∀ x:Str,x≠"__name__"->mb x=L6 x)(hlim:s₁.heap.NoLimit)(hg:s₁.gens=#[])
  (ha:s₁.heap.get? a=some { cls:=.type "list",data:=.seq vs.toArray })(hi:J7 vs ns)(hl:ns.length<=j7)(hr:Z0 k bq6)
  (F:∀ base:Heap,K.In base->base.Ns j5 mg->(∀ q∈ts,av2 base mg q.1 q.2)->A0 P w K mg base CX k fa fd [x] sp)(hbind:∀ (s:Shared) (u:Value),bq4 s fd ⟨[u],[]⟩ [(x,u)])
  (hsp:∀ H:Hp,(∀ q∈ts,H q.2=some (.tbl #[]))->SqL K H a (ns.map V.int)->sp [.ref a] H (fun v _=>v=.bl true) fun _ _ _=>False)
  (hCX:∀ H e s',CX [] H s₁ (fun _ _ _=>False) e s'->False) :
  ar8 (t9 P w) bq6 (.call (.ref fa) ⟨[.ref a],[]⟩) (fun r s'=>r=.ok (.ret (.bool true))/\OldK s₁.heap s'.heap/\s'.os=s₁.os/\aA5 s'.gens) s₁:=by
 have rv:=an1 hi
 have lenV:=hi.length
 have tabO:∀ b,b∈ts.map (·.2)->s₁.heap.get? b=some (PySem.W.tabObj #[]):=fun b hb=>by
  obtain⟨q,hq,rfl⟩:=p0.mp hb
  exact(hT q hq).2
 have aT:a∉ts.map (·.2):=fun z=>by
  have e:=tabO a z
  rw[ha]at e
  cases e
 have core:∀ H:Hp,(∀ b,b∈ts.map (·.2)->H b=some (.tbl #[]))->(∀ b,b∉ts.map (·.2)->H b=none\/∃ o xs,H b=some (.frz o (.lst xs)))->SqL K H a (ns.map V.int)->HOk P w H s₁.heap->(∀ b,H b≠none->b=a\/b∈ts.map (·.2))->(H a≠none->K.lookup a=none) ->
   ar8 (t9 P w) bq6 (.call (.ref fa) ⟨[.ref a],[]⟩) (fun r s'=>r=.ok (.ret (.bool true))/\OldK s₁.heap s'.heap/\s'.os=s₁.os/\aA5 s'.gens) s₁:=by
  intro H hHt hO hS hok hA hK
  have base_of:∀ {b:Addr} {o:Obj},s₁.heap.get? b=some o->H b=none->(aK6 s₁.heap H).get? b=some o:=fun e n=>bF7 e n
  have free_of:∀ {b:Addr} {o:Obj},s₁.heap.get? b=some o->(∀ xs n,o≠{ cls:=.type "list",data:=.seq xs n })->o≠PySem.W.tabObj #[]->H b=none:=fun {b o} e n1 n2=>by
   cases q:H b with
   | none=>rfl
   | some u =>
    rcases hA b (by rw[q];simp) with e' | e'
    ·subst e'
     rw[ha]at e;cases e
     exact absurd rfl (n1 _ _)
    ·rw[tabO b e']at e;cases e
     exact absurd rfl n2
  have noA:∀ {b:Addr} {o:Obj} {es:Array ae9} {ep:Nat},s₁.heap.get? b=some o->o.data=.dict es ep->H b=none:=fun {b o es ep} e d=>free_of e (fun xs n z=>by subst z;cases d) (fun z=>by subst z;cases d)
  have nsK:∀ {b:Addr} {m:Str->Option Value},s₁.heap.Ns b m->(aK6 s₁.heap H).Ns b m:=fun {b m} ⟨o,es,ep,e,d,r⟩=>⟨o,es,ep,base_of e (noA e d),d,r⟩
  have hKb:K.In (aK6 s₁.heap H):=fun b o e=>base_of (KX b o e) (by
   cases q:H b with
   | none=>rfl
   | some u =>
    rcases hA b (by rw[q];simp) with e' | e'
    ·subst e'
     rw[hK (by rw[q];simp)]at e;cases e
    ·have e1:=KX b o e
     rw[tabO b e']at e1
     cases e1
     have h2:=G8.mp hK0 _ (PySem.W.mem_of_lookupK e)
     exact absurd (show false=true from h2) i7)
  have hM:Mod K mg (aK6 s₁.heap H):=⟨hKb,nsK hns,⟨mb,nsK hb,hbb⟩,let ⟨mc,h1,h2⟩:=hlim;⟨mc,nsK h1,h2⟩⟩
  have hLB:∀ q∈ts,av2 (aK6 s₁.heap H) mg q.1 q.2:=fun q hq=>by
   obtain⟨C,eP⟩:=hT q hq
   refine⟨?_,?_,?_⟩
   ·obtain⟨o,vs,file,tf,flags,tg,inF,text,tt,e1,r1,r2⟩:=C
    exact⟨o,vs,file,tf,flags,tg,inF,text,tt,base_of e1 (free_of e1 (fun xs n z=>by subst z;exact absurd (show Value.type "list"=Value.type "code" from r1) (by decide)) (fun z=>by subst z;cases r1)),r1,r2⟩
   ·obtain⟨bm,ob,b1,b2,b3,b4,b5,b6⟩:=hbm
    refine⟨bm,ob,b1,b2,fun z=>?_,fun z=>?_,base_of b3 (free_of b3 (fun xs n z=>by subst z;exact absurd (show Value.type "list"=Value.type "module" from b4) (by decide)) (fun z=>by subst z;cases b4)),b4,b5,b6⟩
    ·obtain⟨o,es,ep,e,d,_⟩:=hns
     rw[z,e]at b3;cases b3;rw[d]at b6;cases b6
    ·rw[z,eP]at b3;cases b3;cases b4
   ·intro z
    obtain⟨o,es,ep,e,d,_⟩:=hns
    rw[z,eP]at e;cases e;cases d
  have e0:bJ1 P w K mg (aK6 s₁.heap H) bq6 [] s₁ H:=⟨rfl,hM,fun b o e=>bQ2 e,aw1 (bu5 _ _),trivial,fun b hb=>absurd (show b∈([]:List Addr) from hb) (by simp),hok,.of_eq hg⟩
  refine am7 ((F _ hKb (nsK hns) hLB).run bq6 [] s₁ H ⟨[.ref a],[]⟩ [.ref a] [.ref a] _ _ hr e0 (hbind s₁ (.ref a)) (.cons rfl .nil) (hsp H (fun q hq=>hHt _ (List.mem_map_of_mem hq)) hS)) fun r s' h=>?_
  cases r with
  | error e=>exact(hCX H e s' h).elim
  | ok fl =>
   cases fl with
   | next=>exact False.elim h
   | brk=>exact False.elim h
   | cont=>exact False.elim h
   | ret u =>
    obtain⟨v,H',os,bare,un,hok',r',q⟩:=h
    have q':v=.bl true:=q
    subst q'
    obtain rfl:u=Value.bool true:=r'
    have keep:∀ b o,b∉ts.map (·.2)->s₁.heap.get? b=some o->s'.heap.get? b=some o:=fun b o hb e=>by
     rcases hO b hb with z | ⟨ob,xs,z⟩
     ·exact un.keep b o e z (by intro z;exact absurd (show b∈([]:List Addr) from z) (by simp)) (by simp)
     ·have z2:=un.frzs b ob _ z
      obtain⟨e1,_⟩:=hok b _ z
      obtain⟨e2,_⟩:=hok' b _ z2
      rw[e]at e1;cases e1
      exact e2
    have grown:∀ b o,b∈ts.map (·.2)->s₁.heap.get? b=some o->isCodeTable s₁.heap b/\o=PySem.W.tabObj #[]/\∃ ps,s'.heap.get? b=some (PySem.W.tabObj ps):=fun b o hb e=>by
     obtain⟨ps,hp⟩:=un.tbls b #[] (hHt b hb)
     have e2:=tabO b hb
     rw[e]at e2
     obtain⟨q,hq,eq⟩:=p0.mp hb
     have e3:s'.heap.get? b=some (PySem.W.tabObj (#[]++ps)):=hok' b _ hp
     refine⟨?_,Option.some.inj e2,_,e3⟩
     rw[<- eq]
     exact((hT q hq).1.tab (hT q hq).2).isCodeTable
    refine⟨rfl,⟨fun b o e=>?_,fun b o e=>?_⟩,os,bare⟩
    ·by_cases hb:b∈ts.map (·.2)
     ·obtain⟨ht,rfl,ps,hP⟩:=grown b o hb e
      exact .inr (.inl ⟨ht,rfl,#[],ps,rfl,by rw[Array.empty_append];exact hP⟩)
     ·exact .inl (keep b o hb e)
    ·by_cases hb:b∈ts.map (·.2)
     ·obtain⟨_,_,ps,hP⟩:=grown b o hb e
      exact⟨_,hP⟩
     ·exact⟨o,keep b o hb e⟩
 cases hk:K.lookup a with
 | some o =>
  have e:=KX a o hk
  rw[ha]at e
  cases e
  refine core (fun b=>if b∈ts.map (·.2) then some (.tbl #[]) else none) (fun b hb=>if_pos hb) (fun b hb=>.inl (if_neg hb)) (.inr ⟨_,vs.toArray,_,hk,rfl,rfl,rfl,by rw[i9,lenV];exact hl,by simpa using rv⟩) (fun b u z=>?_) (fun b z=>?_) fun z=>absurd (if_neg aT) z
  ·by_cases hb:b∈ts.map (·.2)
   ·have z':=(if_pos hb).symm.trans z
    cases z'
    exact tabO b hb
   ·have z':=(if_neg hb).symm.trans z
    cases z'
  ·by_cases hb:b∈ts.map (·.2)
   ·exact .inr hb
   ·exact absurd (if_neg hb) z
 | none =>
  have e1:∀ b,b∈ts.map (·.2)->(if b∈ts.map (·.2) then some (HO.tbl #[]) else if b=a then some (.frz { cls:=.type "list",data:=.seq vs.toArray } (.lst (ns.map V.int))) else none)=some (HO.tbl #[]):=fun b hb=>if_pos hb
  have e2:∀ b,b∉ts.map (·.2)->(if b∈ts.map (·.2) then some (HO.tbl #[]) else if b=a then some (.frz { cls:=.type "list",data:=.seq vs.toArray } (.lst (ns.map V.int))) else none)=(if b=a then some (.frz { cls:=.type "list",data:=.seq vs.toArray } (.lst (ns.map V.int))) else none):=fun b hb=>if_neg hb
  refine core (fun b=>if b∈ts.map (·.2) then some (HO.tbl #[]) else if b=a then some (.frz { cls:=.type "list",data:=.seq vs.toArray } (.lst (ns.map V.int))) else none) e1 (fun b hb=>?_) (.inl (.inr ⟨{ cls:=.type "list",data:=.seq vs.toArray },(e2 a aT).trans (if_pos rfl)⟩)) (fun b u z=>?_) (fun b z=>?_) fun _=>hk
  ·rw[e2 b hb]
   by_cases hba:b=a
   ·exact .inr ⟨_,_,if_pos hba⟩
   ·exact .inl (if_neg hba)
  ·by_cases hb:b∈ts.map (·.2)
   ·have z':=(e1 b hb).symm.trans z
    cases z'
    exact tabO b hb
   ·have z1:=(e2 b hb).symm.trans z
    by_cases hba:b=a
    ·have z':=(if_pos hba).symm.trans z1
     cases z'
     subst hba
     exact⟨ha,by rw[b8];exact hl,vs,_,rv,ha⟩
    ·have z':=(if_neg hba).symm.trans z1
     cases z'
  ·by_cases hb:b∈ts.map (·.2)
   ·exact .inr hb
   ·by_cases hba:b=a
    ·exact .inl hba
    ·exact absurd ((e2 b hb).trans (if_neg hba)) z
theorem walk_ofT {l:PySem.W.OpenLaw} {k:Nat} {q:Program} {loose:List Str} {d:DefRec} {K:Params->PySem.W.Frag} {CX:World->CXT} {sp:World->List (Addr × Addr)->Sp} {ts:World->List (Addr × Addr)}
  (hn:l.most=some n) (hn2:n<=j7) (hdf:d.params.defaults=[]) (hr:Z0 k bq6)
  (hY:∀ (w:World) (h:Heap),YP w h->(K w.params).In h) (hK0:∀ w:World,PySem.W.noTabs (K w.params)=true)
  (hts:∀ (w:World) (loose:List Str) (mean:ExcName->Option Value) (mg mb:Str->Option Value) (h:Heap),Top q loose mean mg mb h->(K w.params).In h->PySem.W.TabsAt (ts w) h)
  (F : ∀ (w : World) (mg : Str -> Option Value) (fa : Addr) (h : Heap), (K w.params).In h -> h.Ns j5 mg -> mg d.name = some (.ref fa) ->
   ∃ fd:FuncData,(∀ (s:Shared) (u:Value),bq4 s fd ⟨[u],[]⟩ [(x,u)]) /\
    ∀ base:Heap,(K w.params).In base->base.Ns j5 mg->(∀ q∈ts w,av2 base mg q.1 q.2)->A0 l.prog w (K w.params) mg base (CX w) k fa fd [x] (sp w (ts w)))
  (hsp:∀ (w:World) (H:Hp) (a:Addr) (ns:List Int),ns.length<=n->(∀ q∈ts w,H q.2=some (.tbl #[]))->SqL (K w.params) H a (ns.map V.int)->sp w (ts w) [.ref a] H (fun v _=>v=.bl true) fun _ _ _=>False)
  (hCX:∀ (w:World) (H:Hp) (s:Shared) (e:Value) (s':Shared),CX w [] H s (fun _ _ _=>False) e s'->False) :
  PySem.W.WalkO q loose XP YP l.row.toRowW d [] (fun f vs=>PySem.call f vs):=by
 refine Att.attach_call hn hdf fun w s₀ s₁ mg mb fa o pm cd doc a vs ns G Y ho hd hcd hmg hobj hints hlen hg=>?_
 have KX:=hY w _ Y
 obtain⟨fd,hb,hF⟩:=F w mg fa _ KX G.T.g hmg
 exact bt6 (hts w _ _ _ _ _ G.T KX) (hK0 w) G.T.bmain KX G.T.g G.T.b G.T.builtins G.T.nolimit hg hobj hints (x9 hlen hn2) hr hF hb (fun H hO hS=>hsp w H a ns hlen hO hS) fun H e s'=>hCX w H s₁ e s'
def bs8 (ns:List Int)(z:Int):List Int:=[-(ns.getD z.toNat 0),z]
theorem bP0 (ns:List Int)(z:Int):∃ i k,bs8 ns z=i::k:=⟨_,_,rfl⟩
def ole (ns:List Int)(x y:Int):Prop:=Tim.K4 (bs8 ns y) (bs8 ns x)=false
theorem at6 {x y:Int}:ole ns x y↔(ns.getD y.toNat 0<ns.getD x.toNat 0\/(ns.getD x.toNat 0=ns.getD y.toNat 0/\x<=y)):=by
 unfold ole bs8 Tim.K4
 by_cases h:-(ns.getD y.toNat 0) = -(ns.getD x.toNat 0)
 ·rw[if_pos h]
  unfold Tim.K4
  by_cases h2:y=x
  ·rw[if_pos h2]
   simp only[Tim.K4,true_iff]
   exact .inr ⟨by omega,by omega⟩
  ·rw[if_neg h2,decide_eq_false_iff_not]
   constructor
   ·intro h3;exact .inr ⟨by omega,by omega⟩
   ·intro h3 h4;omega
 ·rw[if_neg h,decide_eq_false_iff_not]
  constructor
  ·intro h3;exact .inl (by omega)
  ·intro h3 h4;omega
theorem aY9 {x y:Int}(h1:ole ns x y)(h2:ole ns y x):x=y:=by
 rw[at6]at h1 h2
 omega
theorem aF9 {zs' l:List Int}(p1:zs.Perm l)(p2:zs'.Perm l)(s1:zs.Pairwise (ole ns))(s2:zs'.Pairwise (ole ns)):zs=zs':=
 (p1.trans p2.symm).eq_of_pairwise (fun x y _ _ h1 h2=>aY9 h1 h2) s1 s2
end L2
namespace Web
open PySem L2
def N6 (ks:List (List Int))(p:Nat):Nat:=ks.countP fun k=>decide ((p:Int)∈k)
def tal (n:Nat)(ks:List (List Int)):List Int:=(p5 n).map fun p=>(N6 ks p:Int)
theorem P3 (n:Nat)(ks:List (List Int)):(tal n ks).length=n:=by simp[tal]
theorem aa8 (h:p<n):(tal n ks)[p]?=some (N6 ks p:Int):=by
 unfold tal
 rw[o5,J9 h]
 rfl
theorem bv3 {ls:List (List Int)}(h:ks.Perm ls)(p:Nat):N6 ks p=N6 ls p:=h.countP_eq _
theorem bx0 {ls:List (List Int)}(h:ks.Perm ls)(n:Nat):tal n ks=tal n ls:=by
 unfold tal
 exact K1 fun p _=>by rw[bv3 h]
theorem aH9 (ks ls:List (List Int))(p:Nat):N6 (ks++ls) p=N6 ks p+N6 ls p:=List.countP_append
theorem bH7 (i j p:Nat):N6 [[(i:Int),(j:Int)]] p=if p=i\/p=j then 1 else 0:=by
 unfold N6
 rw[List.countP_singleton]
 by_cases h:p=i\/p=j
 ·rw[if_pos h,if_pos]
  simp only[decide_eq_true_eq,d7,C2,or_false]
  omega
 ·rw[if_neg h,if_neg]
  simp only[decide_eq_true_eq,d7,C2,or_false]
  omega
theorem bk4 (n:Nat):tal n []=u5 n 0:=by
 unfold tal N6
 rw[List.eq_replicate_iff]
 simp
theorem bk3 (hi:i<n)(hj:j<n)(h:i≠j)(ks:List (List Int))(z1 z2:Int)(e1:z1=N6 ks i)(e2:z2=N6 ks j) :
  ((tal n ks).set i (z1+1)).set j (z2+1)=tal n (ks++[[(i:Int),(j:Int)]]):=by
 subst e1 e2
 refine M8 fun p=>?_
 by_cases hp:p<n
 ·rw[aa8 hp,aH9,bH7,ch8,ch8,K7,P3,aa8 hp]
  by_cases q1:j=p
  ·subst q1
   rw[if_pos rfl,if_pos hj,if_pos (.inr rfl)]
   simp
  ·rw[if_neg q1]
   by_cases q2:i=p
   ·subst q2
    rw[if_pos rfl,if_pos hi,if_pos (.inl rfl)]
    simp
   ·rw[if_neg q2,if_neg (by omega)]
    simp
 ·rw[o7 (by simp[P3];omega),o7 (by rw[P3];omega)]
theorem bT2:∀ n,n<25->∀ p,p<n->N6 (l4 n) p=n - 1:=by decide +kernel
def ap5 (n:Nat)(ks:List (List Int)):List (List Int):=(l4 n).filter fun k=>!decide (k∈ks)
theorem bi4 (n:Nat)(ks:List (List Int))(p:Nat):N6 ((l4 n).filter fun k=>decide (k∈ks)) p+N6 (ap5 n ks) p=N6 (l4 n) p:=by
 unfold ap5 N6
 generalize l4 n=ls
 induction ls with
 | nil=>rfl
 | cons k ls ih =>
  by_cases h:k∈ks
  ·rw[G0 (by simpa using h),G1 (by simpa using h),N9,N9]
   omega
  ·rw[G1 (by simpa using h),G0 (by simpa using h),N9,N9]
   omega
theorem aq7:∀ {ls ks:List (List Int)},ks.Sublist ls->ls.Nodup->ls.filter (fun k=>decide (k∈ks))=ks
 | _,_,.slnil,_=>rfl
 | l::ls,ks,.cons _ s,nd=>by
  have h1:=(B5.mp nd)
  have hn:l∉ks:=fun q=>h1.1 (s.subset q)
  rw[G1 (by simpa using hn)]
  exact aq7 s h1.2
 | l::ls,_::ks,.cons₂ _ s,nd=>by
  have h1:=(B5.mp nd)
  rw[G0 (by simp)]
  congr 1
  have e:ls.filter (fun x=>decide (x∈l::ks))=ls.filter (fun x=>decide (x∈ks)):=by
   refine List.filter_congr fun x hx=>?_
   have:x≠l:=fun q=>h1.1 (q ▸ hx)
   simp[this]
  rw[e]
  exact aq7 s h1.2
theorem br9 (hn:n<=24)(s:ks.Sublist (l4 n)):tal n (ap5 n ks)=(tal n ks).map fun z=>(n:Int) - 1 - z:=by
 unfold tal
 rw[M4]
 refine K1 fun p hp=>?_
 rw[v8]at hp
 have h1:=bi4 n ks p
 rw[aq7 s (ao2 (ag6 n)),bT2 n (by omega) p hp]at h1
 show (N6 (ap5 n ks) p:Int)=(n:Int) - 1 - (N6 ks p:Int)
 omega
theorem ba9 (n:Nat)(ks:List (List Int)):(ap5 n ks).Sublist (l4 n):=X3
end Web
namespace HT
open PySem PyProof.Rows
end HT
namespace L2
open PySem PySem.Spec PyProof.Rows
section
variable {st:Expr} {ts:TE} {p2:Pos}
def cr3 (t u:TS):TS:=fun D σ H=>∃ Mid:St->Hp->Prop,t { D with nx:=Mid } σ H/\∀ σ' H',Mid σ' H'->u D σ' H'
theorem bm1 {stm:Stmt}{rest:List Stmt}{t u:TS}(h1:PS X stm t)(h2:PSs X rest u):PSs X (stm::rest) (cr3 t u):=by
 intro pins s σ H D I ⟨Mid,h,k⟩
 refine be3 (thn (h1 pins s σ H { D with nx:=Mid } I h) fun f s1 q=>?_)
 cases f with
 | next =>
  obtain⟨σ',H',I',q⟩:=q
  exact h2 pins s1 σ' H' D I' (k _ _ q)
 | ret v=>exact q
 | brk=>exact q
 | cont=>exact q
end
end L2
set_option Elab.async false
set_option maxRecDepth 100000
namespace L2
open PySem PySem.Spec PyProof.Rows
section
variable (P:Program) (w:World)
end
section
variable {o:HO}
end
section
variable {x e:Addr} {o':HO}
end
section
variable {fs fs' ex ex':List Addr} {H1 H2:Hp} {h1 h2:Heap} {x e:Addr} {o:HO}
end
section
variable {σ:List (Option V)}
end
section
variable {a b:Expr} {tb:TE}
variable {tA tB':TT} {rest:List Expr}
end
section
variable {st:Stmt} {rest:List Stmt} {t u:TS}
end
section
variable {a b c:Expr} {tb tc:TE}
end
section
variable {a b c:Expr} {tb tc:TE}
end
section
variable {K:W.Frag} {x dx:Addr} {name:Str}
end
section
variable {dx:Addr} {fs fs':List (Str × V)}
end
section
variable {dx:Addr} {fs:List (Str × V)} {f:Str} {v:V}
end
section
variable {o value:Expr} {f:Str} {pos' tpos:Pos} {tv:TE}
end
section
variable {c:Value} {b:Bool}
end
section
variable {t:TA}
end
section
variable {s':Shared}
end
section
variable {CX:CXT} {k:Nat} {sp:Sp} {dvs:List V} {ds:List Value} {E:XK} {m:Str} {p apos:Pos} {o:Expr} {t:TA}
end
section
variable {CX:CXT} {k:Nat} {ks:List Str} {sp:Sp} {E:XK} {m:Str} {p apos kpos:Pos} {o:Expr} {kws:List aJ8} {t tk:TA} {nm:Option Str}
variable {g:List Value->List Value->List Value}
end
section
variable {p:Pos} {t:TA} {id T:String} {r:List V->Hp->VK->Prop}
end
section
variable {κ:Type} [DecidableEq κ]
def Q7 (kvs:List (κ × V))(k:κ):Option V:=(kvs.find? fun kv=>decide (kv.1=k)).map (·.2)
def putK (kvs:List (κ × V))(k:κ)(v:V):List (κ × V):=
 if (kvs.any fun kv=>decide (kv.1=k))=true then kvs.map (fun kv=>if kv.1=k then (kv.1,v) else kv) else kvs++[(k,v)]
theorem R6 {p:κ × V}{r:List (κ × V)}{k:κ}(e:p.1=k):Q7 (p::r) k=some p.2:=by simp[Q7,Z3,e]
theorem R7 {p:κ × V}{r:List (κ × V)}{k:κ}(e:¬ p.1=k):Q7 (p::r) k=Q7 r k:=by simp[Q7,Z3,e]
theorem ak7 (k:κ):∀ kvs:List (κ × V),(kvs.any fun kv=>decide (kv.1=k))=(Q7 kvs k).isSome
 | []=>rfl
 | p::r=>by
  rw[Z2]
  by_cases e:p.1=k
  ·simp only[R6 e,decide_eq_true e,Bool.true_or,Option.isSome_some]
  ·rw[R7 e,decide_eq_false e,Bool.false_or];exact ak7 k r
theorem aV4 (k j:κ)(y:V):∀ kvs:List (κ × V),Q7 (kvs.map fun kv=>if kv.1=k then (kv.1,y) else kv) j=(Q7 kvs j).map fun x=>if j=k then y else x
 | []=>rfl
 | p::r=>by
  have ih:=aV4 k j y r
  rw[m8]
  by_cases h:p.1=k
  ·rw[if_pos h]
   by_cases e:p.1=j
   ·rw[R6 (p:=(p.1,y)) e,R6 e,af3,if_pos (e.symm.trans h)]
   ·rw[R7 (p:=(p.1,y)) e,R7 e,ih]
  ·rw[if_neg h]
   by_cases e:p.1=j
   ·rw[R6 (p:=p) e,R6 e,af3,if_neg (fun z=>h (e.trans z))]
   ·rw[R7 (p:=p) e,R7 e,ih]
theorem aL2 (k j:κ)(y:V):∀ kvs:List (κ × V),Q7 kvs k=none->Q7 (kvs++[(k,y)]) j=if j=k then some y else Q7 kvs j
 | [],_=>by
  by_cases e:k=j
  ·rw[if_pos e.symm];exact R6 (p:=(k,y)) e
  ·rw[if_neg (fun z=>e z.symm)];exact R7 (p:=(k,y)) e
 | p::r,hn=>by
  rw[aT6]
  have hk:¬ p.1=k:=fun z=>by rw[R6 z]at hn;cases hn
  rw[R7 hk]at hn
  have ih:=aL2 k j y r hn
  by_cases e:p.1=j
  ·rw[R6 e,R6 e,if_neg (fun z=>hk (e.trans z))]
  ·rw[R7 e,R7 e,ih]
theorem ak6 (kvs:List (κ × V))(k j:κ)(y:V):Q7 (putK kvs k y) j=if j=k then some y else Q7 kvs j:=by
 unfold putK
 by_cases a:(kvs.any fun kv=>decide (kv.1=k))=true
 ·rw[if_pos a,aV4]
  rw[ak7]at a
  by_cases e:j=k
  ·obtain⟨x,hx⟩:=o9.mp a
   rw[if_pos e,e,hx,af3,if_pos rfl]
  ·rw[if_neg e]
   cases Q7 kvs j with
   | none=>rfl
   | some x=>rw[af3,if_neg e]
 ·rw[if_neg a]
  refine aL2 k j y kvs ?_
  rw[ak7]at a
  cases q:Q7 kvs k with
  | none=>rfl
  | some x=>rw[q]at a;exact(a rfl).elim
theorem am1 (kvs:List (κ × V))(k:κ)(v:V):(putK kvs k v).length<=kvs.length+1:=by
 unfold putK
 split
 ·rw[b8];omega
 ·rw[m6,p6,bd8];omega
theorem aI7.isSome_eq {o:Option V}{u:Option Value}(r:aI7 o u):o.isSome=u.isSome:=by
 cases o with
 | none=>cases u with
  | none=>rfl
  | some _=>exact(show False from r).elim
 | some _=>cases u with
  | none=>exact(show False from r).elim
  | some _=>rfl
theorem KV.val {kvs:List (κ × V)}{vs:List (κ × Value)}(r:KV kvs vs)(k:κ):aI7 (Q7 kvs k) (br1 vs k):=by
 unfold KV at r
 induction r with
 | nil=>exact True.intro
 | @cons p q ps qs h t ih =>
  obtain⟨h1,h2⟩:=h
  by_cases e:p.1=k
  ·have e':q.1=k:=h1.symm.trans e
   have b:br1 (q::qs) k=some q.2:=by simp[br1,Z3,e']
   rw[R6 e,b];exact h2
  ·have e':¬ q.1=k:=fun z=>e (h1.trans z)
   have b:br1 (q::qs) k=br1 qs k:=by simp[br1,Z3,e']
   rw[R7 e,b];exact ih
theorem KV.any {kvs:List (κ × V)}{vs:List (κ × Value)}(r:KV kvs vs)(k:κ):(kvs.any fun kv=>decide (kv.1=k))=vs.any fun kv=>decide (kv.1=k):=by
 unfold KV at r
 induction r with
 | nil=>rfl
 | cons h t ih=>rw[Z2,Z2,ih,h.1]
theorem KV.repl {kvs:List (κ × V)}{vs:List (κ × Value)}(r:KV kvs vs)(k:κ){y:V}(ry:RelV y u) :
  KV (kvs.map fun kv=>if kv.1=k then (kv.1,y) else kv) (vs.map fun kv=>if kv.1=k then (kv.1,u) else kv):=by
 unfold KV at r ⊢
 induction r with
 | nil=>exact .nil
 | @cons p q ps qs h t ih =>
  rw[m8,m8]
  refine .cons ?_ ih
  obtain⟨h1,h2⟩:=h
  by_cases e:p.1=k
  ·rw[if_pos e,if_pos (h1.symm.trans e)];exact⟨h1,ry⟩
  ·rw[if_neg e,if_neg (fun z=>e (h1.trans z))];exact⟨h1,h2⟩
theorem KV.put {kvs:List (κ × V)}{vs:List (κ × Value)}(r:KV kvs vs)(k:κ){y:V}(ry:RelV y u):KV (putK kvs k y) (stored vs k u):=by
 unfold putK stored
 rw[r.any k]
 by_cases e:(vs.any fun kv=>decide (kv.1=k))=true
 ·rw[if_pos e,if_pos e];exact r.repl k ry
 ·rw[if_neg e,if_neg e];exact Paired.snoc r ⟨rfl,ry⟩
theorem KV.length {kvs:List (κ × V)}{vs:List (κ × Value)}(r:KV kvs vs):kvs.length=vs.length:=Paired.length r
end
theorem bn2 {k:Key}(r:RelV (kV k) u):(Q9 P w).is k u=true:=by
 cases k with
 | inl i=>obtain⟨t,e⟩:=(show ∃ t,u=Value.int i t from r);subst e;exact ba1 P w i t
 | inr x=>obtain⟨t,e⟩:=(show ∃ t,u=Value.str x t from r);subst e;exact ba0 P w x t
theorem aM8:∀ {ks:List Key} {us:List Value},C8 (ks.map kV) us->ItemsAre (Q9 P w) ks us
 | [],_,r=>by rw[bJ3]at r;cases r;exact .nil
 | k::ks,_,r=>by
  rw[m8]at r
  cases r with
  | cons h t=>exact .cons (bn2 h) (aM8 t)
abbrev KT (H:Hp):List (List Key × V)->List (List Key × Addr × Value)->Prop:=ae7 fun p q=>p.1=q.1/\H q.2.1=some (.tup (p.1.map kV))/\RelV p.2 q.2.2
theorem KT.val {xs:List (List Key × Addr × Value)}(r:KT H kvs xs)(k:List Key):aI7 (Q7 kvs k) ((ck0 xs k).map (·.2)):=by
 induction r with
 | nil=>exact True.intro
 | @cons p q ps qs h t ih =>
  obtain⟨h1,_,h2⟩:=h
  by_cases e:p.1=k
  ·have e':q.1=k:=h1.symm.trans e
   have b:ck0 (q::qs) k=some q.2:=by simp[ck0,Z3,e']
   rw[R6 e,b];exact h2
  ·have e':¬ q.1=k:=fun z=>e (h1.trans z)
   have b:ck0 (q::qs) k=ck0 qs k:=by simp[ck0,Z3,e']
   rw[R7 e,b];exact ih
theorem KT.repl {xs:List (List Key × Addr × Value)}(r:KT H kvs xs)(k:List Key){y:V}(ry:RelV y u) :
  KT H (kvs.map fun kv=>if kv.1=k then (kv.1,y) else kv) (xs.map (putAt k u)):=by
 induction r with
 | nil=>exact .nil
 | @cons p q ps qs h t ih =>
  rw[m8,m8]
  refine .cons ?_ ih
  obtain⟨h1,h2,h3⟩:=h
  unfold putAt
  by_cases e:p.1=k
  ·rw[if_pos e,if_pos (h1.symm.trans e)];exact⟨h1,h2,ry⟩
  ·rw[if_neg e,if_neg (fun z=>e (h1.trans z))];exact⟨h1,h2,h3⟩
theorem KT.put {xs:List (List Key × Addr × Value)}(r:KT H kvs xs)(k:List Key){y:V}(hb:H b=some (.tup (k.map kV)))(ry:RelV y u) :
  KT H (putK kvs k y) (storedH xs k b u):=by
 have e:(kvs.any fun kv=>decide (kv.1=k))=(ck0 xs k).isSome:=by
  rw[ak7,(r.val k).isSome_eq,bU5]
 unfold putK storedH
 rw[e]
 by_cases q:(ck0 xs k).isSome=true
 ·rw[if_pos q,if_pos q];exact r.repl k ry
 ·rw[if_neg q,if_neg q];exact Paired.snoc r ⟨rfl,hb,ry⟩
theorem KT.keeps {xs:List (List Key × Addr × Value)}(r:KT H kvs xs)(ht:∀ b ys,H b=some (.tup ys)->H' b=some (.tup ys)):KT H' kvs xs:=
 Paired.mapP r fun _ _ z=>⟨z.1,ht _ _ z.2.1,z.2.2⟩
theorem bW6 {u:HO}(ok:HOk P w H h)(e:Rd H a u):G7 P w H h a u:=e.ok ok
theorem bo8 {kvs:List (Key × V)}(ok:HOk P w H h)(e:Rd H a (.dK kvs)):kvs.length<=j7/\(a == V4)=false/\∃ vs,KV kvs vs/\h.DictOf (Q9 P w) a vs:=
 show G7 P w H h a (.dK kvs) from bW6 ok e
theorem cp4 {kvs:List (Key × V)}(ok:HOk P w H h)(e:H a=some (.dK kvs)):kvs.length<=j7/\(a == V4)=false/\∃ vs,KV kvs vs/\h.DictOf (Q9 P w) a vs:=bo8 ok (.inl e)
theorem aR6 {ks:List Key}(ok:HOk P w H h)(e:H a=some (.tup (ks.map kV))):(bq2 (Q9 P w)).is h ks a:=by
 obtain⟨_,its,r,o,h1,h2,n,h3⟩:=(show G7 P w H h a (.tup (ks.map kV)) from ok a _ e)
 exact⟨o,its.toArray,n,h1,h2,h3,by simpa using aM8 r⟩
theorem bo7 (ok:HOk P w H h)(e:Rd H a (.dT kvs)):kvs.length<=j7/\(a == V4)=false /\
  ∃ xs,KT H kvs xs/\h.DictOfH (bq2 (Q9 P w)) a xs:=by
 obtain⟨z,y,xs,r,o,es,ep,h1,h2,h3,h4,h5⟩:=(show G7 P w H h a (.dT kvs) from bW6 ok e)
 refine⟨z,y,xs,r,o,es,ep,h1,h2,h3,h4,fun x hx=>?_,h5⟩
 have all:∀ {l:List (List Key × V)} {m:List (List Key × Addr × Value)},KT H l m->∀ x∈m,(bq2 (Q9 P w)).is h x.1 x.2.1:=by
  intro l m q
  induction q with
  | nil=>intro x hx;exact nomatch hx
  | @cons p q ps qs hq t ih =>
   intro x hx
   rcases d7.mp hx with e | hx
   ·subst e
    exact aR6 ok (by rw[<- hq.1];exact hq.2.1)
   ·exact ih x hx
 exact all r x hx
theorem cp3 (ok:HOk P w H h)(e:H a=some (.dT kvs)):kvs.length<=j7/\(a == V4)=false /\
  ∃ xs,KT H kvs xs/\h.DictOfH (bq2 (Q9 P w)) a xs:=bo7 ok (.inl e)
def aT4 (H:Hp)(a:Addr)(y:V)(r:Option V):Prop:=
 (∃ kvs k,Rd H a (.dK kvs)/\y=kV k/\r=Q7 kvs k)\/∃ kvs k b,Rd H a (.dT kvs)/\y=.ref b/\H b=some (.tup (k.map kV))/\r=Q7 kvs k
def bJ2 (H:Hp)(a:Addr)(y v:V)(H':Hp):Prop:=
 (∃ kvs k,H a=some (.dK kvs)/\y=kV k/\kvs.length<j7/\H'=upd H a (.dK (putK kvs k v))) \/
 ∃ kvs k b,H a=some (.dT kvs)/\y=.ref b/\H b=some (.tup (k.map kV))/\kvs.length<j7/\H'=upd H a (.dT (putK kvs k v))
theorem aT4.t {k:List Key}(e:H a=some (.dT kvs))(eb:H b=some (.tup (k.map kV))):aT4 H a (.ref b) (Q7 kvs k):=.inr ⟨kvs,k,b,.inl e,rfl,eb,rfl⟩
theorem bJ2.t {k:List Key}{v:V}(e:H a=some (.dT kvs))(eb:H b=some (.tup (k.map kV)))(hl:kvs.length<j7) :
  bJ2 H a (.ref b) v (upd H a (.dT (putK kvs k v))):=.inr ⟨kvs,k,b,e,rfl,eb,hl,rfl⟩
section
variable {y v:V} {r:Value} {o:Option V}
theorem Inv.big (I:Inv X pins σ H s):V4<s.heap.objs.size:=by
 have h:j5<s.heap.objs.size:=(I.mod.glob.keeps I.bk).lt
 exact bK2 (by decide) h
theorem bu9 (hu:A.units+1<ae8)(I:Inv X pins σ H s)(g:aT4 H a y (some v))(ry:RelV y u)(h:∀ w' s',Inv X pins σ H s'->RelV v w'->Q w' s') :
  p8 (t9 X.prog X.w) A (bK8 (.ref a) u) Q E s:=by
 rcases g with⟨kvs,k,e,ey,l⟩ | ⟨kvs,k,b,e,ey,eb,l⟩
 ·subst ey
  obtain⟨z,hd,vs,rel,dd⟩:=bo8 I.hok e
  obtain⟨w',hw,rw'⟩:=aI7.some_of (v:=v) (o:=br1 vs k) (by rw[l];exact rel.val k)
  exact wpAny_getItem_of (bn2 ry) dd.mapOf hw (h w' _ (I.tok _) rw')
 ·subst ey
  cases (show u=Value.ref b from ry)
  obtain⟨z,hd,xs,rel,dd⟩:=bo7 I.hok e
  obtain⟨w',hw,rw'⟩:=aI7.some_of (v:=v) (o:=(ck0 xs k).map (·.2)) (by rw[l];exact rel.val k)
  obtain⟨p,hp,hp2⟩:=Option.map_eq_some_iff.mp hw
  refine wpAny_getItem_heap (aP2 hu) (aR6 I.hok eb) dd hp ?_
  rw[hp2]
  exact h w' _ (I.tok _) rw'
theorem bS9 (hu:A.units+1<ae8)(I:Inv X pins σ H s)(g:aT4 H a y o)(ry:RelV y u)(h:∀ s',Inv X pins σ H s'->Q (.bool (!o.isSome)) s') :
  p8 (t9 X.prog X.w) A (F4 .NotIn u (.ref a)) Q E s:=by
 rcases g with⟨kvs,k,e,ey,l⟩ | ⟨kvs,k,b,e,ey,eb,l⟩
 ·subst ey
  obtain⟨z,hd,vs,rel,dd⟩:=bo8 I.hok e
  refine wpAny_notIn_of (bn2 ry) hd dd.mapOf ?_
  rw[<- (rel.val k).isSome_eq,<- l]
  exact h _ (I.tok _)
 ·subst ey
  cases (show u=Value.ref b from ry)
  obtain⟨z,hd,xs,rel,dd⟩:=bo7 I.hok e
  refine wpAny_notIn_heap (aP2 hu) (aR6 I.hok eb) hd dd ?_
  have q:=(rel.val k).isSome_eq
  rw[bU5]at q
  rw[<- q,<- l]
  exact h _ (I.tok _)
theorem aS5 {ob:HO}(I:Inv X pins σ H s)(mu:Mut (H a))(hs:Heap.SameBut a s.heap h')(he:∃ q,h'.get? a=some q)(new:G7 X.prog X.w (upd H a ob) h' a ob) :
  Inv X pins σ (upd H a ob) { s with heap:=h',toks:=t' }:=
 I.write (x:=a) (e:=a) mu (.inl rfl) (fun b q hb z=>(hs.2 b hb).trans z) he new
theorem cg3 {kvs:List (Key × V)}{vs:List (Key × Value)}(z:kvs.length<=j7)(hd:(a == V4)=false)(rel:KV kvs vs)(dd:h'.DictOf (Q9 P w) a vs) :
  G7 P w H' h' a (.dK kvs):=⟨z,hd,vs,rel,dd⟩
theorem bu8 {Q:Unit->Shared->Prop}(hu:A.units+1<ae8)(I:Inv X pins σ H s)(g:bJ2 H a y v H')(ry:RelV y u)(rv:RelV v r)(h:∀ s',Inv X pins σ H' s'->Q () s') :
  p8 (t9 X.prog X.w) A (setItem (.ref a) u r) Q E s:=by
 rcases g with⟨kvs,k,e,ey,l,eH⟩ | ⟨kvs,k,b,e,ey,eb,l,eH⟩
 ·subst ey eH
  obtain⟨z,hd,vs,rel,dd⟩:=cp4 I.hok e
  have hz:vs.length<=j7:=by rw[<- rel.length];exact z
  have hl:(putK kvs k v).length<=j7:=by have:=am1 kvs k v;omega
  refine wpAny_setItem_pairs (hsz:=hz) (bn2 ry) dd fun h' dd' hs=>h _ ?_
  have he:∃ q,h'.get? a=some q:=let ⟨q,_,_,hq,_⟩:=dd';⟨q,hq⟩
  exact aS5 I (by rw[e];exact True.intro) hs he (cg3 hl hd (rel.put k rv) dd')
 ·subst ey eH
  cases (show u=Value.ref b from ry)
  obtain⟨z,hd,xs,rel,dd⟩:=cp3 I.hok e
  have hz:xs.length<=j7:=by rw[<- Paired.length rel];exact z
  have hl:(putK kvs k v).length<=j7:=by have:=am1 kvs k v;omega
  refine wpAny_setItem_heap (hsz:=hz) (aP2 hu) (aR6 I.hok eb) dd fun h' dd' hs=>h _ ?_
  obtain⟨q,es,ep,hq,h2,h3,h4,_,h5⟩:=dd'
  refine aS5 I (by rw[e];exact True.intro) hs ⟨q,hq⟩ ⟨hl,hd,_,(rel.put k eb rv).keeps fun c ys ec=>?_,q,es,ep,hq,h2,h3,h4,h5⟩
  rw[t4 (bD1 ec e (fun z=>nomatch z))]
  exact ec
end
section
variable {kvs:List (Key × V)} {k:Key}
end
def cq1 (i:Expr):Prop:=∀ ov iv,bq5 i false ov iv=operate [ov,iv] (bK8 ov iv)
theorem bM8 {env:Env}{value slice:Expr}{T id:String}
  (hl:typeLookup (.type T) "__getitem__"=pure (some (.builtin id)))(hs:cq1 slice)
  (h:p8 (t9 prog w) A (eval value env) (fun o s₁=>p8 (t9 prog w) A (eval slice env) (fun i s₂=>s₂.TypeIs o T/\p8 (t9 prog w) A (bK8 o i) Q E s₂) E s₁) E s) :
  p8 (t9 prog w) A (eval (.Subscript value slice pos) env) Q E s:=by
 refine Subscript_ (E3 h (fun o s₁ h₁=>E3 h₁ (fun i s₂ h₂=>?_) fun _ _ x=>x) fun _ _ x=>x)
 obtain⟨hT,h₂⟩:=h₂
 unfold bK9
 refine b7 ?_
 rw[getitemInPython_of_ne hT.not_modules]
 refine b7 (wpAny_specialOf hT hl ?_)
 have fin:p8 (t9 prog w) A (bq5 slice false o i) (fun r s₃=>p8 (t9 prog w) A (letTemporaryGo value o r >>= fun _=>pure r) Q E s₃) E s₂:=by
  rw[hs o i]
  exact wpAny_operating (E3 h₂ (fun r s₃ h₃=>b7 (wpAny_letTemporaryGo (d3 h₃))) fun _ _ x=>x)
 first
  | exact d3 (b7 fin)
  | exact b7 (d3 (b7 fin))
  | exact b7 fin
theorem bc2 {y:V}{o:Option V}(I:Inv X pins σ H s)(g:aT4 H a y o):s.TypeIs (.ref a) "dict":=by
 rcases g with⟨kvs,k,e,_,_⟩ | ⟨kvs,k,b,e,_,_,_⟩
 ·obtain⟨_,_,vs,_,dd⟩:=bo8 I.hok e
  exact dd.typeIs
 ·obtain⟨_,_,xs,_,dd⟩:=bo7 I.hok e
  exact dd.typeIs
def cl0 (td ty:TE):TE:=fun σ H Q=>td σ H fun x H1=>ty σ H1 fun y H2=>∃ a v,x=.ref a/\aT4 H2 a y (some v)/\Q v H2
def bM7 (ty td:TE):TE:=fun σ H Q=>ty σ H fun y H1=>td σ H1 fun x H2=>∃ a o,x=.ref a/\aT4 H2 a y o/\Q (.bl (!o.isSome)) H2
def cm4 (td ty tv:TE):TS:=fun D σ H=>tv σ H fun v H1=>td σ H1 fun x H2=>ty σ H2 fun y H3=>∃ a H4,x=.ref a/\bJ2 H3 a y v H4/\D.nx σ H4
section
variable {o i value:Expr} {pos' tpos:Pos} {td ty tv:TE}
theorem bO6 (hu:X.A.units+1<ae8)(ho:PE X o td)(hi:PE X i ty)(hs:cq1 i):PE X (.Subscript o i pos) (cl0 td ty):=by
 intro pins s σ H Q I h
 refine bM8 PySem.F.slot_dict_getitem.lookup hs (thn (ho pins s σ H _ I h) fun u s1 ⟨x,H1,I1,rx,q1⟩=>thn (hi pins s1 σ H1 _ I1 q1) fun iv s2 ⟨y,H2,I2,ry,a,v,ex,g,q2⟩=>?_)
 subst ex
 obtain rfl:u=Value.ref a:=rx
 exact⟨bc2 I2 g,bu9 hu I2 g ry fun w' s3 I3 rw'=>⟨v,H2,I3,rw',q2⟩⟩
theorem bs6 (hu:X.A.units+1<ae8)(hi:PE X i ty)(ho:PE X o td):PC X .NotIn i o (bM7 ty td):=by
 intro pins s σ H Q I h
 refine thn (hi pins s σ H _ I h) fun iv s1 ⟨y,H1,I1,ry,q1⟩=>thn (ho pins s1 σ H1 _ I1 q1) fun u s2 ⟨x,H2,I2,rx,a,ov,ex,g,q2⟩=>?_
 subst ex
 obtain rfl:u=Value.ref a:=rx
 exact bS9 hu I2 g ry fun s3 I3=>⟨.bl (!ov.isSome),H2,I3,rfl,q2⟩
theorem bO2 (hu:X.A.units+1<ae8)(ho:PE X o td)(hi:PE X i ty)(hv:PE X value tv)(hs:bX9 value (some (.Subscript o i pos')) pos.line X.env=pure false) :
  PS X (.Assign [.Subscript o i pos'] value pos) (cm4 td ty tv):=by
 intro pins s σ H D I h
 refine wpAny_Assign_Subscript (thn (hv pins s σ H _ I h) fun r s1 ⟨v,H1,I1,rv,q1⟩=>thn (ho pins s1 σ H1 _ I1 q1) fun u s2 ⟨x,H2,I2,rx,q2⟩=>thn (hi pins s2 σ H2 _ I2 q2) fun iv s3 ⟨y,H3,I3,ry,a,H4,ex,g,q3⟩=>?_) hs
 subst ex
 obtain rfl:u=Value.ref a:=rx
 exact bu8 hu I3 g ry rv fun s4 I4=>⟨σ,H4,I4,q3⟩
end
theorem bH1 (h:Heap)(hb:V4<h.objs.size):G7 P w H (h.push { cls:=.type "dict",data:=.dict #[] }) h.objs.size (.dT []) :=
 ⟨t8 _,beq_eq_false_iff_ne.mpr (Ne.symm (k9 hb)),[],.nil,_,#[],0,i6 _ rfl,⟨rfl,rfl,rfl⟩,rfl,rfl,ak4⟩
def ca2:TE:=fun _ H Q=>∀ p,H p=none->Q (.ref p) (upd H p (.dT []))
theorem bB6:PE X (.Dict [] [] pos) ca2:=fun pins s σ H Q I h =>
 wpAny_Dict_empty ⟨.ref s.heap.objs.size,_,I.laid (a:=s.heap.objs.size) (o:=.dT []) (t':=s.toks) (fun _ _ q=>c5 _ q) (c9 _) (bH1 s.heap I.big),rfl,h _ (I.hok.fresh (c9 _))⟩
structure M1 (X:Cx) (o:Expr) (m:Str) (apos:Pos) (e:Expr) (cpos:Pos):Prop where
 base:bL0 o m X.env (eval o X.env)=eval o X.env
 few:((V0 cpos (v9 [e] X.env)).all (fun x=>!x.1) && (bK7 cpos (aJ9 [] X.env)).all (fun x=>x.1.isSome)
  && decide (([e]:List Expr).length+([]:List aJ8).length+(if ([]:List aJ8).isEmpty then 0 else 1)<30))=true
 line:(apos.endLine == cpos.line)=true
 trees:V0 cpos (v9 [e] X.env)=[(false,eval e X.env)]
structure M2 (X:Cx) (o:Expr) (m:Str) (apos:Pos) (e f:Expr) (cpos:Pos):Prop where
 base:bL0 o m X.env (eval o X.env)=eval o X.env
 few:((V0 cpos (v9 [e,f] X.env)).all (fun x=>!x.1) && (bK7 cpos (aJ9 [] X.env)).all (fun x=>x.1.isSome)
  && decide (([e,f]:List Expr).length+([]:List aJ8).length+(if ([]:List aJ8).isEmpty then 0 else 1)<30))=true
 line:(apos.endLine == cpos.line)=true
 trees:V0 cpos (v9 [e,f] X.env)=[(false,eval e X.env),(false,eval f X.env)]
section
variable {y d:V} {r:Value} {o:Option V}
end
section
variable {o f:Expr} {apos cpos:Pos} {td ty tx:TE}
end
section
variable {kvs:List (Key × V)}
end
section
variable {y:V}
end
end L2
namespace Att
open PySem PySem.W PySem.Calls PyProof.Rows
section
variable {K:Frag}
end
end Att
namespace L2
open PySem PySem.Spec PyProof.Rows
section
variable {K:W.Frag} {mg:Str->Option Value} {base:Heap}
end
section
variable {κ:Type} [DecidableEq κ]
theorem bM2 {kvs:List (κ × V)}{k:κ}{v:V}(h:Q7 kvs k=some v):k∈kvs.map (·.1):=by
 have q:(kvs.any fun kv=>decide (kv.1=k))=true:=by
  rw[ak7,h]
  all_goals rfl
 obtain⟨p,hp,e⟩:=List.any_eq_true.mp q
 exact p0.mpr ⟨p,hp,of_decide_eq_true e⟩
end
theorem bN0 (I:Inv X pins σ H s){p:Addr}(hq:SqL X.K H p (ns.map V.int)\/SqT X.K H p (ns.map V.int)):∃ (vs:List Value) (T:String) (o:Obj) (c:Nat),(T="list"\/T="tuple")/\s.heap.get? p=some o/\o.cls=.type T/\o.data=.seq vs.toArray c/\J7 vs ns:=by
 rcases hq with hq | hq
 ·obtain⟨its,r',pl,hz⟩:=I.list hq
  obtain⟨o,ho,hc,n,hd⟩:=pl.isList
  exact⟨its,"list",o,n,.inl rfl,ho,hc,hd,intsAre_of r'⟩
 ·obtain⟨its,r',pl,hz⟩:=I.tuple hq
  obtain⟨o,ho,hc,n,hd⟩:=pl
  exact⟨its,"tuple",o,n,.inr rfl,ho,hc,hd,intsAre_of r'⟩
theorem bf6 (I:Inv X pins σ H s){h1:Heap}{out:Array Value}(kp:∀ b o',s.heap.get? b=some o'->h1.get? b=some o')(hi:J7 out.toList zs)(hz:zs.length<=1000) :
  H h1.objs.size=none/\Inv X pins σ (upd H h1.objs.size (.lst (zs.map V.int))) { s with heap:=aq3 (h1.push (J0 "list" vs.toArray 0)) h1.objs.size vs out }:=by
 have I1:Inv X pins σ H { s with heap:=h1,toks:=s.toks }:=I.kept kp
 refine⟨I1.hok.fresh (c9 _),?_⟩
 have hoL:(h1.push (J0 "list" vs.toArray 0)).get? h1.objs.size=some (J0 "list" vs.toArray 0):=i6 _ rfl
 obtain⟨e,he⟩:=sortedHeap_at (out:=out) hoL
 refine I1.laid (t':=s.toks) (fun b o q=>?_) (c9 _) ⟨by rw[b8,E4];omega,out.toList,e,an1 hi,by rw[aw2];exact he⟩
 have hb:b<h1.objs.size:=d5 q
 rw[sortedHeap_old (k9 hb) (by rw[bJ8];exact B3 hb)]
 exact c5 _ q
theorem aE1 {p:Addr}{b:Bool}(I:Inv X pins σ H s)(hq:SqL X.K H p (ns.map V.int)\/SqT X.K H p (ns.map V.int))(h64:ns.length<64)
  (h:∀ (s':Shared) (D:Addr) (zs:List Int),H D=none->zs.Perm ns->Ordered b zs->Inv X pins σ (upd H D (.lst (zs.map V.int))) s'->Q (.ref D) s') :
  p8 (t9 X.prog X.w) A (call (.builtin "sorted") [.ref p] [(Str.ofString "reverse",.bool b)]) Q E s:=by
 obtain⟨vs,T,o,c,hT,ho,hc,hd,hI⟩:=bN0 I hq
 have hlen:=hI.length
 refine bV0 cj7 bY4 bY5 (args_sorted_rev _ _) ?_
 unfold Builtin.«sorted»
 refine b7 (m:=checkCount "sorted" 1 1 _) (d3 ?_)
 refine b7 (wpAny_collect_seq p hT ho hc hd (fun h1 kp=>?_) (by rw[i9,E4];omega))
 rw[bU4]
 refine b7 (V5 ?_ (by rw[E4];omega))
 have hoL:(h1.push (J0 "list" vs.toArray 0)).get? h1.objs.size=some (J0 "list" vs.toArray 0):=i6 _ rfl
 refine b7 (D9 (cj8 bw7 (s:={ s with heap:=h1.push (J0 "list" vs.toArray 0) }) ⟨_,hoL,rfl⟩ bq9 (list_sort_tree_rev (s:={ s with heap:=h1.push (J0 "list" vs.toArray 0) }) hoL hI (by omega) fun out ns' a1 a2 a3=>⟨_,rfl,?_⟩) (args_list_sort_rev _ _)))
 obtain⟨e1,e2⟩:=bf6 (vs:=vs) I kp a1 (by rw[a2.length_eq];omega)
 exact d3 ⟨_,rfl,h _ _ ns' e1 a2 a3 e2⟩
def bZ8 (K:W.Frag)(tr:TA):TE:=fun σ H Q=>tr σ H fun vs H1=>∃ (p:Addr) (ns:List Int),vs=[.ref p]/\(SqL K H1 p (ns.map V.int)\/SqT K H1 p (ns.map V.int))/\ns.length<64 /\
 ∀ (l:Addr) (zs:List Int),H1 l=none->zs.Perm ns->zs.Pairwise (·≥·)->Q (.ref l) (upd H1 l (.lst (zs.map V.int)))
theorem bB2 {np bpos kpos:Pos}{tr:TA}(K:W.Frag)(hK:X.K=K)(hg:Gl X "sorted")(hm:X.mg "sorted"=none)(ha:PA X [e] tr)
  (hs:V0 pos (v9 [e] X.env)=(false,eval e X.env)::V0 pos (v9 [] X.env):=by rfl)
  (hpl:(V0 pos (v9 [e] X.env)).any (·.1)=false:=by rfl) :
  PE X (.Call (.Name "sorted" np) [e] [⟨some "reverse",.Constant (.bool true) j bpos,kpos⟩] pos) (bZ8 K tr):=by
 subst hK
 intro pins s σ H Q I h
 refine M0 (Z7 I hg hm (show L6 "sorted"=some (.builtin "sorted") from rfl) ?_ (by decide) (by decide))
 refine cj9 (thn (ha pos pins s σ H _ I h) fun us s1 ⟨vs,H1,I1,r1,q1⟩=>?_) hs hpl rfl rfl
 obtain⟨p,ns,rfl,hq,h64,q⟩:=q1
 have hk:PK X [⟨some "reverse",.Constant (.bool true) j bpos,kpos⟩] (aW0 (tC (.bl true)) bx2):=aQ8 cn2 bg3
 refine thn (hk pos pins s1 σ H1 (fun zs H2=>zs=[.bl true]/\H2=H1) I1 ⟨rfl,rfl⟩) fun ws s2 ⟨zs,H2,I2,r2,ez,eH⟩=>?_
 subst ez eH
 obtain⟨w,rfl,rw⟩:=vals1 r2
 obtain⟨u,rfl,ru⟩:=vals1 r1
 cases rw
 cases ru
 exact aE1 (b:=true) I2 hq h64 fun s' D zs a1 a2 a3 I'=>⟨.ref D,_,I',rfl,q D zs a1 a2 a3⟩
theorem aB0 {ip tp:Addr}{ys:Array Value}{x:Value}(hi:s.heap.IsTupleIter ip tp i)(ht:s.heap.IsTuple tp ys)(hx:ys[i]?=some x)
  (q:∀ h',h'.IsTupleIter ip tp (i+1)->Heap.SameBut ip s.heap h'->Q x { s with heap:=h' }):p8 (t9 prog w) A (Builtin.SmallTypes.nextOf (.ref ip)) Q E s:=by
 obtain⟨u,hu,cu,du⟩:=id hi
 obtain⟨v,hv,_,nv,dv⟩:=ht
 unfold Builtin.SmallTypes.nextOf
 refine b7 (N1 (name:=Str.ofString "__next__") hi.typeIs F.slot_tuple_iterator_next (O8 F.slot_tuple_iterator_next hi.typeIs F.entry_tuple_iterator_next ?_ (F.args_tuple_iterator_next_1 _)))
 show p8 _ _ (field (.ref ip) 0 >>= _) _ _ s;refine b7 (P9 hu du (x:=.ref tp) rfl ?_)
 show p8 _ _ (if (Value.ref tp == Value.none)=true then _ else _) _ _ s;rw[if_neg (show ¬ ((Value.ref tp == Value.none)=true) from i7)]
 show p8 _ _ (field (.ref ip) 1 >>= _) _ _ s;refine b7 (P9 hu du (x:=.int i 0) rfl ?_)
 show p8 _ _ (br2 (.ref tp) >>= _) _ _ s;refine b7 (G5 hv dv ?_)
 simp only[m7,hx]
 refine b7 (aJ4 hu du (by simp) (d3 ⟨x,rfl,d3 (q _ ?_ (Heap.SameBut.update ..))⟩))
 exact⟨_,O5 _ hu (Obj.isFreed_of_fields (Obj.data_mapFields du _)),(Obj.cls_mapFields ..).trans cu,by rw[Obj.data_mapFields du];simp[Z4]⟩
theorem aG0 {ip tp:Addr}{ys:Array Value}(hh:A.handled=none)(hi:s.heap.IsTupleIter ip tp i)(ht:s.heap.IsTuple tp ys)(hx:ys[i]?=none)
  (q:∀ h' e,Heap.ExtBut ip s.heap h'->(∃ o,h'.get? e=some o/\o.cls=.type "StopIteration")->E (.ref e) { s with heap:=h' }):p8 (t9 prog w) A (Builtin.SmallTypes.nextOf (.ref ip)) Q E s:=by
 obtain⟨u,hu,cu,du⟩:=id hi
 obtain⟨v,hv,_,nv,dv⟩:=ht
 unfold Builtin.SmallTypes.nextOf
 refine b7 (N1 (name:=Str.ofString "__next__") hi.typeIs F.slot_tuple_iterator_next (O8 F.slot_tuple_iterator_next hi.typeIs F.entry_tuple_iterator_next ?_ (F.args_tuple_iterator_next_1 _)))
 show p8 _ _ (field (.ref ip) 0 >>= _) _ _ s;refine b7 (P9 hu du (x:=.ref tp) rfl ?_)
 show p8 _ _ (if (Value.ref tp == Value.none)=true then _ else _) _ _ s;rw[if_neg (show ¬ ((Value.ref tp == Value.none)=true) from i7)]
 show p8 _ _ (field (.ref ip) 1 >>= _) _ _ s;refine b7 (P9 hu du (x:=.int i 0) rfl ?_)
 show p8 _ _ (br2 (.ref tp) >>= _) _ _ s;refine b7 (G5 hv dv ?_)
 simp only[m7,hx]
 refine b7 (aq2 (b7 (aJ4 hu du (by simp) ?_)))
 show p8 _ _ (newExc (.type "StopIteration") [] >>= _) _ _ _;refine b7 ?_;simp only[newExc,newTuple]
 refine b7 (V8 ?_ (by size_fits));refine b7 (m:=aJ5 _ _) (aK1 (a:=Value.none) (by first | rfl | (simp only[aJ5];rfl)) ?_)
 refine V8 ?_ (by size_fits);simp only[raiseNew]
 refine b7 (wpAny_handled ?_);first | rw[show A.in1.handled=none from hh] | rw[hh]
 refine b7 (d3 (wpAny_throw ?_));exact q _ _ (((Heap.SameBut.update ..).extBut.push _).push _) ⟨_,i6 _ rfl,rfl⟩
theorem ay4 (hh:A.handled=none)(ip tp:Addr)(hne:tp≠ip)(ys:Array Value):Draws prog w A ip [ip,tp] ys.size (fun i v=>ys[i]?=some v) (fun i h=>h.IsTupleIter ip tp i/\h.IsTuple tp ys) where
 live:=fun _ _ z=>let ⟨o,ho,_⟩:=z.1;⟨o,ho⟩
 frame:=fun _ _ _ z k=>⟨z.1.at fun o e=>k ip (by simp) o e,z.2.at fun o e=>k tp (by simp) o e⟩
 item:=fun i s Q E hi z q=>aB0 z.1 z.2 (x:=ys[i]) (by simp[hi]) fun h' a b=>q _ h' s.toks (by simp[hi]) ⟨a,z.2.extBut b.extBut hne⟩ b
 done:=fun s Q E z q=>aG0 hh z.1 z.2 (by simp) q
open AutoSeq1 (wpAny_loadPart') in
set_option maxRecDepth 100000 in
theorem aG4 (tp:Addr)(ys:Array Value)(n:Nat)(dd:Option Addr)(ss:Array (Option Value)) :
  Meets (Builtin.«enumerate.__new__» ⟨[.type "enumerate",.ref tp],[]⟩) (fun _ R s=>s.heap.get? tp=some { cls:=.type "tuple",dict:=dd,data:=.seq ys n,slots:=ss } /\
   R (.ok (.ret (.ref (s.heap.push { cls:=.type "tuple_iterator",data:=.fields #[.ref tp,.int 0 0] }).objs.size)))
    { s with heap:=(s.heap.push { cls:=.type "tuple_iterator",data:=.fields #[.ref tp,.int 0 0] }).push { cls:=.type "enumerate",data:=.fields #[.none,.bool false,.ref s.heap.objs.size,Z4 0,.none,.none] } }) :=
 .of_wp fun prog w A R s h=>by
  obtain⟨hp,g,d,tk,os⟩:=s;obtain⟨hl,h⟩:=h
  have hsub:=sub_enumerate
  have hT:Heap.IsTuple (Shared.heap ⟨hp,g,d,tk,os⟩) tp ys:=⟨_,hl,rfl,n,rfl⟩
  wp_walk using wpAny_loadPart' hl
  refine wpAny_stack_any fun st=>d3 ?_
  split
  ·rename_i c _ _ _ _ _
   cases (c == Value.type "enumerate")
   ·wp_walk using wpAny_loadPart' hl,G9 hT;exact⟨_,rfl,h⟩
   ·wp_walk using wpAny_loadPart' hl,G9 hT;exact⟨_,rfl,h⟩
  ·wp_walk using wpAny_loadPart' hl,G9 hT;exact⟨_,rfl,h⟩
theorem aK8 {tp:Addr}{ys:Array Value}(hT:s.heap.IsTuple tp ys)
  (q:∀ h',IsEnum h' (s.heap.objs.size+1) s.heap.objs.size 0 .none->h'.IsTupleIter s.heap.objs.size tp 0->h'.objs.size=s.heap.objs.size+2->(∀ b o,s.heap.get? b=some o->h'.get? b=some o)->Q (.ref (s.heap.objs.size+1)) { s with heap:=h' }) :
  p8 (t9 prog w) A (call (.type "enumerate") [.ref tp]) Q E s:=by
 obtain⟨⟨c,dd,dt,ss⟩,hl,hc,n,hd⟩:=hT
 replace hc:c=.type "tuple":=hc
 replace hd:dt=.seq ys n:=hd
 subst hc hd
 refine callType_new F.called_enumerate (by decide) (F.typeCall_enumerate_1 _) (F.newCall_enumerate_1 _) (fun obj=>F.args_object_init_2 obj _) F.entry_enumerate_new (aG4 tp ys n dd ss) ⟨hl,?_⟩
 have hz:(s.heap.push { cls:=.type "tuple_iterator",data:=.fields #[.ref tp,.int 0 0] }).objs.size=s.heap.objs.size+1:=B9 ..
 show _/\_
 rw[hz]
 have he:IsEnum ((s.heap.push { cls:=.type "tuple_iterator",data:=.fields #[.ref tp,.int 0 0] }).push { cls:=.type "enumerate",data:=.fields #[.none,.bool false,.ref s.heap.objs.size,Z4 0,.none,.none] }) (s.heap.objs.size+1) s.heap.objs.size 0 .none:=by
  have:=i6 (s.heap.push { cls:=.type "tuple_iterator",data:=.fields #[.ref tp,.int 0 0] }) (o:={ cls:=.type "enumerate",data:=.fields #[.none,.bool false,.ref s.heap.objs.size,Z4 0,.none,.none] }) rfl
  rw[hz]at this;exact this
 exact⟨⟨_,he,rfl⟩,q _ he ⟨_,c5 _ (i6 _ rfl),rfl,rfl⟩ (by rw[B9,hz]) fun b o x=>c5 _ (c5 _ x)⟩
def Itm (K:W.Frag)(a:Addr):It:=
 ⟨fun i H=>∃ xs x,SqT K H a xs/\xs[i]?=some x,fun i H x H'=>∃ t v,H t=none/\x=.ref t/\(∀ xs,SqT K H a xs->xs[i]?=some v)/\H'=upd H t (.tup [.int i,v]),fun i H=>∃ xs,SqT K H a xs/\xs.length=i⟩
def cf1 (K:W.Frag)(ta:TA):TI:=fun σ H R=>ta σ H fun vs H1=>∃ a,vs=[.ref a]/\(∃ xs,SqT K H1 a xs)/\R (Itm K a) H1
theorem be9 {K:W.Frag}{x1:Nat}(a ip e:Addr)(hne:e≠ip):Turn P w K (.Tuple elts x1 pos) (Itm K a) [e,ip] e (fun i h=>(∃ old,IsEnum h e ip (i:Int) old)/\h.IsTupleIter ip a i) where
 mem:=by simp
 obj:=fun i h st b hb=>by
  obtain⟨⟨old,he⟩,o,ho,hc,hd⟩:=st
  rcases d7.mp hb with rfl | hb
  ·exact⟨_,he,fun v z=>by cases z⟩
  ·obtain rfl:b=ip:=by simpa using hb
   exact⟨o,ho,fun v z=>by rw[hd]at z;cases z⟩
 keep:=fun i h h' st k=>⟨let ⟨old,he⟩:=st.1;⟨old,k e (by simp) _ he⟩,st.2.at fun o q=>k ip (by simp) o q⟩
 item:=by
  intro X hP hw hK hc i pins s σ H E I hf st hg
  subst hP hw hK
  obtain⟨xs,x,hq,hx⟩:=hg
  obtain⟨⟨old,he⟩,hit⟩:=st
  obtain⟨its,rv,p,hz⟩:=I.tuple hq
  obtain⟨u,hu,ru⟩:=rv.get hx
  obtain⟨f0,f1,f2,f3,f4,f5⟩:=hf e (by simp)
  obtain⟨g0,g1,g2,g3,g4,g5⟩:=hf ip (by simp)
  have pT:s.heap.IsTuple a its.toArray:=p
  have nai:a≠ip:=fun z=>by
   obtain⟨o1,h1,c1,_⟩:=id pT
   obtain⟨o2,h2,c2,_⟩:=id hit
   rw[z,h2]at h1;cases h1;rw[c2]at c1;injection c1 with c1;exact absurd c1 (by decide)
  have nae:a≠e:=fun z=>by
   obtain⟨o1,h1,c1,_⟩:=id pT
   rw[z,show s.heap.get? e=_ from he]at h1;cases h1;injection c1 with c1;exact absurd c1 (by decide)
  have ui:its.toArray[i]?=some u:=by simpa using hu
  have hlt':i<its.toArray.size:=by
   rcases A1 i its.toArray.size with h | h
   ·exact h
   ·rw[Z9 h]at ui;cases ui
  refine wpAny_pyNext_enum_itemD (ay4 (A:=X.A.in1) (I.ok.hd hc) ip a nai its.toArray) he ⟨hit,pT⟩ hlt' hne (by simp[hne,Ne.symm nae]) fun v h1 tk hv heo st1 ht1 hz1 hk1=>?_
  have ev:v=u:=by have:=hv.symm.trans ui;cases this;rfl
  subst ev
  have hit1:=st1.1
  refine⟨_,rfl,?_⟩
  refine bw2 heo fun h2 he2 hs2=>?_
  have hlt:e<s.heap.objs.size:=d5 he
  have hs2':Heap.SameBut e h1 h2:=hs2
  have ht2:h2.get? s.heap.objs.size=some { cls:=.type "tuple",data:=.seq #[.int i tk,v] }:=(hs2'.2 _ (M6 hlt)).trans ht1
  have kp:∀ b o,b≠e->b≠ip->s.heap.get? b=some o->h2.get? b=some o:=fun b o h1' h2' q=>(hs2'.2 b h1').trans (hk1 b o h1' h2' q)
  have hT:H s.heap.objs.size=none:=I.hok.fresh (c9 _)
  have nH:∀ b,H b≠none->b≠e/\b≠ip:=fun b hb=>⟨fun z=>hb (z ▸ f0),fun z=>hb (z ▸ g0)⟩
  have keepH:∀ b o,H b=some o->upd H s.heap.objs.size (.tup [.int i,x]) b=some o:=fun b o q=>by rw[t4 (r6 q hT)];exact q
  have hok2:HOk X.prog X.w (upd H s.heap.objs.size (.tup [.int i,x])) h2:=fun b o eb=>by
   by_cases hb:b=s.heap.objs.size
   ·subst hb
    rw[c6]at eb
    cases eb
    exact⟨by show 2<=j7;decide,[.int i tk,v],.cons ⟨_,rfl⟩ (.cons ru .nil),⟨_,ht2,rfl,_,rfl⟩⟩
   ·rw[t4 hb]at eb
    refine(I.hok b o eb).stay (fun c v hcc q=>kp c v ?_ ?_ q) (fun c q=>keepH c _ q) fun c ys q=>keepH c _ q
    ·rcases hcc with z | z
     ·exact(nH c (by rw[z,eb];simp)).1
     ·exact(nH c (by rw[z];simp)).1
    ·rcases hcc with z | z
     ·exact(nH c (by rw[z,eb];simp)).2
     ·exact(nH c (by rw[z];simp)).2
  have I2:Inv X pins σ (upd H s.heap.objs.size (.tup [.int i,x])) { s with heap:=h2,toks:=tk+1 }:=by
   refine I.step (g':=s.gens) (d':=s.drawn) (t':=tk+1) (ch:=[e,ip]) (fun b hb=>?_) (fun b o _ _ hcc q _=>kp b o (fun z=>hcc (by simp[z])) (fun z=>hcc (by simp[z])) q) (fun b o _ _ hcc q _=>⟨o.slots,kp b o (fun z=>hcc (by simp[z])) (fun z=>hcc (by simp[z])) q⟩) (fun b o _ q n=>?_)
    (fun b o hcc q=>⟨o,kp b o (fun z=>hcc (by simp[z])) (fun z=>hcc (by simp[z])) q⟩) (fun b ys q=>keepH b _ q) (fun b o v q=>keepH b _ q) (fun b ps q=>⟨#[],by rw[keepH b _ q];simp⟩) (fun m hm=>?_) hok2 I.bare
   ·rcases d7.mp hb with rfl | hb
    ·exact⟨f3,f1,f4,f5⟩
    ·obtain rfl:b=ip:=by simpa using hb
     exact⟨g3,g1,g4,g5⟩
   ·rw[t4 (k9 (d5 q))]
    exact n
   ·obtain⟨o,es,ep,ho,r⟩:=hm
    exact⟨o,es,ep,kp _ o (Ne.symm f1) (Ne.symm g1) ho,r⟩
  have hilt:ip<s.heap.objs.size:=by
   obtain⟨o,ho,_⟩:=id hit
   exact d5 ho
  refine⟨.ref s.heap.objs.size,_,I2,rfl,⟨s.heap.objs.size,x,hT,rfl,fun ys hy=>by rw[I.tuple_inj hy hq];exact hx,rfl⟩,⟨⟨v,?_⟩,?_⟩,fun b hb=>?_⟩
  ·have:=he2
   rw[show ((i:Int)+1)=(((i+1:Nat):Int)) by simp]at this
   exact this
  ·exact hit1.at fun o q=>(hs2'.2 ip (Ne.symm hne)).trans q
  ·rcases d7.mp hb with rfl | hb
   ·rw[t4 (k9 hlt)];exact f0
   ·obtain rfl:b=ip:=by simpa using hb
    rw[t4 (k9 hilt)]
    exact g0
 done:=by
  intro X hP hw hK hc i pins s σ H E I hf st hg
  subst hP hw hK
  obtain⟨xs,hq,hx⟩:=hg
  obtain⟨⟨old,he⟩,hit⟩:=st
  obtain⟨its,rv,p,hz⟩:=I.tuple hq
  obtain⟨g0,g1,g2,g3,g4,g5⟩:=hf ip (by simp)
  have hl:=rv.length
  have pT:s.heap.IsTuple a its.toArray:=p
  have nai:a≠ip:=fun z=>by
   obtain⟨o1,h1,c1,_⟩:=id pT
   obtain⟨o2,h2,c2,_⟩:=id hit
   rw[z,h2]at h1;cases h1;rw[c2]at c1;injection c1 with c1;exact absurd c1 (by decide)
  have ei:i=its.toArray.size:=by rw[i9];omega
  refine wpAny_pyNext_enum_endD (ay4 (A:=X.A.in1) (I.ok.hd hc) ip a nai its.toArray) he ⟨by rw[<- ei];exact hit,pT⟩ fun h' eb=>⟨rfl,I.turned (t':=s.toks) (fun b o hb q=>eb b o hb q) g0 g1 g3 g4 g5⟩
 self:=fun _ _ _ _ _ st h=>let ⟨⟨old,he⟩,_⟩:=st;aq5 he h
theorem aY4 {a:Expr}{ta:TA}{x1:Nat}{tpos p:Pos}(hg:Gl X "enumerate")(hm:X.mg "enumerate"=none)(ha:PA X [a] ta)(hv:L6 "enumerate"=some (.type "enumerate"):=by rfl)(hs:v9 [a] X.env=[(false,eval a X.env)]:=by rfl) :
  PI X (.Tuple elts x1 tpos) (.Call (.Name "enumerate" p) [a] [] pos) (cf1 X.K ta):=by
 intro pins s σ H R I h
 refine Call_ (Z7 I hg hm hv (PyProof.Rows.callWith_type1 (thn (ha pos pins s σ H _ I h) fun us s1 ⟨vs,H1,I1,r1,q1⟩=>?_) hs rfl))
 obtain⟨b,e,⟨xs,hq⟩,q⟩:=q1
 subst e
 obtain⟨u,rfl,rx⟩:=vals1 r1
 cases rx
 obtain⟨its,rv,pl,hz⟩:=I1.tuple hq
 refine aK8 (show s1.heap.IsTuple b its.toArray from pl) fun h' he hit hsz kp=>?_
 refine aq5 he ?_
 have hne:s1.heap.objs.size+1≠s1.heap.objs.size:=Nat.succ_ne_self _
 refine⟨s1.heap.objs.size+1,[s1.heap.objs.size+1,s1.heap.objs.size],_,_,H1,rfl,I1.kept (t':=s1.toks) kp,be9 b s1.heap.objs.size (s1.heap.objs.size+1) hne,⟨⟨_,he⟩,hit⟩,fun c hc=>?_,q⟩
 rcases d7.mp hc with rfl | hc
 ·exact I1.fpOk (ab9 _) (I1.hok.fresh (ab9 _))
 ·obtain rfl:c=s1.heap.objs.size:=by simpa using hc
  exact I1.fpOk (c9 _) (I1.hok.fresh (c9 _))
theorem ay7 (hc:X.calm=true):S4 X (.builtin "sum") (fun xs H Q=>∃ (p:Addr) (ns:List Int),xs=[.ref p]/\SqT X.K H p (ns.map V.int)/\Q (.int ns.sum) H):=by
 intro pins s σ H xs us Q I r h
 obtain⟨p,ns,rfl,hq,q⟩:=h
 obtain⟨u,rfl,rx⟩:=vals1 r
 cases rx
 obtain⟨its,r',pl,hz⟩:=I.tuple hq
 have hi:J7 its ns:=intsAre_of r'
 obtain⟨ys,e⟩:=hi.allInts.items
 refine PySem.W.ktm_sumG (xs:=ys) (I.ok.hd hc) (by rw[<- e];exact pl) fun h' tk t' hk=>⟨.int ns.sum,H,I.kept (t':=tk) hk,⟨t',?_⟩,q⟩
 have e2:numsOf (K8 ys).toList=ns:=by rw[<- e];exact hi.numsOf
 rw[nums_intItems]at e2
 rw[preSum_eq,k8 (by simp),e2]
end L2
namespace L2
open PySem PySem.Spec PyProof.Rows
theorem bv2 {elt iter:Expr} {ifs:List Expr} {ipos:Pos} {wi:TI} {g:TG} {tt:TT} {use:Option (Value->Sem Unit)} {R:Value->Shared->Prop} {Q:VK}
  (hc:X.calm=true) (hi:PI X tg iter wi) (hclos:aU7 scope X.env=pure cl) (hkind:scope.kind=.function)
  (hnames:∀ y∈scope.names,y.2=.local->scope.names.lookup y.1=some .local) (hcl:aI9 X.env cl) (hfr:av3 scope.names cl=true) (hlk:bI9 X N' lk scope cl)
  (hg:∀ s3 H3 fp,PG (F7 X scope cl N' s3 H3 fp fun _ _=>False) tg g) (ht:∀ s3 H3 fp,PTs (F7 X scope cl N' s3 H3 fp fun _ _=>False) ifs tt) (he:∀ s3 H3 fp,PE (F7 X scope cl N' s3 H3 fp fun _ _=>False) elt te)
  (hs:∀ x,aq1 iter X.env x=pure x) (I:Inv X pins σ H s) (h:bx3 wi lk g tt te σ H Q)
  (hend : ∀ (C D : Addr) (s' : Shared) (H' : Hp), Inv X pins σ H' s' -> Q (.ref D) H' -> H' C = none -> C ≠ X.env.locals -> X.s₀.heap.objs.size <= C -> (∀ x c, X.env.cells.lookup x = some c -> c ≠ C) -> (∀ p ∈ X.pn ++ pins, p.1 ≠ C) -> (∃ m, s'.heap.Ns C m) ->
   bL2 (t9 X.prog X.w) X.A X.xe use R (.ref D) C (.ok .next) s') :
  p8 (t9 X.prog X.w) X.A (comprehension (.ListComp elt [⟨tg,iter,ifs,0⟩] scope pos) scope X.env ipos (newList []) false (eval iter X.env) use) R X.xe s:=by
 have hcellN:∀ y∈scope.names,y.2≠.cell:=fun y hy=>by
  unfold av3 at hfr
  rw[G8]at hfr
  have:=hfr y hy
  rw[C9]at this
  simpa using this.1
 refine bJ9 (use:=use) rfl hs hclos hkind hnames (thn (hi pins s σ H _ I h) fun v s1 h1=>thn h1 fun itv s2 h2=>?_)
 obtain⟨it,fp,tn,J,H2,e,I2,T,st2,f2,q⟩:=h2
 subst e
 refine V5 ?_ (t8 _)
 have hD:H2 s2.heap.objs.size=none:=I2.hok.fresh (c9 _)
 have I3:=I2.lnew (ys:=[]) (its:=[]) (t':=s2.toks) .nil (t8 _)
 obtain⟨W,⟨m0,w0⟩,turn⟩:=q s2.heap.objs.size hD
 have fpl:∀ b∈fp,b<s2.heap.objs.size:=fun b hb=>by
  obtain⟨o,ho,_⟩:=T.obj 0 s2.heap st2 b hb
  exact d5 ho
 refine ah0 hcellN (by intro y hy;cases hy) (fun h1 hns1 hsb1=>?_) hkind
 dsimp only at hns1 hsb1 ⊢
 have e3:s2.heap.push { cls:=.type "list",dict:=none,data:=.seq ([]:List Value).toArray }=s2.heap.push { cls:=.type "list",data:=.seq ([]:List Value).toArray }:=rfl
 generalize hh3:s2.heap.push { cls:=.type "list",dict:=none,data:=.seq ([]:List Value).toArray }=h3 at *
 have I3':Inv X pins σ (upd H2 s2.heap.objs.size (.lst [])) { s2 with heap:=h3,toks:=s2.toks }:=I3
 have size3:h3.objs.size=s2.heap.objs.size+1:=by rw[<- hh3,B9]
 have f3:∀ b∈fp,R1 X pins (upd H2 s2.heap.objs.size (.lst [])) b:=fun b hb=>by
  obtain⟨f0,fr⟩:=f2 b hb
  exact⟨by rw[t4 (k9 (fpl b hb))];exact f0,fr⟩
 have up:∀ b u,h3.get? b=some u->h1.get? b=some u:=fun b u eb=>by
  rw[hsb1.2 b (k9 (d5 eb))]
  exact c5 _ eb
 have I4:Inv (F7 X scope cl N' { s2 with heap:=h3,toks:=s2.toks } (upd H2 s2.heap.objs.size (.lst [])) fp fun _ _=>False) [] (ai5 lk σ) (upd H2 s2.heap.objs.size (.lst [])) { s2 with heap:=h1,toks:=s2.toks+([]:List (Str × Value)).length }:=
  aH5 (s3:={ s2 with heap:=h3,toks:=s2.toks }) I3' f3 hkind hcl hfr hlk hns1 up fun b hb=>by show b<h3.objs.size;rw[size3];exact B3 (fpl b hb)
 have st4:tn 0 h1:=T.keep 0 s2.heap h1 st2 fun b hb o eb=>up b o (by rw[<- hh3];exact c5 _ eb)
 have hCs:h3.objs.size=(V7 scope cl h3.objs.size X.env).locals:=rfl
 have stat:∀ {H':Hp},(∀ b∈fp,H' b=none)->∀ b∈fp,R1 (F7 X scope cl N' { s2 with heap:=h3,toks:=s2.toks } (upd H2 s2.heap.objs.size (.lst [])) fp fun _ _=>False) [] H' b:=fun {H'} hn b hb=>by
  obtain⟨f0,f1,f2',f3',f4,f5⟩:=f3 b hb
  refine⟨hn b hb,?_,fun z=>?_,.inl hb,fun x c ex=>f4 x c (hcl.get ex),fun p hp=>nomatch hp⟩
  ·show b≠h3.objs.size
   rw[size3]
   exact k9 (B3 (fpl b hb))
  ·rcases d7.mp (I3'.stkSub b z) with q | q
   ·exact f1 q
   ·exact f2' q
 have fin:∀ (s':Shared) (σ':St) (H':Hp),Inv (F7 X scope cl N' { s2 with heap:=h3,toks:=s2.toks } (upd H2 s2.heap.objs.size (.lst [])) fp fun _ _=>False) [] σ' H' s'->Q (.ref s2.heap.objs.size) H' ->
   bL2 (t9 X.prog X.w) X.A X.xe use R (.ref s2.heap.objs.size) h3.objs.size (.ok .next) s':=fun s' σ' H' I' q'=>by
  obtain⟨m,hm,_⟩:=id I'.loc
  have I5:Inv X pins σ H' s':=I3'.call' (ch:=fp) I'.os I'.base I'.hok I'.bare fun b hb=>by
   obtain⟨f0,f1,f2',f3',f4,f5⟩:=f3 b hb
   exact⟨f3',f1,f4,f5⟩
  exact hend h3.objs.size s2.heap.objs.size s' H' I5 q' I'.free (M6 I3'.lt) I3'.sz (fun x c ex z=>by
   obtain⟨v',q2⟩:=I3'.cell x c ex
   exact absurd q2.lt (by rw[z];exact B2 _)) (fun p hp z=>absurd (d5 (I3'.pin p hp).1) (by rw[z];exact B2 _)) ⟨m,hm⟩
 have loop:∀ s5:Shared,s5={ s2 with heap:=h1,toks:=s2.toks+([]:List (Str × Value)).length } ->
   ar8 (t9 X.prog X.w) X.A (.compLoop (.ListComp elt [⟨tg,iter,ifs,0⟩] scope pos) 0 (.ref it) (.ref s2.heap.objs.size) (V7 scope cl h3.objs.size X.env)) (bL2 (t9 X.prog X.w) X.A X.xe use R (.ref s2.heap.objs.size) h3.objs.size) s5:=by
  rintro s5 rfl
  refine codeAny_loop rfl (fun n s'=>∃ i xs σ' H',Inv (F7 X scope cl N' { s2 with heap:=h3,toks:=s2.toks } (upd H2 s2.heap.objs.size (.lst [])) fp fun _ _=>False) [] σ' H' s'/\tn i s'.heap/\(∀ b∈fp,H' b=none)/\W i n xs σ' H')
   (fun n s6 hI=>?_) m0 ⟨0,[],ai5 lk σ,_,I4,st4,fun b hb=>(f3 b hb).1,w0⟩
  obtain⟨i,xs,σ6,H6,I6,st6,fr6,w6⟩:=hI
  show p8 _ X.A ((compTurn (.ListComp elt [⟨tg,iter,ifs,0⟩] scope pos) 0 (.ref it) (.ref s2.heap.objs.size) (V7 scope cl h3.objs.size X.env)).onRaise (fun x=>do noteFrame x (V7 scope cl h3.objs.size X.env);theTreesLotGoes x)) _ _ s6
  refine wpAny_noted ?_
  rw[compTurn_list]
  refine b7 (ar7 (b7 ?_))
  obtain⟨hD6,hw⟩:=turn i n xs σ6 H6 w6
  rcases hw with⟨stop,qn⟩ | ⟨go,hlen,step⟩
  ·refine thn (T.done (F7 X scope cl N' { s2 with heap:=h3,toks:=s2.toks } (upd H2 s2.heap.objs.size (.lst [])) fp fun _ _=>False) rfl rfl rfl hc i [] s6 σ6 H6 _ I6 (stat fr6) st6 stop) fun r s7 ⟨hr,I7⟩=>?_
   subst hr
   exact d3 (fin s7 σ6 H6 I7 qn)
  ·refine thn (T.item (F7 X scope cl N' { s2 with heap:=h3,toks:=s2.toks } (upd H2 s2.heap.objs.size (.lst [])) fp fun _ _=>False) rfl rfl rfl hc i [] s6 σ6 H6 _ I6 (stat fr6) st6 go) fun r s7 ⟨u,hr,h7⟩=>?_
   subst hr
   refine b7 (thn h7 fun _ s8 ⟨x,H8,I8,r8,y8,st8,fr8⟩=>?_)
   have I8':=I8.pinned (stat fr8) (T.obj _ _ st8)
   refine b7 (E3 (hg _ _ _ _ s8 σ6 H8 x u _ I8' r8 (step x H8 y8)) (fun _ s9 ⟨σ9,H9,I9,q9⟩=>?_) (fun _ _ z=>False.elim z))
   refine b7 (E3 (ht _ _ _ _ s9 σ9 H9 _ I9 q9) (fun ok s10 ⟨H10,I10,q10⟩=>?_) (fun _ _ z=>False.elim z))
   have bY1:∀ {σ':St} {H':Hp} {ys:List V} {s':Shared},Inv (F7 X scope cl N' { s2 with heap:=h3,toks:=s2.toks } (upd H2 s2.heap.objs.size (.lst [])) fp fun _ _=>False) ([]++aq9 fp s8.heap) σ' H' s'->(∃ m',m'<n/\W (i+1) m' ys σ' H') ->
     ∃ m',m'<n/\∃ i xs σ' H',Inv (F7 X scope cl N' { s2 with heap:=h3,toks:=s2.toks } (upd H2 s2.heap.objs.size (.lst [])) fp fun _ _=>False) [] σ' H' s'/\tn i s'.heap/\(∀ b∈fp,H' b=none)/\W i m' xs σ' H':=fun {σ' H' ys s'} I' ⟨m',hm,w'⟩=>by
    refine⟨m',hm,i+1,ys,σ',H',I'.unpinned,T.keep _ _ _ st8 fun b hb o eb=>(I'.pin (b,o) (m9 _ (m9 _ (U4 hb eb)))).1,fun b hb=>?_,w'⟩
    obtain⟨o,eb,_⟩:=T.obj _ _ st8 b hb
    exact(I'.pin (b,o) (m9 _ (m9 _ (U4 hb eb)))).2.1
   cases ok with
   | false =>
    have q10':∃ m',m'<n/\W (i+1) m' xs σ9 H10:=by simpa using q10
    exact d3 ⟨rfl,bY1 I10 q10'⟩
   | true =>
    rw[if_pos rfl]at q10
    refine b7 (b7 (E3 (he _ _ _ _ s10 σ9 H10 _ I10 q10) (fun y s11 ⟨v11,H11,I11,r11,hD11,q11⟩=>?_) (fun _ _ z=>False.elim z)))
    refine b7 (E3 (ab7 (X:=F7 X scope cl N' { s2 with heap:=h3,toks:=s2.toks } (upd H2 s2.heap.objs.size (.lst [])) fp fun _ _=>False) _ s11 σ9 H11 (.ref s2.heap.objs.size) [v11] (.ref s2.heap.objs.size) [y] (fun _ H'=>∃ m',m'<n/\W (i+1) m' (xs++[v11]) σ9 H') I11 rfl (.cons r11 .nil) ⟨s2.heap.objs.size,xs,v11,rfl,rfl,hD11,hlen,q11⟩) (fun _ s12 ⟨_,H12,I12,_,q12⟩=>?_) (fun _ _ z=>False.elim z))
    exact d3 (d3 ⟨rfl,bY1 I12 q12⟩)
 exact bU9 (loop _ rfl) (T.self X.A 0 _ _ _ st4 (loop _ rfl))
def ck2 (i:Nat)(t:TE):TS:=fun D σ H=>t σ H fun v H1=>D.nx (σ.set i (some v)) H1
theorem aQ7 {y:Str}{py:Pos}{elt iter:Expr}{ifs:List Expr}{spos:Pos}{wi:TI}{g:TG}{tt:TT}
  (hN:X.N.Nodup)(hy:X.N[i]?=some y)(hyl:X.env.scope.names.lookup y=some .local)
  (hsw:bX9 (.ListComp elt [⟨tg,iter,ifs,0⟩] scope pos) (some (.Name y py)) spos.line X.env=pure true)
  (hc:X.calm=true)(hi:PI X tg iter wi)(hclos:aU7 scope X.env=pure cl)(hkind:scope.kind=.function)
  (hnames:∀ y∈scope.names,y.2=.local->scope.names.lookup y.1=some .local)(hcl:aI9 X.env cl)(hfr:av3 scope.names cl=true)(hlk:bI9 X N' lk scope cl)
  (hg:∀ s3 H3 fp,PG (F7 X scope cl N' s3 H3 fp fun _ _=>False) tg g)(ht:∀ s3 H3 fp,PTs (F7 X scope cl N' s3 H3 fp fun _ _=>False) ifs tt)(he:∀ s3 H3 fp,PE (F7 X scope cl N' s3 H3 fp fun _ _=>False) elt te)
  (hs:∀ x,aq1 iter X.env x=pure x:=by intro _;rfl):PS X (.Assign [.Name y py] (.ListComp elt [⟨tg,iter,ifs,0⟩] scope pos) spos) (ck2 i (bx3 wi lk g tt te)):=by
 intro pins s σ H D I h
 rw[exec_Assign_Name_used _ _ _ _ hsw]
 refine b7 (ar7 (b7 ?_))
 show p8 _ X.A (do let _ <- comprehension (.ListComp elt [⟨tg,iter,ifs,0⟩] scope pos) scope X.env _ (newList []) false (eval iter X.env) (some (bY0 (.Name y py) X.env))) _ _ s
 refine b7 (thn (bv2 (use:=some (bY0 (.Name y py) X.env)) (R:=fun _ s'=>SP X pins D .next s') hc hi hclos hkind hnames hcl hfr hlk hg ht he hs I h
  fun C Dd s' H' I' q' hC hCL hCs hCc hCp ⟨m,hm⟩=>?_) fun _ s' hq=>d3 (d3 hq))
 show p8 _ X.A (bY0 (.Name y py) X.env (.ref Dd)) _ _ s'
 refine wpAny_assign_Name (aL4 (v:=.ref Dd) I' hN hy (.inl hyl) rfl (fun s2 I2 ⟨a,hsb,ha⟩=>?_) (.inr hyl))
 have hCa:C≠a:=by
  rcases ha with z | z
  ·rw[z];exact hCL
  ·exact(hCc y a z).symm
 refine⟨m,hm.sameBut hsb hCa,fun h' hs'=>?_⟩
 obtain⟨h0,g0,d0,t0,o0⟩:=s2
 exact⟨_,H',I2.turned (t':=t0) (it:=C) (fun b o hb eb=>(hs'.2 b hb).trans eb) hC hCL (.inr hCs) hCc hCp,q'⟩
end L2
namespace Grf
def S:Nat->(Nat->Int)->Int
 | 0,_=>0
 | n+1,f=>S n f+f n
theorem r9 {f g:Nat->Int}:∀ {n:Nat},(∀ i,i<n->f i=g i)->S n f=S n g
 | 0,_=>rfl
 | n+1,h=>by
  show S n f+f n=S n g+g n
  rw[r9 fun i hi=>h i (by omega),h n (by omega)]
theorem af2 {f g:Nat->Int}:∀ {n:Nat},(∀ i,i<n->f i<=g i)->S n f<=S n g
 | 0,_=>E8 _
 | n+1,h=>by
  have h1:=af2 (n:=n) fun i hi=>h i (by omega)
  have h2:=h n (by omega)
  show S n f+f n<=S n g+g n
  omega
theorem T7 (f g:Nat->Int):∀ n:Nat,S n (fun i=>f i+g i)=S n f+S n g
 | 0=>rfl
 | n+1=>by
  show S n (fun i=>f i+g i)+(f n+g n)=S n f+f n+(S n g+g n)
  rw[T7 f g n]
  omega
theorem E7 (f g:Nat->Int):∀ n:Nat,S n (fun i=>f i - g i)=S n f - S n g
 | 0=>rfl
 | n+1=>by
  show S n (fun i=>f i - g i)+(f n - g n)=S n f+f n - (S n g+g n)
  rw[E7 f g n]
  omega
theorem M5:∀ n:Nat,S n (fun _=>0)=0
 | 0=>rfl
 | n+1=>by
  show S n (fun _=>0)+0=0
  rw[M5 n];rfl
theorem P7 (c:Int):∀ n:Nat,S n (fun _=>c)=(n:Int)*c
 | 0=>by simp[S]
 | n+1=>by
  show S n (fun _=>c)+c=((n+1:Nat):Int)*c
  rw[P7 c n,show ((n+1:Nat):Int)=(n:Int)+1 by omega,Int.add_mul,ap8]
theorem aa1 (c:Int)(f:Nat->Int):∀ n:Nat,S n (fun i=>c*f i)=c*S n f
 | 0=>by simp[S]
 | n+1=>by
  show S n (fun i=>c*f i)+c*f n=c*(S n f+f n)
  rw[aa1 c f n,be2]
theorem T6 {f:Nat->Int}(h:∀ i,i<n->0<=f i):0<=S n f:=by
 have:=af2 (f:=fun _=>0) (g:=f) (n:=n) h
 rw[M5]at this
 exact this
theorem bI6 (f:Nat->Nat->Int)(m:Nat):∀ n:Nat,S n (fun i=>S m (fun j=>f i j))=S m (fun j=>S n (fun i=>f i j))
 | 0=>(M5 m).symm
 | n+1=>by
  show S n (fun i=>S m (fun j=>f i j))+S m (fun j=>f n j)=S m (fun j=>S n (fun i=>f i j)+f n j)
  rw[bI6 f m n,<- T7]
theorem av1 (c:Int)(h:j<n):S n (fun i=>if i=j then c else 0)=c:=by
 induction n with
 | zero=>omega
 | succ n ih =>
  show S n (fun i=>if i=j then c else 0)+(if n=j then c else 0)=c
  by_cases e:n=j
  ·rw[if_pos e,r9 (g:=fun _=>0) fun i hi=>if_neg (by omega),M5];omega
  ·rw[if_neg e,ih (by omega)];omega
theorem Z8 {f g:Nat->Int}(h:j<n)(hf:∀ i,i<n->i≠j->f i=g i):S n f=S n g+(f j - g j):=by
 have:S n f=S n (fun i=>g i+(if i=j then f j - g j else 0)):=r9 fun i hi=>by
  by_cases e:i=j
  ·rw[if_pos e,e];omega
  ·rw[if_neg e,hf i hi e];omega
 rw[this,T7,av1 _ h]
theorem az0 {f:Nat->Int}(h:j<n)(hf:∀ i,i<n->0<=f i):f j<=S n f:=by
 have h1:=Z8 (f:=f) (g:=fun i=>if i=j then 0 else f i) h (fun i _ e=>by rw[if_neg e])
 have h2:0<=S n (fun i=>if i=j then 0 else f i):=T6 fun i hi=>by
  by_cases e:i=j
  ·rw[if_pos e];exact E8 _
  ·rw[if_neg e];exact hf i hi
 rw[if_pos rfl]at h1
 omega
theorem bT7 {f g:Nat->Int}(h:S n f<S n g):∃ i,i<n/\f i<g i:=by
 induction n with
 | zero=>exact absurd h (aJ7 _)
 | succ n ih =>
  by_cases e:f n<g n
  ·exact⟨n,by omega,e⟩
  ·have h':S n f+f n<S n g+g n:=h
   obtain⟨i,hi,h2⟩:=ih (by omega)
   exact⟨i,by omega,h2⟩
def b2 (b:Bool):Int:=if b then 1 else 0
theorem ab3:b2 true=1:=rfl
theorem V2:b2 false=0:=rfl
theorem E1 (b:Bool):0<=b2 b:=by cases b<;>decide
theorem aO4 (b:Bool):b2 b<=1:=by cases b<;>decide
structure Gph (g:Nat->Nat->Bool):Prop where
 sym:∀ i j,g i j=g j i
 irr:∀ i,g i i=false
def deg (n:Nat)(g:Nat->Nat->Bool)(i:Nat):Int:=S n fun j=>b2 (g i j)
def W0 (g:Nat->Nat->Bool)(a b:Nat)(v:Bool):Nat->Nat->Bool:=fun i j=>if (i=a/\j=b)\/(i=b/\j=a) then v else g i j
theorem R8 {a b:Nat}{v:Bool}(h:Gph g)(hab:a≠b):Gph (W0 g a b v) where
 sym:=fun i j=>by
  unfold W0
  by_cases e:(i=a/\j=b)\/(i=b/\j=a)
  ·rw[if_pos e,if_pos (by omega)]
  ·rw[if_neg e,if_neg (by omega)];exact h.sym i j
 irr:=fun i=>by
  unfold W0
  rw[if_neg (by omega)];exact h.irr i
theorem N7 {a b:Nat}{v:Bool}(e:¬ ((i=a/\j=b)\/(i=b/\j=a))):W0 g a b v i j=g i j:=if_neg e
theorem aQ3 {a b:Nat}{v:Bool}:W0 g a b v a b=v:=if_pos (.inl ⟨rfl,rfl⟩)
theorem W4 {a b:Nat}{v:Bool}(h:Gph g)(hab:a≠b)(ha:a<n)(hb:b<n)(i:Nat):deg n (W0 g a b v) i=deg n g i+(if i=a\/i=b then b2 v - b2 (g a b) else 0):=by
 unfold deg
 by_cases e1:i=a
 ·subst e1
  rw[if_pos (.inl rfl),Z8 (g:=fun j=>b2 (g i j)) hb (fun j _ hj=>by show b2 _=_;rw[N7 (by omega)])]
  show _+(b2 (W0 g i b v i b) - _)=_
  rw[aQ3]
 ·by_cases e2:i=b
  ·subst e2
   rw[if_pos (.inr rfl),Z8 (g:=fun j=>b2 (g i j)) ha (fun j _ hj=>by show b2 _=_;rw[N7 (by omega)])]
   show _+(b2 (W0 g a i v i a) - _)=_
   have:W0 g a i v i a=v:=if_pos (.inr ⟨rfl,rfl⟩)
   rw[this,h.sym i a]
  ·rw[if_neg (by omega),r9 (g:=fun j=>b2 (g i j)) fun j _=>by show b2 _=_;rw[N7 (by omega)]]
   omega
end Grf
namespace Thk
open Grf
section
variable {M:Int} {c x:Nat->Int}
def sz (m:Nat)(σ:Nat->Bool):Int:=S m fun j=>b2 (σ j)
def fV (m:Nat)(M:Int)(c:Nat->Int)(σ τ:Nat->Bool):Int:=S m (fun j=>(b2 (σ j) - b2 (τ j))*c j) - M*(sz m σ*((m:Int) - 1 - sz m τ))
def Apart (m:Nat)(σ τ:Nat->Bool):Prop:=∀ j,j<m->¬ (σ j=true/\τ j=true)
theorem al1 (u v w c k:Int):(u - v)*(c - k)=(u - w)*c - (v - w)*c - k*(u - v):=by
 rw[ah2,U3 k (u - v),<- Int.sub_mul]
 have:u - w - (v - w)=u - v:=by omega
 rw[this]
theorem al2 (u v w c k:Int):(u - v)*(c - k)=(w - v)*c - (w - u)*c - k*(u - v):=by
 rw[ah2,U3 k (u - v),<- Int.sub_mul]
 have:w - v - (w - u)=u - v:=by omega
 rw[this]
theorem bX0 (σ σ' τ:Nat->Bool):fV m M c σ' τ=fV m M c σ τ+S m (fun j=>(b2 (σ' j) - b2 (σ j))*(c j - M*((m:Int) - 1 - sz m τ))):=by
 unfold fV
 have e1:S m (fun j=>(b2 (σ' j) - b2 (σ j))*(c j - M*((m:Int) - 1 - sz m τ)))=S m (fun j=>(b2 (σ' j) - b2 (τ j))*c j - (b2 (σ j) - b2 (τ j))*c j - (M*((m:Int) - 1 - sz m τ))*(b2 (σ' j) - b2 (σ j))):=r9 fun j _=>al1 _ _ _ _ _
 rw[e1,E7,E7,aa1,E7]
 unfold sz
 have e2:M*((m:Int) - 1 - S m fun j=>b2 (τ j))*((S m fun j=>b2 (σ' j)) - S m fun j=>b2 (σ j))=M*((S m fun j=>b2 (σ' j))*((m:Int) - 1 - S m fun j=>b2 (τ j))) - M*((S m fun j=>b2 (σ j))*((m:Int) - 1 - S m fun j=>b2 (τ j))):=by
  rw[ah2,R5,R5,U3 ((m:Int) - 1 - S m fun j=>b2 (τ j)),U3 ((m:Int) - 1 - S m fun j=>b2 (τ j))]
 rw[e2]
 omega
theorem bW9 (σ τ τ':Nat->Bool):fV m M c σ τ'=fV m M c σ τ - S m (fun j=>(b2 (τ' j) - b2 (τ j))*(c j - M*sz m σ)):=by
 unfold fV
 have e1:S m (fun j=>(b2 (τ' j) - b2 (τ j))*(c j - M*sz m σ))=S m (fun j=>(b2 (σ j) - b2 (τ j))*c j - (b2 (σ j) - b2 (τ' j))*c j - (M*sz m σ)*(b2 (τ' j) - b2 (τ j))):=r9 fun j _=>al2 _ _ _ _ _
 rw[e1,E7,E7,aa1,E7]
 have e2:M*sz m σ*((S m fun j=>b2 (τ' j)) - S m fun j=>b2 (τ j))=M*(sz m σ*((m:Int) - 1 - sz m τ)) - M*(sz m σ*((m:Int) - 1 - sz m τ')):=by
  rw[<- ah2,<- ah2,R5]
  congr 2
  unfold sz
  omega
 rw[e2]
 omega
theorem bo5 (σ τ:Nat->Bool)(hM:0<=M):fV m M c σ τ<=S m (fun j=>(c j).natAbs)+M*((m:Int)*(m:Int))+M*(m:Int):=by
 unfold fV
 have s0:0<=sz m σ/\sz m σ<=m:=⟨T6 fun j _=>E1 _,by
  have:S m (fun j=>b2 (σ j))<=S m (fun _=>1):=af2 fun j _=>aO4 _
  rw[P7]at this
  unfold sz
  omega⟩
 have t0:0<=sz m τ/\sz m τ<=m:=⟨T6 fun j _=>E1 _,by
  have:S m (fun j=>b2 (τ j))<=S m (fun _=>1):=af2 fun j _=>aO4 _
  rw[P7]at this
  unfold sz
  omega⟩
 have a:S m (fun j=>(b2 (σ j) - b2 (τ j))*c j)<=S m (fun j=>((c j).natAbs:Int)):=af2 fun j _=>by
  cases σ j<;>cases τ j<;>simp[b2]<;>omega
 have b:-(sz m σ)<=sz m σ*((m:Int) - 1 - sz m τ):=by
  have:sz m σ*(-1)<=sz m σ*((m:Int) - 1 - sz m τ):=S6 (by omega) s0.1
  omega
 have d:M*(-(m:Int))<=M*(sz m σ*((m:Int) - 1 - sz m τ)):=S6 (by omega) hM
 have e:0<=M*((m:Int)*(m:Int)):=bq0 hM (bq0 (by omega) (by omega))
 rw[Int.mul_neg]at d
 omega
theorem cp1 (hM:0<=M){σ:Nat->Bool}(h:Apart m σ τ):∃ σ' τ',Apart m σ' τ'/\fV m M c σ τ<=fV m M c σ' τ'/\∀ σ₁ τ₁,Apart m σ₁ τ₁->fV m M c σ₁ τ₁<=fV m M c σ' τ':=by
 obtain⟨N,hN⟩:∃ N:Int,N=S m (fun j=>((c j).natAbs:Int))+M*((m:Int)*(m:Int))+M*(m:Int):=⟨_,rfl⟩
 have key:∀ (n:Nat) (σ τ:Nat->Bool),Apart m σ τ->(N - fV m M c σ τ).toNat=n->∃ σ' τ',Apart m σ' τ'/\fV m M c σ τ<=fV m M c σ' τ'/\∀ σ₁ τ₁,Apart m σ₁ τ₁->fV m M c σ₁ τ₁<=fV m M c σ' τ':=by
  intro n
  induction n using Nat.strongRecOn with
  | _ n ih =>
   intro σ τ ha hn
   by_cases hm:∀ σ₁ τ₁,Apart m σ₁ τ₁->fV m M c σ₁ τ₁<=fV m M c σ τ
   ·exact⟨σ,τ,ha,E8 _,hm⟩
   ·obtain⟨σ₁,h1⟩:=Classical.not_forall.mp hm
    obtain⟨τ₁,h2⟩:=Classical.not_forall.mp h1
    obtain⟨a1,h3⟩:=Classical.not_imp.mp h2
    have b1:=bo5 (m:=m) (c:=c) σ₁ τ₁ hM
    have b0:=bo5 (m:=m) (c:=c) σ τ hM
    rw[<- hN]at b0 b1
    obtain⟨σ',τ',q1,q2,q3⟩:=ih (N - fV m M c σ₁ τ₁).toNat (by omega) σ₁ τ₁ a1 rfl
    exact⟨σ',τ',q1,by omega,q3⟩
 exact key _ σ τ h rfl
end
section
variable {M:Int} {c x:Nat->Int}
def Mx (m:Nat)(M:Int)(c:Nat->Int)(σ τ:Nat->Bool):Prop:=Apart m σ τ/\∀ σ₁ τ₁,Apart m σ₁ τ₁->fV m M c σ₁ τ₁<=fV m M c σ τ
def pP (m:Nat)(M:Int)(σ:Nat->Bool):Int:=M*sz m σ
def qQ (m:Nat)(M:Int)(τ:Nat->Bool):Int:=M*((m:Int) - 1 - sz m τ)
def setB (σ:Nat->Bool)(i:Nat)(v:Bool):Nat->Bool:=fun j=>if j=i then v else σ j
theorem bl2 {σ:Nat->Bool}{v:Bool}:setB σ i v i=v:=if_pos rfl
theorem aQ4 {σ:Nat->Bool}{v:Bool}(h:j≠i):setB σ i v j=σ j:=if_neg h
theorem bX2 (σ:Nat->Bool)(i:Nat)(v:Bool)(g:Nat->Int)(hi:i<m):S m (fun j=>(b2 (setB σ i v j) - b2 (σ j))*g j)=(b2 v - b2 (σ i))*g i:=by
 rw[Z8 (g:=fun _=>0) hi (fun j _ hj=>by rw[aQ4 hj];simp),M5,bl2]
 omega
theorem cn5 {σ:Nat->Bool}(h:Mx m M c σ τ)(hj:j<m)(hs:σ j=false)(ht:τ j=false):c j<=qQ m M τ:=by
 have a:=h.2 (setB σ j true) τ (fun i hi ⟨u,v⟩=>by
  by_cases e:i=j
  ·subst e;rw[ht]at v;cases v
  ·rw[aQ4 e]at u;exact h.1 i hi ⟨u,v⟩)
 rw[bX0 σ (setB σ j true) τ,bX2 σ j true _ hj,hs]at a
 unfold qQ
 simp only[ab3,V2]at a
 omega
theorem cs1 {σ:Nat->Bool}(h:Mx m M c σ τ)(hj:j<m)(ht:τ j=true):c j<=pP m M σ:=by
 have a:=h.2 σ (setB τ j false) (fun i hi ⟨u,v⟩=>by
  by_cases e:i=j
  ·subst e;rw[bl2]at v;cases v
  ·rw[aQ4 e]at v;exact h.1 i hi ⟨u,v⟩)
 rw[bW9 σ τ (setB τ j false),bX2 τ j false _ hj,ht]at a
 unfold pP
 simp only[ab3,V2]at a
 omega
theorem bz6 {σ σ':Nat->Bool}(h:∀ j,j<m->σ' j≠σ j->c j=qQ m M τ):fV m M c σ' τ=fV m M c σ τ:=by
 rw[bX0 σ σ' τ,r9 (g:=fun _=>0) fun j hj=>?_,M5,Int.add_zero]
 by_cases e:σ' j=σ j
 ·rw[e,aU2,Y3]
 ·rw[h j hj e];unfold qQ;rw[aU2,R3]
theorem bz5 {σ τ':Nat->Bool}(h:∀ j,j<m->τ' j≠τ j->c j=pP m M σ):fV m M c σ τ'=fV m M c σ τ:=by
 rw[bW9 σ τ τ',r9 (g:=fun _=>0) fun j hj=>?_,M5,aw3]
 by_cases e:τ' j=τ j
 ·rw[e,aU2,Y3]
 ·rw[h j hj e];unfold pP;rw[aU2,R3]
structure Shr (m:Nat) (M L:Int) (c x:Nat->Int):Prop where
 m1:1<=M
 x0:∀ j,j<m->0<=x j
 xM:∀ j,j<m->x j<=M
 lo:∀ j,j<m->0<x j->L - 1<=c j
 hi:∀ j,j<m->x j<M->c j<=L
 A:∀ σ τ,Apart m σ τ->fV m M c σ τ<=S m fun j=>b2 (σ j)*(M - x j)+b2 (τ j)*x j
 B:∀ σ τ,Apart m σ τ->fV m M c σ τ<=S m fun j=>(1+b2 (σ j) - b2 (τ j))*(M - x j)
 C:∀ σ τ,Apart m σ τ->fV m M c σ τ<=S m fun j=>(1 - b2 (σ j)+b2 (τ j))*x j
def full (M:Int)(x:Nat->Int)(σ:Nat->Bool):Nat->Bool:=fun j=>σ j && decide (x j=M)
theorem bX3 {g:Nat->Int}(h:∀ j,j<m->g j<=0):S m g<=0:=by
 have:=af2 (g:=fun _=>0) h
 rw[M5]at this
 exact this
end
section
variable {M:Int} {c x:Nat->Int}
end
section
variable {M a:Int} {c x:Nat->Int}
def Kk (n:Nat)(M:Int)(d:Nat->Int):Prop:=∀ σ τ,Apart n σ τ->fV n M d σ τ<=0
end
end Thk
namespace Grf
theorem aD2 {x y:Nat}(h:Gph g)(hy:y<n)(hxy:x≠y):S n (fun z=>if z=x\/z=y then 0 else b2 (g x z))=deg n g x - b2 (g x y):=by
 unfold deg
 rw[Z8 (f:=fun z=>if z=x\/z=y then 0 else b2 (g x z)) (g:=fun z=>b2 (g x z)) hy (fun i _ hi=>?_)]
 ·show _+((if y=x\/y=y then (0:Int) else _) - _)=_
  rw[if_pos (.inr rfl)];omega
 ·show (if i=x\/i=y then (0:Int) else _)=_
  by_cases e:i=x
  ·rw[if_pos (.inl e),e,h.irr];rfl
  ·rw[if_neg (by omega)]
theorem cp0 {x y:Nat}(h:Gph g)(hx:x<n)(hy:y<n)(hxy:x≠y)(hd:deg n g y<deg n g x):∃ z,z<n/\z≠x/\z≠y/\g x z=true/\g y z=false:=by
 have h1:=aD2 h hy hxy
 have h2:=aD2 h hx (Ne.symm hxy)
 have h3:S n (fun z=>if z=y\/z=x then 0 else b2 (g y z))<S n (fun z=>if z=x\/z=y then 0 else b2 (g x z)):=by
  rw[h1,h2,h.sym y x];omega
 obtain⟨z,hz,hlt⟩:=bT7 h3
 by_cases e:z=x\/z=y
 ·rw[if_pos (show z=y\/z=x by omega),if_pos e]at hlt
  exact absurd hlt (aJ7 _)
 ·rw[if_neg (show ¬ (z=y\/z=x) by omega),if_neg e]at hlt
  refine⟨z,hz,by omega,by omega,?_⟩
  cases h4:g x z<;>cases h5:g y z<;>rw[h4,h5]at hlt<;>simp_all [b2]
theorem find3 {x y v:Nat}(h:Gph g)(hx:x<n)(hy:y<n)(hv:v<n)(hxy:x≠y)(hxv:x≠v)(hyv:y≠v)(hd:deg n g y<=deg n g x)(h1:g y v=true)(h2:g x v=false) :
  ∃ z,z<n/\z≠x/\z≠y/\z≠v/\g x z=true/\g y z=false:=by
 have e1:=aD2 h hy hxy
 have e2:=aD2 h hx (Ne.symm hxy)
 have f1:=Z8 (f:=fun z=>if z=v then 0 else (if z=x\/z=y then 0 else b2 (g x z))) (g:=fun z=>if z=x\/z=y then 0 else b2 (g x z)) hv (fun i _ hi=>by show (if i=v then (0:Int) else _)=_;rw[if_neg hi])
 have f2:=Z8 (f:=fun z=>if z=v then 0 else (if z=y\/z=x then 0 else b2 (g y z))) (g:=fun z=>if z=y\/z=x then 0 else b2 (g y z)) hv (fun i _ hi=>by show (if i=v then (0:Int) else _)=_;rw[if_neg hi])
 have g1:(if v=v then (0:Int) else (if v=x\/v=y then 0 else b2 (g x v))) - (if v=x\/v=y then 0 else b2 (g x v))=0:=by
  rw[if_pos rfl,if_neg (by omega),h2];rfl
 have g2:(if v=v then (0:Int) else (if v=y\/v=x then 0 else b2 (g y v))) - (if v=y\/v=x then 0 else b2 (g y v)) = -1:=by
  rw[if_pos rfl,if_neg (by omega),h1];rfl
 rw[g1,e1]at f1
 rw[g2,e2,h.sym y x]at f2
 have h3:S n (fun z=>if z=v then 0 else (if z=y\/z=x then 0 else b2 (g y z)))<S n (fun z=>if z=v then 0 else (if z=x\/z=y then 0 else b2 (g x z))):=by
  rw[f1,f2];omega
 obtain⟨z,hz,hlt⟩:=bT7 h3
 by_cases ev:z=v
 ·rw[if_pos ev,if_pos ev]at hlt
  exact absurd hlt (aJ7 _)
 ·rw[if_neg ev,if_neg ev]at hlt
  by_cases e:z=x\/z=y
  ·rw[if_pos (show z=y\/z=x by omega),if_pos e]at hlt
   exact absurd hlt (aJ7 _)
  ·rw[if_neg (show ¬ (z=y\/z=x) by omega),if_neg e]at hlt
   refine⟨z,hz,by omega,by omega,ev,?_⟩
   cases h4:g x z<;>cases h5:g y z<;>rw[h4,h5]at hlt<;>simp_all [b2]
def aK7 (g:Nat->Nat->Bool)(a b c d:Nat):Nat->Nat->Bool:=W0 (W0 (W0 (W0 g a b false) c d false) a d true) c b true
structure Ex (g:Nat->Nat->Bool) (a b c d:Nat):Prop where
 ab:a≠b
 ac:a≠c
 ad:a≠d
 bc:b≠c
 bd:b≠d
 cd:c≠d
 t1:g a b=true
 t2:g c d=true
 n1:g a d=false
 n2:g c b=false
theorem bG7 {a b c d:Nat}(h:Gph g)(x:Ex g a b c d):Gph (aK7 g a b c d):=
 R8 (R8 (R8 (R8 h x.ab) x.cd) x.ad) (Ne.symm x.bc)
theorem bG8 {a b c d:Nat}(h:Gph g)(x:Ex g a b c d)(ha:a<n)(hb:b<n)(hc:c<n)(hd:d<n)(i:Nat):deg n (aK7 g a b c d) i=deg n g i:=by
 obtain⟨ab,ac,ad,bc,bd,cd,t1,t2,n1,n2⟩:=x
 unfold aK7
 have h1:=R8 (v:=false) h ab
 have h2:=R8 (v:=false) h1 cd
 have h3:=R8 (v:=true) h2 ad
 rw[W4 h3 (Ne.symm bc) hc hb,W4 h2 ad ha hd,W4 h1 cd hc hd,W4 h ab ha hb]
 have v1:W0 g a b false c d=true:=by rw[N7 (by omega)];exact t2
 have v2:W0 (W0 g a b false) c d false a d=false:=by rw[N7 (by omega),N7 (by omega)];exact n1
 have v3:W0 (W0 (W0 g a b false) c d false) a d true c b=false:=by rw[N7 (by omega),N7 (by omega),N7 (by omega)];exact n2
 rw[t1,v1,v2,v3,ab3,V2]
 by_cases ea:i=a
 ·subst ea
  rw[if_pos (.inl rfl),if_neg (by omega),if_pos (.inl rfl),if_neg (by omega)];omega
 ·by_cases eb:i=b
  ·subst eb
   rw[if_pos (.inr rfl),if_neg (by omega),if_neg (by omega),if_pos (.inr rfl)];omega
  ·by_cases ec:i=c
   ·subst ec
    rw[if_neg (by omega),if_pos (.inl rfl),if_neg (by omega),if_pos (.inl rfl)];omega
   ·by_cases ed:i=d
    ·subst ed
     rw[if_neg (by omega),if_pos (.inr rfl),if_pos (.inr rfl),if_neg (by omega)];omega
    ·rw[if_neg (by omega),if_neg (by omega),if_neg (by omega),if_neg (by omega)];omega
theorem bc1 {a b c d:Nat}(x:Ex g a b c d)(j:Nat):aK7 g a b c d a j=if j=b then false else if j=d then true else g a j:=by
 obtain⟨ab,ac,ad,bc,bd,cd,t1,t2,n1,n2⟩:=x
 unfold aK7
 rw[N7 (by omega)]
 by_cases e:j=d
 ·subst e
  rw[aQ3,if_neg (by omega),if_pos rfl]
 ·rw[N7 (by omega),N7 (by omega),if_neg e]
  by_cases e2:j=b
  ·subst e2
   rw[aQ3,if_pos rfl]
  ·rw[N7 (by omega),if_neg e2]
theorem co6 {v:Nat}{N:Nat->Bool}(hv:v<n)(hNv:N v=false):∀ (m:Nat) (g:Nat->Nat->Bool),Gph g->S n (fun j=>b2 (N j))=deg n g v ->
  (∀ x y,x<n->y<n->N x=true->N y=false->y≠v->deg n g y<=deg n g x)->S n (fun j=>b2 (N j && !g v j))=(m:Int) ->
  ∃ g',Gph g'/\(∀ i,i<n->deg n g' i=deg n g i)/\∀ j,j<n->g' v j=N j:=by
 intro m
 induction m with
 | zero =>
  intro g h hs hd hm
  refine⟨g,h,fun _ _=>rfl,fun j hj=>?_⟩
  have all:∀ j,j<n->N j=true->g v j=true:=fun j hj hN=>by
   have:=az0 (f:=fun j=>b2 (N j && !g v j)) hj (fun i _=>E1 _)
   rw[hm]at this
   cases hg:g v j with
   | true=>rfl
   | false =>
    have e:b2 (N j && !g v j)=1:=by rw[hN,hg];rfl
    have t:b2 (N j && !g v j)<=0:=this
    omega
  have dif:S n (fun j=>b2 (g v j) - b2 (N j))=0:=by rw[E7];unfold deg at hs;omega
  have pos:∀ i,i<n->0<=b2 (g v i) - b2 (N i):=fun i hi=>by
   cases hN:N i with
   | true=>rw[all i hi hN];decide
   | false=>have:=E1 (g v i);rw[V2];omega
  have:=az0 (f:=fun j=>b2 (g v j) - b2 (N j)) hj pos
  rw[dif]at this
  have p:=pos j hj
  cases hN:N j with
  | true=>exact all j hj hN
  | false =>
   cases hg:g v j with
   | false=>rfl
   | true =>
    have t:b2 (g v j) - b2 (N j)<=0:=this
    rw[hN,hg,ab3,V2]at t
    omega
 | succ m ih =>
  intro g h hs hd hm
  obtain⟨x,hx,hlt⟩:∃ x,x<n/\(fun _=>(0:Int)) x<b2 (N x && !g v x):=bT7 (f:=fun _=>0) (g:=fun j=>b2 (N j && !g v j)) (by rw[M5,hm];omega)
  have hNx:N x=true/\g v x=false:=by
   cases h1:N x<;>cases h2:g v x<;>rw[h1,h2]at hlt<;>simp_all [b2]
  obtain⟨y,hy,hlt2⟩:∃ y,y<n/\b2 (N y)<b2 (g v y):=by
   by_cases hc:∃ y,y<n/\b2 (N y)<b2 (g v y)
   ·exact hc
   ·have pos:∀ i,i<n->0<=b2 (N i) - b2 (g v i):=fun i hi=>by
     have:¬ b2 (N i)<b2 (g v i):=fun z=>hc ⟨i,hi,z⟩
     omega
    have t:=az0 (f:=fun j=>b2 (N j) - b2 (g v j)) hx pos
    have e:S n (fun j=>b2 (N j) - b2 (g v j))=0:=by rw[E7];unfold deg at hs;omega
    rw[e,show b2 (N x) - b2 (g v x)=1 by rw[hNx.1,hNx.2];rfl]at t
    omega
  have hNy:N y=false/\g v y=true:=by
   cases h1:N y<;>cases h2:g v y<;>rw[h1,h2]at hlt2<;>simp_all [b2]
  have xv:x≠v:=fun e=>by rw[e,hNv]at hNx;exact absurd hNx.1 (by decide)
  have yv:y≠v:=fun e=>by rw[e,h.irr]at hNy;exact absurd hNy.2 (by decide)
  have xy:x≠y:=fun e=>by rw[e,hNy.1]at hNx;exact absurd hNx.1 (by decide)
  obtain⟨z,hz,zx,zy,zv,h1,h2⟩:=find3 h hx hy hv xy xv yv (hd x y hx hy hNx.1 hNy.1 yv) (by rw[h.sym];exact hNy.2) (by rw[h.sym];exact hNx.2)
  have ex:Ex g v y z x:=⟨Ne.symm yv,Ne.symm zv,Ne.symm xv,Ne.symm zy,Ne.symm xy,zx,hNy.2,by rw[h.sym];exact h1,hNx.2,by rw[h.sym];exact h2⟩
  have dg:=bG8 h ex hv hy hz hx
  obtain⟨g',k1,k2,k3⟩:=ih (aK7 g v y z x) (bG7 h ex) (by rw[dg];exact hs) (fun a b ha hb n1 n2 n3=>by rw[dg,dg];exact hd a b ha hb n1 n2 n3) (by
   have:=Z8 (f:=fun j=>b2 (N j && !aK7 g v y z x v j)) (g:=fun j=>b2 (N j && !g v j)) hx (fun j _ hj=>by
    show b2 (N j && !aK7 g v y z x v j)=_
    rw[bc1 ex]
    by_cases e:j=y
    ·rw[if_pos e,e,hNy.1];rfl
    ·rw[if_neg e,if_neg hj])
   rw[this,hm]
   have e1:aK7 g v y z x v x=true:=by rw[bc1 ex,if_neg xy,if_pos rfl]
   show _+(b2 (N x && !aK7 g v y z x v x) - b2 (N x && !g v x))=_
   rw[e1,hNx.1,hNx.2]
   show ((m+1:Nat):Int)+(0 - 1)=_
   omega)
  exact⟨g',k1,fun i hi=>by rw[k2 i hi,dg],k3⟩
end Grf
namespace Grf
def cnt (n:Nat)(a:Nat->Bool):Int:=S n fun i=>b2 (a i)
def sm (n:Nat)(a:Nat->Bool)(d:Nat->Int):Int:=S n fun i=>if a i=true then d i else 0
def put (a:Nat->Bool)(j:Nat)(v:Bool):Nat->Bool:=fun i=>if i=j then v else a i
theorem ax4 {a:Nat->Bool}{v:Bool}:put a j v j=v:=if_pos rfl
theorem af0 {a:Nat->Bool}{v:Bool}(h:i≠j):put a j v i=a i:=if_neg h
theorem ai4 {a:Nat->Bool}{v:Bool}(h:j<n):cnt n (put a j v)=cnt n a+(b2 v - b2 (a j)):=by
 unfold cnt
 rw[Z8 (g:=fun i=>b2 (a i)) h (fun i _ hi=>by show b2 (put a j v i)=_;rw[af0 hi])]
 show _+(b2 (put a j v j) - _)=_
 rw[ax4]
theorem aq8 {a:Nat->Bool}{v:Bool}(h:j<n):sm n (put a j v) d=sm n a d+((if v=true then d j else 0) - (if a j=true then d j else 0)):=by
 unfold sm
 rw[Z8 (g:=fun i=>if a i=true then d i else 0) h (fun i _ hi=>by show (if put a j v i=true then d i else 0)=_;rw[af0 hi])]
 show _+((if put a j v j=true then d j else 0) - _)=_
 rw[ax4]
theorem S3 (n:Nat)(a:Nat->Bool):0<=cnt n a:=T6 fun i _=>E1 _
theorem au5 {a b:Nat->Bool}(h:∀ i,a i=true->b i=false):cnt n a+cnt n b<=n:=by
 unfold cnt
 rw[<- T7]
 have:=af2 (f:=fun i=>b2 (a i)+b2 (b i)) (g:=fun _=>1) (n:=n) (fun i _=>by
  show b2 (a i)+b2 (b i)<=1
  cases ha:a i with
  | true=>rw[h i ha];decide
  | false=>have:=aO4 (b i);rw[V2];omega)
 rw[P7]at this
 omega
theorem aS6 {a b:Nat->Bool}(h:∀ i,a i=true->b i=false)(hj:j<n)(ha:a j=false)(hb:b j=false):cnt n a+cnt n b+1<=n:=by
 have:=au5 (n:=n) (a:=put a j true) (b:=b) (fun i hi=>by
  by_cases e:i=j
  ·rw[e];exact hb
  ·rw[af0 e]at hi;exact h i hi)
 rw[ai4 hj,ha,ab3,V2]at this
 omega
theorem bH5 {a:Nat->Bool}(h:∀ i,i<n->a i=false):cnt n a=0:=by
 unfold cnt
 rw[r9 (g:=fun _=>0) fun i hi=>by rw[h i hi];rfl]
 exact M5 n
theorem ah7 {a:Nat->Bool}(h:∀ i,i<n->a i=false):sm n a d=0:=by
 unfold sm
 rw[r9 (g:=fun _=>0) fun i hi=>by rw[h i hi];rfl]
 exact M5 n
theorem by9 {a:Nat->Bool}(hd:∀ i,i<n->0<=d i)(hj:j<n)(ha:a j=true):d j<=sm n a d:=by
 have:=az0 (f:=fun i=>if a i=true then d i else 0) hj (fun i hi=>by
  cases a i with
  | true=>exact hd i hi
  | false=>exact E8 _)
 have e:(if a j=true then d j else 0)=d j:=if_pos ha
 unfold sm
 show d j<=_
 rw[<- e]
 exact this
theorem an2 {a:Nat->Bool}(hd:∀ i,i<n->0<=d i):0<=sm n a d:=T6 fun i hi=>by
 cases a i with
 | true=>exact hd i hi
 | false=>exact E8 _
theorem ca6 {a:Nat->Bool}(hd:∀ i,i<n->0<=d i)(hi:i<n)(hj:j<n)(hij:i≠j)(h1:a i=true)(h2:a j=true):d i+d j<=sm n a d:=by
 have e:=aq8 (d:=d) (a:=a) (v:=false) hi
 rw[h1,if_pos rfl,if_neg (by decide)]at e
 have:=by9 (a:=put a i false) hd hj (by rw[af0 (Ne.symm hij)];exact h2)
 omega
theorem cl5 {a:Nat->Bool}{m:Int}(h:∀ i,i<n->a i=true->d i<=m):sm n a d<=cnt n a*m:=by
 have e:cnt n a*m=S n (fun i=>m*b2 (a i)):=by rw[aa1,U3];rfl
 rw[e]
 refine af2 fun i hi=>?_
 cases ha:a i with
 | true=>rw[if_pos rfl,ab3,K3];exact h i hi ha
 | false=>rw[if_neg (by decide),V2,R3];exact E8 _
theorem cl6 {a:Nat->Bool}{m:Int}(h:∀ i,i<n->a i=true->d i=m):sm n a d=cnt n a*m:=by
 have e:cnt n a*m=S n (fun i=>m*b2 (a i)):=by rw[aa1,U3];rfl
 rw[e]
 refine r9 fun i hi=>?_
 cases ha:a i with
 | true=>rw[if_pos rfl,ab3,K3];exact h i hi ha
 | false=>rw[if_neg (by decide),V2,R3]
theorem aD3 {a:Nat->Bool}(h:cnt n a≠0):∃ i,i<n/\a i=true:=by
 by_cases hc:∃ i,i<n/\a i=true
 ·exact hc
 ·exact absurd (bH5 fun i hi=>by
   cases ha:a i with
   | false=>rfl
   | true=>exact absurd ⟨i,hi,ha⟩ hc) h
theorem cover {a b:Nat->Bool}(h:∀ i,a i=true->b i=false)(hc:cnt n a+cnt n b=n):sm n a d+sm n b d=S n d:=by
 unfold sm
 rw[<- T7]
 refine r9 fun i hi=>?_
 cases ha:a i with
 | true=>rw[h i ha,if_pos rfl,if_neg (by decide)];omega
 | false =>
  cases hb:b i with
  | true=>rw[if_neg (by decide),if_pos rfl];omega
  | false=>have:=aS6 h hi ha hb;omega
def aO7 (n:Nat)(d:Nat->Int):Prop:=∀ a b:Nat->Bool,(∀ i,a i=true->b i=false)->sm n a d<=cnt n a*((n:Int) - 1 - cnt n b)+sm n b d
theorem bS8 (k:Int):∃ q,k*(k - 1)=2*q:=by
 rcases Int.emod_two_eq k with h | h
 ·exact⟨(k / 2)*(k - 1),by
   have:k=2*(k / 2):=by omega
   rw[<- R5,<- this]⟩
 ·exact⟨k*((k - 1) / 2),by
   have:k - 1=2*((k - 1) / 2):=by omega
   rw[Int.mul_left_comm,<- this]⟩
theorem bH2 {a b:Nat->Bool}(h:∀ i,a i=true->b i=false)(x y:Nat):∀ i,put a x false i=true->put b y false i=false:=fun i hi=>by
 by_cases e:i=x
 ·rw[e,ax4]at hi;cases hi
 ·rw[af0 e]at hi
  by_cases e2:i=y
  ·rw[e2,ax4]
  ·rw[af0 e2];exact h i hi
theorem bE6 {t u:Nat}(K:aO7 n d)(hd:∀ i,i<n->0<=d i)(ev:∃ q,S n d=2*q)(ht:t<n)(hu:u<n)(htu:t≠u)(hup:0<d u)(hmax:∀ i,i<n->d i<=d t)(hmin:∀ i,i<n->0<d i->d u<=d i) :
  aO7 n (fun i=>d i - (if i=t then 1 else 0) - (if i=u then 1 else 0)):=by
 intro a b hab
 have hdt:d u<=d t:=hmax u hu
 have lower:∀ c:Nat->Bool,sm n c (fun i=>d i - (if i=t then 1 else 0) - (if i=u then 1 else 0))=sm n c d - b2 (c t) - b2 (c u):=fun c=>by
  have e:sm n c (fun i=>d i - (if i=t then 1 else 0) - (if i=u then 1 else 0))=S n (fun i=>(if c i=true then d i else 0) - (if i=t then b2 (c t) else 0) - (if i=u then b2 (c u) else 0)):=r9 fun i hi=>by
   show (if c i=true then (d i - (if i=t then 1 else 0) - (if i=u then 1 else 0)) else 0)=_
   by_cases e1:i=t
   ·subst e1
    rw[if_pos rfl,if_pos rfl,if_neg htu,if_neg htu]
    cases c i with
    | true=>rfl
    | false=>rfl
   ·rw[if_neg e1,if_neg e1]
    by_cases e2:i=u
    ·subst e2
     rw[if_pos rfl,if_pos rfl]
     cases c i with
     | true=>rfl
     | false=>rfl
    ·rw[if_neg e2,if_neg e2]
     cases c i with
     | true=>rw[if_pos rfl,if_pos rfl]
     | false=>rw[if_neg (by decide),if_neg (by decide)];omega
  rw[e,E7,E7,av1 _ ht,av1 _ hu]
  rfl
 rw[lower a,lower b]
 have K0:=K a b hab
 have ka:=S3 n a
 have kb:=S3 n b
 have kr:=au5 (n:=n) hab
 have sb:=an2 (a:=b) hd
 have ba:=fun x=>E1 (a x)
 have ab:=fun x=>aO4 (a x)
 generalize hk:cnt n a=k at *
 generalize hl:cnt n b=l at *
 have pq:k*((n:Int) - 1 - l)=k*(n:Int) - k - k*l:=by rw[ah2,ah2,K3]
 have rem:∀ s,s<n->a s=true->b t=true->sm n a d+((n:Int) - k - l)+d t - d s<=k*((n:Int) - 1 - l)+sm n b d:=fun s hs has hbt=>by
  have:=K (put a s false) (put b t false) (bH2 hab s t)
  rw[aq8 hs,aq8 ht,ai4 hs,ai4 ht,has,hbt,hk,hl]at this
  simp only[if_true,ab3,V2,l9,if_false]at this
  have e:(k+(0 - 1))*((n:Int) - 1 - (l+(0 - 1)))=k*((n:Int) - 1 - l)+k - (n:Int)+l:=by grind
  rw[e]at this
  omega
 have mov:b t=true->a t=false->sm n a d+d t<=(k+1)*((n:Int) - l)+sm n b d - d t:=fun hbt hat=>by
  have dj:∀ i,put a t true i=true->put b t false i=false:=fun i hi=>by
   by_cases e:i=t
   ·rw[e,ax4]
   ·rw[af0 e]at hi;rw[af0 e];exact hab i hi
  have:=K (put a t true) (put b t false) dj
  rw[aq8 ht,aq8 ht,ai4 ht,ai4 ht,hat,hbt,hk,hl]at this
  simp only[if_true,ab3,V2,l9,if_false]at this
  have e:(k+(1 - 0))*((n:Int) - 1 - (l+(0 - 1)))=(k+1)*((n:Int) - l):=by grind
  rw[e]at this
  omega
 have nota:∀ i,b i=true->a i=false:=fun i hi=>by
  cases h:a i with
  | false=>rfl
  | true=>rw[hab i h]at hi;cases hi
 have empty:k=0->sm n a d=0:=fun hk0=>ah7 fun i hi=>by
  cases h:a i with
  | false=>rfl
  | true =>
   have:=az0 (f:=fun i=>b2 (a i)) hi (fun i _=>E1 _)
   have e:b2 (a i)=1:=by rw[h];rfl
   unfold cnt at hk
   have t:b2 (a i)<=S n (fun i=>b2 (a i)):=this
   omega
 cases hbt:b t with
 | false =>
  cases hbu:b u with
  | false=>have h1:=ba t;have h2:=ba u;rw[V2];omega
  | true =>
   rw[ab3,V2]
   cases hat:a t with
   | true=>have h2:=ba u;rw[ab3];omega
   | false =>
    rw[nota u hbu,V2]
    have dub:=by9 hd hu hbu
    have out:=aS6 hab ht hat hbt
    rw[hk,hl]at out
    by_cases c1:k+1<=d u
    ·have:=K a (put b u false) (fun i hi=>by
      by_cases e:i=u
      ·rw[e,ax4]
      ·rw[af0 e];exact hab i hi)
     rw[aq8 hu,ai4 hu,hbu,hk,hl]at this
     simp only[if_true,ab3,V2,l9,if_false]at this
     have e:k*((n:Int) - 1 - (l+(0 - 1)))=k*((n:Int) - 1 - l)+k:=by grind
     rw[e]at this
     omega
    ·by_cases c2:(n:Int) - l<=d t
     ·have:=K (put a t true) b (fun i hi=>by
       by_cases e:i=t
       ·rw[e];exact hbt
       ·rw[af0 e]at hi;exact hab i hi)
      rw[aq8 ht,ai4 ht,hat,hk,hl]at this
      simp only[if_true,ab3,V2,l9,if_false]at this
      have e:(k+(1 - 0))*((n:Int) - 1 - l)=k*((n:Int) - 1 - l)+((n:Int) - 1 - l):=by grind
      rw[e]at this
      omega
     ·have h1:=cl5 (a:=a) (d:=d) (m:=(n:Int) - 1 - l) (n:=n) (fun i hi _=>by have:=hmax i hi;omega)
      rw[hk]at h1
      omega
 | true =>
  have hat:=nota t hbt
  rw[hat,ab3,V2]
  cases hbu:b u with
  | false =>
   rw[V2]
   cases hau:a u with
   | true=>rw[ab3];omega
   | false =>
    rw[V2]
    have out:=aS6 hab hu hau hbu
    rw[hk,hl]at out
    by_cases k0:k=0
    ·have h1:=empty k0
     have h2:=by9 hd ht hbt
     rw[h1,k0,Y3]
     omega
    ·obtain⟨s,hs,has⟩:=aD3 (n:=n) (a:=a) (by rw[hk];exact k0)
     have h1:=rem s hs has hbt
     have h2:=hmax s hs
     omega
  | true =>
   rw[nota u hbu,ab3,V2]
   have two:=ca6 hd ht hu htu hbt hbu
   by_cases k0:k=0
   ·have h1:=empty k0
    rw[h1,k0,Y3]
    omega
   ·-- slack even where there is no place besides
    have par:(n:Int) - k - l=0->sm n a d<k*((n:Int) - 1 - l)+sm n b d->sm n a d+2<=k*((n:Int) - 1 - l)+sm n b d:=fun r0 hlt=>by
     obtain⟨q,hq⟩:=ev
     have cv:=cover (d:=d) hab (by rw[hk,hl];omega)
     obtain⟨q2,hq2⟩:=bS8 k
     have e:k*((n:Int) - 1 - l)=k*(k - 1):=by rw[show (n:Int) - 1 - l=k - 1 by omega]
     rw[e]at hlt ⊢
     omega
    by_cases hex:∃ s,s<n/\a s=true/\d s<d t
    ·obtain⟨s,hs,has,hlt⟩:=hex
     have h1:=rem s hs has hbt
     by_cases r0:(n:Int) - k - l=0
     ·have:=par r0 (by omega);omega
     ·omega
    ·have all:∀ i,i<n->a i=true->d i=d t:=fun i hi hai=>by
      have h1:=hmax i hi
      have h2:¬ d i<d t:=fun z=>hex ⟨i,hi,hai,z⟩
      omega
     obtain⟨s,hs,has⟩:=aD3 (n:=n) (a:=a) (by rw[hk];exact k0)
     have h1:=rem s hs has hbt
     have h2:=all s hs has
     have mv:=mov hbt hat
     have sa:=cl6 (a:=a) (d:=d) (n:=n) all
     rw[hk]at sa
     generalize d t=m at *
     by_cases r2:2<=(n:Int) - k - l
     ·omega
     ·by_cases r1:(n:Int) - k - l=1
      ·have e1:(n:Int) - 1 - l=k:=by omega
       have e2:(n:Int) - l=k+1:=by omega
       rw[e1]
       rw[e2,sa]at mv
       rw[sa]
       have x1:(k+1)*(k+1)=k*k+2*k+1:=by grind
       rw[x1]at mv
       by_cases c1:m<=k
       ·have:=S6 c1 ka
        omega
       ·by_cases c2:m=k+1
        ·rw[c2,be2,K3];omega
        ·omega
      ·have r0:(n:Int) - k - l=0:=by omega
       have e1:(n:Int) - 1 - l=k - 1:=by omega
       have e2:(n:Int) - l=k:=by omega
       have pr:=par r0
       rw[e1]at pr ⊢
       rw[e2,sa]at mv
       rw[sa]at pr ⊢
       have x1:(k+1)*k=k*k+k:=by grind
       have x2:k*(k - 1)=k*k - k:=by grind
       rw[x1]at mv
       rw[x2]at pr ⊢
       by_cases c1:m<=k - 1
       ·have:=S6 c1 ka
        rw[x2]at this
        omega
       ·by_cases c2:m=k
        ·subst c2
         have:=pr (by omega)
         omega
        ·omega
end Grf
namespace Grf
theorem bi7 {p:Nat->Prop}{f:Nat->Int}:∀ {n:Nat},(∃ i,i<n/\p i)->∃ u,u<n/\p u/\∀ i,i<n->p i->f u<=f i:=by
 intro n
 induction n with
 | zero=>rintro⟨i,h,_⟩;omega
 | succ n ih =>
  rintro⟨i,hi,pi⟩
  by_cases h:∃ i,i<n/\p i
  ·obtain⟨u,hu,pu,hm⟩:=ih h
   by_cases c:p n/\f n<f u
   ·refine⟨n,by omega,c.1,fun j hj pj=>?_⟩
    by_cases e:j=n
    ·rw[e];exact E8 _
    ·have:=hm j (by omega) pj;have:=c.2;omega
   ·refine⟨u,by omega,pu,fun j hj pj=>?_⟩
    by_cases e:j=n
    ·subst e
     have:¬ f j<f u:=fun z=>c ⟨pj,z⟩
     omega
    ·exact hm j (by omega) pj
  ·have e:i=n:=by
    by_cases e:i=n
    ·exact e
    ·exact absurd ⟨i,by omega,pi⟩ h
   subst e
   refine⟨i,by omega,pi,fun j hj pj=>?_⟩
   by_cases e:j=i
   ·rw[e];exact E8 _
   ·exact absurd ⟨j,by omega,pj⟩ h
theorem ch1 {p:Nat->Prop}{f:Nat->Int}(h:∃ i,i<n/\p i):∃ u,u<n/\p u/\∀ i,i<n->p i->f i<=f u:=by
 obtain⟨u,h1,h2,h3⟩:=bi7 (f:=fun i=>-f i) h
 exact⟨u,h1,h2,fun i hi pi=>by have:=h3 i hi pi;omega⟩
theorem bF9:∀ (m n:Nat) (d:Nat->Int),(∀ i,i<n->0<=d i)->aO7 n d->S n d=2*(m:Int)->∃ g,Gph g/\∀ i,i<n->deg n g i=d i:=by
 intro m
 induction m with
 | zero =>
  intro n d hd K hs
  refine⟨fun _ _=>false,⟨fun _ _=>rfl,fun _=>rfl⟩,fun i hi=>?_⟩
  have h1:=az0 hi hd
  have h2:=hd i hi
  have h3:deg n (fun _ _=>false) i=0:=M5 n
  rw[h3]
  have:S n d=0:=by rw[hs];rfl
  omega
 | succ m ih =>
  intro n d hd K hs
  have hpos:∃ i,i<n/\0<d i:=by
   have:=bT7 (f:=fun _=>0) (g:=d) (n:=n) (by rw[M5,hs];omega)
   exact this
  obtain⟨t,ht,htp,hmax0⟩:=ch1 (p:=fun i=>0<d i) (f:=d) hpos
  have hmax:∀ i,i<n->d i<=d t:=fun i hi=>by
   by_cases c:0<d i
   ·exact hmax0 i hi c
   ·omega
  have cb:cnt n (fun i=>decide (i≠t/\d i<=0))+cnt n (fun i=>decide (i≠t/\0<d i))+1=n:=by
   unfold cnt
   have e:=av1 (n:=n) (j:=t) 1 ht
   rw[<- T7]
   have:S n (fun i=>(b2 (decide (i≠t/\d i<=0))+b2 (decide (i≠t/\0<d i)))+(if i=t then 1 else 0))=(n:Int)*1:=by
    rw[<- P7]
    refine r9 fun i hi=>?_
    by_cases e1:i=t
    ·subst e1;simp[b2]
    ·by_cases c:0<d i
     ·have c':¬ d i<=0:=by omega
      simp[b2,e1,c,c']
     ·have c':d i<=0:=by omega
      simp[b2,e1,c,c']
   rw[T7,e]at this
   show S n (fun i=>b2 (decide (i≠t/\d i<=0))+b2 (decide (i≠t/\0<d i)))+1=_
   omega
  have ca:cnt n (fun i=>decide (i=t))=1:=by
   unfold cnt
   rw[r9 (g:=fun i=>if i=t then 1 else 0) fun i _=>by by_cases e:i=t<;>simp[b2,e]]
   exact av1 1 ht
  have sa:sm n (fun i=>decide (i=t)) d=d t:=by
   unfold sm
   rw[r9 (g:=fun i=>if i=t then d t else 0) fun i _=>by by_cases e:i=t<;>simp[e]]
   exact av1 _ ht
  have sb:sm n (fun i=>decide (i≠t/\d i<=0)) d=0:=by
   unfold sm
   rw[r9 (g:=fun _=>0) fun i hi=>by
    by_cases e:i≠t/\d i<=0
    ·have:=hd i hi
     rw[if_pos (decide_eq_true e)]
     have:=e.2
     omega
    ·rw[if_neg (show ¬ decide (i≠t/\d i<=0)=true by rw[decide_eq_false e];decide)]]
   exact M5 n
  have kt:=K (fun i=>decide (i=t)) (fun i=>decide (i≠t/\d i<=0)) (fun i hi=>by
   have:i=t:=of_decide_eq_true hi
   exact decide_eq_false fun z=>z.1 this)
  rw[ca,sa,sb,ap8]at kt
  have hoth:∃ i,i<n/\(i≠t/\0<d i):=by
   obtain⟨i,hi,h⟩:=aD3 (n:=n) (a:=fun i=>decide (i≠t/\0<d i)) (by omega)
   exact⟨i,hi,of_decide_eq_true h⟩
  obtain⟨u,hu,⟨hut,hup⟩,hmin0⟩:=bi7 (p:=fun i=>i≠t/\0<d i) (f:=d) hoth
  have hmin:∀ i,i<n->0<d i->d u<=d i:=fun i hi hp=>by
   by_cases e:i=t
   ·rw[e];exact hmax u hu
   ·exact hmin0 i hi ⟨e,hp⟩
  have htu:t≠u:=Ne.symm hut
  have K':=bE6 K hd ⟨_,hs⟩ ht hu htu hup hmax hmin
  obtain⟨g,hg,dg⟩:=ih n _ (fun i hi=>by
   show 0<=d i - (if i=t then 1 else 0) - (if i=u then 1 else 0)
   by_cases e1:i=t
   ·subst e1;rw[if_pos rfl,if_neg htu];omega
   ·by_cases e2:i=u
    ·subst e2;rw[if_neg e1,if_pos rfl];omega
    ·rw[if_neg e1,if_neg e2];have:=hd i hi;omega) K' (by
   rw[E7,E7,av1 _ ht,av1 _ hu,hs];omega)
  cases hgu:g t u with
  | false =>
   refine⟨W0 g t u true,R8 hg htu,fun i hi=>?_⟩
   rw[W4 hg htu ht hu,dg i hi,hgu,ab3,V2]
   show d i - (if i=t then 1 else 0) - (if i=u then 1 else 0)+_=_
   by_cases e1:i=t
   ·subst e1;rw[if_pos rfl,if_neg htu,if_pos (.inl rfl)];omega
   ·by_cases e2:i=u
    ·subst e2;rw[if_neg e1,if_pos rfl,if_pos (.inr rfl)];omega
    ·rw[if_neg e1,if_neg e2,if_neg (by omega)];omega
  | true =>
   obtain⟨s,hs1,hst,hsp,hgs⟩:∃ s,s<n/\s≠t/\0<d s/\g t s=false:=by
    by_cases hc:∃ s,s<n/\s≠t/\0<d s/\g t s=false
    ·exact hc
    ·have le:cnt n (fun i=>decide (i≠t/\0<d i))<=deg n g t:=af2 fun i hi=>by
      show b2 (decide (i≠t/\0<d i))<=b2 (g t i)
      by_cases e:i≠t/\0<d i
      ·have:g t i=true:=by
        cases h:g t i with
        | true=>rfl
        | false=>exact absurd ⟨i,hi,e.1,e.2,h⟩ hc
       rw[this,decide_eq_true e];exact E8 _
      ·rw[decide_eq_false e];exact E1 _
     have dt:=dg t ht
     have dt':deg n g t=d t - 1 - 0:=by
      rw[dt]
      show d t - (if t=t then 1 else 0) - (if t=u then 1 else 0)=_
      rw[if_pos rfl,if_neg htu]
     omega
   have su:s≠u:=fun e=>by rw[e,hgu]at hgs;cases hgs
   have ds:deg n g s=d s:=by
    rw[dg s hs1]
    show d s - (if s=t then 1 else 0) - (if s=u then 1 else 0)=_
    rw[if_neg hst,if_neg su];omega
   have du:deg n g u=d u - 1:=by
    rw[dg u hu]
    show d u - (if u=t then 1 else 0) - (if u=u then 1 else 0)=_
    rw[if_neg hut,if_pos rfl];omega
   obtain⟨z,hz,zs,zu,h1,h2⟩:=cp0 hg hs1 hu su (by have:=hmin s hs1 hsp;omega)
   have zt:z≠t:=fun e=>by rw[e,hg.sym,hgs]at h1;cases h1
   have g1:=R8 (v:=false) hg (Ne.symm zs)
   have g2:=R8 (v:=true) g1 (Ne.symm hst)
   refine⟨W0 (W0 (W0 g s z false) t s true) u z true,R8 g2 (Ne.symm zu),fun i hi=>?_⟩
   rw[W4 g2 (Ne.symm zu) hu hz,W4 g1 (Ne.symm hst) ht hs1,W4 hg (Ne.symm zs) hs1 hz,dg i hi]
   have v1:W0 g s z false t s=false:=by rw[N7 (by omega)];exact hgs
   have v2:W0 (W0 g s z false) t s true u z=false:=by rw[N7 (by omega),N7 (by omega)];exact h2
   rw[h1,v1,v2,ab3,V2]
   show d i - (if i=t then 1 else 0) - (if i=u then 1 else 0)+_+_+_=_
   by_cases e1:i=t
   ·subst e1;rw[if_pos rfl,if_neg htu,if_neg (by omega),if_pos (.inl rfl),if_neg (by omega)];omega
   ·by_cases e2:i=u
    ·subst e2;rw[if_neg e1,if_pos rfl,if_neg (by omega),if_neg (by omega),if_pos (.inl rfl)];omega
    ·rw[if_neg e1,if_neg e2]
     by_cases e3:i=s
     ·subst e3;rw[if_pos (.inl rfl),if_pos (.inr rfl),if_neg (by omega)];omega
     ·by_cases e4:i=z
      ·subst e4;rw[if_pos (.inr rfl),if_neg (by omega),if_pos (.inr rfl)];omega
      ·rw[if_neg (by omega),if_neg (by omega),if_neg (by omega)];omega
theorem bE5 (hg:Gph g)(dg:∀ i,i<n->deg n g i=d i):aO7 n d:=by
 intro a b hab
 have e1:sm n a d=S n (fun i=>S n (fun j=>if a i=true then (if b j=true then b2 (g i j) else 0) else 0))+S n (fun i=>S n (fun j=>if a i=true then (if b j=true then 0 else b2 (g i j)) else 0)):=by
  rw[<- T7]
  refine r9 fun i hi=>?_
  rw[<- T7]
  cases a i with
  | true =>
   rw[if_pos rfl,<- dg i hi]
   refine r9 fun j _=>?_
   cases b j with
   | true=>simp
   | false=>simp
  | false =>
   rw[if_neg (by decide),r9 (g:=fun _=>0) fun j _=>by simp,M5]
 have e2:S n (fun i=>S n (fun j=>if a i=true then (if b j=true then b2 (g i j) else 0) else 0))<=sm n b d:=by
  rw[bI6]
  refine af2 fun j hj=>?_
  cases hb:b j with
  | true =>
   rw[if_pos rfl,<- dg j hj]
   refine af2 fun i _=>?_
   show (if a i=true then (if true=true then b2 (g i j) else 0) else 0)<=b2 (g j i)
   rw[if_pos rfl,hg.sym j i]
   cases a i with
   | true=>rw[if_pos rfl];exact E8 _
   | false=>rw[if_neg (by decide)];exact E1 _
  | false =>
   rw[if_neg (by decide)]
   have:S n (fun i=>if a i=true then (if false=true then b2 (g i j) else 0) else 0)=0:=by
    rw[r9 (g:=fun _=>0) fun i _=>by simp]
    exact M5 n
   rw[this]
   exact E8 _
 have e3:S n (fun i=>S n (fun j=>if a i=true then (if b j=true then 0 else b2 (g i j)) else 0))<=cnt n a*((n:Int) - 1 - cnt n b):=by
  have:cnt n a*((n:Int) - 1 - cnt n b)=S n (fun i=>((n:Int) - 1 - cnt n b)*b2 (a i)):=by rw[aa1,U3];rfl
  rw[this]
  refine af2 fun i hi=>?_
  cases ha:a i with
  | true =>
   rw[ab3,K3]
   have hbi:=hab i ha
   have t:S n (fun j=>if true=true then (if b j=true then 0 else b2 (g i j)) else 0)<=S n (fun j=>(1 - b2 (b j)) - (if j=i then 1 else 0)):=af2 fun j hj=>by
    show (if true=true then (if b j=true then 0 else b2 (g i j)) else 0)<=_
    rw[if_pos rfl]
    by_cases e:j=i
    ·subst e
     rw[hbi,if_neg (by decide),hg.irr,if_pos rfl];decide
    ·rw[if_neg e]
     cases b j with
     | true=>rw[if_pos rfl];decide
     | false=>rw[if_neg (by decide)];have:=aO4 (g i j);rw[V2];omega
   rw[E7,E7,av1 _ hi,P7,K3]at t
   unfold cnt
   omega
  | false =>
   rw[V2,R3,r9 (g:=fun _=>0) fun j _=>by simp,M5]
   exact E8 _
 omega
end Grf
namespace Grf
def mnf (r x:Int):Int:=if r<x then r else x
theorem aR4 (r x:Int):mnf r x<=x:=by unfold mnf;split<;>omega
theorem aC4 (r x:Int):mnf r x<=r:=by unfold mnf;split<;>omega
theorem aG1 {r x y:Int}(h:x<=y):mnf r x<=mnf r y:=by unfold mnf;split<;>split<;>omega
def roomF (n:Nat)(d:Nat->Int)(A:Nat->Bool):Int:=cnt n A*(cnt n A - 1)+S n (fun i=>if A i=true then 0 else mnf (cnt n A) (d i)) - sm n A d
def Top (n:Nat)(d:Nat->Int)(A:Nat->Bool):Prop:=∀ i j,i<n->j<n->A i=true->A j=false->d j<=d i
theorem aD8 {A a:Nat->Bool}{φ:Int->Int}(hφ:∀ x y,x<=y->φ x<=φ y)(ht:Top n d A)(hc:cnt n a=cnt n A):sm n a (fun i=>φ (d i))<=sm n A (fun i=>φ (d i)):=by
 by_cases h0:cnt n A=0
 ·have za:∀ i,i<n->a i=false:=fun i hi=>by
   cases h:a i with
   | false=>rfl
   | true =>
    have:=az0 (f:=fun i=>b2 (a i)) hi (fun i _=>E1 _)
    have e:b2 (a i)=1:=by rw[h];rfl
    have t:b2 (a i)<=cnt n a:=this
    omega
  have zA:∀ i,i<n->A i=false:=fun i hi=>by
   cases h:A i with
   | false=>rfl
   | true =>
    have:=az0 (f:=fun i=>b2 (A i)) hi (fun i _=>E1 _)
    have e:b2 (A i)=1:=by rw[h];rfl
    have t:b2 (A i)<=cnt n A:=this
    omega
  rw[ah7 za,ah7 zA]
  exact E8 _
 ·obtain⟨m,hm,hAm,hmin⟩:=bi7 (p:=fun i=>A i=true) (f:=d) (aD3 h0)
  have key:S n (fun i=>(if a i=true then φ (d i) else 0) - (if A i=true then φ (d i) else 0))<=S n (fun i=>φ (d m)*b2 (a i) - φ (d m)*b2 (A i)):=af2 fun i hi=>by
   cases ha:a i with
   | true =>
    cases hA:A i with
    | true=>rw[if_pos rfl];omega
    | false =>
     rw[if_pos rfl,if_neg (by decide),ab3,V2,K3,R3]
     have:=hφ _ _ (ht m i hm hi hAm hA)
     omega
   | false =>
    cases hA:A i with
    | true =>
     rw[if_pos rfl,if_neg (by decide),ab3,V2,K3,R3]
     have:=hφ _ _ (hmin i hi hA)
     omega
    | false=>rw[if_neg (by decide)];omega
  rw[E7,E7,aa1,aa1]at key
  have e:φ (d m)*S n (fun i=>b2 (a i))=φ (d m)*S n (fun i=>b2 (A i)):=by
   show φ (d m)*cnt n a=φ (d m)*cnt n A
   rw[hc]
  show S n (fun i=>if a i=true then φ (d i) else 0)<=S n (fun i=>if A i=true then φ (d i) else 0)
  omega
theorem bh3 (hd:∀ i,i<n->0<=d i)(h:∀ r:Nat,1<=r->r<=n->∃ A,cnt n A=r/\Top n d A/\0<=roomF n d A):aO7 n d:=by
 intro a b hab
 have k0:=S3 n a
 have kr:=au5 (n:=n) hab
 have kb:=S3 n b
 by_cases hz:cnt n a=0
 ·have za:∀ i,i<n->a i=false:=fun i hi=>by
   cases h:a i with
   | false=>rfl
   | true =>
    have:=az0 (f:=fun i=>b2 (a i)) hi (fun i _=>E1 _)
    have e:b2 (a i)=1:=by rw[h];rfl
    have t:b2 (a i)<=cnt n a:=this
    omega
  have:=an2 (a:=b) hd
  rw[ah7 za,hz,Y3]
  omega
 ·obtain⟨A,hc,ht,r1⟩:=h (cnt n a).toNat (by omega) (by omega)
  have hcA:cnt n A=cnt n a:=by omega
  have r2:=aD8 (φ:=fun x=>x+mnf (cnt n a) x) (fun x y hxy=>by have:=aG1 (r:=cnt n a) hxy;omega) ht hcA.symm
  have sp:∀ c:Nat->Bool,sm n c (fun i=>d i+mnf (cnt n a) (d i))=sm n c d+S n (fun i=>mnf (cnt n a) (d i)) - S n (fun i=>if c i=true then 0 else mnf (cnt n a) (d i)):=fun c=>by
   unfold sm
   rw[<- T7,<- E7]
   refine r9 fun i _=>?_
   show (if c i=true then d i+mnf (cnt n a) (d i) else 0)=(if c i=true then d i else 0)+mnf (cnt n a) (d i) - (if c i=true then 0 else mnf (cnt n a) (d i))
   cases c i with
   | true=>rw[if_pos rfl,if_pos rfl,if_pos rfl];omega
   | false=>rw[if_neg (by decide),if_neg (by decide),if_neg (by decide)];omega
  rw[sp a,sp A]at r2
  unfold roomF at r1
  rw[hcA]at r1
  have low:S n (fun i=>if a i=true then 0 else mnf (cnt n a) (d i))<=sm n b d+cnt n a*((n:Int) - cnt n a - cnt n b):=by
   have e:cnt n a*((n:Int) - cnt n a - cnt n b)=S n (fun i=>cnt n a*(1 - b2 (a i) - b2 (b i))):=by
    rw[aa1,E7,E7,P7,K3];rfl
   rw[e]
   unfold sm
   rw[<- T7]
   refine af2 fun i hi=>?_
   cases ha:a i with
   | true =>
    have hb:=hab i ha
    rw[if_pos rfl,hb,if_neg (by decide),ab3,V2]
    simp
   | false =>
    rw[if_neg (by decide),V2]
    cases b i with
    | true =>
     rw[if_pos rfl,ab3]
     have:=aR4 (cnt n a) (d i)
     simp
     exact this
    | false =>
     rw[if_neg (by decide),V2]
     have:=aC4 (cnt n a) (d i)
     simp
     exact this
  have x:cnt n a*((n:Int) - 1 - cnt n b)=cnt n a*(cnt n a - 1)+cnt n a*((n:Int) - cnt n a - cnt n b):=by grind
  rw[x]
  omega
theorem bg0 (K:aO7 n d)(A:Nat->Bool):0<=roomF n d A:=by
 have k:=K A (fun i=>!A i && decide (d i<cnt n A)) (fun i hi=>by simp[hi])
 have e:S n (fun i=>if A i=true then 0 else mnf (cnt n A) (d i))=sm n (fun i=>!A i && decide (d i<cnt n A)) d+cnt n A*((n:Int) - cnt n A - cnt n (fun i=>!A i && decide (d i<cnt n A))):=by
  have e1:cnt n A*((n:Int) - cnt n A - cnt n (fun i=>!A i && decide (d i<cnt n A)))=S n (fun i=>cnt n A*(1 - b2 (A i) - b2 (!A i && decide (d i<cnt n A)))):=by
   rw[aa1,E7,E7,P7,K3];rfl
  rw[e1]
  unfold sm
  rw[<- T7]
  refine r9 fun i hi=>?_
  show (if A i=true then 0 else mnf (cnt n A) (d i))=(if (!A i && decide (d i<cnt n A))=true then d i else 0)+cnt n A*(1 - b2 (A i) - b2 (!A i && decide (d i<cnt n A)))
  cases hA:A i with
  | true=>simp[b2]
  | false =>
   generalize cnt n A=r
   by_cases c:d i<r
   ·rw[decide_eq_true c]
    simp[b2,mnf]
    omega
   ·rw[decide_eq_false c]
    simp[b2,mnf]
    omega
 unfold roomF
 rw[e]
 have x:cnt n A*((n:Int) - 1 - cnt n (fun i=>!A i && decide (d i<cnt n A)))=cnt n A*(cnt n A - 1)+cnt n A*((n:Int) - cnt n A - cnt n (fun i=>!A i && decide (d i<cnt n A))):=by grind
 rw[x]at k
 omega
theorem bH3 (hg:Gph g):∀ n:Nat,∃ q,S n (deg n g)=2*q:=by
 intro n
 induction n with
 | zero=>exact⟨0,rfl⟩
 | succ n ih =>
  obtain⟨q,hq⟩:=ih
  refine⟨q+S n (fun i=>b2 (g i n)),?_⟩
  show S n (deg (n+1) g)+deg (n+1) g n=_
  have e1:S n (deg (n+1) g)=S n (deg n g)+S n (fun i=>b2 (g i n)):=by rw[<- T7];rfl
  have e2:deg (n+1) g n=S n (fun i=>b2 (g i n)):=by
   show S n (fun j=>b2 (g n j))+b2 (g n n)=_
   rw[hg.irr,V2,r9 (g:=fun i=>b2 (g i n)) fun i _=>by rw[hg.sym]]
   omega
  rw[e1,e2,hq]
  omega
end Grf
namespace Thk
open Grf
section
variable {M:Int}
def W1 (n:Nat)(M:Int)(d:Nat->Int)(A:Nat->Bool):Int:=M*(cnt n A*(cnt n A - 1))+S n (fun i=>if A i=true then 0 else mnf (M*cnt n A) (d i)) - sm n A d
theorem bo6 (σ τ:Nat->Bool):fV n M d σ τ=sm n σ d - sm n τ d - M*(cnt n σ*((n:Int) - 1 - cnt n τ)):=by
 unfold fV sm
 rw[<- E7]
 congr 1
 refine r9 fun j _=>?_
 cases σ j<;>cases τ j<;>simp[b2]
theorem bm2 (s t:Int):M*(s*((n:Int) - 1 - t))=M*(s*(s - 1))+(M*s)*((n:Int) - s - t):=by
 rw[R5,<- be2,<- be2]
 congr 2
 omega
theorem bR3 (hM:0<=M)(hd:∀ i,i<n->0<=d i)(h:∀ r:Nat,1<=r->r<=n->∃ A,cnt n A=r/\Top n d A/\0<=W1 n M d A):Kk n M d:=by
 intro a0 b hab0
 rw[bo6]
 let a:Nat->Bool:=fun i=>a0 i && !b i
 have ha0:∀ i,i<n->a i=a0 i:=fun i hi=>by
  show (a0 i && !b i)=a0 i
  cases e:a0 i<;>cases e':b i<;>first | rfl | exact absurd ⟨e,e'⟩ (hab0 i hi)
 have hab:∀ i,a i=true->b i=false:=fun i hi=>by
  have hi:(a0 i && !b i)=true:=hi
  cases e:b i
  ·rfl
  ·rw[e]at hi;simp at hi
 have ec:cnt n a0=cnt n a:=r9 fun i hi=>by rw[ha0 i hi]
 have es:sm n a0 d=sm n a d:=r9 fun i hi=>by rw[ha0 i hi]
 rw[ec,es]
 have k0:=S3 n a
 have kr:=au5 (n:=n) hab
 have kb:=S3 n b
 by_cases hz:cnt n a=0
 ·have za:∀ i,i<n->a i=false:=fun i hi=>by
   cases h:a i with
   | false=>rfl
   | true =>
    have:=az0 (f:=fun i=>b2 (a i)) hi (fun i _=>E1 _)
    have e:b2 (a i)=1:=by rw[h];rfl
    have t:b2 (a i)<=cnt n a:=this
    omega
  have:=an2 (a:=b) hd
  rw[ah7 za,hz,Y3,R3]
  omega
 ·obtain⟨A,hc,ht,r1⟩:=h (cnt n a).toNat (by omega) (by omega)
  have hcA:cnt n A=cnt n a:=by omega
  have r2:=aD8 (φ:=fun x=>x+mnf (M*cnt n a) x) (fun x y hxy=>by have:=aG1 (r:=M*cnt n a) hxy;omega) ht hcA.symm
  have sp:∀ c:Nat->Bool,sm n c (fun i=>d i+mnf (M*cnt n a) (d i))=sm n c d+S n (fun i=>mnf (M*cnt n a) (d i)) - S n (fun i=>if c i=true then 0 else mnf (M*cnt n a) (d i)):=fun c=>by
   unfold sm
   rw[<- T7,<- E7]
   refine r9 fun i _=>?_
   cases c i<;>simp
  rw[sp a,sp A]at r2
  unfold W1 at r1
  rw[hcA]at r1
  have low:S n (fun i=>if a i=true then 0 else mnf (M*cnt n a) (d i))<=sm n b d+(M*cnt n a)*((n:Int) - cnt n a - cnt n b):=by
   have e:(M*cnt n a)*((n:Int) - cnt n a - cnt n b)=S n (fun i=>(M*cnt n a)*(1 - b2 (a i) - b2 (b i))):=by
    rw[aa1,E7,E7,P7,K3];rfl
   rw[e]
   unfold sm
   rw[<- T7]
   refine af2 fun i hi=>?_
   have l1:=aR4 (M*cnt n a) (d i)
   have l2:=aC4 (M*cnt n a) (d i)
   cases ha:a i with
   | true=>rw[hab i ha];simp[b2]
   | false=>cases b i<;>simp[b2]<;>assumption
  rw[bm2]
  omega
theorem bN6 (K:Kk n M d)(A:Nat->Bool):0<=W1 n M d A:=by
 have k:=K A (fun i=>!A i && decide (d i<M*cnt n A)) (fun i _ ⟨u,v⟩=>by simp[u]at v)
 rw[bo6,bm2]at k
 have e:S n (fun i=>if A i=true then 0 else mnf (M*cnt n A) (d i))=sm n (fun i=>!A i && decide (d i<M*cnt n A)) d+(M*cnt n A)*((n:Int) - cnt n A - cnt n (fun i=>!A i && decide (d i<M*cnt n A))):=by
  have e1:(M*cnt n A)*((n:Int) - cnt n A - cnt n (fun i=>!A i && decide (d i<M*cnt n A)))=S n (fun i=>(M*cnt n A)*(1 - b2 (A i) - b2 (!A i && decide (d i<M*cnt n A)))):=by
   rw[aa1,E7,E7,P7,K3];rfl
  rw[e1]
  unfold sm
  rw[<- T7]
  refine r9 fun i hi=>?_
  show (if A i=true then 0 else mnf (M*cnt n A) (d i))=(if (!A i && decide (d i<M*cnt n A))=true then d i else 0)+(M*cnt n A)*(1 - b2 (A i) - b2 (!A i && decide (d i<M*cnt n A)))
  cases hA:A i with
  | true=>simp[b2]
  | false =>
   generalize M*cnt n A=r
   by_cases c:d i<r
   ·rw[decide_eq_true c]
    simp[b2,mnf]
    omega
   ·rw[decide_eq_false c]
    simp[b2,mnf]
    omega
 unfold W1
 rw[e]
 omega
structure Thw (M:Int) (g:Nat->Nat->Int):Prop where
 sym:∀ i j,g i j=g j i
 dia:∀ i,g i i=0
 lo:∀ i j,0<=g i j
 hi:∀ i j,g i j<=M
end
end Thk
namespace Web
def mn (r x:Int):Int:=if r<x then r else x
theorem aP7:∀ a b:List Int,(a++b).sum=a.sum+b.sum
 | [],b=>by simp
 | x::a,b=>by rw[aT6,G2,G2,aP7 a b,Int.add_assoc]
theorem as2:∀ a:List Int,a.reverse.sum=a.sum
 | []=>rfl
 | x::a=>by rw[List.reverse_cons,aP7,as2 a,G2,G2,List.sum_nil];omega
def up2 (ns:List Int):List Int:=PySem.W.sortI ns
theorem aB5 (ns:List Int):(up2 ns).length=ns.length:=(PySem.W.sortI_perm ns).length_eq
theorem bo4 (hp:zs.Perm ns)(hs:zs.Pairwise (·≥·)):zs=(up2 ns).reverse:=by
 have h:zs.reverse=up2 ns:=PySem.W.eq_sortI ((ab4 zs).trans hp) (by rw[ac9];exact hs)
 rw[<- h,List.reverse_reverse]
def part (m:Nat)(r:Int)(g:List Int):Int:=((g.take m).map (mn r)).sum - (g.drop m).sum
def Q8 (ns:List Int)(r:Nat):Int:=(r:Int)*((r:Int) - 1)+part (ns.length - r) r (up2 ns)
theorem bg1 {r:Nat}(e:zs=(up2 ns).reverse):(r:Int)*((r:Int) - 1)+((zs.drop r).map (mn r)).sum - (zs.take r).sum=Q8 ns r:=by
 unfold Q8 part
 rw[e,ch9,ci0,cj1,as2,as2,aB5]
 omega
end Web
namespace Web
inductive Wl where
 | below (p:Nat) | odd | wall (r:Nat) | free
 deriving DecidableEq
def AllP (ns:List Int):Prop:=∀ (j:Nat) (x:Int),ns[j]?=some x->0<=x
def bj0 (ns:List Int):Wl->Prop
 | .below p=>(∃ x,ns[p]?=some x/\x<0)/\∀ (j:Nat) (x:Int),j<p->ns[j]?=some x->0<=x
 | .odd=>AllP ns/\ns.sum % 2=1
 | .wall r=>AllP ns/\¬ ns.sum % 2=1/\1<=r/\r<=ns.length/\Q8 ns r<0/\∀ k,1<=k->k<r->0<=Q8 ns k
 | .free=>AllP ns/\¬ ns.sum % 2=1/\∀ k,1<=k->k<=ns.length->0<=Q8 ns k
theorem bM0 {w u:Wl}(h:bj0 ns w)(g:bj0 ns u):w=u:=by
 cases w with
 | below p =>
  obtain⟨⟨x,hx,hx0⟩,hp⟩:=h
  have no:¬ AllP ns:=fun a=>by have:=a p x hx;omega
  cases u with
  | below q =>
   obtain⟨⟨y,hy,hy0⟩,hq⟩:=g
   rcases U8 p q with l | l | l
   ·have:=hq p x l hx;omega
   ·rw[l]
   ·have:=hp q y l hy;omega
  | odd=>exact absurd g.1 no
  | wall r=>exact absurd g.1 no
  | free=>exact absurd g.1 no
 | odd =>
  cases u with
  | below q =>
   obtain⟨⟨y,hy,hy0⟩,hq⟩:=g
   have:=h.1 q y hy;omega
  | odd=>rfl
  | wall r=>exact absurd h.2 g.2.1
  | free=>exact absurd h.2 g.2.1
 | wall r =>
  obtain⟨a,b,r1,r2,r3,r4⟩:=h
  cases u with
  | below q =>
   obtain⟨⟨y,hy,hy0⟩,hq⟩:=g
   have:=a q y hy;omega
  | odd=>exact absurd g.2 b
  | wall s =>
   obtain⟨_,_,s1,s2,s3,s4⟩:=g
   rcases U8 r s with l | l | l
   ·have:=s4 r r1 l;omega
   ·rw[l]
   ·have:=r4 s s1 l;omega
  | free=>have:=g.2.2 r r1 r2;omega
 | free =>
  cases u with
  | below q =>
   obtain⟨⟨y,hy,hy0⟩,hq⟩:=g
   have:=h.1 q y hy;omega
  | odd=>exact absurd g.2 h.2.1
  | wall s =>
   obtain⟨_,_,s1,s2,s3,s4⟩:=g
   have:=h.2.2 s s1 s2;omega
  | free=>rfl
end Web
namespace Web
open L2
def rng (n:Nat):List Int:=(ap0 0 n).map fun k:Nat=>(k:Int)
theorem T8 {x:Int}:x∈rng n↔0<=x/\x<n:=by
 unfold rng
 constructor
 ·intro h
  obtain⟨k,hk,rfl⟩:=p0.mp h
  have:=aK9.mp hk
  omega
 ·intro h
  exact p0.mpr ⟨x.toNat,aK9.mpr ⟨by omega,by omega⟩,by omega⟩
theorem ad7 (n:Nat):(rng n).length=n:=by unfold rng;rw[b8,aJ2]
theorem Y0 (n:Nat):(rng n).Nodup:=by
 unfold rng
 refine List.Pairwise.map _ (fun a b h=>?_) (List.nodup_range' (step:=1) (by decide))
 intro e
 exact h (by omega)
def rest (zs:List Int)(p:Int):List Int:=zs.filter fun x=>decide (x≠p)
theorem aF0 {p x:Int}:x∈rest zs p↔x∈zs/\x≠p:=by unfold rest;rw[F1,decide_eq_true_iff]
theorem aX8 {p:Int}(hp:zs.Perm (rng n))(h0:0<=p)(h1:p<n):(rest zs p).length=n - 1:=by
 have nd:zs.Nodup:=hp.nodup_iff.mpr (Y0 n)
 have hm:p∈zs:=hp.mem_iff.mpr (T8.mpr ⟨h0,h1⟩)
 have e:rest zs p=zs.erase p:=by
  unfold rest
  rw[nd.erase_eq_filter]
  congr 1
  funext x
  by_cases h:x=p<;>simp[h]
 rw[e,bq1 hm,hp.length_eq,ad7]
def ae0 (ns es:List Int)(i:Nat):Int:=if (i:Int)∈es then ns.getD i 0 - 1 else ns.getD i 0
def X4 (ns:List Int)(p:Nat)(es:List Int):List Int:=((p5 ns.length).filter fun i=>decide (i≠p)).map (ae0 ns es)
open Grf (S b2 Gph deg cnt sm Top roomF)
theorem bp8 (f:Nat->Int):∀ n:Nat,S n f=((p5 n).map f).sum
 | 0=>rfl
 | n+1=>by
  rw[D0,j9,aP7,<- bp8 f n]
  show S n f+f n=_+(f n+0)
  omega
theorem map_getD (φ:Int->Int)(xs:List Int):(p5 xs.length).map (fun i=>φ (xs.getD i 0))=xs.map φ:=by
 refine M8 fun i=>?_
 rw[o5,o5]
 rcases A1 i xs.length with h | h
 ·rw[J9 h,c7 h]
  show some (φ (xs.getD i 0))=some (φ xs[i])
  rw[c8,c7 h]
  rfl
 ·rw[o7 h,o7 (by rw[y7];exact h)]
  rfl
theorem aI6 (φ:Int->Int)(xs:List Int):S xs.length (fun i=>φ (xs.getD i 0))=(xs.map φ).sum:=by rw[bp8,map_getD]
theorem bI7 (xs:List Int):S xs.length (fun i=>xs.getD i 0)=xs.sum:=by
 have:=aI6 (fun x=>x) xs
 rw[av6]at this
 exact this
theorem bd4 {f:Nat->Int}:∀ {L:List Int},L.Nodup->(∀ z∈L,0<=z/\z<n)->S n (fun i=>if (i:Int)∈L then f i else 0)=(L.map fun z=>f z.toNat).sum
 | [],_,_=>by
  rw[Grf.r9 (g:=fun _=>0) fun i _=>by simp]
  exact Grf.M5 n
 | z::L,nd,h=>by
  obtain⟨h1,h2⟩:=B5.mp nd
  obtain⟨z0,z1⟩:=h z f9
  rw[m8,G2,<- bd4 h2 fun y hy=>h y (d6 _ hy)]
  rw[Grf.Z8 (j:=z.toNat) (f:=fun i=>if (i:Int)∈z::L then f i else 0) (g:=fun i=>if (i:Int)∈L then f i else 0) (by omega) (fun i _ hi=>by
   show (if (i:Int)∈z::L then f i else 0)=if (i:Int)∈L then f i else 0
   by_cases e:(i:Int)∈L
   ·rw[if_pos e,if_pos (d6 _ e)]
   ·rw[if_neg e,if_neg (fun c=>by
     rcases d7.mp c with c | c
     ·exact hi (by omega)
     ·exact e c)])]
  show _+((if ((z.toNat:Nat):Int)∈z::L then f z.toNat else 0) - (if ((z.toNat:Nat):Int)∈L then f z.toNat else 0))=_
  have ez:((z.toNat:Nat):Int)=z:=by omega
  rw[ez,if_pos f9,if_neg h1]
  omega
theorem bN7 (ns:List Int):(rng ns.length).map (fun z=>ns.getD z.toNat 0)=ns:=by
 unfold rng
 rw[M4,<- az4]
 have:=map_getD (fun x=>x) ns
 rw[av6]at this
 exact this
theorem aF6 (hp:zs.Perm (rng ns.length))(hs:zs.Pairwise (ole ns)):zs.map (fun z=>ns.getD z.toNat 0)=(up2 ns).reverse:=by
 refine bo4 ?_ ?_
 ·have:=hp.map (fun z:Int=>ns.getD z.toNat 0)
  rw[bN7]at this
  exact this
 ·refine List.Pairwise.map _ (fun a b h=>?_) hs
  have:=at6.mp h
  show ns.getD b.toNat 0<=ns.getD a.toNat 0
  omega
theorem ag2 (hp:zs.Perm (rng ns.length))(hs:zs.Pairwise (ole ns)){r:Nat}(hr:r<=ns.length) :
  cnt ns.length (fun i=>decide ((i:Int)∈zs.take r))=r/\Top ns.length (fun i=>ns.getD i 0) (fun i=>decide ((i:Int)∈zs.take r))/\roomF ns.length (fun i=>ns.getD i 0) (fun i=>decide ((i:Int)∈zs.take r))=Q8 ns r:=by
 have nd:zs.Nodup:=hp.nodup_iff.mpr (Y0 _)
 have hzl:zs.length=ns.length:=by rw[hp.length_eq,ad7]
 have hin:∀ z∈zs,0<=z/\z<(ns.length:Int):=fun z hz=>T8.mp (hp.mem_iff.mp hz)
 have ndA:(zs.take r).Nodup:=nd.sublist (M7 r zs)
 have ndB:(zs.drop r).Nodup:=nd.sublist (ab5 r zs)
 have inA:∀ z∈zs.take r,0<=z/\z<(ns.length:Int):=fun z hz=>hin z (G4 hz)
 have inB:∀ z∈zs.drop r,0<=z/\z<(ns.length:Int):=fun z hz=>hin z (P8 hz)
 have app:=nd
 rw[<- B6 r zs]at app
 have cross:=(aL0.mp app).2.2
 have mem_or:∀ i:Nat,i<ns.length->(i:Int)∈zs.take r\/(i:Int)∈zs.drop r:=fun i hi=>by
  have:(i:Int)∈zs:=hp.mem_iff.mpr (T8.mpr ⟨by omega,by omega⟩)
  rw[<- B6 r zs]at this
  exact u6.mp this
 have hc:cnt ns.length (fun i=>decide ((i:Int)∈zs.take r))=r:=by
  have:=bd4 (n:=ns.length) (f:=fun _=>1) ndA inA
  have e:cnt ns.length (fun i=>decide ((i:Int)∈zs.take r))=S ns.length (fun i=>if (i:Int)∈zs.take r then 1 else 0):=Grf.r9 fun i _=>by
   by_cases c:(i:Int)∈zs.take r
   ·rw[if_pos c];simp[b2,c]
   ·rw[if_neg c];simp[b2,c]
  rw[e,this]
  have l:(zs.take r).length=r:=by rw[q8];omega
  have:∀ L:List Int,(L.map fun _=>(1:Int)).sum=L.length:=fun L=>by
   induction L with
   | nil=>rfl
   | cons a L ih=>rw[m8,G2,ih,p6];omega
  rw[this,l]
 refine⟨hc,fun i j hi hj h1 h2=>?_,?_⟩
 ·have a1:(i:Int)∈zs.take r:=of_decide_eq_true h1
  have a2:(j:Int)∈zs.drop r:=(mem_or j hj).resolve_left (of_decide_eq_false h2)
  have pw:=hs
  rw[<- B6 r zs]at pw
  have:=at6.mp ((A3.mp pw).2.2 _ a1 _ a2)
  rw[m7,m7]at this
  show ns.getD j 0<=ns.getD i 0
  omega
 ·have of:=aF6 hp hs
  have rm:=bg1 (ns:=ns) (r:=r) of
  unfold roomF
  rw[hc,<- rm,<- aJ0,<- aJ1,M4]
  have s1:sm ns.length (fun i=>decide ((i:Int)∈zs.take r)) (fun i=>ns.getD i 0)=((zs.take r).map fun z=>ns.getD z.toNat 0).sum:=by
   rw[<- bd4 (n:=ns.length) (f:=fun i=>ns.getD i 0) ndA inA]
   refine Grf.r9 fun i _=>?_
   show (if decide ((i:Int)∈zs.take r)=true then ns.getD i 0 else 0)=_
   by_cases c:(i:Int)∈zs.take r
   ·rw[if_pos c,decide_eq_true c,if_pos rfl]
   ·rw[if_neg c,decide_eq_false c,if_neg (by decide)]
  have s2:S ns.length (fun i=>if decide ((i:Int)∈zs.take r)=true then 0 else Grf.mnf r (ns.getD i 0))=((zs.drop r).map (mn r ∘ fun z=>ns.getD z.toNat 0)).sum:=by
   have:=bd4 (n:=ns.length) (f:=fun i=>mn r (ns.getD i 0)) ndB inB
   show _=((zs.drop r).map fun z=>mn r (ns.getD z.toNat 0)).sum
   rw[<- this]
   refine Grf.r9 fun i hi=>?_
   by_cases c:(i:Int)∈zs.take r
   ·rw[decide_eq_true c,if_pos rfl,if_neg (fun z=>cross _ c _ z rfl)]
   ·rw[decide_eq_false c,if_neg (by decide),if_pos ((mem_or i hi).resolve_left c)]
    rfl
  rw[s1,s2]
theorem am0 (ns:List Int):∃ zs:List Int,zs.Perm (rng ns.length)/\zs.Pairwise (ole ns):=by
 let le:Int->Int->Bool:=fun x y=>decide (ns.getD y.toNat 0<ns.getD x.toNat 0\/(ns.getD x.toNat 0=ns.getD y.toNat 0/\x<=y))
 refine⟨(rng ns.length).mergeSort le,List.mergeSort_perm _ _,?_⟩
 have:=List.pairwise_mergeSort (le:=le) (fun a b c h1 h2=>?_) (fun a b=>?_) (rng ns.length)
 ·exact this.imp fun h=>at6.mpr (of_decide_eq_true h)
 ·have g1:=of_decide_eq_true h1
  have g2:=of_decide_eq_true h2
  exact decide_eq_true (by omega)
 ·rw[Bool.or_eq_true]
  by_cases h:ns.getD b.toNat 0<ns.getD a.toNat 0\/(ns.getD a.toNat 0=ns.getD b.toNat 0/\a<=b)
  ·exact .inl (decide_eq_true h)
  ·exact .inr (decide_eq_true (by omega))
def Gr (ns:List Int):Prop:=∃ g,Gph g/\∀ i,i<ns.length->deg ns.length g i=ns.getD i 0
theorem W5 (h:AllP ns)(hi:i<ns.length):0<=ns.getD i 0:=by
 rw[c8,c7 hi]
 exact h i _ (c7 hi)
theorem bo2 (h:bj0 ns .free):Gr ns:=by
 obtain⟨h1,h2,h3⟩:=h
 obtain⟨zs,hp,hs⟩:=am0 ns
 have hd:∀ i,i<ns.length->0<=ns.getD i 0:=fun i hi=>W5 h1 hi
 have K:=Grf.bh3 (d:=fun i=>ns.getD i 0) hd fun r r1 r2=>by
  obtain⟨a1,a2,a3⟩:=ag2 hp hs r2
  exact⟨_,a1,a2,by rw[a3];exact h3 r r1 r2⟩
 have s0:0<=ns.sum:=by rw[<- bI7];exact Grf.T6 hd
 obtain⟨g,hg,dg⟩:=Grf.bF9 (ns.sum / 2).toNat ns.length (fun i=>ns.getD i 0) hd K (by rw[bI7];omega)
 exact⟨g,hg,dg⟩
theorem aH2 (h:Gr ns):AllP ns:=by
 obtain⟨g,hg,dg⟩:=h
 intro j x hx
 have hj:j<ns.length:=by
  rcases A1 j ns.length with h | h
  ·exact h
  ·rw[o7 h]at hx;cases hx
 have:=dg j hj
 rw[c8,hx]at this
 have e:deg ns.length g j=x:=this
 rw[<- e]
 exact Grf.T6 fun i _=>Grf.E1 _
theorem bn8 (h:Gr ns):bj0 ns .free:=by
 have pos:=aH2 h
 obtain⟨g,hg,dg⟩:=h
 refine⟨pos,?_,fun k k1 k2=>?_⟩
 ·obtain⟨q,hq⟩:=Grf.bH3 hg ns.length
  rw[Grf.r9 (g:=fun i=>ns.getD i 0) fun i hi=>dg i hi,bI7]at hq
  omega
 ·obtain⟨zs,hp,hs⟩:=am0 ns
  obtain⟨_,_,a3⟩:=ag2 hp hs k2
  rw[<- a3]
  exact Grf.bg0 (Grf.bE5 hg dg) _
end Web
namespace Web
def aj1 (ns:List Int)(M r:Nat):Int:=(M:Int)*(r:Int)*((r:Int) - 1)+part (ns.length - r) ((M:Int)*(r:Int)) (up2 ns)
theorem ab6 (ns:List Int)(r:Nat):aj1 ns 1 r=Q8 ns r:=by
 unfold aj1 Q8
 rw[Int.natCast_one,ap8]
theorem az7 {M r:Nat}(e:zs=(up2 ns).reverse):(M:Int)*(r:Int)*((r:Int) - 1)+((zs.drop r).map (mn ((M:Int)*(r:Int)))).sum - (zs.take r).sum=aj1 ns M r:=by
 unfold aj1 part
 rw[e,ch9,ci0,cj1,as2,as2,aB5]
 omega
end Web
namespace Web
def au8 (ns:List Int)(i:Nat):List Nat:=(p5 i).filter fun j=>decide (ns.getD j 0<0)
def cg9 (ns:List Int):List Int:=(au8 ns ns.length).map Int.ofNat
theorem bv8 (ns:List Int)(i:Nat):au8 ns (i+1)=au8 ns i++(if ns.getD i 0<0 then [i] else []):=by
 unfold au8
 rw[D0,L5]
 congr 1
 by_cases h:ns.getD i 0<0
 ·rw[if_pos h,G0 (by simpa using h),bd9]
 ·rw[if_neg h,G1 (by simpa using h),bd9]
theorem bI0 (ns:List Int)(i:Nat):(au8 ns i).length<=i:=by
 unfold au8
 exact x9 (F5 ..) (by rw[y7];exact c9 _)
theorem au7 {x:Int}(h:ns[j]?=some x):ns.getD j 0=x:=by rw[c8,h];rfl
theorem bp5 (h:au8 ns ns.length=[]):∀ (j:Nat) (x:Int),ns[j]?=some x->0<=x:=fun j x e=>by
 have hj:j<ns.length:=by
  rcases A1 j ns.length with l | l
  ·exact l
  ·rw[o7 l]at e;cases e
 have:=aa4.mp h j (v8.mpr hj)
 rw[au7 e]at this
 have h2:¬ x<0:=fun q=>this (decide_eq_true q)
 omega
theorem bd1 {t:List Nat}(h:au8 ns ns.length=p::t):(∃ x,ns[p]?=some x/\x<0)/\∀ (j:Nat) (x:Int),j<p->ns[j]?=some x->0<=x:=by
 have hm:p∈au8 ns ns.length:=by rw[h];exact f9
 have hp:=F1.mp hm
 have hl:=v8.mp hp.1
 have h0:=of_decide_eq_true hp.2
 refine⟨⟨_,c7 hl,by rw[au7 (c7 hl)]at h0;exact h0⟩,fun j x hj e=>?_⟩
 rcases bK3 x 0 with q | q
 ·have hjm:j∈au8 ns ns.length:=F1.mpr ⟨v8.mpr (by omega),by rw[au7 e];exact decide_eq_true q⟩
  have hs:(au8 ns ns.length).Pairwise (·<·):=List.Pairwise.filter _ aa3
  rw[h]at hs hjm
  rcases d7.mp hjm with r | r
  ·omega
  ·have:=(F9.mp hs).1 j r
   omega
 ·exact q
def bp9 (ns:List Int)(M:Nat):Wl->Prop
 | .below p=>(∃ x,ns[p]?=some x/\x<0)/\∀ (j:Nat) (x:Int),j<p->ns[j]?=some x->0<=x
 | .odd=>AllP ns/\ns.sum % 2=1
 | .wall r=>AllP ns/\¬ ns.sum % 2=1/\1<=r/\r<=ns.length/\aj1 ns M r<0/\∀ k,1<=k->k<r->0<=aj1 ns M k
 | .free=>AllP ns/\¬ ns.sum % 2=1/\∀ k,1<=k->k<=ns.length->0<=aj1 ns M k
theorem bk0 {x:Wl}(h:bp9 ns 1 x):bj0 ns x:=by
 cases x with
 | below p=>exact h
 | odd=>exact h
 | wall r=>exact⟨h.1,h.2.1,h.2.2.1,h.2.2.2.1,by rw[<- ab6];exact h.2.2.2.2.1,fun k k1 k2=>by rw[<- ab6];exact h.2.2.2.2.2 k k1 k2⟩
 | free=>exact⟨h.1,h.2.1,fun k k1 k2=>by rw[<- ab6];exact h.2.2 k k1 k2⟩
end Web
namespace Web
open L2 Grf Thk
theorem ar0 (hp:zs.Perm (rng ns.length))(hs:zs.Pairwise (ole ns)){M r:Nat}(hr:r<=ns.length) :
  W1 ns.length M (fun i=>ns.getD i 0) (fun i=>decide ((i:Int)∈zs.take r))=aj1 ns M r:=by
 have nd:zs.Nodup:=hp.nodup_iff.mpr (Y0 _)
 have hin:∀ z∈zs,0<=z/\z<(ns.length:Int):=fun z hz=>T8.mp (hp.mem_iff.mp hz)
 have ndA:(zs.take r).Nodup:=nd.sublist (M7 r zs)
 have ndB:(zs.drop r).Nodup:=nd.sublist (ab5 r zs)
 have inA:∀ z∈zs.take r,0<=z/\z<(ns.length:Int):=fun z hz=>hin z (G4 hz)
 have inB:∀ z∈zs.drop r,0<=z/\z<(ns.length:Int):=fun z hz=>hin z (P8 hz)
 have app:=nd
 rw[<- B6 r zs]at app
 have cross:=(aL0.mp app).2.2
 have mem_or:∀ i:Nat,i<ns.length->(i:Int)∈zs.take r\/(i:Int)∈zs.drop r:=fun i hi=>by
  have:(i:Int)∈zs:=hp.mem_iff.mpr (T8.mpr ⟨by omega,by omega⟩)
  rw[<- B6 r zs]at this
  exact u6.mp this
 have hc:=(ag2 hp hs hr).1
 have of:=aF6 hp hs
 have rm:=az7 (ns:=ns) (M:=M) (r:=r) of
 unfold W1
 rw[hc,<- rm,<- aJ0,<- aJ1,M4,<- R5]
 have s1:sm ns.length (fun i=>decide ((i:Int)∈zs.take r)) (fun i=>ns.getD i 0)=((zs.take r).map fun z=>ns.getD z.toNat 0).sum:=by
  rw[<- bd4 (n:=ns.length) (f:=fun i=>ns.getD i 0) ndA inA]
  refine Grf.r9 fun i _=>?_
  show (if decide ((i:Int)∈zs.take r)=true then ns.getD i 0 else 0)=_
  by_cases c:(i:Int)∈zs.take r
  ·rw[if_pos c,decide_eq_true c,if_pos rfl]
  ·rw[if_neg c,decide_eq_false c,if_neg (by decide)]
 have s2:S ns.length (fun i=>if decide ((i:Int)∈zs.take r)=true then 0 else Grf.mnf ((M:Int)*r) (ns.getD i 0))=((zs.drop r).map (mn ((M:Int)*r) ∘ fun z=>ns.getD z.toNat 0)).sum:=by
  have:=bd4 (n:=ns.length) (f:=fun i=>mn ((M:Int)*r) (ns.getD i 0)) ndB inB
  show _=((zs.drop r).map fun z=>mn ((M:Int)*r) (ns.getD z.toNat 0)).sum
  rw[<- this]
  refine Grf.r9 fun i hi=>?_
  by_cases c:(i:Int)∈zs.take r
  ·rw[decide_eq_true c,if_pos rfl,if_neg (fun z=>cross _ c _ z rfl)]
  ·rw[decide_eq_false c,if_neg (by decide),if_pos ((mem_or i hi).resolve_left c)]
   rfl
 rw[s1,s2]
theorem bS5 {M:Nat}(h:bp9 ns M .free):Kk ns.length M (fun i=>ns.getD i 0):=by
 obtain⟨h1,h2,h3⟩:=h
 obtain⟨zs,hp,hs⟩:=am0 ns
 have hd:∀ i,i<ns.length->0<=ns.getD i 0:=fun i hi=>W5 h1 hi
 exact bR3 (aJ6 M) hd fun r r1 r2=>by
  obtain⟨a1,a2,_⟩:=ag2 hp hs r2
  exact⟨_,a1,a2,by rw[ar0 hp hs r2];exact h3 r r1 r2⟩
theorem bR4 {M:Nat}(h0:AllP ns)(h1:¬ ns.sum % 2=1)(h:Kk ns.length M (fun i=>ns.getD i 0)):bp9 ns M .free:=by
 obtain⟨zs,hp,hs⟩:=am0 ns
 exact⟨h0,h1,fun r r1 r2=>by rw[<- ar0 hp hs r2];exact bN6 h _⟩
def abv (M L c:Int):Int:=if c - L<=0 then 0 else if c - L<=M then c - L else M
theorem bI3 {M:Int}(hM:1<=M)(L c:Int):abv M (L - 1) c - abv M L c=if abv M L c<abv M (L - 1) c then 1 else 0:=by
 unfold abv
 split<;>split<;>split<;>first | omega | (split<;>omega)
theorem bI4 {M c:Int}(hM:1<=M)(h:abv M L c<abv M (L - 1) c):abv M L c=c - L/\0<=c - L/\c - L<M:=by
 unfold abv at *
 split at h<;>split at h<;>first | omega | (split at h<;>first | omega | (split at h<;>omega)) | skip
 all_goals (repeat' split)<;>omega
def ac5 (M L:Int)(ns:List Int):List Int:=(rng ns.length).filter fun z=>decide (abv M L (ns.getD z.toNat 0)<abv M (L - 1) (ns.getD z.toNat 0))
def aF8 (M L:Int)(ns:List Int)(k:Nat):List Int:=(ac5 M L ns).take k
def shx (M L:Int)(ns:List Int)(k:Nat)(j:Nat):Int:=abv M L (ns.getD j 0)+if (j:Int)∈aF8 M L ns k then 1 else 0
theorem aZ8 (M L:Int)(ns:List Int):(ac5 M L ns).Nodup:=(Y0 _).sublist X3
theorem aZ9 {M:Int}:∀ z∈ac5 M L ns,0<=z/\z<ns.length:=fun z hz=>T8.mp (F1.mp hz).1
theorem ax6 {M:Int}(hj:j<ns.length):(j:Int)∈ac5 M L ns↔abv M L (ns.getD j 0)<abv M (L - 1) (ns.getD j 0):=by
 unfold ac5
 rw[F1,T8,decide_eq_true_iff,m7]
 constructor
 ·exact fun h=>h.2
 ·exact fun h=>⟨⟨by omega,by omega⟩,h⟩
theorem bx5 (L:List Int):(L.map fun _=>(1:Int)).sum=L.length:=by
 induction L with
 | nil=>rfl
 | cons a L ih=>rw[m8,G2,ih,p6];omega
theorem bI8 {L:List Int}(nd:L.Nodup)(h:∀ z∈L,0<=z/\z<n):S n (fun i=>if (i:Int)∈L then 1 else 0)=L.length:=by
 rw[bd4 (f:=fun _=>1) nd h,bx5]
theorem bt2 {M:Int}(hM:1<=M)(L:Int)(ns:List Int):((ac5 M L ns).length:Int)=(ns.map (abv M (L - 1))).sum - (ns.map (abv M L)).sum:=by
 rw[<- bI8 (aZ8 M L ns) aZ9,<- aI6,<- aI6,<- E7]
 refine Grf.r9 fun j hj=>?_
 rw[bI3 hM]
 by_cases c:abv M L (ns.getD j 0)<abv M (L - 1) (ns.getD j 0)
 ·rw[if_pos c,if_pos ((ax6 hj).mpr c)]
 ·rw[if_neg c,if_neg fun h=>c ((ax6 hj).mp h)]
structure Lvl (M:Int) (ns:List Int) (a L:Int):Prop where
 l0:0<=L
 le:(ns.map (abv M L)).sum<=a
 lt:0<L->a<(ns.map (abv M (L - 1))).sum
section
variable {M a:Int}
theorem bM9 (hM:1<=M)(h:Lvl M ns a L)(h0:a<=(ns.map (abv M 0)).sum):S ns.length (shx M L ns (a - (ns.map (abv M L)).sum).toNat)=a:=by
 unfold shx
 rw[T7,aI6,bI8 (L:=aF8 M L ns (a - (ns.map (abv M L)).sum).toNat) ((aZ8 M L ns).sublist (M7 _ _)) fun z hz=>aZ9 z (G4 hz)]
 unfold aF8
 rw[q8]
 have l:=bt2 hM L ns
 have le:=h.le
 by_cases c:0<L
 ·have:=h.lt c
  omega
 ·have:L=0:=by have:=h.l0;omega
  subst this
  omega
theorem bl1 (hj:j<ns.length){k:Nat}(hM:1<=M)(h:(j:Int)∈aF8 M L ns k):abv M L (ns.getD j 0)=ns.getD j 0 - L/\0<=ns.getD j 0 - L/\ns.getD j 0 - L<M:=bI4 hM ((ax6 hj).mp (G4 h))
theorem aw5 (hM:1<=M)(k:Nat)(hj:j<ns.length):0<=shx M L ns k j/\shx M L ns k j<=M/\(0<shx M L ns k j->L - 1<=ns.getD j 0 - shx M L ns k j)/\(shx M L ns k j<M->ns.getD j 0 - shx M L ns k j<=L):=by
 unfold shx
 by_cases c:(j:Int)∈aF8 M L ns k
 ·obtain⟨e1,e2,e3⟩:=bl1 hj hM c
  rw[if_pos c,e1]
  omega
 ·rw[if_neg c]
  unfold abv
  split
  ·omega
  ·split<;>omega
theorem ca8 (hM:1<=M)(h:Lvl M ns a L)(h0:a<=(ns.map (abv M 0)).sum)(hj:j<ns.length)(hn:0<=ns.getD j 0):shx M L ns (a - (ns.map (abv M L)).sum).toNat j<=ns.getD j 0:=by
 have l0:=h.l0
 unfold shx
 by_cases c:(j:Int)∈aF8 M L ns (a - (ns.map (abv M L)).sum).toNat
 ·obtain⟨e1,e2,e3⟩:=bl1 hj hM c
  have:L≠0:=fun e=>by
   subst e
   have z:(a - (ns.map (abv M 0)).sum).toNat=0:=by omega
   rw[z]at c
   unfold aF8 at c
   rw[bj7]at c
   cases c
  rw[if_pos c,e1]
  omega
 ·rw[if_neg c]
  unfold abv
  split
  ·omega
  ·split<;>omega
end
end Web
namespace Thk
open Grf
section
variable {W:Int} {c x:Nat->Int}
theorem bf0 {σ:Nat->Bool}(h:Apart n σ τ):sz n σ+sz n τ<=n:=by
 unfold sz
 rw[<- T7]
 have:S n (fun j=>b2 (σ j)+b2 (τ j))<=S n (fun _=>1):=af2 fun j hj=>by
  have:=h j hj
  cases a:σ j<;>cases b:τ j<;>simp[b2]
  exact this ⟨a,b⟩
 rw[P7]at this
 omega
theorem ca5 {σ:Nat->Bool}(h:Apart n σ τ)(e:sz n σ+sz n τ=n)(hj:j<n):b2 (σ j)+b2 (τ j)=1:=by
 have hz:S n (fun j=>1 - b2 (σ j) - b2 (τ j))=0:=by
  rw[E7,E7,P7]
  unfold sz at e
  omega
 have nn:∀ i,i<n->0<=1 - b2 (σ i) - b2 (τ i):=fun i hi=>by
  have:=h i hi
  cases a:σ i<;>cases b:τ i<;>simp[b2]
  exact absurd ⟨a,b⟩ this
 have a:=az0 (f:=fun j=>1 - b2 (σ j) - b2 (τ j)) hj nn
 have b:=nn j hj
 have a':1 - b2 (σ j) - b2 (τ j)<=S n (fun j=>1 - b2 (σ j) - b2 (τ j)):=a
 omega
theorem bG9 (q:Int):∃ e,(q+1)*q=2*e:=by
 rcases Int.emod_two_eq q with h | h
 ·obtain⟨t,ht⟩:∃ t,q=2*t:=⟨q / 2,by omega⟩
  exact⟨(q+1)*t,by rw[ht,<- R5,U3 (2*t+1) 2,R5]⟩
 ·obtain⟨t,ht⟩:∃ t,q+1=2*t:=⟨(q+1) / 2,by omega⟩
  exact⟨t*q,by rw[ht,R5]⟩
theorem bS7 (σ τ:Nat->Bool):fV n 1 c σ τ=S n (fun j=>b2 (σ j)*(c j - qQ n 1 τ) - b2 (τ j)*c j):=by
 have e:S n (fun j=>b2 (σ j)*(c j - qQ n 1 τ) - b2 (τ j)*c j)=S n (fun j=>(b2 (σ j) - b2 (τ j))*c j) - S n (fun j=>qQ n 1 τ*b2 (σ j)):=by
  rw[<- E7]
  refine r9 fun j _=>?_
  cases σ j<;>cases τ j<;>simp[b2]<;>omega
 rw[e,aa1]
 unfold fV qQ sz
 rw[ap8,ap8,U3]
theorem bD5 (hc:∀ j,j<n->c j=d j - x j)(c0:∀ j,j<n->0<=c j)(x0:∀ j,j<n->0<=x j)(lo:∀ j,j<n->0<x j->L - 1<=c j)(hi:∀ j,j<n->c j<=L)
  (hW:∀ σ τ,Apart n σ τ->fV n 1 d σ τ<=W)(hx:W<=S n x)(ev:∃ k,S n c=2*k):Kk n 1 c:=by
 intro σ0 τ0 h0
 obtain⟨σ,τ1,hap1,hge,hmx⟩:=cp1 (m:=n) (M:=1) (c:=c) (by decide) h0
 refine Classical.byContradiction fun hno=>?_
 have hf1:1<=fV n 1 c σ τ1:=by omega
 obtain⟨τ,hτ⟩:∃ τ:Nat->Bool,τ=fun j=>τ1 j && !decide (c j=pP n 1 σ):=⟨_,rfl⟩
 have tt:∀ j,τ j=true->τ1 j=true/\c j≠pP n 1 σ:=fun j h=>by
  rw[hτ]at h
  simpa using h
 have hs:fV n 1 c σ τ=fV n 1 c σ τ1:=bz5 fun j hj hne=>by
  refine Classical.byContradiction fun hz=>hne ?_
  rw[hτ]
  show (τ1 j && !decide (c j=pP n 1 σ))=τ1 j
  rw[decide_eq_false hz,bj6,Bool.and_true]
 have hap:Apart n σ τ:=fun j hj ⟨u,v⟩=>hap1 j hj ⟨u,(tt j v).1⟩
 have hM:Mx n 1 c σ τ:=⟨hap,fun σ₁ τ₁ h=>by rw[hs];exact hmx σ₁ τ₁ h⟩
 have ht:∀ j,j<n->τ j=true->c j<=pP n 1 σ - 1:=fun j hj h=>by
  have:=cs1 hM hj h
  have:=(tt j h).2
  omega
 have hf:1<=fV n 1 c σ τ:=by omega
 have caseA:∀ σ',Apart n σ' τ->(∀ j,j<n->0<x j->σ' j=true)->fV n 1 c σ' τ<=0:=fun σ' ha hcut=>by
  have e:fV n 1 c σ' τ=fV n 1 d σ' τ - S n x:=by
   unfold fV
   have:S n (fun j=>(b2 (σ' j) - b2 (τ j))*c j)=S n (fun j=>(b2 (σ' j) - b2 (τ j))*d j) - S n x:=by
    rw[<- E7]
    refine r9 fun j hj=>?_
    rw[hc j hj]
    have h0:=x0 j hj
    by_cases hx0:0<x j
    ·have hs':=hcut j hj hx0
     have ht':τ j=false:=by
      cases h:τ j
      ·rfl
      ·exact absurd ⟨hs',h⟩ (ha j hj)
     rw[hs',ht']
     simp[b2]
    ·have:x j=0:=by omega
     rw[this,aw3,aw3]
   omega
  have:=hW σ' τ ha
  omega
 have hpq:pP n 1 σ<=qQ n 1 τ+1:=by
  have:=bf0 hap
  unfold pP qQ
  omega
 by_cases hA:∀ j,j<n->0<x j->σ j=true
 ·have:=caseA σ hap hA
  omega
 ·obtain⟨i,hi'⟩:=Classical.not_forall.mp hA
  obtain⟨hin,hi2⟩:=Classical.not_imp.mp hi'
  obtain⟨hxi,hsi⟩:=Classical.not_imp.mp hi2
  have hsi:σ i=false:=by simpa using hsi
  have li:=lo i hin hxi
  have hLq:L<=qQ n 1 τ+1:=by
   cases h:τ i with
   | false =>
    have:=cn5 hM hin hsi h
    omega
   | true =>
    have:=ht i hin h
    omega
  have fp:=bS7 (n:=n) (c:=c) σ τ
  by_cases hL:L<=qQ n 1 τ
  ·have:S n (fun j=>b2 (σ j)*(c j - qQ n 1 τ) - b2 (τ j)*c j)<=0:=bX3 fun j hj=>by
    have:=hi j hj
    have:=c0 j hj
    cases σ j<;>cases τ j<;>simp[b2]<;>omega
   omega
  ·have hLe:L=qQ n 1 τ+1:=by omega
   by_cases hT:∃ i,i<n/\0<x i/\τ i=true
   ·obtain⟨t,htn,hxt,htt⟩:=hT
    have lt:=lo t htn hxt
    have bd:S n (fun j=>b2 (σ j)*(c j - qQ n 1 τ) - b2 (τ j)*c j)<=S n (fun j=>b2 (σ j) - if j=t then qQ n 1 τ else 0):=af2 fun j hj=>by
     have h1:=hi j hj
     have h2:=c0 j hj
     by_cases e:j=t
     ·subst e
      have hs0:σ j=false:=by
       cases h:σ j
       ·rfl
       ·exact absurd ⟨h,htt⟩ (hap j hj)
      rw[if_pos rfl,hs0,htt]
      simp[b2]
      omega
     ·rw[if_neg e]
      cases σ j<;>cases τ j<;>simp[b2]<;>omega
    have e2:S n (fun j=>b2 (σ j) - if j=t then qQ n 1 τ else 0)=sz n σ - qQ n 1 τ:=by
     rw[Z8 (g:=fun j=>b2 (σ j)) htn (fun j _ hj=>by rw[if_neg hj,aw3]),if_pos rfl]
     unfold sz
     omega
    have hsz:=bf0 hap
    have hq:qQ n 1 τ=(n:Int) - 1 - sz n τ:=by unfold qQ;omega
    have all1:sz n σ+sz n τ=n:=by omega
    have f1:fV n 1 c σ τ=1:=by omega
    obtain⟨k,hk⟩:=ev
    obtain⟨e,he⟩:=bG9 (qQ n 1 τ)
    have hp:sz n σ=qQ n 1 τ+1:=by omega
    have spl:S n (fun j=>(b2 (σ j) - b2 (τ j))*c j)=S n c - 2*S n (fun j=>b2 (τ j)*c j):=by
     rw[<- aa1,<- E7]
     refine r9 fun j hj=>?_
     have:=ca5 hap all1 hj
     have e1:b2 (σ j)=1 - b2 (τ j):=by omega
     rw[e1]
     cases τ j<;>simp[b2]<;>omega
    unfold fV at f1
    rw[spl,hk,<- hq,hp,he]at f1
    omega
   ·have hno':∀ j,j<n->0<x j->τ j=false:=fun j hj hxj=>by
     cases h:τ j
     ·rfl
     ·exact absurd ⟨j,hj,hxj,h⟩ hT
    have ap':Apart n (fun j=>σ j || decide (0<x j)) τ:=fun j hj ⟨u,v⟩=>by
     rcases Bool.or_eq_true_iff.mp u with u | u
     ·exact hap j hj ⟨u,v⟩
     ·rw[hno' j hj (of_decide_eq_true u)]at v
      cases v
    have same:fV n 1 c (fun j=>σ j || decide (0<x j)) τ=fV n 1 c σ τ:=bz6 fun j hj hne=>by
     have hne:(σ j || decide (0<x j))≠σ j:=hne
     have hs0:σ j=false:=by
      cases h:σ j
      ·rfl
      ·rw[h]at hne;exact absurd rfl hne
     have hxj:0<x j:=by
      refine Classical.byContradiction fun z=>hne ?_
      rw[hs0,decide_eq_false z]
      rfl
     have:=cn5 hM hj hs0 (hno' j hj hxj)
     have:=lo j hj hxj
     omega
    have:=caseA _ ap' (fun j hj hxj=>by
     show (σ j || decide (0<x j))=true
     rw[decide_eq_true hxj,Bool.or_true])
    omega
end
section
variable {M:Int}
theorem bS3 {W:Int}(hd:∀ i,i<n->0<=d i)(hW:0<=W)(h:∀ r:Nat,1<=r->r<=n->∃ A,cnt n A=r/\Top n d A /\ -W<=W1 n M d A):∀ σ τ,Apart n σ τ->fV n M d σ τ<=W:=by
 intro a0 b hab0
 rw[bo6]
 let a:Nat->Bool:=fun i=>a0 i && !b i
 have ha0:∀ i,i<n->a i=a0 i:=fun i hi=>by
  show (a0 i && !b i)=a0 i
  cases e:a0 i<;>cases e':b i<;>first | rfl | exact absurd ⟨e,e'⟩ (hab0 i hi)
 have hab:∀ i,a i=true->b i=false:=fun i hi=>by
  have hi:(a0 i && !b i)=true:=hi
  cases e:b i
  ·rfl
  ·rw[e]at hi;simp at hi
 have ec:cnt n a0=cnt n a:=r9 fun i hi=>by rw[ha0 i hi]
 have es:sm n a0 d=sm n a d:=r9 fun i hi=>by rw[ha0 i hi]
 rw[ec,es]
 have k0:=S3 n a
 have kr:=au5 (n:=n) hab
 have kb:=S3 n b
 by_cases hz:cnt n a=0
 ·have za:∀ i,i<n->a i=false:=fun i hi=>by
   cases h:a i with
   | false=>rfl
   | true =>
    have:=az0 (f:=fun i=>b2 (a i)) hi (fun i _=>E1 _)
    have e:b2 (a i)=1:=by rw[h];rfl
    have t:b2 (a i)<=cnt n a:=this
    omega
  have:=an2 (a:=b) hd
  rw[ah7 za,hz,Y3,R3]
  omega
 ·obtain⟨A,hc,ht,r1⟩:=h (cnt n a).toNat (by omega) (by omega)
  have hcA:cnt n A=cnt n a:=by omega
  have r2:=aD8 (φ:=fun x=>x+mnf (M*cnt n a) x) (fun x y hxy=>by have:=aG1 (r:=M*cnt n a) hxy;omega) ht hcA.symm
  have sp:∀ c:Nat->Bool,sm n c (fun i=>d i+mnf (M*cnt n a) (d i))=sm n c d+S n (fun i=>mnf (M*cnt n a) (d i)) - S n (fun i=>if c i=true then 0 else mnf (M*cnt n a) (d i)):=fun c=>by
   unfold sm
   rw[<- T7,<- E7]
   refine r9 fun i _=>?_
   cases c i<;>simp
  rw[sp a,sp A]at r2
  unfold W1 at r1
  rw[hcA]at r1
  have low:S n (fun i=>if a i=true then 0 else mnf (M*cnt n a) (d i))<=sm n b d+(M*cnt n a)*((n:Int) - cnt n a - cnt n b):=by
   have e:(M*cnt n a)*((n:Int) - cnt n a - cnt n b)=S n (fun i=>(M*cnt n a)*(1 - b2 (a i) - b2 (b i))):=by
    rw[aa1,E7,E7,P7,K3];rfl
   rw[e]
   unfold sm
   rw[<- T7]
   refine af2 fun i hi=>?_
   have l1:=aR4 (M*cnt n a) (d i)
   have l2:=aC4 (M*cnt n a) (d i)
   cases ha:a i with
   | true=>rw[hab i ha];simp[b2]
   | false=>cases b i<;>simp[b2]<;>assumption
  rw[bm2]
  omega
theorem cf8 (A:Nat->Bool):fV n M d A (fun i=>!A i && decide (d i<M*cnt n A)) = -W1 n M d A:=by
 rw[bo6,bm2]
 have e:S n (fun i=>if A i=true then 0 else mnf (M*cnt n A) (d i))=sm n (fun i=>!A i && decide (d i<M*cnt n A)) d+(M*cnt n A)*((n:Int) - cnt n A - cnt n (fun i=>!A i && decide (d i<M*cnt n A))):=by
  have e1:(M*cnt n A)*((n:Int) - cnt n A - cnt n (fun i=>!A i && decide (d i<M*cnt n A)))=S n (fun i=>(M*cnt n A)*(1 - b2 (A i) - b2 (!A i && decide (d i<M*cnt n A)))):=by
   rw[aa1,E7,E7,P7,K3];rfl
  rw[e1]
  unfold sm
  rw[<- T7]
  refine r9 fun i hi=>?_
  show (if A i=true then 0 else mnf (M*cnt n A) (d i))=(if (!A i && decide (d i<M*cnt n A))=true then d i else 0)+(M*cnt n A)*(1 - b2 (A i) - b2 (!A i && decide (d i<M*cnt n A)))
  cases hA:A i with
  | true=>simp[b2]
  | false =>
   generalize M*cnt n A=r
   by_cases c:d i<r
   ·rw[decide_eq_true c]
    simp[b2,mnf]
    omega
   ·rw[decide_eq_false c]
    simp[b2,mnf]
    omega
 unfold W1
 rw[e]
 omega
theorem bn1 {w:Nat->Int}(K:Kk n M w)(hle:∀ i,i<n->w i<=d i)(A:Nat->Bool):-W1 n M d A<=S n (fun i=>d i - w i):=by
 have k:=K A (fun i=>!A i && decide (d i<M*cnt n A)) (fun i _ ⟨u,v⟩=>by simp[u]at v)
 rw[<- cf8]
 have e:fV n M d A (fun i=>!A i && decide (d i<M*cnt n A)) - fV n M w A (fun i=>!A i && decide (d i<M*cnt n A))<=S n (fun i=>d i - w i):=by
  unfold fV
  dsimp only
  have e1:S n (fun j=>(b2 (A j) - b2 (!A j && decide (d j<M*cnt n A)))*d j) - S n (fun j=>(b2 (A j) - b2 (!A j && decide (d j<M*cnt n A)))*w j)<=S n (fun i=>d i - w i):=by
   rw[<- E7]
   refine af2 fun i hi=>?_
   have:=hle i hi
   cases A i<;>cases decide (d i<M*cnt n A)<;>simp[b2]<;>omega
  omega
 omega
end
end Thk
namespace Web
open L2
open Grf (S b2 Gph deg W0)
def gW (ks:List (List Int))(i j:Nat):Bool:=decide ([(i:Int),(j:Int)]∈ks) || decide ([(j:Int),(i:Int)]∈ks)
theorem bS2 {a b:Nat}:gW ([(a:Int),(b:Int)]::ks)=W0 (gW ks) a b true:=by
 funext i j
 unfold gW W0
 have e1:([(i:Int),(j:Int)]=[(a:Int),(b:Int)])↔(i=a/\j=b):=by
  constructor
  ·intro h;injection h with h1 h2;injection h2 with h2;omega
  ·rintro⟨rfl,rfl⟩;rfl
 have e2:([(j:Int),(i:Int)]=[(a:Int),(b:Int)])↔(i=b/\j=a):=by
  constructor
  ·intro h;injection h with h1 h2;injection h2 with h2;omega
  ·rintro⟨rfl,rfl⟩;rfl
 by_cases c:(i=a/\j=b)\/(i=b/\j=a)
 ·rw[if_pos c]
  rcases c with c | c
  ·simp[e1.mpr c]
  ·simp[e2.mpr c]
 ·rw[if_neg c]
  have c1:¬ [(i:Int),(j:Int)]=[(a:Int),(b:Int)]:=fun z=>c (.inl (e1.mp z))
  have c2:¬ [(j:Int),(i:Int)]=[(a:Int),(b:Int)]:=fun z=>c (.inr (e2.mp z))
  simp only[d7,c1,c2,false_or]
theorem bG1 (h:∀ k∈ks,Up n k):Gph (gW ks) where
 sym:=fun i j=>by unfold gW;rw[Bool.or_comm]
 irr:=fun i=>by
  have:¬ [(i:Int),(i:Int)]∈ks:=fun z=>by
   obtain⟨a,b,h1,h2,e⟩:=h _ z
   injection e with e1 e2
   injection e2 with e2
   omega
  unfold gW
  rw[decide_eq_false this];rfl
theorem bi2:∀ {ks:List (List Int)},ks.Nodup->(∀ k∈ks,Up n k)->∀ i,deg n (gW ks) i=(N6 ks i:Int)
 | [],_,_,i=>by
  have:deg n (gW []) i=S n (fun _=>0):=Grf.r9 fun j _=>by simp[gW,b2]
  rw[this,Grf.M5]
  rfl
 | k::ks,nd,h,i=>by
  obtain⟨n1,n2⟩:=B5.mp nd
  obtain⟨a,b,h1,h2,e⟩:=h k f9
  subst e
  have hk:∀ k∈ks,Up n k:=fun k hk=>h k (d6 _ hk)
  have hf:gW ks a b=false:=by
   have:¬ [(b:Int),(a:Int)]∈ks:=fun z=>by
    obtain⟨x,y,u1,u2,e⟩:=hk _ z
    injection e with e1 e2
    injection e2 with e2
    omega
   unfold gW
   rw[decide_eq_false n1,decide_eq_false this];rfl
  rw[bS2,Grf.W4 (bG1 hk) (by omega) (by omega) h2,bi2 n2 hk i,hf]
  have ec:N6 ([(a:Int),(b:Int)]::ks) i=N6 ks i+(if i=a\/i=b then 1 else 0):=by
   show List.countP _ _=List.countP _ _+_
   rw[N9]
   congr 1
   have:decide ((i:Int)∈[(a:Int),(b:Int)])=decide (i=a\/i=b):=by
    congr 1
    rw[d7,x8]
    exact propext ⟨fun z=>by omega,fun z=>by omega⟩
   rw[this]
   by_cases c:i=a\/i=b
   ·rw[decide_eq_true c,if_pos rfl,if_pos c]
   ·rw[decide_eq_false c,if_neg (by decide),if_neg c]
  rw[ec]
  by_cases c:i=a\/i=b
  ·rw[if_pos c,if_pos c];simp[b2]
  ·rw[if_neg c,if_neg c];simp
theorem bx1 (h:i<n):(tal n ks).getD i 0=(N6 ks i:Int):=by
 rw[c8,aa8 h];rfl
theorem be5 (nd:ks.Nodup)(h:∀ k∈ks,Up n k):Gr (tal n ks):=by
 refine⟨gW ks,bG1 h,fun i hi=>?_⟩
 rw[P3]at hi ⊢
 rw[bi2 nd h,bx1 hi]
def D3:List (List Int)->Nat->List (List Int)
 | [],_=>[]
 | p::ps,m=>(if m % 2=1 then [p] else [])++D3 ps (m / 2)
theorem as3:∀ (ps:List (List Int)) (m:Nat),(D3 ps m).Sublist ps
 | [],_=>.slnil
 | p::ps,m=>by
  unfold D3
  by_cases c:m % 2=1
  ·rw[if_pos c];exact(as3 ps (m / 2)).cons₂ p
  ·rw[if_neg c];exact(as3 ps (m / 2)).cons p
theorem aL3:∀ (ps:List (List Int)) (i m:Nat) (q:List Int),ps[i]?=some q->D3 (ps.take (i+1)) m=D3 (ps.take i) m++(if m / 2 ^ i % 2=1 then [q] else [])
 | [],i,m,q,h=>by simp at h
 | p::ps,0,m,q,h=>by
  have e:p=q:=by simpa using h
  subst e
  simp[D3]
 | p::ps,i+1,m,q,h=>by
  have h':ps[i]?=some q:=by simpa using h
  rw[bU6,bU6]
  show _++D3 (ps.take (i+1)) (m / 2)=_++D3 (ps.take i) (m / 2)++_
  rw[aL3 ps i (m / 2) q h',A6,ar5,aU1,Nat.mul_comm 2]
theorem aW1 (p:List Int->Bool):∀ ps:List (List Int),∃ m,m<2 ^ ps.length/\D3 ps m=ps.filter p
 | []=>⟨0,by decide,rfl⟩
 | k::ps=>by
  obtain⟨m,hm,e⟩:=aW1 p ps
  cases hp:p k with
  | true =>
   refine⟨2*m+1,by rw[p6,aU1];omega,?_⟩
   unfold D3
   rw[if_pos (by omega),show (2*m+1) / 2=m by omega,e,G0 hp]
   rfl
  | false =>
   refine⟨2*m,by rw[p6,aU1];omega,?_⟩
   unfold D3
   rw[if_neg (by omega),show (2*m) / 2=m by omega,e,G1 (by rw[hp];decide)]
   rfl
theorem aR2 (h1:i<j)(h2:j<n):[(i:Int),(j:Int)]∈l4 n:=by
 unfold l4
 refine cj0.mpr ⟨i,v8.mpr (by omega),?_⟩
 unfold ac0
 exact p0.mpr ⟨j - (i+1),v8.mpr (by omega),by
  rw[show ((j - (i+1):Nat):Int)=(j:Int) - ((i:Int)+1) by omega]
  rw[show (i:Int)+1+((j:Int) - ((i:Int)+1))=(j:Int) by omega]⟩
theorem bh9 {ts:List Int}:Gr ts↔∃ m,m<2 ^ (l4 ts.length).length/\tal ts.length (D3 (l4 ts.length) m)=ts:=by
 constructor
 ·rintro⟨g,hg,dg⟩
  obtain⟨m,hm,e⟩:=aW1 (fun k=>g (k.getD 0 0).toNat (k.getD 1 0).toNat) (l4 ts.length)
  refine⟨m,hm,?_⟩
  rw[e]
  have hU:∀ k∈(l4 ts.length).filter (fun k=>g (k.getD 0 0).toNat (k.getD 1 0).toNat),Up ts.length k:=fun k hk=>ag4 (F1.mp hk).1
  have nd:((l4 ts.length).filter (fun k=>g (k.getD 0 0).toNat (k.getD 1 0).toNat)).Nodup:=(ao2 (ag6 _)).filter _
  have mem:∀ i j:Nat,i<j->j<ts.length->([(i:Int),(j:Int)]∈(l4 ts.length).filter (fun k=>g (k.getD 0 0).toNat (k.getD 1 0).toNat)↔g i j=true):=fun i j h1 h2=>by
   rw[F1]
   have e:∀ x y:Nat,([(x:Int),(y:Int)].getD 0 0).toNat=x/\([(x:Int),(y:Int)].getD 1 0).toNat=y:=fun x y=>⟨m7 x,m7 y⟩
   rw[(e i j).1,(e i j).2]
   exact⟨fun z=>z.2,fun z=>⟨aR2 h1 h2,z⟩⟩
  have row:∀ i j:Nat,i<ts.length->j<ts.length->gW ((l4 ts.length).filter (fun k=>g (k.getD 0 0).toNat (k.getD 1 0).toNat)) i j=g i j:=fun i j hi hj=>by
   have up:∀ x y:Nat,[(x:Int),(y:Int)]∈(l4 ts.length).filter (fun k=>g (k.getD 0 0).toNat (k.getD 1 0).toNat)->x<y:=fun x y z=>by
    obtain⟨a,b,u1,u2,e⟩:=hU _ z
    injection e with e1 e2
    injection e2 with e2
    omega
   unfold gW
   rcases U8 i j with l | l | l
   ·rw[decide_eq_false (show ¬ [(j:Int),(i:Int)]∈(l4 ts.length).filter (fun k=>g (k.getD 0 0).toNat (k.getD 1 0).toNat) from fun z=>by have:=up j i z;omega),Bool.or_false]
    cases hgij:g i j with
    | true=>exact decide_eq_true ((mem i j l hj).mpr hgij)
    | false=>exact decide_eq_false fun z=>by rw[(mem i j l hj).mp z]at hgij;cases hgij
   ·subst l
    rw[hg.irr,decide_eq_false (fun z=>by have:=up i i z;omega)];rfl
   ·rw[decide_eq_false (show ¬ [(i:Int),(j:Int)]∈(l4 ts.length).filter (fun k=>g (k.getD 0 0).toNat (k.getD 1 0).toNat) from fun z=>by have:=up i j z;omega),Bool.false_or,hg.sym i j]
    cases hgij:g j i with
    | true=>exact decide_eq_true ((mem j i l hi).mpr hgij)
    | false=>exact decide_eq_false fun z=>by rw[(mem j i l hi).mp z]at hgij;cases hgij
  refine M8 fun i=>?_
  rcases A1 i ts.length with hi | hi
  ·rw[aa8 hi,<- bi2 nd hU i,c7 hi]
   congr 1
   have:=dg i hi
   rw[c8,c7 hi]at this
   have t:deg ts.length g i=ts[i]:=this
   rw[<- t]
   exact Grf.r9 fun j hj=>by rw[row i j hi hj]
  ·rw[o7 (by rw[P3];exact hi),o7 hi]
 ·rintro⟨m,_,e⟩
  rw[<- e]
  have s:=as3 (l4 ts.length) m
  refine be5 ((ao2 (ag6 _)).sublist s) fun k hk=>ag4 (s.subset hk)
end Web
namespace Web
open L2 Grf Thk
def Y9 (s want:Int):Int:=want+(want+s) % 2
theorem aO5 (ns:List Int):S ns.length (fun i=>ns.getD i 0)=ns.sum:=by
 have:=aI6 (fun z=>z) ns
 rw[av6]at this
 exact this
structure Lst (ns:List Int) (mn:Int):Prop where
 le:∀ r,r<=ns.length->mn<=Q8 ns r
 at_:∃ r,r<=ns.length/\mn=Q8 ns r
theorem as8 {r:Nat}(hr:r<=ns.length):∃ A,Grf.cnt ns.length A=r/\Top ns.length (fun i=>ns.getD i 0) A/\W1 ns.length 1 (fun i=>ns.getD i 0) A=Q8 ns r:=by
 obtain⟨zs,hp,hs⟩:=am0 ns
 obtain⟨a1,a2,_⟩:=ag2 hp hs hr
 have:=ar0 hp hs (M:=1) hr
 rw[ab6]at this
 exact⟨_,a1,a2,this⟩
theorem bs4 (h0:AllP ns):Q8 ns 0<=0:=by
 obtain⟨A,h1,_,h3⟩:=as8 (ns:=ns) (r:=0) (t8 _)
 rw[<- h3]
 unfold W1
 have hz:∀ i,i<ns.length->A i=false:=fun i hi=>by
  cases h:A i with
  | false=>rfl
  | true =>
   have a:=az0 (f:=fun i=>b2 (A i)) hi (fun i _=>E1 _)
   have a':b2 (A i)<=Grf.cnt ns.length A:=a
   rw[h1,h,ab3]at a'
   exact absurd a' (by decide)
 have e1:sm ns.length A (fun i=>ns.getD i 0)=0:=ah7 hz
 have e2:S ns.length (fun i=>if A i=true then 0 else mnf (1*Grf.cnt ns.length A) (ns.getD i 0))<=0:=bX3 fun i hi=>by
  rw[hz i hi,if_neg i7,h1]
  have:=aC4 (1*((0:Nat):Int)) (ns.getD i 0)
  omega
 rw[h1]at e2 ⊢
 rw[e1]
 simp at e2 ⊢
 exact e2
theorem bR2 (n:Nat):Kk n 1 (fun _=>0):=fun σ τ h=>by
 unfold fV
 have hs:=bf0 h
 have s0:0<=sz n σ:=T6 fun j _=>E1 _
 have t0:0<=sz n τ:=T6 fun j _=>E1 _
 rw[r9 (g:=fun _=>0) (fun j _=>R3 _),M5]
 by_cases c:sz n σ=0
 ·rw[c,Y3];decide
 ·have:=bq0 s0 (show 0<=(n:Int) - 1 - sz n τ by omega)
  omega
theorem Lst.want {mn:Int}(h:Lst ns mn)(h0:AllP ns):0 <= -mn /\ -mn<=ns.sum:=by
 refine⟨?_,?_⟩
 ·have:=h.le 0 (t8 _)
  have:=bs4 h0
  omega
 ·obtain⟨r,hr,rfl⟩:=h.at_
  obtain⟨A,_,_,h3⟩:=as8 hr
  have:=bn1 (d:=fun i=>ns.getD i 0) (bR2 ns.length) (fun i hi=>W5 h0 hi) A
  rw[h3,r9 (g:=fun i=>ns.getD i 0) (fun i _=>aw3 _),aO5]at this
  exact this
theorem Lst.off {mn:Int}(h:Lst ns mn)(h0:AllP ns):0<=Y9 ns.sum (-mn) /\ -mn<=Y9 ns.sum (-mn)/\Y9 ns.sum (-mn)<=ns.sum/\(ns.sum - Y9 ns.sum (-mn)) % 2=0:=by
 have:=h.want h0
 unfold Y9
 omega
theorem ag7 (L c:Int):abv 0 L c=0:=by
 unfold abv
 by_cases h1:c - L<=0
 ·rw[if_pos h1]
 ·rw[if_neg h1,if_neg h1]
theorem bT6 {M:Int}(hM:∀ x∈ns,x<=M)(h0:AllP ns):(ns.map (abv M 0)).sum=ns.sum:=by
 have:ns.map (abv M 0)=ns:=by
  conv=>rhs;rw[<- av6 ns]
  refine K1 fun x hx=>?_
  obtain⟨i,hi⟩:=o6.mp hx
  have:=h0 i x hi
  have:=hM x hx
  unfold abv
  split
  ·omega
  ·rw[if_pos (by omega)];omega
 rw[this]
def ao7 (ns xs:List Int):List Int:=(p5 ns.length).map fun j=>ns.getD j 0 - xs.getD j 0
theorem ak9 (ns xs:List Int):(ao7 ns xs).length=ns.length:=by unfold ao7;rw[b8,y7]
theorem as4 {xs:List Int}(h:j<ns.length):(ao7 ns xs).getD j 0=ns.getD j 0 - xs.getD j 0:=by
 unfold ao7
 rw[c8,o5,J9 h]
 rfl
theorem bD6 {xs:List Int} {M:Nat} {mn:Int} (h0:AllP ns) (hM:∀ x∈ns,x<=(M:Int)) (hm:Lst ns mn) (hL:Lvl M ns (Y9 ns.sum (-mn)) L) (hx:∀ j,j<ns.length->xs.getD j 0=shx M L ns (Y9 ns.sum (-mn) - (ns.map (abv M L)).sum).toNat j) :
  Gr (ao7 ns xs)/\(∀ j,j<ns.length->0<=(ao7 ns xs).getD j 0/\(ao7 ns xs).getD j 0<=ns.getD j 0)/\(ao7 ns xs).sum=ns.sum - Y9 ns.sum (-mn):=by
 obtain⟨o0,o1,o2,o3⟩:=hm.off h0
 obtain⟨w0,w1⟩:=hm.want h0
 have hd:∀ i,i<ns.length->0<=ns.getD i 0:=fun i hi=>W5 h0 hi
 have hle:∀ j,j<ns.length->ns.getD j 0<=(M:Int):=fun j hj=>by
  refine hM _ (d8 (i:=j) ?_)
  rw[c8,c7 hj]
  rfl
 generalize Y9 ns.sum (-mn)=a at o0 o1 o2 o3 hL hx ⊢
 have l0:=hL.l0
 obtain⟨x0,xn,lo,hi,xa⟩:(∀ j,j<ns.length->0<=xs.getD j 0)/\(∀ j,j<ns.length->xs.getD j 0<=ns.getD j 0)/\(∀ j,j<ns.length->0<xs.getD j 0->L - 1<=ns.getD j 0 - xs.getD j 0)/\(∀ j,j<ns.length->ns.getD j 0 - xs.getD j 0<=L)/\S ns.length (fun j=>xs.getD j 0)=a:=by
  rw[show S ns.length (fun j=>xs.getD j 0)=S ns.length (shx M L ns (a - (ns.map (abv M L)).sum).toNat) from Grf.r9 hx]
  by_cases hM1:1<=M
  ·have hM1':(1:Int)<=(M:Int):=by omega
   have hA:a<=(ns.map (abv M 0)).sum:=by rw[bT6 hM h0];exact o2
   refine⟨fun j hj=>?_,fun j hj=>?_,fun j hj=>?_,fun j hj=>?_,bM9 hM1' hL hA⟩
   ·rw[hx j hj];exact(aw5 hM1' _ hj).1
   ·rw[hx j hj];exact ca8 hM1' hL hA hj (hd j hj)
   ·rw[hx j hj];exact(aw5 hM1' _ hj).2.2.1
   ·rw[hx j hj]
    have f:=aw5 (L:=L) hM1' (a - (ns.map (abv M L)).sum).toNat hj
    have:=hle j hj
    rcases bK3 (shx M L ns (a - (ns.map (abv M L)).sum).toNat j) M with z | z
    ·exact f.2.2.2 z
    ·omega
  ·have hM0:M=0:=by omega
   subst hM0
   have n0:∀ j,j<ns.length->ns.getD j 0=0:=fun j hj=>by
    have:=hd j hj
    have:=hle j hj
    omega
   have e0:ac5 ((0:Nat):Int) L ns=[]:=by
    unfold ac5
    refine aa4.mpr fun z _=>?_
    show ¬ decide (abv 0 L _<abv 0 (L - 1) _)=true
    rw[ag7,ag7]
    decide
   have z0:∀ k j,shx ((0:Nat):Int) L ns k j=0:=fun k j=>by
    unfold shx aF8
    rw[e0,List.take_nil,if_neg C2]
    show abv 0 L _+0=0
    rw[ag7]
    rfl
   have sm0:ns.sum=0:=by
    rw[<- aO5,Grf.r9 (g:=fun _=>0) n0,Grf.M5]
   refine⟨fun j hj=>?_,fun j hj=>?_,fun j hj h=>?_,fun j hj=>?_,?_⟩
   ·rw[hx j hj,z0];decide
   ·rw[hx j hj,z0,n0 j hj];decide
   ·rw[hx j hj,z0]at h;exact absurd h (by decide)
   ·rw[hx j hj,z0,n0 j hj];omega
   ·rw[Grf.r9 (g:=fun _=>0) (fun j _=>z0 _ j),Grf.M5];omega
 have hsum:S ns.length (fun j=>ns.getD j 0 - xs.getD j 0)=ns.sum - a:=by rw[Grf.E7,aO5,xa]
 have hsl:(ao7 ns xs).sum=ns.sum - a:=by
  rw[<- hsum,<- aO5,ak9]
  exact Grf.r9 fun j hj=>as4 hj
 have ev:∃ k,S ns.length (fun j=>ns.getD j 0 - xs.getD j 0)=2*k:=⟨(ns.sum - a) / 2,by rw[hsum];omega⟩
 have kk:Kk ns.length 1 (fun j=>ns.getD j 0 - xs.getD j 0):=bD5 (L:=L) (W:=-mn) (d:=fun j=>ns.getD j 0) (x:=fun j=>xs.getD j 0) (fun j hj=>rfl) (fun j hj=>by have:=xn j hj;show 0<=ns.getD j 0 - xs.getD j 0;omega) x0 lo hi
  (bS3 hd w0 fun r r1 r2 => by
   obtain⟨A,a1,a2,a3⟩:=as8 r2
   refine⟨A,a1,a2,?_⟩
   rw[a3]
   have:=hm.le r r2
   omega) (by rw[xa];exact o1) ev
 refine⟨bo2 (bk0 (bR4 ?_ ?_ ?_)),fun j hj=>?_,hsl⟩
 ·intro j z hz
  have hj:j<ns.length:=by
   rw[<- ak9 ns xs]
   exact(d9.mp hz).1
  have e:=as4 (xs:=xs) hj
  rw[c8,hz]at e
  have e:z=ns.getD j 0 - xs.getD j 0:=e
  have:=xn j hj
  omega
 ·rw[hsl];omega
 ·rw[ak9]
  intro σ τ h
  have:=kk σ τ h
  have e:fV ns.length 1 (fun i=>(ao7 ns xs).getD i 0) σ τ=fV ns.length 1 (fun j=>ns.getD j 0 - xs.getD j 0) σ τ:=by
   unfold fV
   congr 1
   refine Grf.r9 fun j hj=>?_
   show _*(ao7 ns xs).getD j 0=_
   rw[as4 hj]
  show fV ns.length 1 (fun i=>(ao7 ns xs).getD i 0) σ τ<=0
  rw[e]
  exact this
 ·rw[as4 hj]
  have:=xn j hj
  have:=x0 j hj
  omega
theorem bE3 {ts:List Int}{mn:Int}(hl:ts.length=ns.length)(hle:∀ j,j<ns.length->ts.getD j 0<=ns.getD j 0)(G:Gr ts)(hm:Lst ns mn):Y9 ns.sum (-mn)<=ns.sum - ts.sum:=by
 have hf:=bn8 G
 have kk:=bS5 (ns:=ts) (M:=1) ⟨hf.1,hf.2.1,fun k k1 k2=>by rw[ab6];exact hf.2.2 k k1 k2⟩
 rw[hl]at kk
 obtain⟨r,hr,e⟩:=hm.at_
 obtain⟨A,_,_,a3⟩:=as8 hr
 have:=bn1 (d:=fun i=>ns.getD i 0) kk hle A
 rw[Grf.E7,aO5]at this
 have st:=aO5 ts
 rw[hl]at st
 have e3:W1 ns.length ((1:Nat):Int) (fun i=>ns.getD i 0) A=Q8 ns r:=a3
 have ev:=hf.2.1
 unfold Y9
 omega
end Web
namespace L2
open PySem PySem.Spec PyProof.Rows
structure ZAp (z TI TO i1 i2:Addr) (f1 f2:List Addr):Prop where
 a1:TI≠z
 a2:TO≠z
 a3:i1≠z
 a4:i2≠z
 a5:TI≠TO
 a6:TI≠i1
 a7:TI≠i2
 a8:TO≠i1
 a9:TO≠i2
 b0:i1≠i2
 b1:z∉f1
 b2:z∉f2
 b3:TO∉f1
 b4:TO∉f2
 b5:i1∉f2
 b6:i2∉f1
section
variable {z TI TO i1 i2:Addr} {f1 f2:List Addr} {n1 n2 k:Nat} {P1 P2:Nat->Value->Prop} {S1 S2:Nat->Heap->Prop}
theorem V9 {it:Addr}{P:Nat->Value->Prop}{St:Nat->Heap->Prop}(D:Draws prog w A it fp n P St)(st:St i h)(k:Heap.ExtBut c h h')(hc:c∉fp):St i h':=D.frame i h h' st fun b hb o e=>k b o (fun zz=>hc (zz ▸ hb)) e
theorem bL7 {a b:Value} (D:ZAp z TI TO i1 i2 f1 f2) (D1:Draws prog w A i1 f1 n1 P1 S1) (D2:Draws prog w A i2 f2 n2 P2 S2) (hz:aU8 s.heap z TI TO .none) (hTI:aa6 s.heap TI (.ref i1) (.ref i2)) (hTO:aa6 s.heap TO a b) (st1:S1 k s.heap) (st2:S2 k s.heap) (hk1:k<n1) (hk2:k<n2)
  (hQ : ∀ x y h' tk, P1 k x -> P2 k y -> aU8 h' z TI TO (Z4 s.heap.objs.size) -> aa6 h' TO x y -> S1 (k + 1) h' -> S2 (k + 1) h' -> aa6 h' s.heap.objs.size x y -> h'.objs.size = s.heap.objs.size + 1 ->
   (∀ c o,c≠z->c≠TO->c≠i1->c≠i2->s.heap.get? c=some o->h'.get? c=some o)->Q (.ref s.heap.objs.size) { s with heap:=h',toks:=tk }) :
  p8 (t9 prog w) A (Builtin.«zip.__next__» ⟨[.ref z],[]⟩) (fun fin s'=>∃ v,fin=.done (.ret v)/\Q v s') E s:=by
 show p8 _ _ (field (.ref z) 2 >>= _) _ _ _;refine b7 (P9 hz rfl (x:=.bool false) rfl ?_)
 show p8 _ _ (field (.ref z) 3 >>= _) _ _ _;refine b7 (P9 hz rfl (x:=.ref TI) rfl (b7 (G5 hTI rfl ?_)))
 show p8 _ _ (Builtin.SmallTypes.ownedTupleIsFree (.ref z) >>= _) _ _ _;refine b7 ?_;unfold Builtin.SmallTypes.ownedTupleIsFree
 refine b7 (P9 hz rfl (x:=.none) rfl (d3 ?_));simp only[if_true]
 refine b7 (aq2 (b7 (P9 hz rfl (x:=.ref TO) rfl (b7 (aa7 hz (by simp) fun hA hzA hsA=>?_)))))
 replace hzA:aU8 hA z TI TO .ellipsis:=hzA
 refine b7 ?_;simp only[aT7,List.zipIdx_nil,List.forIn_cons,List.forIn_nil]
 refine b7 (b7 (bL4 ?_));show p8 _ _ (Builtin.SmallTypes.nextOf (.ref i1) >>= _) _ _ _
 refine b7 (D1.item k _ _ _ hk1 (V9 D1 st1 hsA.extBut D.b1) fun x hB tB hx stB hsB=>d3 ?_)
 have hTOB:aa6 hB TO a b:=hsB.extBut _ _ D.a8 (hsA.extBut _ _ D.a2 hTO)
 refine b7 (G5 hTOB rfl (b7 (ci3 hTOB fun hC hTOC hsC=>?_)))
 replace hTOC:aa6 hC TO x b:=hTOC
 refine b7 (aj9 (d3 ?_));refine b7 (b7 (bL4 ?_));show p8 _ _ (Builtin.SmallTypes.nextOf (.ref i2) >>= _) _ _ _
 refine b7 (D2.item k _ _ _ hk2 (V9 D2 (V9 D2 (V9 D2 st2 hsA.extBut D.b2) hsB.extBut D.b5) hsC.extBut D.b4) fun y hD tD hy stD hsD=>d3 ?_)
 have hTOD:aa6 hD TO x b:=hsD.extBut _ _ D.a9 hTOC
 refine b7 (G5 hTOD rfl (b7 (ci3 hTOD fun hF hTOF hsF=>?_)))
 replace hTOF:aa6 hF TO x y:=hTOF
 refine b7 (aj9 (d3 (d3 (b7 (G5 hTOF rfl (b7 (bw6 ?_)))))))
 have hsz:hF.objs.size=s.heap.objs.size:=by rw[hsF.1,hsD.1,hsC.1,hsB.1,hsA.1]
 have hzF:aU8 hF z TI TO .ellipsis:=hsF.extBut _ _ D.a2.symm (hsD.extBut _ _ D.a4.symm (hsC.extBut _ _ D.a2.symm (hsB.extBut _ _ D.a3.symm hzA)))
 have hkF:∀ c o,c≠z->c≠TO->c≠i1->c≠i2->s.heap.get? c=some o->hF.get? c=some o:=fun c o c1 c2 c3 c4 e=>hsF.extBut _ _ c2 (hsD.extBut _ _ c4 (hsC.extBut _ _ c2 (hsB.extBut _ _ c3 (hsA.extBut _ _ c1 e))))
 have s1F:S1 (k+1) hF:=V9 D1 (V9 D1 (V9 D1 stB hsC.extBut D.b3) hsD.extBut D.b6) hsF.extBut D.b3
 have s2F:S2 (k+1) hF:=V9 D2 stD hsF.extBut D.b4
 have hzlt:z<hF.objs.size:=d5 hzF
 show p8 _ _ (Builtin.SmallTypes.ownedTupleHandOut (.ref z) (.ref hF.objs.size) >>= _) _ _ _;refine b7 ?_;unfold Builtin.SmallTypes.ownedTupleHandOut
 have hzG:aU8 (hF.push { cls:=.type "tuple",data:=.seq #[x,y] }) z TI TO .ellipsis:=c5 _ hzF
 refine b7 (aa7 hzG (by simp) fun hJ hzJ hsJ=>?_)
 replace hzJ:aU8 hJ z TI TO (Z4 hF.objs.size):=hzJ
 refine aa7 hzJ (by simp) fun hL hzL hsL=>?_
 replace hzL:aU8 hL z TI TO (Z4 hF.objs.size):=hzL
 have up:∀ c o,c≠z->hF.get? c=some o->hL.get? c=some o:=fun c o c1 e=>hsL.extBut _ _ c1 (hsJ.extBut _ _ c1 (c5 _ e))
 have hTL:aa6 hL hF.objs.size x y:=hsL.extBut _ _ (M6 hzlt) (hsJ.extBut _ _ (M6 hzlt) (i6 _ rfl))
 have hzs:hL.objs.size=hF.objs.size+1:=by rw[hsL.1,hsJ.1,B9]
 rw[hsz]at hzL hTL hzs
 refine d3 ⟨_,rfl,?_⟩;show Q (.ref hF.objs.size) _;rw[hsz]
 exact hQ x y hL tD hx hy hzL (up _ _ D.a2 hTOF) (D1.frame _ _ _ s1F fun b hb o e=>up b o (fun q=>D.b1 (q ▸ hb)) e) (D2.frame _ _ _ s2F fun b hb o e=>up b o (fun q=>D.b2 (q ▸ hb)) e) hTL hzs fun c o c1 c2 c3 c4 e=>up c o c1 (hkF c o c1 c2 c3 c4 e)
theorem bZ0 {Q:PySem.Fin->Shared->Prop}{a b:Value}(D:ZAp z TI TO i1 i2 f1 f2)(D1:Draws prog w A i1 f1 n1 P1 S1)(hz:aU8 s.heap z TI TO .none)(hTI:aa6 s.heap TI (.ref i1) (.ref i2))(hTO:aa6 s.heap TO a b)(st1:S1 n1 s.heap)
  (hE:∀ h' e,(∀ c o,c≠z->c≠TO->c≠i1->c≠i2->s.heap.get? c=some o->h'.get? c=some o)->(∃ o,h'.get? e=some o/\o.cls=.type "StopIteration")->E (.ref e) { s with heap:=h' }) :
  p8 (t9 prog w) A (Builtin.«zip.__next__» ⟨[.ref z],[]⟩) Q E s:=by
 show p8 _ _ (field (.ref z) 2 >>= _) _ _ _;refine b7 (P9 hz rfl (x:=.bool false) rfl ?_)
 show p8 _ _ (field (.ref z) 3 >>= _) _ _ _;refine b7 (P9 hz rfl (x:=.ref TI) rfl (b7 (G5 hTI rfl ?_)))
 show p8 _ _ (Builtin.SmallTypes.ownedTupleIsFree (.ref z) >>= _) _ _ _;refine b7 ?_;unfold Builtin.SmallTypes.ownedTupleIsFree
 refine b7 (P9 hz rfl (x:=.none) rfl (d3 ?_));simp only[if_true]
 refine b7 (aq2 (b7 (P9 hz rfl (x:=.ref TO) rfl (b7 (aa7 hz (by simp) fun hA hzA hsA=>?_)))))
 replace hzA:aU8 hA z TI TO .ellipsis:=hzA
 refine b7 ?_;simp only[aT7,List.zipIdx_nil,List.forIn_cons,List.forIn_nil]
 refine b7 (b7 (bL4 ?_));show p8 _ _ (Builtin.SmallTypes.nextOf (.ref i1) >>= _) _ _ _
 refine b7 (D1.done _ _ _ (V9 D1 st1 hsA.extBut D.b1) fun hB e hsB he=>?_)
 obtain⟨oe,hoe,hce⟩:=he
 have hzB:aU8 hB z TI TO .ellipsis:=hsB _ _ D.a3.symm hzA
 have hez:e≠z:=fun x=>by subst x;rw[hzB]at hoe;cases hoe;simp at hce
 exact aa7 hzB (by simp) fun hC _ hsC=>hE hC e (fun c o c1 _ c3 _ x=>hsC.extBut _ _ c1 (hsB _ _ c3 (hsA.extBut _ _ c1 x))) ⟨oe,hsC.extBut _ _ hez hoe,hce⟩
theorem bL5 {Q:Option Value->Shared->Prop} {a b:Value} (D:ZAp z TI TO i1 i2 f1 f2) (D1:Draws prog w A.in1 i1 f1 n1 P1 S1) (D2:Draws prog w A.in1 i2 f2 n2 P2 S2) (hz:aU8 s.heap z TI TO .none) (hTI:aa6 s.heap TI (.ref i1) (.ref i2)) (hTO:aa6 s.heap TO a b) (st1:S1 k s.heap) (st2:S2 k s.heap) (hk1:k<n1) (hk2:k<n2)
  (hQ : ∀ x y h' tk, P1 k x -> P2 k y -> aU8 h' z TI TO (Z4 s.heap.objs.size) -> aa6 h' TO x y -> S1 (k + 1) h' -> S2 (k + 1) h' -> aa6 h' s.heap.objs.size x y -> h'.objs.size = s.heap.objs.size + 1 ->
   (∀ c o,c≠z->c≠TO->c≠i1->c≠i2->s.heap.get? c=some o->h'.get? c=some o)->Q (some (.ref s.heap.objs.size)) { s with heap:=h',toks:=tk }):p8 (t9 prog w) A (aq0 (.ref z)) Q E s:=by
 have hT:s.TypeIs (.ref z) "zip":=⟨_,hz,rfl⟩;unfold aq0
 refine b7 (ah3 (N1 (name:=Str.ofString "__next__") hT F.slot_zip_next (O8 F.slot_zip_next hT F.entry_zip_next ?_ (F.args_zip_next_1 _))))
 exact bL7 D D1 D2 hz hTI hTO st1 st2 hk1 hk2 fun x y h' tk a0 a1 a2 a3 a4 a5 a6 a7 a8=>d3 (hQ x y h' tk a0 a1 a2 a3 a4 a5 a6 a7 a8)
theorem bL6 {Q:Option Value->Shared->Prop}{a b:Value}(D:ZAp z TI TO i1 i2 f1 f2)(D1:Draws prog w A.in1 i1 f1 n1 P1 S1)(hz:aU8 s.heap z TI TO .none)(hTI:aa6 s.heap TI (.ref i1) (.ref i2))(hTO:aa6 s.heap TO a b)(st1:S1 n1 s.heap)
  (hQ:∀ h',(∀ c o,c≠z->c≠TO->c≠i1->c≠i2->s.heap.get? c=some o->h'.get? c=some o)->Q none { s with heap:=h' }):p8 (t9 prog w) A (aq0 (.ref z)) Q E s:=by
 have hT:s.TypeIs (.ref z) "zip":=⟨_,hz,rfl⟩;unfold aq0
 refine b7 (ah3 (N1 (name:=Str.ofString "__next__") hT F.slot_zip_next (O8 F.slot_zip_next hT F.entry_zip_next (bZ0 D D1 hz hTI hTO st1 fun h' e hk he=>?_) (F.args_zip_next_1 _))))
 obtain⟨o,ho,hc⟩:=he
 exact b7 (wpAny_isInstance (T:="StopIteration") (b:=true) ⟨o,ho,hc⟩ isSubtype_stop (d3 (hQ _ hk)))
end
abbrev zA (h:Heap)(p:Addr):Heap:=h.push { cls:=.type "list_iterator",data:=.fields #[.ref p,.int 0 0] }
theorem bo3 (I:Inv X pins σ H s)(f:R1 X pins H c)(lk:X.K.lookup a=some o):a≠c:=fun z=>by
 have e:=I.ok.mod.kin a o lk
 rw[z]at e
 rcases f.2.2.2.1 with h | h
 ·exact I.ok.noex c o e h
 ·exact absurd (p9 (d5 e) (x9 I.ok.bsz h)) (B2 _)
theorem cs9 (I:Inv X pins σ H s)(f:R1 X pins H c)(q:SqL X.K H a xs):a≠c:=by
 rcases q with(q | ⟨o,q⟩) | ⟨o,its,n,lk,_⟩
 ·exact r6 q f.1
 ·exact r6 q f.1
 ·exact bo3 I f lk
theorem cs8 (I:Inv X pins σ H s)(f:R1 X pins H c)(q:SqT X.K H a xs):a≠c:=by
 rcases q with(q | ⟨o,q⟩) | ⟨o,its,n,lk,_⟩
 ·exact r6 q f.1
 ·exact r6 q f.1
 ·exact bo3 I f lk
theorem Inv.tupled (I:Inv X pins σ H s)(hf:∀ b∈fp,R1 X pins H b)(kp:∀ b o,b∉fp->s.heap.get? b=some o->h'.get? b=some o)
  (ht:h'.get? s.heap.objs.size=some { cls:=.type "tuple",data:=.seq its.toArray })(rv:C8 xs its)(hl:xs.length<=j7):Inv X pins σ (upd H s.heap.objs.size (.tup xs)) { s with heap:=h',toks:=t' }:=by
 have hT:H s.heap.objs.size=none:=I.hok.fresh (c9 _)
 have nH:∀ b o,H b=some o->b∉fp:=fun b o q hb=>by rw[(hf b hb).1]at q;cases q
 have keepH:∀ b o,H b=some o->upd H s.heap.objs.size (.tup xs) b=some o:=fun b o q=>by rw[t4 (r6 q hT)];exact q
 have hok2:HOk X.prog X.w (upd H s.heap.objs.size (.tup xs)) h':=fun b o eb=>by
  by_cases hb:b=s.heap.objs.size
  ·subst hb
   rw[c6]at eb
   cases eb
   exact⟨hl,its,rv,⟨_,ht,rfl,_,rfl⟩⟩
  ·rw[t4 hb]at eb
   refine(I.hok b o eb).stay (fun c v hcc q=>kp c v ?_ q) (fun c q=>keepH c _ q) fun c ys q=>keepH c _ q
   rcases hcc with z | z
   ·exact nH c o (by rw[z];exact eb)
   ·exact nH c _ z
 refine I.step (g':=s.gens) (d':=s.drawn) (t':=t') (ch:=fp) (fun b hb=>?_) (fun b o _ _ hcc q _=>kp b o hcc q) (fun b o _ _ hcc q _=>⟨o.slots,kp b o hcc q⟩) (fun b o _ q n=>?_) (fun b o hcc q=>⟨o,kp b o hcc q⟩) (fun b ys q=>keepH b _ q) (fun b o v q=>keepH b _ q) (fun b ps q=>⟨#[],by rw[keepH b _ q];simp⟩) (fun m hm=>?_) hok2 I.bare
 ·obtain⟨f0,f1,f2,f3,f4,f5⟩:=hf b hb
  exact⟨f3,f1,f4,f5⟩
 ·rw[t4 (k9 (d5 q))]
  exact n
 ·obtain⟨o,es,ep,ho,r⟩:=hm
  exact⟨o,es,ep,kp _ o (fun hb=>(hf _ hb).2.1 rfl) ho,r⟩
theorem Inv.turns (I:Inv X pins σ H s)(hf:∀ b∈fp,R1 X pins H b)(kp:∀ b o,b∉fp->s.heap.get? b=some o->h'.get? b=some o):Inv X pins σ H { s with heap:=h',toks:=t' }:=by
 have nH:∀ b o,H b=some o->b∉fp:=fun b o q hb=>by rw[(hf b hb).1]at q;cases q
 refine I.step (g':=s.gens) (d':=s.drawn) (t':=t') (ch:=fp) (fun b hb=>?_) (fun b o _ _ hcc q _=>kp b o hcc q) (fun b o _ _ hcc q _=>⟨o.slots,kp b o hcc q⟩) (fun b o _ q n=>n) (fun b o hcc q=>⟨o,kp b o hcc q⟩) (fun b ys q=>q) (fun b o v q=>q) (fun b ps q=>⟨#[],by rw[q];simp⟩) (fun m hm=>?_) (fun b o eb=>?_) I.bare
 ·obtain⟨f0,f1,f2,f3,f4,f5⟩:=hf b hb
  exact⟨f3,f1,f4,f5⟩
 ·obtain⟨o,es,ep,ho,r⟩:=hm
  exact⟨o,es,ep,kp _ o (fun hb=>(hf _ hb).2.1 rfl) ho,r⟩
 ·refine(I.hok b o eb).stay (fun c v hcc q=>kp c v ?_ q) (fun c q=>q) fun c ys q=>q
  rcases hcc with z | z
  ·exact nH c o (by rw[z];exact eb)
  ·exact nH c _ z
theorem nd5 (n:Nat):[n+4,n+2,n+3,n,n+1].Nodup:=by
 simp only[B5,d7,O0,or_false,not_or,ak4,not_false_eq_true,and_true]
 omega
theorem cs0 {k:Nat}(h:k∈[n+4,n+2,n+3,n,n+1]):n<=k:=by
 simp only[d7,O0,or_false]at h
 omega
def SqB (b:Bool)(K:W.Frag)(H:Hp)(a:Addr)(xs:List V):Prop:=match b with
 | true=>SqL K H a xs
 | false=>SqT K H a xs
def itB (b:Bool)(h:Heap)(i a:Addr)(k:Nat):Prop:=match b with
 | true=>h.IsListIter i a k
 | false=>h.IsTupleIter i a k
def isQ (b:Bool)(h:Heap)(a:Addr)(xs:Array Value):Prop:=match b with
 | true=>h.IsList a xs
 | false=>h.IsTuple a xs
def nmB (b:Bool):String:=match b with
 | true=>"list_iterator"
 | false=>"tuple_iterator"
theorem itB.obj {b:Bool}{i:Addr}{k:Nat}(q:itB b h i a k):∃ o,h.get? i=some o/\∃ v,o.data=.fields v:=by
 cases b with
 | true=>obtain⟨o,h1,_,h2⟩:=q;exact⟨o,h1,_,h2⟩
 | false=>obtain⟨o,h1,_,h2⟩:=q;exact⟨o,h1,_,h2⟩
theorem itB.at {b:Bool}{i:Addr}{k:Nat}(q:itB b h i a k)(e:∀ o,h.get? i=some o->h'.get? i=some o):itB b h' i a k:=by
 cases b with
 | true=>exact Heap.IsListIter.at q e
 | false=>exact Heap.IsTupleIter.at q e
theorem bi3 (b:Bool)(hh:A.handled=none)(it l:Addr)(hne:l≠it)(items:Array Value):Draws prog w A it [it,l] items.size (fun i v=>items[i]?=some v) (fun i h=>itB b h it l i/\isQ b h l items):=by
 cases b with
 | true=>exact Draws.list hh it l hne items
 | false=>exact ay4 hh it l hne items
theorem cf7 {b:Bool}(I:Inv X pins σ H s)(f:R1 X pins H c)(q:SqB b X.K H a xs):a≠c:=by
 cases b with
 | true=>exact cs9 I f q
 | false=>exact cs8 I f q
theorem Inv.seqB {b:Bool}(I:Inv X pins σ H s)(q:SqB b X.K H a xs):∃ its,C8 xs its/\isQ b s.heap a its.toArray:=by
 cases b with
 | true=>obtain⟨its,rv,pl,_⟩:=I.list q;exact⟨its,rv,pl.isList⟩
 | false=>obtain⟨its,rv,pt,_⟩:=I.tuple q;exact⟨its,rv,pt⟩
theorem Inv.seqB_inj {b:Bool}(I:Inv X pins σ H s)(q:SqB b X.K H a xs)(r:SqB b X.K H a ys):xs=ys:=by
 cases b with
 | true=>exact I.list_inj q r
 | false=>exact I.tuple_inj q r
abbrev xA (b1:Bool)(h:Heap)(p:Addr):Heap:=h.push { cls:=.type (nmB b1),data:=.fields #[.ref p,.int 0 0] }
abbrev xB (b1 b2:Bool)(h:Heap)(p q:Addr):Heap:=(xA b1 h p).push { cls:=.type (nmB b2),data:=.fields #[.ref q,.int 0 0] }
abbrev xC (b1 b2:Bool)(h:Heap)(p q:Addr):Heap:=(xB b1 b2 h p q).push { cls:=.type "tuple",data:=.seq #[.ref h.objs.size,.ref (xA b1 h p).objs.size] }
abbrev xD (b1 b2:Bool)(h:Heap)(p q:Addr):Heap:=(xC b1 b2 h p q).push { cls:=.type "tuple",data:=.seq #[.none,.none] }
abbrev xE (b1 b2:Bool)(h:Heap)(p q:Addr):Heap:=(xD b1 b2 h p q).push { cls:=.type "zip",data:=.fields #[.none,.bool false,.bool false,.ref (xB b1 b2 h p q).objs.size,.ref (xC b1 b2 h p q).objs.size] }
set_option maxHeartbeats 2000000 in
theorem bg9 (b1 b2:Bool)(p q:Addr)(xs ys:Array Value) :
  Meets (Builtin.«zip.__new__» ⟨[.type "zip",.ref p,.ref q],[]⟩) (fun _ R s=>isQ b1 s.heap p xs/\isQ b2 s.heap q ys/\R (.ok (.ret (.ref (xD b1 b2 s.heap p q).objs.size))) { s with heap:=xE b1 b2 s.heap p q }) :=
 .of_wp fun prog w A R s h=>by
  obtain⟨hp,g,d,tk,os⟩:=s;obtain⟨h1,h2,h⟩:=h
  have hsub:=sub_zip
  cases b1 with
  | true =>
   have hL:Heap.IsList (Shared.heap ⟨hp,g,d,tk,os⟩) p xs:=h1
   cases b2 with
   | true =>
    have hT:Heap.IsList (Shared.heap ⟨hp.push { cls:=.type "list_iterator",data:=.fields #[.ref p,.int 0 0] },g,d,tk,os⟩) q ys:=Heap.IsList.push h2 _
    wp_walk using K6 hL,K6 hT
    exact⟨_,rfl,h⟩
   | false =>
    have hT:Heap.IsTuple (Shared.heap ⟨hp.push { cls:=.type "list_iterator",data:=.fields #[.ref p,.int 0 0] },g,d,tk,os⟩) q ys:=Heap.IsTuple.push h2 _
    wp_walk using K6 hL,G9 hT
    exact⟨_,rfl,h⟩
  | false =>
   have hL:Heap.IsTuple (Shared.heap ⟨hp,g,d,tk,os⟩) p xs:=h1
   cases b2 with
   | true =>
    have hT:Heap.IsList (Shared.heap ⟨hp.push { cls:=.type "tuple_iterator",data:=.fields #[.ref p,.int 0 0] },g,d,tk,os⟩) q ys:=Heap.IsList.push h2 _
    wp_walk using G9 hL,K6 hT
    exact⟨_,rfl,h⟩
   | false =>
    have hT:Heap.IsTuple (Shared.heap ⟨hp.push { cls:=.type "tuple_iterator",data:=.fields #[.ref p,.int 0 0] },g,d,tk,os⟩) q ys:=Heap.IsTuple.push h2 _
    wp_walk using G9 hL,G9 hT
    exact⟨_,rfl,h⟩
theorem aC7 {b:Bool}{i p:Addr}(e:h.get? i=some { cls:=.type (nmB b),data:=.fields #[.ref p,.int 0 0] }):itB b h i p 0:=by
 cases b with
 | true=>exact⟨_,e,rfl,rfl⟩
 | false=>exact⟨_,e,rfl,rfl⟩
theorem bv4 {b1 b2:Bool} {p q:Addr} {xs ys:Array Value} (h1:isQ b1 s.heap p xs) (h2:isQ b2 s.heap q ys)
  (h : ∀ h', aU8 h' (s.heap.objs.size + 4) (s.heap.objs.size + 2) (s.heap.objs.size + 3) .none -> aa6 h' (s.heap.objs.size + 2) (.ref s.heap.objs.size) (.ref (s.heap.objs.size + 1)) -> aa6 h' (s.heap.objs.size + 3) .none .none -> itB b1 h' s.heap.objs.size p 0 ->
   itB b2 h' (s.heap.objs.size+1) q 0->h'.objs.size=s.heap.objs.size+5->(∀ c o,s.heap.get? c=some o->h'.get? c=some o)->Q (.ref (s.heap.objs.size+4)) { s with heap:=h' }) :
  p8 (t9 prog w) A (call (.type "zip") [.ref p,.ref q]) Q E s:=by
 refine callType_new F.called_zip (by decide) (F.typeCall_zip_2 _ _) (F.newCall_zip_2 _ _) (fun obj=>F.args_object_init_3 obj _ _) F.entry_zip_new (bg9 b1 b2 p q xs ys) ⟨h1,h2,?_⟩
 have y1:(xA b1 s.heap p).objs.size=s.heap.objs.size+1:=B9 ..
 have y2:(xB b1 b2 s.heap p q).objs.size=s.heap.objs.size+2:=by rw[B9,y1]
 have y3:(xC b1 b2 s.heap p q).objs.size=s.heap.objs.size+3:=by rw[B9,y2]
 have y4:(xD b1 b2 s.heap p q).objs.size=s.heap.objs.size+4:=by rw[B9,y3]
 have y5:(xE b1 b2 s.heap p q).objs.size=s.heap.objs.size+5:=by rw[B9,y4]
 have p1:∀ {hh:Heap} {o:Obj} {b:Addr} {u:Obj},hh.get? b=some u->(hh.push o).get? b=some u:=fun e=>c5 _ e
 have g5:(xE b1 b2 s.heap p q).get? (xD b1 b2 s.heap p q).objs.size=some _:=i6 _ rfl
 have g4:(xE b1 b2 s.heap p q).get? (xC b1 b2 s.heap p q).objs.size=some _:=p1 (i6 _ rfl)
 have g3:(xE b1 b2 s.heap p q).get? (xB b1 b2 s.heap p q).objs.size=some _:=p1 (p1 (i6 _ rfl))
 have g2:(xE b1 b2 s.heap p q).get? (xA b1 s.heap p).objs.size=some _:=p1 (p1 (p1 (i6 _ rfl)))
 have g1:(xE b1 b2 s.heap p q).get? s.heap.objs.size=some _:=p1 (p1 (p1 (p1 (i6 _ rfl))))
 show _/\_
 rw[y2,y3,y4]at g5;rw[y1,y2]at g3;rw[y3]at g4;rw[y1]at g2;rw[y4]
 exact⟨⟨_,g5,rfl⟩,h _ g5 g3 g4 (aC7 g1) (aC7 g2) y5 fun c o x=>p1 (p1 (p1 (p1 (p1 x))))⟩
def bJ0 (b1 b2:Bool)(K:W.Frag)(a b:Addr):It:=
 ⟨fun i H=>∃ xs ys x y,SqB b1 K H a xs/\SqB b2 K H b ys/\xs[i]?=some x/\ys[i]?=some y,fun i H x H'=>∃ t u v,H t=none/\x=.ref t/\(∀ xs,SqB b1 K H a xs->xs[i]?=some u)/\(∀ ys,SqB b2 K H b ys->ys[i]?=some v)/\H'=upd H t (.tup [u,v]),fun i H=>∃ xs,SqB b1 K H a xs/\xs.length=i⟩
def co0 (K:W.Frag)(ta:TA):TI:=fun σ H R=>ta σ H fun vs H1=>∃ (b1 b2:Bool) (a b:Addr),vs=[.ref a,.ref b]/\(∃ xs,SqB b1 K H1 a xs)/\(∃ ys,SqB b2 K H1 b ys)/\R (bJ0 b1 b2 K a b) H1
theorem br6 {b1 b2:Bool}{K:W.Frag}{x1:Nat}(a b z TI TO i1 i2:Addr)(nd:[z,TI,TO,i1,i2].Nodup) :
  Turn P w K (.Tuple elts x1 pos) (bJ0 b1 b2 K a b) [z,TI,TO,i1,i2] z (fun i h=>aU8 h z TI TO .none/\aa6 h TI (.ref i1) (.ref i2)/\(∃ x y,aa6 h TO x y)/\itB b1 h i1 a i/\itB b2 h i2 b i) where
 mem:=by simp
 obj:=fun i h st c hc=>by
  obtain⟨hz,hTI,⟨x,y,hTO⟩,h1,h2⟩:=st
  obtain⟨o1,ho1,v1,hd1⟩:=h1.obj
  obtain⟨o2,ho2,v2,hd2⟩:=h2.obj
  simp only[d7,O0,or_false]at hc
  rcases hc with rfl | rfl | rfl | rfl | rfl
  ·exact⟨_,hz,fun v q=>by cases q⟩
  ·exact⟨_,hTI,fun v q=>by cases q⟩
  ·exact⟨_,hTO,fun v q=>by cases q⟩
  ·exact⟨o1,ho1,fun v q=>by rw[hd1]at q;cases q⟩
  ·exact⟨o2,ho2,fun v q=>by rw[hd2]at q;cases q⟩
 keep:=fun i h h' st k=>by
  obtain⟨hz,hTI,⟨x,y,hTO⟩,h1,h2⟩:=st
  exact⟨k z (by simp) _ hz,k TI (by simp) _ hTI,⟨x,y,k TO (by simp) _ hTO⟩,h1.at fun o q=>k i1 (by simp) o q,h2.at fun o q=>k i2 (by simp) o q⟩
 item:=by
  intro X hP hw hK hc i pins s σ H E I hf st hg
  subst hP hw hK
  obtain⟨xs,ys,x,y,q1,q2,hx,hy⟩:=hg
  obtain⟨hz,hTI,⟨o1,o2,hTO⟩,h1,h2⟩:=st
  obtain⟨its,rv,pl⟩:=I.seqB q1
  obtain⟨jts,rw',pt⟩:=I.seqB q2
  obtain⟨u,hu,ru⟩:=rv.get hx
  obtain⟨v,hv,rv'⟩:=rw'.get hy
  have fa:∀ c∈[z,TI,TO,i1,i2],a≠c:=fun c hc=>cf7 I (hf c hc) q1
  have fb:∀ c∈[z,TI,TO,i1,i2],b≠c:=fun c hc=>cf7 I (hf c hc) q2
  have hl1:isQ b1 s.heap a its.toArray:=pl
  have hl2:isQ b2 s.heap b jts.toArray:=pt
  have ui:its.toArray[i]?=some u:=by simpa using hu
  have vi:jts.toArray[i]?=some v:=by simpa using hv
  have lt1:i<its.toArray.size:=by
   rcases A1 i its.toArray.size with h | h
   ·exact h
   ·rw[Z9 h]at ui;cases ui
  have lt2:i<jts.toArray.size:=by
   rcases A1 i jts.toArray.size with h | h
   ·exact h
   ·rw[Z9 h]at vi;cases vi
  simp only[B5,d7,O0,or_false,not_or]at nd
  obtain⟨⟨n1,n2,n3,n4⟩,⟨n5,n6,n7⟩,⟨n8,n9⟩,n10,_⟩:=nd
  have ap:ZAp z TI TO i1 i2 [i1,a] [i2,b]:=by
   refine⟨Ne.symm n1,Ne.symm n2,Ne.symm n3,Ne.symm n4,n5,n6,n7,n8,n9,n10,?_,?_,?_,?_,?_,?_⟩
   ·simp[n3,Ne.symm (fa z (by simp))]
   ·simp[n4,Ne.symm (fb z (by simp))]
   ·simp[n8,Ne.symm (fa TO (by simp))]
   ·simp[n9,Ne.symm (fb TO (by simp))]
   ·simp[n10,Ne.symm (fb i1 (by simp))]
   ·simp[Ne.symm n10,Ne.symm (fa i2 (by simp))]
  refine bL5 (k:=i) ap (bi3 b1 (A:=X.A.in1) (I.ok.hd hc) i1 a (fa i1 (by simp)) its.toArray) (bi3 b2 (A:=X.A.in1) (I.ok.hd hc) i2 b (fb i2 (by simp)) jts.toArray) hz hTI hTO ⟨h1,hl1⟩ ⟨h2,hl2⟩ lt1 lt2 fun x' y' hA tk px py hzo hTOo st1 st2 hT hsz hk=>?_
  obtain rfl:u=x':=by have:=ui.symm.trans px;cases this;rfl
  obtain rfl:v=y':=by have:=vi.symm.trans py;cases this;rfl
  refine⟨_,rfl,?_⟩
  refine wpAny_letOwnedTupleGo_zip hzo fun hB hzB hsB=>?_
  have hsB':Heap.SameBut z hA hB:=hsB
  have zlt:z<s.heap.objs.size:=d5 hz
  have up:∀ c o,c≠z->hA.get? c=some o->hB.get? c=some o:=fun c o c1 e=>(hsB'.2 c c1).trans e
  have kp:∀ c o,c∉[z,TI,TO,i1,i2]->s.heap.get? c=some o->hB.get? c=some o:=fun c o hc e=>by
   simp only[d7,O0,or_false,not_or]at hc
   exact up c o hc.1 (hk c o hc.1 hc.2.2.1 hc.2.2.2.1 hc.2.2.2.2 e)
  have I2:Inv X pins σ (upd H s.heap.objs.size (.tup [x,y])) { s with heap:=hB,toks:=tk }:=I.tupled (its:=[u,v]) hf kp (up _ _ (M6 zlt) hT) (.cons ru (.cons rv' .nil)) (by show 2<=j7;decide)
  have hTn:H s.heap.objs.size=none:=I.hok.fresh (c9 _)
  refine⟨.ref s.heap.objs.size,_,I2,rfl,⟨s.heap.objs.size,x,y,hTn,rfl,fun zs hq=>by rw[I.seqB_inj hq q1];exact hx,fun zs hq=>by rw[I.seqB_inj hq q2];exact hy,rfl⟩,⟨hzB,?_,⟨u,v,up _ _ (Ne.symm n2) hTOo⟩,st1.1.at fun o e=>up i1 o (Ne.symm n3) e,st2.1.at fun o e=>up i2 o (Ne.symm n4) e⟩,fun c hc=>?_⟩
  ·exact up _ _ (Ne.symm n1) (hk _ _ (Ne.symm n1) n5 n6 n7 hTI)
  ·have lt:c<s.heap.objs.size:=by
    simp only[d7,O0,or_false]at hc
    rcases hc with rfl | rfl | rfl | rfl | rfl
    ·exact zlt
    ·exact d5 hTI
    ·exact d5 hTO
    ·obtain⟨o,ho,_⟩:=h1.obj;exact d5 ho
    ·obtain⟨o,ho,_⟩:=h2.obj;exact d5 ho
   rw[t4 (k9 lt)]
   exact(hf c hc).1
 done:=by
  intro X hP hw hK hc i pins s σ H E I hf st hg
  subst hP hw hK
  obtain⟨xs,q1,hx⟩:=hg
  obtain⟨hz,hTI,⟨o1,o2,hTO⟩,h1,h2⟩:=st
  obtain⟨its,rv,pl⟩:=I.seqB q1
  have hl:=rv.length
  have fa:∀ c∈[z,TI,TO,i1,i2],a≠c:=fun c hc=>cf7 I (hf c hc) q1
  simp only[B5,d7,O0,or_false,not_or]at nd
  obtain⟨⟨n1,n2,n3,n4⟩,⟨n5,n6,n7⟩,⟨n8,n9⟩,n10,_⟩:=nd
  have ap:ZAp z TI TO i1 i2 [i1,a] [i2]:=by
   refine⟨Ne.symm n1,Ne.symm n2,Ne.symm n3,Ne.symm n4,n5,n6,n7,n8,n9,n10,?_,?_,?_,?_,?_,?_⟩
   ·simp[n3,Ne.symm (fa z (by simp))]
   ·simp[n4]
   ·simp[n8,Ne.symm (fa TO (by simp))]
   ·simp[n9]
   ·simp[n10]
   ·simp[Ne.symm n10,Ne.symm (fa i2 (by simp))]
  have ei:i=its.toArray.size:=by rw[i9];omega
  refine bL6 ap (bi3 b1 (A:=X.A.in1) (I.ok.hd hc) i1 a (fa i1 (by simp)) its.toArray) hz hTI hTO ⟨by rw[<- ei];exact h1,pl⟩ fun h' hk=>⟨rfl,I.turns (t':=s.toks) hf fun c o hc' e=>?_⟩
  simp only[d7,O0,or_false,not_or]at hc'
  exact hk c o hc'.1 hc'.2.2.1 hc'.2.2.2.1 hc'.2.2.2.2 e
 self:=fun _ _ _ _ _ st h=>wpAny_pyIter_zip st.1 h
theorem bm3 {a b:Expr}{ta:TA}{x1:Nat}{tpos p:Pos}(hg:Gl X "zip")(hm:X.mg "zip"=none)(ha:PA X [a,b] ta)(hv:L6 "zip"=some (.type "zip"):=by rfl)(hs:v9 [a,b] X.env=(false,eval a X.env)::v9 [b] X.env:=by rfl)(hpl:(V0 pos (v9 [b] X.env)).any (·.1)=false:=by rfl) :
  PI X (.Tuple elts x1 tpos) (.Call (.Name "zip" p) [a,b] [] pos) (co0 X.K ta):=by
 intro pins s σ H R I h
 refine Call_ (Z7 I hg hm hv (PyProof.Rows.callWith_type1 (thn (ha pos pins s σ H _ I h) fun us s1 ⟨vs,H1,I1,r1,q1⟩=>?_) hs hpl))
 obtain⟨b1,b2,c,d,e,⟨xs,hq⟩,⟨ys,hq2⟩,q⟩:=q1
 subst e
 obtain⟨u,v,rfl,rx,ry⟩:=vals2 r1
 cases rx
 cases ry
 obtain⟨its,rv,pl⟩:=I1.seqB hq
 obtain⟨jts,rv2,pt⟩:=I1.seqB hq2
 refine bv4 pl pt fun h' gz gTI gTO g1 g2 hsz kp=>?_
 refine wpAny_pyIter_zip gz ?_
 refine⟨s1.heap.objs.size+4,[s1.heap.objs.size+4,s1.heap.objs.size+2,s1.heap.objs.size+3,s1.heap.objs.size,s1.heap.objs.size+1],_,_,H1,rfl,I1.kept (t':=s1.toks) kp,br6 c d (s1.heap.objs.size+4) (s1.heap.objs.size+2) (s1.heap.objs.size+3) s1.heap.objs.size (s1.heap.objs.size+1) ?_,⟨gz,gTI,⟨_,_,gTO⟩,g1,g2⟩,fun k hk=>?_,q⟩
 ·exact nd5 _
 ·have:=cs0 hk
  exact I1.fpOk this (I1.hok.fresh this)
theorem aN6 {b1 b2:Bool}{K:W.Frag}{D:Addr}{zs:List V}{g:TG}{tt:TT}{σ0:St}{H0:Hp}(hyz:ys.length=zs.length)(Pv:Nat->List V->St->Hp->Prop)(h0:Pv 0 [] σ0 H0)(hz:ys.length<=j7)(hl:∀ i xs σ H,i<=ys.length->Pv i xs σ H->SqB b1 K H a ys/\SqB b2 K H b zs/\H D=some (.lst xs)/\xs.length<=i)
  (hs:∀ i xs x y t σ H (N:List V->St->Hp->Prop),(∀ xs' σ' H',Pv (i+1) xs' σ' H'->N xs' σ' H')->ys[i]?=some x->zs[i]?=some y->Pv i xs σ H->H t=none->g (.ref t) σ (upd H t (.tup [x,y])) fun σ2 H2=>tt σ2 H2 fun b H3=>if b=true then te σ2 H3 fun v H4=>H4 D=some (.lst xs)/\N (xs++[v]) σ2 (upd H4 D (.lst (xs++[v]))) else N xs σ2 H3)
  (hd:∀ xs σ H,Pv ys.length xs σ H->Qd H) :
  ∃ W:Nat->Nat->List V->St->Hp->Prop,(∃ m,W 0 m [] σ0 H0)/\∀ i m xs σ' H',W i m xs σ' H'->H' D=some (.lst xs)/\(((bJ0 b1 b2 K a b).stop i H'/\Qd H')\/((bJ0 b1 b2 K a b).go i H'/\xs.length<j7/\∀ x H'',(bJ0 b1 b2 K a b).yld i H' x H''->g x σ' H'' fun σ2 H2=>tt σ2 H2 fun b H3 =>
   if b=true then te σ2 H3 fun v H4=>H4 D=some (.lst xs)/\∃ m',m'<m/\W (i+1) m' (xs++[v]) σ2 (upd H4 D (.lst (xs++[v]))) else ∃ m',m'<m/\W (i+1) m' xs σ2 H3)):=by
 refine⟨fun i m xs σ H=>m=ys.length - i/\i<=ys.length/\Pv i xs σ H,⟨ys.length,by simp,t8 _,h0⟩,?_⟩
 rintro i m xs σ H ⟨rfl,hi,p⟩
 obtain⟨q1,q2,hD,hx⟩:=hl i xs σ H hi p
 refine⟨hD,?_⟩
 by_cases hlt:i<ys.length
 ·refine .inr ⟨⟨ys,zs,ys[i],zs[i],q1,q2,by simp[hlt],by simp[hyz ▸ hlt]⟩,by omega,fun x H'' y=>?_⟩
  obtain⟨t,u,v,ht,e,hu,hv,e'⟩:=y
  subst e e'
  exact hs i xs u v t σ _ (fun zs σ' H'=>∃ m',m'<ys.length - i/\m'=ys.length - (i+1)/\i+1<=ys.length/\Pv (i+1) zs σ' H') (fun zs σ' H' r=>⟨_,by omega,rfl,hlt,r⟩) (hu ys q1) (hv zs q2) p ht
 ·obtain rfl:i=ys.length:=by omega
  exact .inl ⟨⟨ys,q1,rfl⟩,hd xs σ H p⟩
theorem bm4 {it:Expr}{w1 w2:TI}(h1:PI X tg it w1)(h2:PI X tg it w2):PI X tg it (fun σ H R=>w1 σ H R\/w2 σ H R):=
 fun pins s σ H R I h=>h.elim (h1 pins s σ H R I) (h2 pins s σ H R I)
theorem aN8 (hc:X.calm=true):S4 X (.builtin "sum") (fun xs H Q=>∃ (p:Addr) (ns:List Int),xs=[.ref p]/\(SqL X.K H p (ns.map V.int)\/SqT X.K H p (ns.map V.int))/\Q (.int ns.sum) H) :=
 fun pins s σ H xs us Q I r ⟨p,ns,e,hq,q⟩=>hq.elim (fun h=>ac8 hc pins s σ H xs us Q I r ⟨p,ns,e,h,q⟩) fun h=>ay7 hc pins s σ H xs us Q I r ⟨p,ns,e,h,q⟩
theorem aH7 {D:Addr}{J:It}{S:Hp->Prop}{g:TG}{tt:TT}{σ0:St}{H0:Hp}
  (hst:∀ i H,S H->ys.length=i->J.stop i H)(hgo:∀ i H,S H->i<ys.length->J.go i H)(hy:∀ i H x H'',S H->J.yld i H x H''->∃ (t:Addr) (v:V),H t=none/\x=.ref t/\ys[i]?=some v/\H''=upd H t (.tup [.int i,v]))
  (Pv:Nat->List V->St->Hp->Prop)(h0:Pv 0 [] σ0 H0)(hz:ys.length<=j7)(hl:∀ i xs σ H,i<=ys.length->Pv i xs σ H->S H/\H D=some (.lst xs)/\xs.length<=i)
  (hs:∀ i xs x t σ H (N:List V->St->Hp->Prop),(∀ xs' σ' H',Pv (i+1) xs' σ' H'->N xs' σ' H')->ys[i]?=some x->Pv i xs σ H->H t=none->g (.ref t) σ (upd H t (.tup [.int i,x])) fun σ2 H2=>tt σ2 H2 fun b H3=>if b=true then te σ2 H3 fun v H4=>H4 D=some (.lst xs)/\N (xs++[v]) σ2 (upd H4 D (.lst (xs++[v]))) else N xs σ2 H3)
  (hd:∀ xs σ H,Pv ys.length xs σ H->Qd H) :
  ∃ W:Nat->Nat->List V->St->Hp->Prop,(∃ m,W 0 m [] σ0 H0)/\∀ i m xs σ' H',W i m xs σ' H'->H' D=some (.lst xs)/\((J.stop i H'/\Qd H')\/(J.go i H'/\xs.length<j7/\∀ x H'',J.yld i H' x H''->g x σ' H'' fun σ2 H2=>tt σ2 H2 fun b H3 =>
   if b=true then te σ2 H3 fun v H4=>H4 D=some (.lst xs)/\∃ m',m'<m/\W (i+1) m' (xs++[v]) σ2 (upd H4 D (.lst (xs++[v]))) else ∃ m',m'<m/\W (i+1) m' xs σ2 H3)):=by
 refine⟨fun i m xs σ H=>m=ys.length - i/\i<=ys.length/\Pv i xs σ H,⟨ys.length,by simp,t8 _,h0⟩,?_⟩
 rintro i m xs σ H ⟨rfl,hi,p⟩
 obtain⟨q,hD,hx⟩:=hl i xs σ H hi p
 refine⟨hD,?_⟩
 by_cases hlt:i<ys.length
 ·refine .inr ⟨hgo i H q hlt,by omega,fun x H'' y=>?_⟩
  obtain⟨t,v,ht,e,hv,e'⟩:=hy i H x H'' q y
  subst e e'
  exact hs i xs v t σ _ (fun zs σ' H'=>∃ m',m'<ys.length - i/\m'=ys.length - (i+1)/\i+1<=ys.length/\Pv (i+1) zs σ' H') (fun zs σ' H' r=>⟨_,by omega,rfl,hlt,r⟩) hv p ht
 ·have e:i=ys.length:=by omega
  subst e
  exact .inl ⟨hst _ H q rfl,hd xs σ H p⟩
theorem ce7 {K:W.Frag}(i:Nat)(H:Hp)(q:SqL K H a ys)(h:ys.length=i):(Itn K a).stop i H:=⟨ys,q,aw1 h⟩
theorem ce8 {K:W.Frag}(i:Nat)(H:Hp)(q:SqL K H a ys)(h:i<ys.length):(Itn K a).go i H:=⟨ys,ys[i],q,by simp[h]⟩
theorem cn8 {K:W.Frag}(i:Nat)(H:Hp)(x:V)(H'':Hp)(q:SqL K H a ys)(y:(Itn K a).yld i H x H''):∃ (t:Addr) (v:V),H t=none/\x=.ref t/\ys[i]?=some v/\H''=upd H t (.tup [.int i,v]):=by
 obtain⟨t,v,ht,e,hv,e'⟩:=y
 exact⟨t,v,ht,e,hv ys q,e'⟩
theorem ce9 {K:W.Frag}(i:Nat)(H:Hp)(q:SqT K H a ys)(h:ys.length=i):(Itm K a).stop i H:=⟨ys,q,h⟩
theorem cf0 {K:W.Frag}(i:Nat)(H:Hp)(q:SqT K H a ys)(h:i<ys.length):(Itm K a).go i H:=⟨ys,ys[i],q,by simp[h]⟩
theorem cn9 {K:W.Frag}(i:Nat)(H:Hp)(x:V)(H'':Hp)(q:SqT K H a ys)(y:(Itm K a).yld i H x H''):∃ (t:Addr) (v:V),H t=none/\x=.ref t/\ys[i]?=some v/\H''=upd H t (.tup [.int i,v]):=by
 obtain⟨t,v,ht,e,hv,e'⟩:=y
 exact⟨t,v,ht,e,hv ys q,e'⟩
theorem aH6 {K:W.Frag} {g:TG} {tt:TT} {Qd:Addr->Hp->Prop} {σ0:St} (hS:SqL K H a ys\/SqT K H a ys) (hz:ys.length<=j7)
  (Pv:Addr->Nat->List V->St->Hp->Prop) (h0:∀ D,H D=none->Pv D 0 [] σ0 (upd H D (.lst []))) (hl:∀ D i xs σ H',H D=none->i<=ys.length->Pv D i xs σ H'->u7 H H'/\H' D=some (.lst xs)/\xs.length<=i)
  (hs:∀ D i xs x t σ H' (N:List V->St->Hp->Prop),H D=none->(∀ xs' σ' H'',Pv D (i+1) xs' σ' H''->N xs' σ' H'')->ys[i]?=some x->Pv D i xs σ H'->H' t=none->g (.ref t) σ (upd H' t (.tup [.int i,x])) fun σ2 H2=>tt σ2 H2 fun b H3=>if b=true then te σ2 H3 fun v H4=>H4 D=some (.lst xs)/\N (xs++[v]) σ2 (upd H4 D (.lst (xs++[v]))) else N xs σ2 H3)
  (hd:∀ D xs σ H',H D=none->Pv D ys.length xs σ H'->Qd D H') :
  (∃ b, [V.ref a] = [V.ref b] /\ (∃ xs, SqL K H b xs) /\ ∀ D, H D = none -> ∃ W : Nat -> Nat -> List V -> St -> Hp -> Prop, (∃ m, W 0 m [] σ0 (upd H D (.lst []))) /\ ∀ i m xs σ' H', W i m xs σ' H' -> H' D = some (.lst xs) /\ (((Itn K b).stop i H' /\ Qd D H') \/ ((Itn K b).go i H' /\ xs.length < j7 /\ ∀ x H'', (Itn K b).yld i H' x H'' -> g x σ' H'' fun σ2 H2 => tt σ2 H2 fun b H3 =>
   if b=true then te σ2 H3 fun v H4=>H4 D=some (.lst xs)/\∃ m',m'<m/\W (i+1) m' (xs++[v]) σ2 (upd H4 D (.lst (xs++[v]))) else ∃ m',m'<m/\W (i+1) m' xs σ2 H3))) \/
  (∃ b, [V.ref a] = [V.ref b] /\ (∃ xs, SqT K H b xs) /\ ∀ D, H D = none -> ∃ W : Nat -> Nat -> List V -> St -> Hp -> Prop, (∃ m, W 0 m [] σ0 (upd H D (.lst []))) /\ ∀ i m xs σ' H', W i m xs σ' H' -> H' D = some (.lst xs) /\ (((Itm K b).stop i H' /\ Qd D H') \/ ((Itm K b).go i H' /\ xs.length < j7 /\ ∀ x H'', (Itm K b).yld i H' x H'' -> g x σ' H'' fun σ2 H2 => tt σ2 H2 fun b H3 =>
   if b=true then te σ2 H3 fun v H4=>H4 D=some (.lst xs)/\∃ m',m'<m/\W (i+1) m' (xs++[v]) σ2 (upd H4 D (.lst (xs++[v]))) else ∃ m',m'<m/\W (i+1) m' xs σ2 H3))):=by
 rcases hS with hS | hS
 ·exact .inl ⟨a,rfl,⟨_,hS⟩,fun D hD=>aH7 (S:=fun H'=>SqL K H' a ys) ce7 ce8 cn8 (Pv D) (h0 D hD) hz (fun i xs σ H' hi p=>let ⟨s,g,l⟩:=hl D i xs σ H' hD hi p;⟨s.seq hS,g,l⟩) (fun i xs x t σ H' N kN hx p ht=>hs D i xs x t σ H' N hD kN hx p ht) (fun xs σ H' p=>hd D xs σ H' hD p)⟩
 ·exact .inr ⟨a,rfl,⟨_,hS⟩,fun D hD=>aH7 (S:=fun H'=>SqT K H' a ys) ce9 cf0 cn9 (Pv D) (h0 D hD) hz (fun i xs σ H' hi p=>let ⟨s,g,l⟩:=hl D i xs σ H' hD hi p;⟨s.seqT hS,g,l⟩) (fun i xs x t σ H' N kN hx p ht=>hs D i xs x t σ H' N hD kN hx p ht) (fun xs σ H' p=>hd D xs σ H' hD p)⟩
theorem aC1 (K:W.Frag)(hK:X.K=K){k:Nat}{t:TGs}(hc:X.calm=true)(h:PGs X es t)
  (hn:(ai9 es X.env).length=n:=by rfl)(hst:(ai9 es X.env).findIdx? (·.1)=none:=by rfl):PG X (.Tuple es k pos) (co8 K n t):=by
 subst hK
 exact bg4 hc h hn hst
theorem aN7 {K:W.Frag} {g:TG} {tt:TT} {Qd:Addr->Hp->Prop} {σ0:St} (hS:SqL K H a ys\/SqT K H a ys) (hz:ys.length<=j7)
  (Pv:Addr->Nat->List V->St->Hp->Prop) (h0:∀ D,H D=none->Pv D 0 [] σ0 (upd H D (.lst []))) (hl:∀ D i xs σ H',H D=none->i<=ys.length->Pv D i xs σ H'->u7 H H'/\H' D=some (.lst xs)/\xs.length<=i)
  (hs:∀ D i xs x σ H' (N:List V->St->Hp->Prop),H D=none->(∀ xs' σ' H'',Pv D (i+1) xs' σ' H''->N xs' σ' H'')->ys[i]?=some x->Pv D i xs σ H'->g x σ H' fun σ2 H2=>tt σ2 H2 fun b H3=>if b=true then te σ2 H3 fun v H4=>H4 D=some (.lst xs)/\N (xs++[v]) σ2 (upd H4 D (.lst (xs++[v]))) else N xs σ2 H3)
  (hd:∀ D xs σ H',H D=none->Pv D ys.length xs σ H'->Qd D H') :
  (∃ b, V.ref a = V.ref b /\ (∃ xs, SqL K H b xs) /\ ∀ D, H D = none -> ∃ W : Nat -> Nat -> List V -> St -> Hp -> Prop, (∃ m, W 0 m [] σ0 (upd H D (.lst []))) /\ ∀ i m xs σ' H', W i m xs σ' H' -> H' D = some (.lst xs) /\ (((Itl K b).stop i H' /\ Qd D H') \/ ((Itl K b).go i H' /\ xs.length < j7 /\ ∀ x H'', (Itl K b).yld i H' x H'' -> g x σ' H'' fun σ2 H2 => tt σ2 H2 fun b H3 =>
   if b=true then te σ2 H3 fun v H4=>H4 D=some (.lst xs)/\∃ m',m'<m/\W (i+1) m' (xs++[v]) σ2 (upd H4 D (.lst (xs++[v]))) else ∃ m',m'<m/\W (i+1) m' xs σ2 H3))) \/
  (∃ b, V.ref a = V.ref b /\ (∃ xs, SqT K H b xs) /\ ∀ D, H D = none -> ∃ W : Nat -> Nat -> List V -> St -> Hp -> Prop, (∃ m, W 0 m [] σ0 (upd H D (.lst []))) /\ ∀ i m xs σ' H', W i m xs σ' H' -> H' D = some (.lst xs) /\ (((Itt K b).stop i H' /\ Qd D H') \/ ((Itt K b).go i H' /\ xs.length < j7 /\ ∀ x H'', (Itt K b).yld i H' x H'' -> g x σ' H'' fun σ2 H2 => tt σ2 H2 fun b H3 =>
   if b=true then te σ2 H3 fun v H4=>H4 D=some (.lst xs)/\∃ m',m'<m/\W (i+1) m' (xs++[v]) σ2 (upd H4 D (.lst (xs++[v]))) else ∃ m',m'<m/\W (i+1) m' xs σ2 H3))):=by
 rcases hS with hS | hS
 ·exact .inl ⟨a,rfl,⟨_,hS⟩,fun D hD=>Q5 (K:=K) (a:=a) (ys:=ys) (Pv D) (h0 D hD) hz (fun i xs σ H' hi p=>let ⟨s,g,l⟩:=hl D i xs σ H' hD hi p;⟨s.seq hS,g,l⟩) (fun i xs x σ H' N kN hx p=>hs D i xs x σ H' N hD kN hx p) (fun xs σ H' p=>hd D xs σ H' hD p)⟩
 ·exact .inr ⟨a,rfl,⟨_,hS⟩,fun D hD=>bc4 (K:=K) (a:=a) (ys:=ys) (Pv D) (h0 D hD) hz (fun i xs σ H' hi p=>let ⟨s,g,l⟩:=hl D i xs σ H' hD hi p;⟨s.seqT hS,g,l⟩) (fun i xs x σ H' N kN hx p=>hs D i xs x σ H' N hD kN hx p) (fun xs σ H' p=>hd D xs σ H' hD p)⟩
theorem bp3 (f:Nat->Int):∀ (n j:Nat),j<=n->f (X0 (fun i j=>decide (f i<f j)) n)<=f j
 | 0,j,h=>by rw[Nat.le_zero.mp h];exact E8 _
 | n+1,j,h=>by
  unfold X0
  have ih:=bp3 f n
  by_cases hb:f (n+1)<f (X0 (fun i j=>decide (f i<f j)) n)
  ·rw[if_pos (decide_eq_true hb)]
   rcases A1 j (n+1) with l | l
   ·have:=ih j (by omega);omega
   ·rw[show j=n+1 by omega];exact E8 _
  ·rw[if_neg (fun z=>hb (of_decide_eq_true z))]
   rcases A1 j (n+1) with l | l
   ·exact ih j (by omega)
   ·rw[show j=n+1 by omega];omega
theorem aD4 (bt:Nat->Nat->Bool):∀ n:Nat,X0 bt n<=n
 | 0=>c9 _
 | n+1=>by
  unfold X0
  have:=aD4 bt n
  split<;>omega
theorem aS9 (f:Nat->Int):∀ (n j:Nat),j<=n->f j<=f (X0 (fun i j=>decide (f i > f j)) n)
 | 0,j,h=>by rw[Nat.le_zero.mp h];exact E8 _
 | n+1,j,h=>by
  unfold X0
  have ih:=aS9 f n
  by_cases hb:f (n+1) > f (X0 (fun i j=>decide (f i > f j)) n)
  ·rw[if_pos (decide_eq_true hb)]
   rcases A1 j (n+1) with l | l
   ·have:=ih j (by omega);omega
   ·rw[show j=n+1 by omega];exact E8 _
  ·rw[if_neg (fun z=>hb (of_decide_eq_true z))]
   rcases A1 j (n+1) with l | l
   ·exact ih j (by omega)
   ·rw[show j=n+1 by omega];omega
theorem ay8 (hc:X.calm=true):S4 X (.builtin "min") (fun xs H Q=>∃ (p:Addr) (ns:List Int),xs=[.ref p]/\SqL X.K H p (ns.map V.int)/\0<ns.length/\∀ m:Int,m∈ns->(∀ x∈ns,m<=x)->Q (.int m) H):=by
 intro pins s σ H xs us Q I r h
 obtain⟨p,ns,rfl,hq,hn,q⟩:=h
 obtain⟨u,rfl,rx⟩:=vals1 r
 cases rx
 obtain⟨its,r',pl,hz⟩:=I.list hq
 have hlen:its.length=ns.length:=by rw[<- r'.length,b8]
 have hi:J7 its ns:=intsAre_of r'
 obtain⟨ys,e⟩:=hi.allInts.items
 have hT:s.heap.IsList p (K8 ys):=by rw[<- e];exact pl.isList
 have hsz:(K8 ys).size=ns.length:=by rw[<- e,i9,hlen]
 have hnum:∀ j,j<ns.length->ar9 ys j=ns.getD j 0:=fun j hj=>by
  have hx:(ns.map V.int)[j]?=some (.int (ns.getD j 0)):=by simp[hj]
  obtain⟨v,hv,t,rfl⟩:=r'.get hx
  have hv':(K8 ys)[j]?=some (.int (ns.getD j 0) t):=by rw[<- e];simpa using hv
  obtain⟨t',ht'⟩:=Y8 hv'
  injection ht' with h1 _
  exact h1.symm
 have hpl:p<s.heap.objs.size:=by
  obtain⟨o,ho,_⟩:=hT
  exact d5 ho
 refine call_min_walk (K6 hT ?_)
 refine⟨_,[_,p],[_],_,_,_,_,rfl,Walks.list (A:=X.A.in1) (I.ok.hd hc) _ p (k9 hpl) (K8 ys),
  ⟨⟨_,i6 _ rfl,rfl,rfl⟩,hT.push _⟩,fun c hc'=>?_,by rw[hsz];exact hn,CmpOf.ints_lt (ar9 ys) (fun _ _=>Y8),fun v h' tk hP hk=>?_⟩
 ·show c<(s.heap.push _).objs.size
  rw[B9]
  rcases d7.mp hc' with rfl | hc'
  ·exact ae6 _
  ·rcases d7.mp hc' with rfl | hc'
   ·exact B3 hpl
   ·cases hc'
 ·have hold:∀ c o,s.heap.get? c=some o->h'.get? c=some o:=fun c o e=>by
   refine hk c o (fun hm=>?_) (c5 _ e)
   rcases d7.mp hm with e1 | hm
   ·exact absurd (d5 e) (by rw[e1];exact B2 _)
   ·cases hm
  obtain⟨t,rfl⟩:=Y8 hP
  have hb:=aD4 (fun i j=>decide (ar9 ys i<ar9 ys j)) ((K8 ys).size - 1)
  have hbl:X0 (fun i j=>decide (ar9 ys i<ar9 ys j)) ((K8 ys).size - 1)<ns.length:=by rw[hsz]at hb ⊢;omega
  refine⟨.int _,H,I.kept (t':=tk) hold,⟨t,rfl⟩,q _ ?_ fun x hx=>?_⟩
  ·rw[hnum _ hbl,c8,c7 hbl]
   exact W9 hbl
  ·obtain⟨j,hj,rfl⟩:=V3.mp hx
   have:=bp3 (ar9 ys) ((K8 ys).size - 1) j (by rw[hsz];omega)
   rw[hnum j hj,c8,c7 hj]at this
   exact this
theorem at9:(toString "max"++toString ".loop":String)="max.loop":=by decide
section
variable {R:Result->Shared->Prop} {I:Addr} {wr:List Addr} {P:Nat->Value->Prop} {St:Nat->Heap->Prop} {d:Value}
theorem bD2 (W:Walks prog w A.in1 I fp wr n P St)(bt:Nat->Nat->Bool)(hcmp:CmpOf prog w A.in1 .Gt P bt)(S:Addr)(hSf:S∉fp):∀ (k j:Nat) (s:Shared) (vb:Value) (c:Nat),n - (j+1)=k->j+1<=n->St (j+1) s.heap->P (X0 bt j) vb ->
  s.heap.get? S=some { cls:=.type "list",dict:=none,data:=.seq #[vb,vb] c,slots:=#[] }->(∀ v h' tk,P (X0 bt (n - 1)) v->(∀ b o,b∉wr->b≠S->s.heap.get? b=some o->h'.get? b=some o)->R (.ok (.ret v)) { s with heap:=h',toks:=tk }) ->
  ar8 (t9 prog w) A (.builtin "max.loop" ⟨[.ref I,.none,.ref S],[("default",d)]⟩) R s:=by
 have hSw:S∉wr:=(fun h=>hSf (W.sub _ h));intro k
 induction k with
 | zero =>
  intro j s vb c hk hj hst hPb hS hR;have hin:j+1=n:=by omega
  refine R0 F.entry_max_loop ?_;rw[Around.under_plainId F.plain_max_loop _];show p8 _ A.in1 (br2 (.ref S) >>= _) _ _ s
  refine b7 (G5 hS rfl ?_);show p8 _ A.in1 (tryCatch (aq0 (.ref I)) _ >>= _) _ _ s
  refine b7 (ao5 (W.done s _ _ (hin ▸ hst) fun h' tk hk'=>?_));have hS':=hk' S _ hSw hS
  show p8 _ A.in1 (updateSeq S (fun _=>#[]) >>= _) _ _ _;refine b7 ?_
  refine br3 hS' rfl (b7 (aj9 (d3 ?_)));exact hR vb _ tk (by rw[<- hin];exact hPb) fun b o hbw hbS e=>(B1 _ _ (Ne.symm hbS)).trans (hk' b o hbw e)
 | succ k ih =>
  intro j s vb c hk hj hst hPb hS hR;have hlt:j+1<n:=by omega
  refine R0 F.entry_max_loop ?_;rw[Around.under_plainId F.plain_max_loop _];show p8 _ A.in1 (br2 (.ref S) >>= _) _ _ s
  refine b7 (G5 hS rfl ?_);show p8 _ A.in1 (tryCatch (aq0 (.ref I)) _ >>= _) _ _ s
  refine b7 (ao5 (W.item (j+1) s _ _ hlt hst fun v h' tk hP hst' hk'=>?_));have hS':=hk' S _ hSw hS
  show p8 _ A.in1 (tryCatch (aU5 [v,v] (richCompare .Gt v vb >>= _)) _ >>= _) _ _ _;refine b7 (ao5 (D9 (b7 (hcmp (j+1) (X0 bt j) v vb _ _ _ hP hPb ?_))))
  refine b7 (D9 (F6 ?_));refine b7 (aj9 (d3 ?_))
  cases hb:bt (j+1) (X0 bt j) with
  | true =>
   simp only[if_true];refine b7 ?_
   refine br3 hS' rfl (b7 (aj9 ?_));rw[at9]
   refine d3 ⟨ah5 F.plain_max_loop _,ih (j+1) _ v _ (by omega) hlt (W.frame _ _ _ hst' fun b hbf o e=>?_) (by simp only[X0,hb,if_true];exact hP) (O5 _ hS' rfl) fun v' h'' tk'' hP' hk''=>?_⟩
   ·exact((B1 _ _ (fun h:S=b=>hSf (by rw[h];exact hbf))).trans e)
   ·exact(hR v' h'' tk'' hP' fun b o hbw hbS e=>hk'' b o hbw hbS ((B1 _ _ (Ne.symm hbS)).trans (hk' b o hbw e)))
  | false =>
   simp only[l9,if_false];refine b7 (aj9 ?_);rw[at9]
   refine d3 ⟨ah5 F.plain_max_loop _,ih (j+1) _ vb c (by omega) hlt hst' (by simp only[X0,hb,l9,if_false];exact hPb) hS' fun v' h'' tk'' hP' hk''=>?_⟩;exact hR v' h'' tk'' hP' fun b o hbw hbS e=>hk'' b o hbw hbS (hk' b o hbw e)
theorem bt0 (W:Walks prog w A.in1 I fp wr n P St)(bt:Nat->Nat->Bool)(hcmp:CmpOf prog w A.in1 .Gt P bt)(S:Addr)(hSf:S∉fp){c:Nat}(hst:St 0 s.heap)(hS:s.heap.get? S=some { cls:=.type "list",dict:=none,data:=.seq #[] c,slots:=#[] })
  (h0:n=0->∀ h' tk,(∀ b o,b∉wr->b≠S->s.heap.get? b=some o->h'.get? b=some o)->R (.ok (.ret d)) { s with heap:=h',toks:=tk })
  (hR:0<n->∀ v h' tk,P (X0 bt (n - 1)) v->(∀ b o,b∉wr->b≠S->s.heap.get? b=some o->h'.get? b=some o)->R (.ok (.ret v)) { s with heap:=h',toks:=tk }) :
  ar8 (t9 prog w) A (.builtin "max.loop" ⟨[.ref I,.none,.ref S],[("default",d)]⟩) R s:=by
 have hSw:S∉wr:=(fun h=>hSf (W.sub _ h))
 refine R0 F.entry_max_loop ?_;rw[Around.under_plainId F.plain_max_loop _];show p8 _ A.in1 (br2 (.ref S) >>= _) _ _ s
 refine b7 (G5 hS rfl ?_);show p8 _ A.in1 (tryCatch (aq0 (.ref I)) _ >>= _) _ _ s
 by_cases hn:0<n
 ·refine b7 (ao5 (W.item 0 s _ _ hn hst fun v h' tk hP hst' hk'=>?_));have hS':=hk' S _ hSw hS
  show p8 _ A.in1 (updateSeq S (fun _=>#[v,v]) >>= _) _ _ _;refine b7 ?_
  refine br3 hS' rfl ?_;rw[at9]
  refine d3 ⟨ah5 F.plain_max_loop _,bD2 W bt hcmp S hSf _ 0 _ v _ rfl hn (W.frame _ _ _ hst' fun b hbf o e=>?_) hP (O5 _ hS' rfl) fun v' h'' tk'' hP' hk''=>?_⟩
  ·exact((B1 _ _ (fun h:S=b=>hSf (by rw[h];exact hbf))).trans e)
  ·exact(hR hn v' h'' tk'' hP' fun b o hbw hbS e=>hk'' b o hbw hbS ((B1 _ _ (Ne.symm hbS)).trans (hk' b o hbw e)))
 ·have hz:n=0:=by omega
  refine b7 (ao5 (W.done s _ _ (by rw[hz];exact hst) fun h' tk hk'=>?_))
  refine b7 (aq2 ?_)
  exact d3 (h0 hz h' tk fun b o hbw _ e=>hk' b o hbw e)
end
theorem bv9 (a v:Value):argsOk "max" ⟨[a],[(Str.ofString "default",v)]⟩:=by unfold argsOk;kernel_rfl
theorem isQ.push {b:Bool}{xs:Array Value}(q:isQ b h a xs)(o:Obj):isQ b (h.push o) a xs:=by
 cases b with
 | true=>exact Heap.IsList.push q o
 | false=>exact Heap.IsTuple.push q o
theorem isQ.obj {b:Bool}{xs:Array Value}(q:isQ b h a xs):∃ o,h.get? a=some o:=by
 cases b with
 | true=>obtain⟨o,h1,_⟩:=q;exact⟨o,h1⟩
 | false=>obtain⟨o,h1,_⟩:=q;exact⟨o,h1⟩
theorem bm0 {b:Bool}{xs:Array Value}(q:isQ b s.heap a xs)(h:Q (.ref s.heap.objs.size) { s with heap:=s.heap.push { cls:=.type (nmB b),data:=.fields #[.ref a,.int 0 0] } }):p8 (t9 prog w) A (pyIter (.ref a)) Q E s:=by
 cases b with
 | true=>exact K6 q h
 | false=>exact G9 q h
theorem bw9 (b:Bool)(hh:A.handled=none)(it l:Addr)(hne:l≠it)(items:Array Value):Walks prog w A it [it,l] [it] items.size (fun i v=>items[i]?=some v) (fun i h=>itB b h it l i/\isQ b h l items):=by
 cases b with
 | true=>exact Walks.list hh it l hne items
 | false=>exact Walks.tuple hh it l hne items
theorem bv5 (hc:X.calm=true):S4 X (.builtin "max") (fun xs H Q=>∃ (b:Bool) (p:Addr) (ns:List Int),xs=[.ref p]/\SqB b X.K H p (ns.map V.int)/\0<ns.length/\∀ m:Int,m∈ns->(∀ x∈ns,x<=m)->Q (.int m) H):=by
 intro pins s σ H xs us Q I r h
 obtain⟨b,p,ns,rfl,hq,hn,q⟩:=h
 obtain⟨u,rfl,rx⟩:=vals1 r
 cases rx
 obtain⟨its,r',pl⟩:=I.seqB hq
 have hlen:its.length=ns.length:=by rw[<- r'.length,b8]
 have hi:J7 its ns:=intsAre_of r'
 obtain⟨ys,e⟩:=hi.allInts.items
 have hT:isQ b s.heap p (K8 ys):=by rw[<- e];exact pl
 have hsz:(K8 ys).size=ns.length:=by rw[<- e,i9,hlen]
 have hnum:∀ j,j<ns.length->ar9 ys j=ns.getD j 0:=fun j hj=>by
  have hx:(ns.map V.int)[j]?=some (.int (ns.getD j 0)):=by simp[hj]
  obtain⟨v,hv,t,rfl⟩:=r'.get hx
  have hv':(K8 ys)[j]?=some (.int (ns.getD j 0) t):=by rw[<- e];simpa using hv
  obtain⟨t',ht'⟩:=Y8 hv'
  injection ht' with h1 _
  exact h1.symm
 have hpl:p<s.heap.objs.size:=by
  obtain⟨o,ho⟩:=hT.obj
  exact d5 ho
 refine call_max_walk (bm0 hT ?_)
 refine⟨_,[_,p],[_],_,_,_,_,rfl,bw9 b (A:=X.A.in1) (I.ok.hd hc) _ p (k9 hpl) (K8 ys),
  ⟨aC7 (i6 _ rfl),hT.push _⟩,fun c hc'=>?_,by rw[hsz];exact hn,CmpOf.ints_gt (ar9 ys) (fun _ _=>Y8),fun v h' tk hP hk=>?_⟩
 ·show c<(s.heap.push _).objs.size
  rw[B9]
  rcases d7.mp hc' with rfl | hc'
  ·exact ae6 _
  ·rcases d7.mp hc' with rfl | hc'
   ·exact B3 hpl
   ·cases hc'
 ·have hold:∀ c o,s.heap.get? c=some o->h'.get? c=some o:=fun c o e=>by
   refine hk c o (fun hm=>?_) (c5 _ e)
   rcases d7.mp hm with e1 | hm
   ·exact absurd (d5 e) (by rw[e1];exact B2 _)
   ·cases hm
  obtain⟨t,rfl⟩:=Y8 hP
  have hb:=aD4 (fun i j=>decide (ar9 ys i > ar9 ys j)) ((K8 ys).size - 1)
  have hbl:X0 (fun i j=>decide (ar9 ys i > ar9 ys j)) ((K8 ys).size - 1)<ns.length:=by rw[hsz]at hb ⊢;omega
  refine⟨.int _,H,I.kept (t':=tk) hold,⟨t,rfl⟩,q _ ?_ fun x hx=>?_⟩
  ·rw[hnum _ hbl,c8,c7 hbl]
   exact W9 hbl
  ·obtain⟨j,hj,rfl⟩:=V3.mp hx
   have:=aS9 (ar9 ys) ((K8 ys).size - 1) j (by rw[hsz];omega)
   rw[hnum j hj,c8,c7 hj]at this
   exact this
theorem bD3 {b:Bool}{p:Addr}{d:Value}(hc:X.calm=true)(I:Inv X pins σ H s)(hq:SqB b X.K H p (ns.map V.int))
  (h0:ns=[]->∀ s',Inv X pins σ H s'->Q d s')(h1:∀ (m:Int) (t:Tok) (s':Shared),m∈ns->(∀ x∈ns,x<=m)->Inv X pins σ H s'->Q (.int m t) s'):p8 (t9 X.prog X.w) X.A (call (.builtin "max") [.ref p] [(Str.ofString "default",d)]) Q E s:=by
 obtain⟨its,r',pl⟩:=I.seqB hq
 have hlen:its.length=ns.length:=by rw[<- r'.length,b8]
 have hi:J7 its ns:=intsAre_of r'
 obtain⟨ys,e⟩:=hi.allInts.items
 have hT:isQ b s.heap p (K8 ys):=by rw[<- e];exact pl
 have hsz:(K8 ys).size=ns.length:=by rw[<- e,i9,hlen]
 have hnum:∀ j,j<ns.length->ar9 ys j=ns.getD j 0:=fun j hj=>by
  have hx:(ns.map V.int)[j]?=some (.int (ns.getD j 0)):=by simp[hj]
  obtain⟨v,hv,t,rfl⟩:=r'.get hx
  have hv':(K8 ys)[j]?=some (.int (ns.getD j 0) t):=by rw[<- e];simpa using hv
  obtain⟨t',ht'⟩:=Y8 hv'
  injection ht' with h1 _
  exact h1.symm
 have hpl:p<s.heap.objs.size:=by
  obtain⟨o,ho⟩:=hT.obj
  exact d5 ho
 refine kmk_tree PySem.F.kind_max PySem.F.plain_max PySem.F.entry_max (bv9 _ _) ?_;show p8 _ X.A.in1 (Builtin.Builtins.bindParams "max" ["key","default"] 0 ⟨[],[(Str.ofString "default",d)]⟩ >>= _) _ _ s
 refine b7 (aK1 (show Builtin.Builtins.bindParams "max" ["key","default"] 0 ⟨[],[(Str.ofString "default",d)]⟩=pure [none,some d] from rfl) ?_);refine b7 (d3 ?_)
 refine b7 (bm0 hT ?_);refine b7 (V5 ?_ (t8 _));rw[at9]
 have hS:(s.heap.push { cls:=.type (nmB b),data:=.fields #[.ref p,.int 0 0] }).objs.size=s.heap.objs.size+1:=B9 ..
 have old:∀ c o,s.heap.get? c=some o->((s.heap.push { cls:=.type (nmB b),data:=.fields #[.ref p,.int 0 0] }).push (J0 "list" #[] 0)).get? c=some o:=fun c o e=>c5 _ (c5 _ e)
 refine d3 ⟨ah5 PySem.F.plain_max_loop _,bt0 (bw9 b (A:=X.A.in1) (I.ok.hd hc) s.heap.objs.size p (k9 hpl) (K8 ys)) _ (CmpOf.ints_gt (ar9 ys) (fun _ _=>Y8)) _ (fun hm=>?_) ⟨aC7 (c5 _ (i6 _ rfl)),(hT.push _).push _⟩ (i6 _ rfl) (fun hn h' tk hk=>?_) fun hn v h' tk hP hk=>?_⟩
 ·rw[hS]at hm
  rcases d7.mp hm with e1 | hm
  ·exact absurd e1 (M6 (ae6 _))
  ·rcases d7.mp hm with e1 | hm
   ·exact absurd e1 (M6 (B3 hpl))
   ·cases hm
 ·have hold:∀ c o,s.heap.get? c=some o->h'.get? c=some o:=fun c o e=>hk c o (fun hm=>by
   rcases d7.mp hm with e1 | hm
   ·exact absurd (d5 e) (by rw[e1];exact B2 _)
   ·cases hm) (by rw[hS];exact k9 (B3 (d5 e))) (old c o e)
  exact h0 (ap1.mp (by omega)) _ (I.kept (t':=tk) hold)
 ·have hold:∀ c o,s.heap.get? c=some o->h'.get? c=some o:=fun c o e=>hk c o (fun hm=>by
   rcases d7.mp hm with e1 | hm
   ·exact absurd (d5 e) (by rw[e1];exact B2 _)
   ·cases hm) (by rw[hS];exact k9 (B3 (d5 e))) (old c o e)
  obtain⟨t,rfl⟩:=Y8 hP
  have hb:=aD4 (fun i j=>decide (ar9 ys i > ar9 ys j)) ((K8 ys).size - 1)
  have hbl:X0 (fun i j=>decide (ar9 ys i > ar9 ys j)) ((K8 ys).size - 1)<ns.length:=by rw[hsz]at hb ⊢;omega
  refine h1 _ t _ ?_ (fun x hx=>?_) (I.kept (t':=tk) hold)
  ·rw[hnum _ hbl,c8,c7 hbl]
   exact W9 hbl
  ·obtain⟨j,hj,rfl⟩:=V3.mp hx
   have:=aS9 (ar9 ys) ((K8 ys).size - 1) j (by rw[hsz];omega)
   rw[hnum j hj,c8,c7 hj]at this
   exact this
def ck7 (K:W.Frag)(tr:TA):TE:=fun σ H Q=>tr σ H fun vs H1=>∃ (b:Bool) (p:Addr) (ns:List Int),vs=[.ref p]/\SqB b K H1 p (ns.map V.int)/\Web.AllP ns/\∀ m:Int,0<=m->(∀ x∈ns,x<=m)->Q (.int m) H1
theorem bO4 {np bpos kpos:Pos}{tr:TA}(K:W.Frag)(hK:X.K=K)(hc:X.calm=true)(hg:Gl X "max")(hm:X.mg "max"=none)(ha:PA X [e] tr)
  (hs:V0 pos (v9 [e] X.env)=(false,eval e X.env)::V0 pos (v9 [] X.env):=by rfl)
  (hpl:(V0 pos (v9 [e] X.env)).any (·.1)=false:=by rfl) :
  PE X (.Call (.Name "max" np) [e] [⟨some "default",.Constant (.int 0) j bpos,kpos⟩] pos) (ck7 K tr):=by
 subst hK
 intro pins s σ H Q I h
 refine M0 (Z7 I hg hm (show L6 "max"=some (.builtin "max") from rfl) ?_ (by decide) (by decide))
 refine cj9 (thn (ha pos pins s σ H _ I h) fun us s1 ⟨vs,H1,I1,r1,q1⟩=>?_) hs hpl rfl rfl
 obtain⟨b,p,ns,rfl,hq,hp,q⟩:=q1
 have hk:PK X [⟨some "default",.Constant (.int 0) j bpos,kpos⟩] (aW0 (tC (.int 0)) bx2):=aQ8 j6 bg3
 refine thn (hk pos pins s1 σ H1 (fun zs H2=>zs=[.int 0]/\H2=H1) I1 ⟨rfl,rfl⟩) fun ws s2 ⟨zs,H2,I2,r2,ez,eH⟩=>?_
 subst ez eH
 obtain⟨w,rfl,rw⟩:=vals1 r2
 obtain⟨u,rfl,ru⟩:=vals1 r1
 obtain⟨t,rfl⟩:=rw
 cases ru
 exact bD3 hc I2 hq (fun e s' I'=>⟨.int 0,_,I',⟨_,rfl⟩,q 0 (by omega) fun x hx=>by rw[e]at hx;cases hx⟩) fun m t s' a1 a2 I'=>⟨.int m,_,I',⟨t,rfl⟩,q m (by
  obtain⟨i,hi⟩:=o6.mp a1
  exact hp i m hi) a2⟩
end L2
namespace L2
open PySem PySem.Spec PyProof.Rows PySem.SeqAt
theorem bk1:∀ {bs:List Bool} {its:List Value},C8 (bs.map V.bl) its->its=bs.map Value.bool
 | [],_,.nil=>rfl
 | b::bs,_,.cons r t=>by rw[bk1 t,show _=Value.bool b from r];rfl
theorem bO5 {a b:Expr}{tb:TE}(K:W.Frag)(hK:X.K=K)(ha:PE X a ta)(hb:PE X b tb)(hs:aD5 b):PE X (.Subscript a b pos) (tOp (cb5 K) ta tb):=by
 cases hK
 exact C7 C5 ha hb hs
theorem ai1 {a b:Expr}{tb:TE}(K:W.Frag)(hK:X.K=K)(ha:PE X a ta)(hb:PE X b tb)(hs:aD5 b):PE X (.Subscript a b pos) (tOp (rIx K) ta tb):=by
 cases hK
 exact C7 bF1 ha hb hs
end L2
namespace L2
open PySem PySem.Spec PyProof.Rows
theorem aN9 (K:W.Frag)(hK:X.K=K)(hc:X.calm=true):S4 X (.builtin "sum") (fun xs H Q=>∃ (p:Addr) (ns:List Int),xs=[.ref p]/\SqL K H p (ns.map V.int)/\Q (.int ns.sum) H):=by subst hK;exact ac8 hc
theorem aI0 (K:W.Frag)(hK:X.K=K)(hc:X.calm=true):S4 X (.builtin "sum") (fun xs H Q=>∃ (p:Addr) (ns:List Int),xs=[.ref p]/\SqT K H p (ns.map V.int)/\Q (.int ns.sum) H):=by subst hK;exact ay7 hc
end L2
namespace L2
open PySem PySem.Spec PyProof.Rows PySem.SeqAt
def aT1 (h:Heap)(d:Addr)(es:Array ae9)(ep:Nat):Prop:=∃ o,h.get? d=some o/\o.ExactDict/\o.data=.dict es ep
theorem aT1.typeIs {d:Addr}{es:Array ae9}{ep:Nat}(x:aT1 s.heap d es ep):s.TypeIs (.ref d) "dict":=let ⟨o,ho,hc,_⟩:=x;⟨o,ho,hc.1⟩
theorem aT1.at' {d:Addr}{es:Array ae9}{ep:Nat}(x:aT1 h d es ep)(e:∀ o,h.get? d=some o->h'.get? d=some o):aT1 h' d es ep:=let ⟨o,ho,r⟩:=x;⟨o,e _ ho,r⟩
theorem bA8 {d:Addr}{es:Array ae9}{ep:Nat}(hd:(d == V4)=false)(hm:aT1 s.heap d es ep)
  (hQ:Q (.ref s.heap.objs.size) { s with heap:=s.heap.push { cls:=.type "dict_keyiterator",data:=.fields #[.ref d,.int 0 0,.int es.size 0,.int ep 0] } }) :
  p8 (t9 prog w) A (pyIter (.ref d)) Q E s:=by
 have hT:=hm.typeIs
 obtain⟨o,ho,hc,hdat⟩:=id hm
 refine wpAny_pyIter_slot hT PySem.F.slot_dict_iter (O8 PySem.F.slot_dict_iter hT PySem.F.entry_dict_iter ?_ (PySem.F.args_dict_iter_1 _))
 unfold Builtin.«dict.__iter__»
 refine b7 ?_
 unfold Builtin.Dict.dictSlotNone
 refine b7 (wpAny_notOrdered_dict hT ?_)
 show p8 _ _ (pure (Value.ref d)) _ _ s
 refine d3 ?_
 show p8 _ _ (Builtin.Dict.showsAll d >>= _) _ _ s
 unfold Builtin.Dict.showsAll
 rw[if_neg (by rw[hd];exact i7)]
 refine b7 (d3 ?_)
 refine b7 (aU9 ho hdat ?_)
 refine b7 (br4 ho hdat ?_)
 refine b7 (V8 (d3 ⟨_,rfl,"dict_keyiterator",_,⟨_,i6 _ rfl,rfl⟩,PySem.F.slot_dict_keyiterator_next.lookup,?_⟩))
 simpa [Z4] using hQ
theorem bA7 {it d:Addr}{ep:Nat}{es:Array ae9}{e:ae9}{Q:Option Value->Shared->Prop}(hit:s.heap.IsKeyIter it d i es.size ep)
  (hm:aT1 s.heap d es ep)(hx:es[i]?=some e)(hQ:∀ h',h'.IsKeyIter it d (i+1) es.size ep->Heap.SameBut it s.heap h'->Q (some e.key) { s with heap:=h' }) :
  p8 (t9 prog w) A (aq0 (.ref it)) Q E s:=by
 obtain⟨o,ho,hc,hd⟩:=id hit
 obtain⟨od,hod,hcd,hdd⟩:=id hm
 unfold aq0
 refine b7 (ah3 (N1 (name:=Str.ofString "__next__") hit.typeIs PySem.F.slot_dict_keyiterator_next
  (O8 PySem.F.slot_dict_keyiterator_next hit.typeIs PySem.F.entry_dict_keyiterator_next ?_ (PySem.F.args_dict_keyiterator_next_1 _))))
 refine b7 (d3 ?_)
 refine b7 ?_
 refine b7 ?_
 first | refine b7 (T5 hit.typeIs (d3 ?_)) | refine b7 (Z5 hit.typeIs (d3 ?_))
 refine b7 (wpAny_fieldsOf ho hd ?_)
 have hown:Builtin.Dict_items.ownsTuple "dict_keyiterator"=false:=by decide
 simp only[hown,l9,if_false]
 show p8 _ _ (if (Value.ref d == Value.none)=true then _ else _) _ _ s
 rw[if_neg (show ¬ ((Value.ref d == Value.none)=true) from i7)]
 refine b7 (d3 ?_)
 refine b7 (aU9 hod hdd ?_)
 rw[if_neg (by simp)]
 refine b7 (d3 ?_)
 refine b7 (br4 hod hdd ?_)
 rw[if_neg (by simp)]
 refine d3 ?_
 simp only[show ¬ ((i:Int)<0) from by omega,if_false,m7,hx]
 refine b7 ?_
 first | refine b7 (T5 hit.typeIs (d3 ?_)) | refine b7 (Z5 hit.typeIs (d3 ?_))
 refine b7 (bY9 hit.typeIs ?_)
 show p8 _ _ (setField (.ref it) 1 (Z4 ((i:Int)+1)) >>= _) _ _ s
 refine b7 (aJ4 ho hd (by simp) ?_)
 have hit':(s.heap.update it (Obj.mapFields (·.setIfInBounds 1 (Z4 ((i:Int)+1))))).IsKeyIter it d (i+1) es.size ep:=
  ⟨_,O5 _ ho (Obj.isFreed_of_fields (Obj.data_mapFields hd _)),(Obj.cls_mapFields ..).trans hc,by rw[Obj.data_mapFields hd];simp[Z4]⟩
 refine b7 (D9 ?_)
 refine b7 (bY9 (s:={ s with heap:=s.heap.update it (Obj.mapFields (·.setIfInBounds 1 (Z4 ((i:Int)+1)))) }) hit'.typeIs ?_)
 show p8 _ _ (pure e.key) _ _ _
 exact d3 (d3 ⟨_,rfl,d3 (hQ _ hit' (Heap.SameBut.update ..))⟩)
theorem bN8 {it d:Addr}{ep:Nat}{es:Array ae9}{Q:Option Value->Shared->Prop}(hh:A.handled=none)(hit:s.heap.IsKeyIter it d i es.size ep)
  (hm:aT1 s.heap d es ep)(hx:es.size<=i)(hQ:∀ h',Heap.ExtBut it s.heap h'->Q none { s with heap:=h' }):p8 (t9 prog w) A (aq0 (.ref it)) Q E s:=by
 obtain⟨o,ho,hc,hd⟩:=id hit
 obtain⟨od,hod,hcd,hdd⟩:=id hm
 unfold aq0
 refine b7 (ah3 (N1 (name:=Str.ofString "__next__") hit.typeIs PySem.F.slot_dict_keyiterator_next
  (O8 PySem.F.slot_dict_keyiterator_next hit.typeIs PySem.F.entry_dict_keyiterator_next ?_ (PySem.F.args_dict_keyiterator_next_1 _))))
 refine b7 (d3 ?_)
 refine b7 ?_
 refine b7 ?_
 first | refine b7 (T5 hit.typeIs (d3 ?_)) | refine b7 (Z5 hit.typeIs (d3 ?_))
 refine b7 (wpAny_fieldsOf ho hd ?_)
 have hown:Builtin.Dict_items.ownsTuple "dict_keyiterator"=false:=by decide
 simp only[hown,l9,if_false]
 show p8 _ _ (if (Value.ref d == Value.none)=true then _ else _) _ _ s
 rw[if_neg (show ¬ ((Value.ref d == Value.none)=true) from i7)]
 refine b7 (d3 ?_)
 refine b7 (aU9 hod hdd ?_)
 rw[if_neg (by simp)]
 refine b7 (d3 ?_)
 refine b7 (br4 hod hdd ?_)
 rw[if_neg (by simp)]
 refine d3 ?_
 simp only[show ¬ ((i:Int)<0) from by omega,if_false,m7,Z9 hx]
 refine b7 ?_
 first | refine b7 (T5 hit.typeIs (d3 ?_)) | refine b7 (Z5 hit.typeIs (d3 ?_))
 show p8 _ _ (setField (.ref it) 0 .none >>= _) _ _ s
 refine b7 (aJ4 ho hd (by simp) ?_)
 show p8 _ _ (newExc (.type "StopIteration") [] >>= _) _ _ _
 refine b7 ?_
 simp only[newExc,newTuple]
 refine b7 (V8 ?_ (by size_fits))
 refine b7 (m:=aJ5 _ _) (aK1 (a:=Value.none) (by first | rfl | (simp only[aJ5];rfl)) ?_)
 refine V8 ?_ (by size_fits)
 simp only[raiseNew]
 refine b7 (wpAny_handled ?_)
 rw[show A.in1.handled=none from hh]
 refine b7 (d3 (wpAny_throw ?_))
 refine b7 (wpAny_isInstance (T:="StopIteration") (b:=true) ⟨_,i6 _ rfl,rfl⟩ isSubtype_stop ?_)
 exact d3 (hQ _ (((Heap.SameBut.update ..).extBut.push _).push _))
theorem aX9 (hh:A.handled=none)(I d:Addr)(hne:d≠I)(es:Array ae9)(ep:Nat) :
  Walks prog w A I [I,d] [I] es.size (fun i v=>∃ e,es[i]?=some e/\v=e.key) (fun i h=>h.IsKeyIter I d i es.size ep/\aT1 h d es ep) where
 sub:=fun b hb=>by simp at hb;simp[hb]
 frame:=fun _ _ _ st hk=>⟨st.1.at fun o e=>hk I (by simp) o e,st.2.at' fun o e=>hk d (by simp) o e⟩
 item:=fun i s Q E hi st hQ=>by
  obtain⟨e,hx⟩:∃ e,es[i]?=some e:=⟨es[i],by simp[hi]⟩
  refine bA7 st.1 st.2 hx fun h' hit' hs'=>?_
  exact hQ e.key h' s.toks ⟨e,hx,rfl⟩ ⟨hit',st.2.at' fun o q=>hs'.extBut d o hne q⟩ fun b o hb q=>hs'.extBut b o (fun h=>hb (by simp[h])) q
 done:=fun s Q E st hQ=>bN8 hh st.1 st.2 (c9 _) fun h' he'=>hQ h' s.toks fun b o hb e=>he' b o (fun h=>hb (by simp[h])) e
 self:=fun _ _ _ _ st hQ=>ci4 st.1 hQ
theorem bv7 {bs:List Bool}(h:(bs.map Value.bool)[i]?=some v):v=.bool (bs.getD i false):=by
 rw[o5]at h
 cases e:bs[i]? with
 | none=>rw[e]at h;cases h
 | some b=>rw[e]at h;cases h;rw[c8,e];rfl
theorem all_range (bs:List Bool):((p5 bs.length).all fun i=>bs.getD i false)=bs.all id:=by
 rw[ag8,G8,G8]
 constructor
 ·intro h b hb
  obtain⟨i,hi,rfl⟩:=V3.mp hb
  have:=h i (v8.mpr hi)
  rw[c8,c7 hi]at this
  exact this
 ·intro h i hi
  have hi:=v8.mp hi
  rw[c8,c7 hi]
  exact h _ (W9 hi)
theorem boot_all:L6 "all"=some (.builtin "all"):=by decide +kernel
theorem bv6 (hc:X.calm=true):S4 X (.builtin "all") (fun xs H Q=>∃ (l:Addr) (bs:List Bool),xs=[.ref l]/\H l=some (.lst (bs.map V.bl))/\Q (.bl (bs.all id)) H):=by
 intro pins s σ H xs us Q I r h
 obtain⟨l,bs,rfl,hH,q⟩:=h
 obtain⟨u,rfl,rx⟩:=vals1 r
 cases rx
 obtain⟨z,its,n,r,hl,e⟩:=I.lstM hH
 obtain rfl:=bk1 r
 have hl1:s.heap.IsList l (bs.map Value.bool).toArray:=⟨_,e,rfl,_,rfl⟩
 refine call_all_walkS (K6 hl1 ?_)
 have hlt:l<s.heap.objs.size:=d5 e
 have hh:X.A.in1.handled=none:=by simp[I.ok.hd hc]
 refine⟨_,_,_,_,_,_,_,fun i=>bs.getD i false,rfl,(Walks.list hh _ l (k9 hlt) (bs.map Value.bool).toArray).toS,⟨⟨_,i6 _ rfl,rfl,rfl⟩,hl1.push _⟩,?_,fun s' hm=>?_⟩
 ·intro i v s Q E hv hq
  have:=bv7 (bs:=bs) (i:=i) (v:=v) (by simpa using hv)
  subst this
  exact d3 hq
 ·refine⟨.bl (bs.all id),H,?_,?_,q⟩
  ·rw[Moved.eq_with hm]
   exact I.kept (t':=s'.toks) fun b o eo=>hm.heap b o (fun hb=>absurd (d5 eo) (by rw[x8.mp hb];exact B2 _)) (c5 _ eo)
  ·show _=Value.bool (bs.all id)
   rw[<- all_range]
   simp
end L2
namespace L2
open PySem PySem.Spec PyProof.Rows
def ao6 (H:Hp)(l:Addr->Option Obj):Hp:=fun b=>match l b with
 | some o=>some (S8 b o)
 | none=>H b
def ac1 (H:Hp)(l:Addr->Option Obj):Hp:=fun b=>match l b with
 | some _=>none
 | none=>H b
section
variable {H1 H2:Hp} {h1 h2:Heap} {fs:List Addr}
theorem as1 (e:l b=some o):ao6 H l b=some (S8 b o):=by unfold ao6;rw[e]
theorem J3 (e:l b=none):ao6 H l b=H b:=by unfold ao6;rw[e]
theorem af8 (e:l b=some o):ac1 H l b=none:=by unfold ac1;rw[e]
theorem J4 (e:l b=none):ac1 H l b=H b:=by unfold ac1;rw[e]
theorem bT8 (e:h.get? b=some o):G7 P w H h b (S8 b o):=⟨e,⟨o,e⟩,fun h1 h2 q z=>z _ q⟩
theorem HOk.trkd (x:HOk P w H h)(hl:∀ b o,l b=some o->h.get? b=some o/\H b=none):HOk P w (ao6 H l) h:=fun a o e=>by
 cases hb:l a with
 | some q=>rw[as1 hb]at e;cases e;exact bT8 (hl a q hb).1
 | none =>
  rw[J3 hb]at e
  have aux:∀ b u,H b=some u->ao6 H l b=some u:=fun b u q=>by
   cases hb':l b with
   | some z=>rw[(hl b z hb').2]at q;cases q
   | none=>rw[J3 hb'];exact q
  exact(x a o e).stay (fun _ _ _ q=>q) (fun b q=>aux b _ q) (fun b xs q=>aux b _ q)
theorem ay0 {u:HO}(hl:∀ b o,l b=some o->H b=some (S8 b o))(q:H b=some u)(hu:∀ o,u≠S8 b o):l b=none:=by
 cases hb:l b with
 | some z=>rw[hl b z hb]at q;cases q;exact absurd rfl (hu z)
 | none=>rfl
theorem HOk.rmv (x:HOk P w H h)(hl:∀ b o,l b=some o->H b=some (S8 b o)):HOk P w (ac1 H l) h:=fun a o e=>by
 cases hb:l a with
 | some q=>rw[af8 hb]at e;cases e
 | none =>
  rw[J4 hb]at e
  refine(x a o e).stay (fun _ _ _ q=>q) (fun b q=>?_) (fun b xs q=>?_)
  ·rw[J4 (ay0 hl q (fun o z=>by unfold S8 at z;cases z))];exact q
  ·rw[J4 (ay0 hl q (fun o z=>by unfold S8 at z;cases z))];exact q
theorem Un.inner (un:Un fs [] (ac1 H l) H1 h h1)(hl:∀ b o,l b=some o->H b=some (S8 b o)):Un fs [] H (ao6 H1 l) h h1:=by
 have nn:∀ b,H b=none->l b=none:=fun b n=>by
  cases hb:l b with
  | some z=>rw[hl b z hb]at n;cases n
  | none=>rfl
 refine⟨fun b o e n hf hx=>un.keep b o e (by rw[J4 (nn b n)];exact n) hf hx,fun b o e n hf hx=>un.slot b o e (by rw[J4 (nn b n)];exact n) hf hx,fun b o e n hx=>?_,un.there,fun b xs q=>?_,fun b o u q=>?_,fun b ps q=>?_⟩
 ·rw[J3 (nn b n)]
  exact un.free b o e (by rw[J4 (nn b n)];exact n) hx
 ·have z:=ay0 hl q (fun o z=>by unfold S8 at z;cases z)
  rw[J3 z]
  exact un.tups b xs (by rw[J4 z];exact q)
 ·have z:=ay0 hl q (fun o z=>by unfold S8 at z;cases z)
  rw[J3 z]
  exact un.frzs b o u (by rw[J4 z];exact q)
 ·have z:=ay0 hl q (fun o z=>by unfold S8 at z;cases z)
  rw[J3 z]
  exact un.tbls b ps (by rw[J4 z];exact q)
theorem Un.outer (un:Un fs [] (ao6 H l) H2 h h2)(hl:∀ b o,l b=some o->h.get? b=some o/\H b=none)(h2l:∀ b o,l b=some o->H2 b=some (S8 b o))(ok2:HOk P w H2 h2):Un fs [] H (ac1 H2 l) h h2:=by
 have nn:∀ b u,H b=some u->l b=none:=fun b u q=>by
  cases hb:l b with
  | some z=>rw[(hl b z hb).2]at q;cases q
  | none=>rfl
 have at2:∀ b o,l b=some o->h2.get? b=some o:=fun b o e=>(ok2 b _ (h2l b o e)).1
 refine⟨fun b o e n hf hx=>?_,fun b o e n hf hx=>?_,fun b o e n hx=>?_,un.there,fun b xs q=>?_,fun b o u q=>?_,fun b ps q=>?_⟩
 ·cases hb:l b with
  | some z =>
   rw[(hl b z hb).1]at e
   cases e
   exact at2 b _ hb
  | none=>exact un.keep b o e (by rw[J3 hb];exact n) hf hx
 ·cases hb:l b with
  | some z =>
   rw[(hl b z hb).1]at e
   cases e
   exact⟨_,at2 b _ hb⟩
  | none=>exact un.slot b o e (by rw[J3 hb];exact n) hf hx
 ·cases hb:l b with
  | some z=>exact af8 hb
  | none =>
   rw[J4 hb]
   exact un.free b o e (by rw[J3 hb];exact n) hx
 ·rw[J4 (nn b _ q)]
  exact un.tups b xs (by rw[J3 (nn b _ q)];exact q)
 ·rw[J4 (nn b _ q)]
  exact un.frzs b o u (by rw[J3 (nn b _ q)];exact q)
 ·rw[J4 (nn b _ q)]
  exact un.tbls b ps (by rw[J3 (nn b _ q)];exact q)
end
def ca4 (sp:Sp)(js:List (Nat × Addr))(t:TA):TE:=fun σ H Q=>t σ H fun vs H1=>∀ l:Addr->Option Obj,(∀ b o,l b=some o->H1 b=none)->(∀ p∈js,∀ v,σ[p.1]?=some (some v)->∃ o u,l p.2=some o/\o.data=.cell (some u)/\RelV v u) ->
 sp vs (ao6 H1 l) (fun r H2=>(∀ b o,l b=some o->H2 b=some (S8 b o))/\Q r (ac1 H2 l)) E0
section
variable {k:Nat} {sp:Sp} {p:Pos} {t:TA}
theorem bB9 {js:List (Nat × Addr)}(F:A0 X.prog X.w X.K X.mg X.base CX0 k f fd ps sp)(hr:Z0 k X.A)(hg:Gl X x)(hm:X.mg x=some (.ref f))(hk:U9 X.K (.ref f)=true)(hb:Binds X.K fd ps [])
  (hj:∀ q∈js,X.s₀.heap.objs.size<=q.2/\∃ y,X.N[q.1]?=some y/\X.env.scope.names.lookup y=some .cell/\X.env.cells.lookup y=some q.2)
  (ha:PA X (e::es) t)(hdb:(x == ("__debug__":Str))=false:=by decide)(he:v9 (e::es) X.env=(false,eval e X.env)::v9 es X.env:=by rfl)(hpl:(V0 pos (v9 es X.env)).any (·.1)=false:=by rfl) :
  PE X (.Call (.Name x p) (e::es) [] pos) (ca4 sp js t):=by
 intro pins s σ H Q I h
 refine M0 (aC5 I hg hm ?_ hdb)
 refine PySem.W.callWith_K (h₀:=X.base) I.ok.mod.kin hk (thn (ha pos pins s σ H _ I h) fun us s1 ⟨vs,H1,I1,r,q⟩=>⟨I1.kIn,?_⟩) he hpl
 obtain⟨l,hl⟩:∃ l:Addr->Option Obj,l=fun b=>if b∈js.map (·.2) then s1.heap.get? b else none:=⟨_,rfl⟩
 have l1:∀ b o,l b=some o->s1.heap.get? b=some o/\b∈js.map (·.2):=fun b o e=>by
  rw[hl]at e
  by_cases hb:b∈js.map (·.2)
  ·have e':(if b∈js.map (·.2) then s1.heap.get? b else none)=some o:=e
   rw[if_pos hb]at e'
   exact⟨e',hb⟩
  ·have e':(if b∈js.map (·.2) then s1.heap.get? b else none)=some o:=e
   rw[if_neg hb]at e'
   cases e'
 have l2:∀ b o,l b=some o->s1.heap.get? b=some o/\H1 b=none:=fun b o e=>by
  obtain⟨e1,e2⟩:=l1 b o e
  obtain⟨q,hq,rfl⟩:=p0.mp e2
  obtain⟨_,y,_,_,hc⟩:=hj q hq
  exact⟨e1,I1.freeC y _ hc⟩
 have l3:∀ q∈js,∀ v,σ[q.1]?=some (some v)->∃ o u,l q.2=some o/\o.data=.cell (some u)/\RelV v u:=fun q hq v hv=>by
  obtain⟨_,y,hN,hs,hc⟩:=hj q hq
  obtain⟨m,hn,lo⟩:=I1.loc
  obtain⟨u,ru,lk⟩:=lo q.1 y v hN hv (.inr (.inl hs))
  rcases lk with⟨z,_⟩ | ⟨_,c,hc',o,ho,hd⟩
  ·have z':X.env.scope.names.lookup y=some .local:=z
   rw[hs]at z'
   cases z'
  ·rw[hc]at hc'
   cases hc'
   refine⟨o,u,?_,hd,ru⟩
   rw[hl]
   show (if q.2∈js.map (·.2) then s1.heap.get? q.2 else none)=some o
   rw[if_pos (p0.mpr ⟨q,hq,rfl⟩)]
   exact ho
 have q':=q l (fun b o e=>(l2 b o e).2) l3
 have nofr:∀ q∈js,q.2∉frs X.stack:=fun q hq z=>by
  obtain⟨hge,y,_,_,hc⟩:=hj q hq
  have nf:q.2∉X.fs:=fun hb=>by
   obtain⟨_,o,ho,_⟩:=I1.ok.funs.mem hb
   exact absurd (p9 (d5 ho) hge) (B2 _)
  rcases I1.ok.stk with h1 | ⟨h1,h2⟩
  ·rw[h1]at z
   exact nf z
  ·rw[h1]at z
   unfold frs at z
   rw[X2,h2]at z
   rcases d7.mp z with z | z
   ·exact I1.cne y _ hc z
   ·exact nf z
 have e0:=I1.env0
 have e1:bJ1 X.prog X.w X.K X.mg X.base X.A X.stack s1 (ao6 H1 l):=by
  refine⟨e0.frames,e0.mod,fun b o e=>⟨(e0.bs b o e).1,?_⟩,e0.bsz,e0.funs,fun b hb=>?_,e0.hok.trkd l2,e0.bare⟩
  ·cases hb:l b with
   | none=>rw[J3 hb];exact(e0.bs b o e).2
   | some z =>
    obtain⟨q,hq,rfl⟩:=p0.mp (l1 b z hb).2
    have:=(hj q hq).1
    exact absurd (p9 (d5 e) (x9 I1.ok.bsz this)) (B2 _)
  ·cases hb':l b with
   | none=>rw[J3 hb'];exact e0.frf b hb
   | some z =>
    obtain⟨q,hq,rfl⟩:=p0.mp (l1 b z hb').2
    exact absurd hb (nofr q hq)
 have hlen:us.length=ps.length:=by rw[<- r.length];exact F.len _ _ _ _ q'
 have hbind:=hb s1 us I1.kIn (by rw[B4];exact hlen)
 rw[B4]at hbind
 refine bJ6 (am7 (F.run X.A X.stack s1 (ao6 H1 l) ⟨us,[]⟩ us vs _ E0 hr e1 hbind r q') fun r s' hq=>?_)
 cases r with
 | error e=>exact False.elim hq
 | ok fl =>
  cases fl with
  | ret u =>
   obtain⟨v,H',os,bare,un,hok,rv,kept,qq⟩:=hq
   exact I1.after ⟨v,ac1 H' l,os,bare,un.outer l2 kept hok,hok.rmv kept,rv,qq⟩
  | next=>exact False.elim hq
  | brk=>exact False.elim hq
  | cont=>exact False.elim hq
end
def bW7 (P:Program)(w:World)(K:W.Frag)(mg:Str->Option Value)(base:Heap)(A:Around)(outer:List Env)(qual:Str)(scope:Scope)(cl:List (Str × Addr))(N':List Str)(f:Addr)(cv:Value)(s:Shared)(H:Hp):Cx where
 prog:=P
 w:=w
 K:=K
 mg:=mg
 base:=base
 A:=A.deeper (ar2 qual scope cl f cv s)
 N:=N'
 s₀:=s
 H₀:=H
 env:=ar2 qual scope cl f cv s
 outer:=outer
 stack:=List.cons (ar2 qual scope cl f cv s) outer
 ex:=[]
 fn:=fun _=>false
 calm:=true
 pn:=[]
 xe:=fun _ _=>False
def cl4 (f c':Addr)(qual:Str)(ob:Obj)(l:Addr->Option Obj)(cvs:St)(te:TE):Sp:=fun vs H Q _=>∃ a,vs=[a]/\H f=some (S8 f ob)/\H c'=some (aA4 c' qual)/\(∀ b o,l b=some o->H b=some (S8 b o)) /\
 te (some a::cvs) (ac1 H l) fun v' H'=>(∀ b o,l b=some o->H' b=none)->Q v' (ao6 H' l)
theorem ce0 {K:W.Frag}{mg:Str->Option Value}{base:Heap}{k:Nat}{p:Str}{body:Expr}{c':Addr}{pm ctv:Value}{cvs:St}
  (hkind:scope.kind=.function)(hco:scope.isCoroutine=false)(hgen:scope.isGenerator=false)(hfr:av3 scope.names cl=true)(hp:scope.names.lookup p=some .local)
  (hinj:∀ x y c,cl.lookup x=some c->cl.lookup y=some c->x=y)(hcl:∀ x c,cl.lookup x=some c->∃ o v,l c=some o/\o.data=.cell v)(hN:cvs.length=N'.length)
  (hv:∀ (i:Nat) (x:Str) (v:V),N'[i]?=some x->cvs[i]?=some (some v)->scope.names.lookup x=some .free/\∃ c o u,cl.lookup x=some c/\l c=some o/\o.data=.cell (some u)/\RelV v u)
  (he:∀ (A:Around) (outer:List Env) (s:Shared) (H:Hp),Z0 k (A.deeper (ar2 qual scope cl f (.ref c') s))->PE (bW7 P w K mg base A outer qual scope cl (p::N') f (.ref c') s H) body te) :
  A0 P w K mg base CX0 (k+1) f (PySem.W.kla_fn "<lambda>" qual params body scope cl pm (.ref c') ctv) [p] (cl4 f c' qual (PySem.W.kla_obj "<lambda>" qual params body scope cl pm c' ctv) l cvs te):=by
 refine⟨fun vs H Q E ⟨a,e,_⟩=>by rw[e];rfl,fun A outer s H args us vs Q E hr e0 hb r hsp=>?_⟩
 obtain⟨a,rfl,hf,hc,hl,ht⟩:=hsp
 obtain⟨u,rfl,ru⟩:=vals1 r
 have hmem:∀ y∈scope.names,y.2≠.cell/\(y.2=.free->(cl.lookup y.1).isSome=true):=fun y hy=>by
  unfold av3 at hfr
  rw[G8]at hfr
  have:=hfr y hy
  rw[C9]at this
  refine⟨by simpa using this.1,fun e=>?_⟩
  have h2:=this.2
  rw[e]at h2
  simpa using h2
 have at0:∀ b o,l b=some o->s.heap.get? b=some o:=fun b o e=>(e0.hok b _ (hl b o e)).1
 have nfr:∀ b o,l b=some o->b∉frs outer:=fun b o e z=>by
  have:=e0.frf b z
  rw[hl b o e]at this
  cases this
 have lim:s.heap.NoLimit:=e0.mod.nolimit.keeps fun b o e=>(e0.bs b o e).1
 refine PySem.W.kla_callFunE hr.depth (e0.hok f _ hf).1 rfl hco hgen rfl (e0.hok c' _ hc).1 (hb _ _ _ _ ?_)
 refine ah0 (fun y hy=>(hmem y hy).1) (fun y hy=>by rw[x8.mp hy];exact hp) (fun h1 hns hsb=>?_) hkind
 have hk:∀ b o,s.heap.get? b=some o->h1.get? b=some o:=fun b o e=>hsb.extBut b o (k9 (d5 e)) (c5 _ e)
 refine⟨lim.keeps hk,?_⟩
 show ar8 _ _ (.expr body (PySem.W.envX qual scope s.heap.objs.size f (.ref c') cl)) _ _
 have noE:∀ b:Addr,b∉([]:List Addr):=fun b z=>nomatch z
 have rn:∀ b,H b=none->ac1 H l b=none:=fun b n=>by
  cases hb:l b with
  | some z=>exact af8 hb
  | none=>rw[J4 hb];exact n
 have hC:ac1 H l s.heap.objs.size=none:=rn _ (e0.hok.fresh (c9 _))
 have I:Inv (bW7 P w K mg base A outer qual scope cl (p::N') f (.ref c') s (ac1 H l)) [] (some a::cvs) (ac1 H l) { s with heap:=h1,toks:=s.toks+[(p,u)].length }:=by
  refine⟨⟨e0.mod,hkind,rfl,rfl,c9 _,hinj,fun x hx=>?_,(fun x c e=>by cases e),fun _=>hr.hd,Around.frames_deeper e0.frames,.inr ⟨rfl,rfl⟩,fun b z=>absurd z (noE b),fun b o e=>⟨(e0.bs b o e).1,rn b (e0.bs b o e).2⟩,e0.bsz,fun b _ _=>noE b,fun b z=>absurd z (noE b),e0.funs,fun b hb=>rn b (e0.frf b hb)⟩,
   rfl,e0.bare,Un.kept hk,⟨_,hns,fun i x v e1 e2 e3=>?_⟩,fun x c e=>?_,hC,fun x c e=>?_,(fun q hq=>nomatch hq),(e0.hok.rmv hl).kept hk,?_⟩
  ·have hx':scope.names.lookup x=some .cell\/scope.names.lookup x=some .free:=hx
   rcases hx' with h | h
   ·exact absurd rfl (hmem _ (PySem.mem_of_lookup h)).1
   ·exact o9.mp ((hmem _ (PySem.mem_of_lookup h)).2 rfl)
  ·cases i with
   | zero =>
    have e1':p=x:=by simpa using (show (p::N')[0]?=some x from e1)
    have e2':a=v:=by simpa using (show (some a::cvs)[0]?=some (some v) from e2)
    subst e1' e2'
    refine⟨u,ru,.inl ⟨hp,?_⟩⟩
    show [(p,u)].reverse.lookup p=some u
    simp[E2]
   | succ i =>
    have e1':N'[i]?=some x:=by simpa using (show (p::N')[i+1]?=some x from e1)
    have e2':cvs[i]?=some (some v):=by simpa using (show (some a::cvs)[i+1]?=some (some v) from e2)
    obtain⟨hs,c,o,u',hc1,hc2,hd,rv⟩:=hv i x v e1' e2'
    exact⟨u',rv,.inr ⟨.inr hs,c,hc1,o,hk c o (at0 c o hc2),hd⟩⟩
  ·obtain⟨o,v,h1',h2'⟩:=hcl x c e
   exact⟨v,o,hk c o (at0 c o h1'),h2'⟩
  ·obtain⟨o,v,h1',h2'⟩:=hcl x c e
   exact af8 h1'
  ·show (some a::cvs).length=(p::N').length
   rw[p6,p6,hN]
 refine PySem.W.kla_codeExpr (E3 (he A outer s (ac1 H l) (hr.deeper _) [] _ _ (ac1 H l) _ I ht) (fun u' s' hq=>?_) fun _ _ z=>False.elim z)
 obtain⟨v',H',J,r',q⟩:=hq
 have un:Un (frs outer) [] (ac1 H l) H' s.heap s'.heap:=J.base
 have fr:∀ b o,l b=some o->H' b=none:=fun b o e=>un.free b o (at0 b o e) (af8 e) (noE b)
 exact⟨v',ao6 H' l,J.os,J.bare,un.inner hl,J.hok.trkd fun b o e=>⟨un.keep b o (at0 b o e) (af8 e) (nfr b o e) (noE b),fr b o e⟩,r',q fr⟩
def ca3 (P:Program)(w:World)(K:W.Frag)(mg:Str->Option Value)(base:Heap)(k i:Nat)(t:TA):TE:=fun σ H Q=>∃ (f:Addr) (ob:Obj) (fd:FuncData),σ[i]?=some (some (.ref f))/\H f=some (S8 f ob)/\ob.data=.func fd/\t σ H fun vs H1=>∃ (ps:List Str) (sp:Sp),H1 f=some (S8 f ob) /\
 A0 P w K mg base CX0 k f fd ps sp/\Binds K fd ps []/\sp vs H1 Q E0
theorem bB8 {k:Nat}{p:Pos}{t:TA}(hr:Z0 k X.A)(hN:X.N[i]?=some x)(hv:Vis X.env.scope x)(ha:PA X (e::es) t)(hd:(x == ("__debug__":Str))=false:=by decide)(hcd:(x == ("__classdict__":Str))=false:=by decide)
  (he:v9 (e::es) X.env=(false,eval e X.env)::v9 es X.env:=by rfl)(hpl:(V0 pos (v9 es X.env)).any (·.1)=false:=by rfl) :
  PE X (.Call (.Name x p) (e::es) [] pos) (ca3 X.prog X.w X.K X.mg X.base k i t):=by
 intro pins s σ H Q I h
 obtain⟨f,ob,fd,hσ,hf,hfd,h⟩:=h
 refine M0 (E3 (bB1 hN hv hd hcd pins s σ H (fun v H'=>v=.ref f/\H'=H) I ⟨_,hσ,rfl,rfl⟩) (fun u s0 hq=>?_) fun _ _ z=>z)
 obtain⟨v,H',I0,rv,rfl,rfl⟩:=hq
 cases rv
 have hfo:=(I0.hok f _ hf).1
 obtain⟨oc,od,odt,osl⟩:=ob
 have kin:∀ {hh:Heap},hh.get? f=some ⟨oc,od,odt,osl⟩->PySem.W.Frag.In [(f,⟨oc,od,odt,osl⟩)] hh:=fun {hh} e a o q=>by
  by_cases z:a=f
  ·subst z
   have:(some ⟨oc,od,odt,osl⟩:Option Obj)=some o:=by simpa [E2] using q
   rw[<- this];exact e
  ·have:(none:Option Obj)=some o:=by
    have zz:(a == f)=false:=by simpa using z
    simpa [E2,zz] using q
   cases this
 have hfd':odt=.func fd:=hfd
 subst hfd'
 refine PySem.W.callWith_K (K:=[(f,⟨oc,od,.func fd,osl⟩)]) (h₀:=s0.heap) (kin hfo) (by unfold U9;simp[E2]) (thn (ha pos pins s0 σ _ _ I0 h) fun us s1 ⟨vs,H1,I1,r,ps,sp,hf1,F,hb,q⟩=>⟨kin (I1.hok f _ hf1).1,?_⟩) he hpl
 have q':sp (vs++[]) H1 Q E0:=by rw[B4];exact q
 exact bA5 F hr hb .nil G6 I1 r q'
end L2
namespace L2
open PySem PySem.Spec PyProof.Rows PySem.SeqAt
def isI (z:Int):Value->Bool
 | .int c _=>c == z
 | _=>false
def bN9:V->List V->Hp->VK->Prop:=fun x vs H Q=>∃ (l:Addr) (ns:List Int) (z:Int) (j:Nat),x=.ref l/\vs=[.int z]/\H l=some (.lst (ns.map V.int))/\ns[j]?=some z/\(∀ m c,m<j->ns[m]?=some c->c≠z)/\j<1000/\Q (.int j) H
theorem bt1:MtM X "list.index" bN9:=by
 intro pins s σ H x vs v us Q I rx rv h
 obtain⟨l,ns,z,j,rfl,rfl,hH,hj,hno,hj1,q⟩:=h
 cases rx
 obtain⟨u,rfl,ru⟩:=vals1 rv
 obtain⟨t,rfl⟩:=ru
 obtain⟨zz,its,n,r,hl,e⟩:=I.lstM hH
 have hlen:=r.length
 rw[b8]at hlen
 have hjl:j<ns.length:=by
  rcases A1 j ns.length with h | h
  ·exact h
  ·rw[o7 h]at hj;cases hj
 have at_:∀ m (hm:m<ns.length),∃ t',its[m]?=some (.int ns[m] t'):=fun m hm=>by
  obtain⟨u,hu,ru⟩:=r.get (x:=.int ns[m]) (i:=m) (by rw[o5,c7 hm];rfl)
  obtain⟨t',rfl⟩:=ru
  exact⟨t',hu⟩
 have hsz:its.toArray.size=ns.length:=by rw[i9];omega
 refine aU6 F.slot_list_index ⟨_,e,rfl⟩ F.entry_list_index (F.args_list_index_2 _ _) (list_indexAt l its.toArray n none #[] (.int z t) (isI z) j (by rw[hsz];exact hjl) (by omega) ?_ ?_) ⟨e,fun y hy=>?_,?_⟩
 ·obtain⟨t',ht⟩:=at_ j hjl
  rw[c7 (by omega)]at ht
  injection ht with ht
  rw[c7 hjl]at hj
  injection hj with hj
  show isI z (its.toArray[j]'(by rw[hsz];exact hjl))=true
  rw[bK4,ht,hj]
  simp[isI]
 ·intro m hm hmj
  have hml:m<ns.length:=by rw[hsz]at hm;exact hm
  obtain⟨t',ht⟩:=at_ m hml
  rw[c7 (by omega)]at ht
  injection ht with ht
  have:=hno m ns[m] hmj (c7 hml)
  rw[bK4,ht]
  simp[isI,this]
 ·obtain⟨m,hm,e⟩:=V3.mp (show y∈its by simpa using hy)
  obtain⟨t',ht⟩:=at_ m (by omega)
  rw[c7 hm,e]at ht
  injection ht with ht
  subst ht
  exact EqAt.int_int _ _ _ _
 ·exact⟨.int j,H,I.tok _,⟨_,rfl⟩,q⟩
end L2
namespace Web
open L2
open Grf (S b2 Gph deg cnt sm Top roomF)
def sk (p i:Nat):Nat:=if i<p then i else i+1
theorem bW0 (p i:Nat):sk p i≠p:=by unfold sk;split<;>omega
theorem bW1 (h:i<n - 1)(hp:p<n):sk p i<n:=by unfold sk;split<;>omega
theorem bi9 (f:Nat->Int):∀ {n:Nat},p<n->S n f=S (n - 1) (fun j=>f (sk p j))+f p
 | n+1,h=>by
  show S n f+f n=S n (fun j=>f (sk p j))+f p
  by_cases e:p=n
  ·subst e
   rw[Grf.r9 (g:=fun j=>f (sk p j)) fun i hi=>by show f i=f (sk p i);unfold sk;rw[if_pos hi]]
  ·have hp:p<n:=by omega
   rw[bi9 f hp]
   obtain⟨m,rfl⟩:∃ m,n=m+1:=⟨n - 1,by omega⟩
   have e1:sk p m=m+1:=by unfold sk;rw[if_neg (by omega)]
   show S m (fun j=>f (sk p j))+f p+f (m+1)=S m (fun j=>f (sk p j))+f (sk p m)+f p
   rw[e1]
   omega
theorem ae4:∀ {n:Nat},p<n->(p5 n).filter (fun i=>decide (i≠p))=(p5 (n - 1)).map (sk p)
 | n+1,h=>by
  rw[D0,L5,ak2]
  by_cases e:p=n
  ·subst e
   have e1:[p].filter (fun i=>decide (i≠p))=[]:=by simp
   rw[e1,B4,List.filter_eq_self.mpr fun a ha=>decide_eq_true (by have:=v8.mp ha;omega)]
   conv=>lhs;rw[<- List.map_id (p5 p)]
   exact K1 fun a ha=>by
    show a=sk p a
    unfold sk;rw[if_pos (v8.mp ha)]
  ·have hp:p<n:=by omega
   have e1:[n].filter (fun i=>decide (i≠p))=[n]:=by
    rw[ap9,if_pos (decide_eq_true (Ne.symm e))];rfl
   rw[e1,ae4 hp]
   obtain⟨m,rfl⟩:∃ m,n=m+1:=⟨n - 1,by omega⟩
   have e2:sk p m=m+1:=by unfold sk;rw[if_neg (by omega)]
   rw[ak2,D0 (n:=m),j9,List.map_singleton,e2]
theorem ba7 {es:List Int}(h:p<ns.length):X4 ns p es=(p5 (ns.length - 1)).map fun i=>ae0 ns es (sk p i):=by
 unfold X4
 rw[ae4 h,M4]
 rfl
theorem an8 {es:List Int}(h:p<ns.length):(X4 ns p es).length=ns.length - 1:=by rw[ba7 h,b8,y7]
theorem aM5 {es:List Int}(h:p<ns.length)(hi:i<ns.length - 1):(X4 ns p es).getD i 0=ae0 ns es (sk p i):=by
 rw[ba7 h,c8,o5,J9 hi]
 rfl
theorem bn7 (h:Gr ns)(hi:i<ns.length):ns.getD i 0<ns.length:=by
 obtain⟨g,hg,hd⟩:=h
 rw[<- hd i hi]
 unfold deg
 rw[bi9 (p:=i) _ hi,hg.irr]
 have h1:S (ns.length - 1) (fun j=>b2 (g i (sk i j)))<=S (ns.length - 1) (fun _=>1):=Grf.af2 fun j _=>Grf.aO4 _
 rw[Grf.P7]at h1
 have:b2 false=0:=rfl
 omega
theorem bS1 {es:List Int} (h:Gr ns) (hp:p<ns.length) (nd:es.Nodup) (he:∀ z∈es,0<=z/\z<ns.length/\z≠p) (hl:(es.length:Int)=ns.getD p 0)
  (ht:∀ x∈es,∀ y:Nat,y<ns.length->(y:Int)∉es->y≠p->ns.getD y 0<=ns.getD x.toNat 0):Gr (X4 ns p es):=by
 obtain⟨g,hg,hd⟩:=h
 have hs:S ns.length (fun j=>b2 (decide ((j:Int)∈es)))=(es.length:Int):=by
  rw[Grf.r9 (g:=fun i=>if (i:Int)∈es then 1 else 0) fun i _=>by
   by_cases e:(i:Int)∈es
   ·rw[decide_eq_true e,if_pos e];rfl
   ·rw[decide_eq_false e,if_neg e];rfl]
  rw[bd4 (f:=fun _=>1) nd fun z hz=>⟨(he z hz).1,(he z hz).2.1⟩]
  clear he hl ht nd
  induction es with
  | nil=>rfl
  | cons a es ih=>rw[m8,G2,ih,p6];omega
 have hNp:decide ((p:Int)∈es)=false:=decide_eq_false fun m=>(he _ m).2.2 rfl
 have hm:0<=S ns.length (fun j=>b2 (decide ((j:Int)∈es) && !g p j)):=Grf.T6 fun i _=>Grf.E1 _
 obtain⟨g',k1,k2,k3⟩:=Grf.co6 (N:=fun j=>decide ((j:Int)∈es)) hp hNp (S ns.length (fun j=>b2 (decide ((j:Int)∈es) && !g p j))).toNat g hg (by rw[hs,hl,hd p hp])
  (fun x y hx hy hNx hNy hyp => by
   rw[hd x hx,hd y hy]
   have:=ht x (of_decide_eq_true hNx) y hy (of_decide_eq_false hNy) hyp
   rw[m7]at this
   exact this) (by omega)
 refine⟨fun i j=>g' (sk p i) (sk p j),⟨fun i j=>k1.sym _ _,fun i=>k1.irr _⟩,fun i hi=>?_⟩
 rw[an8 hp]at hi ⊢
 rw[aM5 hp hi]
 have hsk:=bW1 (p:=p) hi hp
 have e1:=k2 _ hsk
 rw[hd _ hsk]at e1
 have e2:deg ns.length g' (sk p i)=S (ns.length - 1) (fun j=>b2 (g' (sk p i) (sk p j)))+b2 (g' (sk p i) p):=bi9 (p:=p) _ hp
 rw[e2,k1.sym (sk p i) p,k3 _ hsk]at e1
 show S (ns.length - 1) (fun j=>b2 (g' (sk p i) (sk p j)))=_
 generalize S (ns.length - 1) (fun j=>b2 (g' (sk p i) (sk p j)))=q at e1
 unfold ae0
 by_cases e:((sk p i:Nat):Int)∈es
 ·rw[decide_eq_true e]at e1
  rw[if_pos e]
  have:b2 true=1:=rfl
  omega
 ·rw[decide_eq_false e]at e1
  rw[if_neg e]
  have:b2 false=0:=rfl
  omega
theorem bG0 (h:Gr ns)(hp:p<ns.length)(hz:zs.Perm (rng ns.length))(hs:zs.Pairwise (ole ns)):Gr (X4 ns p ((rest zs p).take (ns.getD p 0).toNat)):=by
 have nz:(rest zs p).Nodup:=(hz.nodup_iff.mpr (Y0 ns.length)).filter _
 have srt:(rest zs p).Pairwise (ole ns):=hs.filter _
 have h1:=bn7 h hp
 have h0:=W5 (aH2 h) hp
 have hl:=aX8 hz (p:=p) (by omega) (by omega)
 refine bS1 h hp (nz.sublist (M7 _ _)) (fun z m=>?_) ?_ (fun x hx y hy hny hyp=>?_)
 ·obtain⟨m1,m2⟩:=aF0.mp (G4 m)
  obtain⟨c0,c1⟩:=T8.mp (hz.mem_iff.mp m1)
  exact⟨c0,c1,m2⟩
 ·rw[q8]
  omega
 ·have hyr:(y:Int)∈rest zs p:=aF0.mpr ⟨hz.mem_iff.mpr (T8.mpr ⟨by omega,by omega⟩),by omega⟩
  have e:=B6 (ns.getD p 0).toNat (rest zs p)
  rw[<- e]at hyr srt
  rcases u6.mp hyr with m | m
  ·exact absurd m hny
  ·have:=(A3.mp srt).2.2 x hx y m
   rcases at6.mp this with t | t
   ·rw[m7]at t;omega
   ·rw[m7]at t;omega
end Web
namespace Web
open L2
theorem up_eq {a b c d:Int}(h:up [a,b]=up [c,d]):(a=c/\b=d)\/(a=d/\b=c):=by
 unfold up at h
 injection h with h1 h2
 injection h2 with h2 _
 split at h1<;>split at h1<;>split at h2<;>split at h2<;>omega
def star (a:Int)(bs:List Int):List (List Int):=bs.map fun b=>[a,b]
theorem aH8 {a:Int}{q:Nat}:∀ {bs:List Int},a∉bs->N6 (star a bs) q=if (q:Int)=a then bs.length else bs.count (q:Int)
 | [],_=>by
  split<;>rfl
 | b::bs,h=>by
  have hb:a≠b:=fun e=>h (e ▸ f9)
  have hbs:a∉bs:=fun m=>h (d6 _ m)
  have ih:=aH8 (q:=q) hbs
  unfold star N6 at ih ⊢
  rw[m8,N9,ih,List.count_cons,p6]
  by_cases e:(q:Int)=a
  ·rw[if_pos e,if_pos e,if_pos (decide_eq_true (by rw[e];exact f9))]
  ·rw[if_neg e,if_neg e]
   by_cases e2:(q:Int)=b
   ·rw[if_pos (decide_eq_true (by rw[e2];exact d6 _ f9)),if_pos (by rw[e2];exact beq_self_eq_true b)]
   ·rw[if_neg (by
     intro z
     have:=of_decide_eq_true z
     rcases d7.mp this with t | t
     ·exact e t
     ·exact e2 (x8.mp t)),if_neg (by rw[beq_iff_eq];exact fun z=>e2 z.symm)]
theorem ay6 {q:Int}:∀ {bs:List Int},bs.Nodup->bs.count q=if q∈bs then 1 else 0
 | [],_=>by rw[if_neg (by simp)];rfl
 | b::bs,nd=>by
  obtain⟨h1,h2⟩:=B5.mp nd
  rw[List.count_cons,ay6 h2]
  by_cases e:b=q
  ·subst e
   rw[if_neg h1,if_pos f9,if_pos (beq_self_eq_true b)]
  ·rw[show (b == q)=false from beq_eq_false_iff_ne.mpr e]
   by_cases m:q∈bs
   ·rw[if_pos m,if_pos (d6 _ m)];rfl
   ·have m2:¬ q∈b::bs:=fun z=>by
     rcases d7.mp z with t | t
     ·exact e t.symm
     ·exact m t
    rw[if_neg m,if_neg m2];rfl
structure am4 (ns ps left:List Int) (ks:List (List Int)):Prop where
 len:left.length=ps.length
 nd:ps.Nodup
 inn:∀ q∈ps,0<=q/\q<ns.length
 ends:∀ k∈ks,aA3 ns.length k
 nodup:(ks.map up).Nodup
 out:∀ a b:Int,[a,b]∈ks->¬ (a∈ps/\b∈ps)
 cnt:∀ i q:Nat,ps[i]?=some (q:Int)->(N6 ks q:Int)+left.getD i 0=ns.getD q 0
 done:∀ q:Nat,q<ns.length->(q:Int)∉ps->(N6 ks q:Int)=ns.getD q 0
theorem aZ6 {ps:List Int}(nd:ps.Nodup){a:Int}(h1:ps[i]?=some a)(h2:ps[j]?=some a):i=j:=by
 have hi:i<ps.length:=by
  rcases A1 i ps.length with h | h
  ·exact h
  ·rw[o7 h]at h1;cases h1
 exact(List.getElem?_inj hi nd).mp (h1.trans h2.symm)
theorem bo1 {ps:List Int}{a:Int}(h:ps[i]?=some a):ps.getD i 0=a:=by rw[c8,h];rfl
theorem bi0 {ps:List Int}(h:i<ps.length):ps[i]?=some (ps.getD i 0):=by
 rw[c8,c7 h];rfl
theorem am4.step {ps left ps' es:List Int}{a:Int}(h:am4 ns ps left ks)(hj:ps[j]?=some a)(sub:ps'.Sublist ps)(hl:ps'.length=ps.length - 1)(hix:∀ i,i<ps.length - 1->ps'[i]?=ps[sk j i]?)
  (ne:es.Nodup)(he:∀ z∈es,0<=z/\z<ps.length/\z≠j)(hn:(es.length:Int)=left.getD j 0) :
  am4 ns ps' (X4 left j es) (ks++star a (es.map fun z=>ps.getD z.toNat 0)):=by
 have hjl:j<ps.length:=by
  rcases A1 j ps.length with h | h
  ·exact h
  ·rw[o7 h]at hj;cases hj
 have hjl':j<left.length:=by rw[h.len];exact hjl
 have haps:a∈ps:=d8 hj
 have bget:∀ z∈es,ps[z.toNat]?=some (ps.getD z.toNat 0):=fun z hz=>bi0 (by have:=he z hz;omega)
 have bmem:∀ b∈es.map (fun z=>ps.getD z.toNat 0),b∈ps:=fun b hb=>by
  obtain⟨z,hz,rfl⟩:=p0.mp hb
  exact d8 (bget z hz)
 have anb:a∉es.map (fun z=>ps.getD z.toNat 0):=fun m=>by
  obtain⟨z,hz,e⟩:=p0.mp m
  have h1:=bget z hz
  rw[e]at h1
  have:=aZ6 h.nd h1 hj
  have:=he z hz
  omega
 have ndb:(es.map (fun z=>ps.getD z.toNat 0)).Nodup:=by
  refine J2.mpr ?_
  rw[M9]
  refine List.Pairwise.imp_of_mem ?_ (J2.mp ne)
  intro x y hx hy hxy e
  have h1:=bget x hx
  rw[e]at h1
  have:=aZ6 h.nd h1 (bget y hy)
  have:=he x hx
  have:=he y hy
  exact hxy (by omega)
 have ap:a∉ps':=fun m=>by
  obtain⟨i,hi⟩:=o6.mp m
  have hil:i<ps.length - 1:=by
   rcases A1 i ps'.length with h | h
   ·omega
   ·rw[o7 h]at hi;cases hi
  rw[hix i hil]at hi
  exact bW0 j i (aZ6 h.nd hi hj)
 have bin:∀ (i q:Nat),ps[i]?=some (q:Int)->((q:Int)∈es.map (fun z=>ps.getD z.toNat 0)↔(i:Int)∈es):=fun i q hi=>by
  constructor
  ·intro m
   obtain⟨z,hz,e⟩:=p0.mp m
   have h1:=bget z hz
   rw[e]at h1
   have:=aZ6 h.nd h1 hi
   have:=he z hz
   rwa [show (i:Int)=z by omega]
  ·intro m
   refine p0.mpr ⟨i,m,?_⟩
   rw[m7]
   exact bo1 hi
 refine⟨by rw[an8 hjl',hl,h.len],h.nd.sublist sub,fun q hq=>h.inn q (sub.subset hq),fun k hk=>?_,?_,fun c d hk=>?_,fun i q hi=>?_,fun q hq hnq=>?_⟩
 ·rcases u6.mp hk with hk | hk
  ·exact h.ends k hk
  ·obtain⟨b,hb,rfl⟩:=p0.mp hk
   have h1:=h.inn a haps
   have h2:=h.inn b (bmem b hb)
   have h3:a≠b:=fun e=>anb (e ▸ hb)
   exact⟨a.toNat,b.toNat,by omega,by omega,by omega,by rw[bX7 h1.1,bX7 h2.1]⟩
 ·rw[j9,aL0]
  refine⟨h.nodup,?_,fun x hx y hy e=>?_⟩
  ·unfold star
   rw[M4]
   refine J2.mpr ?_
   rw[M9]
   refine List.Pairwise.imp_of_mem ?_ (J2.mp ndb)
   intro x y hx hy hxy e
   rcases up_eq e with t | t
   ·exact hxy t.2
   ·exact anb (t.1 ▸ hy)
  ·obtain⟨k,hk,rfl⟩:=p0.mp hx
   obtain⟨k2,hk2,rfl⟩:=p0.mp hy
   obtain⟨b,hb,rfl⟩:=p0.mp hk2
   obtain⟨u,v,_,_,_,rfl⟩:=h.ends k hk
   refine h.out _ _ hk ?_
   rcases up_eq e with t | t
   ·rw[t.1,t.2];exact⟨haps,bmem b hb⟩
   ·rw[t.1,t.2];exact⟨bmem b hb,haps⟩
 ·rcases u6.mp hk with hk | hk
  ·exact fun z=>h.out c d hk ⟨sub.subset z.1,sub.subset z.2⟩
  ·obtain⟨b,hb,e⟩:=p0.mp hk
   injection e with e1 _
   intro z
   exact ap (e1 ▸ z.1)
 ·have hil:i<ps.length - 1:=by
   rcases A1 i ps'.length with h | h
   ·omega
   ·rw[o7 h]at hi;cases hi
  rw[hix i hil]at hi
  have hc:=h.cnt _ q hi
  have hqa:¬ (q:Int)=a:=fun e=>by
   rw[e]at hi
   exact bW0 j i (aZ6 h.nd hi hj)
  rw[aM5 hjl' (by rw[h.len];exact hil),aH9,aH8 anb,if_neg hqa,ay6 ndb]
  unfold ae0
  by_cases m:((sk j i:Nat):Int)∈es
  ·rw[if_pos ((bin _ q hi).mpr m),if_pos m];omega
  ·rw[if_neg (fun z=>m ((bin _ q hi).mp z)),if_neg m];omega
 ·rw[aH9,aH8 anb]
  by_cases e:(q:Int)=a
  ·have hc:=h.cnt j q (by rw[e];exact hj)
   rw[if_pos e,b8]
   omega
  ·rw[if_neg e,ay6 ndb]
   have hq':(q:Int)∉ps:=fun m=>by
    obtain⟨m',hm'⟩:=o6.mp m
    have hml:m'<ps.length:=by
     rcases A1 m' ps.length with h | h
     ·exact h
     ·rw[o7 h]at hm';cases hm'
    have hmj:m'≠j:=fun z=>by rw[z,hj]at hm';injection hm' with hm';exact e hm'.symm
    obtain⟨i,hi,hik⟩:∃ i,i<ps.length - 1/\sk j i=m':=by
     rcases A1 m' j with t | t
     ·exact⟨m',by omega,by unfold sk;rw[if_pos t]⟩
     ·exact⟨m' - 1,by omega,by unfold sk;rw[if_neg (by omega)];omega⟩
    have:=hix i hi
    rw[hik,hm']at this
    exact hnq (d8 this)
   rw[if_neg (fun m=>hq' (bmem _ m)),h.done q hq hq' |>.symm]
   omega
theorem am4.last {left:List Int}(h:am4 ns [] left ks):tal ns.length ks=ns:=by
 apply M8
 intro i
 rcases A1 i ns.length with hi | hi
 ·rw[aa8 hi,h.done i hi (by simp),bi0 hi]
 ·rw[o7 (by rw[P3];exact hi),o7 hi]
theorem aQ6 (h:i<n):(rng n)[i]?=some (i:Int):=by
 unfold rng
 rw[o5,List.getElem?_range' h]
 simp
theorem am4.first (ns:List Int):am4 ns (rng ns.length) ns [] where
 len:=(ad7 _).symm
 nd:=Y0 _
 inn:=fun q hq=>T8.mp hq
 ends:=fun k hk=>absurd hk (by simp)
 nodup:=by simp
 out:=fun a b hk=>absurd hk (by simp)
 cnt:=fun i q hi=>by
  have hil:i<ns.length:=by
   rcases A1 i (rng ns.length).length with h | h
   ·rw[ad7]at h;exact h
   ·rw[o7 h]at hi;cases hi
  rw[aQ6 hil]at hi
  injection hi with hi
  rw[show q=i by omega]
  show (0:Int)+_=_
  omega
 done:=fun q hq hn=>absurd (T8.mpr ⟨by omega,by omega⟩) hn
theorem aF9:∀ {xs ys:List Int},xs.Perm ys->xs.Pairwise (ole ns)->ys.Pairwise (ole ns)->xs=ys
 | [],ys,p,_,_=>p.symm.eq_nil.symm
 | x::xs,[],p,_,_=>by
  have:=p.length_eq
  simp at this
 | x::xs,y::ys,p,h,q=>by
  have hxy:x=y:=by
   have h1:x∈y::ys:=p.mem_iff.mp f9
   have h2:y∈x::xs:=p.mem_iff.mpr f9
   rcases d7.mp h1 with e | e
   ·exact e
   ·rcases d7.mp h2 with e2 | e2
    ·exact e2.symm
    ·exact aY9 ((F9.mp h).1 y e2) ((F9.mp q).1 x e)
  subst hxy
  rw[aF9 ((List.perm_cons x).mp p) (F9.mp h).2 (F9.mp q).2]
theorem aZ4:∀ {l m:List (List Int)},l.Nodup->(∀ x∈l,x∈m)->l.length<=m.length
 | [],m,_,_=>t8 _
 | x::l,m,nd,h=>by
  have h1:=B5.mp nd
  have hm:=h x f9
  have h2:∀ y∈l,y∈m.erase x:=fun y hy=>by
   have hne:y≠x:=fun e=>h1.1 (e ▸ hy)
   exact(List.mem_erase_of_ne hne).mpr (h y (d6 _ hy))
  have h3:=aZ4 h1.2 h2
  rw[bq1 hm]at h3
  have h4:0<m.length:=bw5 hm
  simp only[p6]
  omega
theorem bZ1 (hn:n<=24)(nd:ks.Nodup)(h:∀ k∈ks,Up n k):ks.length<=276:=
 x9 (aZ4 nd fun k hk=>by
  obtain⟨i,j,h1,h2,rfl⟩:=h k hk
  exact aR2 h1 h2) (ab8 n hn)
theorem am4.len_le {ps left:List Int}(h:am4 ns ps left ks)(hn:ns.length<=24):ks.length<=276:=by
 have:=bZ1 hn h.nodup fun k hk=>by
  obtain⟨k',hk',rfl⟩:=p0.mp hk
  exact(h.ends k' hk').up
 rw[b8]at this
 exact this
theorem bH6 {q:Nat}:∀ {ks:List (List Int)},(∀ k∈ks,aA3 n k)->N6 (ks.map up) q=N6 ks q
 | [],_=>rfl
 | k::ks,h=>by
  have ih:=bH6 (q:=q) fun k hk=>h k (d6 _ hk)
  unfold N6 at ih ⊢
  rw[m8,N9,N9,ih]
  congr 1
  obtain⟨i,j,_,_,_,rfl⟩:=h k f9
  have e:((q:Int)∈up [(i:Int),(j:Int)])↔(q:Int)∈[(i:Int),(j:Int)]:=by
   unfold up
   simp only[d7,C2,or_false]
   split<;>split<;>omega
  by_cases z:(q:Int)∈[(i:Int),(j:Int)]
  ·rw[decide_eq_true z,decide_eq_true (e.mpr z)]
  ·rw[decide_eq_false z,decide_eq_false (fun t=>z (e.mp t))]
theorem bZ6 (h:∀ k∈ks,aA3 n k):tal n (ks.map up)=tal n ks:=by
 unfold tal
 refine K1 fun p _=>?_
 rw[bH6 h]
noncomputable def bO7 (ns:List Int):List Int:=Classical.choose (am0 ns)
theorem ag3 (ns:List Int):(bO7 ns).Perm (rng ns.length):=(Classical.choose_spec (am0 ns)).1
theorem aM3 (ns:List Int):(bO7 ns).Pairwise (ole ns):=(Classical.choose_spec (am0 ns)).2
theorem bm5 (hp:zs.Perm (rng ns.length))(hs:zs.Pairwise (ole ns)):zs=bO7 ns:=aF9 (hp.trans (ag3 ns).symm) hs (aM3 ns)
noncomputable def chF (ns:List Int)(p:Nat):List Int:=(rest (bO7 ns) p).take (ns.getD p 0).toNat
theorem bH8 (ns:List Int)(p:Nat):(chF ns p).Nodup:=(((ag3 ns).nodup_iff.mpr (Y0 ns.length)).filter _).sublist (M7 _ _)
theorem bi5 {z:Int}(h:z∈chF ns p):0<=z/\z<ns.length/\z≠p:=by
 obtain⟨m1,m2⟩:=aF0.mp (G4 h)
 obtain⟨c0,c1⟩:=T8.mp ((ag3 ns).mem_iff.mp m1)
 exact⟨c0,c1,m2⟩
theorem aS7 (h:Gr ns)(hp:p<ns.length):((chF ns p).length:Int)=ns.getD p 0:=by
 have h1:=bn7 h hp
 have h0:=W5 (aH2 h) hp
 have hl:=aX8 (ag3 ns) (p:=(p:Int)) (by omega) (by omega)
 unfold chF
 rw[q8]
 omega
theorem bH9 (h:Gr ns)(hp:p<ns.length):Gr (X4 ns p (chF ns p)):=bG0 h hp (ag3 ns) (aM3 ns)
noncomputable def bE2:Nat->List Int->List Int->List (List Int)
 | 0,_,_=>[]
 | m+1,left,ps=>star (ps.getD 0 0) ((chF left 0).map fun z=>ps.getD z.toNat 0)++bE2 m (X4 left 0 (chF left 0)) (ps.drop 1)
theorem am4.go {ps left:List Int}(h:am4 ns ps left ks)(hg:Gr left)(h0:0<left.length) :
  am4 ns (ps.drop 1) (X4 left 0 (chF left 0)) (ks++star (ps.getD 0 0) ((chF left 0).map fun z=>ps.getD z.toNat 0)):=by
 have hl:=h.len
 refine h.step (bi0 (by omega)) (ab5 1 ps) (by rw[F3]) (fun i hi=>?_) (bH8 left 0) (fun z hz=>?_) (aS7 hg h0)
 ·rw[S9]
  congr 1
  unfold sk
  rw[if_neg (by omega)]
  omega
 ·have:=bi5 hz
  omega
def O4 (n p:Nat):List Int:=((p5 n).filter fun i=>decide (i≠p)).map fun i:Nat=>(i:Int)
theorem am4.start {es:List Int}(hp:p<ns.length)(ne:es.Nodup)(he:∀ z∈es,0<=z/\z<ns.length/\z≠p)(hn:(es.length:Int)=ns.getD p 0):am4 ns (O4 ns.length p) (X4 ns p es) (star p es):=by
 have:=(am4.first ns).step (j:=p) (a:=(p:Int)) (ps':=O4 ns.length p) (es:=es) (aQ6 hp) ?_ ?_ ?_ ne (fun z hz=>by rw[ad7];exact he z hz) hn
 ·have e:es.map (fun z=>(rng ns.length).getD z.toNat 0)=es:=by
   conv=>rhs;rw[<- List.map_id es]
   refine K1 fun z hz=>?_
   have:=he z hz
   rw[bo1 (aQ6 (n:=ns.length) (i:=z.toNat) (by omega))]
   show ((z.toNat:Nat):Int)=z
   omega
  rw[e,Q3]at this
  exact this
 ·unfold O4 rng
  rw[<- az4]
  exact List.Sublist.map _ X3
 ·unfold O4
  rw[ae4 hp,b8,b8,y7,ad7]
 ·intro i hi
  rw[ad7]at hi
  unfold O4
  rw[ae4 hp,o5,o5,J9 hi,aQ6 (bW1 hi hp)]
  rfl
end Web
namespace Tim
open PySem PyProof.Rows
section
variable {p:Array (Nat × Nat × Nat)} {O:aP0} {f:Keyed->O.α}
end
end Tim
namespace L2
open PySem PySem.Spec PyProof.Rows
end L2
namespace HT
open PySem PyProof.Rows
theorem bA6 (A:Around)(s:Shared)(a:Int)(t:Tok)(c:Int)(u:Tok)(prog:Program)(w:World)(E:Value->Shared->Prop)(Q:Value->Shared->Prop)(h:Q (.bool (decide (a<=c))) s) :
  p8 (t9 prog w) A (richCompare .LtE (.int a t) (.int c u)) Q E s:=
 (PyProof.Rows.le_int h:p8 (t9 prog w) A (F4 .LtE (.int a t) (.int c u)) Q E s)
section
open PySem.SeqAt
open PySem.AutoSeq1 (wpAny_loadPart')
open PySem.MeetsSeq PySem.MeetsSeq2 PySem.MeetsSeq3
theorem aK2 (l b:Addr) (items items2:Array Value) (n n2:Nat) (dd dd2:Option Addr) (sl sl2:Array (Option Value)) (ns ms:List Int) (hi:J7 items.toList ns) (hj:J7 items2.toList ms) (hlm:ns.length=ms.length) :
  Meets (Builtin.«tuple.__le__» ⟨[.ref l,.ref b],[]⟩)
   (fun _ R s => s.heap.get? l = some { cls := .type "tuple", dict := dd, data := .seq items n, slots := sl } /\ s.heap.get? b = some { cls := .type "tuple", dict := dd2, data := .seq items2 n2, slots := sl2 } /\
    R (.ok (.ret (.bool (!lexLt ms ns)))) s):=
 .of_wp fun prog w A R s h=>by
  obtain⟨hp,g,d,tk,os⟩:=s;obtain⟨hl,hb,h⟩:=h
  have f2:=AutoSeq1.sub_tuple_tuple
  have z1:items.size=ns.length:=by rw[<- hi.length];simp
  have z2:items2.size=ms.length:=by rw[<- hj.length];simp
  wp_walk using wpAny_loadPart' hl,wpAny_loadPart' hb,av8 _ (fun rest b s'=>b.1=none/\s'=⟨hp,g,d,tk,os⟩/\∃ (vs ws:List Value) (ns' ms':List Int),rest=vs.zip ws /\
   J7 vs ns'/\J7 ws ms'/\ns'.length=ms'.length/\R (.ok (.ret (.bool (!lexLt ms' ns')))) ⟨hp,g,d,tk,os⟩) _
  case turn =>
   rintro⟨y,x⟩ rest b s' ⟨hb',rfl,vs,ws,ns',ms',hz,hvi,hwi,hlen,hR⟩
   cases hvi with
   | nil=>rw[List.zip_nil_left]at hz;cases hz
   | cons a t hvi' =>
    cases hwi with
    | nil=>rw[List.zip_nil_right]at hz;cases hz
    | cons c u hwi' =>
     rw[Z1]at hz
     injection hz with hyx hrest
     injection hyx with hy hx
     subst hy hx
     rw[ai3]at hR
     simp only[p6]at hlen
     obtain⟨e,he,hiff⟩:=bH0 A.in1 ⟨hp,g,d,tk,os⟩ a t c u
     refine b7 (he prog w _ _ ?_)
     cases e with
     | true =>
      rw[if_pos (hiff.mp rfl).symm]at hR
      wp_walk
      exact⟨rfl,rfl,_,_,_,_,hrest,hvi',hwi',by omega,hR⟩
     | false =>
      rw[if_neg (fun q=>absurd (hiff.mpr q.symm) i7)]at hR
      have hri:=bA6 A.in1 ⟨hp,g,d,tk,os⟩ a t c u prog w
      wp_walk using hri
      refine⟨_,rfl,?_⟩
      have e2:decide (a<=c)=!decide (c<a):=by
       by_cases q:c<a
       ·rw[decide_eq_true q,decide_eq_false (by omega)];rfl
       ·rw[decide_eq_false q,decide_eq_true (by omega)];rfl
      simpa [e2] using hR
  case fin =>
   rintro⟨b1,b2⟩ s' ⟨hb',rfl,vs,ws,ns',ms',hz,hvi,hwi,hlen,hR⟩
   simp only at hb'
   subst hb'
   have hv:lexLt ms' ns'=false:=by
    cases hvi with
    | nil =>
     cases hwi with
     | nil=>rfl
     | cons _ _ _=>simp at hlen
    | cons _ _ _ =>
     cases hwi with
     | nil=>simp at hlen
     | cons _ _ _=>rw[Z1]at hz;cases hz
   rw[hv]at hR
   wp_walk
   refine⟨_,rfl,?_⟩
   simpa [z1,z2,hlm,Builtin.Tuple.tupleCompareSizes] using hR
  exact⟨rfl,rfl,_,_,_,_,rfl,hi,hj,hlm,h⟩
end
end HT
namespace L2
open PySem PySem.Spec PyProof.Rows
def cr8 (K:W.Frag):R2:=fun x y H Q=>∃ a b ns ms,x=.ref a/\y=.ref b/\SqT K H a (ns.map V.int)/\SqT K H b (ms.map V.int)/\ns.length=ms.length/\Q (.bl (!HT.lexLt ms ns)) H
theorem cc2 (hu:X.A.units<ae8):OpR X (F4 .LtE) (cr8 X.K):=by
 intro pins s σ H x y v u Q I rx ry h
 obtain⟨a,b,ns,ms,rfl,rfl,ha,hb,hl,q⟩:=h
 cases rx
 cases ry
 obtain⟨its,r1,p1,_⟩:=I.tuple ha
 obtain⟨its2,r2,p2,_⟩:=I.tuple hb
 have i1:J7 its.toArray.toList ns:=intsAre_of r1
 have i2:J7 its2.toArray.toList ms:=intsAre_of r2
 obtain⟨⟨cls,dd,data,sl⟩,ho,hc,n,hd⟩:=id p1
 obtain⟨⟨cls2,dd2,data2,sl2⟩,ho2,hc2,n2,hd2⟩:=id p2
 simp only at hc hd hc2 hd2
 subst hc hd hc2 hd2
 exact richCompare_meets_room (op:=.LtE) ⟨_,ho,rfl⟩ ⟨_,ho2,rfl⟩ PySem.F.slot_tuple_le PySem.F.entry_tuple_le (PySem.F.args_tuple_le_2 _ _) (HT.aK2 a b its.toArray its2.toArray n n2 dd dd2 sl sl2 ns ms i1 i2 hl)
  ⟨ho,ho2,show Value.bool (!HT.lexLt ms ns)≠Value.notImplemented/\_ from ⟨(fun x=>nomatch x),⟨.bl (!HT.lexLt ms ns),H,I,rfl,q⟩⟩⟩ hu
def cm8:R2:=fun x y H Q=>∃ l b xs zs,x=.ref l/\y=.ref b/\H l=some (.lst xs)/\H b=some (.lst zs)/\xs.length+zs.length<=1000/\Q (.ref l) (upd H l (.lst (xs++zs)))
theorem bh5:fillsInplaceSlot (.type "list") "add" true=pure false:=by
 unfold fillsInplaceSlot
 show (typeLookup (.type "list") (dunderI "add") >>= fun fi=>pure (fi.isSome && !isSeqSlot fi))=pure false
 rw[F.slot_list_iadd.lookup]
 rw[pure_bind]
 congr 1
theorem bu3:seqSlot? (.type "list") (dunderI "add")=pure (some (.builtin "list.__iadd__")):=by
 unfold seqSlot?
 rw[F.slot_list_iadd.lookup]
 rfl
theorem bF2:PIp X .Add cm8:=by
 intro pins s σ H x y v u Q I rx ry h
 obtain⟨l,b,xs,zs,rfl,rfl,hH,hB,hz,q⟩:=h
 cases rx
 cases ry
 obtain⟨z,its,n,r,hl,e⟩:=I.lstM hH
 obtain⟨z2,its2,n2,r2,hl2,e2⟩:=I.lstM hB
 have hln:=r.length
 have hln2:=r2.length
 unfold inplaceOp
 refine D9 ?_
 refine b7 (wpAny_typeOf (T:="list") ⟨_,e,rfl⟩ (b7 (aK1 bh5 ?_)))
 show p8 _ _ (if false=true then _ else _) _ _ s
 rw[if_neg i7]
 refine b7 (wpAny_binaryOp1_none (a:=.ref l) (b:=.ref b) (s:=s) (nm:="add") (T:="list") ⟨_,e,rfl⟩ ⟨_,e2,rfl⟩ noFill_list_add ?_)
 refine b7 (aK1 bu3 ?_)
 refine b7 (aq2 ?_)
 have hd:¬(!its.toArray.isEmpty && Builtin.List.listTooLong (its.toArray.size+its2.toArray.size))=true:=extend_door (by rw[i9,i9,E4];omega)
 refine aU6 F.slot_list_iadd ⟨_,e,rfl⟩ F.entry_list_iadd (F.args_list_iadd_2 _ _) (PySem.AutoSeq1.list___iadd___list_list_0 l its.toArray n b its2.toArray n2 hd (by rw[i9,E4];omega) (by rw[i9,i9,E4];omega)) ⟨e,e2,?_⟩
 refine⟨.ref l,_,I.lset (its':=its++its2) hH e ?_ (r.append r2) ?_,rfl,q⟩
 ·show its.toArray++its2.toArray=_
  simp
 ·rw[m6,E4];omega
section
variable {Er:Value->Shared->Prop}
end
section
variable {K:W.Frag} {mg:Str->Option Value} {base:Heap} {cd:Value} {outer:List Env} {E:XK} {H1:Hp} {s1:Shared}
end
section
variable {K:W.Frag} {mg:Str->Option Value} {base:Heap} {cd:Value} {outer:List Env} {E:XK}
end
section
variable {K:W.Frag} {mg:Str->Option Value} {base:Heap} {scope0:Scope} {cd:Value} {outer:List Env} {s0:Shared} {H0:Hp} {E:XK}
end
end L2
namespace L2
open PySem PySem.Spec PyProof.Rows PySem.SeqAt
end L2
namespace PySem
section
variable {K:Type} [DecidableEq K] {knd:HeapKind prog w K}
end
end PySem
namespace PySem
section
variable {K:Type} [DecidableEq K] {knd:HeapKind prog w K}
end
end PySem
namespace L2
open PySem PySem.Spec PyProof.Rows
theorem freeze (I:Inv X pins σ H s)(e:H a=some (.dT kvs)):∃ o,Inv X pins σ (upd H a (.frz o (.dT kvs))) s:=by
 obtain⟨z,hd,xs,kt,o,es,ep,h1,h2,h3,h4,h5⟩:=(show G7 X.prog X.w H s.heap a (.dT kvs) from I.hok a _ e)
 refine⟨o,?_⟩
 have:=aS5 (ob:=.frz o (.dT kvs)) (h':=s.heap) (t':=s.toks) I (by rw[e];exact True.intro) (Heap.SameBut.refl _ _) ⟨o,h1⟩ ⟨h1,z,hd,xs,KT.keeps kt fun b ys eb=>by
  rw[t4 (fun q=>by rw[q,e]at eb;cases eb)]
  exact eb,o,es,ep,h1,h2,h3,h4,h5⟩
 exact this
theorem cb9 (h:PE X e te):PE X e (fun σ H Q=>te σ H fun x H1=>∃ (a:Addr) (kvs:List (List Key × V)),x=.ref a/\H1 a=some (.dT kvs)/\∀ o,Q x (upd H1 a (.frz o (.dT kvs)))):=by
 intro pins s σ H Q I hw
 refine thn (h pins s σ H _ I hw) fun v s1 ⟨x,H1,I1,r1,a,kvs,ex,ea,q⟩=>?_
 obtain⟨o,I2⟩:=freeze I1 ea
 exact⟨x,_,I2,r1,q o⟩
def Itd (a:Addr)(o:Obj)(kvs:List (List Key × V)):It:=
 ⟨fun i H=>H a=some (.frz o (.dT kvs))/\i<kvs.length,fun i H x H'=>H'=H/\∃ kv p,kvs[i]?=some kv/\x=.ref p/\H p=some (.tup (kv.1.map kV)),fun i H=>H a=some (.frz o (.dT kvs))/\kvs.length=i⟩
theorem bM3 {K:W.Frag}(a it:Addr)(hne:a≠it)(o:Obj)(kvs:List (List Key × V))(es:Array ae9)(ep:Nat)(hx:o.ExactDict)(hd:o.data=.dict es ep)(hes:es.size=kvs.length) :
  Turn P w K tg (Itd a o kvs) [it] it (fun i h=>h.IsKeyIter it a i es.size ep) where
 mem:=by simp
 obj:=fun i h st b hb=>by
  have e:b=it:=by simpa using hb
  subst e
  obtain⟨o,e,c,d⟩:=st
  exact⟨o,e,fun v z=>by rw[d]at z;cases z⟩
 keep:=fun i h h' st k=>st.at fun o e=>k it (by simp) o e
 item:=by
  intro X hP hw hK hc i pins s σ H E I hf st hg
  subst hP hw hK
  obtain⟨hH,hi⟩:=hg
  obtain⟨h1,z,hds,xs,kt,o',es',ep',g1,g2,g3,g4,g5⟩:=(show G7 X.prog X.w H s.heap a (.frz o (.dT kvs)) from I.hok a _ hH)
  have eo:o'=o:=by rw[h1]at g1;injection g1 with g1;exact g1.symm
  subst eo
  have ee:es'=es/\ep'=ep:=by rw[hd]at g3;cases g3;exact⟨rfl,rfl⟩
  obtain⟨rfl,rfl⟩:=ee
  obtain⟨f0,f1,f2,f3,f4,f5⟩:=hf it (by simp)
  have W:=aX9 (prog:=X.prog) (w:=X.w) (A:=X.A) (I.ok.hd hc) it a hne es' ep'
  refine W.item i s _ _ (by omega) ⟨st,o',h1,hx,hd⟩ fun v h' tk hv st' kk=>?_
  obtain⟨en,he,rfl⟩:=hv
  have I1:Inv X pins σ H { s with heap:=h',toks:=tk }:=I.turned (fun b o hb e=>kk b o (by simpa using hb) e) f0 f1 f3 f4 f5
  obtain⟨ot,e,c,d⟩:=id st'.1
  obtain⟨kv,hkv⟩:∃ kv,kvs[i]?=some kv:=⟨_,c7 hi⟩
  obtain⟨q,hq,hr⟩:=ac4 kt hkv
  rw[entry_at g4 i,hq]at he
  cases he
  exact⟨_,rfl,bn9 (s:={ s with heap:=h',toks:=tk }) e c d (by decide) ⟨.ref q.2.1,H,I1,rfl,⟨rfl,kv,q.2.1,hkv,rfl,hr.2.1⟩,st'.1,fun b hb=>(hf b hb).1⟩⟩
 done:=by
  intro X hP hw hK hc i pins s σ H E I hf st hg
  subst hP hw hK
  obtain⟨hH,hi⟩:=hg
  obtain⟨h1,z,hds,xs,kt,o',es',ep',g1,g2,g3,g4,g5⟩:=(show G7 X.prog X.w H s.heap a (.frz o (.dT kvs)) from I.hok a _ hH)
  have eo:o'=o:=by rw[h1]at g1;injection g1 with g1;exact g1.symm
  subst eo
  have ee:es'=es/\ep'=ep:=by rw[hd]at g3;cases g3;exact⟨rfl,rfl⟩
  obtain⟨rfl,rfl⟩:=ee
  obtain⟨f0,f1,f2,f3,f4,f5⟩:=hf it (by simp)
  have W:=aX9 (prog:=X.prog) (w:=X.w) (A:=X.A) (I.ok.hd hc) it a hne es' ep'
  have ei:i=es'.size:=by omega
  subst ei
  exact W.done s _ _ ⟨st,o',h1,hx,hd⟩ fun h' tk kk=>⟨rfl,I.turned (fun b o hb e=>kk b o (by simpa using hb) e) f0 f1 f3 f4 f5⟩
 self:=fun _ _ _ _ _ st h=>ci4 st h
def co5 (tl:TE):TI:=fun σ H R=>tl σ H fun x H1=>∃ (a:Addr) (o:Obj) (kvs:List (List Key × V)),x=.ref a/\H1 a=some (.frz o (.dT kvs))/\R (Itd a o kvs) H1
theorem cn1 {l:Expr}{tl:TE}(hl:PE X l tl):PI X tg l (co5 tl):=by
 intro pins s σ H R I h
 refine thn (hl pins s σ H _ I h) fun v s1 ⟨x,H1,I1,r1,a,o,kvs,ex,hH,q⟩=>?_
 subst ex
 cases r1
 obtain⟨h1,z,hds,xs,kt,o',es,ep,g1,g2,g3,g4,g5⟩:=(show G7 X.prog X.w H1 s1.heap a (.frz o (.dT kvs)) from I1.hok a _ hH)
 have eo:o'=o:=by rw[h1]at g1;injection g1 with g1;exact g1.symm
 subst eo
 have hes:es.size=kvs.length:=by rw[size_of_entries g4];exact(Paired.length kt).symm
 refine bA8 hds ⟨o',h1,g2,g3⟩ ?_
 refine⟨s1.heap.objs.size,[s1.heap.objs.size],_,_,H1,rfl,I1.kept (t':=s1.toks) fun b o e=>c5 _ e,bM3 a _ (k9 (d5 h1)) o' kvs es ep g2 g3 hes,⟨_,i6 _ rfl,rfl,rfl⟩,fun b hb=>?_,q⟩
 have e:b=s1.heap.objs.size:=by simpa using hb
 subst e
 exact I1.fpOk (c9 _) (I1.hok.fresh (c9 _))
theorem bT1 {D:Addr}{g:TG}{tt:TT}{σ0:St}{H0:Hp}(Pv:Nat->List V->St->Hp->Prop)(h0:Pv 0 [] σ0 H0)(hz:kvs.length<=j7)(hl:∀ i xs σ H,i<=kvs.length->Pv i xs σ H->H a=some (.frz o (.dT kvs))/\H D=some (.lst xs)/\xs.length<=i)
  (hs:∀ i xs kv p σ H (N:List V->St->Hp->Prop),(∀ xs' σ' H',Pv (i+1) xs' σ' H'->N xs' σ' H')->kvs[i]?=some kv->H p=some (.tup (kv.1.map kV))->Pv i xs σ H->g (.ref p) σ H fun σ2 H2=>tt σ2 H2 fun b H3=>if b=true then te σ2 H3 fun v H4=>H4 D=some (.lst xs)/\N (xs++[v]) σ2 (upd H4 D (.lst (xs++[v]))) else N xs σ2 H3)
  (hd:∀ xs σ H,Pv kvs.length xs σ H->Qd H) :
  ∃ W:Nat->Nat->List V->St->Hp->Prop,(∃ m,W 0 m [] σ0 H0)/\∀ i m xs σ' H',W i m xs σ' H'->H' D=some (.lst xs)/\(((Itd a o kvs).stop i H'/\Qd H')\/((Itd a o kvs).go i H'/\xs.length<j7/\∀ x H'',(Itd a o kvs).yld i H' x H''->g x σ' H'' fun σ2 H2=>tt σ2 H2 fun b H3 =>
   if b=true then te σ2 H3 fun v H4=>H4 D=some (.lst xs)/\∃ m',m'<m/\W (i+1) m' (xs++[v]) σ2 (upd H4 D (.lst (xs++[v]))) else ∃ m',m'<m/\W (i+1) m' xs σ2 H3)):=by
 refine⟨fun i m xs σ H=>m=kvs.length - i/\i<=kvs.length/\Pv i xs σ H,⟨kvs.length,by simp,t8 _,h0⟩,?_⟩
 rintro i m xs σ H ⟨rfl,hi,p⟩
 obtain⟨q,hD,hx⟩:=hl i xs σ H hi p
 refine⟨hD,?_⟩
 by_cases hlt:i<kvs.length
 ·refine .inr ⟨⟨q,hlt⟩,by omega,fun x H'' y=>?_⟩
  obtain⟨e,kv,r,hkv,ex,hr⟩:=y
  subst e ex
  exact hs i xs kv r σ _ (fun zs σ' H'=>∃ m',m'<kvs.length - i/\m'=kvs.length - (i+1)/\i+1<=kvs.length/\Pv (i+1) zs σ' H') (fun zs σ' H' r=>⟨_,by omega,rfl,hlt,r⟩) hkv hr p
 ·have e:i=kvs.length:=by omega
  subst e
  exact .inl ⟨⟨q,rfl⟩,hd xs σ H p⟩
end L2
namespace Web
open PySem L2
theorem bF5 {K:W.Frag}{Q:VK}{l:Addr}{es:List Int}{z:Int}(hun:A.units+64<ae8)(hl:SqL K H l (es.map V.int))(q:Q (.bl (decide (z∈es))) H):bg2 K A false (.int z) (.ref l) H Q:=by
 refine⟨l,_,.int z,es.map .int,rfl,.inl hl,Dt.mkInt,D7.ints es,by simp[PyData.canLay0],lay_ints es,aP5 hun (by simp[PyData.depth]),?_⟩
 rw[au3,if_neg i7]
 exact q
inductive Wz where
 | odd | below (z:Int) | wall (z:Int)
theorem cp6 (a b:Int):decide (V.int a=V.int b)=decide (a=b):=by
 by_cases h:a=b
 ·rw[h,decide_eq_true rfl,decide_eq_true rfl]
 ·rw[decide_eq_false h,decide_eq_false (fun z=>h (by injection z))]
end Web
namespace L2
open PySem PySem.Spec PyProof.Rows
theorem ac7 {lo:Int}{D:Addr}{g:TG}{tt:TT}{σ0:St}{H0:Hp}(Pv:Nat->List V->St->Hp->Prop)(h0:Pv 0 [] σ0 H0)(hz:n<=j7)(hl:∀ i xs σ H,i<=n->Pv i xs σ H->H D=some (.lst xs)/\xs.length<=i)
  (hs:∀ i xs σ H (N:List V->St->Hp->Prop),(∀ xs' σ' H',Pv (i+1) xs' σ' H'->N xs' σ' H')->i<n->Pv i xs σ H->g (.int (lo+i)) σ H fun σ2 H2=>tt σ2 H2 fun b H3=>if b=true then te σ2 H3 fun v H4=>H4 D=some (.lst xs)/\N (xs++[v]) σ2 (upd H4 D (.lst (xs++[v]))) else N xs σ2 H3)
  (hd:∀ xs σ H,Pv n xs σ H->Qd H) :
  ∃ W:Nat->Nat->List V->St->Hp->Prop,(∃ m,W 0 m [] σ0 H0)/\∀ i m xs σ' H',W i m xs σ' H'->H' D=some (.lst xs)/\(((Itr lo n).stop i H'/\Qd H')\/((Itr lo n).go i H'/\xs.length<j7/\∀ x H'',(Itr lo n).yld i H' x H''->g x σ' H'' fun σ2 H2=>tt σ2 H2 fun b H3 =>
   if b=true then te σ2 H3 fun v H4=>H4 D=some (.lst xs)/\∃ m',m'<m/\W (i+1) m' (xs++[v]) σ2 (upd H4 D (.lst (xs++[v]))) else ∃ m',m'<m/\W (i+1) m' xs σ2 H3)):=by
 refine⟨fun i m xs σ H=>m=n - i/\i<=n/\Pv i xs σ H,⟨n,by simp,t8 _,h0⟩,?_⟩
 rintro i m xs σ H ⟨rfl,hi,p⟩
 obtain⟨hD,hx⟩:=hl i xs σ H hi p
 refine⟨hD,?_⟩
 by_cases hlt:i<n
 ·refine .inr ⟨hlt,by omega,fun x H'' y=>?_⟩
  obtain⟨e,y⟩:=y
  subst e y
  exact hs i xs σ _ (fun zs σ' H'=>∃ m',m'<n - i/\m'=n - (i+1)/\i+1<=n/\Pv (i+1) zs σ' H') (fun zs σ' H' r=>⟨_,by omega,rfl,hlt,r⟩) hlt p
 ·obtain rfl:i=n:=by omega
  exact .inl ⟨c9 _,hd xs σ H p⟩
end L2
namespace Web
open PySem L2
def top (i:Nat):Stmt:=PySem.Challenge.pw_tallyweb_k53_least_on.main.body.getD i (.Pass ⟨0,0,0,0⟩)
abbrev aX3:Stmt:=top 8
abbrev sUp:Stmt:=top 9
abbrev aL6:Stmt:=top 10
abbrev ax0:Stmt:=top 14
abbrev aW9:Stmt:=top 15
abbrev as7:Stmt:=top 17
abbrev ah8:Stmt:=top 18
abbrev aE7:Stmt:=top 19
abbrev aW8:Stmt:=top 20
abbrev al6:Stmt:=top 21
abbrev aw7:Stmt:=top 22
abbrev aW7:Stmt:=top 23
abbrev aw9:Stmt:=top 25
abbrev aL7:Stmt:=top 26
abbrev aX1:Stmt:=top 27
abbrev bA3:Stmt:=top 28
abbrev aE6:Stmt:=top 30
abbrev bA4:Stmt:=top 31
abbrev ak0:Stmt:=top 32
abbrev bs3:Stmt:=top 34
abbrev aX0:Stmt:=top 35
abbrev aL8:Stmt:=top 36
abbrev aL9:Stmt:=top 39
abbrev aw8:Stmt:=top 42
abbrev aX5:Stmt:=top 43
abbrev aX4:Stmt:=top 44
abbrev aE5:Stmt:=top 45
abbrev aE8:Stmt:=top 47
abbrev bz9:Stmt:=top 11
abbrev bA0:Stmt:=top 12
abbrev bA2:Stmt:=top 37
abbrev bA1:Stmt:=top 40
abbrev bz8:Stmt:=top 41
abbrev ax1:Stmt:=top 46
abbrev bf9:Stmt:=top 48
structure Bn (mg:Str->Option Value):Prop where
 len:mg "len"=none
 range:mg "range"=none
 enum:mg "enumerate"=none
 list:mg "list"=none
 tuple:mg "tuple"=none
 sorted:mg "sorted"=none
 set:mg "set"=none
 isin:mg "isinstance"=none
 int:mg "int"=none
 bool:mg "bool"=none
 min:mg "min"=none
 max:mg "max"=none
 sum:mg "sum"=none
 str:mg "str"=none
 ve:mg "ValueError"=none
 all:mg "all"=none
 zip:mg "zip"=none
theorem N4:1000<=j7:=by decide
theorem i8 {l:Addr}{o:HO}(h:H l=none):u7 H (upd H l o):=fun b u e=>by
 rw[t4 (r6 e h)]
 exact e
section
variable {K:W.Frag} {mg:Str->Option Value} {base:Heap}
def bV9:Sp:=fun vs H Q _=>∃ a b:Int,vs=[.int a,.int b]/\Q (.bl (decide (0<=b) && decide (b<a))) H
theorem cl9:y9 ["places","number"] ["places","number"] (q0 aX3):=.mk'
theorem cd4 (F:Fun K "is_place" "is_place" aX3 f fd):A0 P w K mg base CX0 1 f fd ["places","number"] bV9:=by
 refine F.ok cl9 (fun cdv A outer s H vs Q E hr h=>?_)
 obtain⟨a,b,rfl,k⟩:=h
 refine⟨_,o8 (C3 (bB7 ap4 ap3 j6 (pv 1) (pv 0))),?_⟩
 refine⟨_,rfl,_,_,rfl,rfl,_,rfl,?_⟩
 cases e:decide ((0:Int)<=b) with
 | true =>
  refine X1 ⟨_,rfl,_,_,rfl,rfl,?_⟩
  rw[e,Bool.true_and]at k
  exact k
 | false =>
  refine P5 ?_
  rw[e,Bool.false_and]at k
  exact k
def cl3 (K:W.Frag):Sp:=fun vs H Q _=>∃ (n:Nat) (a:Addr) (k:List Int),vs=[.int n,.ref a]/\SqT K H a (k.map V.int)/\aA3 n k /\
 ∀ p,H p=none->Q (.ref p) (upd H p (.tup ((up k).map V.int)))
theorem cr5:y9 ["places","tie"] ["places","tie"] (q0 sUp):=.mk'
theorem cn4 {fI:Addr} (F:Fun K "turned_up" "turned_up" sUp f fd) (B:Bn mg) (FI:Fq K mg "is_place" aX3 fI fdI ["places","number"]) :
  A0 P w K mg base CX0 2 f fd ["places","tie"] (cl3 K):=by
 have GI:A0 P w K mg base CX0 1 fI fdI ["places","number"] bV9:=cd4 FI.F
 refine F.ok cr5 (fun cdv A outer s H vs Q E hr h=>?_)
 obtain⟨n,a,k,rfl,hS,⟨i,j,h1,h2,h3,rfl⟩,q⟩:=h
 refine⟨_,j0 (O1 (PW.pt (af9 (Y1 (ac2 (aC3 GI hr rfl FI.m FI.F.kp FI.b .nil G6 (b9 (pv 0) (b9 (C7 C5 (pv 1) j6 (fun _ _=>rfl)) d4)))))
    (ax3 (Y1 (ac2 (aC3 GI hr rfl FI.m FI.F.kp FI.b .nil G6 (b9 (pv 0) (b9 (C7 C5 (pv 1) j6 (fun _ _=>rfl)) d4)))))))) N0 E6)
  (j0 (O1 (C0 aY8 (C7 C5 (pv 1) j6 (fun _ _=>rfl)) (C7 C5 (pv 1) j6 (fun _ _=>rfl)) (E9 _)) N0 E6)
  (o8 (C3 (R9 (b9 (p7 (ao1 rfl) (by rfl) B.min (by rfl) (b9 (C7 C5 (pv 1) j6 (fun _ _ => rfl)) (b9 (C7 C5 (pv 1) j6 (fun _ _ => rfl)) d4)))
   (b9 (p7 (ay9 rfl) (by rfl) B.max (by rfl) (b9 (C7 C5 (pv 1) j6 (fun _ _=>rfl)) (b9 (C7 C5 (pv 1) j6 (fun _ _=>rfl)) d4))) d4)))))),?_⟩
 have a0:atI (([(i:Int),(j:Int)]:List Int).map V.int) 0=some (.int i):=C1 (j:=0) rfl
 have a1:atI (([(i:Int),(j:Int)]:List Int).map V.int) 1=some (.int j):=C1 (j:=1) rfl
 refine⟨_,rfl,_,rfl,a,_,_,_,rfl,rfl,hS,a0,_,_,rfl,?_⟩
 rw[decide_eq_true (show (0:Int)<=i by omega),decide_eq_true (show (i:Int)<n by omega)]
 refine⟨_,rfl,P5 ?_⟩
 refine⟨_,rfl,_,rfl,a,_,_,_,rfl,rfl,hS,a1,_,_,rfl,?_⟩
 rw[decide_eq_true (show (0:Int)<=j by omega),decide_eq_true (show (j:Int)<n by omega)]
 refine⟨_,rfl,P5 ?_⟩
 refine⟨_,rfl,a,_,_,_,rfl,rfl,hS,a0,_,rfl,a,_,_,_,rfl,rfl,hS,a1,rfl,_,rfl,?_⟩
 rw[decide_eq_false (show ¬ V.int (i:Int)=V.int (j:Int) by intro z;injection z;omega)]
 refine P5 ?_
 refine⟨_,rfl,a,_,_,_,rfl,rfl,hS,a0,_,rfl,a,_,_,_,rfl,rfl,hS,a1,_,_,rfl,?_⟩
 refine⟨_,rfl,a,_,_,_,rfl,rfl,hS,a0,_,rfl,a,_,_,_,rfl,rfl,hS,a1,_,_,rfl,(by show 2<=j7;decide),fun p hp=>?_⟩
 exact q p hp
def bf4 (K:W.Frag):Sp:=fun vs H Q _=>∃ (a:Addr) (ns:List Int) (k:Nat),vs=[.ref a,.int k]/\SqL K H a (ns.map V.int)/\∀ r:Int,Q (.int r) H
theorem cb3:y9 ["script","k"] ["script","k"] (q0 aL9):=.mk'
theorem bm9 (F:Fun K "_law_cell_at" "_law_cell_at" aL9 f fd)(B:Bn mg):A0 P w K mg base CX0 1 f fd ["script","k"] (bf4 K):=by
 refine F.ok cb3 (fun cdv A outer s H vs Q E hr h=>?_)
 obtain⟨a,ns,k,rfl,hS,q⟩:=h
 refine⟨_,j0 (O1 (C0 ap3 (pv 1) (p7 A5 (by rfl) B.len PySem.boot_len (b9 (pv 0) d4)) (E9 _)) (o8 (C3 (C7 U1 (pv 0) (pv 1) (fun _ _=>rfl)))) E6)
  (o8 (C3 j6)),?_⟩
 refine⟨_,rfl,_,rfl,a,_,rfl,.inl hS,_,_,rfl,rfl,_,rfl,?_⟩
 refine bb3 (fun h=>?_) (fun h=>?_)
 ·have hl:k<ns.length:=by
   have:=of_decide_eq_true h
   rw[b8]at this
   omega
  refine⟨_,rfl,_,rfl,a,_,_,_,rfl,rfl,hS,C1 (j:=k) (v:=.int ns[k]) (by simp[hl]),?_⟩
  exact q _
 ·exact q _
def S0 (ns:List Int):Prop:=1<=ns.length/\ns.length<=24
def Sq (K:W.Frag)(H:Hp)(a:Addr)(ns:List Int):Prop:=SqL K H a (ns.map V.int)\/SqT K H a (ns.map V.int)
theorem Sq.same (h:Sq K H a ns)(s:u7 H H'):Sq K H' a ns:=h.elim (fun h=>.inl (s.seq h)) fun h=>.inr (s.seqT h)
def aL5 (K:W.Frag)(CB:Addr):Sp:=fun vs H Q E=>∃ (a:Addr) (ns:List Int),vs=[.ref a]/\Sq K H a ns/\(S0 ns->Q .non H)/\(¬ S0 ns->E (.ref CB) none H)
theorem cm1:y9 ["tally"] ["tally"] (q0 ax0):=.mk'
theorem aR3 (F:Fun K "check_tally" "check_tally" ax0 f fd)(B:Bn mg)(mM:mg "MOST_PLACES"=some (.int 24 tk))(mB:mg "BadTally"=some (.ref CB))(cB:am6 K CB):A0 P w K mg base (CXE P w) 1 f fd ["tally"] (aL5 K CB):=by
 refine F.okX cm1 (fun cdv A outer s H vs Q E hr h=>?_)
 obtain⟨a,ns,rfl,hS,h1,h2⟩:=h
 refine⟨_,o8 (O1 (Y1 (at3 ap4 ap4 j6 (p7 A5 (by rfl) B.len PySem.boot_len (b9 (pv 0) d4)) (aR1 (v:=.int 24) (by rfl) mM ⟨tk,rfl⟩))) (o8 (aF2 (by rfl) mB cB)) E6),?_⟩
 refine⟨_,rfl,a,_,rfl,hS,_,_,rfl,rfl,_,rfl,?_⟩
 rw[b8]
 by_cases hp:(1:Int)<=(ns.length:Int)
 ·rw[decide_eq_true hp]
  refine X1 ⟨_,_,rfl,rfl,_,rfl,?_⟩
  by_cases hp':(ns.length:Int)<=24
  ·rw[decide_eq_true hp']
   exact P5 (h1 ⟨by omega,by omega⟩)
  ·rw[decide_eq_false hp']
   exact X1 (h2 fun z=>hp' (by have:=z.2;omega))
 ·rw[decide_eq_false hp]
  exact P5 ⟨_,rfl,X1 (h2 fun z=>hp (by have:=z.1;omega))⟩
end
section
variable {K:W.Frag} {mg:Str->Option Value} {base:Heap}
def bx9 (K:W.Frag):Sp:=fun vs H Q _=>∃ (n:Nat) (a:Addr) (ys:List V) (hs:List (List Int)),vs=[.int n,.ref a]/\1<=n/\n<=24/\(SqL K H a ys\/SqT K H a ys)/\A4 K H ys hs/\(∀ k∈hs,aA3 n k)/\(hs.map up).Nodup/\hs.length<300 /\
 ∀ p t zs ks H',u7 H H'->H p=none->H t=none->H' p=some (.tup [.int n,.ref t])->H' t=some (.tup zs)->A4 K H' zs ks->ks.Perm (hs.map up)->ks.Pairwise (fun a b=>Tim.K4 b a=false)->Q (.ref p) H'
theorem bf8:y9 ["places","ties","ascending"] ["places","ties"] (q0 aL6):=.mk'
theorem bP4 {fI fU:Addr} {fdU:FuncData} (F:Fun K "made" "made" aL6 f fd) (B:Bn mg) (FI:Fq K mg "is_place" aX3 fI fdI ["places","number"])
  (FU:Fq K mg "turned_up" sUp fU fdU ["places","tie"]) (mM:mg "MOST_PLACES"=some (.int 24 tk)) :
  A0 P w K mg base CX0 3 f fd ["places","ties"] (bx9 K):=by
 have GU:A0 P w K mg base CX0 2 fU fdU ["places","tie"] (cl3 K):=cn4 FU.F B FI
 refine F.ok bf8 (fun cdv A outer s H vs Q E hr h=>?_)
 obtain⟨n,a,ys,hs,rfl,n1,n2,hS,hT,hE,hN,hL,q⟩:=h
 have hu8:=ci1 (X7 (by decide:8<=64) _) hr.units
 have hyl:=hT.len
 have nd2:(["tie","places"]:List Str).Nodup:=by decide +kernel
 have step:∀ (D:Addr),H D=none->∀ (i:Nat) (xs:List V) (H':Hp) (x:V) (N:List V->Hp->Prop),u7 H H'->H' D=some (.lst xs)->A4 K H' xs ((hs.take i).map up)->ys[i]?=some x ->
   (∀ xs' H'',u7 H H''->H'' D=some (.lst xs')->A4 K H'' xs' ((hs.take (i+1)).map up)->N xs' H'') ->
   ∃ (m:Nat) (b:Addr) (k:List Int),[V.int n,x]=[.int m,.ref b]/\SqT K H' b (k.map V.int)/\aA3 m k/\∀ p,H' p=none->(upd H' p (.tup ((up k).map V.int))) D=some (.lst xs)/\N (xs++[.ref p]) (upd (upd H' p (.tup ((up k).map V.int))) D (.lst (xs++[.ref p]))):=by
  intro D hD i xs H' x N s1 hd ht hx k
  obtain⟨b,kk,rfl,hk,hq⟩:=hT.get hx
  refine⟨n,b,kk,rfl,s1.seqT hq,hE kk (d8 hk),fun p hp=>?_⟩
  have npd:D≠p:=r6 hd hp
  have hd':(upd H' p (.tup ((up kk).map V.int))) D=some (.lst xs):=by rw[t4 npd];exact hd
  refine⟨hd',k _ _ ((s1.trans (i8 hp)).upd hD) c6 ?_⟩
  have e:(hs.take (i+1)).map up=(hs.take i).map up++[up kk]:=by
   rw[A7,hk,j9]
   rfl
  rw[e]
  refine A4.updL hd' (A4.append (u7.tups (i8 hp) ht) (A4.one (SqT.of c6)))
 rcases hS with hS | hS
 ·refine⟨_,j0 (O1 (Y1 (at3 ap4 ap4 j6 (pv 0) (aR1 (v:=.int 24) rfl mM ⟨_,rfl⟩))) N0 E6)
   (j0 (x5 (i := 2) bf8.nd rfl (Or.inl rfl) (p7 aA1 (by rfl) B.sorted (by rfl) (b9
    (L0 (N' := ["tie", "places"]) (lk := [none, some 0]) rfl (U0 (pv 1)) (by rfl) rfl (by decide +kernel) (by exact ⟨rfl, trivial⟩) (by rfl) (by exact LkL.ok ⟨⟨rfl, Or.inl rfl, rfl, Or.inl rfl⟩, trivial⟩)
     (fun _ _ _=>A2 (i:=0) nd2 rfl (Or.inl rfl)) (fun _ _ _=>P4) (fun _ _ _=>C4 GU hr (by rfl) FU G6 (b9 (pv 1) (b9 (pv 0) d4)))) d4)))
   (j0 (O1 (C0 ap3 (p7 call_len_set (by rfl) B.len PySem.boot_len (b9 (O2 (bc8 rfl hu8) (by rfl) B.set (by rfl) (b9 (pv 2) d4)) d4)) (p7 A5 (by rfl) B.len PySem.boot_len (b9 (pv 2) d4)) (E9 _)) N0 E6)
   (o8 (C3 (R9 (b9 (pv 0) (b9 (O2 L4 (by rfl) B.tuple (by rfl) (b9 (pv 2) d4)) d4))))))),?_⟩
  refine⟨_,rfl,_,_,rfl,rfl,_,rfl,?_⟩
  rw[decide_eq_true (show (1:Int)<=n by omega)]
  refine X1 ⟨_,_,rfl,rfl,_,rfl,?_⟩
  rw[decide_eq_true (show (n:Int)<=24 by omega)]
  refine P5 ?_
  refine⟨_,rfl,a,rfl,⟨_,hS⟩,fun D hD=>Q5 (K:=K) (a:=a) (D:=D) (ys:=ys) (fun i xs σ' H'=>∃ v,σ'=[v,some (.int n)]/\u7 H H'/\H' D=some (.lst xs)/\A4 K H' xs ((hs.take i).map up)) ⟨none,rfl,i8 hD,c6,.nil⟩ (by have:=N4;omega)
   (fun i xs σ' H' hi ⟨_,_,s1,h1,h2⟩=>⟨s1.seq hS,h1,by have:=h2.len;simp at this;omega⟩) ?_ ?_⟩
  ·rintro i xs x σ' H' N kN hx ⟨v,rfl,s1,h1,h2⟩
   refine x6 ?_
   refine L9 ?_
   refine⟨_,rfl,_,rfl,?_⟩
   exact step D hD i xs H' x (fun xs' H''=>N xs' _ H'') s1 h1 h2 hx fun xs' H'' a1 a2 a3=>kN _ _ _ ⟨_,rfl,a1,a2,a3⟩
  ·rintro xs σ' H1 ⟨v,rfl,s1,h1,h2⟩
   rw[k8 (by omega)]at h2
   have hup:∀ k∈hs.map up,Up n k:=fun k hk=>by
    obtain⟨k0,h0,rfl⟩:=p0.mp hk
    exact(hE k0 h0).up
   refine⟨D,xs,_,rfl,SqL.of h1,h2,(fun k hk z=>by have:=(hup k hk).len;rw[z]at this;cases this),fun l zs ks hl pk hs1 ht1=>?_⟩
   have hkl:ks.length=hs.length:=by rw[pk.length_eq,b8]
   have hzl:=ht1.len
   have s2:u7 H (upd H1 l (.lst zs)):=s1.trans (i8 hl)
   refine⟨_,rfl,l,zs,ks,rfl,SqL.of c6,ht1,(fun k hk=>(hup k (pk.mem_iff.mp hk)).key n2),by omega,fun S hSn=>?_⟩
   have hlS:l≠S:=r6 c6 hSn
   have s3:=s2.trans (i8 (o:=bi8 P w S (ks.foldl Sett.aa9 []).length) hSn)
   have l3:(upd (upd H1 l (.lst zs)) S (bi8 P w S (ks.foldl Sett.aa9 []).length)) l=some (.lst zs):=by rw[t4 hlS,c6]
   refine⟨S,_,rfl,c6,_,rfl,l,zs,rfl,.inl (SqL.of l3),_,_,rfl,rfl,_,rfl,?_⟩
   have hfold:(ks.foldl Sett.aa9 []).length=zs.length:=by
    have:=(Sett.ay3 ks []).mpr ⟨(pk.nodup_iff).mpr hN,fun x _=>by simp⟩
    simp at this
    omega
   rw[hfold,decide_eq_false (by omega)]
   refine P5 ?_
   refine⟨_,rfl,_,rfl,l,zs,rfl,.inl ⟨SqL.of (by rw[hfold]at l3;exact l3),fun t ht=>⟨(by show 2<=j7;decide),fun p hp=>?_⟩⟩⟩
   rw[hfold]at s3
   have s4:=(s3.trans (i8 (o:=.tup zs) ht)).trans (i8 (o:=.tup [.int n,.ref t]) hp)
   refine q p t zs ks _ s4 ((s3.trans (i8 ht)).free hp) (s3.free ht) c6 ?_ ?_ pk hs1
   ·rw[t4 (r6 c6 hp),c6]
   ·exact u7.tups (((i8 hSn).trans (i8 ht)).trans (i8 hp)) ht1
 ·refine⟨_,j0 (O1 (Y1 (at3 ap4 ap4 j6 (pv 0) (aR1 (v:=.int 24) rfl mM ⟨_,rfl⟩))) N0 E6)
   (j0 (x5 (i := 2) bf8.nd rfl (Or.inl rfl) (p7 aA1 (by rfl) B.sorted (by rfl) (b9
    (L0 (N' := ["tie", "places"]) (lk := [none, some 0]) rfl (aR0 (pv 1)) (by rfl) rfl (by decide +kernel) (by exact ⟨rfl, trivial⟩) (by rfl) (by exact LkL.ok ⟨⟨rfl, Or.inl rfl, rfl, Or.inl rfl⟩, trivial⟩)
     (fun _ _ _=>A2 (i:=0) nd2 rfl (Or.inl rfl)) (fun _ _ _=>P4) (fun _ _ _=>C4 GU hr (by rfl) FU G6 (b9 (pv 1) (b9 (pv 0) d4)))) d4)))
   (j0 (O1 (C0 ap3 (p7 call_len_set (by rfl) B.len PySem.boot_len (b9 (O2 (bc8 rfl hu8) (by rfl) B.set (by rfl) (b9 (pv 2) d4)) d4)) (p7 A5 (by rfl) B.len PySem.boot_len (b9 (pv 2) d4)) (E9 _)) N0 E6)
   (o8 (C3 (R9 (b9 (pv 0) (b9 (O2 L4 (by rfl) B.tuple (by rfl) (b9 (pv 2) d4)) d4))))))),?_⟩
  refine⟨_,rfl,_,_,rfl,rfl,_,rfl,?_⟩
  rw[decide_eq_true (show (1:Int)<=n by omega)]
  refine X1 ⟨_,_,rfl,rfl,_,rfl,?_⟩
  rw[decide_eq_true (show (n:Int)<=24 by omega)]
  refine P5 ?_
  refine⟨_,rfl,a,rfl,⟨_,hS⟩,fun D hD=>bc4 (K:=K) (a:=a) (D:=D) (ys:=ys) (fun i xs σ' H'=>∃ v,σ'=[v,some (.int n)]/\u7 H H'/\H' D=some (.lst xs)/\A4 K H' xs ((hs.take i).map up)) ⟨none,rfl,i8 hD,c6,.nil⟩ (by have:=N4;omega)
   (fun i xs σ' H' hi ⟨_,_,s1,h1,h2⟩=>⟨s1.seqT hS,h1,by have:=h2.len;simp at this;omega⟩) ?_ ?_⟩
  ·rintro i xs x σ' H' N kN hx ⟨v,rfl,s1,h1,h2⟩
   refine x6 ?_
   refine L9 ?_
   refine⟨_,rfl,_,rfl,?_⟩
   exact step D hD i xs H' x (fun xs' H''=>N xs' _ H'') s1 h1 h2 hx fun xs' H'' a1 a2 a3=>kN _ _ _ ⟨_,rfl,a1,a2,a3⟩
  ·rintro xs σ' H1 ⟨v,rfl,s1,h1,h2⟩
   rw[k8 (by omega)]at h2
   have hup:∀ k∈hs.map up,Up n k:=fun k hk=>by
    obtain⟨k0,h0,rfl⟩:=p0.mp hk
    exact(hE k0 h0).up
   refine⟨D,xs,_,rfl,SqL.of h1,h2,(fun k hk z=>by have:=(hup k hk).len;rw[z]at this;cases this),fun l zs ks hl pk hs1 ht1=>?_⟩
   have hkl:ks.length=hs.length:=by rw[pk.length_eq,b8]
   have hzl:=ht1.len
   have s2:u7 H (upd H1 l (.lst zs)):=s1.trans (i8 hl)
   refine⟨_,rfl,l,zs,ks,rfl,SqL.of c6,ht1,(fun k hk=>(hup k (pk.mem_iff.mp hk)).key n2),by omega,fun S hSn=>?_⟩
   have hlS:l≠S:=r6 c6 hSn
   have s3:=s2.trans (i8 (o:=bi8 P w S (ks.foldl Sett.aa9 []).length) hSn)
   have l3:(upd (upd H1 l (.lst zs)) S (bi8 P w S (ks.foldl Sett.aa9 []).length)) l=some (.lst zs):=by rw[t4 hlS,c6]
   refine⟨S,_,rfl,c6,_,rfl,l,zs,rfl,.inl (SqL.of l3),_,_,rfl,rfl,_,rfl,?_⟩
   have hfold:(ks.foldl Sett.aa9 []).length=zs.length:=by
    have:=(Sett.ay3 ks []).mpr ⟨(pk.nodup_iff).mpr hN,fun x _=>by simp⟩
    simp at this
    omega
   rw[hfold,decide_eq_false (by omega)]
   refine P5 ?_
   refine⟨_,rfl,_,rfl,l,zs,rfl,.inl ⟨SqL.of (by rw[hfold]at l3;exact l3),fun t ht=>⟨(by show 2<=j7;decide),fun p hp=>?_⟩⟩⟩
   rw[hfold]at s3
   have s4:=(s3.trans (i8 (o:=.tup zs) ht)).trans (i8 (o:=.tup [.int n,.ref t]) hp)
   refine q p t zs ks _ s4 ((s3.trans (i8 ht)).free hp) (s3.free ht) c6 ?_ ?_ pk hs1
   ·rw[t4 (r6 c6 hp),c6]
   ·exact u7.tups (((i8 hSn).trans (i8 ht)).trans (i8 hp)) ht1
end
def cn7 (st:Stmt):Pos:=match (U2 st).getD 1 (.Pass ⟨0,0,0,0⟩) with
 | .Return (some (.Call _ _ [⟨_,.Lambda _ _ _ p,_⟩] _)) _=>p
 | _=>⟨0,0,0,0⟩
def cs2:Str:=(("order_of":Str)++(".<locals>.":Str))++("<lambda>":Str)
abbrev Tb (P:Addr)(H:Hp):Prop:=U7 P (cn7 aW9) cs2 H
theorem U5.sqL {K:W.Frag}{P:Addr}{po:Pos}{qu:Str}(g:U5 P H H')(t:U7 P po qu H)(h:SqL K H a xs):SqL K H' a xs:=by
 obtain⟨ps,hP,_⟩:=t
 rcases h with(h | ⟨o,h⟩) | h
 ·exact .inl (.inl (g a _ (fun z=>by rw[z,hP]at h;cases h) h))
 ·exact .inl (.inr ⟨o,g a _ (fun z=>by rw[z,hP]at h;cases h) h⟩)
 ·exact .inr h
theorem U5.sqT {K:W.Frag}{P:Addr}{po:Pos}{qu:Str}(g:U5 P H H')(t:U7 P po qu H)(h:SqT K H a xs):SqT K H' a xs:=by
 obtain⟨ps,hP,_⟩:=t
 rcases h with(h | ⟨o,h⟩) | h
 ·exact .inl (.inl (g a _ (fun z=>by rw[z,hP]at h;cases h) h))
 ·exact .inl (.inr ⟨o,g a _ (fun z=>by rw[z,hP]at h;cases h) h⟩)
 ·exact .inr h
theorem Sq.grow {K:W.Frag}{P:Addr}{po:Pos}{qu:Str}(h:Sq K H a ns)(g:U5 P H H')(t:U7 P po qu H):Sq K H' a ns:=h.elim (fun h=>.inl (U5.sqL g t h)) fun h=>.inr (U5.sqT g t h)
theorem aO6.one (h:X.N[j]?=some x/\(X.env.scope.names.lookup x=some .cell\/X.env.scope.names.lookup x=some .free)/\(cl.lookup x).isSome=true/\(scope.names.lookup x=some .cell\/scope.names.lookup x=some .free)) :
  aO6 X [x] [some j] scope cl:=⟨rfl,fun i j' y e1 e2=>by
 cases i with
 | zero =>
  have e1':x=y:=by simpa using e1
  have e2':j=j':=by simpa using e2
  subst e1' e2'
  exact h
 | succ i=>simp at e1⟩
theorem cb8 {a b:Expr}{tb:TE}(K:W.Frag)(hK:X.K=K)(ha:PE X a ta)(hb:PE X b tb)(hs:aD5 b):PE X (.Subscript a b pos) (tOp (rIx K) ta tb):=by
 cases hK
 exact C7 bF1 ha hb hs
section
variable {K:W.Frag} {mg:Str->Option Value} {base:Heap}
def bV6 (K:W.Frag)(CB PT:Addr):Sp:=fun vs H Q E=>∃ (a:Addr) (ns:List Int),vs=[.ref a]/\Sq K H a ns /\
 (S0 ns->Tb PT H/\∀ (zs:List Int) (D:Addr) (H':Hp),U5 PT H H'->Tb PT H'->H' D=some (.lst (zs.map V.int))->zs.Perm (rng ns.length)->zs.Pairwise (ole ns)->Q (.ref D) H')/\(¬ S0 ns->E (.ref CB) none H)
theorem cl8:y9 ["tally"] ["tally"] (q0 aW9):=.mk'
theorem cd0 {PT:Addr} (F:Fun K "order_of" "order_of" aW9 f fd) (hc:fd.code=.ref c) (LB:av2 base mg c PT) (B:Bn mg) (FT:Fq K mg "check_tally" ax0 fT fdT ["tally"])
  (mM:mg "MOST_PLACES"=some (.int 24 tk)) (mB:mg "BadTally"=some (.ref CB)) (cB:am6 K CB):A0 P w K mg base (CXE P w) 2 f fd ["tally"] (bV6 K CB PT):=by
 have GT:A0 P w K mg base (CXE P w) 1 fT fdT ["tally"] (aL5 K CB):=aR3 FT.F B mM mB cB
 refine F.okXC hc cl8 (fun A outer s H vs Q E hr h=>?_)
 obtain⟨a,ns,rfl,hS,h1,h2⟩:=h
 have hsl:=N4
 refine⟨_,j0 (Y5 (C4 GT hr (by rfl) FT ap2 (b9 (pv 0) d4)))
  (o8 (C3 (bB3 (p := "place") (N' := ["tally"]) (lk := [some 0]) rfl hr.depth (by rfl) B.sorted (b9 (bO3 (by rfl) B.range (b9 (p7 A5 (by rfl) B.len PySem.boot_len (b9 (pv 0) d4)) d4)) d4)
   LB rfl (by rfl) (by rfl) rfl rfl rfl (by exact⟨rfl,trivial⟩) (by rfl) (by exact aO6.one ⟨rfl,Or.inl rfl,rfl,Or.inr rfl⟩) rfl (fun _ _ _ _=>rfl)
   (fun _ _ _ _=>R9 (b9 (aF3 aq6 (cb8 K rfl (pv 1) (pv 0) (fun _ _=>rfl))) (b9 (pv 0) d4)))))),?_⟩
 refine⟨_,rfl,a,ns,rfl,hS,fun ht=>?_,h2⟩
 obtain⟨tb,q⟩:=h1 ht
 refine⟨_,rfl,a,_,rfl,hS,(ns.map V.int).length,rfl,by rw[b8];have:=ht.2;omega,fun r hr0=>?_⟩
 have s0:=i8 (o:=.rng 0 ((ns.map V.int).length:Int)) hr0
 have tb1:Tb PT (upd H r (.rng 0 ((ns.map V.int).length:Int))):=tb.same s0
 refine⟨r,(ns.map V.int).length,bs8 ns,rfl,c6,by rw[b8];have:=ht.2;omega,bP0 ns,tb1,fun H2 g2 tb2=>⟨fun H3 z sm hz=>?_,fun H' D zs sm hD hp hs=>?_⟩⟩
 ·have hS3:Sq K H3 a ns:=((hS.same s0).grow g2 tb1).same sm
  rw[b8]at hz
  have hat:atI (ns.map V.int) (z:Int)=some (.int (ns.getD z 0)):=C1 (j:=z) (by simp[hz])
  have fin:∀ k,H3 k=none->(∃ k',(V.ref k:V)=.ref k'/\(upd H3 k (.tup [.int (-(ns.getD z 0)),.int z])) k'=some (.tup ((bs8 ns z).map V.int))/\u7 H3 (upd H3 k (.tup [.int (-(ns.getD z 0)),.int z]))):=fun k hk=>⟨k,rfl,c6,i8 hk⟩
  rcases hS3 with h3 | h3
  ·exact⟨_,rfl,_,rfl,.inl ⟨a,_,_,_,rfl,rfl,h3,hat,_,rfl,_,rfl,(by show 2<=j7;decide),fin⟩⟩
  ·exact⟨_,rfl,_,rfl,.inr (.inl ⟨a,_,_,_,rfl,rfl,h3,hat,_,rfl,_,rfl,(by show 2<=j7;decide),fin⟩)⟩
 ·have sD:=i8 (o:=.lst (zs.map V.int)) hD
  rw[b8]at hp
  exact q zs D _ (((s0.grow PT).trans g2).trans ((sm.trans sD).grow PT)) (tb2.same (sm.trans sD)) c6 hp hs
end
theorem ap6 (ns:List Int)(k:Nat):ay5 (ns.map V.int) (some (k:Int)) none=(ns.drop k).map V.int:=by rw[bv1,aJ0]
theorem am3 (ns:List Int)(k:Nat):ay5 (ns.map V.int) none (some (k:Int))=(ns.take k).map V.int:=by rw[bT0,aJ1]
theorem P6 {x:V}(h:(ns.map V.int)[i]?=some x):∃ z:Int,ns[i]?=some z/\x=V.int z:=by
 rw[o5]at h
 cases e:ns[i]? with
 | none=>rw[e]at h;cases h
 | some z=>rw[e]at h;cases h;exact⟨z,rfl,rfl⟩
theorem ar4 (h:j<ns.length):atI (ns.map V.int) (j:Int)=some (.int (ns.getD j 0)):=C1 (j:=j) (by simp[h])
theorem bb1 {K:W.Frag}{Q:VK}(h:Sq K H a ns)(hj:j<ns.length)(q:Q (.int (ns.getD j 0)) H):rIx K (.ref a) (.int j) H Q:=
 h.elim (fun h=>.inl ⟨a,_,_,_,rfl,rfl,h,ar4 hj,q⟩) fun h=>.inr (.inl ⟨a,_,_,_,rfl,rfl,h,ar4 hj,q⟩)
theorem at5:az1 (CXE P w) X E0:=fun _ _ _ _ _ _ _ h=>by
 obtain⟨_,_,_,_,_,_,_,_,_,_,_,hE⟩:=h
 exact hE.elim
theorem bn0 (z:Int):(PyData.int z).canLay0=true:=by simp[PyData.canLay0]
theorem bo9 (z:Int):(PyData.int z).depth<=8:=by simp[PyData.depth]
theorem bS0 {K:W.Frag}{Q:VK}{l:Addr}{es:List Int}{z:Int}(hun:A.units+64<ae8)(hl:SqL K H l (es.map V.int))(q:Q (.bl (decide (z∈es))) H):bg2 K A false (.int z) (.ref l) H Q:=by
 refine⟨l,_,.int z,es.map .int,rfl,.inl hl,Dt.mkInt,D7.ints es,bn0 z,lay_ints es,aP5 hun (x9 (bo9 z) (by decide)),?_⟩
 rw[au3,if_neg i7]
 exact q
theorem bg8 {K:W.Frag}{Q:VK}{l:Addr}{es:List Int}{z:Int}(hun:A.units+64<ae8)(hl:SqL K H l (es.map V.int))(q:Q (.bl (!decide (z∈es))) H):bg2 K A true (.int z) (.ref l) H Q:=by
 refine⟨l,_,.int z,es.map .int,rfl,.inl hl,Dt.mkInt,D7.ints es,bn0 z,lay_ints es,aP5 hun (x9 (bo9 z) (by decide)),?_⟩
 rw[au3,if_pos rfl]
 exact q
def aa0 (ps zs:List Int):List Int:=zs.filter fun x=>!decide (x∈ps)
theorem aM2 (p:Int)(zs:List Int):aa0 [p] zs=rest zs p:=by
 unfold aa0 rest
 congr 1
 funext x
 by_cases h:x=p<;>simp[h]
theorem aN1 {PT l:Addr}{po:Pos}{qu:Str}(g:U5 PT H H')(t:U7 PT po qu H')(h:H' l=none):H l=none:=by
 cases e:H l with
 | none=>rfl
 | some o =>
  by_cases z:l=PT
  ·obtain⟨ps,hP,_⟩:=t
   rw[z,hP]at h
   cases h
  ·rw[g l o z e]at h
   cases h
section
variable {K:W.Frag} {mg:Str->Option Value} {base:Heap}
def aP9 (K:W.Frag)(PT:Addr):Sp:=fun vs H Q _=>∃ (a pa:Addr) (ns ps:List Int) (k:Nat),vs=[.ref a,.int k,.ref pa]/\Sq K H a ns/\S0 ns/\SqL K H pa (ps.map V.int)/\Tb PT H /\
 ∀ (zs:List Int) (D:Addr) (H':Hp),U5 PT H H'->Tb PT H'->H D=none->zs.Perm (rng ns.length)->zs.Pairwise (ole ns)->H' D=some (.lst (((aa0 ps zs).take k).map V.int))->Q (.ref D) H'
theorem bN4:y9 ["tally","many","passed_over"] ["tally","many","passed_over"] (q0 aw9):=.mk'
theorem aZ1 {fO PT:Addr} (F:Fun K "first_of_order" "first_of_order" aw9 f fd) (B:Bn mg) (FO:Fq K mg "order_of" aW9 fO fdO ["tally"]) (hc:fdO.code=.ref c) (LB:av2 base mg c PT)
  (FT:Fq K mg "check_tally" ax0 fT fdT ["tally"]) (mM:mg "MOST_PLACES"=some (.int 24 tk)) (mB:mg "BadTally"=some (.ref CB)) (cB:am6 K CB):A0 P w K mg base (CXE P w) 3 f fd ["tally","many","passed_over"] (aP9 K PT):=by
 have GO:A0 P w K mg base (CXE P w) 2 fO fdO ["tally"] (bV6 K CB PT):=cd0 FO.F hc LB B FT mM mB cB
 refine F.okX bN4 (fun cdv A outer s H vs Q E hr h=>?_)
 obtain⟨a,pa,ns,ps,k,rfl,hS,ht,hpa,tb,q⟩:=h
 have hsl:=N4
 have hun:=hr.units
 have t2:=ht.2
 have nd2:(["place","passed_over"]:List Str).Nodup:=by decide +kernel
 refine⟨_,o8 (C3 (ag0 an3 (L0 (N':=["place","passed_over"]) (lk:=[none,some 2]) rfl (U0 (C4 GO hr (by rfl) FO (at5 (P:=P) (w:=w)) (b9 (pv 0) d4))) (by rfl) rfl (by decide +kernel) (by exact⟨rfl,trivial⟩) (by rfl) (by exact LkL.ok ⟨⟨rfl,Or.inl rfl,rfl,Or.inl rfl⟩,trivial⟩)
  (fun _ _ _=>A2 (i:=0) nd2 rfl (Or.inl rfl)) (fun _ _ _=>ah9 (C0 (aF7 K hr.around rfl rfl) (pv 0) (pv 1) (by rfl))) (fun _ _ _=>pv 0)) at4 (ai0 (pv 1)))),?_⟩
 refine⟨_,rfl,a,ns,rfl,hS,fun _=>⟨tb,fun zs D1 H1 g1 tb1 gD hp hs=>⟨D1,rfl,⟨_,SqL.of gD⟩,fun D hD=>?_⟩⟩,fun h=>absurd ht h⟩
 have hzl:zs.length=ns.length:=by rw[hp.length_eq,ad7]
 have hpa1:=U5.sqL g1 tb hpa
 refine Q5 (K:=K) (a:=D1) (D:=D) (ys:=zs.map V.int) (fun i xs σ' H'=>(∃ v,σ'=[v,some (.ref pa)])/\u7 H1 H'/\H' D=some (.lst xs)/\xs=(aa0 ps (zs.take i)).map V.int) ⟨⟨none,rfl⟩,i8 hD,c6,rfl⟩ (by rw[b8];omega)
  (fun i xs σ' H' hi ⟨_, s6, h6, e6⟩ => ⟨SqL.of (s6 _ _ gD), h6, by
   rw[e6,b8]
   have:=F5 (fun x=>!decide (x∈ps)) (zs.take i)
   rw[q8]at this
   unfold aa0
   omega⟩) ?_ ?_
 ·rintro i xs x σ' H' N kN hx ⟨⟨v,rfl⟩,s6,h6,rfl⟩
  obtain⟨z,hz,rfl⟩:=P6 hx
  refine x6 ?_
  refine⟨_,rfl,_,rfl,bg8 hun (s6.seq hpa1) ⟨_,rfl,?_⟩⟩
  have et:aa0 ps (zs.take (i+1))=aa0 ps (zs.take i)++aa0 ps [z]:=by
   unfold aa0
   rw[A7,hz,bK5,L5]
  by_cases hm:z∈ps
  ·rw[decide_eq_true hm]
   refine P5 ?_
   refine kN _ _ _ ⟨⟨_,rfl⟩,s6,h6,?_⟩
   have e0:aa0 ps [z]=[]:=by unfold aa0;rw[G1 (by rw[decide_eq_true hm];decide)];rfl
   rw[et,e0,B4]
  ·rw[decide_eq_false hm]
   refine X1 ?_
   refine⟨_,rfl,h6,kN _ _ _ ⟨⟨_,rfl⟩,s6.upd hD,c6,?_⟩⟩
   have e0:aa0 ps [z]=[z]:=by unfold aa0;rw[G0 (by rw[decide_eq_false hm];decide)];rfl
   rw[et,e0,j9]
   rfl
 ·rintro xs σ' H3 ⟨⟨v,rfl⟩,s6,h6,rfl⟩
  rw[k8 (by rw[b8];exact c9 _)]at h6
  refine⟨_,rfl,_,rfl,D,_,rfl,SqL.of h6,fun l hl=>?_⟩
  rw[am3]
  have s7:=s6.trans (i8 (o:=.lst (((aa0 ps zs).take k).map V.int)) hl)
  exact q zs l _ (g1.trans (s7.grow PT)) (tb1.same s7) (aN1 (g1.trans (s6.grow PT)) (tb1.same s6) hl) hp hs c6
def by0 (K:W.Frag):Sp:=fun vs H Q _=>∃ (a ea:Addr) (ns es:List Int) (p:Nat),vs=[.ref a,.int p,.ref ea]/\Sq K H a ns/\ns.length<=24/\SqL K H ea (es.map V.int) /\
 ∀ (l:Addr) (H':Hp),u7 H H'->H l=none->H' l=some (.lst ((X4 ns p es).map V.int))->Q (.ref l) H'
theorem bz2:y9 ["tally","place","ends","others"] ["tally","place","ends"] (q0 aL7):=.mk'
theorem bF0 {z:Int}(h:z∈O4 n p):∃ j:Nat,z=(j:Int)/\j<n:=by
 obtain⟨j,hj,rfl⟩:=p0.mp h
 exact⟨j,rfl,v8.mp (F1.mp hj).1⟩
theorem bu1 (ns es:List Int)(p:Nat):(O4 ns.length p).map (fun z=>ae0 ns es z.toNat)=X4 ns p es:=by
 unfold O4 X4
 rw[M4]
 refine K1 fun j _=>?_
 show ae0 ns es (j:Int).toNat=_
 rw[m7]
set_option maxHeartbeats 1000000 in
theorem bP5 (F:Fun K "left_of_others" "left_of_others" aL7 f fd) (B:Bn mg):A0 P w K mg base CX0 1 f fd ["tally","place","ends"] (by0 K):=by
 refine F.ok bz2 (fun cdv A outer s H vs Q E hr h=>?_)
 obtain⟨a,ea,ns,es,p,rfl,hS,hn,hea,q⟩:=h
 have hsl:=N4
 have hun:=hr.units
 have nd2:(["one","place"]:List Str).Nodup:=by decide +kernel
 have nd3:(["one","tally","ends"]:List Str).Nodup:=by decide +kernel
 refine⟨_,j0 (aQ7 (i:=3) bz2.nd rfl rfl (by rfl) (N':=["one","place"]) (lk:=[none,some 1]) rfl (S7 rfl B.range (b9 (p7 A5 (by rfl) B.len PySem.boot_len (b9 (pv 0) d4)) d4)) (by rfl) rfl (by decide +kernel) (by exact⟨rfl,trivial⟩) (by rfl) (by exact LkL.ok ⟨⟨rfl,Or.inl rfl,rfl,Or.inl rfl⟩,trivial⟩)
    (fun _ _ _=>A2 (i:=0) nd2 rfl (Or.inl rfl)) (fun _ _ _=>ah9 (C0 az9 (pv 0) (pv 1) (E9 _))) (fun _ _ _=>pv 0))
  (o8 (C3 (L0 (N':=["one","tally","ends"]) (lk:=[none,some 0,some 2]) rfl (U0 (pv 3)) (by rfl) rfl (by decide +kernel) (by exact⟨rfl,rfl,trivial⟩) (by rfl) (by exact LkL.ok ⟨⟨rfl,Or.inl rfl,rfl,Or.inl rfl⟩,⟨rfl,Or.inl rfl,rfl,Or.inl rfl⟩,trivial⟩)
    (fun _ _ _=>A2 (i:=0) nd3 rfl (Or.inl rfl)) (fun _ _ _=>P4) (fun _ _ _=>aY6 (C0 (bm7 K hr.around rfl rfl) (pv 0) (pv 2) (by rfl)) (u4 W2 (ai1 K rfl (pv 1) (pv 0) (fun _ _=>rfl)) j6) (ai1 K rfl (pv 1) (pv 0) (fun _ _=>rfl)))))),?_⟩
 refine⟨_,rfl,a,_,rfl,hS,(ns.length:Int),congrArg (fun z:Nat=>[V.int (z:Int)]) (b8 ..),by omega,by omega,fun D hD=>?_⟩
 rw[m7]
 refine ac7 (lo:=0) (n:=ns.length) (D:=D) (fun i xs σ' H'=>(∃ v,σ'=[v,some (.int p)])/\u7 H H'/\H' D=some (.lst xs)/\xs=(O4 i p).map V.int) ⟨⟨none,rfl⟩,i8 hD,c6,rfl⟩ (by omega)
  (fun i xs σ' H' hi ⟨_, s6, h6, e6⟩ => ⟨h6, by
   rw[e6,b8]
   unfold O4
   rw[b8]
   have:=F5 (fun j=>decide (j≠p)) (p5 i)
   rw[y7]at this
   exact this⟩) ?_ ?_
 ·rintro i xs σ' H' N kN hi ⟨⟨v,rfl⟩,s6,h6,rfl⟩
  have e0:((0:Int)+(i:Int))=(i:Int):=by omega
  rw[e0]
  refine x6 ?_
  refine⟨_,rfl,_,rfl,rfl,_,rfl,?_⟩
  have et:O4 (i+1) p=O4 i p++(if i=p then [] else [(i:Int)]):=by
   unfold O4
   rw[D0,L5,j9]
   congr 1
   by_cases h:i=p<;>simp[h]
  by_cases hm:i=p
  ·refine aA0 (by rw[hm]) ?_
   refine kN _ _ _ ⟨⟨_,rfl⟩,s6,h6,?_⟩
   rw[et,if_pos hm,B4]
  ·rw[decide_eq_false (show ¬ (V.int (i:Int)=V.int (p:Int)) from fun z=>hm (by injection z;omega))]
   refine X1 ?_
   refine⟨_,rfl,h6,kN _ _ _ ⟨⟨_,rfl⟩,s6.upd hD,c6,?_⟩⟩
   rw[et,if_neg hm,j9]
   rfl
 ·rintro xs σ' H3 ⟨⟨v,rfl⟩,s6,h6,rfl⟩
  have hkl:(O4 ns.length p).length<=24:=by
   unfold O4
   rw[b8]
   have:=F5 (fun j=>decide (j≠p)) (p5 ns.length)
   rw[y7]at this
   omega
  refine⟨_,rfl,D,rfl,⟨_,SqL.of h6⟩,fun D2 hD2=>?_⟩
  have hS3:=hS.same s6
  have hea3:=s6.seq hea
  refine Q5 (K:=K) (a:=D) (D:=D2) (ys:=(O4 ns.length p).map V.int) (fun i xs σ' H'=>(∃ v,σ'=[v,some (.ref a),some (.ref ea)])/\u7 H3 H'/\H' D2=some (.lst xs)/\xs=(((O4 ns.length p).take i).map fun z=>ae0 ns es z.toNat).map V.int) ⟨⟨none,rfl⟩,i8 hD2,c6,rfl⟩ (by rw[b8];omega)
   (fun i xs σ' H' hi ⟨_,s8,h8,e8⟩=>⟨SqL.of (s8 _ _ h6),h8,by rw[e8,b8,b8,q8];omega⟩) ?_ ?_
  ·rintro i xs x σ' H' N kN hx ⟨⟨v,rfl⟩,s8,h8,rfl⟩
   obtain⟨z,hz,rfl⟩:=P6 hx
   obtain⟨j,rfl,hj⟩:=bF0 (d8 hz)
   refine x6 (L9 ?_)
   have fin:∀ y:Int,y=ae0 ns es j->(H' D2=some (.lst ((((O4 ns.length p).take i).map fun z=>ae0 ns es z.toNat).map V.int))/\N ((((O4 ns.length p).take i).map fun z=>ae0 ns es z.toNat).map V.int++[.int y]) [some (.int j),some (.ref a),some (.ref ea)] (upd H' D2 (.lst ((((O4 ns.length p).take i).map fun z=>ae0 ns es z.toNat).map V.int++[.int y])))):=fun y ey=>by
    refine⟨h8,kN _ _ _ ⟨⟨_,rfl⟩,s8.upd hD2,c6,?_⟩⟩
    rw[A7,hz,j9,j9,ey]
    rfl
   refine⟨_,rfl,_,rfl,bS0 hun (s8.seq hea3) ⟨_,rfl,?_⟩⟩
   by_cases hm:(j:Int)∈es
   ·rw[decide_eq_true hm]
    refine X1 ⟨_,rfl,_,rfl,bb1 (hS3.same s8) hj ⟨_,_,rfl,rfl,fin _ ?_⟩⟩
    unfold ae0
    rw[if_pos hm]
   ·rw[decide_eq_false hm]
    refine P5 ⟨_,rfl,_,rfl,bb1 (hS3.same s8) hj (fin _ ?_)⟩
    unfold ae0
    rw[if_neg hm]
  ·rintro xs σ' H4 ⟨⟨v,rfl⟩,s8,h8,rfl⟩
   rw[k8 (by rw[b8];exact c9 _),bu1]at h8
   exact q D2 H4 (s6.trans s8) (s6.free hD2) h8
end
theorem p40:(0:Int)<10 ^ (Int.toNat 40):=Int.pow_pos (by decide)
theorem ad6 (ns:List Int)(j:Nat)(v:Int):(ns.map V.int).set j (.int v)=(ns.set j v).map V.int:=by rw[av7]
theorem bG6 {k:Int}(h0:0<=k)(h1:k<1000):-(2 ^ 63)<=k/\k<2 ^ 63:=by
 constructor<;>omega
theorem bW5 (n:Nat)(z:Int):(u5 n [V.int z]).flatten=(u5 n z).map V.int:=by
 induction n with
 | zero=>rfl
 | succ n ih=>rw[N3,Q2,ih,N3];rfl
section
variable {K:W.Frag} {mg:Str->Option Value} {base:Heap}
def bf3 (K:W.Frag):Sp:=fun vs H Q _=>∃ (a:Addr) (ns:List Int),vs=[.ref a]/\Sq K H a ns/\ns.length<64/\∀ (l:Addr) (H':Hp),u7 H H'->H l=none->H' l=some (.lst ((up2 ns).reverse.map V.int))->Q (.ref l) H'
theorem cb2:y9 ["tally"] ["tally"] (q0 as7):=.mk'
theorem bm8 (F:Fun K "falling" "falling" as7 f fd)(B:Bn mg):A0 P w K mg base CX0 1 f fd ["tally"] (bf3 K):=by
 refine F.ok cb2 (fun cdv A outer s H vs Q E hr h=>?_)
 obtain⟨a,ns,rfl,hS,h64,q⟩:=h
 refine⟨_,o8 (C3 (bB2 K rfl (by rfl) B.sorted (b9 (pv 0) d4))),?_⟩
 refine⟨_,rfl,a,ns,rfl,hS,h64,fun l zs hl hp hs=>?_⟩
 rw[bo4 hp hs]
 exact q l _ (i8 hl) hl c6
def aQ1 (K:W.Frag):Sp:=fun vs H Q _=>∃ (a:Addr) (ns:List Int) (M r:Nat),vs=[.ref a,.int M,.int r]/\SqL K H a ((up2 ns).reverse.map V.int)/\M<=1000000/\r<=100/\ns.length<64/\∀ (H':Hp),u7 H H'->Q (.int (aj1 ns M r)) H'
theorem bl4:y9 ["numbers","most","r","from_others"] ["numbers","most","r"] (q0 ah8):=.mk'
theorem aZ3 (F:Fun K "room_among" "room_among" ah8 f fd) (B:Bn mg):A0 P w K mg base CX0 1 f fd ["numbers","most","r"] (aQ1 K):=by
 refine F.ok bl4 (fun cdv A outer s H vs Q E hr h=>?_)
 obtain⟨a,ns,M,r,rfl,hS,hM,hr1,h64,q⟩:=h
 have hsl:=N4
 have nd2:(["number","most","r"]:List Str).Nodup:=by decide +kernel
 have hlen:(up2 ns).reverse.length=ns.length:=by rw[bU7,aB5]
 generalize hz:(up2 ns).reverse=zs at hS hlen
 refine⟨_,j0 (x5 (i:=3) bl4.nd rfl (Or.inl rfl) (p7 (ac8 rfl) (by rfl) B.sum (by rfl) (b9
   (L0 (N' := ["number", "most", "r"]) (lk := [none, some 1, some 2]) rfl (U0 (ag0 an3 (pv 0) (ai0 (pv 2)) at4)) (by rfl) rfl (by decide +kernel) (by exact ⟨rfl, rfl, trivial⟩) (by rfl) (by exact LkL.ok ⟨⟨rfl, Or.inl rfl, rfl, Or.inl rfl⟩, ⟨rfl, Or.inl rfl, rfl, Or.inl rfl⟩, trivial⟩)
    (fun _ _ _=>A2 (i:=0) nd2 rfl (Or.inl rfl)) (fun _ _ _=>P4) (fun _ _ _=>p7 (ao1 rfl) (by rfl) B.min (by rfl) (b9 (pv 0) (b9 (u4 ar1 (pv 1) (pv 2)) d4)))) d4)))
  (o8 (C3 (u4 W2 (u4 L1 (u4 ar1 (u4 ar1 (pv 1) (pv 2)) (u4 W2 (pv 2) j6)) (pv 3)) (p7 (ac8 rfl) (by rfl) B.sum (by rfl) (b9 (ag0 an3 (pv 0) at4 (ai0 (pv 2))) d4))))),?_⟩
 refine⟨_,rfl,_,rfl,_,rfl,a,_,rfl,hS,fun c hc=>?_⟩
 rw[ap6]
 have s1:=i8 (o:=.lst ((zs.drop r).map V.int)) hc
 refine⟨c,rfl,⟨_,SqL.of c6⟩,fun D hD=>Q5 (K:=K) (a:=c) (D:=D) (ys:=(zs.drop r).map V.int) (fun i xs σ' H'=>∃ v,σ'=[v,some (.int M),some (.int r)]/\u7 H H'/\H' c=some (.lst ((zs.drop r).map V.int))/\xs=(((zs.drop r).take i).map (mn ((M:Int)*(r:Int)))).map V.int/\H' D=some (.lst xs))
   ⟨none,rfl,s1.trans (i8 hD),i8 hD _ _ c6,by simp,c6⟩ (by rw[b8,F3];omega) (fun i xs σ' H' hi ⟨_,_,s3,g3,e3,h3⟩=>⟨SqL.of g3,h3,by rw[e3,b8,b8,q8,F3];omega⟩) ?_ ?_⟩
 ·rintro i xs x σ' H' N kN hx ⟨v,rfl,s3,g3,rfl,h3⟩
  obtain⟨z,hz',rfl⟩:=P6 hx
  refine x6 (L9 ?_)
  refine⟨_,rfl,_,rfl,_,rfl,_,_,rfl,rfl,.inl ⟨by omega,by omega⟩,_,_,rfl,?_⟩
  refine⟨h3,kN _ _ _ ⟨_,rfl,s3.upd (s1.free hD),?_,?_,c6⟩⟩
  ·rw[t4 (r6 c6 hD)];exact g3
  ·rw[A7,hz',j9,j9];rfl
 ·rintro xs σ' H3 ⟨v,rfl,s3,g3,rfl,h3⟩
  rw[k8 (by rw[b8];exact c9 _)]at h3
  refine⟨D,_,rfl,SqL.of h3,?_⟩
  refine⟨_,rfl,_,rfl,_,_,rfl,rfl,.inl ⟨by omega,by omega⟩,_,rfl,_,_,rfl,rfl,_,_,rfl,rfl,.inr ⟨by omega,by omega⟩,_,rfl,_,_,rfl,rfl,?_⟩
  refine⟨_,rfl,_,rfl,_,rfl,a,_,rfl,s3.seq hS,fun c2 hc2=>?_⟩
  rw[am3]
  refine⟨c2,_,rfl,SqL.of c6,_,_,rfl,rfl,?_⟩
  have fin:=q _ (s3.trans (i8 (o:=.lst ((zs.take r).map V.int)) hc2))
  rw[<- az7 (M:=M) (r:=r) hz.symm]at fin
  exact fin
end
def wlT:Wl->List V
 | .below p=>[.str "below",.int p]
 | .odd=>[.str "odd"]
 | .wall r=>[.str "wall",.int r]
 | .free=>[]
def cp8 (H:Hp)(v:V)(x:Wl):Prop:=(x=.free/\v=.non)\/(x≠.free/\∃ a,v=.ref a/\H a=some (.tup (wlT x)))
theorem bR8 {a b:Int}(h:decide (V.int a=V.int b)=true):a=b:=by
 have:=of_decide_eq_true h
 injection this
theorem bF3 {a b:Int}(h:¬ decide (V.int a=V.int b)=true):¬ a=b:=fun e=>h (by rw[e];exact decide_eq_true rfl)
section
variable {K:W.Frag} {mg:Str->Option Value} {base:Heap}
def aQ0 (K:W.Frag):Sp:=fun vs H Q _=>∃ (a:Addr) (ns:List Int),vs=[.ref a]/\Sq K H a ns/\ns.length<=100/\∀ (l:Addr) (H':Hp),u7 H H'->H l=none->H' l=some (.lst ((cg9 ns).map V.int))->Q (.ref l) H'
theorem bN5:y9 ["numbers"] ["numbers"] (q0 al6):=.mk'
theorem aZ2 (F:Fun K "places_below" "places_below" al6 f fd)(B:Bn mg):A0 P w K mg base CX0 1 f fd ["numbers"] (aQ0 K):=by
 refine F.ok bN5 (fun cdv A outer s H vs Q E hr h=>?_)
 obtain⟨a,ns,rfl,hS,hn,q⟩:=h
 have hsl:=N4
 have nd2:(["place","number"]:List Str).Nodup:=by decide +kernel
 refine⟨_,o8 (C3 (L0 (N':=["place","number"]) (lk:=[none,none]) rfl (bm4 (aC0 (by rfl) B.enum (b9 (pv 0) d4)) (aY4 (by rfl) B.enum (b9 (pv 0) d4))) (by rfl) rfl (by decide +kernel) (by exact trivial) (by rfl) (by exact LkL.ok trivial)
    (fun _ _ _=>aC1 (n:=2) K rfl rfl (Q0 (A2 (i:=0) nd2 rfl (Or.inl rfl)) (Q0 (A2 (i:=1) nd2 rfl (Or.inl rfl)) an5))) (fun _ _ _=>ah9 (C0 ap3 (pv 1) j6 (E9 _))) (fun _ _ _=>pv 0))),?_⟩
 refine Or.imp (fun h=>⟨_,rfl,h⟩) (fun h=>⟨_,rfl,h⟩) (aH6 (K:=K) (a:=a) (ys:=ns.map V.int) hS (by rw[b8];omega)
  (fun D i xs σ' H'=>(∃ v u,σ'=[v,u])/\u7 H H'/\H' D=some (.lst xs)/\xs=((au8 ns i).map Int.ofNat).map V.int) (fun D hD=>⟨⟨none,none,rfl⟩,i8 hD,c6,rfl⟩)
  (fun D i xs σ' H' hD hi ⟨_,s1,h1,e1⟩=>⟨s1,h1,by rw[e1,b8,b8];exact bI0 ns i⟩) ?_ ?_)
 ·rintro D i xs x t σ' H' N hD kN hx ⟨⟨v,u,rfl⟩,s1,h1,rfl⟩ ht
  obtain⟨z,hz,rfl⟩:=P6 hx
  have s2:=i8 (o:=.tup [.int i,.int z]) ht
  refine⟨t,_,rfl,SqT.of c6,rfl,_,_,rfl,_,_,rfl,rfl,?_⟩
  refine⟨_,rfl,_,_,rfl,rfl,_,rfl,?_⟩
  have e3:=bv8 ns i
  rw[au7 hz]at e3
  by_cases hb:z<0
  ·rw[decide_eq_true hb]
   refine X1 ⟨_,rfl,s2 _ _ h1,kN _ _ _ ⟨⟨_,_,rfl⟩,(s1.trans s2).upd hD,c6,?_⟩⟩
   rw[e3,if_pos hb,j9,j9]
   rfl
  ·rw[decide_eq_false hb]
   refine P5 (kN _ _ _ ⟨⟨_,_,rfl⟩,s1.trans s2,s2 _ _ h1,?_⟩)
   rw[e3,if_neg hb,B4]
 ·rintro D xs σ' H' hD ⟨⟨v,u,rfl⟩,s1,h1,rfl⟩
  rw[b8]at h1
  exact q D H' s1 hD h1
def bk7 (K:W.Frag)(CB:Addr):Sp:=fun vs H Q E=>∃ (a:Addr) (ns:List Int) (M:Nat),vs=[.ref a,.int M]/\Sq K H a ns/\M<=1000000/\(S0 ns->∀ (v:V) (x:Wl) (H':Hp),u7 H H'->bp9 ns M x->cp8 H' v x->Q v H')/\(¬ S0 ns->E (.ref CB) none H)
theorem aB7:y9 ["tally","most","below","numbers","r"] ["tally","most"] (q0 aw7):=.mk'
set_option maxHeartbeats 1000000 in
theorem bC6 {fF fA fβ:Addr} (F:Fun K "wall_with" "wall_with" aw7 f fd) (B:Bn mg) (FT:Fq K mg "check_tally" ax0 fT fdT ["tally"])
  (FF:Fq K mg "falling" as7 fF fdF ["tally"]) (FA:Fq K mg "room_among" ah8 fA fdA ["numbers","most","r"])
  (Fβ:Fq K mg "places_below" al6 fβ fdβ ["numbers"])
  (mM:mg "MOST_PLACES"=some (.int 24 tk)) (mB:mg "BadTally"=some (.ref CB)) (cB:am6 K CB):A0 P w K mg base (CXE P w) 2 f fd ["tally","most"] (bk7 K CB):=by
 have GT:A0 P w K mg base (CXE P w) 1 fT fdT ["tally"] (aL5 K CB):=aR3 FT.F B mM mB cB
 have GF:A0 P w K mg base CX0 1 fF fdF ["tally"] (bf3 K):=bm8 FF.F B
 have GA:A0 P w K mg base CX0 1 fA fdA ["numbers","most","r"] (aQ1 K):=aZ3 FA.F B
 have GL:A0 P w K mg base CX0 1 fβ fdβ ["numbers"] (aQ0 K):=aZ2 Fβ.F B
 refine F.okX aB7 (fun cdv A outer s H vs Q E hr h=>?_)
 obtain⟨a,ns,M,rfl,hS,hM,h1,h2⟩:=h
 have hsl:=N4
 refine⟨_,j0 (Y5 (C4 GT hr (by rfl) FT ap2 (b9 (pv 0) d4)))
   (j0 (x5 (i:=2) aB7.nd rfl (Or.inl rfl) (C4 GL hr (by rfl) Fβ G6 (b9 (pv 0) d4)))
   (j0 (O1 (aF1 (pv 2) (fun _=>rfl)) (o8 (C3 (R9 (b9 aF4 (b9 (C7 U1 (pv 2) j6 (fun _ _=>rfl)) d4))))) E6)
   (j0 (O1 (C0 aY8 (u4 O3 (p7 (aN8 rfl) (by rfl) B.sum (by rfl) (b9 (pv 0) d4)) j6) j6 (E9 _)) (o8 (C3 (R9 (b9 aF4 d4)))) E6)
   (j0 (x5 (i:=3) aB7.nd rfl (Or.inl rfl) (C4 GF hr (by rfl) FF G6 (b9 (pv 0) d4)))
   (j0 (ac3 bB0 rfl (ax5 rfl B.range (b9 j6 (b9 (u4 L1 (p7 A5 (by rfl) B.len PySem.boot_len (b9 (pv 3) d4)) j6) d4))) (A2 (i := 4) aB7.nd rfl (Or.inl rfl))
    (o8 (O1 (C0 ap3 (C4 GA hr (by rfl) FA G6 (b9 (pv 3) (b9 (pv 1) (b9 (pv 4) d4)))) j6 (E9 _)) (o8 (C3 (R9 (b9 aF4 (b9 (pv 4) d4))))) E6)))
   (o8 (C3 bg5))))))),?_⟩
 refine⟨_,rfl,a,ns,rfl,hS,fun ht=>?_,h2⟩
 have t2:=ht.2
 refine⟨_,rfl,a,ns,rfl,hS,by omega,fun bl H1 s1 hbl g1=>?_⟩
 refine⟨_,rfl,_,.inl ⟨_,SqL.of g1,rfl⟩,?_⟩
 unfold cg9 at g1 ⊢
 cases hb:au8 ns ns.length with
 | cons p ps =>
  rw[hb]at g1
  refine X1 ⟨_,rfl,bl,_,_,_,rfl,rfl,SqL.of g1,C1 (j:=0) rfl,(by show 2<=j7;decide),fun q hq=>?_⟩
  exact h1 ht _ (.below p) _ (s1.trans (i8 hq)) (bd1 hb) (.inr ⟨by simp,q,rfl,c6⟩)
 | nil =>
  have hall:AllP ns:=bp5 hb
  refine P5 ?_
  refine⟨_,rfl,a,ns,rfl,hS.same s1,_,_,rfl,rfl,(by show (0:Int)<2;decide),rfl,_,rfl,?_⟩
  refine bb3 (fun h=>?_) (fun h=>?_)
  ·exact⟨(by show 1<=j7;decide),fun p hp=>h1 ht _ .odd _ (s1.trans (i8 hp)) ⟨hall,bR8 h⟩ (.inr ⟨by simp,p,rfl,c6⟩)⟩
  ·have hev:=bF3 h
   refine⟨_,rfl,a,ns,rfl,hS.same s1,by omega,fun l H2 s2 hl g2=>?_⟩
   refine⟨_,rfl,l,_,rfl,.inl (SqL.of g2),_,_,rfl,rfl,1,((ns.length:Int)+1),by rw[b8,bU7,aB5],⟨by omega,by omega,by omega,by omega⟩,?_⟩
   rw[show ((ns.length:Int)+1 - 1).toNat=ns.length by omega]
   refine Y2 (lo:=1) (n:=ns.length) (fun i σ H3=>∃ e4,σ=[some (.ref a),some (.int M),some (.ref bl),some (.ref l),e4]/\u7 H2 H3/\∀ k,1<=k->k<i+1->0<=aj1 ns M k) ⟨none,rfl,u7.refl H2,fun k k1 k2=>by omega⟩ ?_ ?_
   ·rintro i σ H3 hi ⟨e4,rfl,s3,hrm⟩
    have e0:((1:Int)+(i:Int))=((i+1:Nat):Int):=by omega
    rw[e0]
    refine x6 ?_
    refine⟨_,rfl,_,rfl,_,rfl,l,ns,M,i+1,rfl,SqL.of (s3 _ _ g2),hM,by omega,by omega,fun H4 s4=>⟨_,_,rfl,rfl,_,rfl,?_⟩⟩
    refine bb3 (fun h=>?_) (fun h=>?_)
    ·refine⟨_,rfl,(by show 2<=j7;decide),fun p hp=>?_⟩
     exact h1 ht _ (.wall (i+1)) _ ((((s1.trans s2).trans s3).trans s4).trans (i8 hp)) ⟨hall,hev,by omega,by omega,of_decide_eq_true h,hrm⟩ (.inr ⟨by simp,p,rfl,c6⟩)
    ·have h':¬ aj1 ns M (i+1)<0:=fun q=>h (decide_eq_true q)
     refine⟨_,rfl,s3.trans s4,fun k k1 k2=>?_⟩
     rcases A1 k (i+1) with l1 | l1
     ·exact hrm k k1 l1
     ·rw[show k=i+1 by omega];omega
   ·rintro σ H3 ⟨e4,rfl,s3,hrm⟩
    exact h1 ht _ .free _ ((s1.trans s2).trans s3) ⟨hall,hev,fun k k1 k2=>hrm k k1 (by omega)⟩ (.inl ⟨rfl,rfl⟩)
def bx6 (K:W.Frag)(CB:Addr):Sp:=fun vs H Q E=>∃ (a:Addr) (ns:List Int),vs=[.ref a]/\Sq K H a ns/\(S0 ns->∀ (v:V) (x:Wl) (H':Hp),u7 H H'->bj0 ns x->cp8 H' v x->Q v H')/\(¬ S0 ns->E (.ref CB) none H)
theorem ca9:y9 ["tally"] ["tally"] (q0 aW7):=.mk'
theorem bP1 {fω fF fA fβ:Addr}{fdω:FuncData}(F:Fun K "wall_of" "wall_of" aW7 f fd)(B:Bn mg)(FT:Fq K mg "check_tally" ax0 fT fdT ["tally"])
  (FF:Fq K mg "falling" as7 fF fdF ["tally"])(FA:Fq K mg "room_among" ah8 fA fdA ["numbers","most","r"])
  (Fβ:Fq K mg "places_below" al6 fβ fdβ ["numbers"])(Fω:Fq K mg "wall_with" aw7 fω fdω ["tally","most"])
  (mM:mg "MOST_PLACES"=some (.int 24 tk))(mB:mg "BadTally"=some (.ref CB))(cB:am6 K CB):A0 P w K mg base (CXE P w) 3 f fd ["tally"] (bx6 K CB):=by
 have GW:A0 P w K mg base (CXE P w) 2 fω fdω ["tally","most"] (bk7 K CB):=bC6 Fω.F B FT FF FA Fβ mM mB cB
 refine F.okX ca9 (fun cdv A outer s H vs Q E hr h=>?_)
 obtain⟨a,ns,rfl,hS,h1,h2⟩:=h
 refine⟨_,o8 (C3 (C4 GW hr (by rfl) Fω ap2 (b9 (pv 0) (b9 j6 d4)))),?_⟩
 exact⟨_,rfl,a,ns,1,rfl,hS,by decide,fun ht v x H' s' hx hv=>h1 ht v x H' s' (bk0 hx) hv,h2⟩
end
theorem aH1 {PT l:Addr}{po:Pos}{qu:Str}(g:U5 PT H H')(t:U7 PT po qu H)(h:H l=some (.lst xs)):H' l=some (.lst xs):=by
 obtain⟨ps,hP,_⟩:=t
 exact g l _ (fun z=>by rw[z,hP]at h;cases h) h
theorem aN0 {K:W.Frag}{PT:Addr}{po:Pos}{qu:Str}(g:U5 PT H H')(t:U7 PT po qu H):∀ {zs:List V} {ks:List (List Int)},A4 K H zs ks->A4 K H' zs ks
 | _,_,.nil=>.nil
 | _,_,.cons ⟨a,e,h⟩ r=>.cons ⟨a,e,U5.sqT g t h⟩ (aN0 g t r)
section
variable {K:W.Frag} {mg:Str->Option Value} {base:Heap}
noncomputable def aN2 (ns:List Int)(p:Nat)(es:List Int):List (List Int):=star p es++bE2 (ns.length - 1) (X4 ns p es) (O4 ns.length p)
def by1 (K:W.Frag)(PT:Addr):Sp:=fun vs H Q _=>∃ (a ea:Addr) (ns es:List Int) (p:Nat),vs=[.ref a,.int p,.ref ea]/\Sq K H a ns/\S0 ns/\p<ns.length/\SqL K H ea (es.map V.int)/\es.Nodup/\es.length<=24/\(∀ z∈es,0<=z/\z<ns.length/\z≠p)/\(es.length:Int)=ns.getD p 0/\Gr (X4 ns p es)/\Tb PT H /\
 ∀ (r t:Addr) (zs:List V) (ks:List (List Int)) (H':Hp),U5 PT H H'->Tb PT H'->H' r=some (.tup [.int ns.length,.ref t])->H' t=some (.tup zs)->A4 K H' zs ks->ks.Perm ((aN2 ns p es).map up)->ks.Pairwise (fun a b=>Tim.K4 b a=false)->tal ns.length ks=ns->(∀ k∈ks,Up ns.length k)->ks.Nodup->Q (.ref r) H'
theorem al4:y9 ["tally","place","ends","ties","places","left","chosen"] ["tally","place","ends"] (q0 aX1):=.mk'
set_option maxHeartbeats 2000000 in
theorem bP7 {fI fU fV fO fF fL PT:Addr} {fdU fdV fdL:FuncData} (F:Fun K "laid_around" "laid_around" aX1 f fd) (B:Bn mg) (FI:Fq K mg "is_place" aX3 fI fdI ["places","number"])
    (FU:Fq K mg "turned_up" sUp fU fdU ["places","tie"]) (FV:Fq K mg "made" aL6 fV fdV ["places","ties"])
    (FO:Fq K mg "order_of" aW9 fO fdO ["tally"]) (hc:fdO.code=.ref c) (LB:av2 base mg c PT)
    (FT:Fq K mg "check_tally" ax0 fT fdT ["tally"]) (FF:Fq K mg "first_of_order" aw9 fF fdF ["tally","many","passed_over"])
    (FL:Fq K mg "left_of_others" aL7 fL fdL ["tally","place","ends"])
    (mM:mg "MOST_PLACES"=some (.int 24 tk)) (mB:mg "BadTally"=some (.ref CB)) (cB:am6 K CB):A0 P w K mg base CX0 4 f fd ["tally","place","ends"] (by1 K PT):=by
  have GF:A0 P w K mg base (CXE P w) 3 fF fdF ["tally","many","passed_over"] (aP9 K PT):=aZ1 FF.F B FO hc LB FT mM mB cB
  have GL:A0 P w K mg base CX0 3 fL fdL ["tally","place","ends"] (by0 K):=(bP5 FL.F B).mono (by decide)
  have GV:A0 P w K mg base CX0 3 fV fdV ["places","ties"] (bx9 K):=bP4 FV.F B FI FU mM
  refine F.ok al4 (fun cdv A outer s H vs Q E hr h=>?_)
  obtain⟨a,ea,ns,es,p,rfl,hS,ht,hp,hea,ne,hel,he,hn,hg,tb,q⟩:=h
  have hsl:=N4
  have t2:=ht.2
  have nd1:(["end","place"]:List Str).Nodup:=by decide +kernel
  have nd2:(["one","place"]:List Str).Nodup:=by decide +kernel
  have nd3:(["one","places"]:List Str).Nodup:=by decide +kernel
  refine⟨_,j0 (aQ7 (i:=3) al4.nd rfl rfl (by rfl) (N':=["end","place"]) (lk:=[none,some 1]) rfl (U0 (pv 2)) (by rfl) rfl (by decide +kernel) (by exact⟨rfl,trivial⟩) (by rfl) (by exact LkL.ok ⟨⟨rfl,Or.inl rfl,rfl,Or.inl rfl⟩,trivial⟩)
        (fun _ _ _=>A2 (i:=0) nd1 rfl (Or.inl rfl)) (fun _ _ _=>P4) (fun _ _ _=>R9 (b9 (pv 1) (b9 (pv 0) d4))))
    (j0 (x5 (i:=4) al4.nd rfl (Or.inr rfl) (L0 (N':=["one","place"]) (lk:=[none,some 1]) rfl (S7 rfl B.range (b9 (p7 A5 (by rfl) B.len PySem.boot_len (b9 (pv 0) d4)) d4)) (by rfl) rfl (by decide +kernel) (by exact⟨rfl,trivial⟩) (by rfl) (by exact LkL.ok ⟨⟨rfl,Or.inl rfl,rfl,Or.inl rfl⟩,trivial⟩)
        (fun _ _ _=>A2 (i:=0) nd2 rfl (Or.inl rfl)) (fun _ _ _=>ah9 (C0 az9 (pv 0) (pv 1) (E9 _))) (fun _ _ _=>pv 0)))
    (j0 (x5 (i:=5) al4.nd rfl (Or.inl rfl) (C4 GL hr (by rfl) FL G6 (b9 (pv 0) (b9 (pv 1) (b9 (pv 2) d4)))))
    (j0 (aY3 PassesOwn.never (aF1 (pv 5) (fun _=>rfl))
      (j0 (x5 (i:=6) al4.nd rfl (Or.inl rfl) (C4 GF hr (by rfl) FF (at5 (P:=P) (w:=w)) (b9 (pv 5) (b9 (C7 U1 (pv 5) j6 (fun _ _=>rfl)) (b9 (Z6 (b9 j6 d4)) d4)))))
      (j0 (bA9 (i:=3) al4.nd rfl (Or.inl rfl) (L0 (N':=["one","places"]) (lk:=[none,some 4]) rfl (U0 (pv 6)) (by rfl) rfl (by decide +kernel) (by exact⟨rfl,trivial⟩) (by rfl) (by exact LkL.ok ⟨⟨rfl,Or.inl rfl,rfl,Or.inl rfl⟩,trivial⟩)
          (fun _ _ _=>A2 (i:=0) nd3 rfl (Or.inl rfl)) (fun _ _ _=>P4) (fun _ _ _=>R9 (b9 (ai1 K rfl (pv 1) j6 (fun _ _=>rfl)) (b9 (ai1 K rfl (pv 1) (pv 0) (fun _ _=>rfl)) d4)))) bF2)
      (j0 (x5 (i:=5) al4.nd rfl (Or.inl rfl) (C4 GL hr (by rfl) FL G6 (b9 (pv 5) (b9 j6 (b9 (pv 6) d4)))))
      (o8 (x5 (i:=4) al4.nd rfl (Or.inr rfl) (ag0 an3 (pv 4) (ai0 j6) at4)))))))
    (o8 (C3 (C4 GV hr (by rfl) FV G6 (b9 (p7 A5 (by rfl) B.len PySem.boot_len (b9 (pv 0) d4)) (b9 (pv 3) d4)))))))),?_⟩
  have hun:=hr.units
  refine⟨_,rfl,ea,rfl,⟨_,hea⟩,fun D hD=>Q5 (K:=K) (a:=ea) (D:=D) (ys:=es.map V.int) (fun i xs σ' H'=>(∃ v,σ'=[v,some (.int p)])/\u7 H H'/\H' D=some (.lst xs)/\A4 K H' xs (star p (es.take i)))
    ⟨⟨none, rfl⟩, i8 hD, c6, .nil⟩ (by rw [b8]; omega) (fun i xs σ' H' hi ⟨_, s6, h6, t6⟩ => ⟨s6.seq hea, h6, by
      have h7:=t6.len
      unfold star at h7
      rw[b8,q8]at h7
      omega⟩) ?_ ?_⟩
  · rintro i xs x σ' H' N kN hx ⟨⟨v,rfl⟩,s6,h6,t6⟩
    obtain⟨z,hz,rfl⟩:=P6 hx
    refine x6 (L9 ?_)
    refine⟨_,rfl,_,rfl,(by show 2<=j7;decide),fun t ft=>?_⟩
    have st:=i8 (o:=.tup [.int (p:Int),.int z]) ft
    have h6':=st _ _ h6
    refine⟨h6',kN _ _ _ ⟨⟨_,rfl⟩,(s6.trans st).upd hD,c6,?_⟩⟩
    have et:star p (es.take (i+1))=star p (es.take i)++[[(p:Int),z]]:=by
      unfold star
      rw[A7,hz,j9]
      rfl
    rw[et]
    refine A4.updL h6' (A4.append (st.tups t6) (A4.one (SqT.of ?_)))
    exact c6
  · rintro xs σ' H1 ⟨⟨v,rfl⟩,s1,h1,t1⟩
    rw[k8 (by rw[b8];exact c9 _)]at t1
    have hS1:=hS.same s1
    refine⟨_,rfl,a,_,rfl,hS1,(ns.length:Int),congrArg (fun z:Nat=>[V.int (z:Int)]) (b8 ..),by omega,by omega,fun D2 hD2=>?_⟩
    rw[m7]
    refine ac7 (lo:=0) (n:=ns.length) (D:=D2) (fun i xs σ' H'=>(∃ v,σ'=[v,some (.int p)])/\u7 H1 H'/\H' D2=some (.lst xs)/\xs=(O4 i p).map V.int) ⟨⟨none,rfl⟩,i8 hD2,c6,rfl⟩ (by omega)
      (fun i xs σ' H' hi ⟨_,s6,h6,e6⟩=>⟨h6,by
        rw[e6,b8]
        unfold O4
        rw[b8]
        have:=F5 (fun j=>decide (j≠p)) (p5 i)
        rw[y7]at this
        exact this⟩) ?_ ?_
    · rintro i xs σ' H' N kN hi ⟨⟨v,rfl⟩,s6,h6,rfl⟩
      have e0:((0:Int)+(i:Int))=(i:Int):=by omega
      rw[e0]
      refine x6 ?_
      refine⟨_,rfl,_,rfl,rfl,_,rfl,?_⟩
      have et:O4 (i+1) p=O4 i p++(if i=p then [] else [(i:Int)]):=by
        unfold O4
        rw[D0,L5,j9]
        congr 1
        by_cases h:i=p<;>simp[h]
      by_cases hm:i=p
      · refine aA0 (by rw[hm]) ?_
        refine kN _ _ _ ⟨⟨_,rfl⟩,s6,h6,?_⟩
        rw[et,if_pos hm,B4]
      · rw[decide_eq_false (show ¬ (V.int (i:Int)=V.int (p:Int)) from fun z=>hm (by injection z;omega))]
        refine X1 ?_
        refine⟨_,rfl,h6,kN _ _ _ ⟨⟨_,rfl⟩,s6.upd hD2,c6,?_⟩⟩
        rw[et,if_neg hm,j9]
        rfl
    · rintro xs2 σ' H2 ⟨⟨v2,rfl⟩,s2,h2,rfl⟩
      have s12:=s1.trans s2
      refine⟨_,rfl,_,rfl,_,rfl,a,ea,ns,es,p,rfl,hS.same s12,t2,s12.seq hea,fun l3 H3 s3 f3 g3=>?_⟩
      have s23:=s2.trans s3
      refine⟨fun m σ Ha=>∃ (ks:List (List Int)) (ps left:List Int) (zs:List V) (pa la:Addr) (e6:Option V),σ=[some (.ref a),some (.int p),some (.ref ea),some (.ref D),some (.ref pa),some (.ref la),e6]/\left.length=m/\m<24/\am4 ns ps left ks/\Gr left/\ks++bE2 m left ps=aN2 ns p es/\Ha D=some (.lst zs)/\A4 K Ha zs ks /\
          Ha pa=some (.lst (ps.map V.int))/\pa≠D/\Ha la=some (.lst (left.map V.int))/\la≠D/\U5 PT H Ha/\Tb PT Ha,
        ⟨ns.length - 1,star p es,O4 ns.length p,X4 ns p es,xs,D2,l3,none,rfl,an8 hp,by omega,am4.start hp ne he hn,hg,rfl,s23 _ _ h1,s23.tups t1,s3 _ _ h2,(r6 h1 hD2).symm,g3,(r6 (s2 _ _ h1) f3).symm,(s12.trans s3).grow PT,tb.same (s12.trans s3)⟩,?_⟩
      rintro m σ Ha ⟨ks,ps,left,zs,pa,la,e6,rfl,hm,hm2,hI,hG,hF,gD,tD,gp,np,gl,nl,gr,tbA⟩
      have hpl:=hI.len
      refine⟨_,rfl,!(left.map V.int).isEmpty,.inl ⟨_,SqL.of gl,rfl⟩,?_⟩
      cases m with
      | zero =>
        obtain rfl:left=[]:=ap1.mp hm
        obtain rfl:ps=[]:=ap1.mp hpl.symm
        have hF:ks=aN2 ns p es:=by
          have:ks++[]=aN2 ns p es:=hF
          rw[B4]at this
          exact this
        have hle:=hI.len_le t2
        refine P5 ?_
        refine⟨_,rfl,a,_,rfl,hS.grow gr tb,_,rfl,ns.length,D,zs,ks,by rw[b8];rfl,ht.1,t2,.inl (SqL.of gD),tD,hI.ends,hI.nodup,by omega,fun r t zs2 ks2 H' s' _ _ k1 k2 tt pm so=>?_⟩
        refine q r t zs2 ks2 H' (gr.trans (s'.grow PT)) (tbA.same s') k1 k2 tt (by rw[<- hF];exact pm) so ?_ (fun k hk=>?_) (pm.nodup_iff.mpr hI.nodup)
        · rw[bx0 pm,bZ6 hI.ends]
          exact hI.last
        · obtain⟨k',hk',rfl⟩:=p0.mp (pm.mem_iff.mp hk)
          exact(hI.ends k' hk').up
      | succ m =>
        have h0:0<left.length:=by omega
        have hnn:=W5 (aH2 hG) h0
        obtain⟨k,hk⟩:∃ k:Nat,left.getD 0 0=(k:Int):=⟨(left.getD 0 0).toNat,by omega⟩
        have at0:atI (left.map V.int) 0=some (.int (k:Int)):=by
          rw[<- hk]
          exact ar4 (j:=0) h0
        have hne:(left.map V.int).isEmpty=false:=by
          cases left with
          | nil=>exact absurd h0 (B2 _)
          | cons _ _=>rfl
        rw[hne]
        refine X1 ⟨_,fun σ' H' h=>⟨m,ae6 m,h⟩,?_⟩
        refine⟨_,rfl,_,rfl,la,_,_,_,rfl,rfl,SqL.of gl,at0,(by show 1<=j7;decide),fun lz fz=>?_⟩
        have sz:=i8 (o:=.lst [.int 0]) fz
        refine⟨la,lz,left,[0],k,rfl,.inl (SqL.of (sz _ _ gl)),⟨by omega,by omega⟩,SqL.of c6,tbA.same sz,fun os D4 Hc gc tbC f4 hp4 hs4 g4=>?_⟩
        have ech:(aa0 [0] os).take k=chF left 0:=by
          rw[aM2,bm5 hp4 hs4]
          unfold chF
          rw[hk,m7]
          rfl
        rw[ech]at g4
        have tbz:=tbA.same sz
        have gDc:=aH1 gc tbz (sz _ _ gD)
        have gpc:=aH1 gc tbz (sz _ _ gp)
        have glc:=aH1 gc tbz (sz _ _ gl)
        have tDc:=aN0 gc tbz (sz.tups tD)
        have grc:=gr.trans ((sz.grow PT).trans gc)
        have n4:D4≠D:=(r6 (sz _ _ gD) f4).symm
        have hcl:(chF left 0).length<=24:=by
          have h1:=aS7 hG h0
          have h2:=bn7 hG h0
          omega
        have hgo:=hI.go hG h0
        have hle:=hgo.len_le t2
        generalize upd Ha lz (.lst [.int 0])=Hz at gc f4
        refine⟨_,rfl,_,rfl,D4,rfl,⟨_,SqL.of g4⟩,fun D5 hD5=>Q5 (K:=K) (a:=D4) (D:=D5) (ys:=(chF left 0).map V.int) (fun i xs σ' H'=>(∃ v,σ'=[v,some (.ref pa)])/\u7 Hc H'/\H' D5=some (.lst xs)/\A4 K H' xs (star (ps.getD 0 0) (((chF left 0).take i).map fun z=>ps.getD z.toNat 0)))
          ⟨⟨none, rfl⟩, i8 hD5, c6, .nil⟩ (by rw [b8]; omega) (fun i xs σ' H' hi ⟨_, s6, h6, t6⟩ => ⟨SqL.of (s6 _ _ g4), h6, by
            have h7:=t6.len
            unfold star at h7
            rw[b8,b8,q8]at h7
            omega⟩) ?_ ?_⟩
        · rintro i xs x σ' H' N kN hx ⟨⟨v,rfl⟩,s6,h6,t6⟩
          obtain⟨z,hz,rfl⟩:=P6 hx
          have hz2:=bi5 (d8 hz)
          obtain⟨j,rfl⟩:∃ j:Nat,z=(j:Int):=⟨z.toNat,by omega⟩
          refine x6 (L9 ?_)
          have hpa6:Sq K H' pa ps:=.inl (SqL.of (s6 _ _ gpc))
          refine⟨_,rfl,bb1 (j:=0) hpa6 (by omega) ⟨_,rfl,_,rfl,bb1 hpa6 (j:=j) (by omega) ⟨(by show 2<=j7;decide),fun t ft=>?_⟩⟩⟩
          have st:=i8 (o:=.tup [.int (ps.getD 0 0),.int (ps.getD j 0)]) ft
          have h6':=st _ _ h6
          refine⟨h6',kN _ _ _ ⟨⟨_,rfl⟩,(s6.trans st).upd hD5,c6,?_⟩⟩
          have et:star (ps.getD 0 0) (((chF left 0).take (i+1)).map fun z=>ps.getD z.toNat 0)=star (ps.getD 0 0) (((chF left 0).take i).map fun z=>ps.getD z.toNat 0)++[[ps.getD 0 0,ps.getD j 0]]:=by
            unfold star
            rw[A7,hz,j9,j9]
            rfl
          rw[et]
          refine A4.updL h6' (A4.append (st.tups t6) (A4.one (SqT.of ?_)))
          exact c6
        · rintro xs5 σ' H5 ⟨⟨v5,rfl⟩,s5,h5,t5⟩
          rw[k8 (by rw[b8];exact c9 _)]at t5
          have gD5:=s5 _ _ gDc
          have hl5:=t5.len
          have hlD:=tDc.len
          rw[m6]at hle
          refine⟨D,D5,zs,xs5,rfl,rfl,gD5,h5,by omega,?_⟩
          have fD:H D=none:=hD
          have gu:U5 PT H (upd H5 D (.lst (zs++xs5))):=by
            intro b o nb hb
            rw[t4 (r6 hb fD)]
            exact(grc.trans (s5.grow PT)) b o nb hb
          have tb6:Tb PT (upd H5 D (.lst (zs++xs5))):=by
            obtain⟨ps',hP,hx⟩:=tbC.same s5
            refine⟨ps',?_,hx.1,hx.2.imp id fun⟨c',e,h⟩=>⟨c',e,by rw[t4 (fun z=>by rw[z,gD5]at h;cases h)];exact h⟩⟩
            rw[t4 (fun z=>by rw[z,gD5]at hP;cases hP)]
            exact hP
          have gl6:(upd H5 D (.lst (zs++xs5))) la=some (.lst (left.map V.int)):=by rw[t4 nl];exact s5 _ _ glc
          have gp6:(upd H5 D (.lst (zs++xs5))) pa=some (.lst (ps.map V.int)):=by rw[t4 np];exact s5 _ _ gpc
          have g46:(upd H5 D (.lst (zs++xs5))) D4=some (.lst ((chF left 0).map V.int)):=by rw[t4 n4];exact s5 _ _ g4
          have gD6:(upd H5 D (.lst (zs++xs5))) D=some (.lst (zs++xs5)):=c6
          have t6:A4 K (upd H5 D (.lst (zs++xs5))) (zs++xs5) (ks++star (ps.getD 0 0) ((chF left 0).map fun z=>ps.getD z.toNat 0)):=A4.updL gD5 (A4.append (s5.tups tDc) t5)
          generalize upd H5 D (.lst (zs++xs5))=H6 at gu tb6 gl6 gp6 g46 gD6 t6 ⊢
          refine⟨_,rfl,_,rfl,la,D4,left,chF left 0,0,rfl,.inl (SqL.of gl6),by omega,SqL.of g46,fun l7 H7 s7 f7 g7=>?_⟩
          refine⟨_,rfl,_,rfl,pa,ps.map V.int,rfl,SqL.of (s7 _ _ gp6),fun l8 f8=>?_⟩
          have ec:ay5 (ps.map V.int) (some 1) none=(ps.drop 1).map V.int:=ap6 ps 1
          rw[ec]
          have s8:=i8 (o:=.lst ((ps.drop 1).map V.int)) f8
          have s78:=s7.trans s8
          refine⟨_,ps.drop 1,X4 left 0 (chF left 0),zs++xs5,l8,l7,_,rfl,by rw[an8 h0];omega,by omega,hgo,bH9 hG h0,?_,s78 _ _ gD6,s78.tups t6,c6,(r6 (s7 _ _ gD6) f8).symm,s8 _ _ g7,(r6 gD6 f7).symm,gu.trans (s78.grow PT),tb6.same s78⟩
          rw[A6]
          exact hF
end
structure bd3 (K:W.Frag) (H:Hp) (b:Addr) (ns:List Int) (ks:List (List Int)):Prop where
 at_:∃ t zs,H b=some (.tup [.int ns.length,.ref t])/\H t=some (.tup zs)/\A4 K H zs ks
 prm:ks.Perm ((aN2 ns 0 (chF ns 0)).map up)
 srt:ks.Pairwise (fun a b=>Tim.K4 b a=false)
 tal_:tal ns.length ks=ns
 ups:∀ k∈ks,Up ns.length k
 nd:ks.Nodup
def cq4 (K:W.Frag)(H:Hp)(r:Addr)(ns:List Int):Prop:=
 (∃ (x:Wl) (b:Addr),x≠.free/\bj0 ns x/\H r=some (.tup [.str "wall",.ref b])/\H b=some (.tup (wlT x))) \/
 (Gr ns/\∃ (b:Addr) (ks:List (List Int)),H r=some (.tup [.str "web",.ref b])/\bd3 K H b ns ks)
section
variable {K:W.Frag} {mg:Str->Option Value} {base:Heap}
def by5 (K:W.Frag)(CB PT:Addr):Sp:=fun vs H Q E=>∃ (a:Addr) (ns:List Int),vs=[.ref a]/\Sq K H a ns/\(S0 ns->Tb PT H/\∀ (r:Addr) (H':Hp),U5 PT H H'->Tb PT H'->cq4 K H' r ns->Q (.ref r) H')/\(¬ S0 ns->E (.ref CB) none H)
theorem bz3:y9 ["tally","wall"] ["tally"] (q0 bA3):=.mk'
set_option maxHeartbeats 2000000 in
theorem cd6 {fI fU fV fO fF fL fY fW fG fA fβ fω PT:Addr}{fdU fdV fdL fdY fdG fdω:FuncData}(F:Fun K "answered" "answered" bA3 f fd)(B:Bn mg)(FI:Fq K mg "is_place" aX3 fI fdI ["places","number"])
  (FU:Fq K mg "turned_up" sUp fU fdU ["places","tie"])(FV:Fq K mg "made" aL6 fV fdV ["places","ties"])
  (FO:Fq K mg "order_of" aW9 fO fdO ["tally"])(hc:fdO.code=.ref c)(LB:av2 base mg c PT)
  (FT:Fq K mg "check_tally" ax0 fT fdT ["tally"])(FF:Fq K mg "first_of_order" aw9 fF fdF ["tally","many","passed_over"])
  (FL:Fq K mg "left_of_others" aL7 fL fdL ["tally","place","ends"])(FY:Fq K mg "laid_around" aX1 fY fdY ["tally","place","ends"])
  (FW:Fq K mg "wall_of" aW7 fW fdW ["tally"])(FG:Fq K mg "falling" as7 fG fdG ["tally"])
  (FA:Fq K mg "room_among" ah8 fA fdA ["numbers","most","r"])(Fβ:Fq K mg "places_below" al6 fβ fdβ ["numbers"])(Fω:Fq K mg "wall_with" aw7 fω fdω ["tally","most"])
  (mM:mg "MOST_PLACES"=some (.int 24 tk))(mB:mg "BadTally"=some (.ref CB))(cB:am6 K CB):A0 P w K mg base (CXE P w) 5 f fd ["tally"] (by5 K CB PT):=by
 have GF:A0 P w K mg base (CXE P w) 4 fF fdF ["tally","many","passed_over"] (aP9 K PT):=(aZ1 FF.F B FO hc LB FT mM mB cB).mono (by decide)
 have GY:A0 P w K mg base CX0 4 fY fdY ["tally","place","ends"] (by1 K PT):=bP7 FY.F B FI FU FV FO hc LB FT FF FL mM mB cB
 have GW:A0 P w K mg base (CXE P w) 4 fW fdW ["tally"] (bx6 K CB):=(bP1 FW.F B FT FG FA Fβ Fω mM mB cB).mono (by decide)
 refine F.okX bz3 (fun cdv A outer s H vs Q E hr h=>?_)
 obtain⟨a,ns,rfl,hS,h1,h2⟩:=h
 have hsl:=N4
 refine⟨_,j0 (x5 (i:=1) bz3.nd rfl (Or.inl rfl) (C4 GW hr (by rfl) FW ap2 (b9 (pv 0) d4)))
  (j0 (O1 (C0 bO8 (pv 1) bg5 (E9 _)) (o8 (C3 (R9 (b9 aF4 (b9 (pv 1) d4))))) E6)
  (o8 (C3 (R9 (b9 aF4 (b9 (C4 GY hr (by rfl) FY G6 (b9 (pv 0) (b9 j6 (b9 (C4 GF hr (by rfl) FF (at5 (P:=P) (w:=w)) (b9 (pv 0) (b9 (ai1 K rfl (pv 0) j6 (fun _ _=>rfl)) (b9 (Z6 (b9 j6 d4)) d4)))) d4)))) d4)))))),?_⟩
 refine⟨_,rfl,a,ns,rfl,hS,fun ht v x H1 s1 hw hv=>?_,h2⟩
 obtain⟨tb,q⟩:=h1 ht
 have t2:=ht.2
 refine⟨_,rfl,rfl,_,rfl,?_⟩
 obtain⟨rfl,rfl⟩ | ⟨hx,b,rfl,gb⟩:=hv
 ·have hG:=bo2 hw
  refine P5 ?_
  have h0:0<ns.length:=ht.1
  have hnn:=W5 (aH2 hG) h0
  obtain⟨k,hk⟩:∃ k:Nat,ns.getD 0 0=(k:Int):=⟨(ns.getD 0 0).toNat,by omega⟩
  have hS1:=hS.same s1
  have tb1:=tb.same s1
  refine⟨_,rfl,_,rfl,_,rfl,bb1 (j:=0) hS1 h0 ?_⟩
  rw[hk]
  refine⟨(by show 1<=j7;decide),fun lz fz=>?_⟩
  have sz:=i8 (o:=.lst [.int 0]) fz
  refine⟨a,lz,ns,[0],k,rfl,hS1.same sz,ht,SqL.of c6,tb1.same sz,fun os D4 Hc gc tbC f4 hp4 hs4 g4=>?_⟩
  have ech:(aa0 [0] os).take k=chF ns 0:=by
   rw[aM2,bm5 hp4 hs4]
   unfold chF
   rw[hk,m7]
   rfl
  rw[ech]at g4
  have hcl:=aS7 hG h0
  have hlt:=bn7 hG h0
  refine⟨a,D4,ns,chF ns 0,0,rfl,(hS1.same sz).grow gc (tb1.same sz),ht,h0,SqL.of g4,bH8 ns 0,by omega,fun z hz=>bi5 hz,hcl,bH9 hG h0,tbC,fun r t zs ks H5 g5 tb5 k1 k2 tt pm so tl ups nd=>?_⟩
  refine⟨(by show 2<=j7;decide),fun p fp=>?_⟩
  have sp:=i8 (o:=.tup [.str "web",.ref r]) fp
  exact q p _ ((((s1.trans sz).grow PT).trans (gc.trans g5)).trans (sp.grow PT)) (tb5.same sp) (.inr ⟨hG,r,ks,c6,⟨⟨t,zs,sp _ _ k1,sp _ _ k2,sp.tups tt⟩,pm,so,tl,ups,nd⟩⟩)
 ·refine X1 ⟨_,rfl,(by show 2<=j7;decide),fun p fp=>?_⟩
  have sp:=i8 (o:=.tup [.str "wall",.ref b]) fp
  exact q p _ ((s1.trans sp).grow PT) (tb.same (s1.trans sp)) (.inl ⟨x,b,hx,hw,c6,sp _ _ gb⟩)
end
section
variable {K:W.Frag} {mg:Str->Option Value} {base:Heap}
def isR (ns:List Int)(r:Int):Prop:=0<=r/\r<=ns.length
def bk8 (K:W.Frag)(CB CN:Addr):Sp:=fun vs H Q E=>∃ (a:Addr) (ns:List Int) (M:Nat) (r:Int),vs=[.ref a,.int M,.int r]/\Sq K H a ns/\M<=1000000/\(S0 ns->isR ns r->∀ H':Hp,u7 H H'->Q (.int (aj1 ns M r.toNat)) H')/\(S0 ns->¬ isR ns r->E (.ref CN) none H)/\(¬ S0 ns->E (.ref CB) none H)
theorem bN2:y9 ["tally","most","r"] ["tally","most","r"] (q0 aE7):=.mk'
theorem bC7 {fF fA CN:Addr}(F:Fun K "room_with" "room_with" aE7 f fd)(B:Bn mg)(FT:Fq K mg "check_tally" ax0 fT fdT ["tally"])
  (FF:Fq K mg "falling" as7 fF fdF ["tally"])(FA:Fq K mg "room_among" ah8 fA fdA ["numbers","most","r"])
  (mM:mg "MOST_PLACES"=some (.int 24 tk))(mB:mg "BadTally"=some (.ref CB))(cB:am6 K CB)(mN:mg "BadNumber"=some (.ref CN))(cN:am6 K CN):A0 P w K mg base (CXE P w) 2 f fd ["tally","most","r"] (bk8 K CB CN):=by
 have GT:A0 P w K mg base (CXE P w) 1 fT fdT ["tally"] (aL5 K CB):=aR3 FT.F B mM mB cB
 have GF:A0 P w K mg base CX0 1 fF fdF ["tally"] (bf3 K):=bm8 FF.F B
 have GA:A0 P w K mg base CX0 1 fA fdA ["numbers","most","r"] (aQ1 K):=aZ3 FA.F B
 refine F.okX bN2 (fun cdv A outer s H vs Q E hr h=>?_)
 obtain⟨a,ns,M,r,rfl,hS,hM,h1,h2,h3⟩:=h
 refine⟨_,j0 (Y5 (C4 GT hr (by rfl) FT ap2 (b9 (pv 0) d4)))
  (j0 (O1 (Y1 (at3 ap4 ap4 j6 (pv 2) (p7 A5 (by rfl) B.len PySem.boot_len (b9 (pv 0) d4)))) (o8 (aF2 (by rfl) mN cN)) E6)
  (o8 (C3 (C4 GA hr (by rfl) FA G6 (b9 (C4 GF hr (by rfl) FF G6 (b9 (pv 0) d4)) (b9 (pv 1) (b9 (pv 2) d4))))))),?_⟩
 refine⟨_,rfl,a,ns,rfl,hS,fun ht=>?_,h3⟩
 have t2:=ht.2
 refine⟨_,rfl,_,_,rfl,rfl,_,rfl,?_⟩
 by_cases hp:(0:Int)<=r
 ·rw[decide_eq_true hp]
  refine X1 ⟨_,rfl,a,_,rfl,hS,_,_,rfl,rfl,_,rfl,?_⟩
  rw[b8]
  by_cases hp':r<=(ns.length:Int)
  ·rw[decide_eq_true hp']
   refine P5 ?_
   obtain⟨k,rfl⟩:∃ k:Nat,r=(k:Int):=⟨r.toNat,by omega⟩
   refine⟨_,rfl,a,ns,rfl,hS,by omega,fun l H1 s1 hl g1=>?_⟩
   refine⟨_,rfl,_,rfl,l,ns,M,k,rfl,SqL.of g1,hM,by omega,by omega,fun H2 s2=>?_⟩
   exact h1 ht ⟨hp,hp'⟩ H2 (s1.trans s2)
  ·rw[decide_eq_false hp']
   exact X1 (h2 ht fun z=>hp' z.2)
 ·rw[decide_eq_false hp]
  exact P5 ⟨_,rfl,X1 (h2 ht fun z=>hp z.1)⟩
def bf1 (K:W.Frag)(CB CN:Addr):Sp:=fun vs H Q E=>∃ (a:Addr) (ns:List Int) (r:Int),vs=[.ref a,.int r]/\Sq K H a ns/\(S0 ns->isR ns r->∀ H':Hp,u7 H H'->Q (.int (Q8 ns r.toNat)) H')/\(S0 ns->¬ isR ns r->E (.ref CN) none H)/\(¬ S0 ns->E (.ref CB) none H)
theorem cb0:y9 ["tally","r"] ["tally","r"] (q0 aW8):=.mk'
theorem bP2 {fW fF fA CN:Addr}(F:Fun K "room" "room" aW8 f fd)(B:Bn mg)(FT:Fq K mg "check_tally" ax0 fT fdT ["tally"])
  (FF:Fq K mg "falling" as7 fF fdF ["tally"])(FA:Fq K mg "room_among" ah8 fA fdA ["numbers","most","r"])
  (FW:Fq K mg "room_with" aE7 fW fdW ["tally","most","r"])
  (mM:mg "MOST_PLACES"=some (.int 24 tk))(mB:mg "BadTally"=some (.ref CB))(cB:am6 K CB)(mN:mg "BadNumber"=some (.ref CN))(cN:am6 K CN):A0 P w K mg base (CXE P w) 3 f fd ["tally","r"] (bf1 K CB CN):=by
 have GW:A0 P w K mg base (CXE P w) 2 fW fdW ["tally","most","r"] (bk8 K CB CN):=bC7 FW.F B FT FF FA mM mB cB mN cN
 refine F.okX cb0 (fun cdv A outer s H vs Q E hr h=>?_)
 obtain⟨a,ns,r,rfl,hS,h1,h2,h3⟩:=h
 refine⟨_,o8 (C3 (C4 GW hr (by rfl) FW ap2 (b9 (pv 0) (b9 j6 (b9 (pv 1) d4))))),?_⟩
 refine⟨_,rfl,_,rfl,a,ns,1,r,rfl,hS,by decide,fun ht hr' H' s'=>?_,h2,h3⟩
 rw[ab6]
 exact h1 ht hr' H' s'
end
theorem ch2 (M L c:Int)(hM:0<=M):(if (if c - L > 0 then c - L else 0)<M then (if c - L > 0 then c - L else 0) else M)=abv M L c:=by
 unfold abv
 by_cases h1:c - L<=0
 ·have e:(if c - L > 0 then c - L else 0)=0:=if_neg (by omega)
  rw[if_pos h1,e]
  by_cases h0:(0:Int)<M
  ·rw[if_pos h0]
  ·rw[if_neg h0];omega
 ·have e:(if c - L > 0 then c - L else 0)=c - L:=if_pos (by omega)
  rw[if_neg h1,e]
  by_cases h2:c - L<=M
  ·rw[if_pos h2]
   by_cases h3:c - L<M
   ·rw[if_pos h3]
   ·rw[if_neg h3];omega
  ·rw[if_neg h2,if_neg (by omega)]
theorem bD4 {k1 k2 k3:Str}{a1 a2 a3:Addr}(h:E2 x [(k1,a1),(k2,a2),(k3,a3)]=some c):(x=k1/\c=a1)\/(x=k2/\c=a2)\/(x=k3/\c=a3):=by
 by_cases z1:x=k1
 ·subst z1
  simp[E2]at h
  exact .inl ⟨rfl,h.symm⟩
 ·have e1:(x == k1)=false:=by simpa using z1
  by_cases z2:x=k2
  ·subst z2
   simp[E2,e1]at h
   exact .inr (.inl ⟨rfl,h.symm⟩)
  ·have e2:(x == k2)=false:=by simpa using z2
   by_cases z3:x=k3
   ·subst z3
    simp[E2,e1,e2]at h
    exact .inr (.inr ⟨rfl,h.symm⟩)
   ·have e3:(x == k3)=false:=by simpa using z3
    simp[E2,e1,e2,e3]at h
theorem cs4 {y k1 k2 k3:Str}{a1 a2 a3:Addr}(n12:a1≠a2)(n13:a1≠a3)(n23:a2≠a3)(hx:E2 x [(k1,a1),(k2,a2),(k3,a3)]=some c)(hy:E2 y [(k1,a1),(k2,a2),(k3,a3)]=some c):x=y:=by
 rcases bD4 hx with⟨rfl,e⟩ | ⟨rfl,e⟩ | ⟨rfl,e⟩<;>rcases bD4 hy with⟨h,e'⟩ | ⟨h,e'⟩ | ⟨h,e'⟩
 all_goals first | exact h.symm | exact absurd (e.symm.trans e') n12 | exact absurd (e.symm.trans e') n13 | exact absurd (e.symm.trans e') n23 | exact absurd (e'.symm.trans e) n12 | exact absurd (e'.symm.trans e) n13 | exact absurd (e'.symm.trans e) n23
theorem lk1 {k1 k2 k3:Str}{a1 a2 a3:Addr}:E2 k1 [(k1,a1),(k2,a2),(k3,a3)]=some a1:=by simp[E2]
theorem lk2 {k1 k2 k3:Str}{a1 a2 a3:Addr}(h:(k2 == k1)=false):E2 k2 [(k1,a1),(k2,a2),(k3,a3)]=some a2:=by simp[E2,h]
theorem lk3 {k1 k2 k3:Str}{a1 a2 a3:Addr}(h:(k3 == k1)=false)(h':(k3 == k2)=false):E2 k3 [(k1,a1),(k2,a2),(k3,a3)]=some a3:=by simp[E2,h,h']
theorem bp7 {M:Int}:∀ {ns:List Int},(∀ x∈ns,x<=L)->(ns.map (abv M L)).sum=0
 | [],_=>rfl
 | c::ns,h=>by
  rw[m8,G2,bp7 fun x hx=>h x (d6 _ hx)]
  have:=h c f9
  unfold abv
  rw[if_pos (by omega)]
  rfl
def mpN (M L:Int)(ns:List Int)(i:Nat):List Int:=((p5 i).filter fun j=>decide (abv M L (ns.getD j 0)<abv M (L - 1) (ns.getD j 0))).map fun j:Nat=>(j:Int)
theorem aZ7 (M L:Int)(ns:List Int)(i:Nat):mpN M L ns (i+1)=mpN M L ns i++(if abv M L (ns.getD i 0)<abv M (L - 1) (ns.getD i 0) then [(i:Int)] else []):=by
 unfold mpN
 rw[D0,L5,j9]
 congr 1
 by_cases h:abv M L (ns.getD i 0)<abv M (L - 1) (ns.getD i 0)
 ·rw[if_pos h,ap9,if_pos (decide_eq_true h)];rfl
 ·rw[if_neg h,ap9,if_neg (by rw[decide_eq_false h];decide)];rfl
theorem bQ4 (M L:Int)(ns:List Int):mpN M L ns ns.length=ac5 M L ns:=by
 unfold mpN ac5 rng
 rw[List.filter_map,<- az4]
 congr 1
theorem bQ3 (M L:Int)(ns:List Int)(i:Nat):(mpN M L ns i).length<=i:=by
 unfold mpN
 rw[b8]
 have:=F5 (fun j=>decide (abv M L (ns.getD j 0)<abv M (L - 1) (ns.getD j 0))) (p5 i)
 rw[y7]at this
 exact this
theorem aH3 {M:Int}(h:j<ns.length):(ns.map (abv M L)).getD j 0=abv M L (ns.getD j 0):=by
 rw[c8,c8,o5,c7 h]
 rfl
theorem bu6 {f:Nat->Int}(h:j<n):((p5 n).map f).getD j 0=f j:=by
 rw[c8,o5,J9 h]
 rfl
theorem cp7 {K:W.Frag}{Q:VK}(h:SqL K H a (ns.map V.int))(hj:j<ns.length)(q:Q (.int (ns.getD j 0)) H):rIx K (.ref a) (.int j) H Q:=.inl ⟨a,_,_,_,rfl,rfl,h,ar4 hj,q⟩
seal L2.PE L2.PA L2.PS L2.PSs L2.PT
section
variable {K:W.Frag} {mg:Str->Option Value} {base:Heap}
def bk6 (P:Program)(w:World)(K:W.Frag)(mg:Str->Option Value)(base:Heap)(k:Nat):Sp:=fun vs H Q _=>∃ (lo hi:Int) (f:Addr) (ob:Obj) (fd:FuncData) (x:Str) (sp:Sp) (J:Hp->Prop) (p:Int->Bool),vs=[.int lo,.int hi,.ref f]/\lo<=hi/\ob.data=.func fd /\
 A0 P w K mg base CX0 k f fd [x] sp/\Binds K fd [x] []/\(∀ H,J H->H f=some (S8 f ob))/\(∀ (H:Hp) (m:Int) (Q:VK),J H->lo<=m->m<hi->(∀ H',u7 H H'->J H'->Q (.bl (p m)) H')->sp [.int m] H Q E0)/\J H /\
 ∀ (r:Int) (H':Hp),lo<=r->r<=hi->(r<hi->p r=true)->(lo<r->p (r - 1)=false)->J H'->u7 H H'->Q (.int r) H'
theorem aB6:y9 ["low","high","holds","middle"] ["low","high","holds"] (q0 aE6):=.mk'
theorem bC5 {k:Nat} (F:Fun K "least_where" "least_where" aE6 f fd):A0 P w K mg base CX0 (k+1) f fd ["low","high","holds"] (bk6 P w K mg base k):=by
 refine F.ok aB6 (fun cdv A outer s H vs Q E hr h=>?_)
 obtain⟨lo,hi,fl,ob,fdl,x,sp,J,p,rfl,hlh,hob,FL,bL,hJ,hcall,hJ0,q⟩:=h
 refine⟨_,j0 (aY3 PassesOwn.never (C0 ap3 (pv 0) (pv 1) (E9 _))
  (j0 (x5 (i:=3) aB6.nd rfl (Or.inl rfl) (u4 Y6 (u4 L1 (pv 0) (pv 1)) j6))
  (o8 (O1 (ac2 (bB8 hr (i := 2) rfl (Or.inl rfl) (b9 (pv 3) d4)))
   (o8 (x5 (i:=1) aB6.nd rfl (Or.inl rfl) (pv 3))) (o8 (x5 (i:=0) aB6.nd rfl (Or.inl rfl) (u4 L1 (pv 3) j6)))))))
  (o8 (C3 (pv 0))),?_⟩
 refine⟨fun m σ H1=>∃ (a b:Int) (e3:Option V),m=(b - a).toNat/\σ=[some (.int a),some (.int b),some (.ref fl),e3]/\lo<=a/\a<=b/\b<=hi/\(b<hi->p b=true)/\(lo<a->p (a - 1)=false)/\J H1/\u7 H H1,⟨_,lo,hi,none,rfl,rfl,by omega,hlh,by omega,fun z=>absurd z (by omega),fun z=>absurd z (by omega),hJ0,u7.refl H⟩,?_⟩
 rintro m σ H1 ⟨a,b,e3,rfl,rfl,h1,h2,h3,h4,h5,h6,h7⟩
 refine⟨_,rfl,_,rfl,_,_,rfl,rfl,_,rfl,?_⟩
 refine bb3 (fun hc=>?_) (fun hc=>?_)
 ·have hab:=of_decide_eq_true hc
  refine⟨fun σ' H'=>∃ (a' b':Int) (e3:Option V),(b' - a').toNat<(b - a).toNat/\σ'=[some (.int a'),some (.int b'),some (.ref fl),e3]/\lo<=a'/\a'<=b'/\b'<=hi/\(b'<hi->p b'=true)/\(lo<a'->p (a' - 1)=false)/\J H'/\u7 H H',fun σ' H' ⟨a',b',e3',z0,z1,z2,z3,z4,z5,z6,z7,z8⟩=>⟨_,z0,a',b',e3',rfl,z1,z2,z3,z4,z5,z6,z7,z8⟩,?_⟩
  refine⟨_,rfl,_,rfl,_,_,rfl,rfl,_,_,rfl,rfl,⟨by decide,by decide⟩,?_⟩
  refine ag5 fun c hcm=>?_
  refine x6 ?_
  have hc1:a<=c:=by omega
  have hc2:c<b:=by omega
  refine⟨fl,ob,fdl,rfl,hJ _ h6,hob,_,rfl,[x],sp,hJ _ h6,FL,bL,hcall H1 c _ h6 (by omega) (by omega) fun H2 s2 j2=>⟨_,rfl,?_⟩⟩
  refine bb3 (fun hp=>?_) (fun hp=>?_)
  ·exact⟨_,rfl,a,c,_,by omega,rfl,h1,by omega,by omega,fun _=>hp,h5,j2,h7.trans s2⟩
  ·refine⟨_,rfl,_,_,rfl,rfl,c+1,b,_,by omega,rfl,by omega,by omega,h3,h4,fun _=>?_,j2,h7.trans s2⟩
   rw[show c+1 - 1=c by omega]
   simpa using hp
 ·have hab:¬ a<b:=fun z=>hc (decide_eq_true z)
  have e:b=a:=by omega
  rw[e]at h4
  exact⟨_,rfl,q a H1 h1 (by omega) h4 h5 h6 h7⟩
def by7 (K:W.Frag):Sp:=fun vs H Q _=>∃ (a:Addr) (ns:List Int) (L M:Int),vs=[.ref a,.int L,.int M]/\Sq K H a ns/\ns.length<=100/\0<=M/\∀ (l:Addr) (H':Hp),u7 H H'->H l=none->H' l=some (.lst ((ns.map (abv M L)).map V.int))->Q (.ref l) H'
theorem cm2:y9 ["numbers","level","most"] ["numbers","level","most"] (q0 bA4):=.mk'
theorem cd7 (F:Fun K "above" "above" bA4 f fd)(B:Bn mg):A0 P w K mg base CX0 1 f fd ["numbers","level","most"] (by7 K):=by
 refine F.ok cm2 (fun cdv A outer s H vs Q E hr h=>?_)
 obtain⟨a,ns,L,M,rfl,hS,hn,hM,q⟩:=h
 have hsl:=N4
 have nd3:(["number","level","most"]:List Str).Nodup:=by decide +kernel
 refine⟨_,o8 (C3 (L0 (N':=["number","level","most"]) (lk:=[none,some 1,some 2]) rfl (bm4 (U0 (pv 0)) (aR0 (pv 0))) (by rfl) rfl (by decide +kernel) (by exact⟨rfl,rfl,trivial⟩) (by rfl) (by exact LkL.ok ⟨⟨rfl,Or.inl rfl,rfl,Or.inl rfl⟩,⟨rfl,Or.inl rfl,rfl,Or.inl rfl⟩,trivial⟩)
    (fun _ _ _=>A2 (i:=0) nd3 rfl (Or.inl rfl)) (fun _ _ _=>P4) (fun _ _ _=>p7 (ao1 rfl) (by rfl) B.min (by rfl) (b9 (pv 2) (b9 (p7 (ay9 rfl) (by rfl) B.max (by rfl) (b9 j6 (b9 (u4 W2 (pv 0) (pv 1)) d4))) d4))))),?_⟩
 refine Or.imp (fun h=>⟨_,rfl,h⟩) (fun h=>⟨_,rfl,h⟩) (aN7 (K:=K) (a:=a) (ys:=ns.map V.int) hS (by rw[b8];omega) (fun D i xs σ' H'=>(∃ v,σ'=[v,some (.int L),some (.int M)])/\u7 H H'/\H' D=some (.lst xs)/\xs=((ns.take i).map (abv M L)).map V.int)
  (fun D hD=>⟨⟨none,rfl⟩,i8 hD,c6,rfl⟩) (fun D i xs σ' H' hD hi ⟨_,s6,h6,e6⟩=>⟨s6,h6,by rw[e6,b8,b8,q8];omega⟩) ?_ ?_)
 ·rintro D i xs x σ' H' N hD kN hx ⟨⟨v,rfl⟩,s6,h6,rfl⟩
  obtain⟨z,hz,rfl⟩:=P6 hx
  refine x6 (L9 ?_)
  refine⟨_,rfl,_,rfl,_,rfl,_,_,rfl,rfl,_,_,rfl,_,_,rfl,?_⟩
  rw[ch2 M L z hM]
  refine⟨h6,kN _ _ _ ⟨⟨_,rfl⟩,s6.upd hD,c6,?_⟩⟩
  rw[A7,hz,j9,j9]
  rfl
 ·rintro D xs σ' H' hD ⟨⟨v,rfl⟩,s6,h6,rfl⟩
  rw[k8 (by rw[b8];exact c9 _)]at h6
  exact q D H' s6 hD h6
def ce1 (st:Stmt):Pos:=match (U2 st).getD 0 (.Pass ⟨0,0,0,0⟩) with
 | .Assign _ (.Call _ [_,_,.Lambda _ _ _ p] _ _) _=>p
 | _=>⟨0,0,0,0⟩
def aj2 (st:Stmt):Arguments × Expr × Scope:=match (U2 st).getD 0 (.Pass ⟨0,0,0,0⟩) with
 | .Assign _ (.Call _ [_,_,.Lambda a b c _] _ _) _=>(a,b,c)
 | _=>({ posonlyargs:=[],args:=[],vararg:=none,kwonlyargs:=[],kw_defaults:=[],kwarg:=none,defaults:=[] },.Constant .none 0 ⟨0,0,0,0⟩,{ kind:=.function,names:=[],isGenerator:=false,isCoroutine:=false })
def aM6:Str:=(("shares":Str)++(".<locals>.":Str))++("<lambda>":Str)
abbrev Tb2 (P:Addr)(H:Hp):Prop:=U7 P (ce1 ak0) aM6 H
theorem Sq.rmv {K:W.Frag}(h:Sq K H a ns)(hl:∀ b o,l b=some o->H b=some (S8 b o)):Sq K (ac1 H l) a ns:=by
 have go:∀ u,(∀ o,u≠S8 a o)->H a=some u->ac1 H l a=some u:=fun u hu q=>by rw[J4 (ay0 hl q hu)];exact q
 rcases h with((h | ⟨o,h⟩) | h) | ((h | ⟨o,h⟩) | h)
 ·exact .inl (.inl (.inl (go _ (fun o z=>by unfold S8 at z;cases z) h)))
 ·exact .inl (.inl (.inr ⟨o,go _ (fun o z=>by unfold S8 at z;cases z) h⟩))
 ·exact .inl (.inr h)
 ·exact .inr (.inl (.inl (go _ (fun o z=>by unfold S8 at z;cases z) h)))
 ·exact .inr (.inl (.inr ⟨o,go _ (fun o z=>by unfold S8 at z;cases z) h⟩))
 ·exact .inr (.inr h)
theorem bz4 (hl:∀ b o,l b=some o->H b=none):u7 H (ao6 H l):=fun b u e=>by
 cases hb:l b with
 | some z=>rw[hl b z hb]at e;cases e
 | none=>rw[J3 hb];exact e
theorem bs2 (hl:∀ b o,l b=some o->H b=some (S8 b o))(s:u7 (ac1 H l) H'):u7 H (ao6 H' l):=fun b u e=>by
 cases hb:l b with
 | some z=>rw[hl b z hb]at e;rw[as1 hb];exact e
 | none=>rw[J3 hb];exact s b u (by rw[J4 hb];exact e)
theorem bz7 {H2:Hp}(hl:∀ b o,l b=some o->H b=none)(s:u7 (ao6 H l) H2):u7 H (ac1 H2 l):=fun b u e=>by
 cases hb:l b with
 | some z=>rw[hl b z hb]at e;cases e
 | none=>rw[J4 hb];exact s b u (by rw[J3 hb];exact e)
def bx7 (K:W.Frag)(PT:Addr):Sp:=fun vs H Q _=>∃ (na:Addr) (ns:List Int) (a:Int) (M:Nat),vs=[.ref na,.int a,.int M]/\Sq K H na ns/\ns.length<=24/\AllP ns/\0<=a/\Tb2 PT H /\
 ∀ (l:Addr) (xs:List Int) (L:Int) (H':Hp),U5 PT H H'->Tb2 PT H'->Lvl M ns a L->xs.length=ns.length->(∀ j,j<ns.length->xs.getD j 0=shx M L ns (a - (ns.map (abv M L)).sum).toNat j)->H l=none->H' l=some (.lst (xs.map V.int))->Q (.ref l) H'
theorem aW6:y9 ["numbers","much","most","level","taken","deeper","one_more"] ["numbers","much","most"] (q0 ak0):=.mk'
set_option maxHeartbeats 4000000 in
theorem cc9 {fA fW PT:Addr}(F:Fun K "shares" "shares" ak0 f fd)(hc:fd.code=.ref c)(LB:av2 base mg c PT)(B:Bn mg)(FA:Fq K mg "above" bA4 fA fdA ["numbers","level","most"])
  (FW:Fq K mg "least_where" aE6 fW fdW ["low","high","holds"]):A0 P w K mg base (CXE P w) 4 f fd ["numbers","much","most"] (bx7 K PT):=by
 have GA:A0 P w K mg base CX0 1 fA fdA ["numbers","level","most"] (by7 K):=cd7 FA.F B
 have GA3:A0 P w K mg base CX0 3 fA fdA ["numbers","level","most"] (by7 K):=GA.mono (by decide)
 have GW:A0 P w K mg base CX0 3 fW fdW ["low","high","holds"] (bk6 P w K mg base 2):=bC5 FW.F
 refine F.okXC hc aW6 (fun A outer s H vs Q E hr h=>?_)
 obtain⟨na,ns,a,M,rfl,hS,hn,hp,ha,tb,q⟩:=h
 have hsl:=N4
 have hun:=hr.units
 have nd3:(["place","deeper","taken"]:List Str).Nodup:=by decide +kernel
 have nd4:(["place","many","one_more"]:List Str).Nodup:=by decide +kernel
 refine⟨_,j0 (x5 (i:=3) aW6.nd rfl (Or.inl rfl) (bB9 (js:=[(0,s.heap.objs.size+1),(1,s.heap.objs.size+2),(2,s.heap.objs.size+3)]) GW hr (by rfl) FW.m FW.F.kp FW.b (fun q hq=>by
    simp only[d7,C2,or_false]at hq
    rcases hq with e | e | e
    ·rw[e];exact⟨S5 _ _,"numbers",rfl,rfl,rfl⟩
    ·rw[e];exact⟨S5 _ _,"much",rfl,rfl,rfl⟩
    ·rw[e];exact⟨S5 _ _,"most",rfl,rfl,rfl⟩) (b9 j6 (b9 (bO4 K rfl rfl (by rfl) B.max (b9 (pv 0) d4)) (b9 (bB5 LB rfl (by rfl) (by rfl)) d4)))))
  (j0 (x5 (i:=4) aW6.nd rfl (Or.inr rfl) (C4 GA3 hr (by rfl) FA G6 (b9 (pv 0) (b9 (pv 3) (b9 (pv 2) d4)))))
  (j0 (x5 (i:=5) aW6.nd rfl (Or.inr rfl) (C4 GA3 hr (by rfl) FA G6 (b9 (pv 0) (b9 (u4 W2 (pv 3) j6) (b9 (pv 2) d4)))))
  (j0 (x5 (i:=6) aW6.nd rfl (Or.inr rfl) (ag0 an3 (L0 (N':=["place","deeper","taken"]) (lk:=[none,some 5,some 4]) rfl (S7 rfl B.range (b9 (p7 A5 (by rfl) B.len PySem.boot_len (b9 (pv 0) d4)) d4)) (by rfl) rfl (by decide +kernel) (by exact⟨rfl,rfl,trivial⟩) (by rfl) (by exact LkL.ok ⟨⟨rfl,Or.inl rfl,rfl,Or.inl rfl⟩,⟨rfl,Or.inl rfl,rfl,Or.inl rfl⟩,trivial⟩)
    (fun _ _ _=>A2 (i:=0) nd3 rfl (Or.inl rfl)) (fun _ _ _=>ah9 (C0 cn3 (ai1 K rfl (pv 1) (pv 0) (fun _ _=>rfl)) (ai1 K rfl (pv 2) (pv 0) (fun _ _=>rfl)) (E9 _))) (fun _ _ _=>pv 0)) at4 (ai0 (u4 W2 (pv 1) (p7 (ac8 rfl) (by rfl) B.sum (by rfl) (b9 (pv 4) d4))))))
  (o8 (C3 (L0 (N':=["place","many","one_more"]) (lk:=[none,none,some 6]) rfl (bm4 (aC0 (by rfl) B.enum (b9 (pv 4) d4)) (aY4 (by rfl) B.enum (b9 (pv 4) d4))) (by rfl) rfl (by decide +kernel) (by exact⟨rfl,trivial⟩) (by rfl) (by exact LkL.ok ⟨⟨rfl,Or.inl rfl,rfl,Or.inl rfl⟩,trivial⟩)
    (fun _ _ _=>aC1 (n:=2) K rfl rfl (Q0 (A2 (i:=0) nd4 rfl (Or.inl rfl)) (Q0 (A2 (i:=1) nd4 rfl (Or.inl rfl)) an5))) (fun _ _ _=>P4) (fun _ _ _=>aY6 (C0 (bm7 K hr.around rfl rfl) (pv 0) (pv 2) (by rfl)) (u4 L1 (pv 1) j6) (pv 1)))))))),?_⟩
 obtain⟨bb,hB⟩:∃ b,SqB b K H na (ns.map V.int):=hS.elim (fun h=>⟨true,h⟩) fun h=>⟨false,h⟩
 refine⟨_,rfl,bb,na,ns,rfl,hB,hp,fun hi h0 hmx=>⟨tb,fun fl c' ctv H2 g2 tb2 hfn hfo hco l hl hjv=>?_⟩⟩
 obtain⟨o1,u1,hl1,hd1,ru1⟩:=hjv _ f9 (.ref na) rfl
 obtain⟨o2,u2,hl2,hd2,ru2⟩:=hjv _ (d6 _ f9) (.int a) rfl
 obtain⟨o3,u3,hl3,hd3,ru3⟩:=hjv _ (d6 _ (d6 _ f9)) (.int (M:Int)) rfl
 have hS2:=Sq.grow hS g2 tb
 have st:=bz4 hl
 have n1:(("much":Str) == ("numbers":Str))=false:=by decide +kernel
 have n2:(("most":Str) == ("numbers":Str))=false:=by decide +kernel
 have n3:(("most":Str) == ("much":Str))=false:=by decide +kernel
 refine⟨0,hi,fl,PySem.W.kla_obj "<lambda>" aM6 (aj2 ak0).1 (aj2 ak0).2.1 (aj2 ak0).2.2 [("numbers",s.heap.objs.size+1),("much",s.heap.objs.size+2),("most",s.heap.objs.size+3)] ((mg "__name__").getD .none) c' ctv,PySem.W.kla_fn "<lambda>" aM6 (aj2 ak0).1 (aj2 ak0).2.1 (aj2 ak0).2.2 [("numbers",s.heap.objs.size+1),("much",s.heap.objs.size+2),("most",s.heap.objs.size+3)] ((mg "__name__").getD .none) (.ref c') ctv,"tried",?sp,?J,?p,rfl,h0,rfl,?F,?b,?h3,?h4,?h5,?h6⟩
 case F =>
  refine ce0 (k:=1) (p:="tried") (qual:=aM6) (params:=(aj2 ak0).1) (body:=(aj2 ak0).2.1) (scope:=(aj2 ak0).2.2) (cl:=[("numbers",s.heap.objs.size+1),("much",s.heap.objs.size+2),("most",s.heap.objs.size+3)]) (f:=fl) (c':=c') (l:=l) (cvs:=[some (.int (M:Int)),some (.int a),some (.ref na)]) (N':=["most","much","numbers"]) rfl rfl rfl (by rfl) rfl ?_ ?_ rfl ?_ (fun A' outer' s' H' hr'=>aC2 ap4 (p7 (aN9 K rfl rfl) (by rfl) B.sum (by rfl) (b9 (aC3 GA hr' (by rfl) FA.m FA.F.kp FA.b .nil G6 (b9 (pv 3) (b9 (pv 0) (b9 (pv 1) d4)))) d4)) (pv 2) (by rfl))
  ·intro x y c hx hy
   exact cs4 (show (s.heap.objs.size+1:Nat)≠s.heap.objs.size+2 by omega) (show (s.heap.objs.size+1:Nat)≠s.heap.objs.size+3 by omega) (show (s.heap.objs.size+2:Nat)≠s.heap.objs.size+3 by omega) hx hy
  ·intro x c hx
   rcases bD4 hx with⟨_,e⟩ | ⟨_,e⟩ | ⟨_,e⟩
   ·rw[e];exact⟨o1,_,hl1,hd1⟩
   ·rw[e];exact⟨o2,_,hl2,hd2⟩
   ·rw[e];exact⟨o3,_,hl3,hd3⟩
  ·intro i x v e1 e2
   match i,e1,e2 with
   | 0,e1,e2 =>
    have e1':("most":Str)=x:=Option.some.inj e1
    have e2':V.int (M:Int)=v:=Option.some.inj (Option.some.inj e2)
    subst e1' e2'
    exact⟨rfl,_,o3,u3,lk3 n2 n3,hl3,hd3,ru3⟩
   | 1,e1,e2 =>
    have e1':("much":Str)=x:=Option.some.inj e1
    have e2':V.int a=v:=Option.some.inj (Option.some.inj e2)
    subst e1' e2'
    exact⟨rfl,_,o2,u2,lk2 n1,hl2,hd2,ru2⟩
   | 2,e1,e2 =>
    have e1':("numbers":Str)=x:=Option.some.inj e1
    have e2':V.ref na=v:=Option.some.inj (Option.some.inj e2)
    subst e1' e2'
    exact⟨rfl,_,o1,u1,lk1,hl1,hd1,ru1⟩
   | i+3,e1,e2=>cases e1
 case b=>exact .all fun us hl=>match us,hl with | [_],_=>rfl
 case J=>exact fun Hx=>Hx fl=some (S8 fl (PySem.W.kla_obj "<lambda>" aM6 (aj2 ak0).1 (aj2 ak0).2.1 (aj2 ak0).2.2 [("numbers",s.heap.objs.size+1),("much",s.heap.objs.size+2),("most",s.heap.objs.size+3)] ((mg "__name__").getD .none) c' ctv))/\Hx c'=some (aA4 c' aM6)/\(∀ b o,l b=some o->Hx b=some (S8 b o))/\Sq K Hx na ns
 case p=>exact fun t=>decide ((ns.map (abv M t)).sum<=a)
 case h3=>exact fun Hx h=>h.1
 case h4 =>
  rintro Hx m Qx ⟨j1,j2,j3,j4⟩ hm1 hm2 hq
  refine⟨.int m,rfl,j1,j2,j3,?_⟩
  refine⟨_,rfl,_,rfl,_,rfl,na,ns,m,M,rfl,Sq.rmv j4 j3,by omega,by omega,fun l8 H8 s8 f8 g8=>⟨l8,_,rfl,SqL.of g8,_,rfl,_,_,rfl,rfl,fun hfr=>?_⟩⟩
  have sb:=bs2 j3 s8
  exact hq _ sb ⟨sb _ _ j1,sb _ _ j2,fun b o e=>as1 e,j4.same sb⟩
 case h5=>exact⟨st _ _ hfo,st _ _ hco,fun b o e=>as1 e,hS2.same st⟩
 case h6 =>
  rintro L H' hr1 hr2 hp1 hp2 ⟨j1,j2,j3,j4⟩ s'
  have so:=bz7 hl s'
  refine⟨j3,?_⟩
  have hlv:Lvl M ns a L:=by
   refine⟨hr1,?_,fun h=>?_⟩
   ·rcases bK3 L hi with z | z
    ·exact of_decide_eq_true (hp1 z)
    ·rw[bp7 fun x hx=>Int.le_trans (hmx x hx) z]
     exact ha
   ·have:=of_decide_eq_false (hp2 h)
    omega
  have g3:U5 PT H (ac1 H' l):=g2.trans (so.grow PT)
  have tb3:=tb2.same so
  have hS3:=hS2.same so
  generalize ac1 H' l=H3 at g3 tb3 hS3 ⊢
  refine⟨_,rfl,_,rfl,_,rfl,na,ns,L,M,rfl,hS3,by omega,by omega,fun lt H4 s4 f4 g4=>?_⟩
  refine⟨_,rfl,_,rfl,_,_,rfl,rfl,_,rfl,na,ns,L - 1,M,rfl,hS3.same s4,by omega,by omega,fun ld H5 s5 f5 g5=>?_⟩
  have g45:=s5 _ _ g4
  have hS5:=hS3.same (s4.trans s5)
  have hle:=hlv.le
  obtain⟨k,hk⟩:∃ k:Nat,a - (ns.map (abv M L)).sum=(k:Int):=⟨(a - (ns.map (abv M L)).sum).toNat,by omega⟩
  refine⟨_,rfl,na,_,rfl,hS5,(ns.length:Int),congrArg (fun z:Nat=>[V.int (z:Int)]) (b8 ..),by omega,by omega,fun D hD=>?_⟩
  rw[m7]
  refine ac7 (lo:=0) (n:=ns.length) (D:=D) (fun i xs σ' H'=>(∃ v,σ'=[v,some (.ref ld),some (.ref lt)])/\u7 H5 H'/\H' D=some (.lst xs)/\xs=(mpN M L ns i).map V.int) ⟨⟨none,rfl⟩,i8 hD,c6,rfl⟩ (by omega)
   (fun i xs σ' H' hi ⟨_,s6,h6,e6⟩=>⟨h6,by rw[e6,b8];exact bQ3 M L ns i⟩) ?_ ?_
  ·rintro i xs σ' H' N kN hi ⟨⟨v,rfl⟩,s6,h6,rfl⟩
   have e0:((0:Int)+(i:Int))=(i:Int):=by omega
   rw[e0]
   refine x6 ?_
   refine⟨_,rfl,_,rfl,cp7 (SqL.of (s6 _ _ g5)) (by rw[b8];exact hi) ⟨_,rfl,_,rfl,cp7 (SqL.of (s6 _ _ g45)) (by rw[b8];exact hi) ⟨_,_,rfl,rfl,_,rfl,?_⟩⟩⟩
   rw[aH3 hi,aH3 hi]
   by_cases hm:abv M L (ns.getD i 0)<abv M (L - 1) (ns.getD i 0)
   ·rw[decide_eq_true hm]
    refine X1 ⟨_,rfl,h6,kN _ _ _ ⟨⟨_,rfl⟩,s6.upd hD,c6,?_⟩⟩
    rw[aZ7,if_pos hm,j9]
    rfl
   ·rw[decide_eq_false hm]
    refine P5 (kN _ _ _ ⟨⟨_,rfl⟩,s6,h6,?_⟩)
    rw[aZ7,if_neg hm,B4]
  ·rintro xs σ' H6 ⟨⟨v,rfl⟩,s6,h6,rfl⟩
   rw[bQ4]at h6
   refine⟨_,rfl,_,rfl,lt,_,rfl,SqL.of (s6 _ _ g45),_,_,rfl,rfl,_,rfl,D,_,rfl,SqL.of h6,fun lo flo=>?_⟩
   rw[hk,am3]
   have s7:=i8 (o:=.lst (((ac5 M L ns).take k).map V.int)) flo
   have g7:(upd H6 lo (.lst (((ac5 M L ns).take k).map V.int))) lo=some (.lst ((aF8 M L ns k).map V.int)):=c6
   have s57:=s6.trans s7
   generalize upd H6 lo (.lst (((ac5 M L ns).take k).map V.int))=H7 at s57 g7 ⊢
   have g47:=s57 _ _ g45
   refine Or.imp (fun h=>⟨_,rfl,h⟩) (fun h=>⟨_,rfl,h⟩) (aH6 (K:=K) (a:=lt) (ys:=(ns.map (abv M L)).map V.int) (.inl (SqL.of g47)) (by rw[b8,b8];omega)
    (fun D i xs σ' H'=>(∃ v u,σ'=[v,u,some (.ref lo)])/\u7 H7 H'/\H' D=some (.lst xs)/\xs=((p5 i).map (shx M L ns k)).map V.int) (fun D hD=>⟨⟨none,none,rfl⟩,i8 hD,c6,rfl⟩)
    (fun D i xs σ' H' hD hi ⟨_,s1,h1,e1⟩=>⟨s1,h1,by rw[e1,b8,b8,y7];exact c9 _⟩) ?_ ?_)
   ·rintro D8 i xs x t σ' H' N hD8 kN hx ⟨⟨v,u,rfl⟩,s1,h1,rfl⟩ ht'
    obtain⟨z,hz,rfl⟩:=P6 hx
    have s2:=i8 (o:=.tup [.int i,.int z]) ht'
    have hi:i<ns.length:=by
     rcases A1 i ns.length with h | h
     ·exact h
     ·rw[o7 (by rw[b8];exact h)]at hz;cases hz
    have ez:z=abv M L (ns.getD i 0):=by
     rw[<- aH3 hi,c8,hz]
     rfl
    refine⟨t,_,rfl,SqT.of c6,rfl,_,_,rfl,_,_,rfl,rfl,L9 ?_⟩
    refine⟨_,rfl,_,rfl,bF5 hun (SqL.of ((s1.trans s2) _ _ g7)) ⟨_,rfl,?_⟩⟩
    have ex:((p5 (i+1)).map (shx M L ns k)).map V.int=((p5 i).map (shx M L ns k)).map V.int++[V.int (shx M L ns k i)]:=by
     rw[D0,j9,j9]
     rfl
    by_cases hm:(i:Int)∈aF8 M L ns k
    ·rw[decide_eq_true hm]
     refine X1 ⟨_,rfl,_,_,rfl,rfl,s2 _ _ h1,kN _ _ _ ⟨⟨_,_,rfl⟩,(s1.trans s2).upd hD8,c6,?_⟩⟩
     rw[ex]
     unfold shx
     rw[if_pos hm,ez]
    ·rw[decide_eq_false hm]
     refine P5 ⟨_,rfl,s2 _ _ h1,kN _ _ _ ⟨⟨_,_,rfl⟩,(s1.trans s2).upd hD8,c6,?_⟩⟩
     rw[ex]
     unfold shx
     rw[if_neg hm,ez,Int.add_zero]
   ·rintro D8 xs σ' H8 hD8 ⟨⟨v,u,rfl⟩,s1,h1,rfl⟩
    rw[b8,b8]at h1
    have sE:=(s4.trans s5).trans (s57.trans s1)
    have sF:=(s4.trans s5).trans s57
    refine q D8 _ L H8 (g3.trans (sE.grow PT)) (tb3.same sE) hlv (by rw[b8,y7]) (fun j hj=>?_) (aN1 (g3.trans (sF.grow PT)) (tb3.same sF) hD8) h1
    rw[bu6 hj,hk,m7]
end
end Web
namespace Web
open PySem L2
theorem bI5 {M L':Int}(hM:1<=M)(h:L<=L')(c:Int):abv M L' c<=abv M L c:=by
 unfold abv
 by_cases h1:c - L'<=0
 ·rw[if_pos h1]
  split
  ·omega
  ·split<;>omega
 ·rw[if_neg h1,if_neg (show ¬ c - L<=0 by omega)]
  by_cases h2:c - L'<=M
  ·rw[if_pos h2]
   split<;>omega
  ·rw[if_neg h2,if_neg (by omega)]
   omega
theorem aD9 {M L':Int}(hM:1<=M)(h:L<=L'):∀ ns:List Int,(ns.map (abv M L')).sum<=(ns.map (abv M L)).sum
 | []=>E8 _
 | c::ns=>by
  rw[m8,m8,G2,G2]
  have:=bI5 hM h c
  have:=aD9 hM h ns
  omega
theorem Lvl.uniq {M a L':Int}(hM:1<=M)(h:Lvl M ns a L)(g:Lvl M ns a L'):L=L':=by
 rcases Int.lt_trichotomy L L' with z | z | z
 ·have h1:=g.lt (by have:=h.l0;omega)
  have h2:=aD9 hM (show L<=L' - 1 by omega) ns
  have h3:=h.le
  omega
 ·exact z
 ·have h1:=h.lt (by have:=g.l0;omega)
  have h2:=aD9 hM (show L'<=L - 1 by omega) ns
  have h3:=g.le
  omega
theorem bt4 {xs ys:List Int}(hl:xs.length=ys.length)(h:∀ j,j<ys.length->xs.getD j 0=ys.getD j 0):xs=ys:=by
 apply M8
 intro j
 rcases A1 j ys.length with z | z
 ·have:=h j z
  rw[c8,c8,c7 z,c7 (show j<xs.length by omega)]at this
  rw[c7 z,c7 (show j<xs.length by omega)]
  exact congrArg some this
 ·rw[o7 z,o7 (by omega)]
def Gw (P P':Addr)(H H':Hp):Prop:=∀ b o,b≠P->b≠P'->H b=some o->H' b=some o
theorem Gw.trans {P P':Addr}{H1 H2:Hp}(a:Gw P P' H H1)(b:Gw P P' H1 H2):Gw P P' H H2:=fun c o n n' h=>b c o n n' (a c o n n' h)
theorem aV8 {P P':Addr}{po po':Pos}{qu qu':Str}(g:U5 P H H')(t:U7 P po qu H)(t':U7 P' po' qu' H)(hne:P'≠P):U7 P' po' qu' H':=by
 obtain⟨ps,hP,_⟩:=t
 obtain⟨qs,h1,h2,h3⟩:=t'
 refine⟨qs,g _ _ hne h1,h2,h3.imp id fun⟨c,e,h⟩=>⟨c,e,g _ _ (fun z=>?_) h⟩⟩
 rw[z,hP]at h
 unfold aA4 at h
 cases h
theorem bz1 {M:Nat}{a L':Int}{xs ys:List Int}(h:Lvl M ns a L)(g:Lvl M ns a L')(hl:xs.length=ns.length)(gl:ys.length=ns.length)(hx:∀ j,j<ns.length->xs.getD j 0=shx M L ns (a - (ns.map (abv M L)).sum).toNat j)(gx:∀ j,j<ns.length->ys.getD j 0=shx M L' ns (a - (ns.map (abv M L')).sum).toNat j):xs=ys:=by
 refine bt4 (by rw[hl,gl]) fun j hj=>?_
 rw[gl]at hj
 rw[hx j hj,gx j hj]
 by_cases hM:1<=M
 ·rw[Lvl.uniq (by omega) h g]
 ·have e:M=0:=by omega
  subst e
  have z0:∀ L k,shx ((0:Nat):Int) L ns k j=0:=fun L k=>by
   have e0:ac5 ((0:Nat):Int) L ns=[]:=by
    unfold ac5
    refine aa4.mpr fun z _=>?_
    show ¬ decide (abv 0 L _<abv 0 (L - 1) _)=true
    rw[ag7,ag7]
    decide
   unfold shx aF8
   rw[e0,List.take_nil,if_neg C2]
   show abv 0 L _+0=0
   rw[ag7]
   rfl
  rw[z0,z0]
def LOK (ns:List Int):Prop:=ns.length<=24
theorem SqB.same {b:Bool}{K:W.Frag}(h:SqB b K H a xs)(s:u7 H H'):SqB b K H' a xs:=by
 cases b with
 | true=>exact s.seq h
 | false=>exact s.seqT h
structure Fst (ns:List Int) (mn:Int) (j:Nat):Prop where
 le:j<=ns.length
 eq:Q8 ns j=mn
 no:∀ k,k<j->Q8 ns k≠mn
theorem Lst.uniq {m m':Int}(h:Lst ns m)(g:Lst ns m'):m=m':=by
 obtain⟨r,r1,r2⟩:=h.at_
 obtain⟨q,q1,q2⟩:=g.at_
 have:=h.le q q1
 have:=g.le r r1
 omega
theorem cf6 {mn:Int}(h:∃ r,r<=ns.length/\mn=Q8 ns r):∃ j,Fst ns mn j:=by
 obtain⟨r,r1,r2⟩:=h
 obtain⟨j,⟨h1,h2⟩,h3⟩:=Sett.aS2 (P:=fun j=>j<=ns.length/\Q8 ns j=mn) ⟨r,r1,r2.symm⟩
 exact⟨j,h1,h2,fun k hk e=>h3 k hk ⟨by omega,e⟩⟩
def aI8 (ns cs:List Int)(mn:Int):Prop:=∃ (M:Nat) (L:Int) (xs:List Int),(M:Int)∈ns/\(∀ x∈ns,x<=(M:Int))/\Lvl M ns (Y9 ns.sum (-mn)) L/\xs.length=ns.length/\(∀ j,j<ns.length->xs.getD j 0=shx M L ns (Y9 ns.sum (-mn) - (ns.map (abv M L)).sum).toNat j)/\cs=ao7 ns xs
theorem aI8.uniq {cs':List Int}{mn:Int}(h:aI8 ns cs mn)(g:aI8 ns cs' mn):cs=cs':=by
 obtain⟨M,L,xs,h1,h2,h3,h4,h5,rfl⟩:=h
 obtain⟨M',L',xs',g1,g2,g3,g4,g5,rfl⟩:=g
 have e:M=M':=by
  have:=g2 _ h1
  have:=h2 _ g1
  omega
 subst e
 rw[bz1 h3 g3 h4 g4 h5 g5]
theorem aI8.facts {mn:Int}(h:aI8 ns cs mn)(h0:AllP ns)(hm:Lst ns mn):Gr cs/\cs.length=ns.length/\(∀ j,j<ns.length->0<=cs.getD j 0/\cs.getD j 0<=ns.getD j 0)/\cs.sum=ns.sum - Y9 ns.sum (-mn):=by
 obtain⟨M,L,xs,h1,h2,h3,h4,h5,rfl⟩:=h
 obtain⟨a,b,c⟩:=bD6 h0 h2 hm h3 h5
 exact⟨a,ak9 _ _,b,c⟩
structure LoT (K:W.Frag) (H:Hp) (p b:Addr) (ns cs:List Int) (ks:List (List Int)) (mn:Int) (j:Nat):Prop where
 lst:Lst ns mn
 fst:Fst ns mn j
 cs_:aI8 ns cs mn
 tup:H p=some (.tup [.int (Y9 ns.sum (-mn)),.ref b,.int (j:Int)])
 web:bd3 K H b cs ks
theorem bd3.same {K:W.Frag}(h:bd3 K H b ns ks)(s:u7 H H'):bd3 K H' b ns ks:=by
 obtain⟨⟨t,zs,h1,h2,h3⟩,a,b,c,d,e⟩:=h
 exact⟨⟨t,zs,s _ _ h1,s _ _ h2,s.tups h3⟩,a,b,c,d,e⟩
def Tbs (PT PU:Addr)(H:Hp):Prop:=Tb PT H/\Tb2 PU H/\PT≠PU
theorem Tbs.same {PT PU:Addr}(h:Tbs PT PU H)(s:u7 H H'):Tbs PT PU H':=⟨h.1.same s,h.2.1.same s,h.2.2⟩
theorem cf5 {P P':Addr}(g:U5 P H H'):Gw P P' H H':=fun b o n _ e=>g b o n e
theorem cf4 {P P':Addr}(g:U5 P' H H'):Gw P P' H H':=fun b o _ n e=>g b o n e
theorem ab0 {P P':Addr}(s:u7 H H'):Gw P P' H H':=fun b o _ _ e=>s b o e
section
variable {PT PU:Addr} (gQ:Gw PT PU H H') (tQ:Tbs PT PU H)
include gQ tQ
theorem aH0 {o:HO}(h:H a=some o)(ho:∀ ps,o≠.tbl ps):H' a=some o:=by
 obtain⟨⟨ps,hP,_⟩,⟨qs,hQ,_⟩,_⟩:=tQ
 exact gQ a o (fun z=>by rw[z,hP]at h;cases h;exact ho _ rfl) (fun z=>by rw[z,hQ]at h;cases h;exact ho _ rfl) h
theorem ay2 (h:H a=some (.lst xs)):H' a=some (.lst xs):=aH0 gQ tQ h fun _ z=>by cases z
theorem bF8 {K:W.Frag}(h:SqL K H a xs):SqL K H' a xs:=by
 rcases h with(h | ⟨o,h⟩) | h
 ·exact .inl (.inl (aH0 gQ tQ h fun _ z=>by cases z))
 ·exact .inl (.inr ⟨o,aH0 gQ tQ h fun _ z=>by cases z⟩)
 ·exact .inr h
theorem aS0 {K:W.Frag}(h:SqT K H a xs):SqT K H' a xs:=by
 rcases h with(h | ⟨o,h⟩) | h
 ·exact .inl (.inl (aH0 gQ tQ h fun _ z=>by cases z))
 ·exact .inl (.inr ⟨o,aH0 gQ tQ h fun _ z=>by cases z⟩)
 ·exact .inr h
theorem co7 {K:W.Frag}(h:Sq K H a ns):Sq K H' a ns:=h.elim (fun h=>.inl (bF8 gQ tQ h)) fun h=>.inr (aS0 gQ tQ h)
theorem bn6 {K:W.Frag}:∀ {zs:List V} {ks:List (List Int)},A4 K H zs ks->A4 K H' zs ks
 | _,_,.nil=>.nil
 | _,_,.cons ⟨a,e,h⟩ r=>.cons ⟨a,e,aS0 gQ tQ h⟩ (bn6 r)
end
theorem aE9 {r:Nat}(h:r<n):((p5 n).map (Q8 ns))[r]?=some (Q8 ns r):=by rw[o5,J9 h];rfl
seal L2.PE L2.PA L2.PS L2.PSs L2.PT
section
variable {K:W.Frag} {mg:Str->Option Value} {base:Heap}
def by3 (K:W.Frag)(CB CW:Addr):Sp:=fun vs H Q E=>∃ (a:Addr) (ns:List Int),vs=[.ref a]/\Sq K H a ns/\(S0 ns->AllP ns->∀ H':Hp,u7 H H'->Q .non H')/\(¬ S0 ns->E (.ref CB) none H)/\(S0 ns->¬ AllP ns->∀ H':Hp,u7 H H'->E (.ref CW) none H')
theorem cm0:y9 ["tally"] ["tally"] (q0 bs3):=.mk'
theorem cd5 {fβ CW:Addr}(F:Fun K "check_none_below" "check_none_below" bs3 f fd)(FT:Fq K mg "check_tally" ax0 fT fdT ["tally"])(GT:A0 P w K mg base (CXE P w) 1 fT fdT ["tally"] (aL5 K CB))
  (Fβ:Fq K mg "places_below" al6 fβ fdβ ["numbers"])(Gβ:A0 P w K mg base CX0 1 fβ fdβ ["numbers"] (aQ0 K))(mW:mg "NoWeb"=some (.ref CW))(cW:am6 K CW):A0 P w K mg base (CXE P w) 2 f fd ["tally"] (by3 K CB CW):=by
 refine F.okX cm0 (fun cdv A outer s H vs Q E hr h=>?_)
 obtain⟨a,ns,rfl,hS,q,qb,qw⟩:=h
 refine⟨_,j0 (Y5 (C4 GT hr (by rfl) FT ap2 (b9 (pv 0) d4)))
  (o8 (O1 (aF1 (C4 Gβ hr (by rfl) Fβ G6 (b9 (pv 0) d4)) (fun _=>rfl)) (o8 (aF2 (by rfl) mW cW)) E6)),?_⟩
 refine⟨_,rfl,a,ns,rfl,hS,fun ht=>?_,qb⟩
 have t2:=ht.2
 refine⟨_,rfl,a,ns,rfl,hS,by omega,fun bl H1 s1 hbl g1=>?_⟩
 refine⟨_,.inl ⟨_,SqL.of g1,rfl⟩,?_⟩
 unfold cg9 at g1 ⊢
 cases hb:au8 ns ns.length with
 | cons p ps =>
  refine X1 (qw ht (fun z=>?_) H1 s1)
  obtain⟨x,h1,h2⟩:=(bd1 hb).1
  have:=z p x h1
  omega
 | nil=>exact P5 (q ht (bp5 hb) H1 s1)
def bx8 (K:W.Frag):Sp:=fun vs H Q _=>∃ (a:Addr) (ns:List Int) (z:Int),vs=[.ref a,.int z]/\Sq K H a ns/\Q (.int (Y9 ns.sum z)) H
theorem cb1:y9 ["tally","want"] ["tally","want"] (q0 aX0):=.mk'
theorem bP3 (F:Fun K "off_by_want" "off_by_want" aX0 f fd)(B:Bn mg):A0 P w K mg base CX0 1 f fd ["tally","want"] (bx8 K):=by
 refine F.ok cb1 (fun cdv A outer s H vs Q E hr h=>?_)
 obtain⟨a,ns,z,rfl,hS,q⟩:=h
 refine⟨_,o8 (C3 (u4 L1 (pv 1) (u4 O3 (u4 L1 (pv 1) (p7 (aN8 rfl) (by rfl) B.sum (by rfl) (b9 (pv 0) d4))) j6))),?_⟩
 exact⟨_,rfl,_,rfl,_,rfl,a,ns,rfl,hS,_,_,rfl,rfl,_,_,rfl,rfl,(by show (0:Int)<2;decide),_,_,rfl,rfl,q⟩
def bf2 (K:W.Frag)(CB CW PT PU:Addr):Sp:=fun vs H Q E=>∃ (a:Addr) (ns:List Int),vs=[.ref a]/\Sq K H a ns/\ns.length<=24/\LOK ns /\
 (S0 ns->AllP ns->Tbs PT PU H/\∀ (p b:Addr) (cs:List Int) (ks:List (List Int)) (mn:Int) (j:Nat) (H':Hp),Gw PT PU H H'->Tbs PT PU H'->H p=none->LoT K H' p b ns cs ks mn j->Q (.ref p) H')/\(¬ S0 ns->E (.ref CB) none H)/\(S0 ns->¬ AllP ns->∀ H':Hp,u7 H H'->E (.ref CW) none H')
theorem aE3:y9 ["tally","rooms","much","lacking","web"] ["tally"] (q0 aL8):=.mk'
set_option maxHeartbeats 4000000 in
theorem bP8 {fC fM fO fS fX CW CN PT PU:Addr}{fdM fdS fdX:FuncData}(F:Fun K "least_off" "least_off" aL8 f fd)(B:Bn mg)
  (FC:Fq K mg "check_none_below" bs3 fC fdC ["tally"])(GC:A0 P w K mg base (CXE P w) 5 fC fdC ["tally"] (by3 K CB CW))
  (FM:Fq K mg "room" aW8 fM fdM ["tally","r"])(GM:A0 P w K mg base (CXE P w) 5 fM fdM ["tally","r"] (bf1 K CB CN))
  (FO:Fq K mg "off_by_want" aX0 fO fdO ["tally","want"])(GO:A0 P w K mg base CX0 5 fO fdO ["tally","want"] (bx8 K))
  (FS:Fq K mg "shares" ak0 fS fdS ["numbers","much","most"])(GS:A0 P w K mg base (CXE P w) 5 fS fdS ["numbers","much","most"] (bx7 K PU))
  (FX:Fq K mg "answered" bA3 fX fdX ["tally"])(GX:A0 P w K mg base (CXE P w) 5 fX fdX ["tally"] (by5 K CB PT)):A0 P w K mg base (CXE P w) 6 f fd ["tally"] (bf2 K CB CW PT PU):=by
 refine F.okX aE3 (fun cdv A outer s H vs Q E hr h=>?_)
 obtain⟨a,ns,rfl,hS,h24,hok,q,qb,qw⟩:=h
 have hsl:=N4
 have nd2:(["r","tally"]:List Str).Nodup:=by decide +kernel
 have nd3:(["number","less"]:List Str).Nodup:=by decide +kernel
 refine⟨_,j0 (Y5 (C4 GC hr (by rfl) FC ap2 (b9 (pv 0) d4)))
  (j0 (aQ7 (i:=1) aE3.nd rfl rfl (by rfl) (N':=["r","tally"]) (lk:=[none,some 0]) rfl (S7 rfl B.range (b9 (u4 L1 (p7 A5 (by rfl) B.len PySem.boot_len (b9 (pv 0) d4)) j6) d4)) (by rfl) rfl (by decide +kernel) (by exact⟨rfl,trivial⟩) (by rfl) (by exact LkL.ok ⟨⟨rfl,Or.inl rfl,rfl,Or.inl rfl⟩,trivial⟩)
    (fun _ _ _=>A2 (i:=0) nd2 rfl (Or.inl rfl)) (fun _ _ _=>P4) (fun _ _ _=>C4 GM hr (by rfl) FM (at5 (P:=P) (w:=w)) (b9 (pv 1) (b9 (pv 0) d4))))
  (j0 (x5 (i:=2) aE3.nd rfl (Or.inl rfl) (C4 GO hr (by rfl) FO G6 (b9 (pv 0) (b9 (aF3 aq6 (p7 (ay8 rfl) (by rfl) B.min (by rfl) (b9 (pv 1) d4))) d4))))
  (j0 (x5 (i:=3) aE3.nd rfl (Or.inl rfl) (C4 GS hr (by rfl) FS (at5 (P:=P) (w:=w)) (b9 (pv 0) (b9 (pv 2) (b9 (p7 (bv5 rfl) (by rfl) B.max (by rfl) (b9 (pv 0) d4)) d4)))))
  (j0 (x5 (i:=4) aE3.nd rfl (Or.inl rfl) (C7 C5 (C4 GX hr (by rfl) FX (at5 (P:=P) (w:=w)) (b9 (L0 (N':=["number","less"]) (lk:=[none,none]) rfl (bm3 (by rfl) B.zip (b9 (pv 0) (b9 (pv 3) d4))) (by rfl) rfl (by decide +kernel) (by exact trivial) (by rfl) (by exact LkL.ok trivial)
    (fun _ _ _=>aC1 (n:=2) K rfl rfl (Q0 (A2 (i:=0) nd3 rfl (Or.inl rfl)) (Q0 (A2 (i:=1) nd3 rfl (Or.inl rfl)) an5))) (fun _ _ _=>P4) (fun _ _ _=>u4 W2 (pv 0) (pv 1))) d4)) j6 (fun _ _=>rfl)))
  (o8 (C3 (R9 (b9 (pv 2) (b9 (pv 4) (b9 (aY7 PySem.F.plainAttrs_list PySem.F.slot_list_index PySem.F.type_list_index bt1 (pv 1) (b9 (p7 (ay8 rfl) (by rfl) B.min (by rfl) (b9 (pv 1) d4)) d4)) d4)))))))))),?_⟩
 refine⟨_,rfl,a,ns,rfl,hS,fun ht h0 H1 s1=>?_,qb,qw⟩
 obtain⟨tbs,q⟩:=q ht h0
 have t2:=ht.2
 have t1:=ht.1
 have hS1:=hS.same s1
 refine⟨_,rfl,a,_,rfl,hS1,_,_,rfl,rfl,((ns.length+1:Nat):Int),congrArg (fun z:Nat=>[V.int ((z:Int)+1)]) (b8 ..),by omega,by omega,fun D hD=>?_⟩
 rw[m7]
 refine ac7 (lo:=0) (n:=ns.length+1) (D:=D) (fun i xs σ' H'=>(∃ v,σ'=[v,some (.ref a)])/\u7 H1 H'/\H' D=some (.lst xs)/\xs=((p5 i).map (Q8 ns)).map V.int) ⟨⟨none,rfl⟩,i8 hD,c6,rfl⟩ (by omega)
  (fun i xs σ' H' hi ⟨_,s6,h6,e6⟩=>⟨h6,by rw[e6,b8,b8,y7];exact c9 _⟩) ?_ ?_
 ·rintro i xs σ' H' N kN hi ⟨⟨v,rfl⟩,s6,h6,rfl⟩
  rw[show ((0:Int)+(i:Int))=(i:Int) by omega]
  refine x6 (L9 ?_)
  refine⟨_,rfl,_,rfl,a,ns,(i:Int),rfl,hS1.same s6,fun _ _ H7 s7=>?_,fun _ h=>absurd ⟨by omega,by omega⟩ h,fun h=>absurd ht h⟩
  have h7:=s7 _ _ h6
  refine⟨h7,kN _ _ _ ⟨⟨_,rfl⟩,(s6.trans s7).upd hD,c6,?_⟩⟩
  rw[D0,j9,j9]
  rfl
 rintro xs σ' H2 ⟨⟨v,rfl⟩,s2,gD,rfl⟩
 have fD:H D=none:=s1.free hD
 have s12:=s1.trans s2
 have hS2:=hS.same s12
 have hrl:((p5 (ns.length+1)).map (Q8 ns)).length=ns.length+1:=by rw[b8,y7]
 refine⟨_,rfl,_,rfl,D,_,rfl,SqL.of gD,by omega,fun mn hm1 hm2=>⟨mn,rfl,a,ns,-mn,rfl,hS2,?_⟩⟩
 have hmr:∃ r,r<=ns.length/\mn=Q8 ns r:=by
  obtain⟨r,hr1,hr2⟩:=p0.mp hm1
  have:=v8.mp hr1
  exact⟨r,by omega,hr2.symm⟩
 have hL:Lst ns mn:=⟨fun r hr=>hm2 _ (d8 (aE9 (by omega))),hmr⟩
 obtain⟨j,hj⟩:=cf6 hmr
 obtain⟨o0,o1,o2,o3⟩:=hL.off h0
 refine x6 ?_
 obtain⟨bb,hB⟩:∃ b,SqB b K H2 a (ns.map V.int):=hS2.elim (fun h=>⟨true,h⟩) fun h=>⟨false,h⟩
 refine⟨_,rfl,_,rfl,_,rfl,bb,a,ns,rfl,hB,by omega,fun mx hx1 hx2=>?_⟩
 have mx0:0<=mx:=by
  obtain⟨i,hi⟩:=o6.mp hx1
  exact h0 i mx hi
 obtain⟨M,rfl⟩:∃ M:Nat,mx=(M:Int):=⟨mx.toNat,by omega⟩
 have tbs2:=tbs.same s12
 refine⟨a,ns,_,M,rfl,hS2,by omega,h0,o0,tbs2.2.1,fun lx xs L H3 g3 tb3 hLv hxl hx flx glx=>?_⟩
 have gw3:Gw PT PU H2 H3:=cf4 g3
 have tbs3:Tbs PT PU H3:=⟨aV8 g3 tbs2.2.1 tbs2.1 tbs2.2.2,tb3,tbs2.2.2⟩
 have hS3:=co7 gw3 tbs2 hS2
 have gD3:=ay2 gw3 tbs2 gD
 refine x6 ?_
 obtain⟨b3,hB3⟩:∃ b,SqB b K H3 a (ns.map V.int):=hS3.elim (fun h=>⟨true,h⟩) fun h=>⟨false,h⟩
 refine⟨_,rfl,_,rfl,b3,true,a,lx,rfl,⟨_,hB3⟩,⟨_,SqL.of glx⟩,fun D4 hD4=>?_⟩
 refine aN6 (b1:=b3) (b2:=true) (K:=K) (a:=a) (b:=lx) (D:=D4) (ys:=ns.map V.int) (zs:=xs.map V.int) (by rw[b8,b8,hxl]) (fun i ds σ' H'=>(∃ v u,σ'=[v,u])/\u7 H3 H'/\H' D4=some (.lst ds)/\ds=((p5 i).map fun j=>ns.getD j 0 - xs.getD j 0).map V.int)
  ⟨⟨none,none,rfl⟩,i8 hD4,c6,rfl⟩ (by rw[b8];omega) (fun i ds σ' H' hi ⟨_,s8,h8,e8⟩=>⟨SqB.same hB3 s8,SqL.of (s8 _ _ glx),h8,by rw[e8,b8,b8,y7];exact c9 _⟩) ?_ ?_
 ·rintro i ds x y t σ' H' N kN hx hy ⟨⟨v,u,rfl⟩,s8,h8,rfl⟩ ht'
  obtain⟨z1,hz1,rfl⟩:=P6 hx
  obtain⟨z2,hz2,rfl⟩:=P6 hy
  have s9:=i8 (o:=.tup [.int z1,.int z2]) ht'
  refine⟨t,_,rfl,SqT.of c6,rfl,_,_,rfl,_,_,rfl,rfl,L9 ?_⟩
  refine⟨_,rfl,_,rfl,_,_,rfl,rfl,s9 _ _ h8,kN _ _ _ ⟨⟨_,_,rfl⟩,(s8.trans s9).upd hD4,c6,?_⟩⟩
  rw[D0,j9,j9]
  show _=_++[V.int (ns.getD i 0 - xs.getD i 0)]
  rw[c8,c8,hz1,hz2]
  rfl
 rintro ds σ' H4 ⟨⟨v,u,rfl⟩,s4,gD4,rfl⟩
 rw[b8]at gD4
 have hcs:aI8 ns (ao7 ns xs) mn:=⟨M,L,xs,hx1,hx2,hLv,hxl,hx,rfl⟩
 have gD4':H4 D4=some (.lst ((ao7 ns xs).map V.int)):=gD4
 obtain⟨hGr,hcl,_,_⟩:=hcs.facts h0 hL
 generalize ao7 ns xs=cs at hcs gD4' hGr hcl
 have tbs4:=tbs3.same s4
 have htc:S0 cs:=⟨by omega,by omega⟩
 refine⟨D4,cs,rfl,.inl (SqL.of gD4'),fun _=>⟨tbs4.1,fun rA H5 g5 tb5 ans=>?_⟩,fun h=>absurd htc h⟩
 rcases ans with⟨x,b,k1,k2,k3,k4⟩ | ⟨_,b,ks,k1,k2⟩
 ·exact absurd (bM0 k2 (bn8 hGr)) k1
 have a1:atI ([.str "web",.ref b]:List V) 1=some (.ref b):=C1 (j:=1) rfl
 have gw5:Gw PT PU H4 H5:=cf5 g5
 have tbs5:Tbs PT PU H5:=⟨tb5,aV8 g5 tbs4.1 tbs4.2.1 (fun z=>tbs4.2.2 z.symm),tbs4.2.2⟩
 have gD5:=ay2 gw5 tbs4 (s4 _ _ gD3)
 refine⟨rA,_,_,_,rfl,rfl,SqT.of k1,a1,?_⟩
 refine x6 ?_
 have hne:∀ m c,m<j->((p5 (ns.length+1)).map (Q8 ns))[m]?=some c->c≠mn:=fun m c hm e=>by
  have:=hj.le
  rw[aE9 (by omega)]at e
  cases e
  exact hj.no m hm
 refine⟨_,rfl,_,rfl,_,rfl,.inl ⟨rfl,_,SqL.of gD5⟩,_,rfl,D,_,rfl,SqL.of gD5,by omega,fun mn' hn1 hn2=>?_⟩
 obtain rfl:mn'=mn:=by
  have:=hm2 _ hn1
  have:=hn2 _ hm1
  omega
 have hjl:=hj.le
 refine⟨D,_,mn',j,rfl,rfl,gD5,by rw[aE9 (by omega),hj.eq],hne,by omega,?_⟩
 refine⟨(by show 3<=j7;decide),fun p fp=>?_⟩
 have sp:=i8 (o:=.tup [.int (Y9 ns.sum (-mn')),.ref b,.int (j:Int)]) fp
 have gwA:Gw PT PU H H5:=((ab0 s12).trans gw3).trans ((ab0 s4).trans gw5)
 refine q p b cs ks mn' j _ (gwA.trans (ab0 sp)) (tbs5.same sp) ?_ ⟨hL,hj,hcs,c6,k2.same sp⟩
 cases e:H p with
 | none=>rfl
 | some o =>
  by_cases z1:p=PT
  ·obtain⟨⟨ps,hP,_⟩,_⟩:=tbs5
   rw[z1,hP]at fp
   cases fp
  ·by_cases z2:p=PU
   ·obtain⟨_,⟨ps,hP,_⟩,_⟩:=tbs5
    rw[z2,hP]at fp
    cases fp
   ·rw[gwA p o z1 z2 e]at fp
    cases fp
end
end Web
namespace Web
open PySem L2
def au9 (K:W.Frag)(H:Hp)(p:Addr)(n:Nat)(ks:List (List Int)):Prop:=∃ t zs,SqT K H p [.int n,.ref t]/\SqT K H t zs/\A4 K H zs ks
theorem au9.same {K:W.Frag}{p:Addr}(h:au9 K H p n ks)(s:u7 H H'):au9 K H' p n ks:=by
 obtain⟨t,zs,h1,h2,h3⟩:=h
 exact⟨t,zs,s.seqT h1,s.seqT h2,s.tups h3⟩
theorem au9.dt {K:W.Frag}{p:Addr}(h:au9 K H p n ks):Dt K H (dW n ks) (.ref p):=by
 obtain⟨t,zs,h1,h2,h3⟩:=h
 exact Dt.mkT h1 (.mkC .mkInt (.mkC (Dt.mkT h2 h3.dtAll) .mkN))
theorem bQ8 {a b:List Int}(ha:Up n a)(hb:Up n b)(hne:a≠b)(h:Tim.K4 b a=false):Tim.K4 a b=true:=by
 obtain⟨i,j,_,_,rfl⟩:=ha
 obtain⟨u,v,_,_,rfl⟩:=hb
 unfold Tim.K4 Tim.K4 at h ⊢
 by_cases e1:(u:Int)=i
 ·rw[if_pos e1]at h
  rw[if_pos e1.symm]
  by_cases e2:(v:Int)=j
  ·exact absurd (by rw[e1,e2]) hne
  ·rw[if_neg e2]at h
   rw[if_neg (Ne.symm e2)]
   have:=of_decide_eq_false h
   exact decide_eq_true (by omega)
 ·rw[if_neg e1]at h
  rw[if_neg (Ne.symm e1)]
  have:=of_decide_eq_false h
  exact decide_eq_true (by omega)
theorem ch0 (ups:∀ k∈ks,Up n k)(nd:ks.Nodup)(so:ks.Pairwise (fun a b=>Tim.K4 b a=false)):Asc ks:=by
 have h2:=J2.mp nd
 have h3:=so.and h2
 exact List.Pairwise.imp_of_mem (fun {a b} ha hb h=>bQ8 (ups a ha) (ups b hb) h.2 h.1) h3
structure Tld (n:Nat) (ks:List (List Int)):Prop where
 ups:∀ k∈ks,Up n k
 nd:ks.Nodup
 srt:ks.Pairwise (fun a b=>Tim.K4 b a=false)
seal L2.PE L2.PA L2.PS L2.PSs L2.PT
section
variable {K:W.Frag} {mg:Str->Option Value} {base:Heap}
def as5 (K:W.Frag):Sp:=fun vs H Q _=>∃ n:Nat,vs=[.int n]/\n<=24/\∀ l zs H',u7 H H'->H l=none->H' l=some (.lst zs)->A4 K H' zs (l4 n)->Q (.ref l) H'
theorem aB9:y9 ["places","pairs","one","other"] ["places"] (q0 aw8):=.mk'
theorem aZ0 (F:Fun K "_law_pairs" "_law_pairs" aw8 f fd) (B:Bn mg):A0 P w K mg base CX0 1 f fd ["places"] (as5 K):=by
 refine F.ok aB9 (fun cdv A outer s H vs Q E hr h=>?_)
 obtain⟨n,rfl,hn,q⟩:=h
 refine⟨_,j0 (x5 (i:=1) aB9.nd rfl (Or.inl rfl) (Z6 d4))
  (j0 (ac3 PassesOwn.never rfl (S7 rfl B.range (b9 (pv 0) d4)) (A2 (i := 2) aB9.nd rfl (Or.inl rfl))
   (o8 (ac3 PassesOwn.never rfl (ax5 rfl B.range (b9 (u4 L1 (pv 2) j6) (b9 (pv 0) d4))) (A2 (i := 3) aB9.nd rfl (Or.inl rfl))
    (o8 (Y5 (aY7 PySem.F.plainAttrs_list PySem.F.slot_list_append PySem.F.type_list_append ab7 (pv 1) (b9 (R9 (b9 (pv 2) (b9 (pv 3) d4))) d4)))))))
  (o8 (C3 (pv 1)))),?_⟩
 refine⟨by show 0<=j7;omega,fun l hl=>?_⟩
 have hlen:=ab8 n hn
 have hsl:=N4
 refine⟨_,rfl,n,rfl,by omega,by omega,Y2 (lo:=0) (n:=n) (fun i σ H1=>∃ a b zs,σ=[some (.int n),some (.ref l),a,b]/\u7 H H1/\H1 l=some (.lst zs)/\A4 K H1 zs ((p5 i).flatMap fun j=>ac0 j (n - (j+1))))
  ⟨none,none,[],rfl,i8 hl,c6,.nil⟩ ?_ ?_⟩
 ·rintro i σ H1 hi ⟨a,b,zs,rfl,s1,h1,t1⟩
  refine⟨_,rfl,_,_,rfl,rfl,_,rfl,_,_,rfl,⟨by omega,by omega,by omega,by omega⟩,Y2 (lo:=0+(i:Int)+1) (fun d σ H2=>∃ b zs,σ=[some (.int n),some (.ref l),some (.int (0+i)),b]/\u7 H H2/\H2 l=some (.lst zs)/\A4 K H2 zs (((p5 i).flatMap fun j=>ac0 j (n - (j+1)))++ac0 i d))
   ⟨b,zs,rfl,s1,h1,by simpa [ac0] using t1⟩ ?_ ?_⟩
  ·rintro d σ H2 hd ⟨b,zs,rfl,s2,h2,t2⟩
   have hlz:=t2.len
   have hpart:=ba6 n (i+1) (by omega)
   rw[ai2,m6]at hpart
   have hrow:∀ m,(ac0 i m).length=m:=fun m=>by simp[ac0]
   rw[m6,hrow]at hlz
   rw[hrow]at hpart
   refine⟨_,rfl,.inl ⟨rfl,_,SqL.of h2⟩,_,rfl,_,rfl,(by show 2<=j7;decide),fun p hp=>?_⟩
   have hlp:l≠p:=r6 h2 hp
   have h2':(upd H2 p (.tup [.int (0+(i:Int)),.int (0+(i:Int)+1+(d:Int))])) l=some (.lst zs):=by rw[t4 hlp];exact h2
   refine⟨l,zs,_,rfl,rfl,h2',by omega,?_⟩
   refine⟨_,_,rfl,(s2.trans (i8 hp)).upd hl,c6,?_⟩
   rw[aM0,<- A6]
   refine A4.updL h2' (A4.append (u7.tups (i8 hp) t2) (A4.one (SqT.of ?_)))
   rw[c6]
   simp
  ·rintro σ H2 ⟨b,zs,rfl,s2,h2,t2⟩
   refine⟨_,_,zs,rfl,s2,h2,?_⟩
   rw[ai2]
   have e:((n:Int) - (0+(i:Int)+1)).toNat=n - (i+1):=by omega
   rw[e]at t2
   exact t2
 ·rintro σ H1 ⟨a,b,zs,rfl,s1,h1,t1⟩
  exact⟨_,rfl,q l zs H1 s1 hl h1 t1⟩
end
end Web
namespace Web
open PySem L2
theorem bh6 {k:Nat}(hr:Z0 k A):A.units+1<ae8:=by have:=hr.units;omega
theorem bz0:2000<=j7:=by decide
theorem cg7 (m k:Nat):decide (V.int (Builtin.bitAnd ((m:Int) / 2 ^ (k:Int).toNat) 1)=V.int 1)=decide (m / 2 ^ k % 2=1):=by
 have e:((m:Int) / 2 ^ (k:Int).toNat)=((m / 2 ^ k:Nat):Int):=by
  rw[m7]
  norm_cast
 rw[e]
 generalize m / 2 ^ k=q
 rw[PyProof.Rows.bitAnd_pp (by omega) (by decide),m7,show (1:Int).toNat=1 from rfl,Nat.and_one_is_mod]
 by_cases h:q % 2=1
 ·rw[h];rfl
 ·rw[decide_eq_false h,decide_eq_false fun z=>h (by injection z with z;omega)]
theorem au1 (xs:List Int):(xs.map (Sum.inl:Int->Key)).map kV=xs.map V.int:=by rw[M4];rfl
theorem ae1:∀ {xs ys:List Int},xs.map (Sum.inl:Int->Key)=ys.map Sum.inl->xs=ys
 | [],[],_=>rfl
 | [],_::_,h=>by cases h
 | _::_,[],h=>by cases h
 | x::xs,y::ys,h=>by
  rw[m8,m8]at h
  injection h with h1 h2
  injection h1 with h1
  rw[h1,ae1 h2]
theorem aM1:∀ n:Nat,n<6->2 ^ (l4 n).length<=1024:=by decide +kernel
def TTa (K:W.Frag)(H:Hp)(a:Addr)(T:List (List Int)):Prop:=∃ ys,SqT K H a ys/\A4 K H ys T
theorem TTa.same {K:W.Frag}{T:List (List Int)}(h:TTa K H a T)(s:u7 H H'):TTa K H' a T:=let ⟨ys,h1,h2⟩:=h;⟨ys,s.seqT h1,s.tups h2⟩
theorem TTa.updL {K:W.Frag}{l:Addr}{zs:List V}{T:List (List Int)}(h:TTa K H a T)(hl:H l=some (.lst xs)):TTa K (upd H l (.lst zs)) a T:=let ⟨ys,h1,h2⟩:=h;⟨ys,h1.updL hl,A4.updL hl h2⟩
def Wls (K:W.Frag)(H:Hp)(us:List V)(ws:List (List (List Int))):Prop:=us.length=ws.length/\∀ (i:Nat) (u:V) (T:List (List Int)),us[i]?=some u->ws[i]?=some T->∃ a,u=.ref a/\TTa K H a T
theorem Wls.same {K:W.Frag}{us:List V}(h:Wls K H us ws)(s:u7 H H'):Wls K H' us ws:=⟨h.1,fun i u T e1 e2=>let ⟨a,x,y⟩:=h.2 i u T e1 e2;⟨a,x,y.same s⟩⟩
theorem Wls.updL {K:W.Frag}{l:Addr}{zs us:List V}(h:Wls K H us ws)(hl:H l=some (.lst xs)):Wls K (upd H l (.lst zs)) us ws:=⟨h.1,fun i u T e1 e2=>let ⟨a,x,y⟩:=h.2 i u T e1 e2;⟨a,x,y.updL hl⟩⟩
theorem Wls.snoc {K:W.Frag}{us:List V}{T:List (List Int)}(h:Wls K H us ws)(t:TTa K H a T):Wls K H (us++[.ref a]) (ws++[T]):=by
 refine⟨by rw[m6,m6,h.1];rfl,fun i u U e1 e2=>?_⟩
 rcases A1 i us.length with z | z
 ·rw[O7 z]at e1
  rw[O7 (by rw[<- h.1];exact z)]at e2
  exact h.2 i u U e1 e2
 ·rw[C6 z]at e1
  rw[C6 (by rw[<- h.1];exact z),<- h.1]at e2
  cases hz:i - us.length with
  | zero =>
   rw[hz]at e1 e2
   cases e1
   cases e2
   exact⟨a,rfl,t⟩
  | succ n=>rw[hz]at e1;cases e1
def wks (n:Nat)(ts:List Int)(k:Nat):List (List (List Int)):=((p5 k).filter fun m=>decide (tal n (D3 (l4 n) m)=ts)).map (D3 (l4 n))
theorem aV3 (n:Nat)(ts:List Int)(k:Nat):wks n ts (k+1)=wks n ts k++(if tal n (D3 (l4 n) k)=ts then [D3 (l4 n) k] else []):=by
 unfold wks
 rw[D0,L5,j9,ap9,bd9]
 by_cases h:tal n (D3 (l4 n) k)=ts
 ·rw[decide_eq_true h,if_pos rfl,if_pos h];rfl
 ·rw[decide_eq_false h,if_neg i7,if_neg h];rfl
structure AW (K:W.Frag) (H:Hp) (kvs:List (List Key × V)) (n m:Nat):Prop where
 has:∀ key:List Int,(Q7 kvs (key.map Sum.inl)).isSome=true↔∃ q,q<m/\tal n (D3 (l4 n) q)=key
 val:∀ (key:List Int) (v:V),Q7 kvs (key.map Sum.inl)=some v->∃ l us,v=.ref l/\H l=some (.lst us)/\Wls K H us (wks n key m)
 inj:∀ (key key':List Int) (l:Addr),Q7 kvs (key.map Sum.inl)=some (.ref l)->Q7 kvs (key'.map Sum.inl)=some (.ref l)->key=key'
 keys:∀ kv∈kvs,∃ q,q<m/\kv.1=(tal n (D3 (l4 n) q)).map Sum.inl
 len:kvs.length<=m
theorem AW.same {K:W.Frag}(h:AW K H kvs n m)(s:u7 H H'):AW K H' kvs n m:=
 ⟨h.has,fun key v e=>let ⟨l,us,e1,e2,e3⟩:=h.val key v e;⟨l,us,e1,s _ _ e2,e3.same s⟩,h.inj,h.keys,h.len⟩
theorem bO1 {k:List Key}{v:V}:∀ kv∈putK kvs k v,kv∈kvs\/kv.1=k:=fun kv hm=>by
 by_cases e:kv.1=k
 ·exact .inr e
 ·left
  unfold putK at hm
  split at hm
  ·obtain⟨x,hx,hxe⟩:=p0.mp hm
   split at hxe
   ·rename_i hk
    rw[<- hxe]at e;exact absurd hk e
   ·rw[<- hxe];exact hx
  ·rcases u6.mp hm with h | h
   ·exact h
   ·rw[x8.mp h]at e;exact absurd rfl e
theorem rep0 (n:Nat):(u5 n [V.int 0]).flatten=(tal n []).map V.int:=by
 rw[bk4]
 exact bW5 n 0
theorem SqT.updD {K:W.Frag}{d:Addr}{o:HO}(h:SqT K H a ys)(hd:H d=some (.dT kvs)):SqT K (upd H d o) a ys:=by
 rcases h with(h | ⟨u,h⟩) | h
 ·exact .inl (.inl (by rw[t4 (fun z=>by rw[z,hd]at h;cases h)];exact h))
 ·exact .inl (.inr ⟨u,by rw[t4 (fun z=>by rw[z,hd]at h;cases h)];exact h⟩)
 ·exact .inr h
theorem A4.updD {K:W.Frag}{d:Addr}{o:HO}(hd:H d=some (.dT kvs)):∀ {ys:List V} {ks:List (List Int)},A4 K H ys ks->A4 K (upd H d o) ys ks
 | _,_,.nil=>.nil
 | _,_,.cons r t=>by
  obtain⟨a,h1,h2⟩:=r
  exact .cons ⟨a,h1,SqT.updD h2 hd⟩ (A4.updD hd t)
theorem Wls.updD {K:W.Frag}{d:Addr}{o:HO}{us:List V}(h:Wls K H us ws)(hd:H d=some (.dT kvs)):Wls K (upd H d o) us ws:=
 ⟨h.1,fun i u T e1 e2=>let ⟨a,x,ys,y1,y2⟩:=h.2 i u T e1 e2;⟨a,x,ys,SqT.updD y1 hd,A4.updD hd y2⟩⟩
structure AX (K:W.Frag) (H:Hp) (kvs:List (List Key × V)) (n m:Nat):Prop where
 has:∀ key:List Int,(Q7 kvs (key.map Sum.inl)).isSome=true↔∃ q,q<m+1/\tal n (D3 (l4 n) q)=key
 val:∀ (key:List Int) (v:V),Q7 kvs (key.map Sum.inl)=some v->∃ l us,v=.ref l/\H l=some (.lst us)/\Wls K H us (wks n key m)
 inj:∀ (key key':List Int) (l:Addr),Q7 kvs (key.map Sum.inl)=some (.ref l)->Q7 kvs (key'.map Sum.inl)=some (.ref l)->key=key'
 keys:∀ kv∈kvs,∃ q,q<m+1/\kv.1=(tal n (D3 (l4 n) q)).map Sum.inl
 len:kvs.length<=m+1
theorem AX.same {K:W.Frag}(h:AX K H kvs n m)(s:u7 H H'):AX K H' kvs n m:=
 ⟨h.has,fun key v e=>let ⟨l,us,e1,e2,e3⟩:=h.val key v e;⟨l,us,e1,s _ _ e2,e3.same s⟩,h.inj,h.keys,h.len⟩
theorem bM1 (n:Nat)(ts:List Int)(k:Nat):(wks n ts k).length<=k:=by
 unfold wks
 rw[b8]
 have:=F5 (fun m=>decide (tal n (D3 (l4 n) m)=ts)) (p5 k)
 rw[y7]at this
 exact this
theorem AX.step {K:W.Frag}{l:Addr}{us:List V}(h:AX K H kvs n m)(hv:Q7 kvs ((tal n (D3 (l4 n) m)).map Sum.inl)=some (.ref l))(hl:H l=some (.lst us))(hw:Wls K H us (wks n (tal n (D3 (l4 n) m)) m))(ht:TTa K H a (D3 (l4 n) m)) :
  AW K (upd H l (.lst (us++[.ref a]))) kvs n (m+1):=by
 refine⟨h.has,fun key v e=>?_,h.inj,h.keys,h.len⟩
 by_cases hk:tal n (D3 (l4 n) m)=key
 ·subst hk
  rw[hv]at e
  cases e
  refine⟨l,us++[.ref a],rfl,c6,?_⟩
  rw[aV3,if_pos rfl]
  exact(hw.updL hl).snoc (ht.updL hl)
 ·obtain⟨l2,us2,rfl,e2,e3⟩:=h.val key v e
  have hne:l2≠l:=fun z=>hk (by rw[z]at e;exact(h.inj _ _ _ e hv).symm)
  refine⟨l2,us2,rfl,by rw[t4 hne];exact e2,?_⟩
  rw[aV3,if_neg hk,B4]
  exact e3.updL hl
theorem AW.toX {K:W.Frag}(h:AW K H kvs n m)(hs:(Q7 kvs ((tal n (D3 (l4 n) m)).map Sum.inl)).isSome=true):AX K H kvs n m:=by
 refine⟨fun key=>(h.has key).trans ⟨fun⟨q,h1,h2⟩=>⟨q,by omega,h2⟩,fun⟨q,h1,h2⟩=>?_⟩,h.val,h.inj,fun kv hk=>let ⟨q,h1,h2⟩:=h.keys kv hk;⟨q,by omega,h2⟩,Nat.le_succ_of_le h.len⟩
 by_cases e:q=m
 ·have:=(h.has (tal n (D3 (l4 n) m))).mp hs
  rw[e]at h2
  rw[h2]at this
  exact this
 ·exact⟨q,by omega,h2⟩
theorem AW.fresh {K:W.Frag}{l:Addr}(h:AW K H kvs n m)(hno:Q7 kvs ((tal n (D3 (l4 n) m)).map Sum.inl)=none)(hl:H l=some (.lst []))(hfr:∀ key w,Q7 kvs ((key:List Int).map Sum.inl)=some w->w≠.ref l) :
  AX K H (putK kvs ((tal n (D3 (l4 n) m)).map Sum.inl) (.ref l)) n m:=by
 have none_wks:wks n (tal n (D3 (l4 n) m)) m=[]:=by
  unfold wks
  rw[List.map_eq_nil_iff,aa4]
  intro q hq hdq
  have:=(h.has (tal n (D3 (l4 n) m))).mpr ⟨q,v8.mp hq,of_decide_eq_true hdq⟩
  rw[hno]at this
  cases this
 refine⟨fun key=>?_,fun key w e=>?_,fun key key' l2 e1 e2=>?_,fun kv hk=>?_,x9 (am1 _ _ _) (Nat.succ_le_succ h.len)⟩
 ·rw[ak6]
  by_cases hkey:key=tal n (D3 (l4 n) m)
  ·rw[if_pos (by rw[hkey])]
   exact⟨fun _=>⟨m,by omega,hkey.symm⟩,fun _=>rfl⟩
  ·rw[if_neg (fun z=>hkey (ae1 z))]
   refine(h.has key).trans ⟨fun⟨m',h1,h2⟩=>⟨m',by omega,h2⟩,fun⟨m',h1,h2⟩=>?_⟩
   by_cases e:m'=m
   ·rw[e]at h2;exact absurd h2.symm hkey
   ·exact⟨m',by omega,h2⟩
 ·rw[ak6]at e
  by_cases hkey:key=tal n (D3 (l4 n) m)
  ·rw[if_pos (by rw[hkey])]at e
   cases e
   refine⟨l,[],rfl,hl,?_⟩
   rw[hkey,none_wks]
   exact⟨rfl,fun i u T e1=>by cases e1⟩
  ·rw[if_neg (fun z=>hkey (ae1 z))]at e
   exact h.val key w e
 ·rw[ak6]at e1 e2
  by_cases k1:key=tal n (D3 (l4 n) m)
  ·by_cases k2:key'=tal n (D3 (l4 n) m)
   ·rw[k1,k2]
   ·rw[if_pos (by rw[k1])]at e1
    rw[if_neg (fun z=>k2 (ae1 z))]at e2
    cases e1
    exact absurd rfl (hfr key' _ e2)
  ·by_cases k2:key'=tal n (D3 (l4 n) m)
   ·rw[if_neg (fun z=>k1 (ae1 z))]at e1
    rw[if_pos (by rw[k2])]at e2
    cases e2
    exact absurd rfl (hfr key _ e1)
   ·rw[if_neg (fun z=>k1 (ae1 z))]at e1
    rw[if_neg (fun z=>k2 (ae1 z))]at e2
    exact h.inj key key' l2 e1 e2
 ·rcases bO1 kv hk with hm | hm
  ·obtain⟨q,h1,h2⟩:=h.keys kv hm
   exact⟨q,by omega,h2⟩
  ·exact⟨m,by omega,hm⟩
seal L2.PE L2.PA L2.PS L2.PSs L2.PT
section
variable {K:W.Frag} {mg:Str->Option Value} {base:Heap}
def by6 (K:W.Frag):Sp:=fun vs H Q _=>∃ n:Nat,vs=[.int n]/\1<=n/\n<=5/\∀ (d:Addr) (kvs:List (List Key × V)) (H':Hp),u7 H H'->H d=none->H' d=some (.dT kvs)->AW K H' kvs n (2 ^ (l4 n).length)->Q (.ref d) H'
theorem al5:y9 ["places","pairs","webs","number","counts","ties","k","pair"] ["places"] (q0 aX5):=.mk'
set_option maxHeartbeats 4000000 in
theorem bQ0 {fP:Addr} {fdP:FuncData} (F:Fun K "_law_all_webs" "_law_all_webs" aX5 f fd) (B:Bn mg) (FP:Fq K mg "_law_pairs" aw8 fP fdP ["places"]):A0 P w K mg base CX0 2 f fd ["places"] (by6 K):=by
 have GP:A0 P w K mg base CX0 1 fP fdP ["places"] (as5 K):=aZ0 FP.F B
 refine F.ok al5 (fun cdv A outer s H vs Q E hr h=>?_)
 obtain⟨n,rfl,n1,n2,q⟩:=h
 have hsl:=bz0
 have hlen:=ab8 n (by omega)
 have hpw:=aM1 n (by omega)
 refine⟨_,j0 (x5 (i:=1) al5.nd rfl (Or.inl rfl) (C4 GP hr (by rfl) FP G6 (b9 (pv 0) d4)))
  (j0 (x5 (i:=2) al5.nd rfl (Or.inl rfl) bB6)
  (j0 (ac3 PassesOwn.never rfl (S7 rfl B.range (b9 (u4 cc1 j6 (p7 A5 (by rfl) B.len PySem.boot_len (b9 (pv 1) d4))) d4)) (A2 (i := 3) al5.nd rfl (Or.inl rfl))
   (j0 (x5 (i:=4) al5.nd rfl (Or.inl rfl) (u4 bg6 (Z6 (b9 j6 d4)) (pv 0)))
   (j0 (x5 (i:=5) al5.nd rfl (Or.inl rfl) (Z6 d4))
   (j0 (ac3 PassesOwn.never rfl (aC0 (by rfl) B.enum (b9 (pv 1) d4)) (bg4 rfl (Q0 (A2 (i := 6) al5.nd rfl (Or.inl rfl)) (Q0 (A2 (i := 7) al5.nd rfl (Or.inl rfl)) an5)))
    (o8 (O1 (C0 aY8 (u4 cc6 (u4 cc0 (pv 3) (pv 6)) j6) j6 (E9 _))
     (j0 (al7 (u4 L1 (C7 U1 (pv 4) (C7 C5 (pv 7) j6 (fun _ _=>rfl)) (fun _ _=>rfl)) j6) (al8 (pv 4) (C7 C5 (pv 7) j6 (fun _ _=>rfl)) set_list))
     (j0 (al7 (u4 L1 (C7 U1 (pv 4) (C7 C5 (pv 7) j6 (fun _ _=>rfl)) (fun _ _=>rfl)) j6) (al8 (pv 4) (C7 C5 (pv 7) j6 (fun _ _=>rfl)) set_list))
     (o8 (Y5 (aY7 PySem.F.plainAttrs_list PySem.F.slot_list_append PySem.F.type_list_append ab7 (pv 5) (b9 (pv 7) d4)))))) E6)))
   (bm1 (O1 (cb6 (bs6 (bh6 hr) (O2 L4 (by rfl) B.tuple (by rfl) (b9 (pv 4) d4)) (pv 2))) (o8 (bO2 (bh6 hr) (pv 2) (O2 L4 (by rfl) B.tuple (by rfl) (b9 (pv 4) d4)) (Z6 d4) rfl)) E6)
   (o8 (Y5 (aY7 PySem.F.plainAttrs_list PySem.F.slot_list_append PySem.F.type_list_append ab7 (bO6 (bh6 hr) (pv 2) (O2 L4 (by rfl) B.tuple (by rfl) (b9 (pv 4) d4)) (fun _ _=>rfl)) (b9 (O2 L4 (by rfl) B.tuple (by rfl) (b9 (pv 5) d4)) d4)))))))))
  (o8 (C3 (pv 2))))),?_⟩
 refine⟨_,rfl,n,rfl,by omega,fun l1 zs H1 s1 f1 g1 t1=>?_⟩
 have hz:=t1.len
 refine fun d fd=>?_
 have s2:=i8 (o:=.dT []) fd
 have fdH:H d=none:=s1.free fd
 have g2:=s2 _ _ g1
 have hpI:((2 ^ (l4 n).length:Nat):Int)<=1024:=by
  generalize 2 ^ (l4 n).length=q at hpw
  omega
 have hp0:(0:Int)<=((2 ^ (l4 n).length:Nat):Int):=aJ6 _
 have hp62:((2 ^ (l4 n).length:Nat):Int)<2 ^ 62:=Int.lt_of_le_of_lt hpI (by decide)
 refine⟨_,rfl,l1,_,rfl,.inl (SqL.of g2),_,_,rfl,rfl,⟨by omega,by omega,by decide⟩,((2 ^ (l4 n).length:Nat):Int),?_,Int.le_trans (by decide) hp0,hp62,?_⟩
 ·show [V.int (1*2 ^ ((zs.length:Int)).toNat)]=_
  rw[ap8,m7,hz,Int.natCast_pow];rfl
 rw[m7]
 refine Y2 (lo:=0) (n:=2 ^ (l4 n).length) (fun m σ H2=>∃ (kvs:List (List Key × V)) (e3 e4 e5 e6 e7:Option V),σ=[some (.int n),some (.ref l1),some (.ref d),e3,e4,e5,e6,e7]/\u7 H1 H2/\H2 d=some (.dT kvs)/\AW K H2 kvs n m/\∀ (key:List Int) (l:Addr),Q7 kvs (key.map Sum.inl)=some (.ref l)->H1 l=none)
  ⟨[],none,none,none,none,none,rfl,s2,c6,⟨fun key=>⟨fun h=>(by cases h),fun⟨m,hm,_⟩=>absurd hm (be0 _)⟩,fun key v e=>(by cases e),fun key key' l e=>(by cases e),(fun kv hk=>absurd hk C2),c9 _⟩,fun key l e=>(by cases e)⟩ ?_ ?_
 ·rintro m σ H2 hm ⟨kvs,e3,e4,e5,e6,e7,rfl,sa,gd,hK,hfr⟩
  have e0:((0:Int)+(m:Int))=(m:Int):=by omega
  rw[e0]
  refine x6 ?_
  have hkl:=hK.len
  have hk:=bG6 (k:=(n:Int)) (by omega) (by omega)
  refine⟨(by show 1<=j7;decide),fun l0 f0=>⟨_,rfl,l0,_,_,rfl,rfl,c6,hk.1,hk.2,by show 1*_<=j7;omega,fun lc fc=>?_⟩⟩
  rw[m7,rep0]
  have s0:=i8 (o:=.lst [.int 0]) f0
  have s3:=s0.trans (i8 (o:=.lst ((tal n []).map V.int)) fc)
  have nld:d≠lc:=r6 (s0 _ _ gd) fc
  have fc1:H1 lc=none:=(sa.trans s0).free fc
  have fc2:H2 lc=none:=s0.free fc
  have gl3:(upd (upd H2 l0 (.lst [.int 0])) lc (.lst ((tal n []).map V.int))) lc=some (.lst ((tal n (D3 ((l4 n).take 0) m)).map V.int)):=c6
  generalize upd (upd H2 l0 (.lst [.int 0])) lc (.lst ((tal n []).map V.int))=H3 at s3 gl3
  refine⟨by show 0<=j7;omega,fun lt ft=>?_⟩
  have s4:=i8 (o:=.lst []) ft
  have ft1:H1 lt=none:=(sa.trans s3).free ft
  have ft2:H2 lt=none:=s3.free ft
  have nlt:lc≠lt:=r6 gl3 ft
  have gl4:=s4 _ _ gl3
  have gt4:(upd H3 lt (.lst [])) lt=some (.lst []):=c6
  have s24:=s3.trans s4
  generalize upd H3 lt (.lst [])=H4 at s24 gl4 gt4
  refine⟨_,rfl,l1,rfl,⟨_,SqL.of ((sa.trans s24) _ _ g1)⟩,bb8 (K:=K) (a:=l1) (xs:=zs) (fun i σ H5=>∃ e6 e7 ys,σ=[some (.int n),some (.ref l1),some (.ref d),some (.int (m:Int)),some (.ref lc),some (.ref lt),e6,e7]/\u7 H2 H5/\H5 lc=some (.lst ((tal n (D3 ((l4 n).take i) m)).map V.int))/\H5 lt=some (.lst ys)/\A4 K H5 ys (D3 ((l4 n).take i) m)/\ys.length<=i)
   ⟨e6,e7,[],rfl,s24,gl4,gt4,.nil,c9 _⟩ (fun i σ H5 _ ⟨_,_,_,_,s,_⟩=>SqL.of ((sa.trans s) _ _ g1)) ?_ ?_⟩
  ·rintro i x t σ H5 hx ⟨e6,e7,ys,rfl,sc,gl5,gt5,ty5,ly5⟩ ht
   obtain⟨pa,pk,rfl,hk',hq⟩:=t1.get hx
   obtain⟨u,v,huv,hvn,rfl⟩:=ag4 (d8 hk')
   have st:=i8 (o:=.tup [.int i,.ref pa]) ht
   have sd:=sc.trans st
   have gl6:=st _ _ gl5
   have gt6:=st _ _ gt5
   have ty6:=st.tups ty5
   have q5:=(sa.trans sd).seqT hq
   have etk:=aL3 (l4 n) i m _ hk'
   have hil:i<zs.length:=(d9.mp hx).1
   refine⟨t,_,rfl,SqT.of c6,rfl,_,_,rfl,_,_,rfl,rfl,?_⟩
   generalize upd H5 t (.tup [.int i,.ref pa])=H6 at sd gl6 gt6 ty6 q5
   refine⟨_,rfl,_,rfl,_,_,rfl,rfl,by omega,_,_,rfl,rfl,rfl,_,rfl,?_⟩
   rw[cg7]
   have at0:atI (([(u:Int),(v:Int)]:List Int).map V.int) 0=some (.int u):=C1 (j:=0) rfl
   have at1:atI (([(u:Int),(v:Int)]:List Int).map V.int) 1=some (.int v):=C1 (j:=1) rfl
   by_cases hb:m / 2 ^ i % 2=1
   ·rw[decide_eq_true hb]
    rw[if_pos hb]at etk
    refine X1 ?_
    have t1':((tal n (D3 ((l4 n).take i) m)).map V.int)[u]?=some (.int (N6 (D3 ((l4 n).take i) m) u)):=by rw[o5,aa8 (by omega)];rfl
    have t2':(((tal n (D3 ((l4 n).take i) m)).map V.int).set u (.int ((N6 (D3 ((l4 n).take i) m) u:Int)+1)))[v]?=some (.int (N6 (D3 ((l4 n).take i) m) v)):=by
     rw[ae5 (by omega),o5,aa8 hvn];rfl
    have lt':((tal n (D3 ((l4 n).take i) m)).map V.int).length=n:=by rw[b8,P3]
    refine⟨_,rfl,_,rfl,pa,_,_,_,rfl,rfl,q5,at0,lc,_,_,_,rfl,rfl,SqL.of gl6,C1 t1',_,_,rfl,rfl,_,rfl,_,rfl,pa,_,_,_,rfl,rfl,q5,at0,lc,_,_,u,rfl,rfl,gl6,by rw[lt'];exact ae2 (by omega),?_⟩
    have q6:=q5.updL (zs:=((tal n (D3 ((l4 n).take i) m)).map V.int).set u (.int ((N6 (D3 ((l4 n).take i) m) u:Int)+1))) gl6
    refine⟨_,rfl,_,rfl,pa,_,_,_,rfl,rfl,q6,at1,lc,_,_,_,rfl,rfl,SqL.of c6,C1 t2',_,_,rfl,rfl,_,rfl,_,rfl,pa,_,_,_,rfl,rfl,q6,at1,lc,_,_,v,rfl,rfl,c6,by rw[K7,lt'];exact ae2 hvn,?_⟩
    rw[aP4]
    have el:(((tal n (D3 ((l4 n).take i) m)).map V.int).set u (.int ((N6 (D3 ((l4 n).take i) m) u:Int)+1))).set v (.int ((N6 (D3 ((l4 n).take i) m) v:Int)+1))=(tal n (D3 ((l4 n).take (i+1)) m)).map V.int:=by
     rw[etk,<- bk3 (n:=n) (i:=u) (j:=v) (by omega) hvn (by omega) (D3 ((l4 n).take i) m) _ _ rfl rfl,av7,av7]
    rw[el]
    have gt7:(upd H6 lc (.lst ((tal n (D3 ((l4 n).take (i+1)) m)).map V.int))) lt=some (.lst ys):=by rw[t4 (Ne.symm nlt)];exact gt6
    refine⟨_,rfl,.inl ⟨rfl,_,SqL.of gt7⟩,_,rfl,lt,ys,_,rfl,rfl,gt7,by omega,?_⟩
    refine⟨_,_,ys++[.ref pa],rfl,(sd.upd fc2).upd ft2,by rw[t4 nlt,c6],c6,?_,by rw[m6,bJ4];omega⟩
    have ty7:=A4.updL (zs:=ys++[.ref pa]) gt7 (A4.append (A4.updL (zs:=(tal n (D3 ((l4 n).take (i+1)) m)).map V.int) gl6 ty6) (A4.one (q5.updL gl6)))
    generalize upd (upd H6 lc _) lt _=H7 at ty7 ⊢
    rw[etk]
    exact ty7
   ·rw[decide_eq_false hb]
    rw[if_neg hb,B4]at etk
    refine P5 ⟨_,_,ys,rfl,sd,?_,gt6,?_,by omega⟩
    ·rw[etk];exact gl6
    ·rw[etk];exact ty6
  ·rintro σ H5 ⟨e6',e7',ys,rfl,sc,gl5,gt5,ty5,ly5⟩
   rw[k8 (by omega)]at gl5 ty5
   have gd5:=sc _ _ gd
   have K5:=hK.same sc
   have fd2:H1 d=none:=fd
   refine⟨fun σ Hn=>∃ kvs',σ=[some (.int n),some (.ref l1),some (.ref d),some (.int (m:Int)),some (.ref lc),some (.ref lt),e6',e7']/\u7 H1 Hn/\Hn d=some (.dT kvs')/\Hn lc=some (.lst ((tal n (D3 (l4 n) m)).map V.int))/\Hn lt=some (.lst ys)/\A4 K Hn ys (D3 (l4 n) m) /\
    AX K Hn kvs' n m/\(Q7 kvs' ((tal n (D3 (l4 n) m)).map Sum.inl)).isSome=true/\∀ (key:List Int) (l:Addr),Q7 kvs' (key.map Sum.inl)=some (.ref l)->H1 l=none,?_,?_⟩
   ·refine⟨_,rfl,lc,_,rfl,.inl ⟨SqL.of gl5,fun tu ftu=>?_⟩⟩
    have su:=i8 (o:=.tup ((tal n (D3 (l4 n) m)).map V.int)) ftu
    refine⟨_,rfl,d,_,rfl,aT4.t (k:=(tal n (D3 (l4 n) m)).map Sum.inl) (su _ _ gd5) (by rw[au1];exact c6),_,rfl,?_⟩
    cases hv:Q7 kvs ((tal n (D3 (l4 n) m)).map Sum.inl) with
    | some w =>
     refine P5 ⟨kvs,rfl,sa.trans (sc.trans su),su _ _ gd5,su _ _ gl5,su _ _ gt5,su.tups ty5,(K5.same su).toX (by rw[hv];rfl),by rw[hv];rfl,hfr⟩
    | none =>
     refine X1 ⟨by show 0<=j7;omega,fun nl fnl=>?_⟩
     have sn:=i8 (o:=.lst []) fnl
     refine⟨_,rfl,_,rfl,lc,_,rfl,.inl ⟨SqL.of ((su.trans sn) _ _ gl5),fun tv ftv=>?_⟩⟩
     have sv:=i8 (o:=.tup ((tal n (D3 (l4 n) m)).map V.int)) ftv
     have s5v:=su.trans (sn.trans sv)
     have gdv:=s5v _ _ gd5
     refine⟨d,_,rfl,bJ2.t (k:=(tal n (D3 (l4 n) m)).map Sum.inl) (v:=.ref nl) gdv (by rw[au1];exact c6) (by omega),?_⟩
     have gnl:(upd (upd (upd H5 tu (.tup ((tal n (D3 (l4 n) m)).map V.int))) nl (.lst [])) tv (.tup ((tal n (D3 (l4 n) m)).map V.int))) nl=some (.lst []):=sv _ _ c6
     have fr5:H5 nl=none:=su.free fnl
     have fr1:H1 nl=none:=(sa.trans sc).free fr5
     have hx:=(K5.same s5v).fresh hv gnl fun key w e z=>by
      obtain⟨l2,us,rfl,e2,_⟩:=K5.val key w e
      injection z with z
      rw[z,fr5]at e2
      cases e2
     have ne:∀ {b:Addr} {xs:List V},(upd (upd (upd H5 tu (.tup ((tal n (D3 (l4 n) m)).map V.int))) nl (.lst [])) tv (.tup ((tal n (D3 (l4 n) m)).map V.int))) b=some (.lst xs)->b≠d:=fun {b xs} e z=>by rw[z,gdv]at e;cases e
     generalize upd (upd (upd H5 tu (.tup ((tal n (D3 (l4 n) m)).map V.int))) nl (.lst [])) tv (.tup ((tal n (D3 (l4 n) m)).map V.int))=H6 at s5v gdv gnl hx ne
     refine⟨_,rfl,((sa.trans sc).trans s5v).upd fd2,c6,by rw[t4 (ne (s5v _ _ gl5))];exact s5v _ _ gl5,by rw[t4 (ne (s5v _ _ gt5))];exact s5v _ _ gt5,A4.updD gdv (s5v.tups ty5),⟨hx.has,fun key w e=>?_,hx.inj,hx.keys,hx.len⟩,by rw[ak6,if_pos rfl];rfl,fun key l e=>?_⟩
     ·obtain⟨l2,us,e1,e2,e3⟩:=hx.val key w e
      exact⟨l2,us,e1,by rw[t4 (ne e2)];exact e2,e3.updD gdv⟩
     ·rw[ak6]at e
      split at e
      ·cases e;exact fr1
      ·exact hfr key l e
   ·rintro σ' Hn ⟨kvs',rfl,sN,gdN,glN,gtN,tyN,X,hsome,hfr'⟩
    obtain⟨w,hw⟩:=o9.mp hsome
    obtain⟨l,us,rfl,gl,wl⟩:=X.val _ _ hw
    refine⟨_,rfl,_,rfl,lc,_,rfl,.inl ⟨SqL.of glN,fun tu ftu=>?_⟩⟩
    have su:=i8 (o:=.tup ((tal n (D3 (l4 n) m)).map V.int)) ftu
    refine⟨d,.ref l,rfl,by rw[<- hw];exact aT4.t (k:=(tal n (D3 (l4 n) m)).map Sum.inl) (su _ _ gdN) (by rw[au1];exact c6),?_⟩
    refine⟨.inl ⟨rfl,_,SqL.of (su _ _ gl)⟩,_,rfl,lt,_,rfl,.inl ⟨SqL.of (su _ _ gtN),fun tt ftt=>?_⟩⟩
    have st:=i8 (o:=.tup ys) ftt
    have sut:=su.trans st
    have hul:=wl.1
    have hwl:=bM1 n (tal n (D3 (l4 n) m)) m
    have gl2:=sut _ _ gl
    refine⟨l,us,_,rfl,rfl,gl2,by omega,?_⟩
    have hA:=(X.same sut).step (a:=tt) hw gl2 (wl.same sut) ⟨ys,SqT.of c6,sut.tups tyN⟩
    have hld:d≠l:=fun z=>by rw[<- z,gdN]at gl;cases gl
    refine⟨kvs',_,_,_,_,_,rfl,(sN.trans sut).upd (hfr' _ l hw),by rw[t4 hld];exact sut _ _ gdN,hA,hfr'⟩
 ·rintro σ H2 ⟨kvs,e3,e4,e5,e6,e7,rfl,sa,gd,hK,_⟩
  exact⟨_,rfl,q d kvs H2 (s1.trans sa) fdH gd hK⟩
end
end Web
namespace Web
open PySem L2
theorem ca7 (z:Int)(h:0<=z/\z<6):∃ v:Int,atI ([.int 1,.int (-1),.int 2,.int (-2),.int 7,.int (-7)]:List V) z=some (.int v):=by
 have:z=0\/z=1\/z=2\/z=3\/z=4\/z=5:=by omega
 rcases this with h | h | h | h | h | h
 ·rw[h];exact⟨_,C1 (j:=0) rfl⟩
 ·rw[h];exact⟨_,C1 (j:=1) rfl⟩
 ·rw[h];exact⟨_,C1 (j:=2) rfl⟩
 ·rw[h];exact⟨_,C1 (j:=3) rfl⟩
 ·rw[h];exact⟨_,C1 (j:=4) rfl⟩
 ·rw[h];exact⟨_,C1 (j:=5) rfl⟩
section
variable {K:W.Frag} {mg:Str->Option Value} {base:Heap}
def bV7:Sp:=fun vs H Q _=>∃ (c k b:Int),vs=[.int c,.int k,.int b]/\0<b/\∀ r:Int,0<=r->r<b->Q (.int r) H
theorem bl3:y9 ["cell","k","bound","prime","one"] ["cell","k","bound"] (q0 bA1):=.mk'
theorem cd1 (F:Fun K "_law_mixed" "_law_mixed" bA1 f fd):A0 P w K mg base CX0 1 f fd ["cell","k","bound"] bV7:=by
 refine F.ok bl3 (fun cdv A outer s H vs Q E hr h=>?_)
 obtain⟨c,k,b,rfl,hb,q⟩:=h
 refine⟨_,j0 (x5 (i:=3) bl3.nd rfl (Or.inl rfl) j6)
  (j0 (x5 (i:=4) bl3.nd rfl (Or.inl rfl) (u4 O3 (u4 ar1 (u4 L1 (u4 O3 (pv 0) (pv 3)) (u4 ar1 (u4 L1 (pv 1) j6) j6)) j6) (pv 3)))
  (j0 (x5 (i:=4) bl3.nd rfl (Or.inl rfl) (u4 O3 (u4 ar1 (pv 4) (pv 4)) (pv 3)))
  (o8 (C3 (u4 O3 (u4 Y6 (u4 O3 (u4 ar1 (u4 L1 (pv 4) (pv 1)) j6) (pv 3)) j6) (pv 2)))))),?_⟩
 have pp:(0:Int)<2305843009213693951:=by decide
 refine⟨_,rfl,_,rfl,_,_,rfl,rfl,pp,_,rfl,_,_,rfl,rfl,_,_,rfl,rfl,.inr ⟨by decide,by decide⟩,_,_,rfl,rfl,_,_,rfl,rfl,.inr ⟨by decide,by decide⟩,_,rfl,_,_,rfl,rfl,pp,?_⟩
 generalize ho:((c % 2305843009213693951+(k+3)*1000000007)*1152921504606846883 % 2305843009213693951:Int)=o
 have h1:0<=o:=by rw[<- ho];exact Q6 _ (by decide)
 have h2:o<2305843009213693951:=by rw[<- ho];exact L8 _ pp
 refine⟨_,rfl,_,rfl,_,_,rfl,rfl,.inl ⟨by omega,by omega⟩,_,rfl,_,_,rfl,rfl,pp,?_⟩
 refine⟨_,rfl,_,rfl,_,_,rfl,rfl,_,_,rfl,rfl,.inr ⟨by decide,by decide⟩,_,rfl,_,_,rfl,rfl,pp,_,_,rfl,rfl,⟨by decide,by decide⟩,_,rfl,_,_,rfl,rfl,hb,?_⟩
 exact q _ (Q6 _ (by omega)) (L8 _ hb)
def bV5 (K:W.Frag):Sp:=fun vs H Q _=>∃ (a:Addr) (ns:List Int) (m:Nat),vs=[.ref a,.int m]/\SqL K H a (ns.map V.int)/\1<=m/\m<=24/\∀ (l:Addr) (ts:List Int) (H':Hp),1<=ts.length->ts.length<=m->u7 H H'->H l=none->H' l=some (.lst (ts.map V.int))->Q (.ref l) H'
theorem aj0:y9 ["script","most","base","places","way","cell","tally","rest","place","k","pair","far"] ["script","most"] (q0 bz8):=.mk'
def cq5 (H:Hp)(a l:Addr)(m b n y c:Int)(k:Nat)(σ:St)(H2:Hp):Prop:=
 ∃ (ts:List Int) (e7 e8 e9 e10 e11:Option V),σ=[some (.ref a),some (.int m),some (.int b),some (.int n),some (.int y),some (.int c),some (.ref l),e7,e8,e9,e10,e11]/\u7 H H2/\H2 l=some (.lst (ts.map V.int))/\ts.length=k
set_option maxHeartbeats 1000000 in
theorem cc8 {fC fM fP:Addr} {fdM fdP:FuncData} (F:Fun K "_law_tally" "_law_tally" bz8 f fd) (B:Bn mg) (FC:Fq K mg "_law_cell_at" aL9 fC fdC ["script","k"])
  (FM:Fq K mg "_law_mixed" bA1 fM fdM ["cell","k","bound"]) (FP:Fq K mg "_law_pairs" aw8 fP fdP ["places"]) :
  A0 P w K mg base CX0 2 f fd ["script","most"] (bV5 K):=by
 have GC:A0 P w K mg base CX0 1 fC fdC ["script","k"] (bf4 K):=bm9 FC.F B
 have GM:A0 P w K mg base CX0 1 fM fdM ["cell","k","bound"] bV7:=cd1 FM.F
 have GP:A0 P w K mg base CX0 1 fP fdP ["places"] (as5 K):=aZ0 FP.F B
 refine F.ok aj0 (fun cdv A outer s H vs Q E hr h=>?_)
 obtain⟨a,ns,m,rfl,hS,hm1,hm2,q⟩:=h
 have hsl:=N4
 refine⟨_,j0 (x5 (i:=2) aj0.nd rfl (Or.inl rfl) (u4 O3 (C4 GC hr (by rfl) FC G6 (b9 (pv 0) (b9 j6 d4))) (u4 bg7 j6 j6)))
  (j0 (x5 (i:=3) aj0.nd rfl (Or.inl rfl) (u4 L1 j6 (u4 O3 (pv 2) (pv 1))))
  (j0 (x5 (i:=4) aj0.nd rfl (Or.inl rfl) (u4 O3 (u4 Y6 (pv 2) (pv 1)) j6))
  (j0 (x5 (i:=5) aj0.nd rfl (Or.inl rfl) (C4 GC hr (by rfl) FC G6 (b9 (pv 0) (b9 j6 d4))))
  (j0 (x5 (i:=6) aj0.nd rfl (Or.inl rfl) (u4 bg6 (Z6 (b9 j6 d4)) (pv 3)))
  (bm1 (O1 (C0 ap3 (pv 4) j6 (E9 _))
    (j0 (x5 (i:=7) aj0.nd rfl (Or.inl rfl) (pv 5))
    (o8 (ac3 PassesOwn.never rfl (S7 rfl B.range (b9 (pv 3) d4)) (A2 (i := 8) aj0.nd rfl (Or.inl rfl))
     (j0 (al7 (u4 O3 (pv 7) (u4 L1 (pv 3) (pv 4))) (al8 (pv 6) (pv 8) set_list))
     (o8 (x5 (i:=7) aj0.nd rfl (Or.inl rfl) (u4 Y6 (pv 7) (u4 L1 (pv 3) (pv 4)))))))))
    (o8 (ac3 PassesOwn.never rfl (aC0 (by rfl) B.enum (b9 (C4 GP hr (by rfl) FP G6 (b9 (pv 3) d4)) d4))
     (bg4 rfl (Q0 (A2 (i:=9) aj0.nd rfl (Or.inl rfl)) (Q0 (A2 (i:=10) aj0.nd rfl (Or.inl rfl)) an5)))
     (o8 (O1 (C0 ap3 (C4 GM hr (by rfl) FM G6 (b9 (pv 5) (b9 (pv 9) (b9 j6 d4)))) (u4 O3 (u4 Y6 (u4 Y6 (pv 2) (pv 1)) j6) j6) (E9 _))
      (j0 (al7 (u4 L1 (C7 U1 (pv 6) (C7 C5 (pv 10) j6 (fun _ _=>rfl)) (fun _ _=>rfl)) j6) (al8 (pv 6) (C7 C5 (pv 10) j6 (fun _ _=>rfl)) set_list))
      (o8 (al7 (u4 L1 (C7 U1 (pv 6) (C7 C5 (pv 10) j6 (fun _ _=>rfl)) (fun _ _=>rfl)) j6) (al8 (pv 6) (C7 C5 (pv 10) j6 (fun _ _=>rfl)) set_list)))) E6)))))
  (j0 (O1 (C0 aY8 (pv 4) j6 (E9 _))
    (j0 (x5 (i:=11) aj0.nd rfl (Or.inl rfl) (u4 O3 (C4 GC hr (by rfl) FC G6 (b9 (pv 0) (b9 j6 d4))) (u4 bg7 j6 j6)))
    (o8 (al7 (u4 L1 (C7 U1 (pv 6) (u4 O3 (pv 11) (pv 3)) (fun _ _ => rfl)) (C7 U1 (Z6 (b9 j6 (b9 (aF3 aq6 j6) (b9 j6 (b9 (aF3 aq6 j6) (b9 j6 (b9 (aF3 aq6 j6) d4))))))) (u4 O3 (u4 Y6 (pv 11) j6) j6) (fun _ _ => rfl)))
     (al8 (pv 6) (u4 O3 (pv 11) (pv 3)) set_list)))) E6)
  (o8 (C3 (pv 6))))))))),?_⟩
 refine⟨_,rfl,a,ns,0,rfl,hS,fun c0=>?_⟩
 refine⟨_,_,rfl,rfl,⟨by decide,by decide,by decide⟩,_,_,rfl,rfl,p40,?_⟩
 refine ag5 fun b _=>?_
 have hm0:(0:Int)<(m:Int):=by omega
 have hb1:0<=b % (m:Int):=Q6 _ (by omega)
 have hb2:b % (m:Int)<m:=L8 _ hm0
 obtain⟨n,hn⟩:∃ n:Nat,1+b % (m:Int)=(n:Int):=⟨(1+b % (m:Int)).toNat,by omega⟩
 refine⟨_,rfl,_,rfl,_,_,rfl,rfl,hm0,_,_,rfl,rfl,?_⟩
 refine bG2 (congrArg V.int hn) ?_
 refine⟨_,rfl,_,rfl,_,_,rfl,rfl,⟨hm0,by omega⟩,_,_,rfl,rfl,(by show (0:Int)<4;decide),?_⟩
 refine ag5 fun y hy=>?_
 have hy1:0<=y:=by rw[hy];exact Q6 _ (by decide)
 have hy2:y<4:=by rw[hy];exact L8 _ (by decide)
 clear hy
 refine⟨_,rfl,a,ns,1,rfl,hS,fun c=>?_⟩
 have hk:=bG6 (k:=(n:Int)) (by omega) (by omega)
 refine⟨(by show 1<=j7;decide),fun l0 f0=>⟨_,rfl,l0,_,_,rfl,rfl,c6,hk.1,hk.2,by show 1*_<=j7;omega,fun l hl=>?_⟩⟩
 have s0:=i8 (o:=.lst [.int 0]) f0
 have hlH:H l=none:=s0.free hl
 rw[m7,bW5]
 have sA:=s0.trans (i8 (o:=.lst ((u5 n (0:Int)).map V.int)) hl)
 have gA:(upd (upd H l0 (.lst [.int 0])) l (.lst ((u5 n (0:Int)).map V.int))) l=some (.lst ((u5 n (0:Int)).map V.int)):=c6
 generalize upd (upd H l0 (.lst [.int 0])) l (.lst ((u5 n (0:Int)).map V.int))=HA at sA gA
 refine⟨cq5 H a l m b n y c n,?_,?_⟩
 ·refine⟨_,rfl,_,_,rfl,rfl,_,rfl,?_⟩
  refine bb3 (fun h=>?_) (fun h=>?_)
  ·-- by digits
   refine⟨_,rfl,?_⟩
   refine⟨_,rfl,n,rfl,by omega,by omega,Y2 (lo:=0) (n:=n) (fun i σ H1=>∃ (ts:List Int) (rest:Int) (e8:Option V),σ=[some (.ref a),some (.int m),some (.int b),some (.int n),some (.int y),some (.int c),some (.ref l),some (.int rest),e8,none,none,none]/\u7 H H1/\H1 l=some (.lst (ts.map V.int))/\ts.length=n)
    ⟨u5 n 0,c,none,rfl,sA,gA,av5⟩ ?_ ?_⟩
   ·rintro i σ H1 hi ⟨ts,rest,e8,rfl,s1,g1,hl1⟩
    have e0:((0:Int)+(i:Int))=(i:Int):=by omega
    rw[e0]
    have hp:(0:Int)<(n:Int)+y:=by omega
    refine x6 ?_
    refine⟨_,rfl,_,rfl,_,rfl,_,_,rfl,rfl,_,_,rfl,rfl,hp,_,rfl,_,rfl,l,_,_,i,rfl,rfl,g1,ae2 (by rw[b8];omega),?_⟩
    rw[ad6]
    refine⟨_,rfl,_,rfl,_,rfl,_,_,rfl,rfl,_,_,rfl,rfl,⟨hp,by omega⟩,?_⟩
    exact⟨_,_,_,rfl,s1.upd hlH,c6,by rw[K7];exact hl1⟩
   ·rintro σ H1 ⟨ts,rest,e8,rfl,s1,g1,hl1⟩
    exact⟨ts,_,_,_,_,_,rfl,s1,g1,hl1⟩
  ·-- by ties
   refine⟨_,rfl,n,rfl,by omega,fun l1 zs1 H1 s1 f1 h1 t1=>⟨l1,rfl,⟨_,SqL.of h1⟩,?_⟩⟩
   have n0:l≠l1:=r6 gA f1
   have hz1:=t1.len
   have hpl:=ab8 n (by omega)
   refine bb8 (K:=K) (a:=l1) (xs:=zs1) (fun i σ H2=>∃ (ts:List Int) (e9 e10:Option V),σ=[some (.ref a),some (.int m),some (.int b),some (.int n),some (.int y),some (.int c),some (.ref l),none,none,e9,e10,none]/\u7 H H2/\H2 l=some (.lst (ts.map V.int))/\ts.length=n/\H2 l1=some (.lst zs1)/\A4 K H2 zs1 (l4 n))
    ⟨u5 n 0,none,none,rfl,sA.trans s1,s1 _ _ gA,av5,h1,t1⟩ (fun i σ H2 _ ⟨_,_,_,_,_,_,_,h,_⟩=>SqL.of h) ?_ ?_
   ·rintro i x t σ H2 hx ⟨ts,e9,e10,rfl,s2,g2,hl2,h2,t2⟩ ht
    obtain⟨pa,pk,rfl,hk',hq⟩:=t2.get hx
    obtain⟨u,v,huv,hvn,rfl⟩:=ag4 (d8 hk')
    have s3:=i8 (o:=.tup [.int i,.ref pa]) ht
    have g3:=s3 _ _ g2
    have h3:=s3 _ _ h2
    have t3:=s3.tups t2
    have q3:=s3.seqT hq
    have s03:=s2.trans s3
    refine⟨t,_,rfl,SqT.of c6,rfl,_,_,rfl,_,_,rfl,rfl,?_⟩
    generalize upd H2 t (.tup [.int i,.ref pa])=H3 at g3 h3 t3 q3 s03
    clear s3 ht s2 g2 h2 t2 hq hx
    refine⟨_,rfl,_,rfl,c,(i:Int),5,rfl,by decide,fun r _ _=>⟨_,rfl,_,rfl,_,_,rfl,rfl,⟨hm0,by omega⟩,_,_,rfl,rfl,⟨by decide,by decide⟩,_,_,rfl,rfl,(by show (0:Int)<6;decide),_,_,rfl,rfl,_,rfl,?_⟩⟩
    have at0:atI (([(u:Int),(v:Int)]:List Int).map V.int) 0=some (.int u):=C1 (j:=0) rfl
    have at1:atI (([(u:Int),(v:Int)]:List Int).map V.int) 1=some (.int v):=C1 (j:=1) rfl
    refine bb3 (fun h=>?_) (fun h=>?_)
    ·have hu:u<ts.length:=by omega
     have hv:v<ts.length:=by omega
     refine⟨_,rfl,_,rfl,pa,_,_,_,rfl,rfl,q3,at0,l,_,_,_,rfl,rfl,SqL.of g3,ar4 hu,_,_,rfl,rfl,_,rfl,_,rfl,pa,_,_,_,rfl,rfl,q3,at0,l,_,_,u,rfl,rfl,g3,ae2 (by rw[b8];omega),?_⟩
     rw[ad6]
     have q4:=q3.updL (zs:=((ts.set u (ts.getD u 0+1)).map V.int)) g3
     have hv2:v<(ts.set u (ts.getD u 0+1)).length:=by rw[K7];omega
     refine⟨_,rfl,_,rfl,pa,_,_,_,rfl,rfl,q4,at1,l,_,_,_,rfl,rfl,SqL.of c6,ar4 hv2,_,_,rfl,rfl,_,rfl,_,rfl,pa,_,_,_,rfl,rfl,q4,at1,l,_,_,v,rfl,rfl,c6,ae2 (by rw[b8];omega),?_⟩
     rw[ad6,aP4]
     exact⟨_,_,_,rfl,s03.upd hlH,c6,by rw[K7,K7];exact hl2,by rw[t4 n0.symm];exact h3,A4.updL g3 t3⟩
    ·exact⟨_,_,_,rfl,s03,g3,hl2,h3,t3⟩
   ·rintro σ H2 ⟨ts,e9,e10,rfl,s2,g2,hl2,h2,t2⟩
    exact⟨ts,_,_,_,_,_,rfl,s2,g2,hl2⟩
 ·rintro σ' H' ⟨ts,e7,e8,e9,e10,e11,rfl,s1,g1,hl1⟩
  refine⟨_,rfl,rfl,_,rfl,?_⟩
  refine bb3 (fun h=>?_) (fun h=>?_)
  ·refine⟨_,rfl,a,ns,2,rfl,s1.seq hS,fun c2=>?_⟩
   refine⟨_,_,rfl,rfl,⟨by decide,by decide,by decide⟩,_,_,rfl,rfl,p40,?_⟩
   refine ag5 fun fr _=>?_
   have hn0:(0:Int)<(n:Int):=by omega
   obtain⟨j,hj,hjn⟩:∃ j:Nat,fr % (n:Int)=(j:Int)/\j<n:=by
    have h1:=Q6 fr (show (n:Int)≠0 by omega)
    have h2:=L8 fr hn0
    exact⟨(fr % (n:Int)).toNat,by omega,by omega⟩
   obtain⟨v,hv⟩:=ca7 (fr / 24 % 6) ⟨Q6 _ (by decide),L8 _ (by decide)⟩
   refine⟨_,rfl,_,rfl,_,rfl,_,_,rfl,rfl,hn0,l,_,_,_,rfl,rfl,SqL.of g1,by rw[hj];exact ar4 (by omega),?_⟩
   refine⟨_,rfl,_,rfl,_,rfl,(by show 6<=j7;decide),fun l6 f6=>?_⟩
   have s6:=i8 (o:=.lst [.int 1,.int (-1),.int 2,.int (-2),.int 7,.int (-7)]) f6
   refine⟨_,rfl,_,_,rfl,rfl,⟨by decide,by decide⟩,_,_,rfl,rfl,(by show (0:Int)<6;decide),l6,_,_,_,rfl,rfl,SqL.of c6,hv,_,_,rfl,rfl,?_⟩
   refine⟨_,rfl,_,rfl,_,rfl,_,_,rfl,rfl,hn0,l,_,_,j,rfl,rfl,s6 _ _ g1,by rw[hj];exact ae2 (by rw[b8];omega),?_⟩
   rw[ad6]
   exact⟨_,rfl,q l _ _ (by rw[K7];omega) (by rw[K7];omega) ((s1.trans s6).upd hlH) hlH c6⟩
  ·exact⟨_,rfl,q l ts H' (by omega) (by omega) s1 hlH g1⟩
end
theorem bQ6 {a b c d:Int}(h:Tim.K4 [c,d] [a,b]=false)(hne:([a,b]:List Int)≠[c,d]):HT.lexLt [a,b] [c,d]=true:=by
 unfold Tim.K4 Tim.K4 at h
 rw[HT.ai3]
 by_cases e1:c=a
 ·rw[if_pos e1]at h
  rw[if_pos e1.symm,HT.ai3]
  by_cases e2:d=b
  ·exact absurd (by rw[e1,e2]) hne
  ·rw[if_neg e2]at h
   rw[if_neg (Ne.symm e2)]
   have:=of_decide_eq_false h
   exact decide_eq_true (by omega)
 ·rw[if_neg e1]at h
  rw[if_neg (Ne.symm e1)]
  have:=of_decide_eq_false h
  exact decide_eq_true (by omega)
theorem bt5 {c d:Int}(h:0<=c):HT.lexLt [-1,-1] [c,d]=true:=by
 rw[HT.ai3,if_neg (by omega)]
 exact decide_eq_true (by omega)
def aG6 (ks:List (List Int)):Nat->List Int
 | 0=>[-1,-1]
 | i+1=>ks.getD i []
theorem bR0 (T:Tld n ks)(h:ks[i]?=some k):HT.lexLt (aG6 ks i) k=true/\(aG6 ks i).length=2:=by
 obtain⟨u,v,_,_,rfl⟩:=T.ups k (d8 h)
 cases i with
 | zero=>exact⟨bt5 (by omega),rfl⟩
 | succ i =>
  have hil:i+1<ks.length:=(d9.mp h).1
  have e1:ks[i]?=some ks[i]:=c7 (by omega)
  have el:aG6 ks (i+1)=ks[i]:=by show ks.getD i []=_;rw[c8,e1];rfl
  have e2:ks[i+1]=[(u:Int),(v:Int)]:=by
   have:=c7 hil
   rw[h]at this
   exact(Option.some.inj this).symm
  have p1:=t7.mp T.srt i (i+1) (by omega) hil (by omega)
  have p2:=t7.mp T.nd i (i+1) (by omega) hil (by omega)
  obtain⟨a,b,_,_,e3⟩:=T.ups ks[i] (W9 _)
  rw[el]
  rw[e2]at p1 p2
  rw[e3]at p1 p2 ⊢
  exact⟨bQ6 p1 p2,rfl⟩
section
variable {K:W.Frag} {mg:Str->Option Value} {base:Heap}
def by2 (K:W.Frag):Sp:=fun vs H Q _=>∃ (r:Addr) (n:Nat) (ks:List (List Int)),vs=[.ref r,.int n]/\au9 K H r n ks/\Tld n ks/\n<=24/\∀ (l:Addr) (H':Hp),u7 H H'->H l=none->H' l=some (.lst ((tal n ks).map V.int))->Q (.ref l) H'
theorem aE4:y9 ["found","places","counts","last","tie"] ["found","places"] (q0 aX4):=.mk'
set_option maxHeartbeats 2000000 in
theorem bP9 (F:Fun K "_law_counts" "_law_counts" aX4 f fd) (B:Bn mg):A0 P w K mg base CX0 1 f fd ["found","places"] (by2 K):=by
 refine F.ok aE4 (fun cdv A outer s H vs Q E hr h=>?_)
 obtain⟨r,n,ks,rfl,⟨t,zs,gr,gt,tz⟩,T,h11,q⟩:=h
 have hsl:=N4
 have hun:=hr.units
 have hu8:=ci1 (S5 _ 64) hr.units
 have a0:atI ([.int n,.ref t]:List V) 0=some (.int n):=C1 (j:=0) rfl
 have a1:atI ([.int n,.ref t]:List V) 1=some (.ref t):=C1 (j:=1) rfl
 refine⟨_,j0 (O1 (PW.pt (af9 (Y1 (ac2 (p7 ab2 (by rfl) B.isin (by rfl) (b9 (pv 0) (b9 (an6 (v:=.ty "tuple") (by rfl) B.tuple (by rfl) rfl) d4)))))
    (af9 (C0 az9 (p7 A5 (by rfl) B.len PySem.boot_len (b9 (pv 0) d4)) j6 (E9 _))
    (af9 (C0 az9 (C7 C5 (pv 0) j6 (fun _ _=>rfl)) (pv 1) (E9 _))
    (ax3 (Y1 (ac2 (p7 ab2 (by rfl) B.isin (by rfl) (b9 (C7 C5 (pv 0) j6 (fun _ _=>rfl)) (b9 (an6 (v:=.ty "tuple") (by rfl) B.tuple (by rfl) rfl) d4)))))))))) N0 E6)
  (j0 (x5 (i:=2) aE4.nd rfl (Or.inl rfl) (u4 bg6 (Z6 (b9 j6 d4)) (pv 1)))
  (j0 (x5 (i:=3) aE4.nd rfl (Or.inl rfl) (R9 (b9 (aF3 aq6 j6) (b9 (aF3 aq6 j6) d4))))
  (j0 (ac3 PassesOwn.never rfl (aR0 (C7 C5 (pv 0) j6 (fun _ _ => rfl))) (A2 (i := 4) aE4.nd rfl (Or.inl rfl))
   (j0 (O1 (PW.pt (af9 (Y1 (ac2 (p7 ab2 (by rfl) B.isin (by rfl) (b9 (pv 4) (b9 (an6 (v:=.ty "tuple") (by rfl) B.tuple (by rfl) rfl) d4)))))
     (af9 (C0 az9 (p7 A5 (by rfl) B.len PySem.boot_len (b9 (pv 4) d4)) j6 (E9 _))
     (ax3 (C0 (cc2 hu8) (pv 4) (pv 3) (E9 _)))))) N0 E6)
   (j0 (O1 (PW.pt (af9 (C0 ap3 (C7 C5 (pv 4) j6 (fun _ _=>rfl)) j6 (E9 _))
     (af9 (C0 bC1 (C7 C5 (pv 4) j6 (fun _ _=>rfl)) (C7 C5 (pv 4) j6 (fun _ _=>rfl)) (E9 _))
     (ax3 (C0 bC1 (C7 C5 (pv 4) j6 (fun _ _=>rfl)) (pv 1) (E9 _)))))) N0 E6)
   (j0 (al7 (u4 L1 (C7 U1 (pv 2) (C7 C5 (pv 4) j6 (fun _ _=>rfl)) (fun _ _=>rfl)) j6) (al8 (pv 2) (C7 C5 (pv 4) j6 (fun _ _=>rfl)) set_list))
   (j0 (al7 (u4 L1 (C7 U1 (pv 2) (C7 C5 (pv 4) j6 (fun _ _=>rfl)) (fun _ _=>rfl)) j6) (al8 (pv 2) (C7 C5 (pv 4) j6 (fun _ _=>rfl)) set_list))
   (o8 (x5 (i:=3) aE4.nd rfl (Or.inl rfl) (pv 4))))))))
  (o8 (C3 (pv 2)))))),?_⟩
 refine⟨_,rfl,r,_,_,true,rfl,gr,rfl,_,rfl,P5 ?_⟩
 refine⟨_,rfl,r,_,rfl,.inr (gr),rfl,_,rfl,aA0 rfl ?_⟩
 refine⟨_,rfl,r,_,_,_,rfl,rfl,gr,a0,_,rfl,rfl,_,rfl,aA0 rfl ?_⟩
 refine⟨_,rfl,r,_,_,_,rfl,rfl,gr,a1,t,_,_,true,rfl,gt,rfl,_,rfl,P5 ?_⟩
 have hk:=bG6 (k:=(n:Int)) (by omega) (by omega)
 refine⟨(by show 1<=j7;decide),fun l0 f0=>⟨_,rfl,l0,_,_,rfl,rfl,c6,hk.1,hk.2,by show 1*_<=j7;omega,fun lc fc=>?_⟩⟩
 rw[m7,rep0]
 have s0:=i8 (o:=.lst [.int 0]) f0
 have s1:=s0.trans (i8 (o:=.lst ((tal n []).map V.int)) fc)
 have gc1:(upd (upd H l0 (.lst [.int 0])) lc (.lst ((tal n []).map V.int))) lc=some (.lst ((tal n (ks.take 0)).map V.int)):=c6
 have fcH:H lc=none:=s0.free fc
 generalize upd (upd H l0 (.lst [.int 0])) lc (.lst ((tal n []).map V.int))=H1 at s1 gc1 ⊢
 refine⟨_,rfl,_,rfl,(by show 2<=j7;omega),fun lp flp=>?_⟩
 have s2:=i8 (o:=.tup [.int (-1),.int (-1)]) flp
 have gl2:(upd H1 lp (.tup [.int (-1),.int (-1)])) lp=some (.tup ((aG6 ks 0).map V.int)):=c6
 have gc2:=s2 _ _ gc1
 have s12:=s1.trans s2
 generalize upd H1 lp (.tup [.int (-1),.int (-1)])=H2 at s12 gl2 gc2 ⊢
 have hzl:=tz.len
 refine⟨_,rfl,r,_,_,_,rfl,rfl,s12.seqT gr,a1,t,rfl,⟨_,s12.seqT gt⟩,bS6 (K:=K) (a:=t) (xs:=zs) (fun i σ Ha=>∃ (lp:Addr) (e4:Option V),σ=[some (.ref r),some (.int (n:Int)),some (.ref lc),some (.ref lp),e4]/\u7 H Ha/\Ha lc=some (.lst ((tal n (ks.take i)).map V.int))/\(i<ks.length->SqT K Ha lp ((aG6 ks i).map V.int)))
  ⟨lp,none,rfl,s12,gc2,fun _=>SqT.of gl2⟩ (fun i σ Ha _ ⟨_,_,_,s,_⟩=>s.seqT gt) ?_ ?_⟩
 ·rintro i x σ Ha hx ⟨lp,e4,rfl,sa,gca,gla⟩
  obtain⟨pa,pk,rfl,hk',hq⟩:=tz.get hx
  have hil:i<ks.length:=(d9.mp hk').1
  obtain⟨hlt,hl2⟩:=bR0 T hk'
  have gl3:=gla hil
  obtain⟨u,v,huv,hvn,rfl⟩:=T.ups pk (d8 hk')
  have at0:atI (([(u:Int),(v:Int)]:List Int).map V.int) 0=some (.int u):=C1 (j:=0) rfl
  have at1:atI (([(u:Int),(v:Int)]:List Int).map V.int) 1=some (.int v):=C1 (j:=1) rfl
  have q5:=sa.seqT hq
  refine x6 ?_
  refine⟨_,rfl,pa,_,_,true,rfl,q5,rfl,_,rfl,P5 ?_⟩
  refine⟨_,rfl,pa,_,rfl,.inr q5,rfl,_,rfl,aA0 rfl ?_⟩
  refine⟨_,rfl,_,rfl,pa,lp,[(u:Int),(v:Int)],aG6 ks i,rfl,rfl,q5,gl3,hl2.symm,_,rfl,?_⟩
  rw[hlt]
  refine P5 ?_
  refine⟨_,rfl,pa,_,_,_,rfl,rfl,q5,at0,_,_,rfl,rfl,_,rfl,?_⟩
  rw[decide_eq_false (show ¬ ((u:Int)<0) by omega)]
  refine P5 ?_
  refine⟨_,rfl,pa,_,_,_,rfl,rfl,q5,at0,_,rfl,pa,_,_,_,rfl,rfl,q5,at1,_,_,rfl,rfl,_,rfl,?_⟩
  rw[decide_eq_false (show ¬ ((v:Int)<=u) by omega)]
  refine P5 ?_
  refine⟨_,rfl,pa,_,_,_,rfl,rfl,q5,at1,_,rfl,_,_,rfl,rfl,_,rfl,?_⟩
  rw[decide_eq_false (show ¬ ((n:Int)<=v) by omega)]
  refine P5 ?_
  have etk:ks.take (i+1)=ks.take i++[[(u:Int),(v:Int)]]:=by rw[A7,hk'];rfl
  have t1':((tal n (ks.take i)).map V.int)[u]?=some (.int (N6 (ks.take i) u)):=by rw[o5,aa8 (by omega)];rfl
  have t2':(((tal n (ks.take i)).map V.int).set u (.int ((N6 (ks.take i) u:Int)+1)))[v]?=some (.int (N6 (ks.take i) v)):=by
   rw[ae5 (by omega),o5,aa8 hvn];rfl
  have lt':((tal n (ks.take i)).map V.int).length=n:=by rw[b8,P3]
  refine⟨_,rfl,_,rfl,pa,_,_,_,rfl,rfl,q5,at0,lc,_,_,_,rfl,rfl,SqL.of gca,C1 t1',_,_,rfl,rfl,_,rfl,_,rfl,pa,_,_,_,rfl,rfl,q5,at0,lc,_,_,u,rfl,rfl,gca,by rw[lt'];exact ae2 (by omega),?_⟩
  have q6:=q5.updL (zs:=((tal n (ks.take i)).map V.int).set u (.int ((N6 (ks.take i) u:Int)+1))) gca
  refine⟨_,rfl,_,rfl,pa,_,_,_,rfl,rfl,q6,at1,lc,_,_,_,rfl,rfl,SqL.of c6,C1 t2',_,_,rfl,rfl,_,rfl,_,rfl,pa,_,_,_,rfl,rfl,q6,at1,lc,_,_,v,rfl,rfl,c6,by rw[K7,lt'];exact ae2 hvn,?_⟩
  rw[aP4]
  have el:(((tal n (ks.take i)).map V.int).set u (.int ((N6 (ks.take i) u:Int)+1))).set v (.int ((N6 (ks.take i) v:Int)+1))=(tal n (ks.take (i+1))).map V.int:=by
   rw[etk,<- bk3 (n:=n) (i:=u) (j:=v) (by omega) hvn (by omega) (ks.take i) _ _ rfl rfl,av7,av7]
  rw[el]
  refine⟨_,rfl,pa,_,rfl,sa.upd fcH,c6,fun _=>?_⟩
  have e2:aG6 ks (i+1)=[(u:Int),(v:Int)]:=by show ks.getD i []=_;rw[c8,hk'];rfl
  rw[e2]
  exact q5.updL gca
 ·rintro σ Ha ⟨lp,e4,rfl,sa,gca,_⟩
  rw[k8 (by omega)]at gca
  exact⟨_,rfl,q lc Ha sa fcH gca⟩
end
def aj3 (ks:List (List Int))(ls:List (List Int)):List (List Int):=ls.filter fun k=>!decide (k∈ks)
theorem bt8 (ks a b:List (List Int)):aj3 ks (a++b)=aj3 ks a++aj3 ks b:=L5 ..
theorem bE4 (ks a:List (List Int)):(aj3 ks a).length<=a.length:=F5 ..
seal L2.PE L2.PA L2.PS L2.PSs L2.PT
section
variable {K:W.Frag} {mg:Str->Option Value} {base:Heap}
theorem aQ5:y9 ["places","pairs","one"] ["places"] (q0 bz9):=.mk'
theorem bQ1 (F:Fun K "all_pairs" "all_pairs" bz9 f fd) (B:Bn mg):A0 P w K mg base CX0 1 f fd ["places"] (as5 K):=by
 refine F.ok aQ5 (fun cdv A outer s H vs Q E hr h=>?_)
 obtain⟨n,rfl,hn,q⟩:=h
 have nd2:(["other","one"]:List Str).Nodup:=by decide +kernel
 refine⟨_,j0 (x5 (i:=1) aQ5.nd rfl (Or.inl rfl) (Z6 d4))
  (j0 (ac3 PassesOwn.never rfl (S7 rfl B.range (b9 (pv 0) d4)) (A2 (i := 2) aQ5.nd rfl (Or.inr rfl))
   (o8 (bA9 (i:=1) aQ5.nd rfl (Or.inl rfl) (L0 (N':=["other","one"]) (lk:=[none,some 2]) rfl (ax5 rfl B.range (b9 (u4 L1 (pv 2) j6) (b9 (pv 0) d4))) (by rfl) rfl (by decide +kernel) (by exact⟨rfl,trivial⟩) (by rfl) (by exact LkL.ok ⟨⟨rfl,Or.inl rfl,rfl,Or.inl rfl⟩,trivial⟩)
     (fun _ _ _=>A2 (i:=0) nd2 rfl (Or.inl rfl)) (fun _ _ _=>P4) (fun _ _ _=>R9 (b9 (pv 1) (b9 (pv 0) d4)))) bF2)))
  (o8 (C3 (pv 1)))),?_⟩
 have hlen:=ab8 n hn
 have hsl:=N4
 refine⟨by show 0<=j7;omega,fun l hl=>?_⟩
 refine⟨_,rfl,n,rfl,by omega,by omega,Y2 (lo:=0) (n:=n) (fun i σ H1=>∃ a zs,σ=[some (.int n),some (.ref l),a]/\u7 H H1/\H1 l=some (.lst zs)/\A4 K H1 zs ((p5 i).flatMap fun j=>ac0 j (n - (j+1))))
  ⟨none,[],rfl,i8 hl,c6,.nil⟩ ?_ ?_⟩
 ·rintro i σ H1 hi ⟨a,zs,rfl,s1,h1,t1⟩
  have e0:((0:Int)+(i:Int))=(i:Int):=by omega
  rw[e0]
  have hpart:=ba6 n (i+1) (by omega)
  rw[ai2,m6]at hpart
  have hrow:∀ m,(ac0 i m).length=m:=fun m=>by simp[ac0]
  rw[hrow]at hpart
  have hlz:=t1.len
  refine x6 ?_
  refine⟨_,rfl,_,rfl,_,_,rfl,rfl,_,rfl,_,_,rfl,⟨by omega,by omega,by omega,by omega⟩,fun D hD=>?_⟩
  rw[show ((n:Int) - ((i:Int)+1)).toNat=n - (i+1) by omega]
  refine ac7 (lo:=(i:Int)+1) (n:=n - (i+1)) (D:=D) (fun d xs σ' H'=>(∃ v,σ'=[v,some (.int (i:Int))])/\u7 H1 H'/\H' D=some (.lst xs)/\A4 K H' xs (ac0 i d))
   ⟨⟨none,rfl⟩,i8 hD,c6,.nil⟩ (by omega) (fun d xs σ' H' hd ⟨_,_,h2,t2⟩=>⟨h2,by rw[t2.len,hrow];exact c9 _⟩) ?_ ?_
  ·rintro d xs σ' H' N kN hd ⟨⟨v,rfl⟩,s2,h2,t2⟩
   refine x6 (L9 ?_)
   refine⟨_,rfl,_,rfl,(by show 2<=j7;decide),fun p hp=>?_⟩
   have s3:=i8 (o:=.tup [.int (i:Int),.int ((i:Int)+1+(d:Int))]) hp
   refine⟨s3 _ _ h2,kN _ _ _ ⟨⟨_,rfl⟩,(s2.trans s3).upd hD,c6,?_⟩⟩
   rw[aM0]
   exact A4.updL (s3 _ _ h2) (A4.append (s3.tups t2) (A4.one (SqT.of c6)))
  ·rintro xs σ' H2 ⟨⟨v,rfl⟩,s2,h2,t2⟩
   have hx:=t2.len
   rw[hrow]at hx
   have hl2:=s2 _ _ h1
   refine⟨l,D,zs,xs,rfl,rfl,hl2,h2,by omega,?_⟩
   refine⟨_,_,rfl,(s1.trans s2).upd hl,c6,?_⟩
   rw[ai2]
   exact A4.updL hl2 (A4.append (s2.tups t1) t2)
 ·rintro σ H1 ⟨a,zs,rfl,s1,h1,t1⟩
  exact⟨_,rfl,q l zs H1 s1 hl h1 t1⟩
def bl0 (K:W.Frag):Sp:=fun vs H Q _=>∃ (p:Addr) (n:Nat) (ks:List (List Int)),vs=[.ref p]/\au9 K H p n ks/\n<=24/\(∀ k∈ks,Up n k)/\∀ p' H',u7 H H'->au9 K H' p' n (ap5 n ks)->Q (.ref p') H'
theorem bN3:y9 ["web"] ["web"] (q0 bA0):=.mk'
theorem bC9 {fP:Addr} {fdP:FuncData} (F:Fun K "other_web" "other_web" bA0 f fd) (B:Bn mg) (FP:Fq K mg "all_pairs" bz9 fP fdP ["places"]) :
  A0 P w K mg base CX0 2 f fd ["web"] (bl0 K):=by
 have GP:A0 P w K mg base CX0 1 fP fdP ["places"] (as5 K):=bQ1 FP.F B
 refine F.ok bN3 (fun cdv A outer s H vs Q E hr h=>?_)
 obtain⟨p,n,ks,rfl,hW,hn,hU,q⟩:=h
 obtain⟨t,zs0,h1,h2,h3⟩:=id hW
 have hsl:=N4
 have hun:=hr.units
 have hlen:=ab8 n hn
 have nd2:(["pair","web"]:List Str).Nodup:=by decide +kernel
 have a0:atI ([.int n,.ref t]:List V) 0=some (.int n):=C1 (j:=0) rfl
 have a1:atI ([.int n,.ref t]:List V) 1=some (.ref t):=C1 (j:=1) rfl
 refine⟨_,o8 (C3 (R9 (b9 (C7 C5 (pv 0) j6 (fun _ _=>rfl)) (b9 (O2 L4 (by rfl) B.tuple (by rfl) (b9
  (L0 (N' := ["pair", "web"]) (lk := [none, some 0]) rfl (U0 (C4 GP hr (by rfl) FP G6 (b9 (C7 C5 (pv 0) j6 (fun _ _ => rfl)) d4))) (by rfl) rfl (by decide +kernel) (by exact ⟨rfl, trivial⟩) (by rfl) (by exact LkL.ok ⟨⟨rfl, Or.inl rfl, rfl, Or.inl rfl⟩, trivial⟩)
   (fun _ _ _=>A2 (i:=0) nd2 rfl (Or.inl rfl)) (fun _ _ _=>ah9 (C0 (aF7 K hr.around rfl rfl) (pv 0) (bO5 K rfl (pv 1) j6 (fun _ _=>rfl)) (by rfl))) (fun _ _ _=>pv 0)) d4)) d4)))),?_⟩
 refine⟨_,rfl,p,_,_,_,rfl,rfl,h1,a0,_,rfl,p,_,_,_,rfl,rfl,h1,a0,n,rfl,hn,fun lp zp H4 s5 fl gp tp=>⟨lp,rfl,⟨_,SqL.of gp⟩,fun D hD=>?_⟩⟩
 have hzp:=tp.len
 refine Q5 (K:=K) (a:=lp) (D:=D) (ys:=zp) (fun i xs σ' H'=>∃ v,σ'=[v,some (.ref p)]/\u7 H4 H'/\H' D=some (.lst xs)/\A4 K H' xs (aj3 ks ((l4 n).take i))) ⟨none,rfl,i8 hD,c6,.nil⟩ (by omega)
  (fun i xs σ' H' hi ⟨_, _, s6, h6, t6⟩ => ⟨SqL.of (s6 _ _ gp), h6, by
   have h7:=t6.len
   have h8:=bE4 ks ((l4 n).take i)
   rw[q8]at h8
   omega⟩) ?_ ?_
 ·rintro i xs x σ' H' N kN hx ⟨v,rfl,s6,h6,t6⟩
  obtain⟨b,kk,rfl,hk',hq'⟩:=tp.get hx
  have s56:=s5.trans s6
  refine x6 ?_
  refine⟨_,rfl,_,rfl,p,_,_,_,rfl,rfl,s56.seqT h1,a1,t,zs0,dP kk,ks.map dP,rfl,.inr (s56.seqT h2),Dt.mkP (s6.seqT hq'),(s56.tups h3).dtAll,cd9 _,ax9 ks,?_,_,rfl,?_⟩
  ·exact aP5 hun (x9 (cg5 _) (by decide))
  have en:(!(ks.map dP).any fun d=>PyData.eqv d (dP kk))=!decide (kk∈ks):=by rw[bI2]
  have etake:aj3 ks ((l4 n).take (i+1))=aj3 ks ((l4 n).take i)++aj3 ks [kk]:=by
   rw[A7,hk',bK5,bt8]
  by_cases hkk:kk∈ks
  ·rw[if_pos rfl,en,decide_eq_true hkk]
   refine P5 ?_
   refine kN _ _ _ ⟨_,rfl,s6,h6,?_⟩
   have e0:aj3 ks [kk]=[]:=by unfold aj3;rw[G1 (by rw[decide_eq_true hkk];decide)];rfl
   rw[etake,e0,B4]
   exact t6
  ·rw[if_pos rfl,en,decide_eq_false hkk]
   refine X1 ?_
   refine⟨_,rfl,h6,kN _ _ _ ⟨_,rfl,s6.upd hD,c6,?_⟩⟩
   have e0:aj3 ks [kk]=[kk]:=by unfold aj3;rw[G0 (by rw[decide_eq_false hkk];decide)];rfl
   rw[etake,e0]
   exact A4.updL h6 (A4.append t6 (A4.one (s6.seqT hq')))
 ·rintro xs σ' H5 ⟨v,rfl,s6,h6,t6⟩
  rw[k8 (by omega)]at t6
  refine⟨D,xs,rfl,.inl ⟨SqL.of h6,fun t' ht=>⟨(by show 2<=j7;decide),fun p' hp=>?_⟩⟩⟩
  have s2:=i8 (o:=.tup xs) ht
  have s3:=i8 (o:=.tup [.int n,.ref t']) hp
  exact q p' _ (((s5.trans s6).trans s2).trans s3) ⟨t',xs,SqT.of c6,SqT.of (s3 _ _ c6),(s2.trans s3).tups t6⟩
end
end Web
namespace Web
open PySem L2
theorem bQ9 {a b:List Int}(ha:Up n a)(hb:Up n b)(h:Tim.K4 a b=true):Tim.K4 b a=false:=by
 obtain⟨i,j,_,_,rfl⟩:=ha
 obtain⟨u,v,_,_,rfl⟩:=hb
 unfold Tim.K4 Tim.K4 at h ⊢
 by_cases e1:(i:Int)=u
 ·rw[if_pos e1]at h
  rw[if_pos e1.symm]
  by_cases e2:(j:Int)=v
  ·rw[if_pos e2]at h
   exact Bool.noConfusion (show false=true from h)
  ·rw[if_neg e2]at h
   rw[if_neg (Ne.symm e2)]
   have:=of_decide_eq_true h
   exact decide_eq_false (by omega)
 ·rw[if_neg e1]at h
  rw[if_neg (Ne.symm e1)]
  have:=of_decide_eq_true h
  exact decide_eq_false (by omega)
theorem aP6 (h:ks.Sublist (l4 n)):Tld n ks:=by
 have ups:∀ k∈ks,Up n k:=fun k hk=>ag4 (h.subset hk)
 have asc:=bp6 h (ag6 n)
 refine⟨ups,?_,List.Pairwise.imp_of_mem (fun {a b} ha hb e=>bQ9 (ups a ha) (ups b hb) e) asc⟩
 refine J2.mpr (List.Pairwise.imp (fun {a b} e z=>?_) asc)
 rw[z,Tim.au0]at e
 cases e
theorem bZ5 (T:Tld n ks):ks.Sublist (l4 n):=by
 have hF:Asc ((l4 n).filter fun k=>decide (k∈ks)):=bp6 X3 (ag6 n)
 have e:=aI3 hF ((be1 T.nd (ao2 hF)).mpr fun k=>⟨fun hk=>?_,fun hk=>of_decide_eq_true (F1.mp hk).2⟩) T.srt
 ·rw[e];exact X3
 ·obtain⟨i,j,h1,h2,rfl⟩:=T.ups k hk
  exact F1.mpr ⟨aR2 h1 h2,decide_eq_true hk⟩
def J8 (ns:List Int):List Int:=ns.map fun z=>(ns.length:Int) - 1 - z
theorem N8 (ns:List Int):(J8 ns).length=ns.length:=b8 ..
theorem an4 (h:j<ns.length):(J8 ns).getD j 0=(ns.length:Int) - 1 - ns.getD j 0:=by
 unfold J8
 rw[c8,o5,c7 h,c8,c7 h]
 rfl
theorem aP8 (c:Int):∀ ns:List Int,(ns.map fun z=>c - z).sum=ns.length*c - ns.sum
 | []=>by simp
 | x::ns=>by
  rw[m8,G2,G2,aP8 c ns,p6]
  have:((ns.length+1:Nat):Int)*c=(ns.length:Int)*c+c:=by rw[Int.natCast_add,Int.add_mul];simp
  omega
theorem aX7 {ts:List Int}(h:ts.length=ns.length):(J8 ns).sum - (J8 ts).sum=ts.sum - ns.sum:=by
 unfold J8
 rw[h,aP8,aP8,h]
 omega
theorem rev_rev (ns:List Int):J8 (J8 ns)=ns:=by
 have e:=N8 ns
 unfold J8 at e ⊢
 rw[e,M4]
 conv=>rhs;rw[<- av6 ns]
 refine K1 fun x _=>?_
 show (ns.length:Int) - 1 - ((ns.length:Int) - 1 - x)=x
 omega
theorem bk2 (hn:n<=24)(T:Tld n ks):tal n (ap5 n ks)=J8 (tal n ks):=by
 rw[br9 hn (bZ5 T)]
 unfold J8
 rw[P3]
theorem bh8 {ts:List Int}(hn:ts.length<=24)(G:Gr ts):Gr (J8 ts):=by
 obtain⟨m,_,e⟩:=bh9.mp G
 have s:=as3 (l4 ts.length) m
 have h:=bk2 hn (aP6 s)
 rw[e]at h
 rw[<- h]
 have L:=aP6 (ba9 ts.length (D3 (l4 ts.length) m))
 exact be5 L.nd L.ups
structure OnT (K:W.Frag) (H:Hp) (p b:Addr) (ns cs:List Int) (ks:List (List Int)) (mn:Int):Prop where
 lst:Lst (J8 ns) mn
 cs_:aI8 (J8 ns) cs mn
 tld:Tld ns.length ks
 prm:ks.Perm ((aN2 cs 0 (chF cs 0)).map up)
 tal_:tal ns.length ks=cs
 tup:H p=some (.tup [.int (Y9 (J8 ns).sum (-mn)),.ref b])
 at_:au9 K H b ns.length (ap5 ns.length ks)
theorem OnT.same {K:W.Frag}{p:Addr}{mn:Int}(h:OnT K H p b ns cs ks mn)(s:u7 H H'):OnT K H' p b ns cs ks mn:=⟨h.lst,h.cs_,h.tld,h.prm,h.tal_,s _ _ h.tup,h.at_.same s⟩
theorem OnT.gw {K:W.Frag}{PT PU:Addr}{p:Addr}{mn:Int}(h:OnT K H p b ns cs ks mn)(g:Gw PT PU H H')(t:Tbs PT PU H):OnT K H' p b ns cs ks mn:=by
 obtain⟨u,zs,h1,h2,h3⟩:=h.at_
 exact⟨h.lst,h.cs_,h.tld,h.prm,h.tal_,aH0 g t h.tup (fun _ z=>by cases z),⟨u,zs,aS0 g t h1,aS0 g t h2,bn6 g t h3⟩⟩
theorem OnT.uniq {K:W.Frag}{p p' b':Addr}{cs':List Int}{ks':List (List Int)}{mn mn':Int}(h:OnT K H p b ns cs ks mn)(g:OnT K H' p' b' ns cs' ks' mn'):mn'=mn/\cs'=cs/\ks'=ks:=by
 have e:=Lst.uniq g.lst h.lst
 subst e
 have e2:=aI8.uniq g.cs_ h.cs_
 subst e2
 exact⟨rfl,rfl,aI3 (ch0 h.tld.ups h.tld.nd h.tld.srt) (g.prm.trans h.prm.symm) g.tld.srt⟩
def dOn (a n:Int)(ks:List (List Int)):ah1:=.tuple [.int a,dW n ks]
theorem bD8 (a n:Int)(ks:List (List Int)):(dOn a n ks).canLay0=true:=by simp[dOn,PyData.canLay0,PyData.canLayAll0,cn6]
theorem cg6 (a n:Int)(ks:List (List Int)):(dOn a n ks).depth<=6:=by
 have:=cp5 n ks
 simp only[dOn,PyData.depth,PyData.depthAll]
 omega
theorem cg2 (a n:Int)(ks:List (List Int)):PyData.eqv (dOn a n ks) (dOn a n ks)=true:=by
 simp only[dOn,PyData.eqv,PyData.eqvAll,cp2]
 simp
theorem OnT.dt {K:W.Frag}{p:Addr}{mn:Int}(h:OnT K H p b ns cs ks mn):Dt K H (dOn (Y9 (J8 ns).sum (-mn)) ns.length (ap5 ns.length ks)) (.ref p):=Dt.mkT (SqT.of h.tup) (.mkC .mkInt (.mkC h.at_.dt .mkN))
theorem bX1 {mn:Int}(hn:ns.length<=24)(h0:AllP (J8 ns))(hm:Lst (J8 ns) mn)(hc:aI8 (J8 ns) cs mn):(J8 cs).length=ns.length/\Gr (J8 cs)/\(∀ j,j<ns.length->ns.getD j 0<=(J8 cs).getD j 0)/\(J8 cs).sum - ns.sum=Y9 (J8 ns).sum (-mn):=by
 obtain⟨G,hl,hle,hs⟩:=hc.facts h0 hm
 rw[N8]at hl hle
 refine⟨by rw[N8,hl],bh8 (by omega) G,fun j hj=>?_,?_⟩
 ·have:=(hle j hj).2
  rw[an4 hj]at this
  rw[an4 (by omega),hl]
  omega
 ·have:=aX7 (ns:=cs) (ts:=J8 ns) (by rw[N8,hl])
  rw[rev_rev]at this
  omega
theorem bC3 {ts:List Int}{mn:Int}(hn:ns.length<=24)(hl:ts.length=ns.length)(G:Gr ts)(hge:∀ j,j<ns.length->ns.getD j 0<=ts.getD j 0)(hm:Lst (J8 ns) mn):Y9 (J8 ns).sum (-mn)<=ts.sum - ns.sum:=by
 rw[<- aX7 hl]
 refine bE3 (by rw[N8,N8,hl]) (fun j hj=>?_) (bh8 (by omega) G) hm
 rw[N8]at hj
 rw[an4 (by omega),an4 hj,hl]
 have:=hge j hj
 omega
structure Due (ns:List Int) (due:Int):Prop where
 le:∀ ts:List Int,ts.length=ns.length->Gr ts->(∀ j,j<ns.length->ns.getD j 0<=ts.getD j 0)->due<=ts.sum - ns.sum
 at_:∃ ts:List Int,ts.length=ns.length/\Gr ts/\(∀ j,j<ns.length->ns.getD j 0<=ts.getD j 0)/\due=ts.sum - ns.sum
theorem Due.of {mn:Int}(hn:ns.length<=24)(h0:AllP (J8 ns))(hm:Lst (J8 ns) mn)(hc:aI8 (J8 ns) cs mn):Due ns (Y9 (J8 ns).sum (-mn)):=by
 obtain⟨h1,h2,h3,h4⟩:=bX1 hn h0 hm hc
 exact⟨fun ts e G g=>bC3 hn e G g hm,_,h1,h2,h3,h4.symm⟩
theorem Due.uniq {a b:Int}(h:Due ns a)(g:Due ns b):a=b:=by
 obtain⟨t1,a1,a2,a3,a4⟩:=h.at_
 obtain⟨t2,b1,b2,b3,b4⟩:=g.at_
 have:=h.le t2 b1 b2 b3
 have:=g.le t1 a1 a2 a3
 omega
theorem bS4 (hn:ns.length<=24)(h0:AllP (J8 ns)):∃ ts:List Int,ts.length=ns.length/\Gr ts/\∀ j,j<ns.length->ns.getD j 0<=ts.getD j 0:=by
 have h:=bh8 (ts:=tal ns.length []) (by rw[P3];exact hn) (be5 ak4 fun k hk=>absurd hk C2)
 refine⟨_,by rw[N8,P3],h,fun j hj=>?_⟩
 rw[an4 (by rw[P3];exact hj),P3,bk4]
 have:=W5 h0 (show j<(J8 ns).length by rw[N8];exact hj)
 rw[an4 hj]at this
 have e:(u5 ns.length (0:Int)).getD j 0=0:=by rw[c8,bw1,if_pos hj];rfl
 first | omega | (rw[e];omega)
theorem af1 (K:W.Frag)(hK:X.K=K):S4 X (.builtin "len") (fun xs H Q=>∃ p ys,xs=[.ref p]/\(SqL K H p ys\/SqT K H p ys)/\Q (.int ys.length) H):=by subst hK;exact A5
seal L2.PE L2.PA L2.PS L2.PSs L2.PT
section
variable {K:W.Frag} {mg:Str->Option Value} {base:Heap}
def bV8 (K:W.Frag)(CB CW PT PU:Addr):Sp:=fun vs H Q E=>∃ (a:Addr) (ns:List Int),vs=[.ref a]/\Sq K H a ns /\
 (S0 ns->AllP ns->AllP (J8 ns)->Tbs PT PU H/\∀ (p b:Addr) (cs:List Int) (ks:List (List Int)) (mn:Int) (H':Hp),Gw PT PU H H'->Tbs PT PU H'->OnT K H' p b ns cs ks mn->Q (.ref p) H')/\(¬ S0 ns->E (.ref CB) none H)/\(S0 ns->¬ (AllP ns/\AllP (J8 ns))->∀ H':Hp,u7 H H'->E (.ref CW) none H')
theorem bW2:y9 ["tally","told"] ["tally"] (q0 bA2):=.mk'
set_option maxHeartbeats 4000000 in
theorem cd3 {fC fJ fO CW PT PU:Addr}{fdJ:FuncData}(F:Fun K "least_on" "least_on" bA2 f fd)(B:Bn mg)
  (FC:Fq K mg "check_none_below" bs3 fC fdC ["tally"])(GC:A0 P w K mg base (CXE P w) 6 fC fdC ["tally"] (by3 K CB CW))
  (FJ:Fq K mg "least_off" aL8 fJ fdJ ["tally"])(GJ:A0 P w K mg base (CXE P w) 6 fJ fdJ ["tally"] (bf2 K CB CW PT PU))
  (FO:Fq K mg "other_web" bA0 fO fdO ["web"])(GO:A0 P w K mg base CX0 6 fO fdO ["web"] (bl0 K)):A0 P w K mg base (CXE P w) 7 f fd ["tally"] (bV8 K CB CW PT PU):=by
 refine F.okX bW2 (fun cdv A outer s H vs Q E hr h=>?_)
 obtain⟨a,ns,rfl,hS,q,qb,qw⟩:=h
 have hsl:=N4
 have nd2:(["number","tally"]:List Str).Nodup:=by decide +kernel
 refine⟨_,j0 (Y5 (C4 GC hr (by rfl) FC ap2 (b9 (pv 0) d4)))
  (j0 (x5 (i:=1) bW2.nd rfl (Or.inl rfl) (C4 GJ hr (by rfl) FJ ap2 (b9 (L0 (N':=["number","tally"]) (lk:=[none,some 0]) rfl (bm4 (U0 (pv 0)) (aR0 (pv 0))) (by rfl) rfl (by decide +kernel) (by exact⟨rfl,trivial⟩) (by rfl) (by exact LkL.ok ⟨⟨rfl,Or.inl rfl,rfl,Or.inl rfl⟩,trivial⟩)
    (fun _ _ _=>A2 (i:=0) nd2 rfl (Or.inl rfl)) (fun _ _ _=>P4) (fun _ _ _=>u4 W2 (u4 W2 (p7 (af1 K rfl) (by rfl) B.len PySem.boot_len (b9 (pv 1) d4)) j6) (pv 0))) d4)))
  (o8 (C3 (R9 (b9 (C7 C5 (pv 1) j6 (fun _ _=>rfl)) (b9 (C4 GO hr (by rfl) FO G6 (b9 (C7 C5 (pv 1) j6 (fun _ _=>rfl)) d4)) d4)))))),?_⟩
 refine⟨_,rfl,a,ns,rfl,hS,fun ht h0 H1 s1=>?_,qb,fun ht h0 H1 s1=>qw ht (fun z=>h0 z.1) H1 s1⟩
 have hS1:=hS.same s1
 refine Or.imp (fun h=>⟨_,rfl,h⟩) (fun h=>⟨_,rfl,h⟩) (aN7 (K:=K) (a:=a) (ys:=ns.map V.int) hS1 (by rw[b8];have:=ht.2;omega) (fun D i xs σ' H'=>(∃ v,σ'=[v,some (.ref a)])/\u7 H1 H'/\H' D=some (.lst xs)/\xs=((ns.take i).map fun z=>(ns.length:Int) - 1 - z).map V.int) (fun D hD=>⟨⟨none,rfl⟩,i8 hD,c6,by rw[bj7];rfl⟩)
  (fun D i xs σ' H' hD hi ⟨_,s6,h6,e6⟩=>⟨s6,h6,by rw[e6,b8,b8,q8];omega⟩) ?_ ?_)
 ·rintro D i xs x σ' H' N' hD kN hx ⟨⟨v,rfl⟩,s6,h6,rfl⟩
  obtain⟨z,ez,rfl⟩:=P6 hx
  refine x6 (L9 ?_)
  refine⟨_,rfl,a,_,rfl,hS1.same s6,_,_,rfl,rfl,_,rfl,_,_,rfl,rfl,h6,kN _ _ _ ⟨⟨_,rfl⟩,s6.upd hD,c6,?_⟩⟩
  rw[A7,ez,j9,j9,b8]
  rfl
 rintro D xs σ' H2 hD ⟨⟨v,rfl⟩,s2,gD,rfl⟩
 rw[b8,cj2]at gD
 have s12:=s1.trans s2
 have hTr:S0 (J8 ns):=by unfold S0;rw[N8];exact ht
 refine⟨D,J8 ns,rfl,.inl (SqL.of gD),by rw[N8];exact ht.2,(by show (J8 ns).length<=24;rw[N8];exact ht.2),fun _ hr0=>?_,fun h=>absurd hTr h,fun _ hr0 H3 s3=>qw ht (fun z=>hr0 z.2) H3 (s12.trans s3)⟩
 obtain⟨tbs,q⟩:=q ht h0 hr0
 refine⟨tbs.same s12,fun p b cs ks mn j H3 g3 tb3 _ L=>?_⟩
 obtain⟨⟨t,zs,w1,w2,w3⟩,prm,srt,tl,ups,nd⟩:=L.web
 have hp:=SqT.of (K:=K) L.tup
 have hcl:cs.length=ns.length:=by
  obtain⟨_,_,_,_,_,_,_,_,ecs⟩:=L.cs_
  rw[ecs,ak9,N8]
 rw[hcl]at w1 tl ups
 refine⟨_,rfl,p,_,_,_,rfl,rfl,hp,C1 (j:=0) rfl,_,rfl,p,_,_,_,rfl,rfl,hp,C1 (j:=1) rfl,b,ns.length,ks,rfl,⟨t,zs,SqT.of w1,SqT.of w2,w3⟩,ht.2,ups,fun p' H4 s4 w4=>⟨(by show 2<=j7;decide),fun r fr=>?_⟩⟩
 have sr:=i8 (o:=.tup [.int (Y9 (J8 ns).sum (-mn)),.ref p']) fr
 exact q r p' cs ks mn _ (((ab0 s12).trans g3).trans (ab0 (s4.trans sr))) (tb3.same (s4.trans sr)) ⟨L.lst,L.cs_,⟨ups,nd,srt⟩,prm,tl,c6,w4.same sr⟩
end
end Web
namespace Web
open PySem L2
theorem aI0 (K:W.Frag)(hK:X.K=K)(hc:X.calm=true):S4 X (.builtin "sum") (fun xs H Q=>∃ (p:Addr) (ns:List Int),xs=[.ref p]/\SqT K H p (ns.map V.int)/\Q (.int ns.sum) H):=by subst hK;exact ay7 hc
def bd2 (ns ms:List Int):Bool:=((p5 ns.length).map fun j=>decide (ns.getD j 0<=ms.getD j 0)).all id
theorem aI5 {ms:List Int}:bd2 ns ms=true↔∀ j,j<ns.length->ns.getD j 0<=ms.getD j 0:=by
 unfold bd2
 rw[G8]
 constructor
 ·intro h j hj
  exact of_decide_eq_true (h _ (p0.mpr ⟨j,v8.mpr hj,rfl⟩))
 ·intro h b hb
  obtain⟨j,hj,rfl⟩:=p0.mp hb
  exact decide_eq_true (h j (v8.mp hj))
seal L2.PE L2.PA L2.PS L2.PSs L2.PT
section
variable {K:W.Frag} {mg:Str->Option Value} {base:Heap}
def bk5:Sp:=fun vs H Q _=>∃ z:Int,vs=[.int z]/\Q (.bl true) H
theorem bN1:y9 ["found"] ["found"] (q0 aE5):=.mk'
theorem bC4 (F:Fun K "_law_whole" "_law_whole" aE5 f fd)(B:Bn mg):A0 P w K mg base CX0 1 f fd ["found"] bk5:=by
 refine F.ok bN1 (fun cdv A outer s H vs Q E hr h=>?_)
 obtain⟨z,rfl,q⟩:=h
 refine⟨_,o8 (C3 (bC0 (p7 (au6 K rfl) (by rfl) B.isin (by rfl) (b9 (pv 0) (b9 (an6 (v:=.ty "int") (by rfl) B.int (by rfl) rfl) d4)))
   (bB4 (cb7 (p7 (au6 K rfl) (by rfl) B.isin (by rfl) (b9 (pv 0) (b9 (an6 (v:=.ty "bool") (by rfl) B.bool (by rfl) rfl) d4))))))),?_⟩
 refine⟨_,rfl,_,_,_,true,rfl,.int z,rfl,true,rfl,X1 ?_⟩
 exact⟨_,rfl,_,_,_,false,rfl,.int z,rfl,false,rfl,q⟩
def by8 (K:W.Frag):Sp:=fun vs H Q _=>∃ (a c:Addr) (ns ms:List Int),vs=[.ref a,.ref c]/\Sq K H a ns/\Sq K H c ms/\ms.length=ns.length/\ns.length<=24/\∀ H':Hp,u7 H H'->Q (.bl (bd2 ns ms)) H'
theorem cm3:y9 ["tally","counts"] ["tally","counts"] (q0 ax1):=.mk'
theorem cd8 (F:Fun K "_law_above" "_law_above" ax1 f fd)(B:Bn mg):A0 P w K mg base CX0 1 f fd ["tally","counts"] (by8 K):=by
 refine F.ok cm3 (fun cdv A outer s H vs Q E hr h=>?_)
 obtain⟨a,c,ns,ms,rfl,hS,hC,hl,hn,q⟩:=h
 have hsl:=N4
 have nd2:(["number","having"]:List Str).Nodup:=by decide +kernel
 obtain⟨b1,hA⟩:∃ b,SqB b K H a (ns.map V.int):=hS.elim (fun h=>⟨true,h⟩) fun h=>⟨false,h⟩
 obtain⟨b2,hB⟩:∃ b,SqB b K H c (ms.map V.int):=hC.elim (fun h=>⟨true,h⟩) fun h=>⟨false,h⟩
 refine⟨_,o8 (C3 (p7 (bv6 rfl) (by rfl) B.all boot_all (b9 (L0 (N':=["number","having"]) (lk:=[none,none]) rfl (bm3 (by rfl) B.zip (b9 (pv 0) (b9 (pv 1) d4))) (by rfl) rfl (by decide +kernel) (by exact trivial) (by rfl) (by exact LkL.ok trivial) (fun _ _ _=>aC1 (n:=2) K rfl rfl (Q0 (A2 (i:=0) nd2 rfl (Or.inl rfl)) (Q0 (A2 (i:=1) nd2 rfl (Or.inl rfl)) an5))) (fun _ _ _=>P4) (fun _ _ _=>aC2 bC1 (pv 1) (pv 0) (E9 _))) d4))),?_⟩
 refine⟨_,rfl,_,rfl,b1,b2,a,c,rfl,⟨_,hA⟩,⟨_,hB⟩,fun D hD=>?_⟩
 refine aN6 (b1:=b1) (b2:=b2) (K:=K) (a:=a) (b:=c) (D:=D) (ys:=ns.map V.int) (zs:=ms.map V.int) (by rw[b8,b8,hl]) (fun i ds σ' H'=>(∃ v u,σ'=[v,u])/\u7 H H'/\H' D=some (.lst ds)/\ds=((p5 i).map fun j=>V.bl (decide (ns.getD j 0<=ms.getD j 0))))
  ⟨⟨none,none,rfl⟩,i8 hD,c6,rfl⟩ (by rw[b8];omega) (fun i ds σ' H' hi ⟨_,s8,h8,e8⟩=>⟨SqB.same hA s8,SqB.same hB s8,h8,by rw[e8,b8,y7];exact c9 _⟩) ?_ ?_
 ·rintro i ds x y t σ' H' N kN hx hy ⟨⟨v,u,rfl⟩,s8,h8,rfl⟩ ht'
  obtain⟨z1,hz1,rfl⟩:=P6 hx
  obtain⟨z2,hz2,rfl⟩:=P6 hy
  have s9:=i8 (o:=.tup [.int z1,.int z2]) ht'
  refine⟨t,_,rfl,SqT.of c6,rfl,_,_,rfl,_,_,rfl,rfl,L9 ?_⟩
  refine⟨_,rfl,_,rfl,_,_,rfl,rfl,s9 _ _ h8,kN _ _ _ ⟨⟨_,_,rfl⟩,(s8.trans s9).upd hD,c6,?_⟩⟩
  rw[D0,j9]
  have e1:ns.getD i 0=z1:=by rw[c8,hz1];rfl
  have e2:ms.getD i 0=z2:=by rw[c8,hz2];rfl
  rw[<- e1,<- e2]
  rfl
 ·rintro ds σ' H4 ⟨⟨v,u,rfl⟩,s4,gD4,rfl⟩
  rw[b8]at gD4
  have e:((p5 ns.length).map fun j=>V.bl (decide (ns.getD j 0<=ms.getD j 0)))=((p5 ns.length).map fun j=>decide (ns.getD j 0<=ms.getD j 0)).map V.bl:=by
   rw[M4]
   rfl
  rw[e]at gD4
  exact⟨D,_,rfl,gD4,q H4 s4⟩
end
end Web
namespace Web
open PySem L2
structure Wk (kvs:List (List Key × V)) (n:Nat):Prop where
 key:∀ kv∈kvs,∃ ts:List Int,kv.1=ts.map Sum.inl/\ts.length=n/\Gr ts
 all:∀ ts:List Int,ts.length=n->Gr ts->∃ kv∈kvs,kv.1=ts.map Sum.inl
 len:kvs.length<=1024
theorem AW.wk {K:W.Frag}(h:AW K H kvs n (2 ^ (l4 n).length))(hn:n<=5):Wk kvs n:=by
 refine⟨fun kv hk=>?_,fun ts e G=>?_,x9 h.len (aM1 n (by omega))⟩
 ·obtain⟨q,hq,e⟩:=h.keys kv hk
  refine⟨_,e,P3 ..,bh9.mpr ?_⟩
  rw[P3]
  exact⟨q,hq,rfl⟩
 ·have:=(h.has ts).mpr (by
   obtain⟨m,h1,h2⟩:=bh9.mp G
   rw[e]at h1 h2
   exact⟨m,h1,h2⟩)
  obtain⟨v,hv⟩:=o9.mp this
  obtain⟨kv,h1,h2⟩:=p0.mp (bM2 hv)
  exact⟨kv,h1,h2⟩
theorem bR7 {K:W.Frag}{Q:VK}{l u:Addr}(hun:A.units+64<ae8)(gl:SqL K H l (ns.map V.int))(gu:SqL K H u (ns.map V.int))(q:Q (.bl true) H):cm9 K A false (.ref l) (.ref u) H Q:=by
 refine⟨.list (ns.map .int),.list (ns.map .int),Dt.mkLi gl,Dt.mkLi gu,bD7 _,bD7 _,?_,?_⟩
 ·refine bV1 hun (x9 (Nat.min_le_left _ _) ?_)
  have:=cg4 ns
  omega
 ·show Q (.bl (PyData.eqv _ _)) _
  rw[cg0,decide_eq_true rfl]
  exact q
theorem cn0 {st:Stmt}{t t':TS}(h:PS X st t)(i:∀ D σ H,t' D σ H->t D σ H):PS X st t':=fun pins s σ H D I hw=>h pins s σ H D I (i D σ H hw)
def plc (c p:Int):Int:=if c / 4 % 6=5 then 5 else p
def tPl:TS:=fun D σ H=>∃ (sc:V) (c p:Int) (rest:St),σ=some sc::some (.int c)::some (.int p)::rest/\D.nx (some sc::some (.int c)::some (.int (plc c p))::rest) H
seal L2.PE L2.PA L2.PS L2.PSs L2.PT
section
variable {K:W.Frag} {mg:Str->Option Value} {base:Heap}
def bk9 (K:W.Frag)(PT PU:Addr):Sp:=fun vs H Q _=>∃ (a:Addr) (ns:List Int) (due:Int),vs=[.ref a,.int due]/\H a=some (.lst (ns.map V.int))/\S0 ns/\AllP ns/\AllP (J8 ns)/\Due ns due/\Tbs PT PU H/\∀ H':Hp,Gw PT PU H H'->Tbs PT PU H'->Q (.bl true) H'
theorem aB8:y9 ["tally","due","handed","found","counts"] ["tally","due"] (q0 aE8):=.mk'
set_option maxHeartbeats 4000000 in
theorem bC8 {fO fW fB fN CW PT PU:Addr}{fdB fdN:FuncData}(F:Fun K "_law_right" "_law_right" aE8 f fd)(B:Bn mg)
  (FO:Fq K mg "least_on" bA2 fO fdO ["tally"])(GO:A0 P w K mg base (CXE P w) 8 fO fdO ["tally"] (bV8 K CB CW PT PU))
  (FW:Fq K mg "_law_whole" aE5 fW fdW ["found"])(GW:A0 P w K mg base CX0 8 fW fdW ["found"] (bk5))
  (FB:Fq K mg "_law_above" ax1 fB fdB ["tally","counts"])(GB:A0 P w K mg base CX0 8 fB fdB ["tally","counts"] (by8 K))
  (FN:Fq K mg "_law_counts" aX4 fN fdN ["found","places"])(GN:A0 P w K mg base CX0 8 fN fdN ["found","places"] (by2 K)):A0 P w K mg base CX0 9 f fd ["tally","due"] (bk9 K PT PU):=by
 refine F.ok aB8 (fun cdv A outer s H vs Q E hr h=>?_)
 obtain⟨a,ns,due,rfl,ga,ht,h0,hr0,hD,tbs,q⟩:=h
 have hsl:=N4
 have hun:=hr.units
 have t2:=ht.2
 refine⟨_,j0 (x5 (i:=2) aB8.nd rfl (Or.inl rfl) (O2 aS8 (by rfl) B.list (by rfl) (b9 (pv 0) d4)))
  (j0 (x5 (i:=3) aB8.nd rfl (Or.inl rfl) (C4 GO hr (by rfl) FO (at5 (P:=P) (w:=w)) (b9 (pv 2) d4)))
  (j0 (O1 (PW.pt (af9 (Y1 (ac2 (p7 ab2 (by rfl) B.isin (by rfl) (b9 (pv 3) (b9 (an6 (v:=.ty "tuple") (by rfl) B.tuple (by rfl) rfl) d4))))) (af9 (C0 az9 (p7 A5 (by rfl) B.len PySem.boot_len (b9 (pv 3) d4)) j6 (E9 _)) (af9 (Y1 (ac2 (C4 GW hr (by rfl) FW G6 (b9 (C7 C5 (pv 3) j6 (fun _ _=>rfl)) d4)))) (ax3 (C0 az9 (C7 C5 (pv 3) j6 (fun _ _=>rfl)) (pv 1) (E9 _))))))) N0 E6)
  (j0 (x5 (i:=4) aB8.nd rfl (Or.inl rfl) (C4 GN hr (by rfl) FN G6 (b9 (C7 C5 (pv 3) j6 (fun _ _=>rfl)) (b9 (p7 A5 (by rfl) B.len PySem.boot_len (b9 (pv 0) d4)) d4))))
  (j0 (O1 (PW.pt (af9 (C0 cc3 (pv 4) bg5 (E9 _)) (af9 (Y1 (ac2 (C4 GB hr (by rfl) FB G6 (b9 (pv 0) (b9 (pv 4) d4))))) (ax3 (C0 az9 (u4 W2 (p7 (ac8 rfl) (by rfl) B.sum (by rfl) (b9 (pv 4) d4)) (p7 (ac8 rfl) (by rfl) B.sum (by rfl) (b9 (pv 0) d4))) (pv 1) (E9 _)))))) N0 E6)
  (o8 (C3 (bC0 (aC2 bC2 (pv 2) (pv 0) (E9 _)) (bB4 (aC2 bC2 (C4 GO hr (by rfl) FO (at5 (P:=P) (w:=w)) (b9 (O2 L4 (by rfl) B.tuple (by rfl) (b9 (pv 0) d4)) d4)) (pv 3) (E9 _)))))))))),?_⟩
 refine⟨_,rfl,a,_,rfl,.inl (SqL.of ga),fun lh flh=>?_⟩
 have s1:=i8 (o:=.lst (ns.map V.int)) flh
 have gh1:(upd H lh (.lst (ns.map V.int))) lh=some (.lst (ns.map V.int)):=c6
 generalize upd H lh (.lst (ns.map V.int))=H1 at s1 gh1 ⊢
 refine x6 ?_
 have tbs1:=tbs.same s1
 refine⟨_,rfl,lh,ns,rfl,.inl (SqL.of gh1),fun _ _ _=>⟨tbs1,fun p b cs ks mn H2 g2 tbs2 T=>?_⟩,fun h=>absurd ht h,fun _ h=>absurd ⟨h0,hr0⟩ h⟩
 refine x6 ?_
 have gw12:Gw PT PU H H2:=(ab0 s1).trans g2
 have ga2:=ay2 gw12 tbs ga
 have gh2:=ay2 g2 tbs1 gh1
 obtain rfl:=hD.uniq (Due.of t2 hr0 T.lst T.cs_)
 obtain⟨hcl,hG,hge,hsum⟩:=bX1 t2 hr0 T.lst T.cs_
 have hT:=SqT.of (K:=K) T.tup
 have a0:atI ([.int (Y9 (J8 ns).sum (-mn)),.ref b]:List V) 0=some (.int (Y9 (J8 ns).sum (-mn))):=C1 (j:=0) rfl
 have a1:atI ([.int (Y9 (J8 ns).sum (-mn)),.ref b]:List V) 1=some (.ref b):=C1 (j:=1) rfl
 refine⟨_,rfl,p,_,_,true,rfl,hT,rfl,_,rfl,P5 ?_⟩
 refine⟨_,rfl,p,_,rfl,.inr hT,rfl,_,rfl,aA0 rfl ?_⟩
 refine⟨_,rfl,p,_,_,_,rfl,rfl,hT,a0,_,rfl,_,rfl,P5 ?_⟩
 refine⟨_,rfl,p,_,_,_,rfl,rfl,hT,a0,_,rfl,rfl,_,rfl,aA0 rfl ?_⟩
 refine⟨_,rfl,p,_,_,_,rfl,rfl,hT,a1,_,rfl,a,_,rfl,.inl (SqL.of ga2),b,ns.length,ap5 ns.length ks,(by rw[b8];rfl),T.at_,aP6 (ba9 _ _),t2,fun lc H4 s4 flc glc=>?_⟩
 have etal:=bk2 t2 T.tld
 rw[T.tal_]at etal
 rw[etal]at glc
 refine x6 ?_
 have ga4:=s4 _ _ ga2
 refine⟨_,rfl,rfl,_,rfl,P5 ?_⟩
 refine⟨_,rfl,_,rfl,a,lc,ns,J8 cs,rfl,.inl (SqL.of ga4),.inl (SqL.of glc),hcl,t2,fun H5 s5=>⟨_,rfl,?_⟩⟩
 rw[aI5.mpr hge]
 refine P5 ?_
 refine⟨_,rfl,lc,J8 cs,rfl,SqL.of (s5 _ _ glc),_,rfl,a,ns,rfl,SqL.of (s5 _ _ ga4),_,_,rfl,rfl,_,rfl,rfl,_,rfl,aA0 (congrArg V.int hsum) ?_⟩
 have s25:=s4.trans s5
 refine⟨_,rfl,_,rfl,bR7 hun (SqL.of (s25 _ _ gh2)) (SqL.of (s25 _ _ ga2)) ⟨_,rfl,X1 ?_⟩⟩
 refine⟨_,rfl,a,_,rfl,.inl ⟨SqL.of (s25 _ _ ga2),fun tt ftt=>?_⟩⟩
 have s8:=i8 (o:=.tup (ns.map V.int)) ftt
 have gt8:(upd H5 tt (.tup (ns.map V.int))) tt=some (.tup (ns.map V.int)):=c6
 have s28:=s25.trans s8
 generalize upd H5 tt (.tup (ns.map V.int))=H8 at s28 gt8 ⊢
 have tbs8:=tbs2.same s28
 refine⟨tt,ns,rfl,.inr (SqT.of gt8),fun _ _ _=>⟨tbs8,fun p' b' cs' ks' mn2 H9 g9 tbs9 T'=>?_⟩,fun h=>absurd ht h,fun _ h=>absurd ⟨h0,hr0⟩ h⟩
 obtain⟨rfl,rfl,rfl⟩:=T.uniq T'
 have T9:=(T.same s28).gw g9 tbs8
 refine⟨_,rfl,_,_,T'.dt,T9.dt,bD8 _ _ _,bD8 _ _ _,?_,?_⟩
 ·refine bV1 hun (x9 (Nat.min_le_left _ _) ?_)
  exact x9 (cg6 _ _ _) (by decide)
 ·rw[if_neg i7,cg2]
  exact q H9 (gw12.trans ((ab0 s28).trans g9)) tbs9
end
end Web
namespace Web
open PySem L2
theorem bl9:AllP (J8 ns)↔∀ z∈ns,z<(ns.length:Int):=by
 unfold J8 AllP
 constructor
 ·intro h z hz
  obtain⟨i,hi,e⟩:=List.getElem_of_mem hz
  have:=h i ((ns.length:Int) - 1 - z) (by rw[o5,c7 hi,e];rfl)
  omega
 ·intro h i x hx
  obtain⟨z,hz,rfl⟩:=p0.mp (d8 hx)
  have:=h z hz
  omega
theorem bT3 (z:Int)(h:1<=n):0<=(if (n:Int) - 1<(if z > 0 then z else 0) then (n:Int) - 1 else if z > 0 then z else 0)/\(if (n:Int) - 1<(if z > 0 then z else 0) then (n:Int) - 1 else if z > 0 then z else 0)<(n:Int):=by
 split<;>split<;>omega
seal L2.PE L2.PA L2.PS L2.PSs L2.PT
section
variable {K:W.Frag} {mg:Str->Option Value} {base:Heap}
def aW3 (K:W.Frag)(PT PU:Addr):Sp:=fun vs H Q _=>∃ (a:Addr) (ns:List Int),vs=[.ref a]/\SqL K H a (ns.map V.int)/\ns.length<=63/\Tb PT H/\Tb2 PU H/\PT≠PU/\∀ H',Q (.bl true) H'
theorem af7:y9 ["script","base","places","webs","cell","tally","rest","place","due","great"] ["script"] (q0 bf9):=.mk'
set_option maxHeartbeats 4000000 in
theorem bP6 {fC fK fB fR fY fJ CW PT PU:Addr} {fdK fdB fdR fdY fdJ:FuncData} (F:Fun K "law" "law" bf9 f fd) (B:Bn mg)
  (FC:Fq K mg "_law_cell_at" aL9 fC fdC ["script","k"]) (GC:A0 P w K mg base CX0 9 fC fdC ["script","k"] (bf4 K))
  (FK:Fq K mg "_law_all_webs" aX5 fK fdK ["places"]) (GK:A0 P w K mg base CX0 9 fK fdK ["places"] (by6 K))
  (FB:Fq K mg "_law_above" ax1 fB fdB ["tally","counts"]) (GB:A0 P w K mg base CX0 9 fB fdB ["tally","counts"] (by8 K))
  (FR:Fq K mg "_law_right" aE8 fR fdR ["tally","due"]) (GR:A0 P w K mg base CX0 9 fR fdR ["tally","due"] (bk9 K PT PU))
  (FY:Fq K mg "_law_tally" bz8 fY fdY ["script","most"]) (GY:A0 P w K mg base CX0 9 fY fdY ["script","most"] (bV5 K))
  (FJ:Fq K mg "least_off" aL8 fJ fdJ ["tally"]) (GJ:A0 P w K mg base (CXE P w) 9 fJ fdJ ["tally"] (bf2 K CB CW PT PU)):A0 P w K mg base CX0 10 f fd ["script"] (aW3 K PT PU):=by
 refine F.ok af7 (fun cdv A outer s H vs Q E hr h=>?_)
 obtain⟨sc,ns,rfl,hS,hlen,tb1,tb2,hne,q⟩:=h
 have hsl:=bz0
 have nd2:(["counts","tally"]:List Str).Nodup:=by decide +kernel
 have nd3:(["number","great"]:List Str).Nodup:=by decide +kernel
 refine⟨_,j0 (x5 (i:=1) af7.nd rfl (Or.inl rfl) (u4 O3 (C4 GC hr (by rfl) FC G6 (b9 (pv 0) (b9 j6 d4))) (u4 bg7 j6 j6)))
  (j0 (x5 (i:=2) af7.nd rfl (Or.inl rfl) (u4 L1 j6 (u4 O3 (pv 1) j6)))
  (j0 (cn0 (t':=tPl) (O1 (C0 aY8 (u4 O3 (u4 Y6 (pv 1) j6) j6) j6 (E9 _)) (o8 (x5 (i:=2) af7.nd rfl (Or.inl rfl) j6)) E6) (fun D σ H h=>?pl))
  (j0 (x5 (i:=3) af7.nd rfl (Or.inl rfl) (cb9 (C4 GK hr (by rfl) FK G6 (b9 (pv 2) d4))))
  (j0 (ac3 PassesOwn.never rfl (U0 (u4 cc5 (Z6 (b9 (u4 Y6 (pv 1) j6) d4)) (ag0 an3 (pv 0) (ai0 j6) (ai0 j6)))) (A2 (i := 4) af7.nd rfl (Or.inl rfl))
   (j0 (x5 (i:=5) af7.nd rfl (Or.inr rfl) (Z6 d4))
   (j0 (x5 (i:=6) af7.nd rfl (Or.inl rfl) (pv 4))
   (j0 (ac3 PassesOwn.never rfl (S7 rfl B.range (b9 (pv 2) d4)) (A2 (i := 7) af7.nd rfl (Or.inl rfl))
    (j0 (Y5 (aY7 PySem.F.plainAttrs_list PySem.F.slot_list_append PySem.F.type_list_append ab7 (pv 5) (b9 (u4 O3 (pv 6) (pv 2)) d4)))
    (o8 (x5 (i:=6) af7.nd rfl (Or.inl rfl) (u4 Y6 (pv 6) (pv 2))))))
   (j0 (x5 (i:=8) af7.nd rfl (Or.inl rfl) (p7 (ay8 rfl) (by rfl) B.min (by rfl) (b9 (L0 (N':=["counts","tally"]) (lk:=[none,some 5]) rfl (cn1 (pv 3)) (by rfl) rfl (by decide +kernel) (by exact⟨rfl,trivial⟩) (by rfl) (by exact LkL.ok ⟨⟨rfl,Or.inl rfl,rfl,Or.inl rfl⟩,trivial⟩) (fun _ _ _=>A2 (i:=0) nd2 rfl (Or.inl rfl)) (fun _ _ _=>ah9 (ac2 (C4 GB hr (by rfl) FB G6 (b9 (pv 1) (b9 (pv 0) d4))))) (fun _ _ _=>(u4 W2 (p7 (aI0 K rfl rfl) (by rfl) B.sum (by rfl) (b9 (pv 0) d4)) (p7 (aN9 K rfl rfl) (by rfl) B.sum (by rfl) (b9 (pv 1) d4))))) d4)))
   (o8 (O1 (Y1 (ac2 (C4 GR hr (by rfl) FR G6 (b9 (pv 5) (b9 (pv 8) d4))))) N0 E6)))))))
  (j0 (x5 (i:=9) af7.nd rfl (Or.inr rfl) (C4 GY hr (by rfl) FY G6 (b9 (pv 0) (b9 j6 d4))))
  (j0 (x5 (i:=9) af7.nd rfl (Or.inr rfl) (L0 (N':=["number","great"]) (lk:=[none,some 9]) rfl (U0 (pv 9)) (by rfl) rfl (by decide +kernel) (by exact⟨rfl,trivial⟩) (by rfl) (by exact LkL.ok ⟨⟨rfl,Or.inl rfl,rfl,Or.inl rfl⟩,trivial⟩) (fun _ _ _=>A2 (i:=0) nd3 rfl (Or.inl rfl)) (fun _ _ _=>P4) (fun _ _ _=>(p7 (ao1 rfl) (by rfl) B.min (by rfl) (b9 (p7 (ay9 rfl) (by rfl) B.max (by rfl) (b9 j6 (b9 (pv 0) d4))) (b9 (u4 W2 (p7 (af1 K rfl) (by rfl) B.len PySem.boot_len (b9 (pv 1) d4)) j6) d4))))))
  (o8 (C3 (C4 GR hr (by rfl) FR G6 (b9 (pv 9) (b9 (C7 C5 (C4 GJ hr (by rfl) FJ (at5 (P:=P) (w:=w)) (b9 (L0 (N':=["number","great"]) (lk:=[none,some 9]) rfl (U0 (pv 9)) (by rfl) rfl (by decide +kernel) (by exact⟨rfl,trivial⟩) (by rfl) (by exact LkL.ok ⟨⟨rfl,Or.inl rfl,rfl,Or.inl rfl⟩,trivial⟩) (fun _ _ _=>A2 (i:=0) nd3 rfl (Or.inl rfl)) (fun _ _ _=>P4) (fun _ _ _=>(u4 W2 (u4 W2 (p7 (af1 K rfl) (by rfl) B.len PySem.boot_len (b9 (pv 1) d4)) j6) (pv 0)))) d4)) j6 (fun _ _=>rfl)) d4))))))))))),?_⟩
 case pl =>
  obtain⟨s0,c,p,rest,rfl,hx⟩:=h
  refine⟨_,rfl,_,_,rfl,rfl,⟨by decide,by decide⟩,_,_,rfl,rfl,(by show (0:Int)<6;decide),rfl,_,rfl,?_⟩
  rw[cp6]
  unfold plc at hx
  by_cases e:c / 4 % 6=5
  ·rw[if_pos e]at hx
   rw[decide_eq_true e]
   exact X1 hx
  ·rw[if_neg e]at hx
   rw[decide_eq_false e]
   exact P5 hx
 refine⟨_,rfl,sc,ns,0,rfl,hS,fun r0=>?_⟩
 refine⟨_,_,rfl,rfl,⟨by decide,by decide,by decide⟩,_,_,rfl,rfl,p40,?_⟩
 refine ag5 fun c _=>?_
 refine⟨_,rfl,_,_,rfl,rfl,(by show (0:Int)<4;decide),_,_,rfl,rfl,?_⟩
 refine x6 ?_
 refine⟨_,c,1+c % 4,_,rfl,?_⟩
 obtain⟨n,hn,n1,n2⟩:∃ n:Nat,plc c (1+c % 4)=(n:Int)/\1<=n/\n<=5:=by
  unfold plc
  split
  ·exact⟨5,rfl,by decide,by decide⟩
  ·exact⟨(1+c % 4).toNat,by omega,by omega,by omega⟩
 rw[hn]
 refine⟨_,rfl,n,rfl,n1,n2,fun d kvs H0 s0 fd0 gd0 hK0=>⟨d,kvs,rfl,gd0,fun o=>?_⟩⟩
 have hk:=hK0.wk n2
 have hkl:=hk.len
 have s1:u7 H (upd H0 d (.frz o (.dT kvs))):=s0.upd fd0
 have gd:(upd H0 d (.frz o (.dT kvs))) d=some (.frz o (.dT kvs)):=c6
 generalize upd H0 d (.frz o (.dT kvs))=H1 at s1 gd ⊢
 refine⟨_,rfl,_,_,rfl,rfl,⟨by decide,by decide⟩,(by show 1<=j7;decide),fun l2 f2=>?_⟩
 have s2:=i8 (o:=.lst [.int (c / 24)]) f2
 obtain⟨ms,hms,hml⟩:=bv0 ns (some 1) (some 9)
 refine⟨_,rfl,_,rfl,_,rfl,sc,ns.map V.int,rfl,(s1.trans s2).seq hS,fun p3 f3=>?_⟩
 rw[hms]
 have s3:=i8 (o:=.lst (ms.map V.int)) f3
 refine⟨l2,p3,_,_,rfl,rfl,s3 _ _ c6,c6,by rw[b8];simp;omega,fun lt flt=>⟨lt,rfl,⟨_,SqL.of c6⟩,?_⟩⟩
 have s4:=i8 (o:=.lst ([V.int (c / 24)]++ms.map V.int)) flt
 have gt:(upd (upd (upd H1 l2 (.lst [.int (c / 24)])) p3 (.lst (ms.map V.int))) lt (.lst ([V.int (c / 24)]++ms.map V.int))) lt=some (.lst ((c / 24::ms).map V.int)):=c6
 have s14:=(s2.trans s3).trans s4
 generalize upd (upd (upd H1 l2 (.lst [.int (c / 24)])) p3 (.lst (ms.map V.int))) lt (.lst ([V.int (c / 24)]++ms.map V.int))=HL at s14 gt ⊢
 have tbH:Tbs PT PU H:=⟨tb1,tb2,hne⟩
 have tbL:Tbs PT PU HL:=(tbH.same s1).same s14
 have gdL:=s14 _ _ gd
 have hSL:=(s1.trans s14).seq hS
 refine bG4 (K:=K) (a:=lt) (xs:=(c / 24::ms).map V.int) (fun _ σ Ha=>∃ e4 e5 e6 e7 e8,σ=[some (.ref sc),some (.int c),some (.int n),some (.ref d),e4,e5,e6,e7,e8,none]/\Gw PT PU HL Ha/\Tbs PT PU Ha) ⟨none,none,none,none,none,rfl,fun _ _ _ _ e=>e,tbL⟩ (fun i σ Ha _ ⟨_,_,_,_,_,_,g,_⟩=>SqL.of (ay2 g tbL gt)) ?_ ?_
 ·rintro i x σ Hb hx ⟨e4,e5,e6,e7,e8,rfl,gB,tbB⟩
  obtain⟨z,rfl⟩:=int_at hx
  refine x6 ?_
  refine⟨(by show 0<=j7;omega),fun tl ftl=>?_⟩
  have s5:=i8 (o:=.lst []) ftl
  refine x6 ?_
  refine⟨_,rfl,?_⟩
  refine x6 ?_
  refine⟨_,rfl,(n:Int),rfl,by omega,by omega,?_⟩
  rw[m7]
  have hpos:(0:Int)<(n:Int):=by omega
  refine Y2 (lo:=0) (n:=n) (fun m σ Hc=>∃ (ts:List Int) (rz:Int) (e7:Option V),σ=[some (.ref sc),some (.int c),some (.int n),some (.ref d),some (.int z),some (.ref tl),some (.int rz),e7,e8,none]/\u7 Hb Hc/\Hc tl=some (.lst (ts.map V.int))/\ts.length=m/\∀ x∈ts,0<=x/\x<(n:Int)) ⟨[],z,e7,rfl,s5,c6,rfl,fun x hx=>absurd hx C2⟩ ?_ ?_
  ·rintro m σ Hc hm ⟨ts,rz,e7,rfl,sc',gt',hl,hp⟩
   refine x6 ?_
   refine⟨_,rfl,.inl ⟨rfl,_,SqL.of gt'⟩,_,rfl,_,rfl,_,_,rfl,rfl,hpos,tl,_,_,rfl,rfl,gt',by rw[b8];omega,?_⟩
   refine⟨_,rfl,_,rfl,_,_,rfl,rfl,⟨by omega,by omega⟩,?_⟩
   refine⟨ts++[rz % (n:Int)],_,_,rfl,sc'.upd ftl,by rw[c6,j9];rfl,by rw[m6,hl];rfl,fun x hx=>?_⟩
   rcases u6.mp hx with h | h
   ·exact hp x h
   ·rw[x8.mp h]
    exact⟨Q6 _ (by omega),L8 _ hpos⟩
  ·rintro σ Hc ⟨ts,rz,e7,rfl,sc',gt',hl,hp⟩
   have gC:=gB.trans (ab0 (P:=PT) (P':=PU) sc')
   have tbC:=tbB.same sc'
   have gdC:Hc d=some (.frz o (.dT kvs)):=aH0 gC tbL gdL (fun _ y=>by cases y)
   have hA0:AllP ts:=fun j x h=>(hp x (d8 h)).1
   have hA1:AllP (J8 ts):=bl9.mpr fun x hx=>by rw[hl];exact(hp x hx).2
   have htl:S0 ts:=⟨by omega,by omega⟩
   refine⟨_,rfl,d,o,kvs,rfl,gdC,fun D hD=>bT1 (a:=d) (D:=D) (o:=o) (kvs:=kvs) (fun i xs σ' H'=>(∃ v,σ'=[v,some (.ref tl)])/\u7 Hc H'/\H' D=some (.lst xs)/\∃ us:List Int,xs=us.map V.int/\us.length<=i/\(∀ m∈us,∃ vs:List Int,vs.length=ts.length/\Gr vs/\bd2 ts vs=true/\m=vs.sum - ts.sum)/\∀ kv∈kvs.take i,∀ vs:List Int,kv.1=vs.map Sum.inl->bd2 ts vs=true->vs.sum - ts.sum∈us)
    ⟨⟨none,rfl⟩,i8 hD,c6,[],rfl,c9 _,fun m hm=>absurd hm C2,fun kv hkv=>absurd hkv C2⟩ (by omega) (fun i xs σ' H' hi ⟨_,s6,h6,us,e6,l6,_⟩=>⟨s6 _ _ gdC,h6,by rw[e6,b8];exact l6⟩) ?_ ?_⟩
   ·rintro i xs kv kp σ' H' N kN hx hp' ⟨⟨v,rfl⟩,s6,h6,us,rfl,l6,m1,m2⟩
    obtain⟨vs,e1,e2,e3⟩:=hk.key kv (d8 hx)
    rw[e1,au1]at hp'
    refine x6 ?_
    refine⟨_,rfl,_,rfl,tl,kp,ts,vs,rfl,.inl (SqL.of (s6 _ _ gt')),.inr (SqT.of hp'),by omega,by omega,fun H7 s7=>⟨_,rfl,?_⟩⟩
    have tk:∀ us':List Int,(∀ z∈us,z∈us')->(bd2 ts vs=true->vs.sum - ts.sum∈us')->∀ kv'∈kvs.take (i+1),∀ vs':List Int,kv'.1=vs'.map Sum.inl->bd2 ts vs'=true->vs'.sum - ts.sum∈us':=fun us' i1 i2 kv' hkv vs' e4 e5=>by
     rw[A7,hx]at hkv
     rcases u6.mp hkv with h | h
     ·exact i1 _ (m2 kv' h vs' e4 e5)
     ·have h':kv'=kv:=by simpa using h
      subst h'
      have:=ae1 (e1.symm.trans e4)
      subst this
      exact i2 e5
    by_cases hb:bd2 ts vs=true
    ·rw[hb]
     refine X1 ⟨_,rfl,kp,vs,rfl,SqT.of (s7 _ _ hp'),_,rfl,tl,ts,rfl,SqL.of ((s6.trans s7) _ _ gt'),_,_,rfl,rfl,s7 _ _ h6,?_⟩
     refine kN _ _ _ ⟨⟨_,rfl⟩,(s6.trans s7).upd hD,c6,us++[vs.sum - ts.sum],by rw[j9];rfl,by rw[m6];exact Nat.succ_le_succ l6,fun m hm=>?_,tk _ (fun z hz=>G3 _ hz) fun _=>m9 _ f9⟩
     rcases u6.mp hm with h | h
     ·exact m1 m h
     ·exact⟨vs,by omega,e3,hb,by simpa using h⟩
    ·rw[ci8]at hb
     rw[hb]
     exact P5 (kN _ _ _ ⟨⟨_,rfl⟩,s6.trans s7,s7 _ _ h6,us,rfl,by omega,m1,tk _ (fun z hz=>hz) fun z=>by rw[hb]at z;cases z⟩)
   rintro xs σ' H3 ⟨⟨v,rfl⟩,s3',g3,us,rfl,l3,m1,m2⟩
   rw[k8 (c9 _)]at m2
   have hin:∀ vs:List Int,vs.length=ts.length->Gr vs->(∀ j,j<ts.length->ts.getD j 0<=vs.getD j 0)->vs.sum - ts.sum∈us:=fun vs e G g=>by
    obtain⟨kvc,hkc,ekc⟩:=hk.all vs (by omega) G
    exact m2 kvc hkc vs ekc (aI5.mpr g)
   obtain⟨fs,f1,f2',f3'⟩:=bS4 htl.2 hA1
   refine⟨D,us,rfl,SqL.of g3,bw5 (hin fs f1 f2' f3'),fun due hd1 hd2=>?_⟩
   have hDue:Due ts due:=⟨fun vs e G g=>hd2 _ (hin vs e G g),by
    obtain⟨vs,v1,v2,v3,v4⟩:=m1 due hd1
    exact⟨vs,v1,v2,aI5.mp v3,v4⟩⟩
   refine x6 ?_
   refine⟨_,rfl,_,rfl,tl,ts,due,rfl,s3' _ _ gt',htl,hA0,hA1,hDue,tbC.same s3',fun He gE tbE=>?_⟩
   exact⟨_,rfl,P5 ⟨_,_,_,_,_,rfl,(gC.trans (ab0 s3')).trans gE,tbE⟩⟩
 ·rintro σ Ha ⟨e4,e5,e6,e7,e8,rfl,gA,tbA⟩
  refine⟨_,rfl,sc,ns,24,rfl,bF8 gA tbL hSL,by decide,by decide,fun l ts H1 t1 t2 s1 _ g1=>?_⟩
  have tb1:=tbA.same s1
  refine⟨_,rfl,l,rfl,⟨_,SqL.of g1⟩,fun D hD=>Q5 (K:=K) (a:=l) (D:=D) (ys:=ts.map V.int) (fun i xs σ' H'=>(∃ v,σ'=[v,some (.ref l)])/\u7 H1 H'/\H' D=some (.lst xs)/\∃ us:List Int,xs=us.map V.int/\us.length=i/\∀ x∈us,0<=x/\x<(ts.length:Int)) ⟨⟨none,rfl⟩,i8 hD,c6,[],rfl,rfl,fun x hx=>absurd hx C2⟩ (by rw[b8];omega)
   (fun i xs σ' H' hi ⟨_,s6,h6,us,e6,l6,_⟩=>⟨SqL.of (s6 _ _ g1),h6,by rw[e6,b8,l6];exact c9 _⟩) ?_ ?_⟩
  ·rintro i xs x σ' H' N' kN hx ⟨⟨v,rfl⟩,s6,h6,us,rfl,l6,hu⟩
   obtain⟨z,ez,rfl⟩:=P6 hx
   refine x6 (L9 ?_)
   refine⟨_,rfl,_,_,rfl,_,rfl,l,_,rfl,.inl (SqL.of (s6 _ _ g1)),_,_,rfl,rfl,_,_,rfl,h6,kN _ _ _ ⟨⟨_,rfl⟩,s6.upd hD,c6,us++[_],by rw[j9];rfl,by rw[m6,l6];rfl,fun x hx=>?_⟩⟩
   rcases u6.mp hx with h | h
   ·exact hu x h
   ·rw[x8.mp h,b8]
    exact bT3 z (by omega)
  rintro xs σ' H2 ⟨⟨v,rfl⟩,s2,gD,us,rfl,lus,hu⟩
  rw[b8]at lus
  rw[<- lus]at hu
  have hA0:AllP us:=fun j x h=>(hu x (d8 h)).1
  have hA1:AllP (J8 us):=bl9.mpr fun x hx=>(hu x hx).2
  have htl:S0 us:=⟨by omega,by omega⟩
  have hn24:=htl.2
  refine⟨_,rfl,_,rfl,D,rfl,⟨_,SqL.of gD⟩,fun D2 hD2=>Q5 (K:=K) (a:=D) (D:=D2) (ys:=us.map V.int) (fun i xs σ' H'=>(∃ v,σ'=[v,some (.ref D)])/\u7 H2 H'/\H' D2=some (.lst xs)/\xs=((us.take i).map fun z=>(us.length:Int) - 1 - z).map V.int) ⟨⟨none,rfl⟩,i8 hD2,c6,by rw[bj7];rfl⟩ (by rw[b8];omega)
   (fun i xs σ' H' hi ⟨_,s6,h6,e6⟩=>⟨SqL.of (s6 _ _ gD),h6,by rw[e6,b8,b8,q8];omega⟩) ?_ ?_⟩
  ·rintro i xs x σ' H' N' kN hx ⟨⟨v,rfl⟩,s6,h6,rfl⟩
   obtain⟨z,ez,rfl⟩:=P6 hx
   refine x6 (L9 ?_)
   refine⟨_,rfl,D,_,rfl,.inl (SqL.of (s6 _ _ gD)),_,_,rfl,rfl,_,rfl,_,_,rfl,rfl,h6,kN _ _ _ ⟨⟨_,rfl⟩,s6.upd hD2,c6,?_⟩⟩
   rw[A7,ez,j9,j9,b8]
   rfl
  rintro xs σ' H3 ⟨⟨v,rfl⟩,s3',gD2,rfl⟩
  rw[b8,cj2]at gD2
  have tb3:=(tb1.same s2).same s3'
  refine⟨D2,J8 us,rfl,.inl (SqL.of gD2),by rw[N8];exact hn24,(by show (J8 us).length<=24;rw[N8];exact hn24),fun _ _=>⟨tb3,fun p b cs ks mn j H4 g4 tb4 _ T=>?_⟩,fun h=>absurd (show S0 (J8 us) by unfold S0;rw[N8];exact htl) h,fun _ h=>absurd hA1 h⟩
  refine⟨p,_,_,_,rfl,rfl,SqT.of T.tup,C1 (j:=0) rfl,D,us,_,rfl,ay2 g4 tb3 (s3' _ _ gD),htl,hA0,hA1,Due.of hn24 hA1 T.lst T.cs_,tb4,fun H' _ _=>q H'⟩
theorem cd2 {fI fU fV fκ fθ fO fG fA fρ fM fβ fω fW fF fL fY fX fD fE fS fN fQ fJ fη fC fK fα fP fψ fδ fφ fν fτ CN CW PT d PU:Addr}{fdU fdV fdκ fdθ fdG fdρ fdM fdω fdL fdY fdX fdD fdE fdS fdN fdQ fdJ fdη fdK fdα fdP fdψ fdδ fdφ fdν fdτ:FuncData}(F0:Fun K "law" "law" bf9 f fd)(Bx:Bn mg)(mo:mg "MOST_PLACES"=some (.int 24 tk))
  (FI:Fq K mg "is_place" aX3 fI fdI ["places","number"])
  (FU:Fq K mg "turned_up" sUp fU fdU ["places","tie"])
  (FV:Fq K mg "made" aL6 fV fdV ["places","ties"])
  (Fκ:Fq K mg "all_pairs" bz9 fκ fdκ ["places"])
  (Fθ:Fq K mg "other_web" bA0 fθ fdθ ["web"])
  (FT:Fq K mg "check_tally" ax0 fT fdT ["tally"])
  (FO:Fq K mg "order_of" aW9 fO fdO ["tally"])
  (FG:Fq K mg "falling" as7 fG fdG ["tally"])
  (FA:Fq K mg "room_among" ah8 fA fdA ["numbers","most","r"])
  (Fρ:Fq K mg "room_with" aE7 fρ fdρ ["tally","most","r"])
  (FM:Fq K mg "room" aW8 fM fdM ["tally","r"])
  (Fβ:Fq K mg "places_below" al6 fβ fdβ ["numbers"])
  (Fω:Fq K mg "wall_with" aw7 fω fdω ["tally","most"])
  (FW:Fq K mg "wall_of" aW7 fW fdW ["tally"])
  (FF:Fq K mg "first_of_order" aw9 fF fdF ["tally","many","passed_over"])
  (FL:Fq K mg "left_of_others" aL7 fL fdL ["tally","place","ends"])
  (FY:Fq K mg "laid_around" aX1 fY fdY ["tally","place","ends"])
  (FX:Fq K mg "answered" bA3 fX fdX ["tally"])
  (FD:Fq K mg "least_where" aE6 fD fdD ["low","high","holds"])
  (FE:Fq K mg "above" bA4 fE fdE ["numbers","level","most"])
  (FS:Fq K mg "shares" ak0 fS fdS ["numbers","much","most"])
  (FN:Fq K mg "check_none_below" bs3 fN fdN ["tally"])
  (FQ:Fq K mg "off_by_want" aX0 fQ fdQ ["tally","want"])
  (FJ:Fq K mg "least_off" aL8 fJ fdJ ["tally"])
  (Fη:Fq K mg "least_on" bA2 fη fdη ["tally"])
  (FC:Fq K mg "_law_cell_at" aL9 fC fdC ["script","k"])
  (FK:Fq K mg "_law_mixed" bA1 fK fdK ["cell","k","bound"])
  (Fα:Fq K mg "_law_tally" bz8 fα fdα ["script","most"])
  (FP:Fq K mg "_law_pairs" aw8 fP fdP ["places"])
  (Fψ:Fq K mg "_law_all_webs" aX5 fψ fdψ ["places"])
  (Fδ:Fq K mg "_law_counts" aX4 fδ fdδ ["found","places"])
  (Fφ:Fq K mg "_law_whole" aE5 fφ fdφ ["found"])
  (Fν:Fq K mg "_law_above" ax1 fν fdν ["tally","counts"])
  (Fτ:Fq K mg "_law_right" aE8 fτ fdτ ["tally","due"])
  (xB:mg "BadTally"=some (.ref CB))(yB:am6 K CB)(xN:mg "BadNumber"=some (.ref CN))(yN:am6 K CN)(xW:mg "NoWeb"=some (.ref CW))(yW:am6 K CW)(hc:fdO.code=.ref c)(LB:av2 base mg c PT)(hd:fdS.code=.ref d)(LD:av2 base mg d PU):A0 P w K mg base CX0 10 f fd ["script"] (aW3 K PT PU):=by
 have GT:A0 P w K mg base (CXE P w) 1 fT fdT ["tally"] (aL5 K CB):=aR3 FT.F Bx mo xB yB
 have GN:=cd5 (P:=P) (w:=w) (base:=base) FN.F FT GT Fβ (aZ2 Fβ.F Bx) xW yW
 have GM:A0 P w K mg base (CXE P w) 3 fM fdM ["tally","r"] (bf1 K CB CN):=bP2 FM.F Bx FT FG FA Fρ mo xB yB xN yN
 have GS:A0 P w K mg base (CXE P w) 4 fS fdS ["numbers","much","most"] (bx7 K PU):=cc9 FS.F hd LD Bx FE FD
 have GX:A0 P w K mg base (CXE P w) 5 fX fdX ["tally"] (by5 K CB PT):=cd6 FX.F Bx FI FU FV FO hc LB FT FF FL FY FW FG FA Fβ Fω mo xB yB
 have GJ:=bP8 (P:=P) (w:=w) (base:=base) FJ.F Bx FN (GN.mono (by decide)) FM (GM.mono (by decide)) FQ ((bP3 FQ.F Bx).mono (by decide)) FS (GS.mono (by decide)) FX GX
 have Gη:=cd3 (P:=P) (w:=w) (base:=base) Fη.F Bx FN (GN.mono (by decide)) FJ GJ Fθ ((bC9 Fθ.F Bx Fκ).mono (by decide))
 have Gν:=cd8 (P:=P) (w:=w) (base:=base) Fν.F Bx
 have Gτ:=bC8 (P:=P) (w:=w) (base:=base) Fτ.F Bx Fη (Gη.mono (by decide)) Fφ ((bC4 Fφ.F Bx).mono (by decide)) Fν (Gν.mono (by decide)) Fδ ((bP9 Fδ.F Bx).mono (by decide))
 exact bP6 F0 Bx FC ((bm9 FC.F Bx).mono (by decide)) Fψ ((bQ0 Fψ.F Bx FP).mono (by decide)) Fν (Gν.mono (by decide)) Fτ Gτ Fα (A0.mono (cc8 Fα.F Bx FC FK FP) (by decide)) FJ (GJ.mono (by decide))
end
end Web
namespace Web
open PySem L2
def aA9 (K:W.Frag):List (Addr × Addr):=match PySem.W.tabIn K "order_of",PySem.W.tabIn K "shares" with
 | some q,some r=>[q,r]
 | _,_=>[]
def aY2 (K:W.Frag):Addr:=((PySem.W.tabIn K "order_of").getD (0,0)).2
def aY1 (K:W.Frag):Addr:=((PySem.W.tabIn K "shares").getD (0,0)).2
theorem ls1 {p:List Value->Prop}(h:∀ x0,p [x0]):∀ us,us.length=1->p us
 | [x0],_=>h x0
theorem ls2 {p:List Value->Prop}(h:∀ x0 x1,p [x0,x1]):∀ us,us.length=2->p us
 | [x0,x1],_=>h x0 x1
theorem ls3 {p:List Value->Prop}(h:∀ x0 x1 x2,p [x0,x1,x2]):∀ us,us.length=3->p us
 | [x0,x1,x2],_=>h x0 x1 x2
theorem fq {K:W.Frag}{mg:Str->Option Value}{st:Stmt}(X:K.In h)(G:h.Ns j5 mg)(a:j8 K j5 x=some (some (.ref f)))(F:Fun K x x st f fd)
  (b:∀ (kV doc pm:Value) (an:Option Addr) (cdv ct:Value) (us:List Value),us.length=ps.length->bj8 (W8 x x (ao0 st) (U2 st) (q0 st) .none kV doc pm an cdv ct) ⟨us,[]⟩=pure (ps.zip us)):Fq K mg x st f fd ps:=⟨F,F.binds b,ad0 X G a⟩
set_option maxHeartbeats 0 in
theorem all_mk {l:PySem.W.OpenLaw}{K:W.Frag}{mg:Str->Option Value}{fa fI fU fV fκ fθ fO fG fA fρ fM fβ fω fW fF fL fY fX fD fE fS fN fQ fJ fη fC fK fα fP fψ fδ fφ fν fτ fZ CBadTally CBadNumber CNoWeb:Addr}(X:K.In h)(G:h.Ns j5 mg)(hfa:mg "law"=some (.ref fa))
  {fdU fdV fdκ fdθ fdG fdρ fdM fdω fdL fdY fdX fdD fdE fdS fdN fdQ fdJ fdη fdK fdα fdP fdψ fdδ fdφ fdν fdτ fdZ:FuncData}
  (aI:j8 K j5 "is_place"=some (some (.ref fI)))(FI:Fun K "is_place" "is_place" aX3 fI fdI)
  (aU:j8 K j5 "turned_up"=some (some (.ref fU)))(FU:Fun K "turned_up" "turned_up" sUp fU fdU)
  (aV:j8 K j5 "made"=some (some (.ref fV)))(FV:Fun K "made" "made" aL6 fV fdV)
  (aκ:j8 K j5 "all_pairs"=some (some (.ref fκ)))(Fκ:Fun K "all_pairs" "all_pairs" bz9 fκ fdκ)
  (aθ:j8 K j5 "other_web"=some (some (.ref fθ)))(Fθ:Fun K "other_web" "other_web" bA0 fθ fdθ)
  (aT:j8 K j5 "check_tally"=some (some (.ref fT)))(FT:Fun K "check_tally" "check_tally" ax0 fT fdT)
  (aO:j8 K j5 "order_of"=some (some (.ref fO)))(FO:Fun K "order_of" "order_of" aW9 fO fdO)
  (aG:j8 K j5 "falling"=some (some (.ref fG)))(FG:Fun K "falling" "falling" as7 fG fdG)
  (aA:j8 K j5 "room_among"=some (some (.ref fA)))(FA:Fun K "room_among" "room_among" ah8 fA fdA)
  (aρ:j8 K j5 "room_with"=some (some (.ref fρ)))(Fρ:Fun K "room_with" "room_with" aE7 fρ fdρ)
  (aM:j8 K j5 "room"=some (some (.ref fM)))(FM:Fun K "room" "room" aW8 fM fdM)
  (aβ:j8 K j5 "places_below"=some (some (.ref fβ)))(Fβ:Fun K "places_below" "places_below" al6 fβ fdβ)
  (aω:j8 K j5 "wall_with"=some (some (.ref fω)))(Fω:Fun K "wall_with" "wall_with" aw7 fω fdω)
  (aW:j8 K j5 "wall_of"=some (some (.ref fW)))(FW:Fun K "wall_of" "wall_of" aW7 fW fdW)
  (aF:j8 K j5 "first_of_order"=some (some (.ref fF)))(FF:Fun K "first_of_order" "first_of_order" aw9 fF fdF)
  (aL:j8 K j5 "left_of_others"=some (some (.ref fL)))(FL:Fun K "left_of_others" "left_of_others" aL7 fL fdL)
  (aY:j8 K j5 "laid_around"=some (some (.ref fY)))(FY:Fun K "laid_around" "laid_around" aX1 fY fdY)
  (aX:j8 K j5 "answered"=some (some (.ref fX)))(FX:Fun K "answered" "answered" bA3 fX fdX)
  (aD:j8 K j5 "least_where"=some (some (.ref fD)))(FD:Fun K "least_where" "least_where" aE6 fD fdD)
  (aE:j8 K j5 "above"=some (some (.ref fE)))(FE:Fun K "above" "above" bA4 fE fdE)
  (aS:j8 K j5 "shares"=some (some (.ref fS)))(FS:Fun K "shares" "shares" ak0 fS fdS)
  (aN:j8 K j5 "check_none_below"=some (some (.ref fN)))(FN:Fun K "check_none_below" "check_none_below" bs3 fN fdN)
  (aQ:j8 K j5 "off_by_want"=some (some (.ref fQ)))(FQ:Fun K "off_by_want" "off_by_want" aX0 fQ fdQ)
  (aJ:j8 K j5 "least_off"=some (some (.ref fJ)))(FJ:Fun K "least_off" "least_off" aL8 fJ fdJ)
  (aη:j8 K j5 "least_on"=some (some (.ref fη)))(Fη:Fun K "least_on" "least_on" bA2 fη fdη)
  (aC:j8 K j5 "_law_cell_at"=some (some (.ref fC)))(FC:Fun K "_law_cell_at" "_law_cell_at" aL9 fC fdC)
  (aK:j8 K j5 "_law_mixed"=some (some (.ref fK)))(FK:Fun K "_law_mixed" "_law_mixed" bA1 fK fdK)
  (aα:j8 K j5 "_law_tally"=some (some (.ref fα)))(Fα:Fun K "_law_tally" "_law_tally" bz8 fα fdα)
  (aP:j8 K j5 "_law_pairs"=some (some (.ref fP)))(FP:Fun K "_law_pairs" "_law_pairs" aw8 fP fdP)
  (aψ:j8 K j5 "_law_all_webs"=some (some (.ref fψ)))(Fψ:Fun K "_law_all_webs" "_law_all_webs" aX5 fψ fdψ)
  (aδ:j8 K j5 "_law_counts"=some (some (.ref fδ)))(Fδ:Fun K "_law_counts" "_law_counts" aX4 fδ fdδ)
  (aφ:j8 K j5 "_law_whole"=some (some (.ref fφ)))(Fφ:Fun K "_law_whole" "_law_whole" aE5 fφ fdφ)
  (aν:j8 K j5 "_law_above"=some (some (.ref fν)))(Fν:Fun K "_law_above" "_law_above" ax1 fν fdν)
  (aτ:j8 K j5 "_law_right"=some (some (.ref fτ)))(Fτ:Fun K "_law_right" "_law_right" aE8 fτ fdτ)
  (aZ:j8 K j5 "law"=some (some (.ref fZ)))(FZ:Fun K "law" "law" bf9 fZ fdZ)
  (mo:j8 K j5 "MOST_PLACES"=some (some (.int 24 tk)))
  (aBadTally:j8 K j5 "BadTally"=some (some (.ref CBadTally)))
  (aBadNumber:j8 K j5 "BadNumber"=some (some (.ref CBadNumber)))
  (aNoWeb:j8 K j5 "NoWeb"=some (some (.ref CNoWeb)))
  (qBadTally:PySem.W.excIn K CBadTally [.type "ValueError",.type "Exception",.type "BaseException",.type "object"] "ValueError.__new__"=true)
  (xmBadTally:PySem.W.exmOne K (.ref CBadTally) (.ref CBadTally)=some true)
  (qBadNumber:PySem.W.excIn K CBadNumber [.type "ValueError",.type "Exception",.type "BaseException",.type "object"] "ValueError.__new__"=true)
  (xmBadNumber:PySem.W.exmOne K (.ref CBadNumber) (.ref CBadNumber)=some true)
  (qNoWeb:PySem.W.excIn K CNoWeb [.type "ValueError",.type "Exception",.type "BaseException",.type "object"] "ValueError.__new__"=true)
  (xmNoWeb:PySem.W.exmOne K (.ref CNoWeb) (.ref CNoWeb)=some true)
  (tb:(PySem.W.tabIn K "order_of").isSome=true)
  (tb2:(PySem.W.tabIn K "shares").isSome=true)
  (z1:j8 K j5 "len"=some none)
  (z2:j8 K j5 "range"=some none)
  (z3:j8 K j5 "enumerate"=some none)
  (z4:j8 K j5 "list"=some none)
  (z5:j8 K j5 "tuple"=some none)
  (z6:j8 K j5 "sorted"=some none)
  (z7:j8 K j5 "set"=some none)
  (z8:j8 K j5 "isinstance"=some none)
  (z9:j8 K j5 "int"=some none)
  (z10:j8 K j5 "bool"=some none)
  (z11:j8 K j5 "min"=some none)
  (z12:j8 K j5 "max"=some none)
  (z13:j8 K j5 "sum"=some none)
  (z14:j8 K j5 "str"=some none)
  (z15:j8 K j5 "ValueError"=some none)
  (z16:j8 K j5 "all"=some none)
  (z17:j8 K j5 "zip"=some none) :
  ∃ fd:FuncData,(∀ (s:Shared) (v:Value),bq4 s fd ⟨[v],[]⟩ [("script",v)])/\∀ base:Heap,K.In base->base.Ns j5 mg->(∀ q∈aA9 K,av2 base mg q.1 q.2)->A0 l.prog w K mg base CX0 10 fa fd ["script"] (aW3 K (aY2 K) (aY1 K)):=by
 have e:=hfa.symm.trans (ad0 X G aZ)
 cases e
 have B:Bn mg:=⟨v7 X G z1,v7 X G z2,v7 X G z3,v7 X G z4,v7 X G z5,v7 X G z6,v7 X G z7,v7 X G z8,v7 X G z9,v7 X G z10,v7 X G z11,v7 X G z12,v7 X G z13,v7 X G z14,v7 X G z15,v7 X G z16,v7 X G z17⟩
 obtain⟨⟨c,PT⟩,hcp⟩:=o9.mp tb
 obtain⟨⟨d,PU⟩,hdp⟩:=o9.mp tb2
 obtain⟨_,_,_,_,_,_,_,_,_,_,lO,_⟩:=FO.ex
 have hc:=aV9 hcp aO lO
 obtain⟨_,_,_,_,_,_,_,_,_,_,lS,_⟩:=FS.ex
 have hd:=aV9 hdp aS lS
 have ept:aY2 K=PT:=by unfold aY2;rw[hcp];rfl
 have epu:aY1 K=PU:=by unfold aY1;rw[hdp];rfl
 have ets:aA9 K=[(c,PT),(d,PU)]:=by unfold aA9;rw[hcp,hdp]
 rw[ept,epu,ets]
 obtain⟨_,_,y1,y2,y3,y4,y5,y6,_,rfl,_,_⟩:=FZ.ex
 exact⟨W8 "law" "law" (ao0 bf9) (U2 bf9) (q0 bf9) .none y1 y2 y3 y4 y5 y6,fun s v=>.of_eq rfl,fun base _ _ hL=>cd2 FZ B (ad0 X G mo) (fq X G aI FI fun _ _ _ _ _ _=>ls2 fun _ _=>rfl) (fq X G aU FU fun _ _ _ _ _ _=>ls2 fun _ _=>rfl) (fq X G aV FV fun _ _ _ _ _ _=>ls2 fun _ _=>rfl) (fq X G aκ Fκ fun _ _ _ _ _ _=>ls1 fun _=>rfl) (fq X G aθ Fθ fun _ _ _ _ _ _=>ls1 fun _=>rfl) (fq X G aT FT fun _ _ _ _ _ _=>ls1 fun _=>rfl) (fq X G aO FO fun _ _ _ _ _ _=>ls1 fun _=>rfl) (fq X G aG FG fun _ _ _ _ _ _=>ls1 fun _=>rfl) (fq X G aA FA fun _ _ _ _ _ _=>ls3 fun _ _ _=>rfl) (fq X G aρ Fρ fun _ _ _ _ _ _=>ls3 fun _ _ _=>rfl) (fq X G aM FM fun _ _ _ _ _ _=>ls2 fun _ _=>rfl) (fq X G aβ Fβ fun _ _ _ _ _ _=>ls1 fun _=>rfl) (fq X G aω Fω fun _ _ _ _ _ _=>ls2 fun _ _=>rfl) (fq X G aW FW fun _ _ _ _ _ _=>ls1 fun _=>rfl) (fq X G aF FF fun _ _ _ _ _ _=>ls3 fun _ _ _=>rfl) (fq X G aL FL fun _ _ _ _ _ _=>ls3 fun _ _ _=>rfl) (fq X G aY FY fun _ _ _ _ _ _=>ls3 fun _ _ _=>rfl) (fq X G aX FX fun _ _ _ _ _ _=>ls1 fun _=>rfl) (fq X G aD FD fun _ _ _ _ _ _=>ls3 fun _ _ _=>rfl) (fq X G aE FE fun _ _ _ _ _ _=>ls3 fun _ _ _=>rfl) (fq X G aS FS fun _ _ _ _ _ _=>ls3 fun _ _ _=>rfl) (fq X G aN FN fun _ _ _ _ _ _=>ls1 fun _=>rfl) (fq X G aQ FQ fun _ _ _ _ _ _=>ls2 fun _ _=>rfl) (fq X G aJ FJ fun _ _ _ _ _ _=>ls1 fun _=>rfl) (fq X G aη Fη fun _ _ _ _ _ _=>ls1 fun _=>rfl) (fq X G aC FC fun _ _ _ _ _ _=>ls2 fun _ _=>rfl) (fq X G aK FK fun _ _ _ _ _ _=>ls3 fun _ _ _=>rfl) (fq X G aα Fα fun _ _ _ _ _ _=>ls2 fun _ _=>rfl) (fq X G aP FP fun _ _ _ _ _ _=>ls1 fun _=>rfl) (fq X G aψ Fψ fun _ _ _ _ _ _=>ls1 fun _=>rfl) (fq X G aδ Fδ fun _ _ _ _ _ _=>ls2 fun _ _=>rfl) (fq X G aφ Fφ fun _ _ _ _ _ _=>ls1 fun _=>rfl) (fq X G aν Fν fun _ _ _ _ _ _=>ls2 fun _ _=>rfl) (fq X G aτ Fτ fun _ _ _ _ _ _=>ls2 fun _ _=>rfl) (ad0 X G aBadTally) ⟨qBadTally⟩ (ad0 X G aBadNumber) ⟨qBadNumber⟩ (ad0 X G aNoWeb) ⟨qNoWeb⟩ hc (hL (c,PT) f9) hd (hL (d,PU) (d6 _ f9))⟩
theorem walk {l:PySem.W.OpenLaw} {q:Program} {loose:List Str} {d:DefRec} {K:Params->PySem.W.Frag} (hn:l.most=some 63) (hdf:d.params.defaults=[])
  (hY:∀ (w:World) (h:Heap),YP w h->(K w.params).In h) (hK0:∀ w:World,PySem.W.noTabs (K w.params)=true) (hrec:((PyProof.Rows.recsOf q).find? (fun e=>e.name == ("order_of":Str))).isSome=true) (htb:∀ w:World,(PySem.W.tabIn (K w.params) "order_of").isSome=true) (hrec2:((PyProof.Rows.recsOf q).find? (fun e=>e.name == ("shares":Str))).isSome=true) (htb2:∀ w:World,(PySem.W.tabIn (K w.params) "shares").isSome=true) (hne:∀ w:World,decide (aY2 (K w.params)=aY1 (K w.params))=false)
  (F : ∀ (w : World) (mg : Str -> Option Value) (fa : Addr) (h : Heap), (K w.params).In h -> h.Ns j5 mg -> mg d.name = some (.ref fa) ->
   ∃ fd:FuncData,(∀ (s:Shared) (u:Value),bq4 s fd ⟨[u],[]⟩ [("script",u)])/\∀ base:Heap,(K w.params).In base->base.Ns j5 mg->(∀ q∈aA9 (K w.params),av2 base mg q.1 q.2)->A0 l.prog w (K w.params) mg base CX0 10 fa fd ["script"] (aW3 (K w.params) (aY2 (K w.params)) (aY1 (K w.params)))) :
  PySem.W.WalkO q loose XP YP l.row.toRowW d [] (fun f vs=>PySem.call f vs):=by
 refine L2.walk_ofT (n:=63) (k:=10) (x:="script") (CX:=fun _=>CX0) (sp:=fun w _=>aW3 (K w.params) (aY2 (K w.params)) (aY1 (K w.params))) (ts:=fun w=>aA9 (K w.params)) hn (by decide) hdf ⟨rfl,by decide,by decide⟩ hY hK0 (fun w loose mean mg mb h T X=>?_) F (fun w H a ns hl hT hS=>?_) fun _ _ _ _ _ z=>z
 ·obtain⟨⟨c,PT⟩,hcp⟩:=o9.mp (htb w)
  obtain⟨⟨e,PU⟩,hep⟩:=o9.mp (htb2 w)
  obtain⟨d',hd'⟩:=o9.mp hrec
  obtain⟨d2,hd2⟩:=o9.mp hrec2
  have ets:aA9 (K w.params)=[(c,PT),(e,PU)]:=by unfold aA9;rw[hcp,hep]
  show PySem.W.TabsAt (aA9 (K w.params)) h
  rw[ets]
  intro r hr
  rcases d7.mp hr with hr | hr
  ·rw[hr]
   exact PySem.W.tab_of T X hd' hcp
  ·rw[x8.mp hr]
   exact PySem.W.tab_of T X hd2 hep
 ·obtain⟨⟨c,PT⟩,hcp⟩:=o9.mp (htb w)
  obtain⟨⟨e,PU⟩,hep⟩:=o9.mp (htb2 w)
  have ets:aA9 (K w.params)=[(c,PT),(e,PU)]:=by unfold aA9;rw[hcp,hep]
  have ept:aY2 (K w.params)=PT:=by unfold aY2;rw[hcp];rfl
  have epu:aY1 (K w.params)=PU:=by unfold aY1;rw[hep];rfl
  have hn:=of_decide_eq_false (hne w)
  refine⟨a,ns,rfl,hS,hl,?_,?_,hn,fun _=>rfl⟩
  ·rw[ept]
   exact⟨#[],hT (c,PT) (by show (c,PT)∈aA9 (K w.params);rw[ets];exact f9),trivial,.inl rfl⟩
  ·rw[epu]
   exact⟨#[],hT (e,PU) (by show (e,PU)∈aA9 (K w.params);rw[ets];exact d6 _ f9),trivial,.inl rfl⟩
end Web
set_option Elab.async false
namespace PySem.W.Fast
def tw7502085030750051324:=0
def tw6847802280454551924:=0
def tw17686626132963718184:=0
def tw5962248519551157372:=0
def tw9133169308497437788:=0
def tw2147209908499112314:=0
def tw412725170166181174:=0
def tw16529908866715735530:=0
def tw16276033419209027474:=0
def tw9986854188661217333:=0
def tw9930406804170352486:=0
def tw17289592340644811508:=0
def tw10108487405023547381:=0
def tw5534065579648882208:=0
def tw15988286128499390524:=0
def tw1835404478202232334:=0
def tw7419574809600890672:=0
def tw6332753474606329711:=0
def tw8724991456623400113:=0
def tw18196839149647467274:=0
def tw13858283056420073652:=0
def tw17396912394788518292:=0
def tw5160466631557258091:=0
def tw17766748101391336671:=0
def tw8705478844943157360:=0
def tw9186041779506770604:=0
def tw10949327472802902955:=0
def tw7870818372439901156:=0
def tw3119848381235442019:=0
def tw3793898298399567302:=0
def tw17226055194793902379:=0
def tw16319284436170973310:=0
def tw7544811038237514291:=0
def tw15878711674763397458:=0
def tw3668410408312683053:=0
def tw5662568321264344378:=0
def tw10695029759505668555:=0
def tw66741122483578258:=0
def tw14115723272758774535:=0
def tw16118146867562351537:=0
def tw3876169623982575622:=0
def tw2826348618214372803:=0
def tw9592113477851686177:=0
def tw1103392172330166529:=0
def tw669874089522491599:=0
def tw9987591646147023487:=0
def tw985604547259931407:=0
def tw16798227151128180422:=0
def tw449773637476685779:=0
def tw12547539436452690157:=0
def tw5600092354368392399:=0
def tw18150756071472705741:=0
def tw5430549754892180292:=0
def tw17178642692581457340:=0
def tw15199948670067857935:=0
def tw1673768265812276406:=0
def tw6673862727494278213:=0
def tw14337125044686653396:=0
def tw3242314373524485740:=0
def tw11266602441044525469:=0
def tw16576074857168082137:=0
def tw486346294900081775:=0
def tw4841168691218834848:=0
def tw8252089566755447334:=0
def tw7107456465717467892:=0
def tw3693340733269801844:=0
def tw4528668286451446937:=0
def tw2110390685511480903:=0
def tw3368106848264764558:=0
def tw9753276333718173273:=0
def tw17208365675068443300:=0
def tw7955254900584855613:=0
def tw15285991184724978106:=0
def tw13294973530284347141:=0
def tw14974722090063669175:=0
def tw4138040922135504564:=0
def tw5954578301784067768:=0
def tw16415682078914812188:=0
def tw9956474763717169831:=0
def tw12552679064860229427:=0
def tw10338182647908185097:=0
def tw7026012381217592831:=0
def tw4314201778189844474:=0
def tw5250887949711434196:=0
def tw9389394373581408901:=0
def tw16384713644750144390:=0
def tw6891511222233076226:=0
def tw4719394568289593106:=0
def tw1276876745224973468:=0
def tw16089713836624689576:=0
def tw18028220645196655722:=0
def tw14976804815461919681:=0
def tw2730396088537196985:=0
def tw12101854313590830178:=0
def tw1124703323425803217:=0
def tw14877348589237108934:=0
def tw396843144659878164:=0
def tw985073238937164405:=0
def tw6027690160012548978:=0
def tw1432299958567898202:=0
def tw5876915914596946634:=0
def tw3387907536217351614:=0
def tw8871223631161992281:=0
def tw4761644305938261269:=0
def tw10628862326845791289:=0
def tw865671265386319897:=0
def tw16076713025683765166:=0
def tw8375414339866997719:=0
def tw6988592404441855523:=0
def tw14021118327144876097:=0
def tw15709126279497773913:=0
def tw11381384439487076417:=0
def tw16016505232029446963:=0
def tw16016877788312034461:=0
def tw4322318528593870621:=0
def tw2124240403305444605:=0
def tw2724482362701054968:=0
def tw8649305095450492148:=0
def tw7197055846415067035:=0
def tw847296158902559066:=0
def tw4336393389546923344:=0
def tw519349843997009296:=0
def tw897750593679421718:=0
def tw3795642412634267714:=0
def tw13718207735835915830:=0
def tw15724651381489613229:=0
def tw17126001754165107315:=0
def tw13000016437648389239:=0
def tw16268069888332415070:=0
def tw9390110596717149486:=0
def tw9533457741744076984:=0
def tw2318599359415114503:=0
def tw17056617440230439658:=0
def tw11242831383447223031:=0
def tw14594093642100110574:=0
def tw4769112146636896634:=0
def tw16655855649815017921:=0
def tw15620107289526650727:=0
def tw2319993786992909472:=0
def tw18009123959622940173:=0
def tw6486349492786398311:=0
def tw9470541121432579705:=0
def tw18437663397712992256:=0
def tw3507330030625761855:=0
def tw4280453951555678190:=0
def tw2473249474061050784:=0
def tw13401504155127171576:=0
def tw10635820260255490040:=0
def tw13429984015955305751:=0
def tw944580348953943231:=0
def tw16159870017641858367:=0
def tw11461424309430950705:=0
def tw17447929069440744880:=0
def tw2106018956379116226:=0
def tw16223031595895427774:=0
def tw13383458926262257983:=0
def tw15368916466459305235:=0
def tw2213868004427963013:=0
def tw4307352522247531761:=0
def tw5309197129094018398:=0
def tw1452103842872540418:=0
def tw5907004354146842265:=0
def tw16538766689193783690:=0
def tw16157768246813910047:=0
def tw15838867728177419230:=0
def tw15683168370370610719:=0
def tw6906341581933950157:=0
def tw8170191826304504692:=0
def tw15799454741420135513:=0
def tw2156660845256498661:=0
def tw17976336664338153343:=0
def tw12340846910475248299:=0
def tw9631348677453905202:=0
def tw455796477530160573:=0
def tw15722026652942255874:=0
def tw16998500224733189920:=0
def tw13621054774240406828:=0
def tw1534158562695985285:=0
def tw10311872924350886272:=0
def tw8015943405543268587:=0
end PySem.W.Fast
open PySem PySem.W PyProof.Rows
set_option maxRecDepth 100000 in
set_option maxHeartbeats 0 in
theorem PySem.Challenge.cw_tallyweb_k53_least_on_holds : PySem.Challenge.rw_tallyweb_k53_least_on.Holds := by
 w_on; o_law; k_head; (case hw => w_witness2)
 k_fill
 refine Web.walk (l := PySem.Challenge.rw_tallyweb_k53_least_on) rfl rfl (fun w h Y => PySem.W.km_in_of Y) ?hN0 ?hR0 ?hT0 ?hR1 ?hT1 ?hE0 ?F
 case hN0 => intro w; kernel_rfl
 case hR0 => kernel_rfl
 case hT0 => intro w; kernel_rfl
 case hR1 => kernel_rfl
 case hT1 => intro w; kernel_rfl
 case hE0 => intro w; kernel_rfl
 case F =>
  intro w mg fa h KX G hmg
  refine' Web.all_mk KX G hmg ?aI (L2.fun_mk ?lI ?cI ?kI) ?aU (L2.fun_mk ?lU ?cU ?kU) ?aV (L2.fun_mk ?lV ?cV ?kV) ?aκ (L2.fun_mk ?lκ ?cκ ?kκ) ?aθ (L2.fun_mk ?lθ ?cθ ?kθ) ?aT (L2.fun_mk ?lT ?cT ?kT) ?aO (L2.fun_mk ?lO ?cO ?kO) ?aG (L2.fun_mk ?lG ?cG ?kG) ?aA (L2.fun_mk ?lA ?cA ?kA) ?aρ (L2.fun_mk ?lρ ?cρ ?kρ) ?aM (L2.fun_mk ?lM ?cM ?kM) ?aβ (L2.fun_mk ?lβ ?cβ ?kβ) ?aω (L2.fun_mk ?lω ?cω ?kω) ?aW (L2.fun_mk ?lW ?cW ?kW) ?aF (L2.fun_mk ?lF ?cF ?kF) ?aL (L2.fun_mk ?lL ?cL ?kL) ?aY (L2.fun_mk ?lY ?cY ?kY) ?aX (L2.fun_mk ?lX ?cX ?kX) ?aD (L2.fun_mk ?lD ?cD ?kD) ?aE (L2.fun_mk ?lE ?cE ?kE) ?aS (L2.fun_mk ?lS ?cS ?kS) ?aN (L2.fun_mk ?lN ?cN ?kN) ?aQ (L2.fun_mk ?lQ ?cQ ?kQ) ?aJ (L2.fun_mk ?lJ ?cJ ?kJ) ?aη (L2.fun_mk ?lη ?cη ?kη) ?aC (L2.fun_mk ?lC ?cC ?kC) ?aK (L2.fun_mk ?lK ?cK ?kK) ?aα (L2.fun_mk ?lα ?cα ?kα) ?aP (L2.fun_mk ?lP ?cP ?kP) ?aψ (L2.fun_mk ?lψ ?cψ ?kψ) ?aδ (L2.fun_mk ?lδ ?cδ ?kδ) ?aφ (L2.fun_mk ?lφ ?cφ ?kφ) ?aν (L2.fun_mk ?lν ?cν ?kν) ?aτ (L2.fun_mk ?lτ ?cτ ?kτ) ?aZ (L2.fun_mk ?lZ ?cZ ?kZ) ?mo ?aBadTally ?aBadNumber ?aNoWeb ?qBadTally ?xmBadTally ?qBadNumber ?xmBadNumber ?qNoWeb ?xmNoWeb ?tb ?tb2 ?z1 ?z2 ?z3 ?z4 ?z5 ?z6 ?z7 ?z8 ?z9 ?z10 ?z11 ?z12 ?z13 ?z14 ?z15 ?z16 ?z17
  case aI | lI | cI | kI | aU | lU | cU | kU | aV | lV | cV | kV | aκ | lκ | cκ | kκ | aθ | lθ | cθ | kθ | aT | lT | cT | kT | aO | lO | cO | kO | aG | lG | cG | kG | aA | lA | cA | kA | aρ | lρ | cρ | kρ | aM | lM | cM | kM | aβ | lβ | cβ | kβ | aω | lω | cω | kω | aW | lW | cW | kW | aF | lF | cF | kF | aL | lL | cL | kL | aY | lY | cY | kY | aX | lX | cX | kX | aD | lD | cD | kD | aE | lE | cE | kE | aS | lS | cS | kS | aN | lN | cN | kN | aQ | lQ | cQ | kQ | aJ | lJ | cJ | kJ | aη | lη | cη | kη | aC | lC | cC | kC | aK | lK | cK | kK | aα | lα | cα | kα | aP | lP | cP | kP | aψ | lψ | cψ | kψ | aδ | lδ | cδ | kδ | aφ | lφ | cφ | kφ | aν | lν | cν | kν | aτ | lτ | cτ | kτ | aZ | lZ | cZ | kZ | mo | aBadTally | aBadNumber | aNoWeb | z1 | z2 | z3 | z4 | z5 | z6 | z7 | z8 | z9 | z10 | z11 | z12 | z13 | z14 | z15 | z16 | z17 => k_is
  case qBadTally | qBadNumber | qNoWeb => k_exc
  case xmBadTally | xmBadNumber | xmNoWeb => kts_exm
  case tb | tb2 => kernel_rfl
#print axioms PySem.Challenge.cw_tallyweb_k53_least_on_holds

