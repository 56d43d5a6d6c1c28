import PyProof.Rows.All
import Wide.All
import OpenK.AllK
import Wide.FinOn
import Lean
import PyProof.EqAt
import PyProof.EqKinds
import PyProof.TupleCall
import PyProof.Rows.SortRunsK
import PyProof.Rows.SortShellK
import KE.KSortTup
import PyProof.TupleKey
import PySem.SetOps
import PyProof.Rows.SetFrom
import PyProof.EnumFor
import PyProof.EnumStmt
import PyProof.EnumMake
import PyProof.P3Eq
import PyProof.NeData
import PyProof.P3In
import PyProof.Rows.SumAny
import KE.KLam
import KE.KSortKey
import PyProof.ListRange
import KE.KTryMore
import PyProof.NsDelKeeps
import PyProof.RulesAs
import PyProof.ExcBaseAll.ValueError
import PyProof.ExcArgsOwn
import KE.KIsAll
import PyProof.Rows.SortRev
import PyProof.TupleOfSeq
import PyProof.Draws
import KE.KTupSum
import PyProof.Cells
import PyProof.Rows.TupAdd
import PyProof.DictWalks
import PyProof.ConsumeWalk
import PyProof.DictKeyH
import PyProof.ListNew
import PyProof.ConsumeS
import PyProof.WalksMore
import PyProof.DictRoadsH
import PyProof.MeetsDictList
import KE.KDictOf
import PyProof.DictUpdate
import PyProof.DictCopy
import Wide.Txt2
import PyProof.ListOps
import PyProof.AutoSeq1
import PyProof.FactsAll.set_2
import KE.KRevIter
import PyProof.FactsAll.dict_1
import PyProof.DictFindH
import PyProof.FactsAll.subtypes_5
import PyProof.DictTruth
import KE.RegKIsAll
import KE.RegKTryMore
import PySem.Challenge.RW_tallyweb_k20_led_from_web_to_web
local macro_rules | `(tactic| omega) => `(tactic| lia)
set_option autoImplicit false
set_option linter.all false
set_option Elab.async false
set_option maxRecDepth 100000
open PySem renaming wpAny_bind->a5,wpAny_pure->a8,tupleKeyHash->i6,sizeLine->i7,mainGlobals->i9,wpAny->k9,intKind->m7,model->n6,wpAny_setState_of->u9,wpAny_holding->v8,starEach->x8,IsTupleKey->y9,wpAny_dictEntries->B2,wpAny_mono->C2,wpAny_call_entry->C3,compareOp->D6,codeAny_builtin->D7,entryOfKey->E7,sizeLine_eq->E9,sysModules->F1,wpAny_newObj_type->J0,wpAny_ite_split->J8,wpAny_Call_Name_kw->K0,wpAny_isInstance->K2,wpAny_askSetting->K3,DictEntry->K4,wpAny_truthy_bool->L6,compEnvC->M0,plainId_quiet->N0,size_of_entries->P4,bootBuiltins->Q5,codeAny_mono->Q6,unsupported->Q7,wpAny_callSpecial?_slot->Q8,wpAny_typeNameOfWhole_keyiter->R3,cLine->R8,rawInt->R9,wpAny_passesOwn->S9,wpAny_specialOf->T4,wpAny_newList->T8,setSearchFrom->T9,codeAny->V2,codeAny_call_builtin->V3,backTo->V7,isSubtype_type->V8,wpAny_forIn_list->X0,wpAny_setEntries_of->X5,wpAny_typeNameOf_keyiter->Y1,Paired->Y5,wpAny_dictEpoch->Y6,wpAny_updateSeq->Y7,foldedSetIterable->aa4,wpAny_loadPart_at->aa6,binaryOp->ab3,wpAny_typeOf->ab9,builtinLookup_eq_fast->ac0,behindInMarks->ad9,wpAny_attempt->ae0,wpAny_execs_nil->af9,sliceBounds->ag0,PyData->ag1,tupleKind_room_in1->ai7,wpAny_runValue->ak1,wpAny_setField->ak2,setSearch->al4,ofAClassStatement->al5,wpAny_storeSet_of->al6,wpAny_comprehension_free->al7,pickOrder->al8,Keyword->an4,keywordEach->an5,wpAny_standAt->an6,pyNext->aq0,codeAny_compStart_list->aq3,codeAny_of_tree->at8,weight_type_call_type->at9,wpAny_notOrdered_dict->au0,typeLookup_type->au1,builtinsNs->av3,assignEach->av4,wpAny_call->av5,NameKind->av6,typeLookup->av7,closureFor->av9,setsByText->aw0,wpAny_newFunctionEnv->ax7,codeAny_extend_loopS->ax8,recursionLimit->aB9,wpAny_seqItems->aC0,wpAny_fieldsOf->aC1,firstArgMember->aC2,wpAny_letGo->aC5,wpAny_pyIter_tuple->aH1,attributeBase->aH2,compPost->aH3,updateSeq->aH4,holding->aN0,wpAny_pyIter_list->aN1,wpAny_rule->aN2,wpAny_pyIter_slot->aN3,ItemsOf->aN4,wpAny_setEpoch_of->aN5,seqIndex_neg->aV0,wpAny_execs_cons->aV3,check_set_init_1->aV4,checkBuiltinCall->aV5,bindArgs->ba7,backToKw->ba8,tupleKind->bg5,letOwnedTupleGo->bg6,pyIter->bg7,BindsTo->bg8,cellsFrom->bg9,seqIndex_of->bh0,callerA->bh1,hashByValue->bh5,theTreesLotGoes->bh6,atKey->bm3,callType_codes->bm4,entryFor_alias->bm5,call_meets->bw9,compTurn_list->bx7,ReadsAll->bx8,valueAt->bx9,setField->by0,entry_at->by1,wpAny_getItem_list_neg->bG0,wpAny_Call_method_late->bG1,wpAny_isTrue_Compare1->bI9,swapsWith->bJ0,Result->bJ1,wpAny_eqIsQuiet_tuple->bJ5,setAddHashed->bJ6,codeAny_loop->bJ7,codeAmong->bJ8,isSubtype->bJ9,wpAny_isOneOf_keyiter->bK0,sub_set_self->bK1,revObj->bK2,wpAny_pyIter_keyiter->bS8,hashInt->bT4,wpAny_Tuple_spliced->bT5,wpAny_noted->bT9,wpAny_of_eq->bU0,wpAny_dictFind_heap->bU1
open PySem.Heap renaming get?_push_of_some->a6,lt_size->c9,get?_push_size->d5,get?_update_other->r9,get?_update_self->x9,size_push->C1,get?_none_of_le->T6,size_update->bT0
open List renaming getElem?_eq_some_iff->a9,length_map->b8,mem_cons_self->c6,mem_cons->c8,mem_cons_of_mem->d3,mem_singleton->d6,mem_of_getElem?->d9,map_cons->j3,getElem?_map->j6,mem_append_right->j8,length_append->j9,size_toArray->k8,mem_iff_getElem?->l5,getElem?_eq_getElem->m6,nodup_cons->m9,mem_append->n8,pairwise_iff_getElem->o4,length_cons->o6,not_mem_nil->o7,mem_map->o9,take_of_length_le->p8,mem_filter->p9,append_assoc->r0,map_append->r6,length_take->A4,mem_append_left->A9,replicate->B0,pairwise_append->B7,take_add_one->B8,nodup_nil->C0,getElem?_eq_none->C8,mem_map_of_mem->C9,all_eq_true->D0,pairwise_map->D9,getD_eq_getElem?_getD->E1,drop_of_length_le->E3,mem_range->E4,length_filter_le->E8,append_nil->F6,pairwise_cons->F7,getElem?_append_right->G0,replicate_succ->G6,take_append_drop->J2,getElem?_take->J7,nil_append->L5,perm_ext_iff_of_nodup->L9,length_drop->M3,length->M7,range->O2,flatten_cons->O4,ext_getElem?->O6,length_erase_of_mem->O7,map_map->P2,reverse_append->P5,length_reverse->P6,mem_reverse->Q3,eq_nil_of_length_eq_zero->Q4,any_cons->S3,reverse_perm->S4,getElem?_set_ne->T7,drop_eq_getElem_cons->U8,extract_eq_take_drop->U9,lookup_cons->V1,map_congr_left->V4,getElem?_take_of_lt->V5,foldl_cons->X7,getElem?_drop->X8,find?_cons->X9,map->Y0,nodup_append->Z4,length_singleton->aa3,drop_append->aa8,take_append_of_le_length->aa9,filter_cons->ab2,mem_of_mem_drop->ab7,mem_of_mem_take->ab8,foldl->ac5,filterMap_cons->ad7,range'->ad8,mem_filterMap->af5,getElem_range->af7,filter_append->af8,getElem?_append_left->ag2,reverse_cons->ai4,mem_range'_1->ai5,filter_cons_of_neg->ak4,filter_cons_of_pos->ak5,eraseIdx_cons_succ->ak6,getElem_mem->al0,any_toArray->al1,take_length->al3,getElem?_set_self->an0,length_pos_of_mem->an3,of_mem_zip->ap6,perm_append_comm->ap7,pairwise_reverse->ap8,length_nil->ap9,length_pos_iff->av0,getElem?_range->av1,zip_cons_cons->aB8,countP_eq_countP_filter_add->aC3,take_sublist->aD3,map_nil->aG9,drop_append_of_le_length->aM5,countP_cons->aM7,mem_flatMap->aM8,length_set->aU4,take->aU6,filter_map->aU9,drop_drop->ba2,drop_zero->ba3,take_zero->ba6,sum_cons->bm0,filter_eq_nil_iff->bm1,drop->bw4,countP_singleton->bw6,any_map->bw7,mem_of_mem_erase->bw8,nodup_iff_count->bx5,length_take_le->bF8,set_cons_zero->bI5,length_range'->bI8,drop_sublist->bR8,getElem?_set->bS4,getElem?_inj->bS5,flatMap_cons->bS6,filter_congr->bS7,take_append->bS9,any_eq_true->bT2,perm_middle->bT3
open Array renaming getElem?_toList->b7,length_toList->d8,size_push->x6,toList_append->A5,size_extract->F5,size_append->G3,perm_iff_toList_perm->L8,getElem?_eq_getElem->M6,toList_push->N7,forIn_toList->R1,mem_toList_iff->S5,toList_extract->S6,toList_reverse->aa7,toArray_toList->ab0,size_map->af6,getElem?_eq_none->al2,toList_setIfInBounds->aU5,getElem?_append_left->aU7,isEmpty_eq_false_iff->aU8,size_setIfInBounds->ba4,getElem?_replicate->ba5,setIfInBounds->bx1,append_assoc->bF4,size_reverse->bF5,getD->bI7,toList_map->bS0,mem_filter->bS2
open Nat renaming le_refl->c5,ne_of_lt->j0,zero_le->n9,lt_of_lt_of_le->o8,le_trans->t9,lt_succ_of_lt->u7,lt_irrefl->A3,add_le_add_left->G9,lt_or_eq_of_le->J9,zero_add->K5,ne_of_gt->M5,add_sub_cancel_left->P7,le_succ->P8,lt_trichotomy->S7,lt_or_ge->W8,succ_pos->ag3,lt_of_le_of_lt->ag4,le_of_succ_le->aj9,le_of_lt_succ->ak0,le_add_right->an1,lt_succ_self->an2,le_of_lt->aq1,not_lt_zero->aq2,not_lt->aH0,add_zero->aM4,le_of_eq->aM6,min_le_left->aV2,mod_lt->bl9,div_div_eq_div_mul->bw5,sub_self->bx2,lt_trans->bx3,mul_le_mul_right->bF7,testBit_two_pow->bI6,add_sub_cancel->bR7,eq_zero_or_pos->bS1
open Bool renaming false_ne_true->d4,false_eq_true->d7,and_eq_true->v7,not_true->D8,eq_iff_iff->O3,not_eq_true'->O5,not_false->Z8,true_and->ac4,or_false->ak3,false_and->at5,eq_false_iff->bS3
open PySem.W renaming nsIn->j2,mg_none_of->q8,mg_of->R7,keepIn->S8,fnOf->V0,codeIn->aM9
open PyProof.Rows renaming wpS_bind->j7,wpS_pure->m5,arrOf->m8,pendingOf->B4,wpS_forRange->E5,seqObj->J3,envOfC->M8,failedOf->M9,get?_update_seq->P3,wpS_mono->W9,sortedHeap->aa5,listUpdate_at->ae1,elem'->ag5,mem_zip_self->ai6,AllBare->at6,wpS_get->at7,wpS_modify->av8,wpS_reverse->aC4,KeyOrd->aV1,mirror_perm->bh2,seqEpoch_at->bh3,entry_list_sort->bh4,slot_list_sort->bm2,setPending->bx0,tuples'->bx6,subscriptTail_builtinR->bF9,listItems_at->bJ2,plain_sorted->bJ3,entry_sorted->bJ4,getElem?_mirror_all->bT6,pairsOf->bT7,kind_sorted->bT8
open Option renaming isSome_iff_exists->p7,toList_some->av2,isSome_some->bx4,isSome_map->bF6,getD_none->bI4,map_some->bR9
open Int renaming toNat_natCast->P1,toNat_of_nonneg->V6,emod_nonneg->Y2,emod_lt_of_pos->Y3,fdiv_eq_ediv_of_nonneg->ba1,lt_trichotomy->bT1
variable {A:PySem.Around}{B:PyProof.Rows.Keyed->PyProof.Rows.Keyed->Bool}{C a d f fC l:PySem.Addr}{E Q:PySem.Value->PySem.Shared->Prop}{G:Array PySem.GenState->Array PySem.GenState->Prop}{M:PySem.Model}{N N':List PySem.Str}{P prog:PySem.Program}{R:PyProof.Rows.Keyed->PyProof.Rows.Keyed->Prop}{T:Nat->List Int}{XP:(PySem.Str->Option PySem.Value)->PySem.Heap->Prop}{YP:PySem.World->PySem.Heap->Prop}{apos po pos:PySem.Pos}{b:Nat->Option (Option Nat) × Nat × Nat->StateT PyProof.Rows.SortSt PySem.Sem (ForInStep (Option (Option Nat) × Nat × Nat))}{cl:List (PySem.Str × PySem.Addr)}{e tg:PySem.Expr}{ep i j n t':Nat}{fd fdC fdI fdT:PySem.FuncData}{fp:List PySem.Addr}{g:Nat->Nat->Bool}{h h':PySem.Heap}{k ns zs:List Int}{lk:List (Option Nat)}{ls:List (List Int)}{mA:PySem.Str->Option PySem.Value}{o:PySem.Obj}{out ra rb:List PyProof.Rows.Keyed}{outer:List PySem.Env}{p:List PySem.Value->Prop}{params:PySem.Arguments}{pins:List (PySem.Addr × PySem.Obj)}{ps qs:List (PySem.Addr × List Int)}{qu qual x:PySem.Str}{s:PySem.Shared}{scope:PySem.Scope}{u v:PySem.Value}{us vs:List PySem.Value}{w:PySem.World}{κ:PyProof.Rows.SortKind}
namespace L2
open PySem PySem.Spec PyProof.Rows
abbrev Key:=Sum Int Str
def aE7:Key->Value->Bool
 | .inl k,v=>Value.isInt k v
 | .inr x,v=>Value.isStrOf x v
def cb6 (w:World):Key->Int
 | .inl k=>bT4 k
 | .inr x=>hashStr w x
theorem L0:∀ {k:Key} {v:Value},aE7 k v=true->(∃ i t,k=Sum.inl i/\v=Value.int i t)\/(∃ x t,k=Sum.inr x/\v=Value.str x t)
 | .inl i,v,h=>by
  obtain⟨t,e⟩:=Value.isInt_shape (k:=i) (v:=v) h
  exact .inl ⟨i,t,rfl,e⟩
 | .inr x,v,h=>by
  obtain⟨t,e⟩:=Value.isStrOf_shape (x:=x) (v:=v) h
  exact .inr ⟨x,t,rfl,e⟩
theorem bj9 (i:Int)(t:Tok):aE7 (.inl i) (.int i t)=true:=by simp[aE7,Value.isInt]
theorem bj8 (x:Str)(t:Tok):aE7 (.inr x) (.str x t)=true:=by simp[aE7,Value.isStrOf]
theorem bP6 (a b:Int):decide ((Sum.inl a:Key)=Sum.inl b)=(a == b):=by
 by_cases e:a=b
 ·subst e;simp
 ·have h:¬ (Sum.inl a:Key)=Sum.inl b:=fun q=>e (Sum.inl.inj q)
  rw[decide_eq_false h]
  exact(beq_eq_false_iff_ne.mpr e).symm
theorem bP3 (a b:Str):decide ((Sum.inr a:Key)=Sum.inr b)=decide (a=b):=by
 by_cases e:a=b
 ·subst e;simp
 ·have h:¬ (Sum.inr a:Key)=Sum.inr b:=fun q=>e (Sum.inr.inj q)
  rw[decide_eq_false h,decide_eq_false e]
theorem bP5 (a:Int)(b:Str):decide ((Sum.inl a:Key)=Sum.inr b)=false:=decide_eq_false (fun q=>nomatch q)
theorem bP4 (a:Str)(b:Int):decide ((Sum.inr a:Key)=Sum.inl b)=false:=decide_eq_false (fun q=>nomatch q)
def K8 (prog:Program) (w:World):PySem.KeyKind prog w Key where
  is:=aE7
  hash:=cb6 w
  inj:=fun v a b ha hb=>by
    rcases L0 ha with⟨i,t,rfl,rfl⟩ | ⟨x,t,rfl,rfl⟩
    · rcases L0 hb with⟨j,u,rfl,e⟩ | ⟨y,u,rfl,e⟩
      · injection e with e1 _;rw[e1]
      · exact nomatch e
    · rcases L0 hb with⟨j,u,rfl,e⟩ | ⟨y,u,rfl,e⟩
      · exact nomatch e
      · injection e with e1 _;rw[e1]
  byValue := fun k v h => by
    rcases L0 h with⟨i,t,rfl,rfl⟩ | ⟨x,t,rfl,rfl⟩<;>rfl
  pyHash:=fun hv h=>by
    rcases L0 hv with⟨i,t,rfl,rfl⟩ | ⟨x,t,rfl,rfl⟩
    · exact wpAny_pyHash_int h
    · exact wpAny_pyHash_str h
  eqBool:=fun hu hv h=>by
    rcases L0 hu with⟨i,t,rfl,rfl⟩ | ⟨x,t,rfl,rfl⟩
    · rcases L0 hv with⟨j,u,rfl,rfl⟩ | ⟨y,u,rfl,rfl⟩
      · rw[bP6]at h;exact wpAny_eqBool_int h
      · rw[bP5]at h;exact SeqAt.EqAt.int_str i t y u _ _ _ _ h
    · rcases L0 hv with⟨j,u,rfl,rfl⟩ | ⟨y,u,rfl,rfl⟩
      · rw[bP4]at h;exact SeqAt.EqAt.str_int x t j u _ _ _ _ h
      · rw[bP3]at h;exact wpAny_eqBool_str h
  «strs»:=fun k x t v h=>by
    rcases L0 h with⟨i,u,rfl,e⟩ | ⟨y,u,rfl,e⟩
    · exact nomatch e
    · injection e with e1 _
      subst e1
      cases v<;>rfl
theorem aQ9 (prog:Program)(w:World)(i:Int)(t:Tok):(K8 prog w).is (.inl i) (.int i t)=true:=bj9 i t
theorem aQ8 (prog:Program)(w:World)(x:Str)(t:Tok):(K8 prog w).is (.inr x) (.str x t)=true:=bj8 x t
end L2
variable {xs:List (List L2.Key × PySem.Addr × PySem.Value)}
namespace L2
open PySem PySem.Spec PyProof.Rows
inductive V where
 | non | bl (b:Bool) | int (i:Int) | str (x:Str) | byt (b:Array UInt8) | flt (b:UInt64) | ref (a:Addr) | ty (n:String)
 deriving DecidableEq
def RelV:V->Value->Prop
 | .non,u=>u=Value.none
 | .bl b,u=>u=Value.bool b
 | .int i,u=>∃ t,u=Value.int i t
 | .str x,u=>∃ t,u=Value.str x t
 | .byt b,u=>∃ t,u=Value.bytes b t
 | .flt b,u=>∃ t,u=Value.float b t
 | .ref a,u=>u=Value.ref a
 | .ty n,u=>u=Value.type n
abbrev B6:List V->List Value->Prop:=Y5 RelV
theorem B6.length {xs:List V}(r:B6 xs us):xs.length=us.length:=Paired.length r
theorem B6.get:∀ {xs:List V} {us:List Value} {i:Nat} {x:V},B6 xs us->xs[i]?=some x->∃ u,us[i]?=some u/\RelV x u
 | _,_,_,_,.nil,e=>by simp at e
 | _,_,0,_,.cons r _,e=>by simp at e;subst e;exact⟨_,rfl,r⟩
 | _,_,i+1,x,.cons _ t,e=>by
  obtain⟨u,h1,h2⟩:=B6.get (i:=i) (x:=x) t (by simpa using e)
  exact⟨u,by simpa using h1,h2⟩
theorem B6.set {x:V}(r:RelV x u):∀ {xs:List V} {us:List Value} (i:Nat),B6 xs us->B6 (xs.set i x) (us.set i u)
 | _,_,_,.nil=>.nil
 | _,_,0,.cons _ t=>.cons r t
 | _,_,i+1,.cons q t=>.cons q (B6.set r i t)
theorem B6.append:∀ {xs ys:List V} {us ws:List Value},B6 xs us->B6 ys ws->B6 (xs++ys) (us++ws)
 | _,_,_,_,.nil,s=>s
 | _,_,_,_,.cons r t,s=>.cons r (B6.append t s)
theorem B6.take:∀ {xs:List V} {us:List Value} (n:Nat),B6 xs us->B6 (xs.take n) (us.take n)
 | _,_,0,_=>.nil
 | _,_,_+1,.nil=>.nil
 | _,_,n+1,.cons r t=>.cons r (B6.take n t)
theorem B6.drop:∀ {xs:List V} {us:List Value} (n:Nat),B6 xs us->B6 (xs.drop n) (us.drop n)
 | _,_,0,r=>r
 | _,_,_+1,.nil=>.nil
 | _,_,n+1,.cons _ t=>B6.drop n t
def aZ9:Option V->Option Value->Prop
 | some v,some u=>RelV v u
 | none,none=>True
 | _,_=>False
def KV {κ:Type}:List (κ × V)->List (κ × Value)->Prop:=Y5 fun(p:κ × V) (q:κ × Value)=>p.1=q.1/\RelV p.2 q.2
def kV:Key->V
 | .inl i=>.int i
 | .inr x=>.str x
inductive HO where
  | lst (xs:List V)
  | tup (xs:List V)
  | dK (kvs:List (Key × V)) | dT (kvs:List (List Key × V))
  | set (S:Int->Bool) (n:Nat)
  | ins (C dx:Addr) (fs:List (Str × V))
  | own (x:Addr)
  | xd (fs:List (Str × V))
  | met (f x:Addr)
  | rng (lo hi:Int)
  | frz (o:Obj) (u:HO)
  | tbl (ps:Array Value)
  | ext (φ:Heap->Prop)
abbrev Hp:=Addr->Option HO
def upd (H:Hp)(a:Addr)(o:HO):Hp:=fun b=>if b=a then some o else H b
theorem b9 {H:Hp}{o:HO}:upd H a o a=some o:=by unfold upd;rw[if_pos rfl]
theorem n4 {H:Hp}{b:Addr}{o:HO}(h:b≠a):upd H a o b=H b:=by unfold upd;rw[if_neg h]
theorem by6 {H:Hp}{o u:HO}:upd (upd H a o) a u=upd H a u:=by
 funext b;unfold upd;split<;>rfl
theorem aE4 {H:Hp}{b:Addr}{o u:HO}(h:H a=some o)(h':H b=some u)(d:o≠u):a≠b:=by
 intro e;subst e;rw[h]at h';exact d (Option.some.inj h')
theorem u6 {H:Hp}{b:Addr}{o:HO}(h:H a=some o)(h':H b=none):a≠b:=by
 intro e;subst e;rw[h]at h';cases h'
section
variable (P:Program) (w:World)
def D5 (H:Hp)(h:Heap)(a:Addr):HO->Prop
 | .lst xs=>xs.length<=i7/\∃ (its:List Value) (n:Nat),B6 xs its/\h.get? a=some { cls:=.type "list",data:=.seq its.toArray n }
 | .tup xs=>xs.length<=i7/\∃ its:List Value,B6 xs its/\IsTup h a its.toArray
 | .dK kvs=>kvs.length<=i7/\(a == F1)=false/\∃ vs,KV kvs vs/\h.DictOf (K8 P w) a vs
 | .dT kvs=>kvs.length<=i7/\(a == F1)=false/\∃ xs:List (List Key × Addr × Value),
   Y5 (fun(p:List Key × V) (q:List Key × Addr × Value)=>p.1=q.1/\H q.2.1=some (.tup (p.1.map kV))/\RelV p.2 q.2.2) kvs xs /\
   ∃ o es ep,h.get? a=some o/\o.ExactDict/\o.data=.dict es ep/\es.toList=xs.map (E7 (bg5 (K8 P w)))/\(xs.map (·.1)).Nodup
 | .set S n=>h.SetOf (m7 P w) a S n
 | .ins C dx fs=>H dx=some (.own a)/\fs.length<=1000/\dx≠a/\h.get? a=some (PySem.W.instObj C dx) /\
   ∃ mA,h.Ns1 dx mA/\(∀ f,aZ9 (fs.lookup f) (mA f))/\PySem.Within mA (fs.map (·.1))
 | .own _=>∃ o,h.get? a=some o
 | .xd fs=>∃ mA,h.Ns1 a mA/\∀ f,aZ9 (fs.lookup f) (mA f)
 | .rng lo hi=>∃ t u v,h.get? a=some { cls:=.type "range",data:=.fields #[.int lo t,.int hi u,.int 1 v] }
 | .frz o u=>h.get? a=some o/\D5 H h a u
 | .tbl ps=>h.get? a=some { cls:=.none,data:=.fields ps }
 | .met f x=>h.get? a=some (PySem.W.methodObj (.ref f) (.ref x))
 | .ext φ=>φ h/\(∃ o,h.get? a=some o)/\∀ h1 h2:Heap,φ h1->(∀ o,h1.get? a=some o->h2.get? a=some o)->φ h2
def HOk (H:Hp)(h:Heap):Prop:=∀ a o,H a=some o->D5 P w H h a o
end
section
variable {H H':Hp} {o:HO}
theorem D5.lt (x:D5 P w H h a o):a<h.objs.size:=by
 cases o with
 | lst xs=>obtain⟨_,_,_,_,e⟩:=x;exact c9 e
 | tup xs=>obtain⟨_,_,_,p⟩:=x;exact p.lt
 | dK kvs=>obtain⟨_,_,_,_,o,_,_,e,_⟩:=x;exact c9 e
 | dT kvs=>obtain⟨_,_,_,_,o,_,_,e,_⟩:=x;exact c9 e
 | set S n=>obtain⟨o,_,_,_,e,_⟩:=x;exact c9 e
 | ins C dx fs=>obtain⟨_,_,_,e,_⟩:=x;exact c9 e
 | own y=>obtain⟨_,e⟩:=x;exact c9 e
 | xd fs=>obtain⟨_,⟨_,_,_,e,_⟩,_⟩:=x;exact c9 e
 | rng lo hi=>obtain⟨_,_,_,e⟩:=x;exact c9 e
 | frz ob u=>obtain⟨e,_⟩:=x;exact c9 e
 | tbl ps=>exact c9 (show h.get? a=some _ from x)
 | met f y=>exact c9 (show h.get? a=some _ from x)
 | ext φ=>obtain⟨_,⟨_,e⟩,_⟩:=x;exact c9 e
theorem Paired.mapP {α β:Type}{F G:α->β->Prop}:∀ {l₁:List α} {l₂:List β},Y5 F l₁ l₂->(∀ a b,F a b->G a b)->Y5 G l₁ l₂
 | _,_,.nil,_=>.nil
 | _,_,.cons r t,f=>.cons (f _ _ r) (Paired.mapP t f)
theorem D5.stay (x:D5 P w H h a o)(k:∀ b u,(b=a\/H b=some (.own a))->h.get? b=some u->h'.get? b=some u)
  (ho:∀ b,H b=some (.own a)->H' b=some (.own a))(ht:∀ b xs,H b=some (.tup xs)->H' b=some (.tup xs)):D5 P w H' h' a o:=by
 induction o with
 | lst xs=>obtain⟨z,its,n,r,e⟩:=x;exact⟨z,its,n,r,k _ _ (.inl rfl) e⟩
 | tup xs=>obtain⟨z,its,r,ob,e,c⟩:=x;exact⟨z,its,r,ob,k _ _ (.inl rfl) e,c⟩
 | dK kvs=>obtain⟨z,y,vs,r,ob,es,ep,e,c⟩:=x;exact⟨z,y,vs,r,ob,es,ep,k _ _ (.inl rfl) e,c⟩
 | dT kvs =>
  obtain⟨z,y,xs,r,ob,es,ep,e,c⟩:=x
  exact⟨z,y,xs,Paired.mapP r fun p q z=>⟨z.1,ht _ _ z.2.1,z.2.2⟩,ob,es,ep,k _ _ (.inl rfl) e,c⟩
 | set S n=>obtain⟨ob,es,ep,t,e,c⟩:=x;exact⟨ob,es,ep,t,k _ _ (.inl rfl) e,c⟩
 | ins C dx fs =>
  obtain⟨d,z,ne,e,mA,⟨od,es,ep,e2,c⟩,r⟩:=x
  exact⟨ho _ d,z,ne,k _ _ (.inl rfl) e,mA,⟨od,es,ep,k _ _ (.inr d) e2,c⟩,r⟩
 | own y=>obtain⟨ob,e⟩:=x;exact⟨ob,k _ _ (.inl rfl) e⟩
 | xd fs=>obtain⟨mA,⟨od,es,ep,e,c⟩,r⟩:=x;exact⟨mA,⟨od,es,ep,k _ _ (.inl rfl) e,c⟩,r⟩
 | rng lo hi=>obtain⟨t,u,v,e⟩:=x;exact⟨t,u,v,k _ _ (.inl rfl) e⟩
 | frz ob u ih=>obtain⟨e,q⟩:=x;exact⟨k _ _ (.inl rfl) e,ih q⟩
 | tbl ps =>
  have e:h.get? a=some { cls:=.none,data:=.fields ps }:=x
  show h'.get? a=some { cls:=.none,data:=.fields ps }
  exact k a _ (.inl rfl) e
 | met f y =>
  have e:h.get? a=some (PySem.W.methodObj (.ref f) (.ref y)):=x
  show h'.get? a=some (PySem.W.methodObj (.ref f) (.ref y))
  exact k a _ (.inl rfl) e
 | ext φ=>obtain⟨p,⟨o,e⟩,st⟩:=x;exact⟨st _ _ p fun o q=>k _ _ (.inl rfl) q,⟨o,k _ _ (.inl rfl) e⟩,st⟩
theorem HOk.lt (x:HOk P w H h)(e:H a=some o):a<h.objs.size:=(x a o e).lt
theorem HOk.fresh (x:HOk P w H h)(e:h.objs.size<=a):H a=none:=by
 cases q:H a with
 | none=>rfl
 | some u=>exact absurd (o8 (x.lt q) e) (A3 _)
theorem HOk.kept (x:HOk P w H h)(k:∀ b u,h.get? b=some u->h'.get? b=some u):HOk P w H h':=fun a o e =>
 (x a o e).stay (fun b u _ q=>k b u q) (fun _ q=>q) fun _ _ q=>q
theorem HOk.laid (x:HOk P w H h)(k:∀ b u,h.get? b=some u->h'.get? b=some u)(hp:h.objs.size<=a)(new:D5 P w (upd H a o) h' a o):HOk P w (upd H a o) h':=fun b u e=>by
 have hn:=x.fresh hp
 by_cases hb:b=a
 ·subst hb;rw[b9]at e;cases e;exact new
 ·rw[n4 hb]at e
  exact(x b u e).stay (fun c v _ q=>k c v q) (fun c q=>by rw[n4 (u6 q hn)];exact q) fun c xs q=>by rw[n4 (u6 q hn)];exact q
end
def Rd (H:Hp)(a:Addr)(u:HO):Prop:=H a=some u\/∃ o,H a=some (.frz o u)
theorem Rd.ok {H:Hp}{u:HO}(r:Rd H a u)(x:HOk P w H h):D5 P w H h a u:=by
 rcases r with r | ⟨o,r⟩
 ·exact x a u r
 ·obtain⟨_,q⟩:=x a _ r
  exact q
def Mut:Option HO->Prop
 | some (.lst _)=>True
 | some (.dK _)=>True
 | some (.dT _)=>True
 | some (.set _ _)=>True
 | some (.ins _ _ _)=>True
 | some (.ext _)=>True
 | _=>False
section
variable {H:Hp} {x e:Addr} {o':HO}
theorem HOk.write (ok:HOk P w H h)(mu:Mut (H x))(he:e=x\/H e=some (.own x))(k:∀ b u,b≠e->h.get? b=some u->h'.get? b=some u)(heo:∃ u,h'.get? e=some u)
  (new:D5 P w (upd H x o') h' x o'):HOk P w (upd H x o') h':=fun b u q=>by
 have nown:∀ c y,H c=some (.own y)->c≠x:=fun c y r z=>by subst z;rw[r]at mu;exact mu
 have ntup:∀ c xs,H c=some (.tup xs)->c≠x:=fun c xs r z=>by subst z;rw[r]at mu;exact mu
 by_cases hb:b=x
 ·subst hb;rw[b9]at q;cases q;exact new
 ·rw[n4 hb]at q
  by_cases hbe:b=e
  ·have q':H b=some (.own x):=by
    rcases he with z | z
    ·exact absurd (hbe.trans z) hb
    ·rw[hbe];exact z
   rw[q]at q';cases q'
   obtain⟨v,hv⟩:=heo
   exact⟨v,by rw[hbe];exact hv⟩
  ·refine(ok b u q).stay (fun c v hc r=>k c v ?_ r) (fun c r=>by rw[n4 (nown c b r)];exact r) fun c xs r=>by rw[n4 (ntup c xs r)];exact r
   rcases hc with rfl | hc
   ·exact hbe
   ·rintro rfl
    rcases he with z | z
    ·exact nown c b hc z
    ·rw[hc]at z;cases z;exact hb rfl
end
structure Un (fs ex:List Addr) (H H':Hp) (h h':Heap):Prop where
 keep:∀ b o,h.get? b=some o->H b=none->b∉fs->b∉ex->h'.get? b=some o
 slot:∀ b o,h.get? b=some o->H b=none->b∈fs->b∉ex->∃ sl,h'.get? b=some { o with slots:=sl }
 free:∀ b o,h.get? b=some o->H b=none->b∉ex->H' b=none
 there:∀ b o,h.get? b=some o->b∉ex->∃ o',h'.get? b=some o'
 tups:∀ b xs,H b=some (.tup xs)->H' b=some (.tup xs)
 frzs:∀ b o u,H b=some (.frz o u)->H' b=some (.frz o u)
 tbls:∀ b ps,H b=some (.tbl ps)->∃ more,H' b=some (.tbl (ps++more))
section
variable {fs fs' ex ex':List Addr} {H H1 H2:Hp} {h1 h2:Heap} {x e:Addr} {o:HO}
theorem Un.any (u:Un fs ex H H1 h h1){b:Addr}{ob:Obj}(q:h.get? b=some ob)(n:H b=none)(hx:b∉ex):∃ sl,h1.get? b=some { ob with slots:=sl }:=by
 by_cases hb:b∈fs
 ·exact u.slot b ob q n hb hx
 ·exact⟨ob.slots,u.keep b ob q n hb hx⟩
theorem Un.kept (k:∀ b u,h.get? b=some u->h'.get? b=some u):Un fs ex H H h h':=
 ⟨fun b ob q _ _ _=>k b ob q,fun b ob q _ _ _=>⟨ob.slots,k b ob q⟩,fun _ _ _ n _=>n,fun b ob q _=>⟨ob,k b ob q⟩,fun _ _ q=>q,fun _ _ _ q=>q,fun _ ps q=>⟨#[],by rw[q];simp⟩⟩
theorem Un.refl:Un fs ex H H h h:=Un.kept fun _ _ q=>q
theorem Un.laid (k:∀ b u,h.get? b=some u->h'.get? b=some u)(hp:h.objs.size<=a)(hn:H a=none):Un fs ex H (upd H a o) h h' where
 keep:=fun b u q _ _ _=>k b u q
 slot:=fun b u q _ _ _=>⟨u.slots,k b u q⟩
 free:=fun b u q n _=>by rw[n4 (j0 (o8 (c9 q) hp))];exact n
 there:=fun b u q _=>⟨u,k b u q⟩
 tups:=fun b xs q=>by rw[n4 (u6 q hn)];exact q
 frzs:=fun b u xs q=>by rw[n4 (u6 q hn)];exact q
 tbls:=fun b ps q=>⟨#[],by rw[n4 (u6 q hn),q];simp⟩
theorem Un.write (mu:Mut (H x))(he:e=x\/H e=some (.own x))(k:∀ b u,b≠e->h.get? b=some u->h'.get? b=some u)(heo:∃ u,h'.get? e=some u):Un fs ex H (upd H x o) h h':=by
 have hx:∀ b,H b=none->b≠x:=fun b n z=>by subst z;rw[n]at mu;exact mu
 have hb:∀ b,H b=none->b≠e:=fun b n z=>by
  subst z
  rcases he with r | r
  ·exact hx b n r
  ·rw[n]at r;cases r
 have hm:∀ b u,H b=some u->¬ Mut (some u)->b≠x:=fun b u q nm z=>by subst z;rw[q]at mu;exact nm mu
 refine⟨fun b u q n _ _=>k b u (hb b n) q,fun b u q n _ _=>⟨u.slots,k b u (hb b n) q⟩,fun b u q n _=>by rw[n4 (hx b n)];exact n,fun b u q _=>?_,
  fun b xs q=>by rw[n4 (hm b _ q fun z=>z)];exact q,fun b u xs q=>by rw[n4 (hm b _ q fun z=>z)];exact q,fun b ps q=>⟨#[],by rw[n4 (hm b _ q fun z=>z),q];simp⟩⟩
 by_cases hbe:b=e
 ·subst hbe;exact heo
 ·exact⟨u,k b u hbe q⟩
end
def trk (h:Heap)(H:Hp):List Addr:=(O2 h.objs.size).filter fun a=>(H a).isSome
def aC8 (h:Heap)(H:Hp):Heap:=PySem.W.hideAll h (trk h H)
theorem bk2 (h:Heap)(H:Hp):(aC8 h H).objs.size=h.objs.size:=PySem.W.hideAll_size _ _
theorem bu3 {H:Hp}{b:Addr}(e:h.get? b=some o)(n:H b=none):(aC8 h H).get? b=some o:=
 PySem.W.hideAll_get _ e fun hm=>by
  have q:(H b).isSome=true:=(p9.mp hm).2
  rw[n]at q;simp at q
theorem bC9 {H:Hp}{b:Addr}(e:(aC8 h H).get? b=some o):h.get? b=some o/\H b=none:=by
 have e':h.get? b=some o:=PySem.W.of_hideAll (trk h H) e
 refine⟨e',?_⟩
 cases q:H b with
 | none=>rfl
 | some x =>
  have hm:b∈trk h H:=p9.mpr ⟨E4.mpr (c9 e'),by simp[q]⟩
  have z:(aC8 h H).get? b=none:=PySem.W.hideAll_none (trk h H) hm
  rw[z]at e;cases e
def bF0 (g h:Heap)(L:Addr):List (Addr × Obj):=(O2 h.objs.size).filterMap fun a=>if a=L\/(g.get? a).isSome=true then none else (h.get? a).map fun o=>(a,o)
def rest (g h:Heap)(L d:Addr):List (Addr × Obj):=(bF0 g h L).filter fun p=>decide (p.1≠d)
end L2
variable {H H':L2.Hp}{gV:List L2.V->List L2.V->List L2.V}{kvs:List (List L2.Key × L2.V)}{ys:List L2.V}
namespace L2
open PySem PySem.Spec PyProof.Rows
structure Mod (K:W.Frag) (mg:Str->Option Value) (base:Heap):Prop where
 kin:K.In base
 glob:base.Ns i9 mg
 blt:∃ mb,base.Ns av3 mb/\∀ x:Str,x≠"__name__"->mb x=Q5 x
 nolimit:base.NoLimit
structure Cx where
 prog:Program
 w:World
 K:W.Frag
 mg:Str->Option Value
 base:Heap
 A:Around
 N:List Str
 s₀:Shared
 H₀:Hp
 env:Env
 outer:List Env
 stack:List Env
 ex:List Addr
 fn:Str->Bool
 calm:Bool
 pn:List (Addr × Obj)
 xe:Value->Shared->Prop
def frs (l:List Env):List Addr:=l.filterMap (·.frame)
abbrev Cx.fs (X:Cx):List Addr:=frs X.outer
def Vis (sc:Scope)(x:Str):Prop:=sc.names.lookup x=some .local\/sc.names.lookup x=some .cell\/sc.names.lookup x=some .free
def Loc (sc:Scope)(x:Str):Prop:=sc.names.lookup x=some .local\/sc.names.lookup x=some .cell
def Look (env:Env)(h:Heap)(m:Str->Option Value)(x:Str)(u:Value):Prop:=
 (env.kindOf x=some .local/\m x=some u)\/((env.kindOf x=some .cell\/env.kindOf x=some .free)/\∃ c,env.cells.lookup x=some c/\h.IsCell c (some u))
structure Cx.Ok (X:Cx):Prop where
 mod:Mod X.K X.mg X.base
 kind:X.env.scope.kind=.function
 glob:X.env.globals=i9
 blt:X.env.builtins=av3
 above:X.s₀.heap.objs.size<=X.env.locals
 inj:∀ x y c,X.env.cells.lookup x=some c->X.env.cells.lookup y=some c->x=y
 has:∀ x,(X.env.kindOf x=some .cell\/X.env.kindOf x=some .free)->∃ c,X.env.cells.lookup x=some c
 cab:∀ x c,X.fn x=true->X.env.cells.lookup x=some c->X.s₀.heap.objs.size<=c
 hd:X.calm=true->X.A.handled=none
 frames:X.A.frames=some X.stack
 stk:X.stack=X.outer\/(X.stack=X.env::X.outer/\X.env.frame=some X.env.locals)
 exf:∀ b∈X.ex,b≠X.env.locals/\∀ x c,X.env.cells.lookup x=some c->c≠b
 bs:∀ b o,X.base.get? b=some o->X.s₀.heap.get? b=some o/\X.H₀ b=none
 bsz:X.base.objs.size<=X.s₀.heap.objs.size
 noex:∀ b o,X.base.get? b=some o->b∉X.ex
 exfs:∀ b∈X.ex,b∉X.fs
 funs:X.s₀.heap.FunFrames X.base X.outer
 frf:∀ b∈X.fs,X.H₀ b=none
structure Inv (X:Cx) (pins:List (Addr × Obj)) (σ:List (Option V)) (H:Hp) (s:Shared):Prop where
 ok:X.Ok
 os:s.os=X.s₀.os
 bare:at6 s.gens
 base:Un X.fs X.ex X.H₀ H X.s₀.heap s.heap
 loc:∃ m,s.heap.Ns X.env.locals m/\∀ (i:Nat) (x:Str) (v:V),X.N[i]?=some x->σ[i]?=some (some v)->Vis X.env.scope x->∃ u,RelV v u/\Look X.env s.heap m x u
 cell:∀ x c,X.env.cells.lookup x=some c->∃ v,s.heap.IsCell c v
 free:H X.env.locals=none
 freeC:∀ x c,X.env.cells.lookup x=some c->H c=none
 pin:∀ p∈X.pn++pins,s.heap.get? p.1=some p.2/\H p.1=none/\p.1≠X.env.locals/\p.1∉X.fs/\∀ v,p.2.data≠.cell v
 hok:HOk X.prog X.w H s.heap
 len:σ.length=X.N.length
section
variable {X:Cx} {σ:List (Option V)}
theorem Cx.Ok.nofr (ok:X.Ok){b:Addr}(e:X.base.get? b=some o):b∉X.fs:=fun hb=>by
 have:=(ok.funs.mem hb).1
 rw[e]at this;cases this
theorem Inv.bs (I:Inv X pins σ H s):∀ b o,X.base.get? b=some o->s.heap.get? b=some o/\H b=none:=fun b o e =>
 ⟨I.base.keep b o (I.ok.bs b o e).1 (I.ok.bs b o e).2 (I.ok.nofr e) (I.ok.noex b o e),I.base.free b o (I.ok.bs b o e).1 (I.ok.bs b o e).2 (I.ok.noex b o e)⟩
theorem Inv.bk (I:Inv X pins σ H s):∀ b o,X.base.get? b=some o->s.heap.get? b=some o:=fun b o e=>(I.bs b o e).1
theorem Inv.mod (I:Inv X pins σ H s):Mod X.K X.mg X.base:=I.ok.mod
theorem Inv.kIn (I:Inv X pins σ H s):X.K.In s.heap:=I.ok.mod.kin.keeps I.bk
theorem Inv.nolimit (I:Inv X pins σ H s):s.heap.NoLimit:=I.ok.mod.nolimit.keeps I.bk
theorem Inv.lt (I:Inv X pins σ H s):X.env.locals<s.heap.objs.size:=let ⟨_,hn,_⟩:=I.loc;hn.lt
theorem Inv.sz (I:Inv X pins σ H s):X.s₀.heap.objs.size<=s.heap.objs.size:=t9 I.ok.above (aq1 I.lt)
theorem Inv.nofs (I:Inv X pins σ H s)(h:s.heap.objs.size<=a):a∉X.fs:=fun hb=>by
 obtain⟨_,o,ho,_⟩:=I.ok.funs.mem hb
 exact absurd (o8 (c9 ho) (t9 I.sz h)) (A3 _)
theorem Inv.cne (I:Inv X pins σ H s):∀ x c,X.env.cells.lookup x=some c->c≠X.env.locals:=fun x c e z=>by
 obtain⟨v,o,ho,hd⟩:=I.cell x c e
 obtain⟨m,⟨o',es,ep,ho',hd',_⟩,_⟩:=I.loc
 rw[z,ho']at ho;cases ho;rw[hd']at hd;cases hd
theorem Inv.funs (I:Inv X pins σ H s):s.heap.FunFrames X.base X.outer:=by
 have all:∀ (l:List Env),(∀ b∈frs l,b∈X.fs)->X.s₀.heap.FunFrames X.base l->s.heap.FunFrames X.base l:=by
  intro l
  induction l with
  | nil=>intro _ _;trivial
  | cons env r ih =>
   intro hs hl
   obtain⟨hk,⟨L,o,hf,hn,ho,hd⟩,hr⟩:=hl
   have hL:L∈X.fs:=hs L (by unfold frs;rw[ad7,hf];exact c6)
   obtain⟨sl,e⟩:=I.base.slot L o ho (I.ok.frf L hL) hL fun z=>I.ok.exfs L z hL
   exact⟨hk,⟨L,_,hf,hn,e,hd⟩,ih (fun b hb=>hs b (by unfold frs;rw[ad7,hf];exact d3 _ hb)) hr⟩
 exact all X.outer (fun _ hb=>hb) I.ok.funs
theorem Inv.stack (I:Inv X pins σ H s):s.heap.FunFrames X.base X.stack:=by
 rcases I.ok.stk with e | ⟨e,hf⟩
 ·rw[e];exact I.funs
 ·rw[e]
  obtain⟨m,hn,_⟩:=I.loc
  refine .cons (by rw[I.ok.kind];decide) hf hn ?_ I.funs
  exact T6 (t9 I.ok.bsz I.ok.above)
theorem Inv.stkSub (I:Inv X pins σ H s):∀ b∈frs X.stack,b∈X.env.locals::X.fs:=fun b hb=>by
 rcases I.ok.stk with e | ⟨e,hf⟩
 ·rw[e]at hb;exact d3 _ hb
 ·rw[e]at hb
  unfold frs at hb
  rw[ad7,hf]at hb
  exact hb
theorem Inv.stkFree (I:Inv X pins σ H s):∀ b∈frs X.stack,H b=none:=fun b hb=>by
 rcases c8.mp (I.stkSub b hb) with e | hb
 ·rw[e];exact I.free
 ·obtain⟨_,o,ho,_⟩:=I.ok.funs.mem hb
  exact I.base.free b o ho (I.ok.frf b hb) fun z=>I.ok.exfs b z hb
theorem Inv.step {g':Array GenState}{d':Drawn}{ch:List Addr}(I:Inv X pins σ H s)
  (hch:∀ b∈ch,(b∈X.ex\/X.s₀.heap.objs.size<=b)/\b≠X.env.locals/\(∀ x c,X.env.cells.lookup x=some c->c≠b)/\∀ p∈X.pn++pins,p.1≠b)
  (keep:∀ b o,b≠X.env.locals->b∉X.fs->b∉ch->s.heap.get? b=some o->H b=none->h'.get? b=some o)
  (slot:∀ b o,b≠X.env.locals->b∈X.fs->b∉ch->s.heap.get? b=some o->H b=none->∃ sl,h'.get? b=some { o with slots:=sl })(free:∀ b o,b∉ch->s.heap.get? b=some o->H b=none->H' b=none)
  (there:∀ b o,b∉ch->s.heap.get? b=some o->∃ o',h'.get? b=some o')
  (tups:∀ b xs,H b=some (.tup xs)->H' b=some (.tup xs))(frzs:∀ b o u,H b=some (.frz o u)->H' b=some (.frz o u))(tbls:∀ b ps,H b=some (.tbl ps)->∃ more,H' b=some (.tbl (ps++more)))
  (ns:∀ m,s.heap.Ns X.env.locals m->h'.Ns X.env.locals m)(hok:HOk X.prog X.w H' h')(hg:at6 g') :
  Inv X pins σ H' { s with heap:=h',gens:=g',drawn:=d',toks:=t' }:=by
 have neL:∀ b o,X.s₀.heap.get? b=some o->b≠X.env.locals:=fun b o e=>j0 (o8 (c9 e) I.ok.above)
 have neC:∀ b o,X.s₀.heap.get? b=some o->b∉X.ex->b∉ch:=fun b o e hx hb=>by
  rcases(hch b hb).1 with z | z
  ·exact hx z
  ·exact absurd (o8 (c9 e) z) (A3 _)
 have cellK:∀ x c,X.env.cells.lookup x=some c->∀ v,s.heap.IsCell c v->h'.IsCell c v:=fun x c e v ⟨o,ho,hd⟩=>by
  have nch:c∉ch:=fun z=>(hch c z).2.2.1 x c e rfl
  by_cases hc:c∈X.fs
  ·obtain⟨sl,q⟩:=slot c o (I.cne x c e) hc nch ho (I.freeC x c e)
   exact⟨_,q,hd⟩
  ·exact⟨o,keep c o (I.cne x c e) hc nch ho (I.freeC x c e),hd⟩
 refine⟨I.ok,I.os,hg,⟨fun b o e n hb hx=>?_,fun b o e n hb hx=>?_,fun b o e n hx=>?_,fun b o e hx=>?_,fun b xs e=>tups b xs (I.base.tups b xs e),fun b o xs e=>frzs b o xs (I.base.frzs b o xs e),fun b ps e=>?_⟩,?_,fun x c e=>?_,?_,fun x c e=>?_,fun p hp=>?_,hok,I.len⟩
 ·exact keep b o (neL b o e) hb (neC b o e hx) (I.base.keep b o e n hb hx) (I.base.free b o e n hx)
 ·obtain⟨sl,e1⟩:=I.base.slot b o e n hb hx
  obtain⟨sl',e2⟩:=slot b _ (neL b o e) hb (neC b o e hx) e1 (I.base.free b o e n hx)
  exact⟨sl',e2⟩
 ·obtain⟨o',e1⟩:=I.base.there b o e hx
  exact free b o' (neC b o e hx) e1 (I.base.free b o e n hx)
 ·obtain⟨o',e1⟩:=I.base.there b o e hx
  exact there b o' (neC b o e hx) e1
 ·obtain⟨m1,e1⟩:=I.base.tbls b ps e
  obtain⟨m2,e2⟩:=tbls b _ e1
  exact⟨m1++m2,by rw[e2,bF4]⟩
 ·obtain⟨m,hn,hl⟩:=I.loc
  refine⟨m,ns m hn,fun i x v e1 e2 e3=>?_⟩
  obtain⟨u,r,l⟩:=hl i x v e1 e2 e3
  refine⟨u,r,?_⟩
  rcases l with l | ⟨k,c,e,z⟩
  ·exact .inl l
  ·exact .inr ⟨k,c,e,cellK x c e _ z⟩
 ·obtain⟨v,z⟩:=I.cell x c e
  exact⟨v,cellK x c e v z⟩
 ·obtain⟨m,⟨o,_,_,ho,_⟩,_⟩:=I.loc
  exact free _ o (fun z=>(hch _ z).2.1 rfl) ho I.free
 ·obtain⟨v,o,ho,hd⟩:=I.cell x c e
  exact free c o (fun z=>(hch c z).2.2.1 x c e rfl) ho (I.freeC x c e)
 ·obtain⟨e,n,ne,nf,d⟩:=I.pin p hp
  have nch:p.1∉ch:=fun z=>(hch p.1 z).2.2.2 p hp rfl
  exact⟨keep p.1 p.2 ne nf nch e n,free p.1 p.2 nch e n,ne,nf,d⟩
theorem Inv.un (I:Inv X pins σ H s)(u:Un X.fs [] H H' s.heap h')(hok:HOk X.prog X.w H' h'):Inv X pins σ H' { s with heap:=h',toks:=t' }:=by
 obtain⟨m,⟨o,es,ep,ho,r⟩,_⟩:=id I.loc
 obtain⟨sl,hL⟩:=u.any ho I.free (by simp)
 exact I.step (g':=s.gens) (d':=s.drawn) (ch:=[]) (fun _ z=>nomatch z) (fun b o _ hb _ e n=>u.keep b o e n hb (by simp)) (fun b o _ hb _ e n=>u.slot b o e n hb (by simp)) (fun b o _ e n=>u.free b o e n (by simp)) (fun b o _ e=>u.there b o e (by simp)) u.tups u.frzs u.tbls (fun m' hm=>by
  obtain⟨o',es',ep',ho',r'⟩:=hm
  rw[ho]at ho';cases ho'
  exact⟨_,es',ep',hL,r'⟩) hok I.bare
theorem Inv.call {g':Array GenState}{d':Drawn}{ch:List Addr}(I:Inv X pins σ H s)(u:Un (frs X.stack) ch H H' s.heap h')(hok:HOk X.prog X.w H' h')(hg:at6 g')
  (hch:∀ b∈ch,(b∈X.ex\/X.s₀.heap.objs.size<=b)/\b≠X.env.locals/\(∀ x c,X.env.cells.lookup x=some c->c≠b)/\∀ p∈X.pn++pins,p.1≠b) :
  Inv X pins σ H' { s with heap:=h',gens:=g',drawn:=d',toks:=t' }:=by
 obtain⟨m,⟨o,es,ep,ho,r⟩,_⟩:=id I.loc
 obtain⟨sl,hL⟩:=u.any ho I.free fun z=>(hch _ z).2.1 rfl
 exact I.step (ch:=ch) hch (fun b o hL hb hc e n=>u.keep b o e n (fun z=>(c8.mp (I.stkSub b z)).elim hL hb) hc) (fun b o _ _ hc e n=>u.any e n hc) (fun b o hc e n=>u.free b o e n hc) (fun b o hc e=>u.there b o e hc) u.tups u.frzs u.tbls (fun m' hm=>by
  obtain⟨o',es',ep',ho',r'⟩:=hm
  rw[ho]at ho';cases ho'
  exact⟨_,es',ep',hL,r'⟩) hok hg
theorem Inv.turned {it:Addr}(I:Inv X pins σ H s)(k:∀ b o,b≠it->s.heap.get? b=some o->h'.get? b=some o)(hn:H it=none)(hL:it≠X.env.locals)
  (h1:it∈X.ex\/X.s₀.heap.objs.size<=it)(h2:∀ x c,X.env.cells.lookup x=some c->c≠it)(h3:∀ p∈X.pn++pins,p.1≠it):Inv X pins σ H { s with heap:=h',toks:=t' }:=by
 have nit:∀ b u,H b=some u->b≠it:=fun b u e z=>by rw[z,hn]at e;cases e
 refine I.step (g':=s.gens) (d':=s.drawn) (ch:=[it]) (fun b hb=>?_) (fun b o _ _ hc e _=>k b o (fun z=>hc (by simp[z])) e) (fun b o _ _ hc e _=>⟨o.slots,k b o (fun z=>hc (by simp[z])) e⟩) (fun _ _ _ _ n=>n)
  (fun b o hc e=>⟨o,k b o (fun z=>hc (by simp[z])) e⟩) (fun _ _ e=>e) (fun _ _ _ e=>e) (fun b ps e=>⟨#[],by rw[e];simp⟩) (fun m hm=>?_) (fun b u e=>?_) I.bare
 ·have e:b=it:=by simpa using hb
  subst e
  exact⟨h1,hL,h2,h3⟩
 ·obtain⟨o,es,ep,ho,r⟩:=hm
  exact⟨o,es,ep,k _ o (Ne.symm hL) ho,r⟩
 ·refine(I.hok b u e).stay (fun c v hc q=>k c v ?_ q) (fun _ q=>q) fun _ _ q=>q
  rcases hc with z | z
  ·rw[z];exact nit b u e
  ·exact nit c _ z
theorem Inv.tok (I:Inv X pins σ H s)(t:Nat):Inv X pins σ H { s with toks:=t }:=I.un (h':=s.heap) (t':=t) Un.refl I.hok
theorem Inv.kept (I:Inv X pins σ H s)(k:∀ b u,s.heap.get? b=some u->h'.get? b=some u):Inv X pins σ H { s with heap:=h',toks:=t' }:=I.un (Un.kept k) (I.hok.kept k)
theorem Inv.laid {o:HO}(I:Inv X pins σ H s)(k:∀ b u,s.heap.get? b=some u->h'.get? b=some u)(hp:s.heap.objs.size<=a)(new:D5 X.prog X.w (upd H a o) h' a o) :
  Inv X pins σ (upd H a o) { s with heap:=h',toks:=t' }:=I.un (Un.laid k hp (I.hok.fresh hp)) (I.hok.laid k hp new)
theorem Inv.write {x e:Addr}{o:HO}(I:Inv X pins σ H s)(mu:Mut (H x))(he:e=x\/H e=some (.own x))(k:∀ b u,b≠e->s.heap.get? b=some u->h'.get? b=some u)(heo:∃ u,h'.get? e=some u)
  (new:D5 X.prog X.w (upd H x o) h' x o):Inv X pins σ (upd H x o) { s with heap:=h',toks:=t' }:=I.un (Un.write mu he k heo) (I.hok.write mu he k heo new)
theorem Inv.pins_of {pins':List (Addr × Obj)}(I:Inv X pins σ H s)(h:∀ p∈pins',s.heap.get? p.1=some p.2/\H p.1=none/\p.1≠X.env.locals/\p.1∉X.fs/\∀ v,p.2.data≠.cell v):Inv X pins' σ H s:=
 ⟨I.ok,I.os,I.bare,I.base,I.loc,I.cell,I.free,I.freeC,fun p hp=>(n8.mp hp).elim (fun z=>I.pin p (A9 _ z)) (h p),I.hok,I.len⟩
theorem aA2 (hN:N.Nodup)(a:N[i]?=some x)(b:N[j]?=some x):i=j:=by
 obtain⟨h1,e1⟩:=a9.mp a
 obtain⟨h2,e2⟩:=a9.mp b
 exact(List.getElem_inj hN).mp (e1.trans e2.symm)
theorem aD5 {v:V}{Q:Unit->Shared->Prop}(I:Inv X pins σ H s)(hN:X.N.Nodup)(hi:X.N[i]?=some x)(hx:Loc X.env.scope x)(r:RelV v u)
  (h:∀ s',Inv X pins (σ.set i (some v)) H s'->(∃ a,Heap.SameBut a s.heap s'.heap/\(a=X.env.locals\/X.env.cells.lookup x=some a))->Q () s')(hf:X.fn x=true\/X.env.scope.names.lookup x=some .local:=by first | exact .inl rfl | exact .inr rfl | assumption):k9 M A (storeName X.env x u) Q E s:=by
 obtain⟨m,hn,hl⟩:=id I.loc
 have hcls:(X.env.scope.kind == .class || (X.env.scope.kind == .module && X.env.locals != X.env.globals))=false:=by rw[I.ok.kind];rfl
 have hiσ:i<σ.length:=by rw[I.len];exact(a9.mp hi).1
 have cne:=I.cne
 have tracked:∀ {a:Addr} {h':Heap},(∃ o,s.heap.get? a=some o/\H a=none)->Heap.SameBut a s.heap h'->HOk X.prog X.w H h':=fun {a h'} ha hs b ob e=>by
  obtain⟨_,_,hfree⟩:=ha
  refine(I.hok b ob e).stay (fun c w' hc q=>(hs.2 c ?_).trans q) (fun _ q=>q) fun _ _ q=>q
  rintro rfl
  rcases hc with rfl | hc
  ·rw[hfree]at e;cases e
  ·rw[hfree]at hc;cases hc
 rcases hx with hk | hk
 ·refine wpAny_storeName_local hk hn (fun h' hn' hs=>?_) hcls
  obtain⟨oL,_,_,hoL,_⟩:=id hn
  refine h _ ⟨I.ok,I.os,I.bare,⟨fun b o e n hb hx=>?_,fun b o e n hb hx=>?_,I.base.free,fun b o e hx=>?_,I.base.tups,I.base.frzs,I.base.tbls⟩,⟨_,hn',fun j y v' e1 e2 e3=>?_⟩,fun y c e=>?_,I.free,I.freeC,fun p hp=>?_,tracked ⟨oL,hoL,I.free⟩ hs,by simpa using I.len⟩ ⟨_,hs,.inl rfl⟩
  ·exact(hs.2 b (j0 (o8 (c9 e) I.ok.above))).trans (I.base.keep b o e n hb hx)
  ·obtain⟨sl,e1⟩:=I.base.slot b o e n hb hx
   exact⟨sl,(hs.2 b (j0 (o8 (c9 e) I.ok.above))).trans e1⟩
  ·obtain⟨o',e1⟩:=I.base.there b o e hx
   exact⟨o',(hs.2 b (j0 (o8 (c9 e) I.ok.above))).trans e1⟩
  ·by_cases hj:j=i
   ·subst hj
    rw[hi]at e1;cases e1
    rw[an0 hiσ]at e2
    cases e2
    exact⟨u,r,.inl ⟨hk,by simp⟩⟩
   ·rw[T7 (Ne.symm hj)]at e2
    obtain⟨u',r',q⟩:=hl j y v' e1 e2 e3
    refine⟨u',r',?_⟩
    rcases q with⟨k,e⟩ | ⟨k,c,e,z⟩
    ·refine .inl ⟨k,?_⟩
     have:y≠x:=fun e=>hj (aA2 hN e1 (e ▸ hi))
     simp[this,e]
    ·exact .inr ⟨k,c,e,z.sameBut hs (cne y c e)⟩
  ·obtain⟨w',z⟩:=I.cell y c e
   exact⟨w',z.sameBut hs (cne y c e)⟩
  ·obtain⟨e,n,ne,nf,d⟩:=I.pin p hp
   exact⟨(hs.2 p.1 ne).trans e,n,ne,nf,d⟩
 ·have hfn:X.fn x=true:=by
   rcases hf with z | z
   ·exact z
   ·rw[z]at hk;cases hk
  obtain⟨c,hc⟩:=I.ok.has x (.inl hk)
  obtain⟨w',z⟩:=I.cell x c hc
  refine wpAny_storeName_cell I.ok.kind hk hc z (fun h' hc' hs=>?_)
  obtain⟨oc,hoc,hocd⟩:=id z
  refine h { s with heap:=h' } ⟨I.ok,I.os,I.bare,⟨fun b o e n hb hx=>?_,fun b o e n hb hx=>?_,I.base.free,fun b o e hx=>?_,I.base.tups,I.base.frzs,I.base.tbls⟩,⟨m,hn.sameBut hs (Ne.symm (cne x c hc)),fun j y v' e1 e2 e3=>?_⟩,fun y c' e=>?_,I.free,I.freeC,fun p hp=>?_,tracked ⟨oc,hoc,I.freeC x c hc⟩ hs,by simpa using I.len⟩ ⟨c,hs,.inr hc⟩
  ·exact(hs.2 b (j0 (o8 (c9 e) (I.ok.cab x c hfn hc)))).trans (I.base.keep b o e n hb hx)
  ·obtain⟨sl,e1⟩:=I.base.slot b o e n hb hx
   exact⟨sl,(hs.2 b (j0 (o8 (c9 e) (I.ok.cab x c hfn hc)))).trans e1⟩
  ·obtain⟨o',e1⟩:=I.base.there b o e hx
   exact⟨o',(hs.2 b (j0 (o8 (c9 e) (I.ok.cab x c hfn hc)))).trans e1⟩
  ·by_cases hj:j=i
   ·subst hj
    rw[hi]at e1;cases e1
    rw[an0 hiσ]at e2
    cases e2
    exact⟨u,r,.inr ⟨.inl hk,c,hc,hc'⟩⟩
   ·rw[T7 (Ne.symm hj)]at e2
    obtain⟨u',r',q⟩:=hl j y v' e1 e2 e3
    refine⟨u',r',?_⟩
    rcases q with q | ⟨k,c',e,z'⟩
    ·exact .inl q
    ·refine .inr ⟨k,c',e,z'.sameBut hs ?_⟩
     rintro rfl
     exact hj (aA2 hN e1 (I.ok.inj _ _ _ e hc ▸ hi))
  ·by_cases hcc:c'=c
   ·subst hcc;exact⟨_,hc'⟩
   ·obtain⟨w2,z2⟩:=I.cell y c' e
    exact⟨w2,z2.sameBut hs hcc⟩
  ·obtain⟨e,n,ne,nf,d⟩:=I.pin p hp
   refine⟨(hs.2 p.1 ?_).trans e,n,ne,nf,d⟩
   intro q
   rw[q,hoc]at e
   have q':oc=p.2:=Option.some.inj e
   exact d w' (by rw[<- q'];exact hocd)
theorem ay4 {v:V}{Q:Unit->Shared->Prop}(I:Inv X pins σ H s)(hN:X.N.Nodup)(hi:X.N[i]?=some x)(hx:Loc X.env.scope x)(r:RelV v u)
  (h:∀ s',Inv X pins (σ.set i (some v)) H s'->Q () s')(hf:X.fn x=true\/X.env.scope.names.lookup x=some .local:=by first | exact .inl rfl | exact .inr rfl | assumption):k9 M A (storeName X.env x u) Q E s:=
 aD5 I hN hi hx r (fun s' I' _=>h s' I') hf
theorem Inv.call' {s':Shared}{ch:List Addr}(I:Inv X pins σ H s)(ho:s'.os=s.os)(u:Un (frs X.stack) ch H H' s.heap s'.heap)(hok:HOk X.prog X.w H' s'.heap)(hg:at6 s'.gens)
  (hch:∀ b∈ch,(b∈X.ex\/X.s₀.heap.objs.size<=b)/\b≠X.env.locals/\(∀ x c,X.env.cells.lookup x=some c->c≠b)/\∀ p∈X.pn++pins,p.1≠b):Inv X pins σ H' s':=by
 obtain⟨h',g',d',t',o'⟩:=s'
 have e:o'=s.os:=ho
 subst e
 exact I.call (g':=g') (t':=t') (d':=d') u hok hg hch
end
abbrev XK:=Value->Option Addr->Hp->Prop
abbrev St:=List (Option V)
abbrev VK:=V->Hp->Prop
abbrev TE:=St->Hp->VK->Prop
abbrev TT:=St->Hp->(Bool->Hp->Prop)->Prop
abbrev TA:=St->Hp->(List V->Hp->Prop)->Prop
structure Ends where
 nx:St->Hp->Prop
 rt:VK
 bk:St->Hp->Prop:=fun _ _=>False
 ct:St->Hp->Prop:=fun _ _=>False
abbrev TS:=Ends->St->Hp->Prop
def EP (X:Cx)(pins:List (Addr × Obj))(σ:St)(Q:VK)(u:Value)(s':Shared):Prop:=∃ v H',Inv X pins σ H' s'/\RelV v u/\Q v H'
def TP (X:Cx)(pins:List (Addr × Obj))(σ:St)(Q:Bool->Hp->Prop)(b:Bool)(s':Shared):Prop:=∃ H',Inv X pins σ H' s'/\Q b H'
def AP (X:Cx)(pins:List (Addr × Obj))(σ:St)(Q:List V->Hp->Prop)(us:List Value)(s':Shared):Prop:=∃ vs H',Inv X pins σ H' s'/\B6 vs us/\Q vs H'
def SP (X:Cx)(pins:List (Addr × Obj))(D:Ends)(f:Flow)(s':Shared):Prop:=
 match f with
 | .next=>∃ σ' H',Inv X pins σ' H' s'/\D.nx σ' H'
 | .brk=>∃ σ' H',Inv X pins σ' H' s'/\D.bk σ' H'
 | .cont=>∃ σ' H',Inv X pins σ' H' s'/\D.ct σ' H'
 | .ret u=>∃ v σ' H',Inv X pins σ' H' s'/\RelV v u/\D.rt v H'
def PE (X:Cx)(e:Expr)(t:TE):Prop:=
 ∀ (pins:List (Addr × Obj)) (s:Shared) (σ:St) (H:Hp) (Q:VK),Inv X pins σ H s->t σ H Q->k9 (n6 X.prog X.w) X.A (eval e X.env) (EP X pins σ Q) X.xe s
def PT (X:Cx)(e:Expr)(t:TT):Prop:=
 ∀ (pins:List (Addr × Obj)) (s:Shared) (σ:St) (H:Hp) (Q:Bool->Hp->Prop),Inv X pins σ H s->t σ H Q->k9 (n6 X.prog X.w) X.A (isTrue e X.env (eval e X.env)) (TP X pins σ Q) X.xe s
def PW (X:Cx)(e:Expr)(t:TT):Prop:=
 ∀ (whole:Sem Value) (pins:List (Addr × Obj)) (s:Shared) (σ:St) (H:Hp) (Q:Bool->Hp->Prop),Inv X pins σ H s->t σ H Q->k9 (n6 X.prog X.w) X.A (isTrue e X.env whole) (TP X pins σ Q) X.xe s
theorem PW.pt {X:Cx}{t:TT}(h:PW X e t):PT X e t:=h _
def PA (X:Cx)(es:List Expr)(t:TA):Prop:=
 ∀ (pos:Pos) (pins:List (Addr × Obj)) (s:Shared) (σ:St) (H:Hp) (Q:List V->Hp->Prop),Inv X pins σ H s->t σ H Q->k9 (n6 X.prog X.w) X.A (spliced (V7 pos (x8 es X.env))) (AP X pins σ Q) X.xe s
def PS (X:Cx)(st:Stmt)(t:TS):Prop:=
 ∀ (pins:List (Addr × Obj)) (s:Shared) (σ:St) (H:Hp) (D:Ends),Inv X pins σ H s->t D σ H->k9 (n6 X.prog X.w) X.A (exec st X.env) (SP X pins D) X.xe s
def PSs (X:Cx)(st:List Stmt)(t:TS):Prop:=
 ∀ (pins:List (Addr × Obj)) (s:Shared) (σ:St) (H:Hp) (D:Ends),Inv X pins σ H s->t D σ H->k9 (n6 X.prog X.w) X.A (execs st X.env) (SP X pins D) X.xe s
theorem thn {α:Type}{t:Sem α}{Q Q':α->Shared->Prop}(h:k9 M A t Q E s)(hQ:∀ a s,Q a s->Q' a s):k9 M A t Q' E s:=C2 h hQ fun _ _ x=>x
end L2
variable {X:L2.Cx}{r:L2.V->List L2.V->L2.Hp->L2.VK->Prop}{ta te:L2.TE}{σ:L2.St}
namespace L2
open PySem PySem.Spec PyProof.Rows
section
def bU3 (i:Nat):TE:=fun σ H Q=>∃ v,σ[i]?=some (some v)/\Q v H
def tC (v:V):TE:=fun _ H Q=>Q v H
theorem br4 (hN:X.N[i]?=some x)(hv:Vis X.env.scope x)(hd:(x == ("__debug__":Str))=false:=by decide)(hcd:(x == ("__classdict__":Str))=false:=by decide):PE X (.Name x pos) (bU3 i):=by
 intro pins s σ H Q I h
 obtain⟨v,e,h⟩:=h
 obtain⟨m,hn,hl⟩:=I.loc
 obtain⟨u,r,l⟩:=hl i x v hN e hv
 have fin:EP X pins σ Q u s:=⟨v,H,I,r,h⟩
 rcases l with⟨hk,hm⟩ | ⟨hk,c,hc,hcell⟩
 ·exact wpAny_Name (wpAny_loadName_local I.ok.kind hk hn hm fin) hd
 ·rcases hk with hk | hk
  ·exact wpAny_Name (wpAny_loadName_cell I.ok.kind hk hc hcell fin) hd
  ·exact wpAny_Name (wpAny_loadName_free I.ok.kind hk hc hcell fin hcd) hd
theorem k7 {i j pos}:PE X (.Constant (.int i) j pos) (tC (.int i)):=fun _ _ _ H _ I h=>wpAny_Constant_int ⟨.int i,H,I.tok _,⟨_,rfl⟩,h⟩
theorem ah4 {b j pos}:PE X (.Constant (.bool b) j pos) (tC (.bl b)):=fun _ _ _ H _ I h=>Constant_bool ⟨.bl b,H,I,rfl,h⟩
def Gl (X:Cx)(x:Str):Prop:=X.env.kindOf x=some .globalImplicit
theorem ao5 (I:Inv X pins σ H s)(hg:Gl X x)(hm:X.mg x=some u)(h:Q u s)
  (hd:(x == ("__debug__":Str))=false:=by decide):k9 (n6 X.prog X.w) X.A (eval (.Name x pos) X.env) Q E s :=
 Calls.Name_function_global I.ok.kind hg (Calls.loadGlobal_global (by rw[I.ok.glob];exact I.mod.glob.keeps I.bk) hm h) hd
theorem ah8 (I:Inv X pins σ H s)(hg:Gl X x)(hm:X.mg x=none)(hv:Q5 x=some u)(h:Q u s)
  (hn:x≠"__name__":=by decide)(hd:(x == ("__debug__":Str))=false:=by decide):k9 (n6 X.prog X.w) X.A (eval (.Name x pos) X.env) Q E s:=by
 obtain⟨mb,h1,h2⟩:=I.mod.blt
 exact Calls.Name_function_global I.ok.kind hg (Calls.loadGlobal_builtin (by rw[I.ok.glob];exact I.mod.glob.keeps I.bk) hm (by rw[I.ok.blt];exact h1.keeps I.bk) ((h2 x hn).trans hv) h) hd
theorem Z0 {v:V}(hg:Gl X x)(hm:X.mg x=some u)(r:RelV v u)(hd:(x == ("__debug__":Str))=false:=by decide):PE X (.Name x pos) (tC v) :=
 fun _ _ _ H _ I h=>ao5 I hg hm ⟨v,H,I,r,h⟩ hd
theorem ao1 {v:V}(hg:Gl X x)(hm:X.mg x=none)(hv:Q5 x=some u)(r:RelV v u)(hn:x≠"__name__":=by decide)(hd:(x == ("__debug__":Str))=false:=by decide):PE X (.Name x pos) (tC v) :=
 fun _ _ _ H _ I h=>ah8 I hg hm hv ⟨v,H,I,r,h⟩ hn hd
variable {a b:Expr} {tb:TE}
def PC (X:Cx)(op:CmpOp)(a b:Expr)(t:TE):Prop:=
 ∀ (pins:List (Addr × Obj)) (s:Shared) (σ:St) (H:Hp) (Q:VK),Inv X pins σ H s->t σ H Q ->
  k9 (n6 X.prog X.w) X.A (eval a X.env) (fun v s₁=>k9 (n6 X.prog X.w) X.A (eval b X.env) (fun u s₂=>k9 (n6 X.prog X.w) X.A (D6 op v u) (EP X pins σ Q) X.xe s₂) X.xe s₁) X.xe s
def tB (t:TE):TT:=fun σ H Q=>t σ H fun x H1=>∃ c,x=.bl c/\Q c H1
theorem bN1 {op:CmpOp}{t:TE}(h:PC X op a b t)(h1:ad9 op b=false:=by first | exact nobehind _ (by decide) (by decide) | rfl):PE X (.Compare a [op] [b] pos) t:=fun pins s σ H Q I hw=>wpAny_Compare1 (h pins s σ H Q I hw) h1
theorem bM6 {op:CmpOp}{t:TE}(h:PC X op a b t)(h1:ad9 op b=false:=by first | exact nobehind _ (by decide) (by decide) | rfl):PT X (.Compare a [op] [b] pos) (tB t):=by
 intro pins s σ H Q I hw
 refine bI9 (thn (h pins s σ H _ I hw) fun v s1 h1=>thn h1 fun u s2 h2=>thn h2 fun c s3 ⟨x,H1,I1,r1,q1⟩=>?_) h1
 obtain⟨d,rfl,q⟩:=q1
 cases r1
 exact L6 ⟨H1,I1,q⟩
theorem L7 {t:TE}(h:PE X e t)(he:∀ whole,isTrue e X.env whole=(do let v <- whole;standAt e.pos;aN0 [v] (truthy v)):=by intro _;rfl):PT X e (tB t):=by
 intro pins s σ H Q I hw
 refine isTrue_plain (thn (h pins s σ H _ I hw) fun v s1 ⟨x,H1,I1,r1,q1⟩=>?_) (he _)
 obtain⟨d,rfl,q⟩:=q1
 cases r1
 exact L6 ⟨H1,I1,q⟩
variable {tA tB':TT} {rest:List Expr}
def ca9 (t u:TT):TT:=fun σ H Q=>t σ H fun c H1=>if c=true then u σ H1 Q else Q false H1
def tOr (t u:TT):TT:=fun σ H Q=>t σ H fun c H1=>if c=true then Q true H1 else u σ H1 Q
def ca2 (t:TT):TT:=fun σ H Q=>t σ H fun c H1=>Q (!c) H1
theorem aw3 (ha:PT X a tA):PW X (.BoolOp .And [a] pos) tA:=by
 intro wh pins s σ H Q I h
 refine isTrue_and (thn (ha pins s σ H Q I h) fun c s1 e=>?_)
 cases c with
 | true=>exact isTrue_and_nil e
 | false=>exact e
theorem aa1 (ha:PT X a tA):PW X (.BoolOp .Or [a] pos) tA:=by
 intro wh pins s σ H Q I h
 refine isTrue_or (thn (ha pins s σ H Q I h) fun c s1 e=>?_)
 cases c with
 | false=>exact isTrue_or_nil e
 | true=>exact e
theorem aI8 (ha:PT X a tA)(hb:PW X (.BoolOp .And (b::rest) pos) tB'):PW X (.BoolOp .And (a::b::rest) pos) (ca9 tA tB'):=by
 intro wh pins s σ H Q I h
 refine isTrue_and (thn (ha pins s σ H _ I h) fun c s1 ⟨H1,I1,q1⟩=>?_)
 cases c with
 | true=>exact hb wh pins s1 σ H1 Q I1 q1
 | false=>exact⟨H1,I1,q1⟩
theorem ad1 (ha:PT X a tA)(hb:PW X (.BoolOp .Or (b::rest) pos) tB'):PW X (.BoolOp .Or (a::b::rest) pos) (tOr tA tB'):=by
 intro wh pins s σ H Q I h
 refine isTrue_or (thn (ha pins s σ H _ I h) fun c s1 ⟨H1,I1,q1⟩=>?_)
 cases c with
 | true=>exact⟨H1,I1,q1⟩
 | false=>exact hb wh pins s1 σ H1 Q I1 q1
theorem M4 (ha:PT X a tA):PT X (.UnaryOp .Not a pos) (ca2 tA):=by
 intro pins s σ H Q I h
 exact isTrue_not (ha pins s σ H (fun c H1=>Q (!c) H1) I h)
def bV4 (ta tb:TE):TE:=fun σ H Q=>ta σ H fun x H1=>∃ c,x=.bl c/\if c=true then tb σ H1 Q else Q (.bl false) H1
def bU8 (ta:TE):TE:=fun σ H Q=>ta σ H fun x H1=>∃ c,x=.bl c/\Q (.bl (!c)) H1
theorem aJ1 {op}{t:TE}(h:PE X a t):PE X (.BoolOp op [a] pos) t:=fun pins s σ H Q I hw=>BoolOp_one (h pins s σ H Q I hw)
theorem az8 (ha:PE X a ta)(hb:PE X (.BoolOp .And (b::rest) pos) tb):PE X (.BoolOp .And (a::b::rest) pos) (bV4 ta tb):=by
 intro pins s σ H Q I h
 refine BoolOp_and (thn (ha pins s σ H _ I h) fun v s1 ⟨x,H1,I1,r1,q1⟩=>?_)
 obtain⟨c,rfl,q1⟩:=q1
 cases r1
 refine L6 ?_
 cases c with
 | true=>exact hb pins s1 σ H1 Q I1 q1
 | false=>exact⟨.bl false,H1,I1,rfl,q1⟩
theorem az6 (ha:PE X a ta):PE X (.UnaryOp .Not a pos) (bU8 ta):=by
 intro pins s σ H Q I h
 refine UnaryOp_ (thn (ha pins s σ H _ I h) fun v s1 ⟨x,H1,I1,r1,q1⟩=>?_)
 obtain⟨c,rfl,q1⟩:=q1
 cases r1
 exact not_of (L6 ⟨.bl (!c),H1,I1,rfl,q1⟩)
end
def SqL (K:W.Frag)(H:Hp)(a:Addr)(xs:List V):Prop:=
 Rd H a (.lst xs) \/
  ∃ (o:Obj) (its:Array Value) (n:Nat),K.lookup a=some o/\o.cls=.type "list"/\o.dict=none/\o.data=.seq its n/\its.size<=i7/\B6 xs its.toList
def SqT (K:W.Frag)(H:Hp)(a:Addr)(xs:List V):Prop:=
 Rd H a (.tup xs) \/
  ∃ (o:Obj) (its:Array Value) (n:Nat),K.lookup a=some o/\o.cls=.type "tuple"/\o.data=.seq its n/\its.size<=i7/\B6 xs its.toList
def cc4:Value->Option V
 | .none=>some .non
 | .bool b=>some (.bl b)
 | .int i _=>some (.int i)
 | .str x _=>some (.str x)
 | .bytes b _=>some (.byt b)
 | .float b _=>some (.flt b)
 | .ref a=>some (.ref a)
 | .type n=>some (.ty n)
 | _=>none
theorem RelV.abs {x:V}(r:RelV x u):cc4 u=some x:=by
 cases x with
 | non=>cases r;rfl
 | bl _=>cases r;rfl
 | int _=>obtain⟨t,rfl⟩:=r;rfl
 | str _=>obtain⟨t,rfl⟩:=r;rfl
 | byt _=>obtain⟨t,rfl⟩:=r;rfl
 | flt _=>obtain⟨t,rfl⟩:=r;rfl
 | ref _=>cases r;rfl
 | ty _=>cases r;rfl
theorem RelV.inj {x y:V}(r:RelV x u)(q:RelV y u):x=y:=Option.some.inj (r.abs.symm.trans q.abs)
theorem B6.inj:∀ {xs ys:List V} {us:List Value},B6 xs us->B6 ys us->xs=ys
 | _,_,_,.nil,.nil=>rfl
 | _,_,_,.cons r t,.cons r' t'=>by rw[r.inj r',B6.inj t t']
section
variable {xs:List V}
theorem SqL.of {K:W.Frag}(h:H a=some (.lst xs)):SqL K H a xs:=.inl (.inl h)
theorem SqT.of {K:W.Frag}(h:H a=some (.tup xs)):SqT K H a xs:=.inl (.inl h)
theorem Inv.list (I:Inv X pins σ H s)(h:SqL X.K H a xs):∃ its:List Value,B6 xs its/\PlainL s.heap a its.toArray/\xs.length<=i7:=by
 rcases h with h | ⟨o,its,n,hk,hc,hd,hs,hz,r⟩
 ·obtain⟨z,its,n,r,e⟩:=h.ok I.hok
  exact⟨its,r,⟨_,n,e,rfl,rfl,rfl⟩,z⟩
 ·refine⟨its.toList,r,⟨o,n,I.kIn a o hk,hc,hd,by simpa using hs⟩,?_⟩
  have e:=r.length
  simp only[d8]at e
  omega
theorem Inv.tuple (I:Inv X pins σ H s)(h:SqT X.K H a xs):∃ its:List Value,B6 xs its/\IsTup s.heap a its.toArray/\xs.length<=i7:=by
 rcases h with h | ⟨o,its,n,hk,hc,hs,hz,r⟩
 ·obtain⟨z,its,r,p⟩:=h.ok I.hok
  exact⟨its,r,p,z⟩
 ·refine⟨its.toList,r,⟨o,I.kIn a o hk,hc,n,by simpa using hs⟩,?_⟩
  have e:=r.length
  simp only[d8]at e
  omega
theorem Inv.list_inj (I:Inv X pins σ H s)(h:SqL X.K H a xs)(h':SqL X.K H a ys):xs=ys:=by
 obtain⟨its,r,⟨o,n,e,_,_,d⟩,_⟩:=I.list h
 obtain⟨its',r',⟨o',n',e',_,_,d'⟩,_⟩:=I.list h'
 rw[e]at e';cases e'
 rw[d]at d'
 injection d' with d1 _
 have:its=its':=by simpa using congrArg Array.toList d1
 subst this
 exact r.inj r'
theorem Inv.tuple_inj (I:Inv X pins σ H s)(h:SqT X.K H a xs)(h':SqT X.K H a ys):xs=ys:=by
 obtain⟨its,r,⟨o,e,_,n,d⟩,_⟩:=I.tuple h
 obtain⟨its',r',⟨o',e',_,n',d'⟩,_⟩:=I.tuple h'
 rw[e]at e';cases e'
 rw[d]at d'
 injection d' with d1 _
 have:its=its':=by simpa using congrArg Array.toList d1
 subst this
 exact r.inj r'
end
abbrev Cx.wish (X:Cx)(E:Value->Shared->Prop):Cx:={ X with xe:=E }
abbrev Cx.nox (X:Cx):Cx:=X.wish fun _ _=>False
theorem Cx.Ok.wish (ok:X.Ok)(E:Value->Shared->Prop):(X.wish E).Ok:=
 ⟨ok.mod,ok.kind,ok.glob,ok.blt,ok.above,ok.inj,ok.has,ok.cab,ok.hd,ok.frames,ok.stk,ok.exf,ok.bs,ok.bsz,ok.noex,ok.exfs,ok.funs,ok.frf⟩
theorem Cx.Ok.unwish (ok:(X.wish E).Ok):X.Ok:=
 ⟨ok.mod,ok.kind,ok.glob,ok.blt,ok.above,ok.inj,ok.has,ok.cab,ok.hd,ok.frames,ok.stk,ok.exf,ok.bs,ok.bsz,ok.noex,ok.exfs,ok.funs,ok.frf⟩
theorem Inv.wish (I:Inv X pins σ H s)(E:Value->Shared->Prop):Inv (X.wish E) pins σ H s:=⟨I.ok.wish E,I.os,I.bare,I.base,I.loc,I.cell,I.free,I.freeC,I.pin,I.hok,I.len⟩
theorem Inv.unwish (I:Inv (X.wish E) pins σ H s):Inv X pins σ H s:=⟨I.ok.unwish,I.os,I.bare,I.base,I.loc,I.cell,I.free,I.freeC,I.pin,I.hok,I.len⟩
theorem SP.unwish {D:Ends}{f:Flow}{s':Shared}(h:SP (X.wish E) pins D f s'):SP X pins D f s':=by
 cases f with
 | next=>obtain⟨σ',H',I,q⟩:=h;exact⟨σ',H',I.unwish,q⟩
 | brk=>obtain⟨σ',H',I,q⟩:=h;exact⟨σ',H',I.unwish,q⟩
 | cont=>obtain⟨σ',H',I,q⟩:=h;exact⟨σ',H',I.unwish,q⟩
 | ret u=>obtain⟨v,σ',H',I,r,q⟩:=h;exact⟨v,σ',H',I.unwish,r,q⟩
theorem PSs.nox {st:List Stmt}{t:TS}(h:PSs X.nox st t):PSs X st t:=fun pins s σ H D I hw =>
 C2 (h pins s σ H D (I.wish _) hw) (fun _ _ q=>q.unwish) fun _ _ z=>False.elim z
section
variable {st:Stmt} {rest:List Stmt} {t u:TS}
def bU9:TS:=fun D σ H=>D.nx σ H
def ca0 (t u:TS):TS:=fun D σ H=>t { D with nx:=u D } σ H
theorem C6:PSs X [] bU9:=fun _ _ σ H _ I h=>af9 ⟨σ,H,I,h⟩
theorem j5 (h1:PS X st t)(h2:PSs X rest u):PSs X (st::rest) (ca0 t u):=by
 intro pins s σ H D I h
 refine aV3 (thn (h1 pins s σ H { D with nx:=u D } I h) fun f s1 q=>?_)
 cases f with
 | next =>
  obtain⟨σ',H',I',q⟩:=q
  exact h2 pins s1 σ' H' D I' q
 | ret v=>exact q
 | brk=>exact q
 | cont=>exact q
theorem n5 (h1:PS X st t):PSs X [st] t:=by
 intro pins s σ H D I h
 refine aV3 (thn (h1 pins s σ H D I h) fun f s1 q=>?_)
 cases f with
 | next=>exact af9 q
 | ret v=>exact q
 | brk=>exact q
 | cont=>exact q
theorem Inv.quiet (I:Inv X pins σ H s):interactive X.env=false:=by simp[interactive,I.ok.kind]
def bV1 (te:TE):TS:=fun D σ H=>te σ H fun _ H1=>D.nx σ H1
theorem Q9 (he:PE X e te)(hs:bJ0 e none pos.line X.env=pure false:=by rfl):PS X (.Expr e pos) (bV1 te):=by
 intro pins s σ H D I h
 exact wpAny_Expr_any (thn (he pins s σ H _ I h) fun v s1 ⟨x,H1,I1,r1,q1⟩=>⟨σ,H1,I1,q1⟩) I.quiet hs
def ca1 (te:TE):TS:=fun D σ H=>te σ H D.rt
theorem B9 (he:PE X e te):PS X (.Return (some e) pos) (ca1 te):=by
 intro pins s σ H D I h
 exact wpAny_Return_some (thn (he pins s σ H _ I h) fun v s1 ⟨x,H1,I1,r1,q1⟩=>⟨x,σ,H1,I1,r1,q1⟩)
def ca4 (c:TT)(t u:TS):TS:=fun D σ H=>c σ H fun b H1=>if b=true then t D σ H1 else u D σ H1
theorem K7 {c:Expr}{a b:List Stmt}{tc:TT}(hc:PT X c tc)(ha:PSs X a t)(hb:PSs X b u):PS X (.If c a b pos) (ca4 tc t u):=by
 intro pins s σ H D I h
 refine wpAny_If (thn (hc pins s σ H _ I h) fun d s1 ⟨H1,I1,q1⟩=>?_)
 cases d with
 | true=>exact ha pins s1 σ H1 D I1 q1
 | false=>exact hb pins s1 σ H1 D I1 q1
def bL1:TS:=fun _ _ _=>False
theorem G8 {sts:List Stmt}:PSs X sts bL1:=fun _ _ _ _ _ _ h=>h.elim
end
abbrev TG:=V->St->Hp->(St->Hp->Prop)->Prop
abbrev TGs:=List V->St->Hp->(St->Hp->Prop)->Prop
def PG (X:Cx)(target:Expr)(t:TG):Prop:=
 ∀ (pins:List (Addr × Obj)) (s:Shared) (σ:St) (H:Hp) (v:V) (u:Value) (Q:St->Hp->Prop),Inv X pins σ H s->RelV v u->t v σ H Q ->
  k9 (n6 X.prog X.w) X.A (assign target X.env u) (fun _ s'=>∃ σ' H',Inv X pins σ' H' s'/\Q σ' H') X.xe s
def PGs (X:Cx)(ts:List Expr)(t:TGs):Prop:=
 ∀ (pins:List (Addr × Obj)) (s:Shared) (σ:St) (H:Hp) (vs:List V) (us:List Value) (Q:St->Hp->Prop),Inv X pins σ H s->B6 vs us->t vs σ H Q ->
  k9 (n6 X.prog X.w) X.A (assignInOrder ((av4 ts X.env).map (·.2)) us) (fun _ s'=>∃ σ' H',Inv X pins σ' H' s'/\Q σ' H') X.xe s
abbrev bR4:=V->V->V->Hp->(Hp->Prop)->Prop
def bZ1 (X:Cx)(t:bR4):Prop:=
 ∀ (pins:List (Addr × Obj)) (s:Shared) (σ:St) (H:Hp) (o i v:V) (ov iv u:Value) (Q:Hp->Prop),Inv X pins σ H s->RelV o ov->RelV i iv->RelV v u->t o i v H Q ->
  k9 (n6 X.prog X.w) X.A (setItem ov iv u) (fun _ s'=>∃ H',Inv X pins σ H' s'/\Q H') X.xe s
abbrev TIp:=V->V->Hp->VK->Prop
def PIp (X:Cx)(op:Operator)(t:TIp):Prop:=
 ∀ (pins:List (Addr × Obj)) (s:Shared) (σ:St) (H:Hp) (x y:V) (v u:Value) (Q:VK),Inv X pins σ H s->RelV x v->RelV y u->t x y H Q ->
  k9 (n6 X.prog X.w) X.A (inplaceOp op v u) (EP X pins σ Q) X.xe s
def aS8 (i:Nat):TG:=fun v σ H Q=>Q (σ.set i (some v)) H
theorem B1 (hN:X.N.Nodup)(hi:X.N[i]?=some x)(hx:Loc X.env.scope x)(hf:X.fn x=true\/X.env.scope.names.lookup x=some .local:=by first | exact .inl rfl | exact .inr rfl | assumption):PG X (.Name x pos) (aS8 i):=by
 intro pins s σ H v u Q I r h
 exact wpAny_assign_Name (ay4 I hN hi hx r (fun s' I'=>⟨_,H,I',h⟩) hf)
def cb9:TGs:=fun vs σ H Q=>vs=[]/\Q σ H
def bY2 (t:TG)(u:TGs):TGs:=fun vs σ H Q=>∃ v r,vs=v::r/\t v σ H fun σ' H'=>u r σ' H' Q
theorem aj3:PGs X [] cb9:=by
 intro pins s σ H vs us Q I r h
 obtain⟨e,h⟩:=h
 subst e
 cases r
 exact assignInOrder_nil ⟨σ,H,I,h⟩
theorem J1 {es:List Expr}{t:TG}{u:TGs}(h1:PG X e t)(h2:PGs X es u)
  (hs:(av4 (e::es) X.env).map (·.2)=assign e X.env::(av4 es X.env).map (·.2):=by rfl):PGs X (e::es) (bY2 t u):=by
 intro pins s σ H vs us Q I r h
 obtain⟨v,vr,e1,h⟩:=h
 subst e1
 cases r with
 | cons r rr =>
  rw[hs]
  refine assignInOrder_cons (thn (h1 pins s σ H _ _ _ I r h) fun _ s1 ⟨σ1,H1,I1,q1⟩=>?_)
  exact h2 pins s1 σ1 H1 _ _ Q I1 rr q1
def cb8 (K:W.Frag)(n:Nat)(t:TGs):TG:=fun v σ H Q=>∃ a xs,v=.ref a/\SqT K H a xs/\xs.length=n/\t xs σ H Q
theorem ar0 {es:List Expr}{k:Nat}{t:TGs}(hc:X.calm=true)(h:PGs X es t)
  (hn:(av4 es X.env).length=n:=by rfl)(hst:(av4 es X.env).findIdx? (·.1)=none:=by rfl):PG X (.Tuple es k pos) (cb8 X.K n t):=by
 intro pins s σ H v u Q I r hw
 obtain⟨a,xs,e1,hq,hl,hw⟩:=hw
 subst e1
 cases r
 obtain⟨its,rv,ht,hz⟩:=I.tuple hq
 refine assign_Tuple_tuple (I.ok.hd hc) ht (by simp[hn,<- hl,rv.length]) hst fun h' hx=>?_
 have I1:Inv X pins σ H { s with heap:=h' }:=I.kept (t':=s.toks) fun b o e=>hx b o (j0 (c9 e)) e
 exact h pins _ σ H xs _ Q I1 (by simpa using rv) hw
def bV3 (te:TE)(g:TG):TS:=fun D σ H=>te σ H fun x H1=>g x σ H1 D.nx
theorem br1 {g:TG}(he:PE X e te)(hg:PG X tg g)(hs:swapsWithSole [tg] e pos.line X.env=pure false:=by rfl)(hw:swappedStores [tg] e X.env=pure none:=by rfl)
  (h1:(av4 [tg] X.env).map (·.2)=[assign tg X.env]:=by rfl):PS X (.Assign [tg] e pos) (bV3 te g):=by
 intro pins s σ H D I h
 refine wpAny_Assign_stores (thn (he pins s σ H _ I h) fun v s1 ⟨x,H1,I1,r1,q1⟩=>?_) hs hw
 rw[h1]
 exact thn (hg pins s1 σ H1 x v _ I1 r1 q1) fun _ s2 q=>q
theorem B3 {pos':Pos}(hN:X.N.Nodup)(hi:X.N[i]?=some x)(hx:Loc X.env.scope x)(he:PE X e te)(hs:bJ0 e (some (.Name x pos')) pos.line X.env=pure false:=by rfl)(hf:X.fn x=true\/X.env.scope.names.lookup x=some .local:=by first | exact .inl rfl | exact .inr rfl | assumption) :
  PS X (.Assign [.Name x pos'] e pos) (bV3 te (aS8 i)):=by
 intro pins s σ H D I h
 refine wpAny_Assign_Name (thn (he pins s σ H _ I h) fun v s1 ⟨y,H1,I1,r1,q1⟩=>?_) hs
 exact ay4 I1 hN hi hx r1 (fun s2 I2=>⟨_,H1,I2,q1⟩) hf
def bV2 (to ti te:TE)(tget:V->V->Hp->VK->Prop)(tip:TIp)(tset:bR4):TS:=fun D σ H=>to σ H fun o H1=>ti σ H1 fun i H2=>tget o i H2 fun x H3=>te σ H3 fun y H4=>tip x y H4 fun z H5=>tset o i z H5 fun H6=>D.nx σ H6
def bZ2 (X:Cx)(t:V->V->Hp->VK->Prop):Prop:=
 ∀ (pins:List (Addr × Obj)) (s:Shared) (σ:St) (H:Hp) (o i:V) (ov iv:Value) (Q:VK),Inv X pins σ H s->RelV o ov->RelV i iv->t o i H Q ->
  k9 (n6 X.prog X.w) X.A (getItem ov iv) (EP X pins σ Q) X.xe s
theorem bd7 {o i:Expr}{to ti:TE}{tget:V->V->Hp->VK->Prop}{tip:TIp}{tset:bR4}{op:Operator}{tpos:Pos}(ho:PE X o to)(hi:PE X i ti)(hg:bZ2 X tget)(he:PE X e te)(hp:PIp X op tip)(hs:bZ1 X tset)
  (ha:∀ ov iv new,augStore i ov iv new=(do aN0 [new,ov,iv] (setItem ov iv new);release [new,ov,iv] [];pure .next):=by intros;rfl):PS X (.AugAssign (.Subscript o i tpos) op e pos) (bV2 to ti te tget tip tset):=by
 intro pins s σ H D I h
 refine wpAny_AugAssign_SubscriptAny (thn (ho pins s σ H _ I h) fun ov s1 ⟨x1,H1,I1,r1,q1⟩=>?_) ha
 refine thn (hi pins s1 σ H1 _ I1 q1) fun iv s2 ⟨x2,H2,I2,r2,q2⟩=>?_
 refine thn (hg pins s2 σ H2 x1 x2 ov iv _ I2 r1 r2 q2) fun old s3 ⟨x3,H3,I3,r3,q3⟩=>?_
 refine thn (he pins s3 σ H3 _ I3 q3) fun v s4 ⟨x4,H4,I4,r4,q4⟩=>?_
 refine thn (hp pins s4 σ H4 x3 x4 old v _ I4 r3 r4 q4) fun new s5 ⟨x5,H5,I5,r5,q5⟩=>?_
 exact thn (hs pins s5 σ H5 x1 x2 x5 ov iv new _ I5 r1 r2 r5 q5) fun _ s6 ⟨H6,I6,q6⟩=>⟨σ,H6,I6,q6⟩
def ipI (f:Int->Int->Int):TIp:=fun x y H Q=>∃ i j,x=.int i/\y=.int j/\Q (.int (f i j)) H
theorem bu0:PIp X .Add (ipI fun i j=>i+j):=by
 intro pins s σ H x y v u Q I r1 r2 h
 obtain⟨i,j,e1,e2,q⟩:=h
 subst e1;subst e2
 obtain⟨t,rfl⟩:=r1
 obtain⟨t',rfl⟩:=r2
 exact iadd_int ⟨.int _,H,I.tok _,⟨_,rfl⟩,q⟩
def bK7 (c:TT)(tb:TS):TS:=fun D σ H=>∃ W:Nat->St->Hp->Prop,(∃ m,W m σ H)/\∀ m σ H,W m σ H ->
 c σ H fun b H1=>if b=true then ∃ N:St->Hp->Prop,(∀ σ' H',N σ' H'->∃ m',m'<m/\W m' σ' H')/\tb { D with nx:=N,ct:=N,bk:=D.nx } σ H1 else D.nx σ H1
theorem br0 {c:Expr}{body:List Stmt}{tc:TT}{tb:TS}(hp:PassesOwn (n6 X.prog X.w) X.A X.env X.xe)(hc:PT X c tc)(hb:PSs X body tb):PS X (.While c body [] pos) (bK7 tc tb):=by
 intro pins s σ H D I h
 obtain⟨W,⟨m0,w0⟩,turn⟩:=h
 refine wpAny_While (codeAny_whileLoop (fun n s'=>∃ σ' H',Inv X pins σ' H' s'/\W n σ' H') ?_ m0 ⟨σ,H,I,w0⟩)
 rintro n s1 ⟨σ1,H1,I1,w1⟩
 refine S9 hp (thn (hc pins s1 σ1 H1 _ I1 (turn n σ1 H1 w1)) fun b s2 ⟨H2,I2,q2⟩=>?_)
 cases b with
 | true =>
  obtain⟨N,hN,q2⟩:=q2
  rw[if_pos rfl]
  refine S9 hp (thn (hb pins s2 σ1 H2 _ I2 q2) fun f s3 q3=>?_)
  cases f with
  | next =>
   obtain⟨σ3,H3,I3,n3⟩:=q3
   obtain⟨m',hm,w3⟩:=hN σ3 H3 n3
   exact⟨m',hm,σ3,H3,I3,w3⟩
  | cont =>
   obtain⟨σ3,H3,I3,n3⟩:=q3
   obtain⟨m',hm,w3⟩:=hN σ3 H3 n3
   exact⟨m',hm,σ3,H3,I3,w3⟩
  | brk=>exact q3
  | ret v=>exact q3
 | false =>
  rw[if_neg d4]
  exact af9 ⟨σ1,H2,I2,q2⟩
structure It where
 go:Nat->Hp->Prop
 yld:Nat->Hp->V->Hp->Prop
 stop:Nat->Hp->Prop
def R6 (X:Cx)(pins:List (Addr × Obj))(H:Hp)(b:Addr):Prop:=
 H b=none/\b≠X.env.locals/\b∉X.fs/\(b∈X.ex\/X.s₀.heap.objs.size<=b)/\(∀ x c,X.env.cells.lookup x=some c->c≠b)/\∀ p∈X.pn++pins,p.1≠b
theorem Inv.fpOk {b:Addr}(I:Inv X pins σ H s)(hb:s.heap.objs.size<=b)(hn:H' b=none):R6 X pins H' b:=by
 refine⟨hn,M5 (o8 I.lt hb),I.nofs hb,.inr (t9 I.sz hb),fun x c e z=>?_,fun p hp z=>?_⟩
 ·obtain⟨v,q⟩:=I.cell x c e
  exact absurd (o8 q.lt (by rw[z];exact hb)) (A3 _)
 ·exact absurd (o8 (c9 (I.pin p hp).1) (by rw[z];exact hb)) (A3 _)
structure Turn (P:Program) (w:World) (K:W.Frag) (tg:Expr) (J:It) (fp:List Addr) (it:Addr) (tn:Nat->Heap->Prop):Prop where
 mem:it∈fp
 obj:∀ i h,tn i h->∀ b∈fp,∃ o,h.get? b=some o/\∀ v,o.data≠.cell v
 keep:∀ i h h',tn i h->(∀ b∈fp,∀ o,h.get? b=some o->h'.get? b=some o)->tn i h'
 item:∀ (X:Cx),X.prog=P->X.w=w->X.K=K->X.calm=true->∀ (i:Nat) (pins:List (Addr × Obj)) (s:Shared) (σ:St) (H:Hp) (E:Value->Shared->Prop),Inv X pins σ H s->(∀ b∈fp,R6 X pins H b)->tn i s.heap->J.go i H ->
  k9 (n6 P w) X.A (aq0 (.ref it)) (fun r s1=>∃ u,r=some u /\
   k9 (n6 P w) X.A (bg6 tg (.ref it) u) (fun _ s2=>∃ x H',Inv X pins σ H' s2/\RelV x u/\J.yld i H x H'/\tn (i+1) s2.heap/\∀ b∈fp,H' b=none) E s1) E s
 done:∀ (X:Cx),X.prog=P->X.w=w->X.K=K->X.calm=true->∀ (i:Nat) (pins:List (Addr × Obj)) (s:Shared) (σ:St) (H:Hp) (E:Value->Shared->Prop),Inv X pins σ H s->(∀ b∈fp,R6 X pins H b)->tn i s.heap->J.stop i H ->
  k9 (n6 P w) X.A (aq0 (.ref it)) (fun r s1=>r=none/\Inv X pins σ H s1) E s
 self:∀ (A:Around) (i:Nat) (s:Shared) (Q:Value->Shared->Prop) (E:Value->Shared->Prop),tn i s.heap->Q (.ref it) s->k9 (n6 P w) A (bg7 (.ref it)) Q E s
abbrev TI:=St->Hp->(It->Hp->Prop)->Prop
def PIE (X:Cx)(pins:List (Addr × Obj))(σ:St)(tg:Expr)(R:It->Hp->Prop)(itv:Value)(s2:Shared):Prop:=
 ∃ (it:Addr) (fp:List Addr) (tn:Nat->Heap->Prop) (J:It) (H':Hp),itv=.ref it/\Inv X pins σ H' s2/\Turn X.prog X.w X.K tg J fp it tn/\tn 0 s2.heap/\(∀ b∈fp,R6 X pins H' b)/\R J H'
def PI (X:Cx)(tg iter:Expr)(wi:TI):Prop:=
 ∀ (pins:List (Addr × Obj)) (s:Shared) (σ:St) (H:Hp) (R:It->Hp->Prop),Inv X pins σ H s->wi σ H R ->
  k9 (n6 X.prog X.w) X.A (eval iter X.env) (fun v s1=>k9 (n6 X.prog X.w) X.A (bg7 v) (PIE X pins σ tg R) X.xe s1) X.xe s
theorem bf6 {it:Addr} {n:String} {vs:Array Value} {Q:Unit->Shared->Prop} (ho:s.heap.get? it=some o) (hc:o.cls=.type n) (hd:o.data=.fields vs)
    (hn:["enumerate","zip","dict_itemiterator","dict_reverseitemiterator","odict_iterator","itertools.zip_longest","itertools.pairwise"].contains n=false) (hQ:Q () s):k9 M A (bg6 tg (.ref it) u) Q E s:=by
  unfold bg6
  cases tg<;>first
    | exact a8 hQ
    | (cases u<;>first
        | exact a8 hQ
        | (refine a5 (wpAny_load ho ?_)
           rw[hc,hd]
           show k9 M A (if (["enumerate","zip","dict_itemiterator","dict_reverseitemiterator","odict_iterator","itertools.zip_longest","itertools.pairwise"].contains n && vs[0]? == some (R9 _))=true then _ else _) Q E s
           rw[if_neg (by intro h;rw[hn,at5]at h;cases h)]
           exact a8 hQ))
def Itl (K:W.Frag)(a:Addr):It:=
 ⟨fun i H=>∃ xs x,SqL K H a xs/\xs[i]?=some x,fun i H x H'=>H'=H/\∀ xs,SqL K H a xs->xs[i]?=some x,fun i H=>∃ xs,SqL K H a xs/\xs.length<=i⟩
def Itt (K:W.Frag)(a:Addr):It:=
 ⟨fun i H=>∃ xs x,SqT K H a xs/\xs[i]?=some x,fun i H x H'=>H'=H/\∀ xs,SqT K H a xs->xs[i]?=some x,fun i H=>∃ xs,SqT K H a xs/\xs.length<=i⟩
def Itr (lo:Int)(n:Nat):It:=⟨fun i _=>i<n,fun i H x H'=>H'=H/\x=.int (lo+i),fun i _=>n<=i⟩
theorem bh8 {K:W.Frag}(a it:Addr):Turn P w K tg (Itl K a) [it] it (fun i h=>h.IsListIter it a i) where
 mem:=by simp
 obj:=fun i h st b hb=>by
  have e:b=it:=by simpa using hb
  subst e
  obtain⟨o,e,c,d⟩:=st
  exact⟨o,e,fun v z=>by rw[d]at z;cases z⟩
 keep:=fun i h h' st k=>st.at fun o e=>k it (by simp) o e
 item:=by
  intro X hP hw hK hc i pins s σ H E I hf st hg
  subst hP hw hK
  obtain⟨xs,x,hq,hx⟩:=hg
  obtain⟨its,rv,p,hz⟩:=I.list hq
  obtain⟨u,hu,ru⟩:=rv.get hx
  obtain⟨f0,f1,f2,f3,f4,f5⟩:=hf it (by simp)
  refine wpAny_pyNext_list_item st p.isList (x:=u) (by simpa using hu) fun h' st' sb=>?_
  have I1:Inv X pins σ H { s with heap:=h' }:=I.turned (t':=s.toks) (fun b o hb e=>(sb.2 b hb).trans e) f0 f1 f3 f4 f5
  obtain⟨o,e,c,d⟩:=id st'
  exact⟨u,rfl,bf6 (s:={ s with heap:=h' }) e c d (by decide) ⟨x,H,I1,ru,⟨rfl,fun ys hy=>by rw[I.list_inj hy hq];exact hx⟩,st',fun b hb=>(hf b hb).1⟩⟩
 done:=by
  intro X hP hw hK hc i pins s σ H E I hf st hg
  subst hP hw hK
  obtain⟨xs,hq,hx⟩:=hg
  obtain⟨its,rv,p,hz⟩:=I.list hq
  obtain⟨f0,f1,f2,f3,f4,f5⟩:=hf it (by simp)
  have hl:=rv.length
  exact wpAny_pyNext_list_end (I.ok.hd hc) st p.isList (by simp;omega) fun h' eb=>⟨rfl,I.turned (t':=s.toks) (fun b o hb e=>eb b o hb e) f0 f1 f3 f4 f5⟩
 self:=fun _ _ _ _ _ st h=>wpAny_pyIter_listiter st h
theorem aV8 {K:W.Frag}(a it:Addr):Turn P w K tg (Itt K a) [it] it (fun i h=>h.IsTupleIter it a i) where
 mem:=by simp
 obj:=fun i h st b hb=>by
  have e:b=it:=by simpa using hb
  subst e
  obtain⟨o,e,c,d⟩:=st
  exact⟨o,e,fun v z=>by rw[d]at z;cases z⟩
 keep:=fun i h h' st k=>st.at fun o e=>k it (by simp) o e
 item:=by
  intro X hP hw hK hc i pins s σ H E I hf st hg
  subst hP hw hK
  obtain⟨xs,x,hq,hx⟩:=hg
  obtain⟨its,rv,p,hz⟩:=I.tuple hq
  obtain⟨u,hu,ru⟩:=rv.get hx
  obtain⟨f0,f1,f2,f3,f4,f5⟩:=hf it (by simp)
  refine wpAny_pyNext_tuple_item st (show s.heap.IsTuple a its.toArray from p) (x:=u) (by simpa using hu) fun h' st' sb=>?_
  have I1:Inv X pins σ H { s with heap:=h' }:=I.turned (t':=s.toks) (fun b o hb e=>(sb.2 b hb).trans e) f0 f1 f3 f4 f5
  obtain⟨o,e,c,d⟩:=id st'
  exact⟨u,rfl,bf6 (s:={ s with heap:=h' }) e c d (by decide) ⟨x,H,I1,ru,⟨rfl,fun ys hy=>by rw[I.tuple_inj hy hq];exact hx⟩,st',fun b hb=>(hf b hb).1⟩⟩
 done:=by
  intro X hP hw hK hc i pins s σ H E I hf st hg
  subst hP hw hK
  obtain⟨xs,hq,hx⟩:=hg
  obtain⟨its,rv,p,hz⟩:=I.tuple hq
  obtain⟨f0,f1,f2,f3,f4,f5⟩:=hf it (by simp)
  have hl:=rv.length
  exact wpAny_pyNext_tuple_end (I.ok.hd hc) st (show s.heap.IsTuple a its.toArray from p) (by simp;omega) fun h' eb=>⟨rfl,I.turned (t':=s.toks) (fun b o hb e=>eb b o hb e) f0 f1 f3 f4 f5⟩
 self:=fun _ _ _ _ _ st h=>wpAny_pyIter_tupleiter st h
theorem aV9 {K:W.Frag}(it:Addr)(lo:Int)(n:Nat):Turn P w K tg (Itr lo n) [it] it (fun i h=>IsRangeIter h it (lo+(i:Nat)*1) ((n:Int) - (i:Nat)) 1) where
 mem:=by simp
 obj:=fun i h st b hb=>by
  have e:b=it:=by simpa using hb
  subst e
  exact⟨_,st,fun v z=>by
   have z':Data.fields _=Data.cell v:=z
   cases z'⟩
 keep:=fun i h h' st k=>k it (by simp) _ st
 item:=by
  intro X hP hw hK hc i pins s σ H E I hf st hg
  subst hP hw hK
  obtain⟨f0,f1,f2,f3,f4,f5⟩:=hf it (by simp)
  have W:=Walks.range (prog:=X.prog) (w:=X.w) (I.ok.hd hc) it lo 1 n
  refine W.item i s _ _ hg st fun v h' tk hv st' kk=>?_
  obtain⟨t,rfl⟩:=hv
  have I1:Inv X pins σ H { s with heap:=h',toks:=tk }:=I.turned (fun b o hb e=>kk b o (by simpa using hb) e) f0 f1 f3 f4 f5
  refine⟨_,rfl,bf6 (s:={ s with heap:=h',toks:=tk }) (n:="range_iterator") st' rfl rfl (by decide) ⟨.int (lo+i),H,I1,⟨t,?_⟩,⟨rfl,rfl⟩,st',fun b hb=>(hf b hb).1⟩⟩
  rw[Int.mul_one]
 done:=by
  intro X hP hw hK hc i pins s σ H E I hf st hg
  subst hP hw hK
  obtain⟨f0,f1,f2,f3,f4,f5⟩:=hf it (by simp)
  exact wpAny_pyNext_range_end (I.ok.hd hc) st (by have:n<=i:=hg;omega) fun h' eb=>⟨rfl,I.turned (t':=s.toks) (fun b o hb e=>eb b o hb e) f0 f1 f3 f4 f5⟩
 self:=fun _ _ _ _ _ st h=>wpAny_pyIter_rangeiter st h
def bY0 (K:W.Frag)(tl:TE):TI:=fun σ H R=>tl σ H fun x H1=>∃ a,x=.ref a/\(∃ xs,SqL K H1 a xs)/\R (Itl K a) H1
def cb7 (K:W.Frag)(tl:TE):TI:=fun σ H R=>tl σ H fun x H1=>∃ a,x=.ref a/\(∃ xs,SqT K H1 a xs)/\R (Itt K a) H1
theorem ab4 {l:Expr}{tl:TE}(hl:PE X l tl):PI X tg l (bY0 X.K tl):=by
 intro pins s σ H R I h
 refine thn (hl pins s σ H _ I h) fun v s1 ⟨x,H1,I1,r1,q1⟩=>?_
 obtain⟨a,e,⟨xs,hq⟩,q⟩:=q1
 subst e
 cases r1
 obtain⟨its,rv,p,hz⟩:=I1.list hq
 refine aN1 p.isList ?_
 refine⟨s1.heap.objs.size,[s1.heap.objs.size],_,_,H1,rfl,I1.kept (t':=s1.toks) fun b o e=>a6 _ e,bh8 a _,⟨_,d5 _ rfl,rfl,rfl⟩,fun b hb=>?_,q⟩
 have e:b=s1.heap.objs.size:=by simpa using hb
 subst e
 exact I1.fpOk (c5 _) (I1.hok.fresh (c5 _))
theorem am2 {l:Expr}{tl:TE}(hl:PE X l tl):PI X tg l (cb7 X.K tl):=by
 intro pins s σ H R I h
 refine thn (hl pins s σ H _ I h) fun v s1 ⟨x,H1,I1,r1,q1⟩=>?_
 obtain⟨a,e,⟨xs,hq⟩,q⟩:=q1
 subst e
 cases r1
 obtain⟨its,rv,p,hz⟩:=I1.tuple hq
 refine aH1 (show s1.heap.IsTuple a its.toArray from p) ?_
 refine⟨s1.heap.objs.size,[s1.heap.objs.size],_,_,H1,rfl,I1.kept (t':=s1.toks) fun b o e=>a6 _ e,aV8 a _,⟨_,d5 _ rfl,rfl,rfl⟩,fun b hb=>?_,q⟩
 have e:b=s1.heap.objs.size:=by simpa using hb
 subst e
 exact I1.fpOk (c5 _) (I1.hok.fresh (c5 _))
theorem bq7 {R:It->Hp->Prop}{lo hi:Int}{t u v:Tok}{tk:Nat}(I:Inv X pins σ H s)(h1:-(2 ^ 62)<=lo)(h2:lo<2 ^ 62)(h3:-(2 ^ 62)<=hi)(h4:hi<2 ^ 62)
  (q:R (Itr lo (hi - lo).toNat) H):k9 (n6 X.prog X.w) X.A (bg7 (.ref s.heap.objs.size)) (PIE X pins σ tg R) E { s with heap:=s.heap.push { cls:=.type "range",data:=.fields #[.int lo t,.int hi u,.int 1 v] },toks:=tk }:=by
 refine wpAny_pyIter_range (IsRange.new ..) (small_one h1 h2 h3 h4) ?_
 have I1:Inv X pins σ H { s with heap:=s.heap.push { cls:=.type "range",data:=.fields #[.int lo t,.int hi u,.int 1 v] },toks:=tk }:=I.kept fun b o e=>a6 _ e
 refine⟨(s.heap.push { cls:=.type "range",data:=.fields #[.int lo t,.int hi u,.int 1 v] }).objs.size,[(s.heap.push { cls:=.type "range",data:=.fields #[.int lo t,.int hi u,.int 1 v] }).objs.size],_,_,H,rfl,
  I1.kept (t':=tk) fun b o e=>a6 _ e,aV9 _ lo (hi - lo).toNat,?_,fun b hb=>?_,q⟩
 ·have e1:lo+((0:Nat):Int)*1=lo:=by simp
  have e2:(((hi - lo).toNat:Nat):Int) - ((0:Nat):Int)=Builtin.Range.rangeSize lo hi 1:=by rw[rangeSize_one];split<;>omega
  show IsRangeIter _ _ (lo+((0:Nat):Int)*1) ((((hi - lo).toNat:Nat):Int) - ((0:Nat):Int)) 1
  rw[e1,e2]
  exact d5 _ rfl
 ·have e:b=(s.heap.push { cls:=.type "range",data:=.fields #[.int lo t,.int hi u,.int 1 v] }).objs.size:=by simpa using hb
  subst e
  exact I1.fpOk (c5 _) (I1.hok.fresh (c5 _))
def bX9 (ta:TA):TI:=fun σ H R=>ta σ H fun vs H1=>∃ j:Int,vs=[.int j] /\ -(2 ^ 62)<=j/\j<2 ^ 62/\R (Itr 0 j.toNat) H1
theorem W5 {a:Expr}{ta:TA}{p:Pos}(hg:Gl X "range")(hm:X.mg "range"=none)(ha:PA X [a] ta)(hs:x8 [a] X.env=[(false,eval a X.env)]:=by rfl):PI X tg (.Call (.Name "range" p) [a] [] pos) (bX9 ta):=by
 intro pins s σ H R I h
 refine Call_ (ah8 I hg hm boot_range (PyProof.Rows.callWith_type1 (thn (ha pos pins s σ H _ I h) fun us s1 ⟨vs,H1,I1,r1,q1⟩=>?_) hs rfl))
 obtain⟨j,e,q1,q2,q⟩:=q1
 subst e
 cases r1 with
 | cons r rr =>
  cases rr
  obtain⟨t,rfl⟩:=r
  exact call_range_1 (bq7 I1 (by omega) (by omega) q1 q2 (by simpa using q))
def ca5 (wi:TI)(g:TG)(tb:TS):TS:=fun D σ H=>wi σ H fun J H1=>∃ W:Nat->Nat->St->Hp->Prop,(∃ m,W 0 m σ H1)/\∀ i m σ H,W i m σ H ->
 (J.stop i H/\D.nx σ H)\/(J.go i H/\∃ N:St->Hp->Prop,(∀ σ' H',N σ' H'->∃ m',m'<m/\W (i+1) m' σ' H')/\∀ x H',J.yld i H x H'->g x σ H' fun σ2 H2=>tb { D with nx:=N,ct:=N,bk:=D.nx } σ2 H2)
def ah3 (fp:List Addr)(h:Heap):List (Addr × Obj):=fp.filterMap fun b=>(h.get? b).map fun o=>(b,o)
theorem N6 {b:Addr}(hb:b∈fp)(e:h.get? b=some o):(b,o)∈ah3 fp h:=af5.mpr ⟨b,hb,by rw[e];rfl⟩
theorem bj0 {p:Addr × Obj}(hp:p∈ah3 fp h):p.1∈fp/\h.get? p.1=some p.2:=by
 obtain⟨b,hb,e⟩:=af5.mp hp
 cases q:h.get? b with
 | none=>rw[q]at e;cases e
 | some o =>
  rw[q]at e
  have e':(b,o)=p:=Option.some.inj e
  subst e'
  exact⟨hb,q⟩
theorem Inv.pinned (I:Inv X pins σ H s)(hf:∀ b∈fp,R6 X pins H b)(ho:∀ b∈fp,∃ o,s.heap.get? b=some o/\∀ v,o.data≠.cell v):Inv X (pins++ah3 fp s.heap) σ H s:=
 I.pins_of fun p hp=>(n8.mp hp).elim (fun z=>I.pin p (j8 _ z)) fun z=>by
  obtain⟨hb,e⟩:=bj0 z
  obtain⟨f0,f1,f2,_⟩:=hf p.1 hb
  obtain⟨o,e',d⟩:=ho p.1 hb
  rw[e]at e';cases e'
  exact⟨e,f0,f1,f2,d⟩
theorem Inv.unpinned {pl:List (Addr × Obj)}(I:Inv X (pins++pl) σ H s):Inv X pins σ H s:=I.pins_of fun p hp=>I.pin p (j8 _ (A9 _ hp))
theorem U0 {iter:Expr}{body:List Stmt}{wi:TI}{g:TG}{tb:TS}(hp:PassesOwn (n6 X.prog X.w) X.A X.env X.xe)(hc:X.calm=true)(hi:PI X tg iter wi)(hg:PG X tg g)(hb:PSs X body tb)
  (hs:∀ x,aa4 iter X.env x=pure x:=by intro _;rfl):PS X (.For tg iter body [] pos) (ca5 wi g tb):=by
 intro pins s σ H D I h
 refine wpAny_For (thn (hi pins s σ H _ I h) fun v s1 h1=>thn h1 fun itv s2 h2=>?_) hs
 obtain⟨it,fp,tn,J,H2,e,I2,T,st2,f2,W,⟨m0,w0⟩,turn⟩:=h2
 subst e
 have stat:∀ {H':Hp},(∀ b∈fp,H' b=none)->∀ b∈fp,R6 X pins H' b:=fun hn b hb=>⟨hn b hb,(f2 b hb).2⟩
 refine codeAny_forLoop_any (fun n s'=>∃ i σ' H',Inv X pins σ' H' s'/\tn i s'.heap/\(∀ b∈fp,H' b=none)/\W i n σ' H') ?_ m0 ⟨0,σ,H2,I2,st2,fun b hb=>(f2 b hb).1,w0⟩
 rintro n s3 ⟨i,σ3,H3,I3,st3,fr3,w3⟩
 rcases turn i n σ3 H3 w3 with⟨stop,qn⟩ | ⟨go,N,hN,step⟩
 ·refine S9 hp (thn (T.done X rfl rfl rfl hc i pins s3 σ3 H3 X.xe I3 (stat fr3) st3 stop) fun r s4 ⟨hr,I4⟩=>?_)
  subst hr
  exact af9 ⟨σ3,H3,I4,qn⟩
 ·refine S9 hp (thn (T.item X rfl rfl rfl hc i pins s3 σ3 H3 X.xe I3 (stat fr3) st3 go) fun r s4 ⟨u,hr,h4⟩=>?_)
  subst hr
  refine S9 hp (thn h4 fun _ s5 ⟨x,H5,I5,r5,y5,st5,fr5⟩=>?_)
  have I5':=I5.pinned (stat fr5) (T.obj _ _ st5)
  refine S9 hp (thn (hg _ s5 σ3 H5 x u _ I5' r5 (step x H5 y5)) fun _ s6 ⟨σ6,H6,I6,q6⟩=>?_)
  refine S9 hp (thn (hb _ s6 σ6 H6 _ I6 q6) fun f s7 q7=>?_)
  have again:∀ {σ7:St} {H7:Hp},Inv X (pins++ah3 fp s5.heap) σ7 H7 s7->N σ7 H7->∃ m,m<n/\∃ i σ' H',Inv X pins σ' H' s7/\tn i s7.heap/\(∀ b∈fp,H' b=none)/\W i m σ' H':=fun {σ7 H7} I7 n7=>by
   obtain⟨m',hm,w7⟩:=hN σ7 H7 n7
   refine⟨m',hm,i+1,σ7,H7,I7.unpinned,T.keep _ _ _ st5 fun b hb o e=>(I7.pin (b,o) (j8 _ (j8 _ (N6 hb e)))).1,fun b hb=>?_,w7⟩
   obtain⟨o,e,d⟩:=T.obj _ _ st5 b hb
   exact(I7.pin (b,o) (j8 _ (j8 _ (N6 hb e)))).2.1
  cases f with
  | next=>obtain⟨σ7,H7,I7,n7⟩:=q7;exact again I7 n7
  | cont=>obtain⟨σ7,H7,I7,n7⟩:=q7;exact again I7 n7
  | brk=>obtain⟨σ7,H7,I7,q7⟩:=q7;exact⟨σ7,H7,I7.unpinned,q7⟩
  | ret v=>obtain⟨x7,σ7,H7,I7,r7,q7⟩:=q7;exact⟨x7,σ7,H7,I7.unpinned,r7,q7⟩
theorem ad5 {K:W.Frag}{xs:List V}{g:TG}{tb:TS}{D:Ends}(Pv:Nat->St->Hp->Prop)(h0:Pv 0 σ H)(hl:∀ i σ H,i<=xs.length->Pv i σ H->SqL K H a xs)
  (hs:∀ i x σ H,xs[i]?=some x->Pv i σ H->g x σ H fun σ2 H2=>tb { D with nx:=Pv (i+1),ct:=Pv (i+1),bk:=D.nx } σ2 H2)(hd:∀ σ H,Pv xs.length σ H->D.nx σ H) :
  ∃ W:Nat->Nat->St->Hp->Prop,(∃ m,W 0 m σ H)/\∀ i m σ H,W i m σ H ->
   ((Itl K a).stop i H/\D.nx σ H)\/((Itl K a).go i H/\∃ N:St->Hp->Prop,(∀ σ' H',N σ' H'->∃ m',m'<m/\W (i+1) m' σ' H')/\∀ x H',(Itl K a).yld i H x H'->g x σ H' fun σ2 H2=>tb { D with nx:=N,ct:=N,bk:=D.nx } σ2 H2):=by
 refine⟨fun i m σ H=>m=xs.length - i/\i<=xs.length/\Pv i σ H,⟨xs.length,by simp,n9 _,h0⟩,?_⟩
 rintro i m σ H ⟨rfl,hi,p⟩
 have q:=hl i σ H hi p
 by_cases hlt:i<xs.length
 ·refine .inr ⟨⟨xs,xs[i],q,by simp[hlt]⟩,Pv (i+1),fun σ' H' p'=>⟨xs.length - (i+1),by omega,rfl,hlt,p'⟩,fun x H' y=>?_⟩
  obtain⟨e,y⟩:=y
  subst e
  exact hs i x σ _ (y xs q) p
 ·have e:i=xs.length:=by omega
  subst e
  exact .inl ⟨⟨xs,q,c5 _⟩,hd σ H p⟩
theorem aw9 {K:W.Frag}{xs:List V}{g:TG}{tb:TS}{D:Ends}(Pv:Nat->St->Hp->Prop)(h0:Pv 0 σ H)(hl:∀ i σ H,i<=xs.length->Pv i σ H->SqT K H a xs)
  (hs:∀ i x σ H,xs[i]?=some x->Pv i σ H->g x σ H fun σ2 H2=>tb { D with nx:=Pv (i+1),ct:=Pv (i+1),bk:=D.nx } σ2 H2)(hd:∀ σ H,Pv xs.length σ H->D.nx σ H) :
  ∃ W:Nat->Nat->St->Hp->Prop,(∃ m,W 0 m σ H)/\∀ i m σ H,W i m σ H ->
   ((Itt K a).stop i H/\D.nx σ H)\/((Itt K a).go i H/\∃ N:St->Hp->Prop,(∀ σ' H',N σ' H'->∃ m',m'<m/\W (i+1) m' σ' H')/\∀ x H',(Itt K a).yld i H x H'->g x σ H' fun σ2 H2=>tb { D with nx:=N,ct:=N,bk:=D.nx } σ2 H2):=by
 refine⟨fun i m σ H=>m=xs.length - i/\i<=xs.length/\Pv i σ H,⟨xs.length,by simp,n9 _,h0⟩,?_⟩
 rintro i m σ H ⟨rfl,hi,p⟩
 have q:=hl i σ H hi p
 by_cases hlt:i<xs.length
 ·refine .inr ⟨⟨xs,xs[i],q,by simp[hlt]⟩,Pv (i+1),fun σ' H' p'=>⟨xs.length - (i+1),by omega,rfl,hlt,p'⟩,fun x H' y=>?_⟩
  obtain⟨e,y⟩:=y
  subst e
  exact hs i x σ _ (y xs q) p
 ·have e:i=xs.length:=by omega
  subst e
  exact .inl ⟨⟨xs,q,c5 _⟩,hd σ H p⟩
theorem aj7 {lo:Int}{g:TG}{tb:TS}{D:Ends}(Pv:Nat->St->Hp->Prop)(h0:Pv 0 σ H)
  (hs:∀ i σ H,i<n->Pv i σ H->g (.int (lo+i)) σ H fun σ2 H2=>tb { D with nx:=Pv (i+1),ct:=Pv (i+1),bk:=D.nx } σ2 H2)(hd:∀ σ H,Pv n σ H->D.nx σ H) :
  ∃ W:Nat->Nat->St->Hp->Prop,(∃ m,W 0 m σ H)/\∀ i m σ H,W i m σ H ->
   ((Itr lo n).stop i H/\D.nx σ H)\/((Itr lo n).go i H/\∃ N:St->Hp->Prop,(∀ σ' H',N σ' H'->∃ m',m'<m/\W (i+1) m' σ' H')/\∀ x H',(Itr lo n).yld i H x H'->g x σ H' fun σ2 H2=>tb { D with nx:=N,ct:=N,bk:=D.nx } σ2 H2):=by
 refine⟨fun i m σ H=>m=n - i/\i<=n/\Pv i σ H,⟨n,by simp,n9 _,h0⟩,?_⟩
 rintro i m σ H ⟨rfl,hi,p⟩
 by_cases hlt:i<n
 ·refine .inr ⟨hlt,Pv (i+1),fun σ' H' p'=>⟨n - (i+1),by omega,rfl,hlt,p'⟩,fun x H' y=>?_⟩
  obtain⟨e,y⟩:=y
  subst e y
  exact hs i σ _ hlt p
 ·have e:i=n:=by omega
  subst e
  exact .inl ⟨c5 _,hd σ H p⟩
abbrev R2:=V->V->Hp->VK->Prop
def OpR (X:Cx)(f:Value->Value->Sem Value)(r:R2):Prop:=
 ∀ (pins:List (Addr × Obj)) (s:Shared) (σ:St) (H:Hp) (x y:V) (v u:Value) (Q:VK),Inv X pins σ H s->RelV x v->RelV y u->r x y H Q ->
  k9 (n6 X.prog X.w) X.A (f v u) (EP X pins σ Q) X.xe s
def UnR (X:Cx)(f:Value->Sem Value)(r:V->Hp->VK->Prop):Prop:=
 ∀ (pins:List (Addr × Obj)) (s:Shared) (σ:St) (H:Hp) (x:V) (v:Value) (Q:VK),Inv X pins σ H s->RelV x v->r x H Q ->
  k9 (n6 X.prog X.w) X.A (f v) (EP X pins σ Q) X.xe s
def O1 (X:Cx)(f:Value)(r:List V->Hp->VK->Prop):Prop:=
 ∀ (pins:List (Addr × Obj)) (s:Shared) (σ:St) (H:Hp) (xs:List V) (us:List Value) (Q:VK),Inv X pins σ H s->B6 xs us->r xs H Q ->
  k9 (n6 X.prog X.w) X.A (call f us) (EP X pins σ Q) X.xe s
def tOp (r:R2)(ta tb:TE):TE:=fun σ H Q=>ta σ H fun x H1=>tb σ H1 fun y H2=>r x y H2 Q
def tUn (r:V->Hp->VK->Prop)(ta:TE):TE:=fun σ H Q=>ta σ H fun x H1=>r x H1 Q
def rI (C:Int->Int->Prop)(g:Int->Int->V):R2:=fun x y H Q=>∃ i j,x=.int i/\y=.int j/\C i j/\Q (g i j) H
def rI0 (g:Int->Int->V):R2:=fun x y H Q=>∃ i j,x=.int i/\y=.int j/\Q (g i j) H
def rU (g:Int->V):V->Hp->VK->Prop:=fun x H Q=>∃ i,x=.int i/\Q (g i) H
section
variable {a b c:Expr} {tb tc:TE}
theorem bR2 (ha:PE X a ta)(hb:PE X b tb){R:V->V->Hp->Prop}(I:Inv X pins σ H s)
  (h:ta σ H fun x H1=>tb σ H1 fun y H2=>R x y H2){f:Value->Value->Sem Value}
  (hf:∀ v u s2 x y H2,Inv X pins σ H2 s2->RelV x v->RelV y u->R x y H2->k9 (n6 X.prog X.w) X.A (f v u) Q X.xe s2) :
  k9 (n6 X.prog X.w) X.A (eval a X.env) (fun v s₁=>k9 (n6 X.prog X.w) X.A (eval b X.env) (fun u s₂=>k9 (n6 X.prog X.w) X.A (f v u) Q X.xe s₂) X.xe s₁) X.xe s:=by
 refine thn (ha pins s σ H _ I h) fun v s1 ⟨x,H1,I1,r1,q1⟩=>?_
 refine thn (hb pins s1 σ H1 _ I1 q1) fun u s2 ⟨y,H2,I2,r2,q2⟩=>?_
 exact hf v u s2 x y H2 I2 r1 r2 q2
theorem C5 {op:Operator}{r:R2}(ho:OpR X (ab3 op) r)(ha:PE X a ta)(hb:PE X b tb):PE X (.BinOp a op b pos) (tOp r ta tb):=by
 intro pins s σ H Q I h
 exact wpAny_BinOp (bR2 ha hb I h fun v u s2 x y H2 I2 rx ry q=>ho pins s2 σ H2 x y v u Q I2 rx ry q)
theorem bX2 {op:UnaryOp}{r:V->Hp->VK->Prop}(ho:UnR X (unaryOp op) r)(ha:PE X a ta):PE X (.UnaryOp op a pos) (tUn r ta):=by
 intro pins s σ H Q I h
 exact UnaryOp_ (thn (ha pins s σ H _ I h) fun v s1 ⟨x,H1,I1,r1,q1⟩=>ho pins s1 σ H1 x v Q I1 r1 q1)
theorem opI {f:Value->Value->Sem Value}{C:Int->Int->Prop}{g:Int->Int->Int}
  (rule:∀ (i j:Int) (t u:Tok) (s:Shared) (Q:Value->Shared->Prop) (E:Value->Shared->Prop),C i j->Q (.int (g i j) s.toks) { s with toks:=s.toks+1 }->k9 (n6 X.prog X.w) X.A (f (.int i t) (.int j u)) Q E s) :
  OpR X f (rI C fun i j=>.int (g i j)):=by
 intro pins s σ H x y v u Q I rx ry h
 obtain⟨i,j,rfl,rfl,hc,q⟩:=h
 obtain⟨t,rfl⟩:=rx
 obtain⟨t',rfl⟩:=ry
 exact rule i j t t' s _ _ hc ⟨.int (g i j),H,I.tok _,⟨_,rfl⟩,q⟩
theorem bN8 {f:Value->Value->Sem Value}{g:Int->Int->Int}
  (rule:∀ (i j:Int) (t u:Tok) (s:Shared) (Q:Value->Shared->Prop) (E:Value->Shared->Prop),Q (.int (g i j) s.toks) { s with toks:=s.toks+1 }->k9 (n6 X.prog X.w) X.A (f (.int i t) (.int j u)) Q E s) :
  OpR X f (rI0 fun i j=>.int (g i j)):=by
 intro pins s σ H x y v u Q I rx ry h
 obtain⟨i,j,rfl,rfl,q⟩:=h
 obtain⟨t,rfl⟩:=rx
 obtain⟨t',rfl⟩:=ry
 exact rule i j t t' s _ _ ⟨.int (g i j),H,I.tok _,⟨_,rfl⟩,q⟩
theorem bB6 {f:Value->Value->Sem Value}{g:Int->Int->Bool}
  (rule:∀ (i j:Int) (t u:Tok) (s:Shared) (Q:Value->Shared->Prop) (E:Value->Shared->Prop),Q (.bool (g i j)) s->k9 (n6 X.prog X.w) X.A (f (.int i t) (.int j u)) Q E s) :
  OpR X f (rI0 fun i j=>.bl (g i j)):=by
 intro pins s σ H x y v u Q I rx ry h
 obtain⟨i,j,rfl,rfl,q⟩:=h
 obtain⟨t,rfl⟩:=rx
 obtain⟨t',rfl⟩:=ry
 exact rule i j t t' s _ _ ⟨.bl (g i j),H,I,rfl,q⟩
def cc6 (i j:Int):Prop:=0<j/\j<1073741824
def bR6 (i j:Int):Prop:=(-(2 ^ 64)<i/\i<2 ^ 64)\/(-(2 ^ 64)<j/\j<2 ^ 64)
theorem bR6.ok {i j:Int}(h:bR6 i j):IntMulOk i j:=by
 rcases h with⟨h1,h2⟩ | ⟨h1,h2⟩
 ·exact .of_left (intBits_le_64 h1 h2)
 ·exact .of_right (intBits_le_64 h1 h2)
theorem aV7 (k:Nat):(0:Int)<=2 ^ k:=by
 rw[two_pow_cast]
 exact Int.natCast_nonneg _
theorem ae6:OpR X (ab3 .Add) (rI0 fun i j=>.int (i+j)):=bN8 fun _ _ _ _ _ _ _ q=>add_int q
theorem ar3:OpR X (ab3 .Sub) (rI0 fun i j=>.int (i - j)):=bN8 fun _ _ _ _ _ _ _ q=>sub_int q
theorem aJ4:OpR X (ab3 .Mult) (rI bR6 fun i j=>.int (i*j)):=opI fun _ _ _ _ _ _ _ hc q=>mul_int q hc.ok
theorem ae5:OpR X (ab3 .FloorDiv) (rI cc6 fun i j=>.int (i / j)):=opI fun i j _ _ _ _ _ hc q=>by
 have h1:(0:Int)<j:=hc.1
 have h2:j<1073741824:=hc.2
 exact floordiv_int (by omega) (by rw[ba1 i (by omega)];exact q) (.inl (PyProof.noPylong_small (by omega)))
theorem W7:OpR X (ab3 .Mod) (rI (fun _ j=>0<j) fun i j=>.int (i % j)):=opI fun i j _ _ _ _ _ hc q=>by
 have h1:(0:Int)<j:=hc
 exact mod_int' (by omega) (by rw[Int.fmod_eq_emod_of_nonneg i (by omega)];exact q)
theorem bN3:OpR X (ab3 .RShift) (rI (fun _ j=>0<=j) fun i j=>.int (i / 2 ^ j.toNat)):=opI fun i j _ _ _ _ _ hc q =>
 rshift_int hc (by rw[ba1 i (aV7 _)];exact q)
theorem bN7:OpR X (ab3 .BitAnd) (rI0 fun i j=>.int (Builtin.bitAnd i j)):=bN8 fun _ _ _ _ _ _ _ q=>and_int q
theorem unI {f:Value->Sem Value}{g:Int->Int}
  (rule:∀ (i:Int) (t:Tok) (s:Shared) (Q:Value->Shared->Prop) (E:Value->Shared->Prop),Q (.int (g i) s.toks) { s with toks:=s.toks+1 }->k9 (n6 X.prog X.w) X.A (f (.int i t)) Q E s) :
  UnR X f (rU fun i=>.int (g i)):=by
 intro pins s σ H x v Q I rx h
 obtain⟨i,rfl,q⟩:=h
 obtain⟨t,rfl⟩:=rx
 exact rule i t s _ _ ⟨.int (g i),H,I.tok _,⟨_,rfl⟩,q⟩
theorem bK5:UnR X (unaryOp .USub) (rU fun i=>.int (-i)):=unI fun _ _ _ _ _ q=>neg_int q
end
def bV6:V->V->Bool
 | .non,.non=>true | .non,.int _=>true | .int _,.non=>true | .non,.bl _=>true | .bl _,.non=>true | .non,.str _=>true | .str _,.non=>true
 | .int _,.int _=>true | .bl _,.bl _=>true | .str _,.str _=>true | .byt _,.byt _=>true
 | .int _,.str _=>true | .str _,.int _=>true | .bl _,.str _=>true | .str _,.bl _=>true
 | _,_=>false
def rEq:R2:=fun x y H Q=>bV6 x y=true/\Q (.bl (decide (x=y))) H
def rNe:R2:=fun x y H Q=>bV6 x y=true/\Q (.bl (!decide (x=y))) H
theorem bg1 {i j:Int}:decide (V.int i=V.int j)=(i == j):=by
 rw[O3]
 simp
theorem bv8 {i j:Bool}:decide (V.bl i=V.bl j)=(i == j):=by
 rw[O3]
 simp
theorem bg0 {i j:Str}:decide (V.str i=V.str j)=(i == j):=by
 rw[O3]
 simp
theorem bg2 {i j:Array UInt8}:decide (V.byt i=V.byt j)=(i.toList == j.toList):=by
 rw[O3]
 cases i
 cases j
 simp
section
variable {a b c:Expr} {tb tc:TE}
theorem E6 {Q:VK}{k k':Bool}(I:Inv X pins σ H s)(q:Q (.bl k) H)(e:k=k'):EP X pins σ Q (.bool k') s:=by
 subst e
 exact⟨.bl k,H,I,rfl,q⟩
theorem be2:OpR X (D6 .Eq) rEq:=by
 intro pins s σ H x y v u Q I rx ry h
 obtain⟨hs,q⟩:=h
 cases x with
 | non =>
  cases rx
  cases y with
  | non=>cases ry;exact PySem.EqNone.eq_none_none (E6 I q (by simp))
  | bl j=>cases ry;exact PySem.EqNone.eq_none_bool (E6 I q (by simp))
  | int j=>obtain⟨t',rfl⟩:=ry;exact PySem.EqNone.eq_none_int (E6 I q (by simp))
  | str j=>obtain⟨t',rfl⟩:=ry;exact PySem.EqNone.eq_none_str (E6 I q (by simp))
  | _=>exact absurd (show false=true from hs) d4
 | bl i =>
  cases rx
  cases y with
  | non=>cases ry;exact PySem.EqNone.eq_bool_none (E6 I q (by simp))
  | bl j=>cases ry;exact eq_bool (E6 I q bv8)
  | str j=>obtain⟨t',rfl⟩:=ry;exact PySem.EqMixed.eq_bool_str (E6 I q (by simp))
  | _=>exact absurd (show false=true from hs) d4
 | int i =>
  obtain⟨t,rfl⟩:=rx
  cases y with
  | non=>cases ry;exact PySem.EqNone.eq_int_none (E6 I q (by simp))
  | int j=>obtain⟨t',rfl⟩:=ry;exact eq_int (E6 I q bg1)
  | str j=>obtain⟨t',rfl⟩:=ry;exact PySem.EqMixed.eq_int_str (E6 I q (by simp))
  | _=>exact absurd (show false=true from hs) d4
 | str i =>
  obtain⟨t,rfl⟩:=rx
  cases y with
  | non=>cases ry;exact PySem.EqNone.eq_str_none (E6 I q (by simp))
  | bl j=>cases ry;exact PySem.EqMixed.eq_str_bool (E6 I q (by simp))
  | int j=>obtain⟨t',rfl⟩:=ry;exact PySem.EqMixed.eq_str_int (E6 I q (by simp))
  | str j=>obtain⟨t',rfl⟩:=ry;exact eq_str (E6 I q bg0)
  | _=>exact absurd (show false=true from hs) d4
 | byt i =>
  obtain⟨t,rfl⟩:=rx
  cases y with
  | byt j=>obtain⟨t',rfl⟩:=ry;exact PySem.W.eq_bytes (E6 I q bg2)
  | _=>exact absurd (show false=true from hs) d4
 | _=>cases y<;>exact absurd (show false=true from hs) d4
theorem bH6:OpR X (D6 .NotEq) rNe:=by
 intro pins s σ H x y v u Q I rx ry h
 obtain⟨hs,q⟩:=h
 cases x with
 | non =>
  cases rx
  cases y with
  | non=>cases ry;exact PySem.EqNone.ne_none_none (E6 I q (by simp))
  | bl j=>cases ry;exact PySem.EqNone.ne_none_bool (E6 I q (by simp))
  | int j=>obtain⟨t',rfl⟩:=ry;exact PySem.EqNone.ne_none_int (E6 I q (by simp))
  | str j=>obtain⟨t',rfl⟩:=ry;exact PySem.EqNone.ne_none_str (E6 I q (by simp))
  | _=>exact absurd (show false=true from hs) d4
 | bl i =>
  cases rx
  cases y with
  | non=>cases ry;exact PySem.EqNone.ne_bool_none (E6 I q (by simp))
  | bl j=>cases ry;exact ne_bool (E6 I q (congrArg not bv8))
  | str j=>obtain⟨t',rfl⟩:=ry;exact PySem.EqMixed.ne_bool_str (E6 I q (by simp))
  | _=>exact absurd (show false=true from hs) d4
 | int i =>
  obtain⟨t,rfl⟩:=rx
  cases y with
  | non=>cases ry;exact PySem.EqNone.ne_int_none (E6 I q (by simp))
  | int j=>obtain⟨t',rfl⟩:=ry;exact ne_int (E6 I q (congrArg not bg1))
  | str j=>obtain⟨t',rfl⟩:=ry;exact PySem.EqMixed.ne_int_str (E6 I q (by simp))
  | _=>exact absurd (show false=true from hs) d4
 | str i =>
  obtain⟨t,rfl⟩:=rx
  cases y with
  | non=>cases ry;exact PySem.EqNone.ne_str_none (E6 I q (by simp))
  | bl j=>cases ry;exact PySem.EqMixed.ne_str_bool (E6 I q (by simp))
  | int j=>obtain⟨t',rfl⟩:=ry;exact PySem.EqMixed.ne_str_int (E6 I q (by simp))
  | str j=>obtain⟨t',rfl⟩:=ry;exact ne_str (E6 I q (congrArg not bg0))
  | _=>exact absurd (show false=true from hs) d4
 | byt i =>
  obtain⟨t,rfl⟩:=rx
  cases y with
  | byt j=>obtain⟨t',rfl⟩:=ry;exact PySem.W.ne_bytes (E6 I q (congrArg not bg2))
  | _=>exact absurd (show false=true from hs) d4
 | _=>cases y<;>exact absurd (show false=true from hs) d4
theorem ao2:OpR X (D6 .Lt) (rI0 fun i j=>.bl (decide (i<j))):=bB6 fun _ _ _ _ _ _ _ q=>lt_int q
theorem aA0:OpR X (D6 .LtE) (rI0 fun i j=>.bl (decide (i<=j))):=bB6 fun _ _ _ _ _ _ _ q=>le_int q
theorem bH7:OpR X (D6 .Gt) (rI0 fun i j=>.bl (decide (j<i))):=bB6 fun _ _ _ _ _ _ _ q=>gt_int q
theorem bX4:OpR X (D6 .GtE) (rI0 fun i j=>.bl (decide (j<=i))):=bB6 fun _ _ _ _ _ _ _ q=>ge_int q
theorem J5 (b:Expr){op:CmpOp}(h:op≠.In:=by decide)(h2:op≠.NotIn:=by decide):ad9 op b=false:=by
 have e1:(op == CmpOp.In)=false:=by cases op<;>first | rfl | exact absurd rfl h
 have e2:(op == CmpOp.NotIn)=false:=by cases op<;>first | rfl | exact absurd rfl h2
 cases b<;>simp[ad9,e1,e2]
theorem aw6 {op:CmpOp}{r:R2}(ho:OpR X (D6 op) r)(ha:PE X a ta)(hb:PE X b tb)(hm:ad9 op b=false):PE X (.Compare a [op] [b] pos) (tOp r ta tb):=by
 intro pins s σ H Q I h
 exact wpAny_Compare1 (bR2 ha hb I h fun v u s2 x y H2 I2 rx ry q=>ho pins s2 σ H2 x y v u Q I2 rx ry q) hm
def bG3 (t:TE):TT:=fun σ H Q=>t σ H fun x H'=>∃ k,x=.bl k/\Q k H'
theorem E2 {op:CmpOp}{r:R2}(ho:OpR X (D6 op) r)(ha:PE X a ta)(hb:PE X b tb)(hm:ad9 op b=false):PT X (.Compare a [op] [b] pos) (bG3 (tOp r ta tb)):=by
 intro pins s σ H Q I h
 refine bI9 (thn (ha pins s σ H _ I h) fun v s1 ⟨x,H1,I1,r1,q1⟩=>thn (hb pins s1 σ H1 _ I1 q1) fun u s2 ⟨y,H2,I2,r2,q2⟩ =>
  thn (ho pins s2 σ H2 x y v u _ I2 r1 r2 q2) fun c s3 ⟨z,H3,I3,r3,k,e,q3⟩=>?_) hm
 subst e
 cases r3
 exact L6 ⟨H3,I3,q3⟩
def bn5 (r r':R2)(ta tb tc:TE):TE:=fun σ H Q=>ta σ H fun x H1=>tb σ H1 fun y H2=>r x y H2 fun z H3=>∃ k,z=.bl k /\
 (if k=true then tc σ H3 fun w' H4=>r' y w' H4 Q else Q (.bl false) H3)
theorem br9 {op op':CmpOp}{r r':R2}(ho:OpR X (D6 op) r)(ho':OpR X (D6 op') r')(ha:PE X a ta)(hb:PE X b tb)(hc:PE X c tc)
  (hm:lastMarks [op,op'] [b,c]=false:=by with_unfolding_all rfl):PE X (.Compare a [op,op'] [b,c] pos) (bn5 r r' ta tb tc):=by
 intro pins s σ H Q I h
 refine Compare_chain (thn (ha pins s σ H _ I h) fun v s1 ⟨x,H1,I1,r1,q1⟩=>chain_link (thn (hb pins s1 σ H1 _ I1 q1) fun u s2 ⟨y,H2,I2,r2,q2⟩ =>
  thn (ho pins s2 σ H2 x y v u _ I2 r1 r2 q2) fun d s3 ⟨z,H3,I3,r3,k,e,q3⟩=>?_)) hm
 subst e
 cases r3
 refine L6 ?_
 cases k with
 | false=>exact ite_ff ⟨.bl false,H3,I3,rfl,q3⟩
 | true=>exact ite_tt (chain_last (thn (hc pins s3 σ H3 _ I3 q3) fun w' s4 ⟨z',H4,I4,r4,q4⟩=>ho' pins s4 σ H4 y z' u w' Q I4 r2 r4 q4))
theorem az3 {op op':CmpOp}{r r':R2}(ho:OpR X (D6 op) r)(ho':OpR X (D6 op') r')(ha:PE X a ta)(hb:PE X b tb)(hc:PE X c tc)
  (hm:lastMarks [op,op'] [b,c]=false:=by with_unfolding_all rfl):PT X (.Compare a [op,op'] [b,c] pos) (bG3 (bn5 r r' ta tb tc)):=by
 intro pins s σ H Q I h
 refine isTrue_chain (thn (ha pins s σ H _ I h) fun v s1 ⟨x,H1,I1,r1,q1⟩=>test_link (thn (hb pins s1 σ H1 _ I1 q1) fun u s2 ⟨y,H2,I2,r2,q2⟩ =>
  thn (ho pins s2 σ H2 x y v u _ I2 r1 r2 q2) fun d s3 ⟨z,H3,I3,r3,k,e,q3⟩=>?_)) hm
 subst e
 cases r3
 refine L6 ?_
 cases k with
 | false =>
  obtain⟨k',e',q'⟩:=q3
  cases e'
  exact ite_ff ⟨H3,I3,q'⟩
 | true =>
  refine ite_tt (test_last (thn (hc pins s3 σ H3 _ I3 q3) fun w' s4 ⟨z',H4,I4,r4,q4⟩=>thn (ho' pins s4 σ H4 y z' u w' _ I4 r2 r4 q4) fun d' s5 ⟨z2,H5,I5,r5,k2,e2,q5⟩=>?_))
  subst e2
  cases r5
  exact L6 ⟨H5,I5,q5⟩
theorem ar6:(i7:Nat)<2 ^ 63:=by rw[E9];decide
theorem vals1 {x:V}(r:B6 [x] us):∃ u,us=[u]/\RelV x u:=by
 cases r with
 | cons r1 r2=>cases r2;exact⟨_,rfl,r1⟩
theorem vals2 {x y:V}(r:B6 [x,y] us):∃ u w',us=[u,w']/\RelV x u/\RelV y w':=by
 cases r with
 | cons r1 r2 =>
  cases r2 with
  | cons r3 r4=>cases r4;exact⟨_,_,rfl,r1,r3⟩
theorem ad6 (hc:X.calm=true):O1 X (.builtin "max") (fun xs H Q=>∃ i j,xs=[.int i,.int j]/\Q (.int (if j > i then j else i)) H):=by
 intro pins s σ H xs us Q I r h
 obtain⟨i,j,rfl,q⟩:=h
 obtain⟨u,w',rfl,⟨t,rfl⟩,⟨t',rfl⟩⟩:=vals2 r
 refine max_two_ints (I.ok.hd hc) fun h' tk k=>⟨_,H,I.kept k,?_,q⟩
 by_cases hj:j > i
 ·rw[if_pos hj,if_pos hj];exact⟨_,rfl⟩
 ·rw[if_neg hj,if_neg hj];exact⟨_,rfl⟩
theorem Z7 (hc:X.calm=true):O1 X (.builtin "min") (fun xs H Q=>∃ i j,xs=[.int i,.int j]/\Q (.int (if j<i then j else i)) H):=by
 intro pins s σ H xs us Q I r h
 obtain⟨i,j,rfl,q⟩:=h
 obtain⟨u,w',rfl,⟨t,rfl⟩,⟨t',rfl⟩⟩:=vals2 r
 refine min_two_ints (I.ok.hd hc) fun h' tk k=>⟨_,H,I.kept k,?_,q⟩
 by_cases hj:j<i
 ·rw[if_pos hj,if_pos hj];exact⟨_,rfl⟩
 ·rw[if_neg hj,if_neg hj];exact⟨_,rfl⟩
end
structure bR5 (h:Heap) (x dx C:Addr) (mA:Str->Option Value):Prop where
 obj:h.get? x=some (PySem.W.instObj C dx)
 ns:h.Ns1 dx mA
 ne:dx≠x
theorem bj3 {dx:Addr}(n:h.Ns1 dx mA):∃ od,h.get? dx=some od/\∀ name,PySem.W.lookIn name od=some (mA name):=by
 obtain⟨o,es,ep,ho,hd,hk,_,hm⟩:=n
 refine⟨o,ho,fun name=>?_⟩
 have e:=hm name
 unfold nsFind findBy at e
 rw[<- Array.find?_toList]at e
 unfold PySem.W.lookIn
 rw[hd]
 dsimp only
 split
 ·rename_i y q
  rw[q]at e
  exact congrArg some e
 ·rename_i q
  rw[q]at e
  have a:es.toList.any (·.refKey)=false:=by
   rw[List.any_eq_false]
   intro y hy
   obtain⟨z,t,hkey⟩:=hk y (S5.mp hy)
   simp[DictEntry.refKey,hkey]
  have a':¬ es.toList.any (·.refKey)=true:=by rw[a];exact d4
  rw[if_neg a']
  exact congrArg some e
theorem bR5.look {x dx:Addr}(I:bR5 h x dx C mA):∃ od,PySem.W.InstAt h x (PySem.W.instObj C dx) C (some od)/\∀ name,PySem.W.lookIn name od=some (mA name):=
 let ⟨od,ho,hl⟩:=bj3 I.ns
 ⟨od,⟨I.obj,rfl,rfl,ho⟩,hl⟩
section
variable {K:W.Frag} {x dx:Addr} {name:Str}
end
section
variable {dx:Addr} {fs fs':List (Str × V)}
theorem bE0 (hok:HOk P w H h)(e:H a=some (.ins C dx fs)):∃ mA,bR5 h a dx C mA/\(∀ f,aZ9 (fs.lookup f) (mA f))/\PySem.Within mA (fs.map (·.1))/\fs.length<=1000/\H dx=some (.own a):=by
 obtain⟨d,z,ne,ob,mA,n,r,q⟩:=(show D5 P w H h a (.ins C dx fs) from hok a _ e)
 exact⟨mA,⟨ob,n,ne⟩,r,q,z,d⟩
end
structure Cls (K:W.Frag) (C:Addr):Prop where
 pg:PySem.W.plainGet K C Str.empty=true
 hd:PySem.W.hasDictIn K C=true
 po:PySem.W.plainOver K C=true
 sa:PySem.W.findIn K (.ref C) "__setattr__"=some (some (.builtin "object.__setattr__"))
theorem Cls.get {K:W.Frag}(c:Cls K C)(f:Str):PySem.W.plainGet K C f=true:=c.pg
structure Con (K:W.Frag) (C:Addr) (f:Str) (v:V) (u:Value):Prop where
 at_:PySem.W.findIn K (.ref C) f=some (some u)
 rel:RelV v u
 get:PySem.W.specialIn K u "__get__"=some none
 cp:PySem.W.copiedNames.contains f=false
structure cc7 (K:W.Frag) (C:Addr) (m:Str) (f:Addr):Prop where
 at_:PySem.W.findIn K (.ref C) m=some (some (.ref f))
 fn:PySem.W.isFn K (.ref f)=true
 kp:S8 K (.ref f)=true
section
variable {dx:Addr} {fs:List (Str × V)} {f:Str} {v:V}
end
section
variable {o value:Expr} {f:Str} {pos' tpos:Pos} {tv:TE}
end
section
variable {c:Value} {b:Bool}
inductive ap4 (K:W.Frag) (H:Hp):V->Value->Prop where
 | non:ap4 K H .non (.type "NoneType")
 | bl (x:Bool):ap4 K H (.bl x) (.type "bool")
 | int (i:Int):ap4 K H (.int i) (.type "int")
 | str (x:Str):ap4 K H (.str x) (.type "str")
 | flt (x:UInt64):ap4 K H (.flt x) (.type "float")
 | lst {a:Addr} {xs:List V} (e:H a=some (.lst xs)):ap4 K H (.ref a) (.type "list")
 | frz {a:Addr} {o:Obj} {xs:List V} (e:H a=some (.frz o (.lst xs))):ap4 K H (.ref a) (.type "list")
 | tup {a:Addr} {xs:List V} (e:H a=some (.tup xs)):ap4 K H (.ref a) (.type "tuple")
 | dK {a:Addr} {kvs:List (Key × V)} (e:H a=some (.dK kvs)):ap4 K H (.ref a) (.type "dict")
 | dT {a:Addr} {kvs:List (List Key × V)} (e:H a=some (.dT kvs)):ap4 K H (.ref a) (.type "dict")
 | ins {a C dx:Addr} {fs:List (Str × V)} (e:H a=some (.ins C dx fs)) (cl:Cls K C) (ha:PySem.W.findIn K (.ref C) "__class__"=some (some (.builtin "object.__class__")))
   (hn:PySem.W.specialIn K (.builtin "object.__class__") "__get__"=some (some (.builtin "getset_descriptor.__get__"))) (htk:PySem.W.takesIn K (.builtin "object.__class__")=some true)
   (hm:PySem.W.mroIn K C (.type "object")=some true):ap4 K H (.ref a) (.ref C)
theorem bk0 {x:V}{t:Value}(I:Inv X pins σ H s)(rx:RelV x u)(ty:ap4 X.K H x t)(e:PySem.W.kitOne X.K t c=some b)(h:∀ tk,Q (.bool b) { s with toks:=tk }) :
  k9 (n6 X.prog X.w) A (call (.builtin "isinstance") [u,c]) Q E s:=by
 cases ty with
 | non=>cases (show u=Value.none from rx);exact PySem.W.kia_one PySem.W.kitx_none I.kIn True.intro e (fun z=>nomatch z) h
 | bl y=>cases (show u=Value.bool y from rx);exact PySem.W.kia_one PySem.W.kitx_bool I.kIn True.intro e (fun z=>nomatch z) h
 | int i=>obtain⟨t,q⟩:=(show ∃ t,u=Value.int i t from rx);cases q;exact PySem.W.kia_one PySem.W.kitx_int I.kIn True.intro e (fun z=>nomatch z) h
 | str y=>obtain⟨t,q⟩:=(show ∃ t,u=Value.str y t from rx);cases q;exact PySem.W.kia_one PySem.W.kitx_str I.kIn True.intro e (fun z=>nomatch z) h
 | flt y=>obtain⟨t,q⟩:=(show ∃ t,u=Value.float y t from rx);cases q;exact PySem.W.kia_one PySem.W.kitx_float I.kIn True.intro e (fun z=>nomatch z) h
 | @lst a xs ea =>
  cases (show u=Value.ref a from rx)
  obtain⟨_,_,n,_,h1⟩:=(show D5 X.prog X.w H s.heap a (.lst xs) from I.hok a _ ea)
  exact PySem.W.kia_one PySem.W.kitx_list I.kIn ⟨_,h1,rfl⟩ e (fun z=>nomatch z) h
 | @frz a ob xs ea =>
  cases (show u=Value.ref a from rx)
  obtain⟨_,_,_,n,_,h1⟩:=(show D5 X.prog X.w H s.heap a (.frz ob (.lst xs)) from I.hok a _ ea)
  exact PySem.W.kia_one PySem.W.kitx_list I.kIn ⟨_,h1,rfl⟩ e (fun z=>nomatch z) h
 | @tup a xs ea =>
  cases (show u=Value.ref a from rx)
  obtain⟨_,_,_,p⟩:=(show D5 X.prog X.w H s.heap a (.tup xs) from I.hok a _ ea)
  obtain⟨o,h1,h2,_⟩:=p
  exact PySem.W.kia_one PySem.W.kitx_tuple I.kIn ⟨o,h1,h2⟩ e (fun z=>nomatch z) h
 | @dK a kvs ea =>
  cases (show u=Value.ref a from rx)
  obtain⟨_,_,vs,_,p⟩:=(show D5 X.prog X.w H s.heap a (.dK kvs) from I.hok a _ ea)
  obtain⟨o,es,ep,h1,h2,_⟩:=p
  exact PySem.W.kia_one PySem.W.kitx_dict I.kIn ⟨o,h1,h2.1⟩ e (fun z=>nomatch z) h
 | @dT a kvs ea =>
  cases (show u=Value.ref a from rx)
  obtain⟨_,_,xs,_,o,es,ep,h1,h2,_⟩:=(show D5 X.prog X.w H s.heap a (.dT kvs) from I.hok a _ ea)
  exact PySem.W.kia_one PySem.W.kitx_dict I.kIn ⟨o,h1,h2.1⟩ e (fun z=>nomatch z) h
 | @ins a C dx fs ea cl ha hn htk hm =>
  cases (show u=Value.ref a from rx)
  obtain⟨mA,O,_⟩:=bE0 I.hok ea
  obtain⟨od,J,_⟩:=O.look
  exact PySem.W.kia_one (PySem.W.kitx_own (cl.get _) cl.hd ha hn htk hm) I.kIn J e (fun z=>nomatch z) h
end
structure Y4 (k:Nat) (A:Around):Prop where
 hd:A.handled=none
 dp:A.depth+3*k+5<aB9
 un:A.units+16*k+200<R8
theorem Y4.mono {k:Nat}(r:Y4 k A)(h:j<=k):Y4 j A:=⟨r.hd,by have:=r.dp;omega,by have:=r.un;omega⟩
theorem Y4.deeper {k:Nat}(r:Y4 (k+1) A)(env:Env):Y4 k (A.deeper env):=
 ⟨r.hd,by have:=r.dp;show A.depth+1+3*k+5<_;omega,by have:=r.un;show A.units+3+16*k+200<_;omega⟩
theorem Y4.depth {k:Nat}(r:Y4 k A):A.depth<aB9:=by have:=r.dp;omega
theorem Y4.units {k:Nat}(r:Y4 k A):A.units+64<R8:=by have:=r.un;omega
def bL0:TA:=fun _ H Q=>Q [] H
def bn4 (ta:TE)(tr:TA):TA:=fun σ H Q=>ta σ H fun x H1=>tr σ H1 fun xs H2=>Q (x::xs) H2
section
variable {es:List Expr} {t:TA}
theorem c7:PA X [] bL0:=fun _ _ _ _ H Q I h=>Calls.spliced_nil ⟨[],H,I,.nil,h⟩
theorem a7 (ha:PE X e te)(hr:PA X es t)(hs:x8 (e::es) X.env=(false,eval e X.env)::x8 es X.env:=by rfl):PA X (e::es) (bn4 te t):=by
 intro pos pins s σ H Q I h
 rw[hs]
 show k9 _ _ (spliced ((false,eval e X.env)::V7 pos (x8 es X.env))) _ _ s
 refine Calls.spliced_cons (thn (ha pins s σ H _ I h) fun u s1 ⟨x,H1,I1,r1,q1⟩=>?_)
 exact thn (hr pos pins s1 σ H1 _ I1 q1) fun us s2 ⟨xs,H2,I2,r2,q2⟩=>⟨x::xs,H2,I2,.cons r1 r2,q2⟩
def bZ8 (t:TA):TE:=fun σ H Q=>t σ H fun xs H1=>xs.length<=i7/\∀ p,H1 p=none->Q (.ref p) (upd H1 p (.tup xs))
def ca3 (t:TA):TE:=fun σ H Q=>t σ H fun xs H1=>xs.length<=i7/\∀ p,H1 p=none->Q (.ref p) (upd H1 p (.lst xs))
theorem G1 {x1}(h:PA X es t):PE X (.Tuple es x1 pos) (bZ8 t):=by
 intro pins s σ H Q I hq
 refine bT5 (thn (h pos pins s σ H _ I hq) fun us s1 ⟨xs,H1,I1,r,z,q⟩=>⟨by rw[<- r.length];exact z,?_⟩)
 have hf:H1 s1.heap.objs.size=none:=I1.hok.fresh (c5 _)
 refine⟨.ref s1.heap.objs.size,upd H1 s1.heap.objs.size (.tup xs),I1.laid (t':=s1.toks) (fun b u e=>a6 _ e) (c5 _) ?_,rfl,q _ hf⟩
 exact⟨z,us,r,⟨_,d5 _ rfl,rfl,_,rfl⟩⟩
theorem W6 (h:PA X es t):PE X (.List es pos) (ca3 t):=by
 intro pins s σ H Q I hq
 refine wpAny_List_spliced (thn (h pos pins s σ H _ I hq) fun us s1 ⟨xs,H1,I1,r,z,q⟩=>⟨by rw[<- r.length];exact z,?_⟩)
 have hf:H1 s1.heap.objs.size=none:=I1.hok.fresh (c5 _)
 refine⟨.ref s1.heap.objs.size,upd H1 s1.heap.objs.size (.lst xs),I1.laid (t':=s1.toks) (fun b u e=>a6 _ e) (c5 _) ?_,rfl,q _ hf⟩
 exact⟨z,us,0,r,d5 _ rfl⟩
end
abbrev Sp:=List V->Hp->VK->XK->Prop
abbrev CXT:=List Env->Hp->Shared->XK->Value->Shared->Prop
structure bF2 (P:Program) (w:World) (K:W.Frag) (mg:Str->Option Value) (base:Heap) (A:Around) (outer:List Env) (s:Shared) (H:Hp):Prop where
 frames:A.frames=some outer
 mod:Mod K mg base
 bs:∀ b o,base.get? b=some o->s.heap.get? b=some o/\H b=none
 bsz:base.objs.size<=s.heap.objs.size
 funs:s.heap.FunFrames base outer
 frf:∀ b∈frs outer,H b=none
 hok:HOk P w H s.heap
 bare:at6 s.gens
def CE (outer:List Env)(P:Program)(w:World)(H:Hp)(s:Shared)(Q:VK)(u:Value)(s':Shared):Prop:=
 ∃ v H',s'.os=s.os/\at6 s'.gens/\Un (frs outer) [] H H' s.heap s'.heap/\HOk P w H' s'.heap/\RelV v u/\Q v H'
def CR (CX:CXT)(outer:List Env)(P:Program)(w:World)(H:Hp)(s:Shared)(Q:VK)(E:XK)(r:bJ1)(s':Shared):Prop:=
 match r with
 | .ok (.ret u)=>CE outer P w H s Q u s'
 | .ok _=>False
 | .error e=>CX outer H s E e s'
structure A2 (P:Program) (w:World) (K:W.Frag) (mg:Str->Option Value) (base:Heap) (CX:CXT) (k:Nat) (f:Addr) (fd:FuncData) (ps:List Str) (sp:Sp):Prop where
 len:∀ vs H Q E,sp vs H Q E->vs.length=ps.length
 run:∀ (A:Around) (outer:List Env) (s:Shared) (H:Hp) (args:Args) (us:List Value) (vs:List V) (Q:VK) (E:XK),Y4 k A->bF2 P w K mg base A outer s H->bg8 s fd args (ps.zip us)->B6 vs us->sp vs H Q E ->
  V2 (n6 P w) A (.call (.ref f) args) (CR CX outer P w H s Q E) s
theorem A2.mono {K:W.Frag}{mg:Str->Option Value}{base:Heap}{CX:CXT}{k:Nat}{ps:List Str}{sp:Sp}(F:A2 P w K mg base CX j f fd ps sp)(h:j<=k) :
  A2 P w K mg base CX k f fd ps sp:=⟨F.len,fun A outer s H args us vs Q E hr=>F.run A outer s H args us vs Q E (hr.mono h)⟩
section
variable {s':Shared}
theorem Inv.env0 (I:Inv X pins σ H s):bF2 X.prog X.w X.K X.mg X.base X.A X.stack s H:=
 ⟨I.ok.frames,I.ok.mod,I.bs,t9 I.ok.bsz I.sz,I.stack,I.stkFree,I.hok,I.bare⟩
theorem Inv.after {Q:VK}(I:Inv X pins σ H s)(h:CE X.stack X.prog X.w H s Q u s'):EP X pins σ Q u s':=by
 obtain⟨v,H',os,bare,un,hok,r,q⟩:=h
 obtain⟨hh,g,d,t,os'⟩:=s'
 obtain rfl:os'=s.os:=os
 exact⟨v,H',I.call (h':=hh) (g':=g) (d':=d) (t':=t) (ch:=[]) un hok bare (fun b z=>absurd z (by simp)),r,q⟩
end
def bn6 (sp:Sp)(dvs:List V)(E:XK)(t:TA):TE:=fun σ H Q=>t σ H fun vs H1=>sp (vs++dvs) H1 Q E
def Binds (K:W.Frag)(fd:FuncData)(ps:List Str)(ds:List Value):Prop:=
 ∀ (s:Shared) (us:List Value),K.In s.heap->(us++ds).length=ps.length->bg8 s fd ⟨us,[]⟩ (ps.zip (us++ds))
theorem Binds.all {K:W.Frag}{ps:List Str}(h:∀ us:List Value,us.length=ps.length->ba7 fd ⟨us,[]⟩=pure (ps.zip us)):Binds K fd ps []:=fun s us _ hl=>by
 rw[F6]at hl ⊢
 exact .of_eq (h us hl)
def am9 (CX:CXT)(X:Cx)(E:XK):Prop:=∀ (pins:List (Addr × Obj)) (σ:St) (H:Hp) (s:Shared) (e:Value) (s':Shared),Inv X pins σ H s->CX X.stack H s E e s'->X.xe e s'
section
variable {CX:CXT} {k:Nat} {ps:List Str} {sp:Sp} {dvs:List V} {ds:List Value} {E:XK} {m:Str} {p:Pos} {o:Expr} {es:List Expr} {t:TA}
theorem bq3 {Q:VK}{vs:List V}(F:A2 X.prog X.w X.K X.mg X.base CX k f fd ps sp)(hr:Y4 k X.A)(hb:Binds X.K fd ps ds)(hd:B6 dvs ds)(hx:am9 CX X E)
  (I:Inv X pins σ H s)(r:B6 vs us)(h:sp (vs++dvs) H Q E):k9 (n6 X.prog X.w) X.A (call (.ref f) us) (EP X pins σ Q) X.xe s:=by
 have r2:B6 (vs++dvs) (us++ds):=r.append hd
 have hl:(us++ds).length=ps.length:=by rw[<- r2.length];exact F.len _ _ _ _ h
 refine av5 (Q6 (F.run X.A X.stack s H ⟨us,[]⟩ (us++ds) (vs++dvs) Q E hr I.env0 (hb s us I.kIn hl) r2 h) fun r s' hq=>?_)
 cases r with
 | error e=>exact hx pins σ H s e s' I hq
 | ok fl =>
  cases fl with
  | ret u=>exact I.after hq
  | next=>exact False.elim hq
  | brk=>exact False.elim hq
  | cont=>exact False.elim hq
theorem aJ2 (F:A2 X.prog X.w X.K X.mg X.base CX k f fd ps sp)(hr:Y4 k X.A)(hg:Gl X x)(hm:X.mg x=some (.ref f))(hk:S8 X.K (.ref f)=true)(hb:Binds X.K fd ps ds)(hd:B6 dvs ds)(hx:am9 CX X E)
  (ha:PA X (e::es) t)(hdb:(x == ("__debug__":Str))=false:=by decide)(he:x8 (e::es) X.env=(false,eval e X.env)::x8 es X.env:=by rfl)(hpl:(V7 pos (x8 es X.env)).any (·.1)=false:=by rfl) :
  PE X (.Call (.Name x p) (e::es) [] pos) (bn6 sp dvs E t):=by
 intro pins s σ H Q I h
 refine K0 (ao5 I hg hm ?_ hdb)
 refine PySem.W.callWith_K (h₀:=X.base) I.ok.mod.kin hk (thn (ha pos pins s σ H _ I h) fun us s1 ⟨vs,H1,I1,r,q⟩=>⟨I1.kIn,?_⟩) he hpl
 exact bq3 F hr hb hd hx I1 r q
structure Mk (K:W.Frag) (C f:Addr):Prop where
 makes:PySem.W.makesIn K C=true
 init:PySem.W.findIn K (.ref C) "__init__"=some (some (.ref f))
 fn:PySem.W.isFn K (.ref f)=true
 kp:S8 K (.ref C)=true
end
def PK (X:Cx)(kws:List an4)(t:TA):Prop:=
 ∀ (pos:Pos) (pins:List (Addr × Obj)) (s:Shared) (σ:St) (H:Hp) (Q:List V->Hp->Prop),Inv X pins σ H s->t σ H Q->k9 (n6 X.prog X.w) X.A (evalAll ((ba8 pos (an5 kws X.env)).map (·.2))) (AP X pins σ Q) X.xe s
section
variable {CX:CXT} {k:Nat} {ps ks:List Str} {sp:Sp} {E:XK} {m:Str} {p kpos:Pos} {o:Expr} {es:List Expr} {kws:List an4} {t tk:TA} {nm:Option Str}
theorem bM8:PK X [] bL0:=fun _ _ _ _ H Q I h=>wpAny_evalAll_nil ⟨[],H,I,.nil,h⟩
theorem bA6 (ha:PE X e te)(hr:PK X kws t):PK X (⟨nm,e,kpos⟩::kws) (bn4 te t):=by
 intro pos pins s σ H Q I h
 show k9 _ _ (evalAll ((do let v <- eval e X.env;standAt pos;pure v)::(ba8 pos (an5 kws X.env)).map (·.2))) _ _ s
 refine wpAny_evalAll_cons (a5 (thn (ha pins s σ H _ I h) fun u s1 ⟨x,H1,I1,r1,q1⟩=>a5 (an6 (a8 ?_))))
 exact thn (hr pos pins s1 σ H1 _ I1 q1) fun us s2 ⟨xs,H2,I2,r2,q2⟩=>⟨x::xs,H2,I2,.cons r1 r2,q2⟩
structure cc5 (K:W.Frag) (fd:FuncData) (ps ks:List Str) (g:List Value->List Value->List Value) (gV:List V->List V->List V):Prop where
 to:∀ (s:Shared) (us ws:List Value),K.In s.heap->(g us ws).length=ps.length->bg8 s fd ⟨us,ks.zip ws⟩ (ps.zip (g us ws))
 rel:∀ {vs:List V} {us:List Value} {zs:List V} {ws:List Value},B6 vs us->B6 zs ws->B6 (gV vs zs) (g us ws)
variable {g:List Value->List Value->List Value}
end
structure A1 (N P:List Str) (sc:Scope):Prop where
 kind:sc.kind=.function
 co:sc.isCoroutine=false
 gen:sc.isGenerator=false
 nd:N.Nodup
 pre:N.take P.length=P
 par:∀ x∈P,sc.names.lookup x=some .local\/sc.names.lookup x=some .cell
 nofree:∀ y∈sc.names,y.2≠.free
theorem A1.mk' {P:List Str}{sc:Scope}(a:sc.kind=.function:=by rfl)(b:sc.isCoroutine=false:=by rfl)(c:sc.isGenerator=false:=by rfl)(d:N.Nodup:=by decide +kernel)(e:N.take P.length=P:=by rfl)(f:∀ x∈P,sc.names.lookup x=some .local\/sc.names.lookup x=some .cell:=by decide +kernel)(g:∀ y∈sc.names,y.2≠.free:=by decide +kernel):A1 N P sc:=⟨a,b,c,d,e,f,g⟩
theorem aF8 {kindOf:Str->Option av6}:∀ {binds:List (Str × Value)} {m:Str->Option Value},(∀ v,(x,v)∉binds)->bindL kindOf binds m x=m x
 | [],_,_=>rfl
 | (n,v)::r,m,h=>by
  unfold bindL
  rw[aF8 fun w hw=>h w (d3 _ hw)]
  split
  ·have:x≠n:=by rintro rfl;exact h v c6
   simp[this]
  ·rfl
theorem aG0 {kindOf:Str->Option av6}:∀ {binds:List (Str × Value)} {m:Str->Option Value},(∀ v,(x,v)∉binds)->bindC kindOf binds m x=m x
 | [],_,_=>rfl
 | (n,v)::r,m,h=>by
  unfold bindC
  rw[aG0 fun w hw=>h w (d3 _ hw)]
  split
  ·rfl
  ·have:x≠n:=by rintro rfl;exact h v c6
   simp[this]
theorem aF9 {kindOf:Str->Option av6}:∀ {P:List Str} {vs:List Value} {i:Nat} {m:Str->Option Value},P.Nodup->P[i]?=some x->vs[i]?=some v->kindOf x=some .local ->
  bindL kindOf (P.zip vs) m x=some v
 | [],_,_,_,_,h,_,_=>by simp at h
 | _::_,[],_,_,_,_,h,_=>by simp at h
 | p::P,w::vs,0,m,nd,h1,h2,hk=>by
  simp at h1 h2;subst h1;subst h2
  show bindL kindOf ((p,w)::P.zip vs) m p=_
  unfold bindL
  rw[aF8 fun v hv=>(m9.mp nd).1 (ap6 hv).1,if_pos hk]
  simp
 | p::P,w::vs,i+1,m,nd,h1,h2,hk=>by
  show bindL kindOf ((p,w)::P.zip vs) m x=_
  unfold bindL
  exact aF9 (i:=i) (m9.mp nd).2 (by simpa using h1) (by simpa using h2) hk
theorem aG1 {kindOf:Str->Option av6}:∀ {P:List Str} {vs:List Value} {i:Nat} {m:Str->Option Value},P.Nodup->P[i]?=some x->vs[i]?=some v->kindOf x≠some .local ->
  bindC kindOf (P.zip vs) m x=some v
 | [],_,_,_,_,h,_,_=>by simp at h
 | _::_,[],_,_,_,_,h,_=>by simp at h
 | p::P,w::vs,0,m,nd,h1,h2,hk=>by
  simp at h1 h2;subst h1;subst h2
  show bindC kindOf ((p,w)::P.zip vs) m p=_
  unfold bindC
  rw[aG0 fun v hv=>(m9.mp nd).1 (ap6 hv).1,if_neg hk]
  simp
 | p::P,w::vs,i+1,m,nd,h1,h2,hk=>by
  show bindC kindOf ((p,w)::P.zip vs) m x=_
  unfold bindC
  exact aG1 (i:=i) (m9.mp nd).2 (by simpa using h1) (by simpa using h2) hk
def start (N:List Str)(vs:List V):St:=vs.map some++B0 (N.length - vs.length) none
def ap1 (CX:CXT)(P:Program)(w:World)(K:W.Frag)(mg:Str->Option Value)(base:Heap)(N:List Str)(qual:Str)(scope:Scope)(f:Addr)(cd:Value)(A:Around)(outer:List Env)(s:Shared)(H:Hp)(E:XK):Cx where
 prog:=P
 w:=w
 K:=K
 mg:=mg
 base:=base
 A:=A.deeper (M8 qual scope s.heap.objs.size f cd)
 N:=N
 s₀:=s
 H₀:=H
 env:=M8 qual scope s.heap.objs.size f cd
 outer:=outer
 stack:=M8 qual scope s.heap.objs.size f cd::outer
 ex:=[]
 calm:=true
 fn:=fun _=>true
 pn:=[]
 xe:=fun e s'=>k9 (n6 P w) (A.deeper (M8 qual scope s.heap.objs.size f cd)) (leaving (M8 qual scope s.heap.objs.size f cd) e) (fun _ s''=>CX outer H s E e s'') (fun e' s''=>CX outer H s E e' s'') s'
theorem aT8 {sc:Scope}(h:sc.names.lookup x=some .cell):∃ c,(bg9 n sc.names []).lookup x=some c:=by
 have q:=PySem.W.cellsFrom_some sc.names n [] (.inl h)
 exact p7.mp q
theorem bk1 {CX:CXT}{K:W.Frag}{mg:Str->Option Value}{base:Heap}{ps:List Str}{cd:Value}{s1:Shared}{E:XK}{vs:List V}
  (S:A1 N ps scope)(hd:A.handled=none)(e0:bF2 P w K mg base A outer s H)(hl:vs.length=ps.length)(r:B6 vs us)
  (x:InCallC s s.heap.objs.size (bindL (M8 qual scope s.heap.objs.size f cd).kindOf (ps.zip us) fun _=>none) (bg9 (s.heap.objs.size+1) scope.names []) (bindC (M8 qual scope s.heap.objs.size f cd).kindOf (ps.zip us) fun _=>none) s1) :
  Inv (ap1 CX P w K mg base N qual scope f cd A outer s H E) [] (start N vs) H s1:=by
 have hpl:ps.length<=N.length:=by have:=congrArg M7 S.pre;rw[A4]at this;omega
 obtain⟨h1,tk,rfl,hk⟩:=x.done
 have noA:∀ b:Addr,b∉(ap1 CX P w K mg base N qual scope f cd A outer s H E).ex:=fun b z=>absurd (show b∈([]:List Addr) from z) (by simp)
 refine⟨⟨e0.mod,S.kind,rfl,rfl,c5 _,fun y z c h1 h2=>?_,fun y hy=>?_,fun y c _ h=>?_,fun _=>hd,Around.frames_deeper e0.frames,.inr ⟨rfl,rfl⟩,fun b z=>absurd z (noA b),e0.bs,e0.bsz,fun b _ _=>noA b,fun b z=>absurd z (noA b),e0.funs,e0.frf⟩,
  rfl,e0.bare,Un.kept hk,⟨_,x.toInCall.ns,fun i y v h1 h2 h3=>?_⟩,fun y c h=>⟨_,x.cell y c h⟩,e0.hok.fresh (c5 _),fun y c h=>?_,fun p hp=>absurd (show p∈([]:List (Addr × Obj)) from hp) (by simp),e0.hok.kept hk,?_⟩
 ·exact name_of_addr x.apart (PySem.mem_of_lookup h1) (PySem.mem_of_lookup h2)
 ·have hy:scope.names.lookup y=some .cell\/scope.names.lookup y=some .free:=hy
  rcases hy with hy | hy
  ·exact aT8 hy
  ·exact absurd rfl (S.nofree _ (PySem.mem_of_lookup hy))
 ·exact aq1 (x.above y c (PySem.mem_of_lookup h))
 ·have hi:i<vs.length:=by
   unfold start at h2
   by_cases hi:i<vs.length
   ·exact hi
   ·rw[G0 (by simpa using hi)]at h2
    rw[List.getElem?_replicate]at h2
    split at h2<;>cases h2
  have ha:vs[i]?=some v:=by
   unfold start at h2
   rw[ag2 (by simpa using hi),j6]at h2
   cases e:vs[i]? with
   | none=>rw[e]at h2;cases h2
   | some a=>rw[e]at h2;cases h2;rfl
  obtain⟨u,hu,rv⟩:=r.get ha
  have hp:ps[i]?=some y:=by
   rw[<- S.pre,V5 (by omega)];exact h1
  have ndP:ps.Nodup:=by rw[<- S.pre];exact S.nd.sublist (aD3 _ _)
  refine⟨u,rv,?_⟩
  rcases S.par y (d9 hp) with k | k
  ·exact .inl ⟨k,aF9 ndP hp hu k⟩
  ·obtain⟨c,e⟩:=aT8 (n:=s.heap.objs.size+1) k
   refine .inr ⟨.inl k,c,e,?_⟩
   have q:=x.cell y c e
   rw[aG1 ndP hp hu (by show scope.names.lookup y≠_;rw[k];decide)]at q
   exact q
 ·exact e0.hok.fresh (aq1 (x.above y c (PySem.mem_of_lookup h)))
 ·unfold start
  show _=N.length
  rw[j9,b8,List.length_replicate]
  omega
theorem bu9 {CX:CXT} {K:W.Frag} {mg:Str->Option Value} {base:Heap} {k:Nat} {name:Str} {body:List Stmt} {dV kV doc pm cdv ct oc:Value} {an od:Option Addr}
  {osl:Array (Option Value)} {ps:List Str} {sp:Sp} (lk:K.lookup f=some ⟨oc,od,.func (V0 name qual params body scope dV kV doc pm an cdv ct),osl⟩) (hcd:aM9 K cdv qual=true) (S:A1 N ps scope)
  (len:∀ vs H Q E,sp vs H Q E->vs.length=ps.length)
  (hbody : ∀ (A : Around) (outer : List Env) (s : Shared) (H : Hp) (vs : List V) (Q : VK) (E : XK), Y4 k (A.deeper (M8 qual scope s.heap.objs.size f cdv)) -> sp vs H Q E ->
   ∃ t,PSs (ap1 CX P w K mg base N qual scope f cdv A outer s H E) body t/\t { nx:=fun _ H'=>Q .non H',rt:=Q } (start N vs) H) :
  A2 P w K mg base CX (k+1) f (V0 name qual params body scope dV kV doc pm an cdv ct) ps sp:=by
 refine⟨len,fun A outer s H args us vs Q E hr e0 hb r hsp=>?_⟩
 have hl:=len _ _ _ _ hsp
 have KX:K.In s.heap:=e0.mod.kin.keeps fun b o e=>(e0.bs b o e).1
 have lim:s.heap.NoLimit:=e0.mod.nolimit.keeps fun b o e=>(e0.bs b o e).1
 have hkind:∀ y∈ps.zip us,scope.names.lookup y.1=some .local\/(scope.names.lookup y.1=some .cell/\((bg9 (s.heap.objs.size+1) scope.names []).lookup y.1).isSome=true):=fun⟨n,v⟩ hy=>by
  rcases S.par n (ap6 hy).1 with q | q
  ·exact .inl q
  ·exact .inr ⟨q,PySem.W.cellsFrom_some _ _ _ (.inl q)⟩
 refine codeAny_call_function hr.depth (KX _ _ lk) rfl S.co S.gen rfl (PySem.W.codeRec_of KX hcd) (hb _ _ _ _ ?_)
 refine wpAny_newFunctionEnv_cells S.kind hkind fun env he s1 x=>?_
 subst he
 refine⟨lim.keeps x.toInCall.keep,codeAny_func ?_⟩
 obtain⟨t,ht,hq⟩:=hbody A outer s H vs Q E (hr.deeper _) hsp
 have I:Inv (ap1 CX P w K mg base N qual scope f cdv A outer s H E) [] (start N vs) H s1:=bk1 S hr.hd e0 hl r x
 refine C2 (ht [] s1 (start N vs) H _ I hq) (fun fl s' hs=>?_) fun e s' hs=>hs
 have fin:∀ {σ':St} {H':Hp} {v:V} {u:Value},Inv (ap1 CX P w K mg base N qual scope f cdv A outer s H E) [] σ' H' s'->RelV v u->Q v H'->CE outer P w H s Q u s':=
  fun {σ' H' v u} J rv q=>⟨v,H',J.os,J.bare,J.base,J.hok,rv,q⟩
 cases fl with
 | ret u =>
  obtain⟨v,σ',H',J,rv,q⟩:=hs
  exact fin J rv q
 | next =>
  obtain⟨σ',H',J,q⟩:=hs
  exact fin (v:=V.non) (u:=Value.none) J rfl q
 | brk =>
  obtain⟨_,_,_,q⟩:=hs
  exact False.elim q
 | cont =>
  obtain⟨_,_,_,q⟩:=hs
  exact False.elim q
section
variable {p:Pos} {es:List Expr} {t:TA} {id T:String} {r:List V->Hp->VK->Prop}
def tCB (r:List V->Hp->VK->Prop)(t:TA):TE:=fun σ H Q=>t σ H fun vs H1=>r vs H1 Q
theorem v9 (hc:O1 X (.builtin id) r)(hg:Gl X x)(hm:X.mg x=none)(hv:Q5 x=some (.builtin id))(ha:PA X (e::es) t)(hn:x≠"__name__":=by decide)(hdb:(x == ("__debug__":Str))=false:=by decide)
  (he:x8 (e::es) X.env=(false,eval e X.env)::x8 es X.env:=by rfl)(hpl:(V7 pos (x8 es X.env)).any (·.1)=false:=by rfl):PE X (.Call (.Name x p) (e::es) [] pos) (tCB r t):=by
 intro pins s σ H Q I h
 refine K0 (ah8 I hg hm hv ?_ hn hdb)
 exact PyProof.Rows.callWith_builtin1 (thn (ha pos pins s σ H _ I h) fun us s1 ⟨vs,H1,I1,r1,q1⟩=>hc pins s1 σ H1 vs us Q I1 r1 q1) he hpl
theorem F8 (hc:O1 X (.type T) r)(hg:Gl X x)(hm:X.mg x=none)(hv:Q5 x=some (.type T))(ha:PA X (e::es) t)(hn:x≠"__name__":=by decide)(hdb:(x == ("__debug__":Str))=false:=by decide)
  (he:x8 (e::es) X.env=(false,eval e X.env)::x8 es X.env:=by rfl)(hpl:(V7 pos (x8 es X.env)).any (·.1)=false:=by rfl):PE X (.Call (.Name x p) (e::es) [] pos) (tCB r t):=by
 intro pins s σ H Q I h
 refine K0 (ah8 I hg hm hv ?_ hn hdb)
 exact PyProof.Rows.callWith_type1 (thn (ha pos pins s σ H _ I h) fun us s1 ⟨vs,H1,I1,r1,q1⟩=>hc pins s1 σ H1 vs us Q I1 r1 q1) he hpl
end
end L2
namespace HT
open PySem PyProof.Rows
def lexLt:List Int->List Int->Bool
 | [],[]=>false
 | [],_::_=>true
 | _::_,[]=>false
 | x::xs,y::ys=>if x=y then lexLt xs ys else decide (x<y)
section
open PySem.SeqAt
open PySem.AutoSeq1 (wpAny_loadPart')
open PySem.MeetsSeq PySem.MeetsSeq2 PySem.MeetsSeq3
end
def sIx (n d:Nat):Option Int->Nat
 | none=>d
 | some v=>if v<0 then (v+(n:Int)).toNat else min v.toNat n
end HT
namespace L2
open PySem PySem.Spec PyProof.Rows
abbrev TO:=St->Hp->(Option Int->Hp->Prop)->Prop
def PO (X:Cx)(e:Option Expr)(t:TO):Prop:=
 ∀ (pins:List (Addr × Obj)) (s:Shared) (σ:St) (H:Hp) (Q:Option Int->Hp->Prop),Inv X pins σ H s->t σ H Q ->
  k9 (n6 X.prog X.w) X.A (evalPart e X.env) (fun u s'=>∃ o H',Inv X pins σ H' s'/\IsPart u o/\Q o H') X.xe s
def bU7 (t:TE):TO:=fun σ H Q=>t σ H fun x H1=>∃ i,x=.int i/\Q (some i) H1
theorem intsAre_of:∀ {us:List Value},B6 (ns.map V.int) us->IntsAre us ns:=by
 induction ns with
 | nil=>intro us r;rw[aG9]at r;cases r;exact .nil
 | cons n ns ih =>
  intro us r
  rw[j3]at r
  cases r with
  | cons r1 r2 =>
   obtain⟨t,e⟩:=r1
   subst e
   exact .cons n t (ih r2)
section
variable {lo hi:Option Expr} {tl th:TO} {p2:Pos}
theorem bd8 (h:PE X e te):PO X (some e) (bU7 te):=by
 intro pins s σ H Q I hw
 rw[evalPart_some]
 refine thn (h pins s σ H _ I hw) fun u s1 ⟨x,H1,I1,r1,q1⟩=>?_
 obtain⟨i,rfl,q⟩:=q1
 obtain⟨t,rfl⟩:=r1
 exact⟨some i,H1,I1,.int i t,q⟩
def SlR (X:Cx)(r:V->Option Int->Option Int->Hp->VK->Prop):Prop:=
 ∀ (pins:List (Addr × Obj)) (s:Shared) (σ:St) (H:Hp) (x:V) (v vl vu:Value) (lo hi:Option Int) (sl:Addr) (Q:VK),Inv X pins σ H s->RelV x v->s.heap.IsSliceOf sl vl vu .none->IsPart vl lo->IsPart vu hi->r x lo hi H Q ->
  ∃ T id,av7 (.type T) "__getitem__"=pure (some (.builtin id))/\s.TypeIs v T/\k9 (n6 X.prog X.w) X.A (getItem v (.ref sl)) (EP X pins σ Q) X.xe s
def tSl (r:V->Option Int->Option Int->Hp->VK->Prop)(te:TE)(tl th:TO):TE:=fun σ H Q=>te σ H fun x H1=>tl σ H1 fun l H2=>th σ H2 fun u H3=>r x l u H3 Q
theorem br6 {r:V->Option Int->Option Int->Hp->VK->Prop}(hr:SlR X r)(he:PE X e te)(hl:PO X lo tl)(hu:PO X hi th):PE X (.Subscript e (.Slice lo hi none p2) pos) (tSl r te tl th):=by
 intro pins s σ H Q I h
 refine Subscript_ (thn (he pins s σ H _ I h) fun v s1 ⟨x,H1,I1,r1,q1⟩=>?_)
 refine wpAny_Slice (thn (hl pins s1 σ H1 _ I1 q1) fun vl s2 ⟨l,H2,I2,pl,q2⟩=>thn (hu pins s2 σ H2 _ I2 q2) fun vu s3 ⟨u,H3,I3,pu,q3⟩=>?_)
 rw[evalPart_none]
 refine a8 ?_
 have I4:Inv X pins σ H3 { s3 with heap:=s3.heap.push { cls:=.type "slice",data:=.fields #[vl,vu,.none] } }:=I3.kept (t':=s3.toks) fun b ob q=>a6 _ q
 obtain⟨T,id,hT,ht,hg⟩:=hr pins { s3 with heap:=s3.heap.push { cls:=.type "slice",data:=.fields #[vl,vu,.none] } } σ H3 x v vl vu l u s3.heap.objs.size Q I4 r1 (Heap.IsSliceOf.new ..) pl pu q3
 show k9 (n6 X.prog X.w) X.A (subscriptTail e (.Slice lo hi none p2) v (.ref s3.heap.objs.size)) (EP X pins σ Q) X.xe { s3 with heap:=s3.heap.push { cls:=.type "slice",data:=.fields #[vl,vu,.none] } }
 exact tail_any (ops:=[.ref s3.heap.objs.size,v]) ht hT hg (by with_unfolding_all rfl)
def bl1 (xs:List V)(lo hi:Option Int):List V:=(xs.drop (HT.sIx xs.length 0 lo)).take (HT.sIx xs.length xs.length hi - HT.sIx xs.length 0 lo)
theorem aT3 (xs:List V)(lo hi:Option Int):(bl1 xs lo hi).length<=xs.length:=by
 unfold bl1
 rw[A4,M3]
 omega
end
def ixN (n:Nat)(i:Int):Option Nat:=if 0<=i then (if i<n then some i.toNat else none) else if -(n:Int)<=i then some (i+n).toNat else none
def atI {α:Type}(xs:List α)(i:Int):Option α:=(ixN xs.length i).bind fun j=>xs[j]?
theorem bf1 {i:Int}(h:ixN n i=some j):seqIndex? i n=some j/\j<n /\ -(n:Int)<=i/\i<n:=by
 unfold ixN at h
 by_cases h0:0<=i
 ·rw[if_pos h0]at h
  by_cases h1:i<n
  ·rw[if_pos h1]at h
   have e:i.toNat=j:=Option.some.inj h
   exact⟨by rw[bh0 h0 h1,e],by omega,by omega,h1⟩
  ·rw[if_neg h1]at h;cases h
 ·rw[if_neg h0]at h
  by_cases h1:-(n:Int)<=i
  ·rw[if_pos h1]at h
   have e:(i+n).toNat=j:=Option.some.inj h
   exact⟨by rw[aV0 (by omega) h1,e],by omega,h1,by omega⟩
  ·rw[if_neg h1]at h;cases h
theorem ax4 {α:Type}{xs:List α}{i:Int}{v:α}(h:atI xs i=some v):∃ j,seqIndex? i xs.length=some j/\xs[j]?=some v/\j<xs.length /\ -(xs.length:Int)<=i/\i<xs.length:=by
 unfold atI at h
 cases e:ixN xs.length i with
 | none=>rw[e]at h;cases h
 | some j =>
  rw[e]at h
  obtain⟨h1,h2,h3,h4⟩:=bf1 e
  exact⟨j,h1,h,h2,h3,h4⟩
theorem B5 {α:Type}{xs:List α}{v:α}(h:xs[j]?=some v):atI xs (j:Int)=some v:=by
 have hj:j<xs.length:=(a9.mp h).1
 have e:ixN xs.length (j:Int)=some j:=by
  unfold ixN
  rw[if_pos (by omega),if_pos (by omega)];simp
 unfold atI;rw[e];exact h
def ax5 (b:Expr):Prop:=∀ o i,subscripted b false o i=operate [o,i] (getItem o i)
def IxR (X:Cx)(r:R2):Prop:=
 ∀ (value slice:Expr) (pins:List (Addr × Obj)) (s:Shared) (σ:St) (H:Hp) (x y:V) (v u:Value) (Q:VK),Inv X pins σ H s->RelV x v->RelV y u->r x y H Q ->
  subscripted slice false v u=operate [v,u] (getItem v u)->k9 (n6 X.prog X.w) X.A (subscriptTail value slice v u) (EP X pins σ Q) X.xe s
def MtR (X:Cx)(id:String)(r:V->List V->Hp->VK->Prop):Prop:=
 ∀ (pins:List (Addr × Obj)) (s:Shared) (σ:St) (H:Hp) (x:V) (xs:List V) (v:Value) (us:List Value) (Q:VK),Inv X pins σ H s->RelV x v->B6 xs us->r x xs H Q ->
  k9 (n6 X.prog X.w) X.A (call (.builtin id) (v::us)) (EP X pins σ Q) X.xe s
section
variable {a b:Expr} {tb:TE}
theorem IxR.or {r r':R2}(h:IxR X r)(h':IxR X r'):IxR X (fun x y H Q=>r x y H Q\/r' x y H Q):=by
 intro value slice pins s σ H x y v u Q I rx ry q hs
 rcases q with q | q
 ·exact h value slice pins s σ H x y v u Q I rx ry q hs
 ·exact h' value slice pins s σ H x y v u Q I rx ry q hs
theorem A6 {r:R2}(hr:IxR X r)(ha:PE X a ta)(hb:PE X b tb)(hs:ax5 b):PE X (.Subscript a b pos) (tOp r ta tb):=by
 intro pins s σ H Q I h
 exact Subscript_ (bR2 ha hb I h fun v u s2 x y H2 I2 rx ry q=>hr a b pins s2 σ H2 x y v u Q I2 rx ry q (hs _ _))
def bM5 (K:W.Frag):R2:=fun x y H Q=>∃ p xs i v,x=.ref p/\y=.int i/\SqL K H p xs/\atI xs i=some v/\Q v H
def bM4 (K:W.Frag):R2:=fun x y H Q=>∃ p xs i v,x=.ref p/\y=.int i/\SqT K H p xs/\atI xs i=some v/\Q v H
def bX0:R2:=fun x y H Q=>∃ z i c,x=.str z/\y=.int i/\z.length<=i7/\atI z.cps.toList i=some c/\Q (.str ⟨#[c]⟩) H
theorem U5:IxR X (bM5 X.K):=by
 intro value slice pins s σ H x y v u Q I rx ry h hs
 obtain⟨p,xs,i,z,rfl,rfl,hq,he,q⟩:=h
 cases rx
 obtain⟨t,rfl⟩:=ry
 obtain⟨its,r,pl,hz⟩:=I.list hq
 obtain⟨j,h1,h2,h3,h4,h5⟩:=ax4 he
 obtain⟨w,ew,rw'⟩:=r.get h2
 have hl:=r.length
 have hn:=ar6
 have fin:EP X pins σ Q w s:=⟨z,H,I,rw',q⟩
 by_cases h0:0<=i
 ·have hj:i.toNat=j:=by
   rw[bh0 h0 h5]at h1
   exact Option.some.inj h1
  exact item_listR pl.isList h0 (by omega) (by rw[hj];simpa using ew) fin hs
 ·have hj:(i+(its.toArray.size:Int)).toNat=j:=by
   rw[aV0 (by omega) h4]at h1
   rw[k8,<- hl]
   exact Option.some.inj h1
  exact bF9 (x:=w) pl.isList.typeIs slot_list_getitem.lookup
   (bG0 (Q:=fun r s'=>r=w/\EP X pins σ Q r s') pl.isList (by omega) (by rw[k8]<;>omega) (by omega) (by rw[hj];simpa using ew) ⟨rfl,fin⟩) hs
theorem y7:IxR X (bM4 X.K):=by
 intro value slice pins s σ H x y v u Q I rx ry h hs
 obtain⟨p,xs,i,z,rfl,rfl,hq,he,q⟩:=h
 cases rx
 obtain⟨t,rfl⟩:=ry
 obtain⟨its,r,pl,hz⟩:=I.tuple hq
 obtain⟨j,h1,h2,h3,h4,h5⟩:=ax4 he
 obtain⟨w,ew,rw'⟩:=r.get h2
 have hl:=r.length
 have hn:=ar6
 have fin:EP X pins σ Q w s:=⟨z,H,I,rw',q⟩
 exact bF9 (x:=w) pl.typeIs slot_tuple_getitem.lookup
  (getItem_tuple (j:=j) (Q:=fun r s'=>r=w/\EP X pins σ Q r s') pl (by omega) (by omega) (by rw[k8,<- hl];exact h1) (by simpa using ew) ⟨rfl,fin⟩) hs
theorem bP7:IxR X bX0:=by
 intro value slice pins s σ H x y v u Q I rx ry h hs
 obtain⟨z,i,c,rfl,rfl,hz,he,q⟩:=h
 obtain⟨t,rfl⟩:=rx
 obtain⟨t',rfl⟩:=ry
 obtain⟨j,h1,h2,h3,h4,h5⟩:=ax4 he
 have hl:z.cps.toList.length=z.length:=by simp[Str.length]
 rw[hl]at h1 h4 h5
 have hn:=ar6
 exact tail_any (typeIs_str s z t) slot_str_getitem.lookup (getItem_str (c:=c) (by
  have e1:decide (i < -(2 ^ 63:Int))=false:=decide_eq_false (by omega)
  have e2:decide (i≥2 ^ 63)=false:=decide_eq_false (by omega)
  rw[e1,e2,ak3]) (by rw[h1];simpa using h2) ⟨.str ⟨#[c]⟩,H,I.tok _,⟨_,rfl⟩,q⟩) hs
def rIx (K:W.Frag):R2:=fun x y H Q=>bM5 K x y H Q\/bM4 K x y H Q\/bX0 x y H Q
theorem bt8:IxR X (rIx X.K):=U5.or (y7.or bP7)
theorem aY0 (its:List Value)(n j:Nat)(u:Value):Obj.mapSeq (·.setIfInBounds j u) { cls:=.type "list",data:=.seq its.toArray n }={ cls:=.type "list",data:=.seq (its.set j u).toArray n }:=by
 simp[Obj.mapSeq]
theorem Inv.lst {pins:List (Addr × Obj)}{σ:St}{H:Hp}{s:Shared}{p:Addr}{xs:List V}(I:Inv X pins σ H s)(h:H p=some (.lst xs)) :
  ∃ (its:List Value) (n:Nat),B6 xs its/\s.heap.get? p=some { cls:=.type "list",data:=.seq its.toArray n }/\xs.length<=i7:=by
 obtain⟨z,its,n,r,e⟩:=I.hok p _ h
 exact⟨its,n,r,e,z⟩
theorem Inv.lstUpd {p:Addr}{xs:List V}{its its':List Value}{n':Nat}{f:Obj->Obj}(I:Inv X pins σ H s)(h:H p=some (.lst xs))
  (ho:s.heap.get? p=some { cls:=.type "list",data:=.seq its.toArray n })(hf:f { cls:=.type "list",data:=.seq its.toArray n }={ cls:=.type "list",data:=.seq its'.toArray n' })(r:B6 ys its')(hz:ys.length<=i7)(t:Nat) :
  Inv X pins σ (upd H p (.lst ys)) { s with heap:=s.heap.update p f,toks:=t }:=by
 have e:(s.heap.update p f).get? p=some { cls:=.type "list",data:=.seq its'.toArray n' }:=by
  rw[x9 f ho (by rw[hf]<;>rfl),hf]
 refine I.write (x:=p) (e:=p) (by rw[h];trivial) (.inl rfl) (fun b u hb q=>(r9 _ _ (Ne.symm hb)).trans q) ⟨_,e⟩ ?_
 exact⟨hz,its',n',r,e⟩
def bW7:V->V->V->Hp->(Hp->Prop)->Prop:=fun o i v H Q=>∃ p xs k j,o=.ref p/\i=.int k/\H p=some (.lst xs)/\ixN xs.length k=some j/\Q (upd H p (.lst (xs.set j v)))
theorem set_list:bZ1 X bW7:=by
 intro pins s σ H o i v ov iv u Q I ro ri rv h
 obtain⟨p,xs,k,j,rfl,rfl,hp,hj,q⟩:=h
 cases ro
 obtain⟨t,rfl⟩:=ri
 obtain⟨its,n,r,ho,hz⟩:=I.lst hp
 obtain⟨h1,h2,h3,h4⟩:=bf1 hj
 have hl:=r.length
 have hn:=ar6
 have I':Inv X pins σ (upd H p (.lst (xs.set j v))) { s with heap:=s.heap.update p (Obj.mapSeq (·.setIfInBounds j u)) }:=
  I.lstUpd hp ho (aY0 its n j u) (r.set rv j) (by rw[aU4];exact hz) s.toks
 by_cases h0:0<=k
 ·have hk:k.toNat=j:=by
   rw[bh0 h0 h4]at h1
   exact Option.some.inj h1
  exact PySem.W.ki_setAt ho h0 (by omega) (by rw[k8,<- hl];exact h4) (by rw[hk];exact⟨_,I',q⟩)
 ·have hk:(k+(its.toArray.size:Int)).toNat=j:=by
   rw[aV0 (by omega) h3]at h1
   rw[k8,<- hl]
   exact Option.some.inj h1
  exact PySem.W.ki_setBack ho (by omega) (by rw[k8,<- hl];exact h3) (by omega) (by rw[hk];exact⟨_,I',q⟩)
theorem aI3 (lo hi:Option Int)(n:Nat):(ag0 lo hi none n).1=((HT.sIx n 0 lo:Nat):Int)/\(ag0 lo hi none n).2.1=((HT.sIx n n hi:Nat):Int)/\(ag0 lo hi none n).2.2=1:=by
 refine⟨?_,?_,rfl⟩
 ·cases lo with
  | none=>simp[ag0,HT.sIx]
  | some i =>
   simp only[ag0,HT.sIx,bI4,show (1:Int) > 0 by decide,if_true]
   by_cases h:i<0
   ·simp only[h,if_true]<;>omega
   ·simp only[h,if_false]<;>omega
 ·cases hi with
  | none=>simp[ag0,HT.sIx]
  | some i =>
   simp only[ag0,HT.sIx,bI4,show (1:Int) > 0 by decide,if_true]
   by_cases h:i<0
   ·simp only[h,if_true]<;>omega
   ·simp only[h,if_false]<;>omega
theorem aC7 (its:List Value)(lo hi:Option Int):slicePick its.toArray lo hi none=((its.drop (HT.sIx its.length 0 lo)).take (HT.sIx its.length its.length hi - HT.sIx its.length 0 lo)).toArray:=by
 obtain⟨h1,h2,h3⟩:=aI3 lo hi its.toArray.size
 unfold slicePick
 rw[h1,h2,h3]
 simp only[sliceRange_one,pick_run,k8]<;>rfl
def cb2 (K:W.Frag):V->Option Int->Option Int->Hp->VK->Prop:=fun x lo hi H Q=>∃ a xs,x=.ref a/\SqL K H a xs/\∀ p,H p=none->Q (.ref p) (upd H p (.lst (bl1 xs lo hi)))
theorem bz2:SlR X (cb2 X.K):=by
 intro pins s σ H x v vl vu lo hi sl Q I rx hs pl pu h
 obtain⟨a,xs,rfl,hx,q⟩:=h
 cases rx
 obtain⟨its,r,ht,hz⟩:=I.list hx
 have hlen:=r.length
 refine⟨"list",_,slot_list_getitem.lookup,ht.isList.typeIs,?_⟩
 refine wpAny_getItem_list_slice ht.isList hs pl pu .none (by simp) ?_ (by rw[k8]<;>omega)
 rw[aC7,<- hlen]
 refine⟨.ref s.heap.objs.size,_,I.laid (t':=s.toks) (o:=.lst (bl1 xs lo hi)) (fun b ob q=>a6 _ q) (c5 _) ?_,rfl,q _ (I.hok.fresh (c5 _))⟩
 exact⟨t9 (aT3 xs lo hi) hz,_,0,(r.drop (HT.sIx xs.length 0 lo)).take (HT.sIx xs.length xs.length hi - HT.sIx xs.length 0 lo),d5 _ rfl⟩
def ao7:V->Bool
 | .non=>true
 | .bl _=>true
 | .int _=>true
 | .str _=>true
 | _=>false
def eqV:V->V->Bool
 | .non,.non=>true
 | .bl a,.bl b=>a == b
 | .bl a,.int b=>(if a then 1 else 0) == b
 | .int a,.bl b=>a == (if b then 1 else 0)
 | .int a,.int b=>a == b
 | .str a,.str b=>a == b
 | _,_=>false
theorem bQ8 {y x:V}(ry:RelV y u)(rx:RelV x v)(fy:ao7 y=true)(fx:ao7 x=true):SeqAt.EqAt A s u v (eqV y x):=by
 cases y with
 | non =>
  cases ry
  cases x with
  | non=>cases rx;exact SeqAt.EqAt.same _
  | bl b=>cases rx;exact SeqAt.EqAt.none_bool b
  | int b=>obtain⟨t,rfl⟩:=rx;exact SeqAt.EqAt.none_int b t
  | str b=>obtain⟨t,rfl⟩:=rx;exact SeqAt.EqAt.none_str b t
  | _=>exact absurd (show false=true from fx) d4
 | bl a =>
  cases ry
  cases x with
  | non=>cases rx;exact SeqAt.EqAt.bool_none a
  | bl b=>cases rx;exact SeqAt.EqAt.bool_bool a b
  | int b=>obtain⟨t,rfl⟩:=rx;exact SeqAt.EqAt.bool_int a b t
  | str b=>obtain⟨t,rfl⟩:=rx;exact SeqAt.EqAt.bool_str a b t
  | _=>exact absurd (show false=true from fx) d4
 | int a =>
  obtain⟨t',rfl⟩:=ry
  cases x with
  | non=>cases rx;exact SeqAt.EqAt.int_none a t'
  | bl b=>cases rx;exact SeqAt.EqAt.int_bool a t' b
  | int b=>obtain⟨t,rfl⟩:=rx;exact SeqAt.EqAt.int_int a t' b t
  | str b=>obtain⟨t,rfl⟩:=rx;exact SeqAt.EqAt.int_str a t' b t
  | _=>exact absurd (show false=true from fx) d4
 | str a =>
  obtain⟨t',rfl⟩:=ry
  cases x with
  | non=>cases rx;exact SeqAt.EqAt.str_none a t'
  | bl b=>cases rx;exact SeqAt.EqAt.str_bool a t' b
  | int b=>obtain⟨t,rfl⟩:=rx;exact SeqAt.EqAt.str_int a t' b t
  | str b=>obtain⟨t,rfl⟩:=rx;exact SeqAt.EqAt.str_str a t' b t
  | _=>exact absurd (show false=true from fx) d4
 | _=>exact absurd (show false=true from fy) d4
def eqU (x:V)(u:Value):Bool:=match u with
 | .none=>eqV .non x
 | .bool b=>eqV (.bl b) x
 | .int i _=>eqV (.int i) x
 | .str z _=>eqV (.str z) x
 | _=>false
theorem bv3 {x y:V}(r:RelV y u)(f:ao7 y=true):eqU x u=eqV y x:=by
 cases y with
 | non=>cases r;rfl
 | bl b=>cases r;rfl
 | int i=>obtain⟨t,rfl⟩:=r;rfl
 | str z=>obtain⟨t,rfl⟩:=r;rfl
 | _=>exact absurd (show false=true from f) d4
theorem ap3 {x:V}:∀ {xs:List V} {us:List Value},B6 xs us->xs.all ao7=true->us.any (eqU x)=xs.any fun y=>eqV y x
 | _,_,.nil,_=>rfl
 | y::xs,u::us,.cons r t,f=>by
  rw[List.all_cons,v7]at f
  rw[S3,S3,bv3 r f.1,ap3 t f.2]
theorem ah7 {x:V}(rx:RelV x v)(fx:ao7 x=true):∀ {xs:List V} {us:List Value},B6 xs us->xs.all ao7=true->∀ u∈us,SeqAt.EqAt A s u v (eqU x u)
 | _,_,.nil,_=>fun u hu=>by cases hu
 | y::xs,u::us,.cons r t,f=>fun u' hu=>by
  rw[List.all_cons,v7]at f
  rcases c8.mp hu with rfl | hu
  ·rw[bv3 r f.1];exact bQ8 r rx f.1 fx
  ·exact ah7 rx fx t f.2 u' hu
def inV (x:V)(xs:List V):Bool:=xs.any fun y=>eqV y x
def rIn (K:W.Frag)(neg:Bool):R2:=fun x y H Q=>∃ p xs,y=.ref p/\(SqL K H p xs\/SqT K H p xs)/\ao7 x=true/\xs.all ao7=true/\Q (.bl (if neg then !inV x xs else inV x xs)) H
theorem bi8:OpR X (D6 .In) (rIn X.K false):=by
 intro pins s σ H x y v u Q I rx ry h
 obtain⟨p,xs,rfl,hq,fx,fs,q⟩:=h
 cases ry
 rcases hq with hq | hq
 ·obtain⟨its,r,pl,hz⟩:=I.list hq
  refine SeqAt.in_listAt (eqU x) pl.isList (fun w hw=>ah7 rx fx r fs w (by simpa using hw)) ⟨.bl _,H,I,rfl,?_⟩
  rw[show its.toArray.any (eqU x)=its.any (eqU x) by simp,ap3 r fs]
  exact q
 ·obtain⟨its,r,pl,hz⟩:=I.tuple hq
  refine SeqAt.in_tupleAt (eqU x) pl (fun w hw=>ah7 rx fx r fs w (by simpa using hw)) ⟨.bl _,H,I,rfl,?_⟩
  rw[show its.toArray.any (eqU x)=its.any (eqU x) by simp,ap3 r fs]
  exact q
theorem aJ3:OpR X (D6 .NotIn) (rIn X.K true):=by
 intro pins s σ H x y v u Q I rx ry h
 obtain⟨p,xs,rfl,hq,fx,fs,q⟩:=h
 cases ry
 rcases hq with hq | hq
 ·obtain⟨its,r,pl,hz⟩:=I.list hq
  refine SeqAt.notIn_listAt (eqU x) pl.isList (fun w hw=>ah7 rx fx r fs w (by simpa using hw)) ⟨.bl _,H,I,rfl,?_⟩
  rw[show its.toArray.any (eqU x)=its.any (eqU x) by simp,ap3 r fs]
  exact q
 ·obtain⟨its,r,pl,hz⟩:=I.tuple hq
  refine SeqAt.notIn_tupleAt (eqU x) pl (fun w hw=>ah7 rx fx r fs w (by simpa using hw)) ⟨.bl _,H,I,rfl,?_⟩
  rw[show its.toArray.any (eqU x)=its.any (eqU x) by simp,ap3 r fs]
  exact q
theorem L3:O1 X (.builtin "len") (fun xs H Q=>∃ p ys,xs=[.ref p]/\(SqL X.K H p ys\/SqT X.K H p ys)/\Q (.int ys.length) H):=by
 intro pins s σ H xs us Q I r h
 obtain⟨p,ys,rfl,hq,q⟩:=h
 obtain⟨u,rfl,rx⟩:=vals1 r
 cases rx
 have hn:=ar6
 rcases hq with hq | hq
 ·obtain⟨its,r',pl,hz⟩:=I.list hq
  have hlen:=r'.length
  exact Calls.call_len_list pl.isList (by simp only[k8]<;>omega) ⟨.int ys.length,H,I.tok _,⟨s.toks+1,by rw[k8,hlen]⟩,q⟩
 ·obtain⟨its,r',pl,hz⟩:=I.tuple hq
  have hlen:=r'.length
  exact len_tuple pl (by simp only[k8]<;>omega) ⟨.int ys.length,H,I.tok _,⟨s.toks+1,by rw[k8,hlen]⟩,q⟩
theorem aL7:O1 X (.type "list") (fun xs H Q=>∃ p ys,xs=[.ref p]/\(SqL X.K H p ys\/SqT X.K H p ys)/\∀ l,H l=none->Q (.ref l) (upd H l (.lst ys))):=by
 intro pins s σ H xs us Q I r h
 obtain⟨p,ys,rfl,hq,q⟩:=h
 obtain⟨u,rfl,rx⟩:=vals1 r
 cases rx
 have fin:∀ (its:List Value),B6 ys its->ys.length<=i7->∀ (h':Heap) (c':Nat),(∀ b o',s.heap.get? b=some o'->h'.get? b=some o') ->
   h'.get? s.heap.objs.size=some { cls:=.type "list",dict:=none,data:=.seq its.toArray c',slots:=#[] }->EP X pins σ Q (.ref s.heap.objs.size) { s with heap:=h' }:=fun its r' hz h' c' kp e =>
  ⟨.ref s.heap.objs.size,_,I.laid (t':=s.toks) kp (c5 _) (show D5 X.prog X.w _ h' _ (.lst ys) from ⟨hz,its,c',r',e⟩),rfl,q _ (I.hok.fresh (c5 _))⟩
 rcases hq with hq | hq
 ·obtain⟨its,r',pl,hz⟩:=I.list hq
  have hlen:=r'.length
  obtain⟨o,ho,hc,n,hd⟩:=pl.isList
  exact call_list_seq p (.inl rfl) ho hc hd (fun h' c' kp e=>fin its r' hz h' c' kp e) (by simp only[k8]<;>omega)
 ·obtain⟨its,r',pl,hz⟩:=I.tuple hq
  have hlen:=r'.length
  obtain⟨o,ho,hc,n,hd⟩:=pl
  exact call_list_seq p (.inr rfl) ho hc hd (fun h' c' kp e=>fin its r' hz h' c' kp e) (by simp only[k8]<;>omega)
theorem X4:O1 X (.type "tuple") (fun xs H Q=>∃ p ys,xs=[.ref p]/\((SqL X.K H p ys/\∀ l,H l=none->Q (.ref l) (upd H l (.tup ys)))\/(SqT X.K H p ys/\Q (.ref p) H))):=by
 intro pins s σ H xs us Q I r h
 obtain⟨p,ys,rfl,h⟩:=h
 obtain⟨u,rfl,rx⟩:=vals1 r
 cases rx
 rcases h with⟨hq,q⟩ | ⟨hq,q⟩
 ·obtain⟨its,r',pl,hz⟩:=I.list hq
  have hlen:=r'.length
  refine call_tuple_list pl.isList (fun h' kp=>?_) (by simp only[k8]<;>omega)
  have I1:Inv X pins σ H { s with heap:=h' }:=I.kept (t':=s.toks) kp
  have I2:Inv X pins σ (upd H h'.objs.size (.tup ys)) { s with heap:=h'.push { cls:=.type "tuple",data:=.seq its.toArray } } :=
   I1.laid (t':=s.toks) (fun b o e=>a6 _ e) (c5 _) (show D5 X.prog X.w _ _ _ (.tup ys) from ⟨hz,its,r',IsTup.new _ _⟩)
  exact⟨.ref h'.objs.size,_,I2,rfl,q _ (I1.hok.fresh (c5 _))⟩
 ·obtain⟨its,r',pl,hz⟩:=I.tuple hq
  exact call_tuple_same pl ⟨.ref p,H,I,rfl,q⟩
def tyV (K:W.Frag)(T:String)(x:V)(H:Hp):Prop:=match x with
 | .str _=>T="str"
 | .int _=>T="int"
 | .ref p=>(T="list"/\∃ xs,SqL K H p xs)\/(T="tuple"/\∃ o,K.lookup p=some o/\o.cls=.type "tuple"/\o.dict=none) \/
   (T="dict"/\((∃ kvs,H p=some (.dK kvs))\/∃ kvs,H p=some (.dT kvs)))\/(T="set"/\∃ S n,H p=some (.set S n))
 | _=>False
theorem bK6 {T:String}{x:V}(I:Inv X pins σ H s)(r:RelV x v)(ty:tyV X.K T x H) :
  s.TypeIs v T/\∀ a,v=.ref a->∃ ob,s.heap.get? a=some ob/\ob.dict=none:=by
 cases x with
 | str z =>
  obtain⟨t,rfl⟩:=r
  cases (show T="str" from ty)
  exact⟨typeIs_str s z t,fun _ e=>nomatch e⟩
 | int i =>
  obtain⟨t,rfl⟩:=r
  cases (show T="int" from ty)
  exact⟨typeIs_int s i t,fun _ e=>nomatch e⟩
 | ref p =>
  cases r
  rcases ty with⟨rfl,xs,hq⟩ | ⟨rfl,o,hk,hc,hd⟩ | ⟨rfl,hk⟩ | ⟨rfl,S,n,hk⟩
  ·obtain⟨its,_,pl,_⟩:=I.list hq
   refine⟨pl.isList.typeIs,fun a e=>?_⟩
   cases e
   obtain⟨o,n,e,c,hd,_⟩:=pl
   exact⟨o,e,hd⟩
  ·refine⟨⟨o,I.kIn p o hk,hc⟩,fun a e=>?_⟩
   cases e
   exact⟨o,I.kIn _ o hk,hd⟩
  ·have z:∃ o,s.heap.get? p=some o/\o.ExactDict:=by
    rcases hk with⟨kvs,hk⟩ | ⟨kvs,hk⟩
    ·obtain⟨_,_,_,_,o,_,_,e,ex,_⟩:=I.hok p _ hk
     exact⟨o,e,ex⟩
    ·obtain⟨_,_,_,_,o,_,_,e,ex,_⟩:=I.hok p _ hk
     exact⟨o,e,ex⟩
   obtain⟨o,e,ex⟩:=z
   refine⟨⟨o,e,ex.1⟩,fun a e2=>?_⟩
   cases e2
   exact⟨o,e,ex.2.1⟩
  ·obtain⟨o,_,_,_,e,ex,_⟩:=I.hok p _ hk
   refine⟨⟨o,e,ex.1⟩,fun a e2=>?_⟩
   cases e2
   exact⟨o,e,ex.2.1⟩
 | _=>exact False.elim ty
def tBM (K:W.Frag)(T:String)(r:V->List V->Hp->VK->Prop)(to:TE)(t:TA):TE:=fun σ H Q=>to σ H fun x H1=>tyV K T x H1/\t σ H1 fun xs H2=>r x xs H2 Q
variable {o:Expr} {es:List Expr} {to:TE} {t:TA} {name:Str} {cpos:Pos} {T id:String}
theorem az7 (pa:PlainAttrs T) (slot:Slot T name id) (hty:typeOf (.builtin id)=pure (.type "method_descriptor")) (hm:MtR X id r) (ho:PE X o to) (ha:PA X (e::es) t)
  (hbase:aH2 o name X.env (eval o X.env)=eval o X.env:=by rfl)
  (hfew : ((V7 cpos (x8 (e :: es) X.env)).all (fun x => !x.1) && (ba8 cpos (an5 [] X.env)).all (fun x => x.1.isSome)
   && decide ((e::es).length+([]:List an4).length+(if ([]:List an4).isEmpty then 0 else 1)<30))=true:=by rfl)
  (hline:(apos.endLine == cpos.line)=true:=by rfl) (hs:x8 (e::es) X.env=(false,eval e X.env)::x8 es X.env:=by rfl) (hplain:(V7 cpos (x8 es X.env)).any (·.1)=false:=by rfl) :
  PE X (.Call (.Attribute o name apos) (e::es) [] cpos) (tBM X.K T r to t):=by
 intro pins s σ H Q I h
 refine bG1 hbase hfew hline rfl (thn (ho pins s σ H _ I h) fun v s1 ⟨x,H1,I1,r1,ty,q1⟩=>?_)
 obtain⟨h1,h2⟩:=bK6 I1 r1 ty
 refine⟨T,id,pa,slot,hty,h1,h2,?_⟩
 have hA:=ha cpos pins s1 σ H1 _ I1 q1
 rw[hs]at hA ⊢
 refine Calls.callWith_builtin (by show (false || (V7 cpos (x8 es X.env)).any (·.1))=false;rw[hplain]<;>rfl) (Calls.evalArgs_plain ?_)
 exact thn hA fun us s2 ⟨vs,H2,I2,r2,q2⟩=>hm pins s2 σ H2 x vs v us Q I2 r1 r2 q2
/- xs.append(e),list.index on a module's tuple .. are MtR facts of 06m -/
end
def MtM (X:Cx)(id:String)(r:V->List V->Hp->VK->Prop):Prop:=
 ∀ (pins:List (Addr × Obj)) (s:Shared) (σ:St) (H:Hp) (x:V) (xs:List V) (v:Value) (us:List Value) (Q:VK),Inv X pins σ H s->RelV x v->B6 xs us->r x xs H Q ->
  k9 (n6 X.prog X.w) X.A (call (.builtin id) (v::us)) (EP X pins σ Q) X.xe s
theorem B6.one:∀ {x:V} {us:List Value},B6 [x] us->∃ u,us=[u]/\RelV x u
 | _,_,.cons r .nil=>⟨_,rfl,r⟩
theorem B6.two:∀ {x y:V} {us:List Value},B6 [x,y] us->∃ u v,us=[u,v]/\RelV x u/\RelV y v
 | _,_,_,.cons r (.cons q .nil)=>⟨_,_,rfl,r,q⟩
theorem B6.reverse {xs:List V}(h:B6 xs us):B6 xs.reverse us.reverse:=by
 induction h with
 | nil=>exact .nil
 | cons r t ih=>rw[ai4,ai4];exact B6.append ih (.cons r .nil)
theorem B6.rep {xs:List V}(h:B6 xs us):∀ k:Nat,B6 (B0 k xs).flatten (B0 k us).flatten
 | 0=>.nil
 | k+1=>by
  rw[G6,G6,O4,O4]
  exact B6.append h (B6.rep h k)
theorem foldl_rep (its:List Value):∀ (k:Nat) (acc:List Value),
  ac5 (fun x1 x2=>x1++x2) acc.toArray (B0 k its.toArray)=(acc++(B0 k its).flatten).toArray
 | 0,acc=>by simp
 | k+1,acc=>by
  have e:acc.toArray++its.toArray=(acc++its).toArray:=by simp
  have e2:(acc++its)++(B0 k its).flatten=acc++(B0 (k+1) its).flatten:=by
   rw[G6,O4,r0]
  rw[<- e2,<- foldl_rep its k (acc++its),<- e,G6,X7]
section
variable {b:Addr} {xs zs:List V}
theorem Inv.lset {its its':List Value}{f:Array Value->Array Value}(I:Inv X pins σ H s)(hH:H l=some (.lst xs))
  (e:s.heap.get? l=some { cls:=.type "list",data:=.seq its.toArray n })(hf:f its.toArray=its'.toArray)(hv:B6 ys its')(hz:ys.length<=i7) :
  Inv X pins σ (upd H l (.lst ys)) { s with heap:=s.heap.update l (Obj.mapSeq f),toks:=t' }:=by
 have q:=PySem.IsL.update e f
 rw[hf]at q
 refine I.write (x:=l) (e:=l) (by rw[hH];exact trivial) (.inl rfl) (fun b' u hb hu=>(r9 s.heap (Obj.mapSeq f) (Ne.symm hb)).trans hu) ⟨_,q⟩ ?_
 exact⟨hz,its',_,hv,q⟩
theorem Inv.lnew {its:List Value}(I:Inv X pins σ H s)(hv:B6 ys its)(hz:ys.length<=i7) :
  Inv X pins σ (upd H s.heap.objs.size (.lst ys)) { s with heap:=s.heap.push { cls:=.type "list",data:=.seq its.toArray },toks:=t' } :=
 I.laid (fun _ _ q=>a6 _ q) (c5 _) ⟨hz,its,0,hv,d5 _ rfl⟩
theorem Inv.fresh (I:Inv X pins σ H s):H s.heap.objs.size=none:=I.hok.fresh (c5 _)
theorem Inv.lstM (I:Inv X pins σ H s)(hH:H l=some (.lst xs)):xs.length<=i7/\∃ (its:List Value) (n:Nat),B6 xs its/\xs.length=its.length/\s.heap.get? l=some { cls:=.type "list",data:=.seq its.toArray n }:=by
 obtain⟨z,its,n,r,e⟩:=I.hok l _ hH
 exact⟨z,its,n,r,r.length,e⟩
theorem bs7 (h:n<=i7):Builtin.List.listTooLong n=false:=by
 unfold Builtin.List.listTooLong
 exact decide_eq_false (by omega)
end
def bA5:V->List V->Hp->VK->Prop:=fun x vs H Q=>∃ l xs y,x=.ref l/\vs=[y]/\H l=some (.lst xs)/\xs.length<i7/\Q .non (upd H l (.lst (xs++[y])))
theorem O9:MtM X "list.append" bA5:=by
 intro pins s σ H x vs v us Q I rx rv h
 obtain⟨l,xs,y,rfl,rfl,hH,hz,q⟩:=h
 cases rx
 obtain⟨u,rfl,ru⟩:=rv.one
 obtain⟨z,its,n,r,hl,e⟩:=I.lstM hH
 refine bw9 F.slot_list_append ⟨_,e,rfl⟩ F.entry_list_append (F.args_list_append_2 _ _) (PySem.list_append l its.toArray n u (by rw[k8];omega)) ⟨e,?_⟩
 refine⟨.non,_,I.lset (its':=its++[u]) hH e (by simp) (r.append (.cons ru .nil)) ?_,rfl,q⟩
 rw[j9,aa3]
 omega
def cb4:R2:=fun x y H Q=>∃ l b xs zs,x=.ref l/\y=.ref b/\H l=some (.lst xs)/\H b=some (.lst zs)/\xs.length+zs.length<=i7/\∀ p,H p=none->Q (.ref p) (upd H p (.lst (xs++zs)))
theorem aJ5:OpR X (ab3 .Add) cb4:=by
 intro pins s σ H x y v u Q I rx ry h
 obtain⟨l,b,xs,zs,rfl,rfl,hH,hB,hz,q⟩:=h
 cases rx
 cases ry
 obtain⟨z,its,n,r,hl,e⟩:=I.lstM hH
 obtain⟨z2,its2,n2,r2,hl2,e2⟩:=I.lstM hB
 refine PySem.P.add_list e e2 ?_ (by rw[k8,k8];omega)
 have ea:its.toArray++its2.toArray=(its++its2).toArray:=by simp
 rw[ea]
 exact⟨.ref _,_,I.lnew (t':=s.toks) (r.append r2) (by rw[j9];omega),rfl,q _ I.fresh⟩
def cb3:R2:=fun x y H Q=>∃ l k xs,x=.ref l/\y=.int k/\H l=some (.lst xs) /\ -(2 ^ 63)<=k/\k<2 ^ 63/\xs.length*k.toNat<=i7 /\
 ∀ p,H p=none->Q (.ref p) (upd H p (.lst (B0 k.toNat xs).flatten))
theorem len_rep {α:Type}(xs:List α)(k:Nat):(B0 k xs).flatten.length=k*xs.length:=by
 induction k with
 | zero=>simp
 | succ k ih=>rw[G6,O4,j9,ih,Nat.succ_mul,Nat.add_comm]
theorem bN4:OpR X (ab3 .Mult) cb3:=by
 intro pins s σ H x y v u Q I rx ry h
 obtain⟨l,k,xs,rfl,rfl,hH,h1,h2,hz,q⟩:=h
 cases rx
 obtain⟨t,rfl⟩:=ry
 obtain⟨z,its,n,r,hl,e⟩:=I.lstM hH
 have hlen:its.toArray.size*k.toNat<=i7:=by rw[k8,<- hl];exact hz
 have hcap:¬ its.toArray.size*k.toNat > (2 ^ 63 - 1) / 8:=by
  have:(i7:Nat)<=(2 ^ 63 - 1) / 8:=by decide
  omega
 have hfit:¬ (!Builtin.List.listFitsIndex k)=true:=by
  rw[fitsIndex_both h1 h2]
  exact d4
 have hlong:¬ Builtin.List.listTooLong (its.toArray.size*k.toNat)=true:=by
  rw[bs7 hlen]
  exact d4
 have hnew:ac5 (fun x1 x2=>x1++x2) #[] (B0 (if its.toArray.isEmpty=true then 0 else k.toNat) its.toArray)=(B0 k.toNat its).flatten.toArray:=by
  have f0:∀ m:Nat,ac5 (fun x1 x2=>x1++x2) #[] (B0 m its.toArray)=(B0 m its).flatten.toArray:=fun m=>by
   have:=foldl_rep its m []
   rw[L5]at this
   exact this
  rw[f0]
  cases its with
  | nil=>simp
  | cons a r'=>rw[if_neg (by simp)]
 refine wpAny_binaryOp_repeat_ref (T:="list") (U:="int") (by decide) ⟨_,e,rfl⟩ (fun s'=>typeIs_int s' k t) noFill_list_mul F.fills_int_mul F.slot_int_rmul repeat_list F.slot_int_index.lookup
  (bw9 F.slot_int_rmul (typeIs_int s k t) F.entry_int_rmul (F.args_int_rmul_2 _ _) (int___rmul___int_list k t l its.toArray n)
   ⟨e,rfl,⟨_,e,rfl⟩,bw9 F.slot_list_mul ⟨_,e,rfl⟩ F.entry_list_mul (F.args_list_mul_2 _ _) (AutoListH.list___mul___list_int_3 l its.toArray n k t hfit hcap hlong) ⟨e,?_⟩⟩)
 rw[hnew]
 exact⟨.ref _,_,I.lnew (t':=s.toks) (r.rep k.toNat) (by rw[len_rep,Nat.mul_comm];exact hz),rfl,q _ I.fresh⟩
end L2
namespace Att
open PySem PySem.W PySem.Calls PyProof.Rows
theorem au5 {P:Params}:∀ (ns:List Int) (vs:List Value),WellAll P h vs (ns.map WData.int)->IntsAre vs ns:=by
 intro ns
 induction ns with
 | nil =>
  intro vs w
  rw[aG9]at w
  cases w
  exact .nil
 | cons n ns ih =>
  intro vs w
  rw[j3]at w
  cases w with
  | cons a b =>
   cases a
   exact .cons _ _ (ih _ b)
theorem bh9 {l:OpenLaw}(hn:l.most=some n){P:Params}{args:List WData}{vals:List Value}
  (hpre:l.row.toRowW.claim.pre args=true)(hwl:WellAll P h vals args) :
  ∃ a vs ns,vals=[Value.ref a]/\args=[WData.list (ns.map WData.int)]/\h.get? a=some { cls:=.type "list",data:=.seq vs.toArray }/\IntsAre vs ns/\ns.length<=n:=by
 have hsh:WShape.hasAll [] args [.list .int]=true:=(pre_splitW hpre).1
 have hc:l.pre.holds [] { args:=args }=true:=(pre_splitW hpre).2
 obtain⟨d,r,rfl,h1,h2⟩:=hasAllW_cons hsh
 obtain rfl:=hasAllW_nil h2
 obtain⟨xs,rfl,h3⟩:=hasW_list h1
 obtain⟨ns,rfl⟩:=items_int h3
 have hlen:ns.length<=n:=by
  unfold OpenLaw.pre at hc
  have h4:(WTm.not (.lt (.lit (.int (n:Int))) (.len (.arg 0)))).holds [] { args:=[.list (ns.map .int)] }=true:=by
   have h4:=(holds_andW hc).1
   rw[hn]at h4
   exact h4
  have h5:=condW_of h4 (w_not (w_lt w_lit (w_len_list (w_arg rfl))))
  rw[b8]at h5
  refine Nat.le_of_not_lt fun q=>?_
  have q':(n:Int)<((ns.length:Nat):Int):=by omega
  first
   | (rw[decide_eq_true q']at h5;exact absurd h5 (by decide))
   | (simp at h5;omega)
 cases hwl with
 | cons w1 w2 =>
  cases w2
  cases w1 with
  | list ho hall=>exact⟨_,_,ns,rfl,rfl,ho,au5 ns _ hall,hlen⟩
theorem bi5 (l:OpenLaw)(args:List WData):l.row.toRowW.claim.post args (.bool true) args=true:=
 postW_of (r:=l.row.toRowW) (X:=(true == true))
  (show WShape.has [] (.bool true) .bool=true by first | rfl | decide | simp[WShape.has,WShape.arms,WShape.armsAll])
  (show (WTm.eq .res (.lit (.bool true))).value [] { args:=args,res:=some (.bool true),after:=args }=some (.bool (true == true)) from w_eq_bool (w_res rfl) w_lit) rfl
theorem attach_call {l:OpenLaw} {q:Program} {loose:List Str} {d:DefRec}
  (hn:l.most=some n) (hdf:d.params.defaults=[])
  (call : ∀ (w : World) (s₀ s₁ : Shared) (mg mb : Str -> Option Value) (fa : Addr) (o : Obj) (pm cd doc : Value) (a : Addr) (vs : List Value) (ns : List Int),
   Ground q loose [] XP w s₀ mg mb s₁.heap->YP w s₁.heap ->
   s₁.heap.get? fa=some o->o.data=.func (docDef d.name d.params d.body d.scope pm cd doc)->s₁.heap.CodeRec cd d.name->mg d.name=some (.ref fa) ->
   s₁.heap.get? a=some { cls:=.type "list",data:=.seq vs.toArray }->IntsAre vs ns->ns.length<=n->s₁.gens=#[] ->
   V2 (n6 l.prog w) bh1 (.call (.ref fa) ⟨[.ref a],[]⟩) (fun r s'=>r=.ok (.ret (.bool true))/\OldK s₁.heap s'.heap/\s'.os=s₁.os/\at6 s'.gens) s₁) :
  WalkO q loose XP YP l.row.toRowW d [] (fun f vs=>PySem.call f vs):=by
 intro w s₀ s₁ mg mb G Y fa o pm cd doc dV kV ho hd hcd hD hmg hg args vals as hpre hlay hrd hwl hlo
 obtain rfl:dV=.none:=Dflts.none hD hdf
 obtain rfl:kV=.none:=Dflts.noKw hD
 obtain⟨a,vs,ns,rfl,rfl,hobj,hints,hlen⟩:=bh9 hn hpre hwl
 refine enter_call (Q6 (call w s₀ s₁ mg mb fa o pm cd doc a vs ns G Y ho (fd_plain hd) hcd hmg hobj hints hlen hg) fun r s' hq=>?_)
 obtain⟨rfl,h2,h3,h4⟩:=hq
 exact⟨.inl ⟨.bool true,.bool true,[],rfl,fun _=>rfl,.bool true,bi5 l _,fun _=>⟨List.Pairwise.nil,fun _ hm=>(nomatch hm)⟩⟩,h2,h3,h4⟩
section
variable {K:Frag}
end
end Att
namespace L2
open PySem PySem.Spec PyProof.Rows
theorem aq4:∀ {vs:List Value} {ns:List Int},IntsAre vs ns->B6 (ns.map V.int) vs
 | _,_,.nil=>.nil
 | _,_,.cons n t h=>.cons ⟨t,rfl⟩ (aq4 h)
end L2
namespace L2
open PySem PySem.Spec PyProof.Rows
def aj8 (s:Stmt):Arguments:=match s with
 | .FunctionDef _ a _ _ _ _ _ _ _ _=>a
 | _=>{ posonlyargs:=[],args:=[],vararg:=none,kwonlyargs:=[],kw_defaults:=[],kwarg:=none,defaults:=[] }
def X3 (s:Stmt):List Stmt:=match s with
 | .FunctionDef _ _ b _ _ _ _ _ _ _=>b
 | _=>[]
def p5 (s:Stmt):Scope:=match s with
 | .FunctionDef _ _ _ _ _ _ sc _ _ _=>sc
 | _=>{ kind:=.function,names:=[],isGenerator:=false,isCoroutine:=false }
abbrev CX0:CXT:=fun _ _ _ _ _ _=>False
abbrev E0:XK:=fun _ _ _=>False
theorem A8:am9 CX0 X E0:=fun _ _ _ _ _ _ _ h=>h.elim
structure Fun (K:W.Frag) (x qual:Str) (st:Stmt) (f:Addr) (fd:FuncData):Prop where
 ex:∃ (oc:Value) (od:Option Addr) (kV doc pm:Value) (an:Option Addr) (cdv ct:Value) (osl:Array (Option Value)),
  fd=V0 x qual (aj8 st) (X3 st) (p5 st) .none kV doc pm an cdv ct/\K.lookup f=some ⟨oc,od,.func fd,osl⟩/\aM9 K cdv qual=true
 kp:S8 K (.ref f)=true
section
variable {K:W.Frag} {mg:Str->Option Value} {base:Heap}
theorem Fun.ok {st:Stmt} {ps:List Str} {k:Nat} {sp:Sp} (F:Fun K x qual st f fd) (S:A1 N ps (p5 st))
  (hbody : ∀ (cdv : Value) (A : Around) (outer : List Env) (s : Shared) (H : Hp) (vs : List V) (Q : VK) (E : XK), Y4 k (A.deeper (M8 qual (p5 st) s.heap.objs.size f cdv)) -> sp vs H Q E ->
   ∃ t,PSs (ap1 CX0 P w K mg base N qual (p5 st) f cdv A outer s H E).nox (X3 st) t/\t { nx:=fun _ H'=>Q .non H',rt:=Q } (start N vs) H) (len:∀ vs H Q E,sp vs H Q E->vs.length=ps.length:=by intro _ _ _ _ h;repeat first | (obtain⟨rfl,_⟩:=h;rfl) | obtain⟨_,h⟩:=h):A2 P w K mg base CX0 (k+1) f fd ps sp:=by
 obtain⟨oc,od,kV,doc,pm,an,cdv,ct,osl,rfl,lk,hcd⟩:=F.ex
 refine bu9 lk hcd S len fun A outer s H vs Q E hr hsp=>?_
 obtain⟨t,h,q⟩:=hbody cdv A outer s H vs Q E hr hsp
 exact⟨t,h.nox,q⟩
theorem Fun.binds {st:Stmt}{ps:List Str}(F:Fun K x qual st f fd)
  (h:∀ (kV doc pm:Value) (an:Option Addr) (cdv ct:Value) (us:List Value),us.length=ps.length->ba7 (V0 x qual (aj8 st) (X3 st) (p5 st) .none kV doc pm an cdv ct) ⟨us,[]⟩=pure (ps.zip us)):Binds K fd ps []:=by
 obtain⟨oc,od,kV,doc,pm,an,cdv,ct,osl,rfl,lk,hcd⟩:=F.ex
 exact .all (h kV doc pm an cdv ct)
theorem fun_mk {st:Stmt}{oc:Value}{od an:Option Addr}{osl:Array (Option Value)}{kV doc pm cdv ct:Value}(l:K.lookup f=some ⟨oc,od,.func (V0 x qual (aj8 st) (X3 st) (p5 st) .none kV doc pm an cdv ct),osl⟩)
  (c:aM9 K cdv qual=true)(k:S8 K (.ref f)=true):Fun K x qual st f (V0 x qual (aj8 st) (X3 st) (p5 st) .none kV doc pm an cdv ct):=⟨⟨oc,od,kV,doc,pm,an,cdv,ct,osl,rfl,l,c⟩,k⟩
structure Fq (K:W.Frag) (mg:Str->Option Value) (x:Str) (st:Stmt) (f:Addr) (fd:FuncData) (ps:List Str):Prop where
 F:Fun K x x st f fd
 b:Binds K fd ps []
 m:mg x=some (.ref f)
theorem A7 {CX:CXT}{k:Nat}{ps:List Str}{sp:Sp}{es:List Expr}{t:TA}{E:XK}{p:Pos}{st:Stmt}(F:A2 X.prog X.w X.K X.mg X.base CX k f fd ps sp)(hr:Y4 k X.A)(hg:Gl X x)(q:Fq X.K X.mg x st f fd ps)(hx:am9 CX X E)
  (ha:PA X (e::es) t)(hdb:(x == ("__debug__":Str))=false:=by decide)(he:x8 (e::es) X.env=(false,eval e X.env)::x8 es X.env:=by rfl)(hpl:(V7 pos (x8 es X.env)).any (·.1)=false:=by rfl) :
  PE X (.Call (.Name x p) (e::es) [] pos) (bn6 sp [] E t):=aJ2 F hr hg q.m q.F.kp q.b .nil hx ha hdb he hpl
end
theorem pv (i:Nat)(hN:X.N[i]?=some x:=by rfl)(hv:Vis X.env.scope x:=by first | exact Or.inl rfl | exact Or.inr (Or.inl rfl) | exact Or.inr (Or.inr rfl))(hd:(x == ("__debug__":Str))=false:=by decide)
  (hcd:(x == ("__classdict__":Str))=false:=by decide):PE X (.Name x pos) (bU3 i):=br4 hN hv hd hcd
theorem G5 {A B:Prop}(h:B):if false=true then A else B:=by
 rw[if_neg d4]
 exact h
theorem R5 {A B:Prop}(h:A):if true=true then A else B:=by
 rw[if_pos rfl]
 exact h
theorem aY6 {c A B:Prop}[Decidable c](h1:c->A)(h2:¬ c->B):if c then A else B:=by
 by_cases h:c
 ·rw[if_pos h]
  exact h1 h
 ·rw[if_neg h]
  exact h2 h
theorem bX8 {c A B:Prop}[Decidable c](hc:c)(h:B):if (!decide c)=true then A else B:=by
 rw[decide_eq_true hc]
 exact G5 h
def A0 (H H':Hp):Prop:=∀ b o,H b=some o->H' b=some o
theorem A0.refl (H:Hp):A0 H H:=fun _ _ h=>h
theorem A0.trans {H1 H2:Hp}(a:A0 H H1)(b:A0 H1 H2):A0 H H2:=fun c o h=>b c o (a c o h)
theorem A0.free (e:A0 H H')(h:H' l=Option.none):H l=Option.none:=by
 cases q:H l with
 | none=>rfl
 | some o =>
  rw[e l o q]at h
  cases h
theorem A0.seq {K:W.Frag}{xs:List V}(e:A0 H H')(h:SqL K H a xs):SqL K H' a xs:=by
 rcases h with(h | ⟨o,h⟩) | h
 ·exact .inl (.inl (e _ _ h))
 ·exact .inl (.inr ⟨o,e _ _ h⟩)
 ·exact .inr h
end L2
namespace Tim
open PySem PyProof.Rows
def Z2:Bool->Keyed->Array Keyed->Nat->Nat->Nat->StateT SortSt Sem (Option Nat):=sortPriv% PySem.Builtin.gallop
def O8:Nat->StateT SortSt Sem Unit:=sortPriv% PySem.Builtin.setMinGallop
def aA3:Array Keyed->Array Keyed->StateT SortSt Sem (Array Keyed):=sortPriv% PySem.Builtin.mergeLo
def aA4:Array Keyed->Array Keyed->StateT SortSt Sem (Array Keyed):=sortPriv% PySem.Builtin.mergeHi
def af0 (left:Bool)(key:Keyed)(arr:Array Keyed)(base:Nat)(i:Nat):StateT SortSt Sem (Option Bool):=do
 let x <- ag5 arr (base+i)
 if left then lt' x key else return (<- lt' key x).map (!·)
theorem aY8 (left:Bool)(key:Keyed)(arr:Array Keyed)(base n hint:Nat):Z2 left key arr base n hint=(do
 let mut lastofs:=0
 let mut ofs:=1
 let mut lo:=0
 let mut hi:=0
 let some right <- af0 left key arr base hint | return none
 if right then
  let maxofs:=n - hint
  for _ in [0:n] do
   if ofs≥maxofs then break
   let some more <- af0 left key arr base (hint+ofs) | return none
   if !more then break
   lastofs:=ofs
   ofs:=2*ofs+1
  lo:=hint+lastofs+1
  hi:=hint+min ofs maxofs
 else
  let maxofs:=hint+1
  for _ in [0:n] do
   if ofs≥maxofs then break
   let some found <- af0 left key arr base (hint - ofs) | return none
   if found then break
   lastofs:=ofs
   ofs:=2*ofs+1
  lo:=hint+1 - min ofs maxofs
  hi:=hint - lastofs
 for _ in [0:n] do
  if lo≥hi then break
  let m:=lo+(hi - lo) / 2
  let some more <- af0 left key arr base m | return none
  if more then lo:=m+1 else hi:=m
 return some hi):=rfl
theorem aq6 (g:Nat):O8 g=modify (fun s=>SortSt.mk' (kindOf s) (m8 s) (B4 s) g (M9 s)):=rfl
structure Ord (B:Keyed->Keyed->Bool):Prop where
 irr:∀ x,B x x=false
 tr:∀ x y z,B x y=true->B y z=true->B x z=true
 ng:∀ x y z,B x z=true->B x y=true\/B y z=true
def le (B:Keyed->Keyed->Bool)(x y:Keyed):Prop:=B y x=false
theorem Ord.rf (o:Ord B)(x:Keyed):le B x x:=o.irr x
theorem Ord.of_lt (o:Ord B){x y:Keyed}(h:B x y=true):le B x y:=by
 unfold le
 cases e:B y x with
 | false=>rfl
 | true =>
  have:=o.tr _ _ _ h e
  rw[o.irr]at this
  cases this
theorem Ord.trans (o:Ord B){x y z:Keyed}(h1:le B x y)(h2:le B y z):le B x z:=by
 unfold le at *
 cases e:B z x with
 | false=>rfl
 | true =>
  rcases o.ng _ y _ e with h | h
  ·rw[h2]at h;cases h
  ·rw[h1]at h;cases h
theorem Ord.lt_le (o:Ord B){x y z:Keyed}(h1:B x y=true)(h2:le B y z):B x z=true:=by
 unfold le at h2
 rcases o.ng _ z _ h1 with h | h
 ·exact h
 ·rw[h2]at h;cases h
theorem Ord.le_lt (o:Ord B){x y z:Keyed}(h1:le B x y)(h2:B y z=true):B x z=true:=by
 unfold le at h1
 rcases o.ng _ x _ h2 with h | h
 ·rw[h1]at h;cases h
 ·exact h
section
variable {S:Keyed->Prop}
def Cmp (prog:Program)(w:World)(A:Around)(E:Value->Shared->Prop)(s:Shared)(κ:SortKind)(S:Keyed->Prop)(B:Keyed->Keyed->Bool):Prop:=
 ∀ (x y:Keyed),S x->S y->∀ (Q:Bool->Shared->Prop),Q (B x y) s->k9 (n6 prog w) A (keyLt' κ x.1 y.1) Q (fun _ _=>False) s
theorem ax9 (C:Cmp prog w A E s κ S B){x y:Keyed}{st:SortSt}{Q:Option Bool->SortSt->Prop}(hk:kindOf st=κ)(hx:S x)(hy:S y)(h:Q (some (B x y)) st):wpS (n6 prog w) A E s (lt' x y) Q st:=by
 rw[lt'_eq]
 refine j7 (at7 ?_)
 rw[hk]
 refine j7 (wpS_lift (ae0 ?_))
 refine C2 (C x y hx hy (fun b s'=>s'=s/\b=B x y) ⟨rfl,rfl⟩) (fun b s' hb=>?_) (fun _ _ f=>f.elim)
 obtain⟨rfl,rfl⟩:=hb
 exact⟨rfl,m5 h⟩
theorem C4 {arr:Array Keyed}{x:Keyed}{st:SortSt}{Q:Keyed->SortSt->Prop}(hi:arr[i]?=some x)(h:Q x st):wpS (n6 prog w) A E s (ag5 arr i) Q st:=by
 rw[elem'_eq,hi]
 exact m5 h
theorem bh7 (C:Cmp prog w A E s κ S B){x y:Keyed}{st:SortSt}{Q:Option Bool->SortSt->Prop}(hk:kindOf st=κ)(hi:(m8 st)[i]?=some x)(hj:(m8 st)[j]?=some y)(hx:S x)(hy:S y)(h:Q (some (B x y)) st) :
  wpS (n6 prog w) A E s (ltAt' i j) Q st:=by
 rw[ltAt'_eq]
 refine j7 (at7 ?_)
 show wpS _ _ _ _ (do let x <- ag5 (m8 st) i;let y <- ag5 (m8 st) j;lt' x y) Q st
 exact j7 (C4 hi (j7 (C4 hj (ax9 C hk hx hy h))))
theorem ac6 {n:String}{st:SortSt}{Q:Unit->SortSt->Prop}(h:Q () st):wpS (n6 prog w) A E s (liftM (rule n):StateT SortSt Sem Unit) Q st:=wpS_lift (aN2 ⟨rfl,h⟩)
def byn (B:Keyed->Keyed->Bool)(left:Bool)(key x:Keyed):Bool:=if left=true then B x key else !B key x
theorem aV6 (C:Cmp prog w A E s κ S B){left:Bool}{key x:Keyed}{arr:Array Keyed}{base:Nat}{st:SortSt}{Q:Option Bool->SortSt->Prop}(hk:kindOf st=κ)(hi:arr[base+i]?=some x)(hx:S x)(hy:S key)
  (h:Q (some (byn B left key x)) st):wpS (n6 prog w) A E s (af0 left key arr base i) Q st:=by
 unfold af0
 refine j7 (C4 hi ?_)
 cases left with
 | true=>exact ax9 C hk hx hy h
 | false=>exact j7 (ax9 C hk hy hx (m5 h))
theorem aD4 {st:SortSt} {Q:Option Nat->SortSt->Prop} (P:Nat->Bool) {f:Nat->Option (Option Nat) × Nat × Nat->StateT SortSt Sem (ForInStep (Option (Option Nat) × Nat × Nat))} {k:Option (Option Nat) × Nat × Nat->StateT SortSt Sem (Option Nat)}
  (mono:∀ i j,i<=j->j<n->P j=true->P i=true)
  (hf : ∀ x lo hi (R : ForInStep (Option (Option Nat) × Nat × Nat) -> SortSt -> Prop), hi <= n -> (hi <= lo -> R (.done (none, lo, hi)) st) -> (lo < hi -> P (lo + (hi - lo) / 2) = true -> R (.yield (none, lo + (hi - lo) / 2 + 1, hi)) st) ->
   (lo<hi->P (lo+(hi - lo) / 2)=false->R (.yield (none,lo,lo+(hi - lo) / 2)) st)->wpS (n6 prog w) A E s (f x (none,lo,hi)) R st)
  (hk:∀ lo hi (R:Option Nat->SortSt->Prop),R (some hi) st->wpS (n6 prog w) A E s (k (none,lo,hi)) R st)
  (h:∀ k,k<=n->(∀ i,i<k->P i=true)->(∀ i,k<=i->i<n->P i=false)->Q (some k) st) {lo hi:Nat}
  (h1:lo<=hi) (h2:hi<=n) (h3:∀ i,i<lo->P i=true) (h4:∀ i,hi<=i->i<n->P i=false) :
  wpS (n6 prog w) A E s (forIn [:n] ((none,lo,hi):Option (Option Nat) × Nat × Nat) f >>= k) Q st:=by
 have anti:∀ i j,i<=j->j<n->P i=false->P j=false:=fun i j h1 h2 h3=>by
  cases e:P j with
  | false=>rfl
  | true=>rw[mono i j h1 h2 e]at h3;cases h3
 refine j7 (W9 (E5 (I:=fun x c st'=>st'=st/\∃ lo hi,c=(none,lo,hi)/\lo<=hi/\hi<=n/\hi - lo<=n - x/\(∀ i,i<lo->P i=true)/\(∀ i,hi<=i->i<n->P i=false))
  (Q:=fun c st'=>st'=st/\∃ k,c=(none,k,k)/\k<=n/\(∀ i,i<k->P i=true)/\(∀ i,k<=i->i<n->P i=false)) ?step ?fin ⟨rfl,lo,hi,rfl,h1,h2,by omega,h3,h4⟩) ?post)
 case fin =>
  rintro c st' ⟨rfl,lo,hi,rfl,h1,h2,hm,h3,h4⟩
  have:lo=hi:=by omega
  subst this
  exact⟨rfl,lo,rfl,h2,h3,h4⟩
 case post =>
  rintro c st' ⟨rfl,k,rfl,h2,h3,h4⟩
  exact hk _ _ _ (h k h2 h3 h4)
 case step =>
  rintro x c st' _ hx ⟨rfl,lo,hi,rfl,h1,h2,hm,h3,h4⟩
  refine hf x lo hi _ h2 (fun hge=>?_) (fun hlt e=>?_) (fun hlt e=>?_)
  ·have:lo=hi:=by omega
   subst this
   exact⟨rfl,lo,rfl,h2,h3,h4⟩
  ·exact⟨rfl,_,hi,rfl,by omega,h2,by omega,fun i hi'=>mono i _ (by omega) (by omega) e,h4⟩
  ·exact⟨rfl,lo,_,rfl,by omega,by omega,by omega,h3,fun i h5 h6=>anti _ i h5 h6 e⟩
theorem aH5 {left:Bool} {key:Keyed} {arr:Array Keyed} {base hint:Nat} {st:SortSt} {Q:Option Nat->SortSt->Prop} (P:Nat->Bool)
  (hP:∀ i,i<n->∀ R:Option Bool->SortSt->Prop,R (some (P i)) st->wpS (n6 prog w) A E s (af0 left key arr base i) R st)
  (mono:∀ i j,i<=j->j<n->P j=true->P i=true) (hh:hint<n)
  (h:∀ k,k<=n->(∀ i,i<k->P i=true)->(∀ i,k<=i->i<n->P i=false)->Q (some k) st) :
  wpS (n6 prog w) A E s (Z2 left key arr base n hint) Q st:=by
 have anti:∀ i j,i<=j->j<n->P i=false->P j=false:=fun i j h1 h2 h3=>by
  cases e:P j with
  | false=>rfl
  | true=>rw[mono i j h1 h2 e]at h3;cases h3
 rw[aY8]
 dsimp only
 refine j7 (hP hint hh _ ?_)
 cases e0:P hint with
 | true =>
  dsimp only
  rw[if_pos rfl]
  refine j7 (W9 (E5 (I:=fun x c st'=>st'=st/\∃ l o,c=(none,l,o)/\l<o/\x+1<=o/\hint+l<n/\P (hint+l)=true)
   (Q:=fun c st'=>st'=st/\∃ l o,c=(none,l,o)/\l<o/\hint+l<n/\P (hint+l)=true/\(n - hint<=o\/(hint+o<n/\P (hint+o)=false))) ?step ?fin ⟨rfl,0,1,rfl,by omega,by omega,by omega,e0⟩) ?post)
  case fin =>
   rintro c st' ⟨rfl,l,o,rfl,h1,h2,h3,h4⟩
   exact⟨rfl,l,o,rfl,h1,h3,h4,.inl (by omega)⟩
  case post =>
   rintro c st' ⟨rfl,l,o,rfl,h1,h3,h4,h5⟩
   dsimp only
   refine aD4 P mono
    (fun x lo hi R hn a b c => by
     dsimp only
     by_cases hge:lo≥hi
     ·rw[if_pos hge]
      exact m5 (a hge)
     ·rw[if_neg hge]
      refine j7 (hP _ (by omega) _ ?_)
      cases e:P (lo+(hi - lo) / 2) with
      | true =>
       dsimp only
       rw[if_pos rfl]
       exact m5 (b (by omega) e)
      | false =>
       dsimp only
       rw[if_neg d4]
       exact m5 (c (by omega) e)) (fun lo hi R hR=>m5 hR) h (lo:=hint+l+1) (hi:=hint+min o (n - hint)) (by omega) (by omega) (fun i hi=>mono i _ (by omega) h3 h4) (fun i h6 h7=>?_)
   rcases h5 with h5 | ⟨h5,h8⟩
   ·omega
   ·exact anti _ i (by omega) h7 h8
  case step =>
   rintro x c st' _ hx ⟨rfl,l,o,rfl,h1,h2,h3,h4⟩
   dsimp only
   by_cases hge:o≥n - hint
   ·rw[if_pos hge]
    exact m5 ⟨rfl,l,o,rfl,h1,h3,h4,.inl hge⟩
   ·rw[if_neg hge]
    refine j7 (hP _ (by omega) _ ?_)
    cases e:P (hint+o) with
    | true =>
     dsimp only
     rw[if_neg (by simp)]
     exact m5 ⟨rfl,o,2*o+1,rfl,by omega,by omega,by omega,e⟩
    | false =>
     dsimp only
     rw[if_pos (by simp)]
     exact m5 ⟨rfl,l,o,rfl,h1,h3,h4,.inr ⟨by omega,e⟩⟩
 | false =>
  dsimp only
  rw[if_neg d4]
  refine j7 (W9 (E5 (I:=fun x c st'=>st'=st/\∃ l o,c=(none,l,o)/\l<o/\x+1<=o/\l<=hint/\P (hint - l)=false)
   (Q:=fun c st'=>st'=st/\∃ l o,c=(none,l,o)/\l<o/\l<=hint/\P (hint - l)=false/\(hint+1<=o\/(o<=hint/\P (hint - o)=true))) ?step ?fin ⟨rfl,0,1,rfl,by omega,by omega,by omega,e0⟩) ?post)
  case fin =>
   rintro c st' ⟨rfl,l,o,rfl,h1,h2,h3,h4⟩
   exact⟨rfl,l,o,rfl,h1,h3,h4,.inl (by omega)⟩
  case post =>
   rintro c st' ⟨rfl,l,o,rfl,h1,h3,h4,h5⟩
   dsimp only
   refine aD4 P mono
    (fun x lo hi R hn a b c => by
     dsimp only
     by_cases hge:lo≥hi
     ·rw[if_pos hge]
      exact m5 (a hge)
     ·rw[if_neg hge]
      refine j7 (hP _ (by omega) _ ?_)
      cases e:P (lo+(hi - lo) / 2) with
      | true =>
       dsimp only
       rw[if_pos rfl]
       exact m5 (b (by omega) e)
      | false =>
       dsimp only
       rw[if_neg d4]
       exact m5 (c (by omega) e)) (fun lo hi R hR=>m5 hR) h (lo:=hint+1 - min o (hint+1)) (hi:=hint - l) (by omega) (by omega) (fun i hi=>?_) (fun i h6 h7=>anti _ i h6 h7 h4)
   rcases h5 with h5 | ⟨h5,h8⟩
   ·omega
   ·exact mono i _ (by omega) (by omega) h8
  case step =>
   rintro x c st' _ hx ⟨rfl,l,o,rfl,h1,h2,h3,h4⟩
   dsimp only
   by_cases hge:o≥hint+1
   ·rw[if_pos hge]
    exact m5 ⟨rfl,l,o,rfl,h1,h3,h4,.inl hge⟩
   ·rw[if_neg hge]
    refine j7 (hP _ (by omega) _ ?_)
    cases e:P (hint - o) with
    | true =>
     dsimp only
     rw[if_pos rfl]
     exact m5 ⟨rfl,l,o,rfl,h1,h3,h4,.inr ⟨by omega,e⟩⟩
    | false =>
     dsimp only
     rw[if_neg d4]
     exact m5 ⟨rfl,o,2*o+1,rfl,by omega,by omega,by omega,e⟩
theorem V9 (o:Ord B)(C:Cmp prog w A E s κ S B){left:Bool}{key:Keyed}{arr:Array Keyed}{base hint:Nat}{st:SortSt}{Q:Option Nat->SortSt->Prop}(hk:kindOf st=κ)(hkey:S key)(hb:base+n<=arr.size)
  (hS:∀ (i:Nat) (x:Keyed),i<n->arr[base+i]?=some x->S x)
  (hs:∀ (i j:Nat) (x y:Keyed),i<=j->j<n->arr[base+i]?=some x->arr[base+j]?=some y->le B x y)(hh:hint<n)
  (h:∀ k,k<=n->(∀ (i:Nat) (x:Keyed),i<k->arr[base+i]?=some x->byn B left key x=true)->(∀ (i:Nat) (x:Keyed),k<=i->i<n->arr[base+i]?=some x->byn B left key x=false)->Q (some k) st) :
  wpS (n6 prog w) A E s (Z2 left key arr base n hint) Q st:=by
 have ex:∀ i,i<n->∃ x,arr[base+i]?=some x:=fun i hi=>⟨arr[base+i]'(by omega),getElem?_pos arr _ (by omega)⟩
 have ev:∀ (i:Nat) (x:Keyed),arr[base+i]?=some x->((arr[base+i]?).getD key)=x:=fun i x e=>by rw[e];rfl
 refine aH5 (fun i=>byn B left key ((arr[base+i]?).getD key)) (fun i hi R hR=>?_) (fun i j hij hj hp=>?_) hh (fun k hk' h1 h2=>h k hk' (fun i x hi e=>?_) (fun i x h3 h4 e=>?_))
 ·obtain⟨x,e⟩:=ex i hi
  rw[ev i x e]at hR
  exact aV6 C hk e (hS i x hi e) hkey hR
 ·obtain⟨x,e⟩:=ex i (by omega)
  obtain⟨y,e'⟩:=ex j hj
  rw[ev j y e']at hp
  rw[ev i x e]
  have l:=hs i j x y hij hj e e'
  unfold byn at hp ⊢
  cases left with
  | true =>
   simp only[if_true]at hp ⊢
   exact o.le_lt l hp
  | false =>
   simp only[d7,if_false,O5]at hp ⊢
   exact o.trans l hp
 ·have:=h1 i hi;rw[ev i x e]at this;exact this
 ·have:=h2 i h3 h4;rw[ev i x e]at this;exact this
end
theorem aR0 (a b:Array Keyed):aA3 a b=(do
 rule "list.sort.merge-lo"
 let total:=a.size+b.size
 let done (out:Array Keyed) (ia ib:Nat):=out++a.extract ia a.size++b.extract ib b.size
 let lastOfA (out:Array Keyed) (ia ib:Nat):=out++b.extract ib b.size++a.extract ia a.size
 let mut out:Array Keyed:=#[<- ag5 b 0]
 let mut ia:=0
 let mut ib:=1
 if ib == b.size then return done out ia ib
 if ia+1 == a.size then return lastOfA out ia ib
 let mut minGallop:=gallopOf (<- get)
 for _ in [0:total] do
  let mut acount:=0
  let mut bcount:=0
  for _ in [0:total] do
   let some bWins <- lt' (<- ag5 b ib) (<- ag5 a ia) | return done out ia ib
   if bWins then
    out:=out.push (<- ag5 b ib);ib:=ib+1;bcount:=bcount+1;acount:=0
    if ib == b.size then return done out ia ib
    if bcount≥minGallop then break
   else
    out:=out.push (<- ag5 a ia);ia:=ia+1;acount:=acount+1;bcount:=0
    if ia+1 == a.size then return lastOfA out ia ib
    if acount≥minGallop then break
  rule "list.sort.gallop"
  minGallop:=minGallop+1
  for _ in [0:total] do
   if minGallop > 1 then minGallop:=minGallop - 1
   O8 minGallop
   let some k <- Z2 false (<- ag5 b ib) a ia (a.size - ia) 0 | return done out ia ib
   acount:=k
   if k > 0 then
    out:=out++a.extract ia (ia+k);ia:=ia+k
    if ia+1 == a.size then return lastOfA out ia ib
    if ia == a.size then return done out ia ib
   out:=out.push (<- ag5 b ib);ib:=ib+1
   if ib == b.size then return done out ia ib
   let some k <- Z2 true (<- ag5 a ia) b ib (b.size - ib) 0 | return done out ia ib
   bcount:=k
   if k > 0 then
    out:=out++b.extract ib (ib+k);ib:=ib+k
    if ib == b.size then return done out ia ib
   out:=out.push (<- ag5 a ia);ia:=ia+1
   if ia+1 == a.size then return lastOfA out ia ib
   if acount<7 && bcount<7 then break
  minGallop:=minGallop+1
  O8 minGallop
 Q7 "internal:list.sort.merge-bound"):=rfl
theorem aR1 (a b:Array Keyed):aA4 a b=(do
 rule "list.sort.merge-hi"
 let total:=a.size+b.size
 let done (out:Array Keyed) (na nb:Nat):=a.extract 0 na++b.extract 0 nb++out.reverse
 let firstOfB (out:Array Keyed) (na nb:Nat):=b.extract 0 nb++a.extract 0 na++out.reverse
 let mut na:=a.size - 1
 let mut nb:=b.size
 let mut out:Array Keyed:=#[<- ag5 a na]
 if na == 0 then return done out na nb
 if nb == 1 then return firstOfB out na nb
 let mut minGallop:=gallopOf (<- get)
 for _ in [0:total] do
  let mut acount:=0
  let mut bcount:=0
  for _ in [0:total] do
   let some aWins <- lt' (<- ag5 b (nb - 1)) (<- ag5 a (na - 1)) | return done out na nb
   if aWins then
    na:=na - 1;out:=out.push (<- ag5 a na);acount:=acount+1;bcount:=0
    if na == 0 then return done out na nb
    if acount≥minGallop then break
   else
    nb:=nb - 1;out:=out.push (<- ag5 b nb);bcount:=bcount+1;acount:=0
    if nb == 1 then return firstOfB out na nb
    if bcount≥minGallop then break
  rule "list.sort.gallop"
  minGallop:=minGallop+1
  for _ in [0:total] do
   if minGallop > 1 then minGallop:=minGallop - 1
   O8 minGallop
   let some at_ <- Z2 false (<- ag5 b (nb - 1)) a 0 na (na - 1) | return done out na nb
   let k:=na - at_
   acount:=k
   if k > 0 then
    out:=out++(a.extract at_ na).reverse;na:=at_
    if na == 0 then return done out na nb
   nb:=nb - 1;out:=out.push (<- ag5 b nb)
   if nb == 1 then return firstOfB out na nb
   let some at_ <- Z2 true (<- ag5 a (na - 1)) b 0 nb (nb - 1) | return done out na nb
   let k:=nb - at_
   bcount:=k
   if k > 0 then
    out:=out++(b.extract at_ nb).reverse;nb:=at_
    if nb == 1 then return firstOfB out na nb
    if nb == 0 then return done out na nb
   na:=na - 1;out:=out.push (<- ag5 a na)
   if na == 0 then return done out na nb
   if acount<7 && bcount<7 then break
  minGallop:=minGallop+1
  O8 minGallop
 Q7 "internal:list.sort.merge-bound"):=rfl
structure MI (R:Keyed->Keyed->Prop) (out ra rb all:List Keyed):Prop where
 so:out.Pairwise R
 oa:∀ x∈out,∀ y∈ra,R x y
 ob:∀ x∈out,∀ y∈rb,R x y
 sa:ra.Pairwise R
 sb:rb.Pairwise R
 pm:(out++(ra++rb)).Perm all
theorem MI.blkA {blk all:List Keyed}(m:MI R out (blk++ra) rb all)(h:∀ x∈blk,∀ y∈rb,R x y):MI R (out++blk) ra rb all:=by
 obtain⟨s1,s2,s3⟩:=B7.mp m.sa
 refine⟨B7.mpr ⟨m.so,s1,fun x hx y hy=>m.oa x hx y (A9 _ hy)⟩,fun x hx y hy=>?_,fun x hx y hy=>?_,s2,m.sb,?_⟩
 ·rcases n8.mp hx with hx | hx
  ·exact m.oa x hx y (j8 _ hy)
  ·exact s3 x hx y hy
 ·rcases n8.mp hx with hx | hx
  ·exact m.ob x hx y hy
  ·exact h x hx y hy
 ·have:=m.pm
  simpa [r0] using this
theorem MI.blkB {blk all:List Keyed}(m:MI R out ra (blk++rb) all)(h:∀ x∈blk,∀ y∈ra,R x y):MI R (out++blk) ra rb all:=by
 obtain⟨s1,s2,s3⟩:=B7.mp m.sb
 refine⟨B7.mpr ⟨m.so,s1,fun x hx y hy=>m.ob x hx y (A9 _ hy)⟩,fun x hx y hy=>?_,fun x hx y hy=>?_,m.sa,s2,?_⟩
 ·rcases n8.mp hx with hx | hx
  ·exact m.oa x hx y hy
  ·exact h x hx y hy
 ·rcases n8.mp hx with hx | hx
  ·exact m.ob x hx y (j8 _ hy)
  ·exact s3 x hx y hy
 ·refine List.Perm.trans ?_ m.pm
  rw[r0]
  refine List.Perm.append_left _ ?_
  rw[<- r0,<- r0]
  exact List.Perm.append_right _ ap7
theorem MI.oneA {x:Keyed}{all:List Keyed}(m:MI R out (x::ra) rb all)(h:∀ y∈rb,R x y):MI R (out++[x]) ra rb all:=
 MI.blkA (blk:=[x]) m fun z hz y hy=>by rw[d6.mp hz];exact h y hy
theorem MI.oneB {x:Keyed}{all:List Keyed}(m:MI R out ra (x::rb) all)(h:∀ y∈ra,R x y):MI R (out++[x]) ra rb all:=
 MI.blkB (blk:=[x]) m fun z hz y hy=>by rw[d6.mp hz];exact h y hy
theorem MI.endAB {all:List Keyed}(m:MI R out ra rb all)(h:∀ x∈ra,∀ y∈rb,R x y):(out++(ra++rb)).Pairwise R/\(out++(ra++rb)).Perm all:=by
 refine⟨B7.mpr ⟨m.so,B7.mpr ⟨m.sa,m.sb,h⟩,fun x hx y hy=>?_⟩,m.pm⟩
 rcases n8.mp hy with hy | hy
 ·exact m.oa x hx y hy
 ·exact m.ob x hx y hy
theorem MI.endBA {all:List Keyed}(m:MI R out ra rb all)(h:∀ x∈rb,∀ y∈ra,R x y):(out++(rb++ra)).Pairwise R/\(out++(rb++ra)).Perm all:=by
 refine⟨B7.mpr ⟨m.so,B7.mpr ⟨m.sb,m.sa,h⟩,fun x hx y hy=>?_⟩,List.Perm.trans (List.Perm.append_left _ ap7) m.pm⟩
 rcases n8.mp hy with hy | hy
 ·exact m.ob x hx y hy
 ·exact m.oa x hx y hy
theorem drop_cons {α:Type}{l:List α}{x:α}(h:l[i]?=some x):l.drop i=x::l.drop (i+1):=by
 obtain⟨hi,rfl⟩:=a9.mp h
 exact U8 hi
theorem am4 {α:Type}(l:List α)(i k:Nat):l.drop i=(l.drop i).take k++l.drop (i+k):=by
 rw[<- ba2]
 exact(J2 k (l.drop i)).symm
theorem F9 {α:Type}{l:List α}{x:α}(h:x∈l.drop i):∃ j,i<=j/\j<l.length/\l[j]?=some x:=by
 obtain⟨k,hk⟩:=l5.mp h
 rw[X8]at hk
 exact⟨i+k,by omega,(a9.mp hk).1,hk⟩
theorem X2 {α:Type}{l:List α}{k:Nat}{x:α}(h:x∈(l.drop i).take k):∃ j,j<k/\l[i+j]?=some x:=by
 obtain⟨j,hj⟩:=l5.mp h
 rw[J7]at hj
 split at hj
 ·rename_i hlt
  rw[X8]at hj
  exact⟨j,hlt,hj⟩
 ·cases hj
theorem aT1 (a:Array Keyed)(i k:Nat):(a.extract i (i+k)).toList=(a.toList.drop i).take k:=by
 rw[S6,U9,P7]
theorem ax2 (a:Array Keyed)(i:Nat):(a.extract i a.size).toList=a.toList.drop i:=by
 rw[S6,U9]
 exact p8 (by simp)
theorem aK9 (a:Array Keyed)(i:Nat):(a.extract 0 i).toList=a.toList.take i:=by
 rw[S6,U9,ba3,Nat.sub_zero]
structure Sm (st st':SortSt):Prop where
 k:kindOf st'=kindOf st
 a:m8 st'=m8 st
 p:B4 st'=B4 st
 f:M9 st'=M9 st
theorem Sm.rfl' (st:SortSt):Sm st st:=⟨rfl,rfl,rfl,rfl⟩
theorem Sm.mg {st st':SortSt}(h:Sm st st')(g:Nat):Sm st (SortSt.mk' (kindOf st') (m8 st') (B4 st') g (M9 st')):=⟨h.k,h.a,h.p,h.f⟩
section
variable {S:Keyed->Prop}
theorem ai9 {g:Nat}{st:SortSt}{Q:Unit->SortSt->Prop}(h:Q () (SortSt.mk' (kindOf st) (m8 st) (B4 st) g (M9 st))):wpS (n6 prog w) A E s (O8 g) Q st:=by
 rw[aq6]
 exact av8 h
structure LoI (B:Keyed->Keyed->Bool) (a b out:Array Keyed) (ia ib:Nat):Prop where
 m:MI (le B) out.toList (a.toList.drop ia) (b.toList.drop ib) (a.toList++b.toList)
 ha:ia+1<a.size
 hb:ib<b.size
 sz:out.size=ia+ib
def Good (B:Keyed->Keyed->Bool)(a b r:Array Keyed):Prop:=r.toList.Pairwise (le B)/\r.toList.Perm (a.toList++b.toList)
theorem J4 {α σ:Type}{c:Prop}[Decidable c]{X Y:StateT σ Sem α}{Q:α->σ->Prop}{st:σ}(h:c)(k:wpS M A E s X Q st):wpS M A E s (if c then X else Y) Q st:=by
 rw[if_pos h]
 exact k
theorem G7 {α σ:Type}{c:Prop}[Decidable c]{X Y:StateT σ Sem α}{Q:α->σ->Prop}{st:σ}(h:¬ c)(k:wpS M A E s Y Q st):wpS M A E s (if c then X else Y) Q st:=by
 rw[if_neg h]
 exact k
theorem ai8 {α σ:Type}{c:Prop}[Decidable c]{X Y:StateT σ Sem α}{Q:α->σ->Prop}{st:σ}(h:wpS M A E s X Q st)(k:wpS M A E s Y Q st):wpS M A E s (if c then X else Y) Q st:=by
 split
 ·exact h
 ·exact k
theorem aN8 {α σ:Type}{c:Nat->Prop}[∀ m,Decidable (c m)]{X Y:Nat->StateT σ Sem α}{Q:α->σ->Prop}{st:σ}(hX:∀ m,X m=Y (m - 1))(h:∀ m,wpS M A E s (Y m) Q st):∀ m,wpS M A E s (if c m then X m else Y m) Q st:=fun m=>by
 split
 ·rw[hX]
  exact h _
 ·exact h m
theorem an7 {α σ β γ:Type}{u0:β}{v0:γ}{c:β->γ->Prop}[∀ u v,Decidable (c u v)]{X Y:β->γ->StateT σ Sem α}{Q:α->σ->Prop}{st:σ}{R:β->γ->Prop}(J:∀ u v,R u v->wpS M A E s (Y u v) Q st)(h1:c u0 v0->(∀ u v,R u v->wpS M A E s (Y u v) Q st)->wpS M A E s (X u0 v0) Q st)(h2:¬ c u0 v0->R u0 v0):∀ u,u0=u->∀ v,v0=v->wpS M A E s (if c u v then X u v else Y u v) Q st:=by
 rintro _ rfl _ rfl
 by_cases h:c u0 v0
 ·rw[if_pos h]
  exact h1 h J
 ·rw[if_neg h]
  exact J u0 v0 (h2 h)
theorem aN6 (o:Ord B)(C:Cmp prog w A E s κ S B){a b:Array Keyed}{st:SortSt}{Q:Array Keyed->SortSt->Prop}(hk:kindOf st=κ)(hSa:∀ x∈a.toList,S x)(hSb:∀ x∈b.toList,S x)
  (sa:a.toList.Pairwise (le B))(sb:b.toList.Pairwise (le B))(ha:0<a.size)(hb:0<b.size)
  (h0:∀ x y,b[0]?=some x->a[0]?=some y->B x y=true)(hl:∀ x∈b.toList,∀ y,a[a.size - 1]?=some y->B x y=true)
  (h:∀ r st',Sm st st'->Good B a b r->Q r st'):wpS (n6 prog w) A E s (aA3 a b) Q st:=by
 have ga:∀ i,i<a.size->∃ x,a[i]?=some x/\a.toList[i]?=some x/\S x:=fun i hi=>by
  refine⟨a[i],getElem?_pos a i hi,by rw[b7];exact getElem?_pos a i hi,hSa _ (by simp)⟩
 have gb:∀ i,i<b.size->∃ x,b[i]?=some x/\b.toList[i]?=some x/\S x:=fun i hi=>by
  refine⟨b[i],getElem?_pos b i hi,by rw[b7];exact getElem?_pos b i hi,hSb _ (by simp)⟩
 have leA:∀ (i j:Nat) (x y:Keyed),i<=j->a.toList[i]?=some x->a.toList[j]?=some y->le B x y:=fun i j x y hij hx hy=>by
  obtain⟨h1,rfl⟩:=a9.mp hx
  obtain⟨h2,rfl⟩:=a9.mp hy
  rcases J9 hij with hlt | rfl
  ·exact o4.mp sa i j h1 h2 hlt
  ·exact o.rf _
 have leB:∀ (i j:Nat) (x y:Keyed),i<=j->b.toList[i]?=some x->b.toList[j]?=some y->le B x y:=fun i j x y hij hx hy=>by
  obtain⟨h1,rfl⟩:=a9.mp hx
  obtain⟨h2,rfl⟩:=a9.mp hy
  rcases J9 hij with hlt | rfl
  ·exact o4.mp sb i j h1 h2 hlt
  ·exact o.rf _
 have tl:∀ (z:Array Keyed) (i:Nat),z[i]?=z.toList[i]?:=fun z i=>(b7 ..).symm
 have goodDone:∀ (out:Array Keyed) (ia ib:Nat),MI (le B) out.toList (a.toList.drop ia) (b.toList.drop ib) (a.toList++b.toList)->ib=b.size->Good B a b (out++a.extract ia a.size++b.extract ib b.size):=fun out ia ib m e=>by
  have en:b.toList.drop ib=[]:=by rw[e];exact E3 (by simp)
  have:=m.endAB (fun x _ y hy=>by rw[en]at hy;cases hy)
  unfold Good
  rw[A5,A5,ax2,ax2,r0]
  exact this
 have lastA:∀ (ia:Nat) (x:Keyed),ia+1=a.size->x∈a.toList.drop ia->a[a.size - 1]?=some x:=fun ia x e hx=>by
  obtain⟨j,h1,h2,h3⟩:=F9 hx
  have:j=a.size - 1:=by rw[d8]at h2;omega
  rw[<- this,tl]
  exact h3
 have goodLast:∀ (out:Array Keyed) (ia ib:Nat),MI (le B) out.toList (a.toList.drop ia) (b.toList.drop ib) (a.toList++b.toList)->ia+1=a.size->Good B a b (out++b.extract ib b.size++a.extract ia a.size):=fun out ia ib m e=>by
  have:=m.endBA (fun x hx y hy=>o.of_lt (hl x (ab7 hx) y (lastA ia y e hy)))
  unfold Good
  rw[A5,A5,ax2,ax2,r0]
  exact this
 have pushB:∀ (out:Array Keyed) (ia ib:Nat) (x:Keyed),MI (le B) out.toList (a.toList.drop ia) (b.toList.drop ib) (a.toList++b.toList)->b.toList[ib]?=some x->(∀ y∈a.toList.drop ia,le B x y) ->
   MI (le B) (out.push x).toList (a.toList.drop ia) (b.toList.drop (ib+1)) (a.toList++b.toList):=fun out ia ib x m e hx=>by
  rw[drop_cons e]at m
  rw[N7]
  exact m.oneB hx
 have pushA:∀ (out:Array Keyed) (ia ib:Nat) (x:Keyed),MI (le B) out.toList (a.toList.drop ia) (b.toList.drop ib) (a.toList++b.toList)->a.toList[ia]?=some x->(∀ y∈b.toList.drop ib,le B x y) ->
   MI (le B) (out.push x).toList (a.toList.drop (ia+1)) (b.toList.drop ib) (a.toList++b.toList):=fun out ia ib x m e hx=>by
  rw[drop_cons e]at m
  rw[N7]
  exact m.oneA hx
 have blkA:∀ (out:Array Keyed) (ia ib k:Nat),MI (le B) out.toList (a.toList.drop ia) (b.toList.drop ib) (a.toList++b.toList)->(∀ x∈(a.toList.drop ia).take k,∀ y∈b.toList.drop ib,le B x y) ->
   MI (le B) (out++a.extract ia (ia+k)).toList (a.toList.drop (ia+k)) (b.toList.drop ib) (a.toList++b.toList):=fun out ia ib k m hx=>by
  rw[am4 a.toList ia k]at m
  rw[A5,aT1]
  exact m.blkA hx
 have blkB:∀ (out:Array Keyed) (ia ib k:Nat),MI (le B) out.toList (a.toList.drop ia) (b.toList.drop ib) (a.toList++b.toList)->(∀ x∈(b.toList.drop ib).take k,∀ y∈a.toList.drop ia,le B x y) ->
   MI (le B) (out++b.extract ib (ib+k)).toList (a.toList.drop ia) (b.toList.drop (ib+k)) (a.toList++b.toList):=fun out ia ib k m hx=>by
  rw[am4 b.toList ib k]at m
  rw[A5,aT1]
  exact m.blkB hx
 rw[aR0]
 refine j7 (ac6 ?_)
 obtain⟨b0,eb0,eb0',Sb0⟩:=gb 0 hb
 obtain⟨a0,ea0,ea0',Sa0⟩:=ga 0 ha
 have lt0:=h0 b0 a0 eb0 ea0
 refine j7 (C4 eb0 ?_)
 have m0:MI (le B) ([]:List Keyed) (a.toList.drop 0) (b.toList.drop 0) (a.toList++b.toList):=⟨List.Pairwise.nil,(fun _ hx=>nomatch hx),(fun _ hx=>nomatch hx),sa,sb,List.Perm.refl _⟩
 have m1:MI (le B) (#[b0]:Array Keyed).toList (a.toList.drop 0) (b.toList.drop 1) (a.toList++b.toList):=pushB #[] 0 0 b0 m0 eb0' fun y hy=>by
  obtain⟨j,h1,h2,h3⟩:=F9 hy
  exact o.of_lt (o.lt_le lt0 (leA 0 j a0 y (n9 _) ea0' h3))
 by_cases e1:1=b.size
 ·refine J4 (by simpa using e1) ?_
  exact m5 (h _ st (Sm.rfl' st) (goodDone _ 0 1 m1 e1))
 refine G7 (by simpa using e1) ?_
 by_cases e2:0+1=a.size
 ·refine J4 (by simpa using e2) ?_
  exact m5 (h _ st (Sm.rfl' st) (goodLast _ 0 1 m1 e2))
 refine G7 (by simpa using e2) ?_
 refine j7 (at7 ?_)
 have I0:LoI B a b #[b0] 0 1:=⟨m1,by omega,by omega,rfl⟩
 refine j7 (W9 (E5
  (I:=fun x c st'=>Sm st st'/\∃ out ia ib mg,c=(none,out,ia,ib,mg)/\LoI B a b out ia ib/\x+1<=out.size)
  (Q:=fun c st'=>Sm st st'/\∃ r out ia ib mg,c=(some r,out,ia,ib,mg)/\Good B a b r) ?step ?fin ⟨Sm.rfl' st,#[b0],0,1,_,rfl,I0,by simp⟩) ?post)
 case fin =>
  rintro c st' ⟨hS,out,ia,ib,mg,rfl,I,hx⟩
  have h1:=I.sz
  have h2:=I.ha
  have h3:=I.hb
  exfalso
  omega
 case post =>
  rintro c st' ⟨hS,r,out,ia,ib,mg,rfl,hg⟩
  exact m5 (h r st' hS hg)
 case step =>
  rintro x c st1 _ hx ⟨hS1,out,ia,ib,mg,rfl,I,hsz⟩
  refine j7 (W9 (E5
   (I:=fun j c st'=>Sm st st'/\∃ out' ia' ib' ac bc,c=(none,out',ia',ib',ac,bc)/\LoI B a b out' ia' ib'/\x+1<=out'.size/\(1<=j->x+2<=out'.size))
   (Q:=fun c st'=>Sm st st'/\((∃ r out' ia' ib' ac bc,c=(some r,out',ia',ib',ac,bc)/\Good B a b r)\/(∃ out' ia' ib' ac bc,c=(none,out',ia',ib',ac,bc)/\LoI B a b out' ia' ib'/\x+2<=out'.size)))
   ?istep ?ifin ⟨hS1,out,ia,ib,0,0,rfl,I,hsz,by omega⟩) ?ipost)
  case ifin =>
   rintro c st' ⟨hS,out',ia',ib',ac,bc,rfl,I',h1,h2⟩
   exact⟨hS,.inr ⟨out',ia',ib',ac,bc,rfl,I',h2 (by omega)⟩⟩
  case istep =>
   rintro j c st' _ hj ⟨hS,out',ia',ib',ac,bc,rfl,I',h1,_⟩
   obtain⟨bx,eb,eb',Sb⟩:=gb ib' I'.hb
   obtain⟨ax,ea,ea',Sa⟩:=ga ia' (by have:=I'.ha;omega)
   refine j7 (C4 eb (j7 (C4 ea (j7 (ax9 C (hS.k.trans hk) Sb Sa ?_)))))
   cases ew:B bx ax with
   | true =>
    refine J4 rfl ?_
    refine j7 (C4 eb ?_)
    have m2:=pushB out' ia' ib' bx I'.m eb' fun y hy=>by
     obtain⟨j,h1,h2,h3⟩:=F9 hy
     exact o.of_lt (o.lt_le ew (leA ia' j ax y h1 ea' h3))
    by_cases e3:ib'+1=b.size
    ·refine J4 (by simpa using e3) ?_
     exact m5 ⟨hS,.inl ⟨_,_,_,_,_,_,rfl,goodDone _ _ _ m2 e3⟩⟩
    refine G7 (by simpa using e3) ?_
    have I2:LoI B a b (out'.push bx) ia' (ib'+1):=⟨m2,I'.ha,by have:=I'.hb;omega,by rw[x6,I'.sz];omega⟩
    have z2:x+2<=(out'.push bx).size:=by rw[x6];omega
    refine ai8 ?_ ?_
    ·exact m5 ⟨hS,.inr ⟨_,_,_,_,_,rfl,I2,z2⟩⟩
    ·exact m5 ⟨hS,_,_,_,_,_,rfl,I2,aj9 z2,fun _=>z2⟩
   | false =>
    refine G7 d4 ?_
    refine j7 (C4 ea ?_)
    have m2:=pushA out' ia' ib' ax I'.m ea' fun y hy=>by
     obtain⟨j,h1,h2,h3⟩:=F9 hy
     exact o.trans ew (leB ib' j bx y h1 eb' h3)
    by_cases e3:ia'+1+1=a.size
    ·refine J4 (by simpa using e3) ?_
     exact m5 ⟨hS,.inl ⟨_,_,_,_,_,_,rfl,goodLast _ _ _ m2 e3⟩⟩
    refine G7 (by simpa using e3) ?_
    have I2:LoI B a b (out'.push ax) (ia'+1) ib':=⟨m2,by have:=I'.ha;omega,I'.hb,by rw[x6,I'.sz];omega⟩
    have z2:x+2<=(out'.push ax).size:=by rw[x6];omega
    refine ai8 ?_ ?_
    ·exact m5 ⟨hS,.inr ⟨_,_,_,_,_,rfl,I2,z2⟩⟩
    ·exact m5 ⟨hS,_,_,_,_,_,rfl,I2,aj9 z2,fun _=>z2⟩
  case ipost =>
   rintro c st2 ⟨hS2,⟨r,out',ia',ib',ac,bc,rfl,hg⟩ | ⟨out',ia',ib',ac,bc,rfl,I',hz⟩⟩
   ·exact m5 ⟨hS2,r,_,_,_,_,rfl,hg⟩
   refine j7 (ac6 ?_)
   refine j7 (W9 (E5
    (I:=fun j c st'=>Sm st st'/\∃ out' ia' ib' mg ac bc,c=(none,out',ia',ib',mg,ac,bc)/\LoI B a b out' ia' ib'/\x+2<=out'.size)
    (Q:=fun c st'=>Sm st st'/\((∃ r out' ia' ib' mg ac bc,c=(some r,out',ia',ib',mg,ac,bc)/\Good B a b r)\/(∃ out' ia' ib' mg ac bc,c=(none,out',ia',ib',mg,ac,bc)/\LoI B a b out' ia' ib'/\x+2<=out'.size)))
    ?gstep ?gfin ⟨hS2,out',ia',ib',_,ac,bc,rfl,I',hz⟩) ?gpost)
   case gfin =>
    rintro c st' ⟨hS,out',ia',ib',mg,ac,bc,rfl,I',h1⟩
    exact⟨hS,.inr ⟨out',ia',ib',mg,ac,bc,rfl,I',h1⟩⟩
   case gpost =>
    rintro c st3 ⟨hS3,⟨r,out',ia',ib',mg,ac,bc,rfl,hg⟩ | ⟨out',ia',ib',mg,ac,bc,rfl,I',hz⟩⟩
    ·exact m5 ⟨hS3,r,_,_,_,_,rfl,hg⟩
    exact j7 (ai9 (m5 ⟨hS3.mg _,_,_,_,_,rfl,I',by omega⟩))
   case gstep =>
    rintro j c st' _ hj ⟨hS,out',ia',ib',mg,ac,bc,rfl,I',hz⟩
    dsimp (config:={ zeta:=false }) only
    obtain⟨bx,eb,eb',Sb⟩:=gb ib' I'.hb
    obtain⟨al,eal,eal',Sal⟩:=ga (a.size - 1) (by omega)
    revert mg
    refine aN8 (fun _=>rfl) fun mg1=>?_
    try dsimp (config:={ zeta:=false }) only
    refine j7 (ai9 (j7 (C4 eb ?_)))
    refine j7 (V9 o C (hS.k.trans hk) Sb (by have:=I'.ha;omega) (fun i y hi e=>hSa y (d9 (by rw[<- tl];exact e))) (fun i j y z hij hj e e'=>leA _ _ y z (G9 hij _) (by rw[<- tl];exact e) (by rw[<- tl];exact e')) (by have:=I'.ha;omega) fun k hkn hlt hge=>?_)
    dsimp (config:={ zeta:=false }) only
    have hS':=hS
    have hlt':∀ y∈(a.toList.drop ia').take k,∀ z∈b.toList.drop ib',le B y z:=fun y hy z hz'=>by
     obtain⟨i,hi,e⟩:=X2 hy
     have q:=hlt i y hi (by rw[tl];exact e)
     obtain⟨j',h1,h2,h3⟩:=F9 hz'
     simp only[byn,d7,if_false,O5]at q
     exact o.trans q (leB ib' j' bx z h1 eb' h3)
    have m1':=blkA out' ia' ib' k I'.m hlt'
    have hge':∀ y∈a.toList.drop (ia'+k),B bx y=true:=fun y hy=>by
     obtain⟨j',h1,h2,h3⟩:=F9 hy
     have q:=hge (j' - ia') y (by omega) (by rw[d8]at h2;omega) (by rw[show ia'+(j' - ia')=j' by omega,tl];exact h3)
     simpa [byn] using q
    have hka:ia'+k<a.size:=by
     rcases W8 (ia'+k) a.size with q | q
     ·exact q
     ·exfalso
      have h9:=I'.ha
      have q1:=hlt (a.size - 1 - ia') al (by omega) (by rw[show ia'+(a.size - 1 - ia')=a.size - 1 by omega];exact eal)
      have q2:=hl bx (d9 eb') al eal
      simp[byn,q2]at q1
    generalize eo:out'=o
    generalize en:ia'=n
    revert o n
    refine an7 (R:=fun out1 ia1=>MI (le B) out1.toList (a.toList.drop ia1) (b.toList.drop ib') (a.toList++b.toList)/\(∀ y∈a.toList.drop ia1,B bx y=true)/\ia1+1<a.size/\out1.size=ia1+ib'/\x+2<=out1.size) ?_ (fun hk J=>?_) (fun hk=>?_)
    rotate_left
    ·by_cases e4:ia'+k+1=a.size
     ·refine J4 (by simpa using e4) ?_
      exact m5 ⟨hS.mg _,.inl ⟨_,_,_,_,_,_,_,rfl,goodLast _ _ _ m1' e4⟩⟩
     refine G7 (by simpa using e4) (G7 (by simp;omega) ?_)
     exact J (out'++a.extract ia' (ia'+k)) (ia'+k) ⟨m1',hge',by omega,by rw[G3,F5,I'.sz];omega,by rw[G3];omega⟩
    ·have e9:k=0:=by omega
     rw[e9]at hge'
     exact⟨I'.m,hge',I'.ha,I'.sz,hz⟩
    rintro out1 ia1 ⟨m1,hge1,hne1,sz1,z1⟩
    refine j7 (C4 eb ?_)
    have m2:=pushB out1 ia1 ib' bx m1 eb' fun y hy=>o.of_lt (hge1 y hy)
    by_cases e5:ib'+1=b.size
    ·refine J4 (by simpa using e5) ?_
     exact m5 ⟨hS.mg _,.inl ⟨_,_,_,_,_,_,_,rfl,goodDone _ _ _ m2 e5⟩⟩
    refine G7 (by simpa using e5) ?_
    generalize ho:out1.push bx=o2 at m2 ⊢
    have so2:o2.size=out1.size+1:=by rw[<- ho,x6]
    generalize hn:ib'+1=n2 at m2 e5 ⊢
    obtain⟨ax,ea,ea',Sa⟩:=ga ia1 (by omega)
    have hib:=I'.hb
    refine j7 (C4 ea ?_)
    refine j7 (V9 o C (hS.k.trans hk) Sa (by omega) (fun i y hi e=>hSb y (d9 (by rw[<- tl];exact e))) (fun i j y z hij hj e e'=>leB _ _ y z (G9 hij _) (by rw[<- tl];exact e) (by rw[<- tl];exact e')) (by omega) fun k' hkn' hlt2 hge2=>?_)
    dsimp (config:={ zeta:=false }) only
    have hlt2':∀ y∈(b.toList.drop n2).take k',∀ z∈a.toList.drop ia1,le B y z:=fun y hy z hz'=>by
     obtain⟨i,hi,e⟩:=X2 hy
     have q:=hlt2 i y hi (by rw[tl];exact e)
     obtain⟨j',h1,h2,h3⟩:=F9 hz'
     simp only[byn,if_true]at q
     exact o.of_lt (o.lt_le q (leA ia1 j' ax z h1 ea' h3))
    have m3':=blkB o2 ia1 n2 k' m2 hlt2'
    have hge2':∀ y∈b.toList.drop (n2+k'),le B ax y:=fun y hy=>by
     obtain⟨j',h1,h2,h3⟩:=F9 hy
     have q:=hge2 (j' - n2) y (by omega) (by rw[d8]at h2;omega) (by rw[show n2+(j' - n2)=j' by omega,tl];exact h3)
     show B y ax=false
     simpa [byn] using q
    have sz2:o2.size=ia1+n2:=by omega
    generalize eo:o2=o
    generalize en:n2=n
    revert o n
    refine an7 (R:=fun out2 ib2=>MI (le B) out2.toList (a.toList.drop ia1) (b.toList.drop ib2) (a.toList++b.toList)/\(∀ y∈b.toList.drop ib2,le B ax y)/\ib2<b.size/\out2.size=ia1+ib2/\x+2<=out2.size) ?_ (fun hk J=>?_) (fun hk=>?_)
    rotate_left
    ·by_cases e6:n2+k'=b.size
     ·refine J4 (by simpa using e6) ?_
      exact m5 ⟨hS.mg _,.inl ⟨_,_,_,_,_,_,_,rfl,goodDone _ _ _ m3' e6⟩⟩
     refine G7 (by simpa using e6) ?_
     exact J (o2++b.extract n2 (n2+k')) (n2+k') ⟨m3',hge2',by omega,by rw[G3,F5,sz2];omega,by rw[G3];omega⟩
    ·have e8:k'=0:=by omega
     rw[e8]at hge2'
     exact⟨m2,hge2',by omega,sz2,by omega⟩
    rintro out2 ib2 ⟨m3,hge3,hne3,sz3,z3⟩
    refine j7 (C4 ea ?_)
    have m4:=pushA out2 ia1 ib2 ax m3 ea' hge3
    by_cases e7:ia1+1+1=a.size
    ·refine J4 (by simpa using e7) ?_
     exact m5 ⟨hS.mg _,.inl ⟨_,_,_,_,_,_,_,rfl,goodLast _ _ _ m4 e7⟩⟩
    refine G7 (by simpa using e7) ?_
    have I4:LoI B a b (out2.push ax) (ia1+1) ib2:=⟨m4,by omega,hne3,by rw[x6,sz3];omega⟩
    have z4:x+2<=(out2.push ax).size:=by
     rw[x6,sz3]
     have:=I'.sz
     omega
    refine ai8 ?_ ?_
    ·exact m5 ⟨hS.mg _,.inr ⟨_,_,_,_,_,_,rfl,I4,z4⟩⟩
    ·exact m5 ⟨hS.mg _,_,_,_,_,_,_,rfl,I4,z4⟩
end
theorem aO0 {α:Type}{l:List α}{x:α}(h:l[n]?=some x):(l.take (n+1)).reverse=x::(l.take n).reverse:=by
 rw[B8,h,P5]
 rfl
theorem ag7 {α:Type}(l:List α){k:Nat}(h:k<=n):(l.take n).reverse=((l.drop k).take (n - k)).reverse++(l.take k).reverse:=by
 rw[<- P5]
 congr 1
 obtain⟨d,rfl⟩:=Nat.le.dest h
 rw[P7,List.take_add]
theorem J6 {α:Type}{l:List α}{x:α}(h:x∈(l.take n).reverse):∃ j,j<n/\j<l.length/\l[j]?=some x:=by
 rw[Q3]at h
 obtain⟨j,hj⟩:=l5.mp h
 rw[J7]at hj
 split at hj
 ·rename_i hlt
  exact⟨j,hlt,(a9.mp hj).1,hj⟩
 ·cases hj
theorem ax1 (a:Array Keyed)(i k:Nat):(a.extract i k).toList=(a.toList.drop i).take (k - i):=by
 rw[S6,U9]
section
variable {S:Keyed->Prop}
abbrev HM (B:Keyed->Keyed->Bool)(a b out:Array Keyed)(na nb:Nat):Prop:=MI (fun x y=>le B y x) out.toList (a.toList.take na).reverse (b.toList.take nb).reverse (a.toList++b.toList)
structure HiI (B:Keyed->Keyed->Bool) (a b out:Array Keyed) (na nb:Nat):Prop where
 m:HM B a b out na nb
 ha:0<na
 ha':na<=a.size
 hb:1<nb
 hb':nb<=b.size
 sz:out.size+na+nb=a.size+b.size
theorem aN7 (o:Ord B)(C:Cmp prog w A E s κ S B){a b:Array Keyed}{st:SortSt}{Q:Array Keyed->SortSt->Prop}(hk:kindOf st=κ)(hSa:∀ x∈a.toList,S x)(hSb:∀ x∈b.toList,S x)
  (sa:a.toList.Pairwise (le B))(sb:b.toList.Pairwise (le B))(ha:0<a.size)(hb:0<b.size)
  (h0:∀ x y,b[0]?=some x->a[0]?=some y->B x y=true)(hl:∀ x∈b.toList,∀ y,a[a.size - 1]?=some y->B x y=true)
  (h:∀ r st',Sm st st'->Good B a b r->Q r st'):wpS (n6 prog w) A E s (aA4 a b) Q st:=by
 have ga:∀ i,i<a.size->∃ x,a[i]?=some x/\a.toList[i]?=some x/\S x:=fun i hi=>by
  refine⟨a[i],getElem?_pos a i hi,by rw[b7];exact getElem?_pos a i hi,hSa _ (by simp)⟩
 have gb:∀ i,i<b.size->∃ x,b[i]?=some x/\b.toList[i]?=some x/\S x:=fun i hi=>by
  refine⟨b[i],getElem?_pos b i hi,by rw[b7];exact getElem?_pos b i hi,hSb _ (by simp)⟩
 have leA:∀ (i j:Nat) (x y:Keyed),i<=j->a.toList[i]?=some x->a.toList[j]?=some y->le B x y:=fun i j x y hij hx hy=>by
  obtain⟨h1,rfl⟩:=a9.mp hx
  obtain⟨h2,rfl⟩:=a9.mp hy
  rcases J9 hij with hlt | rfl
  ·exact o4.mp sa i j h1 h2 hlt
  ·exact o.rf _
 have leB:∀ (i j:Nat) (x y:Keyed),i<=j->b.toList[i]?=some x->b.toList[j]?=some y->le B x y:=fun i j x y hij hx hy=>by
  obtain⟨h1,rfl⟩:=a9.mp hx
  obtain⟨h2,rfl⟩:=a9.mp hy
  rcases J9 hij with hlt | rfl
  ·exact o4.mp sb i j h1 h2 hlt
  ·exact o.rf _
 have tl:∀ (z:Array Keyed) (i:Nat),z[i]?=z.toList[i]?:=fun z i=>(b7 ..).symm
 have rel:∀ {l:List Keyed},l.Pairwise (fun x y=>le B y x)->l.reverse.Pairwise (le B):=fun {l} hp=>ap8.mpr hp
 have goodDone:∀ (out:Array Keyed) (na nb:Nat),HM B a b out na nb->(na=0\/nb=0)->Good B a b (a.extract 0 na++b.extract 0 nb++out.reverse):=fun out na nb m e=>by
  have:=m.endBA (fun x hx y hy=>by
   rcases e with rfl | rfl
   ·simp at hy
   ·simp at hx)
  unfold Good
  rw[A5,A5,aK9,aK9,aa7]
  have q:(out.toList++((b.toList.take nb).reverse++(a.toList.take na).reverse)).reverse=a.toList.take na++b.toList.take nb++out.toList.reverse:=by simp
  exact⟨by rw[<- q];exact rel this.1,by rw[<- q];exact(S4 _).trans this.2⟩
 obtain⟨b0,eb0,eb0',Sb0⟩:=gb 0 hb
 obtain⟨a0,ea0,ea0',Sa0⟩:=ga 0 ha
 have lt0:=h0 b0 a0 eb0 ea0
 have goodFirst:∀ (out:Array Keyed) (na nb:Nat),HM B a b out na nb->nb=1->Good B a b (b.extract 0 nb++a.extract 0 na++out.reverse):=fun out na nb m e=>by
  have:=m.endAB (fun x hx y hy=>by
   subst e
   obtain⟨i,h1,h2,h3⟩:=J6 hx
   obtain⟨j,h4,h5,h6⟩:=J6 hy
   have:j=0:=by omega
   subst this
   rw[eb0']at h6
   cases h6
   exact o.of_lt (o.lt_le lt0 (leA 0 i a0 x (n9 _) ea0' h3)))
  unfold Good
  rw[A5,A5,aK9,aK9,aa7]
  have q:(out.toList++((a.toList.take na).reverse++(b.toList.take nb).reverse)).reverse=b.toList.take nb++a.toList.take na++out.toList.reverse:=by simp
  exact⟨by rw[<- q];exact rel this.1,by rw[<- q];exact(S4 _).trans this.2⟩
 have pushA:∀ (out:Array Keyed) (na nb:Nat) (x:Keyed),0<na->HM B a b out na nb->a.toList[na - 1]?=some x->(∀ y∈(b.toList.take nb).reverse,le B y x)->HM B a b (out.push x) (na - 1) nb:=fun out na nb x hn m e hx=>by
  obtain⟨n,rfl⟩:∃ n,na=n+1:=⟨na - 1,by omega⟩
  unfold HM at m ⊢
  rw[bR7]at e ⊢
  rw[aO0 e]at m
  rw[N7]
  exact m.oneA hx
 have pushB:∀ (out:Array Keyed) (na nb:Nat) (x:Keyed),0<nb->HM B a b out na nb->b.toList[nb - 1]?=some x->(∀ y∈(a.toList.take na).reverse,le B y x)->HM B a b (out.push x) na (nb - 1):=fun out na nb x hn m e hx=>by
  obtain⟨n,rfl⟩:∃ n,nb=n+1:=⟨nb - 1,by omega⟩
  unfold HM at m ⊢
  rw[bR7]at e ⊢
  rw[aO0 e]at m
  rw[N7]
  exact m.oneB hx
 have blkA:∀ (out:Array Keyed) (na nb k:Nat),k<=na->HM B a b out na nb->(∀ x∈((a.toList.drop k).take (na - k)).reverse,∀ y∈(b.toList.take nb).reverse,le B y x)->HM B a b (out++(a.extract k na).reverse) k nb:=fun out na nb k hkn m hx=>by
  unfold HM at m ⊢
  rw[ag7 a.toList hkn]at m
  rw[A5,aa7,ax1]
  exact m.blkA hx
 have blkB:∀ (out:Array Keyed) (na nb k:Nat),k<=nb->HM B a b out na nb->(∀ x∈((b.toList.drop k).take (nb - k)).reverse,∀ y∈(a.toList.take na).reverse,le B y x)->HM B a b (out++(b.extract k nb).reverse) na k:=fun out na nb k hkn m hx=>by
  unfold HM at m ⊢
  rw[ag7 b.toList hkn]at m
  rw[A5,aa7,ax1]
  exact m.blkB hx
 rw[aR1]
 refine j7 (ac6 ?_)
 obtain⟨al,eal,eal',Sal⟩:=ga (a.size - 1) (by omega)
 refine j7 (C4 eal ?_)
 have m0:HM B a b #[] a.size b.size:=by
  unfold HM
  rw[p8 (by simp),p8 (by simp)]
  refine⟨List.Pairwise.nil,(fun _ hx=>nomatch hx),(fun _ hx=>nomatch hx),ap8.mpr sa,ap8.mpr sb,?_⟩
  rw[L5]
  exact List.Perm.append (S4 _) (S4 _)
 have m1:HM B a b #[al] (a.size - 1) b.size:=pushA #[] a.size b.size al ha m0 eal' fun y hy=>by
  obtain⟨j,h1,h2,h3⟩:=J6 hy
  exact o.of_lt (hl y (d9 h3) al eal)
 by_cases e1:a.size - 1=0
 ·refine J4 (by simpa using e1) ?_
  exact m5 (h _ st (Sm.rfl' st) (goodDone _ _ _ m1 (.inl e1)))
 refine G7 (by simpa using e1) ?_
 by_cases e2:b.size=1
 ·refine J4 (by simpa using e2) ?_
  exact m5 (h _ st (Sm.rfl' st) (goodFirst _ _ _ m1 e2))
 refine G7 (by simpa using e2) ?_
 refine j7 (at7 ?_)
 have I0:HiI B a b #[al] (a.size - 1) b.size:=⟨m1,by omega,by omega,by omega,by omega,by simp;omega⟩
 refine j7 (W9 (E5
  (I:=fun x c st'=>Sm st st'/\∃ na nb out mg,c=(none,na,nb,out,mg)/\HiI B a b out na nb/\x+1<=out.size)
  (Q:=fun c st'=>Sm st st'/\∃ r na nb out mg,c=(some r,na,nb,out,mg)/\Good B a b r) ?step ?fin ⟨Sm.rfl' st,_,_,#[al],_,rfl,I0,by simp⟩) ?post)
 case fin =>
  rintro c st' ⟨hS,na,nb,out,mg,rfl,I,hx⟩
  have h1:=I.sz
  have h2:=I.ha
  have h3:=I.hb
  exfalso
  omega
 case post =>
  rintro c st' ⟨hS,r,na,nb,out,mg,rfl,hg⟩
  exact m5 (h r st' hS hg)
 case step =>
  rintro x c st1 _ hx ⟨hS1,na,nb,out,mg,rfl,I,hsz⟩
  refine j7 (W9 (E5
   (I:=fun j c st'=>Sm st st'/\∃ na' nb' out' ac bc,c=(none,na',nb',out',ac,bc)/\HiI B a b out' na' nb'/\x+1<=out'.size/\(1<=j->x+2<=out'.size))
   (Q:=fun c st'=>Sm st st'/\((∃ r na' nb' out' ac bc,c=(some r,na',nb',out',ac,bc)/\Good B a b r)\/(∃ na' nb' out' ac bc,c=(none,na',nb',out',ac,bc)/\HiI B a b out' na' nb'/\x+2<=out'.size)))
   ?istep ?ifin ⟨hS1,na,nb,out,0,0,rfl,I,hsz,by omega⟩) ?ipost)
  case ifin =>
   rintro c st' ⟨hS,na',nb',out',ac,bc,rfl,I',h1,h2⟩
   exact⟨hS,.inr ⟨na',nb',out',ac,bc,rfl,I',h2 (by omega)⟩⟩
  case istep =>
   rintro j c st' _ hj ⟨hS,na',nb',out',ac,bc,rfl,I',h1,_⟩
   have i1:=I'.ha
   have i2:=I'.ha'
   have i3:=I'.hb
   have i4:=I'.hb'
   have i5:=I'.sz
   obtain⟨bx,eb,eb',Sb⟩:=gb (nb' - 1) (by omega)
   obtain⟨ax,ea,ea',Sa⟩:=ga (na' - 1) (by omega)
   refine j7 (C4 eb (j7 (C4 ea (j7 (ax9 C (hS.k.trans hk) Sb Sa ?_)))))
   cases ew:B bx ax with
   | true =>
    refine J4 rfl ?_
    refine j7 (C4 ea ?_)
    have m2:=pushA out' na' nb' ax i1 I'.m ea' fun y hy=>by
     obtain⟨j,h1,h2,h3⟩:=J6 hy
     exact o.of_lt (o.le_lt (leB j (nb' - 1) y bx (by omega) h3 eb') ew)
    by_cases e3:na' - 1=0
    ·refine J4 (by simpa using e3) ?_
     exact m5 ⟨hS,.inl ⟨_,_,_,_,_,_,rfl,goodDone _ _ _ m2 (.inl e3)⟩⟩
    refine G7 (by simpa using e3) ?_
    have I2:HiI B a b (out'.push ax) (na' - 1) nb':=⟨m2,by omega,by omega,i3,i4,by rw[x6];omega⟩
    have z2:x+2<=(out'.push ax).size:=by rw[x6];omega
    refine ai8 ?_ ?_
    ·exact m5 ⟨hS,.inr ⟨_,_,_,_,_,rfl,I2,z2⟩⟩
    ·exact m5 ⟨hS,_,_,_,_,_,rfl,I2,aj9 z2,fun _=>z2⟩
   | false =>
    refine G7 d4 ?_
    refine j7 (C4 eb ?_)
    have m2:=pushB out' na' nb' bx (by omega) I'.m eb' fun y hy=>by
     obtain⟨j,h1,h2,h3⟩:=J6 hy
     exact o.trans (leA j (na' - 1) y ax (by omega) h3 ea') ew
    by_cases e3:nb' - 1=1
    ·refine J4 (by simpa using e3) ?_
     exact m5 ⟨hS,.inl ⟨_,_,_,_,_,_,rfl,goodFirst _ _ _ m2 e3⟩⟩
    refine G7 (by simpa using e3) ?_
    have I2:HiI B a b (out'.push bx) na' (nb' - 1):=⟨m2,i1,i2,by omega,by omega,by rw[x6];omega⟩
    have z2:x+2<=(out'.push bx).size:=by rw[x6];omega
    refine ai8 ?_ ?_
    ·exact m5 ⟨hS,.inr ⟨_,_,_,_,_,rfl,I2,z2⟩⟩
    ·exact m5 ⟨hS,_,_,_,_,_,rfl,I2,aj9 z2,fun _=>z2⟩
  case ipost =>
   rintro c st2 ⟨hS2,⟨r,na',nb',out',ac,bc,rfl,hg⟩ | ⟨na',nb',out',ac,bc,rfl,I',hz⟩⟩
   ·exact m5 ⟨hS2,r,_,_,_,_,rfl,hg⟩
   refine j7 (ac6 ?_)
   refine j7 (W9 (E5
    (I:=fun j c st'=>Sm st st'/\∃ na' nb' out' mg ac bc,c=(none,na',nb',out',mg,ac,bc)/\HiI B a b out' na' nb'/\x+2<=out'.size)
    (Q:=fun c st'=>Sm st st'/\((∃ r na' nb' out' mg ac bc,c=(some r,na',nb',out',mg,ac,bc)/\Good B a b r)\/(∃ na' nb' out' mg ac bc,c=(none,na',nb',out',mg,ac,bc)/\HiI B a b out' na' nb'/\x+2<=out'.size)))
    ?gstep ?gfin ⟨hS2,na',nb',out',_,ac,bc,rfl,I',hz⟩) ?gpost)
   case gfin =>
    rintro c st' ⟨hS,na',nb',out',mg,ac,bc,rfl,I',h1⟩
    exact⟨hS,.inr ⟨na',nb',out',mg,ac,bc,rfl,I',h1⟩⟩
   case gpost =>
    rintro c st3 ⟨hS3,⟨r,na',nb',out',mg,ac,bc,rfl,hg⟩ | ⟨na',nb',out',mg,ac,bc,rfl,I',hz⟩⟩
    ·exact m5 ⟨hS3,r,_,_,_,_,rfl,hg⟩
    exact j7 (ai9 (m5 ⟨hS3.mg _,_,_,_,_,rfl,I',by omega⟩))
   case gstep =>
    rintro j c st' _ hj ⟨hS,na',nb',out',mg,ac,bc,rfl,I',hz⟩
    dsimp (config:={ zeta:=false }) only
    have i1:=I'.ha
    have i2:=I'.ha'
    have i3:=I'.hb
    have i4:=I'.hb'
    have i5:=I'.sz
    obtain⟨bx,eb,eb',Sb⟩:=gb (nb' - 1) (by omega)
    revert mg
    refine aN8 (fun _=>rfl) fun mg1=>?_
    try dsimp (config:={ zeta:=false }) only
    refine j7 (ai9 (j7 (C4 eb ?_)))
    refine j7 (V9 o C (hS.k.trans hk) Sb (by omega) (fun i y hi e=>hSa y (d9 (by rw[<- tl];exact e))) (fun i j y z hij hj e e'=>leA _ _ y z (G9 hij _) (by rw[<- tl];exact e) (by rw[<- tl];exact e')) (by omega) fun k hkn hlt hge=>?_)
    dsimp (config:={ zeta:=false }) only
    have hlt':∀ y∈(a.toList.take k).reverse,le B y bx:=fun y hy=>by
     obtain⟨i,h1,h2,h3⟩:=J6 hy
     have q:=hlt i y h1 (by rw[K5,tl];exact h3)
     show B bx y=false
     simpa [byn] using q
    have hge':∀ y∈((a.toList.drop k).take (na' - k)).reverse,∀ z∈(b.toList.take nb').reverse,le B z y:=fun y hy z hz'=>by
     rw[Q3]at hy
     obtain⟨i,h1,h3⟩:=X2 hy
     have q:=hge (k+i) y (by omega) (by omega) (by rw[K5,tl];exact h3)
     obtain⟨j',h4,h5,h6⟩:=J6 hz'
     have q':B bx y=true:=by simpa [byn] using q
     exact o.of_lt (o.le_lt (leB j' (nb' - 1) z bx (by omega) h6 eb') q')
    have m1':=blkA out' na' nb' k hkn I'.m hge'
    generalize hd:na' - k=d
    generalize eo:out'=o
    generalize en:na'=n
    revert o n
    refine an7 (R:=fun out1 na1=>HM B a b out1 na1 nb'/\(∀ y∈(a.toList.take na1).reverse,le B y bx)/\0<na1/\na1<=a.size/\out1.size+na1+nb'=a.size+b.size/\x+2<=out1.size) ?_ (fun hk J=>?_) (fun hk=>?_)
    rotate_left
    ·by_cases e4:k=0
     ·refine J4 (by simpa using e4) ?_
      exact m5 ⟨hS.mg _,.inl ⟨_,_,_,_,_,_,_,rfl,goodDone _ _ _ m1' (.inl e4)⟩⟩
     refine G7 (by simpa using e4) ?_
     exact J (out'++(a.extract k na').reverse) k ⟨m1',hlt',by omega,by omega,by rw[G3,bF5,F5];omega,by rw[G3];omega⟩
    ·have e9:k=na':=by omega
     exact⟨I'.m,by rw[<- e9];exact hlt',i1,i2,i5,hz⟩
    rintro out1 na1 ⟨m1,hge1,hne1,hle1,sz1,z1⟩
    refine j7 (C4 eb ?_)
    have m2:=pushB out1 na1 nb' bx (by omega) m1 eb' hge1
    by_cases e5:nb' - 1=1
    ·refine J4 (by simpa using e5) ?_
     exact m5 ⟨hS.mg _,.inl ⟨_,_,_,_,_,_,_,rfl,goodFirst _ _ _ m2 e5⟩⟩
    refine G7 (by simpa using e5) ?_
    generalize ho:out1.push bx=o2 at m2 ⊢
    have so2:o2.size=out1.size+1:=by rw[<- ho,x6]
    generalize hn:nb' - 1=n2 at m2 e5 ⊢
    obtain⟨ax,ea,ea',Sa⟩:=ga (na1 - 1) (by omega)
    refine j7 (C4 ea ?_)
    refine j7 (V9 o C (hS.k.trans hk) Sa (by omega) (fun i y hi e=>hSb y (d9 (by rw[<- tl];exact e))) (fun i j y z hij hj e e'=>leB _ _ y z (G9 hij _) (by rw[<- tl];exact e) (by rw[<- tl];exact e')) (by omega) fun k' hkn' hlt2 hge2=>?_)
    dsimp (config:={ zeta:=false }) only
    have hlt2':∀ y∈(b.toList.take k').reverse,le B y ax:=fun y hy=>by
     obtain⟨i,h1,h2,h3⟩:=J6 hy
     have q:=hlt2 i y h1 (by rw[K5,tl];exact h3)
     have q':B y ax=true:=by simpa [byn] using q
     exact o.of_lt q'
    have hge2':∀ y∈((b.toList.drop k').take (n2 - k')).reverse,∀ z∈(a.toList.take na1).reverse,le B z y:=fun y hy z hz'=>by
     rw[Q3]at hy
     obtain⟨i,h1,h3⟩:=X2 hy
     have q:=hge2 (k'+i) y (by omega) (by omega) (by rw[K5,tl];exact h3)
     obtain⟨j',h4,h5,h6⟩:=J6 hz'
     have q':B y ax=false:=by simpa [byn] using q
     exact o.trans (leA j' (na1 - 1) z ax (by omega) h6 ea') q'
    have m3':=blkB o2 na1 n2 k' hkn' m2 hge2'
    have sz2:o2.size+na1+n2=a.size+b.size:=by omega
    generalize hd2:n2 - k'=d2
    generalize eo:o2=o
    generalize en:n2=n
    revert o n
    refine an7 (R:=fun out2 nb2=>HM B a b out2 na1 nb2/\(∀ y∈(b.toList.take nb2).reverse,le B y ax)/\1<nb2/\nb2<=b.size/\out2.size+na1+nb2=a.size+b.size/\x+2<=out2.size) ?_ (fun hk J=>?_) (fun hk=>?_)
    rotate_left
    ·by_cases e6:k'=1
     ·refine J4 (by simpa using e6) ?_
      exact m5 ⟨hS.mg _,.inl ⟨_,_,_,_,_,_,_,rfl,goodFirst _ _ _ m3' e6⟩⟩
     refine G7 (by simpa using e6) ?_
     by_cases e7:k'=0
     ·refine J4 (by simpa using e7) ?_
      exact m5 ⟨hS.mg _,.inl ⟨_,_,_,_,_,_,_,rfl,goodDone _ _ _ m3' (.inr e7)⟩⟩
     refine G7 (by simpa using e7) ?_
     exact J (o2++(b.extract k' n2).reverse) k' ⟨m3',hlt2',by omega,by omega,by rw[G3,bF5,F5];omega,by rw[G3];omega⟩
    ·have e8:k'=n2:=by omega
     exact⟨m2,by rw[<- e8];exact hlt2',by omega,by omega,sz2,by omega⟩
    rintro out2 nb2 ⟨m3,hge3,hne3,hle3,sz3,z3⟩
    refine j7 (C4 ea ?_)
    have m4:=pushA out2 na1 nb2 ax hne1 m3 ea' hge3
    by_cases e7:na1 - 1=0
    ·refine J4 (by simpa using e7) ?_
     exact m5 ⟨hS.mg _,.inl ⟨_,_,_,_,_,_,_,rfl,goodDone _ _ _ m4 (.inl e7)⟩⟩
    refine G7 (by simpa using e7) ?_
    have I4:HiI B a b (out2.push ax) (na1 - 1) nb2:=⟨m4,by omega,by omega,hne3,hle3,by rw[x6];omega⟩
    have z4:x+2<=(out2.push ax).size:=by
     rw[x6]
     omega
    refine ai8 ?_ ?_
    ·exact m5 ⟨hS.mg _,.inr ⟨_,_,_,_,_,_,rfl,I4,z4⟩⟩
    ·exact m5 ⟨hS.mg _,_,_,_,_,_,_,rfl,I4,z4⟩
end
def KF {O:aV1}(f:Keyed->O.α)(d:O.α)(xs:Array Keyed)(i:Nat):O.α:=match xs[i]? with
 | some p=>f p
 | none=>d
def Bf {O:aV1}(f:Keyed->O.α)(x y:Keyed):Bool:=O.blt (f x) (f y)
theorem Bf.ord {O:aV1}(f:Keyed->O.α):Ord (Bf f):=⟨fun x=>O.irrefl _,fun x y z=>O.trans _ _ _,fun x y z=>O.negTrans _ _ _⟩
section
variable {O:aV1} {f:Keyed->O.α} {d:O.α}
theorem ai3 {xs ys:Array Keyed}(h:xs[i]?=ys[j]?):KF f d xs i=KF f d ys j:=by unfold KF;rw[h]
theorem ax6 {xs:Array Keyed}{x:Keyed}(h:xs[i]?=some x):KF f d xs i=f x:=by unfold KF;rw[h]
theorem aG8 {xs:Array Keyed}{src dd:Nat}(hs:src<xs.size)(hd:dd<=src)(k:Nat) :
  KF f d (bubble xs src dd) k=if k=src - dd then KF f d xs src else if src - dd<k/\k<=src then KF f d xs (k - 1) else KF f d xs k:=by
 have e:=getElem?_bubble hs dd hd k
 repeat' split at e
 all_goals first
  | (rw[if_pos (by assumption)];exact ai3 e)
  | (rw[if_neg (by assumption),if_pos (by assumption)];exact ai3 e)
  | (rw[if_neg (by assumption),if_neg (by assumption)];exact ai3 e)
theorem as5 {xs:Array Keyed}(hj:j<=xs.size)(k:Nat):KF f d (mirror xs i j ((j - i) / 2)) k=if i<=k/\k<j then KF f d xs (i+j - 1 - k) else KF f d xs k:=by
 have e:=bT6 (i:=i) hj k
 split at e
 ·rw[if_pos (by assumption)];exact ai3 e
 ·rw[if_neg (by assumption)];exact ai3 e
theorem N9 {xs:Array Keyed}(hj:j<=xs.size)(heq:∀ k,i<=k->k<j->KF f d xs k=KF f d xs (j - 1))(k:Nat):KF f d (mirror xs i j ((j - i) / 2)) k=KF f d xs k:=by
 rw[as5 hj]
 split
 ·rw[heq _ (by omega) (by omega),heq k (by omega) (by omega)]
 ·rfl
end
def U6 {O:aV1}(f:Keyed->O.α)(d:O.α)(lo:Nat)(xs:Array Keyed)(k:Nat):Prop:=∀ i j,i<=j->j<k->O.kle (KF f d xs (lo+i)) (KF f d xs (lo+j))
def af2 {O:aV1}(f:Keyed->O.α)(d:O.α)(lo:Nat)(xs:Array Keyed)(k:Nat):Prop:=∀ i j,i<=j->j<k->O.kle (KF f d xs (lo+j)) (KF f d xs (lo+i))
def Pre (lo:Nat)(xs ys:Array Keyed):Prop:=∀ k,k<lo->ys[k]?=xs[k]?
theorem Pre.rf (lo:Nat)(xs:Array Keyed):Pre lo xs xs:=fun _ _=>rfl
theorem Pre.trans {lo:Nat}{xs ys zs:Array Keyed}(a:Pre lo xs ys)(b:Pre lo ys zs):Pre lo xs zs:=fun k hk=>(b k hk).trans (a k hk)
theorem Pre.mirror {lo:Nat}{xs:Array Keyed}(hj:j<=xs.size)(hi:lo<=i):Pre lo xs (mirror xs i j ((j - i) / 2)):=fun k hk=>by
 rw[bT6 hj,if_neg (by omega)]
theorem Pre.bubble {lo src dd:Nat}{xs:Array Keyed}(hs:src<xs.size)(hd:dd<=src)(hl:lo<=src - dd):Pre lo xs (bubble xs src dd):=fun k hk=>by
 rw[getElem?_bubble hs dd hd,if_neg (by omega),if_neg (by omega)]
structure SI (a₀:Array Keyed) (κ:SortKind) (p:Array (Nat × Nat × Nat)) (st:SortSt):Prop where
 perm:(m8 st).Perm a₀
 kind:kindOf st=κ
 failed:M9 st=none
 pend:B4 st=p
section
variable {a₀:Array Keyed} {p:Array (Nat × Nat × Nat)} {O:aV1} {f:Keyed->O.α} {d:O.α}
theorem SI.size {st:SortSt}(h:SI a₀ κ p st):(m8 st).size=a₀.size:=h.perm.size_eq
theorem SI.setArr {st:SortSt}(h:SI a₀ κ p st){xs:Array Keyed}(hp:xs.Perm (m8 st)):SI a₀ κ p (setArr st xs):=⟨hp.trans h.perm,h.kind,h.failed,h.pend⟩
theorem SI.at {st:SortSt}(h:SI a₀ κ p st)(hi:i<a₀.size):∃ x,(m8 st)[i]?=some x/\x∈a₀.toList:=by
 have hi':i<(m8 st).size:=by rw[h.size];exact hi
 exact⟨(m8 st)[i],getElem?_pos _ i hi',(L8.mp h.perm).mem_iff.mp (by simp)⟩
abbrev bF3 (prog:Program)(w:World)(A:Around)(E:Value->Shared->Prop)(s:Shared)(κ:SortKind)(a₀:Array Keyed){O:aV1}(f:Keyed->O.α):Prop:=Cmp prog w A E s κ (·∈a₀.toList) (Bf f)
theorem ae2 (C:bF3 prog w A E s κ a₀ f){st:SortSt}{Q:Option Bool->SortSt->Prop}(hB:SI a₀ κ p st)(hi:i<a₀.size)(hj:j<a₀.size)
  (h:Q (some (O.blt (KF f d (m8 st) i) (KF f d (m8 st) j))) st):wpS (n6 prog w) A E s (ltAt' i j) Q st:=by
 obtain⟨x,e1,hx⟩:=hB.at hi
 obtain⟨y,e2,hy⟩:=hB.at hj
 rw[ax6 e1,ax6 e2]at h
 exact bh7 C hB.kind e1 e2 hx hy h
theorem ba9 {st:SortSt} {lo a nrem:Nat} {Q:Option (Option Nat) × Nat->SortSt->Prop} {b:Nat->Option (Option Nat) × Nat->StateT SortSt Sem (ForInStep (Option (Option Nat) × Nat))} (ha:1<=a) (han:a<=nrem)
  (hb : ∀ x n (R : ForInStep (Option (Option Nat) × Nat) -> SortSt -> Prop), 1 <= n -> n < nrem -> (O.klt (KF f d (m8 st) (lo + n)) (KF f d (m8 st) (lo + n - 1)) -> R (.done (none, n)) st) ->
   (O.kle (KF f d (m8 st) (lo+n - 1)) (KF f d (m8 st) (lo+n))->R (.yield (none,n+1)) st)->wpS (n6 prog w) A E s (b x (none,n)) R st)
  (hs:U6 f d lo (m8 st) a)
  (h:∀ n,a<=n->n<=nrem->U6 f d lo (m8 st) n->(n=nrem\/O.klt (KF f d (m8 st) (lo+n)) (KF f d (m8 st) (lo+n - 1)))->Q (none,n) st) :
  wpS (n6 prog w) A E s (forIn [a:nrem] (none,a) b) Q st:=by
 refine E5 (I:=fun x c st'=>st'=st/\c=(none,x)/\U6 f d lo (m8 st) x) ?step ?fin ⟨rfl,rfl,hs⟩
 case fin =>
  rintro c st' ⟨rfl,rfl,hs'⟩
  rw[show max a nrem=nrem by omega]at hs' ⊢
  exact h nrem han (c5 _) hs' (.inl rfl)
 case step =>
  rintro x c st' hax hxn ⟨rfl,rfl,hs'⟩
  refine hb x x _ (by omega) hxn (fun q=>h x hax (by omega) hs' (.inr q)) (fun q=>⟨rfl,rfl,fun i j hij hj=>?_⟩)
  by_cases hjx:j<x
  ·exact hs' i j hij hjx
  ·have hj':j=x:=by omega
   subst hj'
   by_cases hi':i=j
   ·subst hi';exact KeyOrd.kle_refl _
   ·refine KeyOrd.kle_trans (hs' i (j - 1) (by omega) (by omega)) ?_
    rw[show lo+(j - 1)=lo+j - 1 by omega]
    exact q
theorem bm6 {st:SortSt} {lo nrem:Nat} {Q:Option (Option Nat) × Nat × Nat->SortSt->Prop} (hn:lo+nrem<=a₀.size) (h1:1<=n) (hnn:n<=nrem) (hB:SI a₀ κ p st)
  (hb : ∀ y x neq st' (R : ForInStep (Option (Option Nat) × Nat × Nat) -> SortSt -> Prop), SI a₀ κ p st' -> 1 <= x -> x < nrem ->
   (O.klt (KF f d (m8 st') (lo+x)) (KF f d (m8 st') (lo+x - 1))->0<neq->R (.yield (none,x+1,0)) (setArr st' (mirror (m8 st') (lo+x - (neq+1)) (lo+x) ((lo+x - (lo+x - (neq+1))) / 2)))) ->
   (O.klt (KF f d (m8 st') (lo+x)) (KF f d (m8 st') (lo+x - 1))->R (.yield (none,x+1,0)) st') ->
   (R (.done (none,x,neq)) st') ->
   (O.kle (KF f d (m8 st') (lo+x - 1)) (KF f d (m8 st') (lo+x))->O.kle (KF f d (m8 st') (lo+x)) (KF f d (m8 st') (lo+x - 1))->R (.yield (none,x+1,neq+1)) st')->wpS (n6 prog w) A E s (b y (none,x,neq)) R st')
  (hs:af2 f d lo (m8 st) n)
  (h:∀ m neq st',SI a₀ κ p st'->Pre lo (m8 st) (m8 st')->n<=m->m<=nrem->af2 f d lo (m8 st') m->neq+1<=m->(∀ i,m - (neq+1)<=i->i<m->KF f d (m8 st') (lo+i)=KF f d (m8 st') (lo+m - 1))->Q (none,m,neq) st') :
  wpS (n6 prog w) A E s (forIn [n:nrem] (none,n,0) b) Q st:=by
 refine E5 (I:=fun x c st'=>∃ neq,c=(none,x,neq)/\SI a₀ κ p st'/\Pre lo (m8 st) (m8 st')/\af2 f d lo (m8 st') x/\neq+1<=x /\
   (∀ i,x - (neq+1)<=i->i<x->KF f d (m8 st') (lo+i)=KF f d (m8 st') (lo+x - 1))) ?step ?fin ⟨0,rfl,hB,Pre.rf _ _,hs,by omega,fun i h1 h2=>by congr 1;omega⟩
 case fin =>
  rintro c st' ⟨neq,rfl,hB',hp',hs',hq,he⟩
  rw[show max n nrem=nrem by omega]at hs' hq he ⊢
  exact h nrem neq st' hB' hp' hnn (c5 _) hs' hq he
 case step =>
  rintro x c st' hax hxn ⟨neq,rfl,hB',hp',hs',hq,he⟩
  have hsz:lo+x<=(m8 st').size:=by rw[hB'.size];omega
  have step1:O.klt (KF f d (m8 st') (lo+x)) (KF f d (m8 st') (lo+x - 1))->∀ xs:Array Keyed,(∀ k,KF f d xs k=KF f d (m8 st') k)->af2 f d lo xs (x+1):=by
   intro hless xs hk i j hij hj
   rw[hk,hk]
   by_cases hjx:j<x
   ·exact hs' i j hij hjx
   ·have hj':j=x:=by omega
    subst hj'
    by_cases hi':i=j
    ·subst hi';exact KeyOrd.kle_refl _
    ·refine KeyOrd.kle_trans (KeyOrd.kle_of_klt hless) ?_
     rw[show lo+j - 1=lo+(j - 1) by omega]
     exact hs' i (j - 1) (by omega) (by omega)
  have he':∀ k,lo+x - (neq+1)<=k->k<lo+x->KF f d (m8 st') k=KF f d (m8 st') (lo+x - 1):=fun k h1 h2=>by
   have:=he (k - lo) (by omega) (by omega)
   rw[show lo+(k - lo)=k by omega]at this
   exact this
  refine hb x x neq st' _ hB' (by omega) hxn (fun q hneq=>?_) (fun q=>?_) (h x neq st' hB' hp' hax (by omega) hs' hq he) (fun q q'=>?_)
  ·exact⟨0,rfl,hB'.setArr (bh2 _ _ _ _),hp'.trans (Pre.mirror hsz (by omega)),step1 q _ (N9 hsz he'),by omega,fun i h1 h2=>by congr 1;omega⟩
  ·exact⟨0,rfl,hB',hp',step1 q _ (fun _=>rfl),by omega,fun i h1 h2=>by congr 1;omega⟩
  ·have heqx:KF f d (m8 st') (lo+x)=KF f d (m8 st') (lo+x - 1):=KeyOrd.kle_antisymm q' q
   refine⟨neq+1,rfl,hB',hp',fun i j hij hj=>?_,by omega,fun i h1 h2=>?_⟩
   ·by_cases hjx:j<x
    ·exact hs' i j hij hjx
    ·have hj':j=x:=by omega
     subst hj'
     by_cases hi':i=j
     ·subst hi';exact KeyOrd.kle_refl _
     ·rw[heqx,show lo+j - 1=lo+(j - 1) by omega];exact hs' i (j - 1) (by omega) (by omega)
   ·rw[show lo+(x+1) - 1=lo+x by omega]
    by_cases hix:i=x
    ·subst hix;rfl
    ·rw[heqx];exact he i (by omega) (by omega)
theorem wpS_countRun (C:bF3 prog w A E s κ a₀ f) {st:SortSt} {lo nrem:Nat} {Q:Option Nat->SortSt->Prop} (d:O.α) (hn:lo+nrem<=a₀.size) (h1:1<=nrem) (hB:SI a₀ κ p st)
    (h:∀ m st',SI a₀ κ p st'->Pre lo (m8 st) (m8 st')->1<=m->m<=nrem->U6 f d lo (m8 st') m->Q (some m) st') :
    wpS (n6 prog w) A E s (countRun' lo nrem) Q st:=by
  rw[countRun'_eq]
  dsimp only
  refine j7 (ba9 (f:=f) (d:=d) (lo:=lo) (c5 1) h1 (fun x n R hn1 hn2 q1 q2=>?_) (fun i j hij hj=>by have:i=j:=(by omega);subst this;exact KeyOrd.kle_refl _) fun n hn1 hn2 hsn hor=>?_)
  · dsimp only
    refine j7 (ae2 (d:=d) C hB (by omega) (by omega) ?_)
    cases e:O.blt (KF f d (m8 st) (lo+n)) (KF f d (m8 st) (lo+n - 1)) with
    | true=>exact m5 (q1 e)
    | false=>exact m5 (q2 e)
  dsimp only
  by_cases hnn:n=nrem
  · rw[if_pos (by simpa using hnn)]
    exact m5 (h n st hB (Pre.rf _ _) hn1 hn2 hsn)
  rw[if_neg (by simpa using hnn)]
  have hlt:=hor.resolve_left hnn
  by_cases hrose:1<n/\O.blt (KF f d (m8 st) lo) (KF f d (m8 st) (lo+n - 1))=true
  · rw[if_pos hrose.1]
    refine j7 (ae2 (d:=d) C hB (by omega) (by omega) ?_)
    rw[hrose.2]
    exact m5 (h n st hB (Pre.rf _ _) hn1 hn2 hsn)
  have hfell:1<n->O.blt (KF f d (m8 st) lo) (KF f d (m8 st) (lo+n - 1))=false:=fun hgt=>by
    cases e:O.blt (KF f d (m8 st) lo) (KF f d (m8 st) (lo+n - 1)) with
    | false=>rfl
    | true=>exact absurd ⟨hgt,e⟩ hrose
  have fall:∃ st2,SI a₀ κ p st2/\Pre lo (m8 st) (m8 st2)/\af2 f d lo (m8 st2) (n+1)/\(n > 1->st2=setArr st (mirror (m8 st) lo (lo+n) ((lo+n - lo) / 2)))/\(¬ n > 1->st2=st):=by
    by_cases hgt:1<n
    · have hfell:=hfell hgt
      have hsz:lo+n<=(m8 st).size:=by rw[hB.size];omega
      have hall:∀ k,lo<=k->k<lo+n->KF f d (m8 st) k=KF f d (m8 st) (lo+n - 1):=by
        intro k hk0 hk
        have a1:=hsn 0 (k - lo) (by omega) (by omega)
        have a2:=hsn (k - lo) (n - 1) (by omega) (by omega)
        rw[show lo+0=lo by omega,show lo+(k - lo)=k by omega]at a1
        rw[show lo+(k - lo)=k by omega,show lo+(n - 1)=lo+n - 1 by omega]at a2
        exact KeyOrd.kle_antisymm a2 (KeyOrd.kle_trans hfell a1)
      refine⟨_,hB.setArr (bh2 _ _ _ _),Pre.mirror hsz (c5 _),?_,fun _=>rfl,fun e=>by omega⟩
      intro i j hij hj
      show O.kle (KF f d (mirror (m8 st) _ _ _) (lo+j)) (KF f d (mirror (m8 st) _ _ _) (lo+i))
      rw[N9 hsz hall,N9 hsz hall]
      by_cases hjn:j<n
      · rw[hall (lo+i) (by omega) (by omega),hall (lo+j) (by omega) (by omega)];exact KeyOrd.kle_refl _
      · have hj':j=n:=by omega
        subst hj'
        by_cases hi':i=j
        · subst hi';exact KeyOrd.kle_refl _
        · rw[hall (lo+i) (by omega) (by omega)];exact KeyOrd.kle_of_klt hlt
    · have hn1':n=1:=by omega
      subst hn1'
      refine⟨st,hB,Pre.rf _ _,?_,fun q=>by omega,fun _=>rfl⟩
      intro i j hij hj
      by_cases hi':i=j
      · subst hi';exact KeyOrd.kle_refl _
      · have hi0:i=0:=by omega
        have hj1:j=1:=by omega
        subst hi0;subst hj1
        rw[show lo+0=lo+1 - 1 by omega]
        exact KeyOrd.kle_of_klt hlt
  obtain⟨st2,hB2,hp2,hs2,e2,e3⟩:=fall
  by_cases hgt:n > 1
  all_goals first
    | (rw [if_pos hgt]
       refine j7 (ae2 (d:=d) C hB (by omega) (by omega) ?_)
       rw[hfell hgt]
       dsimp only
       rw[if_neg d4]
       refine j7 (aC4 ?_)
       rw[<- e2 hgt])
    | (rw [if_neg hgt]
       have e3:=e3 hgt
       rw[<- e3])
  all_goals
    clear e2 e3
    refine j7 (ac6 ?_)
    refine j7 (bm6 (f:=f) (d:=d) (lo:=lo) hn (by omega) (by omega) hB2 (fun y x neq st' R hB' x1 x2 q1 q2 q3 q4=>?_) hs2 fun m neq st' hB' hp' hm1 hm2 hs' hq he=>?_)
    · dsimp only
      refine j7 (ae2 (d:=d) C hB' (by omega) (by omega) ?_)
      cases e:O.blt (KF f d (m8 st') (lo+x)) (KF f d (m8 st') (lo+x - 1)) with
      | true =>
        dsimp only
        rw[if_pos rfl]
        split
        · rename_i hz
          exact j7 (aC4 (m5 (q1 e hz)))
        · exact m5 (q2 e)
      | false =>
        dsimp only
        rw[if_neg d4]
        refine j7 (ae2 (d:=d) C hB' (by omega) (by omega) ?_)
        cases e':O.blt (KF f d (m8 st') (lo+x - 1)) (KF f d (m8 st') (lo+x)) with
        | true=>exact m5 q3
        | false=>exact m5 (q4 e e')
    · dsimp only
      have hsz:lo+m<=(m8 st').size:=by rw[hB'.size];omega
      have he':∀ k,lo+m - (neq+1)<=k->k<lo+m->KF f d (m8 st') k=KF f d (m8 st') (lo+m - 1):=fun k h1 h2=>by
        have:=he (k - lo) (by omega) (by omega)
        rw[show lo+(k - lo)=k by omega]at this
        exact this
      have tailOk:∀ st3,SI a₀ κ p st3->Pre lo (m8 st) (m8 st3)->af2 f d lo (m8 st3) m->SI a₀ κ p (setArr st3 (mirror (m8 st3) lo (lo+m) ((lo+m - lo) / 2)))/\Pre lo (m8 st) (mirror (m8 st3) lo (lo+m) ((lo+m - lo) / 2))/\U6 f d lo (mirror (m8 st3) lo (lo+m) ((lo+m - lo) / 2)) m:=fun st3 hB3 hp3 hs3=>by
        have hsz3:lo+m<=(m8 st3).size:=by rw[hB3.size];omega
        refine⟨hB3.setArr (bh2 _ _ _ _),hp3.trans (Pre.mirror hsz3 (c5 _)),fun i j hij hj=>?_⟩
        rw[as5 hsz3,as5 hsz3,if_pos (by omega),if_pos (by omega),show lo+(lo+m) - 1 - (lo+i)=lo+(m - 1 - i) by omega,show lo+(lo+m) - 1 - (lo+j)=lo+(m - 1 - j) by omega]
        exact hs3 _ _ (by omega) (by omega)
      have mm:af2 f d lo (mirror (m8 st') (lo+m - (neq+1)) (lo+m) ((lo+m - (lo+m - (neq+1))) / 2)) m:=fun i j hij hj=>by
        rw[N9 hsz he',N9 hsz he']
        exact hs' i j hij hj
      by_cases hneq:neq > 0
      all_goals first
        | (rw [if_pos hneq]
           refine j7 (aC4 (j7 (aC4 ?_)))
           obtain⟨hB4,hp4,hs4⟩:=tailOk (setArr st' (mirror (m8 st') (lo+m - (neq+1)) (lo+m) ((lo+m - (lo+m - (neq+1))) / 2))) (hB'.setArr (bh2 _ _ _ _)) ((hp2.trans hp').trans (Pre.mirror hsz (by omega))) mm)
        | (rw [if_neg hneq]
           refine j7 (aC4 ?_)
           obtain⟨hB4,hp4,hs4⟩:=tailOk st' hB' (hp2.trans hp') hs')
      all_goals
        refine j7 (ba9 (f:=f) (d:=d) (lo:=lo) (by omega) hm2 (fun x n R hn1 hn2 q1 q2=>?_) hs4 fun n' hn1' hn2' hsn' _=>m5 (h n' _ hB4 hp4 (by omega) hn2' hsn'))
        dsimp only
        refine j7 (ae2 (d:=d) C hB4 (by omega) (by omega) ?_)
        revert q1 q2
        generalize KF f d (m8 _) (lo+n)=u
        generalize KF f d (m8 _) (lo+n - 1)=v
        intro q1 q2
        cases e:O.blt u v with
        | true=>exact m5 (q1 e)
        | false=>exact m5 (q2 e)
theorem au2 (C:bF3 prog w A E s κ a₀ f) {st:SortSt} {lo ok:Nat} {Q:Bool->SortSt->Prop} (d:O.α) (hn:lo+n<=a₀.size) (hok:ok<=n) (hB:SI a₀ κ p st) (hs:U6 f d lo (m8 st) ok)
  (h:∀ st',SI a₀ κ p st'->Pre lo (m8 st) (m8 st')->U6 f d lo (m8 st') n->Q true st'):wpS (n6 prog w) A E s (binarySort' lo n ok) Q st:=by
 rw[binarySort'_eq]
 refine j7 (W9 (E5 (I:=fun k c st'=>c=(none,())/\SI a₀ κ p st'/\Pre lo (m8 st) (m8 st')/\U6 f d lo (m8 st') (min k n))
  (Q:=fun c st'=>c=(none,())/\SI a₀ κ p st'/\Pre lo (m8 st) (m8 st')/\U6 f d lo (m8 st') n) ?step ?fin ?init) ?post)
 case post =>
  rintro c st' ⟨rfl,hB',hp',hs'⟩
  exact m5 (h st' hB' hp' hs')
 case init =>
  refine⟨rfl,hB,Pre.rf _ _,fun i j hij hj=>?_⟩
  by_cases h1:ok=0
  ·have:i=j:=by omega
   subst this;exact KeyOrd.kle_refl _
  ·exact hs i j hij (by omega)
 case fin =>
  rintro c st' ⟨hc,hB',hp',hs'⟩
  refine⟨hc,hB',hp',?_⟩
  rwa [show min (max (max ok 1) n) n=n by omega]at hs'
 case step =>
  rintro k c st' hak hkn ⟨rfl,hB',hp',hs'⟩
  rw[show min k n=k by omega]at hs'
  have hk:lo+k<a₀.size:=by omega
  refine j7 (W9 (E5 (I:=fun x c st''=>st''=st'/\∃ l r,c=(none,l,r)/\l<=r/\r<=k/\r - l<=k - x /\
    (∀ i,i<l->O.kle (KF f d (m8 st') (lo+i)) (KF f d (m8 st') (lo+k)))/\(∀ i,r<=i->i<k->O.klt (KF f d (m8 st') (lo+k)) (KF f d (m8 st') (lo+i))))
   (Q := fun c st'' => st'' = st' /\ ∃ l r, c = (none, l, r) /\ l <= k /\
    (∀ i,i<l->O.kle (KF f d (m8 st') (lo+i)) (KF f d (m8 st') (lo+k)))/\(∀ i,l<=i->i<k->O.klt (KF f d (m8 st') (lo+k)) (KF f d (m8 st') (lo+i)))) ?istep ?ifin ?iinit) ?ipost)
  case iinit=>exact⟨rfl,0,k,rfl,by omega,by omega,by omega,fun i hi=>by omega,fun i h1 h2=>by omega⟩
  case ifin =>
   rintro c st'' ⟨rfl,l,r,rfl,hlr,hrk,hm,hlo,hhi⟩
   have:l=r:=by omega
   subst this
   exact⟨rfl,l,l,rfl,hrk,hlo,hhi⟩
  case istep =>
   rintro x c st'' _ hxk ⟨rfl,l,r,rfl,hlr,hrk,hm,hlo,hhi⟩
   dsimp only
   by_cases hge:l≥r
   ·rw[if_pos hge]
    have:l=r:=by omega
    subst this
    exact m5 ⟨rfl,l,l,rfl,hrk,hlo,hhi⟩
   ·rw[if_neg hge]
    refine j7 (ae2 (d:=d) C hB' hk (by omega) ?_)
    cases hless:O.blt (KF f d (m8 st'') (lo+k)) (KF f d (m8 st'') (lo+(l+r) / 2))
    case true =>
     simp only[if_true]
     refine m5 ⟨rfl,l,(l+r) / 2,rfl,by omega,by omega,by omega,hlo,fun i h1 h2=>?_⟩
     exact KeyOrd.klt_of_klt_of_kle hless (hs' _ _ h1 h2)
    case false =>
     simp only[d7,if_false]
     refine m5 ⟨rfl,(l+r) / 2+1,r,rfl,by omega,by omega,by omega,fun i h1=>?_,hhi⟩
     exact KeyOrd.kle_trans (hs' i ((l+r) / 2) (by omega) (by omega)) (show O.kle _ _ from hless)
  case ipost =>
   rintro c st'' ⟨rfl,l,r,rfl,hlk,hlo,hhi⟩
   show wpS _ _ _ _ (do moveDown' (lo+k) (lo+l);pure (ForInStep.yield (none,()))) _ _
   rw[moveDown'_eq]
   have hks:lo+k<(m8 st'').size:=by rw[hB'.size];exact hk
   refine j7 (av8 (m5 ⟨rfl,hB'.setArr (bubble_perm _ _ _),hp'.trans (Pre.bubble hks (by omega) (by omega)),?_⟩))
   rw[show min (k+1) n=k+1 by omega]
   intro i j hij hj
   show O.kle (KF f d (bubble (m8 st'') (lo+k) (lo+k - (lo+l))) (lo+i)) (KF f d (bubble (m8 st'') (lo+k) (lo+k - (lo+l))) (lo+j))
   rw[aG8 hks (by omega),aG8 hks (by omega),show lo+k - (lo+k - (lo+l))=lo+l by omega]
   have e1:∀ t:Nat,0<t->lo+t - 1=lo+(t - 1):=fun t ht=>by omega
   repeat' split
   all_goals first
    | (exfalso;omega)
    | exact KeyOrd.kle_refl _
    | exact hlo _ (by omega)
    | (rw[e1 _ (by omega)];exact KeyOrd.kle_of_klt (hhi _ (by omega) (by omega)))
    | exact KeyOrd.kle_of_klt (hhi _ (by omega) (by omega))
    | exact hs' _ _ (by omega) (by omega)
    | (rw[e1 _ (by omega)];exact hs' _ _ (by omega) (by omega))
    | (rw[e1 _ (by omega),e1 _ (by omega)];exact hs' _ _ (by omega) (by omega))
end
theorem aR2 (i:Nat):mergeAt' i=(do
 let s <- get
 let (some (sa,na,power),some (sb,nb,_)):=((B4 s)[i]?,(B4 s)[i+1]?) | Q7 "internal:list.sort.pending"
 set (bx0 s (((B4 s).setIfInBounds i (sa,na+nb,power)).eraseIdxIfInBounds (i+1)))
 let some k <- Z2 false (<- ag5 (m8 s) sb) (m8 s) sa na 0 | return false
 let (sa,na):=(sa+k,na - k)
 if na == 0 then return true
 let some nb <- Z2 true (<- ag5 (m8 s) (sa+na - 1)) (m8 s) sb nb (nb - 1) | return false
 if nb == 0 then return true
 let x:=(m8 s).extract sa sb
 let y:=(m8 s).extract sb (sb+nb)
 let merged <- if na<=nb then aA3 x y else aA4 x y
 modify fun s=>setArr s (merged.toList.zipIdx.foldl (fun a (p,j)=>a.setIfInBounds (sa+j) p) (m8 s))
 return (M9 (<- get)).isNone):=rfl
def shape (ps:List (Nat × Nat × Nat)):List (Nat × Nat):=ps.map fun x=>(x.1,x.2.1)
def ao3:Nat->List (List Keyed)->List (Nat × Nat)
 | _,[]=>[]
 | k,r::rs=>(k,r.length)::ao3 (k+r.length) rs
theorem ab6:∀ (k:Nat) (rs ts:List (List Keyed)),ao3 k (rs++ts)=ao3 k rs++ao3 (k+rs.flatten.length) ts
 | k,[],ts=>by simp[ao3]
 | k,r::rs,ts=>by
  rw[List.cons_append]
  show (k,r.length)::ao3 (k+r.length) (rs++ts)=(k,r.length)::(ao3 (k+r.length) rs++_)
  rw[ab6 (k+r.length) rs ts,O4,j9,Nat.add_assoc]
theorem ab5:∀ (k:Nat) (rs:List (List Keyed)),(ao3 k rs).length=rs.length
 | _,[]=>rfl
 | k,r::rs=>by
  show (ao3 (k+r.length) rs).length+1=rs.length+1
  rw[ab5]
theorem aO3 {α:Type}{l:List α}(h:i+1<l.length):∃ l1 u v l2,l=l1++u::v::l2/\l1.length=i:=by
 refine⟨l.take i,l[i],l[i+1],l.drop (i+2),?_,by rw[A4];omega⟩
 rw[<- U8,<- U8,J2]
theorem aT0 (b:Nat):∀ (m:List Keyed) (k:Nat) (arr:Array Keyed),b+k+m.length<=arr.size ->
  (ac5 (fun a x=>match x with | (p,j)=>bx1 a (b+j) p) arr (m.zipIdx k)).toList=arr.toList.take (b+k)++(m++arr.toList.drop (b+k+m.length))
 | [],k,arr,h=>by simp
 | x::m,k,arr,h=>by
  rw[o6]at h
  rw[List.zipIdx_cons,X7,aT0 b m (k+1) _ (by rw[ba4];omega)]
  dsimp only
  rw[aU5]
  have hl:b+k<arr.toList.length:=by rw[d8];omega
  rw[List.set_eq_take_append_cons_drop,if_pos hl]
  have e1:(aU6 (b+k) arr.toList).length=b+k:=by rw[A4];omega
  have e2:(aU6 (b+k) arr.toList++x::bw4 (b+k+1) arr.toList).take (b+(k+1))=aU6 (b+k) arr.toList++[x]:=by
   rw[bS9,e1,show b+(k+1) - (b+k)=1 by omega,p8 (by rw[e1];omega)]
   rfl
  have e3:(aU6 (b+k) arr.toList++x::bw4 (b+k+1) arr.toList).drop (b+(k+1)+m.length)=arr.toList.drop (b+k+(m.length+1)):=by
   rw[aa8,e1,E3 (by rw[e1];omega),L5,show b+(k+1)+m.length - (b+k)=m.length+1 by omega,List.drop_succ_cons,ba2]
   congr 1
   omega
  rw[e2,e3,r0]
  rfl
theorem by5 {σ:Type}{x:σ}{Q:PUnit->σ->Prop}{st:σ}(h:Q ⟨⟩ x):wpS M A E s (set x:StateT σ Sem PUnit) Q st:=by
 unfold wpS;rw[StateT.run_set];exact a8 ⟨rfl,h⟩
structure SR (a₀:Array Keyed) (κ:SortKind) (B:Keyed->Keyed->Bool) (runs:List (List Keyed)) (suf:List Keyed) (st:SortSt):Prop where
 perm:(m8 st).Perm a₀
 kind:kindOf st=κ
 failed:M9 st=none
 sh:shape (B4 st).toList=ao3 0 runs
 ok:∀ r∈runs,r≠[]/\r.Pairwise (le B)
 arr:(m8 st).toList=runs.flatten++suf
section
variable {a₀:Array Keyed}
theorem ad2 {l:List Keyed}(h:l.Pairwise R)(rf:∀ x,R x x){x y:Keyed}(hij:i<=j)(hx:l[i]?=some x)(hy:l[j]?=some y):R x y:=by
 obtain⟨h1,rfl⟩:=a9.mp hx
 obtain⟨h2,rfl⟩:=a9.mp hy
 rcases J9 hij with hlt | rfl
 ·exact o4.mp h i j h1 h2 hlt
 ·exact rf _
theorem as8 (o:Ord B)(C:Cmp prog w A E s κ (·∈a₀.toList) B){st:SortSt}{runs:List (List Keyed)}{suf:List Keyed}{Q:Bool->SortSt->Prop}(I:SR a₀ κ B runs suf st)(hi:i+1<runs.length)
  (h:∀ runs' st',SR a₀ κ B runs' suf st'->runs'.length+1=runs.length->runs'.flatten.length=runs.flatten.length->Q true st'):wpS (n6 prog w) A E s (mergeAt' i) Q st:=by
 obtain⟨r1,R,R',r2,rfl,hr1⟩:=aO3 hi
 have hpl:(B4 st).toList.length=(r1++R::R'::r2).length:=by
  have:=congrArg M7 I.sh
  rw[ab5]at this
  unfold shape at this
  rw[b8]at this
  exact this
 obtain⟨l1,u,v,l2,hp,hl1⟩:=aO3 (l:=(B4 st).toList) (i:=i) (by rw[hpl];exact hi)
 have hsh:=I.sh
 rw[hp,ab6]at hsh
 unfold shape at hsh
 rw[r6]at hsh
 obtain⟨s1,s2⟩:=List.append_inj hsh (by rw[b8,ab5,hl1,hr1])
 rw[j3,j3]at s2
 simp only[ao3,List.cons.injEq,K5]at s2
 obtain⟨su,sv,s2⟩:=s2
 obtain⟨sa,na,pw⟩:=u
 obtain⟨sb,nb,pw2⟩:=v
 simp only[Prod.mk.injEq]at su sv
 obtain⟨hsa,hna⟩:=su
 obtain⟨hsb,hnb⟩:=sv
 have okR:=I.ok R (by simp)
 have okR':=I.ok R' (by simp)
 have nR:0<R.length:=av0.mpr okR.1
 have nR':0<R'.length:=av0.mpr okR'.1
 have g1:(B4 st)[i]?=some (sa,na,pw):=by
  rw[<- b7,hp,G0 (by omega),hl1,bx2]
  rfl
 have g2:(B4 st)[i+1]?=some (sb,nb,pw2):=by
  rw[<- b7,hp,G0 (by omega),hl1,show i+1 - i=1 by omega]
  rfl
 have harr:(m8 st).toList=r1.flatten++(R++(R'++(r2.flatten++suf))):=by
  rw[I.arr]
  simp
 have hsize:(m8 st).size=sa+(na+(nb+(r2.flatten++suf).length)):=by
  rw[<- d8,harr,j9,j9,j9,hsa,hna,hnb]
 have atR:∀ k,k<na->(m8 st)[sa+k]?=R[k]?:=fun k hk=>by
  rw[<- b7,harr,G0 (by omega),hsa,P7,ag2 (by omega)]
 have atR':∀ k,k<nb->(m8 st)[sb+k]?=R'[k]?:=fun k hk=>by
  rw[<- b7,harr,G0 (by omega),G0 (by omega),ag2 (by omega)]
  congr 1
  omega
 have inS:∀ x∈(m8 st).toList,x∈a₀.toList:=fun x hx=>(L8.mp I.perm).mem_iff.mp hx
 have hpend:∀ M:List Keyed,M.length=na+nb->shape (((B4 st).setIfInBounds i (sa,na+nb,pw)).eraseIdxIfInBounds (i+1)).toList=ao3 0 (r1++M::r2):=fun M hM=>by
  have e:(((B4 st).setIfInBounds i (sa,na+nb,pw)).eraseIdxIfInBounds (i+1)).toList=l1++(sa,na+nb,pw)::l2:=by
   rw[Array.toList_eraseIdxIfInBounds,aU5,hp]
   subst hl1
   rw[List.set_append_right _ _ (c5 _),bx2,bI5,List.eraseIdx_append_of_length_le (by omega)]
   rw[show l1.length+1 - l1.length=1 by omega]
   rfl
  unfold shape
  rw[e,r6,s1,ab6,j3]
  show _++(sa,na+nb)::_=_++(0+r1.flatten.length,M.length)::ao3 (0+r1.flatten.length+M.length) r2
  rw[hM,s2,K5,hsa,hna,hnb,Nat.add_assoc]
 have fin:∀ (st':SortSt) (M:List Keyed),kindOf st'=κ->M9 st'=none->B4 st'=((B4 st).setIfInBounds i (sa,na+nb,pw)).eraseIdxIfInBounds (i+1) ->
   (m8 st').toList=r1.flatten++(M++(r2.flatten++suf))->M.Perm (R++R')->M.Pairwise (le B)->Q true st':=fun st' M k1 k2 k3 k4 k5 k6=>by
  have hM:M.length=na+nb:=by rw[k5.length_eq,j9,hna,hnb]
  refine h (r1++M::r2) st' ⟨?_,k1,k2,by rw[k3];exact hpend M hM,fun r hr=>?_,?_⟩ (by simp;omega) (by simp;omega)
  ·refine Array.Perm.trans ?_ I.perm
   rw[L8,k4,harr]
   refine List.Perm.append_left _ ?_
   rw[<- r0 R]
   exact List.Perm.append_right _ k5
  ·rcases n8.mp hr with hr | hr
   ·exact I.ok r (A9 _ hr)
   ·rcases c8.mp hr with rfl | hr
    ·exact⟨by intro e;rw[e]at hM;simp at hM;omega,k6⟩
    ·exact I.ok r (j8 _ (d3 _ (d3 _ hr)))
  ·rw[k4];simp
 have both:(∀ x∈R,∀ y∈R',le B x y)->(R++R').Pairwise (le B):=fun hxy=>B7.mpr ⟨okR.2,okR'.2,hxy⟩
 rw[aR2]
 refine j7 (at7 ?_)
 rw[g1,g2]
 dsimp only
 refine j7 (by5 ?_)
 obtain⟨y0,ey0⟩:∃ y0,R'[0]?=some y0:=⟨R'[0],m6 nR'⟩
 have ey:(m8 st)[sb]?=some y0:=by
  have:=atR' 0 (by omega)
  rw[aM4]at this
  rw[this,ey0]
 refine j7 (C4 ey ?_)
 have hy0:y0∈a₀.toList:=inS y0 (d9 (by rw[b7];exact ey))
 refine j7 (V9 o C (by exact I.kind) hy0 (by omega) (fun i x hi' e=>inS x (d9 (by rw[b7];exact e)))
  (fun i j x y hij hj e e'=>ad2 okR.2 o.rf hij (by rw[<- atR i (by omega)];exact e) (by rw[<- atR j hj];exact e')) (by omega) fun k hk hlt hge=>?_)
 dsimp only
 have leR:∀ (j:Nat) (x:Keyed),j<k->R[j]?=some x->le B x y0:=fun j x hj e=>by
  have q:=hlt j x hj (by rw[atR j (by omega)];exact e)
  show B y0 x=false
  simpa [byn] using q
 have gtR:∀ (j:Nat) (x:Keyed),k<=j->R[j]?=some x->B y0 x=true:=fun j x hj e=>by
  have hjl:j<R.length:=(a9.mp e).1
  have q:=hge j x hj (by omega) (by rw[atR j (by omega)];exact e)
  simpa [byn] using q
 have leY:∀ y∈R',le B y0 y:=fun y hy=>by
  obtain⟨j,hj⟩:=l5.mp hy
  exact ad2 okR'.2 o.rf (n9 j) ey0 hj
 by_cases e0:na - k=0
 ·rw[if_pos (by simpa using e0)]
  refine m5 (fin _ (R++R') I.kind I.failed rfl ?_ (List.Perm.refl _) (both fun x hx y hy=>?_))
  ·show (m8 st).toList=_
   rw[harr];simp
  ·obtain⟨j,hj⟩:=l5.mp hx
   have hjl:j<R.length:=(a9.mp hj).1
   exact o.trans (leR j x (by omega) hj) (leY y hy)
 rw[if_neg (by simpa using e0)]
 obtain⟨xl,exl⟩:∃ xl,R[na - 1]?=some xl:=⟨R[na - 1]'(by omega),m6 (by omega)⟩
 have ex:(m8 st)[sa+k+(na - k) - 1]?=some xl:=by
  rw[show sa+k+(na - k) - 1=sa+(na - 1) by omega,atR _ (by omega),exl]
 refine j7 (C4 ex ?_)
 have hxl:xl∈a₀.toList:=inS xl (d9 (by rw[b7];exact ex))
 refine j7 (V9 o C (by exact I.kind) hxl (by omega) (fun i x hi' e=>inS x (d9 (by rw[b7];exact e)))
  (fun i j x y hij hj e e'=>ad2 okR'.2 o.rf hij (by rw[<- atR' i (by omega)];exact e) (by rw[<- atR' j hj];exact e')) (by omega) fun k2 hk2 hlt2 hge2=>?_)
 dsimp only
 have ltY:∀ (j:Nat) (x:Keyed),j<k2->R'[j]?=some x->B x xl=true:=fun j x hj e=>by
  have q:=hlt2 j x hj (by rw[atR' j (by omega)];exact e)
  simpa [byn] using q
 have geY:∀ (j:Nat) (x:Keyed),k2<=j->R'[j]?=some x->le B xl x:=fun j x hj e=>by
  have hjl:j<R'.length:=(a9.mp e).1
  have q:=hge2 j x hj (by omega) (by rw[atR' j (by omega)];exact e)
  show B x xl=false
  simpa [byn] using q
 have leX:∀ x∈R,le B x xl:=fun x hx=>by
  obtain⟨j,hj⟩:=l5.mp hx
  have hjl:j<R.length:=(a9.mp hj).1
  exact ad2 okR.2 o.rf (by omega) hj exl
 by_cases e1:k2=0
 ·rw[if_pos (by simpa using e1)]
  refine m5 (fin _ (R++R') I.kind I.failed rfl ?_ (List.Perm.refl _) (both fun x hx y hy=>?_))
  ·show (m8 st).toList=_
   rw[harr];simp
  ·obtain⟨j,hj⟩:=l5.mp hy
   exact o.trans (leX x hx) (geY j y (by omega) hj)
 rw[if_neg (by simpa using e1)]
 have ex1:((m8 st).extract (sa+k) sb).toList=R.drop k:=by
  rw[ax1,harr,hsa,aa8,E3 (by omega),L5,P7,aM5 (by omega),aa9 (by rw[M3];omega)]
  exact p8 (by rw[M3];omega)
 have ey1:((m8 st).extract sb (sb+k2)).toList=R'.take k2:=by
  rw[ax1,harr,hsb,<- r0,aa8,E3 (by rw[j9];omega),L5,j9,bx2,ba3,P7,aa9 (by omega)]
 have sx:((m8 st).extract (sa+k) sb).size=na - k:=by rw[<- d8,ex1,M3];omega
 have sy:((m8 st).extract sb (sb+k2)).size=k2:=by rw[<- d8,ey1,A4];omega
 have pre1:∀ x y,((m8 st).extract sb (sb+k2))[0]?=some x->((m8 st).extract (sa+k) sb)[0]?=some y->B x y=true:=fun x y hx hy=>by
  rw[<- b7,ey1,V5 (by omega),ey0]at hx
  cases hx
  rw[<- b7,ex1,X8]at hy
  exact gtR (k+0) y (by omega) hy
 have pre2:∀ x∈((m8 st).extract sb (sb+k2)).toList,∀ y,((m8 st).extract (sa+k) sb)[((m8 st).extract (sa+k) sb).size - 1]?=some y->B x y=true:=fun x hx y hy=>by
  rw[<- b7,ex1,X8,sx,show k+(na - k - 1)=na - 1 by omega,exl]at hy
  cases hy
  rw[ey1]at hx
  obtain⟨j,hj⟩:=l5.mp hx
  rw[J7]at hj
  split at hj
  ·rename_i hlt'
   exact ltY j x hlt' hj
  ·cases hj
 have sS1:∀ x∈((m8 st).extract (sa+k) sb).toList,x∈a₀.toList:=fun x hx=>by
  rw[ex1]at hx
  refine inS x ?_
  rw[harr]
  exact j8 _ (A9 _ (ab7 hx))
 have sS2:∀ x∈((m8 st).extract sb (sb+k2)).toList,x∈a₀.toList:=fun x hx=>by
  rw[ey1]at hx
  refine inS x ?_
  rw[harr]
  exact j8 _ (j8 _ (A9 _ (ab8 hx)))
 have so1:((m8 st).extract (sa+k) sb).toList.Pairwise (le B):=by rw[ex1];exact okR.2.sublist (bR8 _ _)
 have so2:((m8 st).extract sb (sb+k2)).toList.Pairwise (le B):=by rw[ey1];exact okR'.2.sublist (aD3 _ _)
 have done:∀ (r:Array Keyed) (st3:SortSt),Sm (bx0 st (((B4 st).setIfInBounds i (sa,na+nb,pw)).eraseIdxIfInBounds (i+1))) st3->Good B ((m8 st).extract (sa+k) sb) ((m8 st).extract sb (sb+k2)) r ->
   wpS (n6 prog w) A E s (do
    modify fun s=>setArr s (ac5 (fun a x=>match x with | (p,j)=>bx1 a (sa+k+j) p) (m8 s) r.toList.zipIdx)
    let __do_lift <- get
    pure (M9 __do_lift).isNone) Q st3:=fun r st3 hS hg=>by
  refine j7 (av8 (j7 (at7 (m5 ?_))))
  have hf:M9 st3=none:=hS.f.trans I.failed
  show Q (M9 st3).isNone _
  rw[hf]
  obtain⟨g1,g2⟩:=hg
  rw[ex1,ey1]at g2
  have hrl:r.toList.length=na - k+k2:=by rw[g2.length_eq,j9,M3,A4];omega
  refine fin _ (R.take k++(r.toList++R'.drop k2)) (hS.k.trans I.kind) hf hS.p ?_ ?_ ?_
  ·show (ac5 _ (m8 st3) (r.toList.zipIdx 0)).toList=_
   rw[hS.a]
   show (ac5 _ (m8 st) (r.toList.zipIdx 0)).toList=_
   rw[aT0 (sa+k) r.toList 0 (m8 st) (by omega),harr,aM4,hrl]
   have t1:aU6 (sa+k) (r1.flatten++(R++(R'++(r2.flatten++suf))))=r1.flatten++R.take k:=by
    rw[bS9,p8 (by omega),show sa+k - r1.flatten.length=k by omega,aa9 (by omega)]
   have t2:bw4 (sa+k+(na - k+k2)) (r1.flatten++(R++(R'++(r2.flatten++suf))))=R'.drop k2++(r2.flatten++suf):=by
    rw[aa8,E3 (by omega),L5,aa8,E3 (by omega),L5,aM5 (by omega)]
    congr 2
    omega
   rw[t1,t2]
   simp
  ·have:(R.take k++(r.toList++R'.drop k2)).Perm (R.take k++((R.drop k++R'.take k2)++R'.drop k2)):=List.Perm.append_left _ (List.Perm.append_right _ g2)
   refine this.trans (List.Perm.of_eq ?_)
   rw[r0,J2,<- r0,J2]
  ·have inM:∀ z∈r.toList,z∈R.drop k\/z∈R'.take k2:=fun z hz=>n8.mp (g2.mem_iff.mp hz)
   have tk:∀ {l:List Keyed} {n:Nat} {x:Keyed},x∈l.take n->∃ j,j<n/\l[j]?=some x:=fun {l n x} hx=>by
    obtain⟨j,hj⟩:=l5.mp hx
    rw[J7]at hj
    split at hj
    ·rename_i hlt'
     exact⟨j,hlt',hj⟩
    ·cases hj
   refine B7.mpr ⟨okR.2.sublist (aD3 _ _),B7.mpr ⟨g1,okR'.2.sublist (bR8 _ _),fun x hx y hy=>?_⟩,fun x hx y hy=>?_⟩
   ·obtain⟨j,h1,h2,h3⟩:=F9 hy
    rcases inM x hx with hx | hx
    ·exact o.trans (leX x (ab7 hx)) (geY j y h1 h3)
    ·obtain⟨i',h4,h5⟩:=tk hx
     exact ad2 okR'.2 o.rf (by omega) h5 h3
   ·obtain⟨i',h4,h5⟩:=tk hx
    rcases n8.mp hy with hy | hy
    ·rcases inM y hy with hy | hy
     ·obtain⟨j,h1,h2,h3⟩:=F9 hy
      exact ad2 okR.2 o.rf (by omega) h5 h3
     ·exact o.trans (leR i' x h4 h5) (leY y (ab8 hy))
    ·exact o.trans (leR i' x h4 h5) (leY y (ab7 hy))
 by_cases e2:na - k<=k2
 ·rw[if_pos e2]
  exact j7 (aN6 o C (by exact I.kind) sS1 sS2 so1 so2 (by omega) (by omega) pre1 pre2 fun r st3 hS hg=>done r st3 hS hg)
 ·rw[if_neg e2]
  exact j7 (aN7 o C (by exact I.kind) sS1 sS2 so1 so2 (by omega) (by omega) pre1 pre2 fun r st3 hS hg=>done r st3 hS hg)
theorem aQ1 {runs:List (List Keyed)}{suf:List Keyed}{st:SortSt}(I:SR a₀ κ B runs suf st):(B4 st).size=runs.length:=by
 have:=congrArg M7 I.sh
 rw[ab5]at this
 unfold shape at this
 rw[b8,d8]at this
 exact this
theorem bd1:∀ (runs:List (List Keyed)),(∀ r∈runs,r≠[]/\r.Pairwise (le B))->runs.length<=runs.flatten.length
 | [],_=>c5 _
 | r::rs,h=>by
  have h1:=bd1 rs fun r hr=>h r (d3 _ hr)
  have h2:0<r.length:=av0.mpr (h r c6).1
  rw[o6,O4,j9]
  omega
end
section
variable {a₀:Array Keyed} {O:aV1} {f:Keyed->O.α}
theorem bM3 {d:O.α}{xs:Array Keyed}{lo:Nat}(hs:U6 f d lo xs n)(hn:lo+n<=xs.size):((xs.toList.drop lo).take n).Pairwise (le (Bf f))/\((xs.toList.drop lo).take n).length=n:=by
 refine⟨o4.mpr fun i j hi hj hij=>?_,by rw[A4,M3,d8];omega⟩
 have hjn:j<n:=by rw[A4]at hj;omega
 have gi:∀ k,(hk:k<n)->(xs.toList.drop lo)[k]?=some (xs[lo+k]'(by omega)):=fun k hk=>by
  rw[X8,b7]
  exact getElem?_pos xs _ _
 have e1:((xs.toList.drop lo).take n)[i]=xs[lo+i]'(by omega):=by
  have:=gi i (by omega)
  rw[<- V5 (show i<n by omega),m6 hi]at this
  exact Option.some.inj this
 have e2:((xs.toList.drop lo).take n)[j]=xs[lo+j]'(by omega):=by
  have:=gi j hjn
  rw[<- V5 hjn,m6 hj]at this
  exact Option.some.inj this
 rw[e1,e2]
 have:=hs i j (aq1 hij) hjn
 rw[ax6 (getElem?_pos xs (lo+i) (by omega)),ax6 (getElem?_pos xs (lo+j) (by omega))]at this
 exact this
theorem aO1 {lo:Nat}{xs ys:Array Keyed}(h:Pre lo xs ys)(hz:ys.size=xs.size):ys.toList.take lo=xs.toList.take lo:=by
 apply O6
 intro k
 rw[J7,J7]
 split
 ·rw[b7,b7]
  exact h k (by assumption)
 ·rfl
theorem as7 (C:bF3 prog w A E s κ a₀ f) {st:SortSt} {Q:Unit->SortSt->Prop} (d:O.α) (hp:(m8 st).Perm a₀) (hk:kindOf st=κ) (hf:M9 st=none) (hpe:B4 st=#[])
    (h:∀ st',(m8 st').Perm a₀->M9 st'=none->(m8 st').toList.Pairwise (le (Bf f))->Q () st'):wpS (n6 prog w) A E s sortRuns' Q st:=by
  have o:Ord (Bf f):=Bf.ord f
  have hsz:(m8 st).size=a₀.size:=hp.size_eq
  rw[sortRuns'_eq]
  refine j7 (at7 ?_)
  dsimp only
  rw[hsz]
  refine j7 (W9 (E5
    (I:=fun x c st'=>∃ runs suf lo,c=(none,lo)/\SR a₀ κ (Bf f) runs suf st'/\lo=runs.flatten.length/\(x<=lo\/lo=a₀.size)/\lo<=a₀.size)
    (Q:=fun c st'=>∃ runs,c=(none,a₀.size)/\SR a₀ κ (Bf f) runs [] st') ?step ?fin
    ⟨[],(m8 st).toList,0,rfl,⟨hp,hk,hf,by rw[hpe];rfl,(fun _ hr=>nomatch hr),by simp⟩,rfl,.inl (c5 _),n9 _⟩) ?post)
  case fin =>
    rintro c st' ⟨runs,suf,lo,rfl,I,h1,h2,h3⟩
    have e:lo=a₀.size:=by omega
    have hl:=congrArg M7 I.arr
    rw[d8,I.perm.size_eq,j9]at hl
    have:suf=[]:=Q4 (by omega)
    subst this
    exact⟨runs,by rw[e],I⟩
  case step =>
    rintro x c st1 _ hx ⟨runs,suf,lo,rfl,I,h1,h2,h3⟩
    dsimp only
    by_cases hge:lo≥a₀.size
    · rw[if_pos hge]
      have e:lo=a₀.size:=by omega
      have hl:=congrArg M7 I.arr
      rw[d8,I.perm.size_eq,j9]at hl
      have:suf=[]:=Q4 (by omega)
      subst this
      exact m5 ⟨runs,by rw[e],I⟩
    rw[if_neg hge]
    refine j7 (wpS_countRun C d (p:=B4 st1) (by omega) (by omega) ⟨I.perm,I.kind,I.failed,rfl⟩ fun n st2 hB2 hp2 hn1 hn2 hs2=>?_)
    dsimp only
    have cont:∀ (n':Nat) (st3:SortSt),SI a₀ κ (B4 st1) st3->Pre lo (m8 st1) (m8 st3)->1<=n'->n'<=a₀.size - lo->U6 f d lo (m8 st3) n' ->
        ∃ run suf',SR a₀ κ (Bf f) runs (run++suf') st3/\run.length=n'/\run.Pairwise (le (Bf f)):=fun n' st3 hB3 hp3 k1 k2 hs3=>by
      obtain⟨q1,q2⟩:=bM3 hs3 (by rw[hB3.size];omega)
      refine⟨((m8 st3).toList.drop lo).take n',(m8 st3).toList.drop (lo+n'),⟨hB3.perm,hB3.kind,hB3.failed,by rw[hB3.pend];exact I.sh,I.ok,?_⟩,q2,q1⟩
      rw[<- am4]
      refine(J2 lo (m8 st3).toList).symm.trans ?_
      congr 1
      rw[aO1 hp3 (by rw[hB3.size,I.perm.size_eq]),I.arr,h1]
      exact List.take_left
    have more:∀ (rs:List (List Keyed)) (run suf':List Keyed) (n':Nat) (st3:SortSt),SR a₀ κ (Bf f) rs (run++suf') st3->rs.flatten.length=lo->run.length=n'->run.Pairwise (le (Bf f))->1<=n'->n'<=a₀.size - lo ->
        ∃ runs suf lo',((none,lo+n'):Option Unit × Nat)=(none,lo')/\SR a₀ κ (Bf f) runs suf (bx0 st3 ((B4 st3).push (lo,n',0)))/\lo'=runs.flatten.length/\(x+1<=lo'\/lo'=a₀.size)/\lo'<=a₀.size:=fun rs run suf' n' st3 I3 e1 e2 e3 k1 k2=>by
      refine⟨rs++[run],suf',lo+n',rfl,⟨I3.perm,I3.kind,I3.failed,?_,fun r hr=>?_,?_⟩,by simp[e1,e2],by omega,by omega⟩
      · show shape ((B4 st3).push (lo,n',0)).toList=_
        rw[N7,ab6,<- I3.sh]
        unfold shape
        rw[r6,K5,e1]
        simp[ao3,e2]
      · rcases n8.mp hr with hr | hr
        · exact I3.ok r hr
        · rw[d6.mp hr]
          exact⟨by intro z;rw[z]at e2;simp at e2;omega,e3⟩
      · show (m8 st3).toList=_
        rw[I3.arr]
        simp
    by_cases hlt:n<minRun' a₀.size a₀.size 0
    all_goals first
      | (rw [if_pos hlt]
         refine j7 (ac6 ?_)
         refine j7 (au2 C d (by omega) (by omega) hB2 hs2 fun st3 hB3 hp3 hs3=>?_)
         simp only[D8,d7,if_false]
         obtain⟨run,suf',I3,e2,e3⟩:=cont _ st3 hB3 (hp2.trans hp3) (by omega) (by omega) hs3
         have k1:1<=min (a₀.size - lo) (minRun' a₀.size a₀.size 0):=by omega
         have k2:min (a₀.size - lo) (minRun' a₀.size a₀.size 0)<=a₀.size - lo:=by omega
         revert e2 k1 k2
         generalize min (a₀.size - lo) (minRun' a₀.size a₀.size 0)=n'
         intro e2 k1 k2)
      | (rw [if_neg hlt]
         obtain⟨run,suf',I3,e2,e3⟩:=cont n st2 hB2 hp2 hn1 hn2 hs2
         have k1:1<=n:=hn1
         have k2:n<=a₀.size - lo:=hn2
         revert e2 k1 k2
         generalize n=n'
         intro e2 k1 k2)
    all_goals
      refine j7 (at7 ?_)
      split
      ·
        rename_i s1 n1 pw1 hback
        refine j7 (W9 (E5
          (I:=fun _ c st'=>c=(none,())/\∃ rs,SR a₀ κ (Bf f) rs (run++suf') st'/\rs.flatten.length=lo)
          (Q:=fun c st'=>c=(none,())/\∃ rs,SR a₀ κ (Bf f) rs (run++suf') st'/\rs.flatten.length=lo) ?mstep (fun _ _ q=>q) ⟨rfl,runs,I3,h1.symm⟩) ?mpost)
        case mstep =>
          rintro y c st4 _ _ ⟨rfl,rs,I4,e4⟩
          refine j7 (at7 ?_)
          try dsimp only
          by_cases hz:(B4 st4).size > 1
          · rw[if_pos hz]
            split
            · split
              · exact m5 ⟨rfl,rs,I4,e4⟩
              · refine j7 (as8 o C I4 (by rw[<- aQ1 I4];omega) fun rs' st5 I5 _ e5=>?_)
                simp only[D8,d7,if_false]
                exact m5 ⟨rfl,rs',I5,e5.trans e4⟩
            · exact m5 ⟨rfl,rs,I4,e4⟩
          · rw[if_neg hz]
            exact m5 ⟨rfl,rs,I4,e4⟩
        case mpost =>
          rintro c st4 ⟨rfl,rs,I4,e4⟩
          try dsimp only
          refine j7 (av8 ?_)
          have I5:SR a₀ κ (Bf f) rs (run++suf') (bx0 st4 ((B4 st4).modify ((B4 st4).size - 1) fun x=>match x with | (st,len,snd)=>(st,len,power' a₀.size (2*s1+n1) (2*s1+n1+n1+n') a₀.size))):=by
            refine⟨I4.perm,I4.kind,I4.failed,?_,I4.ok,I4.arr⟩
            rw[<- I4.sh]
            show shape ((B4 st4).modify _ _).toList=_
            rw[Array.toList_modify]
            unfold shape
            apply O6
            intro k
            rw[j6,j6,List.getElem?_modify]
            cases (B4 st4).toList[k]? with
            | none=>rfl
            | some v =>
              obtain⟨v1,v2,v3⟩:=v
              simp only[bR9]
              split<;>rfl
          exact j7 (av8 (m5 (more rs run suf' n' _ I5 e4 e2 e3 k1 k2)))
      · exact j7 (av8 (m5 (more runs run suf' n' _ I3 h1.symm e2 e3 k1 k2)))
  case post =>
    rintro c st1 ⟨runs,rfl,I⟩
    try dsimp only
    refine j7 (W9 (E5
      (I:=fun x c st'=>c=(none,())/\∃ rs,SR a₀ κ (Bf f) rs [] st'/\(rs.length+x<=a₀.size\/rs.length<=1))
      (Q:=fun c st'=>c=(none,())/\∃ rs,SR a₀ κ (Bf f) rs [] st'/\rs.length<=1) ?fstep ?ffin ⟨rfl,runs,I,.inl ?fst⟩) ?fpost)
    case fst =>
      have h1:=bd1 runs I.ok
      have hl:=congrArg M7 I.arr
      rw[d8,I.perm.size_eq,F6]at hl
      omega
    case ffin =>
      rintro c st' ⟨rfl,rs,I',q⟩
      exact⟨rfl,rs,I',by omega⟩
    case fstep =>
      rintro x c st2 _ hx ⟨rfl,rs,I2,q⟩
      refine j7 (at7 ?_)
      try dsimp only
      have hpl:=aQ1 I2
      by_cases hz:(B4 st2).size<=1
      · rw[if_pos hz]
        exact m5 ⟨rfl,rs,I2,by omega⟩
      rw[if_neg hz]
      refine j7 (as8 o C I2 ?_ fun rs' st3 I3 e3 _=>?_)
      · (repeat' split)<;>omega
      · simp only[D8,d7,if_false]
        exact m5 ⟨rfl,rs',I3,by omega⟩
    case fpost =>
      rintro c st2 ⟨rfl,rs,I2,q⟩
      refine m5 (h st2 I2.perm I2.failed ?_)
      rw[I2.arr,F6]
      match rs,I2.ok,q with
      | [],_,_=>exact List.Pairwise.nil
      | [r],ok,_=>simpa using (ok r (by simp)).2
end
end Tim
namespace Tim
open PySem PyProof.Rows PySem.W
def K9:List Int->List Int->Bool
 | [],[]=>false
 | [],_::_=>true
 | _::_,[]=>false
 | a::x,b::y=>if a=b then K9 x y else decide (a<b)
theorem aR4:∀ x,K9 x x=false
 | []=>rfl
 | a::x=>by unfold K9;rw[if_pos rfl];exact aR4 x
theorem aK1:∀ x y z,K9 x y=true->K9 y z=true->K9 x z=true
 | [],[],z,h,_=>by cases h
 | [],_::_,[],_,h=>by cases h
 | [],_::_,_::_,_,_=>rfl
 | _::_,[],z,h,_=>by cases h
 | _::_,_::_,[],_,h=>by cases h
 | a::x,b::y,c::z,h1,h2=>by
  unfold K9 at h1 h2 ⊢
  by_cases e1:a=b
  ·subst e1
   rw[if_pos rfl]at h1
   by_cases e2:a=c
   ·rw[if_pos e2]at h2 ⊢
    exact aK1 x y z h1 h2
   ·rw[if_neg e2]at h2 ⊢
    exact h2
  ·rw[if_neg e1,decide_eq_true_eq]at h1
   by_cases e2:b=c
   ·subst e2
    rw[if_neg e1,decide_eq_true_eq]
    exact h1
   ·rw[if_neg e2,decide_eq_true_eq]at h2
    rw[if_neg (by omega),decide_eq_true_eq]
    omega
theorem aA6:∀ x y,K9 x y=false->K9 y x=false->x=y
 | [],[],_,_=>rfl
 | [],_::_,h,_=>by cases h
 | _::_,[],_,h=>by cases h
 | a::x,b::y,h1,h2=>by
  unfold K9 at h1 h2
  by_cases e:a=b
  ·subst e
   rw[if_pos rfl]at h1 h2
   rw[aA6 x y h1 h2]
  ·rw[if_neg e,decide_eq_false_iff_not]at h1
   rw[if_neg (Ne.symm e),decide_eq_false_iff_not]at h2
   omega
theorem bD5 (x y z:List Int)(h:K9 x z=true):K9 x y=true\/K9 y z=true:=by
 cases e1:K9 x y with
 | true=>exact .inl rfl
 | false =>
  cases e2:K9 y x with
  | true=>exact .inr (aK1 _ _ _ e2 h)
  | false=>rw[aA6 x y e1 e2]at h;exact .inr h
def aY1:aV1:=⟨List Int,K9,aR4,aK1,bD5,aA6⟩
def IsK (prog:Program)(w:World)(h:Heap)(k:List Int)(v:Value):Prop:=∃ a,v=.ref a/\y9 (m7 prog w) h k a
theorem IsK.inj {k':List Int}(x:IsK prog w h k v)(y:IsK prog w h k' v):k=k':=by
 obtain⟨a,rfl,h1⟩:=x
 obtain⟨b,e,h2⟩:=y
 cases e
 exact h1.inj h2
open Classical in
noncomputable def Q1 (prog:Program)(w:World)(h:Heap)(v:Value):List Int:=if q:∃ k,IsK prog w h k v then Classical.choose q else []
theorem N8 (x:IsK prog w h k v):Q1 prog w h v=k:=by
 unfold Q1
 rw[dif_pos ⟨k,x⟩]
 exact(Classical.choose_spec (⟨k,x⟩:∃ k,IsK prog w h k v)).inj x
theorem IsK.up (x:IsK prog w h k v)(hs:∀ b o,h.get? b=some o->h'.get? b=some o):IsK prog w h' k v:=by
 obtain⟨a,e,o,items,n,h2,h3⟩:=x
 exact⟨a,e,o,items,n,hs a o h2,h3⟩
theorem aE5 {b:Bool}{Q:Bool->Shared->Prop}(hb:b=true):∀ (x y:List Int) (vs us:List Value) (i:Nat) (fin:Bool),ItemsAre (m7 prog w) x vs->ItemsAre (m7 prog w) y us->(x.length<y.length↔fin=true)->Q (K9 x y) s->KatLex prog w A b fin Q (vs.zip us) i s
 | [],[],_,_,i,fin,.nil,.nil,hf,h=>by
  have:fin=false:=by cases fin with | false=>rfl | true=>exact absurd (hf.mpr rfl) (by simp)
  subst this
  exact kat_nil h
 | [],_::_,_,_,i,fin,.nil,.cons _ _,hf,h=>by
  have:fin=true:=hf.mp (by simp)
  subst this
  exact kat_nil h
 | _::_,[],_,_,i,fin,.cons _ _,.nil,hf,h=>by
  have:fin=false:=by cases fin with | false=>rfl | true=>exact absurd (hf.mpr rfl) (by simp)
  subst this
  exact kat_nil h
 | a::x,c::y,_,_,i,fin,.cons h1 t1,.cons h2 t2,hf,h=>by
  obtain⟨t,rfl⟩:=Value.isInt_shape h1
  obtain⟨u,rfl⟩:=Value.isInt_shape h2
  rw[aB8]
  refine kat_cons (wpAny_eqBool_int ?_)
  unfold K9 at h
  by_cases e:a=c
  ·subst e
   rw[if_pos rfl]at h
   rw[show (a == a)=true by simp]
   exact kat_yes (aE5 hb x y _ _ (i+1) fin t1 t2 (by rw[<- hf];simp) h)
  ·rw[if_neg e]at h
   rw[show (a == c)=false by simpa using e]
   refine kat_no ?_
   cases hi:(b && i == 0) with
   | true=>exact oneLt_int h
   | false=>exact kat_one _ _ (lt_int h)
theorem aR3 {x y:Value}{k':List Int}{Q:Bool->Shared->Prop}(hx:IsK prog w s.heap k x)(hy:IsK prog w s.heap k' y)(h:Q (K9 k k') s):k9 (n6 prog w) A (keyLt' (bx6 true) x y) Q E s:=by
 obtain⟨a,rfl,o,xs,n,ho,hc,hd,hi⟩:=hx
 obtain⟨b,rfl,o',ys,n',ho',hc',hd',hi'⟩:=hy
 refine kat_lt ho hd ho' hd' (aE5 rfl k k' _ _ 0 _ hi hi' ?_ h)
 have e1:k.length=xs.size:=by have:=hi.length;simpa using this
 have e2:k'.length=ys.size:=by have:=hi'.length;simpa using this
 rw[e1,e2]
 simp
theorem aA7 {Q:SortKind->Shared->Prop}(hne:0<vs.length)(hv:∀ v∈vs,∃ i k,IsK prog w s.heap (i::k) v)(h:Q (bx6 true) s):k9 (n6 prog w) A (keyKind' vs.toArray) Q E s:=by
 have ex:∀ l:List Value,(∀ v∈l,∃ i k,IsK prog w s.heap (i::k) v)->∃ fs:List Value,KatTups s.heap l fs/\fs.length=l.length/\∀ v∈fs,∃ i t,v=.int i t:=fun l=>by
  induction l with
  | nil=>intro _;exact⟨[],KatTups.nil,rfl,(fun _ h=>nomatch h)⟩
  | cons v l ih =>
   intro hl
   obtain⟨i,k,a,rfl,o,xs,n,ho,hc,hd,hi⟩:=hl v c6
   obtain⟨fs,f1,f2,f3⟩:=ih fun v hv=>hl v (d3 _ hv)
   obtain⟨f,hf,t,rfl⟩:∃ f,xs[0]?=some f/\∃ t,f=.int i t:=by
    cases e:xs.toList with
    | nil=>rw[e]at hi;cases hi
    | cons f r =>
     rw[e]at hi
     cases hi with
     | cons h1 _ =>
      obtain⟨t,et⟩:=Value.isInt_shape h1
      exact⟨f,by rw[<- b7,e];rfl,t,et⟩
   refine⟨.int i t::fs,KatTups.cons ho hc hd hf f1,by rw[o6,f2,o6],fun v hv=>?_⟩
   rcases c8.mp hv with rfl | hv
   ·exact⟨i,t,rfl⟩
   ·exact f3 v hv
 obtain⟨fs,f1,f2,f3⟩:=ex vs hv
 refine kat_kind (T:=.type "int") f1 (by omega) (fun v hv=>?_) (by decide) ?_
 ·obtain⟨i,t,rfl⟩:=f3 v hv
  exact .now
 ·exact h
theorem aD6 {P:PySem.Fin->Shared->Prop}(ho:s.heap.get? a=some (J3 "list" vs.toArray n))(hz:vs.length<=i7)
  (hv:∀ v∈vs,∃ i k,IsK prog w s.heap (i::k) v)(hna:∀ v∈vs,v≠.ref a)
  (h:∀ out:List Value,out.Perm vs->out.Pairwise (fun x y=>K9 (Q1 prog w s.heap y) (Q1 prog w s.heap x)=false)->P (.done (.ret .none)) { s with heap:=aa5 s.heap a vs out.toArray }) :
  k9 (n6 prog w) A (Builtin.«list.sort» ⟨[.ref a],[]⟩) P E s:=by
 rw[list_sort_plain]
 have ha:a<s.heap.objs.size:=c9 ho
 refine a5 (bJ2 ho rfl ?_)
 refine a5 (ae1 ho rfl ?_ (by rw[k8];exact hz) (n9 _))
 obtain⟨e1,ho1⟩:∃ e1,(s.heap.update a (Obj.mapSeq fun _=>#[])).get? a=some (J3 "list" #[] e1):=⟨_,P3 ho (fun _=>#[])⟩
 refine a5 (bh3 ho1 rfl ?_)
 refine a5 (wpAny_newTuple ?_ (by show vs.length<=_;exact hz))
 refine a5 (T8 ?_ (n9 _))
 refine v8 ?_
 generalize hH:((s.heap.update a (Obj.mapSeq fun _=>#[])).push (J3 "tuple" vs.toArray 0)).push (J3 "list" #[] 0)=h6
 have ho6:h6.get? a=some (J3 "list" #[] e1):=by rw[<- hH];exact a6 _ (a6 _ ho1)
 have keep:∀ b o,b≠a->s.heap.get? b=some o->h6.get? b=some o:=fun b o hb e=>by
  rw[<- hH]
  exact a6 _ (a6 _ ((r9 s.heap _ (Ne.symm hb)).trans e))
 have up:∀ v∈vs,∀ k,IsK prog w s.heap k v->IsK prog w h6 k v:=fun v hv' k hk=>by
  obtain⟨c,rfl,o,items,n,h2,h3⟩:=hk
  exact⟨c,rfl,o,items,n,keep c o (fun z=>hna _ hv' (by rw[z])) h2,h3⟩
 have fin:∀ st':SortSt,(m8 st').Perm (bT7 vs)->(m8 st').toList.Pairwise (le (Bf (O:=aY1) fun p=>Q1 prog w s.heap p.1))->P (.done (.ret .none)) { s with heap:=aa5 s.heap a vs ((m8 st').map (·.2)) }:=fun st' hp hs=>by
  have hl:(m8 st').toList.Perm (vs.zip vs):=by rw[<- pairsOf_toList];exact L8.mp hp
  have hm:((m8 st').map (·.2)).toList=(m8 st').toList.map (·.2):=bS0 ..
  have hz2:(vs.zip vs).map (·.2)=vs:=List.map_snd_zip (c5 _)
  have:=h ((m8 st').toList.map (·.2)) (by have:=hl.map (·.2);rw[hz2]at this;exact this) ?_
  ·rw[show (m8 st').map (·.2)=((m8 st').toList.map (·.2)).toArray by rw[<- hm]]
   exact this
  ·rw[D9]
   refine List.Pairwise.imp_of_mem ?_ hs
   intro x y hx hy hxy
   have ex:=(ai6 (hl.mem_iff.mp hx)).1
   have ey:=(ai6 (hl.mem_iff.mp hy)).1
   rw[<- ex,<- ey]
   exact hxy
 have out:∀ st':SortSt,(m8 st').Perm (bT7 vs)->M9 st'=none->(m8 st').toList.Pairwise (le (Bf (O:=aY1) fun p=>Q1 prog w s.heap p.1)) ->
   k9 (n6 prog w) A (do
    let sorted:=(m8 st').map (·.2)
    let touched:=(<- seqEpoch a) != e1
    Builtin.List.listUpdate (.ref a) fun _=>sorted
    if let some e:=M9 st' then rule "list.sort.comparison-raised";throw e
    if touched then rule "list.sort.modified";raiseError "ValueError" "list modified during sort"
    ret .none) P E { s with heap:=h6 }:=fun st' hp hf hs=>by
  dsimp only
  refine a5 (bh3 (s:={ s with heap:=h6 }) ho6 rfl ?_)
  refine a5 (ae1 (s:={ s with heap:=h6 }) ho6 rfl ?_ (n9 _) (by refine t9 (aM6 ((af6 ..).trans (hp.size_eq.trans (pairsOf_size _)))) ?_;omega))
  rw[hf]
  simp only[bne_self_eq_false,d7,if_false]
  refine a8 ?_
  have:=fin st' hp hs
  unfold aa5 at this
  rw[hH]at this
  exact this
 show k9 (n6 prog w) A _ P E { s with heap:=h6 }
 dsimp only
 by_cases h2:vs.toArray.size<2
 ·rw[if_pos h2,if_pos h2]
  refine a5 (a8 ?_)
  rw[StateT.run_pure]
  refine a5 (a8 ?_)
  refine out (SortSt.mk' general' (vs.toArray.zip vs.toArray) #[] 7 none) (Array.Perm.refl _) rfl ?_
  show (bT7 vs).toList.Pairwise _
  rw[o4]
  intro i j hi hj hij
  rw[d8,pairsOf_size]at hj
  rw[k8]at h2
  omega
 ·rw[if_neg h2,if_neg h2]
  rw[k8]at h2
  refine a5 (aA7 (s:={ s with heap:=h6 }) (by omega) (fun v hv'=>?_) ?_)
  ·obtain⟨i,k,hk⟩:=hv v hv'
   exact⟨i,k,up v hv' _ hk⟩
  refine a5 (C2 (as7 (s:={ s with heap:=h6 }) (a₀:=bT7 vs) (κ:=bx6 true) (O:=aY1) (f:=fun p=>Q1 prog w s.heap p.1) (st:=SortSt.mk' (bx6 true) (vs.toArray.zip vs.toArray) #[] 7 none)
   (Q:=fun _ st'=>(m8 st').Perm (bT7 vs)/\M9 st'=none/\(m8 st').toList.Pairwise (le (Bf (O:=aY1) fun p=>Q1 prog w s.heap p.1))) ?_ ([]:List Int) (Array.Perm.refl _) rfl rfl rfl fun st' a1 a2 a3=>⟨a1,a2,a3⟩) ?_ fun _ _ e=>e)
  ·intro x y hx hy Q hq
   rw[pairsOf_toList]at hx hy
   obtain⟨i,k,hk⟩:=hv x.1 (ai6 hx).2
   obtain⟨j,k',hk'⟩:=hv y.1 (ai6 hy).2
   refine aR3 (s:={ s with heap:=h6 }) (up _ (ai6 hx).2 _ hk) (up _ (ai6 hy).2 _ hk') ?_
   rw[<- N8 hk,<- N8 hk']
   exact hq
  ·rintro⟨⟨⟩,st'⟩ s' ⟨rfl,hp,hf,hs⟩
   exact out st' hp hf hs
theorem aC6 (hl:s.heap.IsList l vs.toArray) (hz:vs.length<=i7) (hv:∀ v∈vs,∃ i k,IsK prog w s.heap (i::k) v)
  (h : ∀ (out : List Value) (h' : Heap) (n : Nat), out.Perm vs -> out.Pairwise (fun x y => K9 (Q1 prog w s.heap y) (Q1 prog w s.heap x) = false) -> (∀ b o, s.heap.get? b = some o -> h'.get? b = some o) ->
   h'.get? (s.heap.objs.size+1)=some { cls:=.type "list",data:=.seq out.toArray n }->Q (.ref (s.heap.objs.size+1)) { s with heap:=h' }) :
  k9 (n6 prog w) A (call (.builtin "sorted") [.ref l]) Q E s:=by
 refine Calls.call_function_entry bT8 bJ3 bJ4 (args_sorted1 _) ?_
 unfold Builtin.«sorted»
 refine a5 (m:=checkCount "sorted" 1 1 _) (a8 ?_)
 refine a5 (collect_list hl ?_ hz)
 refine a5 (T8 ?_ hz)
 have hsz:((s.heap.push (J3 "list" #[] 0)).update s.heap.objs.size (Obj.mapSeq (·++vs.toArray))).objs.size=s.heap.objs.size+1:=by
  rw[bT0,size_push']
 generalize hH:((s.heap.push (J3 "list" #[] 0)).update s.heap.objs.size (Obj.mapSeq (·++vs.toArray))).push (J3 "list" vs.toArray 0)=h2
 have hoL:h2.get? (s.heap.objs.size+1)=some (J3 "list" vs.toArray 0):=by
  rw[<- hH,<- hsz];exact d5 _ rfl
 have keep:∀ b o,s.heap.get? b=some o->h2.get? b=some o:=fun b o e=>by
  rw[<- hH]
  refine a6 _ ((r9 _ _ ?_).trans (a6 _ e))
  exact Ne.symm (j0 (c9 e))
 have hsz2:h2.objs.size=s.heap.objs.size+2:=by rw[<- hH,size_push',hsz]
 rw[hsz]
 have up:∀ v k,IsK prog w s.heap k v->IsK prog w h2 k v:=fun v k hk=>hk.up keep
 have kA:∀ v∈vs,Q1 prog w h2 v=Q1 prog w s.heap v:=fun v hv'=>by
  obtain⟨i,k,hk⟩:=hv v hv'
  rw[N8 hk,N8 (up v _ hk)]
 refine a5 (v8 (C3 bm2 (s:={ s with heap:=h2 }) ⟨_,hoL,rfl⟩ bh4 (aD6 (s:={ s with heap:=h2 }) hoL hz (fun v hv'=>?_) (fun v hv' z=>?_) fun out a1 a2=>⟨_,rfl,?_⟩) (args_list_sort _)))
 ·obtain⟨i,k,hk⟩:=hv v hv'
  exact⟨i,k,up v _ hk⟩
 ·obtain⟨i,k,a,rfl,o,items,n,ho,_⟩:=hv v hv'
  cases z
  exact absurd (c9 ho) (aH0.mpr (P8 _))
 ·have hlast:∃ n,(aa5 h2 (s.heap.objs.size+1) vs out.toArray).get? (s.heap.objs.size+1)=some (J3 "list" out.toArray n):=by
   unfold aa5
   have g1:=P3 hoL (fun _=>(#[]:Array Value))
   have g2:(((h2.update (s.heap.objs.size+1) (Obj.mapSeq fun _=>#[])).push (J3 "tuple" vs.toArray 0)).push (J3 "list" #[] 0)).get? (s.heap.objs.size+1)=_:=a6 _ (a6 _ g1)
   exact⟨_,P3 g2 (fun _=>out.toArray)⟩
  obtain⟨n,hn⟩:=hlast
  refine a8 ⟨_,rfl,h out _ n a1 ?_ (fun b o e=>?_) hn⟩
  ·refine List.Pairwise.imp_of_mem ?_ a2
   intro x y hx hy hxy
   rw[kA x (a1.mem_iff.mp hx),kA y (a1.mem_iff.mp hy)]at hxy
   exact hxy
  ·have hb:b≠s.heap.objs.size+1:=j0 (u7 (c9 e))
   unfold aa5
   refine(r9 _ _ (Ne.symm hb)).trans (a6 _ (a6 _ ((r9 _ _ (Ne.symm hb)).trans (keep b o e))))
end Tim
namespace Sett
open PySem PySem.SetTable
theorem aL1 {P:Nat->Prop}(h:∃ n,P n):∃ n,P n/\∀ m,m<n->¬ P m:=by
 obtain⟨n,hn⟩:=h
 induction n using Nat.strongRecOn with
 | ind n ih =>
  by_cases q:∃ m,m<n/\P m
  ·obtain⟨m,hm,pm⟩:=q
   exact ih m hm pm
  ·exact⟨n,hn,fun m hm pm=>q ⟨m,hm,pm⟩⟩
def st (m i pt:Nat):Probe:={ j:=i,more:=runEnd m i - i,i:=i,perturb:=pt,dummy:=none }
def it (t:SetTable):Nat->Probe->Probe
 | 0,p=>p
 | n+1,p=>it t n (t.advance p)
theorem aK6 (t:SetTable):∀ (a b:Nat) (p:Probe),it t (a+b) p=it t b (it t a p)
 | 0,b,p=>by rw[K5];rfl
 | a+1,b,p=>by
  rw[show a+1+b=(a+b)+1 by omega]
  exact aK6 t a b (t.advance p)
theorem aj6 (t:SetTable)(n:Nat)(p:Probe):it t (n+1) p=t.advance (it t n p):=aK6 t n 1 p
theorem aq9 (m i:Nat):i<=runEnd m i/\runEnd m i<=i+9:=by unfold runEnd;split<;>omega
theorem aP9 {m:Nat}(h:i<=m):runEnd m i<=m:=by unfold runEnd;split<;>omega
theorem aK4 (t:SetTable)(i pt:Nat):∀ k,k<=runEnd t.mask i - i->it t k (st t.mask i pt)={ j:=i+k,more:=runEnd t.mask i - i - k,i:=i,perturb:=pt,dummy:=none }
 | 0,_=>rfl
 | k+1,h=>by
  rw[aj6,aK4 t i pt k (by omega)]
  unfold advance
  dsimp only
  rw[if_pos (by omega)]
  simp only[Probe.mk.injEq,and_true,true_and]
  omega
theorem aK5 (t:SetTable)(i pt:Nat):it t (runEnd t.mask i - i+1) (st t.mask i pt)=st t.mask (leap t.mask i pt).1 (leap t.mask i pt).2:=by
 rw[aj6,aK4 t i pt _ (c5 _)]
 unfold advance
 dsimp only
 rw[if_neg (by omega)]
 rfl
def rn (m i pt:Nat):Nat->Nat × Nat
 | 0=>(i,pt)
 | r+1=>leap m (rn m i pt r).1 (rn m i pt r).2
theorem bH2 (m i pt:Nat):∀ r,(rn m i pt r).2=pt / 32 ^ r
 | 0=>by simp[rn]
 | r+1=>by
  show (rn m i pt r).2 / 32=_
  rw[bH2 m i pt r,bw5,Nat.pow_succ]
theorem bH3 (m i pt:Nat)(h:i<=m):∀ r,(rn m i pt r).1<=m
 | 0=>h
 | r+1=>ak0 (bl9 _ (ag3 m))
theorem bI0 (t:SetTable)(i pt:Nat):∀ r,∃ n,n<=10*r/\it t n (st t.mask i pt)=st t.mask (rn t.mask i pt r).1 (rn t.mask i pt r).2
 | 0=>⟨0,c5 _,rfl⟩
 | r+1=>by
  obtain⟨n,hn,e⟩:=bI0 t i pt r
  have h9:=aq9 t.mask (rn t.mask i pt r).1
  refine⟨n+(runEnd t.mask (rn t.mask i pt r).1 - (rn t.mask i pt r).1+1),by omega,?_⟩
  rw[aK6,e,aK5]
  rfl
def f5 (m i:Nat):Nat:=(i*5+1) % (m+1)
def orb (m:Nat):Nat->Nat->List Nat
 | 0,_=>[]
 | k+1,i=>i::orb m k (f5 m i)
def Full (m:Nat):Prop:=∀ b,b<=m->∀ a,a<=m->∃ n,n<=m/\Nat.repeat (f5 m) n a=b
def chk (m:Nat):Bool:=(orb m (m+1) 0).foldl (fun acc i=>acc ||| 2 ^ i) 0 == 2 ^ (m+1) - 1
theorem aU1:∀ (l:List Nat) (acc b:Nat),(l.foldl (fun acc i=>acc ||| 2 ^ i) acc).testBit b=true->acc.testBit b=true\/b∈l
 | [],acc,b,h=>.inl h
 | i::l,acc,b,h=>by
  rcases aU1 l _ b h with q | q
  ·rw[Nat.testBit_or,Bool.or_eq_true]at q
   rcases q with q | q
   ·exact .inl q
   ·rw[bI6]at q
    exact .inr (by rw[of_decide_eq_true q];exact c6)
  ·exact .inr (d3 _ q)
theorem an9 (f:Nat->Nat)(a:Nat):∀ n k,Nat.repeat f (n+k) a=Nat.repeat f k (Nat.repeat f n a)
 | n,0=>rfl
 | n,k+1=>by
  show f (Nat.repeat f (n+k) a)=f (Nat.repeat f k (Nat.repeat f n a))
  rw[an9 f a n k]
theorem be1 (m:Nat):∀ k i x,x∈orb m k i->∃ n,n<k/\Nat.repeat (f5 m) n i=x
 | 0,i,x,h=>by cases h
 | k+1,i,x,h=>by
  rcases c8.mp h with rfl | h
  ·exact⟨0,ag3 _,rfl⟩
  ·obtain⟨n,hn,e⟩:=be1 m k (f5 m i) x h
   refine⟨n+1,by omega,?_⟩
   rw[Nat.add_comm n 1,an9]
   exact e
theorem aw8 {m:Nat}(hc:chk m=true)(hz:Nat.repeat (f5 m) (m+1) 0=0):Full m:=by
 intro b hb a ha
 unfold chk at hc
 have hc:=eq_of_beq hc
 have get:∀ x,x<=m->∃ n,n<m+1/\Nat.repeat (f5 m) n 0=x:=fun x hx=>by
  have hb:(2 ^ (m+1) - 1).testBit x=true:=by rw[Nat.testBit_two_pow_sub_one];exact decide_eq_true (by omega)
  rw[<- hc]at hb
  rcases aU1 _ _ _ hb with q | q
  ·simp at q
  ·exact be1 m (m+1) 0 x q
 obtain⟨p,hp,ep⟩:=get a ha
 obtain⟨q,hq,eq⟩:=get b hb
 by_cases h:p<=q
 ·refine⟨q - p,by omega,?_⟩
  rw[<- ep,<- an9,show p+(q - p)=q by omega,eq]
 ·refine⟨m+1 - p+q,by omega,?_⟩
  rw[<- ep,<- an9,show p+(m+1 - p+q)=(m+1)+q by omega,an9,hz,eq]
def Good (m:Nat):Prop:=m=7\/m=31\/m=127\/m=511
set_option maxRecDepth 100000 in
theorem Good.full {m:Nat}(h:Good m):Full m:=by
 rcases h with rfl | rfl | rfl | rfl
 ·exact aw8 (by decide +kernel) (by decide +kernel)
 ·exact aw8 (by decide +kernel) (by decide +kernel)
 ·exact aw8 (by decide +kernel) (by decide +kernel)
 ·exact aw8 (by decide +kernel) (by decide +kernel)
theorem bd2 (m i pt:Nat)(hp:pt<2 ^ 64):∀ k,(rn m i pt (13+k)).1=Nat.repeat (f5 m) k (rn m i pt 13).1
 | 0=>rfl
 | k+1=>by
  show (leap m (rn m i pt (13+k)).1 (rn m i pt (13+k)).2).1=f5 m (Nat.repeat (f5 m) k (rn m i pt 13).1)
  rw[<- bd2 m i pt hp k]
  unfold leap f5
  have:(rn m i pt (13+k)).2 / 32=0:=by
   rw[bH2,Nat.pow_add,<- bw5]
   have:pt / 32 ^ 13=0:=Nat.div_eq_of_lt (bx3 hp (by decide))
   rw[this]
   simp
  dsimp only
  rw[this,aM4]
theorem bd3 {m pt b:Nat}(g:Good m)(hi:i<=m)(hp:pt<2 ^ 64)(hb:b<=m):∃ r,r<turns m/\(rn m i pt r).1=b:=by
 obtain⟨n,hn,e⟩:=g.full b hb (rn m i pt 13).1 (bH3 m i pt hi 13)
 exact⟨13+n,by unfold turns;omega,by rw[bd2 m i pt hp];exact e⟩
theorem bD9 (t:SetTable){pt b:Nat}(g:Good t.mask)(hi:i<=t.mask)(hp:pt<2 ^ 64)(hb:b<=t.mask):∃ n,n<10*turns t.mask/\(it t n (st t.mask i pt)).j=b:=by
 obtain⟨r,hr,e⟩:=bd3 g hi hp hb
 obtain⟨n,hn,e'⟩:=bI0 t i pt r
 refine⟨n,by omega,?_⟩
 rw[e']
 exact e
theorem aS3 (t:SetTable):∀ (n:Nat) (p:Probe),(it t n p).dummy=p.dummy
 | 0,p=>rfl
 | n+1,p=>by
  show (it t n (t.advance p)).dummy=_
  rw[aS3 t n]
  unfold advance
  split<;>rfl
theorem bg3 (h:Int):bits h<2 ^ 64:=by
 unfold bits
 have h1:=Y2 h (show (2 ^ 64:Int)≠0 by decide)
 have h2:=Y3 h (show (0:Int)<2 ^ 64 by decide)
 omega
theorem ag9 (t:SetTable)(h:Int):t.probeStart h=st t.mask (bits h % (t.mask+1)) (bits h):=rfl
theorem aw7 {t t':SetTable}(h:t'.mask=t.mask):∀ (n:Nat) (p:Probe),it t' n p=it t n p
 | 0,p=>rfl
 | n+1,p=>by
  show it t' n (t'.advance p)=it t n (t.advance p)
  have:t'.advance p=t.advance p:=by unfold advance;rw[h]
  rw[this,aw7 h n]
def Asc (xs:Array Nat):Prop:=∀ (i j a b:Nat),i<j->xs[i]?=some a->xs[j]?=some b->a<b
theorem aB4 {xs:Array Nat}(asc:Asc xs)(j:Nat):∀ (fuel lo hi:Nat),hi - lo<=fuel->lo<=hi->hi<=xs.size->(∀ i a,i<lo->xs[i]?=some a->a<j)->(∀ i a,hi<=i->xs[i]?=some a->j<=a) ->
  (below.go xs j fuel lo hi)<=xs.size/\(∀ i a,i<below.go xs j fuel lo hi->xs[i]?=some a->a<j)/\(∀ i a,below.go xs j fuel lo hi<=i->xs[i]?=some a->j<=a)
 | 0,lo,hi,h0,h1,h2,h3,h4=>by
  have:lo=hi:=by omega
  subst this
  exact⟨h2,h3,h4⟩
 | fuel+1,lo,hi,h0,h1,h2,h3,h4=>by
  unfold below.go
  by_cases hlt:lo<hi
  ·rw[if_pos hlt]
   dsimp only
   have hm:(lo+hi) / 2<xs.size:=by omega
   have hg:xs.getD ((lo+hi) / 2) j=xs[(lo+hi) / 2]:=by simp[bI7,hm]
   have hq:xs[(lo+hi) / 2]?=some xs[(lo+hi) / 2]:=getElem?_pos xs _ hm
   by_cases hc:xs.getD ((lo+hi) / 2) j<j
   ·rw[if_pos hc]
    refine aB4 asc j fuel _ hi (by omega) (by omega) h2 (fun i a hi' e=>?_) h4
    rw[hg]at hc
    by_cases he:i=(lo+hi) / 2
    ·subst he;rw[hq]at e;cases e;exact hc
    ·have:=asc i _ a _ (by omega) e hq
     omega
   ·rw[if_neg hc]
    refine aB4 asc j fuel lo _ (by omega) (by omega) (by omega) h3 (fun i a hi' e=>?_)
    rw[hg]at hc
    by_cases he:i=(lo+hi) / 2
    ·subst he;rw[hq]at e;cases e;omega
    ·have:=asc _ i _ a (by omega) hq e
     omega
  ·rw[if_neg hlt]
   have:lo=hi:=by omega
   subst this
   exact⟨h2,h3,h4⟩
theorem af1 {xs:Array Nat}(asc:Asc xs)(j:Nat):below xs j<=xs.size/\(∀ i a,i<below xs j->xs[i]?=some a->a<j)/\(∀ i a,below xs j<=i->xs[i]?=some a->j<=a):=
 aB4 asc j xs.size 0 xs.size (by omega) (by omega) (c5 _) (fun i a h=>by omega) fun i a h e=>by
  have:=(getElem?_eq_some_iff.mp e).1
  omega
theorem below_at {xs:Array Nat}(asc:Asc xs)(h:xs[i]?=some j):below xs j=i:=by
 obtain⟨h1,h2,h3⟩:=af1 asc j
 rcases S7 (below xs j) i with q | q | q
 ·exfalso
  have hlt:below xs j<xs.size:=bx3 q (getElem?_eq_some_iff.mp h).1
  have e:=getElem?_pos xs (below xs j) hlt
  have a1:=h3 (below xs j) _ (c5 _) e
  have a2:=asc _ _ _ _ q e h
  omega
 ·exact q
 ·have:=h2 i j q h
  omega
theorem Z5 {t:SetTable}(asc:Asc t.place)(h:t.place[i]?=some j):t.slot j=.live i:=by
 unfold slot
 dsimp only
 rw[below_at asc h,h]
 simp
theorem aW7 {t:SetTable}(hd:t.dummies=#[])(h:∀ i:Nat,t.place[i]?≠some j):t.slot j=.empty:=by
 unfold slot
 dsimp only
 rw[if_neg (by simpa using h _),if_neg (by rw[hd];simp[has])]
theorem aS6 {t:SetTable}{hashAt:Nat->Int}{h:Int}:∀ (n fuel:Nat) (p:Probe),n<fuel->(∀ k,k<n->∃ i,t.slot (it t k p).j=.live i/\hashAt i≠h)->t.slot (it t n p).j=.empty ->
  probe.go t hashAt h fuel p=some (.empty (it t n p).j (it t n p).dummy)
 | 0,fuel+1,p,_,_,he=>by
  unfold probe.go
  have he':t.slot p.j=.empty:=he
  rw[he']
  rfl
 | n+1,fuel+1,p,hl,hk,he=>by
  obtain⟨i,e,hne⟩:=hk 0 (ag3 _)
  have e':t.slot p.j=.live i:=e
  unfold probe.go
  rw[e']
  dsimp only
  rw[if_neg (by simpa using hne)]
  exact aS6 n fuel (t.advance p) (by omega) (fun k hk'=>hk (k+1) (by omega)) he
theorem aK7 {t:SetTable}{hashAt:Nat->Int}{h:Int}:∀ (n fuel:Nat) (p:Probe),n<fuel->(∀ k,k<n->∃ i,t.slot (it t k p).j=.live i/\hashAt i≠h)->t.slot (it t n p).j=.live i->hashAt i=h ->
  ∃ q,probe.go t hashAt h fuel p=some (.candidate (it t n p).j i q)
 | 0,fuel+1,p,_,_,he,hh=>by
  unfold probe.go
  have he':t.slot p.j=.live i:=he
  rw[he']
  dsimp only
  rw[if_pos (by simpa using hh)]
  exact⟨_,rfl⟩
 | n+1,fuel+1,p,hl,hk,he,hh=>by
  obtain⟨i',e,hne⟩:=hk 0 (ag3 _)
  have e':t.slot p.j=.live i':=e
  unfold probe.go
  rw[e']
  dsimp only
  rw[if_neg (by simpa using hne)]
  exact aK7 n fuel (t.advance p) (by omega) (fun k hk'=>hk (k+1) (by omega)) he hh
abbrev En:=Int × Value
structure Tb (t:SetTable) (es:Array En):Prop where
 dum:t.dummies=#[]
 len:t.place.size=es.size
 asc:Asc t.place
 bnd:∀ (i j:Nat),t.place[i]?=some j->j<=t.mask
 good:Good t.mask
 nf:es.size*5<t.mask*3
 path:∀ (i:Nat) (e:En),es[i]?=some e->∃ n,n<10*turns t.mask/\t.place[i]?=some (it t n (t.probeStart e.1)).j/\∀ k,k<n->∃ i':Nat,t.place[i']?=some (it t k (t.probeStart e.1)).j
theorem bw1 {xs:Array Nat}(asc:Asc xs):∀ (i a:Nat),xs[i]?=some a->i<=a
 | 0,a,_=>n9 _
 | i+1,a,h=>by
  have hi:i+1<xs.size:=(getElem?_eq_some_iff.mp h).1
  have e:=getElem?_pos xs i (by omega)
  have h1:=bw1 asc i _ e
  have h2:=asc i (i+1) _ a (by omega) e h
  omega
theorem bk4 {xs:Array Nat}(asc:Asc xs){m:Nat}(h:xs.size<=m):∃ b,b<=m/\∀ i:Nat,xs[i]?≠some b:=by
 by_cases q:∃ i,i<xs.size/\xs[i]?≠some i
 ·obtain⟨i,⟨hi,hne⟩,hmin⟩:=aL1 q
  refine⟨i,by omega,fun k e=>?_⟩
  have hk:=bw1 asc k i e
  rcases J9 hk with hlt | rfl
  ·have ek:xs[k]?=some k:=Classical.byContradiction fun z=>hmin k hlt ⟨by omega,z⟩
   rw[ek]at e
   cases e
   omega
  ·exact hne e
 ·refine⟨xs.size,h,fun k e=>?_⟩
  have hk:k<xs.size:=(getElem?_eq_some_iff.mp e).1
  have ek:xs[k]?=some k:=Classical.byContradiction fun z=>q ⟨k,hk,z⟩
  rw[ek]at e
  cases e
  omega
theorem Tb.small {t:SetTable}{es:Array En}(T:Tb t es):es.size<=t.mask:=by
 have:=T.nf
 omega
theorem Tb.fits {t:SetTable}{es:Array En}(T:Tb t es):t.fits es.size=true:=by
 unfold SetTable.fits fill
 rw[T.dum,T.len]
 have:=T.small
 simp
 exact this
theorem Tb.odd {t:SetTable}{es:Array En}(T:Tb t es):t.gaveWay=false:=by
 unfold gaveWay
 rcases T.good with e | e | e | e<;>rw[e]<;>rfl
def hashOf (es:Array En)(i:Nat):Int:=(es[i]?.map (·.1)).getD 0
theorem Q2 {es:Array En}{e:En}(h:es[i]?=some e):hashOf es i=e.1:=by unfold hashOf;rw[h];rfl
theorem ag8 (t:SetTable)(h:Int):bits h % (t.mask+1)<=t.mask:=ak0 (bl9 _ (ag3 _))
theorem Tb.absent {t:SetTable}{es:Array En}(T:Tb t es){h:Int}(hh:∀ e∈es.toList,e.1≠h):∃ n,n<10*turns t.mask/\(∀ i:Nat,t.place[i]?≠some (it t n (t.probeStart h)).j)/\(it t n (t.probeStart h)).j<=t.mask /\
  (∀ k,k<n->∃ i':Nat,t.place[i']?=some (it t k (t.probeStart h)).j)/\t.probe (hashOf es) h (t.probeStart h)=some (.empty (it t n (t.probeStart h)).j none):=by
 obtain⟨b,hb,hfree⟩:=bk4 T.asc (m:=t.mask) (by rw[T.len];exact T.small)
 obtain⟨n0,hn0,e0⟩:=bD9 t T.good (ag8 t h) (bg3 h) hb
 rw[<- ag9]at e0
 obtain⟨n,⟨hfr,hn,hle⟩,hmin⟩:=aL1 (P:=fun n=>(∀ i:Nat,t.place[i]?≠some (it t n (t.probeStart h)).j)/\n<=n0/\(it t n (t.probeStart h)).j<=t.mask) ⟨n0,by rw[e0];exact hfree,c5 _,by rw[e0];exact hb⟩
 have hocc:∀ k,k<n->∃ i':Nat,t.place[i']?=some (it t k (t.probeStart h)).j:=fun k hk=>Classical.byContradiction fun z=>by
  have hk':∀ i:Nat,t.place[i]?≠some (it t k (t.probeStart h)).j:=fun i e=>z ⟨i,e⟩
  by_cases hkm:(it t k (t.probeStart h)).j<=t.mask
  ·exact hmin k hk ⟨hk',by omega,hkm⟩
  ·-- every place on the way is a slot
   exact hkm (by
    clear z hk' hkm hmin hfr hle hn hk
    rw[ag9]
    induction k with
    | zero=>exact ag8 t h
    | succ k ih =>
     have key:∀ k,∃ r c,c<=runEnd t.mask (rn t.mask (bits h % (t.mask+1)) (bits h) r).1 - (rn t.mask (bits h % (t.mask+1)) (bits h) r).1 /\
       it t k (st t.mask (bits h % (t.mask+1)) (bits h))=it t c (st t.mask (rn t.mask (bits h % (t.mask+1)) (bits h) r).1 (rn t.mask (bits h % (t.mask+1)) (bits h) r).2):=fun k=>by
      induction k with
      | zero=>exact⟨0,0,n9 _,rfl⟩
      | succ k ih =>
       obtain⟨r,c,hc,e⟩:=ih
       rcases J9 hc with hlt | heq
       ·exact⟨r,c+1,hlt,by rw[aj6,e,<- aj6]⟩
       ·refine⟨r+1,0,n9 _,?_⟩
        rw[aj6,e,<- aj6,heq,aK5]
        rfl
     obtain⟨r,c,hc,e⟩:=key (k+1)
     rw[e,aK4 t _ _ c hc]
     have h1:=bH3 t.mask (bits h % (t.mask+1)) (bits h) (ag8 t h) r
     have h2:=aP9 h1
     have h3:=aq9 t.mask (rn t.mask (bits h % (t.mask+1)) (bits h) r).1
     show (rn t.mask (bits h % (t.mask+1)) (bits h) r).1+c<=t.mask
     omega)
 refine⟨n,by omega,hfr,hle,hocc,?_⟩
 unfold probe
 have:=aS6 (hashAt:=hashOf es) (h:=h) n (10*turns t.mask) (t.probeStart h) (by omega) (fun k hk=>?_) (aW7 T.dum hfr)
 ·rw[this,aS3]
  rfl
 ·obtain⟨i',e⟩:=hocc k hk
  refine⟨i',Z5 T.asc e,?_⟩
  have hi:i'<es.size:=by rw[<- T.len];exact(getElem?_eq_some_iff.mp e).1
  have e2:=getElem?_pos es i' hi
  rw[Q2 e2]
  exact hh _ (by simp)
theorem Tb.present {t:SetTable}{es:Array En}(T:Tb t es){e:En}(he:es[i]?=some e)(hu:∀ (k:Nat) (e':En),es[k]?=some e'->e'.1=e.1->k=i):∃ j q,t.probe (hashOf es) e.1 (t.probeStart e.1)=some (.candidate j i q):=by
 obtain⟨n,hn,hp,hocc⟩:=T.path i e he
 unfold probe
 obtain⟨m,⟨hm,i1,hi1,hs1⟩,hmin⟩:=aL1 (P:=fun m=>m<=n/\∃ i1:Nat,t.place[i1]?=some (it t m (t.probeStart e.1)).j/\hashOf es i1=e.1) ⟨n,c5 _,i,hp,Q2 he⟩
 have hi2:i1<es.size:=by rw[<- T.len];exact(getElem?_eq_some_iff.mp hi1).1
 have e2:=getElem?_pos es i1 hi2
 rw[Q2 e2]at hs1
 have hii:i1=i:=hu i1 _ e2 hs1
 subst hii
 obtain⟨q,hq⟩:=aK7 (hashAt:=hashOf es) (h:=e.1) (i:=i1) m (10*turns t.mask) (t.probeStart e.1) (by omega) (fun k hk=>by
  obtain⟨i',e3⟩:=hocc k (by omega)
  exact⟨i',Z5 T.asc e3,fun z=>hmin k hk ⟨by omega,i',e3,z⟩⟩) (Z5 T.asc hi1) (Q2 he)
 exact⟨_,q,hq⟩
theorem get_ins {α:Type}{xs:Array α}{p:Nat}{x:α}(hp:p<=xs.size)(i:Nat):(insertAt xs p x)[i]?=if i<p then xs[i]? else if i=p then some x else xs[i - 1]?:=by
 unfold insertAt
 have e0:((xs.extract 0 p).push x).size=p+1:=by rw[x6,F5];omega
 by_cases h1:i<p
 ·rw[if_pos h1,aU7 (by omega),Array.getElem?_push_lt (by rw[F5];omega)]
  rw[Array.getElem_extract]
  simp only[K5]
  exact(getElem?_pos xs i (by omega)).symm
 ·rw[if_neg h1]
  by_cases h2:i=p
  ·subst h2
   rw[if_pos rfl,aU7 (by omega)]
   have e1:(xs.extract 0 i).size=i:=by rw[F5];omega
   rw[Array.getElem?_push,e1,if_pos rfl]
  ·rw[if_neg h2,Array.getElem?_append_right (by omega),e0,Array.getElem?_extract]
   split
   ·congr 1;omega
   ·rw[getElem?_neg]
    omega
theorem ah0 {α:Type}{xs:Array α}{p:Nat}{x:α}(hp:p<=xs.size):(insertAt xs p x).size=xs.size+1:=by
 unfold insertAt
 rw[G3,x6,F5,F5]
 omega
theorem bD4 {α:Type}{xs:Array α}{p:Nat}{x:α}(hp:p<=xs.size)(y:α):y∈(insertAt xs p x).toList↔y=x\/y∈xs.toList:=by
 constructor
 ·intro h
  obtain⟨i,hi⟩:=l5.mp h
  rw[b7,get_ins hp]at hi
  split at hi
  ·exact .inr (d9 (by rw[b7];exact hi))
  ·split at hi
   ·cases hi;exact .inl rfl
   ·exact .inr (d9 (by rw[b7];exact hi))
 ·rintro(rfl | h)
  ·exact d9 (i:=p) (by rw[b7,get_ins hp,if_neg (A3 _),if_pos rfl])
  ·obtain⟨i,hi⟩:=l5.mp h
   rw[b7]at hi
   have hi':i<xs.size:=(getElem?_eq_some_iff.mp hi).1
   by_cases q:i<p
   ·exact d9 (i:=i) (by rw[b7,get_ins hp,if_pos q];exact hi)
   ·exact d9 (i:=i+1) (by rw[b7,get_ins hp,if_neg (by omega),if_neg (by omega)];simpa using hi)
structure Tb' (t:SetTable) (es:Array En):Prop where
 dum:t.dummies=#[]
 len:t.place.size=es.size
 asc:Asc t.place
 bnd:∀ (i j:Nat),t.place[i]?=some j->j<=t.mask
 good:Good t.mask
 fil:es.size<=t.mask
 path:∀ (i:Nat) (e:En),es[i]?=some e->∃ n,n<10*turns t.mask/\t.place[i]?=some (it t n (t.probeStart e.1)).j/\∀ k,k<n->∃ i':Nat,t.place[i']?=some (it t k (t.probeStart e.1)).j
theorem Tb'.full {t:SetTable}{es:Array En}(T:Tb' t es)(h:es.size*5<t.mask*3):Tb t es:=⟨T.dum,T.len,T.asc,T.bnd,T.good,h,T.path⟩
theorem Tb'.fits {t:SetTable}{es:Array En}(T:Tb' t es):t.fits es.size=true:=by
 unfold SetTable.fits fill
 rw[T.dum,T.len]
 have:=T.fil
 simp
 exact this
theorem Tb'.plain {t:SetTable}{es:Array En}(T:Tb' t es)(b:Bool):Tb' { t with plain:=b } es:=by
 have e:∀ n (p:Probe),it { t with plain:=b } n p=it t n p:=fun n p=>aw7 (t:=t) (t':={ t with plain:=b }) rfl n p
 refine⟨T.dum,T.len,T.asc,T.bnd,T.good,T.fil,fun i x hx=>?_⟩
 obtain⟨n,h1,h2,h3⟩:=T.path i x hx
 exact⟨n,h1,by rw[e];exact h2,fun k hk=>by rw[e];exact h3 k hk⟩
theorem Tb.put {t:SetTable}{es:Array En}(T:Tb t es){h:Int}{x:Value}(hn:n<10*turns t.mask)(hfr:∀ i:Nat,t.place[i]?≠some (it t n (t.probeStart h)).j)(hle:(it t n (t.probeStart h)).j<=t.mask)
  (hocc:∀ k,k<n->∃ i':Nat,t.place[i']?=some (it t k (t.probeStart h)).j) :
  (t.put (it t n (t.probeStart h)).j).2<=es.size/\Tb' (t.put (it t n (t.probeStart h)).j).1 (insertAt es (t.put (it t n (t.probeStart h)).j).2 (h,x)):=by
 generalize hj:(it t n (t.probeStart h)).j=j at *
 obtain⟨b1,b2,b3⟩:=af1 T.asc j
 have hp:(t.put j).2=below t.place j:=rfl
 have hd:has t.dummies j=false:=by rw[T.dum];simp[has]
 have ht:(t.put j).1={ t with place:=insertAt t.place (below t.place j) j }:=by
  unfold SetTable.put
  dsimp only
  rw[if_neg (by rw[hd];exact d4)]
 have hm:(t.put j).1.mask=t.mask:=by rw[ht]
 have hpl:(t.put j).1.place=insertAt t.place (below t.place j) j:=by rw[ht]
 have hsz:=T.nf
 have old:∀ (i a:Nat),t.place[i]?=some a->∃ i':Nat,(insertAt t.place (below t.place j) j)[i']?=some a:=fun i a e=>by
  by_cases q:i<below t.place j
  ·exact⟨i,by rw[get_ins b1,if_pos q];exact e⟩
  ·exact⟨i+1,by rw[get_ins b1,if_neg (by omega),if_neg (by omega)];simpa using e⟩
 have hit:∀ k (p:Probe),it (t.put j).1 k p=it t k p:=fun k p=>aw7 hm k p
 have hst:∀ z:Int,(t.put j).1.probeStart z=t.probeStart z:=fun z=>by rw[ag9,ag9,hm]
 refine⟨by rw[hp,<- T.len];exact b1,?_⟩
 rw[hp]
 refine⟨by rw[ht];exact T.dum,by rw[hpl,ah0 b1,ah0 (by rw[<- T.len];exact b1),T.len],?_,?_,by rw[hm];exact T.good,?_,?_⟩
 ·rw[hpl]
  intro i k a c hik ea ec
  rw[get_ins b1]at ea ec
  split at ea
  ·rename_i hi
   split at ec
   ·exact T.asc i k a c hik ea ec
   ·split at ec
    ·cases ec;exact b2 i a hi ea
    ·exact T.asc i (k - 1) a c (by omega) ea ec
  ·split at ea
   ·rename_i hi1 hi2
    cases ea
    rw[if_neg (by omega),if_neg (by omega)]at ec
    have h1:=b3 (k - 1) c (by omega) ec
    rcases J9 h1 with h2 | h2
    ·exact h2
    ·subst h2;exact absurd ec (hfr (k - 1))
   ·rw[if_neg (by omega),if_neg (by omega)]at ec
    exact T.asc (i - 1) (k - 1) a c (by omega) ea ec
 ·rw[hpl,hm]
  intro i a ea
  rw[get_ins b1]at ea
  split at ea
  ·exact T.bnd i a ea
  ·split at ea
   ·cases ea;exact hle
   ·exact T.bnd _ a ea
 ·rw[hm,ah0 (by rw[<- T.len];exact b1)]
  have:=T.good
  unfold Good at this
  omega
 ·intro i e he
  rw[hpl,hm]
  have b1':below t.place j<=es.size:=by rw[<- T.len];exact b1
  rw[get_ins b1']at he
  have lift:∀ (i0:Nat) (i':Nat),es[i0]?=some e->(∀ a,t.place[i0]?=some a->(insertAt t.place (below t.place j) j)[i']?=some a) ->
    ∃ n,n<10*turns t.mask/\(insertAt t.place (below t.place j) j)[i']?=some (it (t.put j).1 n ((t.put j).1.probeStart e.1)).j/\∀ k,k<n->∃ i':Nat,(insertAt t.place (below t.place j) j)[i']?=some (it (t.put j).1 k ((t.put j).1.probeStart e.1)).j:=fun i0 i' h0 h1=>by
   obtain⟨n',q1,q2,q3⟩:=T.path i0 e h0
   refine⟨n',q1,?_,fun k hk=>?_⟩
   ·rw[hit,hst];exact h1 _ q2
   ·obtain⟨i2,e2⟩:=q3 k hk
    rw[hit,hst]
    exact old i2 _ e2
  split at he
  ·rename_i hi
   exact lift i i he fun a ea=>by rw[get_ins b1,if_pos hi];exact ea
  ·split at he
   ·rename_i hi1 hi2
    cases he
    refine⟨n,hn,?_,fun k hk=>?_⟩
    ·rw[hit,hst,hj,get_ins b1,if_neg hi1,if_pos hi2]
    ·obtain⟨i2,e2⟩:=hocc k hk
     rw[hit,hst]
     exact old i2 _ e2
   ·rename_i hi1 hi2
    exact lift (i - 1) i he fun a ea=>by rw[get_ins b1,if_neg hi1,if_neg hi2];exact ea
end Sett
variable {es:Array Sett.En}
namespace Sett
open PySem PySem.SetTable
theorem aJ0:∀ (k n:Nat) (g:Nat->Nat),(∀ i,i<n->g i<k)->(∀ i j,i<n->j<n->g i=g j->i=j)->n<=k
 | 0,n,g,h,_=>by
  rcases bS1 n with e | e
  ·omega
  ·exact absurd (h 0 e) (aq2 _)
 | k+1,0,g,_,_=>n9 _
 | k+1,n+1,g,h,inj=>by
  by_cases q:∃ i0,i0<n+1/\g i0=k
  ·obtain⟨i0,h0,e0⟩:=q
   have:=aJ0 k n (fun i=>if i=i0 then g n else g i) (fun i hi=>?_) (fun i j hi hj e=>?_)
   ·omega
   ·try dsimp only
    split
    ·rename_i hii
     have h1:=h n (by omega)
     have h2:g n≠k:=fun z=>by have:=inj n i0 (by omega) h0 (by rw[z,e0]);omega
     omega
    ·have h1:=h i (by omega)
     have h2:g i≠k:=fun z=>by have:=inj i i0 (by omega) h0 (by rw[z,e0]);omega
     omega
   ·try dsimp only at e
    split at e
    ·split at e
     ·omega
     ·have:=inj n j (by omega) (by omega) e;omega
    ·split at e
     ·have:=inj i n (by omega) (by omega) e;omega
     ·exact inj i j (by omega) (by omega) e
  ·have:=aJ0 k (n+1) g (fun i hi=>?_) inj
   ·omega
   ·have h1:=h i hi
    have h2:g i≠k:=fun z=>q ⟨i,hi,z⟩
    omega
structure LI (t:SetTable) (hs:Array Int) (owner:Array (Option Nat)) (k:Nat):Prop where
 size:owner.size=t.mask+1
 lt:∀ (j i:Nat),owner[j]?=some (some i)->i<k
 inj:∀ (j j' i:Nat),owner[j]?=some (some i)->owner[j']?=some (some i)->j=j'
 has:∀ (i:Nat) (h:Int),i<k->hs[i]?=some h->∃ n,n<10*turns t.mask/\owner[(it t n (t.probeStart h)).j]?=some (some i)/\∀ c,c<n->∃ i':Nat,owner[(it t c (t.probeStart h)).j]?=some (some i')
theorem LI.free {t:SetTable}{hs:Array Int}{owner:Array (Option Nat)}{k:Nat}(L:LI t hs owner k)(hk:k<=t.mask):∃ b,b<=t.mask/\owner[b]?=some none:=by
 apply Classical.byContradiction
 intro z
 have all:∀ b,b<=t.mask->∃ i,owner[b]?=some (some i):=fun b hb=>by
  have e:=getElem?_pos owner b (by rw[L.size];omega)
  cases q:owner[b]'(by rw[L.size];omega) with
  | none=>rw[q]at e;exact absurd ⟨b,hb,e⟩ z
  | some i=>rw[q]at e;exact⟨i,e⟩
 have:=aJ0 k (t.mask+1) (fun b=>match owner[b]? with | some (some i)=>i | _=>0) (fun b hb=>?_) (fun b b' hb hb' e=>?_)
 ·omega
 ·obtain⟨i,e⟩:=all b (by omega)
  try dsimp only
  rw[e]
  exact L.lt b i e
 ·obtain⟨i,e1⟩:=all b (by omega)
  obtain⟨i',e2⟩:=all b' (by omega)
  try dsimp only at e
  rw[e1,e2]at e
  dsimp only at e
  subst e
  exact L.inj b b' i e1 e2
theorem aF2 (t:SetTable)(owner:Array (Option Nat))(hz:owner.size=t.mask+1):∀ (fuel i pt:Nat),i<=t.mask->(∃ r,r<fuel/\∃ b,b=(rn t.mask i pt r).1/\owner[b]?=some none) ->
  ∃ n,n<10*fuel/\layClean.free t.mask owner fuel i pt=some (it t n (st t.mask i pt)).j/\owner[(it t n (st t.mask i pt)).j]?=some none/\∀ c,c<n->∃ i':Nat,owner[(it t c (st t.mask i pt)).j]?=some (some i')
 | 0,i,pt,_,⟨r,hr,_⟩=>absurd hr (aq2 _)
 | fuel+1,i,pt,hi,⟨r,hr,b,hb,hbo⟩=>by
  have h9:=aq9 t.mask i
  have hm:=aP9 hi
  unfold layClean.free
  have slotOf:∀ k,k<=runEnd t.mask i - i->(it t k (st t.mask i pt)).j=i+k:=fun k hk=>by rw[aK4 t i pt k hk]
  have getS:∀ k,k<=runEnd t.mask i - i->(owner.getD (i+k) (some 0)).isNone=false->∃ i':Nat,owner[i+k]?=some (some i'):=fun k hk e=>by
   have hlt:i+k<owner.size:=by omega
   have e1:=getElem?_pos owner (i+k) hlt
   have e2:owner.getD (i+k) (some 0)=owner[i+k]:=by simp[bI7,hlt]
   rw[e2]at e
   cases q:owner[i+k] with
   | none=>rw[q]at e;cases e
   | some i'=>rw[q]at e1;exact⟨i',e1⟩
  cases hf:(O2 (runEnd t.mask i+1 - i)).find? (fun k=>(owner.getD (i+k) (some 0)).isNone) with
  | some k =>
   dsimp only
   rw[List.find?_eq_some_iff_getElem]at hf
   obtain⟨hp,k',hk',ek,hbef⟩:=hf
   rw[List.length_range]at hk'
   rw[af7]at ek
   subst ek
   refine⟨k',by omega,by rw[slotOf k' (by omega)],?_,fun c hc=>?_⟩
   ·rw[slotOf k' (by omega)]
    have hlt:i+k'<owner.size:=by omega
    have e2:owner.getD (i+k') (some 0)=owner[i+k']:=by simp[bI7,hlt]
    rw[e2]at hp
    rw[getElem?_pos owner _ hlt]
    cases q:owner[i+k'] with
    | none=>rfl
    | some z=>rw[q]at hp;cases hp
   ·rw[slotOf c (by omega)]
    have:=hbef c hc
    rw[af7]at this
    exact getS c (by omega) (by simpa using this)
  | none =>
   dsimp only
   rw[List.find?_eq_none]at hf
   have all:∀ c,c<=runEnd t.mask i - i->∃ i':Nat,owner[i+c]?=some (some i'):=fun c hc=>getS c hc (by simpa only [Bool.not_eq_true] using hf c (E4.mpr (by omega)))
   have hr0:r≠0:=fun z=>by
    subst z
    obtain⟨i',e⟩:=all 0 (n9 _)
    have hb':b=i:=hb
    rw[hb']at hbo
    rw[aM4,hbo]at e
    cases e
   obtain⟨r',rfl⟩:∃ r',r=r'+1:=⟨r - 1,by omega⟩
   have shift:∀ r,rn t.mask (leap t.mask i pt).1 (leap t.mask i pt).2 r=rn t.mask i pt (r+1):=fun r=>by
    induction r with
    | zero=>rfl
    | succ r ih =>
     show leap t.mask _ _=leap t.mask _ _
     rw[ih]
   obtain⟨n,hn,e1,e2,e3⟩:=aF2 t owner hz fuel (leap t.mask i pt).1 (leap t.mask i pt).2 (ak0 (bl9 _ (ag3 _))) ⟨r',by omega,b,by rw[hb,shift],hbo⟩
   have sh:∀ c,it t (runEnd t.mask i - i+1+c) (st t.mask i pt)=it t c (st t.mask (leap t.mask i pt).1 (leap t.mask i pt).2):=fun c=>by rw[aK6,aK5]
   refine⟨runEnd t.mask i - i+1+n,by omega,by rw[sh];exact e1,by rw[sh];exact e2,fun c hc=>?_⟩
   by_cases q:c<=runEnd t.mask i - i
   ·rw[slotOf c q]
    exact all c q
   ·have:=e3 (c - (runEnd t.mask i - i+1)) (by omega)
    rw[<- sh,show runEnd t.mask i - i+1+(c - (runEnd t.mask i - i+1))=c by omega]at this
    exact this
theorem aR5 (t:SetTable)(g:Good t.mask)(hs:Array Int)(hsz:hs.size<=t.mask):∀ (l:List Int) (k:Nat) (owner:Array (Option Nat)),LI t hs owner k->hs.toList.drop k=l ->
  ∃ owner',(l.foldl (fun acc h=>do
   let (owner,k) <- acc
   let j <- layClean.free t.mask owner (turns t.mask) (bits h % (t.mask+1)) (bits h)
   pure (owner.setIfInBounds j (some k),k+1)) (some (owner,k)))=some (owner',k+l.length)/\LI t hs owner' (k+l.length)
 | [],k,owner,L,_=>⟨owner,rfl,L⟩
 | h::l,k,owner,L,hd=>by
  have hk:k<hs.size:=by
   apply Classical.byContradiction
   intro z
   rw[E3 (by rw[d8];omega)]at hd
   cases hd
  have hget:hs[k]?=some h:=by
   rw[<- b7]
   have:=congrArg (fun l=>l[0]?) hd
   simpa using this
  obtain⟨b,hb,hbo⟩:=L.free (by omega)
  obtain⟨r,hr,er⟩:=bd3 g (ag8 t h) (bg3 h) hb
  obtain⟨n,hn,e1,e2,e3⟩:=aF2 t owner L.size (turns t.mask) (bits h % (t.mask+1)) (bits h) (ag8 t h) ⟨r,hr,b,er.symm,hbo⟩
  rw[<- ag9]at e1 e2 e3
  have hjs:(it t n (t.probeStart h)).j<owner.size:=(getElem?_eq_some_iff.mp e2).1
  have gs:∀ x,(owner.setIfInBounds (it t n (t.probeStart h)).j (some k))[x]?=if (it t n (t.probeStart h)).j=x then some (some k) else owner[x]?:=fun x=>by
   rw[Array.getElem?_setIfInBounds]
   split
   ·rename_i hx;subst hx;simp[hjs]
   ·rfl
  have occ:∀ (x i:Nat),owner[x]?=some (some i)->∃ i':Nat,(owner.setIfInBounds (it t n (t.probeStart h)).j (some k))[x]?=some (some i'):=fun x i e=>by
   rw[gs];split
   ·exact⟨k,rfl⟩
   ·exact⟨i,e⟩
  have L':LI t hs (owner.setIfInBounds (it t n (t.probeStart h)).j (some k)) (k+1):=by
   refine⟨by rw[ba4];exact L.size,fun j i e=>?_,fun j j' i ea ec=>?_,fun i h' hi hh=>?_⟩
   ·rw[gs]at e
    split at e
    ·cases e;omega
    ·have:=L.lt j i e;omega
   ·rw[gs]at ea ec
    split at ea
    ·rename_i q1
     cases ea
     split at ec
     ·rename_i q2;rw[<- q1,<- q2]
     ·have:=L.lt j' k ec;omega
    ·split at ec
     ·cases ec
      have:=L.lt j k ea;omega
     ·exact L.inj j j' i ea ec
   ·by_cases q:i=k
    ·subst q
     rw[hget]at hh
     cases hh
     refine⟨n,hn,by rw[gs,if_pos rfl],fun c hc=>?_⟩
     obtain⟨i',e⟩:=e3 c hc
     exact occ _ i' e
    ·obtain⟨n',q1,q2,q3⟩:=L.has i h' (by omega) hh
     refine⟨n',q1,?_,fun c hc=>?_⟩
     ·rw[gs]
      split
      ·rename_i q4
       rw[q4]at e2
       rw[e2]at q2
       cases q2
      ·exact q2
     ·obtain⟨i',e⟩:=q3 c hc
      exact occ _ i' e
  obtain⟨owner',f1,f2⟩:=aR5 t g hs hsz l (k+1) _ L' (by
   have e5:hs.toList.drop (k+1)=(hs.toList.drop k).drop 1:=by rw[ba2]
   rw[e5,hd]
   rfl)
  refine⟨owner',?_,?_⟩
  ·rw[X7]
   have:(do
     let (owner,k) <- some (owner,k)
     let j <- layClean.free t.mask owner (turns t.mask) (bits h % (t.mask+1)) (bits h)
     pure (owner.setIfInBounds j (some k),k+1))=some (owner.setIfInBounds (it t n (t.probeStart h)).j (some k),k+1):=by
    show (layClean.free t.mask owner (turns t.mask) (bits h % (t.mask+1)) (bits h) >>= fun j=>pure (owner.setIfInBounds j (some k),k+1))=_
    rw[e1]
    rfl
   rw[this,f1,o6]
   congr 2
   omega
  ·rw[o6,show k+(l.length+1)=k+1+l.length by omega]
   exact f2
theorem aR6 {M finger moves:Nat}{led plain:Bool}(g:Good M)(hsz:es.size*5<M*3) :
  ∃ t2 order,laid M finger moves led plain (es.map (·.1))=some (t2,order)/\Tb t2 (order.filterMap (es[·]?))/\(order.filterMap (es[·]?)).toList.Perm es.toList/\order.toList.Perm (O2 es.size)/\t2.led=led/\t2.plain=plain:=by
 let t:SetTable:={ mask:=M,place:=#[],dummies:=#[],finger:=finger,led:=led,moves:=moves,plain:=plain }
 have ht:t.mask=M:=rfl
 have h0:LI t (es.map (·.1)) (Array.replicate (M+1) none) 0:=by
  refine⟨by simp[ht],fun j i e=>?_,fun j j' i e=>?_,fun i h hi=>by omega⟩
  ·rw[ba5]at e;split at e<;>cases e
  ·rw[ba5]at e;split at e<;>cases e
 obtain⟨owner,f1,L⟩:=aR5 t g (es.map (·.1)) (by rw[af6,ht];omega) (es.map (·.1)).toList 0 _ h0 rfl
 rw[K5,d8,af6]at f1 L
 have hlay:layClean M (es.map (·.1))=some owner:=by
  unfold layClean
  rw[<- Array.foldl_toList]
  have:(ac5 _ _ (es.map (·.1)).toList)=some (owner,es.size):=f1
  rw[this]
  rfl
 let live:List (Nat × Nat):=(O2 (M+1)).filterMap fun j=>(owner.getD j none).map (j,·)
 have hlive:∀ p:Nat × Nat,p∈live↔owner[p.1]?=some (some p.2):=fun p=>by
  obtain⟨j,i⟩:=p
  have hg:∀ j,owner.getD j none=(owner[j]?).getD none:=fun j=>by simp
  show (j,i)∈List.filterMap _ _↔_
  rw[af5]
  constructor
  ·rintro⟨j',hj',e⟩
   rw[hg]at e
   cases q:owner[j']? with
   | none=>rw[q]at e;cases e
   | some z =>
    rw[q]at e
    cases z with
    | none=>cases e
    | some i' =>
     have e':(j',i')=(j,i):=Option.some.inj e
     cases e'
     exact q
  ·intro e
   have hj:j<owner.size:=(getElem?_eq_some_iff.mp e).1
   refine⟨j,E4.mpr (by rw[L.size,ht]at hj;exact hj),?_⟩
   rw[hg,e]
   rfl
 have hpw:live.Pairwise (fun a b=>a.1<b.1):=by
  show (List.filterMap _ _).Pairwise _
  rw[List.pairwise_filterMap]
  refine List.Pairwise.imp ?_ List.pairwise_lt_range
  intro a b hab p hp q hq
  cases h1:owner.getD a none with
  | none=>rw[h1]at hp;cases hp
  | some i =>
   cases h2:owner.getD b none with
   | none=>rw[h2]at hq;cases hq
   | some i' =>
    rw[h1]at hp
    rw[h2]at hq
    have e1:(a,i)=p:=Option.some.inj hp
    have e2:(b,i')=q:=Option.some.inj hq
    subst e1 e2
    exact hab
 have hnd:(live.map (·.2)).Nodup:=by
  unfold List.Nodup
  rw[D9]
  refine List.Pairwise.imp_of_mem ?_ hpw
  intro a b ha hb hab e
  have h1:=(hlive a).mp ha
  have h2:=(hlive b).mp hb
  rw[<- e]at h2
  have:=L.inj _ _ _ h1 h2
  omega
 have hord:(live.map (·.2)).Perm (O2 es.size):=by
  refine(L9 hnd List.nodup_range).mpr fun i=>?_
  rw[E4,o9]
  constructor
  ·rintro⟨p,hp,rfl⟩
   exact L.lt _ _ ((hlive p).mp hp)
  ·intro hi
   obtain⟨n,_,q,_⟩:=L.has i ((es.map (·.1))[i]'(by rw[af6];exact hi)) hi (getElem?_pos _ _ _)
   exact⟨(_,i),(hlive _).mpr q,rfl⟩
 have hlen:live.length=es.size:=by have:=hord.length_eq;simpa using this
 have hes:∀ i,i∈live.map (·.2)->∃ e,es[i]?=some e:=fun i hi=>by
  have:=hord.mem_iff.mp hi
  rw[E4]at this
  exact⟨es[i],getElem?_pos es i this⟩
 have fm:∀ (l:List Nat),(∀ i∈l,∃ e,es[i]?=some e)->(l.filterMap (es[·]?)).length=l.length/\∀ (p:Nat),(l.filterMap (es[·]?))[p]?=(l[p]?).bind (es[·]?):=fun l=>by
  induction l with
  | nil=>intro _;exact⟨rfl,fun p=>rfl⟩
  | cons a l ih =>
   intro h
   obtain⟨e,he⟩:=h a c6
   obtain⟨i1,i2⟩:=ih fun i hi=>h i (d3 _ hi)
   rw[List.filterMap_cons_some he]
   refine⟨by rw[o6,i1,o6],fun p=>?_⟩
   cases p with
   | zero=>simp[he]
   | succ p=>simpa using i2 p
 obtain⟨fl,fg⟩:=fm _ hes
 have hperm:((live.map (·.2)).filterMap (es[·]?)).Perm es.toList:=by
  refine(hord.filterMap _).trans (List.Perm.of_eq ?_)
  apply O6
  intro p
  obtain⟨_,g2⟩:=fm (O2 es.size) fun i hi=>⟨es[i]'(E4.mp hi),getElem?_pos es i (E4.mp hi)⟩
  rw[g2,show es.toList[p]?=es[p]? from b7 ..]
  by_cases hp:p<es.size
  ·rw[av1 hp];rfl
  ·rw[C8 (by simp;omega),getElem?_neg es p hp];rfl
 let t2:SetTable:={ mask:=M,place:=(live.map (·.1)).toArray,dummies:=#[],finger:=finger,led:=led,moves:=moves,plain:=plain }
 have hes':((live.map (·.2)).toArray.filterMap (es[·]?)).toList=(live.map (·.2)).filterMap (es[·]?):=by simp
 have getE:∀ (p:Nat) (e:En),((live.map (·.2)).toArray.filterMap (es[·]?))[p]?=some e->∃ j i:Nat,live[p]?=some (j,i)/\es[i]?=some e:=fun p e h=>by
  rw[<- b7,hes',fg,j6]at h
  cases q:live[p]? with
  | none=>rw[q]at h;cases h
  | some ji=>rw[q]at h;exact⟨ji.1,ji.2,rfl,h⟩
 have getP:∀ (p:Nat) (j:Nat),t2.place[p]?=some j↔∃ i,live[p]?=some (j,i):=fun p j=>by
  show (live.map (·.1)).toArray[p]?=some j↔_
  rw[List.getElem?_toArray,j6]
  cases q:live[p]? with
  | none=>simp
  | some ji =>
   obtain⟨a,b⟩:=ji
   simp
 have itE:∀ n (p:Probe),it t2 n p=it t n p:=fun n p=>aw7 (t:=t) (t':=t2) rfl n p
 refine⟨t2,(live.map (·.2)).toArray,?_,?_,(by rw[hes'];exact hperm),hord,rfl,rfl⟩
 ·unfold laid
  rw[hlay]
  rfl
 ·refine⟨rfl,?_,?_,?_,g,?_,?_⟩
  ·show (live.map (·.1)).toArray.size=_
   rw[k8,b8,<- d8,hes',fl,b8]
  ·intro i j a b hij ea eb
   obtain⟨_,ea⟩:=(getP i a).mp ea
   obtain⟨_,eb⟩:=(getP j b).mp eb
   obtain⟨h1,e1⟩:=a9.mp ea
   obtain⟨h2,e2⟩:=a9.mp eb
   have:=o4.mp hpw i j h1 h2 hij
   rw[e1,e2]at this
   exact this
  ·intro i j e
   obtain⟨i',e⟩:=(getP i j).mp e
   have:=(hlive _).mp (d9 e)
   have hj:j<owner.size:=(getElem?_eq_some_iff.mp this).1
   rw[L.size]at hj
   show j<=M
   exact ak0 hj
  ·rw[<- d8,hes',fl,b8,hlen]
   exact hsz
  ·intro p e he
   obtain⟨j,i,hl,hi⟩:=getE p e he
   have ho:=(hlive _).mp (d9 hl)
   have hi':i<es.size:=(getElem?_eq_some_iff.mp hi).1
   obtain⟨n,q1,q2,q3⟩:=L.has i e.1 hi' (by rw[Array.getElem?_map,hi];rfl)
   have ej:=L.inj _ _ _ ho q2
   refine⟨n,q1,?_,fun c hc=>?_⟩
   ·rw[itE]
    exact(getP p _).mpr ⟨i,by rw[hl];congr 2⟩
   ·obtain⟨i',e'⟩:=q3 c hc
    obtain⟨p',hp'⟩:=l5.mp ((hlive (_,i')).mpr e')
    exact⟨p',by rw[itE];exact(getP p' _).mpr ⟨i',hp'⟩⟩
theorem bD7 {M finger moves:Nat}{led plain:Bool}(g:Good M)(hsz:es.size*5<M*3) :
  ∃ t2 order,laid M finger moves led plain (es.map (·.1))=some (t2,order)/\Tb t2 (order.filterMap (es[·]?))/\(order.filterMap (es[·]?)).toList.Perm es.toList:=
 let ⟨a,b,c,d,e,_⟩:=aR6 (finger:=finger) (moves:=moves) (led:=led) (plain:=plain) g hsz;⟨a,b,c,d,e⟩
end Sett
namespace Sett
open PySem PySem.SetTable PyProof.Rows
def aj5:List Nat->Nat->Bool
 | [],_=>true
 | x::l,acc=>!acc.testBit x && aj5 l (acc ||| 2 ^ x)
theorem ao4:∀ (l:List Nat) (acc:Nat),aj5 l acc=true->l.Nodup/\∀ x∈l,acc.testBit x=false
 | [],_,_=>⟨C0,(fun _ h=>nomatch h)⟩
 | x::l,acc,h=>by
  unfold aj5 at h
  rw[v7]at h
  obtain⟨h1,h2⟩:=h
  obtain⟨n,m⟩:=ao4 l _ h2
  have m':∀ y∈l,acc.testBit y=false/\x≠y:=fun y hy=>by
   have:=m y hy
   rw[Nat.testBit_or,Bool.or_eq_false_iff,bI6]at this
   exact⟨this.1,of_decide_eq_false this.2⟩
  refine⟨m9.mpr ⟨fun hx=>(m' x hx).2 rfl,n⟩,fun y hy=>?_⟩
  rcases c8.mp hy with rfl | hy
  ·simpa using h1
  ·exact(m' y hy).1
def hp (n:Nat):Nat:=bits (reduceHash (Builtin.Tuple.tupleHashOf [bT4 ((n / 24:Nat):Int),bT4 ((n % 24:Nat):Int)])) % 3708
set_option maxRecDepth 100000 in
theorem bQ1:aj5 ((O2 576).map hp) 0=true:=by decide +kernel
theorem bQ0 {a b:Nat}(ha:a<576)(hb:b<576)(h:hp a=hp b):a=b:=by
 have:=(ao4 _ _ bQ1).1
 unfold List.Nodup at this
 rw[D9]at this
 rw[o4]at this
 rcases S7 a b with q | q | q
 ·have:=this a b (by simpa using ha) (by simpa using hb) q
  simp only[af7]at this
  exact absurd h this
 ·exact q
 ·have:=this b a (by simpa using hb) (by simpa using ha) q
  simp only[af7]at this
  exact absurd h.symm this
def U7 (ks:List Int):Prop:=∃ i j:Nat,i<24/\j<24/\ks=[(i:Int),(j:Int)]
theorem aa2 {k':List Int}(h1:U7 k)(h2:U7 k')(e:i6 (m7 prog w) k=i6 (m7 prog w) k'):k=k':=by
 obtain⟨i,j,hi,hj,rfl⟩:=h1
 obtain⟨i',j',hi',hj',rfl⟩:=h2
 have e2:hp (24*i+j)=hp (24*i'+j'):=by
  unfold hp
  rw[show (24*i+j) / 24=i by omega,show (24*i+j) % 24=j by omega,show (24*i'+j') / 24=i' by omega,show (24*i'+j') % 24=j' by omega]
  exact congrArg (fun z=>bits z % 3708) e
 have:=bQ0 (by omega) (by omega) e2
 have h3:i=i':=by omega
 have h4:j=j':=by omega
 rw[h3,h4]
def af3 (prog:Program)(w:World)(h:Heap)(k:List Int)(e:En):Prop:=∃ a,e.2=.ref a/\y9 (m7 prog w) h k a/\e.1=i6 (m7 prog w) k
def au7 (prog:Program)(w:World)(hk h:Heap)(S:Addr)(ks:List (List Int)):Prop:=
 ∃ o es ep t,h.get? S=some o/\o.ExactSet/\o.data=.set es ep t/\Tb t es/\es.size=ks.length/\ks.Nodup/\(∀ k∈ks,U7 k)/\(∀ k∈ks,∃ e∈es.toList,af3 prog w hk k e)/\∀ e∈es.toList,∃ k∈ks,af3 prog w hk k e
theorem am3 (x:y9 (m7 prog w) h k a)(hs:∀ b o,h.get? b=some o->h'.get? b=some o):y9 (m7 prog w) h' k a:=by
 obtain⟨o,items,n,h2,h3⟩:=x
 exact⟨o,items,n,hs a o h2,h3⟩
theorem af3.up {e:En}(x:af3 prog w h k e)(hs:∀ b o,h.get? b=some o->h'.get? b=some o):af3 prog w h' k e:=by
 obtain⟨a,h1,h2,h6⟩:=x
 exact⟨a,h1,am3 h2 hs,h6⟩
theorem af3.inj {k':List Int}{e:En}(x:af3 prog w h k e)(y:af3 prog w h k' e):k=k':=by
 obtain⟨a,h1,h2,_⟩:=x
 obtain⟨b,h3,h4,_⟩:=y
 rw[h1]at h3
 cases h3
 exact h2.inj h4
theorem am6 (x:Addr)(es:Array En):byScan (.ref x) es=false:=by
 unfold byScan Value.scannable
 rfl
theorem ad3 {x:Addr}{Q:Bool->Shared->Prop}(hx:y9 (m7 prog w) s.heap k x)(h:Q true s):k9 (n6 prog w) A (bh5 8 (.ref x)) Q E s:=by
 have hT:=hx.typeIs
 obtain⟨o,items,n,ho,hc,hd,hi⟩:=hx
 unfold bh5
 refine a5 (T4 hT F.slot_tuple_hash.lookup ?_)
 dsimp only
 refine a5 (aC0 ho hd ?_)
 show k9 _ _ (forIn items _ _ >>= _) _ _ s
 rw[<- R1]
 have hv:∀ v∈items.toList,∃ i t,v=.int i t:=fun v hv=>by
  clear ho hd
  generalize items.toList=l at hi hv
  induction hi with
  | nil=>cases hv
  | cons h1 _ ih =>
   rcases c8.mp hv with rfl | hv
   ·obtain⟨t,e⟩:=Value.isInt_shape h1
    exact⟨_,t,e⟩
   ·exact ih hv
 refine a5 (X0 _ (fun rest r s'=>r.1=none/\s'=s/\∀ v∈rest,∃ i t,v=.int i t) _ ?_ ?_ _ _ ⟨rfl,rfl,hv⟩)
 ·rintro v rest r s' ⟨hr,rfl,hall⟩
  obtain⟨i,t,rfl⟩:=hall v c6
  have e:bh5 7 (.int i t)=pure true:=by unfold bh5;rfl
  rw[e]
  refine a5 (a8 ?_)
  simp only[D8,d7,if_false]
  exact a8 ⟨rfl,rfl,fun u hu'=>hall u (d3 _ hu')⟩
 ·rintro⟨r1,r2⟩ s' ⟨hr,rfl,_⟩
  simp only at hr
  subst hr
  exact a8 h
theorem ak7 {S x:Addr}{t:SetTable}{h:Int}{Q:SetFound->Shared->Prop}(ho:s.heap.get? S=some o)(hd:o.data=.set es ep t)(T:Tb t es)(hh:∀ e∈es.toList,e.1≠h)
  (hq:∀ n,n<10*turns t.mask->(∀ i:Nat,t.place[i]?≠some (it t n (t.probeStart h)).j)->(it t n (t.probeStart h)).j<=t.mask->(∀ k,k<n->∃ i':Nat,t.place[i']?=some (it t k (t.probeStart h)).j)->Q (.free (it t n (t.probeStart h)).j false) s) :
  k9 (n6 prog w) A (al4 S (.ref x) h true) Q E s:=by
 obtain⟨n,h1,h2,h3,h4,h5⟩:=T.absent hh
 unfold al4 T9
 refine a5 (u9 ho hd T.fits ?_)
 dsimp only
 rw[T.odd]
 simp only[d7,if_false]
 split
 ·rename_i met hm
  have e:=hm.symm.trans h5
  cases e
  exact a8 (hq n h1 h2 h3 h4)
 ·rename_i hm
  exact absurd h5 (fun z=>hm _ z)
theorem aT7 {x:Addr}{Q:Bool->Shared->Prop}(hx:y9 (m7 prog w) s.heap k x)(h:Q false s):k9 (n6 prog w) A (al5 8 (.ref x)) Q E s:=by
 have hT:=hx.typeIs
 obtain⟨o,items,n,ho,hc,hd,hi⟩:=hx
 unfold al5
 refine a5 (ab9 hT ?_)
 dsimp only
 rw[if_pos (by decide)]
 refine a5 (a8 ?_)
 simp only[D8,d7,if_false]
 refine a5 (aC0 ho hd ?_)
 dsimp only
 rw[<- R1]
 have hv:∀ v∈items.toList,∃ i t,v=.int i t:=fun v hv=>by
  clear ho hd
  generalize items.toList=l at hi hv
  induction hi with
  | nil=>cases hv
  | cons h1 _ ih =>
   rcases c8.mp hv with rfl | hv
   ·obtain⟨t,e⟩:=Value.isInt_shape h1
    exact⟨_,t,e⟩
   ·exact ih hv
 refine a5 (X0 _ (fun rest r s'=>r.1=none/\s'=s/\∀ v∈rest,∃ i t,v=.int i t) _ ?_ ?_ _ _ ⟨rfl,rfl,hv⟩)
 ·rintro v rest r s' ⟨hr,rfl,hall⟩
  obtain⟨i,t,rfl⟩:=hall v c6
  have e:al5 7 (.int i t)=pure false:=by unfold al5;rfl
  rw[e]
  refine a5 (a8 ?_)
  simp only[d7,if_false]
  exact a8 ⟨rfl,rfl,fun u hu'=>hall u (d3 _ hu')⟩
 ·rintro⟨r1,r2⟩ s' ⟨hr,rfl,_⟩
  simp only at hr
  subst hr
  exact a8 h
theorem bm8 {x:Addr}{l:List Value}{Q:Bool->Shared->Prop}(hx:y9 (m7 prog w) s.heap k x)(hl:∀ v∈l,∃ a k',v=.ref a/\y9 (m7 prog w) s.heap k' a)(h:Q false s) :
  k9 (n6 prog w) A (searchCouldBeSeen (.ref x) l) Q E s:=by
 unfold searchCouldBeSeen
 refine a5 (X0 _ (fun rest r s'=>r.1=none/\s'=s/\∀ v∈rest,∃ a k',v=.ref a/\y9 (m7 prog w) s.heap k' a) _ ?_ ?_ _ _ ⟨rfl,rfl,hl⟩)
 ·rintro v rest r s' ⟨hr,rfl,hall⟩
  obtain⟨a,k',rfl,ha⟩:=hall v c6
  have hrest:∀ v∈rest,∃ a k',v=.ref a/\y9 (m7 prog w) s'.heap k' a:=fun u hu'=>hall u (d3 _ hu')
  dsimp only
  split
  ·exact a8 ⟨rfl,rfl,hrest⟩
  ·refine a5 (bJ5 hx ?_)
   simp only[D8,d7,if_false]
   refine a5 (bJ5 ha ?_)
   simp only[D8,d7,if_false]
   refine a5 (aT7 hx ?_)
   simp only[d7,if_false]
   refine a5 (aT7 ha ?_)
   simp only[d7,if_false]
   exact a8 ⟨rfl,rfl,hrest⟩
 ·rintro⟨r1,r2⟩ s' ⟨hr,rfl,_⟩
  simp only at hr
  subst hr
  exact a8 h
theorem ah1 {S x:Addr}{t:SetTable}{e:En}{Q:SetFound->Shared->Prop}(hu:A.units<R8)(ho:s.heap.get? S=some o)(hd:o.data=.set es ep t)(T:Tb t es)
  (hx:y9 (m7 prog w) s.heap k x)(he:es[i]?=some e)(hk:af3 prog w s.heap k e)(hall:∀ e∈es.toList,∃ k,af3 prog w s.heap k e)(huq:∀ (c:Nat) (e':En),es[c]?=some e'->e'.1=e.1->c=i)
  (hq:Q (.there none) s):k9 (n6 prog w) A (al4 S (.ref x) (i6 (m7 prog w) k) true) Q E s:=by
 obtain⟨y,hy1,hy2,hy3⟩:=hk
 obtain⟨j,q,hp⟩:=T.present he huq
 rw[hy3]at hp
 unfold al4 T9
 refine a5 (u9 ho hd T.fits ?_)
 dsimp only
 rw[T.odd]
 simp only[d7,if_false]
 have fin:k9 (n6 prog w) A (do
   let some (_,y):=es[i]? | Q7 "internal:set-entry"
   let equal <- aN0 [y] (eqBool y (.ref x))
   let (es',_,t') <- setState S
   if true && equal then return .there none
   let some same:=t'.sameMemory t.moves t.mask | Q7 "set.changed-during-lookup:is-the-new-block-at-the-old-address"
   let still <- match (if same then t'.slot j else .empty) with
    | .live i'=>match es'[i']? with
     | some (_,y')=>do pure (if <- isSame y' y then some i' else none)
     | none=>pure none
    | _=>pure none
   match still with
   | none=>rule "set.search.anew";T9 S (.ref x) (i6 (m7 prog w) k) true 99999 none
   | some i'=>if equal then return .there (some i') else T9 S (.ref x) (i6 (m7 prog w) k) true 99999 (some q)) Q E s:=by
  rw[he]
  obtain⟨e1,e2⟩:=e
  have hy1:e2=.ref y:=hy1
  subst hy1
  dsimp only
  refine a5 (v8 (wpAny_eqBool_tuple hu hy2 hx ?_))
  refine a5 (u9 ho hd T.fits ?_)
  dsimp only
  rw[decide_eq_true rfl]
  simp only[Bool.and_self,if_true]
  exact a8 hq
 split
 ·rename_i met hm
  have e9:=hm.symm.trans hp
  cases e9
  dsimp only
  cases hled:t.led with
  | true =>
   simp only[D8,d7,if_false]
   exact fin
  | false =>
   simp only[Z8,if_true]
   refine a5 (bm8 hx (fun v hv=>?_) ?_)
   ·rw[o9]at hv
    obtain⟨e',he',rfl⟩:=hv
    have he'':e'∈es.toList:=by
     have:=bS2.mp (S5.mp he')
     exact S5.mpr this.1
    obtain⟨k',a,h1,h2,_⟩:=hall e' he''
    exact⟨a,k',h1,h2⟩
   ·simp only[d7,if_false]
    exact fin
 ·rename_i hm
  exact absurd hp (fun z=>hm _ z)
theorem thr {m:Nat}(g:Good m)(h1:n*5<m*3)(h2:m*3<=(n+1)*5)(h3:n<300):(m=7/\n+1=5)\/(m=31/\n+1=19)\/(m=127/\n+1=77):=by
 rcases g with rfl | rfl | rfl | rfl<;>omega
theorem aA9 {m:Nat}(g:Good m)(h1:n*5<m*3)(h2:m*3<=(n+1)*5)(h3:n<300):Good (sizeAbove (grown (n+1)) - 1)/\(n+1)*5<(sizeAbove (grown (n+1)) - 1)*3/\sizeAbove (grown (n+1))<=4096:=by
 rcases thr g h1 h2 h3 with⟨_,e⟩ | ⟨_,e⟩ | ⟨_,e⟩<;>rw[e]<;>refine⟨?_,by decide +kernel,by decide +kernel⟩
 ·exact .inr (.inl (by decide +kernel))
 ·exact .inr (.inr (.inl (by decide +kernel)))
 ·exact .inr (.inr (.inr (by decide +kernel)))
theorem bb5 {t:SetTable}(T:Tb' t es):t.tooFull=decide (t.mask*3<=es.size*5):=by
 unfold tooFull PySem.SetTable.fill
 rw[T.dum,T.len]
 rfl
theorem stored {S:Addr}{es':Array En}{t t':SetTable}(ho:h.get? S=some o)(hd:o.data=.set es ep t) :
  (h.update S (Obj.putSet es' t')).get? S=some { o with data:=.set es' (ep+1) t' }:=by
 have:=x9 (Obj.putSet es' t') ho (by rw[putSet_of es' t' hd];rfl)
 rw[putSet_of es' t' hd]at this
 exact this
theorem aO7 {S x:Addr}{ks:List (List Int)}{Q:Bool->Shared->Prop}{hp:Heap}(hup:∀ b o,hp.get? b=some o->s.heap.get? b=some o)(hu:A.units<R8)(hS:au7 prog w hp s.heap S ks)(hx0:y9 (m7 prog w) hp k x)(hk:U7 k)(hn:ks.length<300)
  (hq:∀ (b:Bool) (h':Heap) (tk:Nat),s.toks<=tk->Heap.SameBut S s.heap h'->au7 prog w hp h' S (if k∈ks then ks else k::ks)->Q b { s with heap:=h',toks:=tk }) :
  k9 (n6 prog w) A (setAdd S (.ref x)) Q E s:=by
 have hx:=am3 hx0 hup
 unfold setAdd
 refine v8 (a5 (wpAny_pyHash_tuple hu hx ?_))
 obtain⟨o,es,ep,t,ho,hex,hd,T,hsz,hnd,hok,hto,hfrom⟩:=hS
 unfold bJ6
 refine v8 ?_
 unfold setAddHashedIn
 refine a5 (u9 (s:={ s with toks:=s.toks+(k.length+1) }) ho hd T.fits ?_)
 dsimp only
 rw[am6]
 simp only[d7,if_false]
 by_cases hmem:k∈ks
 ·-- it is there
  obtain⟨e,he,hek⟩:=hto k hmem
  obtain⟨i,hi⟩:=l5.mp he
  rw[b7]at hi
  have huq:∀ (c:Nat) (e':En),es[c]?=some e'->e'.1=e.1->c=i:=fun c e' hc hh=>by
   apply Classical.byContradiction
   intro hci
   have hkey:∀ (c:Nat),c<es.size->∃ kk,kk∈ks/\∃ e,es[c]?=some e/\af3 prog w hp kk e:=fun c hc=>by
    have e:=getElem?_pos es c hc
    obtain⟨kk,h1,h2⟩:=hfrom es[c] (by simp)
    exact⟨kk,h1,_,e,h2⟩
   have e'k:af3 prog w hp k e':=by
    obtain⟨kk,h1,h2⟩:=hfrom e' (d9 (by rw[b7];exact hc))
    have h3:=h2
    obtain⟨_,_,_,h4⟩:=h2
    have h5:=hek
    obtain⟨_,_,_,h6⟩:=h5
    have:kk=k:=aa2 (prog:=prog) (w:=w) (hok kk h1) hk (by rw[<- h4,hh,h6])
    rw[<- this]
    exact h3
   have hch:∀ n,n<ks.length->∃ c,c<es.size/\∃ e,es[c]?=some e/\∃ kk,ks[n]?=some kk/\af3 prog w hp kk e:=fun n hn'=>by
    obtain⟨e,he,hek⟩:=hto ks[n] (al0 hn')
    obtain⟨c,hc⟩:=l5.mp he
    rw[b7]at hc
    exact⟨c,(getElem?_eq_some_iff.mp hc).1,e,hc,ks[n],m6 hn',hek⟩
   have:=aJ0 (es.size - 1) ks.length (fun n=>if hn':n<ks.length then (let c0:=Classical.choose (hch n hn');let c1:=if c0=c then i else c0;if c1<c then c1 else c1 - 1) else 0) ?_ ?_
   ·have hc':=(getElem?_eq_some_iff.mp hc).1
    omega
   ·intro n hn'
    dsimp only
    rw[dif_pos hn']
    have hp:=Classical.choose_spec (hch n hn')
    generalize Classical.choose (hch n hn')=c0 at hp
    obtain⟨p1,_⟩:=hp
    have hc':=(getElem?_eq_some_iff.mp hc).1
    have hi':=(getElem?_eq_some_iff.mp hi).1
    split<;>split<;>omega
   ·intro n n' hn1 hn2 eqn
    dsimp only at eqn
    rw[dif_pos hn1,dif_pos hn2]at eqn
    have hp:=Classical.choose_spec (hch n hn1)
    have hp':=Classical.choose_spec (hch n' hn2)
    generalize Classical.choose (hch n hn1)=c0 at hp eqn
    generalize Classical.choose (hch n' hn2)=c0' at hp' eqn
    obtain⟨p1,e1,p2,kk,p3,p4⟩:=hp
    obtain⟨p1',e1',p2',kk',p3',p4'⟩:=hp'
    have same:kk=kk':=by
     have r1:af3 prog w hp kk (if c0=c then e else e1):=by
      split
      ·rename_i hcc
       subst hcc
       rw[hc]at p2
       cases p2
       have:=p4.inj e'k
       rw[this]
       exact hek
      ·exact p4
     have r2:af3 prog w hp kk' (if c0'=c then e else e1'):=by
      split
      ·rename_i hcc
       subst hcc
       rw[hc]at p2'
       cases p2'
       have:=p4'.inj e'k
       rw[this]
       exact hek
      ·exact p4'
     have g1:es[if c0=c then i else c0]?=some (if c0=c then e else e1):=by split<;>assumption
     have g2:es[if c0'=c then i else c0']?=some (if c0'=c then e else e1'):=by split<;>assumption
     have ne1:(if c0=c then i else c0)≠c:=by split<;>omega
     have ne2:(if c0'=c then i else c0')≠c:=by split<;>omega
     have eqc:(if c0=c then i else c0)=(if c0'=c then i else c0'):=by
      generalize (if c0=c then i else c0)=u at eqn ne1
      generalize (if c0'=c then i else c0')=v at eqn ne2
      split at eqn<;>split at eqn<;>omega
     rw[eqc,g2]at g1
     rw[<- Option.some.inj g1]at r1
     exact r1.inj r2
    subst same
    obtain⟨q1,q2⟩:=a9.mp p3
    obtain⟨q3,q4⟩:=a9.mp p3'
    rcases S7 n n' with z | z | z
    ·exact absurd (q2.trans q4.symm) (o4.mp hnd n n' q1 q3 z)
    ·exact z
    ·exact absurd (q4.trans q2.symm) (o4.mp hnd n' n q3 q1 z)
  refine a5 (ah1 (s:={ s with toks:=s.toks+(k.length+1) }) hu ho hd T hx hi (hek.up hup) (fun e he=>?_) huq ?_)
  ·obtain⟨kk,_,h2⟩:=hfrom e he
   exact⟨kk,h2.up hup⟩
  ·refine a8 ?_
   have:=hq false s.heap (s.toks+(k.length+1)) (an1 _ _) (Heap.SameBut.refl S s.heap)
   rw[if_pos hmem]at this
   exact this ⟨o,es,ep,t,ho,hex,hd,T,hsz,hnd,hok,hto,hfrom⟩
 ·-- it is new
  have hh:∀ e∈es.toList,e.1≠i6 (m7 prog w) k:=fun e he z=>by
   obtain⟨kk,h1,h2⟩:=hfrom e he
   obtain⟨_,_,_,h4⟩:=h2
   have:kk=k:=aa2 (prog:=prog) (w:=w) (hok kk h1) hk (by rw[<- h4,z])
   exact hmem (this ▸ h1)
  refine a5 (ak7 (s:={ s with toks:=s.toks+(k.length+1) }) ho hd T hh fun n hn1 hfr hle hocc=>?_)
  dsimp only
  refine a5 (u9 (s:={ s with toks:=s.toks+(k.length+1) }) ho hd T.fits ?_)
  dsimp only
  obtain⟨hp1,T1⟩:=T.put (h:=i6 (m7 prog w) k) (x:=Value.ref x) hn1 hfr hle hocc
  generalize hpt:t.put (it t n (t.probeStart (i6 (m7 prog w) k))).j=tp at hp1 T1 ⊢
  have hled:tp.1.mask=t.mask:=by
   rw[<- hpt]
   unfold SetTable.put
   rfl
  obtain⟨t1,p⟩:=tp
  dsimp only at hp1 T1 hled ⊢
  have hsz1:(insertAt es p (i6 (m7 prog w) k,Value.ref x)).size=es.size+1:=ah0 hp1
  have fits1:(insertAt es p (i6 (m7 prog w) k,Value.ref x)).size<=i7:=by rw[hsz1,hsz,E9];omega
  have made:∀ (h':Heap) (o':Obj) (es':Array En) (ep':Nat) (t':SetTable),Heap.SameBut S s.heap h'->h'.get? S=some o'->o'.ExactSet->o'.data=.set es' ep' t'->Tb t' es' ->
    es'.toList.Perm (insertAt es p (i6 (m7 prog w) k,Value.ref x)).toList->au7 prog w hp h' S (k::ks):=fun h' o' es' ep' t' hsb ho' hex' hd' T' hpm=>by
   have hmemE:∀ e,e∈es'.toList↔e=(i6 (m7 prog w) k,Value.ref x)\/e∈es.toList:=fun e=>by rw[hpm.mem_iff];exact bD4 hp1 e
   have hnew:af3 prog w hp k (i6 (m7 prog w) k,Value.ref x):=⟨x,rfl,hx0,rfl⟩
   refine⟨o',es',ep',t',ho',hex',hd',T',?_,m9.mpr ⟨hmem,hnd⟩,fun kk hkk=>?_,fun kk hkk=>?_,fun e he=>?_⟩
   ·have:=hpm.length_eq
    rw[d8,d8,hsz1,hsz]at this
    rw[this,o6]
   ·rcases c8.mp hkk with rfl | hkk
    ·exact hk
    ·exact hok kk hkk
   ·rcases c8.mp hkk with rfl | hkk
    ·exact⟨_,(hmemE _).mpr (.inl rfl),hnew⟩
    ·obtain⟨e,he,hek⟩:=hto kk hkk
     exact⟨e,(hmemE e).mpr (.inr he),hek⟩
   ·rcases(hmemE e).mp he with rfl | he
    ·exact⟨k,c6,hnew⟩
    ·obtain⟨kk,h1,h2⟩:=hfrom e he
     exact⟨kk,d3 _ h1,h2⟩
  have rest:∀ b:Bool,k9 (n6 prog w) A (do
    storeSet S (insertAt es p (i6 (m7 prog w) k,Value.ref x)) (if b=true then t1 else { t1 with plain:=false })
    if (!false && (if b=true then t1 else { t1 with plain:=false }).tooFull)=true then do
     setRelay S (grown (es.size+1))
     pure true
    else pure true) Q E { s with toks:=s.toks+(k.length+1) }:=fun b=>by
   have T2:Tb' (if b=true then t1 else { t1 with plain:=false }) (insertAt es p (i6 (m7 prog w) k,Value.ref x)):=by
    split
    ·exact T1
    ·exact T1.plain false
   have hm2:(if b=true then t1 else { t1 with plain:=false }).mask=t.mask:=by split<;>exact hled
   generalize (if b=true then t1 else { t1 with plain:=false })=t2 at T2 hm2
   refine a5 (al6 (s:={ s with toks:=s.toks+(k.length+1) }) ho hd ?_ fits1)
   have ho1:=stored (es':=insertAt es p (i6 (m7 prog w) k,Value.ref x)) (t':=t2) ho hd
   have hsb1:=Heap.SameBut.update s.heap S (Obj.putSet (insertAt es p (i6 (m7 prog w) k,Value.ref x)) t2)
   rw[bb5 T2]
   simp only[Z8,ac4,decide_eq_true_eq]
   by_cases hful:t2.mask*3<=(insertAt es p (i6 (m7 prog w) k,Value.ref x)).size*5
   ·rw[if_pos hful]
    rw[hsz1,hm2]at hful
    obtain⟨g1,g2,g3⟩:=aA9 T.good T.nf hful (by rw[hsz];exact hn)
    unfold setRelay
    refine a5 (a5 (u9 (s:={ s with heap:=s.heap.update S (Obj.putSet (insertAt es p (i6 (m7 prog w) k,Value.ref x)) t2),toks:=s.toks+(k.length+1) }) ho1 rfl T2.fits ?_))
    dsimp only
    rw[if_neg (by rw[E9];omega)]
    obtain⟨t3,order,hl3,T3,hpm3⟩:=bD7 (M:=sizeAbove (grown (es.size+1)) - 1) (finger:=t2.finger) (moves:=t2.movedTo (sizeAbove (grown (es.size+1)) - 1)) (led:=t2.led) (plain:=t2.plain) (es:=insertAt es p (i6 (m7 prog w) k,Value.ref x)) g1 (by rw[hsz1];exact g2)
    have hrel:t2.relaid ((insertAt es p (i6 (m7 prog w) k,Value.ref x)).map (·.1)) (grown (es.size+1))=some (t3,order):=by
     unfold relaid
     exact hl3
    rw[hrel]
    have hsz3:(order.filterMap ((insertAt es p (i6 (m7 prog w) k,Value.ref x))[·]?)).size=(insertAt es p (i6 (m7 prog w) k,Value.ref x)).size:=by
     rw[<- d8,hpm3.length_eq,d8]
    refine a5 ?_
    show k9 _ _ (if ((order.filterMap ((insertAt es p (i6 (m7 prog w) k,Value.ref x))[·]?)).size != (insertAt es p (i6 (m7 prog w) k,Value.ref x)).size)=true then _ else _) _ _ _
    rw[if_neg (by rw[hsz3];simp)]
    first | refine a8 ?_ | refine a5 (a8 (a8 ?_))
    dsimp only
    refine al6 (s:={ s with heap:=s.heap.update S (Obj.putSet (insertAt es p (i6 (m7 prog w) k,Value.ref x)) t2),toks:=s.toks+(k.length+1) }) ho1 rfl ?_ (by rw[hsz3];exact fits1)
    refine a8 ?_
    have ho2:=stored (es':=order.filterMap ((insertAt es p (i6 (m7 prog w) k,Value.ref x))[·]?)) (t':=t3) ho1 rfl
    have hsb2:=hsb1.trans (Heap.SameBut.update _ S (Obj.putSet (order.filterMap ((insertAt es p (i6 (m7 prog w) k,Value.ref x))[·]?)) t3))
    have:=hq true _ (s.toks+(k.length+1)) (an1 _ _) hsb2
    rw[if_neg hmem]at this
    exact this (made _ _ _ _ _ hsb2 ho2 hex rfl T3 hpm3)
   ·rw[if_neg hful]
    refine a8 ?_
    have:=hq true _ (s.toks+(k.length+1)) (an1 _ _) hsb1
    rw[if_neg hmem]at this
    exact this (made _ _ _ _ _ hsb1 ho1 hex rfl (T2.full (by omega)) (List.Perm.refl _))
  cases hpl:t1.plain with
  | true =>
   rw[if_pos rfl]
   refine a5 (ad3 (s:={ s with toks:=s.toks+(k.length+1) }) hx ?_)
   exact rest true
  | false =>
   rw[if_neg d4]
   refine a5 (a8 ?_)
   exact rest true
def Z1 (ks:List (List Int))(k:List Int):List (List Int):=if k∈ks then ks else k::ks
theorem bu1 (ks:List (List Int))(k:List Int):(Z1 ks k).length<=ks.length+1:=by unfold Z1;split<;>simp
theorem ax0:∀ (l ks:List (List Int)),(l.foldl Z1 ks).length<=ks.length+l.length
 | [],ks=>by simp
 | k::l,ks=>by
  rw[X7]
  have h1:=ax0 l (Z1 ks k)
  have h2:=bu1 ks k
  rw[o6]
  omega
theorem as0:∀ (l ks:List (List Int)),(l.foldl Z1 ks).length=ks.length+l.length↔l.Nodup/\∀ x∈l,x∉ks
 | [],ks=>by simp
 | k::l,ks=>by
  rw[X7,o6,m9]
  by_cases h:k∈ks
  ·have e:Z1 ks k=ks:=by unfold Z1;rw[if_pos h]
   rw[e]
   have:=ax0 l ks
   constructor
   ·intro q;omega
   ·rintro⟨_,q⟩
    exact absurd h (q k c6)
  ·have e:Z1 ks k=k::ks:=by unfold Z1;rw[if_neg h]
   rw[e]
   have:=as0 l (k::ks)
   rw[o6]at this
   constructor
   ·intro q
    obtain⟨q1,q2⟩:=this.mp (by omega)
    refine⟨⟨fun hk=>q2 k hk c6,q1⟩,fun x hx=>?_⟩
    rcases c8.mp hx with rfl | hx
    ·exact h
    ·exact fun z=>q2 x hx (d3 _ z)
   ·rintro⟨⟨q1,q2⟩,q3⟩
    have:=this.mpr ⟨q2,fun x hx z=>by
     rcases c8.mp z with rfl | z
     ·exact q1 hx
     ·exact q3 x (d3 _ hx) z⟩
    omega
theorem aN9 {R:bJ1->Shared->Prop}{I:Addr}{wr:List Addr}{P:Nat->Value->Prop}{St:Nat->Shared->Prop}
  (W:WalksS prog w A.in1 I fp wr G n P St)(hu:A.in1.units<R8)(S:Addr)(hSf:S∉fp)(hp:Heap)(hS0:hp.get? S=none)(hw0:∀ b∈wr,hp.get? b=none)(keys:List (List Int))(hn:keys.length=n)(hb:n<300)
  (hkey:∀ i v,P i v->∃ x k,v=.ref x/\keys[i]?=some k/\U7 k/\y9 (m7 prog w) hp k x) :
  ∀ (c i:Nat) (s:Shared),n - i=c->i<=n->St i s->(∀ b o,hp.get? b=some o->s.heap.get? b=some o)->au7 prog w hp s.heap S ((keys.take i).foldl Z1 []) ->
   (∀ s',Moved (S::wr) G s s'->au7 prog w hp s'.heap S (keys.foldl Z1 [])->R (.ok (.ret .none)) s') ->
   V2 (n6 prog w) A (.builtin "set.update.loop" ⟨[.ref S,.ref I],[]⟩) R s:=by
 have hSw:S∉wr:=fun h=>hSf (W.sub _ h)
 have hsub:∀ b∈wr,b∈S::wr:=fun b hb=>d3 _ hb
 have nw:∀ b o,hp.get? b=some o->b∉wr:=fun b o e hm=>by rw[hw0 b hm]at e;cases e
 have nS:∀ b o,hp.get? b=some o->b≠S:=fun b o e hm=>by rw[hm,hS0]at e;cases e
 have setKept:∀ {s s':Shared} {ks:List (List Int)},au7 prog w hp s.heap S ks->(∀ b o,b∉wr->s.heap.get? b=some o->s'.heap.get? b=some o)->au7 prog w hp s'.heap S ks:=fun {s s' ks} hS hk=>by
  obtain⟨o,es,ep,t,ho,rest⟩:=hS
  exact⟨o,es,ep,t,hk S o hSw ho,rest⟩
 intro c
 induction c with
 | zero =>
  intro i s hk hi hst hup hS hR
  have hin:i=n:=by omega
  subst hin
  refine D7 PyProof.Rows.F.entry_set_update_loop ?_
  rw[Around.under_plainId PyProof.Rows.F.plain_set_update_loop _]
  show k9 _ A.in1 (aq0 (.ref I) >>= _) _ _ s
  refine a5 (W.done s _ _ hst fun s' hm=>?_)
  show k9 _ A.in1 (ret Value.none) _ _ s'
  refine a8 (hR s' (hm.mono hsub) ?_)
  have:=setKept hS hm.heap
  rw[p8 (by omega)]at this
  exact this
 | succ c ih =>
  intro i s hk hi hst hup hS hR
  have hlt:i<n:=by omega
  refine D7 PyProof.Rows.F.entry_set_update_loop ?_
  rw[Around.under_plainId PyProof.Rows.F.plain_set_update_loop _]
  show k9 _ A.in1 (aq0 (.ref I) >>= _) _ _ s
  refine a5 (W.item i s _ _ hlt hst fun v s' hP hst' hm=>?_)
  obtain⟨x,k,rfl,hki,hok,hx⟩:=hkey i v hP
  have hup':∀ b o,hp.get? b=some o->s'.heap.get? b=some o:=fun b o e=>hm.heap b o (nw b o e) (hup b o e)
  have hS':=setKept (s':=s') hS hm.heap
  show k9 _ A.in1 (aN0 [Value.ref x] (setAdd S (.ref x)) >>= _) _ _ s'
  refine a5 (v8 ?_)
  have hlen:((keys.take i).foldl Z1 []).length<300:=by
   have:=ax0 (keys.take i) []
   rw[A4]at this
   simp only[ap9]at this
   omega
  refine aO7 hup' hu hS' hx hok hlen fun b h' tk htk hsb hS2=>?_
  have hS3:au7 prog w hp h' S ((keys.take (i+1)).foldl Z1 []):=by
   rw[B8,hki,List.foldl_append]
   exact hS2
  refine a8 ⟨N0 PyProof.Rows.F.plain_set_update_loop _,ih (i+1) _ (by omega) hlt (W.frame _ s' _ _ hst' htk fun b hb o e=>?_) (fun b o e=>?_) hS3 fun s'' hm'' hS''=>?_⟩
  ·rw[hsb.2 b (fun h:b=S=>hSf (h ▸ hb))];exact e
  ·show h'.get? b=some o
   rw[hsb.2 b (nS b o e)]
   exact hup' b o e
  ·refine hR s'' (Moved.trans W.gtrans ((hm.mono hsub).then_heap htk fun b o hb e=>?_) hm'') hS''
   rw[hsb.2 b (fun h:b=S=>hb (h ▸ c6))];exact e
set_option maxRecDepth 100000 in
set_option maxHeartbeats 3200000 in
theorem aO5 {items:Array Value}{keys:List (List Int)}(hh:A.handled=none)(hu:A.units+8<R8)(hl:s.heap.IsList l items)(hn:keys.length=items.size)(hb:items.size<300)
  (hkey:∀ (i:Nat) (v:Value),items[i]?=some v->∃ x k,v=.ref x/\keys[i]?=some k/\U7 k/\y9 (m7 prog w) s.heap k x)
  (h:∀ (h':Heap) (tk:Nat),au7 prog w s.heap h' s.heap.objs.size (keys.foldl Z1 [])->(∀ b o,s.heap.get? b=some o->h'.get? b=some o)->Q (.ref s.heap.objs.size) { s with heap:=h',toks:=tk }) :
  k9 (n6 prog w) A (call (.type "set") [.ref l]) Q E s:=by
 obtain⟨c,tl,hmro⟩:=F.called_set.mro
 have hmade:=F.called_set.made
 have hsub:=F.called_set.sub
 refine av5 (at8 ?_)
 show k9 _ _ (callAny (.type "set") _) _ _ _
 refine a8 ⟨Code.quiet_builtin _ (by decide +kernel),D7 F.entry_type_call ?_⟩
 rw[Around.under_plain (at9 "set" [.ref l] []) rfl]
 have h1:=F.called_set.notType
 have h2:=F.called_set.canCreate
 have hct:=F.typeCall_set_1 (.ref l)
 repeat (any_goals (first | assumption | wp_step))
 refine Q6 (code_set_new_1 (.ref l) (E:=E) (Q₁:=fun obj s₁=>∃ led:Bool,obj=.ref s.heap.objs.size/\s₁={ s with heap:=s.heap.push { cls:=.type "set",dict:=none,data:=.set #[] 0 (.fresh 0 0 led) } }) fun led=>⟨led,rfl,rfl⟩) fun r s₁ hr=>?_
 cases r with
 | error e=>exact hr
 | ok fl =>
  cases fl with
  | ret obj =>
   obtain⟨led,rfl,rfl⟩:=hr
   have hS:(s.heap.push { cls:=.type "set",dict:=none,data:=.set #[] 0 (.fresh 0 0 led) }).get? s.heap.objs.size=some { cls:=.type "set",dict:=none,data:=.set #[] 0 (.fresh 0 0 led) }:=d5 _ rfl
   have hT:Shared.TypeIs { s with heap:=s.heap.push { cls:=.type "set",dict:=none,data:=.set #[] 0 (.fresh 0 0 led) } } (.ref s.heap.objs.size) "set":=⟨_,hS,rfl⟩
   have hli:=F.called_set.init.lookup
   have hbi:=F.called_set.init.bind (.ref s.heap.objs.size)
   repeat (any_goals (first | assumption | wp_step))
   refine Q6 (V3 (R:=wants (fun r s₂=>r=.none/\∃ h' tk,s₂={ s with heap:=h',toks:=tk }/\au7 prog w s.heap h' s.heap.objs.size (keys.foldl Z1 [])/\(∀ b o,s.heap.get? b=some o->h'.get? b=some o)) E) F.called_set.init.plain F.entry_set_init (aV4 hT ?_)) fun r₂ s₂ hr₂=>?_
   ·obtain⟨ol,hol,hcl,nl,hdl⟩:=hl
    obtain⟨ocls,odict,odata,oslots⟩:=ol
    simp only at hcl hdl
    subst hcl;subst hdl
    have hol':(s.heap.push { cls:=.type "set",dict:=none,data:=.set #[] 0 (.fresh 0 0 led) }).get? l=some { cls:=.type "list",dict:=odict,data:=.seq items nl,slots:=oslots }:=a6 _ hol
    have hsls:=F.sub_list_set
    have hslf:=F.sub_list_frozenset
    have hne:(Value.type "list" == Value.type "dict")=false:=by decide
    have hl1:(s.heap.push { cls:=.type "set",dict:=none,data:=.set #[] 0 (.fresh 0 0 led) }).IsList l items:=⟨_,hol',rfl,nl,rfl⟩
    unfold Builtin.«set.__init__» noKeywords Builtin.Frozenset.updateFrom
    generalize hPI:bg7=PI
    wp_walk
    subst hPI
    refine aN1 hl1 ?_
    refine a5 (ak1 ?_)
    have hlS:l<s.heap.objs.size:=c9 hol
    have hh3:A.in1.in1.in1.handled=none:=by simp[hh]
    have hneI:l≠(s.heap.push { cls:=.type "set",dict:=none,data:=.set #[] 0 (.fresh 0 0 led) }).objs.size:=by
     rw[C1];exact j0 (u7 hlS)
    have hSf:s.heap.objs.size∉[(s.heap.push { cls:=.type "set",dict:=none,data:=.set #[] 0 (.fresh 0 0 led) }).objs.size,l]:=by
     rw[C1];simp only[c8,d6,o7,or_false,not_or]
     exact⟨j0 (an2 _),M5 hlS⟩
    refine aN9 ((Walks.list hh3 _ l hneI items).toS) ?hu s.heap.objs.size hSf s.heap ?hn ?hw keys hn hb hkey (items.size - 0) 0 _ (by omega) (n9 _)
     ⟨⟨_,d5 _ rfl,rfl,rfl⟩,(hl1.push _)⟩ (fun b o e=>a6 _ (a6 _ e)) ?hS0 ?hR
    case hu=>show A.units+1+1+1<R8;omega
    case hn=>exact T6 (c5 _)
    case hw =>
     intro b hb
     have e:b=(s.heap.push { cls:=.type "set",dict:=none,data:=.set #[] 0 (.fresh 0 0 led) }).objs.size:=by simpa using hb
     rw[e]
     exact T6 (by rw[C1];exact P8 _)
    case hS0 =>
     have hget:((s.heap.push { cls:=.type "set",dict:=none,data:=.set #[] 0 (.fresh 0 0 led) }).push { cls:=.type "list_iterator",data:=.fields #[.ref l,.int 0 0] }).get? s.heap.objs.size
       = some { cls:=.type "set",dict:=none,data:=.set #[] 0 (.fresh 0 0 led) }:=a6 _ hS
     refine⟨_,_,_,_,hget,⟨rfl,rfl,rfl⟩,rfl,⟨rfl,rfl,?_,?_,.inl rfl,by show 0*5<7*3;decide,?_⟩,rfl,C0,(fun _ h=>nomatch h),(fun _ h=>nomatch h),(fun _ h=>nomatch h)⟩
     ·intro i j a b hij ea
      simp[SetTable.fresh]at ea
     ·intro i j ea
      simp[SetTable.fresh]at ea
     ·intro i e ea
      simp at ea
    case hR =>
     intro s' hm hS'
     obtain⟨h',g',d',tk',os'⟩:=s'
     have eg:g'=s.gens:=hm.gens
     have ed:d'=s.drawn:=hm.drawn
     have eo:os'=s.os:=hm.os
     subst eg;subst ed;subst eo
     show k9 _ _ _ _ _ _
     refine a8 ?_
     show k9 _ _ (ret Value.none) _ _ _
     refine a8 ⟨rfl,h',tk',rfl,hS',fun b o e=>?_⟩
     have hlt:=c9 e
     have hb1:b≠s.heap.objs.size:=j0 hlt
     have hb2:b≠(s.heap.push { cls:=.type "set",dict:=none,data:=.set #[] 0 (.fresh 0 0 led) }).objs.size:=by
      rw[C1];exact j0 (u7 hlt)
     exact hm.heap b o (by simp only[c8,d6,o7,or_false,not_or];exact⟨hb1,hb2⟩) (a6 _ (a6 _ e))
   ·cases r₂ with
    | error e=>exact hr₂
    | ok fl₂ =>
     cases fl₂ with
     | ret r =>
      obtain⟨rfl,h',tk,rfl,hS',hk'⟩:=hr₂
      repeat (any_goals (first | assumption | wp_step))
      exact h _ _ hS' hk'
     | _=>exact hr₂.elim
  | _=>exact hr.elim
theorem aY3 {S:Addr}{hp:Heap}{ks:List (List Int)}(hS:au7 prog w hp s.heap S ks)(hn:ks.length<300)(h:∀ t tk,Q (.int ks.length t) { s with toks:=tk }) :
  k9 (n6 prog w) A (call (.builtin "len") [.ref S]) Q E s:=by
 obtain⟨o,es,ep,t,ho,hex,hd,T,hsz,_⟩:=hS
 refine call_len_set ho hex hd T.fits (by omega) ?_
 rw[hsz]
 exact h _ _
end Sett
namespace L2
open PySem PySem.Spec PyProof.Rows
def D1 (K:W.Frag)(H:Hp)(ys:List V)(ks:List (List Int)):Prop:=Y5 (fun y k=>∃ a,y=V.ref a/\SqT K H a (k.map V.int)) ys ks
theorem D1.len {K:W.Frag}{ks:List (List Int)}(t:D1 K H ys ks):ys.length=ks.length:=Paired.length t
theorem D1.get {K:W.Frag}:∀ {ys:List V} {ks:List (List Int)} {i:Nat} {y:V},D1 K H ys ks->ys[i]?=some y->∃ a k,y=V.ref a/\ks[i]?=some k/\SqT K H a (k.map V.int)
 | _,_,_,_,.nil,e=>by simp at e
 | _,_,0,_,.cons r _,e=>by
  simp at e
  subst e
  obtain⟨a,h1,h2⟩:=r
  exact⟨a,_,h1,rfl,h2⟩
 | _,_,i+1,y,.cons _ t,e=>by
  obtain⟨a,k,h1,h2,h3⟩:=D1.get (i:=i) (y:=y) t (by simpa using e)
  exact⟨a,k,h1,by simpa using h2,h3⟩
theorem D1.same {K:W.Frag}(hs:∀ b o,H b=some o->H' b=some o):∀ {ys:List V} {ks:List (List Int)},D1 K H ys ks->D1 K H' ys ks
 | _,_,.nil=>.nil
 | _,_,.cons r t=>by
  obtain⟨a,h1,h2⟩:=r
  refine .cons ⟨a,h1,?_⟩ (D1.same hs t)
  rcases h2 with(h | ⟨o,h⟩) | h
  ·exact .inl (.inl (hs _ _ h))
  ·exact .inl (.inr ⟨o,hs _ _ h⟩)
  ·exact .inr h
theorem D1.append {K:W.Frag}:∀ {ys zs:List V} {ks ls:List (List Int)},D1 K H ys ks->D1 K H zs ls->D1 K H (ys++zs) (ks++ls)
 | _,_,_,_,.nil,s=>s
 | _,_,_,_,.cons r t,s=>.cons r (D1.append t s)
theorem aS2:∀ {k:List Int} {its:List Value},B6 (k.map V.int) its->ItemsAre (m7 prog w) k its
 | [],_,.nil=>.nil
 | i::k,_,.cons r t=>by
  obtain⟨tk,rfl⟩:=r
  exact .cons (by simp[m7,Value.isInt]) (aS2 t)
theorem aj1 (I:Inv X pins σ H s)(h:SqT X.K H a (k.map V.int)):y9 (m7 X.prog X.w) s.heap k a:=by
 obtain⟨its,r,⟨o,ho,hc,n,hd⟩,_⟩:=I.tuple h
 exact⟨o,its.toArray,n,ho,hc,hd,by simpa using aS2 r⟩
theorem ac7 (I:Inv X pins σ H s):∀ {ys:List V} {ks:List (List Int)} {us:List Value},D1 X.K H ys ks->B6 ys us->Y5 (fun u k=>∃ a,u=Value.ref a/\y9 (m7 X.prog X.w) s.heap k a) us ks
 | _,_,_,.nil,.nil=>.nil
 | _,_,_,.cons r t,.cons q v=>by
  obtain⟨a,rfl,h⟩:=r
  cases q
  exact .cons ⟨a,rfl,aj1 I h⟩ (ac7 I t v)
theorem S0 {α β:Type}{R:α->β->Prop}:∀ {l:List α} {m:List β} {i:Nat} {x:α},Y5 R l m->l[i]?=some x->∃ y,m[i]?=some y/\R x y
 | _,_,_,_,.nil,e=>by simp at e
 | _,_,0,_,.cons r _,e=>by simp at e;subst e;exact⟨_,rfl,r⟩
 | _,_,i+1,x,.cons _ t,e=>by
  obtain⟨y,h1,h2⟩:=S0 (i:=i) (x:=x) t (by simpa using e)
  exact⟨y,by simpa using h1,h2⟩
theorem at1 {α β:Type}{R:α->β->Prop}{l l':List α}(p:l'.Perm l):∀ {m:List β},Y5 R l m->∃ m',m'.Perm m/\Y5 R l' m':=by
 induction p with
 | nil=>intro m h;exact⟨m,List.Perm.refl _,h⟩
 | cons x _ ih =>
  intro m h
  cases h with
  | cons r t =>
   obtain⟨m',p',h'⟩:=ih t
   exact⟨_::m',p'.cons _,.cons r h'⟩
 | swap x y l =>
  intro m h
  cases h with
  | cons r t =>
   cases t with
   | cons r' t'=>exact⟨_::_::_,List.Perm.swap _ _ _,.cons r' (.cons r t')⟩
 | trans _ _ ih1 ih2 =>
  intro m h
  obtain⟨m1,p1,h1⟩:=ih2 h
  obtain⟨m2,p2,h2⟩:=ih1 h1
  exact⟨m2,p2.trans p1,h2⟩
theorem ah5 {α β:Type}{R:α->β->Prop}:∀ {l:List α} {m:List β},Y5 R l m->Y5 (fun b a=>R a b) m l
 | _,_,.nil=>.nil
 | _,_,.cons r t=>.cons r (ah5 t)
theorem az9 {α β:Type}{R S:α->β->Prop}(f:∀ a b,R a b->S a b):∀ {l:List α} {m:List β},Y5 R l m->Y5 S l m
 | _,_,.nil=>.nil
 | _,_,.cons r t=>.cons (f _ _ r) (az9 f t)
theorem ai2:O1 X (.builtin "sorted") (fun xs H Q=>∃ p ys ks,xs=[.ref p]/\SqL X.K H p ys/\D1 X.K H ys ks/\(∀ k∈ks,k≠[]) /\
  ∀ l zs ks',H l=none->ks'.Perm ks->ks'.Pairwise (fun a b=>Tim.K9 b a=false)->D1 X.K (upd H l (.lst zs)) zs ks'->Q (.ref l) (upd H l (.lst zs))):=by
 intro pins s σ H xs us Q I r h
 obtain⟨p,ys,ks,rfl,hq,ht,hne,q⟩:=h
 obtain⟨u,rfl,rx⟩:=vals1 r
 cases rx
 obtain⟨its,r',pl,hz⟩:=I.list hq
 have hlen:=r'.length
 have hk:=ac7 I ht r'
 have hv:∀ v∈its,∃ i k,Tim.IsK X.prog X.w s.heap (i::k) v:=fun v hv=>by
  obtain⟨j,hj⟩:=l5.mp hv
  obtain⟨k,h1,a,rfl,h2⟩:=S0 hk hj
  cases k with
  | nil=>exact absurd rfl (hne [] (d9 h1))
  | cons i k=>exact⟨i,k,a,rfl,h2⟩
 refine Tim.aC6 pl.isList (by omega) hv fun out h' n hp hs kp e=>?_
 obtain⟨zs,pz,rz⟩:=at1 hp (ah5 r')
 have rz':B6 zs out:=ah5 rz
 have hzl:zs.length<=i7:=by rw[pz.length_eq];exact hz
 have hfr:H (s.heap.objs.size+1)=none:=I.hok.fresh (P8 _)
 have keepS:∀ b o,H b=some o->upd H (s.heap.objs.size+1) (.lst zs) b=some o:=fun b o e=>by rw[n4 (u6 e hfr)];exact e
 refine⟨.ref (s.heap.objs.size+1),upd H (s.heap.objs.size+1) (.lst zs),I.laid (t':=s.toks) kp (P8 _) (show D5 X.prog X.w _ h' _ (.lst zs) from ⟨hzl,out,n,rz',e⟩),rfl,?_⟩
 obtain⟨ks',pk,hk'⟩:=at1 pz (show Y5 (fun y k=>∃ a,y=V.ref a/\SqT X.K H a (k.map V.int)) ys ks from ht)
 refine q _ zs ks' hfr pk ?_ (D1.same keepS hk')
 have hko:=ac7 I (show D1 X.K H zs ks' from hk') rz'
 have eq:ks'=out.map (Tim.Q1 X.prog X.w s.heap):=by
  clear hs hp rz rz' hk' pk e
  induction hko with
  | nil=>rfl
  | cons r t ih =>
   obtain⟨a,rfl,hka⟩:=r
   rw[j3,Tim.N8 ⟨a,rfl,hka⟩,<- ih]
 rw[eq,D9]
 exact hs
def aZ7 (P:Program)(w:World)(S:Addr)(n:Nat):HO:=.ext fun h=>∃ hk ks,ks.length=n/\n<300/\Sett.au7 P w hk h S ks
theorem aT9 (hc:X.calm=true)(hu:X.A.units+8<R8):O1 X (.type "set") (fun xs H Q=>∃ p ys ks,xs=[.ref p]/\SqL X.K H p ys/\D1 X.K H ys ks/\(∀ k∈ks,Sett.U7 k)/\ks.length<300 /\
  ∀ S,H S=none->Q (.ref S) (upd H S (aZ7 X.prog X.w S (ks.foldl Sett.Z1 []).length))):=by
 intro pins s σ H xs us Q I r h
 obtain⟨p,ys,ks,rfl,hq,ht,hok,hb,q⟩:=h
 obtain⟨u,rfl,rx⟩:=vals1 r
 cases rx
 obtain⟨its,r',pl,hz⟩:=I.list hq
 have hlen:=r'.length
 have hk:=ac7 I ht r'
 have hkl:=ht.len
 refine Sett.aO5 (keys:=ks) (I.ok.hd hc) hu pl.isList (by simp;omega) (by simp;omega) (fun i v hv=>?_) fun h' tk hS kp=>?_
 ·obtain⟨k,h1,a,rfl,h2⟩:=S0 hk (by simpa using hv)
  exact⟨a,k,rfl,h1,hok k (d9 h1),h2⟩
 ·have hle:=Sett.ax0 ks []
  simp only[ap9]at hle
  refine⟨.ref s.heap.objs.size,_,I.laid (o:=aZ7 X.prog X.w s.heap.objs.size (ks.foldl Sett.Z1 []).length) (t':=tk) kp (c5 _) ?_,rfl,q _ (I.hok.fresh (c5 _))⟩
  refine⟨⟨s.heap,ks.foldl Sett.Z1 [],rfl,by omega,hS⟩,?_,fun h1 h2 ⟨hk1,ks1,e1,e2,hS1⟩ hkeep=>⟨hk1,ks1,e1,e2,?_⟩⟩
  ·obtain⟨o,_,_,_,ho,_⟩:=hS
   exact⟨o,ho⟩
  ·obtain⟨o,es,ep,t,ho,rest⟩:=hS1
   exact⟨o,es,ep,t,hkeep o ho,rest⟩
theorem call_len_set:O1 X (.builtin "len") (fun xs H Q=>∃ S n,xs=[.ref S]/\H S=some (aZ7 X.prog X.w S n)/\Q (.int n) H):=by
 intro pins s σ H xs us Q I r h
 obtain⟨S,n,rfl,hS,q⟩:=h
 obtain⟨u,rfl,rx⟩:=vals1 r
 cases rx
 obtain⟨⟨hk,ks,e1,e2,hS1⟩,_⟩:=I.hok S _ hS
 refine Sett.aY3 hS1 (by omega) fun t tk=>?_
 exact⟨.int n,H,I.tok _,⟨t,by rw[e1]⟩,q⟩
def F2 (X:Cx)(scope:Scope)(cl:List (Str × Addr))(N':List Str)(s₃:Shared)(H₃:Hp)(fp:List Addr)(xe':Value->Shared->Prop):Cx:=
 { X with N:=N',s₀:=s₃,H₀:=H₃,env:=M0 scope cl s₃.heap.objs.size X.env,outer:=X.stack,ex:=fp,fn:=fun _=>false,pn:=[],xe:=xe' }
def as6 (env:Env):List (Str × Addr)->Prop
 | []=>True
 | (x,c)::r=>env.cells.lookup x=some c/\as6 env r
theorem as6.get {env:Env}:∀ {cl:List (Str × Addr)} {x:Str} {c:Addr},as6 env cl->cl.lookup x=some c->env.cells.lookup x=some c
 | [],_,_,_,h=>by cases h
 | (y,d)::r,x,c,⟨h1,h2⟩,h=>by
  rw[V1]at h
  cases e:x == y with
  | true =>
   rw[e]at h
   cases h
   rw[eq_of_beq e]
   exact h1
  | false =>
   rw[e]at h
   exact as6.get h2 h
def au9 (names:List (Str × av6))(cl:List (Str × Addr)):Bool:=names.all fun y=>y.2 != .cell && (y.2 != .free || (cl.lookup y.1).isSome)
theorem P9 {env:Env}:∀ {names:List (Str × av6)} {x:Str} {k:av6},(names.map fun(n,k)=>if (k == NameKind.free && env.scope.kind == .function && env.kindOf n == some .cell) then (n,NameKind.cell) else (n,k)).lookup x=some k ->
  ∃ k',(x,k')∈names/\(k'=k\/(k'=.free/\k=.cell))
 | [],_,_,h=>by cases h
 | (n,k0)::r,x,k,h=>by
  rw[j3]at h
  have hn:∀ k1,(List.lookup x ((n,k1)::r.map fun(n,k)=>if (k == NameKind.free && env.scope.kind == .function && env.kindOf n == some .cell) then (n,NameKind.cell) else (n,k)))=some k->(x=n/\k1=k)\/∃ k',(x,k')∈r/\(k'=k\/(k'=.free/\k=.cell)):=fun k1 h=>by
   rw[V1]at h
   cases e:x == n with
   | true=>rw[e]at h;cases h;exact .inl ⟨eq_of_beq e,rfl⟩
   | false=>rw[e]at h;exact .inr (P9 h)
  dsimp only at h
  by_cases hc:(k0 == NameKind.free && env.scope.kind == .function && env.kindOf n == some .cell)=true
  ·rw[if_pos hc]at h
   rcases hn _ h with⟨rfl,rfl⟩ | ⟨k',h1,h2⟩
   ·simp only[v7]at hc
    have e0:k0=.free:=eq_of_beq hc.1.1
    exact⟨k0,c6,.inr ⟨e0,rfl⟩⟩
   ·exact⟨k',d3 _ h1,h2⟩
  ·rw[if_neg hc]at h
   rcases hn _ h with⟨rfl,rfl⟩ | ⟨k',h1,h2⟩
   ·exact⟨k0,c6,.inl rfl⟩
   ·exact⟨k',d3 _ h1,h2⟩
def X6 (lk:List (Option Nat))(σ:St):St:=lk.map fun o=>o.bind fun j=>(σ[j]?).join
def ba0 (X:Cx)(N':List Str)(lk:List (Option Nat))(scope:Scope)(cl:List (Str × Addr)):Prop:=
 lk.length=N'.length/\∀ (i j:Nat) (x:Str),N'[i]?=some x->lk[i]?=some (some j)->X.N[j]?=some x/\(X.env.scope.names.lookup x=some .cell\/X.env.scope.names.lookup x=some .free)/\(cl.lookup x).isSome=true /\
  ((M0 scope cl 0 X.env).kindOf x=some .cell\/(M0 scope cl 0 X.env).kindOf x=some .free)
theorem aB3 {H3:Hp}{s3:Shared}{h1:Heap}{tk:Nat}{xe':Value->Shared->Prop}{m0:Str->Option Value}
  (I:Inv X pins σ H3 s3)(hf:∀ b∈fp,R6 X pins H3 b)(hkind:scope.kind=.function)(hcl:as6 X.env cl)(hfr:au9 scope.names cl=true)(hlk:ba0 X N' lk scope cl)
  (hn:h1.Ns s3.heap.objs.size m0)(hk:∀ b u,s3.heap.get? b=some u->h1.get? b=some u)(hfs:∀ b∈fp,b<s3.heap.objs.size):Inv (F2 X scope cl N' s3 H3 fp xe') [] (X6 lk σ) H3 { s3 with heap:=h1,toks:=tk }:=by
 have hC:H3 s3.heap.objs.size=none:=I.hok.fresh (c5 _)
 have hmem:∀ y∈scope.names,y.2≠.cell/\(y.2=.free->(cl.lookup y.1).isSome=true):=fun y hy=>by
  unfold au9 at hfr
  rw[D0]at hfr
  have:=hfr y hy
  rw[v7]at this
  refine⟨by simpa using this.1,fun e=>?_⟩
  have h2:=this.2
  rw[e]at h2
  simpa using h2
 have hcell:∀ x c,cl.lookup x=some c->X.env.cells.lookup x=some c:=fun x c e=>hcl.get e
 have clt:∀ x c,cl.lookup x=some c->c<s3.heap.objs.size:=fun x c e=>by
  obtain⟨v,q⟩:=I.cell x c (hcell x c e)
  exact q.lt
 refine⟨⟨I.ok.mod,hkind,I.ok.glob,I.ok.blt,c5 _,fun x y c e1 e2=>I.ok.inj x y c (hcell x c e1) (hcell y c e2),fun x hx=>?_,(fun x c e=>by cases e),I.ok.hd,I.ok.frames,.inl rfl,fun b hb=>?_,fun b o e=>I.bs b o e,t9 I.ok.bsz I.sz,fun b o e hb=>?_,fun b hb z=>?_,I.stack,I.stkFree⟩,
  rfl,I.bare,Un.kept hk,⟨m0,hn,fun i x v e1 e2 e3=>?_⟩,fun x c e=>?_,hC,fun x c e=>?_,(fun p hp=>nomatch hp),I.hok.kept hk,?_⟩
 ·have hx':(relabel scope X.env).names.lookup x=some .cell\/(relabel scope X.env).names.lookup x=some .free:=hx
  have:∃ k',(x,k')∈scope.names/\k'=.free:=by
   rcases hx' with h | h
   ·obtain⟨k',h1,h2⟩:=P9 h
    rcases h2 with h2 | h2
    ·exact absurd h2 (hmem _ h1).1
    ·exact⟨k',h1,h2.1⟩
   ·obtain⟨k',h1,h2⟩:=P9 h
    rcases h2 with h2 | h2
    ·exact⟨k',h1,h2⟩
    ·exact⟨k',h1,h2.1⟩
  obtain⟨k',h1,h2⟩:=this
  exact p7.mp ((hmem _ h1).2 h2)
 ·obtain⟨f0,f1,f2,f3,f4,f5⟩:=hf b hb
  exact⟨j0 (hfs b hb),fun x c e=>f4 x c (hcell x c e)⟩
 ·obtain⟨f0,f1,f2,f3,f4,f5⟩:=hf b hb
  rcases f3 with f3 | f3
  ·exact I.ok.noex b o e f3
  ·exact absurd (o8 (c9 e) (t9 I.ok.bsz f3)) (A3 _)
 ·obtain⟨f0,f1,f2,f3,f4,f5⟩:=hf b hb
  rcases c8.mp (I.stkSub b z) with e | e
  ·exact f1 e
  ·exact f2 e
 ·-- a captured name
  have e2':(X6 lk σ)[i]?=some (some v):=e2
  unfold X6 at e2'
  rw[j6]at e2'
  cases hq:lk[i]? with
  | none=>rw[hq]at e2';cases e2'
  | some o =>
   rw[hq]at e2'
   have e2'':(o.bind fun j=>(σ[j]?).join)=some v:=Option.some.inj e2'
   cases o with
   | none=>cases e2''
   | some j =>
    obtain⟨q1,q2,q3,q4⟩:=hlk.2 i j x e1 hq
    have hσ:σ[j]?=some (some v):=by
     have z:(σ[j]?).join=some v:=e2''
     cases hh:σ[j]? with
     | none=>rw[hh]at z;cases z
     | some o=>rw[hh]at z;rw[show o=some v from z]
    obtain⟨m,hnX,hl⟩:=I.loc
    obtain⟨u,r,lo⟩:=hl j x v q1 hσ (q2.elim (fun a=>.inr (.inl a)) (fun a=>.inr (.inr a)))
    refine⟨u,r,.inr ?_⟩
    obtain⟨c,hc⟩:=p7.mp q3
    refine⟨q4,c,hc,?_⟩
    have hcX:=hcell x c hc
    rcases lo with⟨k,_⟩ | ⟨_,c',hc',z⟩
    ·have k':X.env.scope.names.lookup x=some .local:=k
     rw[k']at q2
     rcases q2 with q2 | q2<;>cases q2
    ·rw[hcX]at hc'
     cases hc'
     obtain⟨o,ho,hd⟩:=z
     exact⟨o,hk c o ho,hd⟩
 ·obtain⟨v,o,ho,hd⟩:=I.cell x c (hcell x c e)
  exact⟨v,o,hk c o ho,hd⟩
 ·exact I.freeC x c (hcell x c e)
 ·show (X6 lk σ).length=N'.length
  unfold X6
  rw[b8]
  exact hlk.1
def PTs (X:Cx)(ifs:List Expr)(t:TT):Prop:=
 ∀ (pins:List (Addr × Obj)) (s:Shared) (σ:St) (H:Hp) (Q:Bool->Hp->Prop),Inv X pins σ H s->t σ H Q->k9 (n6 X.prog X.w) X.A (forIn ifs true fun c r=>if r=true then do let ok <- isTrue c X.env (eval c X.env);pure (ForInStep.yield ok) else pure (ForInStep.yield r)) (TP X pins σ Q) X.xe s
def bG2:TT:=fun _ H Q=>Q true H
theorem aj2:PTs X [] bG2:=fun pins s σ H Q I h=>wpAny_tests_nil ⟨H,I,h⟩
theorem aI9 {c:Expr}{t:TT}(h:PT X c t):PTs X [c] t:=fun pins s σ H Q I q=>wpAny_tests_one (h pins s σ H Q I q)
def bc2 (wi:TI)(lk:List (Option Nat))(g:TG)(tt:TT)(te:TE):TE:=fun σ H Q=>wi σ H fun J H1=>∀ D,H1 D=none->∃ W:Nat->Nat->List V->St->Hp->Prop,(∃ m,W 0 m [] (X6 lk σ) (upd H1 D (.lst [])))/\∀ i m xs σ' H',W i m xs σ' H' ->
 H' D=some (.lst xs)/\((J.stop i H'/\Q (.ref D) H')\/(J.go i H'/\xs.length<i7/\∀ x H'',J.yld i H' x H''->g x σ' H'' fun σ2 H2=>tt σ2 H2 fun b H3 =>
  if b=true then te σ2 H3 fun v H4=>H4 D=some (.lst xs)/\∃ m',m'<m/\W (i+1) m' (xs++[v]) σ2 (upd H4 D (.lst (xs++[v]))) else ∃ m',m'<m/\W (i+1) m' xs σ2 H3))
theorem aj4 {elt iter:Expr}{ifs:List Expr}{wi:TI}{g:TG}{tt:TT}(hc:X.calm=true)(hi:PI X tg iter wi)(hclos:av9 scope X.env=pure cl)(hkind:scope.kind=.function)
  (hnames:∀ y∈scope.names,y.2=.local->scope.names.lookup y.1=some .local)(hcl:as6 X.env cl)(hfr:au9 scope.names cl=true)(hlk:ba0 X N' lk scope cl)
  (hg:∀ s3 H3 fp,PG (F2 X scope cl N' s3 H3 fp fun _ _=>False) tg g)(ht:∀ s3 H3 fp,PTs (F2 X scope cl N' s3 H3 fp fun _ _=>False) ifs tt)(he:∀ s3 H3 fp,PE (F2 X scope cl N' s3 H3 fp fun _ _=>False) elt te)
  (hs:∀ x,aa4 iter X.env x=pure x:=by intro _;rfl):PE X (.ListComp elt [⟨tg,iter,ifs,0⟩] scope pos) (bc2 wi lk g tt te):=by
 intro pins s σ H Q I h
 rw[eval_ListComp]
 have hcellN:∀ y∈scope.names,y.2≠.cell:=fun y hy=>by
  unfold au9 at hfr
  rw[D0]at hfr
  have:=hfr y hy
  rw[v7]at this
  simpa using this.1
 refine al7 (use:=none) rfl hs hclos hkind hnames (thn (hi pins s σ H _ I h) fun v s1 h1=>thn h1 fun itv s2 h2=>?_)
 obtain⟨it,fp,tn,J,H2,e,I2,T,st2,f2,q⟩:=h2
 subst e
 refine T8 ?_ (n9 _)
 have hD:H2 s2.heap.objs.size=none:=I2.hok.fresh (c5 _)
 have I3:=I2.lnew (ys:=[]) (its:=[]) (t':=s2.toks) .nil (n9 _)
 obtain⟨W,⟨m0,w0⟩,turn⟩:=q s2.heap.objs.size hD
 have fpl:∀ b∈fp,b<s2.heap.objs.size:=fun b hb=>by
  obtain⟨o,ho,_⟩:=T.obj 0 s2.heap st2 b hb
  exact c9 ho
 refine ax7 hcellN (by intro y hy;cases hy) (fun h1 hns1 hsb1=>?_) hkind
 dsimp only at hns1 hsb1 ⊢
 have e3:s2.heap.push { cls:=.type "list",dict:=none,data:=.seq ([]:List Value).toArray }=s2.heap.push { cls:=.type "list",data:=.seq ([]:List Value).toArray }:=rfl
 generalize hh3:s2.heap.push { cls:=.type "list",dict:=none,data:=.seq ([]:List Value).toArray }=h3 at *
 have I3':Inv X pins σ (upd H2 s2.heap.objs.size (.lst [])) { s2 with heap:=h3,toks:=s2.toks }:=I3
 have size3:h3.objs.size=s2.heap.objs.size+1:=by rw[<- hh3,C1]
 have f3:∀ b∈fp,R6 X pins (upd H2 s2.heap.objs.size (.lst [])) b:=fun b hb=>by
  obtain⟨f0,fr⟩:=f2 b hb
  exact⟨by rw[n4 (j0 (fpl b hb))];exact f0,fr⟩
 have up:∀ b u,h3.get? b=some u->h1.get? b=some u:=fun b u eb=>by
  rw[hsb1.2 b (j0 (c9 eb))]
  exact a6 _ eb
 have I4:Inv (F2 X scope cl N' { s2 with heap:=h3,toks:=s2.toks } (upd H2 s2.heap.objs.size (.lst [])) fp fun _ _=>False) [] (X6 lk σ) (upd H2 s2.heap.objs.size (.lst [])) { s2 with heap:=h1,toks:=s2.toks+([]:List (Str × Value)).length }:=
  aB3 (s3:={ s2 with heap:=h3,toks:=s2.toks }) I3' f3 hkind hcl hfr hlk hns1 up fun b hb=>by show b<h3.objs.size;rw[size3];exact u7 (fpl b hb)
 have st4:tn 0 h1:=T.keep 0 s2.heap h1 st2 fun b hb o eb=>up b o (by rw[<- hh3];exact a6 _ eb)
 have hCs:h3.objs.size=(M0 scope cl h3.objs.size X.env).locals:=rfl
 have stat:∀ {H':Hp},(∀ b∈fp,H' b=none)->∀ b∈fp,R6 (F2 X scope cl N' { s2 with heap:=h3,toks:=s2.toks } (upd H2 s2.heap.objs.size (.lst [])) fp fun _ _=>False) [] H' b:=fun {H'} hn b hb=>by
  obtain⟨f0,f1,f2',f3',f4,f5⟩:=f3 b hb
  refine⟨hn b hb,?_,fun z=>?_,.inl hb,fun x c ex=>f4 x c (hcl.get ex),fun p hp=>nomatch hp⟩
  ·show b≠h3.objs.size
   rw[size3]
   exact j0 (u7 (fpl b hb))
  ·rcases c8.mp (I3'.stkSub b z) with q | q
   ·exact f1 q
   ·exact f2' q
 have fin:∀ (s':Shared) (σ':St) (H':Hp),Inv (F2 X scope cl N' { s2 with heap:=h3,toks:=s2.toks } (upd H2 s2.heap.objs.size (.lst [])) fp fun _ _=>False) [] σ' H' s'->Q (.ref s2.heap.objs.size) H' ->
   aH3 (n6 X.prog X.w) X.A X.xe none (EP X pins σ Q) (.ref s2.heap.objs.size) h3.objs.size (.ok .next) s':=fun s' σ' H' I' q'=>by
  obtain⟨m,hm,_⟩:=id I'.loc
  have I5:Inv X pins σ H' s':=I3'.call' (ch:=fp) I'.os I'.base I'.hok I'.bare fun b hb=>by
   obtain⟨f0,f1,f2',f3',f4,f5⟩:=f3 b hb
   exact⟨f3',f1,f4,f5⟩
  refine⟨m,hm,fun h' hsb=>?_⟩
  refine⟨.ref s2.heap.objs.size,H',?_,rfl,q'⟩
  have hfc:H' h3.objs.size=none:=I'.free
  have hcl1:∀ b o,h3.get? b=some o->b≠h3.objs.size:=fun b o eb=>j0 (c9 eb)
  obtain⟨h0',g0,d0,t0,o0⟩:=s'
  refine I5.turned (t':=t0) (it:=h3.objs.size) (fun b o hb eb=>(hsb.2 b hb).trans eb) hfc ?_ (.inr I3'.sz) (fun x c ex z=>?_) (fun p hp z=>?_)
  ·exact M5 I3'.lt
  ·obtain⟨v',q2⟩:=I3'.cell x c ex
   exact absurd q2.lt (by rw[z];exact A3 _)
  ·exact absurd (c9 (I3'.pin p hp).1) (by rw[z];exact A3 _)
 have loop:∀ s5:Shared,s5={ s2 with heap:=h1,toks:=s2.toks+([]:List (Str × Value)).length } ->
   V2 (n6 X.prog X.w) X.A (.compLoop (.ListComp elt [⟨tg,iter,ifs,0⟩] scope pos) 0 (.ref it) (.ref s2.heap.objs.size) (M0 scope cl h3.objs.size X.env)) (aH3 (n6 X.prog X.w) X.A X.xe none (EP X pins σ Q) (.ref s2.heap.objs.size) h3.objs.size) s5:=by
  rintro s5 rfl
  refine bJ7 rfl (fun n s'=>∃ i xs σ' H',Inv (F2 X scope cl N' { s2 with heap:=h3,toks:=s2.toks } (upd H2 s2.heap.objs.size (.lst [])) fp fun _ _=>False) [] σ' H' s'/\tn i s'.heap/\(∀ b∈fp,H' b=none)/\W i n xs σ' H')
   (fun n s6 hI=>?_) m0 ⟨0,[],X6 lk σ,_,I4,st4,fun b hb=>(f3 b hb).1,w0⟩
  obtain⟨i,xs,σ6,H6,I6,st6,fr6,w6⟩:=hI
  show k9 _ X.A ((compTurn (.ListComp elt [⟨tg,iter,ifs,0⟩] scope pos) 0 (.ref it) (.ref s2.heap.objs.size) (M0 scope cl h3.objs.size X.env)).onRaise (fun x=>do noteFrame x (M0 scope cl h3.objs.size X.env);bh6 x)) _ _ s6
  refine bT9 ?_
  rw[bx7]
  refine a5 (an6 (a5 ?_))
  obtain⟨hD6,hw⟩:=turn i n xs σ6 H6 w6
  rcases hw with⟨stop,qn⟩ | ⟨go,hlen,step⟩
  ·refine thn (T.done (F2 X scope cl N' { s2 with heap:=h3,toks:=s2.toks } (upd H2 s2.heap.objs.size (.lst [])) fp fun _ _=>False) rfl rfl rfl hc i [] s6 σ6 H6 _ I6 (stat fr6) st6 stop) fun r s7 ⟨hr,I7⟩=>?_
   subst hr
   exact a8 (fin s7 σ6 H6 I7 qn)
  ·refine thn (T.item (F2 X scope cl N' { s2 with heap:=h3,toks:=s2.toks } (upd H2 s2.heap.objs.size (.lst [])) fp fun _ _=>False) rfl rfl rfl hc i [] s6 σ6 H6 _ I6 (stat fr6) st6 go) fun r s7 ⟨u,hr,h7⟩=>?_
   subst hr
   refine a5 (thn h7 fun _ s8 ⟨x,H8,I8,r8,y8,st8,fr8⟩=>?_)
   have I8':=I8.pinned (stat fr8) (T.obj _ _ st8)
   refine a5 (C2 (hg _ _ _ _ s8 σ6 H8 x u _ I8' r8 (step x H8 y8)) (fun _ s9 ⟨σ9,H9,I9,q9⟩=>?_) (fun _ _ z=>False.elim z))
   refine a5 (C2 (ht _ _ _ _ s9 σ9 H9 _ I9 q9) (fun ok s10 ⟨H10,I10,q10⟩=>?_) (fun _ _ z=>False.elim z))
   have again:∀ {σ':St} {H':Hp} {ys:List V} {s':Shared},Inv (F2 X scope cl N' { s2 with heap:=h3,toks:=s2.toks } (upd H2 s2.heap.objs.size (.lst [])) fp fun _ _=>False) ([]++ah3 fp s8.heap) σ' H' s'->(∃ m',m'<n/\W (i+1) m' ys σ' H') ->
     ∃ m',m'<n/\∃ i xs σ' H',Inv (F2 X scope cl N' { s2 with heap:=h3,toks:=s2.toks } (upd H2 s2.heap.objs.size (.lst [])) fp fun _ _=>False) [] σ' H' s'/\tn i s'.heap/\(∀ b∈fp,H' b=none)/\W i m' xs σ' H':=fun {σ' H' ys s'} I' ⟨m',hm,w'⟩=>by
    refine⟨m',hm,i+1,ys,σ',H',I'.unpinned,T.keep _ _ _ st8 fun b hb o eb=>(I'.pin (b,o) (j8 _ (j8 _ (N6 hb eb)))).1,fun b hb=>?_,w'⟩
    obtain⟨o,eb,_⟩:=T.obj _ _ st8 b hb
    exact(I'.pin (b,o) (j8 _ (j8 _ (N6 hb eb)))).2.1
   cases ok with
   | false =>
    have q10':∃ m',m'<n/\W (i+1) m' xs σ9 H10:=by simpa using q10
    exact a8 ⟨rfl,again I10 q10'⟩
   | true =>
    rw[if_pos rfl]at q10
    refine a5 (a5 (C2 (he _ _ _ _ s10 σ9 H10 _ I10 q10) (fun y s11 ⟨v11,H11,I11,r11,hD11,q11⟩=>?_) (fun _ _ z=>False.elim z)))
    refine a5 (C2 (O9 (X:=F2 X scope cl N' { s2 with heap:=h3,toks:=s2.toks } (upd H2 s2.heap.objs.size (.lst [])) fp fun _ _=>False) _ s11 σ9 H11 (.ref s2.heap.objs.size) [v11] (.ref s2.heap.objs.size) [y] (fun _ H'=>∃ m',m'<n/\W (i+1) m' (xs++[v11]) σ9 H') I11 rfl (.cons r11 .nil) ⟨s2.heap.objs.size,xs,v11,rfl,rfl,hD11,hlen,q11⟩) (fun _ s12 ⟨_,H12,I12,_,q12⟩=>?_) (fun _ _ z=>False.elim z))
    exact a8 (a8 ⟨rfl,again I12 q12⟩)
 exact aq3 (loop _ rfl) (T.self X.A 0 _ _ _ st4 (loop _ rfl))
theorem aF5 {K:W.Frag}{D:Addr}{g:TG}{tt:TT}{Qd:Hp->Prop}{σ0:St}{H0:Hp}(Pv:Nat->List V->St->Hp->Prop)(h0:Pv 0 [] σ0 H0)(hz:ys.length<=i7)(hl:∀ i xs σ H,i<=ys.length->Pv i xs σ H->SqL K H a ys/\H D=some (.lst xs)/\xs.length<=i)
  (hs:∀ i xs x σ H (N:List V->St->Hp->Prop),(∀ xs' σ' H',Pv (i+1) xs' σ' H'->N xs' σ' H')->ys[i]?=some x->Pv i xs σ H->g x σ H fun σ2 H2=>tt σ2 H2 fun b H3=>if b=true then te σ2 H3 fun v H4=>H4 D=some (.lst xs)/\N (xs++[v]) σ2 (upd H4 D (.lst (xs++[v]))) else N xs σ2 H3)
  (hd:∀ xs σ H,Pv ys.length xs σ H->Qd H) :
  ∃ W:Nat->Nat->List V->St->Hp->Prop,(∃ m,W 0 m [] σ0 H0)/\∀ i m xs σ' H',W i m xs σ' H'->H' D=some (.lst xs)/\(((Itl K a).stop i H'/\Qd H')\/((Itl K a).go i H'/\xs.length<i7/\∀ x H'',(Itl K a).yld i H' x H''->g x σ' H'' fun σ2 H2=>tt σ2 H2 fun b H3 =>
   if b=true then te σ2 H3 fun v H4=>H4 D=some (.lst xs)/\∃ m',m'<m/\W (i+1) m' (xs++[v]) σ2 (upd H4 D (.lst (xs++[v]))) else ∃ m',m'<m/\W (i+1) m' xs σ2 H3)):=by
 refine⟨fun i m xs σ H=>m=ys.length - i/\i<=ys.length/\Pv i xs σ H,⟨ys.length,by simp,n9 _,h0⟩,?_⟩
 rintro i m xs σ H ⟨rfl,hi,p⟩
 obtain⟨q,hD,hx⟩:=hl i xs σ H hi p
 refine⟨hD,?_⟩
 by_cases hlt:i<ys.length
 ·refine .inr ⟨⟨ys,ys[i],q,by simp[hlt]⟩,by omega,fun x H'' y=>?_⟩
  obtain⟨e,y⟩:=y
  subst e
  exact hs i xs x σ _ (fun zs σ' H'=>∃ m',m'<ys.length - i/\m'=ys.length - (i+1)/\i+1<=ys.length/\Pv (i+1) zs σ' H') (fun zs σ' H' r=>⟨_,by omega,rfl,hlt,r⟩) (y ys q) p
 ·have e:i=ys.length:=by omega
  subst e
  exact .inl ⟨⟨ys,q,c5 _⟩,hd xs σ H p⟩
theorem aB2 {K:W.Frag}{D:Addr}{g:TG}{tt:TT}{Qd:Hp->Prop}{σ0:St}{H0:Hp}(Pv:Nat->List V->St->Hp->Prop)(h0:Pv 0 [] σ0 H0)(hz:ys.length<=i7)(hl:∀ i xs σ H,i<=ys.length->Pv i xs σ H->SqT K H a ys/\H D=some (.lst xs)/\xs.length<=i)
  (hs:∀ i xs x σ H (N:List V->St->Hp->Prop),(∀ xs' σ' H',Pv (i+1) xs' σ' H'->N xs' σ' H')->ys[i]?=some x->Pv i xs σ H->g x σ H fun σ2 H2=>tt σ2 H2 fun b H3=>if b=true then te σ2 H3 fun v H4=>H4 D=some (.lst xs)/\N (xs++[v]) σ2 (upd H4 D (.lst (xs++[v]))) else N xs σ2 H3)
  (hd:∀ xs σ H,Pv ys.length xs σ H->Qd H) :
  ∃ W:Nat->Nat->List V->St->Hp->Prop,(∃ m,W 0 m [] σ0 H0)/\∀ i m xs σ' H',W i m xs σ' H'->H' D=some (.lst xs)/\(((Itt K a).stop i H'/\Qd H')\/((Itt K a).go i H'/\xs.length<i7/\∀ x H'',(Itt K a).yld i H' x H''->g x σ' H'' fun σ2 H2=>tt σ2 H2 fun b H3 =>
   if b=true then te σ2 H3 fun v H4=>H4 D=some (.lst xs)/\∃ m',m'<m/\W (i+1) m' (xs++[v]) σ2 (upd H4 D (.lst (xs++[v]))) else ∃ m',m'<m/\W (i+1) m' xs σ2 H3)):=by
 refine⟨fun i m xs σ H=>m=ys.length - i/\i<=ys.length/\Pv i xs σ H,⟨ys.length,by simp,n9 _,h0⟩,?_⟩
 rintro i m xs σ H ⟨rfl,hi,p⟩
 obtain⟨q,hD,hx⟩:=hl i xs σ H hi p
 refine⟨hD,?_⟩
 by_cases hlt:i<ys.length
 ·refine .inr ⟨⟨ys,ys[i],q,by simp[hlt]⟩,by omega,fun x H'' y=>?_⟩
  obtain⟨e,y⟩:=y
  subst e
  exact hs i xs x σ _ (fun zs σ' H'=>∃ m',m'<ys.length - i/\m'=ys.length - (i+1)/\i+1<=ys.length/\Pv (i+1) zs σ' H') (fun zs σ' H' r=>⟨_,by omega,rfl,hlt,r⟩) (y ys q) p
 ·have e:i=ys.length:=by omega
  subst e
  exact .inl ⟨⟨ys,q,c5 _⟩,hd xs σ H p⟩
mutual
def Dt (K:W.Frag)(H:Hp):ag1->V->Prop
 | .none,v=>v=.non
 | .bool b,v=>v=.bl b
 | .int i,v=>v=.int i
 | .str x,v=>v=.str x
 | .list ds,v=>∃ a xs,v=.ref a/\SqL K H a xs/\C7 K H ds xs
 | .tuple ds,v=>∃ a xs,v=.ref a/\SqT K H a xs/\C7 K H ds xs
 | .dict _,_=>False
def C7 (K:W.Frag)(H:Hp):List ag1->List V->Prop
 | [],xs=>xs=[]
 | d::ds,xs=>∃ y ys,xs=y::ys/\Dt K H d y/\C7 K H ds ys
end
mutual
theorem Dt.reads (I:Inv X pins σ H s):∀ (d:ag1) (v:V) (u:Value),Dt X.K H d v->RelV v u->∃ as,Reads s.heap u d as
 | .none,v,u,h,r=>by unfold Dt at h;subst h;cases r;exact⟨_,.none⟩
 | .bool b,v,u,h,r=>by unfold Dt at h;subst h;cases r;exact⟨_,.bool b⟩
 | .int i,v,u,h,r=>by unfold Dt at h;subst h;obtain⟨t,rfl⟩:=r;exact⟨_,.int i t⟩
 | .str x,v,u,h,r=>by unfold Dt at h;subst h;obtain⟨t,rfl⟩:=r;exact⟨_,.str x t⟩
 | .list ds,v,u,h,r=>by
  unfold Dt at h
  obtain⟨a,xs,rfl,hq,hd⟩:=h
  cases r
  obtain⟨its,rv,⟨o,n,ho,hc,_,hdd⟩,_⟩:=I.list hq
  obtain⟨as,ra⟩:=C7.reads I ds xs its hd rv
  exact⟨_,.list ho hc hdd (by simpa using ra)⟩
 | .tuple ds,v,u,h,r=>by
  unfold Dt at h
  obtain⟨a,xs,rfl,hq,hd⟩:=h
  cases r
  obtain⟨its,rv,⟨o,ho,hc,n,hdd⟩,_⟩:=I.tuple hq
  obtain⟨as,ra⟩:=C7.reads I ds xs its hd rv
  exact⟨_,.tuple ho hc hdd (by simpa using ra)⟩
 | .dict _,v,u,h,r=>by unfold Dt at h;exact h.elim
theorem C7.reads (I:Inv X pins σ H s):∀ (ds:List ag1) (xs:List V) (us:List Value),C7 X.K H ds xs->B6 xs us->∃ as,bx8 s.heap us ds as
 | [],xs,us,h,r=>by unfold C7 at h;subst h;cases r;exact⟨_,.nil⟩
 | d::ds,xs,us,h,r=>by
  unfold C7 at h
  obtain⟨y,ys,rfl,h1,h2⟩:=h
  cases r with
  | cons q t =>
   obtain⟨as,ra⟩:=Dt.reads I d y _ h1 q
   obtain⟨bs,rb⟩:=C7.reads I ds ys _ h2 t
   exact⟨_,.cons ra rb⟩
end
mutual
theorem Dt.same {K:W.Frag}(hs:∀ b o,H b=some o->H' b=some o):∀ (d:ag1) (v:V),Dt K H d v->Dt K H' d v
 | .none,v,h=>by unfold Dt at h ⊢;exact h
 | .bool b,v,h=>by unfold Dt at h ⊢;exact h
 | .int i,v,h=>by unfold Dt at h ⊢;exact h
 | .str x,v,h=>by unfold Dt at h ⊢;exact h
 | .list ds,v,h=>by
  unfold Dt at h ⊢
  obtain⟨a,xs,rfl,hq,hd⟩:=h
  refine⟨a,xs,rfl,?_,C7.same hs ds xs hd⟩
  rcases hq with(h | ⟨o,h⟩) | h
  ·exact .inl (.inl (hs _ _ h))
  ·exact .inl (.inr ⟨o,hs _ _ h⟩)
  ·exact .inr h
 | .tuple ds,v,h=>by
  unfold Dt at h ⊢
  obtain⟨a,xs,rfl,hq,hd⟩:=h
  refine⟨a,xs,rfl,?_,C7.same hs ds xs hd⟩
  rcases hq with(h | ⟨o,h⟩) | h
  ·exact .inl (.inl (hs _ _ h))
  ·exact .inl (.inr ⟨o,hs _ _ h⟩)
  ·exact .inr h
 | .dict _,v,h=>by unfold Dt at h;exact h.elim
theorem C7.same {K:W.Frag}(hs:∀ b o,H b=some o->H' b=some o):∀ (ds:List ag1) (xs:List V),C7 K H ds xs->C7 K H' ds xs
 | [],xs,h=>by unfold C7 at h ⊢;exact h
 | d::ds,xs,h=>by
  unfold C7 at h ⊢
  obtain⟨y,ys,rfl,h1,h2⟩:=h
  exact⟨y,ys,rfl,Dt.same hs d y h1,C7.same hs ds ys h2⟩
end
def dP (k:List Int):ag1:=.tuple (k.map .int)
theorem C7.ints {K:W.Frag}:∀ (k:List Int),C7 K H (k.map PyData.int) (k.map V.int)
 | []=>by unfold C7;rfl
 | i::k=>by
  rw[j3,j3]
  unfold C7
  exact⟨_,_,rfl,by unfold Dt;rfl,C7.ints k⟩
theorem C7.tups {K:W.Frag}:∀ {ys:List V} {ks:List (List Int)},D1 K H ys ks->C7 K H (ks.map dP) ys
 | _,_,.nil=>by unfold C7;rfl
 | _,_,.cons r t=>by
  obtain⟨a,rfl,h⟩:=r
  rw[j3]
  unfold C7
  refine⟨_,_,rfl,?_,C7.tups t⟩
  unfold dP Dt
  exact⟨a,_,rfl,h,C7.ints _⟩
theorem lay_ints:∀ k:List Int,PyData.canLayAll0 (k.map .int)=true
 | []=>by simp[PyData.canLayAll0]
 | i::k=>by rw[j3];simp[PyData.canLayAll0,PyData.canLay0,lay_ints k]
theorem Z6:∀ ks:List (List Int),PyData.canLayAll0 (ks.map dP)=true
 | []=>by simp[PyData.canLayAll0]
 | k::ks=>by rw[j3];simp[PyData.canLayAll0,PyData.canLay0,dP,lay_ints k,Z6 ks]
theorem ao8:∀ k k':List Int,PyData.eqvAll (k.map .int) (k'.map .int)=decide (k=k')
 | [],[]=>by simp[PyData.eqvAll]
 | [],_::_=>by simp[PyData.eqvAll]
 | _::_,[]=>by simp[PyData.eqvAll]
 | i::k,j::k'=>by
  rw[j3,j3]
  simp only[PyData.eqvAll,PyData.eqv,ao8 k k']
  by_cases h:i=j
  ·subst h;simp
  ·simp[h]
theorem as3:∀ ks ks':List (List Int),PyData.eqvAll (ks.map dP) (ks'.map dP)=decide (ks=ks')
 | [],[]=>by simp[PyData.eqvAll]
 | [],_::_=>by simp[PyData.eqvAll]
 | _::_,[]=>by simp[PyData.eqvAll]
 | k::ks,k'::ks'=>by
  rw[j3,j3]
  simp only[PyData.eqvAll,PyData.eqv,dP,ao8 k k']
  rw[as3 ks ks']
  by_cases h:k=k'
  ·subst h;simp
  ·simp[h]
theorem ap0:∀ k:List Int,PyData.depthAll (k.map .int)<=1
 | []=>by simp[PyData.depthAll]
 | i::k=>by
  have:=ap0 k
  rw[j3]
  simp only[PyData.depthAll,PyData.depth]
  omega
theorem as4:∀ ks:List (List Int),PyData.depthAll (ks.map dP)<=2
 | []=>by simp[PyData.depthAll]
 | k::ks=>by
  have h1:=ap0 k
  have h2:=as4 ks
  rw[j3]
  simp only[PyData.depthAll,PyData.depth,dP]at h2 ⊢
  omega
def bq8 (K:W.Frag)(A:Around)(neg:Bool):R2:=fun x y H Q=>∃ dx dy,Dt K H dx x/\Dt K H dy y/\dx.canLay0=true/\dy.canLay0=true/\A.units+min dx.depth dy.depth<R8/\Q (.bl (if neg then !PyData.eqv dx dy else PyData.eqv dx dy)) H
theorem bN6:OpR X (D6 .Eq) (bq8 X.K X.A false):=by
 intro pins s σ H x y v u Q I rx ry h
 obtain⟨dx,dy,h1,h2,h3,h4,h5,q⟩:=h
 obtain⟨as,ra⟩:=h1.reads I dx x v rx
 obtain⟨bs,rb⟩:=h2.reads I dy y u ry
 exact SeqAt.compareEq_reads ra rb h3 h4 h5 ⟨.bl _,H,I,rfl,q⟩
theorem ar4:OpR X (D6 .NotEq) (bq8 X.K X.A true):=by
 intro pins s σ H x y v u Q I rx ry h
 obtain⟨dx,dy,h1,h2,h3,h4,h5,q⟩:=h
 obtain⟨as,ra⟩:=h1.reads I dx x v rx
 obtain⟨bs,rb⟩:=h2.reads I dy y u ry
 exact SeqAt.compareNe_reads ra rb h3 h4 h5 ⟨.bl _,H,I,rfl,q⟩
def bA3 (K:W.Frag)(A:Around)(neg:Bool):R2:=fun x y H Q=>∃ p xs dx ds,y=.ref p/\(SqL K H p xs\/SqT K H p xs)/\Dt K H dx x/\C7 K H ds xs/\dx.canLay0=true/\PyData.canLayAll0 ds=true/\A.units+1+dx.depth<R8 /\
 Q (.bl (if neg then !ds.any (fun d=>PyData.eqv d dx) else ds.any (fun d=>PyData.eqv d dx))) H
open Classical in
noncomputable def aL4 (h:Heap)(dx:ag1)(v:Value):Bool:=if q:∃ d as,d.canLay0=true/\Reads h v d as then PyData.eqv (Classical.choose q) dx else false
theorem aL3 {dx d:ag1}{as:List Addr}(hl:d.canLay0=true)(r:Reads h v d as):aL4 h dx v=PyData.eqv d dx:=by
 unfold aL4
 have q:∃ d as,d.canLay0=true/\Reads h v d as:=⟨d,as,hl,r⟩
 rw[dif_pos q]
 obtain⟨as',h1,h2⟩:=Classical.choose_spec q
 rw[SeqAt.Reads.unique _ _ _ _ _ h1 h2 r]
theorem aB6 {dx:ag1}:∀ {ds:List ag1} {us:List Value} {as:List Addr},PyData.canLayAll0 ds=true->bx8 h us ds as->us.any (aL4 h dx)=ds.any (fun d=>PyData.eqv d dx)
 | _,_,_,_,.nil=>rfl
 | d::ds,u::us,_,hl,.cons r t=>by
  have hl':d.canLay0=true/\PyData.canLayAll0 ds=true:=by simpa [PyData.canLayAll0] using hl
  rw[S3,S3,aL3 hl'.1 r,aB6 hl'.2 t]
theorem ar5:∀ {ds:List ag1} {us:List Value} {as:List Addr} {u:Value},PyData.canLayAll0 ds=true->bx8 h us ds as->u∈us->∃ d as,d.canLay0=true/\Reads h u d as
 | _,_,_,_,_,.nil,hu=>by cases hu
 | d::ds,_::us,_,u,hl,.cons r t,hu=>by
  have hl':d.canLay0=true/\PyData.canLayAll0 ds=true:=by simpa [PyData.canLayAll0] using hl
  rcases c8.mp hu with rfl | hu
  ·exact⟨d,_,hl'.1,r⟩
  ·exact ar5 hl'.2 t hu
theorem bN5:OpR X (D6 .In) (bA3 X.K X.A false):=by
 intro pins s σ H x y v u Q I rx ry h
 obtain⟨p,xs,dx,ds,rfl,hq,h1,h2,h3,h4,h5,q⟩:=h
 cases ry
 obtain⟨bs,rb⟩:=h1.reads I dx x v rx
 have he:∀ (its:List Value) (as:List Addr),bx8 s.heap its ds as->∀ y,y∈its.toArray->SeqAt.EqAt X.A.in1 s y v (aL4 s.heap dx y):=fun its as ra y hy=>by
  obtain⟨d,cs,hl,rd⟩:=ar5 h4 ra (by simpa using hy)
  rw[aL3 hl rd]
  refine SeqAt.eqAt_reads d dx X.A.in1 s y v cs bs rd rb hl h3 ?_
  show X.A.units+1+min d.depth dx.depth<R8
  omega
 rcases hq with hq | hq
 ·obtain⟨its,rv,pl,hz⟩:=I.list hq
  obtain⟨as,ra⟩:=h2.reads I ds xs its rv
  refine SeqAt.in_listAt (aL4 s.heap dx) pl.isList (he its as ra) ⟨.bl _,H,I,rfl,?_⟩
  rw[al1,aB6 h4 ra]
  exact q
 ·obtain⟨its,rv,pl,hz⟩:=I.tuple hq
  obtain⟨as,ra⟩:=h2.reads I ds xs its rv
  refine SeqAt.in_tupleAt (aL4 s.heap dx) pl (he its as ra) ⟨.bl _,H,I,rfl,?_⟩
  rw[al1,aB6 h4 ra]
  exact q
theorem bi7:OpR X (D6 .NotIn) (bA3 X.K X.A true):=by
 intro pins s σ H x y v u Q I rx ry h
 obtain⟨p,xs,dx,ds,rfl,hq,h1,h2,h3,h4,h5,q⟩:=h
 cases ry
 obtain⟨bs,rb⟩:=h1.reads I dx x v rx
 have he:∀ (its:List Value) (as:List Addr),bx8 s.heap its ds as->∀ y,y∈its.toArray->SeqAt.EqAt X.A.in1 s y v (aL4 s.heap dx y):=fun its as ra y hy=>by
  obtain⟨d,cs,hl,rd⟩:=ar5 h4 ra (by simpa using hy)
  rw[aL3 hl rd]
  refine SeqAt.eqAt_reads d dx X.A.in1 s y v cs bs rd rb hl h3 ?_
  show X.A.units+1+min d.depth dx.depth<R8
  omega
 rcases hq with hq | hq
 ·obtain⟨its,rv,pl,hz⟩:=I.list hq
  obtain⟨as,ra⟩:=h2.reads I ds xs its rv
  refine SeqAt.notIn_listAt (aL4 s.heap dx) pl.isList (he its as ra) ⟨.bl _,H,I,rfl,?_⟩
  rw[al1,aB6 h4 ra]
  exact q
 ·obtain⟨its,rv,pl,hz⟩:=I.tuple hq
  obtain⟨as,ra⟩:=h2.reads I ds xs its rv
  refine SeqAt.notIn_tupleAt (aL4 s.heap dx) pl (he its as ra) ⟨.bl _,H,I,rfl,?_⟩
  rw[al1,aB6 h4 ra]
  exact q
theorem aU0:O1 X (.builtin "isinstance") (fun xs H Q=>∃ x c t b,xs=[x,.ty c]/\ap4 X.K H x t/\PySem.W.kitOne X.K t (.type c)=some b/\Q (.bl b) H):=by
 intro pins s σ H xs us Q I r h
 obtain⟨x,c,t,b,rfl,ty,e,q⟩:=h
 obtain⟨u,v,rfl,ru,rv⟩:=r.two
 cases (show v=Value.type c from rv)
 exact bk0 I ru ty e fun tk=>⟨.bl b,H,I.tok _,rfl,q⟩
end L2
namespace L2
open PySem PySem.Spec PyProof.Rows
theorem aS7:bZ2 X (bM5 X.K):=by
 intro pins s σ H o i ov iv Q I ro ri h
 obtain⟨p,xs,k,z,rfl,rfl,hq,he,q⟩:=h
 cases ro
 obtain⟨t,rfl⟩:=ri
 obtain⟨its,r,pl,hz⟩:=I.list hq
 obtain⟨j,h1,h2,h3,h4,h5⟩:=ax4 he
 obtain⟨w,ew,rw'⟩:=r.get h2
 have hl:=r.length
 have hn:=ar6
 have fin:EP X pins σ Q w s:=⟨z,H,I,rw',q⟩
 by_cases h0:0<=k
 ·have hj:k.toNat=j:=by
   rw[bh0 h0 h5]at h1
   exact Option.some.inj h1
  exact wpAny_getItem_list pl.isList h0 (by omega) (by rw[hj];simpa using ew) fin
 ·have hj:(k+(its.toArray.size:Int)).toNat=j:=by
   rw[aV0 (by omega) h4]at h1
   rw[k8,<- hl]
   exact Option.some.inj h1
  exact bG0 pl.isList (by omega) (by rw[k8];omega) (by omega) (by rw[hj];simpa using ew) fin
theorem aL8:O1 X (.builtin "isinstance") (fun xs H Q=>∃ a ys c b,xs=[.ref a,.ty c]/\SqT X.K H a ys/\PySem.W.kitOne X.K (.type "tuple") (.type c)=some b/\Q (.bl b) H):=by
 intro pins s σ H xs us Q I r h
 obtain⟨a,ys,c,b,rfl,hq,e,q⟩:=h
 obtain⟨u,v,rfl,ru,rv⟩:=r.two
 cases (show v=Value.type c from rv)
 cases ru
 obtain⟨its,rt,⟨o,h1,h2,_⟩,hz⟩:=I.tuple hq
 exact PySem.W.kia_one PySem.W.kitx_tuple I.kIn ⟨o,h1,h2⟩ e (fun z=>nomatch z) fun tk=>⟨.bl b,H,I.tok _,rfl,q⟩
def LkL (X:Cx)(scope:Scope)(cl:List (Str × Addr)):List Str->List (Option Nat)->Prop
 | [],[]=>True
 | _::N,none::lk=>LkL X scope cl N lk
 | x::N,some j::lk=>(X.N[j]?=some x/\(X.env.scope.names.lookup x=some .cell\/X.env.scope.names.lookup x=some .free)/\(cl.lookup x).isSome=true /\
  ((M0 scope cl 0 X.env).kindOf x=some .cell\/(M0 scope cl 0 X.env).kindOf x=some .free))/\LkL X scope cl N lk
 | _,_=>False
theorem LkL.len:∀ {N:List Str} {lk:List (Option Nat)},LkL X scope cl N lk->lk.length=N.length
 | [],[],_=>rfl
 | _::N,none::lk,h=>congrArg (·+1) (LkL.len (N:=N) (lk:=lk) h)
 | _::N,some _::lk,h=>congrArg (·+1) (LkL.len (N:=N) (lk:=lk) h.2)
 | [],_::_,h=>h.elim
 | _::_,[],h=>h.elim
theorem LkL.get:∀ {N:List Str} {lk:List (Option Nat)},LkL X scope cl N lk->∀ (i j:Nat) (x:Str),N[i]?=some x->lk[i]?=some (some j) ->
  X.N[j]?=some x/\(X.env.scope.names.lookup x=some .cell\/X.env.scope.names.lookup x=some .free)/\(cl.lookup x).isSome=true/\((M0 scope cl 0 X.env).kindOf x=some .cell\/(M0 scope cl 0 X.env).kindOf x=some .free)
 | [],[],_,i,j,x,h1,_=>by simp at h1
 | _::N,none::lk,h,0,j,x,h1,h2=>by simp at h2
 | _::N,none::lk,h,i+1,j,x,h1,h2=>LkL.get (N:=N) (lk:=lk) h i j x (by simpa using h1) (by simpa using h2)
 | y::N,some k::lk,h,0,j,x,h1,h2=>by
  simp at h1 h2
  subst h1 h2
  exact h.1
 | _::N,some _::lk,h,i+1,j,x,h1,h2=>LkL.get (N:=N) (lk:=lk) h.2 i j x (by simpa using h1) (by simpa using h2)
 | [],_::_,h,_,_,_,_,_=>h.elim
 | _::_,[],h,_,_,_,_,_=>h.elim
theorem LkL.ok (h:LkL X scope cl N lk):ba0 X N lk scope cl:=⟨h.len,h.get⟩
theorem ad0 {A B:Hp->Prop}(h:A H):bG2 σ H (fun b H3=>if b=true then A H3 else B H3):=by
 show if true=true then A H else B H
 exact R5 h
theorem p6 {v:V}{Q:St->Hp->Prop}(h:Q (σ.set i (some v)) H):aS8 i v σ H Q:=h
theorem SqT.updL {K:W.Frag}{xs:List V}{zs:List V}(h:SqT K H a ys)(hl:H l=some (.lst xs)):SqT K (upd H l (.lst zs)) a ys:=by
 rcases h with(h | ⟨o,h⟩) | h
 ·exact .inl (.inl (by rw[n4 (aE4 h hl (by intro z;cases z))];exact h))
 ·exact .inl (.inr ⟨o,by rw[n4 (aE4 h hl (by intro z;cases z))];exact h⟩)
 ·exact .inr h
theorem D1.updL {K:W.Frag}{xs zs:List V}(hl:H l=some (.lst xs)):∀ {ys:List V} {ks:List (List Int)},D1 K H ys ks->D1 K (upd H l (.lst zs)) ys ks
 | _,_,.nil=>.nil
 | _,_,.cons r t=>by
  obtain⟨a,h1,h2⟩:=r
  exact .cons ⟨a,h1,h2.updL hl⟩ (D1.updL hl t)
theorem D1.one {K:W.Frag}(h:SqT K H a (k.map V.int)):D1 K H [.ref a] [k]:=.cons ⟨a,rfl,h⟩ .nil
theorem A0.seqT {K:W.Frag}{xs:List V}(e:A0 H H')(h:SqT K H a xs):SqT K H' a xs:=by
 rcases h with(h | ⟨o,h⟩) | h
 ·exact .inl (.inl (e _ _ h))
 ·exact .inl (.inr ⟨o,e _ _ h⟩)
 ·exact .inr h
theorem A0.tups {K:W.Frag}{ks:List (List Int)}(e:A0 H H')(h:D1 K H ys ks):D1 K H' ys ks:=D1.same e h
theorem A0.upd {o:HO}(e:A0 H H')(h:H l=none):A0 H (upd H' l o):=fun b u q=>by
 rw[n4 (u6 q h)]
 exact e b u q
end L2
namespace L2
open PySem
theorem ae8 (K:W.Frag)(hK:X.K=K):O1 X (.builtin "isinstance") (fun xs H Q=>∃ x c t b,xs=[x,.ty c]/\ap4 K H x t/\PySem.W.kitOne K t (.type c)=some b/\Q (.bl b) H):=by
 subst hK
 exact aU0
theorem bn0 {u d:Nat}(h:u+64<R8)(hd:d<=60):u+1+d<R8:=by omega
theorem bn1 {u d:Nat}(h:u+64<R8)(hd:d<=64):u+d<R8:=by omega
theorem Dt.mkInt {K:W.Frag}{i:Int}:Dt K H (.int i) (.int i):=by unfold Dt;rfl
theorem Dt.mkL {K:W.Frag}{xs:List V}{ds:List ag1}(h:SqL K H a xs)(d:C7 K H ds xs):Dt K H (.list ds) (.ref a):=by unfold Dt;exact⟨a,xs,rfl,h,d⟩
theorem Dt.mkT {K:W.Frag}{xs:List V}{ds:List ag1}(h:SqT K H a xs)(d:C7 K H ds xs):Dt K H (.tuple ds) (.ref a):=by unfold Dt;exact⟨a,xs,rfl,h,d⟩
theorem C7.mkN {K:W.Frag}:C7 K H [] []:=by unfold C7;rfl
theorem C7.mkC {K:W.Frag}{d:ag1}{x:V}{ds:List ag1}{xs:List V}(h:Dt K H d x)(t:C7 K H ds xs):C7 K H (d::ds) (x::xs):=by unfold C7;exact⟨x,xs,rfl,h,t⟩
theorem ar9 {z:Int}{Q:St->Hp->Prop}(h:∀ c:Int,c=z->aS8 i (.int c) σ H Q):aS8 i (.int z) σ H Q:=h z rfl
theorem int_at {x:V}(h:(ns.map V.int)[i]?=some x):∃ z:Int,x=V.int z:=by
 rw[j6]at h
 cases e:ns[i]? with
 | none=>rw[e]at h;cases h
 | some z=>rw[e]at h;exact⟨z,(Option.some.inj h).symm⟩
theorem bl0 (ns:List Int)(lo hi:Option Int):∃ ms:List Int,bl1 (ns.map V.int) lo hi=ms.map V.int/\ms.length<=ns.length:=by
 unfold bl1
 rw[<- List.map_drop,<- List.map_take]
 exact⟨_,rfl,by rw[A4,M3];omega⟩
theorem bf2 (h:j<n):ixN n (j:Int)=some j:=by
 unfold ixN
 rw[if_pos (by omega),if_pos (by omega)]
 simp
theorem bQ7 (a b:List Int):PyData.eqv (dP a) (dP b)=decide (a=b):=by
 unfold dP
 simp only[PyData.eqv]
 exact ao8 a b
theorem aZ5 (k:List Int):∀ ks:List (List Int),(ks.map dP).any (fun d=>PyData.eqv d (dP k))=decide (k∈ks)
 | []=>by simp
 | l::ks=>by
  rw[j3,S3,bQ7,aZ5 k ks]
  by_cases h:l=k
  ·subst h;simp
  ·have h':k≠l:=fun e=>h e.symm
   simp[h,h']
theorem bt1 (k:List Int):(dP k).canLay0=true:=by simp[dP,PyData.canLay0,lay_ints]
theorem bv7 (k:List Int):(dP k).depth<=2:=by
 have:=ap0 k
 simp only[dP,PyData.depth]
 omega
theorem Dt.mkP {K:W.Frag}(h:SqT K H a (k.map V.int)):Dt K H (dP k) (.ref a):=by
 unfold dP
 exact Dt.mkT h (C7.ints k)
theorem bt0 (k:List Int):(PyData.list (k.map .int)).canLay0=true:=by simp[PyData.canLay0,lay_ints]
theorem bR0 (k:List Int):(PyData.list (k.map .int)).depth<=2:=by
 have:=ap0 k
 simp only[PyData.depth]
 omega
theorem bQ6 (a b:List Int):PyData.eqv (.list (a.map .int)) (.list (b.map .int))=decide (a=b):=by
 simp only[PyData.eqv]
 exact ao8 a b
theorem Dt.mkLi {K:W.Frag}(h:SqL K H a (k.map V.int)):Dt K H (.list (k.map .int)) (.ref a):=Dt.mkL h (C7.ints k)
theorem D1.dtAll {K:W.Frag}{ks:List (List Int)}(t:D1 K H ys ks):C7 K H (ks.map dP) ys:=C7.tups t
def dW (n:Int)(ks:List (List Int)):ag1:=.tuple [.int n,.tuple (ks.map dP)]
theorem bH9 (n:Int)(ks:List (List Int)):(dW n ks).canLay0=true:=by simp[dW,PyData.canLay0,PyData.canLayAll0,Z6]
theorem bY7 (n:Int)(ks:List (List Int)):(dW n ks).depth<=4:=by
 have:=as4 ks
 simp only[dW,PyData.depth,PyData.depthAll]
 omega
theorem bY4 (n m:Int)(ks ls:List (List Int)):PyData.eqv (dW n ks) (dW m ls)=(decide (n=m) && decide (ks=ls)):=by
 simp only[dW,PyData.eqv,PyData.eqvAll,as3,Bool.and_true]
 by_cases h:n=m
 ·subst h;simp
 ·simp[h]
end L2
namespace Web
open PySem L2
def bW4 (i m:Nat):List (List Int):=(O2 m).map fun(d:Nat)=>([(i:Int),(i:Int)+1+(d:Int)]:List Int)
def ae4 (n:Nat):List (List Int):=(O2 n).flatMap fun i=>bW4 i (n - (i+1))
def Up (n:Nat)(k:List Int):Prop:=∃ i j:Nat,i<j/\j<n/\k=[(i:Int),(j:Int)]
def Asc (ks:List (List Int)):Prop:=ks.Pairwise fun a b=>Tim.K9 a b=true
theorem bj4:∀ n:Nat,n<=24->(ae4 n).length<=276:=by decide +kernel
theorem aB5:∀ {ks ls:List (List Int)},Asc ks->ls.Perm ks->ls.Pairwise (fun a b=>Tim.K9 b a=false)->ls=ks
 | [],ls,_,p,_=>p.eq_nil
 | k::ks,[],_,p,_=>by
  have:=p.length_eq
  simp at this
 | k::ks,l::ls,h,p,q=>by
  have hkl:l=k:=by
   have h1:l∈k::ks:=p.mem_iff.mp c6
   have h2:k∈l::ls:=p.mem_iff.mpr c6
   rcases c8.mp h1 with e | e
   ·exact e
   ·rcases c8.mp h2 with e2 | e2
    ·exact e2.symm
    ·have a1:=(F7.mp h).1 l e
     have a2:=(F7.mp q).1 k e2
     rw[a1]at a2
     cases a2
  subst hkl
  rw[aB5 (F7.mp h).2 ((List.perm_cons _).mp p) (F7.mp q).2]
def up:List Int->List Int
 | [a,b]=>[if b<a then b else a,if b > a then b else a]
 | k=>k
theorem bU2 (h:Up n k):up k=k:=by
 obtain⟨i,j,h1,h2,rfl⟩:=h
 show [if (j:Int)<i then (j:Int) else i,if (j:Int) > i then (j:Int) else i]=_
 rw[if_neg (by omega),if_pos (by omega)]
theorem Up.key (h:Up n k)(hn:n<=24):Sett.U7 k:=by
 obtain⟨i,j,h1,h2,rfl⟩:=h
 exact⟨i,j,by omega,by omega,rfl⟩
theorem Up.len (h:Up n k):k.length=2:=by
 obtain⟨i,j,h1,h2,rfl⟩:=h
 rfl
def ak9 (n:Nat)(k:List Int):Prop:=∃ i j:Nat,i<n/\j<n/\i≠j/\k=[(i:Int),(j:Int)]
theorem ak9.up (h:ak9 n k):Up n (up k):=by
 obtain⟨i,j,h1,h2,h3,rfl⟩:=h
 show Up n [if (j:Int)<i then (j:Int) else i,if (j:Int) > i then (j:Int) else i]
 by_cases h:i<j
 ·rw[if_neg (by omega),if_pos (by omega)]
  exact⟨i,j,h,h2,rfl⟩
 ·rw[if_pos (by omega),if_neg (by omega)]
  exact⟨j,i,by omega,h1,rfl⟩
theorem Up.ends (h:Up n k):ak9 n k:=by
 obtain⟨i,j,h1,h2,rfl⟩:=h
 exact⟨i,j,by omega,h2,by omega,rfl⟩
end Web
namespace L2
open PySem
def Y4.around {k:Nat}{A:Around}(_:Y4 k A):Around:=A
theorem aX7 (K:W.Frag)(A:Around)(hK:X.K=K)(hA:X.A=A):OpR X (D6 .NotIn) (bA3 K A true):=by subst hK hA;exact bi7
end L2
namespace L2
open PySem PySem.Spec PyProof.Rows
section
variable {o:Expr} {es:List Expr} {to:TE} {t:TA} {name:Str} {cpos:Pos} {T id:String}
end
theorem bf3:∀ {vs:List Value} {n i:Nat},vs.length=n->(∀ j v,vs[j]?=some v->∃ t,v=Value.int (((i+j:Nat):Int)) t)->IntsAre vs ((ad8 i n).map fun k:Nat=>(k:Int))
 | [],n,i,e,_=>by subst e;exact .nil
 | v::vs,0,i,e,_=>by cases e
 | v::vs,n+1,i,e,h=>by
  obtain⟨t,rfl⟩:=h 0 v rfl
  rw[List.range'_succ,j3]
  refine .cons _ t (bf3 (by simpa using e) fun j v hv=>?_)
  obtain⟨t',e'⟩:=h (j+1) v (by simpa using hv)
  exact⟨t',by rw[e'];congr 2;omega⟩
theorem aT5 {r:Addr}{t u v:Tok}{Q:List Value->Shared->Prop}(hh:A.handled=none)(hr:IsRange s.heap r 0 n 1 t u v)(hn:n<=1000)
  (h:∀ h' tk vs,(∀ b o,s.heap.get? b=some o->h'.get? b=some o)->IntsAre vs ((ad8 0 n).map fun k:Nat=>(k:Int))->Q vs { s with heap:=h',toks:=tk }) :
  k9 (n6 prog w) A (collect (.ref r)) Q E s:=by
 unfold collect
 refine a5 (ak1 (D7 F.entry_proto_collect ?_))
 rw[Around.under_plainId F.plain_proto_collect _]
 show k9 _ A.in1 (newList [] >>= fun l=>again (.builtin "list.__iadd__" ⟨[l,.ref r],[]⟩)) _ _ s
 refine a5 (J0 ?_)
 refine a8 ⟨N0 F.plain_list_iadd _,D7 F.entry_list_iadd ?_⟩
 rw[Around.under_plainId F.plain_list_iadd _]
 show k9 _ A.in1 (Builtin.List.listExtendWith (.ref s.heap.objs.size) (.ref r) (.ref s.heap.objs.size)) _ _ _
 have hS:(s.heap.push { cls:=.type "list",data:=.seq ([]:List Value).toArray }).get? s.heap.objs.size=some { cls:=.type "list",data:=.seq #[] }:=d5 _ rfl
 have hrs:Builtin.Range.rangeSize 0 n 1=(n:Int):=by rw[rangeSize_one];split<;>omega
 refine wpAny_extend_range (R:=fun rr s'=>match rr with
  | .ok (.ret v)=>k9 (n6 prog w) A (match v with
   | .ref a=>(do
    let o <- load a
    match o.data with
    | .seq xs _=>pure xs.toList
    | _=>Q7 "internal:collect")
   | _=>Q7 "internal:collect") Q E s'
  | .ok _=>False
  | .error e=>E e s') (s:={ s with heap:=s.heap.push { cls:=.type "list",data:=.seq ([]:List Value).toArray } }) (n:=n) hh (a6 _ hr) (small_one (by omega) (by omega) (by omega) (by omega)) hrs (by omega) s.heap.objs.size _ 0 hS fun h' tk acc' c' hk hS' hacc=>?_
 show k9 _ A (load s.heap.objs.size >>= _) _ _ _
 refine a5 (wpAny_load hS' ?_)
 refine a8 (h h' tk _ (fun b o e=>hk b o (j0 (c9 e)) (a6 _ e)) (bf3 (by rw[d8];exact hacc.1) fun j v hj=>?_))
 obtain⟨t',e⟩:=hacc.2 j v (by rw[<- b7];exact hj)
 exact⟨t',by rw[e];congr 1;omega⟩
theorem R6.to {b:Addr}(f:R6 X pins H b)(h:H' b=none):R6 X pins H' b:=⟨h,f.2⟩
theorem Inv.turn {it:Addr}(I:Inv X pins σ H s)(f:R6 X pins H it)(k:∀ b o,b≠it->s.heap.get? b=some o->h'.get? b=some o):Inv X pins σ H { s with heap:=h',toks:=t' }:=
 I.turned k f.1 f.2.1 f.2.2.2.1 f.2.2.2.2.1 f.2.2.2.2.2
theorem Inv.take {o:HO}(I:Inv X pins σ H s)(f:R6 X pins H a)(k:∀ b u,b≠a->s.heap.get? b=some u->h'.get? b=some u)(new:D5 X.prog X.w (upd H a o) h' a o):Inv X pins σ (upd H a o) { s with heap:=h',toks:=t' }:=by
 have hn:=f.1
 have ne:∀ b u,H b=some u->b≠a:=fun b u e=>u6 e hn
 have kp:∀ b u,H b=some u->upd H a o b=some u:=fun b u e=>by rw[n4 (ne b u e)];exact e
 refine I.step (g':=s.gens) (d':=s.drawn) (ch:=[a]) (fun b hb=>?_) (fun b u _ _ hc e _=>k b u (fun z=>hc (by simp[z])) e) (fun b u _ _ hc e _=>⟨u.slots,k b u (fun z=>hc (by simp[z])) e⟩) (fun b u hc _ n=>by rw[n4 (fun z=>hc (by simp[z]))];exact n)
  (fun b u hc e=>⟨u,k b u (fun z=>hc (by simp[z])) e⟩) (fun b xs e=>kp b _ e) (fun b u xs e=>kp b _ e) (fun b ps e=>⟨#[],by rw[kp b _ e];simp⟩) (fun m hm=>?_) (fun b u e=>?_) I.bare
 ·have e:b=a:=by simpa using hb
  subst e
  exact⟨f.2.2.2.1,f.2.1,f.2.2.2.2.1,f.2.2.2.2.2⟩
 ·obtain⟨o',es,ep,ho,r⟩:=hm
  exact⟨o',es,ep,k _ o' (Ne.symm f.2.1) ho,r⟩
 ·by_cases hb:b=a
  ·subst hb
   rw[b9]at e
   cases e
   exact new
  ·rw[n4 hb]at e
   refine(I.hok b u e).stay (fun c v hc q=>k c v ?_ q) (fun c q=>?_) fun c xs q=>?_
   ·rcases hc with z | z
    ·rw[z];exact hb
    ·exact ne c _ z
   ·exact kp _ _ q
   ·exact kp _ _ q
abbrev aM0 (X:Cx)(A:Around)(σ:St)(H:Hp)(f:Value)(key:Int->List Int)(z:Int):Prop:=∀ (t:Tok) (pins':List (Addr × Obj)) (s':Shared) (H':Hp),Inv X pins' σ H' s'->A0 H H' ->
 k9 (n6 X.prog X.w) A (call f [.int z t]) (fun u s''=>∃ k H'',u=.ref k/\H'' k=some (.tup ((key z).map V.int))/\Inv X pins' σ H'' s''/\A0 H' H'') (fun _ _=>False) s'
abbrev aM1 (X:Cx)(pins:List (Addr × Obj))(σ:St)(H:Hp)(a:Addr)(zs:List Int)(key:Int->List Int)(P:PySem.Fin->Shared->Prop):Prop:=∀ (H':Hp) (s':Shared) (out:List Value) (zs':List Int) (c:Nat),Inv X pins σ H' s'->A0 H H'->R6 X pins H' a ->
 s'.heap.get? a=some (J3 "list" out.toArray c)->IntsAre out zs'->zs'.Perm zs->zs'.Pairwise (fun x y=>Tim.K9 (key y) (key x)=false)->P (.done (.ret .none)) s'
theorem aA8 {key:Int->List Int}:∀ {ks vs:List Value} {zs:List Int},Y5 (fun u k=>Tim.IsK prog w h k u) ks (zs.map key)->IntsAre vs zs ->
  (∀ p∈ks.zip vs,Tim.IsK prog w h (key (numOf p.2)) p.1)/\(ks.zip vs).map (fun p=>numOf p.2)=zs
 | _,_,[],.nil,.nil=>⟨fun p h=>(nomatch h),rfl⟩
 | _,_,z::zs,.cons r t,.cons _ t' q=>by
  obtain⟨h1,h2⟩:=aA8 t q
  refine⟨fun p hp=>?_,by rw[aB8,j3,h2];rfl⟩
  rw[aB8]at hp
  rcases c8.mp hp with rfl | hp
  ·exact r
  ·exact h1 p hp
theorem aE9:∀ {vs:List Value} {zs:List Int},IntsAre vs zs->∀ v∈vs,∃ t,v=.int (numOf v) t
 | _,_,.nil,v,h=>by cases h
 | _,_,.cons z t q,v,h=>by
  rcases c8.mp h with rfl | h
  ·exact⟨t,rfl⟩
  ·exact aE9 q v h
theorem bf4:∀ {vs:List Value},(∀ v∈vs,∃ t,v=.int (numOf v) t)->IntsAre vs (vs.map numOf)
 | [],_=>.nil
 | v::vs,h=>by
  obtain⟨t,e⟩:=h v c6
  rw[j3]
  rw[e]
  exact .cons _ t (bf4 fun v hv=>h v (d3 _ hv))
set_option maxHeartbeats 2000000 in
theorem aS1 {kS:Addr}{keys:Array Value}{e e1:Nat}{key:Int->List Int}{P:PySem.Fin->Shared->Prop}{st:SortSt}{H0:Hp}(I:Inv X pins σ H s)(hS:A0 H0 H)(hk:s.heap.get? kS=some (J3 "list" keys e))(ha:s.heap.get? a=some (J3 "list" #[] e1))
  (fk:R6 X pins H kS)(fa:R6 X pins H a)(hka:kS≠a)(hz:vs.length<=1000)(hkl:keys.size=vs.length)(hi:IntsAre vs zs)
  (hK:Y5 (fun u k=>Tim.IsK X.prog X.w s.heap k u) keys.toList (zs.map key))(hp:(m8 st).Perm (keys.zip vs.toArray))(hf:M9 st=none)
  (hs:(m8 st).toList.Pairwise (Tim.le (Tim.Bf (O:=Tim.aY1) fun p=>Tim.Q1 X.prog X.w s.heap p.1)))(h:aM1 X pins σ H0 a zs key P) :
  k9 (n6 X.prog X.w) A (ksk_tail a false e1 (.ref kS) st) P E s:=by
 obtain⟨k1,k2⟩:=aA8 hK hi
 have hl:(m8 st).toList.Perm (keys.toList.zip vs):=by rw[<- ksk_zip];exact L8.mp hp
 have hsz2:(m8 st).size=vs.length:=by rw[hp.size_eq,Array.size_zip,hkl,k8,Nat.min_self]
 have s1:=Heap.SameBut.update s.heap kS (Obj.mapSeq fun _=>(#[]:Array Value))
 have na1:(s.heap.update kS (Obj.mapSeq fun _=>(#[]:Array Value))).get? a=some (J3 "list" #[] e1):=(s1.2 a hka.symm).trans ha
 have hout:((m8 st).map (·.2)).size=vs.length:=by rw[af6];exact hsz2
 have hmem:∀ v∈(m8 st).toList.map (·.2),∃ t,v=.int (numOf v) t:=fun v hv=>by
  obtain⟨p,hp',rfl⟩:=o9.mp hv
  exact aE9 hi _ (ap6 (hl.mem_iff.mp hp')).2
 unfold ksk_tail
 dsimp only
 refine a5 (ae1 hk rfl ?_ (by rw[hkl,E9];omega) (n9 _))
 refine a5 (aC5 ?_)
 refine a5 (bh3 na1 rfl ?_)
 refine a5 (ae1 na1 rfl ?_ (n9 _) (t9 (aM6 hout) (by rw[E9];omega)))
 rw[hf]
 simp only[bne_self_eq_false,d7,if_false]
 have I1:Inv X pins σ H { s with heap:=s.heap.update kS (Obj.mapSeq fun _=>(#[]:Array Value)),toks:=s.toks }:=I.turn fk fun b o hb q=>(s1.2 b hb).trans q
 have s2:=Heap.SameBut.update (s.heap.update kS (Obj.mapSeq fun _=>(#[]:Array Value))) a (Obj.mapSeq fun _=>(m8 st).map (·.2))
 have I2:Inv X pins σ H { s with heap:=(s.heap.update kS (Obj.mapSeq fun _=>(#[]:Array Value))).update a (Obj.mapSeq fun _=>(m8 st).map (·.2)),toks:=s.toks }:=
  I1.turn (t':=s.toks) fa fun b o hb q=>(s2.2 b hb).trans q
 obtain⟨c2,hc2⟩:∃ c2,((s.heap.update kS (Obj.mapSeq fun _=>(#[]:Array Value))).update a (Obj.mapSeq fun _=>(m8 st).map (·.2))).get? a=some (J3 "list" ((m8 st).map (·.2)) c2):=⟨_,P3 na1 fun _=>(m8 st).map (·.2)⟩
 have eo:((m8 st).toList.map (·.2)).toArray=(m8 st).map (·.2):=by rw[<- bS0,ab0]
 refine a8 (h H _ ((m8 st).toList.map (·.2)) (((m8 st).toList.map (·.2)).map numOf) c2 I2 hS fa (by rw[eo];exact hc2) (bf4 hmem) ?_ ?_)
 ·have:=hl.map fun p=>numOf p.2
  rw[k2]at this
  rw[P2]
  exact this
 ·rw[P2,D9]
  refine List.Pairwise.imp_of_mem ?_ hs
  intro x y hx hy hxy
  have ex:=Tim.N8 (k1 x (hl.mem_iff.mp hx))
  have ey:=Tim.N8 (k1 y (hl.mem_iff.mp hy))
  have hxy':Tim.K9 (Tim.Q1 X.prog X.w s.heap y.1) (Tim.Q1 X.prog X.w s.heap x.1)=false:=hxy
  rw[ex,ey]at hxy'
  exact hxy'
theorem bD8 {kS:Addr}{keys:Array Value}{e e1:Nat}{key:Int->List Int}{P:PySem.Fin->Shared->Prop}{H0:Hp}(I:Inv X pins σ H s)(hS:A0 H0 H)(hk:s.heap.get? kS=some (J3 "list" keys e))(ha:s.heap.get? a=some (J3 "list" #[] e1))
  (fk:R6 X pins H kS)(fa:R6 X pins H a)(hka:kS≠a)(hz:vs.length<=1000)(hkl:keys.size=vs.length)(hi:IntsAre vs zs)
  (hK:Y5 (fun u k=>Tim.IsK X.prog X.w s.heap k u) keys.toList (zs.map key))(hne:∀ z,∃ i k,key z=i::k)(h:aM1 X pins σ H0 a zs key P) :
  k9 (n6 X.prog X.w) A (ksk_end a false vs.toArray e1 (.ref kS) keys) P E s:=by
 obtain⟨k1,k2⟩:=aA8 hK hi
 have hzt:=ksk_zip keys vs
 unfold ksk_end
 dsimp only
 simp only[d7,if_false]
 by_cases h2:vs.toArray.size<2
 ·rw[if_pos h2,if_pos h2]
  refine a5 (a8 ?_)
  rw[StateT.run_pure]
  refine a5 (a8 ?_)
  refine aS1 (st:=SortSt.mk' general' (keys.zip vs.toArray) #[] 7 none) I hS hk ha fk fa hka hz hkl hi hK (Array.Perm.refl _) rfl ?_ h
  show (keys.zip vs.toArray).toList.Pairwise _
  rw[o4]
  intro i j hi hj hij
  rw[d8,Array.size_zip,hkl]at hj
  rw[k8]at h2 hj
  omega
 ·rw[if_neg h2,if_neg h2]
  rw[k8]at h2
  have hmemK:∀ v∈keys.toList,∃ i k,Tim.IsK X.prog X.w s.heap (i::k) v:=fun v hv=>by
   obtain⟨j,hj⟩:=l5.mp hv
   obtain⟨k,q1,q2⟩:=S0 hK hj
   obtain⟨z,_,rfl⟩:=o9.mp (d9 q1)
   obtain⟨i,k',ek⟩:=hne z
   rw[ek]at q2
   exact⟨i,k',q2⟩
  have kk:keyKind' keys=keyKind' keys.toList.toArray:=by rw[ab0]
  rw[kk]
  refine a5 (Tim.aA7 (vs:=keys.toList) (by rw[d8,hkl];omega) hmemK ?_)
  refine a5 (C2 (Tim.as7 (a₀:=keys.zip vs.toArray) (κ:=bx6 true) (O:=Tim.aY1) (f:=fun p=>Tim.Q1 X.prog X.w s.heap p.1) (st:=SortSt.mk' (bx6 true) (keys.zip vs.toArray) #[] 7 none)
   (Q:=fun _ st'=>(m8 st').Perm (keys.zip vs.toArray)/\M9 st'=none/\(m8 st').toList.Pairwise (Tim.le (Tim.Bf (O:=Tim.aY1) fun p=>Tim.Q1 X.prog X.w s.heap p.1))) ?_ ([]:List Int) (Array.Perm.refl _) rfl rfl rfl fun st' a1 a2 a3=>⟨a1,a2,a3⟩) ?_ fun _ _ e=>e)
  ·intro x y hx hy Q hq
   rw[hzt]at hx hy
   refine Tim.aR3 (k1 x hx) (k1 y hy) ?_
   rw[<- Tim.N8 (k1 x hx),<- Tim.N8 (k1 y hy)]
   exact hq
  ·rintro⟨⟨⟩,st'⟩ s' ⟨rfl,hp,hf,hs⟩
   exact aS1 I hS hk ha fk fa hka hz hkl hi hK hp hf hs h
theorem bu2:∀ {vs:List Value} {zs:List Int} {j:Nat} {x:Value},IntsAre vs zs->vs[j]?=some x->∃ z t,zs[j]?=some z/\x=.int z t
 | _,_,_,_,.nil,h=>by simp at h
 | _,_,0,_,.cons n t q,h=>by simp at h;exact⟨n,t,rfl,h.symm⟩
 | _,_,j+1,_,.cons n t q,h=>by
  obtain⟨z,t',h1,h2⟩:=bu2 q (by simpa using h)
  exact⟨z,t',by simpa using h1,h2⟩
theorem bu7 {s':Shared}{b:Addr}(I:Inv X (pins++ah3 fp h) σ H' s')(hb:b∈fp)(e:h.get? b=some o):s'.heap.get? b=some o/\H' b=none:=
 let p:=I.pin (b,o) (j8 _ (j8 _ (N6 hb e)))
 ⟨p.1,p.2.1⟩
theorem bt6 {kS:Addr}{f:Value}{e1:Nat}{key:Int->List Int}{P:PySem.Fin->Shared->Prop}(I:Inv X pins σ H s)(hk:s.heap.get? kS=some (J3 "list" #[] 0))(ha:s.heap.get? a=some (J3 "list" #[] e1))
  (fk:R6 X pins H kS)(fa:R6 X pins H a)(hka:kS≠a)(hz:vs.length<=1000)(hi:IntsAre vs zs)(hne:∀ z,∃ i k,key z=i::k)(turn:∀ z∈zs,aM0 X A σ H f key z)(h:aM1 X pins σ H a zs key P) :
  k9 (n6 X.prog X.w) A (ksk_rest a f false vs.toArray e1 (.ref kS)) P E s:=by
 have hlen:=hi.length
 unfold ksk_rest
 refine a5 (aN2 ?_)
 first
  | rw[List.forIn_toArray]
  | (rw[<- R1];simp only[List.toList_toArray])
  | rw[<- R1]
 refine a5 (ksk_fold (fun i s'=>∃ (kA:Array Value) (e:Nat) (H':Hp) (ys:List V),Inv X pins σ H' s'/\A0 H H'/\s'.heap.get? kS=some (J3 "list" kA e)/\s'.heap.get? a=some (J3 "list" #[] e1)/\R6 X pins H' kS/\R6 X pins H' a /\
   B6 ys kA.toList/\D1 X.K H' ys ((zs.take i).map key)) vs 0 s ⟨#[],0,H,[],I,A0.refl H,hk,ha,fk,fa,.nil,.nil⟩ ?step ?done)
 case step =>
  rintro j x s' hx ⟨kA,e,H',ys,I',hS,hk',ha',fk',fa',hv,ht⟩
  simp only[K5]at ht ⊢
  have hj:j<vs.length:=(a9.mp hx).1
  obtain⟨z,t,hzj,rfl⟩:=bu2 hi hx
  have hzA:kA.size<=vs.length:=by
   have h1:ys.length=kA.size:=by rw[<- d8];exact hv.length
   have h2:=ht.len
   rw[b8,A4]at h2
   omega
  have Ip:=I'.pinned (fp:=[kS,a]) (fun b hb=>by
   rcases c8.mp hb with rfl | hb
   ·exact fk'
   ·rw[d6.mp hb];exact fa') (fun b hb=>by
   rcases c8.mp hb with rfl | hb
   ·exact⟨_,hk',fun v q=>by cases q⟩
   ·rw[d6.mp hb];exact⟨_,ha',fun v q=>by cases q⟩)
  refine a5 (ae0 (C2 (turn z (d9 hzj) t _ s' H' Ip hS) (fun v s'' he=>?_) fun _ _ hF=>hF.elim))
  obtain⟨k,H'',rfl,hk'',I'',hS'⟩:=he
  obtain⟨nk,fk0⟩:=bu7 I'' c6 hk'
  obtain⟨na,fa0⟩:=bu7 I'' (d3 _ c6) ha'
  have Iu:=I''.unpinned
  have fk'':R6 X pins H'' kS:=fk'.to fk0
  have fa'':R6 X pins H'' a:=fa'.to fa0
  have s1:=Heap.SameBut.update s''.heap kS (Obj.mapSeq (·.push (.ref k)))
  obtain⟨c2,hc2⟩:∃ c2,(s''.heap.update kS (Obj.mapSeq (·.push (Value.ref k)))).get? kS=some (J3 "list" (kA.push (.ref k)) c2):=⟨_,P3 nk (·.push (.ref k))⟩
  have ea:(kA.push (Value.ref k)).toList=kA.toList++[Value.ref k]:=by simp
  have ek:zs.take (j+1)=zs.take j++[z]:=by rw[B8,hzj];simp
  refine a5 (ae1 nk rfl ?_ (by rw[E9];omega) (t9 (aM6 (x6 ..)) (by rw[E9];omega)))
  refine a8 ⟨rfl,kA.push (.ref k),c2,H'',ys++[.ref k],?_,hS.trans hS',hc2,(s1.2 a hka.symm).trans na,fk'',fa'',?_,?_⟩
  ·exact Iu.turn (t':=s''.toks) fk'' fun b o hb q=>(s1.2 b hb).trans q
  ·rw[ea]
   exact hv.append (.cons rfl .nil)
  ·rw[ek,r6]
   exact D1.append (D1.same hS' ht) (.cons ⟨k,rfl,.of hk''⟩ .nil)
 case done =>
  rintro s' ⟨kA,e,H',ys,I',hS,hk',ha',fk',fa',hv,ht⟩
  have e3:zs.take (0+vs.length)=zs:=p8 (by omega)
  rw[e3]at ht
  refine a5 (bJ2 hk' rfl ?_)
  have h1:ys.length=kA.size:=by rw[<- d8];exact hv.length
  have h2:=ht.len
  rw[b8]at h2
  have hK:=ac7 I' ht hv
  exact bD8 I' hS hk' ha' fk' fa' hka hz (by omega) hi (az9 (fun u k q=>q) hK) hne h
theorem bt5 {f:Value}{key:Int->List Int}{P:PySem.Fin->Shared->Prop}(I:Inv X pins σ H s)(ha:s.heap.get? a=some (J3 "list" vs.toArray n))
  (fa:R6 X pins H a)(hz:vs.length<=1000)(hi:IntsAre vs zs)(hne:∀ z,∃ i k,key z=i::k)(turn:∀ z∈zs,aM0 X A σ H f key z)(h:aM1 X pins σ H a zs key P) :
  k9 (n6 X.prog X.w) A (ksk_tree a f false) P E s:=by
 have hlt:a<s.heap.objs.size:=c9 ha
 have s1:=Heap.SameBut.update s.heap a (Obj.mapSeq fun _=>(#[]:Array Value))
 obtain⟨e1,ho1⟩:∃ e1,(s.heap.update a (Obj.mapSeq fun _=>(#[]:Array Value))).get? a=some (J3 "list" #[] e1):=⟨_,P3 ha fun _=>#[]⟩
 have I1:Inv X pins σ H { s with heap:=s.heap.update a (Obj.mapSeq fun _=>(#[]:Array Value)),toks:=s.toks }:=I.turn fa fun b o hb q=>(s1.2 b hb).trans q
 unfold ksk_tree
 refine a5 (bJ2 ha rfl ?_)
 refine a5 (ae1 ha rfl ?_ (by rw[k8,E9];omega) (n9 _))
 refine a5 (bh3 ho1 rfl ?_)
 refine a5 (wpAny_newTuple ?_ (by show vs.length<=_;rw[E9];omega))
 refine a5 (T8 ?_ (n9 _))
 refine v8 ?_
 generalize hh2:(s.heap.update a (Obj.mapSeq fun _=>(#[]:Array Value))).push (J3 "tuple" vs.toArray 0)=h2
 have hsz:h2.objs.size=s.heap.objs.size+1:=by rw[<- hh2,size_push',bT0]
 have I2:Inv X pins σ H { s with heap:=h2,toks:=s.toks }:=I1.kept (t':=s.toks) fun b o q=>by rw[<- hh2];exact a6 _ q
 have I3:Inv X pins σ H { s with heap:=h2.push (J3 "list" #[] 0),toks:=s.toks }:=I2.kept (t':=s.toks) fun b o q=>a6 _ q
 have fk:R6 X pins H h2.objs.size:=I2.fpOk (c5 _) (I2.hok.fresh (c5 _))
 refine bt6 (s:={ s with heap:=h2.push (J3 "list" #[] 0),toks:=s.toks }) (kS:=h2.objs.size) (e1:=e1) I3 (d5 _ rfl) ?_ fk fa (by rw[hsz];exact M5 (u7 hlt)) hz hi hne turn h
 refine a6 _ ?_
 rw[<- hh2]
 exact a6 _ ho1
theorem aW6 {r q:Addr}{key:Int->List Int}(I:Inv X pins σ H s)(hh:A.handled=none)(hr:∃ t u v,IsRange s.heap r 0 n 1 t u v)(hn:n<=1000)(hne:∀ z,∃ i k,key z=i::k)
  (turn:∀ z∈(ad8 0 n).map (fun k:Nat=>(k:Int)),aM0 X A.in1.in1 σ H (.ref q) key z)
  (h:∀ (H':Hp) (s':Shared) (D:Addr) (zs:List Int),A0 H H'->H' D=none->zs.Perm ((ad8 0 n).map fun k:Nat=>(k:Int))->zs.Pairwise (fun x y=>Tim.K9 (key y) (key x)=false)->Inv X pins σ (upd H' D (.lst (zs.map V.int))) s'->Q (.ref D) s') :
  k9 (n6 X.prog X.w) A (call (.builtin "sorted") [.ref r] [(Str.ofString "key",.ref q)]) Q E s:=by
 obtain⟨t,u,v,hr⟩:=hr
 refine call_function_entry_kw bT8 bJ3 bJ4 (ksk_s1 _ _) ?_
 unfold Builtin.«sorted»
 refine a5 (m:=checkCount "sorted" 1 1 _) (a8 ?_)
 refine a5 (aT5 (A:=A.in1) hh hr hn fun h1 tk vs kp hi=>?_)
 have hlen:=hi.length
 rw[b8,bI8]at hlen
 have I1:Inv X pins σ H { s with heap:=h1,toks:=tk }:=I.kept kp
 refine a5 (T8 ?_ (by rw[E9];omega))
 have fD:R6 X pins H h1.objs.size:=I1.fpOk (c5 _) (I1.hok.fresh (c5 _))
 have I2:Inv X pins σ H { s with heap:=h1.push (J3 "list" vs.toArray 0),toks:=tk }:=I1.kept (t':=tk) fun b o q=>a6 _ q
 have hoL:(h1.push (J3 "list" vs.toArray 0)).get? h1.objs.size=some (J3 "list" vs.toArray 0):=d5 _ rfl
 refine a5 (v8 (wpAny_call_entry_kw bm2 (s:={ s with heap:=h1.push (J3 "list" vs.toArray 0),toks:=tk }) ⟨_,hoL,rfl⟩ bh4 ?body (ksk_l1 _ _)))
 show k9 (n6 X.prog X.w) A.in1.in1 (Builtin.«list.sort» ⟨[.ref h1.objs.size],[(Str.ofString "key",.ref q)]⟩) _ _ _
 rw[ksk_t1]
 refine bt5 I2 hoL fD (by omega) hi hne turn fun H' s' out zs' c I' hS fa' hout hi' hp hs=>⟨_,rfl,?_⟩
 have hl2:zs'.length<=1000:=by rw[hp.length_eq,b8,bI8];exact hn
 refine a8 ⟨_,rfl,h H' s' h1.objs.size zs' hS fa'.1 hp hs ?_⟩
 have:=I'.take (t':=s'.toks) (h':=s'.heap) (o:=.lst (zs'.map V.int)) fa' (fun b u _ q=>q) ⟨by rw[b8,E9];omega,out,c,aq4 hi',hout⟩
 exact this
abbrev aY4 (qual:Str)(scope:Scope)(cl:List (Str × Addr))(f:Addr)(cv:Value)(s:Shared):Env:=PySem.W.envX qual scope s.heap.objs.size f cv cl
def bt3 (X:Cx)(A:Around)(qual:Str)(scope:Scope)(cl:List (Str × Addr))(N':List Str)(f:Addr)(cv:Value)(s:Shared)(H:Hp):Cx:=
 { X with A:=A.deeper (aY4 qual scope cl f cv s),N:=N',s₀:=s,H₀:=H,env:=aY4 qual scope cl f cv s,outer:=X.stack,stack:=List.cons (aY4 qual scope cl f cv s) X.stack,ex:=[],fn:=fun _=>false,calm:=true,pn:=[],xe:=fun _ _=>False }
def aG7 (X:Cx)(N':List Str)(lk:List (Option Nat))(scope:Scope)(cl:List (Str × Addr)):Prop:=
 lk.length=N'.length/\∀ (i j:Nat) (x:Str),N'[i]?=some x->lk[i]?=some (some j)->X.N[j]?=some x/\(X.env.scope.names.lookup x=some .cell\/X.env.scope.names.lookup x=some .free)/\(cl.lookup x).isSome=true /\
  (scope.names.lookup x=some .cell\/scope.names.lookup x=some .free)
theorem bj6 {h1:Heap}{tk:Nat}{p:Str}{cv:Value}{v:V}(I:Inv X pins σ H s)(hA:A.frames=some X.stack)(hh:A.handled=none)(hkind:scope.kind=.function)(hcl:as6 X.env cl)(hfr:au9 scope.names cl=true)(hlk:aG7 X N' lk scope cl)
  (hp:scope.names.lookup p=some .local)(rv:RelV v u)(hn:h1.Ns s.heap.objs.size (fun y=>[(p,u)].reverse.lookup y))(hk:∀ b o,s.heap.get? b=some o->h1.get? b=some o) :
  Inv (bt3 X A qual scope cl (p::N') f cv s H) [] (some v::X6 lk σ) H { s with heap:=h1,toks:=tk }:=by
 have hC:H s.heap.objs.size=none:=I.hok.fresh (c5 _)
 have hmem:∀ y∈scope.names,y.2≠.cell/\(y.2=.free->(cl.lookup y.1).isSome=true):=fun y hy=>by
  unfold au9 at hfr
  rw[D0]at hfr
  have:=hfr y hy
  rw[v7]at this
  refine⟨by simpa using this.1,fun e=>?_⟩
  have h2:=this.2
  rw[e]at h2
  simpa using h2
 have hcell:∀ x c,cl.lookup x=some c->X.env.cells.lookup x=some c:=fun x c e=>hcl.get e
 have noE:∀ b:Addr,b∉([]:List Addr):=fun b z=>nomatch z
 refine⟨⟨I.ok.mod,hkind,rfl,rfl,c5 _,fun x y c e1 e2=>I.ok.inj x y c (hcell x c e1) (hcell y c e2),fun x hx=>?_,(fun x c e=>by cases e),fun _=>hh,Around.frames_deeper hA,.inr ⟨rfl,rfl⟩,fun b z=>absurd z (noE b),fun b o e=>I.bs b o e,t9 I.ok.bsz I.sz,fun b _ _=>noE b,fun b z=>absurd z (noE b),I.stack,I.stkFree⟩,
  rfl,I.bare,Un.kept hk,⟨_,hn,fun i x w e1 e2 e3=>?_⟩,fun x c e=>?_,hC,fun x c e=>I.freeC x c (hcell x c e),(fun q hq=>nomatch hq),I.hok.kept hk,?_⟩
 ·have hx':scope.names.lookup x=some .cell\/scope.names.lookup x=some .free:=hx
  rcases hx' with h | h
  ·exact absurd rfl (hmem _ (PySem.mem_of_lookup h)).1
  ·exact p7.mp ((hmem _ (PySem.mem_of_lookup h)).2 rfl)
 ·cases i with
  | zero =>
   have e1':p=x:=by simpa using (show (p::N')[0]?=some x from e1)
   have e2':v=w:=by simpa using (show (some v::X6 lk σ)[0]?=some (some w) from e2)
   subst e1' e2'
   refine⟨u,rv,.inl ⟨hp,?_⟩⟩
   show [(p,u)].reverse.lookup p=some u
   simp[List.lookup]
  | succ i =>
   have e1':N'[i]?=some x:=by simpa using (show (p::N')[i+1]?=some x from e1)
   have e2':(X6 lk σ)[i]?=some (some w):=by simpa using (show (some v::X6 lk σ)[i+1]?=some (some w) from e2)
   unfold X6 at e2'
   rw[j6]at e2'
   cases hq:lk[i]? with
   | none=>rw[hq]at e2';cases e2'
   | some o =>
    rw[hq]at e2'
    have e2'':(o.bind fun j=>(σ[j]?).join)=some w:=Option.some.inj e2'
    cases o with
    | none=>cases e2''
    | some j =>
     obtain⟨q1,q2,q3,q4⟩:=hlk.2 i j x e1' hq
     have hσ:σ[j]?=some (some w):=by
      have z:(σ[j]?).join=some w:=e2''
      cases hh:σ[j]? with
      | none=>rw[hh]at z;cases z
      | some o=>rw[hh]at z;rw[show o=some w from z]
     obtain⟨m,hnX,hl⟩:=I.loc
     obtain⟨u',r,lo⟩:=hl j x w q1 hσ (q2.elim (fun a=>.inr (.inl a)) (fun a=>.inr (.inr a)))
     refine⟨u',r,.inr ?_⟩
     obtain⟨c,hc⟩:=p7.mp q3
     refine⟨q4,c,hc,?_⟩
     have hcX:=hcell x c hc
     rcases lo with⟨k,_⟩ | ⟨_,c',hc',z⟩
     ·have k':X.env.scope.names.lookup x=some .local:=k
      rw[k']at q2
      rcases q2 with q2 | q2<;>cases q2
     ·rw[hcX]at hc'
      cases hc'
      obtain⟨o,ho,hd⟩:=z
      exact⟨o,hk c o ho,hd⟩
 ·obtain⟨w,o,ho,hd⟩:=I.cell x c (hcell x c e)
  exact⟨w,o,hk c o ho,hd⟩
 ·show (some v::X6 lk σ).length=(p::N').length
  unfold X6
  rw[o6,b8,o6,hlk.1]
theorem bt2 {name p:Str}{body:Expr}{c':Addr}{pm ctv:Value}{v:V}{Q:VK}(I:Inv X pins σ H s)(hA:A.frames=some X.stack)(hh:A.handled=none)(hroom:A.depth<aB9)
  (ho:s.heap.get? f=some (PySem.W.kla_obj name qual params body scope cl pm c' ctv))(hcd:s.heap.CodeRec (.ref c') qual)(hbind:ba7 (PySem.W.kla_fn name qual params body scope cl pm (.ref c') ctv) ⟨[u],[]⟩=pure [(p,u)])
  (hkind:scope.kind=.function)(hco:scope.isCoroutine=false)(hgen:scope.isGenerator=false)(hcl:as6 X.env cl)(hfr:au9 scope.names cl=true)(hlk:aG7 X N' lk scope cl)(hp:scope.names.lookup p=some .local)(rv:RelV v u)
  (he:PE (bt3 X A qual scope cl (p::N') f (.ref c') s H) body te)(ht:te (some v::X6 lk σ) H Q) :
  k9 (n6 X.prog X.w) A (call (.ref f) [u]) (fun u' s'=>∃ v' H',Inv X pins σ H' s'/\RelV v' u'/\Q v' H') (fun _ _=>False) s:=by
 have hcellN:∀ y∈scope.names,y.2≠.cell:=fun y hy=>by
  unfold au9 at hfr
  rw[D0]at hfr
  have:=hfr y hy
  rw[v7]at this
  simpa using this.1
 refine av5 (PySem.W.kla_callFunE hroom ho rfl hco hgen rfl hcd ?_)
 show k9 _ _ (ba7 (PySem.W.kla_fn name qual params body scope cl pm (.ref c') ctv) ⟨[u],[]⟩) _ _ s
 rw[hbind]
 refine a8 (ax7 hcellN (fun y hy=>by rw[d6.mp hy];exact hp) (fun h1 hns hsb=>?_) hkind)
 have hk₁:∀ b o,s.heap.get? b=some o->h1.get? b=some o:=fun b o e=>hsb.extBut b o (j0 (c9 e)) (a6 _ e)
 refine⟨I.nolimit.keeps hk₁,?_⟩
 show V2 _ _ (.expr body (PySem.W.envX qual scope s.heap.objs.size f (.ref c') cl)) _ _
 have I1:=bj6 (tk:=s.toks+[(p,u)].length) (qual:=qual) (f:=f) (cv:=.ref c') I hA hh hkind hcl hfr hlk hp rv hns hk₁
 refine PySem.W.kla_codeExpr (C2 (he [] _ _ H Q I1 ht) (fun u' s' hq=>?_) fun _ _ z=>False.elim z)
 obtain⟨v',H',J,r',q⟩:=hq
 exact⟨v',H',I.call' (ch:=[]) J.os J.base J.hok J.bare (fun b z=>nomatch z),r',q⟩
def aU3 (c:Addr)(qual:Str):HO:=.ext fun h=>h.CodeRec (.ref c) qual
def bl8 (f:Addr)(o:Obj):HO:=.ext fun h=>h.get? f=some o
def L4 (P:Addr)(pos:Pos)(qual:Str)(H:Hp):Prop:=∃ ps,H P=some (.tbl ps)/\TriplesOk ps.toList/\(bJ8 pos ps.toList=none\/∃ c',bJ8 pos ps.toList=some (.ref c')/\H c'=some (aU3 c' qual))
def O0 (P:Addr)(H H':Hp):Prop:=∀ b o,b≠P->H b=some o->H' b=some o
theorem O0.trans {P:Addr}{H1 H2:Hp}(a:O0 P H H1)(b:O0 P H1 H2):O0 P H H2:=fun c o n h=>b c o n (a c o n h)
theorem A0.grow (P:Addr)(h:A0 H H'):O0 P H H':=fun b o _ q=>h b o q
theorem L4.same {P:Addr}(t:L4 P pos qual H)(h:A0 H H'):L4 P pos qual H':=by
 obtain⟨ps,h1,h2,h3⟩:=t
 refine⟨ps,h _ _ h1,h2,?_⟩
 rcases h3 with h3 | ⟨c',h3,h4⟩
 ·exact .inl h3
 ·exact .inr ⟨c',h3,h _ _ h4⟩
structure aL9 (base:Heap) (mg:Str->Option Value) (c P:Addr):Prop where
 hd:PySem.W.CodeHd base c P
 blt:base.BuiltinsAt mg P
 ne:i9≠P
theorem bl7 {c:Value}{l:List Value}(h:TriplesOk l)(hn:bJ8 pos l=none):bJ8 pos (l++[R9 pos.line,R9 pos.col,c])=some c:=codeAmong_snoc l h hn
def bV0 (P:Addr)(pos:Pos)(qual:Str)(params:Arguments)(body:Expr)(scope:Scope)(cl:List (Str × Addr))(pm:Value):TE:=fun σ H Q=>L4 P pos qual H/\∀ f c' ctv H',O0 P H H'->L4 P pos qual H'->H f=none ->
 H' f=some (bl8 f (PySem.W.kla_obj "<lambda>" qual params body scope cl pm c' ctv))->H' c'=some (aU3 c' qual)->Q (.ref f) H'
theorem bM9 {body:Expr}{c P:Addr}(B:aL9 X.base X.mg c P)(hcode:X.env.code=.ref c)(hcl:av9 scope X.env=pure cl)(hdef:defaultsOf params X.env=([],[])) :
  PE X (.Lambda params body scope pos) (bV0 P pos (X.env.qual++"<lambda>") params body scope cl ((X.mg "__name__").getD .none)):=by
 intro pins s σ H Q I h
 obtain⟨⟨ps,hP,ht,hin⟩,q⟩:=h
 have hPh:s.heap.get? P=some (PySem.W.tabObj ps):=I.hok P _ hP
 have C:=B.hd.keeps I.bk
 have hb:s.heap.BuiltinsAt X.mg P:=by
  obtain⟨bm,ob,b1,b2,b3,b4,b5,b6⟩:=B.blt
  exact⟨bm,ob,b1,b2,b3,b4,I.bk _ _ b5,b6⟩
 refine PySem.W.kla_eval hdef ?_
 rcases hin with hnf | ⟨c',hf,hc'⟩
 ·refine PySem.W.kla_makeFunction hcl I.ok.glob (I.mod.glob.keeps I.bk) hcode C hPh ht hnf B.ne hb fun c' ctv h' tk hx hge hlt hrec htb=>?_
  have hPlt:P<s.heap.objs.size:=c9 hPh
  have hsz:s.heap.objs.size<=h'.objs.size:=t9 hge (aq1 hlt)
  have cP:P≠c':=j0 (o8 hPlt hge)
  have fP:P≠h'.objs.size:=j0 (o8 hPlt hsz)
  have fc:c'≠h'.objs.size:=j0 hlt
  have hcn:H c'=none:=I.hok.fresh hge
  have hfn:H h'.objs.size=none:=I.hok.fresh hsz
  have hfr:(PySem.W.kla_obj "<lambda>" (X.env.qual++"<lambda>") params body scope cl ((X.mg "__name__").getD .none) c' ctv).isFreed=false:=rfl
  generalize hobj:PySem.W.kla_obj "<lambda>" (X.env.qual++"<lambda>") params body scope cl ((X.mg "__name__").getD .none) c' ctv=ob at *
  generalize hps:ps++#[R9 pos.line,R9 pos.col,.ref c']=ps' at *
  have hps2:ps'.toList=ps.toList++[R9 pos.line,R9 pos.col,.ref c']:=by rw[<- hps];simp
  generalize hH1:upd (upd (upd H P (.tbl ps')) c' (aU3 c' (X.env.qual++"<lambda>"))) h'.objs.size (bl8 h'.objs.size ob)=H1
  have v1:H1 h'.objs.size=some (bl8 h'.objs.size ob):=by rw[<- hH1];exact b9
  have v2:H1 c'=some (aU3 c' (X.env.qual++"<lambda>")):=by rw[<- hH1,n4 fc];exact b9
  have v3:H1 P=some (.tbl ps'):=by rw[<- hH1,n4 fP,n4 cP];exact b9
  have v4:∀ b,b≠P->b≠c'->b≠h'.objs.size->H1 b=H b:=fun b n1 n2 n3=>by rw[<- hH1,n4 n3,n4 n2,n4 n1]
  have v5:∀ b u,b≠P->H b=some u->H1 b=some u:=fun b u n e=>by rw[v4 b n (u6 e hcn) (u6 e hfn)];exact e
  have k1:∀ b o,b≠P->s.heap.get? b=some o->(h'.push ob).get? b=some o:=fun b o n e=>a6 _ (hx b o n e)
  have neP:∀ b,H b=none->b≠P:=fun b n z=>by rw[z,hP]at n;cases n
  have hPn:(h'.push ob).get? P=some (PySem.W.tabObj ps'):=a6 _ htb
  have un:Un X.fs [] H H1 s.heap (h'.push ob):=by
   refine⟨fun b o e n _ _=>k1 b o (neP b n) e,fun b o e n _ _=>⟨o.slots,k1 b o (neP b n) e⟩,fun b o e n _=>?_,fun b o e _=>?_,fun b xs e=>v5 b _ (fun z=>by rw[z,hP]at e;cases e) e,fun b o u e=>v5 b _ (fun z=>by rw[z,hP]at e;cases e) e,fun b qs e=>?_⟩
   ·rw[v4 b (neP b n) (j0 (o8 (c9 e) hge)) (j0 (o8 (c9 e) hsz))]
    exact n
   ·by_cases hb:b=P
    ·rw[hb];exact⟨_,hPn⟩
    ·exact⟨o,k1 b o hb e⟩
   ·by_cases hb:b=P
    ·rw[hb,hP]at e
     cases e
     rw[hb]
     exact⟨#[R9 pos.line,R9 pos.col,.ref c'],by rw[v3,<- hps]⟩
    ·exact⟨#[],by rw[v5 b _ hb e];simp⟩
  have hok:HOk X.prog X.w H1 (h'.push ob):=by
   intro b u e
   by_cases hb1:b=h'.objs.size
   ·subst hb1
    rw[v1]at e
    cases e
    exact⟨d5 _ hfr,⟨_,d5 _ hfr⟩,fun h1 h2 q z=>z _ q⟩
   ·by_cases hb2:b=c'
    ·subst hb2
     rw[v2]at e
     cases e
     obtain⟨c2,oc,vs,tq,e1,e2,e3,e4⟩:=hrec
     cases e1
     exact⟨⟨_,oc,vs,tq,rfl,a6 _ e2,e3,e4⟩,⟨oc,a6 _ e2⟩,fun h1 h2 ⟨c3,o3,vs3,t3,q1,q2,q3,q4⟩ z=>by cases q1;exact⟨_,o3,vs3,t3,rfl,z _ q2,q3,q4⟩⟩
    ·by_cases hb3:b=P
     ·subst hb3
      rw[v3]at e
      cases e
      exact hPn
     ·rw[v4 b hb3 hb2 hb1]at e
      refine(I.hok b u e).stay (fun d v hd z=>k1 d v ?_ z) (fun d z=>v5 _ _ ?_ z) fun d xs z=>v5 _ _ ?_ z
      ·rcases hd with hd | hd
       ·rw[hd];exact hb3
       ·intro zz;rw[zz,hP]at hd;cases hd
      ·intro zz;rw[zz,hP]at z;cases z
      ·intro zz;rw[zz,hP]at z;cases z
  have I1:Inv X pins σ H1 { s with heap:=h'.push ob,toks:=tk }:=I.un un hok
  refine⟨.ref h'.objs.size,H1,I1,rfl,q _ c' ctv H1 (fun b o n e=>v5 b o n e) ⟨ps',v3,?_,.inr ⟨c',?_,v2⟩⟩ hfn ?_ v2⟩
  ·rw[hps2];exact TriplesOk_snoc _ _ _ _ ht
  ·rw[hps2];exact bl7 ht hnf
  ·rw[hobj];exact v1
 ·refine PySem.W.kla_makeFunctionHit hcl I.ok.glob (I.mod.glob.keeps I.bk) hcode C hPh ht hf hb fun ctv h' tk hk hsz=>?_
  have hfn:H h'.objs.size=none:=I.hok.fresh hsz
  have hfr:(PySem.W.kla_obj "<lambda>" (X.env.qual++"<lambda>") params body scope cl ((X.mg "__name__").getD .none) c' ctv).isFreed=false:=rfl
  generalize hobj:PySem.W.kla_obj "<lambda>" (X.env.qual++"<lambda>") params body scope cl ((X.mg "__name__").getD .none) c' ctv=ob at *
  have I1:Inv X pins σ (upd H h'.objs.size (bl8 h'.objs.size ob)) { s with heap:=h'.push ob,toks:=tk }:=I.laid (fun b o e=>a6 _ (hk b o e)) hsz ⟨d5 _ hfr,⟨_,d5 _ hfr⟩,fun h1 h2 q z=>z _ q⟩
  have sm:A0 H (upd H h'.objs.size (bl8 h'.objs.size ob)):=fun b o e=>by rw[n4 (u6 e hfn)];exact e
  refine⟨.ref h'.objs.size,_,by rw[<- hobj]at I1;rw[<- hobj];exact I1,rfl,q _ c' ctv _ (sm.grow P) (L4.same ⟨ps,hP,ht,.inr ⟨c',hf,hc'⟩⟩ sm) hfn (by rw[hobj];exact b9) (sm _ _ hc')⟩
def bU6 (ta:TA):TE:=fun σ H Q=>ta σ H fun vs H1=>∃ n:Nat,vs=[.int n]/\n<=1000/\∀ r,H1 r=none->Q (.ref r) (upd H1 r (.rng 0 n))
def bK8 (P:Addr)(lpos:Pos)(qual:Str)(lk:List (Option Nat))(te:TE)(tr:TA):TE:=fun σ H Q=>tr σ H fun vs H1=>∃ (r:Addr) (n:Nat) (key:Int->List Int),vs=[.ref r]/\H1 r=some (.rng 0 n)/\n<=1000/\(∀ z,∃ i k,key z=i::k)/\L4 P lpos qual H1 /\
 ∀ H2,O0 P H1 H2->L4 P lpos qual H2->(∀ (H3:Hp) (z:Nat),A0 H2 H3->z<n->te (some (.int z)::X6 lk σ) H3 fun v H4=>∃ k,v=.ref k/\H4 k=some (.tup ((key z).map V.int))/\A0 H3 H4) /\
  ∀ (H':Hp) (D:Addr) (zs:List Int),A0 H2 H'->H' D=none->zs.Perm ((ad8 0 n).map fun k:Nat=>(k:Int))->zs.Pairwise (fun x y=>Tim.K9 (key y) (key x)=false)->Q (.ref D) (upd H' D (.lst (zs.map V.int)))
theorem bA8 {a:Expr}{ta:TA}{p:Pos}(hg:Gl X "range")(hm:X.mg "range"=none)(ha:PA X [a] ta)(hs:x8 [a] X.env=[(false,eval a X.env)]:=by rfl):PE X (.Call (.Name "range" p) [a] [] pos) (bU6 ta):=by
 intro pins s σ H Q I h
 refine Call_ (ah8 I hg hm boot_range (PyProof.Rows.callWith_type1 (thn (ha pos pins s σ H _ I h) fun us s1 ⟨vs,H1,I1,r1,q1⟩=>?_) hs rfl))
 obtain⟨n,e,hn,q⟩:=q1
 subst e
 cases r1 with
 | cons r rr =>
  cases rr
  obtain⟨t,rfl⟩:=r
  refine call_range_1 ?_
  have hf:H1 s1.heap.objs.size=none:=I1.hok.fresh (c5 _)
  exact⟨.ref s1.heap.objs.size,upd H1 s1.heap.objs.size (.rng 0 n),I1.laid (fun b o e=>a6 _ e) (c5 _) ⟨_,_,_,d5 _ rfl⟩,rfl,q _ hf⟩
theorem br5 {body:Expr}{p:Str}{np lpos kpos:Pos}{c P:Addr}{tr:TA}(hc:X.calm=true)(hd:X.A.depth<aB9)(hg:Gl X "sorted")(hm:X.mg "sorted"=none)(ha:PA X [e] tr)
  (B:aL9 X.base X.mg c P)(hcode:X.env.code=.ref c)(hcl:av9 scope X.env=pure cl)(hdef:defaultsOf params X.env=([],[]))(hkind:scope.kind=.function)(hco:scope.isCoroutine=false)(hgen:scope.isGenerator=false)(hclo:as6 X.env cl)(hfr:au9 scope.names cl=true)(hlk:aG7 X N' lk scope cl)
  (hp:scope.names.lookup p=some .local)(hbind:∀ (pm ctv u:Value) (c':Addr),ba7 (PySem.W.kla_fn "<lambda>" (X.env.qual++"<lambda>") params body scope cl pm (.ref c') ctv) ⟨[u],[]⟩=pure [(p,u)])
  (he:∀ f c' s3 H3,PE (bt3 X X.A.in1.in1 (X.env.qual++"<lambda>") scope cl (p::N') f (.ref c') s3 H3) body te)
  (hs:V7 pos (x8 [e] X.env)=(false,eval e X.env)::V7 pos (x8 [] X.env):=by rfl)
  (hpl:(V7 pos (x8 [e] X.env)).any (·.1)=false:=by rfl) :
  PE X (.Call (.Name "sorted" np) [e] [⟨some "key",.Lambda params body scope lpos,kpos⟩] pos) (bK8 P lpos (X.env.qual++"<lambda>") lk te tr):=by
 intro pins s σ H Q I h
 refine K0 (ah8 I hg hm (show Q5 "sorted"=some (.builtin "sorted") from rfl) ?_ (by decide) (by decide))
 refine callWith_kw (thn (ha pos pins s σ H _ I h) fun us s1 ⟨vs,H1,I1,r1,q1⟩=>?_) hs hpl rfl rfl
 obtain⟨r,n,key,rfl,hr,hn,hne,tb,q⟩:=q1
 have hk:PK X [⟨some "key",.Lambda params body scope lpos,kpos⟩] (bn4 (bV0 P lpos (X.env.qual++"<lambda>") params body scope cl ((X.mg "__name__").getD .none)) bL0):=bA6 (bM9 B hcode hcl hdef) bM8
 refine thn (hk pos pins s1 σ H1 (fun zs H2=>∃ f c' ctv,zs=[.ref f]/\O0 P H1 H2/\L4 P lpos (X.env.qual++"<lambda>") H2/\H2 f=some (bl8 f (PySem.W.kla_obj "<lambda>" (X.env.qual++"<lambda>") params body scope cl ((X.mg "__name__").getD .none) c' ctv))/\H2 c'=some (aU3 c' (X.env.qual++"<lambda>"))) I1
  ⟨tb,fun f c' ctv H2 g1 g2 g3 g4 g5=>⟨f,c',ctv,rfl,g1,g2,g4,g5⟩⟩) fun ws s2 ⟨zs,H2,I2,r2,f,c',ctv,ez,g1,g2,g4,g5⟩=>?_
 subst ez
 obtain⟨w,rfl,rw⟩:=vals1 r2
 obtain⟨u,rfl,ru⟩:=vals1 r1
 cases rw
 cases ru
 obtain⟨wish,fin⟩:=q H2 g1 g2
 have rP:r≠P:=fun z=>by
  obtain⟨ps,hP,_⟩:=tb
  rw[z,hP]at hr
  cases hr
 have hr2:H2 r=some (.rng 0 n):=g1 r _ rP hr
 obtain⟨t1,t2,t3,hro⟩:=I2.hok r _ hr2
 have hh:X.A.handled=none:=I.ok.hd hc
 refine aW6 (n:=n) (key:=key) I2 hh ⟨t1,t2,t3,hro⟩ hn hne (fun z hz=>?_) fun H' s' D zs' a1 a2 a3 a4 I'=>⟨.ref D,_,I',rfl,fin H' D zs' a1 a2 a3 a4⟩
 obtain⟨k,hk',rfl⟩:=o9.mp hz
 have hkn:k<n:=by
  have:=ai5.mp hk'
  omega
 intro t pins' s3 H3 I3 sm
 have ho:s3.heap.get? f=some (PySem.W.kla_obj "<lambda>" (X.env.qual++"<lambda>") params body scope cl ((X.mg "__name__").getD .none) c' ctv):=(I3.hok f _ (sm _ _ g4)).1
 have hcd:s3.heap.CodeRec (.ref c') (X.env.qual++"<lambda>"):=(I3.hok c' _ (sm _ _ g5)).1
 refine C2 (bt2 (A:=X.A.in1.in1) (v:=.int k) (u:=.int k t) I3 I3.ok.frames hh hd ho hcd (hbind _ _ _ _) hkind hco hgen hclo hfr hlk hp ⟨t,rfl⟩ (he f c' s3 H3) (wish H3 k sm hkn)) (fun u' s' hq=>?_) fun _ _ z=>z
 obtain⟨v',H',J,r',kk,rfl,hkk,sm'⟩:=hq
 cases r'
 exact⟨kk,H',rfl,hkk,J,sm'⟩
theorem D5.there {o:HO}(x:D5 P w H h a o):∃ ob,h.get? a=some ob:=by
 cases o with
 | lst xs=>obtain⟨_,_,_,_,e⟩:=x;exact⟨_,e⟩
 | tup xs=>obtain⟨_,_,_,ob,e,_⟩:=x;exact⟨_,e⟩
 | dK kvs=>obtain⟨_,_,_,_,o,_,_,e,_⟩:=x;exact⟨_,e⟩
 | dT kvs=>obtain⟨_,_,_,_,o,_,_,e,_⟩:=x;exact⟨_,e⟩
 | set S n=>obtain⟨o,_,_,_,e,_⟩:=x;exact⟨_,e⟩
 | ins C dx fs=>obtain⟨_,_,_,e,_⟩:=x;exact⟨_,e⟩
 | own y=>obtain⟨ob,e⟩:=x;exact⟨ob,e⟩
 | xd fs=>obtain⟨_,⟨_,_,_,e,_⟩,_⟩:=x;exact⟨_,e⟩
 | rng lo hi=>obtain⟨_,_,_,e⟩:=x;exact⟨_,e⟩
 | frz ob u=>obtain⟨e,_⟩:=x;exact⟨_,e⟩
 | tbl ps=>exact⟨_,(show h.get? a=some _ from x)⟩
 | met f y=>exact⟨_,(show h.get? a=some _ from x)⟩
 | ext φ=>obtain⟨_,⟨ob,e⟩,_⟩:=x;exact⟨ob,e⟩
theorem HOk.stays (ok:HOk P w H h) (k:∀ b o,h.get? b=some o->H b≠none->h'.get? b=some o):HOk P w H h':=fun a o e =>
 (ok a o e).stay (fun b u hb q => k b u q (by
  rcases hb with z | z
  ·rw[z,e];simp
  ·rw[z];simp)) (fun _ q=>q) fun _ _ q=>q
def bZ3 (outer:List Env)(x:Addr)(cls:Value)(h0:Heap)(H':Hp)(h':Heap):Prop:=
 ∃ (B:Heap) (a0:Value),Heap.FlyingW B outer x cls a0 h'/\∀ b o,h'.get? b=some o->(H' b≠none\/h0.get? b≠none)->b∉frs outer->B.get? b=some o
def CXE (P:Program)(w:World):CXT:=fun outer H s E e s' =>
 ∃ (x:Addr) (cls:Value) (H':Hp),e=.ref x/\s'.os=s.os/\at6 s'.gens/\Un (frs outer) [] H H' s.heap s'.heap/\HOk P w H' s'.heap/\s.heap.get? x=none/\H' x=none/\bZ3 outer x cls s.heap H' s'.heap/\E cls none H'
theorem Un.onto {fs:List Addr}{h'':Heap}(u:Un fs [] H H' h h')(stay:∀ b o,h'.get? b=some o->h.get? b≠none->b∉fs->h''.get? b=some o)
  (slots:∀ b o,h'.get? b=some o->h.get? b≠none->b∈fs->∃ sl,h''.get? b=some { o with slots:=sl }):Un fs [] H H' h h'' where
 keep:=fun b o e n hb hx=>stay b o (u.keep b o e n hb hx) (by rw[e];simp) hb
 slot:=fun b o e n hb hx=>by
  obtain⟨sl,e1⟩:=u.slot b o e n hb hx
  obtain⟨sl2,e2⟩:=slots b _ e1 (by rw[e];simp) hb
  exact⟨sl2,e2⟩
 free:=u.free
 there:=fun b o e hx=>by
  obtain⟨o',e1⟩:=u.there b o e hx
  by_cases hb:b∈fs
  ·obtain⟨sl,e2⟩:=slots b o' e1 (by rw[e];simp) hb
   exact⟨_,e2⟩
  ·exact⟨o',stay b o' e1 (by rw[e];simp) hb⟩
 tups:=u.tups
 frzs:=u.frzs
 tbls:=u.tbls
theorem W0 {α:Type}{o:Option α}(h:o≠none):∃ x,o=some x:=by
 cases o with
 | none=>exact absurd rfl h
 | some x=>exact⟨x,rfl⟩
theorem aS9 {env:Env}{L:Addr}(h:env.frame=some L):frs (env::outer)=L::frs outer:=by
 unfold frs
 rw[ad7,h]
section
variable {K:W.Frag} {mg:Str->Option Value} {base:Heap} {cd:Value} {E:XK} {H1:Hp} {s1:Shared}
theorem by3 {e:Addr}{cls:Value}{h2:Heap}(I:Inv (ap1 (CXE P w) P w K mg base N qual scope f cd A outer s H E) pins σ H1 s1)(hx:Heap.MadeExcOf s1.heap h2 e cls vs)(hE:E cls none H1) :
  (ap1 (CXE P w) P w K mg base N qual scope f cd A outer s H E).xe (.ref e) { s1 with heap:=h2 }:=by
 have hst:=I.stack
 have hfr:=I.ok.frames
 have hlt:=I.lt
 have hL:=I.free
 have hab:=I.ok.above
 have hbs:Un (frs outer) [] H H1 s.heap s1.heap:=I.base
 change s1.heap.FunFrames base (M8 qual scope s.heap.objs.size f cd::outer) at hst
 change (A.deeper (M8 qual scope s.heap.objs.size f cd)).frames=some (M8 qual scope s.heap.objs.size f cd::outer) at hfr
 change H1 s.heap.objs.size=none at hL
 have hff:frs (M8 qual scope s.heap.objs.size f cd::outer)=s.heap.objs.size::frs outer:=aS9 rfl
 have hin:∀ env∈(M8 qual scope s.heap.objs.size f cd::outer),∀ b,env.frame=some b->b∈frs (M8 qual scope s.heap.objs.size f cd::outer):=fun env he b hb=>af5.mpr ⟨env,he,hb⟩
 have old:∀ b,(H1 b≠none\/s.heap.get? b≠none)->b∉frs outer->∃ o,s1.heap.get? b=some o/\b∉frs (M8 qual scope s.heap.objs.size f cd::outer):=fun b hb hno=>by
  have hne:b≠s.heap.objs.size:=by
   rcases hb with z | z
   ·intro q;rw[q]at z;exact z hL
   ·obtain⟨o,z⟩:=W0 z
    exact j0 (c9 z)
  have hex:∃ o,s1.heap.get? b=some o:=by
   rcases hb with z | z
   ·obtain⟨o,z⟩:=W0 z
    exact(I.hok b o z).there
   ·obtain⟨o,z⟩:=W0 z
    exact hbs.there b o z (by simp)
  obtain⟨o,ho⟩:=hex
  refine⟨o,ho,?_⟩
  rw[hff]
  intro hm
  rcases c8.mp hm with q | q
  ·exact hne q
  ·exact hno q
 have eNew:s.heap.get? e=none:=by
  cases q:s.heap.get? e with
  | none=>rfl
  | some o =>
   obtain⟨o',z⟩:=hbs.there e o q (by simp)
   rw[hx.new]at z
   cases z
 have eFree:H1 e=none:=by
  cases q:H1 e with
  | none=>rfl
  | some o =>
   obtain⟨o',z⟩:=(I.hok e o q).there
   rw[hx.new]at z
   cases z
 refine wpAny_leaves_madeW (base:=PySem.W.hideAll s1.heap (frs (M8 qual scope s.heap.objs.size f cd::outer))) hfr rfl (fun b o q=>PySem.W.of_hideAll _ q) (PySem.W.funFrames_hide hst hin) hx fun h' t x1 x2 x3 x4=>?_
 have stay:∀ b o,s1.heap.get? b=some o->(H1 b≠none\/s.heap.get? b≠none)->b∉frs outer->h'.get? b=some o:=fun b o ho hb hno=>by
  obtain⟨o',ho',hm⟩:=old b hb hno
  rw[ho]at ho'
  cases ho'
  exact x1.1 b o (PySem.W.hideAll_get _ ho hm)
 have frNone:∀ b∈frs outer,H1 b=none:=fun b hb=>I.stkFree b (by
  show b∈frs (M8 qual scope s.heap.objs.size f cd::outer)
  rw[hff]
  exact d3 _ hb)
 refine⟨e,cls,H1,rfl,I.os,I.bare,hbs.onto (fun b o ho hh hno=>stay b o ho (.inr hh) hno) (fun b o ho hh hm=>?_),I.hok.stays fun b o ho hh=>stay b o ho (.inl hh) fun hm=>hh (frNone b hm),eNew,eFree,⟨_,_,x1,fun b o ho hb hno=>?_⟩,hE⟩
 ·obtain⟨_,o',ho',hd⟩:=hst.mem (b:=b) (by
   show b∈frs (M8 qual scope s.heap.objs.size f cd::outer)
   rw[hff]
   exact d3 _ hm)
  rw[ho]at ho'
  cases ho'
  exact x4 b o (hx.keeps b o ho) hd
 ·obtain⟨o',ho',hm⟩:=old b hb hno
  have:=stay b o' ho' hb hno
  rw[ho]at this
  cases this
  exact PySem.W.hideAll_get _ ho' hm
theorem bX3:am9 (CXE P w) (ap1 (CXE P w) P w K mg base N qual scope f cd A outer s H E) E:=by
 intro pins σ H1 s1 e s2 I hc
 obtain⟨x,cls,H2,rfl,hos,hb2,u,hok,new,hxn,⟨B,a0,fl,st⟩,hE⟩:=hc
 have hst:=I.stack
 have hfr:=I.ok.frames
 have hL:=I.free
 have hbs:Un (frs outer) [] H H1 s.heap s1.heap:=I.base
 change s1.heap.FunFrames base (M8 qual scope s.heap.objs.size f cd::outer) at hst
 change (A.deeper (M8 qual scope s.heap.objs.size f cd)).frames=some (M8 qual scope s.heap.objs.size f cd::outer) at hfr
 change H1 s.heap.objs.size=none at hL
 change Un (frs (M8 qual scope s.heap.objs.size f cd::outer)) [] H1 H2 s1.heap s2.heap at u
 change Heap.FlyingW B (M8 qual scope s.heap.objs.size f cd::outer) x cls a0 s2.heap at fl
 have hff:frs (M8 qual scope s.heap.objs.size f cd::outer)=s.heap.objs.size::frs outer:=aS9 rfl
 have st':∀ b o,s2.heap.get? b=some o->(H2 b≠none\/s1.heap.get? b≠none)->b∉frs (M8 qual scope s.heap.objs.size f cd::outer)->B.get? b=some o:=st
 rw[hff]at u st'
 have hLo:∃ o,s1.heap.get? s.heap.objs.size=some o:=by
  obtain⟨m,⟨o,_,_,ho,_⟩,_⟩:=I.loc
  exact⟨o,ho⟩
 have hL2:H2 s.heap.objs.size=none:=by
  obtain⟨o,ho⟩:=hLo
  exact u.free _ o ho hL (by simp)
 have old:∀ b,(H2 b≠none\/s.heap.get? b≠none)->b∉frs outer->∃ o,s2.heap.get? b=some o/\B.get? b=some o:=fun b hb hno=>by
  have hne:b≠s.heap.objs.size:=by
   rcases hb with z | z
   ·intro q;rw[q]at z;exact z hL2
   ·obtain⟨o,z⟩:=W0 z
    exact j0 (c9 z)
  have hm:b∉s.heap.objs.size::frs outer:=fun hm=>by
   rcases c8.mp hm with q | q
   ·exact hne q
   ·exact hno q
  rcases hb with z | z
  ·obtain⟨o,z'⟩:=W0 z
   obtain⟨o',ho⟩:=(hok b o z').there
   exact⟨o',ho,st' b o' ho (.inl z) hm⟩
  ·obtain⟨o,z⟩:=W0 z
   obtain⟨o1,h1⟩:=hbs.there b o z (by simp)
   obtain⟨o2,h2⟩:=u.there b o1 h1 (by simp)
   exact⟨o2,h2,st' b o2 h2 (.inr (by rw[h1];simp)) hm⟩
 have u2:Un (frs outer) [] H H2 s.heap s2.heap:=by
  refine⟨fun b o e n hb hx=>?_,fun b o e n hb hx=>?_,fun b o e n hx=>?_,fun b o e hx=>?_,fun b xs e=>u.tups b xs (hbs.tups b xs e),fun b o v e=>u.frzs b o v (hbs.frzs b o v e),fun b ps e=>?_⟩
  ·refine u.keep b o (hbs.keep b o e n hb hx) (hbs.free b o e n hx) (fun hm=>?_) hx
   rcases c8.mp hm with q | q
   ·exact j0 (c9 e) q
   ·exact hb q
  ·obtain⟨sl,e1⟩:=hbs.slot b o e n hb hx
   obtain⟨sl2,e2⟩:=u.slot b _ e1 (hbs.free b o e n hx) (d3 _ hb) hx
   exact⟨sl2,e2⟩
  ·obtain⟨o',e1⟩:=hbs.there b o e hx
   exact u.free b o' e1 (hbs.free b o e n hx) hx
  ·obtain⟨o',e1⟩:=hbs.there b o e hx
   exact u.there b o' e1 hx
  ·obtain⟨m1,e1⟩:=hbs.tbls b ps e
   obtain⟨m2,e2⟩:=u.tbls b _ e1
   exact⟨m1++m2,by rw[e2,bF4]⟩
 have frNone:∀ b∈frs outer,H2 b=none:=fun b hb=>by
  have h1:=I.stkFree b (by
   show b∈frs (M8 qual scope s.heap.objs.size f cd::outer)
   rw[hff]
   exact d3 _ hb)
  obtain⟨_,o,ho,_⟩:=hst.mem (b:=b) (by
   show b∈frs (M8 qual scope s.heap.objs.size f cd::outer)
   rw[hff]
   exact d3 _ hb)
  exact u.free b o ho h1 (by simp)
 refine wpAny_leaves_onW hfr rfl fl fun h' x1 x2=>?_
 have stay:∀ b o,s2.heap.get? b=some o->(H2 b≠none\/s.heap.get? b≠none)->b∉frs outer->h'.get? b=some o:=fun b o ho hb hno=>by
  obtain⟨o',ho',hB⟩:=old b hb hno
  rw[ho]at ho'
  cases ho'
  exact x1.1 b o hB
 refine⟨x,cls,H2,rfl,hos.trans I.os,hb2,u2.onto (fun b o ho hh hno=>stay b o ho (.inr hh) hno) (fun b o ho hh hm=>?_),hok.stays fun b o ho hh=>stay b o ho (.inl hh) fun hm=>hh (frNone b hm),?_,hxn,⟨B,a0,x1,fun b o ho hb hno=>?_⟩,hE⟩
 ·obtain⟨_,o',ho',hd⟩:=fl.2.2.1.mem (b:=b) (by
   show b∈frs (M8 qual scope s.heap.objs.size f cd::outer)
   rw[hff]
   exact d3 _ hm)
  rw[ho]at ho'
  cases ho'
  exact x2 b o ho hd
 ·cases q:s.heap.get? x with
  | none=>rfl
  | some o =>
   obtain⟨o',z⟩:=hbs.there x o q (by simp)
   rw[new]at z
   cases z
 ·obtain⟨o',ho',hB⟩:=old b hb hno
  have:=stay b o' ho' hb hno
  rw[ho]at this
  cases this
  exact hB
end
theorem Fun.okX {K:W.Frag} {mg:Str->Option Value} {base:Heap} {st:Stmt} {ps:List Str} {k:Nat} {sp:Sp} (F:Fun K x qual st f fd) (S:A1 N ps (p5 st))
  (hbody : ∀ (cdv : Value) (A : Around) (outer : List Env) (s : Shared) (H : Hp) (vs : List V) (Q : VK) (E : XK), Y4 k (A.deeper (M8 qual (p5 st) s.heap.objs.size f cdv)) -> sp vs H Q E ->
   ∃ t,PSs (ap1 (CXE P w) P w K mg base N qual (p5 st) f cdv A outer s H E) (X3 st) t/\t { nx:=fun _ H'=>Q .non H',rt:=Q } (start N vs) H) (len:∀ vs H Q E,sp vs H Q E->vs.length=ps.length:=by intro _ _ _ _ h;repeat first | (obtain⟨rfl,_⟩:=h;rfl) | obtain⟨_,h⟩:=h):A2 P w K mg base (CXE P w) (k+1) f fd ps sp:=by
 obtain⟨oc,od,kV,doc,pm,an,cdv,ct,osl,rfl,lk,hcd⟩:=F.ex
 exact bu9 lk hcd S len fun A outer s H vs Q E hr hsp=>hbody cdv A outer s H vs Q E hr hsp
structure aM3 (K:W.Frag) (C:Addr):Prop where
 q:PySem.W.excIn K C [.type "ValueError",.type "Exception",.type "BaseException",.type "object"] "ValueError.__new__"=true
abbrev bmV:List Value:=[.type "ValueError",.type "Exception",.type "BaseException",.type "object"]
theorem bQ5 {K:W.Frag}(KI:K.In h)(c:aM3 K C):∃ bm N nm q bs hd sn sub ab col dd k0 k1 k2 k3 k5 mN,h.get? C=some (excClassObj nm q C N bs bm hd sn sub ab col dd k0 k1 k2 k3 k5 "ValueError.__new__") /\
  h.Ns N mN/\mN "__init__"=none/\OwnTail h bmV bm:=by
 have z:=c.q
 revert z
 unfold PySem.W.excIn
 split
 ·rename_i d1 c1 s1 hl
  split
  ·rename_i D bm y0 y1 y2 y3 nn y5 e1 e2
   intro z
   rw[v7,v7,v7,v7,v7]at z
   obtain⟨⟨⟨⟨⟨z1,z2⟩,z3⟩,z4⟩,z5⟩,z6⟩:=z
   have z1':D=C:=beq_iff_eq.mp z1
   have z2':nn="ValueError.__new__":=beq_iff_eq.mp z2
   have z6':=beq_iff_eq.mp z6
   subst z1' z2'
   obtain⟨w1,w2,w3,w4,w5,w6,w7,w8,w9,w10,w11⟩:=c1
   dsimp only at e1 z3 z5 z6'
   subst e1
   have z3':w11=false:=by simpa using z3
   subst z3'
   have e3:s1=#[y0,y1,y2,y3,some (.builtin "ValueError.__new__"),y5]:=by
    obtain⟨l1⟩:=s1
    exact congrArg Array.mk e2
   subst e3
   exact⟨bm,w4,w1,w5,w2,w6,w7,w8,w9,w10,d1,y0,y1,y2,y3,y5,_,KI _ _ hl,.of_isNs (PySem.W.isNs_of_in KI z5),PySem.W.nsMap_none_of_in KI z5 z6',PySem.W.tail_of_in KI z4⟩
  ·intro z;cases z
 ·intro z;cases z
section
variable {K:W.Frag} {mg:Str->Option Value} {base:Heap} {cd:Value} {E:XK}
def bK9 (E:XK)(C:Addr):TS:=fun _ _ H=>E (.ref C) none H
theorem az4 {txt:Str}{np cp ep:Pos}(hg:Gl (ap1 (CXE P w) P w K mg base N qual scope f cd A outer s H E) x)(hm:mg x=some (.ref C))(c:aM3 K C)(hd:(x == ("__debug__":Str))=false:=by decide) :
  PS (ap1 (CXE P w) P w K mg base N qual scope f cd A outer s H E) (.Raise (some (.Call (.Name x np) [.Constant (.str txt) j cp] [] ep)) none pos) (bK9 E C):=by
 intro pins s1 σ H1 D I hE
 have hh:(ap1 (CXE P w) P w K mg base N qual scope f cd A outer s H E).A.handled=none:=I.ok.hd rfl
 obtain⟨bm,N',nm,q,bs,hdc,sn,sub,ab,col,dd,k0,k1,k2,k3,k5,mN,hC,hN,hni,T⟩:=bQ5 I.kIn c
 refine wpAny_Raise_call_subT (C:=C) (nm:=nm) (q:=q) (N:=N') (bs:=bs) (bm:=bm) (hdct:=hdc) (sn:=sn) (sub:=sub) (ab:=ab) (col:=col) (dd:=dd) (k0:=k0) (k1:=k1) (k2:=k2) (k3:=k3) (k5:=k5)
  PySem.F.excBase_ValueError (mN:=mN) (T.hasType (by decide +kernel)) hh rfl hni (ao5 I hg hm ⟨rfl,?_⟩ hd)
 refine Calls.evalArgs_plain ?_
 refine PyProof.Rows.spliced_more (Calls.Constant_str ?_)
 refine PyProof.Rows.spliced_none ⟨rfl,by show 1<=i7;decide,hC,hN,T,fun h' e hx=>?_⟩
 exact by3 (I.tok _) hx hE
end
def bb4 (X:Cx)(pins:List (Addr × Obj))(E:St->XK):Cx:={ X with pn:=X.pn++pins,xe:=fun e s'=>∃ σ H s,Inv X pins σ H s/\CXE X.prog X.w X.stack H s (E σ) e s' }
def bQ2 (X:Cx)(v:Value):Cx:={ X with A:=X.A.mark (some v),calm:=false,xe:=fun _ _=>False }
section
variable {pins':List (Addr × Obj)} {E:St->XK}
theorem Inv.toTry (I:Inv X pins σ H s):Inv (bb4 X pins E) [] σ H s:=
  ⟨⟨I.ok.mod, I.ok.kind, I.ok.glob, I.ok.blt, I.ok.above, I.ok.inj, I.ok.has, I.ok.cab, I.ok.hd, I.ok.frames, I.ok.stk, I.ok.exf, I.ok.bs, I.ok.bsz, I.ok.noex, I.ok.exfs, I.ok.funs, I.ok.frf⟩,
    I.os,I.bare,I.base,I.loc,I.cell,I.free,I.freeC,fun p hp=>I.pin p (by
      rcases n8.mp hp with z | z
      · exact z
      · cases z),I.hok,I.len⟩
theorem Inv.ofTry (I:Inv (bb4 X pins E) pins' σ H s):Inv X pins σ H s:=
  ⟨⟨I.ok.mod, I.ok.kind, I.ok.glob, I.ok.blt, I.ok.above, I.ok.inj, I.ok.has, I.ok.cab, I.ok.hd, I.ok.frames, I.ok.stk, I.ok.exf, I.ok.bs, I.ok.bsz, I.ok.noex, I.ok.exfs, I.ok.funs, I.ok.frf⟩,
    I.os,I.bare,I.base,I.loc,I.cell,I.free,I.freeC,fun p hp=>I.pin p (A9 _ hp),I.hok,I.len⟩
theorem Inv.toHd (I:Inv X pins σ H s) (v:Value):Inv (bQ2 X v) pins σ H s:=
  ⟨⟨I.ok.mod, I.ok.kind, I.ok.glob, I.ok.blt, I.ok.above, I.ok.inj, I.ok.has, I.ok.cab, (fun z => by cases z), I.ok.frames, I.ok.stk, I.ok.exf, I.ok.bs, I.ok.bsz, I.ok.noex, I.ok.exfs, I.ok.funs, I.ok.frf⟩,
    I.os,I.bare,I.base,I.loc,I.cell,I.free,I.freeC,I.pin,I.hok,I.len⟩
theorem Inv.ofHd (I:Inv (bQ2 X v) pins σ H s) (hd:X.calm=true->X.A.handled=none):Inv X pins σ H s:=
  ⟨⟨I.ok.mod, I.ok.kind, I.ok.glob, I.ok.blt, I.ok.above, I.ok.inj, I.ok.has, I.ok.cab, hd, I.ok.frames, I.ok.stk, I.ok.exf, I.ok.bs, I.ok.bsz, I.ok.noex, I.ok.exfs, I.ok.funs, I.ok.frf⟩,
    I.os,I.bare,I.base,I.loc,I.cell,I.free,I.freeC,I.pin,I.hok,I.len⟩
end
def bg4 (CX:CXT)(X:Cx)(E:St->XK):Prop:=∀ (pins:List (Addr × Obj)) (σ:St) (H:Hp) (s:Shared) (e:Value) (s':Shared),Inv X pins σ H s->CX X.stack H s (E σ) e s'->X.xe e s'
theorem bB1 {E:St->XK}:bg4 (CXE X.prog X.w) (bb4 X pins E) E:=fun _ σ H s _ _ I h=>⟨σ,H,s,I.ofTry,h⟩
def bL4 (sp:Sp)(E:St->XK)(t:TA):TE:=fun σ H Q=>t σ H fun vs H1=>sp (vs++[]) H1 Q (E σ)
section
variable {CX:CXT} {k:Nat} {ps:List Str} {sp:Sp} {E:St->XK} {p:Pos} {es:List Expr} {t:TA}
theorem bs0 (F:A2 X.prog X.w X.K X.mg X.base CX k f fd ps sp)(hr:Y4 k X.A)(hg:Gl X x)(hm:X.mg x=some (.ref f))(hk:S8 X.K (.ref f)=true)(hb:Binds X.K fd ps [])(hx:bg4 CX X E)
  (ha:PA X (e::es) t)(hdb:(x == ("__debug__":Str))=false:=by decide)(he:x8 (e::es) X.env=(false,eval e X.env)::x8 es X.env:=by rfl)(hpl:(V7 pos (x8 es X.env)).any (·.1)=false:=by rfl) :
  PE X (.Call (.Name x p) (e::es) [] pos) (bL4 sp E t):=by
 intro pins s σ H Q I h
 refine K0 (ao5 I hg hm ?_ hdb)
 refine PySem.W.callWith_K (h₀:=X.base) I.ok.mod.kin hk (thn (ha pos pins s σ H _ I h) fun us s1 ⟨vs,H1,I1,r,q⟩=>⟨I1.kIn,?_⟩) he hpl
 have r2:B6 (vs++[]) (us++[]):=r.append .nil
 have hl:(us++[]).length=ps.length:=by rw[<- r2.length];exact F.len _ _ _ _ q
 refine av5 (Q6 (F.run X.A X.stack s1 H1 ⟨us,[]⟩ (us++[]) (vs++[]) Q (E σ) hr I1.env0 (hb s1 us I1.kIn hl) r2 q) fun r s' hq=>?_)
 cases r with
 | error e=>exact hx pins σ H1 s1 e s' I1 hq
 | ok fl =>
  cases fl with
  | ret u=>exact I1.after hq
  | next=>exact False.elim hq
  | brk=>exact False.elim hq
  | cont=>exact False.elim hq
end
def XO (x:Addr)(cls:Value):HO:=.ext fun h=>∃ o vs,h.get? x=some o/\o.cls=cls/\o.data=.fields vs
theorem XO.ok {x:Addr}{cls:Value}(e:∃ o vs,h.get? x=some o/\o.cls=cls/\o.data=.fields vs):D5 P w H h x (XO x cls):=
 ⟨e,let ⟨o,_,h1,_⟩:=e;⟨o,h1⟩,fun _ _ ⟨o,vs,h1,h2,h3⟩ k=>⟨o,vs,k o h1,h2,h3⟩⟩
theorem aj0 {n:Str}{Q:Unit->Shared->Prop}(I:Inv X pins σ H s)(hN:X.N.Nodup)(hi:X.N[i]?=some n)(hk:X.env.scope.names.lookup n=some .local)
  (h:∀ s',Inv X pins (σ.set i none) H s'->Q () s'):k9 M A (do bindName X.env n .none;unbindBehindTheSuite X.env n pos) Q E s:=by
 obtain⟨m,hn,hl⟩:=id I.loc
 have hcls:(X.env.scope.kind == .class || (X.env.scope.kind == .module && X.env.locals != X.env.globals))=false:=by rw[I.ok.kind];rfl
 refine wpAny_nameGoes_keeps hk hn hcls fun h' v hn' hs=>h _ ?_
 obtain⟨oL,_,_,hoL,_⟩:=id hn
 have ne:∀ b o,X.s₀.heap.get? b=some o->b≠X.env.locals:=fun b o e=>j0 (o8 (c9 e) I.ok.above)
 refine⟨I.ok,I.os,I.bare,⟨fun b o e n hb hx=>(hs.2 b (ne b o e)).trans (I.base.keep b o e n hb hx),fun b o e n hb hx=>?_,I.base.free,fun b o e hx=>?_,I.base.tups,I.base.frzs,I.base.tbls⟩,⟨_,hn',fun j y v' e1 e2 e3=>?_⟩,fun y c e=>?_,I.free,I.freeC,fun p hp=>?_,I.hok.stays fun b o e hb=>(hs.2 b fun z=>hb (by rw[z];exact I.free)).trans e,by simpa using I.len⟩
 ·obtain⟨sl,e1⟩:=I.base.slot b o e n hb hx
  exact⟨sl,(hs.2 b (ne b o e)).trans e1⟩
 ·obtain⟨o',e1⟩:=I.base.there b o e hx
  exact⟨o',(hs.2 b (ne b o e)).trans e1⟩
 ·by_cases hj:j=i
  ·subst hj
   have hlt:j<σ.length:=by rw[I.len];exact(a9.mp hi).1
   rw[an0 hlt]at e2
   cases e2
  ·rw[T7 (Ne.symm hj)]at e2
   obtain⟨u',r',q⟩:=hl j y v' e1 e2 e3
   refine⟨u',r',?_⟩
   rcases q with⟨k,e⟩ | ⟨k,c,e,z⟩
   ·refine .inl ⟨k,?_⟩
    have hyn:y≠n:=fun e=>hj (aA2 hN e1 (e ▸ hi))
    simp[hyn,e]
   ·exact .inr ⟨k,c,e,z.sameBut hs (I.cne y c e)⟩
 ·obtain⟨w',z⟩:=I.cell y c e
  exact⟨w',z.sameBut hs (I.cne y c e)⟩
 ·obtain⟨e,nn,ne',nf,d⟩:=I.pin p hp
  exact⟨(hs.2 p.1 ne').trans e,nn,ne',nf,d⟩
def bZ9 (K:W.Frag)(CT:Addr)(i:Nat)(tb:(St->XK)->TS)(th:TS):TS:=fun D σ H=>∃ E:St->XK,tb E D σ H/\∀ σ' cls H',E σ' cls none H'->PySem.W.exmOne K cls (.ref CT)=some true/\∀ x,H' x=none ->
 th { nx:=fun σ2 H2=>D.nx (σ2.set i none) H2,rt:=D.rt,bk:=fun σ2 H2=>D.bk (σ2.set i none) H2,ct:=fun σ2 H2=>D.ct (σ2.set i none) H2 } (σ'.set i (some (.ref x))) (upd H' x (XO x cls))
theorem bM7 {body suite:List Stmt}{b0:Stmt}{tn n:Str}{np hpos:Pos}{CT:Addr}{tb:(St->XK)->TS}{th:TS}(hN:X.N.Nodup)(hi:X.N[i]?=some n)(hk:X.env.scope.names.lookup n=some .local)
  (hg:Gl X tn)(hm:X.mg tn=some (.ref CT))(hst:X.stack=X.env::X.outer)(hfr:X.env.frame=some X.env.locals)(hbody:∀ pins E,PSs (bb4 X pins E) body (tb E))(hh:∀ v,PSs (bQ2 X v) (b0::suite) th)
  (hd:(tn == ("__debug__":Str))=false:=by decide) :
  PS X (.Try body [.ExceptHandler (some (.Name tn np)) (some n) (b0::suite) hpos] [] [] pos) (bZ9 X.K CT i tb th):=by
 intro pins s σ H D I hw
 obtain⟨E,hb,hcatch⟩:=hw
 refine wpAny_Try_except (C2 (hbody pins E [] s σ H D I.toTry hb) (fun fl s1 q=>?_) fun e s1 hx=>?_)
 ·cases fl with
  | next =>
   obtain⟨σ',H',I',q⟩:=q
   exact af9 ⟨σ',H',I'.ofTry,q⟩
  | brk=>obtain⟨σ',H',I',q⟩:=q;exact⟨σ',H',I'.ofTry,q⟩
  | cont=>obtain⟨σ',H',I',q⟩:=q;exact⟨σ',H',I'.ofTry,q⟩
  | ret u=>obtain⟨v,σ',H',I',r,q⟩:=q;exact⟨v,σ',H',I'.ofTry,r,q⟩
 ·obtain⟨σ1,H1,s0,I1,x,cls,H2,rfl,hos,hbare,u,hok,new,hxn,⟨B,a0,fl,st⟩,hE⟩:=hx
  obtain⟨hmat,hth⟩:=hcatch σ1 cls H2 hE
  have hfl:Heap.FlyingW B (X.env::X.outer) x cls a0 s1.heap:=by rw[hst]at fl;exact fl
  have frNone:∀ b∈frs X.stack,H2 b=none:=fun b hb=>by
   obtain⟨_,o,ho,_⟩:=I1.stack.mem hb
   exact u.free b o ho (I1.stkFree b hb) (by simp)
  have step:∀ h',B.StaysIn h'->s1.heap.UpToSlots h'->Un (frs X.stack) [] H1 H2 s0.heap h'/\HOk X.prog X.w H2 h':=fun h' hB hu=>by
   refine⟨u.onto (fun b o ho hh hno=>hB b o (st b o ho (.inr hh) hno)) fun b o ho hh hm'=>?_,hok.stays fun b o ho hh=>hB b o (st b o ho (.inl hh) fun hm'=>hh (frNone b hm'))⟩
   obtain⟨_,o',ho',hdd⟩:=hfl.2.2.1.mem (b:=b) (by rw[hst]at hm';exact hm')
   rw[ho]at ho'
   cases ho'
   exact hu b o ho hdd
  have inv:∀ h',B.StaysIn h'->s1.heap.UpToSlots h'->Inv X pins σ1 H2 { s1 with heap:=h' }:=fun h' hB hu=>by
   obtain⟨un,ok⟩:=step h' hB hu
   exact I1.call' (s':={ s1 with heap:=h' }) (ch:=[]) hos un ok hbare fun b hb=>by cases hb
  have hfrm:X.A.frames=some (X.env::X.outer):=by rw[<- hst];exact I1.ok.frames
  refine wpAny_looks_onW hfrm hfr hfl fun h4 held4 up4=>?_
  refine wpAny_landsW held4 fun h5 fl5 up5=>?_
  have up15:=up4.trans up5
  have I5:=inv h5 fl5.1 up15
  refine wpAny_handleBy_cons (codeAny_handlers_test ?_) (by intro q;cases q)
  refine ao5 (I5.toHd (.ref x)) hg hm ?_ hd
  have LT:PySem.W.Looks (n6 X.prog X.w) h5 (typeOf (.ref x)) cls:=by
   obtain⟨ob,hob,hc⟩:=fl5.there
   subst hc
   exact(PySem.W.Looks.ld hob).andThen .now
  refine(PySem.W.exm_one (M:=n6 X.prog X.w) I5.kIn LT hmat).here ?_
  refine codeAny_handlers_suite_as ?_
  refine lands_againW fl5 fun h6 fl6 up6=>?_
  have up16:=up15.trans up6
  obtain⟨un6,ok6⟩:=step h6 fl6.1 up16
  obtain⟨oe,vs,hoe,hcl,hdt,_⟩:=fl6.first
  have xin:s0.heap.get? x=none:=new
  have un7:Un (frs X.stack) [] H1 (upd H2 x (XO x cls)) s0.heap h6:=by
   refine⟨un6.keep,un6.slot,fun b o e nn hx=>?_,un6.there,fun b xs e=>?_,fun b o v e=>?_,fun b ps e=>?_⟩
   ·rw[n4 (fun z=>by rw[z,xin]at e;cases e)]
    exact un6.free b o e nn hx
   ·have:=un6.tups b xs e
    rw[n4 (u6 this hxn)]
    exact this
   ·have:=un6.frzs b o v e
    rw[n4 (u6 this hxn)]
    exact this
   ·obtain⟨more,this⟩:=un6.tbls b ps e
    exact⟨more,by rw[n4 (u6 this hxn)];exact this⟩
  have ok7:HOk X.prog X.w (upd H2 x (XO x cls)) h6:=fun a o e=>by
   by_cases ha:a=x
   ·subst ha
    rw[b9]at e
    cases e
    exact XO.ok ⟨oe,vs,hoe,hcl,hdt⟩
   ·rw[n4 ha]at e
    exact(ok6 a o e).stay (fun _ _ _ q=>q) (fun b q=>by rw[n4 (u6 q hxn)];exact q) fun b xs q=>by rw[n4 (u6 q hxn)];exact q
  have I7:Inv X pins σ1 (upd H2 x (XO x cls)) { s1 with heap:=h6 }:=I1.call' (s':={ s1 with heap:=h6 }) (ch:=[]) hos un7 ok7 hbare fun b hb=>by cases hb
  refine ay4 (v:=.ref x) I7 hN hi (.inl hk) rfl (fun s8 I8=>?_) (.inr hk)
  refine C2 (hh (.ref x) pins s8 _ _ _ (I8.toHd _) (hth x hxn)) (fun fl' s9 q=>?_) (fun _ _ z=>False.elim z)
  have hdX:=I.ok.hd
  cases fl' with
  | next =>
   obtain⟨σ',H',I',q⟩:=q
   exact aj0 (I'.ofHd hdX) hN hi hk fun s10 I10=>⟨_,H',I10,q⟩
  | brk =>
   obtain⟨σ',H',I',q⟩:=q
   exact aj0 (I'.ofHd hdX) hN hi hk fun s10 I10=>⟨_,H',I10,q⟩
  | cont =>
   obtain⟨σ',H',I',q⟩:=q
   exact aj0 (I'.ofHd hdX) hN hi hk fun s10 I10=>⟨_,H',I10,q⟩
  | ret u' =>
   obtain⟨v,σ',H',I',r,q⟩:=q
   exact aj0 (I'.ofHd hdX) hN hi hk fun s10 I10=>⟨v,_,H',I10,r,q⟩
end L2
set_option maxRecDepth 100000
namespace L2
open PySem PySem.Spec PyProof.Rows PySem.W
structure aM2 (K:W.Frag) (C:Addr):Prop where
 ga:findIn K (.ref C) "__getattribute__"=some (some (.builtin "BaseException.__getattribute__"))
 na:findIn K (.ref C) "__getattr__"=some none
 cl:findIn K (.ref C) "__class__"=some (some (.builtin "object.__class__"))
 sb:subIn K (.ref C) (.type "BaseException")=some true
 so:subIn K (.ref C) (.type "object")=some true
 cs:(clsIn K C).isSome=true
def ExcAt (x C:Addr)(h:Heap):Prop:=∃ o vs,h.get? x=some o/\o.cls=.ref C/\o.data=.fields vs
section
variable {g:Array GenState} {d:Drawn} {t:Nat} {os:OsState} {K:W.Frag}
theorem bE3 {R:bJ1->Shared->Prop}(KI:K.In h)(c:aM2 K C)(hx:h.get? a=some o)(hc:o.cls=.ref C)(hq:R (.ok (.ret (.ref C))) ⟨h,g,d,t,os⟩) :
  V2 (n6 prog w) A (.call (.builtin "getset_descriptor.__get__") ⟨[.builtin "object.__class__",.ref a,.ref C],[]⟩) R ⟨h,g,d,t,os⟩:=by
 have hT5:(⟨h,g,d,t,os⟩:Shared).TypeIs (.builtin "object.__class__") "getset_descriptor":=F.typeOf_object_class
 have LS:Looks (n6 prog w) h (bJ9 (.ref C) (.type (".".intercalate ("object.__class__".cutAt '.').dropLast))) true:=by rw[F.owner_object_class];exact looks_subIn KI c.so
 refine V3 F.slot_gs_get.plain F.entry_gs_get (F.slot_gs_get.check _ _ _ _ _ _ _ _ hT5 (F.args_gs_get _ _ _) ?_)
 repeat (any_goals (first | assumption | (with_reducible refine aa6 hx ?_;rw[hc]) | (with_reducible refine LS.at ?_) | wp_step))
 refine⟨Code.quiet_builtin _ (by decide +kernel),D7 F.entry_object_class ?_⟩
 repeat (any_goals (first | assumption | (with_reducible refine aa6 hx ?_;rw[hc]) | wp_step))
theorem bk7 {nameV:Value}{Q:Unit->Shared->Prop}(KI:K.In h)(c:aM2 K C)(hx:h.get? a=some o)(hc:o.cls=.ref C)(hq:Q () ⟨h,g,d,t,os⟩) :
  k9 M A (aV5 "BaseException.__getattribute__" ⟨[.ref a,nameV],[]⟩) Q E ⟨h,g,d,t,os⟩:=by
 have k1:builtinKind "BaseException.__getattribute__"=some .slot:=by decide +kernel
 have k2:splitId "BaseException.__getattribute__"=some ("BaseException","__getattribute__"):=by decide +kernel
 have LS:Looks M h (bJ9 (.ref C) (.type "BaseException")) true:=looks_subIn KI c.sb
 have ha:=F.args_bexc_ga (.ref a) nameV
 simp only[aV5,k1,k2]
 refine a5 ?_
 ·unfold isInstance
  repeat (first | (with_reducible refine aa6 hx ?_;rw[hc]) | (with_reducible refine LS.at ?_) | wp_step)
  exact hq
theorem bk6 {tk:Tok}{Q:Fin->Shared->Prop}(KI:K.In h)(c:aM2 K C)(hx:h.get? a=some o)(hc:o.cls=.ref C)(hq:Q (.done (.ret (.ref C))) ⟨h,g,d,t,os⟩) :
  k9 (n6 prog w) A (Builtin.«object.__getattribute__» ⟨[.ref a,.str "__class__" tk],[]⟩) Q E ⟨h,g,d,t,os⟩:=by
 have hT5:(⟨h,g,d,t,os⟩:Shared).TypeIs (.builtin "object.__class__") "getset_descriptor":=F.typeOf_object_class
 have L1:Looks (n6 prog w) h (av7 (.ref C) "__class__") (some (.builtin "object.__class__")):=looks_findIn KI c.cl
 have f5:=F.typeOf_object_class
 have f6:=F.slot_gs_get.lookup
 have f7:=F.slot_gs_set.lookup
 repeat (any_goals (first | assumption | (with_reducible refine aa6 hx ?_;rw[hc]) | (with_reducible refine L1.at ?_) | wp_step))
 refine bE3 KI c hx hc ?_
 repeat (any_goals (first | assumption | wp_step))
theorem bQ4 {tk:Tok}(KI:K.In h)(c:aM2 K C)(hx:h.get? a=some o)(hc:o.cls=.ref C)(hq:Q (.ref C) ⟨h,g,d,t,os⟩) :
  k9 (n6 prog w) A (getAttrBy (.ref a) (.str "__class__" tk) false) Q E ⟨h,g,d,t,os⟩:=by
 have f3:=F.excAttr_ValueError.ga.bind (.ref a)
 have y2:(Value.builtin "BaseException.__getattribute__" == Value.builtin "object.__getattribute__")=false:=by decide +kernel
 have y1:(onTheHeap (Value.ref C) && Value.builtin "BaseException.__getattribute__" == Value.builtin "object.__getattribute__")=false:=by rw[y2];rfl
 have y0:(false && onTheHeap (Value.builtin "BaseException.__getattribute__"))=false:=rfl
 have L1:Looks (n6 prog w) h (av7 (.ref C) "__getattribute__") (some (.builtin "BaseException.__getattribute__")):=looks_findIn KI c.ga
 have L2:Looks (n6 prog w) h (av7 (.ref C) "__getattr__") none:=looks_findIn KI c.na
 repeat (any_goals (first | assumption | (with_reducible refine aa6 hx ?_;rw[hc]) | (with_reducible refine L1.at ?_) | (with_reducible refine L2.at ?_) | wp_step))
 refine V3 F.excAttr_ValueError.ga.plain F.entry_bexc_ga (bk7 KI c hx hc (bk6 KI c hx hc ?_))
 repeat (any_goals (first | assumption | wp_step))
theorem bE4 {Q:Option Value->Shared->Prop}(KI:K.In h)(c:aM2 K C)(hx:h.get? a=some o)(hc:o.cls=.ref C)(hq:Q (some (.ref C)) ⟨h,g,d,t+1,os⟩):k9 (n6 prog w) A (getAttr? (.ref a) "__class__") Q E ⟨h,g,d,t,os⟩:=by
 unfold getAttr? getAttrBy?
 repeat (any_goals (first | assumption | with_reducible apply bQ4 KI c hx hc | wp_step))
end
theorem aR8 {K:W.Frag}{x:Addr}(c:aM2 K C):KitX K (.ref x) (.ref C) (ExcAt x C) where
 ty:=fun _ _ _ p=>by
  obtain⟨o,_,h1,h2,_⟩:=p
  rw[<- h2]
  exact(Looks.ld h1).andThen .now
 it:=fun _ _ KI _=>by
  obtain⟨cd,hcd⟩:=p7.mp c.cs
  unfold clsIn at hcd
  split at hcd
  ·rename_i ho
   intro A' Q' E' s' k q
   unfold isType loadHead
   exact a5 (wpAny_loadPart (k _ _ (KI _ _ ho)) (a8 q))
  ·cases hcd
 ne:=fun h tp dd its n sl KI htp=>by
  obtain⟨cd,hcd⟩:=p7.mp c.cs
  refine bS3.mpr fun q=>?_
  have e:C=tp:=Value.ref.inj (beq_iff_eq.mp q)
  subst e
  unfold clsIn at hcd
  split at hcd
  ·rename_i ho
   have z:=(KI _ _ ho).symm.trans htp
   cases z
  ·cases hcd
 ca:=fun {_ _ _ _ _ s} KI p k=>by
  obtain⟨o,_,h1,h2,_⟩:=p
  obtain⟨hh,g,d,t,os⟩:=s
  exact bE4 KI c h1 h2 k
def cc1:V->Value->Prop
 | .ty T,u=>u=.type T
 | .ref D,u=>u=.ref D
 | _,_=>False
theorem bd4:∀ {Ds:List Addr} {its:List Value},B6 (Ds.map V.ref) its->its=Ds.map Value.ref
 | [],_,.nil=>rfl
 | D::Ds,_,.cons r t=>by
  cases r
  rw[j3,bd4 t]
theorem ap2 (K:W.Frag)(hK:X.K=K):O1 X (.builtin "isinstance") (fun xs H Q=>∃ x C v u b,xs=[.ref x,v]/\H x=some (XO x (.ref C))/\aM2 K C/\cc1 v u/\kitOne K (.ref C) u=some b/\Q (.bl b) H):=by
 subst hK
 intro pins s σ H xs us Q I r h
 obtain⟨x,C,v,u,b,rfl,hx,c,hv,e,q⟩:=h
 obtain⟨u1,u2,rfl,r1,r2⟩:=r.two
 cases r1
 have e2:u2=u:=by
  cases v<;>first | exact hv.elim | exact(show u2=_ from r2).trans hv.symm
 subst e2
 obtain⟨hp,_⟩:=I.hok x _ hx
 exact kia_one (aR8 c) I.kIn hp e (fun z=>nomatch z) fun tk=>⟨.bl b,H,I.tok _,rfl,q⟩
theorem aD2 (K:W.Frag)(hK:X.K=K):O1 X (.builtin "isinstance") (fun xs H Q=>∃ (x C tp:Addr) (Ds:List Addr) (b:Bool),xs=[.ref x,.ref tp]/\H x=some (XO x (.ref C))/\aM2 K C/\H tp=some (.tup (Ds.map V.ref))/\kitAny K (.ref C) (Ds.map Value.ref)=some b/\Q (.bl b) H):=by
 subst hK
 intro pins s σ H xs us Q I r h
 obtain⟨x,C,tp,Ds,b,rfl,hx,c,ht,e,q⟩:=h
 obtain⟨u1,u2,rfl,r1,r2⟩:=r.two
 cases r1
 cases r2
 obtain⟨hp,_⟩:=I.hok x _ hx
 obtain⟨its,rv,⟨o,ho,hc,n,hd⟩,_⟩:=I.tuple (SqT.of ht)
 have ei:its=Ds.map Value.ref:=bd4 rv
 subst ei
 obtain⟨oc,od,odt,osl⟩:=o
 dsimp only at hc hd
 subst hc hd
 exact kia_tup (aR8 c) I.kIn hp ho e (fun z=>nomatch z) fun tk=>⟨.bl b,H,I.tok _,rfl,q⟩
end L2
namespace L2
open PySem PySem.Spec PyProof.Rows
theorem Fun.okXC {K:W.Frag} {mg:Str->Option Value} {base:Heap} {st:Stmt} {c:Addr} {ps:List Str} {k:Nat} {sp:Sp} (F:Fun K x qual st f fd) (hc:fd.code=.ref c) (S:A1 N ps (p5 st))
  (hbody : ∀ (A : Around) (outer : List Env) (s : Shared) (H : Hp) (vs : List V) (Q : VK) (E : XK), Y4 k (A.deeper (M8 qual (p5 st) s.heap.objs.size f (.ref c))) -> sp vs H Q E ->
   ∃ t,PSs (ap1 (CXE P w) P w K mg base N qual (p5 st) f (.ref c) A outer s H E) (X3 st) t/\t { nx:=fun _ H'=>Q .non H',rt:=Q } (start N vs) H) (len:∀ vs H Q E,sp vs H Q E->vs.length=ps.length:=by intro _ _ _ _ h;repeat first | (obtain⟨rfl,_⟩:=h;rfl) | obtain⟨_,h⟩:=h):A2 P w K mg base (CXE P w) (k+1) f fd ps sp:=by
 obtain⟨oc,od,kV,doc,pm,an,cdv,ct,osl,rfl,lk,hcd⟩:=F.ex
 have hc':cdv=.ref c:=hc
 subst hc'
 exact bu9 lk hcd S len fun A outer s H vs Q E hr hsp=>hbody A outer s H vs Q E hr hsp
theorem bn3 {K:W.Frag}{c P:Addr}{oc:Value}{od:Option Addr}{sl:Array (Option Value)}(ht:PySem.W.tabIn K x=some (c,P))(hn:j2 K i9 x=some (some (.ref f)))(hl:K.lookup f=some ⟨oc,od,.func fd,sl⟩):fd.code=.ref c:=by
 unfold PySem.W.tabIn at ht
 rw[hn]at ht
 dsimp only at ht
 rw[hl]at ht
 dsimp only at ht
 split at ht
 ·rename_i c₂ hc
  split at ht
  ·split at ht
   ·cases ht;exact hc
   ·cases ht
  ·cases ht
 ·cases ht
theorem bj5 {K:W.Frag}{mg mb:Str->Option Value}{CX:CXT}{k:Nat}{fa:Addr}{sp:Sp}{s₁:Shared}{ts:List (Addr × Addr)}(hT:PySem.W.TabsAt ts s₁.heap)(hK0:PySem.W.noTabs K=true)
  (hbm:∃ bm ob,mg "__builtins__"=some (.ref bm)/\bm≠av3/\s₁.heap.get? bm=some ob/\ob.cls=.type "module"/\ob.dict=some av3/\ob.data=.plain)
  (KX:K.In s₁.heap)(hns:s₁.heap.Ns i9 mg)(hb:s₁.heap.Ns av3 mb)(hbb:∀ x:Str,x≠"__name__"->mb x=Q5 x)(hlim:s₁.heap.NoLimit)(hg:s₁.gens=#[])
  (ha:s₁.heap.get? a=some { cls:=.type "list",data:=.seq vs.toArray })(hi:IntsAre vs ns)(hl:ns.length<=i7)(hr:Y4 k bh1)
  (F:∀ base:Heap,K.In base->base.Ns i9 mg->(∀ q∈ts,aL9 base mg q.1 q.2)->A2 P w K mg base CX k fa fd [x] sp)(hbind:∀ (s:Shared) (u:Value),bg8 s fd ⟨[u],[]⟩ [(x,u)])
  (hsp:∀ H:Hp,(∀ q∈ts,H q.2=some (.tbl #[]))->SqL K H a (ns.map V.int)->sp [.ref a] H (fun v _=>v=.bl true) fun _ _ _=>False)
  (hCX:∀ H e s',CX [] H s₁ (fun _ _ _=>False) e s'->False) :
  V2 (n6 P w) bh1 (.call (.ref fa) ⟨[.ref a],[]⟩) (fun r s'=>r=.ok (.ret (.bool true))/\OldK s₁.heap s'.heap/\s'.os=s₁.os/\at6 s'.gens) s₁:=by
 have rv:=aq4 hi
 have lenV:=hi.length
 have tabO:∀ b,b∈ts.map (·.2)->s₁.heap.get? b=some (PySem.W.tabObj #[]):=fun b hb=>by
  obtain⟨q,hq,rfl⟩:=o9.mp hb
  exact(hT q hq).2
 have aT:a∉ts.map (·.2):=fun z=>by
  have e:=tabO a z
  rw[ha]at e
  cases e
 have core:∀ H:Hp,(∀ b,b∈ts.map (·.2)->H b=some (.tbl #[]))->(∀ b,b∉ts.map (·.2)->H b=none\/∃ o xs,H b=some (.frz o (.lst xs)))->SqL K H a (ns.map V.int)->HOk P w H s₁.heap->(∀ b,H b≠none->b=a\/b∈ts.map (·.2))->(H a≠none->K.lookup a=none) ->
   V2 (n6 P w) bh1 (.call (.ref fa) ⟨[.ref a],[]⟩) (fun r s'=>r=.ok (.ret (.bool true))/\OldK s₁.heap s'.heap/\s'.os=s₁.os/\at6 s'.gens) s₁:=by
  intro H hHt hO hS hok hA hK
  have base_of:∀ {b:Addr} {o:Obj},s₁.heap.get? b=some o->H b=none->(aC8 s₁.heap H).get? b=some o:=fun e n=>bu3 e n
  have free_of:∀ {b:Addr} {o:Obj},s₁.heap.get? b=some o->(∀ xs n,o≠{ cls:=.type "list",data:=.seq xs n })->o≠PySem.W.tabObj #[]->H b=none:=fun {b o} e n1 n2=>by
   cases q:H b with
   | none=>rfl
   | some u =>
    rcases hA b (by rw[q];simp) with e' | e'
    ·subst e'
     rw[ha]at e;cases e
     exact absurd rfl (n1 _ _)
    ·rw[tabO b e']at e;cases e
     exact absurd rfl n2
  have noA:∀ {b:Addr} {o:Obj} {es:Array K4} {ep:Nat},s₁.heap.get? b=some o->o.data=.dict es ep->H b=none:=fun {b o es ep} e d=>free_of e (fun xs n z=>by subst z;cases d) (fun z=>by subst z;cases d)
  have nsK:∀ {b:Addr} {m:Str->Option Value},s₁.heap.Ns b m->(aC8 s₁.heap H).Ns b m:=fun {b m} ⟨o,es,ep,e,d,r⟩=>⟨o,es,ep,base_of e (noA e d),d,r⟩
  have hKb:K.In (aC8 s₁.heap H):=fun b o e=>base_of (KX b o e) (by
   cases q:H b with
   | none=>rfl
   | some u =>
    rcases hA b (by rw[q];simp) with e' | e'
    ·subst e'
     rw[hK (by rw[q];simp)]at e;cases e
    ·have e1:=KX b o e
     rw[tabO b e']at e1
     cases e1
     have h2:=D0.mp hK0 _ (PySem.W.mem_of_lookupK e)
     exact absurd (show false=true from h2) d4)
  have hM:Mod K mg (aC8 s₁.heap H):=⟨hKb,nsK hns,⟨mb,nsK hb,hbb⟩,let ⟨mc,h1,h2⟩:=hlim;⟨mc,nsK h1,h2⟩⟩
  have hLB:∀ q∈ts,aL9 (aC8 s₁.heap H) mg q.1 q.2:=fun q hq=>by
   obtain⟨C,eP⟩:=hT q hq
   refine⟨?_,?_,?_⟩
   ·obtain⟨o,vs,file,tf,flags,tg,inF,text,tt,e1,r1,r2⟩:=C
    exact⟨o,vs,file,tf,flags,tg,inF,text,tt,base_of e1 (free_of e1 (fun xs n z=>by subst z;exact absurd (show Value.type "list"=Value.type "code" from r1) (by decide)) (fun z=>by subst z;cases r1)),r1,r2⟩
   ·obtain⟨bm,ob,b1,b2,b3,b4,b5,b6⟩:=hbm
    refine⟨bm,ob,b1,b2,fun z=>?_,fun z=>?_,base_of b3 (free_of b3 (fun xs n z=>by subst z;exact absurd (show Value.type "list"=Value.type "module" from b4) (by decide)) (fun z=>by subst z;cases b4)),b4,b5,b6⟩
    ·obtain⟨o,es,ep,e,d,_⟩:=hns
     rw[z,e]at b3;cases b3;rw[d]at b6;cases b6
    ·rw[z,eP]at b3;cases b3;cases b4
   ·intro z
    obtain⟨o,es,ep,e,d,_⟩:=hns
    rw[z,eP]at e;cases e;cases d
  have e0:bF2 P w K mg (aC8 s₁.heap H) bh1 [] s₁ H:=⟨rfl,hM,fun b o e=>bC9 e,aM6 (bk2 _ _),trivial,fun b hb=>absurd (show b∈([]:List Addr) from hb) (by simp),hok,.of_eq hg⟩
  refine Q6 ((F _ hKb (nsK hns) hLB).run bh1 [] s₁ H ⟨[.ref a],[]⟩ [.ref a] [.ref a] _ _ hr e0 (hbind s₁ (.ref a)) (.cons rfl .nil) (hsp H (fun q hq=>hHt _ (C9 hq)) hS)) fun r s' h=>?_
  cases r with
  | error e=>exact(hCX H e s' h).elim
  | ok fl =>
   cases fl with
   | next=>exact False.elim h
   | brk=>exact False.elim h
   | cont=>exact False.elim h
   | ret u =>
    obtain⟨v,H',os,bare,un,hok',r',q⟩:=h
    have q':v=.bl true:=q
    subst q'
    obtain rfl:u=Value.bool true:=r'
    have keep:∀ b o,b∉ts.map (·.2)->s₁.heap.get? b=some o->s'.heap.get? b=some o:=fun b o hb e=>by
     rcases hO b hb with z | ⟨ob,xs,z⟩
     ·exact un.keep b o e z (by intro z;exact absurd (show b∈([]:List Addr) from z) (by simp)) (by simp)
     ·have z2:=un.frzs b ob _ z
      obtain⟨e1,_⟩:=hok b _ z
      obtain⟨e2,_⟩:=hok' b _ z2
      rw[e]at e1;cases e1
      exact e2
    have grown:∀ b o,b∈ts.map (·.2)->s₁.heap.get? b=some o->isCodeTable s₁.heap b/\o=PySem.W.tabObj #[]/\∃ ps,s'.heap.get? b=some (PySem.W.tabObj ps):=fun b o hb e=>by
     obtain⟨ps,hp⟩:=un.tbls b #[] (hHt b hb)
     have e2:=tabO b hb
     rw[e]at e2
     obtain⟨q,hq,eq⟩:=o9.mp hb
     have e3:s'.heap.get? b=some (PySem.W.tabObj (#[]++ps)):=hok' b _ hp
     refine⟨?_,Option.some.inj e2,_,e3⟩
     rw[<- eq]
     exact((hT q hq).1.tab (hT q hq).2).isCodeTable
    refine⟨rfl,⟨fun b o e=>?_,fun b o e=>?_⟩,os,bare⟩
    ·by_cases hb:b∈ts.map (·.2)
     ·obtain⟨ht,rfl,ps,hP⟩:=grown b o hb e
      exact .inr (.inl ⟨ht,rfl,#[],ps,rfl,by rw[Array.empty_append];exact hP⟩)
     ·exact .inl (keep b o hb e)
    ·by_cases hb:b∈ts.map (·.2)
     ·obtain⟨_,_,ps,hP⟩:=grown b o hb e
      exact⟨_,hP⟩
     ·exact⟨o,keep b o hb e⟩
 cases hk:K.lookup a with
 | some o =>
  have e:=KX a o hk
  rw[ha]at e
  cases e
  refine core (fun b=>if b∈ts.map (·.2) then some (.tbl #[]) else none) (fun b hb=>if_pos hb) (fun b hb=>.inl (if_neg hb)) (.inr ⟨_,vs.toArray,_,hk,rfl,rfl,rfl,by rw[k8,lenV];exact hl,by simpa using rv⟩) (fun b u z=>?_) (fun b z=>?_) fun z=>absurd (if_neg aT) z
  ·by_cases hb:b∈ts.map (·.2)
   ·have z':=(if_pos hb).symm.trans z
    cases z'
    exact tabO b hb
   ·have z':=(if_neg hb).symm.trans z
    cases z'
  ·by_cases hb:b∈ts.map (·.2)
   ·exact .inr hb
   ·exact absurd (if_neg hb) z
 | none =>
  have e1:∀ b,b∈ts.map (·.2)->(if b∈ts.map (·.2) then some (HO.tbl #[]) else if b=a then some (.frz { cls:=.type "list",data:=.seq vs.toArray } (.lst (ns.map V.int))) else none)=some (HO.tbl #[]):=fun b hb=>if_pos hb
  have e2:∀ b,b∉ts.map (·.2)->(if b∈ts.map (·.2) then some (HO.tbl #[]) else if b=a then some (.frz { cls:=.type "list",data:=.seq vs.toArray } (.lst (ns.map V.int))) else none)=(if b=a then some (.frz { cls:=.type "list",data:=.seq vs.toArray } (.lst (ns.map V.int))) else none):=fun b hb=>if_neg hb
  refine core (fun b=>if b∈ts.map (·.2) then some (HO.tbl #[]) else if b=a then some (.frz { cls:=.type "list",data:=.seq vs.toArray } (.lst (ns.map V.int))) else none) e1 (fun b hb=>?_) (.inl (.inr ⟨{ cls:=.type "list",data:=.seq vs.toArray },(e2 a aT).trans (if_pos rfl)⟩)) (fun b u z=>?_) (fun b z=>?_) fun _=>hk
  ·rw[e2 b hb]
   by_cases hba:b=a
   ·exact .inr ⟨_,_,if_pos hba⟩
   ·exact .inl (if_neg hba)
  ·by_cases hb:b∈ts.map (·.2)
   ·have z':=(e1 b hb).symm.trans z
    cases z'
    exact tabO b hb
   ·have z1:=(e2 b hb).symm.trans z
    by_cases hba:b=a
    ·have z':=(if_pos hba).symm.trans z1
     cases z'
     subst hba
     exact⟨ha,by rw[b8];exact hl,vs,_,rv,ha⟩
    ·have z':=(if_neg hba).symm.trans z1
     cases z'
  ·by_cases hb:b∈ts.map (·.2)
   ·exact .inr hb
   ·by_cases hba:b=a
    ·exact .inl hba
    ·exact absurd ((e2 b hb).trans (if_neg hba)) z
theorem walk_ofT {l:PySem.W.OpenLaw} {k:Nat} {q:Program} {loose:List Str} {d:DefRec} {K:Params->PySem.W.Frag} {CX:World->CXT} {sp:World->List (Addr × Addr)->Sp} {ts:World->List (Addr × Addr)}
  (hn:l.most=some n) (hn2:n<=i7) (hdf:d.params.defaults=[]) (hr:Y4 k bh1)
  (hY:∀ (w:World) (h:Heap),YP w h->(K w.params).In h) (hK0:∀ w:World,PySem.W.noTabs (K w.params)=true)
  (hts:∀ (w:World) (loose:List Str) (mean:ExcName->Option Value) (mg mb:Str->Option Value) (h:Heap),Top q loose mean mg mb h->(K w.params).In h->PySem.W.TabsAt (ts w) h)
  (F : ∀ (w : World) (mg : Str -> Option Value) (fa : Addr) (h : Heap), (K w.params).In h -> h.Ns i9 mg -> mg d.name = some (.ref fa) ->
   ∃ fd:FuncData,(∀ (s:Shared) (u:Value),bg8 s fd ⟨[u],[]⟩ [(x,u)]) /\
    ∀ base:Heap,(K w.params).In base->base.Ns i9 mg->(∀ q∈ts w,aL9 base mg q.1 q.2)->A2 l.prog w (K w.params) mg base (CX w) k fa fd [x] (sp w (ts w)))
  (hsp:∀ (w:World) (H:Hp) (a:Addr) (ns:List Int),ns.length<=n->(∀ q∈ts w,H q.2=some (.tbl #[]))->SqL (K w.params) H a (ns.map V.int)->sp w (ts w) [.ref a] H (fun v _=>v=.bl true) fun _ _ _=>False)
  (hCX:∀ (w:World) (H:Hp) (s:Shared) (e:Value) (s':Shared),CX w [] H s (fun _ _ _=>False) e s'->False) :
  PySem.W.WalkO q loose XP YP l.row.toRowW d [] (fun f vs=>PySem.call f vs):=by
 refine Att.attach_call hn hdf fun w s₀ s₁ mg mb fa o pm cd doc a vs ns G Y ho hd hcd hmg hobj hints hlen hg=>?_
 have KX:=hY w _ Y
 obtain⟨fd,hb,hF⟩:=F w mg fa _ KX G.T.g hmg
 exact bj5 (hts w _ _ _ _ _ G.T KX) (hK0 w) G.T.bmain KX G.T.g G.T.b G.T.builtins G.T.nolimit hg hobj hints (t9 hlen hn2) hr hF hb (fun H hO hS=>hsp w H a ns hlen hO hS) fun H e s'=>hCX w H s₁ e s'
def bi9 (ns:List Int)(z:Int):List Int:=[-(ns.getD z.toNat 0),z]
theorem bB7 (ns:List Int)(z:Int):∃ i k,bi9 ns z=i::k:=⟨_,_,rfl⟩
def ole (ns:List Int)(x y:Int):Prop:=Tim.K9 (bi9 ns y) (bi9 ns x)=false
theorem aJ6 {x y:Int}:ole ns x y↔(ns.getD y.toNat 0<ns.getD x.toNat 0\/(ns.getD x.toNat 0=ns.getD y.toNat 0/\x<=y)):=by
 unfold ole bi9 Tim.K9
 by_cases h:-(ns.getD y.toNat 0) = -(ns.getD x.toNat 0)
 ·rw[if_pos h]
  unfold Tim.K9
  by_cases h2:y=x
  ·rw[if_pos h2]
   simp only[Tim.K9,true_iff]
   exact .inr ⟨by omega,by omega⟩
  ·rw[if_neg h2,decide_eq_false_iff_not]
   constructor
   ·intro h3;exact .inr ⟨by omega,by omega⟩
   ·intro h3 h4;omega
 ·rw[if_neg h,decide_eq_false_iff_not]
  constructor
  ·intro h3;exact .inl (by omega)
  ·intro h3 h4;omega
theorem aQ6 {x y:Int}(h1:ole ns x y)(h2:ole ns y x):x=y:=by
 rw[aJ6]at h1 h2
 omega
theorem aA1 {zs' l:List Int}(p1:zs.Perm l)(p2:zs'.Perm l)(s1:zs.Pairwise (ole ns))(s2:zs'.Pairwise (ole ns)):zs=zs':=
 (p1.trans p2.symm).eq_of_pairwise (fun x y _ _ h1 h2=>aQ6 h1 h2) s1 s2
def bW5 (i:Int)(n:Nat):List Int:=(ad8 0 n).map fun k:Nat=>i+(k:Int)
theorem am5 {lo:Int}{D:Addr}{g:TG}{tt:TT}{Qd:Hp->Prop}{σ0:St}{H0:Hp}(Pv:Nat->List V->St->Hp->Prop)(h0:Pv 0 [] σ0 H0)(hz:n<=i7)(hl:∀ i xs σ H,i<=n->Pv i xs σ H->H D=some (.lst xs)/\xs.length<=i)
  (hs:∀ i xs σ H (N:List V->St->Hp->Prop),(∀ xs' σ' H',Pv (i+1) xs' σ' H'->N xs' σ' H')->i<n->Pv i xs σ H->g (.int (lo+i)) σ H fun σ2 H2=>tt σ2 H2 fun b H3=>if b=true then te σ2 H3 fun v H4=>H4 D=some (.lst xs)/\N (xs++[v]) σ2 (upd H4 D (.lst (xs++[v]))) else N xs σ2 H3)
  (hd:∀ xs σ H,Pv n xs σ H->Qd H) :
  ∃ W:Nat->Nat->List V->St->Hp->Prop,(∃ m,W 0 m [] σ0 H0)/\∀ i m xs σ' H',W i m xs σ' H'->H' D=some (.lst xs)/\(((Itr lo n).stop i H'/\Qd H')\/((Itr lo n).go i H'/\xs.length<i7/\∀ x H'',(Itr lo n).yld i H' x H''->g x σ' H'' fun σ2 H2=>tt σ2 H2 fun b H3 =>
   if b=true then te σ2 H3 fun v H4=>H4 D=some (.lst xs)/\∃ m',m'<m/\W (i+1) m' (xs++[v]) σ2 (upd H4 D (.lst (xs++[v]))) else ∃ m',m'<m/\W (i+1) m' xs σ2 H3)):=by
 refine⟨fun i m xs σ H=>m=n - i/\i<=n/\Pv i xs σ H,⟨n,by simp,n9 _,h0⟩,?_⟩
 rintro i m xs σ H ⟨rfl,hi,p⟩
 obtain⟨hD,hx⟩:=hl i xs σ H hi p
 refine⟨hD,?_⟩
 by_cases hlt:i<n
 ·refine .inr ⟨hlt,by omega,fun x H'' y=>?_⟩
  obtain⟨e,y⟩:=y
  subst e y
  exact hs i xs σ _ (fun zs σ' H'=>∃ m',m'<n - i/\m'=n - (i+1)/\i+1<=n/\Pv (i+1) zs σ' H') (fun zs σ' H' r=>⟨_,by omega,rfl,hlt,r⟩) hlt p
 ·obtain rfl:i=n:=by omega
  exact .inl ⟨c5 _,hd xs σ H p⟩
end L2
set_option Elab.async false
set_option maxRecDepth 100000
namespace L2
open PySem PySem.Spec PyProof.Rows
section
variable (P:Program) (w:World)
end
section
variable {o:HO}
end
section
variable {x e:Addr} {o':HO}
end
section
variable {fs fs' ex ex':List Addr} {H1 H2:Hp} {h1 h2:Heap} {x e:Addr} {o:HO}
end
section
variable {σ:List (Option V)}
end
section
variable {a b:Expr} {tb:TE}
variable {tA tB':TT} {rest:List Expr}
end
section
variable {xs:List V}
end
section
variable {st:Stmt} {rest:List Stmt} {t u:TS}
end
section
variable {a b c:Expr} {tb tc:TE}
end
section
variable {a b c:Expr} {tb tc:TE}
end
section
variable {K:W.Frag} {x dx:Addr} {name:Str}
end
section
variable {dx:Addr} {fs fs':List (Str × V)}
end
section
variable {dx:Addr} {fs:List (Str × V)} {f:Str} {v:V}
end
section
variable {o value:Expr} {f:Str} {pos' tpos:Pos} {tv:TE}
end
section
variable {c:Value} {b:Bool}
end
section
variable {es:List Expr} {t:TA}
end
section
variable {s':Shared}
end
section
variable {CX:CXT} {k:Nat} {ps:List Str} {sp:Sp} {dvs:List V} {ds:List Value} {E:XK} {m:Str} {p:Pos} {o:Expr} {es:List Expr} {t:TA}
end
section
variable {CX:CXT} {k:Nat} {ps ks:List Str} {sp:Sp} {E:XK} {m:Str} {p kpos:Pos} {o:Expr} {es:List Expr} {kws:List an4} {t tk:TA} {nm:Option Str}
variable {g:List Value->List Value->List Value}
end
section
variable {p:Pos} {es:List Expr} {t:TA} {id T:String} {r:List V->Hp->VK->Prop}
end
section
variable {κ:Type} [DecidableEq κ]
def au3 (kvs:List (κ × V))(k:κ):Option V:=(kvs.find? fun kv=>decide (kv.1=k)).map (·.2)
def putK (kvs:List (κ × V))(k:κ)(v:V):List (κ × V):=
 if (kvs.any fun kv=>decide (kv.1=k))=true then kvs.map (fun kv=>if kv.1=k then (kv.1,v) else kv) else kvs++[(k,v)]
def ao9 (kvs:List (κ × V))(k:κ):List (κ × V):=kvs.filter fun kv=>decide (kv.1≠k)
theorem ay0 {p:κ × V}{r:List (κ × V)}{k:κ}(e:p.1=k):au3 (p::r) k=some p.2:=by simp[au3,X9,e]
theorem ay1 {p:κ × V}{r:List (κ × V)}{k:κ}(e:¬ p.1=k):au3 (p::r) k=au3 r k:=by simp[au3,X9,e]
theorem ag6 (k:κ):∀ kvs:List (κ × V),(kvs.any fun kv=>decide (kv.1=k))=(au3 kvs k).isSome
 | []=>rfl
 | p::r=>by
  rw[S3]
  by_cases e:p.1=k
  ·simp only[ay0 e,decide_eq_true e,Bool.true_or,bx4]
  ·rw[ay1 e,decide_eq_false e,Bool.false_or];exact ag6 k r
theorem at3 (kvs:List (κ × V))(k:κ)(v:V):(putK kvs k v).length<=kvs.length+1:=by
 unfold putK
 split
 ·rw[b8];omega
 ·rw[j9,o6,ap9];omega
theorem aZ9.isSome_eq {o:Option V}{u:Option Value}(r:aZ9 o u):o.isSome=u.isSome:=by
 cases o with
 | none=>cases u with
  | none=>rfl
  | some _=>exact(show False from r).elim
 | some _=>cases u with
  | none=>exact(show False from r).elim
  | some _=>rfl
theorem KV.val {kvs:List (κ × V)}{vs:List (κ × Value)}(r:KV kvs vs)(k:κ):aZ9 (au3 kvs k) (bx9 vs k):=by
 unfold KV at r
 induction r with
 | nil=>exact True.intro
 | @cons p q ps qs h t ih =>
  obtain⟨h1,h2⟩:=h
  by_cases e:p.1=k
  ·have e':q.1=k:=h1.symm.trans e
   have b:bx9 (q::qs) k=some q.2:=by simp[bx9,X9,e']
   rw[ay0 e,b];exact h2
  ·have e':¬ q.1=k:=fun z=>e (h1.trans z)
   have b:bx9 (q::qs) k=bx9 qs k:=by simp[bx9,X9,e']
   rw[ay1 e,b];exact ih
theorem KV.any {kvs:List (κ × V)}{vs:List (κ × Value)}(r:KV kvs vs)(k:κ):(kvs.any fun kv=>decide (kv.1=k))=vs.any fun kv=>decide (kv.1=k):=by
 unfold KV at r
 induction r with
 | nil=>rfl
 | cons h t ih=>rw[S3,S3,ih,h.1]
theorem KV.repl {kvs:List (κ × V)}{vs:List (κ × Value)}(r:KV kvs vs)(k:κ){y:V}(ry:RelV y u) :
  KV (kvs.map fun kv=>if kv.1=k then (kv.1,y) else kv) (vs.map fun kv=>if kv.1=k then (kv.1,u) else kv):=by
 unfold KV at r ⊢
 induction r with
 | nil=>exact .nil
 | @cons p q ps qs h t ih =>
  rw[j3,j3]
  refine .cons ?_ ih
  obtain⟨h1,h2⟩:=h
  by_cases e:p.1=k
  ·rw[if_pos e,if_pos (h1.symm.trans e)];exact⟨h1,ry⟩
  ·rw[if_neg e,if_neg (fun z=>e (h1.trans z))];exact⟨h1,h2⟩
theorem KV.put {kvs:List (κ × V)}{vs:List (κ × Value)}(r:KV kvs vs)(k:κ){y:V}(ry:RelV y u):KV (putK kvs k y) (stored vs k u):=by
 unfold putK stored
 rw[r.any k]
 by_cases e:(vs.any fun kv=>decide (kv.1=k))=true
 ·rw[if_pos e,if_pos e];exact r.repl k ry
 ·rw[if_neg e,if_neg e];exact Paired.snoc r ⟨rfl,ry⟩
theorem KV.length {kvs:List (κ × V)}{vs:List (κ × Value)}(r:KV kvs vs):kvs.length=vs.length:=Paired.length r
theorem bv5 (kvs:List (κ × V))(k:κ):(ao9 kvs k).length<=kvs.length:=E8 _ _
end
theorem bt7 {k:Key}(r:RelV (kV k) u):(K8 P w).is k u=true:=by
 cases k with
 | inl i=>obtain⟨t,e⟩:=(show ∃ t,u=Value.int i t from r);subst e;exact aQ9 P w i t
 | inr x=>obtain⟨t,e⟩:=(show ∃ t,u=Value.str x t from r);subst e;exact aQ8 P w x t
theorem aE8:∀ {ks:List Key} {us:List Value},B6 (ks.map kV) us->ItemsAre (K8 P w) ks us
 | [],_,r=>by rw[aG9]at r;cases r;exact .nil
 | k::ks,_,r=>by
  rw[j3]at r
  cases r with
  | cons h t=>exact .cons (bt7 h) (aE8 t)
abbrev KT (H:Hp):List (List Key × V)->List (List Key × Addr × Value)->Prop:=Y5 fun p q=>p.1=q.1/\H q.2.1=some (.tup (p.1.map kV))/\RelV p.2 q.2.2
theorem KT.val (r:KT H kvs xs)(k:List Key):aZ9 (au3 kvs k) ((bm3 xs k).map (·.2)):=by
 induction r with
 | nil=>exact True.intro
 | @cons p q ps qs h t ih =>
  obtain⟨h1,_,h2⟩:=h
  by_cases e:p.1=k
  ·have e':q.1=k:=h1.symm.trans e
   have b:bm3 (q::qs) k=some q.2:=by simp[bm3,X9,e']
   rw[ay0 e,b];exact h2
  ·have e':¬ q.1=k:=fun z=>e (h1.trans z)
   have b:bm3 (q::qs) k=bm3 qs k:=by simp[bm3,X9,e']
   rw[ay1 e,b];exact ih
theorem KT.repl (r:KT H kvs xs)(k:List Key){y:V}(ry:RelV y u) :
  KT H (kvs.map fun kv=>if kv.1=k then (kv.1,y) else kv) (xs.map (putAt k u)):=by
 induction r with
 | nil=>exact .nil
 | @cons p q ps qs h t ih =>
  rw[j3,j3]
  refine .cons ?_ ih
  obtain⟨h1,h2,h3⟩:=h
  unfold putAt
  by_cases e:p.1=k
  ·rw[if_pos e,if_pos (h1.symm.trans e)];exact⟨h1,h2,ry⟩
  ·rw[if_neg e,if_neg (fun z=>e (h1.trans z))];exact⟨h1,h2,h3⟩
theorem KT.put (r:KT H kvs xs)(k:List Key){b:Addr}{y:V}(hb:H b=some (.tup (k.map kV)))(ry:RelV y u) :
  KT H (putK kvs k y) (storedH xs k b u):=by
 have e:(kvs.any fun kv=>decide (kv.1=k))=(bm3 xs k).isSome:=by
  rw[ag6,(r.val k).isSome_eq,bF6]
 unfold putK storedH
 rw[e]
 by_cases q:(bm3 xs k).isSome=true
 ·rw[if_pos q,if_pos q];exact r.repl k ry
 ·rw[if_neg q,if_neg q];exact Paired.snoc r ⟨rfl,hb,ry⟩
theorem KT.keeps (r:KT H kvs xs)(ht:∀ b ys,H b=some (.tup ys)->H' b=some (.tup ys)):KT H' kvs xs:=
 Paired.mapP r fun _ _ z=>⟨z.1,ht _ _ z.2.1,z.2.2⟩
theorem bH4 {u:HO}(ok:HOk P w H h)(e:Rd H a u):D5 P w H h a u:=e.ok ok
theorem bv6 {kvs:List (Key × V)}(ok:HOk P w H h)(e:Rd H a (.dK kvs)):kvs.length<=i7/\(a == F1)=false/\∃ vs,KV kvs vs/\h.DictOf (K8 P w) a vs:=
 show D5 P w H h a (.dK kvs) from bH4 ok e
theorem bY6 {kvs:List (Key × V)}(ok:HOk P w H h)(e:H a=some (.dK kvs)):kvs.length<=i7/\(a == F1)=false/\∃ vs,KV kvs vs/\h.DictOf (K8 P w) a vs:=bv6 ok (.inl e)
theorem aK2 {ks:List Key}(ok:HOk P w H h)(e:H a=some (.tup (ks.map kV))):(bg5 (K8 P w)).is h ks a:=by
 obtain⟨_,its,r,o,h1,h2,n,h3⟩:=(show D5 P w H h a (.tup (ks.map kV)) from ok a _ e)
 exact⟨o,its.toArray,n,h1,h2,h3,by simpa using aE8 r⟩
theorem at4 (ok:HOk P w H h)(e:Rd H a (.dT kvs)):kvs.length<=i7/\(a == F1)=false /\
  ∃ xs,KT H kvs xs/\h.DictOfH (bg5 (K8 P w)) a xs:=by
 obtain⟨z,y,xs,r,o,es,ep,h1,h2,h3,h4,h5⟩:=(show D5 P w H h a (.dT kvs) from bH4 ok e)
 refine⟨z,y,xs,r,o,es,ep,h1,h2,h3,h4,fun x hx=>?_,h5⟩
 have all:∀ {l:List (List Key × V)} {m:List (List Key × Addr × Value)},KT H l m->∀ x∈m,(bg5 (K8 P w)).is h x.1 x.2.1:=by
  intro l m q
  induction q with
  | nil=>intro x hx;exact nomatch hx
  | @cons p q ps qs hq t ih =>
   intro x hx
   rcases c8.mp hx with e | hx
   ·subst e
    exact aK2 ok (by rw[<- hq.1];exact hq.2.1)
   ·exact ih x hx
 exact all r x hx
theorem bI2 (ok:HOk P w H h)(e:H a=some (.dT kvs)):kvs.length<=i7/\(a == F1)=false /\
  ∃ xs,KT H kvs xs/\h.DictOfH (bg5 (K8 P w)) a xs:=at4 ok (.inl e)
def bZ4 (H:Hp)(a:Addr)(y:V)(r:Option V):Prop:=
 (∃ kvs k,Rd H a (.dK kvs)/\y=kV k/\r=au3 kvs k)\/∃ kvs k b,Rd H a (.dT kvs)/\y=.ref b/\H b=some (.tup (k.map kV))/\r=au3 kvs k
def aU2 (H:Hp)(a:Addr)(y v:V)(H':Hp):Prop:=
 (∃ kvs k,H a=some (.dK kvs)/\y=kV k/\kvs.length<i7/\H'=upd H a (.dK (putK kvs k v))) \/
 ∃ kvs k b,H a=some (.dT kvs)/\y=.ref b/\H b=some (.tup (k.map kV))/\kvs.length<i7/\H'=upd H a (.dT (putK kvs k v))
theorem aU2.t {b:Addr}{k:List Key}{v:V}(e:H a=some (.dT kvs))(eb:H b=some (.tup (k.map kV)))(hl:kvs.length<i7) :
  aU2 H a (.ref b) v (upd H a (.dT (putK kvs k v))):=.inr ⟨kvs,k,b,e,rfl,eb,hl,rfl⟩
section
variable {y v:V} {r:Value} {o:Option V}
theorem Inv.big (I:Inv X pins σ H s):F1<s.heap.objs.size:=by
 have h:i9<s.heap.objs.size:=(I.mod.glob.keeps I.bk).lt
 exact bx3 (by decide) h
theorem cc0 (hu:A.units+1<R8)(I:Inv X pins σ H s)(g:bZ4 H a y o)(ry:RelV y u)(h:∀ s',Inv X pins σ H s'->Q (.bool o.isSome) s') :
  k9 (n6 X.prog X.w) A (D6 .In u (.ref a)) Q E s:=by
 rcases g with⟨kvs,k,e,ey,l⟩ | ⟨kvs,k,b,e,ey,eb,l⟩
 ·subst ey
  obtain⟨z,hd,vs,rel,dd⟩:=bv6 I.hok e
  refine wpAny_in_of (bt7 ry) hd dd.mapOf ?_
  rw[<- (rel.val k).isSome_eq,<- l]
  exact h _ (I.tok _)
 ·subst ey
  cases (show u=Value.ref b from ry)
  obtain⟨z,hd,xs,rel,dd⟩:=at4 I.hok e
  refine wpAny_in_heap (ai7 hu) (aK2 I.hok eb) hd dd ?_
  have q:=(rel.val k).isSome_eq
  rw[bF6]at q
  rw[<- q,<- l]
  exact h _ (I.tok _)
theorem ax3 {ob:HO}(I:Inv X pins σ H s)(mu:Mut (H a))(hs:Heap.SameBut a s.heap h')(he:∃ q,h'.get? a=some q)(new:D5 X.prog X.w (upd H a ob) h' a ob) :
  Inv X pins σ (upd H a ob) { s with heap:=h',toks:=t' }:=
 I.write (x:=a) (e:=a) mu (.inl rfl) (fun b q hb z=>(hs.2 b hb).trans z) he new
theorem bQ9 {kvs:List (Key × V)}{vs:List (Key × Value)}(z:kvs.length<=i7)(hd:(a == F1)=false)(rel:KV kvs vs)(dd:h'.DictOf (K8 P w) a vs) :
  D5 P w H' h' a (.dK kvs):=⟨z,hd,vs,rel,dd⟩
theorem bk9 {Q:Unit->Shared->Prop}(hu:A.units+1<R8)(I:Inv X pins σ H s)(g:aU2 H a y v H')(ry:RelV y u)(rv:RelV v r)(h:∀ s',Inv X pins σ H' s'->Q () s') :
  k9 (n6 X.prog X.w) A (setItem (.ref a) u r) Q E s:=by
 rcases g with⟨kvs,k,e,ey,l,eH⟩ | ⟨kvs,k,b,e,ey,eb,l,eH⟩
 ·subst ey eH
  obtain⟨z,hd,vs,rel,dd⟩:=bY6 I.hok e
  have hz:vs.length<=i7:=by rw[<- rel.length];exact z
  have hl:(putK kvs k v).length<=i7:=by have:=at3 kvs k v;omega
  refine wpAny_setItem_pairs (hsz:=hz) (bt7 ry) dd fun h' dd' hs=>h _ ?_
  have he:∃ q,h'.get? a=some q:=let ⟨q,_,_,hq,_⟩:=dd';⟨q,hq⟩
  exact ax3 I (by rw[e];exact True.intro) hs he (bQ9 hl hd (rel.put k rv) dd')
 ·subst ey eH
  cases (show u=Value.ref b from ry)
  obtain⟨z,hd,xs,rel,dd⟩:=bI2 I.hok e
  have hz:xs.length<=i7:=by rw[<- Paired.length rel];exact z
  have hl:(putK kvs k v).length<=i7:=by have:=at3 kvs k v;omega
  refine wpAny_setItem_heap (hsz:=hz) (ai7 hu) (aK2 I.hok eb) dd fun h' dd' hs=>h _ ?_
  obtain⟨q,es,ep,hq,h2,h3,h4,_,h5⟩:=dd'
  refine ax3 I (by rw[e];exact True.intro) hs ⟨q,hq⟩ ⟨hl,hd,_,(rel.put k eb rv).keeps fun c ys ec=>?_,q,es,ep,hq,h2,h3,h4,h5⟩
  rw[n4 (aE4 ec e (fun z=>nomatch z))]
  exact ec
end
section
variable {kvs:List (Key × V)} {k:Key}
end
def ca6 (ty td:TE):TE:=fun σ H Q=>ty σ H fun y H1=>td σ H1 fun x H2=>∃ a o,x=.ref a/\bZ4 H2 a y o/\Q (.bl o.isSome) H2
def bW3 (td ty tv:TE):TS:=fun D σ H=>tv σ H fun v H1=>td σ H1 fun x H2=>ty σ H2 fun y H3=>∃ a H4,x=.ref a/\aU2 H3 a y v H4/\D.nx σ H4
section
variable {o i value:Expr} {pos' tpos:Pos} {td ty tv:TE}
theorem bs1 (hu:X.A.units+1<R8)(hi:PE X i ty)(ho:PE X o td):PC X .In i o (ca6 ty td):=by
 intro pins s σ H Q I h
 refine thn (hi pins s σ H _ I h) fun iv s1 ⟨y,H1,I1,ry,q1⟩=>thn (ho pins s1 σ H1 _ I1 q1) fun u s2 ⟨x,H2,I2,rx,a,ov,ex,g,q2⟩=>?_
 subst ex
 obtain rfl:u=Value.ref a:=rx
 exact cc0 hu I2 g ry fun s3 I3=>⟨.bl ov.isSome,H2,I3,rfl,q2⟩
theorem aw5 (hu:X.A.units+1<R8)(ho:PE X o td)(hi:PE X i ty)(hv:PE X value tv)(hs:bJ0 value (some (.Subscript o i pos')) pos.line X.env=pure false) :
  PS X (.Assign [.Subscript o i pos'] value pos) (bW3 td ty tv):=by
 intro pins s σ H D I h
 refine wpAny_Assign_Subscript (thn (hv pins s σ H _ I h) fun r s1 ⟨v,H1,I1,rv,q1⟩=>thn (ho pins s1 σ H1 _ I1 q1) fun u s2 ⟨x,H2,I2,rx,q2⟩=>thn (hi pins s2 σ H2 _ I2 q2) fun iv s3 ⟨y,H3,I3,ry,a,H4,ex,g,q3⟩=>?_) hs
 subst ex
 obtain rfl:u=Value.ref a:=rx
 exact bk9 hu I3 g ry rv fun s4 I4=>⟨σ,H4,I4,q3⟩
end
theorem bv4 (h:Heap)(hb:F1<h.objs.size):D5 P w H (h.push { cls:=.type "dict",data:=.dict #[] }) h.objs.size (.dT []) :=
 ⟨n9 _,beq_eq_false_iff_ne.mpr (Ne.symm (j0 hb)),[],.nil,_,#[],0,d5 _ rfl,⟨rfl,rfl,rfl⟩,rfl,rfl,C0⟩
def bL3:TE:=fun _ H Q=>∀ p,H p=none->Q (.ref p) (upd H p (.dT []))
theorem aQ3:PE X (.Dict [] [] pos) bL3:=fun pins s σ H Q I h =>
 wpAny_Dict_empty ⟨.ref s.heap.objs.size,_,I.laid (a:=s.heap.objs.size) (o:=.dT []) (t':=s.toks) (fun _ _ q=>a6 _ q) (c5 _) (bv4 s.heap I.big),rfl,h _ (I.hok.fresh (c5 _))⟩
structure M1 (X:Cx) (o:Expr) (m:Str) (apos:Pos) (e:Expr) (cpos:Pos):Prop where
 base:aH2 o m X.env (eval o X.env)=eval o X.env
 few:((V7 cpos (x8 [e] X.env)).all (fun x=>!x.1) && (ba8 cpos (an5 [] X.env)).all (fun x=>x.1.isSome)
  && decide (([e]:List Expr).length+([]:List an4).length+(if ([]:List an4).isEmpty then 0 else 1)<30))=true
 line:(apos.endLine == cpos.line)=true
 trees:V7 cpos (x8 [e] X.env)=[(false,eval e X.env)]
structure M2 (X:Cx) (o:Expr) (m:Str) (apos:Pos) (e f:Expr) (cpos:Pos):Prop where
 base:aH2 o m X.env (eval o X.env)=eval o X.env
 few:((V7 cpos (x8 [e,f] X.env)).all (fun x=>!x.1) && (ba8 cpos (an5 [] X.env)).all (fun x=>x.1.isSome)
  && decide (([e,f]:List Expr).length+([]:List an4).length+(if ([]:List an4).isEmpty then 0 else 1)<30))=true
 line:(apos.endLine == cpos.line)=true
 trees:V7 cpos (x8 [e,f] X.env)=[(false,eval e X.env),(false,eval f X.env)]
def IsD (H:Hp)(a:Addr):Prop:=(∃ kvs,Rd H a (.dK kvs))\/∃ kvs,Rd H a (.dT kvs)
theorem bP9 (I:Inv X pins σ H s)(d:IsD H a) :
  s.TypeIs (.ref a) "dict"/\(∀ b,Value.ref a=.ref b->∃ ob,s.heap.get? b=some ob/\ob.dict=none)/\(a == F1)=false:=by
 rcases d with⟨kvs,e⟩ | ⟨kvs,e⟩
 ·obtain⟨_,hd,vs,_,dd⟩:=bv6 I.hok e
  refine⟨dd.typeIs,fun b q=>?_,hd⟩
  cases q
  obtain⟨ob,_,_,h1,h2,_⟩:=dd
  exact⟨ob,h1,h2.2.1⟩
 ·obtain⟨_,hd,xs,_,dd⟩:=at4 I.hok e
  refine⟨dd.typeIs,fun b q=>?_,hd⟩
  cases q
  obtain⟨ob,_,_,h1,h2,_⟩:=dd
  exact⟨ob,h1,h2.2.1⟩
section
variable {y d:V} {r:Value} {o:Option V}
end
section
variable {o f:Expr} {cpos:Pos} {td ty tx:TE}
end
section
variable {kvs:List (Key × V)}
end
section
variable {y:V}
end
end L2
namespace Att
open PySem PySem.W PySem.Calls PyProof.Rows
section
variable {K:Frag}
end
end Att
namespace L2
open PySem PySem.Spec PyProof.Rows
section
variable {K:W.Frag} {mg:Str->Option Value} {base:Heap}
end
section
variable {κ:Type} [DecidableEq κ]
theorem be7:∀ {l:List κ} {k:κ},l.Nodup->¬ k∈l->(l++[k]).Nodup
 | [],k,_,_=>by simp
 | a::r,k,h,hk=>by
  obtain⟨h1,h2⟩:=m9.mp h
  show (a::(r++[k])).Nodup
  refine m9.mpr ⟨fun m=>?_,be7 h2 fun m=>hk (c8.mpr (Or.inr m))⟩
  rcases n8.mp m with q | q
  ·exact h1 q
  ·exact hk (c8.mpr (Or.inl (d6.mp q).symm))
end
end L2
namespace L2
open PySem PySem.Spec PyProof.Rows PySem.SeqAt
theorem bb1:∀ {bs:List Bool} {its:List Value},B6 (bs.map V.bl) its->its=bs.map Value.bool
 | [],_,.nil=>rfl
 | b::bs,_,.cons r t=>by rw[bb1 t,show _=Value.bool b from r];rfl
theorem bB0 {a b:Expr}{tb:TE}(K:W.Frag)(hK:X.K=K)(ha:PE X a ta)(hb:PE X b tb)(hs:ax5 b):PE X (.Subscript a b pos) (tOp (bM4 K) ta tb):=by
 cases hK
 exact A6 y7 ha hb hs
theorem be0 {a b:Expr}{tb:TE}(K:W.Frag)(hK:X.K=K)(ha:PE X a ta)(hb:PE X b tb)(hs:ax5 b):PE X (.Subscript a b pos) (tOp (rIx K) ta tb):=by
 cases hK
 exact A6 bt8 ha hb hs
end L2
namespace L2
open PySem PySem.Spec PyProof.Rows
theorem bX1 {it:Expr}{w1 w2:TI}(h1:PI X tg it w1)(h2:PI X tg it w2):PI X tg it (fun σ H R=>w1 σ H R\/w2 σ H R):=
 fun pins s σ H R I h=>h.elim (h1 pins s σ H R I) (h2 pins s σ H R I)
def bw3 (x0:Str)(names:List (Str × av6))(cl:List (Str × Addr)):Bool:=names.all fun y=>(y.2 != .cell || y.1 == x0) && (y.2 != .free || (cl.lookup y.1).isSome)
def R0 (X:Cx)(x0:Str)(scope:Scope)(cl:List (Str × Addr))(N':List Str)(s₃:Shared)(H₃:Hp)(fp:List Addr)(xe':Value->Shared->Prop):Cx:=
 { X with N:=N',s₀:=s₃,H₀:=H₃,env:=M0 scope ((x0,s₃.heap.objs.size+1)::cl) s₃.heap.objs.size X.env,outer:=X.stack,ex:=fp,fn:=fun x=>x == x0,pn:=[],xe:=xe' }
theorem bD0 {x0:Str}{globals:Addr}{outer:Env}{Q:Env->Shared->Prop}
  (hcs:∀ n,bg9 n scope.names cl=(x0,n)::cl)(hpc:∀ h,pushCells h scope.names=h.push { cls:=.type "cell",data:=.cell none })
  (hQ:Q (newEnv scope s.heap.objs.size globals ((x0,s.heap.objs.size+1)::cl) qual none .none (some outer) av3) { s with heap:=(s.heap.push { cls:=.type "dict",data:=.dict #[] }).push { cls:=.type "cell",data:=.cell none } }) :
  k9 M A (newFunctionEnv scope globals cl [] qual none .none (some outer)) Q E s:=by
 simp only[newFunctionEnv,bx4,if_true]
 refine a5 (wpAny_alloc ?_)
 refine a5 (wpAny_layCells _ (fun name kind cells=>by cases hkc:kind == NameKind.cell<;>simp[hkc]) _ _ _ _ ?_)
 rw[hcs,hpc]
 have e:({ s with heap:=s.heap.push { cls:=.type "dict",data:=.dict #[] } }:Shared).heap.objs.size=s.heap.objs.size+1:=C1 ..
 rw[e]
 rw[List.forIn_nil]
 exact a5 (a8 (a8 hQ))
theorem aT4 {x0:Str}{H3:Hp}{s3:Shared}{h1:Heap}{tk:Nat}{xe':Value->Shared->Prop}{m0:Str->Option Value}
  (I:Inv X pins σ H3 s3)(hf:∀ b∈fp,R6 X pins H3 b)(hkind:scope.kind=.function)(hcl:as6 X.env cl)(hfr:bw3 x0 scope.names cl=true)(hx0:cl.lookup x0=none)(hc0:h1.IsCell (s3.heap.objs.size+1) none)(hlk:ba0 X N' lk scope cl)
  (hn:h1.Ns s3.heap.objs.size m0)(hk:∀ b u,s3.heap.get? b=some u->h1.get? b=some u)(hfs:∀ b∈fp,b<s3.heap.objs.size):Inv (R0 X x0 scope cl N' s3 H3 fp xe') [] (X6 lk σ) H3 { s3 with heap:=h1,toks:=tk }:=by
 have hC:H3 s3.heap.objs.size=none:=I.hok.fresh (c5 _)
 have hC0:H3 (s3.heap.objs.size+1)=none:=I.hok.fresh (P8 _)
 have hmem:∀ y∈scope.names,(y.2=.cell->y.1=x0)/\(y.2=.free->(cl.lookup y.1).isSome=true):=fun y hy=>by
  unfold bw3 at hfr
  rw[D0]at hfr
  have:=hfr y hy
  rw[v7]at this
  refine⟨fun e=>?_,fun e=>?_⟩
  ·have h1:=this.1
   rw[e]at h1
   simpa using h1
  have h2:=this.2
  rw[e]at h2
  simpa using h2
 have hcell:∀ x c,cl.lookup x=some c->X.env.cells.lookup x=some c:=fun x c e=>hcl.get e
 have hlook:∀ x c,((x0,s3.heap.objs.size+1)::cl:List (Str × Addr)).lookup x=some c->(x=x0/\c=s3.heap.objs.size+1)\/cl.lookup x=some c:=fun x c e=>by
  rw[V1]at e
  cases hb:x == x0 with
  | true=>rw[hb]at e;cases e;exact .inl ⟨eq_of_beq hb,rfl⟩
  | false=>rw[hb]at e;exact .inr e
 have hsome:∀ x,x=x0\/(cl.lookup x).isSome=true->(((x0,s3.heap.objs.size+1)::cl:List (Str × Addr)).lookup x).isSome=true:=fun x h=>by
  rw[V1]
  cases hb:x == x0 with
  | true=>rfl
  | false =>
   rcases h with h | h
   ·rw[h]at hb;simp at hb
   ·exact h
 have clt:∀ x c,cl.lookup x=some c->c<s3.heap.objs.size:=fun x c e=>by
  obtain⟨v,q⟩:=I.cell x c (hcell x c e)
  exact q.lt
 refine⟨⟨I.ok.mod,hkind,I.ok.glob,I.ok.blt,c5 _,fun x y c e1 e2=>?_,fun x hx=>?_,fun x c hf e=>?_,I.ok.hd,I.ok.frames,.inl rfl,fun b hb=>?_,fun b o e=>I.bs b o e,t9 I.ok.bsz I.sz,fun b o e hb=>?_,fun b hb z=>?_,I.stack,I.stkFree⟩,
  rfl,I.bare,Un.kept hk,⟨m0,hn,fun i x v e1 e2 e3=>?_⟩,fun x c e=>?_,hC,fun x c e=>?_,(fun p hp=>nomatch hp),I.hok.kept hk,?_⟩
 ·rcases hlook x c e1 with⟨z1,z2⟩ | d1
  ·rcases hlook y c e2 with⟨z3,_⟩ | d2
   ·rw[z1,z3]
   ·rw[z2]at d2;exact absurd (clt _ _ d2) (aH0.mpr (P8 _))
  ·rcases hlook y c e2 with⟨_,z4⟩ | d2
   ·rw[z4]at d1;exact absurd (clt _ _ d1) (aH0.mpr (P8 _))
   ·exact I.ok.inj x y c (hcell x c d1) (hcell y c d2)
 ·have hx':(relabel scope X.env).names.lookup x=some .cell\/(relabel scope X.env).names.lookup x=some .free:=hx
  have:∃ k',(x,k')∈scope.names/\(k'=.free\/k'=.cell):=by
   rcases hx' with h | h
   ·obtain⟨k',h1,h2⟩:=P9 h
    rcases h2 with h2 | h2
    ·exact⟨k',h1,.inr h2⟩
    ·exact⟨k',h1,.inl h2.1⟩
   ·obtain⟨k',h1,h2⟩:=P9 h
    rcases h2 with h2 | h2
    ·exact⟨k',h1,.inl h2⟩
    ·exact⟨k',h1,.inl h2.1⟩
  obtain⟨k',h1,h2⟩:=this
  refine p7.mp (hsome x ?_)
  rcases h2 with h2 | h2
  ·exact .inr ((hmem _ h1).2 h2)
  ·exact .inl ((hmem _ h1).1 h2)
 ·have hf':(x == x0)=true:=hf
  rcases hlook x c e with⟨_,rfl⟩ | e
  ·show s3.heap.objs.size<=_
   omega
  ·rw[eq_of_beq hf',hx0]at e
   cases e
 ·obtain⟨f0,f1,f2,f3,f4,f5⟩:=hf b hb
  refine⟨j0 (hfs b hb),fun x c e=>?_⟩
  rcases hlook x c e with⟨_,rfl⟩ | e
  ·exact M5 (u7 (hfs b hb))
  ·exact f4 x c (hcell x c e)
 ·obtain⟨f0,f1,f2,f3,f4,f5⟩:=hf b hb
  rcases f3 with f3 | f3
  ·exact I.ok.noex b o e f3
  ·exact absurd (o8 (c9 e) (t9 I.ok.bsz f3)) (A3 _)
 ·obtain⟨f0,f1,f2,f3,f4,f5⟩:=hf b hb
  rcases c8.mp (I.stkSub b z) with e | e
  ·exact f1 e
  ·exact f2 e
 ·-- a captured name
  have e2':(X6 lk σ)[i]?=some (some v):=e2
  unfold X6 at e2'
  rw[j6]at e2'
  cases hq:lk[i]? with
  | none=>rw[hq]at e2';cases e2'
  | some o =>
   rw[hq]at e2'
   have e2'':(o.bind fun j=>(σ[j]?).join)=some v:=Option.some.inj e2'
   cases o with
   | none=>cases e2''
   | some j =>
    obtain⟨q1,q2,q3,q4⟩:=hlk.2 i j x e1 hq
    have hσ:σ[j]?=some (some v):=by
     have z:(σ[j]?).join=some v:=e2''
     cases hh:σ[j]? with
     | none=>rw[hh]at z;cases z
     | some o=>rw[hh]at z;rw[show o=some v from z]
    obtain⟨m,hnX,hl⟩:=I.loc
    obtain⟨u,r,lo⟩:=hl j x v q1 hσ (q2.elim (fun a=>.inr (.inl a)) (fun a=>.inr (.inr a)))
    refine⟨u,r,.inr ?_⟩
    obtain⟨c,hc⟩:=p7.mp q3
    have hne:(x == x0)=false:=by
     cases hb:x == x0 with
     | false=>rfl
     | true=>rw[eq_of_beq hb,hx0]at hc;cases hc
    refine⟨q4,c,by show ((x0,s3.heap.objs.size+1)::cl:List (Str × Addr)).lookup x=some c;rw[V1,hne];exact hc,?_⟩
    have hcX:=hcell x c hc
    rcases lo with⟨k,_⟩ | ⟨_,c',hc',z⟩
    ·have k':X.env.scope.names.lookup x=some .local:=k
     rw[k']at q2
     rcases q2 with q2 | q2<;>cases q2
    ·rw[hcX]at hc'
     cases hc'
     obtain⟨o,ho,hd⟩:=z
     exact⟨o,hk c o ho,hd⟩
 ·rcases hlook x c e with⟨_,rfl⟩ | e
  ·exact⟨none,hc0⟩
  ·obtain⟨v,o,ho,hd⟩:=I.cell x c (hcell x c e)
   exact⟨v,o,hk c o ho,hd⟩
 ·rcases hlook x c e with⟨_,rfl⟩ | e
  ·exact hC0
  ·exact I.freeC x c (hcell x c e)
 ·show (X6 lk σ).length=N'.length
  unfold X6
  rw[b8]
  exact hlk.1
theorem br8 {x0:Str}{elt iter:Expr}{ifs:List Expr}{wi:TI}{g:TG}{tt:TT}(hc:X.calm=true)(hi:PI X tg iter wi)(hclos:av9 scope X.env=pure cl)(hkind:scope.kind=.function)
  (hnames:∀ y∈scope.names,y.2=.local->scope.names.lookup y.1=some .local)(hcl:as6 X.env cl)(hfr:bw3 x0 scope.names cl=true)(hx0:cl.lookup x0=none)(hcs:∀ n,bg9 n scope.names cl=(x0,n)::cl)(hpc:∀ h,pushCells h scope.names=h.push { cls:=.type "cell",data:=.cell none })(hlk:ba0 X N' lk scope cl)
  (hg:∀ s3 H3 fp,PG (R0 X x0 scope cl N' s3 H3 fp fun _ _=>False) tg g)(ht:∀ s3 H3 fp,PTs (R0 X x0 scope cl N' s3 H3 fp fun _ _=>False) ifs tt)(he:∀ s3 H3 fp,PE (R0 X x0 scope cl N' s3 H3 fp fun _ _=>False) elt te)
  (hs:∀ x,aa4 iter X.env x=pure x:=by intro _;rfl):PE X (.ListComp elt [⟨tg,iter,ifs,0⟩] scope pos) (bc2 wi lk g tt te):=by
 intro pins s σ H Q I h
 rw[eval_ListComp]
 refine al7 (use:=none) rfl hs hclos hkind hnames (thn (hi pins s σ H _ I h) fun v s1 h1=>thn h1 fun itv s2 h2=>?_)
 obtain⟨it,fp,tn,J,H2,e,I2,T,st2,f2,q⟩:=h2
 subst e
 refine T8 ?_ (n9 _)
 have hD:H2 s2.heap.objs.size=none:=I2.hok.fresh (c5 _)
 have I3:=I2.lnew (ys:=[]) (its:=[]) (t':=s2.toks) .nil (n9 _)
 obtain⟨W,⟨m0,w0⟩,turn⟩:=q s2.heap.objs.size hD
 have fpl:∀ b∈fp,b<s2.heap.objs.size:=fun b hb=>by
  obtain⟨o,ho,_⟩:=T.obj 0 s2.heap st2 b hb
  exact c9 ho
 refine bD0 hcs hpc ?_
 dsimp only
 have e3:s2.heap.push { cls:=.type "list",dict:=none,data:=.seq ([]:List Value).toArray }=s2.heap.push { cls:=.type "list",data:=.seq ([]:List Value).toArray }:=rfl
 generalize hh3:s2.heap.push { cls:=.type "list",dict:=none,data:=.seq ([]:List Value).toArray }=h3 at *
 have I3':Inv X pins σ (upd H2 s2.heap.objs.size (.lst [])) { s2 with heap:=h3,toks:=s2.toks }:=I3
 have size3:h3.objs.size=s2.heap.objs.size+1:=by rw[<- hh3,C1]
 have f3:∀ b∈fp,R6 X pins (upd H2 s2.heap.objs.size (.lst [])) b:=fun b hb=>by
  obtain⟨f0,fr⟩:=f2 b hb
  exact⟨by rw[n4 (j0 (fpl b hb))];exact f0,fr⟩
 have hns1:((h3.push { cls:=.type "dict",data:=.dict #[] }).push { cls:=.type "cell",data:=.cell none }).Ns h3.objs.size (fun _=>none):=(Heap.Ns.new h3 (.type "dict")).keeps fun b o e=>a6 _ e
 have hc0:((h3.push { cls:=.type "dict",data:=.dict #[] }).push { cls:=.type "cell",data:=.cell none }).IsCell (h3.objs.size+1) none:=⟨_,by rw[<- C1 h3 { cls:=.type "dict",data:=.dict #[] }];exact d5 _ rfl,rfl⟩
 have up:∀ b u,h3.get? b=some u->((h3.push { cls:=.type "dict",data:=.dict #[] }).push { cls:=.type "cell",data:=.cell none }).get? b=some u:=fun b u eb=>a6 _ (a6 _ eb)
 generalize (h3.push { cls:=.type "dict",data:=.dict #[] }).push { cls:=.type "cell",data:=.cell none }=h1 at hns1 hc0 up ⊢
 have I4:Inv (R0 X x0 scope cl N' { s2 with heap:=h3,toks:=s2.toks } (upd H2 s2.heap.objs.size (.lst [])) fp fun _ _=>False) [] (X6 lk σ) (upd H2 s2.heap.objs.size (.lst [])) { s2 with heap:=h1,toks:=s2.toks }:=
  aT4 (s3:={ s2 with heap:=h3,toks:=s2.toks }) I3' f3 hkind hcl hfr hx0 hc0 hlk hns1 up fun b hb=>by show b<h3.objs.size;rw[size3];exact u7 (fpl b hb)
 have st4:tn 0 h1:=T.keep 0 s2.heap h1 st2 fun b hb o eb=>up b o (by rw[<- hh3];exact a6 _ eb)
 have hCs:h3.objs.size=(M0 scope ((x0,h3.objs.size+1)::cl) h3.objs.size X.env).locals:=rfl
 have stat:∀ {H':Hp},(∀ b∈fp,H' b=none)->∀ b∈fp,R6 (R0 X x0 scope cl N' { s2 with heap:=h3,toks:=s2.toks } (upd H2 s2.heap.objs.size (.lst [])) fp fun _ _=>False) [] H' b:=fun {H'} hn b hb=>by
  obtain⟨f0,f1,f2',f3',f4,f5⟩:=f3 b hb
  refine⟨hn b hb,?_,fun z=>?_,.inl hb,fun x c ex=>?_,fun p hp=>nomatch hp⟩
  ·show b≠h3.objs.size
   rw[size3]
   exact j0 (u7 (fpl b hb))
  ·rcases c8.mp (I3'.stkSub b z) with q | q
   ·exact f1 q
   ·exact f2' q
  ·have ex':((x0,h3.objs.size+1)::cl:List (Str × Addr)).lookup x=some c:=ex
   rw[V1]at ex'
   cases hb0:x == x0 with
   | true =>
    rw[hb0]at ex'
    cases ex'
    exact M5 (u7 (by rw[size3];exact u7 (fpl b hb)))
   | false =>
    rw[hb0]at ex'
    exact f4 x c (hcl.get ex')
 have fin:∀ (s':Shared) (σ':St) (H':Hp),Inv (R0 X x0 scope cl N' { s2 with heap:=h3,toks:=s2.toks } (upd H2 s2.heap.objs.size (.lst [])) fp fun _ _=>False) [] σ' H' s'->Q (.ref s2.heap.objs.size) H' ->
   aH3 (n6 X.prog X.w) X.A X.xe none (EP X pins σ Q) (.ref s2.heap.objs.size) h3.objs.size (.ok .next) s':=fun s' σ' H' I' q'=>by
  obtain⟨m,hm,_⟩:=id I'.loc
  have I5:Inv X pins σ H' s':=I3'.call' (ch:=fp) I'.os I'.base I'.hok I'.bare fun b hb=>by
   obtain⟨f0,f1,f2',f3',f4,f5⟩:=f3 b hb
   exact⟨f3',f1,f4,f5⟩
  refine⟨m,hm,fun h' hsb=>?_⟩
  refine⟨.ref s2.heap.objs.size,H',?_,rfl,q'⟩
  have hfc:H' h3.objs.size=none:=I'.free
  have hcl1:∀ b o,h3.get? b=some o->b≠h3.objs.size:=fun b o eb=>j0 (c9 eb)
  obtain⟨h0',g0,d0,t0,o0⟩:=s'
  refine I5.turned (t':=t0) (it:=h3.objs.size) (fun b o hb eb=>(hsb.2 b hb).trans eb) hfc ?_ (.inr I3'.sz) (fun x c ex z=>?_) (fun p hp z=>?_)
  ·exact M5 I3'.lt
  ·obtain⟨v',q2⟩:=I3'.cell x c ex
   exact absurd q2.lt (by rw[z];exact A3 _)
  ·exact absurd (c9 (I3'.pin p hp).1) (by rw[z];exact A3 _)
 have loop:∀ s5:Shared,s5={ s2 with heap:=h1,toks:=s2.toks } ->
   V2 (n6 X.prog X.w) X.A (.compLoop (.ListComp elt [⟨tg,iter,ifs,0⟩] scope pos) 0 (.ref it) (.ref s2.heap.objs.size) (M0 scope ((x0,h3.objs.size+1)::cl) h3.objs.size X.env)) (aH3 (n6 X.prog X.w) X.A X.xe none (EP X pins σ Q) (.ref s2.heap.objs.size) h3.objs.size) s5:=by
  rintro s5 rfl
  refine bJ7 rfl (fun n s'=>∃ i xs σ' H',Inv (R0 X x0 scope cl N' { s2 with heap:=h3,toks:=s2.toks } (upd H2 s2.heap.objs.size (.lst [])) fp fun _ _=>False) [] σ' H' s'/\tn i s'.heap/\(∀ b∈fp,H' b=none)/\W i n xs σ' H')
   (fun n s6 hI=>?_) m0 ⟨0,[],X6 lk σ,_,I4,st4,fun b hb=>(f3 b hb).1,w0⟩
  obtain⟨i,xs,σ6,H6,I6,st6,fr6,w6⟩:=hI
  show k9 _ X.A ((compTurn (.ListComp elt [⟨tg,iter,ifs,0⟩] scope pos) 0 (.ref it) (.ref s2.heap.objs.size) (M0 scope ((x0,h3.objs.size+1)::cl) h3.objs.size X.env)).onRaise (fun x=>do noteFrame x (M0 scope ((x0,h3.objs.size+1)::cl) h3.objs.size X.env);bh6 x)) _ _ s6
  refine bT9 ?_
  rw[bx7]
  refine a5 (an6 (a5 ?_))
  obtain⟨hD6,hw⟩:=turn i n xs σ6 H6 w6
  rcases hw with⟨stop,qn⟩ | ⟨go,hlen,step⟩
  ·refine thn (T.done (R0 X x0 scope cl N' { s2 with heap:=h3,toks:=s2.toks } (upd H2 s2.heap.objs.size (.lst [])) fp fun _ _=>False) rfl rfl rfl hc i [] s6 σ6 H6 _ I6 (stat fr6) st6 stop) fun r s7 ⟨hr,I7⟩=>?_
   subst hr
   exact a8 (fin s7 σ6 H6 I7 qn)
  ·refine thn (T.item (R0 X x0 scope cl N' { s2 with heap:=h3,toks:=s2.toks } (upd H2 s2.heap.objs.size (.lst [])) fp fun _ _=>False) rfl rfl rfl hc i [] s6 σ6 H6 _ I6 (stat fr6) st6 go) fun r s7 ⟨u,hr,h7⟩=>?_
   subst hr
   refine a5 (thn h7 fun _ s8 ⟨x,H8,I8,r8,y8,st8,fr8⟩=>?_)
   have I8':=I8.pinned (stat fr8) (T.obj _ _ st8)
   refine a5 (C2 (hg _ _ _ _ s8 σ6 H8 x u _ I8' r8 (step x H8 y8)) (fun _ s9 ⟨σ9,H9,I9,q9⟩=>?_) (fun _ _ z=>False.elim z))
   refine a5 (C2 (ht _ _ _ _ s9 σ9 H9 _ I9 q9) (fun ok s10 ⟨H10,I10,q10⟩=>?_) (fun _ _ z=>False.elim z))
   have again:∀ {σ':St} {H':Hp} {ys:List V} {s':Shared},Inv (R0 X x0 scope cl N' { s2 with heap:=h3,toks:=s2.toks } (upd H2 s2.heap.objs.size (.lst [])) fp fun _ _=>False) ([]++ah3 fp s8.heap) σ' H' s'->(∃ m',m'<n/\W (i+1) m' ys σ' H') ->
     ∃ m',m'<n/\∃ i xs σ' H',Inv (R0 X x0 scope cl N' { s2 with heap:=h3,toks:=s2.toks } (upd H2 s2.heap.objs.size (.lst [])) fp fun _ _=>False) [] σ' H' s'/\tn i s'.heap/\(∀ b∈fp,H' b=none)/\W i m' xs σ' H':=fun {σ' H' ys s'} I' ⟨m',hm,w'⟩=>by
    refine⟨m',hm,i+1,ys,σ',H',I'.unpinned,T.keep _ _ _ st8 fun b hb o eb=>(I'.pin (b,o) (j8 _ (j8 _ (N6 hb eb)))).1,fun b hb=>?_,w'⟩
    obtain⟨o,eb,_⟩:=T.obj _ _ st8 b hb
    exact(I'.pin (b,o) (j8 _ (j8 _ (N6 hb eb)))).2.1
   cases ok with
   | false =>
    have q10':∃ m',m'<n/\W (i+1) m' xs σ9 H10:=by simpa using q10
    exact a8 ⟨rfl,again I10 q10'⟩
   | true =>
    rw[if_pos rfl]at q10
    refine a5 (a5 (C2 (he _ _ _ _ s10 σ9 H10 _ I10 q10) (fun y s11 ⟨v11,H11,I11,r11,hD11,q11⟩=>?_) (fun _ _ z=>False.elim z)))
    refine a5 (C2 (O9 (X:=R0 X x0 scope cl N' { s2 with heap:=h3,toks:=s2.toks } (upd H2 s2.heap.objs.size (.lst [])) fp fun _ _=>False) _ s11 σ9 H11 (.ref s2.heap.objs.size) [v11] (.ref s2.heap.objs.size) [y] (fun _ H'=>∃ m',m'<n/\W (i+1) m' (xs++[v11]) σ9 H') I11 rfl (.cons r11 .nil) ⟨s2.heap.objs.size,xs,v11,rfl,rfl,hD11,hlen,q11⟩) (fun _ s12 ⟨_,H12,I12,_,q12⟩=>?_) (fun _ _ z=>False.elim z))
    exact a8 (a8 ⟨rfl,again I12 q12⟩)
 exact aq3 (loop _ rfl) (T.self X.A 0 _ _ _ st4 (loop _ rfl))
end L2
namespace L2
open PySem PySem.Spec PyProof.Rows PySem.SeqAt
def am8 (h:Heap)(d:Addr)(es:Array K4)(ep:Nat):Prop:=∃ o,h.get? d=some o/\o.ExactDict/\o.data=.dict es ep
theorem am8.typeIs {es:Array K4}(x:am8 s.heap d es ep):s.TypeIs (.ref d) "dict":=let ⟨o,ho,hc,_⟩:=x;⟨o,ho,hc.1⟩
theorem am8.at' {es:Array K4}(x:am8 h d es ep)(e:∀ o,h.get? d=some o->h'.get? d=some o):am8 h' d es ep:=let ⟨o,ho,r⟩:=x;⟨o,e _ ho,r⟩
theorem aQ0 {es:Array K4}(hd:(d == F1)=false)(hm:am8 s.heap d es ep)
  (hQ:Q (.ref s.heap.objs.size) { s with heap:=s.heap.push { cls:=.type "dict_keyiterator",data:=.fields #[.ref d,.int 0 0,.int es.size 0,.int ep 0] } }) :
  k9 (n6 prog w) A (bg7 (.ref d)) Q E s:=by
 have hT:=hm.typeIs
 obtain⟨o,ho,hc,hdat⟩:=id hm
 refine aN3 hT PySem.F.slot_dict_iter (C3 PySem.F.slot_dict_iter hT PySem.F.entry_dict_iter ?_ (PySem.F.args_dict_iter_1 _))
 unfold Builtin.«dict.__iter__»
 refine a5 ?_
 unfold Builtin.Dict.dictSlotNone
 refine a5 (au0 hT ?_)
 show k9 _ _ (pure (Value.ref d)) _ _ s
 refine a8 ?_
 show k9 _ _ (Builtin.Dict.showsAll d >>= _) _ _ s
 unfold Builtin.Dict.showsAll
 rw[if_neg (by rw[hd];exact d4)]
 refine a5 (a8 ?_)
 refine a5 (B2 ho hdat ?_)
 refine a5 (Y6 ho hdat ?_)
 refine a5 (J0 (a8 ⟨_,rfl,"dict_keyiterator",_,⟨_,d5 _ rfl,rfl⟩,PySem.F.slot_dict_keyiterator_next.lookup,?_⟩))
 simpa [R9] using hQ
theorem bq4 {it:Addr}{es:Array K4}{e:K4}{Q:Option Value->Shared->Prop}(hit:s.heap.IsKeyIter it d i es.size ep)
  (hm:am8 s.heap d es ep)(hx:es[i]?=some e)(hQ:∀ h',h'.IsKeyIter it d (i+1) es.size ep->Heap.SameBut it s.heap h'->Q (some e.key) { s with heap:=h' }) :
  k9 (n6 prog w) A (aq0 (.ref it)) Q E s:=by
 obtain⟨o,ho,hc,hd⟩:=id hit
 obtain⟨od,hod,hcd,hdd⟩:=id hm
 unfold aq0
 refine a5 (ae0 (Q8 (name:=Str.ofString "__next__") hit.typeIs PySem.F.slot_dict_keyiterator_next
  (C3 PySem.F.slot_dict_keyiterator_next hit.typeIs PySem.F.entry_dict_keyiterator_next ?_ (PySem.F.args_dict_keyiterator_next_1 _))))
 refine a5 (a8 ?_)
 refine a5 ?_
 refine a5 ?_
 first | refine a5 (R3 hit.typeIs (a8 ?_)) | refine a5 (Y1 hit.typeIs (a8 ?_))
 refine a5 (aC1 ho hd ?_)
 have hown:Builtin.Dict_items.ownsTuple "dict_keyiterator"=false:=by decide
 simp only[hown,d7,if_false]
 show k9 _ _ (if (Value.ref d == Value.none)=true then _ else _) _ _ s
 rw[if_neg (show ¬ ((Value.ref d == Value.none)=true) from d4)]
 refine a5 (a8 ?_)
 refine a5 (B2 hod hdd ?_)
 rw[if_neg (by simp)]
 refine a5 (a8 ?_)
 refine a5 (Y6 hod hdd ?_)
 rw[if_neg (by simp)]
 refine a8 ?_
 simp only[show ¬ ((i:Int)<0) from by omega,if_false,P1,hx]
 refine a5 ?_
 first | refine a5 (R3 hit.typeIs (a8 ?_)) | refine a5 (Y1 hit.typeIs (a8 ?_))
 refine a5 (bK0 hit.typeIs ?_)
 show k9 _ _ (by0 (.ref it) 1 (R9 ((i:Int)+1)) >>= _) _ _ s
 refine a5 (ak2 ho hd (by simp) ?_)
 have hit':(s.heap.update it (Obj.mapFields (·.setIfInBounds 1 (R9 ((i:Int)+1))))).IsKeyIter it d (i+1) es.size ep:=
  ⟨_,x9 _ ho (Obj.isFreed_of_fields (Obj.data_mapFields hd _)),(Obj.cls_mapFields ..).trans hc,by rw[Obj.data_mapFields hd];simp[R9]⟩
 refine a5 (v8 ?_)
 refine a5 (bK0 (s:={ s with heap:=s.heap.update it (Obj.mapFields (·.setIfInBounds 1 (R9 ((i:Int)+1)))) }) hit'.typeIs ?_)
 show k9 _ _ (pure e.key) _ _ _
 exact a8 (a8 ⟨_,rfl,a8 (hQ _ hit' (Heap.SameBut.update ..))⟩)
theorem bA2 {it:Addr}{es:Array K4}{Q:Option Value->Shared->Prop}(hh:A.handled=none)(hit:s.heap.IsKeyIter it d i es.size ep)
  (hm:am8 s.heap d es ep)(hx:es.size<=i)(hQ:∀ h',Heap.ExtBut it s.heap h'->Q none { s with heap:=h' }):k9 (n6 prog w) A (aq0 (.ref it)) Q E s:=by
 obtain⟨o,ho,hc,hd⟩:=id hit
 obtain⟨od,hod,hcd,hdd⟩:=id hm
 unfold aq0
 refine a5 (ae0 (Q8 (name:=Str.ofString "__next__") hit.typeIs PySem.F.slot_dict_keyiterator_next
  (C3 PySem.F.slot_dict_keyiterator_next hit.typeIs PySem.F.entry_dict_keyiterator_next ?_ (PySem.F.args_dict_keyiterator_next_1 _))))
 refine a5 (a8 ?_)
 refine a5 ?_
 refine a5 ?_
 first | refine a5 (R3 hit.typeIs (a8 ?_)) | refine a5 (Y1 hit.typeIs (a8 ?_))
 refine a5 (aC1 ho hd ?_)
 have hown:Builtin.Dict_items.ownsTuple "dict_keyiterator"=false:=by decide
 simp only[hown,d7,if_false]
 show k9 _ _ (if (Value.ref d == Value.none)=true then _ else _) _ _ s
 rw[if_neg (show ¬ ((Value.ref d == Value.none)=true) from d4)]
 refine a5 (a8 ?_)
 refine a5 (B2 hod hdd ?_)
 rw[if_neg (by simp)]
 refine a5 (a8 ?_)
 refine a5 (Y6 hod hdd ?_)
 rw[if_neg (by simp)]
 refine a8 ?_
 simp only[show ¬ ((i:Int)<0) from by omega,if_false,P1,al2 hx]
 refine a5 ?_
 first | refine a5 (R3 hit.typeIs (a8 ?_)) | refine a5 (Y1 hit.typeIs (a8 ?_))
 show k9 _ _ (by0 (.ref it) 0 .none >>= _) _ _ s
 refine a5 (ak2 ho hd (by simp) ?_)
 show k9 _ _ (newExc (.type "StopIteration") [] >>= _) _ _ _
 refine a5 ?_
 simp only[newExc,newTuple]
 refine a5 (J0 ?_ (by size_fits))
 refine a5 (m:=aC2 _ _) (bU0 (a:=Value.none) (by first | rfl | (simp only[aC2];rfl)) ?_)
 refine J0 ?_ (by size_fits)
 simp only[raiseNew]
 refine a5 (wpAny_handled ?_)
 rw[show A.in1.handled=none from hh]
 refine a5 (a8 (wpAny_throw ?_))
 refine a5 (K2 (T:="StopIteration") (b:=true) ⟨_,d5 _ rfl,rfl⟩ isSubtype_stop ?_)
 exact a8 (hQ _ (((Heap.SameBut.update ..).extBut.push _).push _))
theorem az2 (hh:A.handled=none)(I d:Addr)(hne:d≠I)(es:Array K4)(ep:Nat) :
  Walks prog w A I [I,d] [I] es.size (fun i v=>∃ e,es[i]?=some e/\v=e.key) (fun i h=>h.IsKeyIter I d i es.size ep/\am8 h d es ep) where
 sub:=fun b hb=>by simp at hb;simp[hb]
 frame:=fun _ _ _ st hk=>⟨st.1.at fun o e=>hk I (by simp) o e,st.2.at' fun o e=>hk d (by simp) o e⟩
 item:=fun i s Q E hi st hQ=>by
  obtain⟨e,hx⟩:∃ e,es[i]?=some e:=⟨es[i],by simp[hi]⟩
  refine bq4 st.1 st.2 hx fun h' hit' hs'=>?_
  exact hQ e.key h' s.toks ⟨e,hx,rfl⟩ ⟨hit',st.2.at' fun o q=>hs'.extBut d o hne q⟩ fun b o hb q=>hs'.extBut b o (fun h=>hb (by simp[h])) q
 done:=fun s Q E st hQ=>bA2 hh st.1 st.2 (c5 _) fun h' he'=>hQ h' s.toks fun b o hb e=>he' b o (fun h=>hb (by simp[h])) e
 self:=fun _ _ _ _ st hQ=>bS8 st.1 hQ
theorem bq6 {es:Array K4}{Q:Bool->Shared->Prop}(hr:am8 s.heap d es ep)(h:Q false s):k9 (n6 prog w) A (Builtin.List.listLengthHint (.ref d)) Q E s:=by
 have hT:=hr.typeIs
 unfold Builtin.List.listLengthHint
 refine a5 (T4 hT PySem.F.slot_dict_len.lookup ?_)
 generalize hid:("dict.__len__":String)=id0
 wp_delta
 rw[show splitId id0=some ("dict","__len__") from by subst hid;decide +kernel]
 subst hid
 refine a5 (K2 (T:="dict") (b:=true) hT (by rw[V8];kernel_rfl) ?_)
 refine J8 (fun hab=>absurd hab (by decide)) (fun _=>?_)
 refine J8 (fun _=>?_) (fun hab=>absurd (by decide +kernel) hab)
 refine a5 (ab9 hT ?_)
 exact a8 h
theorem aX4 {R:bJ1->Shared->Prop} {es:Array K4} (hh:A.handled=none) (hd:(d == F1)=false) (hr:am8 s.heap d es ep) (hlen:es.size<=i7) (S:Addr) (res:Value) (c₀:Nat) (hS:s.heap.get? S=some { cls:=.type "list",data:=.seq #[] c₀ })
  (hR : ∀ h' tk acc' c', (∀ b o, b ≠ S -> s.heap.get? b = some o -> h'.get? b = some o) -> h'.get? S = some { cls := .type "list", dict := none, data := .seq acc' c', slots := #[] } ->
   aN4 (fun i v=>∃ e,es[i]?=some e/\v=e.key) acc' es.size->R (.ok (.ret res)) { s with heap:=h',toks:=tk }) :
  k9 (n6 prog w) A.in1 (Builtin.List.listExtendWith (.ref S) (.ref d) res)
   (fun fin s'=>match fin with | .done f=>R (.ok f) s' | .again c'=>c'.quiet=true/\V2 (n6 prog w) A c' R s') (fun e s'=>R (.error e) s') s:=by
 have hSd:S≠d:=fun e=>by
  obtain⟨o,ho,_,hx⟩:=hr
  rw[e,ho]at hS
  cases hS
  cases hx
 have hdlt:d<s.heap.objs.size:=let ⟨o,ho,_⟩:=hr;c9 ho
 have hSlt:S<s.heap.objs.size:=c9 hS
 have hSI:S≠s.heap.objs.size:=j0 hSlt
 have hSf:S∉[s.heap.objs.size,d]:=fun hm=>by
  rcases c8.mp hm with e | e
  ·exact hSI e
  ·exact hSd (d6.mp e)
 have W:=(az2 (prog:=prog) (w:=w) (A:=A.in1) hh s.heap.objs.size d (j0 hdlt) es ep).toS
 have key:∀ (h:Heap) (c₁ tk:Nat),h.IsKeyIter s.heap.objs.size d 0 es.size ep->am8 h d es ep->(∀ b o,b≠S->s.heap.get? b=some o->h.get? b=some o) ->
   h.get? S=some { cls:=.type "list",data:=.seq #[] c₁ }->V2 (n6 prog w) A (.builtin "list.extend.loop" ⟨[.ref S,.ref s.heap.objs.size,res],[]⟩) R { s with heap:=h,toks:=tk }:=by
  intro h c₁ tk hit hr1 hk hS₁
  refine ax8 W hlen S hSf res es.size 0 _ #[] c₁ rfl (n9 _) ⟨hit,hr1⟩ hS₁ (ItemsOf.nil _) fun s' acc' c' hm hS' hacc=>?_
  rw[Moved.eq_with hm]
  refine hR s'.heap s'.toks acc' c' (fun b o hb e=>hm.heap b o (fun hmem=>?_) (hk b o hb e)) hS' hacc
  rcases c8.mp hmem with e' | hmem
  ·exact hb e'
  ·exact absurd (c9 e) (by rw[d6.mp hmem];exact A3 _)
 unfold Builtin.List.listExtendWith
 refine a5 (ab9 hr.typeIs ?_)
 have h1:Builtin.List.listSameRef (.ref S) (.ref d)=false:=by simp[Builtin.List.listSameRef,hSd]
 have h2:(Value.type "dict" == Value.type "list")=false:=by decide
 have h3:(Value.type "dict" == Value.type "tuple")=false:=by decide
 simp only[h1,h2,h3,ak3,d7,if_false]
 refine a5 (aQ0 hd hr ?_)
 have hr₁:am8 (s.heap.push { cls:=.type "dict_keyiterator",data:=.fields #[.ref d,.int 0 0,.int es.size 0,.int ep 0] }) d es ep:=hr.at' fun o e=>a6 _ e
 refine a5 (v8 (bq6 hr₁ ?_))
 have hit₁:(s.heap.push { cls:=.type "dict_keyiterator",data:=.fields #[.ref d,.int 0 0,.int es.size 0,.int ep 0] }).IsKeyIter s.heap.objs.size d 0 es.size ep:=⟨_,d5 _ rfl,rfl,rfl⟩
 have hS₁:=a6 { cls:=.type "dict_keyiterator",data:=.fields #[.ref d,.int 0 0,.int es.size 0,.int ep 0] } hS
 refine J8 (fun _=>?_) (fun _=>a8 ⟨N0 PySem.F.plain_extend_loop _,key _ c₀ _ hit₁ hr₁ (fun b o _ e=>a6 _ e) hS₁⟩)
 refine a5 (aN2 ?_)
 refine a5 ?_
 show k9 _ _ (aH4 S (·.push .none) >>= fun _=>aH4 S (·.pop)) _ _ _
 refine a5 (Y7 hS₁ rfl ?_)
 have hS₂:=x9 (Obj.mapSeq (·.push Value.none)) hS₁ rfl
 refine Y7 (hz:=by seq_fits) hS₂ rfl ?_
 have hS₃:=x9 (Obj.mapSeq (·.pop)) hS₂ rfl
 have oth:∀ b o,b≠S->(s.heap.push { cls:=.type "dict_keyiterator",data:=.fields #[.ref d,.int 0 0,.int es.size 0,.int ep 0] }).get? b=some o->(((s.heap.push { cls:=.type "dict_keyiterator",data:=.fields #[.ref d,.int 0 0,.int es.size 0,.int ep 0] }).update S (Obj.mapSeq (·.push Value.none))).update S (Obj.mapSeq (·.pop))).get? b=some o:=fun b o hb e =>
  (r9 _ _ (Ne.symm hb)).trans ((r9 _ _ (Ne.symm hb)).trans e)
 refine a8 ⟨N0 PySem.F.plain_extend_loop _,key _ _ _ (hit₁.at fun o e=>oth _ _ (Ne.symm hSI) e) (hr₁.at' fun o e=>oth _ _ (Ne.symm hSd) e) (fun b o hb e=>oth b o hb (a6 _ e)) hS₃⟩
theorem bq5 {es:Array K4} (hh:A.handled=none) (hd:(d == F1)=false) (hr:am8 s.heap d es ep) (hlen:es.size<=i7)
  (hQ : ∀ h' tk acc' c', (∀ b o, s.heap.get? b = some o -> h'.get? b = some o) ->
   h'.get? s.heap.objs.size=some { cls:=.type "list",dict:=none,data:=.seq acc' c',slots:=#[] }->aN4 (fun i v=>∃ e,es[i]?=some e/\v=e.key) acc' es.size->Q (.ref s.heap.objs.size) { s with heap:=h',toks:=tk }) :
  k9 (n6 prog w) A (call (.type "list") [.ref d]) Q E s:=by
 refine bm4 (Q₁:=fun obj s₁=>obj=.ref s.heap.objs.size/\s₁={ s with heap:=s.heap.push { cls:=.type "list",data:=.seq #[] } }) PySem.F.called_list (PySem.F.typeCall_list_1 _) PySem.F.entry_list_init
  (code_list_new _ ⟨rfl,rfl⟩) fun obj s₁ h₁=>?_
 obtain⟨rfl,rfl⟩:=h₁
 have hS:(s.heap.push { cls:=.type "list",data:=.seq #[] }).get? s.heap.objs.size=some { cls:=.type "list",data:=.seq #[] }:=d5 _ rfl
 refine⟨⟨_,hS,rfl⟩,PySem.F.args_list_init_2 _ _,?_⟩
 have hr₁:am8 (s.heap.push { cls:=.type "list",data:=.seq #[] }) d es ep:=hr.at' fun o e=>a6 _ e
 have hSd:s.heap.objs.size≠d:=M5 (let ⟨o,ho,_⟩:=hr;c9 ho)
 show k9 _ _ (do let old <- Builtin.List.listItems (.ref s.heap.objs.size);Builtin.List.listUpdate (.ref s.heap.objs.size) (fun _=>#[]);letGo old.toList.reverse;Builtin.List.listExtendWith (.ref s.heap.objs.size) (.ref d) .none) _ _ _
 refine a5 ?_
 unfold Builtin.List.listItems
 refine a5 (aC0 hS rfl (a8 ?_))
 show k9 _ _ (aH4 s.heap.objs.size (fun _=>#[]) >>= fun _=>letGo (#[]:Array Value).toList.reverse >>= fun _=>Builtin.List.listExtendWith (.ref s.heap.objs.size) (.ref d) .none) _ _ _
 refine a5 (Y7 hS rfl ?_)
 have hS₂:=x9 (Obj.mapSeq (fun _=>(#[]:Array Value))) hS rfl
 have oth:∀ b o,b≠s.heap.objs.size->(s.heap.push { cls:=.type "list",data:=.seq #[] }).get? b=some o->((s.heap.push { cls:=.type "list",data:=.seq #[] }).update s.heap.objs.size (Obj.mapSeq (fun _=>(#[]:Array Value)))).get? b=some o :=
  fun b o hb e=>(r9 _ _ (Ne.symm hb)).trans e
 refine a5 (aC5 ?_)
 refine aX4 (A:=A.in1) hh hd (hr₁.at' fun o e=>oth _ _ (Ne.symm hSd) e) hlen _ .none _ hS₂ fun h' tk acc' c' hk hS' hacc=>?_
 exact⟨rfl,hQ h' tk acc' c' (fun b o e=>hk b o (j0 (c9 e)) (oth b o (j0 (c9 e)) (a6 _ e))) hS' hacc⟩
theorem ar1 {α β:Type}{R:α->β->Prop}:∀ {l:List α} {m:List β},l.length=m.length->(∀ (i:Nat) (x:α) (y:β),l[i]?=some x->m[i]?=some y->R x y)->Y5 R l m
 | [],[],_,_=>.nil
 | [],_::_,e,_=>by cases e
 | _::_,[],e,_=>by cases e
 | x::l,y::m,e,h=>.cons (h 0 x y rfl rfl) (ar1 (by simpa using e) fun i a b ha hb=>h (i+1) a b (by simpa using ha) (by simpa using hb))
theorem bl6 {bs:List Bool}(h:(bs.map Value.bool)[i]?=some v):v=.bool (bs.getD i false):=by
 rw[j6]at h
 cases e:bs[i]? with
 | none=>rw[e]at h;cases h
 | some b=>rw[e]at h;cases h;rw[E1,e];rfl
theorem all_range (bs:List Bool):((O2 bs.length).all fun i=>bs.getD i false)=bs.all id:=by
 rw[O3,D0,D0]
 constructor
 ·intro h b hb
  obtain⟨i,hi,rfl⟩:=List.mem_iff_getElem.mp hb
  have:=h i (E4.mpr hi)
  rw[E1,m6 hi]at this
  exact this
 ·intro h i hi
  have hi:=E4.mp hi
  rw[E1,m6 hi]
  exact h _ (al0 hi)
theorem boot_all:Q5 "all"=some (.builtin "all"):=by decide +kernel
theorem bl5 (hc:X.calm=true):O1 X (.builtin "all") (fun xs H Q=>∃ (l:Addr) (bs:List Bool),xs=[.ref l]/\H l=some (.lst (bs.map V.bl))/\Q (.bl (bs.all id)) H):=by
 intro pins s σ H xs us Q I r h
 obtain⟨l,bs,rfl,hH,q⟩:=h
 obtain⟨u,rfl,rx⟩:=vals1 r
 cases rx
 obtain⟨z,its,n,r,hl,e⟩:=I.lstM hH
 obtain rfl:=bb1 r
 have hl1:s.heap.IsList l (bs.map Value.bool).toArray:=⟨_,e,rfl,_,rfl⟩
 refine call_all_walkS (aN1 hl1 ?_)
 have hlt:l<s.heap.objs.size:=c9 e
 have hh:X.A.in1.handled=none:=by simp[I.ok.hd hc]
 refine⟨_,_,_,_,_,_,_,fun i=>bs.getD i false,rfl,(Walks.list hh _ l (j0 hlt) (bs.map Value.bool).toArray).toS,⟨⟨_,d5 _ rfl,rfl,rfl⟩,hl1.push _⟩,?_,fun s' hm=>?_⟩
 ·intro i v s Q E hv hq
  have:=bl6 (bs:=bs) (i:=i) (v:=v) (by simpa using hv)
  subst this
  exact a8 hq
 ·refine⟨.bl (bs.all id),H,?_,?_,q⟩
  ·rw[Moved.eq_with hm]
   exact I.kept (t':=s'.toks) fun b o eo=>hm.heap b o (fun hb=>absurd (c9 eo) (by rw[d6.mp hb];exact A3 _)) (a6 _ eo)
  ·show _=Value.bool (bs.all id)
   rw[<- all_range]
   simp
def bA4 (K:W.Frag):V->List V->Hp->VK->Prop:=fun x vs H Q=>∃ (l:Addr) (ns:List Int) (b:Int),x=.ref l/\vs=[.int b]/\SqT K H l (ns.map V.int)/\Q (.int (ns.count b:Nat)) H
theorem bj2:MtM X "tuple.count" (bA4 X.K):=by
 intro pins s σ H x vs v us Q I rx rv h
 obtain⟨l,ns,b,rfl,rfl,hH,q⟩:=h
 cases rx
 obtain⟨u,rfl,ru⟩:=vals1 rv
 obtain⟨t,rfl⟩:=ru
 obtain⟨its,r,pl,hz⟩:=I.tuple hH
 have hi:=intsAre_of r
 obtain⟨⟨cls,dd,data,sl⟩,ho,hc,n,hd⟩:=pl
 simp only at hc hd
 subst hc hd
 refine bw9 PySem.F.slot_tuple_count ⟨_,ho,rfl⟩ PySem.F.entry_tuple_count (PySem.F.args_tuple_count_2 _ _) (tuple_countAt l its.toArray n dd sl (.int b t) (isInt b)) ⟨ho,fun y hy=>(eq_isInt b t hi y (by simpa using hy)).at _ _,?_⟩
 refine⟨.int (((its.toArray.toList.countP (isInt b):Nat)):Int),H,I.tok _,⟨_,rfl⟩,?_⟩
 rw[show its.toArray.toList=its from rfl,countP_isInt b hi]
 exact q
theorem sub_tuple_set:bJ9 (.type "tuple") (.type "set")=pure false:=by rw[V8];kernel_rfl
theorem sub_tuple_frozenset:bJ9 (.type "tuple") (.type "frozenset")=pure false:=by rw[V8];kernel_rfl
set_option maxRecDepth 100000 in
set_option maxHeartbeats 3200000 in
theorem aW8 {items:Array Value}
  (hh:A.handled=none) (hl:s.heap.IsTuple l items) (hi:PyProof.Rows.IntsAre items.toList ns) (hb:items.size+1<scanBound)
  (h : ∀ (h' : Heap) (tk : Nat), h'.SetOf (m7 prog w) s.heap.objs.size (fun k' => (PyProof.Rows.firstMet (fun i => ns.getD i 0) items.size).any (· == k')) (PyProof.Rows.firstMet (fun i => ns.getD i 0) items.size).length ->
   (∀ b o,s.heap.get? b=some o->h'.get? b=some o)->Q (.ref s.heap.objs.size) { s with heap:=h',toks:=tk }) :
  k9 (n6 prog w) A (call (.type "set") [.ref l]) Q E s:=by
 obtain⟨c,tl,hmro⟩:=PySem.F.called_set.mro
 have hmade:=PySem.F.called_set.made
 have hsub:=PySem.F.called_set.sub
 refine av5 (at8 ?_)
 show k9 _ _ (callAny (.type "set") _) _ _ _
 refine a8 ⟨Code.quiet_builtin _ (by decide +kernel),D7 PySem.F.entry_type_call ?_⟩
 rw[Around.under_plain (at9 "set" [.ref l] []) rfl]
 have h1:=PySem.F.called_set.notType
 have h2:=PySem.F.called_set.canCreate
 have hct:=PySem.F.typeCall_set_1 (.ref l)
 repeat (any_goals (first | assumption | wp_step))
 refine Q6 (code_set_new_1 (.ref l) (E:=E) (Q₁:=fun obj s₁=>∃ led:Bool,obj=.ref s.heap.objs.size/\s₁={ s with heap:=s.heap.push { cls:=.type "set",dict:=none,data:=.set #[] 0 (.fresh 0 0 led) } }) fun led=>⟨led,rfl,rfl⟩) fun r s₁ hr=>?_
 cases r with
 | error e=>exact hr
 | ok fl =>
  cases fl with
  | ret obj =>
   obtain⟨led,rfl,rfl⟩:=hr
   have hS:(s.heap.push { cls:=.type "set",dict:=none,data:=.set #[] 0 (.fresh 0 0 led) }).get? s.heap.objs.size=some { cls:=.type "set",dict:=none,data:=.set #[] 0 (.fresh 0 0 led) }:=d5 _ rfl
   have hT:Shared.TypeIs { s with heap:=s.heap.push { cls:=.type "set",dict:=none,data:=.set #[] 0 (.fresh 0 0 led) } } (.ref s.heap.objs.size) "set":=⟨_,hS,rfl⟩
   have hli:=PySem.F.called_set.init.lookup
   have hbi:=PySem.F.called_set.init.bind (.ref s.heap.objs.size)
   repeat (any_goals (first | assumption | wp_step))
   refine Q6 (V3 (R:=wants (fun r s₂=>r=.none/\∃ h' tk,s₂={ s with heap:=h',toks:=tk } /\
     h'.SetOf (m7 prog w) s.heap.objs.size (fun k'=>(PyProof.Rows.firstMet (fun i=>ns.getD i 0) items.size).any (· == k')) (PyProof.Rows.firstMet (fun i=>ns.getD i 0) items.size).length /\
     (∀ b o,s.heap.get? b=some o->h'.get? b=some o)) E) PySem.F.called_set.init.plain PySem.F.entry_set_init (aV4 hT ?_)) fun r₂ s₂ hr₂=>?_
   ·obtain⟨ol,hol,hcl,nl,hdl⟩:=hl
    obtain⟨ocls,odict,odata,oslots⟩:=ol
    simp only at hcl hdl
    subst hcl;subst hdl
    have hol':(s.heap.push { cls:=.type "set",dict:=none,data:=.set #[] 0 (.fresh 0 0 led) }).get? l=some { cls:=.type "tuple",dict:=odict,data:=.seq items nl,slots:=oslots }:=a6 _ hol
    have hsls:=sub_tuple_set
    have hslf:=sub_tuple_frozenset
    have hne:(Value.type "tuple" == Value.type "dict")=false:=by decide
    have hl1:(s.heap.push { cls:=.type "set",dict:=none,data:=.set #[] 0 (.fresh 0 0 led) }).IsTuple l items:=⟨_,hol',rfl,nl,rfl⟩
    unfold Builtin.«set.__init__» noKeywords Builtin.Frozenset.updateFrom
    generalize hPI:bg7=PI
    wp_walk
    subst hPI
    refine aH1 hl1 ?_
    refine a5 (ak1 ?_)
    have hlS:l<s.heap.objs.size:=c9 hol
    have hh3:A.in1.in1.in1.handled=none:=by simp[hh]
    have hneI:l≠(s.heap.push { cls:=.type "set",dict:=none,data:=.set #[] 0 (.fresh 0 0 led) }).objs.size:=by
     rw[C1];exact j0 (u7 hlS)
    have hSf:s.heap.objs.size∉[(s.heap.push { cls:=.type "set",dict:=none,data:=.set #[] 0 (.fresh 0 0 led) }).objs.size,l]:=by
     rw[C1];simp only[c8,d6,o7,or_false,not_or]
     exact⟨j0 (an2 _),M5 hlS⟩
    have hval:∀ (i:Nat) (v:Value),items[i]?=some v->∃ t,v=.int ((fun i=>ns.getD i 0) i) t:=fun i v hv =>
     PyProof.Rows.IntsAre.int_at hi i v (by rw[b7];exact hv)
    have hl2:((s.heap.push { cls:=.type "set",dict:=none,data:=.set #[] 0 (.fresh 0 0 led) }).push { cls:=.type "tuple_iterator",data:=.fields #[.ref l,.int 0 0] }).IsTuple l items:=⟨_,a6 _ hol',rfl,nl,rfl⟩
    refine PyProof.Rows.codeAny_set_update_loopS ((Walks.tuple hh3 _ l hneI items).toS) s.heap.objs.size
     hSf (fun i=>ns.getD i 0) hval hb (items.size - 0) 0 _ (by omega) (n9 _)
     ⟨⟨_,d5 _ rfl,rfl,rfl⟩,hl2⟩ ?hS0 ?hR
    case hS0 =>
     have hget:((s.heap.push { cls:=.type "set",dict:=none,data:=.set #[] 0 (.fresh 0 0 led) }).push { cls:=.type "tuple_iterator",data:=.fields #[.ref l,.int 0 0] }).get? s.heap.objs.size
       = some { cls:=.type "set",dict:=none,data:=.set #[] 0 (.fresh 0 0 led) }:=a6 _ hS
     exact PyProof.Rows.SetOf_congr ((PyProof.Rows.setObjOf_fresh (knd:=m7 prog w) led).setOf hget (by unfold scanBound;omega)) (fun _=>rfl) rfl
    case hR =>
     intro s' hm hS'
     obtain⟨h',g',d',tk',os'⟩:=s'
     have eg:g'=s.gens:=hm.gens
     have ed:d'=s.drawn:=hm.drawn
     have eo:os'=s.os:=hm.os
     subst eg;subst ed;subst eo
     show k9 _ _ _ _ _ _
     refine a8 ?_
     show k9 _ _ (ret Value.none) _ _ _
     refine a8 ⟨rfl,h',tk',rfl,hS',fun b o e=>?_⟩
     have hb:=c9 e
     have hb1:b≠s.heap.objs.size:=j0 hb
     have hb2:b≠(s.heap.push { cls:=.type "set",dict:=none,data:=.set #[] 0 (.fresh 0 0 led) }).objs.size:=by
      rw[C1];exact j0 (u7 hb)
     exact hm.heap b o (by simp only[c8,d6,o7,or_false,not_or];exact⟨hb1,hb2⟩) (a6 _ (a6 _ e))
   ·cases r₂ with
    | error e=>exact hr₂
    | ok fl₂ =>
     cases fl₂ with
     | ret r =>
      obtain⟨rfl,h',tk,rfl,hS',hk'⟩:=hr₂
      repeat (any_goals (first | assumption | wp_step))
      exact h _ _ hS' hk'
     | _=>exact hr₂.elim
  | _=>exact hr.elim
def unl (ns:List Int):Nat:=(ns.foldl step_dedup []).length
theorem aK8 (ns:List Int):(firstMet (fun i=>ns.getD i 0) ns.length).length=unl ns:=by
 unfold firstMet unl
 have:(O2 ns.length).map (fun i=>ns.getD i 0)=ns:=by
  apply O6
  intro i
  rw[j6]
  rcases W8 i ns.length with h | h
  ·rw[av1 h,bR9,E1,m6 h];rfl
  ·rw[C8 (by simpa using h),C8 h];rfl
 rw[this]
def bF1 (P:Program)(w:World)(S:Addr)(n:Nat):HO:=.ext fun h=>n<1000/\∃ f,h.SetOf (m7 P w) S f n
theorem bl4 (hc:X.calm=true):O1 X (.type "set") (fun xs H Q=>∃ (p:Addr) (ns:List Int),xs=[.ref p]/\SqT X.K H p (ns.map V.int)/\ns.length<1000/\∀ S,H S=none->Q (.ref S) (upd H S (bF1 X.prog X.w S (unl ns)))):=by
 intro pins s σ H xs us Q I r h
 obtain⟨p,ns,rfl,hq,hb,q⟩:=h
 obtain⟨u,rfl,rx⟩:=vals1 r
 cases rx
 obtain⟨its,r',pl,hz⟩:=I.tuple hq
 have hi:=intsAre_of r'
 have hl:its.length=ns.length:=IntsAre.length hi
 refine aW8 (ns:=ns) (items:=its.toArray) (I.ok.hd hc) pl (by simpa using hi) (by unfold scanBound;simp;omega) fun h' tk hS kp=>?_
 have hsz:its.toArray.size=ns.length:=by simp[hl]
 rw[hsz,aK8]at hS
 have hle:unl ns<=ns.length:=foldl_step_dedup_nil_length_le ns
 refine⟨.ref s.heap.objs.size,_,I.laid (o:=bF1 X.prog X.w s.heap.objs.size (unl ns)) (t':=tk) kp (c5 _) ?_,rfl,q _ (I.hok.fresh (c5 _))⟩
 refine⟨⟨by omega,_,hS⟩,?_,fun h1 h2 ⟨hn1,f1,hS1⟩ hkeep=>⟨hn1,f1,?_⟩⟩
 ·obtain⟨o,_,_,_,ho,_⟩:=hS
  exact⟨o,ho⟩
 ·obtain⟨o,es,ep,t,ho,rest⟩:=hS1
  exact⟨o,es,ep,t,hkeep o ho,rest⟩
theorem aD0:O1 X (.builtin "len") (fun xs H Q=>∃ S n,xs=[.ref S]/\H S=some (bF1 X.prog X.w S n)/\Q (.int n) H):=by
 intro pins s σ H xs us Q I r h
 obtain⟨S,n,rfl,hS,q⟩:=h
 obtain⟨u,rfl,rx⟩:=vals1 r
 cases rx
 obtain⟨⟨hn,f,o,es,ep,t,ho,hex,hd,_,_,_,hf,he⟩,_⟩:=I.hok S _ hS
 refine PySem.call_len_set ho hex hd hf (by omega) ?_
 exact⟨.int n,H,I.tok _,⟨_,by rw[he]⟩,q⟩
def Fz (H:Hp)(p:Addr)(xs:List V):Prop:=∃ o:Obj,H p=some (.frz o (.tup xs))/\o.cls=.type "tuple"/\o.dict=none
theorem Fz.sqT {K:W.Frag}{p:Addr}{xs:List V}(h:Fz H p xs):SqT K H p xs:=let ⟨o,e,_⟩:=h;.inl (.inr ⟨o,e⟩)
theorem Fz.same {p:Addr}{xs:List V}(h:Fz H p xs)(s:A0 H H'):Fz H' p xs:=let ⟨o,e,r⟩:=h;⟨o,s _ _ e,r⟩
theorem aC9:O1 X (.type "tuple") (fun xs H Q=>∃ p ys,xs=[.ref p]/\SqL X.K H p ys/\∀ (l:Addr) (o:Obj),H l=none->o.cls=.type "tuple"->o.dict=none->Q (.ref l) (upd H l (.frz o (.tup ys)))):=by
 intro pins s σ H xs us Q I r h
 obtain⟨p,ys,rfl,hq,q⟩:=h
 obtain⟨u,rfl,rx⟩:=vals1 r
 cases rx
 obtain⟨its,r',pl,hz⟩:=I.list hq
 have hlen:=r'.length
 refine call_tuple_list pl.isList (fun h' kp=>?_) (by simp only[k8]<;>omega)
 have I1:Inv X pins σ H { s with heap:=h' }:=I.kept (t':=s.toks) kp
 have I2:Inv X pins σ (upd H h'.objs.size (.frz { cls:=.type "tuple",data:=.seq its.toArray } (.tup ys))) { s with heap:=h'.push { cls:=.type "tuple",data:=.seq its.toArray } } :=
  I1.laid (t':=s.toks) (fun b o e=>a6 _ e) (c5 _) (show D5 X.prog X.w _ _ _ (.frz _ (.tup ys)) from ⟨d5 _ rfl,hz,its,r',IsTup.new _ _⟩)
 exact⟨.ref h'.objs.size,_,I2,rfl,q _ _ (I1.hok.fresh (c5 _)) rfl rfl⟩
def ca8 (r:V->List V->Hp->VK->Prop)(to:TE)(t:TA):TE:=fun σ H Q=>to σ H fun x H1=>(∃ p ys,x=V.ref p/\Fz H1 p ys)/\t σ H1 fun xs H2=>r x xs H2 Q
theorem bN2 {o:Expr} {es:List Expr} {to:TE} {t:TA} {name:Str} {cpos:Pos} {id:String} (slot:Slot "tuple" name id) (hty:typeOf (.builtin id)=pure (.type "method_descriptor")) (hm:MtR X id r) (ho:PE X o to) (ha:PA X (e::es) t)
  (hbase:aH2 o name X.env (eval o X.env)=eval o X.env:=by rfl)
  (hfew : ((V7 cpos (x8 (e :: es) X.env)).all (fun x => !x.1) && (ba8 cpos (an5 [] X.env)).all (fun x => x.1.isSome)
   && decide ((e::es).length+([]:List an4).length+(if ([]:List an4).isEmpty then 0 else 1)<30))=true:=by rfl)
  (hline:(apos.endLine == cpos.line)=true:=by rfl) (hs:x8 (e::es) X.env=(false,eval e X.env)::x8 es X.env:=by rfl) (hplain:(V7 cpos (x8 es X.env)).any (·.1)=false:=by rfl) :
  PE X (.Call (.Attribute o name apos) (e::es) [] cpos) (ca8 r to t):=by
 intro pins s σ H Q I h
 refine bG1 hbase hfew hline rfl (thn (ho pins s σ H _ I h) fun v s1 ⟨x,H1,I1,r1,ty,q1⟩=>?_)
 obtain⟨p,ys,rfl,ob,e1,e2,e3⟩:=ty
 cases r1
 obtain⟨hob,_⟩:=I1.hok p _ e1
 refine⟨"tuple",id,PySem.F.plainAttrs_tuple,slot,hty,⟨ob,hob,e2⟩,fun a ea=>by cases ea;exact⟨ob,hob,e3⟩,?_⟩
 have hA:=ha cpos pins s1 σ H1 _ I1 q1
 rw[hs]at hA ⊢
 refine Calls.callWith_builtin (by show (false || (V7 cpos (x8 es X.env)).any (·.1))=false;rw[hplain]<;>rfl) (Calls.evalArgs_plain ?_)
 exact thn hA fun us s2 ⟨vs,H2,I2,r2,q2⟩=>hm pins s2 σ H2 (.ref p) vs _ us Q I2 rfl r2 q2
end L2
namespace L2
open PySem PySem.Spec PyProof.Rows
end L2
namespace Web
open PySem L2
def F3 (ks:List (List Int))(p:Nat):Nat:=ks.countP fun k=>decide ((p:Int)∈k)
def tal (n:Nat)(ks:List (List Int)):List Int:=(O2 n).map fun p=>(F3 ks p:Int)
theorem N5 (n:Nat)(ks:List (List Int)):(tal n ks).length=n:=by simp[tal]
theorem ae3 {ks:List (List Int)}{p:Nat}(h:p<n):(tal n ks)[p]?=some (F3 ks p:Int):=by
 unfold tal
 rw[j6,av1 h]
 rfl
theorem bl3 {ks:List (List Int)}(h:ks.Perm ls)(p:Nat):F3 ks p=F3 ls p:=h.countP_eq _
theorem ac8 {ks:List (List Int)}(h:ks.Perm ls)(n:Nat):tal n ks=tal n ls:=by
 unfold tal
 exact V4 fun p _=>by rw[bl3 h]
theorem aT6 (ks ls:List (List Int))(p:Nat):F3 (ks++ls) p=F3 ks p+F3 ls p:=List.countP_append
theorem bv9 (i j p:Nat):F3 [[(i:Int),(j:Int)]] p=if p=i\/p=j then 1 else 0:=by
 unfold F3
 rw[bw6]
 by_cases h:p=i\/p=j
 ·rw[if_pos h,if_pos]
  simp only[decide_eq_true_eq,c8,o7,or_false]
  omega
 ·rw[if_neg h,if_neg]
  simp only[decide_eq_true_eq,c8,o7,or_false]
  omega
theorem bc0 (n:Nat):tal n []=B0 n 0:=by
 unfold tal F3
 rw[List.eq_replicate_iff]
 simp
theorem bb8 (hi:i<n)(hj:j<n)(h:i≠j)(ks:List (List Int))(z1 z2:Int)(e1:z1=F3 ks i)(e2:z2=F3 ks j) :
  ((tal n ks).set i (z1+1)).set j (z2+1)=tal n (ks++[[(i:Int),(j:Int)]]):=by
 subst e1 e2
 refine O6 fun p=>?_
 by_cases hp:p<n
 ·rw[ae3 hp,aT6,bv9,bS4,bS4,aU4,N5,ae3 hp]
  by_cases q1:j=p
  ·subst q1
   rw[if_pos rfl,if_pos hj,if_pos (.inr rfl)]
   simp
  ·rw[if_neg q1]
   by_cases q2:i=p
   ·subst q2
    rw[if_pos rfl,if_pos hi,if_pos (.inl rfl)]
    simp
   ·rw[if_neg q2,if_neg (by omega)]
    simp
 ·rw[C8 (by simp[N5];omega),C8 (by rw[N5];omega)]
theorem sum_set:∀ (xs:List Int) (i:Nat) (z:Int),xs[i]?=some z->(xs.set i (z+1)).sum=xs.sum+1
 | [],i,z,h=>by simp at h
 | x::xs,0,z,h=>by
  simp at h
  subst h
  simp only[bI5,bm0]
  omega
 | x::xs,i+1,z,h=>by
  have:=sum_set xs i z (by simpa using h)
  simp only[List.set_cons_succ,bm0]
  omega
theorem bz1 (hi:i<n)(hj:j<n)(h:i≠j)(ks:List (List Int)):(tal n (ks++[[(i:Int),(j:Int)]])).sum=(tal n ks).sum+2:=by
 rw[<- bb8 hi hj h ks _ _ rfl rfl,sum_set,sum_set]
 ·omega
 ·exact ae3 hi
 ·rw[T7 h]
  exact ae3 hj
theorem aO2:∀ n:Nat,(B0 n (0:Int)).sum=0
 | 0=>rfl
 | n+1=>by rw[G6,bm0,aO2 n];rfl
theorem bb7 (n:Nat)(ks:List (List Int))(h:∀ k∈ks,ak9 n k):(tal n ks).sum=2*(ks.length:Int):=by
 have key:∀ m,m<=ks.length->(tal n (ks.take m)).sum=2*(m:Int):=by
  intro m
  induction m with
  | zero=>intro _;rw[ba6,bc0,aO2];rfl
  | succ m ih =>
   intro hm
   have hlt:m<ks.length:=hm
   obtain⟨i,j,hi,hj,hij,e⟩:=h ks[m] (al0 hlt)
   rw[B8,m6 hlt,av2,e,bz1 hi hj hij,ih (by omega)]
   omega
 have:=key ks.length (c5 _)
 rw[al3]at this
 exact this
end Web
namespace PySem
section
variable {K:Type} [DecidableEq K] {knd:HeapKind prog w K}
def Z9 (xs:List (K × Addr × Value))(k:K):List (K × Addr × Value):=xs.filter fun x=>decide (x.1≠k)
theorem ak8:∀ {xs:List (K × Addr × Value)} (hn:(xs.map (·.1)).Nodup) {j:Nat} {k:K} {p:Addr × Value},xs[j]?=some (k,p)->xs.eraseIdx j=Z9 xs k
 | [],_,j,k,p,h=>by simp at h
 | x::xs,hn,0,k,p,h=>by
  rw[j3,m9]at hn
  have e:x=(k,p):=by simpa using h
  subst e
  unfold Z9
  rw[ak4 (by simp)]
  show xs=_
  rw[List.filter_eq_self.mpr]
  intro y hy
  refine decide_eq_true fun e=>hn.1 (o9.mpr ⟨y,hy,e⟩)
 | x::xs,hn,j+1,k,p,h=>by
  rw[j3,m9]at hn
  have h':xs[j]?=some (k,p):=by simpa using h
  have hk:k∈xs.map (·.1):=o9.mpr ⟨_,d9 h',rfl⟩
  have ih:=ak8 hn.2 h'
  unfold Z9 at ih ⊢
  rw[ak5 (by exact decide_eq_true fun e=>hn.1 (e ▸ hk)),ak6,ih]
theorem aF4 {α β:Type}(f:α->β):∀ (l:List α) (j:Nat),(l.map f).eraseIdx j=(l.eraseIdx j).map f
 | [],_=>rfl
 | _::_,0=>rfl
 | x::l,j+1=>by rw[j3,ak6,ak6,j3,aF4 f l j]
theorem aI0 {xs:List (K × Addr × Value)}{k:K}{p:Addr × Value}{Q:Option K4->Shared->Prop}(hu:knd.room A)(hkey:knd.is s.heap k a)(hm:s.heap.DictOfH knd d xs)(hp:bm3 xs k=some p)
  (hQ:∀ h' e,e.val=p.2->h'.DictOfH knd d (Z9 xs k)->Heap.SameBut d s.heap h'->Q (some e) { s with heap:=h',toks:=s.toks+knd.draws k })
  (hsz:xs.length<=i7) :
  k9 (n6 prog w) A (Builtin.Dict.takeOut d (.ref a)) Q E s:=by
 obtain⟨o,es,ep,ho,hc,hd,he,his,hn⟩:=hm
 have hes:=P4 he
 unfold Builtin.Dict.takeOut
 try with_reducible refine v8 ?_
 refine a5 (knd.pyHash hu hkey ?_)
 refine a5 (bU1 (s:={ s with toks:=s.toks+knd.draws k }) hu hkey ho hd he his hn ?_ ?_)
 ·intro hno
  rw[atKey_none_of_get hno]at hp
  cases hp
 ·intro j q hj
  have eq:q=p:=by
   have:=atKey_of_get hn hj
   rw[this]at hp
   injection hp
  subst eq
  refine a5 (B2 (s:={ s with toks:=s.toks+knd.draws k }) ho hd ?_)
  rw[by1 he j,hj]
  have hj':j<es.size:=by
   rw[hes]
   rcases W8 j xs.length with h | h
   ·exact h
   ·rw[C8 h]at hj;cases hj
  refine a5 (wpAny_updateDictKeys (hz:=by omega) (s:={ s with toks:=s.toks+knd.draws k }) ho hd (a8 (hQ _ _ rfl ⟨_,_,ep+1,x9 _ ho (Obj.isFreed_of_dict (Obj.data_mapDictKeys hd _)),
   hc.mapDictKeys _,Obj.data_mapDictKeys hd _,?_,?_,?_⟩ (Heap.SameBut.update ..))))
  ·rw[<- ak8 hn hj,<- aF4,<- he]
   obtain⟨l⟩:=es
   simp
  ·intro x hx
   exact knd.keeps (his x (p9.mp hx).1) ho hd (Heap.SameBut.update ..)
  ·exact((List.filter_sublist (l:=xs) (p:=fun x=>decide (x.1≠k))).map fun x=>x.1).nodup hn
theorem br2 {xs:List (K × Addr × Value)}{k:K}{p:Addr × Value}(hu:knd.room A.in1)(hkey:knd.is s.heap k a)(hm:s.heap.DictOfH knd d xs)(hp:bm3 xs k=some p)
  (hQ:∀ h',h'.DictOfH knd d (Z9 xs k)->Heap.SameBut d s.heap h'->Q p.2 { s with heap:=h',toks:=s.toks+knd.draws k })
  (hsz:xs.length<=i7) :
  k9 (n6 prog w) A (call (.builtin "dict.pop") [.ref d,.ref a]) Q E s:=by
 refine C3 F.slot_dict_pop hm.typeIs F.entry_dict_pop ?_ (F.args_dict_pop_2 _ _)
 unfold Builtin.«dict.pop»
 refine a5 ?_
 unfold Builtin.Dict.keyAndDefault
 refine a5 (au0 hm.typeIs ?_)
 show k9 _ _ (pure (d,Value.ref a,none)) _ _ s
 refine a8 ?_
 obtain⟨o,es,ep,ho,hc,hd,he,his,hn⟩:=id hm
 have hne:es.isEmpty=false:=by
  rw[aU8]
  intro z
  have hl:=P4 he
  rw[z]at hl
  have:xs=[]:=Q4 hl.symm
  rw[this]at hp
  cases hp
 have hk:(keyPart (.ref a)).isSome=false:=rfl
 simp only[hk,d7,if_false]
 refine a5 (B2 ho hd ?_)
 refine a5 (a8 ?_)
 simp only[hne,d7,if_false]
 refine a5 (aI0 hu hkey hm hp (fun h' e hv hm' hs'=>?_) hsz)
 simp only[Option.isNone_some,d7,if_false]
 exact a5 (aC5 (a8 ⟨e.val,rfl,by rw[hv];exact hQ h' hm' hs'⟩))
end
end PySem
namespace PySem
section
variable {K:Type} [DecidableEq K] {knd:HeapKind prog w K}
theorem bs2 {xs:List (K × Addr × Value)}(hh:(xs.map fun x=>knd.hash x.1).Nodup){x:K × Addr × Value}(hx:x∈xs):((xs.map (E7 knd)).filter fun e=>e.hash == (E7 knd x).hash).length<=1:=by
 have key:∀ (l:List (K × Addr × Value)),(l.map fun x=>knd.hash x.1).Nodup->((l.map (E7 knd)).filter fun e=>e.hash == (E7 knd x).hash).length<=1:=by
  intro l
  induction l with
  | nil=>intro _;exact n9 _
  | cons y l ih =>
   intro hn
   rw[j3,m9]at hn
   rw[j3]
   by_cases e:((E7 knd y).hash == (E7 knd x).hash)=true
   ·rw[ab2,if_pos e]
    have:((l.map (E7 knd)).filter fun e=>e.hash == (E7 knd x).hash)=[]:=by
     rw[bm1]
     intro z hz he
     obtain⟨z',hz',rfl⟩:=o9.mp hz
     refine hn.1 (o9.mpr ⟨z',hz',?_⟩)
     have e1:=beq_iff_eq.mp e
     have e2:=beq_iff_eq.mp he
     exact e2.trans e1.symm
    rw[this]
    exact c5 _
   ·rw[ab2,if_neg e]
    exact ih hn.2
 exact key xs hh
theorem ai0 {id:String}{es ep}{xs:List (K × Addr × Value)}{Q:Array K4->Shared->Prop}(ho:s.heap.get? d=some o)(hd:o.data=.dict es ep)(he:es.toList=xs.map (E7 knd))
  (hq:∀ x∈xs,s.TypeIs (.ref x.2.1) "tuple")(hh:(xs.map fun x=>knd.hash x.1).Nodup)(h:Q es s) :
  k9 (n6 prog w) A (Builtin.Dict.entriesForEmpty id d) Q E s:=by
 unfold Builtin.Dict.entriesForEmpty
 refine a5 (B2 ho hd ?_)
 rw[<- R1,he]
 refine a5 (X0 _ (fun rest _ s'=>s'=s/\∀ e∈rest,∃ x∈xs,e=E7 knd x) _ ?_ ?_ _ _ ⟨rfl,fun e he=>let ⟨x,hx,ex⟩:=o9.mp he;⟨x,hx,ex.symm⟩⟩)
 ·rintro e rest b s' ⟨rfl,hr⟩
  obtain⟨x,hx,rfl⟩:=hr e c6
  have hrest:∀ e∈rest,∃ x∈xs,e=E7 knd x:=fun e he=>hr e (d3 _ he)
  have hone:=bs2 hh hx
  have hsz:(es.filter fun e=>e.hash == (E7 knd x).hash).size<=1:=by
   rw[<- d8,Array.toList_filter,he]
   exact hone
  unfold Builtin.Dict.quietEq
  refine a5 (a5 (T4 (hq x hx) PyProof.Rows.slot_tuple_eq.lookup (a8 ?_)))
  split
  ·rw[if_neg (by omega)]
   exact a8 ⟨rfl,hrest⟩
  ·exact a8 ⟨rfl,hrest⟩
 ·rintro b s' ⟨rfl,_⟩
  exact a8 h
theorem aA5 {nm:String}{o:Addr}{od:Obj}{epd:Nat}{xs:List (K × Addr × Value)}{Q:Unit->Shared->Prop}(hdo:d≠o)(hoS:(o == F1)=false)
  (hod:s.heap.get? d=some od)(hcd:od.ExactDict)(hdd:od.data=.dict #[] epd)(ho:s.heap.DictOfH knd o xs)
  (hq:∀ x∈xs,s.TypeIs (.ref x.2.1) "tuple")(hh:(xs.map fun x=>knd.hash x.1).Nodup)
  (hQ:∀ h',h'.DictOfH knd d xs->Heap.SameBut d s.heap h'->Q () { s with heap:=h' })(hsz:xs.length<=i7) :
  k9 (n6 prog w) A (Builtin.Dict.mergeDict nm d o) Q E s:=by
 obtain⟨oo,eso,epo,hoo,hco,hdo',he,his,hn⟩:=id ho
 have hlen:=P4 he
 unfold Builtin.Dict.mergeDict
 rw[if_neg (by simpa using hdo)]
 unfold Builtin.Dict.showsAll
 rw[if_neg (by rw[hoS];exact d4)]
 refine a5 (a8 ?_)
 refine a5 (B2 hoo hdo' ?_)
 by_cases hx:xs=[]
 ·subst hx
  have h0:eso=#[]:=Array.size_eq_zero_iff.mp hlen
  subst h0
  have few:(decide ((#[]:Array K4).size<=8) && (#[]:Array K4).all fun e=>(keyPart e.key).isSome)=true:=by simp
  rw[few]
  simp only[D8,d7,if_false]
  refine a5 (Y6 hoo hdo' ?_)
  refine a5 (B2 hoo hdo' ?_)
  refine a5 ?_
  rw[Std.Legacy.Range.forIn_eq_forIn_range']
  exact a8 (a8 (hQ s.heap ⟨od,#[],epd,hod,hcd,hdd,rfl,(fun _ h=>by cases h),C0⟩ (Heap.SameBut.refl _ _)))
 ·have few:(decide (eso.size<=8) && eso.all fun e=>(keyPart e.key).isSome)=false:=by
   have:(eso.all fun e=>(keyPart e.key).isSome)=false:=by
    rw[<- Array.all_toList,he]
    cases xs with
    | nil=>exact absurd rfl hx
    | cons x l=>rfl
   rw[this,Bool.and_false]
  rw[few]
  simp only[Z8,if_true]
  refine a5 (B2 hod hdd ?_)
  rw[if_pos (show (#[]:Array K4).isEmpty=true by rfl)]
  refine a5 (ai0 hoo hdo' he hq hh ?_)
  have hne:eso.isEmpty=false:=by
   rw[aU8]
   intro z
   rw[z]at hlen
   exact hx (Q4 hlen.symm)
  rw[hne]
  simp only[Z8,if_true]
  refine a5 (wpAny_updateDictKeysTo hod hdd (a8 (hQ _ ⟨_,_,epd+1,x9 _ hod (Obj.isFreed_of_dict (Obj.data_mapDictKeys hdd _)),hcd.mapDictKeys _,
     Obj.data_mapDictKeys hdd _,he,fun x hx=>knd.keeps (his x hx) hod hdd (Heap.SameBut.update ..),hn⟩ (Heap.SameBut.update ..))) (by omega))
theorem aL5 {o:Addr}{xs:List (K × Addr × Value)}(hoS:(o == F1)=false)(ho:s.heap.DictOfH knd o xs)(hsz:xs.length<=i7)
  (hq:∀ x∈xs,s.TypeIs (.ref x.2.1) "tuple")(hh:(xs.map fun x=>knd.hash x.1).Nodup)(hup:∀ (ob:Obj) (k:K) (a:Addr),knd.is s.heap k a->knd.is (s.heap.push ob) k a)
  (h:∀ h',h'.DictOfH knd s.heap.objs.size xs->Heap.SameBut s.heap.objs.size (s.heap.push { cls:=.type "dict",data:=.dict #[] }) h'->Q (.ref s.heap.objs.size) { s with heap:=h' }) :
  k9 (n6 prog w) A (call (.type "dict") [.ref o]) Q E s:=by
 refine bm4 (Q₁:=fun obj s₁=>obj=.ref s.heap.objs.size/\s₁={ s with heap:=s.heap.push { cls:=.type "dict",data:=.dict #[] } }) F.kt_called_dict (F.kt_typeCall_dict_1 _) F.entry_dict_init (kt_code_dict_new _ ⟨rfl,rfl⟩) ?_
 rintro obj s₁ ⟨rfl,rfl⟩
 have hget:(s.heap.push { cls:=.type "dict",data:=.dict #[] }).get? s.heap.objs.size=some { cls:=.type "dict",data:=.dict #[] }:=d5 _ rfl
 have hnew:Shared.TypeIs { s with heap:=s.heap.push { cls:=.type "dict",data:=.dict #[] } } (.ref s.heap.objs.size) "dict":=⟨_,hget,rfl⟩
 obtain⟨oo,eso,epo,hoo,hco,hdo',he,his,hn⟩:=id ho
 have ho':(s.heap.push { cls:=.type "dict",data:=.dict #[] }).DictOfH knd o xs:=⟨oo,eso,epo,a6 _ hoo,hco,hdo',he,fun x hx=>hup _ _ _ (his x hx),hn⟩
 have hdo:s.heap.objs.size≠o:=fun e=>absurd (c9 hoo) (by rw[e];exact A3 _)
 refine⟨hnew,F.args_dict_init_2 _ _,?_⟩
 unfold Builtin.«dict.__init__»
 refine a5 ?_
 unfold Builtin.Dict.selfAndRest
 refine a5 (au0 hnew ?_)
 show k9 _ _ (pure (s.heap.objs.size,[Value.ref o])) _ _ _
 refine a8 ?_
 show k9 _ _ (Builtin.Dict.updateFrom "dict.__init__" s.heap.objs.size (.ref o) [] .none) _ _ _
 unfold Builtin.Dict.updateFrom
 refine a5 (ab9 ho'.typeIs ?_)
 rw[if_neg (by decide)]
 refine a5 ?_
 unfold Builtin.Dict.merge
 refine a5 ?_
 unfold Builtin.Dict.readDirectly
 refine a5 (K2 ho'.typeIs isSubtype_dict_dict ?_)
 simp only[D8,d7,if_false]
 refine a5 (T4 ho'.typeIs F.slot_dict_iter.lookup (a8 ?_))
 simp only[beq_self_eq_true,if_true]
 refine a5 (a8 ?_)
 refine aA5 hdo hoS hget ⟨rfl,rfl,rfl⟩ rfl ho' (fun x hx=>?_) hh (fun h' hd' hs'=>?_) hsz
 ·obtain⟨ob,e,c⟩:=hq x hx
  exact⟨ob,a6 _ e,c⟩
 ·show k9 _ _ (Builtin.Dict.addKeywords s.heap.objs.size [] >>= _) _ _ _
  exact a5 (a8 (a8 ⟨rfl,h h' hd' hs'⟩))
end
end PySem
namespace L2
open PySem PySem.Spec PyProof.Rows
theorem KT.drop (r:KT H kvs xs)(k:List Key):KT H (ao9 kvs k) (Z9 xs k):=by
 unfold KT at r ⊢
 unfold ao9 Z9
 induction r with
 | nil=>exact .nil
 | @cons p q ps qs h t ih =>
  obtain⟨h1,h2⟩:=h
  rw[ab2,ab2]
  by_cases e:p.1=k
  ·have a:¬ decide (p.1≠k)=true:=by simp[e]
   have b:¬ decide (q.1≠k)=true:=by simp[h1.symm.trans e]
   rw[if_neg a,if_neg b];exact ih
  ·have e':¬ q.1=k:=fun z=>e (h1.trans z)
   have a:decide (p.1≠k)=true:=by simp[e]
   have b:decide (q.1≠k)=true:=by simp[e']
   rw[if_pos a,if_pos b];exact .cons ⟨h1,h2⟩ ih
theorem KT.keys (r:KT H kvs xs):kvs.map (·.1)=xs.map (·.1):=by
 unfold KT at r
 induction r with
 | nil=>rfl
 | cons h t ih=>rw[j3,j3,ih,h.1]
theorem freeze (I:Inv X pins σ H s)(e:H a=some (.dT kvs)):∃ o,Inv X pins σ (upd H a (.frz o (.dT kvs))) s:=by
 obtain⟨z,hd,xs,kt,o,es,ep,h1,h2,h3,h4,h5⟩:=(show D5 X.prog X.w H s.heap a (.dT kvs) from I.hok a _ e)
 refine⟨o,?_⟩
 have:=ax3 (ob:=.frz o (.dT kvs)) (h':=s.heap) (t':=s.toks) I (by rw[e];exact True.intro) (Heap.SameBut.refl _ _) ⟨o,h1⟩ ⟨h1,z,hd,xs,KT.keeps kt fun b ys eb=>by
  rw[n4 (fun q=>by rw[q,e]at eb;cases eb)]
  exact eb,o,es,ep,h1,h2,h3,h4,h5⟩
 exact this
theorem br7 (h:PE X e te):PE X e (fun σ H Q=>te σ H fun x H1=>∃ (a:Addr) (kvs:List (List Key × V)),x=.ref a/\H1 a=some (.dT kvs)/\∀ o,Q x (upd H1 a (.frz o (.dT kvs)))):=by
 intro pins s σ H Q I hw
 refine thn (h pins s σ H _ I hw) fun v s1 ⟨x,H1,I1,r1,a,kvs,ex,ea,q⟩=>?_
 obtain⟨o,I2⟩:=freeze I1 ea
 exact⟨x,_,I2,r1,q o⟩
theorem ae9:O1 X (.type "dict") (fun xs H Q=>∃ (a:Addr) (kvs:List (List Key × V)),xs=[V.ref a]/\Rd H a (.dT kvs)/\((kvs.map (·.1)).map (i6 (K8 X.prog X.w))).Nodup/\∀ p,H p=none->Q (.ref p) (upd H p (.dT kvs))):=by
 intro pins s σ H xs us Q I r h
 obtain⟨a,kvs,rfl,ha,hh,q⟩:=h
 obtain⟨u,rfl,rx⟩:=vals1 r
 cases rx
 obtain⟨z,hd,xs,kt,dd⟩:=at4 I.hok ha
 have hkl:kvs.length=xs.length:=Paired.length kt
 obtain⟨_,_,_,_,_,_,_,his,_⟩:=id dd
 refine aL5 hd dd (by omega) (fun x hx=>?_) ?_ (fun ob k b hb=>?_) fun h' dd' hs=>?_
 ·obtain⟨o,its,n,h1,h2,h3,_⟩:=his x hx
  exact⟨o,h1,h2⟩
 ·rw[KT.keys kt,P2]at hh
  exact hh
 ·obtain⟨o,its,n,h1,h2,h3,h4⟩:=hb
  exact⟨o,its,n,a6 _ h1,h2,h3,h4⟩
 ·obtain⟨ob,es,ep,h1,h2,h3,h4,_,h6⟩:=dd'
  have hf:=I.hok.fresh (c5 s.heap.objs.size)
  refine⟨.ref s.heap.objs.size,_,I.laid (a:=s.heap.objs.size) (o:=.dT kvs) (t':=s.toks) (fun b w' hq=>?_) (c5 _) ⟨z,beq_eq_false_iff_ne.mpr (Ne.symm (j0 I.big)),xs,KT.keeps kt fun b ys eb=>?_,ob,es,ep,h1,h2,h3,h4,h6⟩,rfl,q _ hf⟩
  ·exact(hs.2 b (j0 (c9 hq))).trans (a6 _ hq)
  ·rw[n4 (fun e=>by rw[e,hf]at eb;cases eb)]
   exact eb
def bL2 (td ty:TE):TE:=fun σ H Q=>td σ H fun x H1=>∃ a,x=.ref a/\IsD H1 a/\ty σ H1 fun y H2=>∃ kvs k b v,H2 a=some (.dT kvs)/\y=.ref b/\H2 b=some (.tup (k.map kV))/\au3 kvs k=some v/\Q v (upd H2 a (.dT (ao9 kvs k)))
theorem aQ2 {o:Expr}{td ty:TE}{cpos:Pos}(hu:X.A.units+1<R8)(ho:PE X o td)(he:PE X e ty)(m:M1 X o "pop" apos e cpos):PE X (.Call (.Attribute o "pop" apos) [e] [] cpos) (bL2 td ty):=by
 intro pins s σ H Q I h
 refine wpAny_Call_method m.base m.few m.line PySem.F.plainAttrs_dict PySem.F.slot_dict_pop PySem.F.type_dict_pop (thn (ho pins s σ H _ I h) fun u s1 ⟨x,H1,I1,rx,a,ex,d,q1⟩=>?_)
 subst ex
 obtain rfl:u=Value.ref a:=rx
 obtain⟨t1,t2,_⟩:=bP9 I1 d
 refine⟨t1,t2,?_⟩
 rw[m.trees]
 refine Calls.callWith_builtin rfl (Calls.evalArgs_plain (Calls.spliced_cons (thn (he pins s1 σ H1 _ I1 q1) fun iv s2 ⟨y,H2,I2,ry,kvs,k,b,v,ea,ey,eb,l,q2⟩=>Calls.spliced_nil ?_)))
 subst ey
 obtain rfl:iv=Value.ref b:=ry
 obtain⟨z,hd,xs,kt,dd⟩:=bI2 I2.hok ea
 have hkl:kvs.length=xs.length:=Paired.length kt
 obtain⟨p,hp,rp⟩:∃ p,bm3 xs k=some p/\RelV v p.2:=by
  have:=kt.val k
  rw[l]at this
  cases e:bm3 xs k with
  | none=>rw[e]at this;exact False.elim this
  | some p=>rw[e]at this;exact⟨p,rfl,this⟩
 refine br2 (ai7 hu) (aK2 I2.hok eb) dd hp (fun h' dd' hs=>?_) (by omega)
 obtain⟨ob,es,ep,h1,h2,h3,h4,_,h6⟩:=dd'
 refine⟨v,_,ax3 (ob:=.dT (ao9 kvs k)) I2 (by rw[ea];exact True.intro) hs ⟨ob,h1⟩ ⟨t9 (bv5 kvs k) z,hd,_,(kt.drop k).keeps fun c ys ec=>?_,ob,es,ep,h1,h2,h3,h4,h6⟩,rp,q2⟩
 rw[n4 (fun e=>by rw[e,ea]at ec;cases ec)]
 exact ec
def Itd (a:Addr)(o:Obj)(kvs:List (List Key × V)):It:=
 ⟨fun i H=>H a=some (.frz o (.dT kvs))/\i<kvs.length,fun i H x H'=>H'=H/\∃ kv p,kvs[i]?=some kv/\x=.ref p/\H p=some (.tup (kv.1.map kV)),fun i H=>H a=some (.frz o (.dT kvs))/\kvs.length=i⟩
theorem by9 {K:W.Frag}(a it:Addr)(hne:a≠it)(o:Obj)(kvs:List (List Key × V))(es:Array K4)(ep:Nat)(hx:o.ExactDict)(hd:o.data=.dict es ep)(hes:es.size=kvs.length) :
  Turn P w K tg (Itd a o kvs) [it] it (fun i h=>h.IsKeyIter it a i es.size ep) where
 mem:=by simp
 obj:=fun i h st b hb=>by
  have e:b=it:=by simpa using hb
  subst e
  obtain⟨o,e,c,d⟩:=st
  exact⟨o,e,fun v z=>by rw[d]at z;cases z⟩
 keep:=fun i h h' st k=>st.at fun o e=>k it (by simp) o e
 item:=by
  intro X hP hw hK hc i pins s σ H E I hf st hg
  subst hP hw hK
  obtain⟨hH,hi⟩:=hg
  obtain⟨h1,z,hds,xs,kt,o',es',ep',g1,g2,g3,g4,g5⟩:=(show D5 X.prog X.w H s.heap a (.frz o (.dT kvs)) from I.hok a _ hH)
  have eo:o'=o:=by rw[h1]at g1;injection g1 with g1;exact g1.symm
  subst eo
  have ee:es'=es/\ep'=ep:=by rw[hd]at g3;cases g3;exact⟨rfl,rfl⟩
  obtain⟨rfl,rfl⟩:=ee
  obtain⟨f0,f1,f2,f3,f4,f5⟩:=hf it (by simp)
  have W:=az2 (prog:=X.prog) (w:=X.w) (A:=X.A) (I.ok.hd hc) it a hne es' ep'
  refine W.item i s _ _ (by omega) ⟨st,o',h1,hx,hd⟩ fun v h' tk hv st' kk=>?_
  obtain⟨en,he,rfl⟩:=hv
  have I1:Inv X pins σ H { s with heap:=h',toks:=tk }:=I.turned (fun b o hb e=>kk b o (by simpa using hb) e) f0 f1 f3 f4 f5
  obtain⟨ot,e,c,d⟩:=id st'.1
  obtain⟨kv,hkv⟩:∃ kv,kvs[i]?=some kv:=⟨_,m6 hi⟩
  obtain⟨q,hq,hr⟩:=S0 kt hkv
  rw[by1 g4 i,hq]at he
  cases he
  exact⟨_,rfl,bf6 (s:={ s with heap:=h',toks:=tk }) e c d (by decide) ⟨.ref q.2.1,H,I1,rfl,⟨rfl,kv,q.2.1,hkv,rfl,hr.2.1⟩,st'.1,fun b hb=>(hf b hb).1⟩⟩
 done:=by
  intro X hP hw hK hc i pins s σ H E I hf st hg
  subst hP hw hK
  obtain⟨hH,hi⟩:=hg
  obtain⟨h1,z,hds,xs,kt,o',es',ep',g1,g2,g3,g4,g5⟩:=(show D5 X.prog X.w H s.heap a (.frz o (.dT kvs)) from I.hok a _ hH)
  have eo:o'=o:=by rw[h1]at g1;injection g1 with g1;exact g1.symm
  subst eo
  have ee:es'=es/\ep'=ep:=by rw[hd]at g3;cases g3;exact⟨rfl,rfl⟩
  obtain⟨rfl,rfl⟩:=ee
  obtain⟨f0,f1,f2,f3,f4,f5⟩:=hf it (by simp)
  have W:=az2 (prog:=X.prog) (w:=X.w) (A:=X.A) (I.ok.hd hc) it a hne es' ep'
  have ei:i=es'.size:=by omega
  subst ei
  exact W.done s _ _ ⟨st,o',h1,hx,hd⟩ fun h' tk kk=>⟨rfl,I.turned (fun b o hb e=>kk b o (by simpa using hb) e) f0 f1 f3 f4 f5⟩
 self:=fun _ _ _ _ _ st h=>bS8 st h
def bY1 (tl:TE):TI:=fun σ H R=>tl σ H fun x H1=>∃ (a:Addr) (o:Obj) (kvs:List (List Key × V)),x=.ref a/\H1 a=some (.frz o (.dT kvs))/\R (Itd a o kvs) H1
theorem bH5 {l:Expr}{tl:TE}(hl:PE X l tl):PI X tg l (bY1 tl):=by
 intro pins s σ H R I h
 refine thn (hl pins s σ H _ I h) fun v s1 ⟨x,H1,I1,r1,a,o,kvs,ex,hH,q⟩=>?_
 subst ex
 cases r1
 obtain⟨h1,z,hds,xs,kt,o',es,ep,g1,g2,g3,g4,g5⟩:=(show D5 X.prog X.w H1 s1.heap a (.frz o (.dT kvs)) from I1.hok a _ hH)
 have eo:o'=o:=by rw[h1]at g1;injection g1 with g1;exact g1.symm
 subst eo
 have hes:es.size=kvs.length:=by rw[P4 g4];exact(Paired.length kt).symm
 refine aQ0 hds ⟨o',h1,g2,g3⟩ ?_
 refine⟨s1.heap.objs.size,[s1.heap.objs.size],_,_,H1,rfl,I1.kept (t':=s1.toks) fun b o e=>a6 _ e,by9 a _ (j0 (c9 h1)) o' kvs es ep g2 g3 hes,⟨_,d5 _ rfl,rfl,rfl⟩,fun b hb=>?_,q⟩
 have e:b=s1.heap.objs.size:=by simpa using hb
 subst e
 exact I1.fpOk (c5 _) (I1.hok.fresh (c5 _))
theorem bE7 {D:Addr}{g:TG}{tt:TT}{Qd:Hp->Prop}{σ0:St}{H0:Hp}(Pv:Nat->List V->St->Hp->Prop)(h0:Pv 0 [] σ0 H0)(hz:kvs.length<=i7)(hl:∀ i xs σ H,i<=kvs.length->Pv i xs σ H->H a=some (.frz o (.dT kvs))/\H D=some (.lst xs)/\xs.length<=i)
  (hs:∀ i xs kv p σ H (N:List V->St->Hp->Prop),(∀ xs' σ' H',Pv (i+1) xs' σ' H'->N xs' σ' H')->kvs[i]?=some kv->H p=some (.tup (kv.1.map kV))->Pv i xs σ H->g (.ref p) σ H fun σ2 H2=>tt σ2 H2 fun b H3=>if b=true then te σ2 H3 fun v H4=>H4 D=some (.lst xs)/\N (xs++[v]) σ2 (upd H4 D (.lst (xs++[v]))) else N xs σ2 H3)
  (hd:∀ xs σ H,Pv kvs.length xs σ H->Qd H) :
  ∃ W:Nat->Nat->List V->St->Hp->Prop,(∃ m,W 0 m [] σ0 H0)/\∀ i m xs σ' H',W i m xs σ' H'->H' D=some (.lst xs)/\(((Itd a o kvs).stop i H'/\Qd H')\/((Itd a o kvs).go i H'/\xs.length<i7/\∀ x H'',(Itd a o kvs).yld i H' x H''->g x σ' H'' fun σ2 H2=>tt σ2 H2 fun b H3 =>
   if b=true then te σ2 H3 fun v H4=>H4 D=some (.lst xs)/\∃ m',m'<m/\W (i+1) m' (xs++[v]) σ2 (upd H4 D (.lst (xs++[v]))) else ∃ m',m'<m/\W (i+1) m' xs σ2 H3)):=by
 refine⟨fun i m xs σ H=>m=kvs.length - i/\i<=kvs.length/\Pv i xs σ H,⟨kvs.length,by simp,n9 _,h0⟩,?_⟩
 rintro i m xs σ H ⟨rfl,hi,p⟩
 obtain⟨q,hD,hx⟩:=hl i xs σ H hi p
 refine⟨hD,?_⟩
 by_cases hlt:i<kvs.length
 ·refine .inr ⟨⟨q,hlt⟩,by omega,fun x H'' y=>?_⟩
  obtain⟨e,kv,r,hkv,ex,hr⟩:=y
  subst e ex
  exact hs i xs kv r σ _ (fun zs σ' H'=>∃ m',m'<kvs.length - i/\m'=kvs.length - (i+1)/\i+1<=kvs.length/\Pv (i+1) zs σ' H') (fun zs σ' H' r=>⟨_,by omega,rfl,hlt,r⟩) hkv hr p
 ·have e:i=kvs.length:=by omega
  subst e
  exact .inl ⟨⟨q,rfl⟩,hd xs σ H p⟩
end L2
namespace Grf
def S:Nat->(Nat->Int)->Int
 | 0,_=>0
 | n+1,f=>S n f+f n
theorem ap5 {f g:Nat->Int}:∀ {n:Nat},(∀ i,i<n->f i=g i)->S n f=S n g
 | 0,_=>rfl
 | n+1,h=>by
  show S n f+f n=S n g+g n
  rw[ap5 fun i hi=>h i (by omega),h n (by omega)]
theorem bI3 (f g:Nat->Int):∀ n:Nat,S n (fun i=>f i+g i)=S n f+S n g
 | 0=>rfl
 | n+1=>by
  show S n (fun i=>f i+g i)+(f n+g n)=S n f+f n+(S n g+g n)
  rw[bI3 f g n]
  omega
theorem aZ8:∀ n:Nat,S n (fun _=>0)=0
 | 0=>rfl
 | n+1=>by
  show S n (fun _=>0)+0=0
  rw[aZ8 n];rfl
theorem bZ0 (c:Int)(h:j<n):S n (fun i=>if i=j then c else 0)=c:=by
 induction n with
 | zero=>omega
 | succ n ih =>
  show S n (fun i=>if i=j then c else 0)+(if n=j then c else 0)=c
  by_cases e:n=j
  ·rw[if_pos e,ap5 (g:=fun _=>0) fun i hi=>if_neg (by omega),aZ8];omega
  ·rw[if_neg e,ih (by omega)];omega
theorem bw2 {f g:Nat->Int}(h:j<n)(hf:∀ i,i<n->i≠j->f i=g i):S n f=S n g+(f j - g j):=by
 have:S n f=S n (fun i=>g i+(if i=j then f j - g j else 0)):=ap5 fun i hi=>by
  by_cases e:i=j
  ·rw[if_pos e,e];omega
  ·rw[if_neg e,hf i hi e];omega
 rw[this,bI3,bZ0 _ h]
def b2 (b:Bool):Int:=if b then 1 else 0
theorem cc2:b2 true=1:=rfl
theorem cc3:b2 false=0:=rfl
structure Gph (g:Nat->Nat->Bool):Prop where
 sym:∀ i j,g i j=g j i
 irr:∀ i,g i i=false
def deg (n:Nat)(g:Nat->Nat->Bool)(i:Nat):Int:=S n fun j=>b2 (g i j)
def aa0 (g:Nat->Nat->Bool)(a b:Nat)(v:Bool):Nat->Nat->Bool:=fun i j=>if (i=a/\j=b)\/(i=b/\j=a) then v else g i j
theorem ay7 {a b:Nat}{v:Bool}(h:Gph g)(hab:a≠b):Gph (aa0 g a b v) where
 sym:=fun i j=>by
  unfold aa0
  by_cases e:(i=a/\j=b)\/(i=b/\j=a)
  ·rw[if_pos e,if_pos (by omega)]
  ·rw[if_neg e,if_neg (by omega)];exact h.sym i j
 irr:=fun i=>by
  unfold aa0
  rw[if_neg (by omega)];exact h.irr i
theorem Y9 {a b:Nat}{v:Bool}(e:¬ ((i=a/\j=b)\/(i=b/\j=a))):aa0 g a b v i j=g i j:=if_neg e
theorem bz5 {a b:Nat}{v:Bool}:aa0 g a b v a b=v:=if_pos (.inl ⟨rfl,rfl⟩)
theorem ai1 {a b:Nat}{v:Bool}(h:Gph g)(hab:a≠b)(ha:a<n)(hb:b<n)(i:Nat):deg n (aa0 g a b v) i=deg n g i+(if i=a\/i=b then b2 v - b2 (g a b) else 0):=by
 unfold deg
 by_cases e1:i=a
 ·subst e1
  rw[if_pos (.inl rfl),bw2 (g:=fun j=>b2 (g i j)) hb (fun j _ hj=>by show b2 _=_;rw[Y9 (by omega)])]
  show _+(b2 (aa0 g i b v i b) - _)=_
  rw[bz5]
 ·by_cases e2:i=b
  ·subst e2
   rw[if_pos (.inr rfl),bw2 (g:=fun j=>b2 (g i j)) ha (fun j _ hj=>by show b2 _=_;rw[Y9 (by omega)])]
   show _+(b2 (aa0 g a i v i a) - _)=_
   have:aa0 g a i v i a=v:=if_pos (.inr ⟨rfl,rfl⟩)
   rw[this,h.sym i a]
  ·rw[if_neg (by omega),ap5 (g:=fun j=>b2 (g i j)) fun j _=>by show b2 _=_;rw[Y9 (by omega)]]
   omega
end Grf
namespace Grf
def bE2 (g:Nat->Nat->Bool)(a b c d:Nat):Nat->Nat->Bool:=aa0 (aa0 (aa0 (aa0 g a b false) c d false) a d true) c b true
structure Ex (g:Nat->Nat->Bool) (a b c d:Nat):Prop where
 ab:a≠b
 ac:a≠c
 ad:a≠d
 bc:b≠c
 bd:b≠d
 cd:c≠d
 t1:g a b=true
 t2:g c d=true
 n1:g a d=false
 n2:g c b=false
theorem bv1 {a b c d:Nat}(h:Gph g)(x:Ex g a b c d)(ha:a<n)(hb:b<n)(hc:c<n)(hd:d<n)(i:Nat):deg n (bE2 g a b c d) i=deg n g i:=by
 obtain⟨ab,ac,ad,bc,bd,cd,t1,t2,n1,n2⟩:=x
 unfold bE2
 have h1:=ay7 (v:=false) h ab
 have h2:=ay7 (v:=false) h1 cd
 have h3:=ay7 (v:=true) h2 ad
 rw[ai1 h3 (Ne.symm bc) hc hb,ai1 h2 ad ha hd,ai1 h1 cd hc hd,ai1 h ab ha hb]
 have v1:aa0 g a b false c d=true:=by rw[Y9 (by omega)];exact t2
 have v2:aa0 (aa0 g a b false) c d false a d=false:=by rw[Y9 (by omega),Y9 (by omega)];exact n1
 have v3:aa0 (aa0 (aa0 g a b false) c d false) a d true c b=false:=by rw[Y9 (by omega),Y9 (by omega),Y9 (by omega)];exact n2
 rw[t1,v1,v2,v3,cc2,cc3]
 by_cases ea:i=a
 ·subst ea
  rw[if_pos (.inl rfl),if_neg (by omega),if_pos (.inl rfl),if_neg (by omega)];omega
 ·by_cases eb:i=b
  ·subst eb
   rw[if_pos (.inr rfl),if_neg (by omega),if_neg (by omega),if_pos (.inr rfl)];omega
  ·by_cases ec:i=c
   ·subst ec
    rw[if_neg (by omega),if_pos (.inl rfl),if_neg (by omega),if_pos (.inl rfl)];omega
   ·by_cases ed:i=d
    ·subst ed
     rw[if_neg (by omega),if_pos (.inr rfl),if_pos (.inr rfl),if_neg (by omega)];omega
    ·rw[if_neg (by omega),if_neg (by omega),if_neg (by omega),if_neg (by omega)];omega
end Grf
namespace Grf
def cnt (n:Nat)(a:Nat->Bool):Int:=S n fun i=>b2 (a i)
def sm (n:Nat)(a:Nat->Bool)(d:Nat->Int):Int:=S n fun i=>if a i=true then d i else 0
def put (a:Nat->Bool)(j:Nat)(v:Bool):Nat->Bool:=fun i=>if i=j then v else a i
end Grf
namespace Grf
end Grf
namespace Grf
def mnf (r x:Int):Int:=if r<x then r else x
def roomF (n:Nat)(d:Nat->Int)(A:Nat->Bool):Int:=cnt n A*(cnt n A - 1)+S n (fun i=>if A i=true then 0 else mnf (cnt n A) (d i)) - sm n A d
def Top (n:Nat)(d:Nat->Int)(A:Nat->Bool):Prop:=∀ i j,i<n->j<n->A i=true->A j=false->d j<=d i
end Grf
namespace Web
def mn (r x:Int):Int:=if r<x then r else x
end Web
namespace Web
inductive Wl where
 | below (p:Nat) | odd | wall (r:Nat) | free
 deriving DecidableEq
end Web
namespace Web
open L2
def rng (n:Nat):List Int:=(ad8 0 n).map fun k:Nat=>(k:Int)
def rest (zs:List Int)(p:Int):List Int:=zs.filter fun x=>decide (x≠p)
open Grf (S b2 Gph deg cnt sm Top roomF)
theorem aX6 (ns:List Int):∃ zs:List Int,zs.Perm (rng ns.length)/\zs.Pairwise (ole ns):=by
 let le:Int->Int->Bool:=fun x y=>decide (ns.getD y.toNat 0<ns.getD x.toNat 0\/(ns.getD x.toNat 0=ns.getD y.toNat 0/\x<=y))
 refine⟨(rng ns.length).mergeSort le,List.mergeSort_perm _ _,?_⟩
 have:=List.pairwise_mergeSort (le:=le) (fun a b c h1 h2=>?_) (fun a b=>?_) (rng ns.length)
 ·exact this.imp fun h=>aJ6.mpr (of_decide_eq_true h)
 ·have g1:=of_decide_eq_true h1
  have g2:=of_decide_eq_true h2
  exact decide_eq_true (by omega)
 ·rw[Bool.or_eq_true]
  by_cases h:ns.getD b.toNat 0<ns.getD a.toNat 0\/(ns.getD a.toNat 0=ns.getD b.toNat 0/\a<=b)
  ·exact .inl (decide_eq_true h)
  ·exact .inr (decide_eq_true (by omega))
end Web
namespace Web
open L2
open Grf (S b2 Gph deg aa0)
def gW (ks:List (List Int))(i j:Nat):Bool:=decide ([(i:Int),(j:Int)]∈ks) || decide ([(j:Int),(i:Int)]∈ks)
theorem bE1 {a b:Nat}{ks:List (List Int)}:gW ([(a:Int),(b:Int)]::ks)=aa0 (gW ks) a b true:=by
 funext i j
 unfold gW aa0
 have e1:([(i:Int),(j:Int)]=[(a:Int),(b:Int)])↔(i=a/\j=b):=by
  constructor
  ·intro h;injection h with h1 h2;injection h2 with h2;omega
  ·rintro⟨rfl,rfl⟩;rfl
 have e2:([(j:Int),(i:Int)]=[(a:Int),(b:Int)])↔(i=b/\j=a):=by
  constructor
  ·intro h;injection h with h1 h2;injection h2 with h2;omega
  ·rintro⟨rfl,rfl⟩;rfl
 by_cases c:(i=a/\j=b)\/(i=b/\j=a)
 ·rw[if_pos c]
  rcases c with c | c
  ·simp[e1.mpr c]
  ·simp[e2.mpr c]
 ·rw[if_neg c]
  have c1:¬ [(i:Int),(j:Int)]=[(a:Int),(b:Int)]:=fun z=>c (.inl (e1.mp z))
  have c2:¬ [(j:Int),(i:Int)]=[(a:Int),(b:Int)]:=fun z=>c (.inr (e2.mp z))
  simp only[c8,c1,c2,false_or]
theorem bu6 {ks:List (List Int)}(h:∀ k∈ks,Up n k):Gph (gW ks) where
 sym:=fun i j=>by unfold gW;rw[Bool.or_comm]
 irr:=fun i=>by
  have:¬ [(i:Int),(i:Int)]∈ks:=fun z=>by
   obtain⟨a,b,h1,h2,e⟩:=h _ z
   injection e with e1 e2
   injection e2 with e2
   omega
  unfold gW
  rw[decide_eq_false this];rfl
theorem aY9:∀ {ks:List (List Int)},ks.Nodup->(∀ k∈ks,Up n k)->∀ i,deg n (gW ks) i=(F3 ks i:Int)
 | [],_,_,i=>by
  have:deg n (gW []) i=S n (fun _=>0):=Grf.ap5 fun j _=>by simp[gW,b2]
  rw[this,Grf.aZ8]
  rfl
 | k::ks,nd,h,i=>by
  obtain⟨n1,n2⟩:=m9.mp nd
  obtain⟨a,b,h1,h2,e⟩:=h k c6
  subst e
  have hk:∀ k∈ks,Up n k:=fun k hk=>h k (d3 _ hk)
  have hf:gW ks a b=false:=by
   have:¬ [(b:Int),(a:Int)]∈ks:=fun z=>by
    obtain⟨x,y,u1,u2,e⟩:=hk _ z
    injection e with e1 e2
    injection e2 with e2
    omega
   unfold gW
   rw[decide_eq_false n1,decide_eq_false this];rfl
  rw[bE1,Grf.ai1 (bu6 hk) (by omega) (by omega) h2,aY9 n2 hk i,hf]
  have ec:F3 ([(a:Int),(b:Int)]::ks) i=F3 ks i+(if i=a\/i=b then 1 else 0):=by
   show List.countP _ _=List.countP _ _+_
   rw[aM7]
   congr 1
   have:decide ((i:Int)∈[(a:Int),(b:Int)])=decide (i=a\/i=b):=by
    congr 1
    rw[c8,d6]
    exact propext ⟨fun z=>by omega,fun z=>by omega⟩
   rw[this]
   by_cases c:i=a\/i=b
   ·rw[decide_eq_true c,if_pos rfl,if_pos c]
   ·rw[decide_eq_false c,if_neg (by decide),if_neg c]
  rw[ec]
  by_cases c:i=a\/i=b
  ·rw[if_pos c,if_pos c];simp[b2]
  ·rw[if_neg c,if_neg c];simp
theorem ac9 {ks:List (List Int)}(h:i<n):(tal n ks).getD i 0=(F3 ks i:Int):=by
 rw[E1,ae3 h];rfl
theorem bB2 (h1:i<j)(h2:j<n):[(i:Int),(j:Int)]∈ae4 n:=by
 unfold ae4
 refine aM8.mpr ⟨i,E4.mpr (by omega),?_⟩
 unfold bW4
 exact o9.mpr ⟨j - (i+1),E4.mpr (by omega),by
  rw[show ((j - (i+1):Nat):Int)=(j:Int) - ((i:Int)+1) by omega]
  rw[show (i:Int)+1+((j:Int) - ((i:Int)+1))=(j:Int) by omega]⟩
end Web
namespace Web
open L2
open Grf (S b2 Gph deg cnt sm Top roomF)
def sk (p i:Nat):Nat:=if i<p then i else i+1
end Web
namespace Web
open L2
theorem up_eq {a b c d:Int}(h:up [a,b]=up [c,d]):(a=c/\b=d)\/(a=d/\b=c):=by
 unfold up at h
 injection h with h1 h2
 injection h2 with h2 _
 split at h1<;>split at h1<;>split at h2<;>split at h2<;>omega
structure cc8 (ns ps left:List Int) (ks:List (List Int)):Prop where
 len:left.length=ps.length
 nd:ps.Nodup
 inn:∀ q∈ps,0<=q/\q<ns.length
 ends:∀ k∈ks,ak9 ns.length k
 nodup:(ks.map up).Nodup
 out:∀ a b:Int,[a,b]∈ks->¬ (a∈ps/\b∈ps)
 cnt:∀ i q:Nat,ps[i]?=some (q:Int)->(F3 ks q:Int)+left.getD i 0=ns.getD q 0
 done:∀ q:Nat,q<ns.length->(q:Int)∉ps->(F3 ks q:Int)=ns.getD q 0
theorem aA1:∀ {xs ys:List Int},xs.Perm ys->xs.Pairwise (ole ns)->ys.Pairwise (ole ns)->xs=ys
 | [],ys,p,_,_=>p.symm.eq_nil.symm
 | x::xs,[],p,_,_=>by
  have:=p.length_eq
  simp at this
 | x::xs,y::ys,p,h,q=>by
  have hxy:x=y:=by
   have h1:x∈y::ys:=p.mem_iff.mp c6
   have h2:y∈x::xs:=p.mem_iff.mpr c6
   rcases c8.mp h1 with e | e
   ·exact e
   ·rcases c8.mp h2 with e2 | e2
    ·exact e2.symm
    ·exact aQ6 ((F7.mp h).1 y e2) ((F7.mp q).1 x e)
  subst hxy
  rw[aA1 ((List.perm_cons x).mp p) (F7.mp h).2 (F7.mp q).2]
theorem aQ7:∀ {l m:List (List Int)},l.Nodup->(∀ x∈l,x∈m)->l.length<=m.length
 | [],m,_,_=>n9 _
 | x::l,m,nd,h=>by
  have h1:=m9.mp nd
  have hm:=h x c6
  have h2:∀ y∈l,y∈m.erase x:=fun y hy=>by
   have hne:y≠x:=fun e=>h1.1 (e ▸ hy)
   exact(List.mem_erase_of_ne hne).mpr (h y (d3 _ hy))
  have h3:=aQ7 h1.2 h2
  rw[O7 hm]at h3
  have h4:0<m.length:=an3 hm
  simp only[o6]
  omega
theorem ac1 (hn:n<=24){ks:List (List Int)}(nd:ks.Nodup)(h:∀ k∈ks,Up n k):ks.length<=276:=
 t9 (aQ7 nd fun k hk=>by
  obtain⟨i,j,h1,h2,rfl⟩:=h k hk
  exact bB2 h1 h2) (bj4 n hn)
noncomputable def aQ5 (ns:List Int):List Int:=Classical.choose (aX6 ns)
theorem aE3 (ns:List Int):(aQ5 ns).Perm (rng ns.length):=(Classical.choose_spec (aX6 ns)).1
theorem aE2 (ns:List Int):(aQ5 ns).Pairwise (ole ns):=(Classical.choose_spec (aX6 ns)).2
theorem bB3 (hp:zs.Perm (rng ns.length))(hs:zs.Pairwise (ole ns)):zs=aQ5 ns:=aA1 (hp.trans (aE3 ns).symm) hs (aE2 ns)
def chs:List Int->Int->List (List Int)
 | [],m=>if m=0 then [[]] else []
 | p::ps,m=>if m=0 then [[]] else (chs ps (m - 1)).map (p::·)++chs ps m
def Ws (f:List Int->Nat):List Int->Int->Nat
 | [],a=>if a=0 then f [] else 0
 | x::c,a=>Ws (fun l=>f ((x - 1)::l)) c (a - 1)+Ws (fun l=>f (x::l)) c a
def PI (f:List Int->Nat):Prop:=∀ l m:List Int,l.Perm m->f l=f m
def bY8:Nat->List Int->Nat
 | 0,_=>1
 | n+1,[]=>1
 | n+1,a::c=>Ws (bY8 n) c a
def cnt (d:List Int):Nat:=bY8 d.length d
def two (a b:Int)(c:List Int):Nat:=Ws (fun l=>cnt ((b - 1)::l)) c (a - 1)
def bR1 (s:Int)(E:List Int):List Int->List Int
 | []=>[]
 | x::c=>(if s∈E then x - 1 else x)::bR1 (s+1) E c
def bnd (n:Nat):Nat:=([1,1,2,3,6,10,20]:List Nat).getD n 0
def ahd (x:Int)(c E:List Int):Nat:=(((chs (bW5 1 c.length) x).filter fun F=>HT.lexLt F E).map fun F=>cnt (bR1 1 F c)).sum
end Web
namespace L2
open PySem PySem.Spec PyProof.Rows
theorem bl2 {elt iter:Expr} {ifs:List Expr} {ipos:Pos} {wi:TI} {g:TG} {tt:TT} {use:Option (Value->Sem Unit)} {R:Value->Shared->Prop} {Q:VK}
  (hc:X.calm=true) (hi:PI X tg iter wi) (hclos:av9 scope X.env=pure cl) (hkind:scope.kind=.function)
  (hnames:∀ y∈scope.names,y.2=.local->scope.names.lookup y.1=some .local) (hcl:as6 X.env cl) (hfr:au9 scope.names cl=true) (hlk:ba0 X N' lk scope cl)
  (hg:∀ s3 H3 fp,PG (F2 X scope cl N' s3 H3 fp fun _ _=>False) tg g) (ht:∀ s3 H3 fp,PTs (F2 X scope cl N' s3 H3 fp fun _ _=>False) ifs tt) (he:∀ s3 H3 fp,PE (F2 X scope cl N' s3 H3 fp fun _ _=>False) elt te)
  (hs:∀ x,aa4 iter X.env x=pure x) (I:Inv X pins σ H s) (h:bc2 wi lk g tt te σ H Q)
  (hend : ∀ (C D : Addr) (s' : Shared) (H' : Hp), Inv X pins σ H' s' -> Q (.ref D) H' -> H' C = none -> C ≠ X.env.locals -> X.s₀.heap.objs.size <= C -> (∀ x c, X.env.cells.lookup x = some c -> c ≠ C) -> (∀ p ∈ X.pn ++ pins, p.1 ≠ C) -> (∃ m, s'.heap.Ns C m) ->
   aH3 (n6 X.prog X.w) X.A X.xe use R (.ref D) C (.ok .next) s') :
  k9 (n6 X.prog X.w) X.A (comprehension (.ListComp elt [⟨tg,iter,ifs,0⟩] scope pos) scope X.env ipos (newList []) false (eval iter X.env) use) R X.xe s:=by
 have hcellN:∀ y∈scope.names,y.2≠.cell:=fun y hy=>by
  unfold au9 at hfr
  rw[D0]at hfr
  have:=hfr y hy
  rw[v7]at this
  simpa using this.1
 refine al7 (use:=use) rfl hs hclos hkind hnames (thn (hi pins s σ H _ I h) fun v s1 h1=>thn h1 fun itv s2 h2=>?_)
 obtain⟨it,fp,tn,J,H2,e,I2,T,st2,f2,q⟩:=h2
 subst e
 refine T8 ?_ (n9 _)
 have hD:H2 s2.heap.objs.size=none:=I2.hok.fresh (c5 _)
 have I3:=I2.lnew (ys:=[]) (its:=[]) (t':=s2.toks) .nil (n9 _)
 obtain⟨W,⟨m0,w0⟩,turn⟩:=q s2.heap.objs.size hD
 have fpl:∀ b∈fp,b<s2.heap.objs.size:=fun b hb=>by
  obtain⟨o,ho,_⟩:=T.obj 0 s2.heap st2 b hb
  exact c9 ho
 refine ax7 hcellN (by intro y hy;cases hy) (fun h1 hns1 hsb1=>?_) hkind
 dsimp only at hns1 hsb1 ⊢
 have e3:s2.heap.push { cls:=.type "list",dict:=none,data:=.seq ([]:List Value).toArray }=s2.heap.push { cls:=.type "list",data:=.seq ([]:List Value).toArray }:=rfl
 generalize hh3:s2.heap.push { cls:=.type "list",dict:=none,data:=.seq ([]:List Value).toArray }=h3 at *
 have I3':Inv X pins σ (upd H2 s2.heap.objs.size (.lst [])) { s2 with heap:=h3,toks:=s2.toks }:=I3
 have size3:h3.objs.size=s2.heap.objs.size+1:=by rw[<- hh3,C1]
 have f3:∀ b∈fp,R6 X pins (upd H2 s2.heap.objs.size (.lst [])) b:=fun b hb=>by
  obtain⟨f0,fr⟩:=f2 b hb
  exact⟨by rw[n4 (j0 (fpl b hb))];exact f0,fr⟩
 have up:∀ b u,h3.get? b=some u->h1.get? b=some u:=fun b u eb=>by
  rw[hsb1.2 b (j0 (c9 eb))]
  exact a6 _ eb
 have I4:Inv (F2 X scope cl N' { s2 with heap:=h3,toks:=s2.toks } (upd H2 s2.heap.objs.size (.lst [])) fp fun _ _=>False) [] (X6 lk σ) (upd H2 s2.heap.objs.size (.lst [])) { s2 with heap:=h1,toks:=s2.toks+([]:List (Str × Value)).length }:=
  aB3 (s3:={ s2 with heap:=h3,toks:=s2.toks }) I3' f3 hkind hcl hfr hlk hns1 up fun b hb=>by show b<h3.objs.size;rw[size3];exact u7 (fpl b hb)
 have st4:tn 0 h1:=T.keep 0 s2.heap h1 st2 fun b hb o eb=>up b o (by rw[<- hh3];exact a6 _ eb)
 have hCs:h3.objs.size=(M0 scope cl h3.objs.size X.env).locals:=rfl
 have stat:∀ {H':Hp},(∀ b∈fp,H' b=none)->∀ b∈fp,R6 (F2 X scope cl N' { s2 with heap:=h3,toks:=s2.toks } (upd H2 s2.heap.objs.size (.lst [])) fp fun _ _=>False) [] H' b:=fun {H'} hn b hb=>by
  obtain⟨f0,f1,f2',f3',f4,f5⟩:=f3 b hb
  refine⟨hn b hb,?_,fun z=>?_,.inl hb,fun x c ex=>f4 x c (hcl.get ex),fun p hp=>nomatch hp⟩
  ·show b≠h3.objs.size
   rw[size3]
   exact j0 (u7 (fpl b hb))
  ·rcases c8.mp (I3'.stkSub b z) with q | q
   ·exact f1 q
   ·exact f2' q
 have fin:∀ (s':Shared) (σ':St) (H':Hp),Inv (F2 X scope cl N' { s2 with heap:=h3,toks:=s2.toks } (upd H2 s2.heap.objs.size (.lst [])) fp fun _ _=>False) [] σ' H' s'->Q (.ref s2.heap.objs.size) H' ->
   aH3 (n6 X.prog X.w) X.A X.xe use R (.ref s2.heap.objs.size) h3.objs.size (.ok .next) s':=fun s' σ' H' I' q'=>by
  obtain⟨m,hm,_⟩:=id I'.loc
  have I5:Inv X pins σ H' s':=I3'.call' (ch:=fp) I'.os I'.base I'.hok I'.bare fun b hb=>by
   obtain⟨f0,f1,f2',f3',f4,f5⟩:=f3 b hb
   exact⟨f3',f1,f4,f5⟩
  exact hend h3.objs.size s2.heap.objs.size s' H' I5 q' I'.free (M5 I3'.lt) I3'.sz (fun x c ex z=>by
   obtain⟨v',q2⟩:=I3'.cell x c ex
   exact absurd q2.lt (by rw[z];exact A3 _)) (fun p hp z=>absurd (c9 (I3'.pin p hp).1) (by rw[z];exact A3 _)) ⟨m,hm⟩
 have loop:∀ s5:Shared,s5={ s2 with heap:=h1,toks:=s2.toks+([]:List (Str × Value)).length } ->
   V2 (n6 X.prog X.w) X.A (.compLoop (.ListComp elt [⟨tg,iter,ifs,0⟩] scope pos) 0 (.ref it) (.ref s2.heap.objs.size) (M0 scope cl h3.objs.size X.env)) (aH3 (n6 X.prog X.w) X.A X.xe use R (.ref s2.heap.objs.size) h3.objs.size) s5:=by
  rintro s5 rfl
  refine bJ7 rfl (fun n s'=>∃ i xs σ' H',Inv (F2 X scope cl N' { s2 with heap:=h3,toks:=s2.toks } (upd H2 s2.heap.objs.size (.lst [])) fp fun _ _=>False) [] σ' H' s'/\tn i s'.heap/\(∀ b∈fp,H' b=none)/\W i n xs σ' H')
   (fun n s6 hI=>?_) m0 ⟨0,[],X6 lk σ,_,I4,st4,fun b hb=>(f3 b hb).1,w0⟩
  obtain⟨i,xs,σ6,H6,I6,st6,fr6,w6⟩:=hI
  show k9 _ X.A ((compTurn (.ListComp elt [⟨tg,iter,ifs,0⟩] scope pos) 0 (.ref it) (.ref s2.heap.objs.size) (M0 scope cl h3.objs.size X.env)).onRaise (fun x=>do noteFrame x (M0 scope cl h3.objs.size X.env);bh6 x)) _ _ s6
  refine bT9 ?_
  rw[bx7]
  refine a5 (an6 (a5 ?_))
  obtain⟨hD6,hw⟩:=turn i n xs σ6 H6 w6
  rcases hw with⟨stop,qn⟩ | ⟨go,hlen,step⟩
  ·refine thn (T.done (F2 X scope cl N' { s2 with heap:=h3,toks:=s2.toks } (upd H2 s2.heap.objs.size (.lst [])) fp fun _ _=>False) rfl rfl rfl hc i [] s6 σ6 H6 _ I6 (stat fr6) st6 stop) fun r s7 ⟨hr,I7⟩=>?_
   subst hr
   exact a8 (fin s7 σ6 H6 I7 qn)
  ·refine thn (T.item (F2 X scope cl N' { s2 with heap:=h3,toks:=s2.toks } (upd H2 s2.heap.objs.size (.lst [])) fp fun _ _=>False) rfl rfl rfl hc i [] s6 σ6 H6 _ I6 (stat fr6) st6 go) fun r s7 ⟨u,hr,h7⟩=>?_
   subst hr
   refine a5 (thn h7 fun _ s8 ⟨x,H8,I8,r8,y8,st8,fr8⟩=>?_)
   have I8':=I8.pinned (stat fr8) (T.obj _ _ st8)
   refine a5 (C2 (hg _ _ _ _ s8 σ6 H8 x u _ I8' r8 (step x H8 y8)) (fun _ s9 ⟨σ9,H9,I9,q9⟩=>?_) (fun _ _ z=>False.elim z))
   refine a5 (C2 (ht _ _ _ _ s9 σ9 H9 _ I9 q9) (fun ok s10 ⟨H10,I10,q10⟩=>?_) (fun _ _ z=>False.elim z))
   have again:∀ {σ':St} {H':Hp} {ys:List V} {s':Shared},Inv (F2 X scope cl N' { s2 with heap:=h3,toks:=s2.toks } (upd H2 s2.heap.objs.size (.lst [])) fp fun _ _=>False) ([]++ah3 fp s8.heap) σ' H' s'->(∃ m',m'<n/\W (i+1) m' ys σ' H') ->
     ∃ m',m'<n/\∃ i xs σ' H',Inv (F2 X scope cl N' { s2 with heap:=h3,toks:=s2.toks } (upd H2 s2.heap.objs.size (.lst [])) fp fun _ _=>False) [] σ' H' s'/\tn i s'.heap/\(∀ b∈fp,H' b=none)/\W i m' xs σ' H':=fun {σ' H' ys s'} I' ⟨m',hm,w'⟩=>by
    refine⟨m',hm,i+1,ys,σ',H',I'.unpinned,T.keep _ _ _ st8 fun b hb o eb=>(I'.pin (b,o) (j8 _ (j8 _ (N6 hb eb)))).1,fun b hb=>?_,w'⟩
    obtain⟨o,eb,_⟩:=T.obj _ _ st8 b hb
    exact(I'.pin (b,o) (j8 _ (j8 _ (N6 hb eb)))).2.1
   cases ok with
   | false =>
    have q10':∃ m',m'<n/\W (i+1) m' xs σ9 H10:=by simpa using q10
    exact a8 ⟨rfl,again I10 q10'⟩
   | true =>
    rw[if_pos rfl]at q10
    refine a5 (a5 (C2 (he _ _ _ _ s10 σ9 H10 _ I10 q10) (fun y s11 ⟨v11,H11,I11,r11,hD11,q11⟩=>?_) (fun _ _ z=>False.elim z)))
    refine a5 (C2 (O9 (X:=F2 X scope cl N' { s2 with heap:=h3,toks:=s2.toks } (upd H2 s2.heap.objs.size (.lst [])) fp fun _ _=>False) _ s11 σ9 H11 (.ref s2.heap.objs.size) [v11] (.ref s2.heap.objs.size) [y] (fun _ H'=>∃ m',m'<n/\W (i+1) m' (xs++[v11]) σ9 H') I11 rfl (.cons r11 .nil) ⟨s2.heap.objs.size,xs,v11,rfl,rfl,hD11,hlen,q11⟩) (fun _ s12 ⟨_,H12,I12,_,q12⟩=>?_) (fun _ _ z=>False.elim z))
    exact a8 (a8 ⟨rfl,again I12 q12⟩)
 exact aq3 (loop _ rfl) (T.self X.A 0 _ _ _ st4 (loop _ rfl))
def bU5 (i:Nat)(t:TE):TS:=fun D σ H=>t σ H fun v H1=>D.nx (σ.set i (some v)) H1
theorem bd6 {y:Str}{py:Pos}{elt iter:Expr}{ifs:List Expr}{spos:Pos}{wi:TI}{g:TG}{tt:TT}
  (hN:X.N.Nodup)(hy:X.N[i]?=some y)(hyl:X.env.scope.names.lookup y=some .local)
  (hsw:bJ0 (.ListComp elt [⟨tg,iter,ifs,0⟩] scope pos) (some (.Name y py)) spos.line X.env=pure true)
  (hc:X.calm=true)(hi:PI X tg iter wi)(hclos:av9 scope X.env=pure cl)(hkind:scope.kind=.function)
  (hnames:∀ y∈scope.names,y.2=.local->scope.names.lookup y.1=some .local)(hcl:as6 X.env cl)(hfr:au9 scope.names cl=true)(hlk:ba0 X N' lk scope cl)
  (hg:∀ s3 H3 fp,PG (F2 X scope cl N' s3 H3 fp fun _ _=>False) tg g)(ht:∀ s3 H3 fp,PTs (F2 X scope cl N' s3 H3 fp fun _ _=>False) ifs tt)(he:∀ s3 H3 fp,PE (F2 X scope cl N' s3 H3 fp fun _ _=>False) elt te)
  (hs:∀ x,aa4 iter X.env x=pure x:=by intro _;rfl):PS X (.Assign [.Name y py] (.ListComp elt [⟨tg,iter,ifs,0⟩] scope pos) spos) (bU5 i (bc2 wi lk g tt te)):=by
 intro pins s σ H D I h
 rw[exec_Assign_Name_used _ _ _ _ hsw]
 refine a5 (an6 (a5 ?_))
 show k9 _ X.A (do let _ <- comprehension (.ListComp elt [⟨tg,iter,ifs,0⟩] scope pos) scope X.env _ (newList []) false (eval iter X.env) (some (assign (.Name y py) X.env))) _ _ s
 refine a5 (thn (bl2 (use:=some (assign (.Name y py) X.env)) (R:=fun _ s'=>SP X pins D .next s') hc hi hclos hkind hnames hcl hfr hlk hg ht he hs I h
  fun C Dd s' H' I' q' hC hCL hCs hCc hCp ⟨m,hm⟩=>?_) fun _ s' hq=>a8 (a8 hq))
 show k9 _ X.A (assign (.Name y py) X.env (.ref Dd)) _ _ s'
 refine wpAny_assign_Name (aD5 (v:=.ref Dd) I' hN hy (.inl hyl) rfl (fun s2 I2 ⟨a,hsb,ha⟩=>?_) (.inr hyl))
 have hCa:C≠a:=by
  rcases ha with z | z
  ·rw[z];exact hCL
  ·exact(hCc y a z).symm
 refine⟨m,hm.sameBut hsb hCa,fun h' hs'=>?_⟩
 obtain⟨h0,g0,d0,t0,o0⟩:=s2
 exact⟨_,H',I2.turned (t':=t0) (it:=C) (fun b o hb eb=>(hs'.2 b hb).trans eb) hC hCL (.inr hCs) hCc hCp,q'⟩
end L2
namespace Web
open PySem L2
theorem Y8 (a b:Int):up [a,b]=up [b,a]:=by
 show [(if b<a then b else a),(if b > a then b else a)]=[(if a<b then a else b),(if a > b then a else b)]
 rcases bT1 a b with h | h | h
 ·rw[if_neg (by omega),if_pos (by omega),if_pos (by omega),if_neg (by omega)]
 ·subst h;rfl
 ·rw[if_pos (by omega),if_neg (by omega),if_neg (by omega),if_pos (by omega)]
theorem as9 {a b:Int}(h:a<b):up [a,b]=[a,b]:=by
 show [(if b<a then b else a),(if b > a then b else a)]=_
 rw[if_neg (by omega),if_pos (by omega)]
def nb1 (x:Nat):List Int->List Int
 | [i,j]=>(if i=(x:Int) then [j] else [])++(if j=(x:Int) then [i] else [])
 | _=>[]
def nbF (ks:List (List Int))(x:Nat):List Int:=ks.flatMap (nb1 x)
theorem U4 {ks:List (List Int)}(hU:∀ k∈ks,Up n k)(x:Nat)(y:Int):y∈nbF ks x↔∃ Y:Nat,Y<n/\y=(Y:Int)/\up [(x:Int),(Y:Int)]∈ks:=by
 unfold nbF
 rw[aM8]
 constructor
 ·rintro⟨k,hk,hy⟩
  obtain⟨i,j,hij,hj,rfl⟩:=hU k hk
  rcases n8.mp hy with h | h
  ·split at h
   ·rename_i e
    rw[d6.mp h]
    refine⟨j,hj,rfl,?_⟩
    rw[<- e,as9 (by omega)]
    exact hk
   ·cases h
  ·split at h
   ·rename_i e
    rw[d6.mp h]
    refine⟨i,by omega,rfl,?_⟩
    rw[<- e,Y8,as9 (by omega)]
    exact hk
   ·cases h
 ·rintro⟨Y,hY,rfl,h⟩
  refine⟨_,h,?_⟩
  obtain⟨i,j,hij,hj,e⟩:=hU _ h
  rcases S7 x Y with z | z | z
  ·rw[as9 (by omega)]
   refine A9 _ ?_
   rw[if_pos rfl]
   exact d6.mpr rfl
  ·subst z
   have:up [(x:Int),(x:Int)]=[(x:Int),(x:Int)]:=by show [(if (x:Int)<x then (x:Int) else x),(if (x:Int) > x then (x:Int) else x)]=_;simp
   rw[this]at e
   injection e with e1 e2
   injection e2 with e2
   omega
  ·rw[Y8,as9 (by omega)]
   refine j8 _ ?_
   rw[if_pos rfl]
   exact d6.mpr rfl
structure NN (H:Hp) (a:Addr) (ps:List Addr) (T:Nat->List Int) (n:Nat):Prop where
 lst:H a=some (.lst (ps.map V.ref))
 len:ps.length=n
 row:∀ (i:Nat) (p:Addr),ps[i]?=some p->H p=some (.lst ((T i).map V.int))
 nd:ps.Nodup
 out:a∉ps
theorem NN.same {ps:List Addr}(h:NN H a ps T n)(s:A0 H H'):NN H' a ps T n:=⟨s _ _ h.lst,h.len,fun i p e=>s _ _ (h.row i p e),h.nd,h.out⟩
theorem NN.at {ps:List Addr}(h:NN H a ps T n)(hi:i<n):∃ p,ps[i]?=some p/\H p=some (.lst ((T i).map V.int))/\(ps.map V.ref)[i]?=some (.ref p):=by
 have hl:i<ps.length:=by rw[h.len];exact hi
 exact⟨ps[i],m6 hl,h.row i _ (m6 hl),by rw[j6,m6 hl];rfl⟩
theorem bs8 {ps:List Addr}(h:ps.Nodup){p:Addr}(h1:ps[i]?=some p)(h2:ps[j]?=some p):i=j:=by
 have hi:i<ps.length:=by
  rcases W8 i ps.length with l | l
  ·exact l
  ·rw[C8 l]at h1;cases h1
 exact(bS5 hi h).mp (h1.trans h2.symm)
theorem NN.put {p:Addr}{ps:List Addr}{r:Nat}(h:NN H a ps T n)(hp:ps[r]?=some p)(l:List Int):NN (upd H p (.lst (l.map V.int))) a ps (fun i=>if i=r then l else T i) n:=by
 have hpa:a≠p:=fun z=>h.out (by rw[z];exact d9 hp)
 refine⟨by rw[n4 hpa];exact h.lst,h.len,fun i q e=>?_,h.nd,h.out⟩
 by_cases hi:i=r
 ·subst hi
  rw[hp]at e
  cases e
  rw[if_pos rfl]
  exact b9
 ·have hq:q≠p:=fun z=>hi (bs8 h.nd (by rw[z]at e;exact e) hp)
  rw[n4 hq,if_neg hi]
  exact h.row i q e
theorem bD3 (x:Nat)(k:List Int):(nb1 x k).length<=2:=by
 unfold nb1
 split
 ·rw[j9]
  split<;>split<;>simp
 ·exact n9 _
theorem aJ9 (ks:List (List Int))(x:Nat):(nbF ks x).length<=2*ks.length:=by
 unfold nbF
 induction ks with
 | nil=>exact c5 _
 | cons k ks ih =>
  rw[bS6,j9,o6]
  have:=bD3 x k
  omega
theorem bs9 {ks:List (List Int)}{m:Nat}(h:ks[m]?=some k)(x:Nat):nbF (ks.take (m+1)) x=nbF (ks.take m) x++nb1 x k:=by
 unfold nbF
 rw[B8,h,List.flatMap_append]
 simp
theorem aS5 (x:Int)(ns:List Int):inV (.int x) (ns.map V.int)=decide (x∈ns):=by
 unfold inV
 rw[bw7,O3,bT2,decide_eq_true_iff]
 constructor
 ·rintro⟨y,hy,e⟩
  have:y=x:=by simpa [eqV] using e
  exact this ▸ hy
 ·intro h
  exact⟨x,h,by simp[eqV]⟩
theorem aF3 (ns:List Int):(ns.map V.int).all ao7=true:=by
 rw[D0]
 intro y hy
 obtain⟨z,_,rfl⟩:=o9.mp hy
 rfl
inductive Run (V:Prop) (c0:List Int):List (List Int)->List Int->Nat->Prop
 | nil:Run V c0 [] c0 0
 | snoc {Es:List (List Int)} {x:Int} {c E:List Int} {r:Nat}:Run V c0 Es (x::c) r->(V->E∈chs (bW5 1 c.length) x)->Run V c0 (Es++[E]) (bR1 1 E c) (r+ahd x c E)
end Web
namespace L2
open PySem PySem.Spec PyProof.Rows PySem.SeqAt
theorem aL6 (hc:X.calm=true):O1 X (.type "list") (fun xs H Q=>∃ (a:Addr) (kvs:List (List Key × V)),xs=[V.ref a]/\Rd H a (.dT kvs) /\
  ∀ (l:Addr) (ps:List Addr),H l=none->ps.length=kvs.length->(∀ (i:Nat) (p:Addr) (kv:List Key × V),ps[i]?=some p->kvs[i]?=some kv->H p=some (.tup (kv.1.map kV)))->Q (.ref l) (upd H l (.lst (ps.map V.ref)))):=by
 intro pins s σ H xs us Q I r h
 obtain⟨a,kvs,rfl,ha,q⟩:=h
 obtain⟨u,rfl,rx⟩:=vals1 r
 cases rx
 obtain⟨z,hd,xs,kt,o,es,ep,h1,h2,h3,h4,h5,h6⟩:=at4 I.hok ha
 have hsz:es.size=xs.length:=P4 h4
 have hkl:kvs.length=xs.length:=kt.length
 refine bq5 (I.ok.hd hc) hd ⟨o,h1,h2,h3⟩ (by omega) fun h' tk acc c' kp e hacc=>?_
 have hv:B6 ((xs.map fun x=>V.ref x.2.1)) acc.toList:=by
  refine ar1 (by have:=hacc.1;rw[b8];show xs.length=acc.toList.length;simp only[d8];omega) fun i x v hx hv=>?_
  rw[b7]at hv
  obtain⟨en,he,rfl⟩:=hacc.2 i v hv
  rw[by1 h4 i]at he
  rw[j6]at hx
  cases hxi:xs[i]? with
  | none=>rw[hxi]at hx;cases hx
  | some y =>
   rw[hxi]at hx he
   cases hx
   cases he
   rfl
 have hps:(xs.map fun x=>V.ref x.2.1)=(xs.map fun x=>x.2.1).map V.ref:=by rw[P2];rfl
 rw[hps]at hv
 refine⟨.ref s.heap.objs.size,_,I.laid (t':=tk) kp (c5 _) (show D5 X.prog X.w _ h' _ (.lst ((xs.map fun x=>x.2.1).map V.ref)) from ⟨by rw[b8,b8,<- hkl];exact z,acc.toList,c',hv,by rw[ab0];exact e⟩),rfl,q _ (xs.map fun x=>x.2.1) (I.hok.fresh (c5 _)) (by rw[b8,hkl]) fun i p kv hp hk=>?_⟩
 rw[j6]at hp
 cases hxi:xs[i]? with
 | none=>rw[hxi]at hp;cases hp
 | some y =>
  rw[hxi]at hp
  cases hp
  obtain⟨y',hy',hr⟩:=S0 kt hk
  rw[hxi]at hy'
  cases hy'
  exact hr.2.1
end L2
namespace HT
open PySem PyProof.Rows
end HT
namespace L2
open PySem PyProof.Rows Web
end L2
namespace Web
open PySem L2
def hp2 (i j:Int):Int:=reduceHash (Builtin.Tuple.tupleHashOf [bT4 i,bT4 j])
def hpk:List Int->Int
 | [i,j]=>hp2 i j
 | _=>0
theorem aY7:((ae4 24).map hpk).Nodup:=by
 have e:(ae4 24).map (fun k=>(hpk k % 1530).toNat)=[1050,1262,1061,606,210,617,221,1296,900,1307,852,456,1,1135,12,1146,691,490,702,247,1381,1180,1392,833,1240,844,389,1523,400,1475,1079,624,1090,635,239,1314,191,1325,870,474,881,485,30,1359,41,1242,846,645,1052,402,201,1081,212,1092,891,436,902,447,51,1126,1338,1137,682,286,693,297,1093,638,437,649,448,1328,1127,1339,1138,683,287,694,44,1373,977,522,929,533,78,1212,894,1301,905,450,54,461,6,1140,685,1151,696,300,1375,252,1386,1185,535,334,741,9,1084,629,233,1308,244,1319,923,468,875,479,278,1158,35,1364,714,513,725,469,876,480,25,1159,36,1170,715,514,726,271,1405,1204,1416,961,760,110,1132,482,281,493,292,1367,971,1378,982,527,72,538,83,1217,762,366,729,528,1408,539,84,1218,763,367,774,378,1453,998,1464,1009,613,530,937,541,86,1220,1019,1231,776,575,1455,586,1466,1265,810,313,720,324,1399,1198,1410,1209,559,358,765,115,1444,1048,976,521,125,532,136,1211,756,1222,767,371,1446,382,768,372,1447,383,1458,1003,607,152,618,163,1297,619,164,1298,843,1309,854,399,3,410,14,352,564,363,1243,1042,1449,1053,598,202,1479,610,1490,1289,834,1046,845,449,612,157,1291,168,1302,847,451,404,8,1083,687,1094,698,196,603,207,1282,886,1518,454,1529,1133,1369,914,1380,248,1382,31]:=by decide +kernel
 have n:([1050,1262,1061,606,210,617,221,1296,900,1307,852,456,1,1135,12,1146,691,490,702,247,1381,1180,1392,833,1240,844,389,1523,400,1475,1079,624,1090,635,239,1314,191,1325,870,474,881,485,30,1359,41,1242,846,645,1052,402,201,1081,212,1092,891,436,902,447,51,1126,1338,1137,682,286,693,297,1093,638,437,649,448,1328,1127,1339,1138,683,287,694,44,1373,977,522,929,533,78,1212,894,1301,905,450,54,461,6,1140,685,1151,696,300,1375,252,1386,1185,535,334,741,9,1084,629,233,1308,244,1319,923,468,875,479,278,1158,35,1364,714,513,725,469,876,480,25,1159,36,1170,715,514,726,271,1405,1204,1416,961,760,110,1132,482,281,493,292,1367,971,1378,982,527,72,538,83,1217,762,366,729,528,1408,539,84,1218,763,367,774,378,1453,998,1464,1009,613,530,937,541,86,1220,1019,1231,776,575,1455,586,1466,1265,810,313,720,324,1399,1198,1410,1209,559,358,765,115,1444,1048,976,521,125,532,136,1211,756,1222,767,371,1446,382,768,372,1447,383,1458,1003,607,152,618,163,1297,619,164,1298,843,1309,854,399,3,410,14,352,564,363,1243,1042,1449,1053,598,202,1479,610,1490,1289,834,1046,845,449,612,157,1291,168,1302,847,451,404,8,1083,687,1094,698,196,603,207,1282,886,1518,454,1529,1133,1369,914,1380,248,1382,31]:List Nat).Nodup:=by decide +kernel
 rw[<- e]at n
 exact D9.mpr (List.Pairwise.imp (fun {a b} h z=>h (by rw[z])) (D9.mp n))
theorem bu4 (P:Program)(w:World)(i j:Int):i6 (K8 P w) [Sum.inl i,Sum.inl j]=hpk [i,j]:=by
 unfold i6
 exact congrArg (fun l=>reduceHash (Builtin.Tuple.tupleHashOf l)) rfl
theorem aa2 {x y:List Int}(hx:x∈ae4 24)(hy:y∈ae4 24)(h:hpk x=hpk y):x=y:=by
 have n:=aY7
 revert hx hy n
 generalize ae4 24=L
 intro hx hy n
 obtain⟨a,ha⟩:=l5.mp hx
 obtain⟨b,hb⟩:=l5.mp hy
 have hab:a=b:=by
  have h1:(L.map hpk)[a]?=some (hpk x):=by rw[j6,ha];rfl
  have h2:(L.map hpk)[b]?=some (hpk y):=by rw[j6,hb];rfl
  obtain⟨la,_⟩:=a9.mp h1
  exact(bS5 la n).mp (by rw[h1,h2,h])
 rw[hab,hb]at ha
 injection ha with ha
 exact ha.symm
theorem ar7 (P:Program)(w:World){ks:List (List Int)}(hn:n<=24)(hu:∀ k∈ks,Up n k)(nd:ks.Nodup):((ks.map (Y0 (Sum.inl:Int->Key))).map (i6 (K8 P w))).Nodup:=by
 have e:(ks.map (Y0 (Sum.inl:Int->Key))).map (i6 (K8 P w))=ks.map hpk:=by
  rw[P2]
  refine V4 fun k hk=>?_
  obtain⟨i,j,_,_,rfl⟩:=hu k hk
  rw[Function.comp_apply,j3,j3,aG9]
  exact bu4 P w i j
 rw[e]
 have hin:∀ k∈ks,k∈ae4 24:=fun k hk=>by
  obtain⟨i,j,h1,h2,rfl⟩:=hu k hk
  refine aM8.mpr ⟨i,E4.mpr (by omega),o9.mpr ⟨j - (i+1),E4.mpr (by omega),?_⟩⟩
  rw[show (i:Int)+1+((j - (i+1):Nat):Int)=(j:Int) by omega]
 refine D9.mpr (List.Pairwise.imp_of_mem (fun {a b} ha hb hab z=>hab (aa2 (hin a ha) (hin b hb) z)) nd)
end Web
namespace L2
open PySem PySem.Spec PyProof.Rows PySem.SeqAt
end L2
namespace PySem.F
set_option maxRecDepth 100000
theorem aQ4:Manifest.owners.lookup (String.ofList ['r','o','t','a','r','e','t','i','_','t','e','s'].reverse)=some Manifest.sig_set_iterator:=by kernel_rfl
theorem sl_seti:Slot "set_iterator" "__next__" "set_iterator.__next__":=.of (owner:="set_iterator") (n:="__next__") (by rw[au1,ac0];kernel_rfl) (by decide +kernel) (by decide +kernel) (by decide +kernel) (by first | exact .inl (by decide +kernel) | exact .inr (by decide +kernel)) (by rw[V8];kernel_rfl)
theorem en_seti:entryFor table "set_iterator.__next__"=some Builtin.«set_iterator.__next__»:=entryFor_of_tree (by kernel_rfl)
theorem ar_seti (a:Value):argsOk "set_iterator.__next__" ⟨[a],[]⟩:=by unfold argsOk;rw[signature?_of (id:="set_iterator.__next__") (n:=['_','_','t','x','e','n','_','_']) (o:=['r','o','t','a','r','e','t','i','_','t','e','s']) (by kernel_rfl) aQ4];kernel_rfl
theorem en_setI:entryFor table "set.__iter__"=some Builtin.«frozenset.__iter__»:=bm5 (id':="frozenset.__iter__") (by kernel_rfl) rfl (by decide +kernel) (by kernel_rfl)
theorem sl_setii:Slot "set_iterator" "__iter__" "set_iterator.__iter__":=.of (owner:="set_iterator") (n:="__iter__") (by rw[au1,ac0];kernel_rfl) (by decide +kernel) (by decide +kernel) (by decide +kernel) (by first | exact .inl (by decide +kernel) | exact .inr (by decide +kernel)) (by rw[V8];kernel_rfl)
theorem en_setii:entryFor table "set_iterator.__iter__"=some Builtin.«dict_keyiterator.__iter__»:=bm5 (id':="dict_keyiterator.__iter__") (by kernel_rfl) rfl (by decide +kernel) (by kernel_rfl)
theorem ar_setii (a:Value):argsOk "set_iterator.__iter__" ⟨[a],[]⟩:=by unfold argsOk;rw[signature?_of (id:="set_iterator.__iter__") (n:=['_','_','r','e','t','i','_','_']) (o:=['r','o','t','a','r','e','t','i','_','t','e','s']) (by kernel_rfl) aQ4];kernel_rfl
end PySem.F
namespace L2
open PySem PySem.Spec PyProof.Rows PySem.SeqAt
abbrev En:=Int × Value
theorem bd9 {α:Type}(nx:Nat->Nat):∀ (n k:Nat) (left:List α) (out:Array α),left.length=n->(pickOrder.go nx n k left out).toList.Perm (out.toList++left)
 | 0,k,left,out,h=>by
  have:left=[]:=List.length_eq_zero_iff.mp h
  subst this
  unfold pickOrder.go
  simp
 | n+1,k,left,out,h=>by
  unfold pickOrder.go
  have hlt:nx k % left.length<left.length:=bl9 _ (by omega)
  rw[m6 hlt]
  dsimp only
  refine(bd9 nx n (k+1) _ _ (by rw[List.length_eraseIdx_of_lt hlt];omega)).trans ?_
  rw[N7,r0]
  refine List.Perm.append_left _ ?_
  rw[List.eraseIdx_eq_take_drop_succ]
  show (left[nx k % left.length]::(left.take (nx k % left.length)++left.drop (nx k % left.length+1))).Perm left
  refine bT3.symm.trans ?_
  rw[List.getElem_cons_drop,J2]
theorem aE0 {α:Type}(nx:Nat->Nat)(xs:Array α):(al8 nx xs).toList.Perm xs.toList:=by
 have:=bd9 nx xs.size 0 xs.toList #[] (by simp)
 unfold al8
 simpa using this
def am7 (h:Heap)(S:Addr)(es:Array En)(ep:Nat)(t:SetTable):Prop:=∃ o,h.get? S=some o/\o.ExactSet/\o.data=.set es ep t
theorem am7.typeIs {S:Addr}{t:SetTable}(x:am7 s.heap S es ep t):s.TypeIs (.ref S) "set":=let ⟨o,ho,hc,_⟩:=x;⟨o,ho,hc.1⟩
theorem am7.at' {S:Addr}{t:SetTable}(x:am7 h S es ep t)(e:∀ o,h.get? S=some o->h'.get? S=some o):am7 h' S es ep t:=let ⟨o,ho,r⟩:=x;⟨o,e _ ho,r⟩
structure WkS (w:World) (es:Array En) (t:SetTable):Prop where
 fit:t.fits es.size=true
 asc:Sett.Asc t.place
 pl:t.plain=true
 led:w.params.followText "set-order"=true\/t.led=true
def U3 (w:World)(S:Addr)(ep:Nat)(es:Array En):Array En:=if w.params.followText "set-order"=true then al8 (w.params.setOrder S ep) es else es
theorem ar2 (w:World)(S:Addr)(ep:Nat)(es:Array En):(U3 w S ep es).toList.Perm es.toList:=by
 unfold U3
 split
 ·exact aE0 _ _
 ·exact List.Perm.refl _
def K6 (h:Heap)(it S:Addr)(slot i n ep:Nat):Prop:=∃ o,h.get? it=some o/\o.cls=.type "set_iterator"/\o.data=.fields #[.int slot 0,.int i 0,.ref S,.int n 0,.int ep 0]
theorem K6.typeIs {it S:Addr}{slot:Nat}(x:K6 s.heap it S slot i n ep):s.TypeIs (.ref it) "set_iterator":=let ⟨o,ho,hc,_⟩:=x;⟨o,ho,hc⟩
theorem K6.at' {it S:Addr}{slot:Nat}(x:K6 h it S slot i n ep)(e:∀ o,h.get? it=some o->h'.get? it=some o):K6 h' it S slot i n ep:=let ⟨o,ho,r⟩:=x;⟨o,e _ ho,r⟩
theorem bp1 {S:Addr}{t:SetTable}(hm:am7 s.heap S es ep t)(W:WkS w es t)
  (hQ:Q (.ref s.heap.objs.size) { s with heap:=s.heap.push { cls:=.type "set_iterator",data:=.fields #[.int 0 0,.int 0 0,.ref S,.int es.size 0,.int ep 0] } }) :
  k9 (n6 prog w) A (bg7 (.ref S)) Q E s:=by
 have hT:=hm.typeIs
 obtain⟨o,ho,hc,hdat⟩:=id hm
 refine aN3 hT PySem.F.slot_set_iter (C3 PySem.F.slot_set_iter hT PySem.F.en_setI ?_ (PySem.F.args_set_iter_1 _))
 unfold Builtin.«frozenset.__iter__»
 refine a5 ?_
 show k9 _ _ (pure S) _ _ s
 refine a8 ?_
 unfold Builtin.Frozenset.sizeOf setDrawn
 refine a5 (a5 (X5 ho hdat W.fit (a8 ?_)))
 refine a5 ?_
 refine a5 (u9 ho hdat W.fit ?_)
 unfold aw0
 refine a5 (a5 (K3 (a8 (a8 ?_))))
 have hb:(!w.params.followText "set-order" && (!t.plain && decide (es.size > 1)))=false:=by rw[W.pl];simp
 show k9 _ _ (if (!w.params.followText "set-order" && (!t.plain && decide (es.size > 1)))=true then _ else (pure (R9 0) >>= fun first=>setEpoch S >>= fun e=>newFields "set_iterator" [first,R9 0,.ref S,R9 es.size,R9 e] >>= fun r=>ret r)) _ _ _
 rw[hb,if_neg d4]
 refine a5 (a8 ?_)
 refine a5 (aN5 ho hdat W.fit ?_)
 refine a5 (J0 (a8 ⟨_,rfl,"set_iterator",_,⟨_,d5 _ rfl,rfl⟩,PySem.F.sl_seti.lookup,?_⟩))
 simpa [R9] using hQ
def SlC (w:World)(t:SetTable)(i slot:Nat):Prop:=w.params.followText "set-order"=true\/SetTable.below t.place slot=i
theorem aZ3 {xs:Array Nat}(a:Sett.Asc xs):SetTable.below xs 0=0:=by
 obtain⟨b1,b2,_⟩:=Sett.af1 a 0
 rcases bS1 (SetTable.below xs 0) with h | h
 ·exact h
 ·have:xs[0]?=some xs[0]:=M6 (by omega)
  exact absurd (b2 0 _ h this) (aq2 _)
theorem aZ4 {xs:Array Nat}(a:Sett.Asc xs)(h:xs[i]?=some j):SetTable.below xs (j+1)=i+1:=by
 obtain⟨b1,b2,b3⟩:=Sett.af1 a (j+1)
 have h1:i<SetTable.below xs (j+1):=by
  rcases W8 i (SetTable.below xs (j+1)) with z | z
  ·exact z
  ·have:=b3 i j z h
   omega
 rcases W8 (i+1) (SetTable.below xs (j+1)) with z | z
 ·have e:xs[i+1]?=some xs[i+1]:=M6 (by omega)
  have:=b2 (i+1) _ z e
  have:=a i (i+1) _ _ (by omega) h e
  omega
 ·omega
theorem ay6 {S:Addr}{slot:Nat}{t:SetTable}{od:Obj}{Q:Option (Value × Nat)->Shared->Prop}(hod:s.heap.get? S=some od)(hdd:od.data=.set es ep t)(W:WkS w es t)(hsl:SlC w t i slot)
  (h1:∀ e slot',(U3 w S ep es)[i]?=some e->SlC w t (i+1) slot'->Q (some (e.2,slot')) s)(h2:es.size<=i->Q none s):k9 (n6 prog w) A (setNext S slot i ep) Q E s:=by
 have hsz:t.place.size=es.size:=by
  have:=W.fit
  simp only[SetTable.fits,v7,beq_iff_eq,decide_eq_true_eq]at this
  exact this.1
 unfold setNext
 refine a5 (u9 hod hdd W.fit ?_)
 unfold aw0
 refine a5 (a5 (K3 (a8 ?_)))
 have hpl:=W.pl
 by_cases ft:w.params.followText "set-order"=true
 ·show k9 _ _ (if w.params.followText "set-order"=true then _ else _) _ _ _
  rw[if_pos ft]
  show k9 _ _ (if (ep != ep)=true then _ else _) _ _ _
  rw[if_neg (by simp)]
  unfold setWalk
  refine a5 (a5 (u9 hod hdd W.fit ?_))
  unfold aw0
  refine a5 (a5 (K3 (a8 ?_)))
  show k9 _ _ (if w.params.followText "set-order"=true then _ else _) _ _ _
  rw[if_pos ft]
  refine a5 (K3 (a8 ?_))
  have ho:U3 w S ep es=al8 (w.params.setOrder S ep) es:=if_pos ft
  have hsz2:(al8 (w.params.setOrder S ep) es).size=es.size:=by
   have:=(aE0 (w.params.setOrder S ep) es).length_eq
   simpa using this
  refine a8 ?_
  show Q (Option.map (fun e:En=>(e.2,slot)) (al8 (w.params.setOrder S ep) es)[i]?) s
  cases hx:(al8 (w.params.setOrder S ep) es)[i]? with
  | some e=>exact h1 e slot (by rw[ho];exact hx) (.inl ft)
  | none=>exact h2 (by rw[Array.getElem?_eq_none_iff]at hx;omega)
 ·have hbl:SetTable.below t.place slot=i:=hsl.resolve_left ft
  have hld:t.led=true:=W.led.resolve_left ft
  show k9 _ _ (if w.params.followText "set-order"=true then _ else _) _ _ _
  rw[if_neg ft]
  have hb:(!t.plain && decide (es.size > 1))=false:=by rw[hpl];simp
  show k9 _ _ (if (!t.plain && decide (es.size > 1))=true then _ else _) _ _ _
  rw[hb,if_neg d4]
  have hb2:(!t.led && !es.isEmpty)=false:=by rw[hld];simp
  refine a5 ?_
  show k9 _ _ (if (!t.led && !es.isEmpty)=true then _ else pure ()) _ _ _
  rw[hb2,if_neg d4]
  refine a8 (a8 ?_)
  rw[hbl]
  have ho:U3 w S ep es=es:=if_neg ft
  rcases W8 i es.size with hlt | hge
  ·have e1:es[i]?=some es[i]:=M6 hlt
   have e2:t.place[i]?=some (t.place[i]'(by omega)):=M6 (by omega)
   rw[e1,e2]
   exact h1 _ _ (by rw[ho];exact e1) (.inr (aZ4 W.asc e2))
  ·have e1:es[i]?=none:=al2 hge
   rw[e1]
   exact h2 hge
theorem bp0 {it S:Addr}{slot:Nat}{t:SetTable}{Q:Option Value->Shared->Prop}(hit:K6 s.heap it S slot i es.size ep)(hm:am7 s.heap S es ep t)(W:WkS w es t)(hsl:SlC w t i slot)(hx:i<es.size)
  (hQ:∀ h' slot' e,(U3 w S ep es)[i]?=some e->K6 h' it S slot' (i+1) es.size ep->SlC w t (i+1) slot'->Heap.SameBut it s.heap h'->Q (some e.2) { s with heap:=h' }):k9 (n6 prog w) A (aq0 (.ref it)) Q E s:=by
 obtain⟨o,ho,hc,hd⟩:=id hit
 obtain⟨od,hod,hcd,hdd⟩:=id hm
 unfold aq0
 refine a5 (ae0 (Q8 (name:=Str.ofString "__next__") hit.typeIs PySem.F.sl_seti (C3 PySem.F.sl_seti hit.typeIs PySem.F.en_seti ?_ (PySem.F.ar_seti _))))
 unfold Builtin.«set_iterator.__next__»
 refine a5 (a8 ?_)
 refine a5 (aC1 ho hd ?_)
 refine a5 (X5 hod hdd W.fit ?_)
 rw[if_neg (by simp)]
 show k9 _ _ (setNext S slot i ep >>= _) _ _ _
 refine a5 (ay6 hod hdd W hsl (fun e slot' he hs=>?_) (fun h=>absurd hx (aH0.mpr h)))
 show k9 _ _ (by0 (.ref it) 0 (R9 slot') >>= fun _=>by0 (.ref it) 1 (R9 ((i:Int)+1)) >>= fun _=>ret e.2) _ _ _
 refine a5 (ak2 ho hd (by simp) ?_)
 have ho1:=x9 (Obj.mapFields (·.setIfInBounds 0 (R9 (slot':Int)))) ho (Obj.isFreed_of_fields (Obj.data_mapFields hd _))
 have hd1:=Obj.data_mapFields hd (·.setIfInBounds 0 (R9 (slot':Int)))
 refine a5 (ak2 ho1 hd1 (by simp) ?_)
 have ho2:=x9 (Obj.mapFields (·.setIfInBounds 1 (R9 ((i:Int)+1)))) ho1 (Obj.isFreed_of_fields (Obj.data_mapFields hd1 _))
 have hd2:=Obj.data_mapFields hd1 (·.setIfInBounds 1 (R9 ((i:Int)+1)))
 refine a8 ⟨_,rfl,a8 (hQ _ slot' e he ⟨_,ho2,?_,?_⟩ hs ((Heap.SameBut.update ..).trans (Heap.SameBut.update ..)))⟩
 ·rw[Obj.cls_mapFields,Obj.cls_mapFields,hc]
 ·rw[hd2]
  simp[R9]
theorem bz4 {it S:Addr}{slot:Nat}{t:SetTable}{Q:Option Value->Shared->Prop}(hh:A.handled=none)(hit:K6 s.heap it S slot i es.size ep)(hm:am7 s.heap S es ep t)(W:WkS w es t)(hsl:SlC w t i slot)(hx:i=es.size)
  (hQ:∀ h',Heap.ExtBut it s.heap h'->Q none { s with heap:=h' }):k9 (n6 prog w) A (aq0 (.ref it)) Q E s:=by
 obtain⟨o,ho,hc,hd⟩:=id hit
 obtain⟨od,hod,hcd,hdd⟩:=id hm
 unfold aq0
 refine a5 (ae0 (Q8 (name:=Str.ofString "__next__") hit.typeIs PySem.F.sl_seti (C3 PySem.F.sl_seti hit.typeIs PySem.F.en_seti ?_ (PySem.F.ar_seti _))))
 unfold Builtin.«set_iterator.__next__»
 refine a5 (a8 ?_)
 refine a5 (aC1 ho hd ?_)
 refine a5 (X5 hod hdd W.fit ?_)
 rw[if_neg (by simp)]
 show k9 _ _ (setNext S slot i ep >>= _) _ _ _
 have hsz:(U3 w S ep es).size=es.size:=by
  have:=(ar2 w S ep es).length_eq
  simpa using this
 refine a5 (ay6 hod hdd W hsl (fun e slot' he hs=>?_) (fun h=>?_))
 ·have:=(Array.getElem?_eq_some_iff.mp he).1
  omega
 show k9 _ _ (by0 (.ref it) 2 .none >>= _) _ _ s
 refine a5 (ak2 ho hd (by simp) ?_)
 show k9 _ _ (newExc (.type "StopIteration") [] >>= _) _ _ _
 refine a5 ?_
 simp only[newExc,newTuple]
 refine a5 (J0 ?_ (by size_fits))
 refine a5 (m:=aC2 _ _) (bU0 (a:=Value.none) (by first | rfl | (simp only[aC2];rfl)) ?_)
 refine J0 ?_ (by size_fits)
 simp only[raiseNew]
 refine a5 (wpAny_handled ?_)
 rw[show A.in1.handled=none from hh]
 refine a5 (a8 (wpAny_throw ?_))
 refine a5 (K2 (T:="StopIteration") (b:=true) ⟨_,d5 _ rfl,rfl⟩ isSubtype_stop ?_)
 exact a8 (hQ _ (((Heap.SameBut.update ..).extBut.push _).push _))
theorem bo9 {it S:Addr}{slot:Nat}(hit:K6 s.heap it S slot i n ep)(h:Q (.ref it) s):k9 (n6 prog w) A (bg7 (.ref it)) Q E s:=by
 refine aN3 hit.typeIs PySem.F.sl_setii (C3 PySem.F.sl_setii hit.typeIs PySem.F.en_setii ?_ (PySem.F.ar_setii _))
 show k9 _ _ (ret (.ref it)) _ _ s
 exact a8 ⟨_,rfl,"set_iterator",_,hit.typeIs,PySem.F.sl_seti.lookup,h⟩
theorem bo8 (hh:A.handled=none)(I S:Addr)(hne:S≠I)(es:Array En)(ep:Nat)(t:SetTable)(W:WkS w es t) :
  Walks prog w A I [I,S] [I] es.size (fun i v=>∃ e,(U3 w S ep es)[i]?=some e/\v=e.2) (fun i h=>(∃ slot,K6 h I S slot i es.size ep/\SlC w t i slot)/\am7 h S es ep t) where
 sub:=fun b hb=>by simp at hb;simp[hb]
 frame:=fun _ _ _ st hk=>⟨let ⟨sl,h1,h2⟩:=st.1;⟨sl,h1.at' fun o e=>hk I (by simp) o e,h2⟩,st.2.at' fun o e=>hk S (by simp) o e⟩
 item:=fun i s Q E hi st hQ=>by
  obtain⟨⟨sl,h1,h2⟩,h3⟩:=st
  refine bp0 h1 h3 W h2 hi fun h' slot' e he hit' hs' hsb=>?_
  exact hQ e.2 h' s.toks ⟨e,he,rfl⟩ ⟨⟨slot',hit',hs'⟩,h3.at' fun o q=>hsb.extBut S o hne q⟩ fun b o hb q=>hsb.extBut b o (fun h=>hb (by simp[h])) q
 done:=fun s Q E st hQ=>by
  obtain⟨⟨sl,h1,h2⟩,h3⟩:=st
  exact bz4 hh h1 h3 W h2 rfl fun h' he'=>hQ h' s.toks fun b o hb e=>he' b o (fun h=>hb (by simp[h])) e
 self:=fun _ _ _ _ st hQ=>let ⟨⟨_,h1,_⟩,_⟩:=st;bo9 h1 hQ
theorem bp2 {S:Addr}{t:SetTable}{Q:Bool->Shared->Prop}(hr:am7 s.heap S es ep t)(h:Q false s):k9 (n6 prog w) A (Builtin.List.listLengthHint (.ref S)) Q E s:=by
 have hT:=hr.typeIs
 unfold Builtin.List.listLengthHint
 refine a5 (T4 hT PySem.F.slot_set_len.lookup ?_)
 generalize hid:("set.__len__":String)=id0
 wp_delta
 rw[show splitId id0=some ("set","__len__") from by subst hid;decide +kernel]
 subst hid
 refine a5 (K2 (T:="set") (b:=true) hT (by rw[V8];kernel_rfl) ?_)
 refine J8 (fun hab=>absurd hab (by decide)) (fun _=>?_)
 refine J8 (fun _=>?_) (fun hab=>absurd (by decide +kernel) hab)
 refine a5 (ab9 hT ?_)
 exact a8 h
theorem aW9 {R:bJ1->Shared->Prop} {t:SetTable} (hh:A.handled=none) (hr:am7 s.heap d es ep t) (Wk:WkS w es t) (hlen:es.size<=i7) (S:Addr) (res:Value) (c₀:Nat) (hS:s.heap.get? S=some { cls:=.type "list",data:=.seq #[] c₀ })
  (hR : ∀ h' tk acc' c', (∀ b o, b ≠ S -> s.heap.get? b = some o -> h'.get? b = some o) -> h'.get? S = some { cls := .type "list", dict := none, data := .seq acc' c', slots := #[] } ->
   aN4 (fun i v=>∃ e,(U3 w d ep es)[i]?=some e/\v=e.2) acc' es.size->R (.ok (.ret res)) { s with heap:=h',toks:=tk }) :
  k9 (n6 prog w) A.in1 (Builtin.List.listExtendWith (.ref S) (.ref d) res)
   (fun fin s'=>match fin with | .done f=>R (.ok f) s' | .again c'=>c'.quiet=true/\V2 (n6 prog w) A c' R s') (fun e s'=>R (.error e) s') s:=by
 have hSd:S≠d:=fun e=>by
  obtain⟨o,ho,_,hx⟩:=hr
  rw[e,ho]at hS
  cases hS
  cases hx
 have hdlt:d<s.heap.objs.size:=let ⟨o,ho,_⟩:=hr;c9 ho
 have hSlt:S<s.heap.objs.size:=c9 hS
 have hSI:S≠s.heap.objs.size:=j0 hSlt
 have hSf:S∉[s.heap.objs.size,d]:=fun hm=>by
  rcases c8.mp hm with e | e
  ·exact hSI e
  ·exact hSd (d6.mp e)
 have W:=(bo8 (prog:=prog) (w:=w) (A:=A.in1) hh s.heap.objs.size d (j0 hdlt) es ep t Wk).toS
 have key:∀ (h:Heap) (c₁ tk:Nat),(∃ slot,K6 h s.heap.objs.size d slot 0 es.size ep/\SlC w t 0 slot)->am7 h d es ep t->(∀ b o,b≠S->s.heap.get? b=some o->h.get? b=some o) ->
   h.get? S=some { cls:=.type "list",data:=.seq #[] c₁ }->V2 (n6 prog w) A (.builtin "list.extend.loop" ⟨[.ref S,.ref s.heap.objs.size,res],[]⟩) R { s with heap:=h,toks:=tk }:=by
  intro h c₁ tk hit hr1 hk hS₁
  refine ax8 W hlen S hSf res es.size 0 _ #[] c₁ rfl (n9 _) ⟨hit,hr1⟩ hS₁ (ItemsOf.nil _) fun s' acc' c' hm hS' hacc=>?_
  rw[Moved.eq_with hm]
  refine hR s'.heap s'.toks acc' c' (fun b o hb e=>hm.heap b o (fun hmem=>?_) (hk b o hb e)) hS' hacc
  rcases c8.mp hmem with e' | hmem
  ·exact hb e'
  ·exact absurd (c9 e) (by rw[d6.mp hmem];exact A3 _)
 unfold Builtin.List.listExtendWith
 refine a5 (ab9 hr.typeIs ?_)
 have h1:Builtin.List.listSameRef (.ref S) (.ref d)=false:=by simp[Builtin.List.listSameRef,hSd]
 have h2:(Value.type "set" == Value.type "list")=false:=by decide
 have h3:(Value.type "set" == Value.type "tuple")=false:=by decide
 simp only[h1,h2,h3,ak3,d7,if_false]
 refine a5 (bp1 hr Wk ?_)
 have hr₁:am7 (s.heap.push { cls:=.type "set_iterator",data:=.fields #[.int 0 0,.int 0 0,.ref d,.int es.size 0,.int ep 0] }) d es ep t:=hr.at' fun o e=>a6 _ e
 refine a5 (v8 (bp2 hr₁ ?_))
 have hit₁:K6 (s.heap.push { cls:=.type "set_iterator",data:=.fields #[.int 0 0,.int 0 0,.ref d,.int es.size 0,.int ep 0] }) s.heap.objs.size d 0 0 es.size ep:=⟨_,d5 _ rfl,rfl,rfl⟩
 have hsl₁:SlC w t 0 0:=.inr (aZ3 Wk.asc)
 have hS₁:=a6 { cls:=.type "set_iterator",data:=.fields #[.int 0 0,.int 0 0,.ref d,.int es.size 0,.int ep 0] } hS
 refine J8 (fun _=>?_) (fun _=>a8 ⟨N0 PySem.F.plain_extend_loop _,key _ c₀ _ ⟨0,hit₁,hsl₁⟩ hr₁ (fun b o _ e=>a6 _ e) hS₁⟩)
 refine a5 (aN2 ?_)
 refine a5 ?_
 show k9 _ _ (aH4 S (·.push .none) >>= fun _=>aH4 S (·.pop)) _ _ _
 refine a5 (Y7 hS₁ rfl ?_)
 have hS₂:=x9 (Obj.mapSeq (·.push Value.none)) hS₁ rfl
 refine Y7 (hz:=by seq_fits) hS₂ rfl ?_
 have hS₃:=x9 (Obj.mapSeq (·.pop)) hS₂ rfl
 have oth:∀ b o,b≠S->(s.heap.push { cls:=.type "set_iterator",data:=.fields #[.int 0 0,.int 0 0,.ref d,.int es.size 0,.int ep 0] }).get? b=some o->(((s.heap.push { cls:=.type "set_iterator",data:=.fields #[.int 0 0,.int 0 0,.ref d,.int es.size 0,.int ep 0] }).update S (Obj.mapSeq (·.push Value.none))).update S (Obj.mapSeq (·.pop))).get? b=some o:=fun b o hb e =>
  (r9 _ _ (Ne.symm hb)).trans ((r9 _ _ (Ne.symm hb)).trans e)
 refine a8 ⟨N0 PySem.F.plain_extend_loop _,key _ _ _ ⟨0,hit₁.at' fun o e=>oth _ _ (Ne.symm hSI) e,hsl₁⟩ (hr₁.at' fun o e=>oth _ _ (Ne.symm hSd) e) (fun b o hb e=>oth b o hb (a6 _ e)) hS₃⟩
theorem aO6 {Q:List Value->Shared->Prop}{t:SetTable}(hh:A.handled=none)(hr:am7 s.heap d es ep t)(Wk:WkS w es t)(hlen:es.size<=i7)
  (hQ:∀ h' tk acc',(∀ b o,s.heap.get? b=some o->h'.get? b=some o)->aN4 (fun i v=>∃ e,(U3 w d ep es)[i]?=some e/\v=e.2) acc' es.size->Q acc'.toList { s with heap:=h',toks:=tk }) :
  k9 (n6 prog w) A (collect (.ref d)) Q E s:=by
 unfold collect
 refine a5 (ak1 (D7 PySem.F.entry_proto_collect ?_))
 rw[Around.under_plainId PySem.F.plain_proto_collect _]
 show k9 _ A.in1 (newList [] >>= fun l=>again (.builtin "list.__iadd__" ⟨[l,.ref d],[]⟩)) _ _ s
 refine a5 (J0 ?_)
 refine a8 ⟨N0 PySem.F.plain_list_iadd _,D7 PySem.F.entry_list_iadd ?_⟩
 rw[Around.under_plainId PySem.F.plain_list_iadd _]
 have hS:(s.heap.push { cls:=.type "list",data:=.seq ([]:List Value).toArray }).get? s.heap.objs.size=some { cls:=.type "list",data:=.seq ([]:List Value).toArray }:=d5 _ rfl
 have hr₁:am7 (s.heap.push { cls:=.type "list",data:=.seq ([]:List Value).toArray }) d es ep t:=hr.at' fun o e=>a6 _ e
 show k9 _ A.in1 (Builtin.List.listExtendWith (.ref s.heap.objs.size) (.ref d) (.ref s.heap.objs.size)) _ _ _
 refine aW9 (A:=A) (s:={ s with heap:=s.heap.push { cls:=.type "list",data:=.seq ([]:List Value).toArray } }) (R:=fun r s'=>match r with
  | .ok (.ret v)=>k9 (n6 prog w) A (match v with
   | .ref a=>do
    let o <- load a
    match o.data with
    | .seq xs _=>pure xs.toList
    | _=>Q7 "internal:collect"
   | _=>Q7 "internal:collect") Q E s'
  | .ok _=>False
  | .error e=>E e s') hh hr₁ Wk hlen _ _ 0 hS fun h' tk acc' c' hk hS' hacc=>?_
 show k9 _ A (load s.heap.objs.size >>= _) _ _ _
 refine a5 (wpAny_load hS' ?_)
 exact a8 (hQ h' tk acc' (fun b o e=>hk b o (j0 (c9 e)) (a6 _ e)) hacc)
end L2
namespace Sett
open PySem PySem.SetTable PyProof.Rows
def au6 (prog:Program)(w:World)(p:Addr × List Int):En:=(i6 (m7 prog w) p.2,.ref p.1)
def T5 (prog:Program)(w:World)(h:Heap)(S:Addr)(ps:List (Addr × List Int)):Prop:=
 ∃ o es ep t,h.get? S=some o/\o.ExactSet/\o.data=.set es ep t/\Tb t es/\t.plain=true/\(w.params.followText "set-order"=true\/t.led=true)/\es.toList.Perm (ps.map (au6 prog w))/\(ps.map (·.2)).Nodup/\∀ p∈ps,U7 p.2
theorem bD1 (nd:(ps.map (·.2)).Nodup)(hok:∀ p∈ps,U7 p.2):((ps.map (au6 prog w)).map (·.1)).Nodup:=by
 rw[P2]
 refine D9.mpr ?_
 have h:=D9.mp nd
 refine List.Pairwise.imp_of_mem ?_ h
 intro a b ha hb hne e
 exact hne (aa2 (prog:=prog) (w:=w) (hok a ha) (hok b hb) e)
theorem bb3 (hpm:es.toList.Perm (ps.map (au6 prog w)))(hnd:(ps.map (·.2)).Nodup)(hok:∀ p∈ps,U7 p.2){c:Nat}{e e':En}(hi:es[i]?=some e)(hc:es[c]?=some e')(hh:e'.1=e.1):c=i:=by
 have nd:(es.toList.map (·.1)).Nodup:=(hpm.map _).nodup_iff.mpr (bD1 hnd hok)
 have g1:(es.toList.map (·.1))[i]?=some e.1:=by rw[j6,b7,hi];rfl
 have g2:(es.toList.map (·.1))[c]?=some e.1:=by rw[j6,b7,hc,<- hh];rfl
 obtain⟨q1,q2⟩:=a9.mp g1
 obtain⟨q3,q4⟩:=a9.mp g2
 rcases S7 c i with z | z | z
 ·exact absurd (q4.trans q2.symm) (o4.mp nd c i q3 q1 z)
 ·exact z
 ·exact absurd (q2.trans q4.symm) (o4.mp nd i c q1 q3 z)
theorem bf9 (hpm:es.toList.Perm (ps.map (au6 prog w)))(hin:∀ p∈ps,y9 (m7 prog w) h p.2 p.1){e:En}(he:e∈es.toList):∃ p∈ps,e=au6 prog w p/\af3 prog w h p.2 e:=by
 obtain⟨p,hp,rfl⟩:=o9.mp (hpm.mem_iff.mp he)
 exact⟨p,hp,rfl,p.1,rfl,hin p hp,rfl⟩
theorem Tb.presentX {t:SetTable}(T:Tb t es){e:En}(he:es[i]?=some e)(hu:∀ (k:Nat) (e':En),es[k]?=some e'->e'.1=e.1->k=i):∃ j q,t.probe (hashOf es) e.1 (t.probeStart e.1)=some (.candidate j i q)/\t.slot j=.live i:=by
 obtain⟨n,hn,hp,hocc⟩:=T.path i e he
 unfold probe
 obtain⟨m,⟨hm,i1,hi1,hs1⟩,hmin⟩:=aL1 (P:=fun m=>m<=n/\∃ i1:Nat,t.place[i1]?=some (it t m (t.probeStart e.1)).j/\hashOf es i1=e.1) ⟨n,c5 _,i,hp,Q2 he⟩
 have hi2:i1<es.size:=by rw[<- T.len];exact(getElem?_eq_some_iff.mp hi1).1
 have e2:=getElem?_pos es i1 hi2
 rw[Q2 e2]at hs1
 have hii:i1=i:=hu i1 _ e2 hs1
 subst hii
 obtain⟨q,hq⟩:=aK7 (hashAt:=hashOf es) (h:=e.1) (i:=i1) m (10*turns t.mask) (t.probeStart e.1) (by omega) (fun k hk=>by
  obtain⟨i',e3⟩:=hocc k (by omega)
  exact⟨i',Z5 T.asc e3,fun z=>hmin k hk ⟨by omega,i',e3,z⟩⟩) (Z5 T.asc hi1) (Q2 he)
 exact⟨_,q,hq,Z5 T.asc hi1⟩
theorem ay8 {S x:Addr}{t:SetTable}{h:Int}{ad:Bool}{Q:SetFound->Shared->Prop}(ho:s.heap.get? S=some o)(hd:o.data=.set es ep t)(T:Tb t es)(hh:∀ e∈es.toList,e.1≠h)
  (hq:∀ j,Q (.free j false) s):k9 (n6 prog w) A (al4 S (.ref x) h ad) Q E s:=by
 obtain⟨n,h1,h2,h3,h4,h5⟩:=T.absent hh
 unfold al4 T9
 refine a5 (u9 ho hd T.fits ?_)
 dsimp only
 rw[T.odd]
 simp only[d7,if_false]
 split
 ·rename_i met hm
  have e:=hm.symm.trans h5
  cases e
  exact a8 (hq _)
 ·rename_i hm
  exact absurd h5 (fun z=>hm _ z)
theorem au4 {S x:Addr}{t:SetTable}{e:En}{Q:SetFound->Shared->Prop}(hu:A.units<R8)(ho:s.heap.get? S=some o)(hd:o.data=.set es ep t)(T:Tb t es)
  (hx:y9 (m7 prog w) s.heap k x)(he:es[i]?=some e)(hk:af3 prog w s.heap k e)(hall:∀ e∈es.toList,∃ k,af3 prog w s.heap k e)(huq:∀ (c:Nat) (e':En),es[c]?=some e'->e'.1=e.1->c=i)
  (hq:Q (.there (some i)) s):k9 (n6 prog w) A (al4 S (.ref x) (i6 (m7 prog w) k) false) Q E s:=by
 obtain⟨y,hy1,hy2,hy3⟩:=hk
 obtain⟨j,q,hp,hsl⟩:=T.presentX he huq
 rw[hy3]at hp
 unfold al4 T9
 refine a5 (u9 ho hd T.fits ?_)
 dsimp only
 rw[T.odd]
 simp only[d7,if_false]
 have fin:k9 (n6 prog w) A (do
   let some (_,y):=es[i]? | Q7 "internal:set-entry"
   let equal <- aN0 [y] (eqBool y (.ref x))
   let (es',_,t') <- setState S
   if false && equal then return .there none
   let some same:=t'.sameMemory t.moves t.mask | Q7 "set.changed-during-lookup:is-the-new-block-at-the-old-address"
   let still <- match (if same then t'.slot j else .empty) with
    | .live i'=>match es'[i']? with
     | some (_,y')=>do pure (if <- isSame y' y then some i' else none)
     | none=>pure none
    | _=>pure none
   match still with
   | none=>rule "set.search.anew";T9 S (.ref x) (i6 (m7 prog w) k) false 99999 none
   | some i'=>if equal then return .there (some i') else T9 S (.ref x) (i6 (m7 prog w) k) false 99999 (some q)) Q E s:=by
  have he':=he
  rw[he]
  obtain⟨e1,e2⟩:=e
  have hy1:e2=.ref y:=hy1
  subst hy1
  dsimp only
  refine a5 (v8 (wpAny_eqBool_tuple hu hy2 hx ?_))
  refine a5 (u9 ho hd T.fits ?_)
  dsimp only
  rw[decide_eq_true rfl]
  have hsm:t.sameMemory t.moves t.mask=some true:=by unfold sameMemory;rw[if_pos (by simp)]
  simp only[at5,d7,if_false,hsm,if_true,hsl,he']
  refine a5 ?_
  unfold isSame
  simp only[beq_self_eq_true,if_true]
  exact a8 (a5 (a8 (a8 hq)))
 split
 ·rename_i met hm
  have e9:=hm.symm.trans hp
  cases e9
  dsimp only
  cases hled:t.led with
  | true =>
   simp only[D8,d7,if_false]
   exact fin
  | false =>
   simp only[Z8,if_true]
   refine a5 (bm8 hx (fun v hv=>?_) ?_)
   ·rw[o9]at hv
    obtain⟨e',he',rfl⟩:=hv
    have he'':e'∈es.toList:=by
     have:=bS2.mp (S5.mp he')
     exact S5.mpr this.1
    obtain⟨k',a,h1,h2,_⟩:=hall e' he''
    exact⟨a,k',h1,h2⟩
   ·simp only[d7,if_false]
    exact fin
 ·rename_i hm
  exact absurd hp (fun z=>hm _ z)
theorem aI5 {S x:Addr}{Q:Option Nat->Shared->Prop}(hu:A.units<R8)(hS:T5 prog w s.heap S ps)(hin:∀ p∈ps,y9 (m7 prog w) s.heap p.2 p.1)(hx:y9 (m7 prog w) s.heap k x)(hk:U7 k)
  (hq:∀ o:Option Nat,o.isSome=decide (k∈ps.map (·.2))->Q o s):k9 (n6 prog w) A (setFind S (.ref x) (i6 (m7 prog w) k)) Q E s:=by
 obtain⟨o,es,ep,t,ho,hex,hd,T,hpl,hled,hpm,hnd,hok⟩:=hS
 unfold setFind setFindIn
 refine a5 (u9 ho hd T.fits ?_)
 dsimp only
 rw[am6]
 simp only[d7,if_false]
 by_cases hmem:k∈ps.map (·.2)
 ·obtain⟨p,hp,rfl⟩:=o9.mp hmem
  have he:=hpm.mem_iff.mpr (C9 (f:=au6 prog w) hp)
  obtain⟨i,hi⟩:=l5.mp he
  rw[b7]at hi
  refine a5 (au4 hu ho hd T hx hi ⟨p.1,rfl,hin p hp,rfl⟩ (fun e he=>let ⟨p,_,_,h⟩:=bf9 hpm hin he;⟨p.2,h⟩) (fun c e' hc hh=>bb3 hpm hnd hok hi hc hh) ?_)
  exact a8 (hq _ (by rw[decide_eq_true hmem];rfl))
 ·have hh:∀ e∈es.toList,e.1≠i6 (m7 prog w) k:=fun e he z=>by
   obtain⟨p,hp,rfl,_⟩:=bf9 hpm hin he
   have:p.2=k:=aa2 (prog:=prog) (w:=w) (hok p hp) hk z
   exact hmem (this ▸ C9 hp)
  refine a5 (ay8 ho hd T hh fun j=>?_)
  exact a8 (hq _ (by rw[decide_eq_false hmem];rfl))
theorem an8 {S x:Addr}{Q:Bool->Shared->Prop}(hu:A.units<R8)(hS:T5 prog w s.heap S ps)(hin:∀ p∈ps,y9 (m7 prog w) s.heap p.2 p.1)(hx:y9 (m7 prog w) s.heap k x)(hk:U7 k)(hn:ps.length<300)
  (hq:∀ (b:Bool) (h':Heap),Heap.SameBut S s.heap h'->T5 prog w h' S (if k∈ps.map (·.2) then ps else (x,k)::ps)->Q b { s with heap:=h' }) :
  k9 (n6 prog w) A (bJ6 S (.ref x) (i6 (m7 prog w) k)) Q E s:=by
 obtain⟨o,es,ep,t,ho,hex,hd,T,hpl,hled,hpm,hnd,hok⟩:=hS
 have hsz:es.size=ps.length:=by rw[<- d8,hpm.length_eq,b8]
 unfold bJ6
 refine v8 ?_
 unfold setAddHashedIn
 refine a5 (u9 ho hd T.fits ?_)
 dsimp only
 rw[am6]
 simp only[d7,if_false]
 by_cases hmem:k∈ps.map (·.2)
 ·have hm:=hmem
  obtain⟨p,hp,rfl⟩:=o9.mp hmem
  have he:=hpm.mem_iff.mpr (C9 (f:=au6 prog w) hp)
  obtain⟨i,hi⟩:=l5.mp he
  rw[b7]at hi
  refine a5 (ah1 hu ho hd T hx hi ⟨p.1,rfl,hin p hp,rfl⟩ (fun e he=>let ⟨p,_,_,h⟩:=bf9 hpm hin he;⟨p.2,h⟩) (fun c e' hc hh=>bb3 hpm hnd hok hi hc hh) ?_)
  refine a8 ?_
  have:=hq false s.heap (Heap.SameBut.refl S s.heap)
  rw[if_pos hm]at this
  exact this ⟨o,es,ep,t,ho,hex,hd,T,hpl,hled,hpm,hnd,hok⟩
 ·have hh:∀ e∈es.toList,e.1≠i6 (m7 prog w) k:=fun e he z=>by
   obtain⟨p,hp,rfl,_⟩:=bf9 hpm hin he
   have:p.2=k:=aa2 (prog:=prog) (w:=w) (hok p hp) hk z
   exact hmem (this ▸ C9 hp)
  refine a5 (ak7 ho hd T hh fun n hn1 hfr hle hocc=>?_)
  dsimp only
  refine a5 (u9 ho hd T.fits ?_)
  dsimp only
  obtain⟨hp1,T1⟩:=T.put (h:=i6 (m7 prog w) k) (x:=Value.ref x) hn1 hfr hle hocc
  have hput:(t.put (it t n (t.probeStart (i6 (m7 prog w) k))).j).1.mask=t.mask/\(t.put (it t n (t.probeStart (i6 (m7 prog w) k))).j).1.led=t.led/\(t.put (it t n (t.probeStart (i6 (m7 prog w) k))).j).1.plain=t.plain:=⟨rfl,rfl,rfl⟩
  generalize hpt:t.put (it t n (t.probeStart (i6 (m7 prog w) k))).j=tp at hp1 T1 hput ⊢
  obtain⟨t1,p⟩:=tp
  dsimp only at hp1 T1 hput ⊢
  obtain⟨hmk,hl1,hpl1⟩:=hput
  have hsz1:(insertAt es p (i6 (m7 prog w) k,Value.ref x)).size=es.size+1:=ah0 hp1
  have fits1:(insertAt es p (i6 (m7 prog w) k,Value.ref x)).size<=i7:=by rw[hsz1,hsz,E9];omega
  have made:∀ (h':Heap) (o':Obj) (es':Array En) (ep':Nat) (t':SetTable),h'.get? S=some o'->o'.ExactSet->o'.data=.set es' ep' t'->Tb t' es'->t'.plain=true->t'.led=t.led ->
    es'.toList.Perm (insertAt es p (i6 (m7 prog w) k,Value.ref x)).toList->T5 prog w h' S ((x,k)::ps):=fun h' o' es' ep' t' ho' hex' hd' T' hp' hl' hpm'=>by
   have hpi:(insertAt es p (i6 (m7 prog w) k,Value.ref x)).toList.Perm ((i6 (m7 prog w) k,Value.ref x)::es.toList):=by
    unfold insertAt
    rw[A5,N7,r0]
    refine(bT3).trans ?_
    refine List.Perm.cons _ (List.Perm.of_eq ?_)
    simp only[S6,List.extract_eq_drop_take,ba3,Nat.sub_zero]
    rw[p8 (l:=bw4 p es.toList) (by rw[M3,d8];exact c5 _)]
    exact J2 p es.toList
   refine⟨o',es',ep',t',ho',hex',hd',T',hp',by rw[hl'];exact hled,(hpm'.trans hpi).trans (hpm.cons _),m9.mpr ⟨hmem,hnd⟩,fun p hp=>?_⟩
   rcases c8.mp hp with rfl | hp
   ·exact hk
   ·exact hok p hp
  rw[hpl1,hpl,if_pos rfl]
  refine a5 (ad3 hx ?_)
  rw[if_pos rfl]
  refine a5 (al6 ho hd ?_ fits1)
  have ho1:=stored (es':=insertAt es p (i6 (m7 prog w) k,Value.ref x)) (t':=t1) ho hd
  have hsb1:=Heap.SameBut.update s.heap S (Obj.putSet (insertAt es p (i6 (m7 prog w) k,Value.ref x)) t1)
  rw[bb5 T1]
  simp only[Z8,ac4,decide_eq_true_eq]
  by_cases hful:t1.mask*3<=(insertAt es p (i6 (m7 prog w) k,Value.ref x)).size*5
  ·rw[if_pos hful]
   rw[hsz1,hmk]at hful
   obtain⟨g1,g2,g3⟩:=aA9 T.good T.nf hful (by rw[hsz];exact hn)
   unfold setRelay
   refine a5 (a5 (u9 (s:={ s with heap:=s.heap.update S (Obj.putSet (insertAt es p (i6 (m7 prog w) k,Value.ref x)) t1) }) ho1 rfl T1.fits ?_))
   dsimp only
   rw[if_neg (by rw[E9];omega)]
   obtain⟨t3,order,hl3,T3,hpm3,hord,hld3,hpl3⟩:=aR6 (M:=sizeAbove (grown (es.size+1)) - 1) (finger:=t1.finger) (moves:=t1.movedTo (sizeAbove (grown (es.size+1)) - 1)) (led:=t1.led) (plain:=t1.plain) (es:=insertAt es p (i6 (m7 prog w) k,Value.ref x)) g1 (by rw[hsz1];exact g2)
   have hrel:t1.relaid ((insertAt es p (i6 (m7 prog w) k,Value.ref x)).map (·.1)) (grown (es.size+1))=some (t3,order):=by
    unfold relaid
    exact hl3
   rw[hrel]
   have hsz3:(order.filterMap ((insertAt es p (i6 (m7 prog w) k,Value.ref x))[·]?)).size=(insertAt es p (i6 (m7 prog w) k,Value.ref x)).size:=by
    rw[<- d8,hpm3.length_eq,d8]
   refine a5 ?_
   show k9 _ _ (if ((order.filterMap ((insertAt es p (i6 (m7 prog w) k,Value.ref x))[·]?)).size != (insertAt es p (i6 (m7 prog w) k,Value.ref x)).size)=true then _ else _) _ _ _
   rw[if_neg (by rw[hsz3];simp)]
   first | refine a8 ?_ | refine a5 (a8 (a8 ?_))
   dsimp only
   refine al6 (s:={ s with heap:=s.heap.update S (Obj.putSet (insertAt es p (i6 (m7 prog w) k,Value.ref x)) t1) }) ho1 rfl ?_ (by rw[hsz3];exact fits1)
   refine a8 ?_
   have ho2:=stored (es':=order.filterMap ((insertAt es p (i6 (m7 prog w) k,Value.ref x))[·]?)) (t':=t3) ho1 rfl
   have hsb2:=hsb1.trans (Heap.SameBut.update _ S (Obj.putSet (order.filterMap ((insertAt es p (i6 (m7 prog w) k,Value.ref x))[·]?)) t3))
   have:=hq true _ hsb2
   rw[if_neg hmem]at this
   exact this (made _ _ _ _ _ ho2 hex rfl T3 (by rw[hpl3,hpl1,hpl]) (by rw[hld3,hl1]) hpm3)
  ·rw[if_neg hful]
   refine a8 ?_
   have:=hq true _ hsb1
   rw[if_neg hmem]at this
   exact this (made _ _ _ _ _ ho1 hex rfl (T1.full (by omega)) (by rw[hpl1,hpl]) hl1 (List.Perm.refl _))
theorem bz3 (a:Value){Q₁:Value->Shared->Prop}(h:Q₁ (.ref s.heap.objs.size) { s with heap:=s.heap.push { cls:=.type "set",dict:=none,data:=.set #[] 0 (.fresh 0 0 (!w.params.followText "set-order")) } }):V2 (n6 prog w) A (.call (.builtin "set.__new__") ⟨[.type "set",a],[]⟩) (wants Q₁ E) s:=by
 refine at8 ?_;show k9 _ A.in1 (do aV5 "set.__new__" ⟨[.type "set",a],[]⟩;again (.builtin "set.__new__" ⟨[.type "set",a],[]⟩)) _ _ s
 refine a5 (bU0 (F.newCall_set_1 a) (a8 ⟨N0 F.plain_set_new _,D7 F.entry_set_new ?_⟩));rw[Around.under_plainId F.plain_set_new _]
 unfold Builtin.«set.__new__» Builtin.Frozenset.newClass;have hsub:=bK1
 obtain⟨hp,g,d,tk,os⟩:=s
 dsimp only
 wp_walk
 refine K3 (a8 ?_);dsimp only
 simp only[newObj];refine a5 (wpAny_alloc (a8 ?_))
 exact a8 h
theorem T5.perm {S:Addr}(x:T5 prog w h S ps)(e:ps.Perm qs):T5 prog w h S qs:=by
 obtain⟨o,es,ep,t,h1,h2,h3,h4,h5,h6,h7,h8,h9⟩:=x
 exact⟨o,es,ep,t,h1,h2,h3,h4,h5,h6,h7.trans (e.map _),(e.map _).nodup_iff.mp h8,fun p hp=>h9 p (e.mem_iff.mpr hp)⟩
theorem T5.at' {S:Addr}(x:T5 prog w h S ps)(e:∀ o,h.get? S=some o->h'.get? S=some o):T5 prog w h' S ps:=by
 obtain⟨o,es,ep,t,ho,rest⟩:=x
 exact⟨o,es,ep,t,e o ho,rest⟩
theorem aH7 {R:bJ1->Shared->Prop}{I:Addr}{wr:List Addr}{P:Nat->Value->Prop}{St:Nat->Shared->Prop}
  (W:WalksS prog w A.in1 I fp wr G n P St)(hu:A.in1.units<R8)(S:Addr)(hSf:S∉fp)(hp:Heap)(hS0:hp.get? S=none)(hw0:∀ b∈wr,hp.get? b=none)(ps:List (Addr × List Int))(hn:ps.length=n)(hb:n<300)
  (hkey:∀ i v,P i v->∃ p,ps[i]?=some p/\v=.ref p.1)(hok:∀ p∈ps,U7 p.2)(hin:∀ p∈ps,y9 (m7 prog w) hp p.2 p.1)(hnd:(ps.map (·.2)).Nodup) :
  ∀ (c i:Nat) (s:Shared),n - i=c->i<=n->St i s->(∀ b o,hp.get? b=some o->s.heap.get? b=some o)->T5 prog w s.heap S (ps.take i).reverse ->
   (∀ s',Moved (S::wr) G s s'->T5 prog w s'.heap S ps->R (.ok (.ret .none)) s') ->
   V2 (n6 prog w) A (.builtin "set.update.loop" ⟨[.ref S,.ref I],[]⟩) R s:=by
 have hSw:S∉wr:=fun h=>hSf (W.sub _ h)
 have hsub:∀ b∈wr,b∈S::wr:=fun b hb=>d3 _ hb
 have nw:∀ b o,hp.get? b=some o->b∉wr:=fun b o e hm=>by rw[hw0 b hm]at e;cases e
 have nS:∀ b o,hp.get? b=some o->b≠S:=fun b o e hm=>by rw[hm,hS0]at e;cases e
 intro c
 induction c with
 | zero =>
  intro i s hk hi hst hup hS hR
  have hi':i=n:=by omega
  subst hi'
  refine D7 PyProof.Rows.F.entry_set_update_loop ?_
  rw[Around.under_plainId PyProof.Rows.F.plain_set_update_loop _]
  show k9 _ A.in1 (aq0 (.ref I) >>= _) _ _ s
  refine a5 (W.done s _ _ hst fun s' hm=>?_)
  show k9 _ A.in1 (ret Value.none) _ _ s'
  refine a8 (hR s' (hm.mono hsub) ?_)
  have:=hS.at' fun o e=>hm.heap S o hSw e
  rw[p8 (by omega)]at this
  exact this.perm (S4 ps)
 | succ c ih =>
  intro i s hk hi hst hup hS hR
  have hlt:i<n:=by omega
  refine D7 PyProof.Rows.F.entry_set_update_loop ?_
  rw[Around.under_plainId PyProof.Rows.F.plain_set_update_loop _]
  show k9 _ A.in1 (aq0 (.ref I) >>= _) _ _ s
  refine a5 (W.item i s _ _ hlt hst fun v s' hP hst' hm=>?_)
  obtain⟨⟨x,k⟩,hki,rfl⟩:=hkey i v hP
  have hmem:=d9 hki
  have hup':∀ b o,hp.get? b=some o->s'.heap.get? b=some o:=fun b o e=>hm.heap b o (nw b o e) (hup b o e)
  have hS':=hS.at' fun o e=>hm.heap S o hSw e
  show k9 _ A.in1 (aN0 [Value.ref x] (setAdd S (.ref x)) >>= _) _ _ s'
  refine a5 (v8 ?_)
  have hx:=am3 (hin _ hmem) hup'
  unfold setAdd
  refine v8 (a5 (wpAny_pyHash_tuple hu hx ?_))
  refine an8 (s:={ s' with toks:=s'.toks+(k.length+1) }) hu hS' (fun p hp=>am3 (hin p (ab8 (Q3.mp hp))) hup') hx (hok _ hmem) (by rw[P6,A4];omega) fun b h' hsb hS2=>?_
  have hnew:k∉(ps.take i).reverse.map (·.2):=fun z=>by
   obtain⟨p,hp,e⟩:=o9.mp z
   obtain⟨j,hj⟩:=l5.mp (Q3.mp hp)
   rw[J7]at hj
   split at hj
   ·rename_i hji
    have g1:(ps.map (·.2))[j]?=some k:=by rw[j6,hj,<- e];rfl
    have g2:(ps.map (·.2))[i]?=some k:=by rw[j6,hki];rfl
    obtain⟨q1,q2⟩:=a9.mp g1
    obtain⟨q3,q4⟩:=a9.mp g2
    exact absurd (q2.trans q4.symm) (o4.mp hnd j i q1 q3 hji)
   ·cases hj
  rw[if_neg hnew]at hS2
  have hS3:T5 prog w h' S (ps.take (i+1)).reverse:=by
   rw[B8,hki]
   show T5 prog w h' S (ps.take i++[(x,k)]).reverse
   rw[P5]
   exact hS2
  have htk:s'.toks<=s'.toks+(k.length+1):=an1 _ _
  refine a8 ⟨N0 PyProof.Rows.F.plain_set_update_loop _,ih (i+1) _ (by omega) hlt (W.frame _ s' _ _ hst' htk fun b hb o e=>?_) (fun b o e=>?_) hS3 fun s'' hm'' hS''=>?_⟩
  ·rw[hsb.2 b (fun h:b=S=>hSf (h ▸ hb))];exact e
  ·show h'.get? b=some o
   rw[hsb.2 b (nS b o e)]
   exact hup' b o e
  ·refine hR s'' (Moved.trans W.gtrans ((hm.mono hsub).then_heap htk fun b o hb e=>?_) hm'') hS''
   rw[hsb.2 b (fun h:b=S=>hb (h ▸ c6))];exact e
set_option maxRecDepth 100000 in
set_option maxHeartbeats 3200000 in
theorem aI4 {items:Array Value}(hh:A.handled=none)(hu:A.units+8<R8)(hl:s.heap.IsTuple l items)(hn:items.toList=ps.map fun p=>.ref p.1)(hb:ps.length<300)
  (hok:∀ p∈ps,U7 p.2)(hin:∀ p∈ps,y9 (m7 prog w) s.heap p.2 p.1)(hnd:(ps.map (·.2)).Nodup)
  (h:∀ (h':Heap) (tk:Nat),T5 prog w h' s.heap.objs.size ps->(∀ b o,s.heap.get? b=some o->h'.get? b=some o)->Q (.ref s.heap.objs.size) { s with heap:=h',toks:=tk }) :
  k9 (n6 prog w) A (call (.type "set") [.ref l]) Q E s:=by
 obtain⟨c,tl,hmro⟩:=F.called_set.mro
 have hmade:=F.called_set.made
 have hsub:=F.called_set.sub
 refine av5 (at8 ?_)
 show k9 _ _ (callAny (.type "set") _) _ _ _
 refine a8 ⟨Code.quiet_builtin _ (by decide +kernel),D7 F.entry_type_call ?_⟩
 rw[Around.under_plain (at9 "set" [.ref l] []) rfl]
 have h1:=F.called_set.notType
 have h2:=F.called_set.canCreate
 have hct:=F.typeCall_set_1 (.ref l)
 repeat (any_goals (first | assumption | wp_step))
 refine Q6 (bz3 (.ref l) (E:=E) (Q₁:=fun obj s₁=>∃ led:Bool,(w.params.followText "set-order"=true\/led=true)/\obj=.ref s.heap.objs.size/\s₁={ s with heap:=s.heap.push { cls:=.type "set",dict:=none,data:=.set #[] 0 (.fresh 0 0 led) } }) ⟨_,by cases w.params.followText "set-order"<;>simp,rfl,rfl⟩) fun r s₁ hr=>?_
 cases r with
 | error e=>exact hr
 | ok fl =>
  cases fl with
  | ret obj =>
   obtain⟨led,hled,rfl,rfl⟩:=hr
   have hS:(s.heap.push { cls:=.type "set",dict:=none,data:=.set #[] 0 (.fresh 0 0 led) }).get? s.heap.objs.size=some { cls:=.type "set",dict:=none,data:=.set #[] 0 (.fresh 0 0 led) }:=d5 _ rfl
   have hT:Shared.TypeIs { s with heap:=s.heap.push { cls:=.type "set",dict:=none,data:=.set #[] 0 (.fresh 0 0 led) } } (.ref s.heap.objs.size) "set":=⟨_,hS,rfl⟩
   have hli:=F.called_set.init.lookup
   have hbi:=F.called_set.init.bind (.ref s.heap.objs.size)
   repeat (any_goals (first | assumption | wp_step))
   refine Q6 (V3 (R:=wants (fun r s₂=>r=.none/\∃ h' tk,s₂={ s with heap:=h',toks:=tk }/\T5 prog w h' s.heap.objs.size ps/\(∀ b o,s.heap.get? b=some o->h'.get? b=some o)) E) F.called_set.init.plain F.entry_set_init (aV4 hT ?_)) fun r₂ s₂ hr₂=>?_
   ·obtain⟨ol,hol,hcl,nl,hdl⟩:=hl
    obtain⟨ocls,odict,odata,oslots⟩:=ol
    simp only at hcl hdl
    subst hcl;subst hdl
    have hol':(s.heap.push { cls:=.type "set",dict:=none,data:=.set #[] 0 (.fresh 0 0 led) }).get? l=some { cls:=.type "tuple",dict:=odict,data:=.seq items nl,slots:=oslots }:=a6 _ hol
    have hsls:=L2.sub_tuple_set
    have hslf:=L2.sub_tuple_frozenset
    have hne:(Value.type "tuple" == Value.type "dict")=false:=by decide
    have hl1:(s.heap.push { cls:=.type "set",dict:=none,data:=.set #[] 0 (.fresh 0 0 led) }).IsTuple l items:=⟨_,hol',rfl,nl,rfl⟩
    unfold Builtin.«set.__init__» noKeywords Builtin.Frozenset.updateFrom
    generalize hPI:bg7=PI
    wp_walk
    subst hPI
    refine aH1 hl1 ?_
    refine a5 (ak1 ?_)
    have hlS:l<s.heap.objs.size:=c9 hol
    have hh3:A.in1.in1.in1.handled=none:=by simp[hh]
    have hneI:l≠(s.heap.push { cls:=.type "set",dict:=none,data:=.set #[] 0 (.fresh 0 0 led) }).objs.size:=by
     rw[C1];exact j0 (u7 hlS)
    have hSf:s.heap.objs.size∉[(s.heap.push { cls:=.type "set",dict:=none,data:=.set #[] 0 (.fresh 0 0 led) }).objs.size,l]:=by
     rw[C1];simp only[c8,d6,o7,or_false,not_or]
     exact⟨j0 (an2 _),M5 hlS⟩
    have hsz:items.size=ps.length:=by rw[<- d8,hn,b8]
    have hl2:((s.heap.push { cls:=.type "set",dict:=none,data:=.set #[] 0 (.fresh 0 0 led) }).push { cls:=.type "tuple_iterator",data:=.fields #[.ref l,.int 0 0] }).IsTuple l items:=⟨_,a6 _ hol',rfl,nl,rfl⟩
    refine aH7 ((Walks.tuple hh3 _ l hneI items).toS) ?hu s.heap.objs.size hSf s.heap ?hn ?hw ps hsz.symm (by omega) (fun i v hv=>?hv) hok hin hnd (items.size - 0) 0 _ (by omega) (n9 _)
     ⟨⟨_,d5 _ rfl,rfl,rfl⟩,hl2⟩ (fun b o e=>a6 _ (a6 _ e)) ?hS0 ?hR
    case hu=>show A.units+1+1+1<R8;omega
    case hn=>exact T6 (c5 _)
    case hw =>
     intro b hb
     have e:b=(s.heap.push { cls:=.type "set",dict:=none,data:=.set #[] 0 (.fresh 0 0 led) }).objs.size:=by simpa using hb
     rw[e]
     exact T6 (by rw[C1];exact P8 _)
    case hv =>
     have hv':items.toList[i]?=some v:=by rw[b7];exact hv
     rw[hn,j6]at hv'
     cases e:ps[i]? with
     | none=>rw[e]at hv';cases hv'
     | some p=>rw[e]at hv';exact⟨p,rfl,(Option.some.inj hv').symm⟩
    case hS0 =>
     have hget:((s.heap.push { cls:=.type "set",dict:=none,data:=.set #[] 0 (.fresh 0 0 led) }).push { cls:=.type "tuple_iterator",data:=.fields #[.ref l,.int 0 0] }).get? s.heap.objs.size
       = some { cls:=.type "set",dict:=none,data:=.set #[] 0 (.fresh 0 0 led) }:=a6 _ hS
     refine⟨_,_,_,_,hget,⟨rfl,rfl,rfl⟩,rfl,⟨rfl,rfl,?_,?_,.inl rfl,by show 0*5<7*3;decide,?_⟩,rfl,hled,List.Perm.nil,C0,(fun _ h=>nomatch h)⟩
     ·intro i j a b hij ea
      simp[SetTable.fresh]at ea
     ·intro i j ea
      simp[SetTable.fresh]at ea
     ·intro i e ea
      simp at ea
    case hR =>
     intro s' hm hS'
     obtain⟨h',g',d',tk',os'⟩:=s'
     have eg:g'=s.gens:=hm.gens
     have ed:d'=s.drawn:=hm.drawn
     have eo:os'=s.os:=hm.os
     subst eg;subst ed;subst eo
     show k9 _ _ _ _ _ _
     refine a8 ?_
     show k9 _ _ (ret Value.none) _ _ _
     refine a8 ⟨rfl,h',tk',rfl,hS',fun b o e=>?_⟩
     have hlt:=c9 e
     have hb1:b≠s.heap.objs.size:=j0 hlt
     have hb2:b≠(s.heap.push { cls:=.type "set",dict:=none,data:=.set #[] 0 (.fresh 0 0 led) }).objs.size:=by
      rw[C1];exact j0 (u7 hlt)
     exact hm.heap b o (by simp only[c8,d6,o7,or_false,not_or];exact⟨hb1,hb2⟩) (a6 _ (a6 _ e))
   ·cases r₂ with
    | error e=>exact hr₂
    | ok fl₂ =>
     cases fl₂ with
     | ret r =>
      obtain⟨rfl,h',tk,rfl,hS',hk'⟩:=hr₂
      repeat (any_goals (first | assumption | wp_step))
      exact h _ _ hS' hk'
     | _=>exact hr₂.elim
  | _=>exact hr.elim
end Sett
namespace Sett
open PySem PySem.SetTable PyProof.Rows L2
theorem bk8:entryFor table "set.__sub__"=some Builtin.«frozenset.__sub__»:=bm5 (id':="frozenset.__sub__") (by kernel_rfl) rfl (by decide +kernel) (by kernel_rfl)
theorem az5 {α β:Type}(f:α->β){l m:List β}(h:l.Perm m):∀ ps:List α,m=ps.map f->∃ qs:List α,qs.Perm ps/\l=qs.map f:=by
 induction h with
 | nil =>
  intro ps e
  cases ps with
  | nil=>exact⟨[],.refl _,rfl⟩
  | cons p ps=>cases e
 | cons x _ ih =>
  intro ps e
  cases ps with
  | nil=>cases e
  | cons p ps =>
   rw[j3]at e
   injection e with e1 e2
   obtain⟨qs,h1,h2⟩:=ih ps e2
   exact⟨p::qs,h1.cons p,by rw[j3,<- e1,<- h2]⟩
 | swap x y l =>
  intro ps e
  match ps,e with
  | [],e=>cases e
  | [p],e=>cases e
  | p::q::ps,e =>
   rw[j3,j3]at e
   injection e with e1 e2
   injection e2 with e2 e3
   exact⟨q::p::ps,List.Perm.swap _ _ _,by rw[j3,j3,<- e1,<- e2,<- e3]⟩
 | trans _ _ ih1 ih2 =>
  intro ps e
  obtain⟨qs,h1,h2⟩:=ih2 ps e
  obtain⟨rs,h3,h4⟩:=ih1 qs h2
  exact⟨rs,h3.trans h1,h4⟩
theorem ay5 {S:Addr}{t:SetTable}{Q:Array En->Shared->Prop}(ho:s.heap.get? S=some o)(hd:o.data=.set es ep t)(W:WkS w es t)(hq:Q (U3 w S ep es) s):k9 (n6 prog w) A (setWalk S) Q E s:=by
 unfold setWalk
 refine a5 (u9 ho hd W.fit ?_)
 unfold aw0
 refine a5 (a5 (K3 (a8 ?_)))
 by_cases ft:w.params.followText "set-order"=true
 ·show k9 _ _ (if w.params.followText "set-order"=true then _ else _) _ _ _
  rw[if_pos ft]
  refine a5 (K3 (a8 ?_))
  rw[show U3 w S ep es=al8 (w.params.setOrder S ep) es from if_pos ft]at hq
  exact hq
 ·show k9 _ _ (if w.params.followText "set-order"=true then _ else _) _ _ _
  rw[if_neg ft]
  have hb:(!t.plain && decide (es.size > 1))=false:=by rw[W.pl];simp
  show k9 _ _ (if (!t.plain && decide (es.size > 1))=true then _ else _) _ _ _
  rw[hb,if_neg d4]
  have hb2:(!t.led && decide (es.size > 1))=false:=by rw[W.led.resolve_left ft];simp
  refine a5 ?_
  show k9 _ _ (if (!t.led && decide (es.size > 1))=true then _ else pure ()) _ _ _
  rw[hb2,if_neg d4]
  rw[show U3 w S ep es=es from if_neg ft]at hq
  exact a8 (a8 hq)
theorem aq5 {S:Addr}{others:List Addr}{fl:Option Addr}{t:SetTable}{Q:Array En->Shared->Prop}(ho:s.heap.get? S=some o)(hd:o.data=.set es ep t)(W:WkS w es t)(hq:Q (U3 w S ep es) s):k9 (n6 prog w) A (setWalkUnseen S others fl) Q E s:=by
 unfold setWalkUnseen
 refine a5 (u9 ho hd W.fit ?_)
 unfold aw0
 refine a5 (a5 (K3 (a8 ?_)))
 show k9 _ _ (if (w.params.followText "set-order" || (t.led && t.plain) || decide (es.size<=1))=true then _ else _) _ _ _
 rw[if_pos (by rcases W.led with h | h<;>simp[h,W.pl])]
 first
 | exact ay5 ho hd W hq
 | exact a5 (ay5 ho hd W (a8 hq))
theorem T5.wk {S:Addr}(x:T5 prog w h S ps):∃ o es ep t,h.get? S=some o/\o.ExactSet/\o.data=.set es ep t/\WkS w es t/\es.toList.Perm (ps.map (au6 prog w)):=by
 obtain⟨o,es,ep,t,ho,hex,hd,T,hpl,hled,hpm,_⟩:=x
 exact⟨o,es,ep,t,ho,hex,hd,⟨T.fits,T.asc,hpl,hled⟩,hpm⟩
theorem aZ6 {x:Addr}{Q:Bool->Shared->Prop}(hT:s.TypeIs (.ref x) "set")(hq:Q true s):k9 (n6 prog w) A (Builtin.Frozenset.isAnySet (.ref x)) Q E s:=by
 unfold Builtin.Frozenset.isAnySet orM
 refine a5 (K2 hT bK1 ?_)
 exact a8 hq
set_option maxRecDepth 100000 in
set_option maxHeartbeats 3200000 in
theorem bE5 {id:String}{S O:Addr}(hu:A.units+8<R8)(hS:T5 prog w s.heap S ps)(hO:T5 prog w s.heap O qs)(hi1:∀ p∈ps,y9 (m7 prog w) s.heap p.2 p.1)(hi2:∀ p∈qs,y9 (m7 prog w) s.heap p.2 p.1)
  (hsz:ps.length / 4<=qs.length)(hb:ps.length<300)
  (h:∀ (h':Heap) (rs:List (Addr × List Int)),rs.Perm (ps.filter fun p=>!decide (p.2∈qs.map (·.2)))->T5 prog w h' s.heap.objs.size rs->(∀ b o,s.heap.get? b=some o->h'.get? b=some o)->Q (.ref s.heap.objs.size) { s with heap:=h' }) :
  k9 (n6 prog w) A (Builtin.Frozenset.difference id S (.ref O)) Q E s:=by
 obtain⟨o1,es,ep,t,ho1,hex1,hd1,W1,hpm1⟩:=hS.wk
 obtain⟨o2,es2,ep2,t2,ho2,hex2,hd2,W2,hpm2⟩:=hO.wk
 have hT1:s.TypeIs (.ref S) "set":=⟨o1,ho1,hex1.1⟩
 have hT2:s.TypeIs (.ref O) "set":=⟨o2,ho2,hex2.1⟩
 have hs1:es.size=ps.length:=by rw[<- d8,hpm1.length_eq,b8]
 have hs2:es2.size=qs.length:=by rw[<- d8,hpm2.length_eq,b8]
 unfold Builtin.Frozenset.difference
 refine a5 (aZ6 hT2 ?_)
 simp only[D8,d7,if_false,if_true,at5]
 refine a5 ?_
 show k9 _ _ (pure O) _ _ _
 refine a8 ?_
 unfold Builtin.Frozenset.sizeOf
 refine a5 (a5 (X5 ho2 hd2 W2.fit (a8 ?_)))
 refine a5 (a5 (X5 ho1 hd1 W1.fit (a8 ?_)))
 rw[if_neg (by omega)]
 unfold Builtin.Frozenset.baseOf
 refine a5 (a5 (K2 hT1 bK1 (a8 ?_)))
 rw[if_pos rfl]
 unfold newSet aw0
 refine a5 (a5 (a5 (K3 (a8 ?_))))
 refine J0 ?_
 refine a5 ?_
 show k9 _ _ (pure s.heap.objs.size) _ _ _
 refine a8 ?_
 show k9 _ _ _ _ _ { s with heap:=s.heap.push { cls:=.type "set",data:=.set #[] 0 (.fresh 0 0 (!w.params.followText "set-order")) } }
 generalize hled:(!w.params.followText "set-order")=led
 have hled':w.params.followText "set-order"=true\/led=true:=by rw[<- hled];cases w.params.followText "set-order"<;>simp
 have hR:(s.heap.push { cls:=.type "set",data:=.set #[] 0 (.fresh 0 0 led) }).get? s.heap.objs.size=some { cls:=.type "set",data:=.set #[] 0 (.fresh 0 0 led) }:=d5 _ rfl
 have kp0:∀ b o,s.heap.get? b=some o->(s.heap.push { cls:=.type "set",data:=.set #[] 0 (.fresh 0 0 led) }).get? b=some o:=fun b o e=>a6 _ e
 refine a5 (aN5 (s:={ s with heap:=s.heap.push { cls:=.type "set",data:=.set #[] 0 (.fresh 0 0 led) } }) (kp0 _ _ ho1) hd1 W1.fit ?_)
 refine a5 (v8 ?_)
 refine a5 (aq5 (s:={ s with heap:=s.heap.push { cls:=.type "set",data:=.set #[] 0 (.fresh 0 0 led) } }) (kp0 _ _ ho1) hd1 W1 ?_)
 obtain⟨us,hus,hL⟩:=az5 (au6 prog w) ((ar2 w S ep es).trans hpm1) ps rfl
 have hrne:∀ b o,s.heap.get? b=some o->b≠s.heap.objs.size:=fun b o e=>j0 (c9 e)
 rw[<- R1,hL]
 have P0:T5 prog w (s.heap.push { cls:=.type "set",data:=.set #[] 0 (.fresh 0 0 led) }) s.heap.objs.size []:=by
  refine⟨_,_,_,_,hR,⟨rfl,rfl,rfl⟩,rfl,⟨rfl,rfl,?_,?_,.inl rfl,by show 0*5<7*3;decide,?_⟩,rfl,hled',List.Perm.nil,C0,fun _ h=>nomatch h⟩
  ·intro i j a b hij ea
   simp[SetTable.fresh]at ea
  ·intro i j ea
   simp[SetTable.fresh]at ea
  ·intro i e ea
   simp at ea
 refine a5 (X0 _ (fun rest _ s'=>∃ done todo,us=done++todo/\rest=todo.map (au6 prog w)/\∃ h',s'={ s with heap:=h' }/\T5 prog w h' s.heap.objs.size (done.filter fun p=>!decide (p.2∈qs.map (·.2))).reverse/\∀ b o,s.heap.get? b=some o->h'.get? b=some o) _ ?_ ?_ _ _ ⟨[],us,rfl,rfl,_,rfl,P0,kp0⟩)
 ·rintro v rest r s' ⟨done,todo,e1,e2,h',rfl,hP,kp⟩
  cases todo with
  | nil=>cases e2
  | cons p todo =>
   rw[j3]at e2
   injection e2 with e2 e3
   subst e2
   have hpu:p∈us:=by rw[e1];exact j8 _ c6
   have hpp:=hus.mem_iff.mp hpu
   have hin':∀ x∈(done.filter fun p=>!decide (p.2∈qs.map (·.2))).reverse,y9 (m7 prog w) h' x.2 x.1:=fun x hx=>am3 (hi1 x (hus.mem_iff.mp (by rw[e1];exact A9 _ (p9.mp (Q3.mp hx)).1))) kp
   have hkx:y9 (m7 prog w) h' p.2 p.1:=am3 (hi1 p hpp) kp
   have hokp:U7 p.2:=by obtain⟨_,_,_,_,_,_,_,_,_,_,_,_,hok⟩:=hS;exact hok p hpp
   have hOk:T5 prog w h' O qs:=hO.at' fun o e=>kp _ _ e
   have hdone:∀ x∈done,x∈us:=fun x hx=>by rw[e1];exact A9 _ hx
   have hlen:(done.filter fun p=>!decide (p.2∈qs.map (·.2))).reverse.length<300:=by
    rw[P6]
    have h1:=E8 (fun p:Addr × List Int=>!decide (p.2∈qs.map (·.2))) done
    have h2:=hus.length_eq
    rw[e1,j9]at h2
    omega
   have fin:∀ (h2:Heap) (Q':ForInStep PUnit->Shared->Prop),(∀ b o,s.heap.get? b=some o->h2.get? b=some o)->Q' (ForInStep.yield PUnit.unit) { s with heap:=h2 }->k9 (n6 prog w) A (do
     Builtin.Frozenset.unchanged id S ep
     pure (ForInStep.yield PUnit.unit)) Q' E { s with heap:=h2 }:=fun h2 Q' kp2 hQ'=>by
    unfold Builtin.Frozenset.unchanged
    refine a5 (a5 (aN5 (s:={ s with heap:=h2 }) (kp2 _ _ ho1) hd1 W1.fit ?_))
    rw[if_neg (by simp)]
    exact a8 (a8 hQ')
   have eus:us=(done++[p])++todo:=by rw[e1,r0];rfl
   refine a5 (v8 (a5 (aI5 (s:={ s with heap:=h' }) (by omega) hOk (fun x hx=>am3 (hi2 x hx) kp) hkx hokp fun oi hoi=>?_)))
   refine a5 (a8 ?_)
   rw[hoi]
   by_cases hm:p.2∈qs.map (·.2)
   ·rw[decide_eq_true hm,if_neg (by simp)]
    refine a8 (fin h' _ kp ⟨done++[p],todo,eus,e3,h',rfl,?_,kp⟩)
    rw[af8,ak4 (by rw[decide_eq_true hm];simp),List.filter_nil,F6]
    exact hP
   ·rw[decide_eq_false hm,if_pos (by simp)]
    refine a5 (an8 (s:={ s with heap:=h' }) (by omega) hP hin' hkx hokp hlen fun b h2 hsb hP2=>?_)
    have kp2:∀ b o,s.heap.get? b=some o->h2.get? b=some o:=fun b o e=>by
     rw[hsb.2 b (hrne b o e)]
     exact kp b o e
    refine a8 (fin h2 _ kp2 ⟨done++[p],todo,eus,e3,h2,rfl,?_,kp2⟩)
    ·rw[af8,ak5 (by rw[decide_eq_false hm];simp),List.filter_nil,P5]
     rw[if_neg (fun z=>?_)]at hP2
     ·exact hP2
     ·obtain⟨x,hx,ex⟩:=o9.mp z
      have hxd:=(p9.mp (Q3.mp hx)).1
      have nd:(us.map (·.2)).Nodup:=by
       obtain⟨_,_,_,_,_,_,_,_,_,_,_,hnd,_⟩:=hS
       exact(hus.map _).nodup_iff.mpr hnd
      rw[e1,r6,j3]at nd
      exact(Z4.mp nd).2.2 _ (C9 hxd) _ c6 ex
 ·rintro r s' ⟨done,todo,e1,e2,h',rfl,hP,kp⟩
  cases todo with
  | cons p todo=>cases e2
  | nil =>
   rw[F6]at e1
   subst e1
   refine a8 (a8 ?_)
   exact h h' _ ((S4 _).trans (hus.filter _)) hP kp
set_option maxRecDepth 100000 in
theorem bp3 {S O:Addr}(hu:A.units+9<R8)(hS:T5 prog w s.heap S ps)(hO:T5 prog w s.heap O qs)(hi1:∀ p∈ps,y9 (m7 prog w) s.heap p.2 p.1)(hi2:∀ p∈qs,y9 (m7 prog w) s.heap p.2 p.1)
  (hsz:ps.length / 4<=qs.length)(hb:ps.length<300)
  (h:∀ (h':Heap) (rs:List (Addr × List Int)),rs.Perm (ps.filter fun p=>!decide (p.2∈qs.map (·.2)))->T5 prog w h' s.heap.objs.size rs->(∀ b o,s.heap.get? b=some o->h'.get? b=some o)->Q (.ref s.heap.objs.size) { s with heap:=h' }) :
  k9 (n6 prog w) A (ab3 .Sub (.ref S) (.ref O)) Q E s:=by
 obtain⟨o1,es,ep,t,ho1,hex1,hd1,W1,hpm1⟩:=hS.wk
 obtain⟨o2,es2,ep2,t2,ho2,hex2,hd2,W2,hpm2⟩:=hO.wk
 have hT1:s.TypeIs (.ref S) "set":=⟨o1,ho1,hex1.1⟩
 have hT2:s.TypeIs (.ref O) "set":=⟨o2,ho2,hex2.1⟩
 refine wpAny_binaryOp_same hT1 hT2 F.fills_set_sub F.slot_set_sub (C3 F.slot_set_sub hT1 bk8 ?_ (F.args_set_sub_2 _ _))
 show k9 _ _ (do
  let (l,r) <- pure (Value.ref S,Value.ref O)
  if !(<- Builtin.Frozenset.isAnySet l <&&> Builtin.Frozenset.isAnySet r) then rule "frozenset.__sub__.declined";return <- ret .notImplemented
  ret (<- Builtin.Frozenset.difference "frozenset.__sub__" (<- Builtin.Frozenset.addrOf l) r)) _ _ _
 refine a5 (a8 ?_)
 dsimp only
 unfold andM
 refine a5 (a5 (aZ6 hT1 ?_))
 refine aZ6 hT2 ?_
 simp only[D8,d7,if_false]
 refine a5 ?_
 show k9 _ _ (pure S) _ _ _
 refine a8 (a5 (bE5 (by show A.units+1+8<R8;omega) hS hO hi1 hi2 hsz hb fun h' rs hr hP hk=>?_))
 exact a8 ⟨_,rfl,(fun z=>by cases z),h h' rs hr hP hk⟩
end Sett
namespace L2
open PySem PySem.Spec PyProof.Rows PySem.SeqAt
theorem aY5 {acc:Array Value}(h:aN4 (fun i v=>∃ e,es[i]?=some e/\v=e.2) acc es.size):acc.toList=es.toList.map (·.2):=by
 apply O6
 intro i
 rw[b7,j6,b7]
 cases e:acc[i]? with
 | none =>
  have:acc.size<=i:=by simpa using e
  have h1:es.size<=i:=by have:=h.1;omega
  rw[al2 h1];rfl
 | some v =>
  obtain⟨en,he,rfl⟩:=h.2 i v e
  rw[he];rfl
end L2
namespace Sett
open PySem PySem.SetTable PyProof.Rows PySem.SeqAt L2
theorem aW5 {S:Addr} (hh:A.handled=none) (hS:T5 prog w s.heap S ps) (hb:ps.length<300) (hin:∀ p∈ps,y9 (m7 prog w) s.heap p.2 p.1)
  (h : ∀ (out : List Value) (h1 h' : Heap) (n tk : Nat), (∀ b o, s.heap.get? b = some o -> h1.get? b = some o) -> out.Perm (ps.map fun p => .ref p.1) -> out.Pairwise (fun x y => Tim.K9 (Tim.Q1 prog w s.heap y) (Tim.Q1 prog w s.heap x) = false) -> (∀ b o, h1.get? b = some o -> h'.get? b = some o) ->
   h'.get? h1.objs.size=some { cls:=.type "list",data:=.seq out.toArray n }->Q (.ref h1.objs.size) { s with heap:=h',toks:=tk }) :
  k9 (n6 prog w) A (call (.builtin "sorted") [.ref S]) Q E s:=by
 obtain⟨o,es,ep,t,ho,hex,hd,W,hpm⟩:=hS.wk
 have hok:∀ p∈ps,U7 p.2:=by obtain⟨_,_,_,_,_,_,_,_,_,_,_,_,hok⟩:=hS;exact hok
 have hop:=ar2 w S ep es
 obtain⟨us,hus,hL⟩:=az5 (au6 prog w) (hop.trans hpm) ps rfl
 have hsz:(U3 w S ep es).size=es.size:=by
  have:=hop.length_eq
  simpa using this
 have hs1:es.size=ps.length:=by rw[<- d8,hpm.length_eq,b8]
 refine Calls.call_function_entry bT8 bJ3 bJ4 (args_sorted1 _) ?_
 unfold Builtin.«sorted»
 refine a5 (m:=checkCount "sorted" 1 1 _) (a8 ?_)
 refine a5 (aO6 hh ⟨o,ho,hex,hd⟩ W (by rw[E9];omega) fun h1 tk acc kp hacc=>?_)
 rw[<- hsz]at hacc
 rw[aY5 hacc,hL,P2]
 have hvs:us.map ((·.2) ∘ au6 prog w)=us.map fun p=>Value.ref p.1:=rfl
 rw[hvs]
 have hv:∀ v∈us.map fun p=>Value.ref p.1,∃ i k,Tim.IsK prog w s.heap (i::k) v:=fun v hv=>by
  obtain⟨p,hp,rfl⟩:=o9.mp hv
  have hpp:=hus.mem_iff.mp hp
  obtain⟨i,j,_,_,e⟩:=hok p hpp
  have:=hin p hpp
  rw[e]at this
  exact⟨i,[(j:Int)],p.1,rfl,this⟩
 have hvl:(us.map fun p=>Value.ref p.1).length=ps.length:=by rw[b8,hus.length_eq]
 have hpo:(us.map fun p=>Value.ref p.1).Perm (ps.map fun p=>Value.ref p.1):=hus.map _
 generalize (us.map fun p=>Value.ref p.1)=vs at hv hvl hpo
 have hz:vs.length<=i7:=by rw[E9];omega
 refine a5 (T8 ?_ hz)
 generalize hH:h1.push (J3 "list" vs.toArray 0)=h2
 have hoL:h2.get? h1.objs.size=some (J3 "list" vs.toArray 0):=by rw[<- hH];exact d5 _ rfl
 have keep:∀ b o,s.heap.get? b=some o->h2.get? b=some o:=fun b o e=>by
  rw[<- hH]
  exact a6 _ (kp b o e)
 have up:∀ v k,Tim.IsK prog w s.heap k v->Tim.IsK prog w h2 k v:=fun v k hk=>hk.up keep
 have kA:∀ v∈vs,Tim.Q1 prog w h2 v=Tim.Q1 prog w s.heap v:=fun v hv'=>by
  obtain⟨i,k,hk⟩:=hv v hv'
  rw[Tim.N8 hk,Tim.N8 (up v _ hk)]
 refine a5 (v8 (C3 bm2 (s:={ s with heap:=h2,toks:=tk }) ⟨_,hoL,rfl⟩ bh4 (Tim.aD6 (s:={ s with heap:=h2,toks:=tk }) hoL hz (fun v hv'=>?_) (fun v hv' z=>?_) fun out a1 a2=>⟨_,rfl,?_⟩) (args_list_sort _)))
 ·obtain⟨i,k,hk⟩:=hv v hv'
  exact⟨i,k,up v _ hk⟩
 ·obtain⟨i,k,a,rfl,o,items,n,ho,_⟩:=hv v hv'
  cases z
  exact absurd (c9 (kp _ _ ho)) (A3 _)
 ·have hlast:∃ n,(aa5 h2 h1.objs.size vs out.toArray).get? h1.objs.size=some (J3 "list" out.toArray n):=by
   unfold aa5
   have g1:=P3 hoL (fun _=>(#[]:Array Value))
   have g2:(((h2.update h1.objs.size (Obj.mapSeq fun _=>#[])).push (J3 "tuple" vs.toArray 0)).push (J3 "list" #[] 0)).get? h1.objs.size=_:=a6 _ (a6 _ g1)
   exact⟨_,P3 g2 (fun _=>out.toArray)⟩
  obtain⟨n,hn⟩:=hlast
  refine a8 ⟨_,rfl,h out h1 _ n tk kp (a1.trans hpo) ?_ (fun b o e=>?_) hn⟩
  ·refine List.Pairwise.imp_of_mem ?_ a2
   intro x y hx hy hxy
   rw[kA x (a1.mem_iff.mp hx),kA y (a1.mem_iff.mp hy)]at hxy
   exact hxy
  ·have hb:b≠h1.objs.size:=j0 (c9 e)
   unfold aa5
   refine(r9 _ _ (Ne.symm hb)).trans (a6 _ (a6 _ ((r9 _ _ (Ne.symm hb)).trans ?_)))
   rw[<- hH]
   exact a6 _ e
end Sett
namespace L2
open PySem PySem.Spec PyProof.Rows
def aB7 (P:Program)(w:World)(S:Addr)(ps:List (Addr × List Int)):HO:=.ext fun h=>Sett.T5 P w h S ps
def au8 (K:W.Frag)(H:Hp)(ps:List (Addr × List Int)):Prop:=∀ p∈ps,SqT K H p.1 (p.2.map V.int)
theorem au8.tups {K:W.Frag}:∀ {ps:List (Addr × List Int)},au8 K H ps->D1 K H (ps.map fun p=>V.ref p.1) (ps.map (·.2))
 | [],_=>.nil
 | p::ps,h=>.cons ⟨p.1,rfl,h p c6⟩ (au8.tups fun q hq=>h q (d3 _ hq))
theorem D1.psAt {K:W.Frag}:∀ {ys:List V} {ks:List (List Int)},D1 K H ys ks->∃ ps:List (Addr × List Int),ys=ps.map (fun p=>V.ref p.1)/\ks=ps.map (·.2)/\au8 K H ps
 | _,_,.nil=>⟨[],rfl,rfl,fun _ h=>nomatch h⟩
 | _,_,.cons (b:=k) r t=>by
  obtain⟨a,rfl,h⟩:=r
  obtain⟨ps,e1,e2,h'⟩:=D1.psAt t
  refine⟨(a,k)::ps,by rw[e1];rfl,by rw[e2];rfl,fun p hp=>?_⟩
  rcases c8.mp hp with rfl | hp
  ·exact h
  ·exact h' p hp
theorem au8.same {K:W.Frag}(h:au8 K H ps)(s:A0 H H'):au8 K H' ps:=fun p hp=>s.seqT (h p hp)
theorem bc8 {S:Addr}(hS:Sett.T5 P w h S ps):D5 P w H h S (aB7 P w S ps):=by
 refine⟨hS,?_,fun h1 h2 hS1 hkeep=>?_⟩
 ·obtain⟨o,_,_,_,ho,_⟩:=hS
  exact⟨o,ho⟩
 ·obtain⟨o,es,ep,t,ho,rest⟩:=hS1
  exact⟨o,es,ep,t,hkeep o ho,rest⟩
theorem aF7 (K:W.Frag)(P:Program)(w:World)(hK:X.K=K)(hP:X.prog=P)(hw:X.w=w)(hc:X.calm=true)(hu:X.A.units+8<R8):O1 X (.type "set") (fun xs H Q=>∃ (p:Addr) (ps:List (Addr × List Int)),xs=[.ref p]/\SqT K H p (ps.map fun p=>V.ref p.1)/\au8 K H ps/\(∀ p∈ps,Sett.U7 p.2)/\(ps.map (·.2)).Nodup/\ps.length<300 /\
  ∀ S,H S=none->Q (.ref S) (upd H S (aB7 P w S ps))):=by
 subst hK hP hw
 intro pins s σ H xs us Q I r h
 obtain⟨p,ps,rfl,hq,ht,hok,hnd,hb,q⟩:=h
 obtain⟨u,rfl,rx⟩:=vals1 r
 cases rx
 obtain⟨its,r',pl,hz⟩:=I.tuple hq
 have hits:its=ps.map fun p=>Value.ref p.1:=by
  clear ht hok hnd hb q hq pl hz
  generalize hm:ps.map (fun p=>V.ref p.1)=ys at r'
  induction r' generalizing ps with
  | nil =>
   cases ps with
   | nil=>rfl
   | cons p ps=>cases hm
  | cons r _ ih =>
   cases ps with
   | nil=>cases hm
   | cons p ps =>
    rw[j3]at hm
    injection hm with e1 e2
    subst e1
    cases r
    rw[j3,ih ps e2]
 refine Sett.aI4 (items:=its.toArray) (ps:=ps) (I.ok.hd hc) hu pl hits hb hok (fun p hp=>aj1 I (ht p hp)) hnd fun h' tk hS kp=>?_
 exact⟨.ref s.heap.objs.size,_,I.laid (o:=aB7 X.prog X.w s.heap.objs.size ps) (t':=tk) kp (c5 _) (bc8 hS),rfl,q _ (I.hok.fresh (c5 _))⟩
theorem bB4 (K:W.Frag)(P:Program)(w:World)(hK:X.K=K)(hP:X.prog=P)(hw:X.w=w)(hu:X.A.units+9<R8):OpR X (ab3 .Sub) (fun x y H Q=>∃ (S O:Addr) (ps qs:List (Addr × List Int)),x=.ref S/\y=.ref O/\H S=some (aB7 P w S ps)/\H O=some (aB7 P w O qs)/\au8 K H ps/\au8 K H qs/\ps.length / 4<=qs.length/\ps.length<300 /\
  ∀ (R:Addr) (rs:List (Addr × List Int)),H R=none->rs.Perm (ps.filter fun p=>!decide (p.2∈qs.map (·.2)))->Q (.ref R) (upd H R (aB7 P w R rs))):=by
 subst hK hP hw
 intro pins s σ H x y v u Q I rx ry h
 obtain⟨S,O,ps,qs,rfl,rfl,hS,hO,h1,h2,hsz,hb,q⟩:=h
 cases rx
 cases ry
 obtain⟨hS',_⟩:=I.hok S _ hS
 obtain⟨hO',_⟩:=I.hok O _ hO
 refine Sett.bp3 hu hS' hO' (fun p hp=>aj1 I (h1 p hp)) (fun p hp=>aj1 I (h2 p hp)) hsz hb fun h' rs hr hP kp=>?_
 exact⟨.ref s.heap.objs.size,_,I.laid (o:=aB7 X.prog X.w s.heap.objs.size rs) (t':=s.toks) kp (c5 _) (bc8 hP),rfl,q _ _ (I.hok.fresh (c5 _)) hr⟩
theorem aZ1 (K:W.Frag)(P:Program)(w:World)(hK:X.K=K)(hP:X.prog=P)(hw:X.w=w)(hc:X.calm=true):O1 X (.builtin "sorted") (fun xs H Q=>∃ (S:Addr) (ps:List (Addr × List Int)),xs=[.ref S]/\H S=some (aB7 P w S ps)/\au8 K H ps/\ps.length<300 /\
  ∀ (l:Addr) (zs:List V) (ks:List (List Int)),H l=none->ks.Perm (ps.map (·.2))->ks.Pairwise (fun a b=>Tim.K9 b a=false)->D1 K (upd H l (.lst zs)) zs ks->Q (.ref l) (upd H l (.lst zs))):=by
 subst hK hP hw
 intro pins s σ H xs us Q I r h
 obtain⟨S,ps,rfl,hS,ha,hb,q⟩:=h
 obtain⟨u,rfl,rx⟩:=vals1 r
 cases rx
 obtain⟨hS',_⟩:=I.hok S _ hS
 refine Sett.aW5 (I.ok.hd hc) hS' hb (fun p hp=>aj1 I (ha p hp)) fun out h1 h' n tk kp hp hs kp2 e=>?_
 obtain⟨qs,hqs,eo⟩:=Sett.az5 (fun p:Addr × List Int=>Value.ref p.1) hp ps rfl
 have I1:Inv X pins σ H { s with heap:=h1,toks:=tk }:=(I.tok tk).kept kp
 have hfr:H h1.objs.size=none:=I1.hok.fresh (c5 _)
 have hqa:au8 X.K H qs:=fun p hp=>ha p (hqs.mem_iff.mp hp)
 have rz:B6 (qs.map fun p=>V.ref p.1) out:=by
  rw[eo]
  clear hs hqa hqs eo hp e
  induction qs with
  | nil=>exact .nil
  | cons p qs ih=>exact .cons rfl ih
 have hzl:(qs.map fun p=>V.ref p.1).length<=i7:=by rw[b8,hqs.length_eq,E9];omega
 have keepS:∀ b o,H b=some o->upd H h1.objs.size (.lst (qs.map fun p=>V.ref p.1)) b=some o:=fun b o e=>by rw[n4 (u6 e hfr)];exact e
 refine⟨.ref h1.objs.size,upd H h1.objs.size (.lst (qs.map fun p=>V.ref p.1)),I1.laid (t':=tk) kp2 (c5 _) (show D5 X.prog X.w _ h' _ (.lst (qs.map fun p=>V.ref p.1)) from ⟨hzl,out,n,rz,e⟩),rfl,?_⟩
 refine q _ _ (qs.map (·.2)) hfr (hqs.map _) ?_ (D1.same keepS hqa.tups)
 have eq:qs.map (·.2)=out.map (Tim.Q1 X.prog X.w s.heap):=by
  rw[eo,P2]
  refine V4 fun p hp=>?_
  exact(Tim.N8 ⟨p.1,rfl,aj1 I (hqa p hp)⟩).symm
 rw[eq,D9]
 exact hs
def bL5 (i:Nat)(f:Addr)(sp:Sp)(dvs:List V)(E:XK)(t:TA):TE:=fun σ H Q=>σ[i]?=some (some (.ref f))/\bn6 sp dvs E t σ H Q
theorem ao0 {CX:CXT}{k:Nat}{ps:List Str}{sp:Sp}{ds:List Value}{dvs:List V}{E:XK}{p:Pos}{es:List Expr}{t:TA}
  (F:A2 X.prog X.w X.K X.mg X.base CX k f fd ps sp)(hr:Y4 k X.A)(hN:X.N[i]?=some x)(hv:Vis X.env.scope x)(hk:S8 X.K (.ref f)=true)(hb:Binds X.K fd ps ds)(hd:B6 dvs ds)(hx:am9 CX X E)
  (ha:PA X (e::es) t)(hdb:(x == ("__debug__":Str))=false:=by decide)(hcd:(x == ("__classdict__":Str))=false:=by decide)(he:x8 (e::es) X.env=(false,eval e X.env)::x8 es X.env:=by rfl)(hpl:(V7 pos (x8 es X.env)).any (·.1)=false:=by rfl) :
  PE X (.Call (.Name x p) (e::es) [] pos) (bL5 i f sp dvs E t):=by
 intro pins s σ H Q I h
 obtain⟨hσ,h⟩:=h
 refine K0 (C2 (br4 hN hv hdb hcd pins s σ H (fun v H'=>v=.ref f/\H'=H) I ⟨_,hσ,rfl,rfl⟩) (fun u s0 hq=>?_) fun _ _ z=>z)
 obtain⟨v,H',I0,rv,rfl,rfl⟩:=hq
 cases rv
 refine PySem.W.callWith_K (h₀:=X.base) I0.ok.mod.kin hk (thn (ha pos pins s0 σ _ _ I0 h) fun us s1 ⟨vs,H1,I1,r,q⟩=>⟨I1.kIn,?_⟩) he hpl
 exact bq3 F hr hb hd hx I1 r q
theorem bi3:av7 (.type "list_reverseiterator") "__len__"=pure none:=by rw[au1,ac0];kernel_rfl
theorem bA1:av7 (.type "list_reverseiterator") "__length_hint__"=pure (some (.builtin "list_reverseiterator.__length_hint__")):=by rw[au1,ac0];kernel_rfl
theorem bz8 {I:Addr}{Q:Bool->Shared->Prop}(hT:s.TypeIs (.ref I) "list_reverseiterator")(h:Q false s):k9 (n6 prog w) A (Builtin.List.listLengthHint (.ref I)) Q E s:=by
 unfold Builtin.List.listLengthHint
 refine a5 (T4 hT bi3 ?_)
 show k9 _ A (specialOf (Value.ref I) (Str.ofString "__length_hint__") >>= _) _ _ _
 refine a5 (T4 hT bA1 ?_)
 generalize hid:("list_reverseiterator.__length_hint__":String)=id0
 wp_delta
 rw[show splitId id0=some ("list_reverseiterator","__length_hint__") from by subst hid;decide +kernel]
 subst hid
 refine a5 (K2 (T:="list_reverseiterator") (b:=true) hT (by rw[V8];kernel_rfl) ?_)
 refine J8 (fun hab=>absurd hab (by decide)) (fun _=>?_)
 refine J8 (fun _=>?_) (fun hab=>absurd hab (by decide +kernel))
 refine J8 (fun hab=>absurd hab (by decide +kernel)) (fun _=>?_)
 exact a8 h
section
variable {R:bJ1->Shared->Prop}
variable {I:Addr} {wr:List Addr} {P:Nat->Value->Prop} {St:Nat->Shared->Prop}
theorem bi4 (W:WalksS prog w A.in1 I fp wr G n P St)(hT:∀ i s,St i s->s.TypeIs (.ref I) "list_reverseiterator")(S:Addr)(res:Value)(c₀:Nat)(hst:St 0 s)(hSf:S∉fp)(hI:I∈fp)
  (hS:s.heap.get? S=some { cls:=.type "list",data:=.seq #[] c₀ })
  (hR:∀ s' acc' c',Moved (S::wr) G s s'->s'.heap.get? S=some { cls:=.type "list",dict:=none,data:=.seq acc' c',slots:=#[] }->aN4 P acc' n->R (.ok (.ret res)) s')(hn:n<=i7) :
  k9 (n6 prog w) A.in1 (Builtin.List.listExtendWith (.ref S) (.ref I) res)
   (fun fin s'=>match fin with | .done f=>R (.ok f) s' | .again c'=>c'.quiet=true/\V2 (n6 prog w) A c' R s') (fun e s'=>R (.error e) s') s:=by
 have hSI:S≠I:=fun e=>hSf (e ▸ hI)
 unfold Builtin.List.listExtendWith
 refine a5 (ab9 (hT 0 _ hst) ?_)
 have h1:Builtin.List.listSameRef (.ref S) (.ref I)=false:=by simp[Builtin.List.listSameRef,hSI]
 have h2:(Value.type "list_reverseiterator" == Value.type "list")=false:=by decide
 have h3:(Value.type "list_reverseiterator" == Value.type "tuple")=false:=by decide
 simp only[h1,h2,h3,ak3,d7,if_false]
 refine a5 (W.self 0 _ _ _ hst ?_)
 refine a5 (v8 (bz8 (hT 0 _ hst) ?_))
 refine J8 (fun hab=>absurd hab (by decide +kernel)) (fun _=>?_)
 refine a8 ⟨N0 F.plain_extend_loop _,ax8 W hn _ hSf _ n 0 _ _ _ rfl (n9 _) hst hS (ItemsOf.nil P) fun s' acc' c' hm hS' hacc=>?_⟩
 exact hR s' acc' c' hm hS' hacc
theorem bA0 (W:WalksS prog w A.in1 I fp wr G n P St)(hT:∀ i s,St i s->s.TypeIs (.ref I) "list_reverseiterator")(S:Addr)(hst:St 0 s)(hSf:S∉fp)(hI:I∈fp)
  (hS:s.heap.get? S=some { cls:=.type "list",data:=.seq #[] })
  (hR:∀ s' acc' c',Moved (S::wr) G s s'->s'.heap.get? S=some { cls:=.type "list",dict:=none,data:=.seq acc' c',slots:=#[] }->aN4 P acc' n->R (.ok (.ret .none)) s')(hn:n<=i7) :
  k9 (n6 prog w) A.in1 (Builtin.«list.__init__» ⟨[.ref S,.ref I],[]⟩)
   (fun fin s'=>match fin with | .done f=>R (.ok f) s' | .again c'=>c'.quiet=true/\V2 (n6 prog w) A c' R s') (fun e s'=>R (.error e) s') s:=by
 show k9 _ A.in1 (do let old <- Builtin.List.listItems (.ref S);Builtin.List.listUpdate (.ref S) (fun _=>#[]);letGo old.toList.reverse;Builtin.List.listExtendWith (.ref S) (.ref I) .none) _ _ s
 refine a5 ?_
 unfold Builtin.List.listItems
 refine a5 (aC0 hS rfl (a8 ?_))
 show k9 _ A.in1 (aH4 S (fun _=>#[]) >>= fun _=>letGo (#[]:Array Value).toList.reverse >>= fun _=>Builtin.List.listExtendWith (.ref S) (.ref I) .none) _ _ s
 refine a5 (Y7 hS rfl ?_)
 have hS₂:=x9 (Obj.mapSeq (fun _=>(#[]:Array Value))) hS rfl
 have oth:∀ b o,b≠S->s.heap.get? b=some o->(s.heap.update S (Obj.mapSeq (fun _=>(#[]:Array Value)))).get? b=some o:=
  fun b o hb e=>(r9 _ _ (Ne.symm hb)).trans e
 refine a5 (aC5 ?_)
 refine bi4 (hn:=hn) W hT S .none _ (W.frame 0 s _ s.toks hst (c5 _) fun b hb o e=>oth b o (fun h=>hSf (h ▸ hb)) e) hSf hI hS₂ fun s' acc' c' hm hS' hacc=>?_
 exact hR s' acc' c' (Moved.trans W.gtrans ((Moved.refl W.grefl).then_heap (c5 _) fun b o hb e=>oth b o (fun h=>hb (h ▸ c6)) e) hm) hS' hacc
end
section
variable {I:Addr} {wr:List Addr} {P:Nat->Value->Prop} {St:Nat->Shared->Prop}
theorem bz9 (W:WalksS prog w A.in1.in1 I fp wr G n P St) (hT:∀ i s,St i s->s.TypeIs (.ref I) "list_reverseiterator") (hst:St 0 s) (hfp:∀ b∈fp,b<s.heap.objs.size) (hI:I∈fp)
  (hQ : ∀ s' acc' c', Moved (s.heap.objs.size :: wr) G { s with heap := s.heap.push { cls := .type "list", data := .seq #[] } } s' ->
   s'.heap.get? s.heap.objs.size=some { cls:=.type "list",dict:=none,data:=.seq acc' c',slots:=#[] }->aN4 P acc' n->Q (.ref s.heap.objs.size) s') (hn:n<=i7) :
  k9 (n6 prog w) A (call (.type "list") [.ref I]) Q E s:=by
 have hSf:s.heap.objs.size∉fp:=fun hm=>A3 _ (hfp _ hm)
 refine bm4 (Q₁:=fun obj s₁=>obj=.ref s.heap.objs.size/\s₁={ s with heap:=s.heap.push { cls:=.type "list",data:=.seq #[] } }) F.called_list (F.typeCall_list_1 _) F.entry_list_init
  (code_list_new _ ⟨rfl,rfl⟩) fun obj s₁ h₁=>?_
 obtain⟨rfl,rfl⟩:=h₁
 have hS:(s.heap.push { cls:=.type "list",data:=.seq #[] }).get? s.heap.objs.size=some { cls:=.type "list",data:=.seq #[] }:=d5 _ rfl
 refine⟨⟨_,hS,rfl⟩,F.args_list_init_2 _ _,bA0 (hn:=hn) W hT _ (W.frame 0 s _ s.toks hst (c5 _) fun b _ o e=>a6 _ e) hSf hI hS fun s' acc' c' hm hS' hacc=>?_⟩
 exact⟨rfl,hQ s' acc' c' hm hS' hacc⟩
end
def bW9 (K:W.Frag):List V->Hp->VK->Prop:=fun xs H Q=>∃ l zs,xs=[.ref l]/\SqL K H l zs/\∀ d,H d=none->Q (.ref d) (upd H d (.lst zs.reverse))
theorem bA9 {ta:TA}{p1 p2 pos1 pos2:Pos}(hc:X.calm=true)(hgL:Gl X "list")(hmL:X.mg "list"=none)(hgR:Gl X "reversed")(hmR:X.mg "reversed"=none)(ha:PA X [e] ta)
  (hs:x8 [e] X.env=(false,eval e X.env)::x8 [] X.env:=by rfl)(hpl:(V7 pos2 (x8 [] X.env)).any (·.1)=false:=by rfl) :
  PE X (.Call (.Name "list" p1) [.Call (.Name "reversed" p2) [e] [] pos2] [] pos1) (tCB (bW9 X.K) ta):=by
 intro pins s σ H Q I h
 refine K0 (ah8 I hgL hmL (show Q5 "list"=some (.type "list") from rfl) ?_ (by decide) (by decide))
 refine callWith_type1 ?_ (by rfl) (by rfl)
 show k9 _ _ (spliced ((false,eval (.Call (.Name "reversed" p2) [e] [] pos2) X.env)::V7 pos1 (x8 [] X.env))) _ _ s
 refine Calls.spliced_cons ?_
 refine K0 (ah8 I hgR hmR (show Q5 "reversed"=some (.type "reversed") from rfl) ?_ (by decide) (by decide))
 refine callWith_type1 (thn (ha pos2 pins s σ H _ I h) fun us s1 ⟨vs,H1,I1,r1,q1⟩=>?_) hs hpl
 obtain⟨l,zs,rfl,hq,q⟩:=q1
 obtain⟨u,rfl,ru⟩:=vals1 r1
 cases ru
 obtain⟨its,rr,pl,hz⟩:=I1.list hq
 have hlen:=rr.length
 have hl:=pl.isList
 refine call_reversed_list hl ?_
 refine Calls.spliced_nil ?_
 have hls:l<s1.heap.objs.size:=by
  obtain⟨o,ho,_⟩:=hl
  exact c9 ho
 have hne:l≠s1.heap.objs.size:=j0 hls
 have W:=(Walks.listRev (prog:=X.prog) (w:=X.w) (A:=X.A.in1.in1) (I1.ok.hd hc) s1.heap.objs.size l hne its.toArray).toS
 refine bz9 W (fun i s' x=>x.2.1.typeIs) ⟨n9 _,?_,?_⟩ (fun b hb=>?_) c6 (fun s' acc c' hm hS hacc=>?_) ?_
 ·have e0:((its.toArray.size:Int) - 1 - ((0:Nat):Int))=(its.toArray.size:Int) - 1:=by omega
  rw[e0]
  exact⟨_,d5 _ rfl,rfl,rfl⟩
 ·exact hl.at fun o e=>a6 _ e
 ·show b<(s1.heap.push _).objs.size
  rw[show (s1.heap.push (bK2 l ((its.toArray.size:Int) - 1))).objs.size=s1.heap.objs.size+1 from x6 _]
  rcases c8.mp hb with e | hb
  ·rw[e];exact an2 _
  ·rw[d6.mp hb];exact u7 hls
 ·have es:(s1.heap.push (bK2 l ((its.toArray.size:Int) - 1))).objs.size=s1.heap.objs.size+1:=x6 _
  have hsz:acc.size=its.length:=by rw[hacc.1];exact k8 ..
  have ea:acc.toList=its.reverse:=by
   apply O6
   intro j
   rcases W8 j its.length with hj | hj
   ·have h1:acc[j]?=some (acc[j]'(by omega)):=M6 (by omega)
    have h2:=hacc.2 j _ h1
    rw[b7,h1,List.getElem?_reverse hj,<- h2]
    simp
   ·rw[C8 (by rw[d8];omega),C8 (by rw[P6];omega)]
  have kp:∀ b u,s1.heap.get? b=some u->s'.heap.get? b=some u:=fun b u e=>by
   have hb:=c9 e
   refine hm.heap b u (fun mm=>?_) (a6 _ (a6 _ e))
   rcases c8.mp mm with z | mm
   ·have z2:b=s1.heap.objs.size+1:=z.trans es
    rw[z2]at hb
    exact absurd hb (aH0.mpr (P8 _))
   ·have z2:=d6.mp mm
    rw[z2]at hb
    exact A3 _ hb
  have new:D5 X.prog X.w (upd H1 (s1.heap.push (bK2 l ((its.toArray.size:Int) - 1))).objs.size (.lst zs.reverse)) s'.heap (s1.heap.push (bK2 l ((its.toArray.size:Int) - 1))).objs.size (.lst zs.reverse):=⟨by rw[P6];exact hz,acc.toList,c',by rw[ea];exact rr.reverse,by rw[ab0];exact hS⟩
  have I2:=I1.laid (t':=s'.toks) kp (show s1.heap.objs.size<=(s1.heap.push (bK2 l ((its.toArray.size:Int) - 1))).objs.size by rw[es];exact P8 _) new
  have hf:=I1.hok.fresh (a:=(s1.heap.push (bK2 l ((its.toArray.size:Int) - 1))).objs.size) (by rw[es];exact P8 _)
  rw[PySem.Moved.eq_with hm]
  exact⟨.ref (s1.heap.push (bK2 l ((its.toArray.size:Int) - 1))).objs.size,_,I2,rfl,q _ hf⟩
 ·rw[k8,<- hlen];exact hz
end L2
namespace HT
open PySem PyProof.Rows
section
open PySem.SeqAt
open PySem.AutoSeq1 (wpAny_loadPart')
open PySem.MeetsSeq PySem.MeetsSeq2 PySem.MeetsSeq3
end
end HT
namespace L2
open PySem PySem.Spec PyProof.Rows
section
variable {Er:Value->Shared->Prop}
end
section
variable {K:W.Frag} {mg:Str->Option Value} {base:Heap} {cd:Value} {E:XK} {H1:Hp} {s1:Shared}
end
section
variable {K:W.Frag} {mg:Str->Option Value} {base:Heap} {cd:Value} {E:XK}
end
section
variable {K:W.Frag} {mg:Str->Option Value} {base:Heap} {scope0:Scope} {cd:Value} {s0:Shared} {H0:Hp} {E:XK}
end
end L2
namespace Web
open PySem L2
def top (i:Nat):Stmt:=PySem.Challenge.pw_tallyweb_k20_led_from_web_to_web.main.body.getD i (.Pass ⟨0,0,0,0⟩)
abbrev aI7:Stmt:=top 12
abbrev bi1:Stmt:=top 13
abbrev aP0:Stmt:=top 17
abbrev sUp:Stmt:=top 14
abbrev aP5:Stmt:=top 15
abbrev bi2:Stmt:=top 23
abbrev bq0:Stmt:=top 24
abbrev ah2:Stmt:=top 29
abbrev az1:Stmt:=top 30
abbrev aP3:Stmt:=top 31
abbrev az0:Stmt:=top 32
abbrev ay9:Stmt:=top 33
abbrev aO9:Stmt:=top 34
abbrev am1:Stmt:=top 35
abbrev aD8:Stmt:=top 36
abbrev aD9:Stmt:=top 37
abbrev aP8:Stmt:=top 38
abbrev aP1:Stmt:=top 41
abbrev aq8:Stmt:=top 16
abbrev bq2:Stmt:=top 18
abbrev bq1:Stmt:=top 20
abbrev bi0:Stmt:=top 21
abbrev aP7:Stmt:=top 25
abbrev aP4:Stmt:=top 26
abbrev aD7:Stmt:=top 27
abbrev aP6:Stmt:=top 8
abbrev bp7:Stmt:=top 9
abbrev bp8:Stmt:=top 43
abbrev bp9:Stmt:=top 40
abbrev bp6:Stmt:=top 39
abbrev aP2:Stmt:=top 42
abbrev aX3:Stmt:=top 44
structure Bn (mg:Str->Option Value):Prop where
 len:mg "len"=none
 range:mg "range"=none
 enum:mg "enumerate"=none
 list:mg "list"=none
 tuple:mg "tuple"=none
 sorted:mg "sorted"=none
 set:mg "set"=none
 isin:mg "isinstance"=none
 int:mg "int"=none
 bool:mg "bool"=none
 min:mg "min"=none
 max:mg "max"=none
 sum:mg "sum"=none
 str:mg "str"=none
 ve:mg "ValueError"=none
 all:mg "all"=none
 dict:mg "dict"=none
 rev:mg "reversed"=none
theorem R4:1000<=i7:=by decide
theorem i8 {o:HO}(h:H l=none):A0 H (upd H l o):=fun b u e=>by
 rw[n4 (u6 e h)]
 exact e
def D3 (K:W.Frag)(H:Hp)(p:Addr)(n:Nat)(ks:List (List Int)):Prop:=∃ t zs,SqT K H p [.int n,.ref t]/\SqT K H t zs/\D1 K H zs ks
theorem D3.same {K:W.Frag}{p:Addr}{ks:List (List Int)}(h:D3 K H p n ks)(s:A0 H H'):D3 K H' p n ks:=by
 obtain⟨t,zs,h1,h2,h3⟩:=h
 exact⟨t,zs,s.seqT h1,s.seqT h2,s.tups h3⟩
def bP8 (n:Nat)(a:Int):Prop:=0<=a/\a<n
section
variable {K:W.Frag} {mg:Str->Option Value} {base:Heap}
def aI2 (K:W.Frag):Sp:=fun vs H Q _=>∃ (a:Addr) (ns:List Int) (k:Nat),vs=[.ref a,.int k]/\SqL K H a (ns.map V.int)/\∀ r:Int,Q (.int r) H
theorem bM2:A1 ["script","k"] ["script","k"] (p5 ah2):=.mk'
theorem aJ7 (F:Fun K "_law_cell" "_law_cell" ah2 f fd)(B:Bn mg):A2 P w K mg base CX0 1 f fd ["script","k"] (aI2 K):=by
 refine F.ok bM2 (fun cdv A outer s H vs Q E hr h=>?_)
 obtain⟨a,ns,k,rfl,hS,q⟩:=h
 refine⟨_,j5 (K7 (E2 ao2 (pv 1) (v9 L3 (by rfl) B.len PySem.boot_len (a7 (pv 0) c7)) (J5 _)) (n5 (B9 (A6 U5 (pv 0) (pv 1) (fun _ _=>rfl)))) C6)
  (n5 (B9 k7)),?_⟩
 refine⟨_,rfl,_,rfl,a,_,rfl,.inl hS,_,_,rfl,rfl,_,rfl,?_⟩
 refine aY6 (fun h=>?_) (fun h=>?_)
 ·have hl:k<ns.length:=by
   have:=of_decide_eq_true h
   rw[b8]at this
   omega
  refine⟨_,rfl,_,rfl,a,_,_,_,rfl,rfl,hS,B5 (j:=k) (v:=.int ns[k]) (by simp[hl]),?_⟩
  exact q _
 ·exact q _
def bc6:Sp:=fun vs H Q _=>∃ a b:Int,vs=[.int a,.int b]/\Q (.bl (decide (0<=b) && decide (b<a))) H
theorem bV9:A1 ["places","number"] ["places","number"] (p5 aI7):=.mk'
theorem aX9 (F:Fun K "is_place" "is_place" aI7 f fd):A2 P w K mg base CX0 1 f fd ["places","number"] bc6:=by
 refine F.ok bV9 (fun cdv A outer s H vs Q E hr h=>?_)
 obtain⟨a,b,rfl,k⟩:=h
 refine⟨_,n5 (B9 (br9 aA0 ao2 k7 (pv 1) (pv 0))),?_⟩
 refine⟨_,rfl,_,_,rfl,rfl,_,rfl,?_⟩
 cases e:decide ((0:Int)<=b) with
 | true =>
  refine R5 ⟨_,rfl,_,_,rfl,rfl,?_⟩
  rw[e,ac4]at k
  exact k
 | false =>
  refine G5 ?_
  rw[e,at5]at k
  exact k
def bG8:Sp:=fun vs H Q _=>∃ (n:Nat) (a:Int),vs=[.int n,.int a]/\bP8 n a/\Q .non H
theorem bW0:A1 ["places","number"] ["places","number"] (p5 bi1):=.mk'
theorem bO7 {fI:Addr}(F:Fun K "check_place" "check_place" bi1 f fd)(FI:Fq K mg "is_place" aI7 fI fdI ["places","number"]):A2 P w K mg base CX0 2 f fd ["places","number"] bG8:=by
 have GI:A2 P w K mg base CX0 1 fI fdI ["places","number"] bc6:=aX9 FI.F
 refine F.ok bW0 (fun cdv A outer s H vs Q E hr h=>?_)
 obtain⟨n,a,rfl,hp,q⟩:=h
 refine⟨_,n5 (K7 (M4 (L7 (A7 GI hr (by rfl) FI A8 (a7 (pv 0) (a7 (pv 1) c7))))) G8 C6),?_⟩
 refine⟨_,rfl,_,rfl,_,_,rfl,_,rfl,?_⟩
 rw[decide_eq_true hp.1,decide_eq_true hp.2]
 exact G5 q
def bn8 (K:W.Frag):Sp:=fun vs H Q _=>∃ (p:Addr) (n:Nat) (a b:Int) (ks:List (List Int)),vs=[.ref p,.int a,.int b]/\D3 K H p n ks/\bP8 n a/\bP8 n b/\∀ H',A0 H H'->Q (.bl (decide (up [a,b]∈ks))) H'
theorem bL8:A1 ["web","one","other"] ["web","one","other"] (p5 aP0):=.mk'
theorem bB9 {fI:Addr} (F:Fun K "tied" "tied" aP0 f fd) (B:Bn mg) (FI:Fq K mg "is_place" aI7 fI fdI ["places","number"])
  (FC:Fq K mg "check_place" bi1 fC fdC ["places","number"]):A2 P w K mg base CX0 3 f fd ["web","one","other"] (bn8 K):=by
 have GC:A2 P w K mg base CX0 2 fC fdC ["places","number"] bG8:=bO7 FC.F FI
 refine F.ok bL8 (fun cdv A outer s H vs Q E hr h=>?_)
 obtain⟨p,n,a,b,ks,rfl,⟨t,zs,h1,h2,h3⟩,ha,hb,q⟩:=h
 have hun:=hr.units
 refine⟨_,j5 (Q9 (A7 GC hr (by rfl) FC A8 (a7 (A6 y7 (pv 0) k7 (fun _ _=>rfl)) (a7 (pv 1) c7))))
  (j5 (Q9 (A7 GC hr (by rfl) FC A8 (a7 (A6 y7 (pv 0) k7 (fun _ _=>rfl)) (a7 (pv 2) c7))))
  (n5 (B9 (aw6 bN5 (G1 (a7 (v9 (Z7 rfl) (by rfl) B.min (by rfl) (a7 (pv 1) (a7 (pv 2) c7))) (a7 (v9 (ad6 rfl) (by rfl) B.max (by rfl) (a7 (pv 1) (a7 (pv 2) c7))) c7)))
   (A6 y7 (pv 0) k7 (fun _ _=>rfl)) (by rfl))))),?_⟩
 have a0:atI ([.int n,.ref t]:List V) 0=some (.int n):=B5 (j:=0) rfl
 have a1:atI ([.int n,.ref t]:List V) 1=some (.ref t):=B5 (j:=1) rfl
 refine⟨_,rfl,p,_,_,_,rfl,rfl,h1,a0,_,rfl,n,a,rfl,ha,?_⟩
 refine⟨_,rfl,p,_,_,_,rfl,rfl,h1,a0,_,rfl,n,b,rfl,hb,?_⟩
 refine⟨_,rfl,_,rfl,_,_,rfl,_,rfl,_,rfl,_,_,rfl,(by show 2<=i7;decide),fun x hx=>?_⟩
 have s1:=i8 (o:=.tup [.int (if b<a then b else a),.int (if b > a then b else a)]) hx
 refine⟨_,rfl,p,_,_,_,rfl,rfl,s1.seqT h1,a1,t,zs,dP (up [a,b]),ks.map dP,rfl,.inr (s1.seqT h2),Dt.mkP (SqT.of b9),(s1.tups h3).dtAll,bt1 _,Z6 ks,?_,?_⟩
 ·exact bn0 hun (t9 (bv7 _) (by decide))
 ·show Q (.bl ((ks.map dP).any fun d=>PyData.eqv d (dP (up [a,b])))) _
  rw[aZ5]
  exact q _ s1
def aW1:Sp:=fun vs H Q _=>∃ (c k:Int),vs=[.int c,.int k]/\∀ r:Int,Q (.int r) H
theorem aX0:A1 ["cell","k","turn"] ["cell","k"] (p5 az1):=.mk'
theorem be3 (F:Fun K "_law_mixed" "_law_mixed" az1 f fd):A2 P w K mg base CX0 1 f fd ["cell","k"] aW1:=by
 refine F.ok aX0 (fun cdv A outer s H vs Q E hr h=>?_)
 obtain⟨c,k,rfl,q⟩:=h
 refine⟨_,j5 (B3 (i:=2) aX0.nd rfl (Or.inl rfl) (C5 W7 (C5 ae6 (C5 ae6 (C5 W7 (pv 0) k7) (C5 aJ4 k7 (pv 1))) k7) k7))
  (j5 (B3 (i:=2) aX0.nd rfl (Or.inl rfl) (C5 W7 (C5 aJ4 (pv 2) (pv 2)) k7))
  (n5 (B9 (C5 W7 (C5 aJ4 (pv 2) k7) k7)))),?_⟩
 refine⟨_,rfl,_,_,rfl,rfl,(by show (0:Int)<2147483647;decide),_,rfl,_,_,rfl,rfl,.inl ⟨by decide,by decide⟩,_,_,rfl,rfl,_,_,rfl,rfl,_,_,rfl,rfl,(by show (0:Int)<2147483647;decide),?_⟩
 refine ar9 fun k1 hk1=>?_
 have k10:0<=k1:=by rw[hk1];exact Y2 _ (by decide)
 have k11:k1<2147483647:=by rw[hk1];exact Y3 _ (by decide)
 clear hk1
 refine⟨_,rfl,_,rfl,_,_,rfl,rfl,.inl ⟨by omega,by omega⟩,_,_,rfl,rfl,(by show (0:Int)<1000000007;decide),?_⟩
 refine ar9 fun k2 _=>?_
 refine⟨_,rfl,_,_,rfl,rfl,.inr ⟨by decide,by decide⟩,_,_,rfl,rfl,(by show (0:Int)<998244353;decide),?_⟩
 exact q _
def bo3 (K:W.Frag):Sp:=fun vs H Q _=>∃ (a:Addr) (ns:List Int),vs=[.ref a,.int 24]/\SqL K H a (ns.map V.int)/\∀ n:Nat,1<=n->n<=24->Q (.int n) H
theorem bp4:A1 ["script","most","rest"] ["script","most"] (p5 aP3):=.mk'
theorem bC2 (F:Fun K "_law_places" "_law_places" aP3 f fd) (B:Bn mg) (FC:Fq K mg "_law_cell" ah2 fC fdC ["script","k"]):A2 P w K mg base CX0 2 f fd ["script","most"] (bo3 K):=by
 have GC:A2 P w K mg base CX0 1 fC fdC ["script","k"] (aI2 K):=aJ7 FC.F B
 refine F.ok bp4 (fun cdv A outer s H vs Q E hr h=>?_)
 obtain⟨a,ns,rfl,hS,q⟩:=h
 refine⟨_,j5 (B3 (i:=2) bp4.nd rfl (Or.inl rfl) (C5 ae5 (A7 GC hr (by rfl) FC A8 (a7 (pv 0) (a7 k7 c7))) k7))
  (j5 (K7 (E2 be2 (C5 W7 (C5 ae5 (pv 2) k7) k7) k7 (J5 _))
   (n5 (B9 (C5 ae6 k7 (C5 W7 (C5 ae5 (pv 2) k7) (pv 1))))) C6)
  (n5 (B9 (C5 ae6 k7 (C5 W7 (pv 2) (v9 (Z7 rfl) (by rfl) B.min (by rfl) (a7 k7 (a7 (pv 1) c7)))))))),?_⟩
 refine⟨_,rfl,a,ns,0,rfl,hS,fun c0=>⟨_,_,rfl,rfl,⟨by decide,by decide⟩,?_⟩⟩
 refine ar9 fun r _=>?_
 refine⟨_,rfl,_,_,rfl,rfl,⟨by decide,by decide⟩,_,_,rfl,rfl,(by show (0:Int)<8;decide),rfl,_,rfl,?_⟩
 refine aY6 (fun h=>?_) (fun h=>?_)
 ·have h1:0<=r / 56 % 24:=Y2 _ (by decide)
  have h2:r / 56 % 24<24:=Y3 _ (by decide)
  refine⟨_,rfl,_,_,rfl,rfl,⟨by decide,by decide⟩,_,rfl,_,_,rfl,rfl,(by show (0:Int)<24;decide),_,_,rfl,rfl,?_⟩
  have:=q (1+r / 56 % 24).toNat (by omega) (by omega)
  rw[show (((1+r / 56 % 24).toNat:Nat):Int)=1+r / 56 % 24 by omega]at this
  exact this
 ·have h1:0<=r % 7:=Y2 _ (by decide)
  have h2:r % 7<7:=Y3 _ (by decide)
  refine⟨_,rfl,_,rfl,_,_,rfl,_,_,rfl,rfl,(by show (0:Int)<(if (24:Int)<7 then 24 else 7);decide),_,_,rfl,rfl,?_⟩
  have:=q (1+r % 7).toNat (by omega) (by omega)
  rw[show (((1+r % 7).toNat:Nat):Int)=1+r % 7 by omega]at this
  exact this
def bc5 (K:W.Frag):Sp:=fun vs H Q _=>∃ (a:Addr) (ns:List Int) (k:Nat),vs=[.ref a,.int k]/\SqL K H a (ns.map V.int)/\∀ b:Bool,Q (.bl b) H
theorem bz7:A1 ["script","k"] ["script","k"] (p5 az0):=.mk'
theorem bs5 {fM:Addr} {fdM:FuncData} (F:Fun K "_law_tie_there" "_law_tie_there" az0 f fd) (B:Bn mg) (FC:Fq K mg "_law_cell" ah2 fC fdC ["script","k"])
  (FM:Fq K mg "_law_mixed" az1 fM fdM ["cell","k"]):A2 P w K mg base CX0 2 f fd ["script","k"] (bc5 K):=by
 have GC:A2 P w K mg base CX0 1 fC fdC ["script","k"] (aI2 K):=aJ7 FC.F B
 have GM:A2 P w K mg base CX0 1 fM fdM ["cell","k"] aW1:=be3 FM.F
 refine F.ok bz7 (fun cdv A outer s H vs Q E hr h=>?_)
 obtain⟨a,ns,k,rfl,hS,q⟩:=h
 refine⟨_,j5 (K7 (E2 be2 (C5 W7 (A7 GC hr (by rfl) FC A8 (a7 (pv 0) (a7 k7 c7))) k7) k7 (J5 _))
   (n5 (B9 (aw6 be2 (C5 bN7 (C5 bN3 (A7 GC hr (by rfl) FC A8 (a7 (pv 0) (a7 (C5 ae6 k7 (C5 ae5 (pv 1) k7)) c7))) (C5 W7 (pv 1) k7)) k7) k7 (J5 _)))) C6)
  (n5 (B9 (aw6 ao2 (C5 W7 (C5 ae5 (A7 GM hr (by rfl) FM A8 (a7 (A7 GC hr (by rfl) FC A8 (a7 (pv 0) (a7 k7 c7))) (a7 (pv 1) c7))) k7) k7)
   (C5 ae6 k7 (C5 W7 (A7 GC hr (by rfl) FC A8 (a7 (pv 0) (a7 k7 c7))) k7)) (J5 _)))),?_⟩
 refine⟨_,rfl,a,ns,0,rfl,hS,fun c0=>⟨_,_,rfl,rfl,(by show (0:Int)<2;decide),rfl,_,rfl,?_⟩⟩
 refine aY6 (fun h=>?_) (fun h=>?_)
 ·refine⟨_,rfl,_,rfl,_,_,rfl,rfl,⟨by decide,by decide⟩,_,_,rfl,rfl,a,ns,2+k / 60,by rw[Int.natCast_add];rfl,hS,fun c1=>?_⟩
  refine⟨_,rfl,_,_,rfl,rfl,(by show (0:Int)<60;decide),_,_,rfl,rfl,Y2 _ (by decide),_,_,rfl,rfl,rfl,?_⟩
  exact q _
 ·refine⟨_,rfl,a,ns,2,rfl,hS,fun c1=>⟨_,rfl,c1,(k:Int),rfl,fun r1=>?_⟩⟩
  refine⟨_,_,rfl,rfl,⟨by decide,by decide⟩,_,_,rfl,rfl,(by show (0:Int)<4;decide),_,rfl,a,ns,1,rfl,hS,fun c2=>⟨_,_,rfl,rfl,(by show (0:Int)<3;decide),_,_,rfl,rfl,_,_,rfl,rfl,?_⟩⟩
  exact q _
end
theorem ah9 {k:Nat}(hr:Y4 k A):A.units+1<R8:=by have:=hr.units;omega
theorem Q0 (xs:List Int):(xs.map (Sum.inl:Int->Key)).map kV=xs.map V.int:=by rw[P2];rfl
theorem aK3:∀ {xs ys:List Int},xs.map (Sum.inl:Int->Key)=ys.map Sum.inl->xs=ys
 | [],[],_=>rfl
 | [],_::_,h=>by cases h
 | _::_,[],h=>by cases h
 | x::xs,y::ys,h=>by
  rw[j3,j3]at h
  injection h with h1 h2
  injection h1 with h1
  rw[h1,aK3 h2]
def KE (kvs:List (List Key × V))(ks:List (List Int)):Prop:=kvs.map (·.1)=ks.map (Y0 Sum.inl)/\∀ kv∈kvs,kv.2=.bl true
def TD (H:Hp)(d:Addr)(ks:List (List Int)):Prop:=∃ kvs:List (List Key × V),H d=some (.dT kvs)/\KE kvs ks
def TF (H:Hp)(d:Addr)(ks:List (List Int)):Prop:=∃ (o:Obj) (kvs:List (List Key × V)),H d=some (.frz o (.dT kvs))/\KE kvs ks
theorem TF.same {ks:List (List Int)}(h:TF H d ks)(s:A0 H H'):TF H' d ks:=let ⟨o,kvs,h1,h2⟩:=h;⟨o,kvs,s _ _ h1,h2⟩
theorem TD.same {ks:List (List Int)}(h:TD H d ks)(s:A0 H H'):TD H' d ks:=let ⟨kvs,h1,h2⟩:=h;⟨kvs,s _ _ h1,h2⟩
def TR (H:Hp)(d:Addr)(ks:List (List Int)):Prop:=∃ kvs:List (List Key × V),Rd H d (.dT kvs)/\KE kvs ks
theorem bd5 {u:HO}(h:Rd H d u)(s:A0 H H'):Rd H' d u:=h.elim (fun h=>.inl (s _ _ h)) fun⟨o,h⟩=>.inr ⟨o,s _ _ h⟩
theorem TR.same {ks:List (List Int)}(h:TR H d ks)(s:A0 H H'):TR H' d ks:=let ⟨kvs,h1,h2⟩:=h;⟨kvs,bd5 h1 s,h2⟩
theorem TF.toR {ks:List (List Int)}(h:TF H d ks):TR H d ks:=let ⟨o,kvs,h1,h2⟩:=h;⟨kvs,.inr ⟨o,h1⟩,h2⟩
theorem TD.toR {ks:List (List Int)}(h:TD H d ks):TR H d ks:=let ⟨kvs,h1,h2⟩:=h;⟨kvs,.inl h1,h2⟩
theorem ao6 {ks:List (List Int)}(h:kvs.map (·.1)=ks.map (Y0 Sum.inl))(k:List Int):(kvs.any fun kv=>decide (kv.1=k.map Sum.inl))=decide (k∈ks):=by
 have e:(kvs.any fun kv=>decide (kv.1=k.map Sum.inl))=(kvs.map (·.1)).any fun x=>decide (x=k.map Sum.inl):=by rw[bw7];rfl
 rw[e,h,bw7,O3,bT2,decide_eq_true_iff]
 constructor
 ·rintro⟨x,hx,e⟩
  have:=aK3 (of_decide_eq_true e)
  exact this ▸ hx
 ·intro hk
  exact⟨k,hk,decide_eq_true rfl⟩
theorem bt4 {ks:List (List Int)}(h:kvs.map (·.1)=ks.map (Y0 Sum.inl))(k:List Int)(v:V):(putK kvs (k.map Sum.inl) v).map (·.1)=(if k∈ks then ks else ks++[k]).map (Y0 Sum.inl):=by
 unfold putK
 rw[ao6 h k]
 by_cases hk:k∈ks
 ·rw[if_pos (decide_eq_true hk),if_pos hk,<- h,P2]
  apply V4
  intro kv _
  show (if kv.1=_ then (kv.1,v) else kv).1=kv.1
  split<;>rfl
 ·rw[if_neg (by rw[decide_eq_false hk];decide),if_neg hk,r6,r6,h]
  rfl
theorem KE.put {ks:List (List Int)}(h:KE kvs ks)(k:List Int):KE (putK kvs (k.map Sum.inl) (.bl true)) (if k∈ks then ks else ks++[k]):=by
 refine⟨bt4 h.1 k _,fun kv hkv=>?_⟩
 unfold putK at hkv
 split at hkv
 ·obtain⟨x,hx,rfl⟩:=o9.mp hkv
  split
  ·rfl
  ·exact h.2 x hx
 ·rcases n8.mp hkv with z | z
  ·exact h.2 kv z
  ·rw[d6.mp z]
section
variable {K:W.Frag} {mg:Str->Option Value} {base:Heap}
def bc3 (K:W.Frag):Sp:=fun vs H Q _=>∃ (a:Addr) (ns:List Int) (n:Nat),vs=[.ref a,.int n]/\SqL K H a (ns.map V.int)/\n<=24 /\
 ∀ (d:Addr) (ks:List (List Int)) (H':Hp),A0 H H'->H d=none->TD H' d ks->ks.length<=600->(∀ k∈ks,Up n k)->ks.Nodup->Q (.ref d) H'
theorem aw1:A1 ["script","places","ties","other","one"] ["script","places"] (p5 ay9):=.mk'
set_option maxHeartbeats 1000000 in
theorem bs3 {fM fH:Addr} {fdM fdH:FuncData} (F:Fun K "_law_ties" "_law_ties" ay9 f fd) (B:Bn mg) (FC:Fq K mg "_law_cell" ah2 fC fdC ["script","k"])
  (FM:Fq K mg "_law_mixed" az1 fM fdM ["cell","k"]) (FH:Fq K mg "_law_tie_there" az0 fH fdH ["script","k"]):A2 P w K mg base CX0 3 f fd ["script","places"] (bc3 K):=by
 have GH:A2 P w K mg base CX0 2 fH fdH ["script","k"] (bc5 K):=bs5 FH.F B FC FM
 refine F.ok aw1 (fun cdv A outer s H vs Q E hr h=>?_)
 obtain⟨a,ns,n,rfl,hS,hn,q⟩:=h
 have hsl:=R4
 refine⟨_,j5 (B3 (i:=2) aw1.nd rfl (Or.inl rfl) aQ3)
  (j5 (U0 PassesOwn.never rfl (W5 rfl B.range (a7 (pv 1) c7)) (B1 (i := 3) aw1.nd rfl (Or.inl rfl))
   (n5 (U0 PassesOwn.never rfl (W5 rfl B.range (a7 (pv 3) c7)) (B1 (i := 4) aw1.nd rfl (Or.inl rfl))
    (n5 (K7 (L7 (A7 GH hr (by rfl) FH A8 (a7 (pv 0) (a7 (C5 ae6 (C5 ae5 (C5 aJ4 (pv 3) (C5 ar3 (pv 3) k7)) k7) (pv 4)) c7))))
     (n5 (aw5 (ah9 hr) (pv 2) (G1 (a7 (pv 4) (a7 (pv 3) c7))) ah4 rfl)) C6)))))
  (n5 (B9 (pv 2)))),?_⟩
 refine fun d fd=>?_
 have s0:=i8 (o:=.dT []) fd
 refine⟨_,rfl,n,rfl,by omega,by omega,aj7 (lo:=0) (n:=n) (fun i σ H1=>∃ (ks:List (List Int)) (e3 e4:Option V),σ=[some (.ref a),some (.int n),some (.ref d),e3,e4]/\A0 H H1/\TD H1 d ks/\ks.length<=i*24/\(∀ k∈ks,Up n k)/\ks.Nodup)
  ⟨[],none,none,rfl,s0,⟨[],b9,rfl,fun _ h=>nomatch h⟩,by simp,(fun k hk=>absurd hk o7),C0⟩ ?_ ?_⟩
 ·rintro i σ H1 hi ⟨ks,e3,e4,rfl,s1,t1,l1,n1⟩
  rw[show ((0:Int)+(i:Int))=(i:Int) by omega]
  refine p6 ?_
  refine⟨_,rfl,(i:Int),rfl,by omega,by omega,?_⟩
  rw[P1]
  refine aj7 (lo:=0) (n:=i) (fun j σ H2=>∃ (ks:List (List Int)) (e4:Option V),σ=[some (.ref a),some (.int n),some (.ref d),some (.int i),e4]/\A0 H H2/\TD H2 d ks/\ks.length<=i*24+j/\(∀ k∈ks,Up n k)/\ks.Nodup)
   ⟨ks,e4,rfl,s1,t1,l1,n1⟩ ?_ ?_
  ·rintro j σ H2 hj ⟨ks,e4,rfl,s2,t2,l2,n2⟩
   rw[show ((0:Int)+(j:Int))=(j:Int) by omega]
   refine p6 ?_
   have hi0:0<=(i:Int)*((i:Int) - 1):=Int.mul_nonneg (by omega) (by omega)
   have hk0:0<=(i:Int)*((i:Int) - 1) / 2:=Int.ediv_nonneg hi0 (by decide)
   refine⟨_,rfl,_,rfl,_,rfl,_,_,rfl,rfl,_,_,rfl,rfl,.inl ⟨by omega,by omega⟩,_,_,rfl,rfl,⟨by decide,by decide⟩,_,rfl,_,_,rfl,rfl,a,ns,((i:Int)*((i:Int) - 1) / 2).toNat+j,?_,s2.seq hS,fun b=>⟨_,rfl,?_⟩⟩
   ·show [V.ref a,V.int _]=_
    congr 3
    omega
   refine aY6 (fun hb=>?_) (fun hb=>?_)
   ·refine⟨_,rfl,_,rfl,_,rfl,(by show 2<=i7;decide),fun x hx=>?_⟩
    have s3:=i8 (o:=.tup [.int (j:Int),.int (i:Int)]) hx
    obtain⟨kvs,g2,e2⟩:=t2
    have hkl:kvs.length=ks.length:=by have:=congrArg M7 e2.1;rw[b8,b8]at this;exact this
    have hil:i*24<=23*24:=bF7 24 (by omega)
    refine⟨d,_,rfl,aU2.t (k:=([(j:Int),(i:Int)]:List Int).map Sum.inl) (s3 _ _ g2) (by rw[Q0];exact b9) (by omega),?_⟩
    refine⟨if [(j:Int),(i:Int)]∈ks then ks else ks++[[(j:Int),(i:Int)]],_,rfl,(s2.trans s3).upd fd,⟨_,b9,e2.put _⟩,?_,fun k hk=>?_,?_⟩
    ·split
     ·omega
     ·rw[j9];show ks.length+1<=_;omega
    ·split at hk
     ·exact n2.1 k hk
     ·rcases n8.mp hk with hk | hk
      ·exact n2.1 k hk
      ·rw[d6.mp hk];exact⟨j,i,hj,hi,rfl⟩
    ·split
     ·exact n2.2
     ·rename_i hno
      refine Z4.mpr ⟨n2.2,m9.mpr ⟨o7,C0⟩,fun x hx y hy e=>hno ?_⟩
      rw[<- d6.mp hy,<- e];exact hx
   ·exact⟨ks,_,rfl,s2,t2,by omega,n2⟩
  ·rintro σ H2 ⟨ks,e4,rfl,s2,t2,l2,n2⟩
   exact⟨ks,_,_,rfl,s2,t2,by omega,n2⟩
 ·rintro σ H1 ⟨ks,e3,e4,rfl,s1,t1,l1,n1⟩
  have:n*24<=24*24:=bF7 24 hn
  exact⟨_,rfl,q d ks H1 s1 fd t1 (by omega) n1.1 n1.2⟩
def bn7 (K:W.Frag):Sp:=fun vs H Q _=>∃ (d:Addr) (n:Nat) (ks:List (List Int)),vs=[.int n,.ref d]/\TR H d ks/\ks.length<=600/\(∀ k∈ks,k≠[]) /\
 ∀ (p:Addr) (ks':List (List Int)) (H':Hp),A0 H H'->ks'.Perm ks->ks'.Pairwise (fun a b=>Tim.K9 b a=false)->D3 K H' p n ks'->Q (.ref p) H'
theorem bL7:A1 ["places","ties"] ["places","ties"] (p5 aO9):=.mk'
theorem bB8 (F:Fun K "_law_web" "_law_web" aO9 f fd)(B:Bn mg):A2 P w K mg base CX0 1 f fd ["places","ties"] (bn7 K):=by
 refine F.ok bL7 (fun cdv A outer s H vs Q E hr h=>?_)
 obtain⟨d,n,ks,rfl,⟨kvs,g,e,_⟩,hl,hne,q⟩:=h
 refine⟨_,n5 (B9 (G1 (a7 (pv 0) (a7 (F8 X4 (by rfl) B.tuple (by rfl) (a7 (v9 ai2 (by rfl) B.sorted (by rfl) (a7 (F8 (aL6 rfl) (by rfl) B.list (by rfl) (a7 (pv 1) c7)) c7)) c7)) c7)))),?_⟩
 refine⟨_,rfl,_,rfl,d,kvs,rfl,g,fun l ps fl hpl hps=>?_⟩
 have s1:=i8 (o:=.lst (ps.map V.ref)) fl
 have hkl:kvs.length=ks.length:=by have:=congrArg M7 e;rw[b8,b8]at this;exact this
 have ht:D1 K (upd H l (.lst (ps.map V.ref))) (ps.map V.ref) ks:=by
  refine ar1 (by rw[b8];omega) fun i x k hx hk=>?_
  rw[j6]at hx
  cases hp:ps[i]? with
  | none=>rw[hp]at hx;cases hx
  | some p =>
   rw[hp]at hx
   cases hx
   have hi:i<kvs.length:=by
    rw[hkl]
    exact(a9.mp hk).1
   have hkv:=m6 hi
   have hg:=hps i p _ hp hkv
   have e1:(kvs.map (·.1))[i]?=some kvs[i].1:=by rw[j6,hkv];rfl
   rw[e,j6,hk]at e1
   injection e1 with e1
   rw[<- e1,Q0]at hg
   exact⟨p,rfl,SqT.of (s1 _ _ hg)⟩
 refine⟨l,_,ks,rfl,SqL.of b9,ht,hne,fun l2 zs ks' f2 pm so t2=>?_⟩
 have s2:=i8 (o:=.lst zs) f2
 refine⟨l2,zs,rfl,.inl ⟨SqL.of b9,fun l3 f3=>?_⟩⟩
 have s3:=i8 (o:=.tup zs) f3
 refine⟨(by show 2<=i7;decide),fun p fp=>?_⟩
 have s4:=i8 (o:=.tup [.int n,.ref l3]) fp
 exact q p ks' _ (s1.trans (s2.trans (s3.trans s4))) pm so ⟨l3,zs,SqT.of b9,SqT.of (s4 _ _ b9),(s3.trans s4).tups t2⟩
def bc4:Sp:=fun vs H Q _=>∃ (d:Addr) (ks:List (List Int)) (a b:Int),vs=[.ref d,.int a,.int b]/\TR H d ks/\∀ H',A0 H H'->Q (.bl (decide (up [a,b]∈ks))) H'
theorem bz6:A1 ["ties","one","other"] ["ties","one","other"] (p5 am1):=.mk'
theorem bs4 (F:Fun K "_law_tied" "_law_tied" am1 f fd)(B:Bn mg):A2 P w K mg base CX0 1 f fd ["ties","one","other"] bc4:=by
 refine F.ok bz6 (fun cdv A outer s H vs Q E hr h=>?_)
 obtain⟨d,ks,a,b,rfl,⟨kvs,g,e,_⟩,q⟩:=h
 refine⟨_,n5 (B9 (bN1 (bs1 (ah9 hr) (G1 (a7 (v9 (Z7 rfl) (by rfl) B.min (by rfl) (a7 (pv 1) (a7 (pv 2) c7))) (a7 (v9 (ad6 rfl) (by rfl) B.max (by rfl) (a7 (pv 1) (a7 (pv 2) c7))) c7))) (pv 0)))),?_⟩
 refine⟨_,rfl,_,rfl,_,_,rfl,_,rfl,_,rfl,_,_,rfl,(by show 2<=i7;decide),fun x hx=>?_⟩
 have s1:=i8 (o:=.tup [.int (if b<a then b else a),.int (if b > a then b else a)]) hx
 refine⟨_,rfl,d,_,rfl,(.inr ⟨kvs,(up [a,b]).map Sum.inl,x,bd5 g s1,rfl,by rw[Q0];exact b9,rfl⟩),?_⟩
 rw[<- ag6,ao6 e]
 exact q _ s1
end
def OkP (n:Nat)(r:List Int):Prop:=∀ x∈r,0<=x/\x<(n:Int)/\r.count x<=1
instance (n:Nat) (r:List Int):Decidable (OkP n r):=by unfold OkP;infer_instance
def Fits (n:Nat)(ks:List (List Int))(a b c d:Int):Prop:=OkP n [a,b,c,d]/\up [a,b]∈ks/\up [c,d]∈ks/\¬ up [a,d]∈ks/\¬ up [c,b]∈ks
instance (n:Nat) (ks:List (List Int)) (a b c d:Int):Decidable (Fits n ks a b c d):=by unfold Fits;infer_instance
theorem bk5 {ks ks':List (List Int)}(p:ks'.Perm ks)(a b c d:Int):Fits n ks' a b c d↔Fits n ks a b c d:=by unfold Fits;rw[p.mem_iff,p.mem_iff,p.mem_iff,p.mem_iff]
theorem aB1:∀ (l σ:List Int),(l.foldl PyProof.Rows.step_dedup σ).length=σ.length+l.length↔l.Nodup/\∀ x∈l,x∉σ
 | [],σ=>by simp
 | k::l,σ=>by
  rw[X7,o6,m9]
  by_cases h:k∈σ
  ·have e:PyProof.Rows.step_dedup σ k=σ:=by unfold PyProof.Rows.step_dedup;rw[if_pos (by simpa using h)]
   rw[e]
   have:=PyProof.Rows.foldl_step_dedup_length_le σ l
   constructor
   ·intro q;omega
   ·rintro⟨_,q⟩
    exact absurd h (q k c6)
  ·have e:PyProof.Rows.step_dedup σ k=σ++[k]:=by unfold PyProof.Rows.step_dedup;rw[if_neg (by simpa using h)]
   rw[e]
   have:=aB1 l (σ++[k])
   rw[j9,aa3]at this
   constructor
   ·intro q
    obtain⟨q1,q2⟩:=this.mp (by omega)
    refine⟨⟨fun hk=>q2 k hk (by simp),q1⟩,fun x hx=>?_⟩
    rcases c8.mp hx with rfl | hx
    ·exact h
    ·exact fun z=>q2 x hx (A9 _ z)
   ·rintro⟨⟨q1,q2⟩,q3⟩
    have:=this.mpr ⟨q2,fun x hx z=>by
     rcases n8.mp z with z | z
     ·exact q3 x (d3 _ hx) z
     ·rw[d6.mp z]at hx;exact q1 hx⟩
    omega
theorem bm9 (a b c d:Int):(unl [a,b,c,d]:Int)<4↔¬ ([a,b,c,d]:List Int).Nodup:=by
 have h1:=aB1 [a,b,c,d] []
 have h2:unl [a,b,c,d]<=4:=PyProof.Rows.foldl_step_dedup_nil_length_le [a,b,c,d]
 unfold unl at *
 simp only[ap9,o6,o7,not_false_eq_true,implies_true,and_true,K5]at h1
 rw[<- h1]
 omega
theorem X1 (n:Nat)(r:List Int):OkP n r↔(∀ x∈r,0<=x/\x<(n:Int))/\r.Nodup:=by
 constructor
 ·intro h
  refine⟨fun x hx=>⟨(h x hx).1,(h x hx).2.1⟩,bx5.mpr fun x=>?_⟩
  by_cases hx:x∈r
  ·exact(h x hx).2.2
  ·rw[List.count_eq_zero.mpr hx];exact n9 _
 ·rintro⟨h1,h2⟩ x hx
  exact⟨(h1 x hx).1,(h1 x hx).2,bx5.mp h2 x⟩
section
variable {K:W.Frag} {mg:Str->Option Value} {base:Heap}
def aW3 (K:W.Frag):Sp:=fun vs H Q _=>∃ (da qa:Addr) (n:Nat) (ks:List (List Int)) (a b c d:Int),vs=[.int n,.ref da,.ref qa]/\TR H da ks/\Fz H qa (([a,b,c,d]:List Int).map V.int)/\∀ H',A0 H H'->Q (.bl (decide (Fits n ks a b c d))) H'
theorem aq7:A1 ["places","ties","four","place","a","b","c","d"] ["places","ties","four"] (p5 aD8):=.mk'
set_option maxHeartbeats 1000000 in
theorem be4 {fT:Addr}(F:Fun K "_law_fits" "_law_fits" aD8 f fd)(B:Bn mg)(FT:Fq K mg "_law_tied" am1 fT fdT ["ties","one","other"]):A2 P w K mg base CX0 2 f fd ["places","ties","four"] (aW3 K):=by
 have GT:A2 P w K mg base CX0 1 fT fdT ["ties","one","other"] bc4:=bs4 FT.F B
 refine F.ok aq7 (fun cdv A outer s H vs Q E hr h=>?_)
 obtain⟨da,qa,n,ks,a,b,c,d,rfl,hD,hZ,q⟩:=h
 have hq:SqT K H qa (([a,b,c,d]:List Int).map V.int):=hZ.sqT
 refine⟨_,j5 (U0 PassesOwn.never rfl (am2 (pv 2)) (B1 (i:=3) aq7.nd rfl (Or.inl rfl))
   (n5 (K7 (PW.pt (ad1 (E2 ao2 (pv 3) k7 (J5 _)) (ad1 (E2 bX4 (pv 3) (pv 0) (J5 _)) (aa1 (E2 bH7 (bN2 PySem.F.slot_tuple_count PySem.F.type_tuple_count bj2 (pv 2) (a7 (pv 3) c7)) k7 (J5 _)))))) (n5 (B9 ah4)) C6)))
  (j5 (br1 (pv 2) (ar0 rfl (J1 (B1 (i:=4) aq7.nd rfl (Or.inl rfl)) (J1 (B1 (i:=5) aq7.nd rfl (Or.inl rfl)) (J1 (B1 (i:=6) aq7.nd rfl (Or.inl rfl)) (J1 (B1 (i:=7) aq7.nd rfl (Or.inl rfl)) aj3))))))
  (j5 (K7 (PW.pt (ad1 (M4 (L7 (A7 GT hr (by rfl) FT A8 (a7 (pv 1) (a7 (pv 4) (a7 (pv 5) c7)))))) (aa1 (M4 (L7 (A7 GT hr (by rfl) FT A8 (a7 (pv 1) (a7 (pv 6) (a7 (pv 7) c7))))))))) (n5 (B9 ah4)) C6)
  (n5 (B9 (az8 (az6 (A7 GT hr (by rfl) FT A8 (a7 (pv 1) (a7 (pv 4) (a7 (pv 7) c7))))) (aJ1 (az6 (A7 GT hr (by rfl) FT A8 (a7 (pv 1) (a7 (pv 6) (a7 (pv 5) c7))))))))))),?_⟩
 have no:¬ Fits n ks a b c d->∀ H',A0 H H'->Q (.bl false) H':=fun hn H' s'=>by
  have:=q H' s'
  rw[decide_eq_false hn]at this
  exact this
 refine⟨_,rfl,qa,rfl,⟨_,hq⟩,aw9 (K:=K) (a:=qa) (xs:=([a,b,c,d]:List Int).map V.int) (fun i σ H1=>∃ e3,σ=[some (.int n),some (.ref da),some (.ref qa),e3,none,none,none,none]/\H1=H/\∀ j x,j<i->([a,b,c,d]:List Int)[j]?=some x->0<=x/\x<(n:Int)/\([a,b,c,d]:List Int).count x<=1)
  ⟨none,rfl,rfl,fun j x hj=>absurd hj (aq2 _)⟩ (fun i σ H1 _ ⟨_,_,e,_⟩=>by rw[e];exact hq) ?_ ?_⟩
 ·rintro i y σ H1 hy ⟨e3,rfl,rfl,hok⟩
  obtain⟨z,hz,rfl⟩:∃ z,([a,b,c,d]:List Int)[i]?=some z/\y=V.int z:=by
   rw[j6]at hy
   cases e:([a,b,c,d]:List Int)[i]? with
   | none=>rw[e]at hy;cases hy
   | some z=>rw[e]at hy;cases hy;exact⟨z,rfl,rfl⟩
  have hmem:=d9 hz
  refine p6 ?_
  refine⟨_,rfl,_,_,rfl,rfl,_,rfl,?_⟩
  by_cases c1:z<0
  ·rw[decide_eq_true c1]
   exact R5 (no (fun h=>by have:=(h.1 z hmem).1;omega) _ (A0.refl _))
  ·rw[decide_eq_false c1]
   refine G5 ⟨_,rfl,_,rfl,_,_,rfl,rfl,_,rfl,?_⟩
   by_cases c2:(n:Int)<=z
   ·rw[decide_eq_true c2]
    exact R5 (no (fun h=>by have:=(h.1 z hmem).2.1;omega) _ (A0.refl _))
   ·rw[decide_eq_false c2]
    refine G5 ⟨_,rfl,⟨qa,_,rfl,hZ⟩,_,rfl,qa,[a,b,c,d],z,rfl,rfl,hq,_,_,rfl,rfl,_,rfl,?_⟩
    by_cases c3:(1:Int)<((([a,b,c,d]:List Int).count z:Nat):Int)
    ·rw[decide_eq_true c3]
     exact R5 (no (fun h=>by have:=(h.1 z hmem).2.2;omega) _ (A0.refl _))
    ·rw[decide_eq_false c3]
     refine G5 ⟨_,rfl,rfl,fun j x hj hx=>?_⟩
     rcases Nat.lt_succ_iff_lt_or_eq.mp hj with hj | rfl
     ·exact hok j x hj hx
     ·rw[hz]at hx
      cases hx
      exact⟨by omega,by omega,by omega⟩
 ·rintro σ H1 ⟨e3,rfl,rfl,hok⟩
  have hP:OkP n [a,b,c,d]:=fun x hx=>by
   obtain⟨j,hj⟩:=l5.mp hx
   exact hok j x (by have:=(a9.mp hj).1;simpa using this) hj
  refine⟨_,rfl,qa,_,rfl,hq,rfl,_,_,rfl,_,_,rfl,_,_,rfl,_,_,rfl,rfl,?_⟩
  refine⟨_,rfl,_,rfl,_,rfl,da,ks,a,b,rfl,hD,fun H2 s2=>⟨_,rfl,?_⟩⟩
  by_cases c1:up [a,b]∈ks
  ·rw[decide_eq_true c1]
   refine G5 ⟨_,rfl,_,rfl,_,rfl,da,ks,c,d,rfl,hD.same s2,fun H3 s3=>⟨_,rfl,?_⟩⟩
   have s23:=s2.trans s3
   by_cases c2:up [c,d]∈ks
   ·rw[decide_eq_true c2]
    refine G5 ⟨_,rfl,_,rfl,_,rfl,da,ks,a,d,rfl,hD.same s23,fun H4 s4=>⟨_,rfl,_,rfl,?_⟩⟩
    have s24:=s23.trans s4
    by_cases c3:up [a,d]∈ks
    ·rw[decide_eq_true c3]
     exact G5 (no (fun h=>h.2.2.2.1 c3) _ s24)
    ·rw[decide_eq_false c3]
     refine R5 ⟨_,rfl,_,rfl,_,rfl,da,ks,c,b,rfl,hD.same s24,fun H5 s5=>⟨_,rfl,?_⟩⟩
     have:=q H5 (s24.trans s5)
     have e:decide (Fits n ks a b c d)=!decide (up [c,b]∈ks):=by
      by_cases c4:up [c,b]∈ks
      ·rw[decide_eq_true c4,decide_eq_false fun h:Fits n ks a b c d=>h.2.2.2.2 c4];rfl
      ·rw[decide_eq_false c4,decide_eq_true (show Fits n ks a b c d from ⟨hP,c1,c2,c3,c4⟩)];rfl
     rw[e]at this
     exact this
   ·rw[decide_eq_false c2]
    exact R5 (no (fun h=>c2 h.2.2.1) _ s23)
  ·rw[decide_eq_false c1]
   exact R5 (no (fun h=>c1 h.2.1) _ s2)
end
theorem aG6 {x y z u:V}:atI ([x,y,z,u]:List V) 0=some x:=B5 (j:=0) rfl
theorem aG5 {x y z u:V}:atI ([x,y,z,u]:List V) 1=some y:=B5 (j:=1) rfl
theorem aG4 {x y z u:V}:atI ([x,y,z,u]:List V) 2=some z:=B5 (j:=2) rfl
theorem aG3 {x y z u:V}:atI ([x,y,z,u]:List V) 3=some u:=B5 (j:=3) rfl
section
variable {K:W.Frag} {mg:Str->Option Value} {base:Heap}
def bc7 (K:W.Frag):Sp:=fun vs H Q _=>∃ (p qa:Addr) (n:Nat) (ks:List (List Int)) (a b c d:Int),vs=[.ref p,.ref qa]/\D3 K H p n ks/\SqT K H qa (([a,b,c,d]:List Int).map V.int)/\∀ H',A0 H H'->Q (.bl (decide (Fits n ks a b c d))) H'
theorem bW2:A1 ["web","four"] ["web","four"] (p5 bi2):=.mk'
set_option maxHeartbeats 2000000 in
theorem bO9 {fI fT:Addr} (F:Fun K "can_exchange" "can_exchange" bi2 f fd) (B:Bn mg) (FI:Fq K mg "is_place" aI7 fI fdI ["places","number"])
  (FC:Fq K mg "check_place" bi1 fC fdC ["places","number"]) (FT:Fq K mg "tied" aP0 fT fdT ["web","one","other"]):A2 P w K mg base CX0 4 f fd ["web","four"] (bc7 K):=by
 have GI:A2 P w K mg base CX0 3 fI fdI ["places","number"] bc6:=(aX9 FI.F).mono (by decide)
 have GT:A2 P w K mg base CX0 3 fT fdT ["web","one","other"] (bn8 K):=bB9 FT.F B FI FC
 refine F.ok bW2 (fun cdv A outer s H vs Q E hr h=>?_)
 obtain⟨p,qa,n,ks,a,b,c,d,rfl,hW,hq,q⟩:=h
 have hsl:=R4
 have nd2:(["number","web"]:List Str).Nodup:=by decide +kernel
 refine⟨_,j5 (K7 (PW.pt (ad1 (M4 (L7 (v9 (bl5 rfl) (by rfl) B.all boot_all (a7
    (aj4 (N' := ["number", "web"]) (lk := [none, some 0]) rfl (am2 (pv 1)) (by rfl) rfl (by decide +kernel) (by exact ⟨rfl, trivial⟩) (by rfl) (by exact LkL.ok ⟨⟨rfl, Or.inl rfl, rfl, Or.inl rfl⟩, trivial⟩)
     (fun _ _ _=>B1 (i:=0) nd2 rfl (Or.inl rfl)) (fun _ _ _=>aj2) (fun _ _ _=>A7 GI hr (by rfl) FI A8 (a7 (bB0 K rfl (pv 1) k7 (fun _ _=>rfl)) (a7 (pv 0) c7)))) c7))))
    (aa1 (E2 ao2 (v9 aD0 (by rfl) B.len PySem.boot_len (a7 (F8 (bl4 rfl) (by rfl) B.set (by rfl) (a7 (pv 1) c7)) c7)) k7 (J5 _))))) (n5 (B9 ah4)) C6)
  (j5 (K7 (PW.pt (ad1 (M4 (L7 (A7 GT hr (by rfl) FT A8 (a7 (pv 0) (a7 (A6 y7 (pv 1) k7 (fun _ _=>rfl)) (a7 (A6 y7 (pv 1) k7 (fun _ _=>rfl)) c7)))))) (aa1 (M4 (L7 (A7 GT hr (by rfl) FT A8 (a7 (pv 0) (a7 (A6 y7 (pv 1) k7 (fun _ _=>rfl)) (a7 (A6 y7 (pv 1) k7 (fun _ _=>rfl)) c7))))))))) (n5 (B9 ah4)) C6)
  (n5 (B9 (az8 (az6 (A7 GT hr (by rfl) FT A8 (a7 (pv 0) (a7 (A6 y7 (pv 1) k7 (fun _ _=>rfl)) (a7 (A6 y7 (pv 1) k7 (fun _ _=>rfl)) c7))))) (aJ1 (az6 (A7 GT hr (by rfl) FT A8 (a7 (pv 0) (a7 (A6 y7 (pv 1) k7 (fun _ _=>rfl)) (a7 (A6 y7 (pv 1) k7 (fun _ _=>rfl)) c7)))))))))),?_⟩
 have no:¬ Fits n ks a b c d->∀ H',A0 H H'->Q (.bl false) H':=fun hn H' s'=>by
  have:=q H' s'
  rw[decide_eq_false hn]at this
  exact this
 obtain⟨t,zs,h1,h2,h3⟩:=id hW
 have a0:atI ([.int n,.ref t]:List V) 0=some (.int n):=B5 (j:=0) rfl
 refine⟨_,rfl,qa,rfl,⟨_,hq⟩,fun D hD=>aB2 (K:=K) (a:=qa) (D:=D) (ys:=([a,b,c,d]:List Int).map V.int) (fun i xs σ' H'=>(∃ v,σ'=[v,some (.ref p)])/\A0 H H'/\H' D=some (.lst xs)/\xs=((([a,b,c,d]:List Int).take i).map fun x=>decide ((0:Int)<=x) && decide (x<(n:Int))).map V.bl)
  ⟨⟨none,rfl⟩,i8 hD,b9,by rw[ba6];rfl⟩ (by show 4<=i7;decide) (fun i xs σ' H' hi' ⟨_,s2,g2,e2⟩=>⟨s2.seqT hq,g2,by rw[e2,b8,b8,A4];omega⟩) ?_ ?_⟩
 ·rintro i xs y σ' H' N kN hy ⟨⟨v,rfl⟩,s2,g2,rfl⟩
  obtain⟨z,hz,rfl⟩:∃ z,([a,b,c,d]:List Int)[i]?=some z/\y=V.int z:=by
   rw[j6]at hy
   cases e:([a,b,c,d]:List Int)[i]? with
   | none=>rw[e]at hy;cases hy
   | some z=>rw[e]at hy;cases hy;exact⟨z,rfl,rfl⟩
  refine p6 (ad0 ?_)
  refine⟨_,rfl,p,_,_,_,rfl,rfl,s2.seqT h1,a0,_,rfl,_,_,rfl,g2,kN _ _ _ ⟨⟨_,rfl⟩,s2.upd hD,b9,?_⟩⟩
  rw[B8,hz,r6,r6]
  rfl
 ·rintro xs σ' H1 ⟨⟨v,rfl⟩,s1,g1,rfl⟩
  have ht4:(([a,b,c,d]:List Int).take (([a,b,c,d]:List Int).map V.int).length)=[a,b,c,d]:=rfl
  rw[ht4]at g1
  refine⟨D,_,rfl,g1,_,rfl,?_⟩
  by_cases hall:∀ x∈([a,b,c,d]:List Int),0<=x/\x<(n:Int)
  ·have e:((([a,b,c,d]:List Int).map fun x=>decide ((0:Int)<=x) && decide (x<(n:Int))).all id)=true:=by
    rw[D0]
    intro y hy
    obtain⟨x,hx,rfl⟩:=o9.mp hy
    have:=hall x hx
    rw[decide_eq_true this.1,decide_eq_true this.2];rfl
   rw[e]
   refine G5 ⟨_,rfl,qa,[a,b,c,d],rfl,s1.seqT hq,by show 4<1000;decide,fun S fS=>⟨S,_,rfl,b9,_,_,rfl,rfl,_,rfl,?_⟩⟩
   have s2:=s1.trans (i8 (o:=bF1 P w S (unl [a,b,c,d])) fS)
   by_cases hnd:([a,b,c,d]:List Int).Nodup
   ·rw[decide_eq_false fun z=>(bm9 a b c d).mp z hnd]
    have hP:OkP n [a,b,c,d]:=(X1 n _).mpr ⟨hall,hnd⟩
    have pa:=hall a (by simp)
    have pb:=hall b (by simp)
    have pc:=hall c (by simp)
    have pd:=hall d (by simp)
    refine G5 ?_
    have hq2:=s2.seqT hq
    refine⟨_,rfl,_,rfl,qa,_,_,_,rfl,rfl,hq2,aG6,_,rfl,qa,_,_,_,rfl,rfl,hq2,aG5,p,n,a,b,ks,rfl,hW.same s2,pa,pb,fun H3 s3=>⟨_,rfl,?_⟩⟩
    have s23:=s2.trans s3
    have hq3:=s23.seqT hq
    by_cases c1:up [a,b]∈ks
    ·rw[decide_eq_true c1]
     refine G5 ⟨_,rfl,_,rfl,qa,_,_,_,rfl,rfl,hq3,aG4,_,rfl,qa,_,_,_,rfl,rfl,hq3,aG3,p,n,c,d,ks,rfl,hW.same s23,pc,pd,fun H4 s4=>⟨_,rfl,?_⟩⟩
     have s24:=s23.trans s4
     have hq4:=s24.seqT hq
     by_cases c2:up [c,d]∈ks
     ·rw[decide_eq_true c2]
      refine G5 ⟨_,rfl,_,rfl,qa,_,_,_,rfl,rfl,hq4,aG6,_,rfl,qa,_,_,_,rfl,rfl,hq4,aG3,p,n,a,d,ks,rfl,hW.same s24,pa,pd,fun H5 s5=>⟨_,rfl,_,rfl,?_⟩⟩
      have s25:=s24.trans s5
      have hq5:=s25.seqT hq
      by_cases c3:up [a,d]∈ks
      ·rw[decide_eq_true c3]
       exact G5 (no (fun h=>h.2.2.2.1 c3) _ s25)
      ·rw[decide_eq_false c3]
       refine R5 ⟨_,rfl,_,rfl,qa,_,_,_,rfl,rfl,hq5,aG4,_,rfl,qa,_,_,_,rfl,rfl,hq5,aG5,p,n,c,b,ks,rfl,hW.same s25,pc,pb,fun H6 s6=>⟨_,rfl,?_⟩⟩
       have:=q H6 (s25.trans s6)
       have e:decide (Fits n ks a b c d)=!decide (up [c,b]∈ks):=by
        by_cases c4:up [c,b]∈ks
        ·rw[decide_eq_true c4,decide_eq_false fun h:Fits n ks a b c d=>h.2.2.2.2 c4];rfl
        ·rw[decide_eq_false c4,decide_eq_true (show Fits n ks a b c d from ⟨hP,c1,c2,c3,c4⟩)];rfl
       rw[e]at this
       exact this
     ·rw[decide_eq_false c2]
      exact R5 (no (fun h=>c2 h.2.2.1) _ s24)
    ·rw[decide_eq_false c1]
     exact R5 (no (fun h=>c1 h.2.1) _ s23)
   ·rw[decide_eq_true ((bm9 a b c d).mpr hnd)]
    exact R5 (no (fun h=>hnd ((X1 n _).mp h.1).2) _ s2)
  ·have e:((([a,b,c,d]:List Int).map fun x=>decide ((0:Int)<=x) && decide (x<(n:Int))).all id)=false:=by
    rw[bS3]
    intro z
    rw[D0]at z
    refine hall fun x hx=>?_
    have:=z _ (o9.mpr ⟨x,hx,rfl⟩)
    simp only[id,v7,decide_eq_true_iff]at this
    exact this
   rw[e]
   exact R5 (no (fun h=>hall ((X1 n _).mp h.1).1) _ s1)
end
section
variable {K:W.Frag} {mg:Str->Option Value} {base:Heap}
def bV5 (K:W.Frag):Sp:=fun vs H Q _=>∃ (n:Nat) (a:Addr) (k:List Int),vs=[.int n,.ref a]/\SqT K H a (k.map V.int)/\ak9 n k /\
 ∀ p,H p=none->Q (.ref p) (upd H p (.tup ((up k).map V.int)))
theorem cb0:A1 ["places","tie"] ["places","tie"] (p5 sUp):=.mk'
theorem bX5 {fI:Addr} (F:Fun K "turned_up" "turned_up" sUp f fd) (B:Bn mg) (FI:Fq K mg "is_place" aI7 fI fdI ["places","number"]) :
  A2 P w K mg base CX0 2 f fd ["places","tie"] (bV5 K):=by
 have GI:A2 P w K mg base CX0 1 fI fdI ["places","number"] bc6:=aX9 FI.F
 refine F.ok cb0 (fun cdv A outer s H vs Q E hr h=>?_)
 obtain⟨n,a,k,rfl,hS,⟨i,j,h1,h2,h3,rfl⟩,q⟩:=h
 refine⟨_,j5 (K7 (PW.pt (ad1 (M4 (L7 (aJ2 GI hr rfl FI.m FI.F.kp FI.b .nil A8 (a7 (pv 0) (a7 (A6 y7 (pv 1) k7 (fun _ _=>rfl)) c7)))))
    (aa1 (M4 (L7 (aJ2 GI hr rfl FI.m FI.F.kp FI.b .nil A8 (a7 (pv 0) (a7 (A6 y7 (pv 1) k7 (fun _ _=>rfl)) c7)))))))) G8 C6)
  (j5 (K7 (E2 be2 (A6 y7 (pv 1) k7 (fun _ _=>rfl)) (A6 y7 (pv 1) k7 (fun _ _=>rfl)) (J5 _)) G8 C6)
  (n5 (B9 (G1 (a7 (v9 (Z7 rfl) (by rfl) B.min (by rfl) (a7 (A6 y7 (pv 1) k7 (fun _ _ => rfl)) (a7 (A6 y7 (pv 1) k7 (fun _ _ => rfl)) c7)))
   (a7 (v9 (ad6 rfl) (by rfl) B.max (by rfl) (a7 (A6 y7 (pv 1) k7 (fun _ _=>rfl)) (a7 (A6 y7 (pv 1) k7 (fun _ _=>rfl)) c7))) c7)))))),?_⟩
 have a0:atI (([(i:Int),(j:Int)]:List Int).map V.int) 0=some (.int i):=B5 (j:=0) rfl
 have a1:atI (([(i:Int),(j:Int)]:List Int).map V.int) 1=some (.int j):=B5 (j:=1) rfl
 refine⟨_,rfl,_,rfl,a,_,_,_,rfl,rfl,hS,a0,_,_,rfl,?_⟩
 rw[decide_eq_true (show (0:Int)<=i by omega),decide_eq_true (show (i:Int)<n by omega)]
 refine⟨_,rfl,G5 ?_⟩
 refine⟨_,rfl,_,rfl,a,_,_,_,rfl,rfl,hS,a1,_,_,rfl,?_⟩
 rw[decide_eq_true (show (0:Int)<=j by omega),decide_eq_true (show (j:Int)<n by omega)]
 refine⟨_,rfl,G5 ?_⟩
 refine⟨_,rfl,a,_,_,_,rfl,rfl,hS,a0,_,rfl,a,_,_,_,rfl,rfl,hS,a1,rfl,_,rfl,?_⟩
 rw[decide_eq_false (show ¬ V.int (i:Int)=V.int (j:Int) by intro z;injection z;omega)]
 refine G5 ?_
 refine⟨_,rfl,a,_,_,_,rfl,rfl,hS,a0,_,rfl,a,_,_,_,rfl,rfl,hS,a1,_,_,rfl,?_⟩
 refine⟨_,rfl,a,_,_,_,rfl,rfl,hS,a0,_,rfl,a,_,_,_,rfl,rfl,hS,a1,_,_,rfl,(by show 2<=i7;decide),fun p hp=>?_⟩
 exact q p hp
def aW2 (K:W.Frag):Sp:=fun vs H Q _=>∃ (n:Nat) (a:Addr) (ys:List V) (hs:List (List Int)),vs=[.int n,.ref a]/\1<=n/\n<=24/\(SqL K H a ys\/SqT K H a ys)/\D1 K H ys hs/\(∀ k∈hs,ak9 n k)/\(hs.map up).Nodup/\hs.length<300 /\
 ∀ p t zs ks H',A0 H H'->H p=none->H t=none->H' p=some (.tup [.int n,.ref t])->H' t=some (.tup zs)->D1 K H' zs ks->ks.Perm (hs.map up)->ks.Pairwise (fun a b=>Tim.K9 b a=false)->Q (.ref p) H'
theorem aX1:A1 ["places","ties","ascending"] ["places","ties"] (p5 aP5):=.mk'
theorem bC4 {fI fU:Addr} {fdU:FuncData} {tk:Tok} (F:Fun K "made" "made" aP5 f fd) (B:Bn mg) (FI:Fq K mg "is_place" aI7 fI fdI ["places","number"])
  (FU:Fq K mg "turned_up" sUp fU fdU ["places","tie"]) (mM:mg "MOST_PLACES"=some (.int 24 tk)) :
  A2 P w K mg base CX0 3 f fd ["places","ties"] (aW2 K):=by
 have GU:A2 P w K mg base CX0 2 fU fdU ["places","tie"] (bV5 K):=bX5 FU.F B FI
 refine F.ok aX1 (fun cdv A outer s H vs Q E hr h=>?_)
 obtain⟨n,a,ys,hs,rfl,n1,n2,hS,hT,hE,hN,hL,q⟩:=h
 have hu8:=ag4 (G9 (by decide:8<=64) _) hr.units
 have hyl:=hT.len
 have nd2:(["tie","places"]:List Str).Nodup:=by decide +kernel
 have step:∀ (D:Addr),H D=none->∀ (i:Nat) (xs:List V) (H':Hp) (x:V) (N:List V->Hp->Prop),A0 H H'->H' D=some (.lst xs)->D1 K H' xs ((hs.take i).map up)->ys[i]?=some x ->
   (∀ xs' H'',A0 H H''->H'' D=some (.lst xs')->D1 K H'' xs' ((hs.take (i+1)).map up)->N xs' H'') ->
   ∃ (m:Nat) (b:Addr) (k:List Int),[V.int n,x]=[.int m,.ref b]/\SqT K H' b (k.map V.int)/\ak9 m k/\∀ p,H' p=none->(upd H' p (.tup ((up k).map V.int))) D=some (.lst xs)/\N (xs++[.ref p]) (upd (upd H' p (.tup ((up k).map V.int))) D (.lst (xs++[.ref p]))):=by
  intro D hD i xs H' x N s1 hd ht hx k
  obtain⟨b,kk,rfl,hk,hq⟩:=hT.get hx
  refine⟨n,b,kk,rfl,s1.seqT hq,hE kk (d9 hk),fun p hp=>?_⟩
  have npd:D≠p:=u6 hd hp
  have hd':(upd H' p (.tup ((up kk).map V.int))) D=some (.lst xs):=by rw[n4 npd];exact hd
  refine⟨hd',k _ _ ((s1.trans (i8 hp)).upd hD) b9 ?_⟩
  have e:(hs.take (i+1)).map up=(hs.take i).map up++[up kk]:=by
   rw[B8,hk,r6]
   rfl
  rw[e]
  refine D1.updL hd' (D1.append (A0.tups (i8 hp) ht) (D1.one (SqT.of b9)))
 rcases hS with hS | hS
 ·refine⟨_,j5 (K7 (M4 (az3 aA0 aA0 k7 (pv 0) (Z0 (v:=.int 24) rfl mM ⟨_,rfl⟩))) G8 C6)
   (j5 (B3 (i := 2) aX1.nd rfl (Or.inl rfl) (v9 ai2 (by rfl) B.sorted (by rfl) (a7
    (aj4 (N' := ["tie", "places"]) (lk := [none, some 0]) rfl (ab4 (pv 1)) (by rfl) rfl (by decide +kernel) (by exact ⟨rfl, trivial⟩) (by rfl) (by exact LkL.ok ⟨⟨rfl, Or.inl rfl, rfl, Or.inl rfl⟩, trivial⟩)
     (fun _ _ _=>B1 (i:=0) nd2 rfl (Or.inl rfl)) (fun _ _ _=>aj2) (fun _ _ _=>A7 GU hr (by rfl) FU A8 (a7 (pv 1) (a7 (pv 0) c7)))) c7)))
   (j5 (K7 (E2 ao2 (v9 call_len_set (by rfl) B.len PySem.boot_len (a7 (F8 (aT9 rfl hu8) (by rfl) B.set (by rfl) (a7 (pv 2) c7)) c7)) (v9 L3 (by rfl) B.len PySem.boot_len (a7 (pv 2) c7)) (J5 _)) G8 C6)
   (n5 (B9 (G1 (a7 (pv 0) (a7 (F8 X4 (by rfl) B.tuple (by rfl) (a7 (pv 2) c7)) c7))))))),?_⟩
  refine⟨_,rfl,_,_,rfl,rfl,_,rfl,?_⟩
  rw[decide_eq_true (show (1:Int)<=n by omega)]
  refine R5 ⟨_,_,rfl,rfl,_,rfl,?_⟩
  rw[decide_eq_true (show (n:Int)<=24 by omega)]
  refine G5 ?_
  refine⟨_,rfl,a,rfl,⟨_,hS⟩,fun D hD=>aF5 (K:=K) (a:=a) (D:=D) (ys:=ys) (fun i xs σ' H'=>∃ v,σ'=[v,some (.int n)]/\A0 H H'/\H' D=some (.lst xs)/\D1 K H' xs ((hs.take i).map up)) ⟨none,rfl,i8 hD,b9,.nil⟩ (by have:=R4;omega)
   (fun i xs σ' H' hi ⟨_,_,s1,h1,h2⟩=>⟨s1.seq hS,h1,by have:=h2.len;simp at this;omega⟩) ?_ ?_⟩
  ·rintro i xs x σ' H' N kN hx ⟨v,rfl,s1,h1,h2⟩
   refine p6 ?_
   refine ad0 ?_
   refine⟨_,rfl,_,rfl,?_⟩
   exact step D hD i xs H' x (fun xs' H''=>N xs' _ H'') s1 h1 h2 hx fun xs' H'' a1 a2 a3=>kN _ _ _ ⟨_,rfl,a1,a2,a3⟩
  ·rintro xs σ' H1 ⟨v,rfl,s1,h1,h2⟩
   rw[p8 (by omega)]at h2
   have hup:∀ k∈hs.map up,Up n k:=fun k hk=>by
    obtain⟨k0,h0,rfl⟩:=o9.mp hk
    exact(hE k0 h0).up
   refine⟨D,xs,_,rfl,SqL.of h1,h2,(fun k hk z=>by have:=(hup k hk).len;rw[z]at this;cases this),fun l zs ks hl pk hs1 ht1=>?_⟩
   have hkl:ks.length=hs.length:=by rw[pk.length_eq,b8]
   have hzl:=ht1.len
   have s2:A0 H (upd H1 l (.lst zs)):=s1.trans (i8 hl)
   refine⟨_,rfl,l,zs,ks,rfl,SqL.of b9,ht1,(fun k hk=>(hup k (pk.mem_iff.mp hk)).key n2),by omega,fun S hSn=>?_⟩
   have hlS:l≠S:=u6 b9 hSn
   have s3:=s2.trans (i8 (o:=aZ7 P w S (ks.foldl Sett.Z1 []).length) hSn)
   have l3:(upd (upd H1 l (.lst zs)) S (aZ7 P w S (ks.foldl Sett.Z1 []).length)) l=some (.lst zs):=by rw[n4 hlS,b9]
   refine⟨S,_,rfl,b9,_,rfl,l,zs,rfl,.inl (SqL.of l3),_,_,rfl,rfl,_,rfl,?_⟩
   have hfold:(ks.foldl Sett.Z1 []).length=zs.length:=by
    have:=(Sett.as0 ks []).mpr ⟨(pk.nodup_iff).mpr hN,fun x _=>by simp⟩
    simp at this
    omega
   rw[hfold,decide_eq_false (by omega)]
   refine G5 ?_
   refine⟨_,rfl,_,rfl,l,zs,rfl,.inl ⟨SqL.of (by rw[hfold]at l3;exact l3),fun t ht=>⟨(by show 2<=i7;decide),fun p hp=>?_⟩⟩⟩
   rw[hfold]at s3
   have s4:=(s3.trans (i8 (o:=.tup zs) ht)).trans (i8 (o:=.tup [.int n,.ref t]) hp)
   refine q p t zs ks _ s4 ((s3.trans (i8 ht)).free hp) (s3.free ht) b9 ?_ ?_ pk hs1
   ·rw[n4 (u6 b9 hp),b9]
   ·exact A0.tups (((i8 hSn).trans (i8 ht)).trans (i8 hp)) ht1
 ·refine⟨_,j5 (K7 (M4 (az3 aA0 aA0 k7 (pv 0) (Z0 (v:=.int 24) rfl mM ⟨_,rfl⟩))) G8 C6)
   (j5 (B3 (i := 2) aX1.nd rfl (Or.inl rfl) (v9 ai2 (by rfl) B.sorted (by rfl) (a7
    (aj4 (N' := ["tie", "places"]) (lk := [none, some 0]) rfl (am2 (pv 1)) (by rfl) rfl (by decide +kernel) (by exact ⟨rfl, trivial⟩) (by rfl) (by exact LkL.ok ⟨⟨rfl, Or.inl rfl, rfl, Or.inl rfl⟩, trivial⟩)
     (fun _ _ _=>B1 (i:=0) nd2 rfl (Or.inl rfl)) (fun _ _ _=>aj2) (fun _ _ _=>A7 GU hr (by rfl) FU A8 (a7 (pv 1) (a7 (pv 0) c7)))) c7)))
   (j5 (K7 (E2 ao2 (v9 call_len_set (by rfl) B.len PySem.boot_len (a7 (F8 (aT9 rfl hu8) (by rfl) B.set (by rfl) (a7 (pv 2) c7)) c7)) (v9 L3 (by rfl) B.len PySem.boot_len (a7 (pv 2) c7)) (J5 _)) G8 C6)
   (n5 (B9 (G1 (a7 (pv 0) (a7 (F8 X4 (by rfl) B.tuple (by rfl) (a7 (pv 2) c7)) c7))))))),?_⟩
  refine⟨_,rfl,_,_,rfl,rfl,_,rfl,?_⟩
  rw[decide_eq_true (show (1:Int)<=n by omega)]
  refine R5 ⟨_,_,rfl,rfl,_,rfl,?_⟩
  rw[decide_eq_true (show (n:Int)<=24 by omega)]
  refine G5 ?_
  refine⟨_,rfl,a,rfl,⟨_,hS⟩,fun D hD=>aB2 (K:=K) (a:=a) (D:=D) (ys:=ys) (fun i xs σ' H'=>∃ v,σ'=[v,some (.int n)]/\A0 H H'/\H' D=some (.lst xs)/\D1 K H' xs ((hs.take i).map up)) ⟨none,rfl,i8 hD,b9,.nil⟩ (by have:=R4;omega)
   (fun i xs σ' H' hi ⟨_,_,s1,h1,h2⟩=>⟨s1.seqT hS,h1,by have:=h2.len;simp at this;omega⟩) ?_ ?_⟩
  ·rintro i xs x σ' H' N kN hx ⟨v,rfl,s1,h1,h2⟩
   refine p6 ?_
   refine ad0 ?_
   refine⟨_,rfl,_,rfl,?_⟩
   exact step D hD i xs H' x (fun xs' H''=>N xs' _ H'') s1 h1 h2 hx fun xs' H'' a1 a2 a3=>kN _ _ _ ⟨_,rfl,a1,a2,a3⟩
  ·rintro xs σ' H1 ⟨v,rfl,s1,h1,h2⟩
   rw[p8 (by omega)]at h2
   have hup:∀ k∈hs.map up,Up n k:=fun k hk=>by
    obtain⟨k0,h0,rfl⟩:=o9.mp hk
    exact(hE k0 h0).up
   refine⟨D,xs,_,rfl,SqL.of h1,h2,(fun k hk z=>by have:=(hup k hk).len;rw[z]at this;cases this),fun l zs ks hl pk hs1 ht1=>?_⟩
   have hkl:ks.length=hs.length:=by rw[pk.length_eq,b8]
   have hzl:=ht1.len
   have s2:A0 H (upd H1 l (.lst zs)):=s1.trans (i8 hl)
   refine⟨_,rfl,l,zs,ks,rfl,SqL.of b9,ht1,(fun k hk=>(hup k (pk.mem_iff.mp hk)).key n2),by omega,fun S hSn=>?_⟩
   have hlS:l≠S:=u6 b9 hSn
   have s3:=s2.trans (i8 (o:=aZ7 P w S (ks.foldl Sett.Z1 []).length) hSn)
   have l3:(upd (upd H1 l (.lst zs)) S (aZ7 P w S (ks.foldl Sett.Z1 []).length)) l=some (.lst zs):=by rw[n4 hlS,b9]
   refine⟨S,_,rfl,b9,_,rfl,l,zs,rfl,.inl (SqL.of l3),_,_,rfl,rfl,_,rfl,?_⟩
   have hfold:(ks.foldl Sett.Z1 []).length=zs.length:=by
    have:=(Sett.as0 ks []).mpr ⟨(pk.nodup_iff).mpr hN,fun x _=>by simp⟩
    simp at this
    omega
   rw[hfold,decide_eq_false (by omega)]
   refine G5 ?_
   refine⟨_,rfl,_,rfl,l,zs,rfl,.inl ⟨SqL.of (by rw[hfold]at l3;exact l3),fun t ht=>⟨(by show 2<=i7;decide),fun p hp=>?_⟩⟩⟩
   rw[hfold]at s3
   have s4:=(s3.trans (i8 (o:=.tup zs) ht)).trans (i8 (o:=.tup [.int n,.ref t]) hp)
   refine q p t zs ks _ s4 ((s3.trans (i8 ht)).free hp) (s3.free ht) b9 ?_ ?_ pk hs1
   ·rw[n4 (u6 b9 hp),b9]
   ·exact A0.tups (((i8 hSn).trans (i8 ht)).trans (i8 hp)) ht1
end
end Web
namespace Web
open L2 Grf
theorem bK3 {x y:Int}(h:x<y):up [x,y]=[x,y]:=by
 show [if y<x then y else x,if y > x then y else x]=_
 rw[if_neg (by omega),if_pos h]
theorem bK4 {x y:Int}(h:y<x):up [x,y]=[y,x]:=by
 show [if y<x then y else x,if y > x then y else x]=_
 rw[if_pos h,if_neg (by omega)]
theorem by8 {x y:Int}:up [x,y]=[x,y]\/up [x,y]=[y,x]:=by
 rcases bT1 x y with c | c | c
 ·exact .inl (bK3 c)
 ·subst c
  left
  show [if x<x then x else x,if x > x then x else x]=[x,x]
  rw[if_neg (Int.lt_irrefl x)]
 ·exact .inr (bK4 c)
theorem aF1 {ks:List (List Int)}(hu:∀ k∈ks,Up n k)(i j:Nat):gW ks i j=decide (up [(i:Int),(j:Int)]∈ks):=by
 have no:∀ {x y:Nat},y<=x->[(x:Int),(y:Int)]∉ks:=fun {x y} hxy h=>by
  obtain⟨u,v,h1,h2,h3⟩:=hu _ h
  injection h3 with z1 z2
  injection z2 with z2 z3
  omega
 unfold gW
 rcases S7 i j with c | c | c
 ·rw[bK3 (by omega),decide_eq_false (no (x:=j) (y:=i) (by omega)),ak3]
 ·subst c
  have e:up [(i:Int),(i:Int)]=[(i:Int),(i:Int)]:=by8.elim id id
  rw[e,Bool.or_self]
 ·rw[bK4 (by omega),decide_eq_false (no (x:=i) (y:=j) (by omega)),Bool.false_or]
def tkn (a b c d:Int):List (List Int):=[[a,b],[b,a],[c,d],[d,c]]
def exL (ks:List (List Int))(a b c d:Int):List (List Int):=ks.filter (fun k=>!decide (k∈tkn a b c d))++[[a,d],[c,b]]
theorem ae7 {ks:List (List Int)}{a b c d:Nat}(hu:∀ k∈ks,Up n k)(h:Fits n ks a b c d):(a<n/\b<n/\c<n/\d<n)/\Ex (gW ks) a b c d:=by
 obtain⟨hP,h1,h2,h3,h4⟩:=h
 obtain⟨hin,hnd⟩:=(X1 n _).mp hP
 have ia:=hin a (by simp)
 have ib:=hin b (by simp)
 have ic:=hin c (by simp)
 have id':=hin d (by simp)
 simp only[m9,c8,o7,or_false,not_or]at hnd
 obtain⟨⟨ab,ac,ad⟩,⟨bc,bd⟩,cd,_⟩:=hnd
 refine⟨⟨by omega,by omega,by omega,by omega⟩,by omega,by omega,by omega,by omega,by omega,by omega,?_,?_,?_,?_⟩
 ·rw[aF1 hu,decide_eq_true h1]
 ·rw[aF1 hu,decide_eq_true h2]
 ·rw[aF1 hu,decide_eq_false h3]
 ·rw[aF1 hu,decide_eq_false h4]
section
variable {ks:List (List Int)} {a b c d:Nat} (hu:∀ k∈ks,Up n k) (nd:ks.Nodup) (hf:Fits n ks a b c d)
include hu nd hf
theorem aT2:∀ k∈exL ks a b c d,ak9 n k:=fun k hk=>by
 obtain⟨⟨ha,hb,hc,hd⟩,ex⟩:=ae7 hu hf
 rcases n8.mp hk with h | h
 ·exact(hu k (p9.mp h).1).ends
 ·rcases c8.mp h with rfl | h
  ·exact⟨a,d,ha,hd,ex.ad,rfl⟩
  ·rw[d6.mp h]
   exact⟨c,b,hc,hb,Ne.symm ex.bc,rfl⟩
theorem aL2:(exL ks a b c d).map up=ks.filter (fun k=>!decide (k∈tkn a b c d))++[up [(a:Int),(d:Int)],up [(c:Int),(b:Int)]]:=by
 unfold exL
 rw[r6]
 congr 1
 conv=>rhs;rw[<- List.map_id' (List.filter _ ks)]
 exact V4 fun k hk=>bU2 (hu k (p9.mp hk).1)
theorem bv2:((exL ks a b c d).map up).Nodup:=by
 obtain⟨_,ex⟩:=ae7 hu hf
 rw[aL2 hu nd hf]
 refine Z4.mpr ⟨nd.filter _,?_,fun x hx y hy e=>?_⟩
 ·refine m9.mpr ⟨fun h=>?_,m9.mpr ⟨o7,C0⟩⟩
  rcases up_eq (d6.mp h) with z | z
  ·have:=ex.ac;omega
  ·have:=ex.ab;omega
 ·subst e
  have hk:=(p9.mp hx).1
  rcases c8.mp hy with rfl | h
  ·exact hf.2.2.2.1 hk
  ·rw[d6.mp h]at hk
   exact hf.2.2.2.2 hk
theorem Z3 (hl:ls.Perm ((exL ks a b c d).map up)):(∀ k∈ls,Up n k)/\ls.Nodup/\tal n ls=tal n ks:=by
 obtain⟨⟨ha,hb,hc,hd⟩,ex⟩:=ae7 hu hf
 have hu':∀ k∈ls,Up n k:=fun k hk=>by
  obtain⟨k',h1,rfl⟩:=o9.mp (hl.mem_iff.mp hk)
  exact(aT2 hu nd hf k' h1).up
 have nd':ls.Nodup:=hl.nodup_iff.mpr (bv2 hu nd hf)
 have mem:∀ x,x∈ls↔(x∈ks/\x∉tkn a b c d)\/x=up [(a:Int),(d:Int)]\/x=up [(c:Int),(b:Int)]:=fun x=>by
  rw[hl.mem_iff,aL2 hu nd hf,n8,p9,O5,decide_eq_false_iff_not,c8,d6]
 have tk:∀ {i j:Nat},up [(i:Int),(j:Int)]∈tkn a b c d->((i=a/\j=b)\/(i=b/\j=a))\/((i=c/\j=d)\/(i=d/\j=c)):=fun {i j} h=>by
  have key:∀ {u v:Nat},up [(i:Int),(j:Int)]=[(u:Int),(v:Int)]->(i=u/\j=v)\/(i=v/\j=u):=fun {u v} e=>by
   rcases by8 (x:=(i:Int)) (y:=(j:Int)) with z | z<;>rw[z]at e<;>injection e with e1 e2<;>injection e2 with e2 e3
   ·exact .inl ⟨by omega,by omega⟩
   ·exact .inr ⟨by omega,by omega⟩
  unfold tkn at h
  simp only[c8,o7,or_false]at h
  rcases h with h | h | h | h
  ·exact .inl (key h)
  ·exact .inl (key h).symm
  ·exact .inr (key h)
  ·exact .inr (key h).symm
 have kt:∀ {i j u v:Nat},(i=u/\j=v)\/(i=v/\j=u)->up [(i:Int),(j:Int)]=up [(u:Int),(v:Int)]:=fun {i j u v} h=>by
  rcases h with⟨rfl,rfl⟩ | ⟨rfl,rfl⟩
  ·rfl
  ·exact Y8 _ _
 have inT:∀ {u v:Nat},(u=a/\v=b)\/(u=c/\v=d)->up [(u:Int),(v:Int)]∈tkn a b c d:=fun {u v} h=>by
  unfold tkn
  rcases h with⟨rfl,rfl⟩ | ⟨rfl,rfl⟩<;>rcases by8 (x:=(u:Int)) (y:=(v:Int)) with z | z<;>rw[z]<;>simp
 have hg:gW ls=bE2 (gW ks) a b c d:=funext fun i=>funext fun j=>by
  rw[aF1 hu']
  have neab:=ex.ab
  have neac:=ex.ac
  have nead:=ex.ad
  have nebc:=ex.bc
  have nebd:=ex.bd
  have necd:=ex.cd
  unfold bE2 aa0
  by_cases h4:(i=c/\j=b)\/(i=b/\j=c)
  ·rw[if_pos h4]
   exact decide_eq_true ((mem _).mpr (.inr (.inr (kt h4))))
  ·rw[if_neg h4]
   by_cases h3:(i=a/\j=d)\/(i=d/\j=a)
   ·rw[if_pos h3]
    exact decide_eq_true ((mem _).mpr (.inr (.inl (kt h3))))
   ·rw[if_neg h3]
    have other:up [(i:Int),(j:Int)]∈ls->up [(i:Int),(j:Int)]∈ks/\up [(i:Int),(j:Int)]∉tkn a b c d:=fun h=>by
     rcases(mem _).mp h with z | z | z
     ·exact z
     ·exact absurd (up_eq z) (fun q=>h3 (by omega))
     ·exact absurd (up_eq z) (fun q=>h4 (by omega))
    by_cases h2:(i=c/\j=d)\/(i=d/\j=c)
    ·rw[if_pos h2]
     exact decide_eq_false fun h=>(other h).2 (by rw[kt h2];exact inT (.inr ⟨rfl,rfl⟩))
    ·rw[if_neg h2]
     by_cases h1:(i=a/\j=b)\/(i=b/\j=a)
     ·rw[if_pos h1]
      exact decide_eq_false fun h=>(other h).2 (by rw[kt h1];exact inT (.inl ⟨rfl,rfl⟩))
     ·rw[if_neg h1,aF1 hu]
      by_cases hm:up [(i:Int),(j:Int)]∈ks
      ·rw[decide_eq_true hm]
       exact decide_eq_true ((mem _).mpr (.inl ⟨hm,fun z=>(tk z).elim h1 h2⟩))
      ·rw[decide_eq_false hm]
       exact decide_eq_false fun h=>hm (other h).1
 refine⟨hu',nd',List.ext_getElem (by rw[N5,N5]) fun i h1 h2=>?_⟩
 have hi:i<n:=by rw[N5]at h1;exact h1
 have e1:=aY9 nd' hu' i
 have e2:=aY9 nd hu i
 rw[hg,bv1 (bu6 hu) ex ha hb hc hd,e2]at e1
 have g1:=ac9 (n:=n) (ks:=ls) hi
 have g2:=ac9 (n:=n) (ks:=ks) hi
 rw[E1,m6 h1]at g1
 rw[E1,m6 h2]at g2
 show (tal n ls)[i]=(tal n ks)[i]
 have g1':(tal n ls)[i]=(F3 ls i:Int):=g1
 have g2':(tal n ks)[i]=(F3 ks i:Int):=g2
 rw[g1',g2',e1]
end
theorem aH8 {x:List Int}{a b c d:Int}(h:Up n x):x∈tkn a b c d↔x=up [a,b]\/x=up [c,d]:=by
 obtain⟨i,j,hij,hj,rfl⟩:=h
 have key:∀ u v:Int,([(i:Int),(j:Int)]=[u,v]\/[(i:Int),(j:Int)]=[v,u])↔[(i:Int),(j:Int)]=up [u,v]:=fun u v=>by
  constructor
  ·rintro(h | h)<;>injection h with h1 h2<;>injection h2 with h2 h3<;>subst h1<;>subst h2
   ·rw[bK3 (by omega)]
   ·rw[bK4 (by omega)]
  ·intro h
   rcases by8 (x:=u) (y:=v) with z | z<;>rw[z]at h
   ·exact .inl h
   ·exact .inr h
 unfold tkn
 simp only[c8,o7,or_false]
 rw[<- key a b,<- key c d,or_assoc]
section
variable {ks:List (List Int)} {a b c d:Nat} (hu:∀ k∈ks,Up n k) (nd:ks.Nodup) (hf:Fits n ks a b c d)
include hu nd hf
theorem ah6 (hl:ls.Perm ((exL ks a b c d).map up))(x:List Int):x∈ls↔(x∈ks/\x≠up [(a:Int),(b:Int)]/\x≠up [(c:Int),(d:Int)])\/x=up [(a:Int),(d:Int)]\/x=up [(c:Int),(b:Int)]:=by
 rw[hl.mem_iff,aL2 hu nd hf,n8,p9,O5,decide_eq_false_iff_not,c8,d6]
 refine or_congr ⟨fun h=>⟨h.1,?_⟩,fun h=>⟨h.1,?_⟩⟩ Iff.rfl
 ·have:=h.2
  rw[aH8 (hu x h.1),not_or]at this
  exact this
 ·rw[aH8 (hu x h.1),not_or]
  exact h.2
theorem as2 (hl:ls.Perm ((exL ks a b c d).map up)):Fits n ls a d c b:=by
 obtain⟨_,ex⟩:=ae7 hu hf
 have neab:=ex.ab
 have neac:=ex.ac
 have nead:=ex.ad
 have nebc:=ex.bc
 have nebd:=ex.bd
 have necd:=ex.cd
 obtain⟨hin,hnd⟩:=(X1 n _).mp hf.1
 refine⟨(X1 n _).mpr ⟨fun x hx=>hin x ?_,?_⟩,(ah6 hu nd hf hl _).mpr (.inr (.inl rfl)),(ah6 hu nd hf hl _).mpr (.inr (.inr rfl)),fun h=>?_,fun h=>?_⟩
 ·simp only[c8,o7,or_false]at hx ⊢
  rcases hx with h | h | h | h<;>simp[h]
 ·simp only[m9,c8,o7,or_false,not_or,not_false_eq_true,C0,and_true]
  exact⟨⟨by omega,by omega,by omega⟩,⟨by omega,by omega⟩,by omega⟩
 ·rcases(ah6 hu nd hf hl _).mp h with z | z | z
  ·exact z.2.1 rfl
  ·rcases up_eq z with q | q<;>omega
  ·rcases up_eq z with q | q<;>omega
 ·rcases(ah6 hu nd hf hl _).mp h with z | z | z
  ·exact z.2.2 rfl
  ·rcases up_eq z with q | q<;>omega
  ·rcases up_eq z with q | q<;>omega
theorem bE9 {ls2:List (List Int)}(hl:ls.Perm ((exL ks a b c d).map up))(hl2:ls2.Perm ((exL ls a d c b).map up))(x:List Int):x∈ls2↔x∈ks:=by
 obtain⟨hu',nd',_⟩:=Z3 hu nd hf hl
 rw[ah6 hu' nd' (as2 hu nd hf hl) hl2,ah6 hu nd hf hl]
 constructor
 ·rintro(⟨h1 | h1 | h1,h2,h3⟩ | h | h)
  ·exact h1.1
  ·exact absurd h1 h2
  ·exact absurd h1 h3
  ·rw[h];exact hf.2.1
  ·rw[h];exact hf.2.2.1
 ·intro h
  by_cases e1:x=up [(a:Int),(b:Int)]
  ·exact .inr (.inl e1)
  by_cases e2:x=up [(c:Int),(d:Int)]
  ·exact .inr (.inr e2)
  exact .inl ⟨.inl ⟨h,e1,e2⟩,fun z=>hf.2.2.2.1 (by rw[<- z];exact h),fun z=>hf.2.2.2.2 (by rw[<- z];exact h)⟩
end
end Web
namespace Web
open PySem L2
theorem bj1 {K:W.Frag}{Q:VK}{t:Addr}{ks:List (List Int)}{xs:List V}(hun:A.units+64<R8)(ht:SqT K H t (k.map V.int))(hl:SqL K H l xs)(hx:D1 K H xs ks)(q:Q (.bl (!decide (k∈ks))) H):bA3 K A true (.ref t) (.ref l) H Q:=by
 refine⟨l,xs,dP k,ks.map dP,rfl,.inl hl,Dt.mkP ht,hx.dtAll,bt1 _,Z6 ks,bn0 hun (t9 (bv7 _) (by decide)),?_⟩
 rw[if_pos rfl,aZ5]
 exact q
theorem take_snoc {α:Type}{l:List α}{x:α}(h:l[i]?=some x):l.take (i+1)=l.take i++[x]:=by rw[B8,h];rfl
def aR7 (ks ls:List (List Int)):List (List Int):=ls.filter fun k=>!decide (k∈ks)
theorem aE6 {ks:List (List Int)}(h:ls[i]?=some k):aR7 ks (ls.take (i+1))=aR7 ks (ls.take i)++(if k∈ks then [] else [k]):=by
 unfold aR7
 rw[take_snoc h,af8]
 by_cases c:k∈ks
 ·rw[if_pos c,ak4 (by rw[decide_eq_true c];decide)];rfl
 ·rw[if_neg c,ak5 (by rw[decide_eq_false c];decide)];rfl
theorem bf0 (ks ls:List (List Int)):(aR7 ks ls).length<=ls.length:=E8 _ _
seal L2.PE L2.PA L2.PS L2.PSs L2.PT
section
variable {K:W.Frag} {mg:Str->Option Value} {base:Heap}
def bo7 (K:W.Frag)(CE:Addr):Sp:=fun vs H Q E=>∃ (p qa:Addr) (n:Nat) (ks:List (List Int)) (a b c d:Int),vs=[.ref p,.ref qa]/\D3 K H p n ks/\1<=n/\n<=24/\(∀ k∈ks,Up n k)/\ks.Nodup/\SqT K H qa (([a,b,c,d]:List Int).map V.int)/\(∀ a' b' c' d':Nat,a=(a':Int)->b=(b':Int)->c=(c':Int)->d=(d':Int)->Fits n ks a' b' c' d'->∀ (r:Addr) (ls:List (List Int)) (H':Hp),A0 H H'->D3 K H' r n ls->ls.Perm ((exL ks a' b' c' d').map up)->ls.Pairwise (fun a b=>Tim.K9 b a=false)->Q (.ref r) H')/\(¬ Fits n ks a b c d->∀ H':Hp,A0 H H'->E (.ref CE) none H')
theorem bp5:A1 ["web","four","taken_out","kept"] ["web","four"] (p5 bq0):=.mk'
set_option maxHeartbeats 4000000 in
theorem bO6 {fV CE:Addr}{fdV:FuncData}(F:Fun K "exchanged" "exchanged" bq0 f fd)(B:Bn mg)(FC:Fq K mg "can_exchange" bi2 fC fdC ["web","four"])(GC:A2 P w K mg base CX0 4 fC fdC ["web","four"] (bc7 K))
  (FV:Fq K mg "made" aP5 fV fdV ["places","ties"])(GV:A2 P w K mg base CX0 4 fV fdV ["places","ties"] (aW2 K))(mE:mg "NoExchange"=some (.ref CE))(cE:aM3 K CE):A2 P w K mg base (CXE P w) 5 f fd ["web","four"] (bo7 K CE):=by
 refine F.okX bp5 (fun cdv A outer s H vs Q E hr h=>?_)
 obtain⟨p,qa,n,ks,a0',b0',c0',d0',rfl,hW,n1,n24,hu,nd,hq,q0,qe⟩:=h
 have hsl:=R4
 have hun:=hr.units
 have nd2:(["tie","taken_out"]:List Str).Nodup:=by decide +kernel
 obtain⟨tt,zt,w1,w2,w3⟩:=id hW
 have a0:atI ([.int n,.ref tt]:List V) 0=some (.int n):=B5 (j:=0) rfl
 have a1:atI ([.int n,.ref tt]:List V) 1=some (.ref tt):=B5 (j:=1) rfl
 have hkl:=ac1 n24 nd hu
 have hzl:=w3.len
 refine⟨_,j5 (K7 (M4 (L7 (A7 GC hr (by rfl) FC A8 (a7 (pv 0) (a7 (pv 1) c7))))) (n5 (az4 (by rfl) mE cE)) C6)
  (j5 (B3 (i:=2) bp5.nd rfl (Or.inr rfl) (W6 (a7 (G1 (a7 (A6 y7 (pv 1) k7 (fun _ _=>rfl)) (a7 (A6 y7 (pv 1) k7 (fun _ _=>rfl)) c7))) (a7 (G1 (a7 (A6 y7 (pv 1) k7 (fun _ _=>rfl)) (a7 (A6 y7 (pv 1) k7 (fun _ _=>rfl)) c7))) (a7 (G1 (a7 (A6 y7 (pv 1) k7 (fun _ _=>rfl)) (a7 (A6 y7 (pv 1) k7 (fun _ _=>rfl)) c7))) (a7 (G1 (a7 (A6 y7 (pv 1) k7 (fun _ _=>rfl)) (a7 (A6 y7 (pv 1) k7 (fun _ _=>rfl)) c7))) c7))))))
  (j5 (bd6 (i:=3) bp5.nd rfl rfl (by rfl) (N':=["tie","taken_out"]) (lk:=[none,some 2]) rfl (am2 (A6 y7 (pv 0) k7 (fun _ _=>rfl))) (by rfl) rfl (by decide +kernel) (by exact⟨rfl,trivial⟩) (by rfl) (by exact LkL.ok ⟨⟨rfl,Or.inl rfl,rfl,Or.inl rfl⟩,trivial⟩) (fun _ _ _=>B1 (i:=0) nd2 rfl (Or.inl rfl)) (fun _ _ _=>aI9 (E2 (aX7 K hr.around rfl rfl) (pv 0) (pv 1) (by rfl))) (fun _ _ _=>pv 0))
  (n5 (B9 (A7 GV hr (by rfl) FV A8 (a7 (A6 y7 (pv 0) k7 (fun _ _=>rfl)) (a7 (C5 aJ5 (pv 3) (W6 (a7 (G1 (a7 (A6 y7 (pv 1) k7 (fun _ _=>rfl)) (a7 (A6 y7 (pv 1) k7 (fun _ _=>rfl)) c7))) (a7 (G1 (a7 (A6 y7 (pv 1) k7 (fun _ _=>rfl)) (a7 (A6 y7 (pv 1) k7 (fun _ _=>rfl)) c7))) c7)))) c7))))))),?_⟩
 refine⟨_,rfl,_,rfl,p,qa,n,ks,a0',b0',c0',d0',rfl,hW,hq,fun H1 s1=>?_⟩
 by_cases hf':Fits n ks a0' b0' c0' d0'
 case neg =>
  rw[decide_eq_false hf']
  exact⟨_,rfl,R5 (qe hf' _ s1)⟩
 rw[decide_eq_true hf']
 obtain⟨a,b,c,d,ea,eb,ec,ed⟩:∃ a b c d:Nat,a0'=(a:Int)/\b0'=(b:Int)/\c0'=(c:Int)/\d0'=(d:Int):=by
  have hin:=((X1 n _).mp hf'.1).1
  have ia:=hin a0' (by simp)
  have ib:=hin b0' (by simp)
  have ic:=hin c0' (by simp)
  have ie:=hin d0' (by simp)
  exact⟨a0'.toNat,b0'.toNat,c0'.toNat,d0'.toNat,by omega,by omega,by omega,by omega⟩
 subst ea eb ec ed
 have hf:Fits n ks a b c d:=hf'
 have q:=q0 a b c d rfl rfl rfl rfl hf
 refine⟨_,rfl,G5 ?_⟩
 have hq1:SqT K H1 qa [.int (a:Int),.int (b:Int),.int (c:Int),.int (d:Int)]:=s1.seqT hq
 refine⟨_,rfl,qa,_,_,_,rfl,rfl,hq1,aG6,_,rfl,qa,_,_,_,rfl,rfl,hq1,aG5,(by show 2<=i7;decide),fun x1 f1=>?_⟩
 have u1:=i8 (o:=.tup [.int (a:Int),.int (b:Int)]) f1
 have hq2:=u1.seqT hq1
 refine⟨_,rfl,qa,_,_,_,rfl,rfl,hq2,aG5,_,rfl,qa,_,_,_,rfl,rfl,hq2,aG6,(by show 2<=i7;decide),fun x2 f2=>?_⟩
 have u2:=i8 (o:=.tup [.int (b:Int),.int (a:Int)]) f2
 have hq3:=u2.seqT hq2
 refine⟨_,rfl,qa,_,_,_,rfl,rfl,hq3,aG4,_,rfl,qa,_,_,_,rfl,rfl,hq3,aG3,(by show 2<=i7;decide),fun x3 f3=>?_⟩
 have u3:=i8 (o:=.tup [.int (c:Int),.int (d:Int)]) f3
 have hq4:=u3.seqT hq3
 refine⟨_,rfl,qa,_,_,_,rfl,rfl,hq4,aG3,_,rfl,qa,_,_,_,rfl,rfl,hq4,aG4,(by show 2<=i7;decide),fun x4 f4=>⟨(by show 4<=i7;decide),fun lt flt=>?_⟩⟩
 have u4:=i8 (o:=.tup [.int (d:Int),.int (c:Int)]) f4
 have u5:=i8 (o:=.lst [.ref x1,.ref x2,.ref x3,.ref x4]) flt
 have g1:=(u2.trans (u3.trans (u4.trans u5))) _ _ (b9 (H:=H1) (a:=x1))
 have g2:=(u3.trans (u4.trans u5)) _ _ (b9 (a:=x2))
 have g3:=(u4.trans u5) _ _ (b9 (a:=x3))
 have g4:=u5 _ _ (b9 (a:=x4))
 have glt:=b9 (H:=upd (upd (upd (upd H1 x1 (.tup [.int (a:Int),.int (b:Int)])) x2 (.tup [.int (b:Int),.int (a:Int)])) x3 (.tup [.int (c:Int),.int (d:Int)])) x4 (.tup [.int (d:Int),.int (c:Int)])) (a:=lt) (o:=.lst [.ref x1,.ref x2,.ref x3,.ref x4])
 have hT:D1 K (upd (upd (upd (upd (upd H1 x1 (.tup [.int (a:Int),.int (b:Int)])) x2 (.tup [.int (b:Int),.int (a:Int)])) x3 (.tup [.int (c:Int),.int (d:Int)])) x4 (.tup [.int (d:Int),.int (c:Int)])) lt (.lst [.ref x1,.ref x2,.ref x3,.ref x4])) [.ref x1,.ref x2,.ref x3,.ref x4] (tkn a b c d):=.cons ⟨x1,rfl,SqT.of g1⟩ (.cons ⟨x2,rfl,SqT.of g2⟩ (.cons ⟨x3,rfl,SqT.of g3⟩ (.cons ⟨x4,rfl,SqT.of g4⟩ .nil)))
 have s6:=s1.trans (u1.trans (u2.trans (u3.trans (u4.trans u5))))
 generalize upd (upd (upd (upd (upd H1 x1 (.tup [.int (a:Int),.int (b:Int)])) x2 (.tup [.int (b:Int),.int (a:Int)])) x3 (.tup [.int (c:Int),.int (d:Int)])) x4 (.tup [.int (d:Int),.int (c:Int)])) lt (.lst [.ref x1,.ref x2,.ref x3,.ref x4])=H6 at glt hT s6 ⊢
 refine p6 ?_
 refine⟨_,rfl,p,_,_,_,rfl,rfl,s6.seqT w1,a1,tt,rfl,⟨_,s6.seqT w2⟩,fun D hD=>aB2 (K:=K) (a:=tt) (D:=D) (ys:=zt) (fun i xs σ' H'=>(∃ v,σ'=[v,some (.ref lt)])/\A0 H6 H'/\H' D=some (.lst xs)/\D1 K H' xs (aR7 (tkn a b c d) (ks.take i))) ⟨⟨none,rfl⟩,i8 hD,b9,.nil⟩ (by omega)
  (fun i xs σ' H' hi ⟨_,s7,h7,t7⟩=>⟨(s6.trans s7).seqT w2,h7,by rw[t7.len];exact t9 (bf0 _ _) (bF8 _ _)⟩) ?_ ?_⟩
 ·rintro i xs x σ' H' N kN hx ⟨⟨v,rfl⟩,s7,h7,t7⟩
  obtain⟨y,k,rfl,hk,hy⟩:=w3.get hx
  refine p6 ?_
  refine⟨_,rfl,_,rfl,bj1 (ks:=tkn a b c d) hun ((s6.trans s7).seqT hy) (SqL.of (s7 _ _ glt)) (s7.tups hT) ⟨_,rfl,?_⟩⟩
  by_cases ck:k∈tkn a b c d
  ·rw[decide_eq_true ck]
   refine G5 (kN _ _ _ ⟨⟨_,rfl⟩,s7,h7,?_⟩)
   rw[aE6 hk,if_pos ck,F6]
   exact t7
  ·rw[decide_eq_false ck]
   refine R5 ⟨_,rfl,h7,kN _ _ _ ⟨⟨_,rfl⟩,s7.upd hD,b9,?_⟩⟩
   rw[aE6 hk,if_neg ck]
   exact D1.updL h7 (D1.append t7 (D1.one ((s6.trans s7).seqT hy)))
 ·rintro xs σ' H7 ⟨⟨v,rfl⟩,s7,h7,t7⟩
  rw[p8 (by omega)]at t7
  have s17:=s6.trans s7
  have hq7:SqT K H7 qa [.int (a:Int),.int (b:Int),.int (c:Int),.int (d:Int)]:=s17.seqT hq
  refine⟨_,rfl,p,_,_,_,rfl,rfl,s17.seqT w1,a0,_,rfl,_,rfl,qa,_,_,_,rfl,rfl,hq7,aG6,_,rfl,qa,_,_,_,rfl,rfl,hq7,aG3,(by show 2<=i7;decide),fun y1 fy1=>?_⟩
  have v1:=i8 (o:=.tup [.int (a:Int),.int (d:Int)]) fy1
  have hq8:=v1.seqT hq7
  refine⟨_,rfl,qa,_,_,_,rfl,rfl,hq8,aG4,_,rfl,qa,_,_,_,rfl,rfl,hq8,aG5,(by show 2<=i7;decide),fun y2 fy2=>⟨(by show 2<=i7;decide),fun l9 f9=>?_⟩⟩
  have v2:=i8 (o:=.tup [.int (c:Int),.int (b:Int)]) fy2
  have v3:=i8 (o:=.lst [.ref y1,.ref y2]) f9
  have v13:=v1.trans (v2.trans v3)
  have hxl:=t7.len
  have hll:=bf0 (tkn a b c d) ks
  refine⟨D,l9,_,_,rfl,rfl,v13 _ _ h7,b9,by show xs.length+2<=_;omega,fun l10 f10=>?_⟩
  have v4:=i8 (o:=.lst (xs++[.ref y1,.ref y2])) f10
  have v14:=v13.trans v4
  have hT2:D1 K (upd (upd (upd (upd H7 y1 (.tup [.int (a:Int),.int (d:Int)])) y2 (.tup [.int (c:Int),.int (b:Int)])) l9 (.lst [.ref y1,.ref y2])) l10 (.lst (xs++[.ref y1,.ref y2]))) (xs++[.ref y1,.ref y2]) (exL ks a b c d):=D1.append (v14.tups t7) (.cons ⟨y1,rfl,SqT.of ((v2.trans (v3.trans v4)) _ _ b9)⟩ (.cons ⟨y2,rfl,SqT.of ((v3.trans v4) _ _ b9)⟩ .nil))
  refine⟨n,l10,_,exL ks a b c d,rfl,n1,n24,.inl (SqL.of b9),hT2,aT2 hu nd hf,bv2 hu nd hf,by rw[<- hT2.len,j9];show xs.length+2<300;omega,fun r t zs ls H' s' _ _ gr gt tl pm so=>?_⟩
  exact q r ls H' (s17.trans (v14.trans s')) ⟨t,zs,SqT.of gr,SqT.of gt,tl⟩ pm so
end
end Web
namespace Web
open PySem L2
theorem aD1 (K:W.Frag)(hK:X.K=K):O1 X (.builtin "len") (fun xs H Q=>∃ p ys,xs=[.ref p]/\(SqL K H p ys\/SqT K H p ys)/\Q (.int ys.length) H):=by subst hK;exact L3
theorem aX8 (K:W.Frag)(hK:X.K=K):OpR X (D6 .In) (rIn K false):=by subst hK;exact bi8
theorem bj7 {ks:List (List Int)}(h:kvs.map (·.1)=ks.map (Y0 Sum.inl))(k:List Int):(ao9 kvs (k.map Sum.inl)).map (·.1)=(ks.filter fun x=>decide (x≠k)).map (Y0 Sum.inl):=by
 have e1:(ao9 kvs (k.map Sum.inl)).map (·.1)=(kvs.map (·.1)).filter fun x=>decide (x≠k.map Sum.inl):=by
  unfold ao9
  rw[aU9]
  rfl
 rw[e1,h,aU9]
 congr 1
 refine bS7 fun x _=>?_
 show decide (x.map Sum.inl≠k.map Sum.inl)=decide (x≠k)
 exact decide_eq_decide.mpr ⟨fun q z=>q (by rw[z]),fun q z=>q (aK3 z)⟩
theorem KE.drop {ks:List (List Int)}(h:KE kvs ks)(k:List Int):KE (ao9 kvs (k.map Sum.inl)) (ks.filter fun x=>decide (x≠k)):=⟨bj7 h.1 k,fun kv hkv=>h.2 kv (p9.mp hkv).1⟩
theorem aR9 {ks:List (List Int)}(h:kvs.map (·.1)=ks.map (Y0 Sum.inl))(hk:k∈ks):∃ v,au3 kvs (k.map Sum.inl)=some v:=by
 have:=ao6 h k
 rw[ag6,decide_eq_true hk]at this
 exact p7.mp this
theorem aS0 {ks:List (List Int)}(h:kvs.map (·.1)=ks.map (Y0 Sum.inl)):kvs.length=ks.length:=by
 have:=congrArg M7 h
 rw[b8,b8]at this
 exact this
def U3 (ks:List (List Int))(u v:List Int):Nat->List (List Int)
 | 0=>ks
 | 1=>ks.filter fun x=>decide (x≠u)
 | _=>(ks.filter fun x=>decide (x≠u)).filter fun x=>decide (x≠v)
def inS (ks:List (List Int))(u v:List Int):Nat->List (List Int)
 | 0=>ks
 | 1=>ks++[u]
 | _=>(ks++[u])++[v]
def bR3 (ks:List (List Int))(a b c d:Nat):List (List Int):=inS (U3 ks (up [(a:Int),(b:Int)]) (up [(c:Int),(d:Int)]) 2) (up [(a:Int),(d:Int)]) (up [(c:Int),(b:Int)]) 2
theorem aG2 {ks:List (List Int)}{a b c d:Nat}(hu:∀ k∈ks,Up n k)(nd:ks.Nodup)(hf:Fits n ks a b c d):(bR3 ks a b c d).Perm ((exL ks a b c d).map up):=by
 obtain⟨_,ex⟩:=ae7 hu hf
 have neac:=ex.ac
 have neab:=ex.ab
 have e:bR3 ks a b c d=((ks.filter fun x=>decide (x≠up [(a:Int),(b:Int)])).filter fun x=>decide (x≠up [(c:Int),(d:Int)]))++[up [(a:Int),(d:Int)],up [(c:Int),(b:Int)]]:=by
  show ((_++[_])++[_])=_
  rw[r0]
  rfl
 rw[e,aL2 hu nd hf]
 refine List.Perm.append_right _ ?_
 rw[List.filter_filter]
 refine List.Perm.of_eq (bS7 fun x hx=>?_)
 rw[O3,v7,decide_eq_true_eq,decide_eq_true_eq,O5,decide_eq_false_iff_not,aH8 (hu x hx),not_or]
 exact And.comm
seal L2.PE L2.PA L2.PS L2.PSs L2.PT
section
variable {K:W.Frag} {mg:Str->Option Value} {base:Heap}
def aW4 (K:W.Frag):Sp:=fun vs H Q _=>∃ (da qa:Addr) (n:Nat) (ks:List (List Int)) (a b c d:Nat),vs=[.ref da,.ref qa]/\TR H da ks/\n<=24/\(∀ k∈ks,Up n k)/\ks.Nodup/\SqT K H qa ((([a,b,c,d]:List Nat).map fun z:Nat=>(z:Int)).map V.int)/\Fits n ks a b c d/\∀ (l:Addr) (H':Hp),A0 H H'->H l=none->TD H' l (bR3 ks a b c d)->Q (.ref l) H'
theorem ac2:A1 ["ties","four","a","b","c","d","left","one","other"] ["ties","four"] (p5 aD9):=.mk'
set_option maxHeartbeats 4000000 in
theorem be5 (F:Fun K "_law_behind" "_law_behind" aD9 f fd)(B:Bn mg):A2 P w K mg base CX0 1 f fd ["ties","four"] (aW4 K):=by
 refine F.ok ac2 (fun cdv A outer s H vs Q E hr h=>?_)
 obtain⟨da,qa,n,ks,a,b,c,d,rfl,⟨kvs0,gda,ek0⟩,n24,hu,nd,hq,hf,q⟩:=h
 have hsl:=R4
 have hkl:=ac1 n24 nd hu
 refine⟨_,j5 (br1 (pv 1) (ar0 rfl (J1 (B1 (i:=2) ac2.nd rfl (Or.inl rfl)) (J1 (B1 (i:=3) ac2.nd rfl (Or.inl rfl)) (J1 (B1 (i:=4) ac2.nd rfl (Or.inl rfl)) (J1 (B1 (i:=5) ac2.nd rfl (Or.inl rfl)) aj3))))))
  (j5 (B3 (i:=6) ac2.nd rfl (Or.inl rfl) (F8 ae9 (by rfl) B.dict (by rfl) (a7 (pv 0) c7)))
  (j5 (U0 PassesOwn.never rfl (ab4 (W6 (a7 (G1 (a7 (pv 2) (a7 (pv 3) c7))) (a7 (G1 (a7 (pv 4) (a7 (pv 5) c7))) c7)))) (ar0 rfl (J1 (B1 (i:=7) ac2.nd rfl (Or.inl rfl)) (J1 (B1 (i:=8) ac2.nd rfl (Or.inl rfl)) aj3))) (n5 (Q9 (aQ2 (ah9 hr) (pv 6) (G1 (a7 (v9 (Z7 rfl) (by rfl) B.min (by rfl) (a7 (pv 7) (a7 (pv 8) c7))) (a7 (v9 (ad6 rfl) (by rfl) B.max (by rfl) (a7 (pv 7) (a7 (pv 8) c7))) c7))) ⟨rfl,rfl,rfl,rfl⟩))))
  (j5 (U0 PassesOwn.never rfl (ab4 (W6 (a7 (G1 (a7 (pv 2) (a7 (pv 5) c7))) (a7 (G1 (a7 (pv 4) (a7 (pv 3) c7))) c7)))) (ar0 rfl (J1 (B1 (i:=7) ac2.nd rfl (Or.inl rfl)) (J1 (B1 (i:=8) ac2.nd rfl (Or.inl rfl)) aj3))) (n5 (aw5 (ah9 hr) (pv 6) (G1 (a7 (v9 (Z7 rfl) (by rfl) B.min (by rfl) (a7 (pv 7) (a7 (pv 8) c7))) (a7 (v9 (ad6 rfl) (by rfl) B.max (by rfl) (a7 (pv 7) (a7 (pv 8) c7))) c7))) ah4 rfl)))
  (n5 (B9 (pv 6)))))),?_⟩
 refine⟨_,rfl,qa,_,rfl,hq,rfl,_,_,rfl,_,_,rfl,_,_,rfl,_,_,rfl,rfl,?_⟩
 refine⟨_,rfl,da,kvs0,rfl,gda,by rw[ek0.1];exact ar7 P w n24 hu nd,fun l fl=>?_⟩
 have s0:=i8 (o:=.dT kvs0) fl
 have gl0:(upd H l (.dT kvs0)) l=some (.dT kvs0):=b9
 generalize upd H l (.dT kvs0)=H0 at s0 gl0 ⊢
 refine⟨_,rfl,_,rfl,(by show 2<=i7;decide),fun x11 fx11=>?_⟩
 have u11:=i8 (o:=.tup [.int (a:Int),.int (b:Int)]) fx11
 refine⟨_,rfl,_,rfl,(by show 2<=i7;decide),fun x12 fx12=>⟨(by show 2<=i7;decide),fun lt1 flt1=>?_⟩⟩
 have u12:=i8 (o:=.tup [.int (c:Int),.int (d:Int)]) fx12
 have u13:=i8 (o:=.lst [.ref x11,.ref x12]) flt1
 have gx11:=(u12.trans u13) _ _ (b9 (H:=H0) (a:=x11))
 have gx12:=u13 _ _ (b9 (a:=x12))
 have glt1:=b9 (H:=upd (upd H0 x11 (.tup [.int (a:Int),.int (b:Int)])) x12 (.tup [.int (c:Int),.int (d:Int)])) (a:=lt1) (o:=.lst [.ref x11,.ref x12])
 have uu1:=u11.trans (u12.trans u13)
 generalize upd (upd (upd H0 x11 (.tup [.int (a:Int),.int (b:Int)])) x12 (.tup [.int (c:Int),.int (d:Int)])) lt1 (.lst [.ref x11,.ref x12])=HA1 at gx11 gx12 glt1 uu1 ⊢
 have gl1:=uu1 _ _ gl0
 have sA:=s0.trans uu1
 refine⟨lt1,rfl,⟨_,SqL.of glt1⟩,ad5 (K:=K) (a:=lt1) (xs:=[.ref x11,.ref x12]) (fun i σ Ha=>∃ (kvs:List (List Key × V)) (e7 e8:Option V),σ=[some (.ref da),some (.ref qa),some (.int (a:Int)),some (.int (b:Int)),some (.int (c:Int)),some (.int (d:Int)),some (.ref l),e7,e8]/\A0 H Ha/\Ha l=some (.dT kvs)/\KE kvs (U3 ks (up [(a:Int),(b:Int)]) (up [(c:Int),(d:Int)]) i)/\Ha x11=some (.tup [.int (a:Int),.int (b:Int)])/\Ha x12=some (.tup [.int (c:Int),.int (d:Int)])/\Ha lt1=some (.lst [.ref x11,.ref x12]))
  ⟨kvs0,none,none,rfl,sA,gl1,ek0,gx11,gx12,glt1⟩ (fun i σ Ha _ ⟨_,_,_,_,_,_,_,_,_,g⟩=>SqL.of g) ?_ ?_⟩
 ·rintro i x σ Ha hx ⟨kvs,e7,e8,rfl,sa,gl,ek,g1,g2,g3⟩
  obtain⟨xa,p,r,rfl,gxa,hin,hnext⟩:∃ (xa:Addr) (p r:Nat),x=.ref xa/\Ha xa=some (.tup [.int (p:Int),.int (r:Int)])/\up [(p:Int),(r:Int)]∈U3 ks (up [(a:Int),(b:Int)]) (up [(c:Int),(d:Int)]) i/\U3 ks (up [(a:Int),(b:Int)]) (up [(c:Int),(d:Int)]) (i+1)=(U3 ks (up [(a:Int),(b:Int)]) (up [(c:Int),(d:Int)]) i).filter fun x=>decide (x≠up [(p:Int),(r:Int)]):=by
   obtain⟨_,ex⟩:=ae7 hu hf
   have neac:=ex.ac
   have nead:=ex.ad
   match i,hx with
   | 0,hx =>
    injection hx with hx
    exact⟨x11,a,b,hx.symm,g1,hf.2.1,rfl⟩
   | 1,hx =>
    injection hx with hx
    refine⟨x12,c,d,hx.symm,g2,p9.mpr ⟨hf.2.2.1,decide_eq_true fun z=>?_⟩,rfl⟩
    rcases up_eq z with z | z<;>omega
   | i+2,hx=>cases hx
  refine⟨xa,_,rfl,SqT.of gxa,rfl,_,_,rfl,_,_,rfl,rfl,?_⟩
  obtain⟨v,hv⟩:=aR9 ek.1 hin
  refine⟨_,rfl,l,rfl,.inr ⟨kvs,.inl gl⟩,_,rfl,_,rfl,_,_,rfl,_,rfl,_,rfl,_,_,rfl,(by show 2<=i7;decide),fun y hy=>?_⟩
  have sy:=i8 (o:=.tup [.int (if (r:Int)<(p:Int) then (r:Int) else (p:Int)),.int (if (r:Int) > (p:Int) then (r:Int) else (p:Int))]) hy
  refine⟨kvs,(up [(p:Int),(r:Int)]).map Sum.inl,y,v,sy _ _ gl,rfl,by rw[Q0];exact b9,hv,?_⟩
  refine⟨_,_,_,rfl,(sa.trans sy).upd fl,b9,by rw[hnext];exact ek.drop _,?_,?_,?_⟩
  ·rw[n4 (fun z=>by rw[z,gl]at g1;cases g1)];exact sy _ _ g1
  ·rw[n4 (fun z=>by rw[z,gl]at g2;cases g2)];exact sy _ _ g2
  ·rw[n4 (fun z=>by rw[z,gl]at g3;cases g3)];exact sy _ _ g3
 ·rintro σ Ha ⟨kvs1,e7,e8,rfl,sa,gla,ek1,-,-,-⟩
  have ek1:KE kvs1 (U3 ks (up [(a:Int),(b:Int)]) (up [(c:Int),(d:Int)]) 2):=ek1
  have hol:(U3 ks (up [(a:Int),(b:Int)]) (up [(c:Int),(d:Int)]) 2).length<=ks.length:=t9 (E8 _ _) (E8 _ _)
  clear gx11 gx12 glt1 uu1 gl1 sA u11 u12 u13
  refine⟨_,rfl,_,rfl,(by show 2<=i7;decide),fun x21 fx21=>?_⟩
  have u21:=i8 (o:=.tup [.int (a:Int),.int (d:Int)]) fx21
  refine⟨_,rfl,_,rfl,(by show 2<=i7;decide),fun x22 fx22=>⟨(by show 2<=i7;decide),fun lt2 flt2=>?_⟩⟩
  have u22:=i8 (o:=.tup [.int (c:Int),.int (b:Int)]) fx22
  have u23:=i8 (o:=.lst [.ref x21,.ref x22]) flt2
  have gx21:=(u22.trans u23) _ _ (b9 (H:=Ha) (a:=x21))
  have gx22:=u23 _ _ (b9 (a:=x22))
  have glt2:=b9 (H:=upd (upd Ha x21 (.tup [.int (a:Int),.int (d:Int)])) x22 (.tup [.int (c:Int),.int (b:Int)])) (a:=lt2) (o:=.lst [.ref x21,.ref x22])
  have uu2:=u21.trans (u22.trans u23)
  generalize upd (upd (upd Ha x21 (.tup [.int (a:Int),.int (d:Int)])) x22 (.tup [.int (c:Int),.int (b:Int)])) lt2 (.lst [.ref x21,.ref x22])=HA2 at gx21 gx22 glt2 uu2 ⊢
  have gl2:=uu2 _ _ gla
  have sB:=sa.trans uu2
  refine⟨lt2,rfl,⟨_,SqL.of glt2⟩,ad5 (K:=K) (a:=lt2) (xs:=[.ref x21,.ref x22]) (fun i σ Hb=>∃ (kvs:List (List Key × V)) (e7 e8:Option V),σ=[some (.ref da),some (.ref qa),some (.int (a:Int)),some (.int (b:Int)),some (.int (c:Int)),some (.int (d:Int)),some (.ref l),e7,e8]/\A0 H Hb/\Hb l=some (.dT kvs)/\KE kvs (inS (U3 ks (up [(a:Int),(b:Int)]) (up [(c:Int),(d:Int)]) 2) (up [(a:Int),(d:Int)]) (up [(c:Int),(b:Int)]) i)/\Hb x21=some (.tup [.int (a:Int),.int (d:Int)])/\Hb x22=some (.tup [.int (c:Int),.int (b:Int)])/\Hb lt2=some (.lst [.ref x21,.ref x22]))
   ⟨kvs1,e7,e8,rfl,sB,gl2,ek1,gx21,gx22,glt2⟩ (fun i σ Hb _ ⟨_,_,_,_,_,_,_,_,_,g⟩=>SqL.of g) ?_ ?_⟩
  ·rintro i x σ Hb hx ⟨kvs,e7,e8,rfl,sb,gl,ek,g1,g2,g3⟩
   obtain⟨xa,p,r,rfl,gxa,hin,hnext,hil⟩:∃ (xa:Addr) (p r:Nat),x=.ref xa/\Hb xa=some (.tup [.int (p:Int),.int (r:Int)])/\up [(p:Int),(r:Int)]∉inS (U3 ks (up [(a:Int),(b:Int)]) (up [(c:Int),(d:Int)]) 2) (up [(a:Int),(d:Int)]) (up [(c:Int),(b:Int)]) i/\inS (U3 ks (up [(a:Int),(b:Int)]) (up [(c:Int),(d:Int)]) 2) (up [(a:Int),(d:Int)]) (up [(c:Int),(b:Int)]) (i+1)=inS (U3 ks (up [(a:Int),(b:Int)]) (up [(c:Int),(d:Int)]) 2) (up [(a:Int),(d:Int)]) (up [(c:Int),(b:Int)]) i++[up [(p:Int),(r:Int)]]/\(inS (U3 ks (up [(a:Int),(b:Int)]) (up [(c:Int),(d:Int)]) 2) (up [(a:Int),(d:Int)]) (up [(c:Int),(b:Int)]) i).length<=ks.length+1:=by
    obtain⟨_,ex⟩:=ae7 hu hf
    have neac:=ex.ac
    have neab:=ex.ab
    have inks:∀ y,y∈U3 ks (up [(a:Int),(b:Int)]) (up [(c:Int),(d:Int)]) 2->y∈ks:=fun y hy=>(p9.mp (p9.mp hy).1).1
    match i,hx with
    | 0,hx =>
     injection hx with hx
     exact⟨x21,a,d,hx.symm,g1,fun z=>hf.2.2.2.1 (inks _ z),rfl,Nat.le_succ_of_le hol⟩
    | 1,hx =>
     injection hx with hx
     refine⟨x22,c,b,hx.symm,g2,fun z=>?_,rfl,by show (_++[_]).length<=_;rw[j9];exact Nat.succ_le_succ hol⟩
     rcases n8.mp z with z | z
     ·exact hf.2.2.2.2 (inks _ z)
     ·rcases up_eq (d6.mp z) with z | z<;>omega
    | i+2,hx=>cases hx
   refine⟨xa,_,rfl,SqT.of gxa,rfl,_,_,rfl,_,_,rfl,rfl,?_⟩
   refine⟨_,rfl,_,rfl,_,rfl,_,_,rfl,_,rfl,_,rfl,_,_,rfl,(by show 2<=i7;decide),fun y hy=>?_⟩
   have sy:=i8 (o:=.tup [.int (if (r:Int)<(p:Int) then (r:Int) else (p:Int)),.int (if (r:Int) > (p:Int) then (r:Int) else (p:Int))]) hy
   have hkl2:=aS0 ek.1
   refine⟨l,_,rfl,aU2.t (k:=(up [(p:Int),(r:Int)]).map Sum.inl) (sy _ _ gl) (by rw[Q0];exact b9) (by omega),?_⟩
   refine⟨_,_,_,rfl,(sb.trans sy).upd fl,b9,(by
    have z:=ek.put (up [(p:Int),(r:Int)])
    rw[if_neg hin,<- hnext]at z
    exact z),?_,?_,?_⟩
   ·rw[n4 (fun z=>by rw[z,gl]at g1;cases g1)];exact sy _ _ g1
   ·rw[n4 (fun z=>by rw[z,gl]at g2;cases g2)];exact sy _ _ g2
   ·rw[n4 (fun z=>by rw[z,gl]at g3;cases g3)];exact sy _ _ g3
  ·rintro σ Hb ⟨kvs,e7,e8,rfl,sb,gl,ek,-,-,-⟩
   exact⟨_,rfl,q l Hb sb fl ⟨kvs,gl,ek⟩⟩
end
end Web
namespace Web
open PySem L2
theorem bn2 (n:Nat)(ks:List (List Int)):tal (n+1) ks=tal n ks++[(F3 ks n:Int)]:=by
 unfold tal
 rw[List.range_succ,r6]
 rfl
theorem aF6 {ks:List (List Int)}(h:ks[j]?=some k)(i:Nat):F3 (ks.take (j+1)) i=F3 (ks.take j) i+(if (i:Int)∈k then 1 else 0):=by
 rw[B8,h,av2,aT6]
 congr 1
 unfold F3
 rw[bw6]
 by_cases c:(i:Int)∈k
 ·rw[if_pos c,if_pos (decide_eq_true c)]
 ·rw[if_neg c,if_neg (by rw[decide_eq_false c];decide)]
seal L2.PE L2.PA L2.PS L2.PSs L2.PT
section
variable {K:W.Frag} {mg:Str->Option Value} {base:Heap}
def bo0 (K:W.Frag):Sp:=fun vs H Q _=>∃ (n:Nat) (d:Addr) (ks:List (List Int)),vs=[.int n,.ref d]/\n<=24/\TF H d ks/\ks.length<=900/\∀ (l:Addr) (H':Hp),A0 H H'->H' l=some (.lst ((tal n ks).map V.int))->Q (.ref l) H'
theorem bL9:A1 ["places","ties"] ["places","ties"] (p5 aP1):=.mk'
set_option maxHeartbeats 4000000 in
theorem bC0 (F:Fun K "_law_sums" "_law_sums" aP1 f fd) (B:Bn mg):A2 P w K mg base CX0 1 f fd ["places","ties"] (bo0 K):=by
 refine F.ok bL9 (fun cdv A outer s H vs Q E hr h=>?_)
 obtain⟨n,d,ks,rfl,n24,⟨o,kvs,gd,ek,_⟩,hkl,q⟩:=h
 have hsl:=R4
 have nd2:(["place","ties"]:List Str).Nodup:=by decide +kernel
 have nd3:(["tie","place"]:List Str).Nodup:=by decide +kernel
 have hlen:=aS0 ek
 refine⟨_,n5 (B9 (br8 (x0:="place") (N':=["place","ties"]) (lk:=[none,some 1]) rfl (W5 rfl B.range (a7 (pv 0) c7)) (by rfl) rfl (by decide +kernel) (by exact⟨rfl,trivial⟩) (by rfl) (by rfl) (fun _=>rfl) (fun _=>rfl) (by exact LkL.ok ⟨⟨rfl,Or.inl rfl,rfl,Or.inl rfl⟩,trivial⟩)
   (fun _ _ _ => B1 (i := 0) nd2 rfl (Or.inr rfl)) (fun _ _ _ => aj2) (fun _ _ _ => v9 (aD1 K rfl) (by rfl) B.len PySem.boot_len (a7
    (aj4 (N' := ["tie", "place"]) (lk := [none, some 0]) rfl (bH5 (pv 1)) (by rfl) rfl (by decide +kernel) (by exact ⟨rfl, trivial⟩) (by rfl) (by exact LkL.ok ⟨⟨rfl, Or.inl rfl, rfl, Or.inl rfl⟩, trivial⟩)
     (fun _ _ _=>B1 (i:=0) nd3 rfl (Or.inl rfl)) (fun _ _ _=>aI9 (E2 (aX8 K rfl) (pv 1) (pv 0) (by rfl))) (fun _ _ _=>pv 0)) c7)))),?_⟩
 refine⟨_,rfl,(n:Int),rfl,by omega,by omega,?_⟩
 rw[P1]
 refine fun D hD=>am5 (lo:=0) (n:=n) (D:=D) (fun i xs σ' H'=>(∃ v,σ'=[v,some (.ref d)])/\A0 H H'/\H' D=some (.lst xs)/\xs=(tal i ks).map V.int)
  ⟨⟨none,rfl⟩,i8 hD,b9,rfl⟩ (by omega) (fun i xs σ' H' hi' ⟨_,_,h1,e1⟩=>⟨h1,by rw[e1,b8,N5];exact c5 _⟩) ?_ ?_
 ·rintro i xs σ' H' N kN hi' ⟨⟨v,rfl⟩,s2,h2,rfl⟩
  rw[show ((0:Int)+(i:Int))=(i:Int) by omega]
  refine p6 (ad0 ?_)
  refine⟨_,rfl,d,o,kvs,rfl,s2 _ _ gd,fun D2 hD2=>bE7 (a:=d) (D:=D2) (o:=o) (kvs:=kvs) (fun j xs σ'' H''=>(∃ v,σ''=[v,some (.int (i:Int))])/\A0 H' H''/\H'' D2=some (.lst xs)/\xs.length=F3 (ks.take j) i)
   ⟨⟨none,rfl⟩,i8 hD2,b9,rfl⟩ (by omega) (fun j xs σ'' H'' hj ⟨_,s3,h3,l3⟩=>⟨s3 _ _ (s2 _ _ gd),h3,by rw[l3];exact t9 (List.countP_le_length) (bF8 _ _)⟩) ?_ ?_⟩
  ·rintro j xs kv p σ'' H'' N' kN' hkv hp ⟨⟨v,rfl⟩,s3,h3,l3⟩
   have hj:j<kvs.length:=(a9.mp hkv).1
   obtain⟨k,hk⟩:∃ k,ks[j]?=some k:=⟨_,m6 (by omega)⟩
   have ek1:kv.1=k.map Sum.inl:=by
    have e1:(kvs.map (·.1))[j]?=some kv.1:=by rw[j6,hkv];rfl
    rw[ek,j6,hk]at e1
    injection e1 with e1
    exact e1.symm
   rw[ek1,Q0]at hp
   refine p6 ?_
   refine⟨_,rfl,_,rfl,p,_,rfl,.inr (SqT.of hp),rfl,aF3 k,_,rfl,?_⟩
   have ei:(if false=true then !inV (V.int (i:Int)) (k.map V.int) else inV (V.int (i:Int)) (k.map V.int))=decide ((i:Int)∈k):=aS5 _ _
   rw[ei]
   by_cases c:(i:Int)∈k
   ·rw[decide_eq_true c]
    refine R5 ⟨_,rfl,h3,kN' _ _ _ ⟨⟨_,rfl⟩,s3.upd hD2,b9,?_⟩⟩
    rw[aF6 hk,if_pos c,j9,l3]
    rfl
   ·rw[decide_eq_false c]
    refine G5 (kN' _ _ _ ⟨⟨_,rfl⟩,s3,h3,?_⟩)
    rw[aF6 hk,if_neg c,l3]
    rfl
  ·rintro xs σ'' H3 ⟨⟨v,rfl⟩,s3,h3,l3⟩
   rw[hlen,al3]at l3
   refine⟨D2,_,rfl,.inl (SqL.of h3),s3 _ _ h2,kN _ _ _ ⟨⟨_,rfl⟩,(s2.trans s3).upd hD,b9,?_⟩⟩
   rw[bn2,r6,l3]
   rfl
 ·rintro xs σ' H2 ⟨⟨v,rfl⟩,s2,h2,rfl⟩
  exact q D H2 s2 h2
end
end Web
namespace L2
open PySem PySem.Spec PyProof.Rows PySem.SeqAt
def SqU (kd:Bool)(K:W.Frag)(H:Hp)(a:Addr)(xs:List V):Prop:=match kd with
 | true=>SqL K H a xs
 | false=>SqT K H a xs
theorem bL6 {K:W.Frag}{xs:List V}(h:SqL K H a xs\/SqT K H a xs):∃ kd,SqU kd K H a xs:=h.elim (fun h=>⟨true,h⟩) fun h=>⟨false,h⟩
theorem SqU.same {kd:Bool}{K:W.Frag}{xs:List V}(h:SqU kd K H a xs)(s:A0 H H'):SqU kd K H' a xs:=by
 cases kd with
 | true=>exact s.seq (show SqL K H a xs from h)
 | false=>exact s.seqT (show SqT K H a xs from h)
theorem bu8 {kd:Bool} {K:W.Frag} {xs:List V} {g:TG} {tb:TS} {D:Ends} (hS:SqU kd K H a xs) (Pv:Nat->St->Hp->Prop) (h0:Pv 0 σ H) (hk:∀ i σ H',i<=xs.length->Pv i σ H'->SqU kd K H' a xs)
  (hs:∀ i x σ H,xs[i]?=some x->Pv i σ H->g x σ H fun σ2 H2=>tb { D with nx:=Pv (i+1),ct:=Pv (i+1),bk:=D.nx } σ2 H2) (hd:∀ σ H,Pv xs.length σ H->D.nx σ H) :
  (∃ b, V.ref a = V.ref b /\ (∃ ys, SqL K H b ys) /\ ∃ W : Nat -> Nat -> St -> Hp -> Prop, (∃ m, W 0 m σ H) /\ ∀ i m σ H, W i m σ H ->
   ((Itl K b).stop i H/\D.nx σ H)\/((Itl K b).go i H/\∃ N:St->Hp->Prop,(∀ σ' H',N σ' H'->∃ m',m'<m/\W (i+1) m' σ' H')/\∀ x H',(Itl K b).yld i H x H'->g x σ H' fun σ2 H2=>tb { D with nx:=N,ct:=N,bk:=D.nx } σ2 H2)) \/
  (∃ b, V.ref a = V.ref b /\ (∃ ys, SqT K H b ys) /\ ∃ W : Nat -> Nat -> St -> Hp -> Prop, (∃ m, W 0 m σ H) /\ ∀ i m σ H, W i m σ H ->
   ((Itt K b).stop i H/\D.nx σ H)\/((Itt K b).go i H/\∃ N:St->Hp->Prop,(∀ σ' H',N σ' H'->∃ m',m'<m/\W (i+1) m' σ' H')/\∀ x H',(Itt K b).yld i H x H'->g x σ H' fun σ2 H2=>tb { D with nx:=N,ct:=N,bk:=D.nx } σ2 H2)):=by
 cases kd with
 | true=>exact .inl ⟨a,rfl,⟨_,hS⟩,ad5 (K:=K) (a:=a) (xs:=xs) Pv h0 (fun i σ H' hi p=>hk i σ H' hi p) hs hd⟩
 | false=>exact .inr ⟨a,rfl,⟨_,hS⟩,aw9 (K:=K) (a:=a) (xs:=xs) Pv h0 (fun i σ H' hi p=>hk i σ H' hi p) hs hd⟩
end L2
namespace Web
open PySem L2
def bY9 (K:W.Frag)(H:Hp)(p:Addr)(n:Nat)(ks:List (List Int)):Prop:=∃ t zs,SqT K H p [.int n,.ref t]/\(SqL K H t zs\/SqT K H t zs)/\D1 K H zs ks
theorem D3.toS {K:W.Frag}{p:Addr}{ks:List (List Int)}(h:D3 K H p n ks):bY9 K H p n ks:=let ⟨t,zs,h1,h2,h3⟩:=h;⟨t,zs,h1,.inr h2,h3⟩
seal L2.PE L2.PA L2.PS L2.PSs L2.PT
section
variable {K:W.Frag} {mg:Str->Option Value} {base:Heap}
def bH0 (K:W.Frag):Sp:=fun vs H Q _=>∃ (wa:Addr) (n:Nat) (ks:List (List Int)),vs=[.ref wa]/\bY9 K H wa n ks/\n<=24/\ks.length<=600/\(∀ k∈ks,Up n k)/\∀ (a:Addr) (ps:List Addr) (H':Hp),A0 H H'->NN H' a ps (nbF ks) n->Q (.ref a) H'
theorem bd0:A1 ["web","near","one","other"] ["web"] (p5 bq2):=.mk'
set_option maxHeartbeats 2000000 in
theorem bP0 (F:Fun K "beside" "beside" bq2 f fd) (B:Bn mg):A2 P w K mg base CX0 1 f fd ["web"] (bH0 K):=by
 refine F.ok bd0 (fun cdv A outer s H vs Q E hr h=>?_)
 obtain⟨wa,n,ks,rfl,⟨t,zs,h1,h2',h3⟩,hn,hkl,hU,q⟩:=h
 obtain⟨kd,h2⟩:=bL6 h2'
 have hsl:=R4
 have sl2:2000<=i7:=by decide
 have nd1:(["place"]:List Str).Nodup:=by decide +kernel
 refine⟨_,j5 (bd6 (i:=1) bd0.nd rfl rfl (by rfl) (N':=["place"]) (lk:=[none]) rfl (W5 rfl B.range (a7 (A6 y7 (pv 0) k7 (fun _ _=>rfl)) c7)) (by rfl) rfl (by decide +kernel) (by exact trivial) (by rfl) (by exact LkL.ok trivial)
    (fun _ _ _=>B1 (i:=0) nd1 rfl (Or.inl rfl)) (fun _ _ _=>aj2) (fun _ _ _=>W6 c7))
  (j5 (U0 PassesOwn.never rfl (bX1 (ab4 (A6 y7 (pv 0) k7 (fun _ _ => rfl))) (am2 (A6 y7 (pv 0) k7 (fun _ _ => rfl)))) (ar0 rfl (J1 (B1 (i := 2) bd0.nd rfl (Or.inl rfl)) (J1 (B1 (i := 3) bd0.nd rfl (Or.inl rfl)) aj3)))
   (j5 (Q9 (az7 PySem.F.plainAttrs_list PySem.F.slot_list_append PySem.F.type_list_append O9 (A6 U5 (pv 1) (pv 2) (fun _ _=>rfl)) (a7 (pv 3) c7)))
   (n5 (Q9 (az7 PySem.F.plainAttrs_list PySem.F.slot_list_append PySem.F.type_list_append O9 (A6 U5 (pv 1) (pv 3) (fun _ _=>rfl)) (a7 (pv 2) c7))))))
  (n5 (B9 (pv 1)))),?_⟩
 have a0:atI ([.int n,.ref t]:List V) 0=some (.int n):=B5 (j:=0) rfl
 have a1:atI ([.int n,.ref t]:List V) 1=some (.ref t):=B5 (j:=1) rfl
 refine⟨_,rfl,wa,_,_,_,rfl,rfl,h1,a0,(n:Int),rfl,by omega,by omega,fun D hD=>?_⟩
 rw[P1]
 refine am5 (lo:=0) (n:=n) (D:=D) (fun i xs σ' H'=>(∃ v,σ'=[v])/\A0 H H'/\H' D=some (.lst xs)/\∃ ps:List Addr,xs=ps.map V.ref/\ps.length=i/\ps.Nodup/\D∉ps/\∀ p∈ps,H p=none/\H' p=some (.lst []))
  ⟨⟨none,rfl⟩,i8 hD,b9,[],rfl,rfl,C0,o7,fun p hp=>absurd hp o7⟩ (by omega) (fun i xs σ' H' hi' ⟨_,_,g,ps,e,l,_⟩=>⟨g,by rw[e,b8,l];exact c5 _⟩) ?_ ?_
 ·rintro i xs σ' H' N kN hi' ⟨⟨v,rfl⟩,s2,g2,ps,rfl,hpl,hnd,hout,hps⟩
  refine p6 (ad0 ?_)
  refine⟨by show 0<=i7;omega,fun x hx=>?_⟩
  have s3:=i8 (o:=.lst []) hx
  have nD:D≠x:=u6 g2 hx
  refine⟨s3 _ _ g2,kN _ _ _ ⟨⟨_,rfl⟩,(s2.trans s3).upd hD,b9,ps++[x],by rw[r6];rfl,by rw[j9,hpl];rfl,be7 hnd fun hm=>?_,fun hm=>?_,fun p hp=>?_⟩⟩
  ·have:=(hps x hm).2
   rw[hx]at this
   cases this
  ·rcases n8.mp hm with hm | hm
   ·exact hout hm
   ·exact nD (d6.mp hm)
  ·rcases n8.mp hp with hp | hp
   ·have hpD:p≠D:=fun z=>hout (by rw[<- z];exact hp)
    exact⟨(hps p hp).1,by rw[n4 hpD];exact s3 _ _ (hps p hp).2⟩
   ·rw[d6.mp hp]
    exact⟨s2.free hx,by rw[n4 (Ne.symm nD)];exact b9⟩
 ·rintro xs σ' H1 ⟨⟨v,rfl⟩,s1,g1,ps,rfl,hpl,hnd,hout,hps⟩
  have N1:NN H1 D ps (nbF (ks.take 0)) n:=⟨g1,hpl,fun i p e=>(hps p (d9 e)).2,hnd,hout⟩
  have hzl:=h3.len
  refine Or.imp (fun h=>⟨_,rfl,wa,_,_,_,rfl,rfl,s1.seqT h1,a1,h⟩) (fun h=>⟨_,rfl,wa,_,_,_,rfl,rfl,s1.seqT h1,a1,h⟩) (bu8 (K:=K) (a:=t) (xs:=zs) (h2.same s1) (fun m σ H2=>∃ e2 e3,σ=[some (.ref wa),some (.ref D),e2,e3]/\A0 H H2/\NN H2 D ps (nbF (ks.take m)) n)
   ⟨none,none,rfl,s1,N1⟩ (fun m σ H2 _ ⟨_,_,_,s,_⟩=>h2.same s) ?_ ?_)
  ·rintro m y σ H2 hy ⟨e2,e3,rfl,s2,N2⟩
   obtain⟨pa,k,rfl,hk,hq⟩:=h3.get hy
   obtain⟨i,j,hij,hj,rfl⟩:=hU k (d9 hk)
   refine⟨pa,_,rfl,s2.seqT hq,rfl,_,_,rfl,_,_,rfl,rfl,?_⟩
   obtain⟨p1,e1,g1',m1⟩:=N2.at (show i<n by omega)
   have l1:=aJ9 (ks.take m) i
   have l2:=aJ9 (ks.take m) j
   have lt:(ks.take m).length<=ks.length:=by rw[A4];omega
   refine⟨_,rfl,_,rfl,D,_,_,_,rfl,rfl,SqL.of N2.lst,B5 m1,.inl ⟨rfl,_,SqL.of g1'⟩,_,rfl,p1,_,_,rfl,rfl,g1',by rw[b8];omega,?_⟩
   have N3:=N2.put e1 (nbF (ks.take m) i++[(j:Int)])
   rw[r6]at N3
   obtain⟨p2,e2',g2',m2⟩:=N3.at hj
   have hne:¬ j=i:=by omega
   rw[if_neg hne]at g2'
   refine⟨_,rfl,_,rfl,D,_,_,_,rfl,rfl,SqL.of N3.lst,B5 m2,.inl ⟨rfl,_,SqL.of g2'⟩,_,rfl,p2,_,_,rfl,rfl,g2',by rw[b8];omega,?_⟩
   have N4:=N3.put e2' (nbF (ks.take m) j++[(i:Int)])
   rw[r6]at N4
   have hT:(fun x=>if x=j then nbF (ks.take m) j++[(i:Int)] else if x=i then nbF (ks.take m) i++[(j:Int)] else nbF (ks.take m) x)=nbF (ks.take (m+1)):=by
    funext x
    rw[bs9 hk x]
    show _=_++((if (i:Int)=(x:Int) then [(j:Int)] else [])++(if (j:Int)=(x:Int) then [(i:Int)] else []))
    by_cases hx:x=j
    ·subst hx
     rw[if_pos rfl,if_neg (by omega),if_pos rfl,L5]
    ·rw[if_neg hx,if_neg (show ¬ (j:Int)=(x:Int) by omega)]
     by_cases hx':x=i
     ·subst hx'
      rw[if_pos rfl,if_pos rfl,F6]
     ·rw[if_neg hx',if_neg (show ¬ (i:Int)=(x:Int) by omega),F6,F6]
   rw[hT]at N4
   exact⟨_,_,rfl,(s2.upd (hps p1 (d9 e1)).1).upd (hps p2 (d9 e2')).1,N4⟩
  ·rintro σ H2 ⟨e2,e3,rfl,s2,N2⟩
   rw[hzl,al3]at N2
   exact⟨_,rfl,q D ps H2 s2 N2⟩
end
end Web
namespace Web
open PySem L2
theorem bW6 (n:Nat)(z:Int):(B0 n [V.int z]).flatten=(B0 n z).map V.int:=by
 induction n with
 | zero=>rfl
 | succ n ih=>rw[G6,O4,ih,G6];rfl
theorem rep0 (n:Nat):(B0 n [V.int 0]).flatten=(tal n []).map V.int:=by
 rw[bc0]
 exact bW6 n 0
seal L2.PE L2.PA L2.PS L2.PSs L2.PT
section
variable {K:W.Frag} {mg:Str->Option Value} {base:Heap}
def bn9 (K:W.Frag):Sp:=fun vs H Q _=>∃ (p:Addr) (n:Nat) (ks:List (List Int)),vs=[.ref p]/\D3 K H p n ks/\n<=24/\(∀ k∈ks,ak9 n k)/\∀ l H',A0 H H'->H l=none->H' l=some (.lst ((tal n ks).map V.int))->Q (.ref l) H'
def bZ7 (K:W.Frag)(H:Hp)(p l:Addr)(n:Nat)(ks:List (List Int))(i:Nat)(σ:St)(H2:Hp):Prop:=∃ a b,σ=[some (.ref p),some (.ref l),a,b]/\A0 H H2/\H2 l=some (.lst ((tal n (ks.take i)).map V.int))
theorem aw2:A1 ["web","tally","one","other"] ["web"] (p5 aq8):=.mk'
theorem bs6 (F:Fun K "tally_of" "tally_of" aq8 f fd):A2 P w K mg base CX0 1 f fd ["web"] (bn9 K):=by
 refine F.ok aw2 (fun cdv A outer s H vs Q E hr h=>?_)
 obtain⟨p,n,ks,rfl,⟨t,zs,h1,h2,h3⟩,hn,hE,q⟩:=h
 have hsl:=R4
 refine⟨_,j5 (B3 (i:=1) aw2.nd rfl (Or.inl rfl) (C5 bN4 (W6 (a7 k7 c7)) (A6 y7 (pv 0) k7 (fun _ _=>rfl))))
  (j5 (U0 PassesOwn.never rfl (am2 (A6 y7 (pv 0) k7 (fun _ _ => rfl))) (ar0 rfl (J1 (B1 (i := 2) aw2.nd rfl (Or.inl rfl)) (J1 (B1 (i := 3) aw2.nd rfl (Or.inl rfl)) aj3)))
   (j5 (bd7 (pv 1) (pv 2) aS7 k7 bu0 set_list) (n5 (bd7 (pv 1) (pv 3) aS7 k7 bu0 set_list))))
  (n5 (B9 (pv 1)))),?_⟩
 have a0:atI ([.int n,.ref t]:List V) 0=some (.int n):=B5 (j:=0) rfl
 have a1:atI ([.int n,.ref t]:List V) 1=some (.ref t):=B5 (j:=1) rfl
 refine⟨(by show 1<=i7;decide),fun l0 f0=>?_⟩
 have s0:=i8 (o:=.lst [.int 0]) f0
 refine⟨_,rfl,p,_,_,_,rfl,rfl,s0.seqT h1,a0,l0,n,[.int 0],rfl,rfl,b9,by omega,by omega,?_,fun l hl=>?_⟩
 ·show 1*(n:Int).toNat<=i7
  omega
 have en:(n:Int).toNat=n:=by omega
 rw[en,rep0]
 have s1:=s0.trans (i8 (o:=.lst ((tal n []).map V.int)) hl)
 have g1:(upd (upd H l0 (.lst [.int 0])) l (.lst ((tal n []).map V.int))) l=some (.lst ((tal n []).map V.int)):=b9
 have fl:H l=none:=s0.free hl
 generalize upd (upd H l0 (.lst [.int 0])) l (.lst ((tal n []).map V.int))=H1 at s1 g1 ⊢
 have hz:=h3.len
 refine⟨_,rfl,p,_,_,_,rfl,rfl,s1.seqT h1,a1,t,rfl,⟨_,s1.seqT h2⟩,?_⟩
 refine aw9 (K:=K) (a:=t) (xs:=zs) (bZ7 K H p l n ks) ⟨none,none,rfl,s1,by rw[ba6];exact g1⟩ (fun i σ H2 _ ⟨_,_,_,s2,_⟩=>s2.seqT h2) ?_ ?_
 ·rintro i x σ H2 hx ⟨ea,eb,rfl,s2,g2⟩
  obtain⟨pa,pk,rfl,hk,hq⟩:=h3.get hx
  obtain⟨i1,j1,u1,u2,u3,epk⟩:=hE pk (d9 hk)
  have hq2:=s2.seqT hq
  rw[epk]at hq2
  refine⟨pa,_,rfl,hq2,rfl,_,_,rfl,_,_,rfl,rfl,?_⟩
  have t1:((tal n (ks.take i)).map V.int)[i1]?=some (.int (F3 (ks.take i) i1)):=by rw[j6,ae3 u1];rfl
  have t2:(((tal n (ks.take i)).map V.int).set i1 (.int ((F3 (ks.take i) i1:Int)+1)))[j1]?=some (.int (F3 (ks.take i) j1)):=by
   rw[T7 u3,j6,ae3 u2];rfl
  have lt:((tal n (ks.take i)).map V.int).length=n:=by rw[b8,N5]
  refine⟨_,rfl,_,rfl,l,_,_,_,rfl,rfl,SqL.of g2,B5 t1,_,_,rfl,rfl,l,_,_,i1,rfl,rfl,g2,by rw[lt];exact bf2 u1,?_⟩
  refine⟨_,rfl,_,rfl,l,_,_,_,rfl,rfl,SqL.of b9,B5 t2,_,_,rfl,rfl,l,_,_,j1,rfl,rfl,b9,by rw[aU4,lt];exact bf2 u2,?_⟩
  refine⟨_,_,rfl,?_,?_⟩
  ·rw[by6]
   exact s2.upd fl
  ·rw[b9,B8,hk,av2,epk,<- bb8 u1 u2 u3 (ks.take i) _ _ rfl rfl,List.map_set,List.map_set]
 ·rintro σ H2 ⟨ea,eb,rfl,s2,g2⟩
  rw[p8 (by omega)]at g2
  exact⟨_,rfl,q l H2 s2 fl g2⟩
end
end Web
namespace Web
open PySem L2
section
variable {K:W.Frag} {mg:Str->Option Value} {base:Heap}
def bt9 (ns:List Int):Prop:=1<=ns.length/\ns.length<=24
def Sq (K:W.Frag)(H:Hp)(a:Addr)(ns:List Int):Prop:=SqL K H a (ns.map V.int)\/SqT K H a (ns.map V.int)
theorem Sq.same (h:Sq K H a ns)(s:A0 H H'):Sq K H' a ns:=h.elim (fun h=>.inl (s.seq h)) fun h=>.inr (s.seqT h)
def bG9 (K:W.Frag)(CB:Addr):Sp:=fun vs H Q E=>∃ (a:Addr) (ns:List Int),vs=[.ref a]/\Sq K H a ns/\(bt9 ns->Q .non H)/\(¬ bt9 ns->E (.ref CB) none H)
theorem bW1:A1 ["tally"] ["tally"] (p5 bq1):=.mk'
theorem bO8 {CB:Addr}{tk:Tok}(F:Fun K "check_tally" "check_tally" bq1 f fd)(B:Bn mg)(mM:mg "MOST_PLACES"=some (.int 24 tk))(mB:mg "BadTally"=some (.ref CB))(cB:aM3 K CB):A2 P w K mg base (CXE P w) 1 f fd ["tally"] (bG9 K CB):=by
 refine F.okX bW1 (fun cdv A outer s H vs Q E hr h=>?_)
 obtain⟨a,ns,rfl,hS,h1,h2⟩:=h
 refine⟨_,n5 (K7 (M4 (az3 aA0 aA0 k7 (v9 L3 (by rfl) B.len PySem.boot_len (a7 (pv 0) c7)) (Z0 (v:=.int 24) (by rfl) mM ⟨tk,rfl⟩))) (n5 (az4 (by rfl) mB cB)) C6),?_⟩
 refine⟨_,rfl,a,_,rfl,hS,_,_,rfl,rfl,_,rfl,?_⟩
 rw[b8]
 by_cases hp:(1:Int)<=(ns.length:Int)
 ·rw[decide_eq_true hp]
  refine R5 ⟨_,_,rfl,rfl,_,rfl,?_⟩
  by_cases hp':(ns.length:Int)<=24
  ·rw[decide_eq_true hp']
   exact G5 (h1 ⟨by omega,by omega⟩)
  ·rw[decide_eq_false hp']
   exact R5 (h2 fun z=>hp' (by have:=z.2;omega))
 ·rw[decide_eq_false hp]
  exact G5 ⟨_,rfl,R5 (h2 fun z=>hp (by have:=z.1;omega))⟩
end
def bX6 (st:Stmt):Pos:=match (X3 st).getD 1 (.Pass ⟨0,0,0,0⟩) with
 | .Return (some (.Call _ _ [⟨_,.Lambda _ _ _ p,_⟩] _)) _=>p
 | _=>⟨0,0,0,0⟩
def cb5:Str:=(("order_of":Str)++(".<locals>.":Str))++("<lambda>":Str)
abbrev Tb (P:Addr)(H:Hp):Prop:=L4 P (bX6 bi0) cb5 H
theorem O0.sqL {K:W.Frag}{P:Addr}{xs:List V}(g:O0 P H H')(t:L4 P po qu H)(h:SqL K H a xs):SqL K H' a xs:=by
 obtain⟨ps,hP,_⟩:=t
 rcases h with(h | ⟨o,h⟩) | h
 ·exact .inl (.inl (g a _ (fun z=>by rw[z,hP]at h;cases h) h))
 ·exact .inl (.inr ⟨o,g a _ (fun z=>by rw[z,hP]at h;cases h) h⟩)
 ·exact .inr h
theorem O0.sqT {K:W.Frag}{P:Addr}{xs:List V}(g:O0 P H H')(t:L4 P po qu H)(h:SqT K H a xs):SqT K H' a xs:=by
 obtain⟨ps,hP,_⟩:=t
 rcases h with(h | ⟨o,h⟩) | h
 ·exact .inl (.inl (g a _ (fun z=>by rw[z,hP]at h;cases h) h))
 ·exact .inl (.inr ⟨o,g a _ (fun z=>by rw[z,hP]at h;cases h) h⟩)
 ·exact .inr h
theorem Sq.grow {K:W.Frag}{P:Addr}(h:Sq K H a ns)(g:O0 P H H')(t:L4 P po qu H):Sq K H' a ns:=h.elim (fun h=>.inl (O0.sqL g t h)) fun h=>.inr (O0.sqT g t h)
theorem aG7.one (h:X.N[j]?=some x/\(X.env.scope.names.lookup x=some .cell\/X.env.scope.names.lookup x=some .free)/\(cl.lookup x).isSome=true/\(scope.names.lookup x=some .cell\/scope.names.lookup x=some .free)) :
  aG7 X [x] [some j] scope cl:=⟨rfl,fun i j' y e1 e2=>by
 cases i with
 | zero =>
  have e1':x=y:=by simpa using e1
  have e2':j=j':=by simpa using e2
  subst e1' e2'
  exact h
 | succ i=>simp at e1⟩
theorem bN0 {a b:Expr}{tb:TE}(K:W.Frag)(hK:X.K=K)(ha:PE X a ta)(hb:PE X b tb)(hs:ax5 b):PE X (.Subscript a b pos) (tOp (rIx K) ta tb):=by
 cases hK
 exact A6 bt8 ha hb hs
section
variable {K:W.Frag} {mg:Str->Option Value} {base:Heap}
def bo4 (K:W.Frag)(CB PT:Addr):Sp:=fun vs H Q E=>∃ (a:Addr) (ns:List Int),vs=[.ref a]/\Sq K H a ns /\
 (bt9 ns->Tb PT H/\∀ (zs:List Int) (D:Addr) (H':Hp),O0 PT H H'->Tb PT H'->H' D=some (.lst (zs.map V.int))->zs.Perm (rng ns.length)->zs.Pairwise (ole ns)->Q (.ref D) H')/\(¬ bt9 ns->E (.ref CB) none H)
theorem bV7:A1 ["tally"] ["tally"] (p5 bi0):=.mk'
theorem bO1 {fT CB c PT:Addr} {tk:Tok} (F:Fun K "order_of" "order_of" bi0 f fd) (hc:fd.code=.ref c) (LB:aL9 base mg c PT) (B:Bn mg) (FT:Fq K mg "check_tally" bq1 fT fdT ["tally"])
  (mM:mg "MOST_PLACES"=some (.int 24 tk)) (mB:mg "BadTally"=some (.ref CB)) (cB:aM3 K CB):A2 P w K mg base (CXE P w) 2 f fd ["tally"] (bo4 K CB PT):=by
 have GT:A2 P w K mg base (CXE P w) 1 fT fdT ["tally"] (bG9 K CB):=bO8 FT.F B mM mB cB
 refine F.okXC hc bV7 (fun A outer s H vs Q E hr h=>?_)
 obtain⟨a,ns,rfl,hS,h1,h2⟩:=h
 have hsl:=R4
 refine⟨_,j5 (Q9 (A7 GT hr (by rfl) FT bX3 (a7 (pv 0) c7)))
  (n5 (B9 (br5 (p := "place") (N' := ["tally"]) (lk := [some 0]) rfl hr.depth (by rfl) B.sorted (a7 (bA8 (by rfl) B.range (a7 (v9 L3 (by rfl) B.len PySem.boot_len (a7 (pv 0) c7)) c7)) c7)
   LB rfl (by rfl) (by rfl) rfl rfl rfl (by exact⟨rfl,trivial⟩) (by rfl) (by exact aG7.one ⟨rfl,Or.inl rfl,rfl,Or.inr rfl⟩) rfl (fun _ _ _ _=>rfl)
   (fun _ _ _ _=>G1 (a7 (bX2 bK5 (bN0 K rfl (pv 1) (pv 0) (fun _ _=>rfl))) (a7 (pv 0) c7)))))),?_⟩
 refine⟨_,rfl,a,ns,rfl,hS,fun ht=>?_,h2⟩
 obtain⟨tb,q⟩:=h1 ht
 refine⟨_,rfl,a,_,rfl,hS,(ns.map V.int).length,rfl,by rw[b8];have:=ht.2;omega,fun r hr0=>?_⟩
 have s0:=i8 (o:=.rng 0 ((ns.map V.int).length:Int)) hr0
 have tb1:Tb PT (upd H r (.rng 0 ((ns.map V.int).length:Int))):=tb.same s0
 refine⟨r,(ns.map V.int).length,bi9 ns,rfl,b9,by rw[b8];have:=ht.2;omega,bB7 ns,tb1,fun H2 g2 tb2=>⟨fun H3 z sm hz=>?_,fun H' D zs sm hD hp hs=>?_⟩⟩
 ·have hS3:Sq K H3 a ns:=((hS.same s0).grow g2 tb1).same sm
  rw[b8]at hz
  have hat:atI (ns.map V.int) (z:Int)=some (.int (ns.getD z 0)):=B5 (j:=z) (by simp[hz])
  have fin:∀ k,H3 k=none->(∃ k',(V.ref k:V)=.ref k'/\(upd H3 k (.tup [.int (-(ns.getD z 0)),.int z])) k'=some (.tup ((bi9 ns z).map V.int))/\A0 H3 (upd H3 k (.tup [.int (-(ns.getD z 0)),.int z]))):=fun k hk=>⟨k,rfl,b9,i8 hk⟩
  rcases hS3 with h3 | h3
  ·exact⟨_,rfl,_,rfl,.inl ⟨a,_,_,_,rfl,rfl,h3,hat,_,rfl,_,rfl,(by show 2<=i7;decide),fin⟩⟩
  ·exact⟨_,rfl,_,rfl,.inr (.inl ⟨a,_,_,_,rfl,rfl,h3,hat,_,rfl,_,rfl,(by show 2<=i7;decide),fin⟩)⟩
 ·have sD:=i8 (o:=.lst (zs.map V.int)) hD
  rw[b8]at hp
  exact q zs D _ (((s0.grow PT).trans g2).trans ((sm.trans sD).grow PT)) (tb2.same (sm.trans sD)) b9 hp hs
end
theorem bD6 {a b:List Int}(ha:Up n a)(hb:Up n b)(hne:a≠b)(h:Tim.K9 b a=false):Tim.K9 a b=true:=by
 obtain⟨i,j,_,_,rfl⟩:=ha
 obtain⟨u,v,_,_,rfl⟩:=hb
 unfold Tim.K9 Tim.K9 at h ⊢
 by_cases e1:(u:Int)=i
 ·rw[if_pos e1]at h
  rw[if_pos e1.symm]
  by_cases e2:(v:Int)=j
  ·exact absurd (by rw[e1,e2]) hne
  ·rw[if_neg e2]at h
   rw[if_neg (Ne.symm e2)]
   have:=of_decide_eq_false h
   exact decide_eq_true (by omega)
 ·rw[if_neg e1]at h
  rw[if_neg (Ne.symm e1)]
  have:=of_decide_eq_false h
  exact decide_eq_true (by omega)
theorem bw0 {ks:List (List Int)}(ups:∀ k∈ks,Up n k)(nd:ks.Nodup)(so:ks.Pairwise (fun a b=>Tim.K9 b a=false)):Asc ks:=by
 have h2:=List.nodup_iff_pairwise_ne.mp nd
 have h3:=so.and h2
 exact List.Pairwise.imp_of_mem (fun {a b} ha hb h=>bD6 (ups a ha) (ups b hb) h.2 h.1) h3
structure Wbs (n:Nat) (ks:List (List Int)):Prop where
 up:∀ k∈ks,Up n k
 nd:ks.Nodup
 so:ks.Pairwise (fun a b=>Tim.K9 b a=false)
theorem Wbs.eq {ks:List (List Int)}(h:Wbs n ks)(g:Wbs n ls)(e:∀ k,k∈ks↔k∈ls):ks=ls:=
 aB5 (bw0 g.up g.nd g.so) ((L9 h.nd g.nd).mpr e) h.so
def lck (ks ls:List (List Int)):List (List Int):=ks.filter fun k=>!decide (k∈ls)
theorem K1 {ks:List (List Int)}:k∈lck ks ls↔k∈ks/\k∉ls:=by
 unfold lck
 rw[p9]
 simp
theorem Wbs.lck {ks:List (List Int)}(h:Wbs n ks):Wbs n (lck ks ls):=⟨fun k hk=>h.up k (K1.mp hk).1,h.nd.filter _,h.so.filter _⟩
theorem bD2 {x:Nat}{y:Int}(hk:Up n k)(h:y∈nb1 x k):up [(x:Int),y]=k:=by
 obtain⟨i,j,h1,h2,rfl⟩:=hk
 rcases n8.mp h with h | h
 ·by_cases e:(i:Int)=(x:Int)
  ·rw[if_pos e]at h
   rw[d6.mp h,<- e,as9 (by omega)]
  ·rw[if_neg e]at h;cases h
 ·by_cases e:(j:Int)=(x:Int)
  ·rw[if_pos e]at h
   rw[d6.mp h,<- e,Y8,as9 (by omega)]
  ·rw[if_neg e]at h;cases h
theorem be8 {x:Nat}(hk:Up n k):(nb1 x k).length=if decide ((x:Int)∈k)=true then 1 else 0:=by
 obtain⟨i,j,h1,h2,rfl⟩:=hk
 show (((if (i:Int)=(x:Int) then [(j:Int)] else [])++(if (j:Int)=(x:Int) then [(i:Int)] else []):List Int)).length=_
 rw[j9]
 by_cases e:(i:Int)=(x:Int)
 ·rw[if_pos e,if_neg (by omega),if_pos (by rw[decide_eq_true_eq,<- e];exact c6)]
  rfl
 ·by_cases e':(j:Int)=(x:Int)
  ·rw[if_neg e,if_pos e',if_pos (by rw[decide_eq_true_eq,<- e'];simp)]
   rfl
  ·rw[if_neg e,if_neg e',if_neg (by
    rw[decide_eq_true_eq,c8,d6]
    omega)]
   rfl
theorem aJ8 (x:Nat):∀ {ks:List (List Int)},(∀ k∈ks,Up n k)->(nbF ks x).length=F3 ks x
 | [],_=>rfl
 | k::ks,h=>by
  have ih:=aJ8 x fun k hk=>h k (d3 _ hk)
  unfold nbF F3 at *
  rw[bS6,j9,ih,be8 (h k c6),aM7]
  omega
theorem bH8 (x:Nat):∀ {ks:List (List Int)},(∀ k∈ks,Up n k)->ks.Nodup->(nbF ks x).Nodup
 | [],_,_=>C0
 | k::ks,h,nd=>by
  have ih:=bH8 x (fun k hk=>h k (d3 _ hk)) (m9.mp nd).2
  show (nb1 x k++nbF ks x).Nodup
  have hk:=h k c6
  refine Z4.mpr ⟨?_,ih,fun y hy z hz e=>?_⟩
  ·have:=be8 (x:=x) hk
   match e:nb1 x k,this with
   | [],_=>exact C0
   | [y],_=>simp
   | _::_::_,this =>
    rw[o6,o6]at this
    split at this<;>omega
  ·subst e
   have e1:=bD2 hk hy
   obtain⟨Y,_,eY,hm⟩:=(U4 (fun k hk=>h k (d3 _ hk)) x y).mp hz
   rw[<- eY,e1]at hm
   exact(m9.mp nd).1 hm
theorem bE8 {ks:List (List Int)}{p:Nat}(hk:ks.Nodup)(hl:ls.Nodup)(h:F3 ks p=F3 ls p):F3 (lck ks ls) p=F3 (lck ls ks) p:=by
 have h1:F3 ks p=F3 (ks.filter fun k=>decide (k∈ls)) p+F3 (lck ks ls) p:=aC3 _ _ _
 have h2:F3 ls p=F3 (ls.filter fun k=>decide (k∈ks)) p+F3 (lck ls ks) p:=aC3 _ _ _
 have pm:(ks.filter fun k=>decide (k∈ls)).Perm (ls.filter fun k=>decide (k∈ks)):=(L9 (hk.filter _) (hl.filter _)).mpr fun k=>by
  rw[p9,p9,decide_eq_true_eq,decide_eq_true_eq]
  exact and_comm
 have h3:F3 (ks.filter fun k=>decide (k∈ls)) p=F3 (ls.filter fun k=>decide (k∈ks)) p:=pm.countP_eq _
 omega
theorem bc1 {p:Nat}{ks:List (List Int)}(h:tal n ks=tal n ls)(hp:p<n):F3 ks p=F3 ls p:=by
 have h1:=ac9 (ks:=ks) hp
 have h2:=ac9 (ks:=ls) hp
 rw[h]at h1
 omega
theorem aZ0 {n p q:Nat}{ks:List (List Int)}(h:up [(p:Int),(q:Int)]∈ks):1<=F3 ks p:=by
 unfold F3
 refine List.one_le_countP_iff.mpr ⟨_,h,?_⟩
 rw[decide_eq_true_eq]
 show (p:Int)∈[(if (q:Int)<(p:Int) then (q:Int) else (p:Int)),(if (q:Int) > (p:Int) then (q:Int) else (p:Int))]
 by_cases e:(q:Int)<(p:Int)
 ·rw[if_pos e,if_neg (by omega)];simp
 ·rw[if_neg e];exact c6
noncomputable def nrB (n:Nat)(ks ls:List (List Int)):Nat:=((aQ5 (tal n (lck ks ls))).headD 0).toNat
noncomputable def nrC (n:Nat)(ks ls:List (List Int)):Nat:=((nbF (lck ls ks) (nrB n ks ls)).headD 0).toNat
noncomputable def nrD (n:Nat)(ks ls:List (List Int)):Nat:=((nbF (lck ks ls) (nrC n ks ls)).headD 0).toNat
noncomputable def bf8 (n:Nat)(ks ls:List (List Int)):List Int:=(nbF (lck ks ls) (nrB n ks ls)).filter fun e=>!decide (e=(nrD n ks ls:Int)) && !decide (e∈nbF (lck ks ls) (nrD n ks ls))
noncomputable def nrA (n:Nat)(ks ls:List (List Int)):Nat:=((bf8 n ks ls).headD 0).toNat
structure Nr (n:Nat) (ks ls:List (List Int)) (a b c d:Nat):Prop where
 hb:∃ r,aQ5 (tal n (lck ks ls))=(b:Int)::r
 hc:∃ r,nbF (lck ls ks) b=(c:Int)::r
 hd:∃ r,nbF (lck ks ls) c=(d:Int)::r
 ha:∃ r,(nbF (lck ks ls) b).filter (fun e=>!decide (e=(d:Int)) && !decide (e∈nbF (lck ks ls) d))=(a:Int)::r
 lt:a<n/\b<n/\c<n/\d<n
 ab:up [(a:Int),(b:Int)]∈lck ks ls
 cd:up [(c:Int),(d:Int)]∈lck ks ls
 cb:up [(c:Int),(b:Int)]∈lck ls ks
 go:Fits n ks a b c d\/(up [(a:Int),(d:Int)]∈ks/\Fits n ls a d c b)
theorem bf5 {l:List Int}(h:l≠[])(hp:∀ x∈l,0<=x):∃ r,l=((l.headD 0).toNat:Int)::r:=by
 cases l with
 | nil=>exact absurd rfl h
 | cons x r=>exact⟨r,by have:=hp x c6;show x::r=((x.toNat:Nat):Int)::r;rw[V6 this]⟩
theorem be6 {ks:List (List Int)}(W1:Wbs n ks)(W2:Wbs n ls)(ht:tal n ks=tal n ls)(hne:ks≠ls):Nr n ks ls (nrA n ks ls) (nrB n ks ls) (nrC n ks ls) (nrD n ks ls):=by
 have hc:∀ p,p<n->F3 (lck ks ls) p=F3 (lck ls ks) p:=fun p hp=>bE8 W1.nd W2.nd (bc1 ht hp)
 have U1:=(W1.lck (ls:=ls)).up
 have U2:=(W2.lck (ls:=ks)).up
 have N1:=(W1.lck (ls:=ls)).nd
 have N2:=(W2.lck (ls:=ks)).nd
 have some1:∃ p,p<n/\1<=F3 (lck ks ls) p:=by
  apply Classical.byContradiction
  intro hno
  apply hne
  refine W1.eq W2 fun k=>⟨fun hk=>?_,fun hk=>?_⟩
  ·apply Classical.byContradiction
   intro z
   have hm:=K1.mpr ⟨hk,z⟩
   obtain⟨i,j,h1,h2,rfl⟩:=U1 k hm
   rw[<- as9 (show (i:Int)<(j:Int) by omega)]at hm
   exact hno ⟨i,by omega,aZ0 (n:=n) hm⟩
  ·apply Classical.byContradiction
   intro z
   have hm:=K1.mpr ⟨hk,z⟩
   obtain⟨i,j,h1,h2,rfl⟩:=U2 k hm
   rw[<- as9 (show (i:Int)<(j:Int) by omega)]at hm
   refine hno ⟨i,by omega,?_⟩
   rw[hc i (by omega)]
   exact aZ0 (n:=n) hm
 obtain⟨p0,hp0,hp1⟩:=some1
 have hlen:(tal n (lck ks ls)).length=n:=N5 _ _
 have op:=aE3 (tal n (lck ks ls))
 rw[hlen]at op
 have onn:aQ5 (tal n (lck ks ls))≠[]:=fun z=>by
  rw[z]at op
  have:=op.length_eq
  unfold rng at this
  simp at this
  omega
 have hin:∀ x,x∈aQ5 (tal n (lck ks ls))↔∃ i:Nat,i<n/\x=(i:Int):=fun x=>by
  rw[op.mem_iff]
  unfold rng
  rw[o9]
  constructor
  ·rintro⟨i,hi,rfl⟩
   exact⟨i,by have:=ai5.mp hi;omega,rfl⟩
  ·rintro⟨i,hi,rfl⟩
   exact⟨i,ai5.mpr ⟨n9 _,by omega⟩,rfl⟩
 obtain⟨r1,e1⟩:=bf5 onn fun x hx=>by obtain⟨i,_,rfl⟩:=(hin x).mp hx;omega
 have eb:(((aQ5 (tal n (lck ks ls))).headD 0).toNat)=nrB n ks ls:=rfl
 rw[eb]at e1
 have hbn:nrB n ks ls<n:=by
  obtain⟨i,hi,e⟩:=(hin (nrB n ks ls:Int)).mp (by rw[e1];exact c6)
  omega
 have hmax:∀ p,p<n->F3 (lck ks ls) p<=F3 (lck ks ls) (nrB n ks ls):=fun p hp=>by
  have hs:=aE2 (tal n (lck ks ls))
  have hm:=(hin (p:Int)).mpr ⟨p,hp,rfl⟩
  rw[e1]at hs hm
  rcases c8.mp hm with e | hm
  ·rw[show p=nrB n ks ls by omega]
   exact c5 _
  ·have:=aJ6.mp ((F7.mp hs).1 _ hm)
   rw[P1,P1,ac9 hp,ac9 hbn]at this
   omega
 have hB1:1<=F3 (lck ks ls) (nrB n ks ls):=t9 hp1 (hmax p0 hp0)
 have nat_of:∀ {qs:List (List Int)} {x:Nat},(∀ k∈qs,Up n k)->∀ y∈nbF qs x,0<=y:=fun hU y hy=>by
  obtain⟨Y,_,rfl,_⟩:=(U4 hU _ y).mp hy
  omega
 have aE4:∀ {qs:List (List Int)} {x:Nat},(∀ k∈qs,Up n k)->1<=F3 qs x->nbF qs x≠[]:=fun hU h z=>by
  have:=aJ8 _ hU ▸ h
  rw[z]at this
  exact absurd this (by decide)
 have up_ne:∀ {x y:Nat},Up n (up [(x:Int),(y:Int)])->x≠y:=fun {x y} ⟨i,j,h1,_,e⟩ z=>by
  subst z
  have e':[(if (x:Int)<(x:Int) then (x:Int) else (x:Int)),(if (x:Int) > (x:Int) then (x:Int) else (x:Int))]=[(i:Int),(j:Int)]:=e
  rw[if_neg (by omega)]at e'
  injection e' with e1 e2
  injection e2 with e2 _
  omega
 obtain⟨r2,e2⟩:=bf5 (aE4 U2 (by rw[<- hc _ hbn];exact hB1)) (nat_of U2)
 rw[show ((nbF (lck ls ks) (nrB n ks ls)).headD 0).toNat=nrC n ks ls from rfl]at e2
 obtain⟨Y,hcn,eY,hbc⟩:=(U4 U2 (nrB n ks ls) (nrC n ks ls:Int)).mp (by rw[e2];exact c6)
 have eY:Y=nrC n ks ls:=by omega
 subst eY
 have hcb:up [(nrC n ks ls:Int),(nrB n ks ls:Int)]∈lck ls ks:=by rw[Y8];exact hbc
 have hC1:1<=F3 (lck ks ls) (nrC n ks ls):=by rw[hc _ hcn];exact aZ0 (n:=n) hcb
 obtain⟨r3,e3⟩:=bf5 (aE4 U1 hC1) (nat_of U1)
 rw[show ((nbF (lck ks ls) (nrC n ks ls)).headD 0).toNat=nrD n ks ls from rfl]at e3
 obtain⟨Y,hdn,eY,hcd⟩:=(U4 U1 (nrC n ks ls) (nrD n ks ls:Int)).mp (by rw[e3];exact c6)
 have eY:Y=nrD n ks ls:=by omega
 subst eY
 have apart:∀ {k:List Int},k∈lck ks ls->k∈lck ls ks->False:=fun h1 h2=>(K1.mp h2).2 (K1.mp h1).1
 have hCd:(nrC n ks ls:Int)∈nbF (lck ks ls) (nrD n ks ls):=(U4 U1 _ _).mpr ⟨_,hcn,rfl,by rw[Y8];exact hcd⟩
 have hCb:(nrC n ks ls:Int)∉nbF (lck ks ls) (nrB n ks ls):=fun z=>by
  obtain⟨Y,_,eY,h⟩:=(U4 U1 _ _).mp z
  rw[<- eY]at h
  exact apart h hbc
 have hle:(nbF (lck ks ls) (nrD n ks ls)).length<=(nbF (lck ks ls) (nrB n ks ls)).length:=by
  rw[aJ8 _ U1,aJ8 _ U1]
  exact hmax _ hdn
 have nB:=bH8 (nrB n ks ls) U1 N1
 have bc:=up_ne (U2 _ hbc)
 have ann:bf8 n ks ls≠[]:=fun z=>by
  have all:∀ e∈nbF (lck ks ls) (nrB n ks ls),e=(nrD n ks ls:Int)\/e∈nbF (lck ks ls) (nrD n ks ls):=fun e he=>by
   have:=bm1.mp z e he
   by_cases h1:e=(nrD n ks ls:Int)
   ·exact .inl h1
   ·by_cases h2:e∈nbF (lck ks ls) (nrD n ks ls)
    ·exact .inr h2
    ·exact absurd (by rw[decide_eq_false h1,decide_eq_false h2];rfl) this
  by_cases hD:(nrD n ks ls:Int)∈nbF (lck ks ls) (nrB n ks ls)
  ·have hBd:(nrB n ks ls:Int)∈nbF (lck ks ls) (nrD n ks ls):=by
    obtain⟨Y,_,eY,h⟩:=(U4 U1 _ _).mp hD
    rw[<- eY]at h
    exact(U4 U1 _ _).mpr ⟨_,hbn,rfl,by rw[Y8];exact h⟩
   have hBb:(nrB n ks ls:Int)∉nbF (lck ks ls) (nrB n ks ls):=fun z=>by
    obtain⟨Y,_,eY,h⟩:=(U4 U1 _ _).mp z
    rw[<- eY]at h
    exact up_ne (U1 _ h) rfl
   have nd:((nrB n ks ls:Int)::(nrC n ks ls:Int)::(nbF (lck ks ls) (nrB n ks ls)).erase (nrD n ks ls:Int)).Nodup:=by
    refine m9.mpr ⟨fun z=>?_,m9.mpr ⟨fun z=>hCb (bw8 z),nB.erase _⟩⟩
    rcases c8.mp z with e | z
    ·omega
    ·exact hBb (bw8 z)
   have:=nd.length_le_of_subset (l₂:=nbF (lck ks ls) (nrD n ks ls)) fun e he=>by
    rcases c8.mp he with rfl | he
    ·exact hBd
    ·rcases c8.mp he with rfl | he
     ·exact hCd
     ·obtain⟨h1,h2⟩:=nB.mem_erase_iff.mp he
      exact(all e h2).resolve_left h1
   rw[o6,o6,O7 hD]at this
   have:=an3 hD
   omega
  ·have nd:((nrC n ks ls:Int)::nbF (lck ks ls) (nrB n ks ls)).Nodup:=m9.mpr ⟨hCb,nB⟩
   have:=nd.length_le_of_subset (l₂:=nbF (lck ks ls) (nrD n ks ls)) fun e he=>by
    rcases c8.mp he with rfl | he
    ·exact hCd
    ·exact(all e he).resolve_left fun z=>hD (z ▸ he)
   rw[o6]at this
   omega
 obtain⟨r4,e4⟩:=bf5 ann fun e he=>nat_of U1 e (p9.mp he).1
 rw[show ((bf8 n ks ls).headD 0).toNat=nrA n ks ls from rfl]at e4
 have hA:=p9.mp (show (nrA n ks ls:Int)∈bf8 n ks ls by rw[e4];exact c6)
 obtain⟨Y,han,eY,hba⟩:=(U4 U1 _ _).mp hA.1
 have eY:Y=nrA n ks ls:=by omega
 subst eY
 have hA2:=hA.2
 rw[v7,O5,O5,decide_eq_false_iff_not,decide_eq_false_iff_not]at hA2
 obtain⟨had,hadn⟩:=hA2
 have hab:up [(nrA n ks ls:Int),(nrB n ks ls:Int)]∈lck ks ls:=by rw[Y8];exact hba
 have ab:=up_ne (U1 _ hab)
 have cd:=up_ne (U1 _ hcd)
 have ac:nrA n ks ls≠nrC n ks ls:=fun z=>by
  rw[z]at hab
  exact apart hab hcb
 have bd:nrB n ks ls≠nrD n ks ls:=fun z=>by
  rw[<- z]at hcd
  exact apart hcd hcb
 have ok:∀ {x y z u:Nat},x<n->y<n->z<n->u<n->x≠y->x≠z->x≠u->y≠z->y≠u->z≠u->OkP n [(x:Int),(y:Int),(z:Int),(u:Int)]:=fun h1 h2 h3 h4 g1 g2 g3 g4 g5 g6=>by
  refine(X1 n _).mpr ⟨fun v hv=>?_,?_⟩
  ·simp only[c8,o7,or_false]at hv
   omega
  ·simp only[m9,c8,o7,or_false,not_or]
   refine⟨⟨by omega,by omega,by omega⟩,⟨by omega,by omega⟩,by omega,not_false,C0⟩
 refine⟨⟨r1,e1⟩,⟨r2,e2⟩,⟨r3,e3⟩,⟨r4,e4⟩,⟨han,hbn,hcn,hdn⟩,hab,hcd,hcb,?_⟩
 by_cases hk:up [(nrA n ks ls:Int),(nrD n ks ls:Int)]∈ks
 ·right
  refine⟨hk,ok han hdn hcn hbn (by omega) ac ab (by omega) (by omega) (by omega),?_,(K1.mp hcb).1,(K1.mp hab).2,(K1.mp hcd).2⟩
  apply Classical.byContradiction
  intro z
  exact hadn ((U4 U1 _ _).mpr ⟨_,han,rfl,by rw[Y8];exact K1.mpr ⟨hk,z⟩⟩)
 ·left
  exact⟨ok han hbn hcn hdn ab ac (by omega) bc bd cd,(K1.mp hab).1,(K1.mp hcd).1,hk,(K1.mp hcb).2⟩
theorem be9 {n:Nat}{ks out:List (List Int)}{x y z:List Int}(hnd:out.Nodup)(nd:(lck ks ls).Nodup)(hx:x∈out)(hy:y∈out)(hxy:x≠y)(h:∀ k∈lck ks ls,k=z\/(k∈out/\k≠x/\k≠y)):(lck ks ls).length<out.length:=by
 have h1:=nd.length_le_of_subset (l₂:=z::(out.erase x).erase y) fun k hk=>by
  rcases h k hk with e | ⟨h1,h2,h3⟩
  ·rw[e];exact c6
  ·exact d3 _ ((hnd.erase _).mem_erase_iff.mpr ⟨h3,hnd.mem_erase_iff.mpr ⟨h2,h1⟩⟩)
 have hy':y∈out.erase x:=hnd.mem_erase_iff.mpr ⟨fun e=>hxy e.symm,hy⟩
 rw[o6,O7 hy',O7 hx]at h1
 have h2:=an3 hy'
 rw[O7 hx]at h2
 omega
theorem bf7 {ks:List (List Int)}{a b c d:Nat}(hu:∀ k∈ks,Up n k)(h:Fits n ks a b c d):up [(a:Int),(b:Int)]≠up [(c:Int),(d:Int)]:=fun e=>h.2.2.2.1 (by
 obtain⟨hP,h1,h2,h3,h4⟩:=h
 obtain⟨hin,hnd⟩:=(X1 n _).mp hP
 exfalso
 simp only[m9,c8,o7,or_false,not_or]at hnd
 obtain⟨⟨ab,ac,ad⟩,⟨bc,bd⟩,cd,_⟩:=hnd
 have e':[(if (b:Int)<(a:Int) then (b:Int) else (a:Int)),(if (b:Int) > (a:Int) then (b:Int) else (a:Int))]=[(if (d:Int)<(c:Int) then (d:Int) else (c:Int)),(if (d:Int) > (c:Int) then (d:Int) else (c:Int))]:=e
 injection e' with e1 e2
 split at e1<;>split at e1<;>omega)
theorem bP2 {ks ks':List (List Int)}{a b c d:Nat}(W1:Wbs n ks)(N:Nr n ks ls a b c d)(hf:Fits n ks a b c d)(hp:ks'.Perm ((exL ks a b c d).map up)):(lck ks' ls).length<(lck ks ls).length:=by
 have nd':=(Z3 W1.up W1.nd hf hp).2.1
 refine be9 (n:=n) (z:=up [(a:Int),(d:Int)]) (W1.lck (ls:=ls)).nd (nd'.filter _) N.ab N.cd (bf7 W1.up hf) fun k hk=>?_
 obtain⟨h1,h2⟩:=K1.mp hk
 rcases(ah6 W1.up W1.nd hf hp k).mp h1 with⟨g1,g2,g3⟩ | e | e
 ·exact .inr ⟨K1.mpr ⟨g1,h2⟩,g2,g3⟩
 ·exact .inl e
 ·exact absurd (e ▸ (K1.mp N.cb).1) h2
theorem bP1 {ks ls':List (List Int)}{a b c d:Nat}(W1:Wbs n ks)(W2:Wbs n ls)(N:Nr n ks ls a b c d)(hf:Fits n ls a d c b)(hp:ls'.Perm ((exL ls a d c b).map up)):(lck ks ls').length<(lck ks ls).length:=by
 have hne:up [(a:Int),(b:Int)]≠up [(c:Int),(d:Int)]:=bf7 (Z3 W2.up W2.nd hf hp).1 (as2 W2.up W2.nd hf hp)
 refine be9 (n:=n) (z:=up [(a:Int),(d:Int)]) (W1.lck (ls:=ls)).nd (W1.nd.filter _) N.ab N.cd hne fun k hk=>?_
 obtain⟨h1,h2⟩:=K1.mp hk
 have hm:=fun z=>h2 ((ah6 W2.up W2.nd hf hp k).mpr z)
 by_cases ed:k=up [(a:Int),(d:Int)]
 ·exact .inl ed
 ·refine .inr ⟨K1.mpr ⟨h1,fun hl=>hm (.inl ⟨hl,ed,fun e=>(K1.mp N.cb).2 (e ▸ h1)⟩)⟩,fun e=>hm (.inr (.inl e)),fun e=>hm (.inr (.inr e))⟩
abbrev ac3:=Nat × Nat × Nat × Nat
def q4 (f:ac3):List Int:=[(f.1:Int),(f.2.1:Int),(f.2.2.1:Int),(f.2.2.2:Int)]
def Ft (n:Nat)(ks:List (List Int))(f:ac3):Prop:=Fits n ks f.1 f.2.1 f.2.2.1 f.2.2.2
def xl (ks:List (List Int))(f:ac3):List (List Int):=(exL ks f.1 f.2.1 f.2.2.1 f.2.2.2).map up
def Pt (n:Nat):List (List Int)->List ac3->List (List Int)->Prop
 | ks,[],ls=>ks.Perm ls
 | ks,f::fs,ls=>Ft n ks f/\Pt n (xl ks f) fs ls
theorem by2 {ks ks':List (List Int)}(p:ks.Perm ks')(f:ac3):(xl ks f).Perm (xl ks' f):=((p.filter _).append_right _).map _
theorem Pt.perm:∀ {fs:List ac3} {ks ks' ls:List (List Int)},Pt n ks fs ls->ks.Perm ks'->Pt n ks' fs ls
 | [],_,_,_,h,p=>p.symm.trans h
 | f::fs,ks,ks',ls,h,p=>⟨(bk5 p.symm _ _ _ _).mpr h.1,Pt.perm h.2 (by2 p f)⟩
theorem Pt.app:∀ {fs gs:List ac3} {ks ms ls:List (List Int)},Pt n ks fs ms->Pt n ms gs ls->Pt n ks (fs++gs) ls
 | [],gs,ks,ms,ls,h,g=>g.perm (List.Perm.symm h)
 | f::fs,gs,ks,ms,ls,h,g=>⟨h.1,Pt.app h.2 g⟩
theorem Pt.snoc {fs:List ac3}{ks ms ms':List (List Int)}{f:ac3}(h:Pt n ks fs ms)(hf:Ft n ms f)(p:ms'.Perm (xl ms f)):Pt n ks (fs++[f]) ms':=h.app ⟨hf,p.symm⟩
theorem Pt.back {fs:List ac3}{ls' us:List (List Int)}{a b c d:Nat}(W2:Wbs n ls)(hf:Fits n ls a d c b)(p:ls'.Perm ((exL ls a d c b).map up))(h:Pt n ls fs us):Pt n ls' ((a,b,c,d)::fs) us:=by
 have h1:=Z3 W2.up W2.nd hf p
 have hb:=as2 W2.up W2.nd hf p
 refine⟨hb,h.perm ?_⟩
 have h2:=Z3 h1.1 h1.2.1 hb (List.Perm.refl _)
 exact(L9 W2.nd h2.2.1).mpr fun x=>(bE9 W2.up W2.nd hf p (List.Perm.refl _) x).symm
end Web
namespace L2
open PySem PySem.Spec PyProof.Rows PySem.SeqAt
def bU4 (t:TA):TE:=fun σ H Q=>t σ H fun xs H1=>xs.length<=i7/\∀ (p:Addr) (o:Obj),H1 p=none->o.cls=.type "tuple"->o.dict=none->Q (.ref p) (upd H1 p (.frz o (.tup xs)))
theorem bA7 {es:List Expr}{t:TA}{x1}(h:PA X es t):PE X (.Tuple es x1 pos) (bU4 t):=by
 intro pins s σ H Q I hq
 refine bT5 (thn (h pos pins s σ H _ I hq) fun us s1 ⟨xs,H1,I1,r,z,q⟩=>⟨by rw[<- r.length];exact z,?_⟩)
 have hf:H1 s1.heap.objs.size=none:=I1.hok.fresh (c5 _)
 refine⟨.ref s1.heap.objs.size,upd H1 s1.heap.objs.size (.frz { cls:=.type "tuple",data:=.seq us.toArray } (.tup xs)),I1.laid (t':=s1.toks) (fun b u e=>a6 _ e) (c5 _) ?_,rfl,q _ _ hf rfl rfl⟩
 exact⟨d5 _ rfl,z,us,r,⟨_,d5 _ rfl,rfl,_,rfl⟩⟩
end L2
namespace Web
open PySem L2
def bW8 (K:W.Frag):R2:=fun x y H Q=>∃ (p:Addr) (ns:List Int) (i:Int),y=.ref p/\x=.int i/\SqL K H p (ns.map V.int)/\Q (.bl (decide (i∉ns))) H
theorem bi6 (K:W.Frag)(hK:X.K=K):OpR X (D6 .NotIn) (bW8 K):=by
 subst hK
 intro pins s σ H x y v u Q I rx ry h
 obtain⟨p,ns,i,rfl,rfl,hS,q⟩:=h
 refine aJ3 pins s σ H _ _ v u Q I rx ry ⟨p,ns.map V.int,rfl,.inl hS,rfl,aF3 ns,?_⟩
 rw[aS5]
 have e:(if true=true then !decide (i∈ns) else decide (i∈ns))=decide (i∉ns):=by simp
 rw[e]
 exact q
theorem aE1:am9 (CXE P w) X E0:=fun _ _ _ _ _ _ _ h=>by
 obtain⟨_,_,_,_,_,_,_,_,_,_,_,hE⟩:=h
 exact hE.elim
theorem ad4 {PT:Addr}{xs:List V}(g:O0 PT H H')(t:L4 PT po qu H)(h:H l=some (.lst xs)):H' l=some (.lst xs):=by
 obtain⟨ps,hP,_⟩:=t
 exact g l _ (fun z=>by rw[z,hP]at h;cases h) h
theorem aF0 {K:W.Frag}{PT:Addr}(g:O0 PT H H')(t:L4 PT po qu H):∀ {zs:List V} {ks:List (List Int)},D1 K H zs ks->D1 K H' zs ks
 | _,_,.nil=>.nil
 | _,_,.cons ⟨a,e,h⟩ r=>.cons ⟨a,e,O0.sqT g t h⟩ (aF0 g t r)
theorem D3.grow {K:W.Frag}{PT p:Addr}{ks:List (List Int)}(h:D3 K H p n ks)(g:O0 PT H H')(t:L4 PT po qu H):D3 K H' p n ks:=by
 obtain⟨u,zs,h1,h2,h3⟩:=h
 exact⟨u,zs,O0.sqT g t h1,O0.sqT g t h2,aF0 g t h3⟩
theorem NN.grow {PT:Addr}{ps:List Addr}(h:NN H a ps T n)(g:O0 PT H H')(t:L4 PT po qu H):NN H' a ps T n:=⟨ad4 g t h.lst,h.len,fun i p e=>ad4 g t (h.row i p e),h.nd,h.out⟩
def G2 (H:Hp)(ys:List V)(ks:List (List Int)):Prop:=Y5 (fun y k=>∃ a,y=V.ref a/\Fz H a (k.map V.int)) ys ks
theorem G2.len {ks:List (List Int)}(t:G2 H ys ks):ys.length=ks.length:=Paired.length t
theorem G2.get {ks:List (List Int)}{y:V}(t:G2 H ys ks)(h:ys[i]?=some y):∃ a k,y=V.ref a/\ks[i]?=some k/\Fz H a (k.map V.int):=by
 obtain⟨k,hk,a,rfl,hz⟩:=S0 t h
 exact⟨a,k,rfl,hk,hz⟩
theorem G2.same {ks:List (List Int)}(t:G2 H ys ks)(s:A0 H H'):G2 H' ys ks:=Paired.mapP t fun _ _ ⟨a,e,z⟩=>⟨a,e,z.same s⟩
theorem Fz.updL {p:Addr}{xs zs:List V}{o:HO}(hl:H l=some (.lst xs))(h:Fz H p zs):Fz (upd H l o) p zs:=by
 obtain⟨ob,e,r⟩:=h
 refine⟨ob,?_,r⟩
 rw[n4]
 ·exact e
 ·rintro rfl
  rw[hl]at e
  cases e
theorem G2.updL {xs:List V}{o:HO}{ks:List (List Int)}(hl:H l=some (.lst xs))(t:G2 H ys ks):G2 (upd H l o) ys ks:=Paired.mapP t fun _ _ ⟨a,e,z⟩=>⟨a,e,Fz.updL hl z⟩
theorem G2.append:∀ {ys zs:List V} {ks ls:List (List Int)},G2 H ys ks->G2 H zs ls->G2 H (ys++zs) (ks++ls)
 | _,_,_,_,.nil,t=>t
 | _,_,_,_,.cons r t,u=>.cons r (G2.append t u)
theorem G2.one (h:Fz H a (k.map V.int)):G2 H [.ref a] [k]:=.cons ⟨a,rfl,h⟩ .nil
theorem G2.reverse:∀ {ys:List V} {ks:List (List Int)},G2 H ys ks->G2 H ys.reverse ks.reverse
 | _,_,.nil=>.nil
 | _,_,.cons r t=>by
  rw[ai4,ai4]
  exact G2.append (G2.reverse t) (.cons r .nil)
theorem Fz.grow {PT p:Addr}{xs:List V}(h:Fz H p xs)(g:O0 PT H H')(t:L4 PT po qu H):Fz H' p xs:=by
 obtain⟨o,e,r⟩:=h
 obtain⟨ps,hP,_⟩:=t
 exact⟨o,g p _ (fun z=>by rw[z,hP]at e;cases e) e,r⟩
theorem G2.grow {PT:Addr}{ks:List (List Int)}(h:G2 H ys ks)(g:O0 PT H H')(t:L4 PT po qu H):G2 H' ys ks:=Paired.mapP h fun _ _ ⟨a,e,z⟩=>⟨a,e,Fz.grow z g t⟩
theorem bm7 (hn:n<=24)(h:Up n k):Sett.U7 k:=by
 obtain⟨i,j,h1,h2,rfl⟩:=h
 exact⟨i,j,by omega,by omega,rfl⟩
theorem aY2 {ks:List (List Int)}(W1:Wbs n ks)(W2:Wbs n ls)(h:tal n ks=tal n ls):ks.length=ls.length:=by
 have h1:=bb7 n ks fun k hk=>(W1.up k hk).ends
 have h2:=bb7 n ls fun k hk=>(W2.up k hk).ends
 rw[h]at h1
 omega
theorem aL0 {l:List Int}{x:Int}{r:List Int}(h:l=x::r):atI (l.map V.int) 0=some (.int x):=by rw[h];exact B5 (j:=0) rfl
seal L2.PE L2.PA L2.PS L2.PSs L2.PT
section
variable {K:W.Frag} {mg:Str->Option Value} {base:Heap}
def bG5 (K:W.Frag):Sp:=fun vs H Q _=>∃ (p q:Addr) (n:Nat) (ks ls:List (List Int)),vs=[.ref p,.ref q]/\D3 K H p n ks/\D3 K H q n ls/\n<=24/\Wbs n ks/\Wbs n ls/\ks.length=ls.length/\∀ (r:Addr) (H':Hp),A0 H H'->D3 K H' r n (lck ks ls)->Q (.ref r) H'
theorem bV8:A1 ["web","other"] ["web","other"] (p5 aP7):=.mk'
set_option maxHeartbeats 1000000 in
theorem bO2 (F:Fun K "ties_lacking" "ties_lacking" aP7 f fd)(B:Bn mg):A2 P w K mg base CX0 1 f fd ["web","other"] (bG5 K):=by
 refine F.ok bV8 (fun cdv A outer s H vs Q E hr h=>?_)
 obtain⟨p,q,n,ks,ls,rfl,⟨t1,zs1,h11,h12,h13⟩,⟨t2,zs2,h21,h22,h23⟩,hn,W1,W2,hl,qq⟩:=h
 have hun:=hr.units
 have hu8:=ag4 (G9 (by decide:8<=64) _) hun
 have hu9:=ag4 (G9 (by decide:9<=64) _) hun
 refine⟨_,n5 (B9 (G1 (a7 (A6 y7 (pv 0) k7 (fun _ _=>rfl)) (a7 (F8 X4 (by rfl) B.tuple (by rfl) (a7 (v9 (aZ1 K P w rfl rfl rfl rfl) (by rfl) B.sorted (by rfl) (a7
  (C5 (bB4 K P w rfl rfl rfl hu9) (F8 (aF7 K P w rfl rfl rfl rfl hu8) (by rfl) B.set (by rfl) (a7 (A6 y7 (pv 0) k7 (fun _ _=>rfl)) c7)) (F8 (aF7 K P w rfl rfl rfl rfl hu8) (by rfl) B.set (by rfl) (a7 (A6 y7 (pv 1) k7 (fun _ _=>rfl)) c7))) c7)) c7)) c7)))),?_⟩
 have a0:atI ([.int n,.ref t1]:List V) 0=some (.int n):=B5 (j:=0) rfl
 have a1:atI ([.int n,.ref t1]:List V) 1=some (.ref t1):=B5 (j:=1) rfl
 have b1:atI ([.int n,.ref t2]:List V) 1=some (.ref t2):=B5 (j:=1) rfl
 obtain⟨ps,e1,e2,hps⟩:=h13.psAt
 obtain⟨qs,e3,e4,hqs⟩:=h23.psAt
 have k1:=ac1 hn W1.nd W1.up
 have k2:=ac1 hn W2.nd W2.up
 have lp:ps.length=ks.length:=by rw[e2,b8]
 have lq:qs.length=ls.length:=by rw[e4,b8]
 rw[e1]at h12
 rw[e3]at h22
 refine⟨_,rfl,p,_,_,_,rfl,rfl,h11,a0,_,rfl,p,_,_,_,rfl,rfl,h11,a1,t1,ps,rfl,h12,hps,fun x hx=>bm7 hn (W1.up _ (by rw[e2];exact C9 hx)),by rw[<- e2];exact W1.nd,by omega,fun S1 f1=>?_⟩
 have s1:=i8 (o:=aB7 P w S1 ps) f1
 refine⟨_,rfl,q,_,_,_,rfl,rfl,s1.seqT h21,b1,t2,qs,rfl,s1.seqT h22,hqs.same s1,fun x hx=>bm7 hn (W2.up _ (by rw[e4];exact C9 hx)),by rw[<- e4];exact W2.nd,by omega,fun S2 f2=>?_⟩
 have s2:=i8 (o:=aB7 P w S2 qs) f2
 refine⟨S1,S2,ps,qs,rfl,rfl,s2 _ _ b9,b9,hps.same (s1.trans s2),hqs.same (s1.trans s2),by omega,by omega,fun R rs fR hrs=>?_⟩
 have s3:=i8 (o:=aB7 P w R rs) fR
 have hle:rs.length<=ps.length:=by rw[hrs.length_eq];exact E8 _ _
 refine⟨R,rs,rfl,b9,fun x hx=>s3.seqT ((hps.same (s1.trans s2)) x (p9.mp (hrs.mem_iff.mp hx)).1),by omega,fun l zs ks' fl hp hs ht=>?_⟩
 have s4:=i8 (o:=.lst zs) fl
 have ek:ks'=lck ks ls:=by
  have W:=W1.lck (ls:=ls)
  refine aB5 (bw0 W.up W.nd W.so) (hp.trans ((hrs.map _).trans (List.Perm.of_eq ?_))) hs
  unfold lck
  rw[e2,e4,aU9]
  rfl
 rw[ek]at ht
 refine⟨l,zs,rfl,.inl ⟨SqL.of b9,fun tt ft=>?_⟩⟩
 have s5:=i8 (o:=.tup zs) ft
 refine⟨(by show 2<=i7;decide),fun r fr=>?_⟩
 have s6:=i8 (o:=.tup [.int (n:Int),.ref tt]) fr
 exact qq r _ ((((s1.trans s2).trans s3).trans s4).trans (s5.trans s6)) ⟨tt,zs,SqT.of b9,SqT.of (s6 _ _ b9),(s5.trans s6).tups ht⟩
noncomputable def nr (n:Nat)(ks ls:List (List Int)):ac3:=(nrA n ks ls,nrB n ks ls,nrC n ks ls,nrD n ks ls)
def aW0 (K:W.Frag)(PT:Addr):Sp:=fun vs H Q _=>∃ (p q:Addr) (n:Nat) (ks ls:List (List Int)),vs=[.ref p,.ref q]/\D3 K H p n ks/\D3 K H q n ls/\1<=n/\n<=24/\Wbs n ks/\Wbs n ls/\tal n ks=tal n ls/\ks≠ls/\Tb PT H/\∀ (r:Addr) (H':Hp),O0 PT H H'->Tb PT H'->Fz H' r ((q4 (nr n ks ls)).map V.int)->Q (.ref r) H'
theorem al9:A1 ["one","two","out","near_out","b","c","d","a"] ["one","two"] (p5 aP4):=.mk'
set_option maxHeartbeats 4000000 in
theorem bC3 {fL fB fT fO CB PT:Addr} {fdL fdB fdO:FuncData} (F:Fun K "leading_nearer" "leading_nearer" aP4 f fd) (B:Bn mg) (FL:Fq K mg "ties_lacking" aP7 fL fdL ["web","other"])
    (FB:Fq K mg "beside" bq2 fB fdB ["web"]) (FT:Fq K mg "tally_of" aq8 fT fdT ["web"])
    (FO:Fq K mg "order_of" bi0 fO fdO ["tally"]) (GO:A2 P w K mg base (CXE P w) 4 fO fdO ["tally"] (bo4 K CB PT)):A2 P w K mg base CX0 5 f fd ["one","two"] (aW0 K PT):=by
  have GL:A2 P w K mg base CX0 4 fL fdL ["web","other"] (bG5 K):=(bO2 FL.F B).mono (by decide)
  have GB:A2 P w K mg base CX0 4 fB fdB ["web"] (bH0 K):=(bP0 FB.F B).mono (by decide)
  have GT:A2 P w K mg base CX0 4 fT fdT ["web"] (bn9 K):=(bs6 FT.F).mono (by decide)
  refine F.ok al9 (fun cdv A outer s H vs Q E hr h=>?_)
  obtain⟨p,q,n,ks,ls,rfl,hW1,hW2,n1,n2,W1,W2,ht,hne,tb,qq⟩:=h
  have hsl:=R4
  have nd3:(["end","d","near_out"]:List Str).Nodup:=by decide +kernel
  refine⟨_,j5 (B3 (i:=2) al9.nd rfl (Or.inl rfl) (A7 GL hr (by rfl) FL A8 (a7 (pv 0) (a7 (pv 1) c7))))
    (j5 (B3 (i:=3) al9.nd rfl (Or.inr rfl) (A7 GB hr (by rfl) FB A8 (a7 (pv 2) c7)))
    (j5 (B3 (i:=4) al9.nd rfl (Or.inl rfl) (A6 U5 (A7 GO hr (by rfl) FO (aE1 (P:=P) (w:=w)) (a7 (A7 GT hr (by rfl) FT A8 (a7 (pv 2) c7)) c7)) k7 (fun _ _=>rfl)))
    (j5 (B3 (i:=5) al9.nd rfl (Or.inl rfl) (A6 U5 (A6 U5 (A7 GB hr (by rfl) FB A8 (a7 (A7 GL hr (by rfl) FL A8 (a7 (pv 1) (a7 (pv 0) c7))) c7)) (pv 4) (fun _ _=>rfl)) k7 (fun _ _=>rfl)))
    (j5 (B3 (i:=6) al9.nd rfl (Or.inr rfl) (A6 U5 (A6 U5 (pv 3) (pv 5) (fun _ _=>rfl)) k7 (fun _ _=>rfl)))
    (j5 (B3 (i:=7) al9.nd rfl (Or.inl rfl) (A6 U5 (aj4 (N':=["end","d","near_out"]) (lk:=[none,some 6,some 3]) rfl (ab4 (A6 U5 (pv 3) (pv 4) (fun _ _=>rfl))) (by rfl) rfl (by decide +kernel) (by exact⟨rfl,rfl,trivial⟩) (by rfl) (by exact LkL.ok ⟨⟨rfl,Or.inl rfl,rfl,Or.inl rfl⟩,⟨rfl,Or.inl rfl,rfl,Or.inl rfl⟩,trivial⟩)
          (fun _ _ _=>B1 (i:=0) nd3 rfl (Or.inl rfl)) (fun _ _ _=>aI9 (PW.pt (aI8 (E2 bH6 (pv 0) (pv 1) (J5 _)) (aw3 (E2 (bi6 K rfl) (pv 0) (be0 K rfl (pv 2) (pv 1) (fun _ _=>rfl)) (by rfl)))))) (fun _ _ _=>pv 0)) k7 (fun _ _=>rfl)))
    (n5 (B9 (bA7 (a7 (pv 7) (a7 (pv 4) (a7 (pv 5) (a7 (pv 6) c7)))))))))))),?_⟩
  have N:=be6 W1 W2 ht hne
  obtain⟨ha,hb,hc,hd⟩:=N.lt
  have hlen:=aY2 W1 W2 ht
  have Wo:=W1.lck (ls:=ls)
  have Wi:=W2.lck (ls:=ks)
  have ko:=ac1 n2 Wo.nd Wo.up
  have ki:=ac1 n2 Wi.nd Wi.up
  refine⟨_,rfl,_,rfl,p,q,n,ks,ls,rfl,hW1,hW2,n2,W1,W2,hlen,fun o H1 s1 ho=>?_⟩
  refine p6 ?_
  refine⟨_,rfl,o,n,_,rfl,ho.toS,n2,by omega,Wo.up,fun na ps H2 s2 hN=>?_⟩
  refine p6 ?_
  have ho2:=ho.same s2
  refine⟨_,rfl,o,n,_,rfl,ho2,n2,fun k hk=>(Wo.up k hk).ends,fun tl H3 s3 _ g3=>?_⟩
  have s13:=(s1.trans s2).trans s3
  have tb3:=tb.same s13
  have htl:bt9 (tal n (lck ks ls)):=⟨by rw[N5];exact n1,by rw[N5];exact n2⟩
  refine⟨tl,tal n (lck ks ls),rfl,.inl (SqL.of g3),fun _=>⟨tb3,fun zs D H4 g4 tb4 gD hp hs=>?_⟩,fun h=>absurd htl h⟩
  obtain⟨r1,e1⟩:=N.hb
  rw[<- bB3 hp hs]at e1
  refine⟨D,_,_,_,rfl,rfl,SqL.of gD,aL0 e1,?_⟩
  refine p6 ?_
  have hN4:=(hN.same s3).grow g4 tb3
  have hW1':=(hW1.same s13).grow g4 tb3
  have hW2':=(hW2.same s13).grow g4 tb3
  have gH:=(s13.grow PT).trans g4
  clear ho ho2 hN g3 gD s13 s1 s2 s3 hp hs
  refine⟨_,rfl,_,rfl,q,p,n,ls,ks,rfl,hW2',hW1',n2,W2,W1,hlen.symm,fun o5 H5 s5 ho5=>?_⟩
  refine⟨o5,n,_,rfl,ho5.toS,n2,by omega,Wi.up,fun nb qs H6 s6 hM=>?_⟩
  obtain⟨pb,_,gb,mb⟩:=hM.at hb
  obtain⟨r2,e2⟩:=N.hc
  refine⟨_,rfl,nb,_,_,_,rfl,rfl,SqL.of hM.lst,B5 mb,pb,_,_,_,rfl,rfl,SqL.of gb,aL0 e2,?_⟩
  refine p6 ?_
  have s46:=s5.trans s6
  have hN6:=hN4.same s46
  obtain⟨pc,_,gc,mc⟩:=hN6.at hc
  obtain⟨r3,e3⟩:=N.hd
  refine⟨_,rfl,_,rfl,na,_,_,_,rfl,rfl,SqL.of hN6.lst,B5 mc,pc,_,_,_,rfl,rfl,SqL.of gc,aL0 e3,?_⟩
  refine p6 ?_
  obtain⟨pn,_,gn,mn⟩:=hN6.at hb
  obtain⟨r4,e4⟩:=N.ha
  have hnl:=aJ9 (lck ks ls) (nrB n ks ls)
  refine⟨_,rfl,_,rfl,na,_,_,_,rfl,rfl,SqL.of hN6.lst,B5 mn,pn,rfl,⟨_,SqL.of gn⟩,fun D' hD'=>aF5 (K:=K) (a:=pn) (D:=D') (ys:=(nbF (lck ks ls) (nrB n ks ls)).map V.int) (fun i xs σ' H'=>(∃ v,σ'=[v,some (.int (nrD n ks ls:Int)),some (.ref na)])/\A0 H6 H'/\H' D'=some (.lst xs)/\xs=(((nbF (lck ks ls) (nrB n ks ls)).take i).filter fun e=>!decide (e=(nrD n ks ls:Int)) && !decide (e∈nbF (lck ks ls) (nrD n ks ls))).map V.int)
    ⟨⟨none, rfl⟩, i8 hD', b9, rfl⟩ (by rw [b8]; omega) (fun i xs σ' H' hi ⟨_, s7, g7, e7⟩ => ⟨SqL.of (s7 _ _ gn), g7, by
      rw[e7,b8]
      rw[b8]at hi
      refine t9 (E8 _ _) ?_
      rw[A4];omega⟩) ?_ ?_⟩
  · rintro i xs x σ' H' N' kN hx ⟨⟨v,rfl⟩,s7,g7,rfl⟩
    obtain⟨e,rfl⟩:=int_at hx
    have hx':(nbF (lck ks ls) (nrB n ks ls))[i]?=some e:=by
      rw[j6]at hx
      cases h:(nbF (lck ks ls) (nrB n ks ls))[i]? with
      | none=>rw[h]at hx;cases hx
      | some y=>rw[h]at hx;injection hx with hx;injection hx with hx;rw[hx]
    have et:∀ b:Bool,(!decide (e=(nrD n ks ls:Int)) && !decide (e∈nbF (lck ks ls) (nrD n ks ls)))=b->(((nbF (lck ks ls) (nrB n ks ls)).take (i+1)).filter fun e=>!decide (e=(nrD n ks ls:Int)) && !decide (e∈nbF (lck ks ls) (nrD n ks ls)))=(((nbF (lck ks ls) (nrB n ks ls)).take i).filter fun e=>!decide (e=(nrD n ks ls:Int)) && !decide (e∈nbF (lck ks ls) (nrD n ks ls)))++(if b=true then [e] else []):=fun b hb=>by
      rw[B8,hx',af8]
      congr 1
      show [e].filter _=_
      rw[ab2,hb]
      rfl
    obtain⟨pd,_,gd,md⟩:=(hN6.same s7).at hd
    refine p6 ?_
    refine⟨_,rfl,_,rfl,rfl,_,rfl,?_⟩
    by_cases hed:e=(nrD n ks ls:Int)
    · rw[decide_eq_true (congrArg V.int hed)]
      refine G5 (G5 (kN _ _ _ ⟨⟨_,rfl⟩,s7,g7,?_⟩))
      rw[et false (by rw[decide_eq_true hed];rfl)]
      simp
    · rw[decide_eq_false (fun z=>hed (V.int.inj z))]
      refine R5 ⟨_,rfl,_,rfl,_,rfl,.inl ⟨na,_,_,_,rfl,rfl,SqL.of (hN6.same s7).lst,B5 md,pd,_,_,rfl,rfl,SqL.of gd,_,rfl,?_⟩⟩
      by_cases hin:e∈nbF (lck ks ls) (nrD n ks ls)
      · rw[decide_eq_false (fun z=>z hin)]
        refine G5 (kN _ _ _ ⟨⟨_,rfl⟩,s7,g7,?_⟩)
        rw[et false (by rw[decide_eq_true hin];simp)]
        simp
      · rw[decide_eq_true hin]
        refine R5 ⟨_,rfl,g7,kN _ _ _ ⟨⟨_,rfl⟩,s7.upd hD',b9,?_⟩⟩
        rw[et true (by rw[decide_eq_false hed,decide_eq_false hin];rfl)]
        simp
  · rintro xs σ' H7 ⟨⟨v,rfl⟩,s7,g7,rfl⟩
    rw[p8 (by rw[b8];exact c5 _),e4]at g7
    refine⟨D',_,_,_,rfl,rfl,SqL.of g7,aL0 rfl,?_⟩
    refine p6 ?_
    refine⟨_,rfl,_,rfl,_,rfl,_,rfl,(by show 4<=i7;decide),fun r ob fr hcl hdi=>?_⟩
    have sr:=s46.trans (s7.trans (i8 (o:=.frz ob (.tup ((q4 (nr n ks ls)).map V.int))) fr))
    exact qq r _ (gH.trans (sr.grow PT)) (tb4.same sr) ⟨ob,b9,hcl,hdi⟩
end
end Web
namespace Web
open PySem L2
theorem D3.dt {K:W.Frag}{p:Addr}{ks:List (List Int)}(h:D3 K H p n ks):Dt K H (dW n ks) (.ref p):=by
 obtain⟨t,zs,h1,h2,h3⟩:=h
 exact Dt.mkT h1 (.mkC .mkInt (.mkC (Dt.mkT h2 h3.dtAll) .mkN))
theorem bb0 {K:W.Frag}{Q:VK}{b:Addr}{m:Nat}{T U:List (List Int)}(neg:Bool)(hun:A.units+64<R8)(ha:D3 K H a n T)(hb:D3 K H b m U)(q:Q (.bl (if neg then !(decide ((n:Int)=m) && decide (T=U)) else (decide ((n:Int)=m) && decide (T=U)))) H):bq8 K A neg (.ref a) (.ref b) H Q:=by
 refine⟨_,_,ha.dt,hb.dt,bH9 _ _,bH9 _ _,?_,?_⟩
 ·refine bn1 hun (t9 (aV2 _ _) ?_)
  have:=bY7 n T
  omega
 ·rw[bY4]
  exact q
theorem bk3 {PT:Addr}(g:O0 PT H H')(t:L4 PT po qu H')(h:H' l=none):H l=none:=by
 cases e:H l with
 | none=>rfl
 | some o =>
  by_cases z:l=PT
  ·obtain⟨ps,hP,_⟩:=t
   rw[z,hP]at h
   cases h
  ·rw[g l o z e]at h
   cases h
theorem ar8 {PT:Addr}{o:HO}(g:O0 PT H H')(h:H l=none):O0 PT H (upd H' l o):=fun b u hb q=>by
 rw[n4 (u6 q h)]
 exact g b u hb q
theorem aH9 {PT:Addr}{xs:List V}{o:HO}(t:L4 PT po qu H)(h:H l=some (.lst xs)):L4 PT po qu (upd H l o):=by
 obtain⟨ps,hP,r1,r2⟩:=t
 refine⟨ps,by rw[n4 (fun z=>by rw[z,h]at hP;cases hP)];exact hP,r1,r2.imp id fun⟨c,e,g⟩=>⟨c,e,?_⟩⟩
 rw[n4 (fun z=>by rw[z,h]at g;cases g)]
 exact g
theorem D3.updL {K:W.Frag}{p:Addr}{ks:List (List Int)}{xs us:List V}(h:D3 K H p n ks)(hl:H l=some (.lst xs)):D3 K (upd H l (.lst us)) p n ks:=by
 obtain⟨t,zs,h1,h2,h3⟩:=h
 exact⟨t,zs,SqT.updL h1 hl,SqT.updL h2 hl,D1.updL hl h3⟩
inductive Lw (n:Nat):List (List Int)->List (List Int)->List ac3->Prop
 | nil {F:List (List Int)}:Lw n F F []
 | first {F L F':List (List Int)} {out:List ac3}:F≠L->Fits n F (nrA n F L) (nrB n F L) (nrC n F L) (nrD n F L)->Wbs n F'->F'.Perm ((exL F (nrA n F L) (nrB n F L) (nrC n F L) (nrD n F L)).map up)->Lw n F' L out->Lw n F L (nr n F L::out)
 | last {F L L':List (List Int)} {out:List ac3}:F≠L->¬ Fits n F (nrA n F L) (nrB n F L) (nrC n F L) (nrD n F L)->Wbs n L'->L'.Perm ((exL L (nrA n F L) (nrD n F L) (nrC n F L) (nrB n F L)).map up)->Lw n F L' out->Lw n F L (out++[nr n F L])
theorem Lw.uniq {F L:List (List Int)}{o o':List ac3}(h:Lw n F L o)(g:Lw n F L o'):o=o':=by
 induction h generalizing o' with
 | nil =>
  cases g with
  | nil=>rfl
  | first h=>exact absurd rfl h
  | last h=>exact absurd rfl h
 | first h1 h2 h3 h4 _ ih =>
  cases g with
  | nil=>exact absurd rfl h1
  | first g1 g2 g3 g4 g5 =>
   have e:=h3.eq g3 fun k=>(h4.trans g4.symm).mem_iff
   subst e
   rw[ih g5]
  | last g1 g2=>exact absurd h2 g2
 | last h1 h2 h3 h4 _ ih =>
  cases g with
  | nil=>exact absurd rfl h1
  | first g1 g2=>exact absurd g2 h2
  | last g1 g2 g3 g4 g5 =>
   have e:=h3.eq g3 fun k=>(h4.trans g4.symm).mem_iff
   subst e
   rw[ih g5]
structure StI (K:W.Frag) (PT:Addr) (H:Hp) (n:Nat) (T U F L:List (List Int)) (fs ts:List ac3) (fa la l7 l8:Addr) (xs ys:List V) (H1:Hp):Prop where
 tf:D3 K H1 fa n F
 tl:D3 K H1 la n L
 wf:Wbs n F
 wl:Wbs n L
 eq:tal n F=tal n L
 bd:(lck F L).length+(fs.length+ts.length)<=T.length
 pf:Pt n T fs F
 pl:Pt n L ts.reverse U
 g7:H1 l7=some (.lst xs)
 t7:G2 H1 xs (fs.map q4)
 g8:H1 l8=some (.lst ys)
 t8:G2 H1 ys (ts.map q4)
 gr:O0 PT H H1
 tb:Tb PT H1
 lw:∀ out,Lw n F L out->Lw n T U (fs++out++ts.reverse)
seal L2.PE L2.PA L2.PS L2.PSs L2.PT
section
variable {K:W.Frag} {mg:Str->Option Value} {base:Heap}
def bo5 (K:W.Frag):Sp:=fun vs H Q _=>∃ (qa:Addr) (i j k l:Int),vs=[.ref qa]/\SqT K H qa [.int i,.int j,.int k,.int l]/\∀ p,H p=none->Q (.ref p) (upd H p (.tup [.int i,.int l,.int k,.int j]))
theorem bM1:A1 ["four"] ["four"] (p5 aP6):=.mk'
theorem bC6 (F:Fun K "led_back" "led_back" aP6 f fd):A2 P w K mg base CX0 1 f fd ["four"] (bo5 K):=by
 refine F.ok bM1 (fun cdv A outer s H vs Q E hr h=>?_)
 obtain⟨qa,i,j,k,l,rfl,hq,q⟩:=h
 refine⟨_,n5 (B9 (G1 (a7 (A6 y7 (pv 0) k7 (fun _ _=>rfl)) (a7 (A6 y7 (pv 0) k7 (fun _ _=>rfl)) (a7 (A6 y7 (pv 0) k7 (fun _ _=>rfl)) (a7 (A6 y7 (pv 0) k7 (fun _ _=>rfl)) c7)))))),?_⟩
 exact⟨_,rfl,qa,_,_,_,rfl,rfl,hq,aG6,_,rfl,qa,_,_,_,rfl,rfl,hq,aG3,_,rfl,qa,_,_,_,rfl,rfl,hq,aG4,_,rfl,qa,_,_,_,rfl,rfl,hq,aG5,(by show 4<=i7;decide),fun p hp=>q p hp⟩
def Ldd (K:W.Frag)(PT:Addr)(n:Nat)(T U:List (List Int))(H:Hp)(Q:VK):Prop:=
 ∀ (p:Addr) (zs:List V) (fs:List ac3) (H':Hp),O0 PT H H'->Tb PT H'->H p=none->H' p=some (.lst zs)->G2 H' zs (fs.map q4)->Pt n T fs U->fs.length<=T.length->Lw n T U fs->Q (.ref p) H'
def bo1 (K:W.Frag)(PT fN fC fS:Addr):Sp:=fun vs H Q _=>∃ (a b:Addr) (T U:List (List Int)) (n:Nat),vs=[.ref a,.ref b,.ref fN,.ref fC,.ref fS]/\D3 K H a n T/\D3 K H b n U/\Wbs n T/\Wbs n U/\tal n T=tal n U/\1<=n/\n<=24/\Tb PT H/\Ldd K PT n T U H Q
theorem at0:A1 ["one","two","nearer","can_step","stepped","first","last","from_first","to_last","four"] ["one","two","nearer","can_step","stepped"] (p5 bp7):=.mk'
set_option maxHeartbeats 4000000 in
theorem bO0 {fN fS fB CE PT:Addr} {fdN fdS fdB:FuncData} (F0:Fun K "steps_between" "steps_between" bp7 f fd) (B:Bn mg)
  (FN:Fun K "leading_nearer" "leading_nearer" aP4 fN fdN) (bN:Binds K fdN ["one","two"] []) (GN:A2 P w K mg base CX0 5 fN fdN ["one","two"] (aW0 K PT))
  (FC:Fun K "can_exchange" "can_exchange" bi2 fC fdC) (bC:Binds K fdC ["web","four"] []) (GC:A2 P w K mg base CX0 5 fC fdC ["web","four"] (bc7 K))
  (FS:Fun K "exchanged" "exchanged" bq0 fS fdS) (bS:Binds K fdS ["web","four"] []) (GS:A2 P w K mg base (CXE P w) 5 fS fdS ["web","four"] (bo7 K CE))
  (FB:Fq K mg "led_back" aP6 fB fdB ["four"]):A2 P w K mg base CX0 6 f fd ["one","two","nearer","can_step","stepped"] (bo1 K PT fN fC fS):=by
 have GB:A2 P w K mg base CX0 5 fB fdB ["four"] (bo5 K):=(bC6 FB.F).mono (by decide)
 refine F0.ok at0 (fun cdv A outer s H vs Q E hr h=>?_)
 obtain⟨a,b,T,U,n,rfl,hTa,hTb,wT,wU,ht,n1,n2,tb,q⟩:=h
 have hsl:=R4
 have hun:=hr.units
 have htot:=ac1 n2 wT.nd wT.up
 refine⟨_,j5 (B3 (i:=5) at0.nd rfl (Or.inl rfl) (pv 0))
  (j5 (B3 (i:=6) at0.nd rfl (Or.inl rfl) (pv 1))
  (j5 (B3 (i:=7) at0.nd rfl (Or.inl rfl) (W6 c7))
  (j5 (B3 (i:=8) at0.nd rfl (Or.inl rfl) (W6 c7))
  (j5 (br0 PassesOwn.never (E2 ar4 (pv 5) (pv 6) (J5 _))
   (j5 (B3 (i:=9) at0.nd rfl (Or.inl rfl) (ao0 (i:=2) GN hr rfl (Or.inl rfl) FN.kp bN .nil A8 (a7 (pv 5) (a7 (pv 6) c7))))
   (n5 (K7 (L7 (ao0 (i := 3) GC hr rfl (Or.inl rfl) FC.kp bC .nil A8 (a7 (pv 5) (a7 (pv 9) c7))))
    (j5 (B3 (i:=5) at0.nd rfl (Or.inl rfl) (ao0 (i:=4) GS hr rfl (Or.inl rfl) FS.kp bS .nil (aE1 (P:=P) (w:=w)) (a7 (pv 5) (a7 (pv 9) c7))))
    (n5 (Q9 (az7 PySem.F.plainAttrs_list PySem.F.slot_list_append PySem.F.type_list_append O9 (pv 7) (a7 (pv 9) c7)))))
    (j5 (B3 (i:=6) at0.nd rfl (Or.inl rfl) (ao0 (i:=4) GS hr rfl (Or.inl rfl) FS.kp bS .nil (aE1 (P:=P) (w:=w)) (a7 (pv 6) (a7 (A7 GB hr (by rfl) FB A8 (a7 (pv 9) c7)) c7))))
    (n5 (Q9 (az7 PySem.F.plainAttrs_list PySem.F.slot_list_append PySem.F.type_list_append O9 (pv 8) (a7 (pv 9) c7)))))))))
  (n5 (B9 (C5 aJ5 (pv 7) (bA9 rfl (by rfl) B.list (by rfl) B.rev (a7 (pv 8) c7))))))))),?_⟩
 refine⟨_,rfl,?_⟩
 refine p6 ?_
 refine⟨_,rfl,?_⟩
 refine p6 ?_
 refine⟨by show 0<=i7;omega,fun l7 f7=>?_⟩
 refine p6 ?_
 refine⟨by show 0<=i7;omega,fun l8 f8=>?_⟩
 refine p6 ?_
 have s7:=i8 (o:=.lst []) f7
 have s8:=i8 (o:=.lst []) f8
 have s78:=s7.trans s8
 have f8H:H l8=none:=s7.free f8
 have n78:l7≠l8:=u6 b9 f8
 refine⟨fun m σ H1=>∃ (F L:List (List Int)) (fs ts:List ac3) (fa la:Addr) (xs ys:List V) (e9:Option V),m=(lck F L).length/\σ=[some (.ref a),some (.ref b),some (.ref fN),some (.ref fC),some (.ref fS),some (.ref fa),some (.ref la),some (.ref l7),some (.ref l8),e9]/\StI K PT H n T U F L fs ts fa la l7 l8 xs ys H1,
  ⟨_,T,U,[],[],a,b,[],[],none,rfl,rfl,⟨hTa.same s78,hTb.same s78,wT,wU,ht,E8 _ _,List.Perm.refl _,List.Perm.refl _,s8 _ _ b9,.nil,b9,.nil,s78.grow PT,tb.same s78,fun out h=>by rw[List.reverse_nil,F6,L5];exact h⟩⟩,?_⟩
 rintro m σ H1 ⟨F,L,fs,ts,fa,la,xs,ys,e9,rfl,rfl,I⟩
 refine⟨_,rfl,_,rfl,bb0 true hun I.tf I.tl ?_⟩
 rw[if_pos rfl,decide_eq_true rfl,ac4]
 refine⟨_,rfl,?_⟩
 have hbd:=I.bd
 have lx:=I.t7.len
 have ly:=I.t8.len
 rw[b8]at lx ly
 by_cases hFL:F=L
 ·rw[decide_eq_true hFL]
  refine G5 ?_
  subst hFL
  refine⟨_,rfl,_,rfl,l8,ys,rfl,SqL.of I.g8,fun d hd=>?_⟩
  have sd:=i8 (o:=.lst ys.reverse) hd
  refine⟨l7,d,_,_,rfl,rfl,sd _ _ I.g7,b9,by rw[P6];omega,fun z hz=>?_⟩
  have sz:=i8 (o:=.lst (xs++ys.reverse)) hz
  have sdz:=sd.trans sz
  have tbz:=I.tb.same sd
  refine q z _ (fs++ts.reverse) _ (I.gr.trans (sdz.grow PT)) (I.tb.same sdz) ?_ b9 ?_ (I.pf.app I.pl) ?_ (by have:=I.lw [] .nil;rw[F6]at this;exact this)
  ·exact bk3 (I.gr.trans (sd.grow PT)) tbz hz
  ·rw[r6,List.map_reverse]
   exact(G2.append I.t7 (G2.reverse I.t8)).same sdz
  ·rw[j9,P6]
   omega
 ·rw[decide_eq_false hFL]
  refine R5 ?_
  refine⟨fun σ' H'=>∃ (F' L':List (List Int)) (fs' ts':List ac3) (fa la:Addr) (xs ys:List V) (e9:Option V),(lck F' L').length<(lck F L).length/\σ'=[some (.ref a),some (.ref b),some (.ref fN),some (.ref fC),some (.ref fS),some (.ref fa),some (.ref la),some (.ref l7),some (.ref l8),e9]/\StI K PT H n T U F' L' fs' ts' fa la l7 l8 xs ys H',
   fun σ' H' ⟨F',L',fs',ts',fa,la,xs,ys,e9,z0,z1,z2⟩=>⟨_,z0,F',L',fs',ts',fa,la,xs,ys,e9,rfl,z1,z2⟩,?_⟩
  have N:=be6 I.wf I.wl I.eq hFL
  refine⟨rfl,_,rfl,_,rfl,fa,la,n,F,L,rfl,I.tf,I.tl,n1,n2,I.wf,I.wl,I.eq,hFL,I.tb,fun p H2 g2 tb2 hp=>?_⟩
  refine p6 ?_
  have tf2:=I.tf.grow g2 I.tb
  have tl2:=I.tl.grow g2 I.tb
  have g72:=ad4 g2 I.tb I.g7
  have g82:=ad4 g2 I.tb I.g8
  have t72:=I.t7.grow g2 I.tb
  have t82:=I.t8.grow g2 I.tb
  have gr2:=I.gr.trans g2
  have hq4:SqT K H2 p (([(nrA n F L:Int),(nrB n F L:Int),(nrC n F L:Int),(nrD n F L:Int)]:List Int).map V.int):=hp.sqT
  refine⟨rfl,_,rfl,_,rfl,fa,p,n,F,_,_,_,_,rfl,tf2,hq4,fun H3 s3=>⟨_,rfl,?_⟩⟩
  by_cases hsw:Fits n F (nrA n F L) (nrB n F L) (nrC n F L) (nrD n F L)
  ·rw[decide_eq_true hsw]
   refine R5 ?_
   refine⟨rfl,_,rfl,_,rfl,fa,p,n,F,_,_,_,_,rfl,tf2.same s3,n1,n2,I.wf.up,I.wf.nd,s3.seqT hq4,fun a' b' c' d' ea eb ec ed _ nb ls H4 s4 hb hpm hso=>?_,fun h=>absurd hsw h⟩
   obtain rfl:a'=nrA n F L:=by omega
   obtain rfl:b'=nrB n F L:=by omega
   obtain rfl:c'=nrC n F L:=by omega
   obtain rfl:d'=nrD n F L:=by omega
   refine p6 ?_
   have s34:=s3.trans s4
   have g7:=s34 _ _ g72
   have ex:=Z3 I.wf.up I.wf.nd hsw hpm
   have hls:=bP2 I.wf N hsw hpm
   refine⟨_,rfl,.inl ⟨rfl,_,SqL.of g7⟩,_,rfl,l7,xs,_,rfl,rfl,g7,by omega,?_⟩
   refine⟨ls,L,fs++[nr n F L],ts,nb,la,xs++[.ref p],ys,_,hls,rfl,
    ⟨hb.updL g7,(tl2.same s34).updL g7,⟨ex.1,ex.2.1,hso⟩,I.wl,ex.2.2.trans I.eq,?_,I.pf.snoc hsw hpm,I.pl,b9,?_,by rw[n4 (Ne.symm n78)];exact s34 _ _ g82,G2.updL g7 (t82.same s34),ar8 (gr2.trans (s34.grow PT)) f7,aH9 (tb2.same s34) g7,fun out h=>by have:=I.lw _ (.first hFL hsw ⟨ex.1,ex.2.1,hso⟩ hpm h);rw[r0 fs,List.singleton_append];exact this⟩⟩
   ·rw[j9,aa3]
    omega
   ·rw[r6]
    exact G2.updL g7 (G2.append (t72.same s34) (G2.one (hp.same s34)))
  ·rw[decide_eq_false hsw]
   refine G5 ?_
   have hsL:=(N.go.resolve_left hsw).2
   refine⟨rfl,_,rfl,_,rfl,p,_,_,_,_,rfl,s3.seqT hq4,fun pb fpb=>?_⟩
   have sb:=i8 (o:=.tup [.int (nrA n F L:Int),.int (nrD n F L:Int),.int (nrC n F L:Int),.int (nrB n F L:Int)]) fpb
   refine⟨la,pb,n,L,(nrA n F L:Int),(nrD n F L:Int),(nrC n F L:Int),(nrB n F L:Int),rfl,(tl2.same s3).same sb,n1,n2,I.wl.up,I.wl.nd,SqT.of b9,fun a' d' c' b' ea ed ec eb _ nb ls H4 s4 hb hpm hso=>?_,fun h=>absurd hsL h⟩
   obtain rfl:a'=nrA n F L:=by omega
   obtain rfl:b'=nrB n F L:=by omega
   obtain rfl:c'=nrC n F L:=by omega
   obtain rfl:d'=nrD n F L:=by omega
   refine p6 ?_
   have s34:=s3.trans (sb.trans s4)
   have g8:=s34 _ _ g82
   have ex:=Z3 I.wl.up I.wl.nd hsL hpm
   have hls:=bP1 I.wf I.wl N hsL hpm
   refine⟨_,rfl,.inl ⟨rfl,_,SqL.of g8⟩,_,rfl,l8,ys,_,rfl,rfl,g8,by omega,?_⟩
   refine⟨F,ls,fs,ts++[nr n F L],fa,nb,xs,ys++[.ref p],_,hls,rfl,
    ⟨(tf2.same s34).updL g8,hb.updL g8,I.wf,⟨ex.1,ex.2.1,hso⟩,I.eq.trans ex.2.2.symm,?_,I.pf,?_,by rw[n4 n78];exact s34 _ _ g72,G2.updL g8 (t72.same s34),b9,?_,ar8 (gr2.trans (s34.grow PT)) f8H,aH9 (tb2.same s34) g8,fun out h=>by have:=I.lw _ (.last hFL hsw ⟨ex.1,ex.2.1,hso⟩ hpm h);rw[P5,List.reverse_singleton];rw[<- r0,r0 (fs++out)]at this;exact this⟩⟩
   ·rw[j9,aa3]
    omega
   ·rw[P5]
    exact Pt.back I.wl hsL hpm I.pl
   ·rw[r6]
    exact G2.updL g8 (G2.append (t82.same s34) (G2.one (hp.same s34)))
def aI1 (K:W.Frag)(CU PT:Addr):Sp:=fun vs H Q E=>∃ (a b:Addr) (T U:List (List Int)) (n m:Nat),vs=[.ref a,.ref b]/\D3 K H a n T/\D3 K H b m U/\Wbs n T/\Wbs m U/\1<=n/\n<=24/\1<=m/\m<=24/\Tb PT H/\(tal n T=tal m U->Ldd K PT n T U H Q)/\(tal n T≠tal m U->∀ H':Hp,A0 H H'->E (.ref CU) none H')
theorem bM0:A1 ["one","two"] ["one","two"] (p5 aD7):=.mk'
theorem aS4 {K:W.Frag}{Q:VK}{u:Addr}{ms:List Int}(hun:A.units+64<R8)(gl:SqL K H l (ns.map V.int))(gu:SqL K H u (ms.map V.int))(q:Q (.bl (!decide (ns=ms))) H):bq8 K A true (.ref l) (.ref u) H Q:=by
 refine⟨.list (ns.map .int),.list (ms.map .int),Dt.mkLi gl,Dt.mkLi gu,bt0 _,bt0 _,?_,?_⟩
 ·refine bn1 hun (t9 (aV2 _ _) ?_)
  have:=bR0 ns
  omega
 ·show Q (.bl (!PyData.eqv _ _)) _
  rw[bQ6]
  exact q
theorem bC5 {fT fN fS fP CU PT:Addr}{fdP:FuncData}(F0:Fun K "led" "led" aD7 f fd)(FT:Fq K mg "tally_of" aq8 fT fdT ["web"])
  (mN:mg "leading_nearer"=some (.ref fN))(mC:mg "can_exchange"=some (.ref fC))(mS:mg "exchanged"=some (.ref fS))
  (FP:Fq K mg "steps_between" bp7 fP fdP ["one","two","nearer","can_step","stepped"])(GP:A2 P w K mg base CX0 6 fP fdP ["one","two","nearer","can_step","stepped"] (bo1 K PT fN fC fS))(mX:mg "Unlike"=some (.ref CU))(cX:aM3 K CU):A2 P w K mg base (CXE P w) 7 f fd ["one","two"] (aI1 K CU PT):=by
 have GT:A2 P w K mg base CX0 6 fT fdT ["web"] (bn9 K):=(bs6 FT.F).mono (by decide)
 refine F0.okX bM0 (fun cdv A outer s H vs Q E hr h=>?_)
 obtain⟨a,b,T,U,n,m,rfl,hTa,hTb,wT,wU,n1,n2,m1,m2,tb,h1,h2⟩:=h
 have hun:=hr.units
 refine⟨_,j5 (K7 (E2 ar4 (A7 GT hr (by rfl) FT A8 (a7 (pv 0) c7)) (A7 GT hr (by rfl) FT A8 (a7 (pv 1) c7)) (J5 _)) (n5 (az4 (by rfl) mX cX)) C6)
  (n5 (B9 (A7 GP hr (by rfl) FP A8 (a7 (pv 0) (a7 (pv 1) (a7 (Z0 (v:=.ref fN) (by rfl) mN rfl) (a7 (Z0 (v:=.ref fC) (by rfl) mC rfl) (a7 (Z0 (v:=.ref fS) (by rfl) mS rfl) c7)))))))),?_⟩
 refine⟨_,rfl,a,n,T,rfl,hTa,n2,fun k hk=>(wT.up k hk).ends,fun l1 H1 s1 _ g1=>?_⟩
 refine⟨_,rfl,b,m,U,rfl,hTb.same s1,m2,fun k hk=>(wU.up k hk).ends,fun l2 H2 s2 _ g2=>?_⟩
 have s12:=s1.trans s2
 refine aS4 hun (SqL.of (s2 _ _ g1)) (SqL.of g2) ⟨_,rfl,?_⟩
 by_cases he:tal n T=tal m U
 ·rw[decide_eq_true he]
  refine G5 ?_
  have hnm:n=m:=by
   have:=congrArg M7 he
   rw[N5,N5]at this
   exact this
  subst hnm
  refine⟨_,rfl,_,rfl,a,b,T,U,n,rfl,hTa.same s12,hTb.same s12,wT,wU,he,n1,n2,tb.same s12,fun p zs fs H' g tb' fp gp tz hp hl hw=>?_⟩
  exact h1 he p zs fs H' ((s12.grow PT).trans g) tb' (s12.free fp) gp tz hp hl hw
 ·rw[decide_eq_false he]
  exact R5 (h2 he _ s12)
end
end Web
namespace L2
open PySem PySem.Spec PyProof.Rows
section
variable {K:Type} [DecidableEq K] {knd:HeapKind prog w K}
theorem bY5 {Q:Bool->Shared->Prop}(h:Q true s):k9 (n6 prog w) A (eqBool (.bool true) (.bool true)) Q E s:=by
 unfold eqBool
 refine v8 ?_
 rw[if_pos (by decide)]
 exact a5 (aN2 (a8 h))
theorem aX2 {id:String}{b:Addr}{xs ys:List (K × Addr × Value)}{Q:Bool->Shared->Prop}(hu:knd.room A)(ha:(a == F1)=false)(hb:(b == F1)=false)(h1:s.heap.DictOfH knd a xs)(h2:s.heap.DictOfH knd b ys)
  (hl:xs.length=ys.length)(hv1:∀ x∈xs,x.2.2=.bool true)(hv2:∀ x∈ys,x.2.2=.bool true)(hm:∀ x∈xs,x.1∈ys.map (·.1))(h:Q true s):k9 (n6 prog w) A (Builtin.Dict.samePairs id a b) Q E s:=by
 obtain⟨o1,es1,ep1,g1,c1,d1,e1,i1,n1⟩:=h1
 obtain⟨o2,es2,ep2,g2,c2,d2,e2,i2,n2⟩:=h2
 have z1:=P4 e1
 have z2:=P4 e2
 unfold Builtin.Dict.samePairs Builtin.Dict.showsAll
 rw[ha,hb]
 simp only[d7,if_false]
 refine a5 (a8 (a5 (a8 ?_)))
 refine a5 (B2 g1 d1 ?_)
 refine a5 (B2 g2 d2 ?_)
 rw[if_neg (by rw[z1,z2,hl];simp)]
 refine a5 (Y6 g1 d1 ?_)
 rw[Std.Legacy.Range.forIn_eq_forIn_range']
 refine a5 (X0 _ (fun rest r s'=>r.1=none/\s'=s/\∀ i∈rest,i<xs.length) _ ?_ ?_ _ _ ⟨rfl,rfl,fun i hi=>?_⟩)
 ·rintro i rest r s' ⟨hr,rfl,hall⟩
  have hi:=hall i c6
  refine a5 (B2 g1 d1 ?_)
  have ex:xs[i]?=some xs[i]:=m6 hi
  rw[by1 e1 i,ex]
  have hx:xs[i]∈xs:=al0 hi
  generalize xs[i]=x at ex hx
  show k9 _ _ (aN0 [(E7 knd x).key,(E7 knd x).val] _ >>= _) _ _ _
  refine a5 (v8 (a5 (bU1 (a:=x.2.1) (k:=x.1) hu (i1 x hx) g2 d2 e2 i2 n2 (fun hno=>?_) fun j p hj=>?_)))
  ·obtain⟨y,hy,ey⟩:=o9.mp (hm x hx)
   obtain⟨j,hj⟩:=l5.mp hy
   exact absurd (by rw[hj,<- ey]) (hno j y.2)
  ·refine a5 (B2 g2 d2 ?_)
   rw[by1 e2 j,hj]
   show k9 _ _ (aN0 [(E7 knd (x.1,p)).val] (eqBool (E7 knd x).val (E7 knd (x.1,p)).val)) _ _ _
   have q1:(E7 knd x).val=.bool true:=hv1 x hx
   have q2:(E7 knd (x.1,p)).val=.bool true:=hv2 _ (d9 hj)
   rw[q1,q2]
   refine v8 (bY5 ?_)
   simp only[D8,d7,if_false]
   refine a5 (Y6 g1 d1 ?_)
   rw[if_neg (by simp)]
   exact a8 ⟨rfl,rfl,fun i hi=>hall i (d3 _ hi)⟩
 ·rintro⟨r1,r2⟩ s' ⟨hr,rfl,_⟩
  simp only at hr
  subst hr
  exact a8 h
 ·have:=ai5.mp hi
  simp at this
  omega
theorem bE6 {b:Addr}{xs ys:List (K × Addr × Value)}(hu:knd.room A.in1)(hU:A.units<R8)(ha:(a == F1)=false)(hb:(b == F1)=false)(h1:s.heap.DictOfH knd a xs)(h2:s.heap.DictOfH knd b ys)
  (hl:xs.length=ys.length)(hv1:∀ x∈xs,x.2.2=.bool true)(hv2:∀ x∈ys,x.2.2=.bool true)(hm:∀ x∈xs,x.1∈ys.map (·.1))(h:Q (.bool true) s):k9 (n6 prog w) A (D6 .Eq (.ref a) (.ref b)) Q E s:=by
 show k9 _ _ (richCompare .Eq (.ref a) (.ref b)) _ _ _
 refine wpAny_richCompare_same_room h1.typeIs h2.typeIs PySem.F.slot_dict_eq (C3 PySem.F.slot_dict_eq h1.typeIs PySem.F.entry_dict_eq ?_ (PySem.F.args_dict_eq_2 _ _)) hU
 show k9 _ _ (do
  let (self,other) <- pure (Value.ref a,Value.ref b)
  if !(<- isInstance other (.type "dict")) then rule "dict.__eq__.not-a-dict";return <- ret .notImplemented
  ret (.bool ((<- Builtin.Dict.samePairs "dict.__eq__" (<- Builtin.Dict.addrOf self) (<- Builtin.Dict.addrOf other)) == true))) _ _ _
 refine a5 (a8 ?_)
 dsimp only
 refine a5 (K2 h2.typeIs PySem.F.sub_dict_dict ?_)
 simp only[D8,d7,if_false]
 refine a5 ?_
 show k9 _ _ (pure a) _ _ _
 refine a8 (a5 ?_)
 show k9 _ _ (pure b) _ _ _
 refine a8 (a5 (aX2 hu ha hb h1 h2 hl hv1 hv2 hm ?_))
 exact a8 ⟨_,rfl,(fun z=>by cases z),h⟩
end
theorem KT.all (r:KT H kvs xs)(h:∀ kv∈kvs,kv.2=.bl true):∀ x∈xs,x.2.2=.bool true:=by
 induction r with
 | nil=>intro x hx;exact nomatch hx
 | @cons p q ps qs hq t ih =>
  intro x hx
  rcases c8.mp hx with rfl | hx
  ·have:=hq.2.2
   rw[h p c6]at this
   exact this
  ·exact ih (fun kv hkv=>h kv (d3 _ hkv)) x hx
theorem KT.ks (r:KT H kvs xs):kvs.map (·.1)=xs.map (·.1):=by
 induction r with
 | nil=>rfl
 | cons hq t ih=>rw[j3,j3,hq.1,ih]
theorem bB5 (hu:X.A.units+1<R8):OpR X (D6 .Eq) (fun x y H Q=>∃ (a b:Addr) (kvs kws:List (List Key × V)),x=.ref a/\y=.ref b/\Rd H a (.dT kvs)/\Rd H b (.dT kws)/\kvs.length=kws.length/\(∀ kv∈kvs,kv.2=.bl true)/\(∀ kv∈kws,kv.2=.bl true)/\(∀ kv∈kvs,kv.1∈kws.map (·.1))/\Q (.bl true) H):=by
 intro pins s σ H x y v u Q I rx ry h
 obtain⟨a,b,kvs,kws,rfl,rfl,h1,h2,hl,hv,hw,hm,q⟩:=h
 cases rx
 cases ry
 obtain⟨z1,n1,xs,r1,d1⟩:=at4 I.hok h1
 obtain⟨z2,n2,ys,r2,d2⟩:=at4 I.hok h2
 have l1:=Paired.length r1
 have l2:=Paired.length r2
 refine bE6 (ai7 hu) (by omega) n1 n2 d1 d2 (by omega) (r1.all hv) (r2.all hw) (fun x hx=>?_) ⟨.bl true,H,I,rfl,q⟩
 have hk:x.1∈kvs.map (·.1):=by rw[r1.ks];exact C9 hx
 obtain⟨kv,hkv,e⟩:=o9.mp hk
 rw[<- r2.ks,<- e]
 exact hm kv hkv
theorem aZ2:O1 X (.builtin "len") (fun xs H Q=>∃ (a:Addr) (kvs:List (List Key × V)),xs=[V.ref a]/\Rd H a (.dT kvs)/\Q (.int kvs.length) H):=by
 intro pins s σ H xs us Q I r h
 obtain⟨a,kvs,rfl,e,q⟩:=h
 obtain⟨u,rfl,rx⟩:=vals1 r
 cases rx
 obtain⟨z,n1,ys,r1,o,es,ep,g,c,d,ee,_⟩:=at4 I.hok e
 have l1:=Paired.length r1
 have l2:=P4 ee
 have hT:s.TypeIs (.ref a) "dict":=⟨o,g,c.1⟩
 refine Calls.call_function_entry kind_len plain_len entry_len (args_len1 _) ?_
 unfold Builtin.«len»
 refine a5 (m:=oneArg "len" _) (a8 ?_)
 refine a5 (m:=callSpecial? (.ref a) (Str.ofString "__len__")) (Q8 (name:=Str.ofString "__len__") hT PySem.F.slot_dict_len
  (C3 PySem.F.slot_dict_len hT PySem.F.entry_dict_len ?_ (PySem.F.args_dict_len_1 _)))
 show k9 _ _ (dictSize a >>= _) _ _ s
 unfold dictSize
 refine a5 (a5 (B2 g d (a8 ?_)))
 show k9 _ _ (Builtin.Dict.pendingCount a >>= _) _ _ s
 refine a5 (wpAny_pendingCount_other n1 ?_)
 have e3:es.size=kvs.length:=by omega
 rw[show ((es.size:Nat):Int)+((0:Nat):Int)=(kvs.length:Int) by omega]
 refine a5 (wpAny_mkInt (a8 ⟨_,rfl,?_⟩))
 show k9 _ _ _ _ _ { s with toks:=s.toks+1 }
 refine a5 (v8 (a8 ?_))
 refine a5 (aC5 ?_)
 have hz:i7=16777216:=E9
 show k9 _ _ (if ((kvs.length:Nat):Int)<0 then _ else _) _ _ _
 rw[if_neg (by omega)]
 show k9 _ _ (if ((kvs.length:Nat):Int)≥2 ^ 63 then _ else _) _ _ _
 rw[if_neg (by omega)]
 exact a5 (wpAny_mkInt (a8 ⟨_,rfl,.int kvs.length,H,I.tok _,⟨_,rfl⟩,q⟩))
theorem bZ6 (I:Inv X pins σ H s)(e:H a=some (.frz o (.dT kvs)))(h0:X.H₀ a=none):Inv X pins σ (upd H a (.dT kvs)) s:=by
 have nn:∀ b,H b=none->b≠a:=fun b n z=>by rw[z,e]at n;cases n
 have ntup:∀ b xs,H b=some (.tup xs)->b≠a:=fun b xs n z=>by rw[z,e]at n;cases n
 have nown:∀ b y,H b=some (.own y)->b≠a:=fun b y n z=>by rw[z,e]at n;cases n
 refine⟨I.ok,I.os,I.bare,⟨I.base.keep,I.base.slot,fun b u q n hx=>?_,I.base.there,fun b xs q=>?_,fun b u v q=>?_,fun b ps q=>?_⟩,I.loc,I.cell,?_,fun x c q=>?_,fun p hp=>?_,fun b u q=>?_,I.len⟩
 ·have:=I.base.free b u q n hx
  rw[n4 (nn b this)]
  exact this
 ·have:=I.base.tups b xs q
  rw[n4 (ntup b xs this)]
  exact this
 ·rw[n4 (fun z=>by rw[z,h0]at q;cases q)]
  exact I.base.frzs b u v q
 ·obtain⟨more,h⟩:=I.base.tbls b ps q
  exact⟨more,by rw[n4 (fun z=>by rw[z,h0]at q;cases q)];exact h⟩
 ·rw[n4 (nn _ I.free)]
  exact I.free
 ·rw[n4 (nn _ (I.freeC x c q))]
  exact I.freeC x c q
 ·obtain⟨h1,h2,h3⟩:=I.pin p hp
  exact⟨h1,by rw[n4 (nn _ h2)];exact h2,h3⟩
 ·have st:∀ v,D5 X.prog X.w H s.heap b v->D5 X.prog X.w (upd H a (.dT kvs)) s.heap b v:=fun v hv =>
   hv.stay (fun _ _ _ r=>r) (fun c r=>by rw[n4 (nown c _ r)];exact r) fun c xs r=>by rw[n4 (ntup c xs r)];exact r
  by_cases hb:b=a
  ·subst hb
   rw[b9]at q
   cases q
   obtain⟨_,h⟩:=(show D5 X.prog X.w H s.heap b (.frz o (.dT kvs)) from I.hok b _ e)
   exact st _ h
  ·rw[n4 hb]at q
   exact st _ (I.hok b u q)
theorem bq9 {ss:List Stmt}{t:TS}(h:PSs X ss t):PSs X ss (fun D σ H=>∃ (a:Addr) (o:Obj) (kvs:List (List Key × V)),H a=some (.frz o (.dT kvs))/\X.H₀ a=none/\t D σ (upd H a (.dT kvs))):=by
 intro pins s σ H D I hw
 obtain⟨a,o,kvs,e,h0,q⟩:=hw
 exact h pins s σ _ D (bZ6 I e h0) q
end L2
namespace Web
open PySem L2
theorem bX7 (h:k.length=4):∃ i j m l:Int,k=[i,j,m,l]:=by
 match k,h with
 | [i,j,m,l],_=>exact⟨i,j,m,l,rfl⟩
theorem Pt.permR:∀ {fs:List ac3} {ks ls ls':List (List Int)},Pt n ks fs ls->ls.Perm ls'->Pt n ks fs ls'
 | [],_,_,_,h,p=>List.Perm.trans h p
 | _::_,_,_,_,h,p=>⟨h.1,Pt.permR h.2 p⟩
theorem TR.grow {PT:Addr}{ks:List (List Int)}(h:TR H d ks)(g:O0 PT H H')(t:L4 PT po qu H):TR H' d ks:=by
 obtain⟨kvs,h1,h2⟩:=h
 obtain⟨ps,hP,_⟩:=t
 refine⟨kvs,?_,h2⟩
 rcases h1 with h1 | ⟨o,h1⟩
 ·exact .inl (g d _ (fun z=>by rw[z,hP]at h1;cases h1) h1)
 ·exact .inr ⟨o,g d _ (fun z=>by rw[z,hP]at h1;cases h1) h1⟩
theorem KE.len {ks:List (List Int)}(h:KE kvs ks):kvs.length=ks.length:=by
 have:=congrArg M7 h.1
 rw[b8,b8]at this
 exact this
theorem KE.sub {kws:List (List Key × V)}{ks:List (List Int)}(h:KE kvs ks)(g:KE kws ls)(p:ks.Perm ls):∀ kv∈kvs,kv.1∈kws.map (·.1):=fun kv hkv=>by
 have h1:kv.1∈kvs.map (·.1):=C9 hkv
 rw[h.1]at h1
 rw[g.1]
 exact(p.map _).mem_iff.mp h1
theorem aH6 {ks:List (List Int)}(hu:∀ k∈ks,Up n k)(nd:ks.Nodup)(p:ls.Perm ks)(so:ls.Pairwise (fun a b=>Tim.K9 b a=false)):Wbs n ls:=⟨fun k hk=>hu k (p.mem_iff.mp hk),p.nodup_iff.mpr nd,so⟩
theorem bb2 (h:Up n k):k≠[]:=by
 obtain⟨i,j,_,_,rfl⟩:=h
 simp
seal L2.PE L2.PA L2.PS L2.PSs L2.PT
section
variable {K:W.Frag} {mg:Str->Option Value} {base:Heap}
def bo6 (K:W.Frag):Sp:=fun vs H Q _=>∃ (c:Int) (n m:Nat),vs=[.int c,.int n,.int m]/\1<=n/\n<=24/\m<=12/\∀ (l:Addr) (ys:List V) (ks:List (List Int)) (H':Hp),A0 H H'->H l=none->H' l=some (.lst ys)->G2 H' ys ks->ks.length=m->(∀ k∈ks,k.length=4)->Q (.ref l) H'
theorem am0:A1 ["cell","places","many","rest","fours","k","four","turn"] ["cell","places","many"] (p5 aP8):=.mk'
set_option maxHeartbeats 2000000 in
theorem bC8 (F:Fun K "_law_fours" "_law_fours" aP8 f fd) (B:Bn mg):A2 P w K mg base CX0 1 f fd ["cell","places","many"] (bo6 K):=by
 refine F.ok am0 (fun cdv A outer s H vs Q E hr h=>?_)
 obtain⟨c,pn,m,rfl,n1,n2,hm,q⟩:=h
 have hsl:=R4
 refine⟨_,j5 (B3 (i:=3) am0.nd rfl (Or.inl rfl) (pv 0))
  (j5 (B3 (i:=4) am0.nd rfl (Or.inl rfl) (W6 c7))
  (j5 (U0 PassesOwn.never rfl (W5 rfl B.range (a7 (pv 2) c7)) (B1 (i := 5) am0.nd rfl (Or.inl rfl))
   (j5 (B3 (i:=6) am0.nd rfl (Or.inl rfl) (W6 c7))
   (j5 (U0 PassesOwn.never rfl (W5 rfl B.range (a7 k7 c7)) (B1 (i := 7) am0.nd rfl (Or.inl rfl))
    (j5 (Q9 (az7 PySem.F.plainAttrs_list PySem.F.slot_list_append PySem.F.type_list_append O9 (pv 6) (a7 (C5 W7 (pv 3) (pv 1)) c7)))
    (n5 (B3 (i:=3) am0.nd rfl (Or.inl rfl) (C5 ae5 (pv 3) (pv 1))))))
   (n5 (Q9 (az7 PySem.F.plainAttrs_list PySem.F.slot_list_append PySem.F.type_list_append O9 (pv 4) (a7 (F8 aC9 (by rfl) B.tuple (by rfl) (a7 (pv 6) c7)) c7)))))))
  (n5 (B9 (pv 4))))),?_⟩
 refine⟨_,rfl,?_⟩
 refine⟨by show 0<=i7;omega,fun l hl=>?_⟩
 have s0:=i8 (o:=.lst []) hl
 have hv0:(0:Int)<(pn:Int):=by omega
 have hv1:(pn:Int)<1073741824:=by omega
 refine⟨_,rfl,m,rfl,by omega,by omega,aj7 (lo:=0) (n:=m) (fun n σ H1=>∃ (r:Int) (ys:List V) (ks:List (List Int)) (e5 e6 e7:Option V),σ=[some (.int c),some (.int pn),some (.int m),some (.int r),some (.ref l),e5,e6,e7]/\A0 H H1/\H1 l=some (.lst ys)/\G2 H1 ys ks/\ks.length=n/\∀ k∈ks,k.length=4)
  ⟨c,[],[],none,none,none,rfl,s0,b9,.nil,rfl,fun k hk=>absurd hk o7⟩ ?_ ?_⟩
 ·rintro n σ H1 hn ⟨r,ys,ks,e5,e6,e7,rfl,s1,g1,t1,l1,h4⟩
  refine p6 ?_
  refine⟨by show 0<=i7;omega,fun lf hlf=>?_⟩
  have s2:=i8 (o:=.lst []) hlf
  have nl:l≠lf:=u6 g1 hlf
  have flf:H lf=none:=s1.free hlf
  refine⟨4,rfl,by decide,by decide,?_⟩
  refine aj7 (lo:=0) (n:=4) (fun t σ H2=>∃ (r:Int) (ts:List Int) (e7:Option V),σ=[some (.int c),some (.int pn),some (.int m),some (.int r),some (.ref l),some (.int (0+n)),some (.ref lf),e7]/\A0 H H2/\H2 l=some (.lst ys)/\G2 H2 ys ks/\H2 lf=some (.lst (ts.map V.int))/\ts.length=t)
   ⟨r,[],e7,rfl,s1.trans s2,s2 _ _ g1,t1.same s2,b9,rfl⟩ ?_ ?_
  ·rintro t σ H2 ht ⟨r',ts,e7',rfl,sa,ga,ta,gf,lts⟩
   refine p6 ?_
   refine⟨_,rfl,.inl ⟨rfl,_,SqL.of gf⟩,_,rfl,_,rfl,_,_,rfl,rfl,hv0,lf,_,_,rfl,rfl,gf,by rw[b8];omega,?_⟩
   refine⟨_,rfl,_,rfl,_,_,rfl,rfl,⟨hv0,hv1⟩,?_⟩
   exact⟨_,ts++[r' % pn],_,rfl,sa.upd flf,by rw[n4 nl];exact ga,ta.updL gf,by rw[b9,r6];rfl,by rw[j9,lts];rfl⟩
  ·rintro σ H2 ⟨r',ts,e7',rfl,sa,ga,ta,gf,lts⟩
   refine⟨_,rfl,.inl ⟨rfl,_,SqL.of ga⟩,_,rfl,lf,_,rfl,SqL.of gf,fun tp ob ftp oc od=>?_⟩
   have s3:=i8 (o:=.frz ob (.tup (ts.map V.int))) ftp
   have hyl:=ta.len
   refine⟨l,_,_,rfl,rfl,s3 _ _ ga,by omega,?_⟩
   refine⟨r',ys++[.ref tp],ks++[ts],_,_,_,rfl,(sa.trans s3).upd hl,b9,G2.updL (s3 _ _ ga) (G2.append (ta.same s3) (.cons ⟨tp,rfl,ob,b9,oc,od⟩ .nil)),by rw[j9,l1];rfl,fun k hk=>?_⟩
   rcases n8.mp hk with hk | hk
   ·exact h4 k hk
   ·rw[d6.mp hk];exact lts
 ·rintro σ H1 ⟨r,ys,ks,e5,e6,e7,rfl,s1,g1,t1,l1,h4⟩
  exact⟨_,rfl,q l ys ks H1 s1 hl g1 t1 l1 h4⟩
def bG7 (K:W.Frag):Sp:=fun vs H Q _=>∃ (b:Addr) (k:List Int),vs=[.ref b]/\SqT K H b (k.map V.int)/\k.length=4/\Q (.bl true) H
theorem bH1:A1 ["found","number"] ["found"] (p5 bp9):=.mk'
theorem bO5 (F:Fun K "_law_is_four" "_law_is_four" bp9 f fd)(B:Bn mg):A2 P w K mg base CX0 1 f fd ["found"] (bG7 K):=by
 refine F.ok bH1 (fun cdv A outer s H vs Q E hr h=>?_)
 obtain⟨b,k,rfl,hp,hk,q⟩:=h
 refine⟨_,j5 (K7 (PW.pt (ad1 (M4 (L7 (v9 aL8 (by rfl) B.isin (by rfl) (a7 (pv 0) (a7 (ao1 (v:=.ty "tuple") (by rfl) B.tuple (by rfl) rfl) c7))))) (aa1 (E2 bH6 (v9 L3 (by rfl) B.len PySem.boot_len (a7 (pv 0) c7)) k7 (J5 _))))) G8 C6)
  (j5 (U0 PassesOwn.never rfl (am2 (pv 0)) (B1 (i:=1) bH1.nd rfl (Or.inl rfl))
    (n5 (K7 (PW.pt (ad1 (M4 (L7 (v9 (ae8 K rfl) (by rfl) B.isin (by rfl) (a7 (pv 1) (a7 (ao1 (v:=.ty "int") (by rfl) B.int (by rfl) rfl) c7))))) (aa1 (L7 (v9 (ae8 K rfl) (by rfl) B.isin (by rfl) (a7 (pv 1) (a7 (ao1 (v:=.ty "bool") (by rfl) B.bool (by rfl) rfl) c7))))))) G8 C6)))
  (n5 (B9 ah4))),?_⟩
 refine⟨_,rfl,b,_,_,true,rfl,hp,rfl,_,rfl,G5 ?_⟩
 refine⟨_,rfl,b,_,rfl,.inr hp,rfl,_,rfl,?_⟩
 rw[b8,hk]
 refine bX8 rfl ?_
 refine⟨_,rfl,b,rfl,⟨_,hp⟩,aw9 (K:=K) (a:=b) (xs:=k.map V.int) (fun _ σ H2=>∃ e2,σ=[some (.ref b),e2]/\H2=H) ⟨none,rfl,rfl⟩ (fun i σ H2 _ ⟨_,_,e⟩=>by rw[e];exact hp) ?_ ?_⟩
 ·rintro j y σ H2 hy ⟨e2',rfl,rfl⟩
  obtain⟨z,rfl⟩:=int_at hy
  refine p6 ?_
  refine⟨_,rfl,_,_,_,true,rfl,.int z,rfl,_,rfl,G5 ?_⟩
  refine⟨_,rfl,_,_,_,false,rfl,.int z,rfl,_,rfl,G5 ?_⟩
  exact⟨_,rfl,rfl⟩
 ·rintro σ H2 ⟨e2',rfl,rfl⟩
  exact q
def bG4 (K:W.Frag):Sp:=fun vs H Q _=>∃ (da sa:Addr) (n:Nat) (ks:List (List Int)) (ns:List Int),vs=[.int n,.ref da,.ref sa]/\TR H da ks/\1<=n/\n<=24/\(∀ k∈ks,Up n k)/\ks.Nodup/\SqL K H sa (ns.map V.int) /\
 ∀ (d:Addr) (ls:List (List Int)) (H':Hp),A0 H H'->H d=none->TD H' d ls->(∀ k∈ls,Up n k)->ls.Nodup->tal n ls=tal n ks->Q (.ref d) H'
theorem aO8:A1 ["places","ties","cells","here","cell","four"] ["places","ties","cells"] (p5 bp6):=.mk'
set_option maxHeartbeats 4000000 in
theorem bN9 {fF fM fW fT fX:Addr} {fdF fdM fdW fdX:FuncData} (F:Fun K "_law_walked" "_law_walked" bp6 f fd) (B:Bn mg) (FF:Fq K mg "_law_fours" aP8 fF fdF ["cell","places","many"])
  (FM:Fq K mg "_law_mixed" az1 fM fdM ["cell","k"])
  (FW:Fq K mg "_law_fits" aD8 fW fdW ["places","ties","four"])
  (FT:Fq K mg "_law_tied" am1 fT fdT ["ties","one","other"])
  (FX:Fq K mg "_law_behind" aD9 fX fdX ["ties","four"]):A2 P w K mg base CX0 3 f fd ["places","ties","cells"] (bG4 K):=by
 have GF:A2 P w K mg base CX0 2 fF fdF ["cell","places","many"] (bo6 K):=(bC8 FF.F B).mono (by decide)
 have GM:A2 P w K mg base CX0 2 fM fdM ["cell","k"] aW1:=(be3 FM.F).mono (by decide)
 have GW:A2 P w K mg base CX0 2 fW fdW ["places","ties","four"] (aW3 K):=be4 FW.F B FT
 have GX:A2 P w K mg base CX0 2 fX fdX ["ties","four"] (aW4 K):=(be5 FX.F B).mono (by decide)
 refine F.ok aO8 (fun cdv A outer s H vs Q E hr h=>?_)
 obtain⟨da,sa,n,ks,ns,rfl,hda,n1,n24,hu,nd,hS,q⟩:=h
 have hsl:=R4
 have nd3:(["k","cell","places"]:List Str).Nodup:=by decide +kernel
 refine⟨_,j5 (B3 (i:=3) aO8.nd rfl (Or.inl rfl) (F8 ae9 (by rfl) B.dict (by rfl) (a7 (pv 1) c7)))
  (j5 (U0 PassesOwn.never rfl (ab4 (pv 2)) (B1 (i := 4) aO8.nd rfl (Or.inr rfl))
   (n5 (U0 PassesOwn.never rfl (ab4 (C5 aJ5 (A7 GF hr (by rfl) FF A8 (a7 (pv 4) (a7 (pv 0) (a7 k7 c7))))
    (aj4 (N' := ["k", "cell", "places"]) (lk := [none, some 4, some 0]) rfl (W5 rfl B.range (a7 k7 c7)) (by rfl) rfl (by decide +kernel) (by exact ⟨rfl, rfl, trivial⟩) (by rfl) (by exact LkL.ok ⟨⟨rfl, Or.inl rfl, rfl, Or.inl rfl⟩, ⟨rfl, Or.inl rfl, rfl, Or.inl rfl⟩, trivial⟩)
     (fun _ _ _=>B1 (i:=0) nd3 rfl (Or.inl rfl)) (fun _ _ _=>aj2) (fun _ _ _=>be0 K rfl (A7 GF hr (by rfl) FF A8 (a7 (A7 GM hr (by rfl) FM A8 (a7 (pv 1) (a7 (pv 0) c7))) (a7 (pv 2) (a7 k7 c7)))) k7 (fun _ _=>rfl))))) (B1 (i:=5) aO8.nd rfl (Or.inl rfl))
    (n5 (K7 (L7 (A7 GW hr (by rfl) FW A8 (a7 (pv 0) (a7 (pv 3) (a7 (pv 5) c7)))))
     (n5 (B3 (i:=3) aO8.nd rfl (Or.inl rfl) (A7 GX hr (by rfl) FX A8 (a7 (pv 3) (a7 (pv 5) c7))))) C6)))))
  (n5 (B9 (pv 3)))),?_⟩
 obtain⟨kvs0,gda,ek0⟩:=id hda
 refine⟨_,rfl,da,kvs0,rfl,gda,by rw[ek0.1];exact ar7 P w n24 hu nd,fun he fhe=>?_⟩
 have s0:=i8 (o:=.dT kvs0) fhe
 refine p6 ?_
 refine⟨_,rfl,sa,rfl,⟨_,s0.seq hS⟩,ad5 (K:=K) (a:=sa) (xs:=ns.map V.int) (fun _ σ H2=>∃ (d:Addr) (ls:List (List Int)) (e4 e5:Option V),σ=[some (.int n),some (.ref da),some (.ref sa),some (.ref d),e4,e5]/\A0 H H2/\H d=none/\TD H2 d ls/\(∀ k∈ls,Up n k)/\ls.Nodup/\tal n ls=tal n ks)
  ⟨he,ks,none,none,rfl,s0,fhe,⟨kvs0,b9,ek0⟩,hu,nd,rfl⟩ (fun i σ H2 _ ⟨_,_,_,_,_,s,_⟩=>s.seq hS) ?_ ?_⟩
 ·rintro i x σ H2 hx ⟨d,ls,e4,e5,rfl,s2,fd2,td2,hu2,nd2,ht2⟩
  obtain⟨c,rfl⟩:=int_at hx
  refine p6 ?_
  refine⟨_,rfl,_,rfl,c,n,12,rfl,n1,n24,by omega,fun fl ys fs H3 s3 ffl gfl tys lks h4=>?_⟩
  refine⟨20,rfl,by decide,by decide,fun D4 hD4=>?_⟩
  refine am5 (lo:=0) (n:=20) (D:=D4) (fun m us σ' H'=>(∃ v,σ'=[v,some (.int c),some (.int n)])/\A0 H3 H'/\H' D4=some (.lst us)/\∃ js:List (List Int),G2 H' us js/\js.length=m/\∀ k∈js,k.length=4)
   ⟨⟨none,rfl⟩,i8 hD4,b9,[],.nil,rfl,fun k hk=>absurd hk o7⟩ (by omega) (fun m us σ' H' hm ⟨_,_,h6,js,t6,l6,_⟩=>⟨h6,by rw[t6.len,l6];exact c5 _⟩) ?_ ?_
  ·rintro m us σ' H' N kN hm ⟨⟨v,rfl⟩,s6,h6,js,t6,l6,j4⟩
   refine p6 (ad0 ?_)
   refine⟨_,rfl,_,rfl,c,_,rfl,fun r=>?_⟩
   refine⟨_,rfl,r,n,1,rfl,n1,n24,by omega,fun f1 y1 k1 H7 s7 _ g7 t7 l7 h7=>?_⟩
   obtain⟨k0,rfl⟩:∃ k0,k1=[k0]:=by
    match k1,l7 with
    | [k0],_=>exact⟨k0,rfl⟩
   obtain⟨y0,rfl⟩:∃ y0,y1=[y0]:=by
    have:=t7.len
    match y1,this with
    | [y0],_=>exact⟨y0,rfl⟩
   refine .inl ⟨f1,_,_,_,rfl,rfl,SqL.of g7,B5 (j:=0) rfl,s7 _ _ h6,kN _ _ _ ⟨⟨_,rfl⟩,(s6.trans s7).upd hD4,b9,js++[k0],G2.updL (s7 _ _ h6) (G2.append (t6.same s7) t7),by rw[j9,l6];rfl,fun k hk=>(n8.mp hk).elim (j4 k) (h7 k)⟩⟩
  rintro us σ' H4 ⟨⟨v,rfl⟩,s4,h4',js,t4,l4,j4⟩
  have gfl4:=s4 _ _ gfl
  have hyl:=tys.len
  have hul:=t4.len
  refine⟨fl,D4,ys,us,rfl,rfl,gfl4,h4',by omega,fun z fz=>?_⟩
  have sz:=i8 (o:=.lst (ys++us)) fz
  have s5:=(s3.trans s4).trans sz
  have g5:(upd H4 z (.lst (ys++us))) z=some (.lst (ys++us)):=b9
  have t5:G2 (upd H4 z (.lst (ys++us))) (ys++us) (fs++js):=(G2.append (tys.same s4) t4).same sz
  have h5:∀ k∈fs++js,k.length=4:=fun k hk=>(n8.mp hk).elim (h4 k) (j4 k)
  generalize upd H4 z (.lst (ys++us))=H5 at g5 t5 s5
  refine⟨z,rfl,⟨_,SqL.of g5⟩,ad5 (K:=K) (a:=z) (xs:=ys++us) (fun _ σ H6=>∃ (d:Addr) (ls:List (List Int)) (e5:Option V),σ=[some (.int n),some (.ref da),some (.ref sa),some (.ref d),some (.int c),e5]/\A0 H5 H6/\H d=none/\TD H6 d ls/\(∀ k∈ls,Up n k)/\ls.Nodup/\tal n ls=tal n ks)
   ⟨d,ls,e5,rfl,A0.refl H5,fd2,td2.same s5,hu2,nd2,ht2⟩ (fun i σ H6 _ ⟨_,_,_,_,s,_⟩=>SqL.of (s _ _ g5)) ?_ ?_⟩
  ·rintro i x σ H6 hx ⟨d,ls,e5,rfl,s6,fd6,td6,hu6,nd6,ht6⟩
   obtain⟨p,k,rfl,hk,hp⟩:=t5.get hx
   obtain⟨i1,j1,k1,l1,rfl⟩:=bX7 (h5 k (d9 hk))
   have hp6:=hp.same s6
   refine p6 ?_
   refine⟨_,rfl,_,rfl,_,rfl,d,p,n,ls,i1,j1,k1,l1,rfl,td6.toR,hp6,fun H7 s7=>⟨_,rfl,?_⟩⟩
   by_cases hft:Fits n ls i1 j1 k1 l1
   ·rw[decide_eq_true hft]
    refine R5 ?_
    have hin:=((X1 n _).mp hft.1).1
    obtain⟨a1,rfl⟩:∃ a:Nat,i1=(a:Int):=⟨i1.toNat,(V6 (hin i1 (by simp)).1).symm⟩
    obtain⟨b1,rfl⟩:∃ a:Nat,j1=(a:Int):=⟨j1.toNat,(V6 (hin j1 (by simp)).1).symm⟩
    obtain⟨c1,rfl⟩:∃ a:Nat,k1=(a:Int):=⟨k1.toNat,(V6 (hin k1 (by simp)).1).symm⟩
    obtain⟨d1,rfl⟩:∃ a:Nat,l1=(a:Int):=⟨l1.toNat,(V6 (hin l1 (by simp)).1).symm⟩
    refine⟨_,rfl,_,rfl,d,p,n,ls,a1,b1,c1,d1,rfl,(td6.same s7).toR,n24,hu6,nd6,(hp6.same s7).sqT,hft,fun l H8 s8 fl8 td8=>?_⟩
    have hbp:=aG2 hu6 nd6 hft
    have ex:=Z3 hu6 nd6 hft hbp
    exact⟨l,_,_,rfl,s6.trans (s7.trans s8),(s2.trans (s5.trans (s6.trans s7))).free fl8,td8,ex.1,ex.2.1,ex.2.2.trans ht6⟩
   ·rw[decide_eq_false hft]
    exact G5 ⟨d,ls,_,rfl,s6.trans s7,fd6,td6.same s7,hu6,nd6,ht6⟩
  ·rintro σ H6 ⟨d,ls,e5,rfl,s6,fd6,td6,hu6,nd6,ht6⟩
   exact⟨d,ls,_,_,rfl,s2.trans (s5.trans s6),fd6,td6,hu6,nd6,ht6⟩
 ·rintro σ H2 ⟨d,ls,e4,e5,rfl,s2,fd2,td2,hu2,nd2,ht2⟩
  exact⟨_,rfl,q d ls H2 s2 fd2 td2 hu2 nd2 ht2⟩
def bG6 (K:W.Frag):Sp:=fun vs H Q _=>∃ (da sa la:Addr) (n:Nat) (ks ls:List (List Int)) (zs:List V) (fs:List ac3),vs=[.int n,.ref da,.ref sa,.ref la]/\TR H da ks/\TR H la ls/\n<=24/\(∀ k∈ks,Up n k)/\ks.Nodup/\H sa=some (.lst zs)/\G2 H zs (fs.map q4)/\Pt n ks fs ls/\fs.length<=ks.length/\∀ H':Hp,A0 H H'->Q (.bl true) H'
theorem bc9:A1 ["places","ties","steps","last","here","four"] ["places","ties","steps","last"] (p5 bp8):=.mk'
set_option maxHeartbeats 2000000 in
theorem bO3 {fF fB fT f4:Addr} {fdF fdB fd4:FuncData} (F:Fun K "_law_leads" "_law_leads" bp8 f fd) (B:Bn mg) (F4:Fq K mg "_law_is_four" bp9 f4 fd4 ["found"]) (FF:Fq K mg "_law_fits" aD8 fF fdF ["places","ties","four"])
  (FT:Fq K mg "_law_tied" am1 fT fdT ["ties","one","other"])
  (FB:Fq K mg "_law_behind" aD9 fB fdB ["ties","four"]):A2 P w K mg base CX0 3 f fd ["places","ties","steps","last"] (bG6 K):=by
 have GF:A2 P w K mg base CX0 2 fF fdF ["places","ties","four"] (aW3 K):=be4 FF.F B FT
 have GB:A2 P w K mg base CX0 2 fB fdB ["ties","four"] (aW4 K):=(be5 FB.F B).mono (by decide)
 have G4:A2 P w K mg base CX0 2 f4 fd4 ["found"] (bG7 K):=(bO5 F4.F B).mono (by decide)
 refine F.ok bc9 (fun cdv A outer s H vs Q E hr h=>?_)
 obtain⟨da,sa,la,n,ks,ls,zs,fs,rfl,hda,hla,n24,hu,nd,gsa,fz,hp,hlen,q⟩:=h
 have hsl:=R4
 have hun:=hr.units
 have hu1:=ag4 (G9 (by decide:1<=64) _) hun
 refine⟨_,j5 (B3 (i:=4) bc9.nd rfl (Or.inl rfl) (F8 ae9 (by rfl) B.dict (by rfl) (a7 (pv 1) c7)))
  (j5 (U0 PassesOwn.never rfl (ab4 (pv 2)) (B1 (i := 5) bc9.nd rfl (Or.inl rfl))
   (j5 (K7 (PW.pt (ad1 (M4 (L7 (A7 G4 hr (by rfl) F4 A8 (a7 (pv 5) c7)))) (aa1 (M4 (L7 (A7 GF hr (by rfl) FF A8 (a7 (pv 0) (a7 (pv 4) (a7 (pv 5) c7))))))))) G8 C6)
   (n5 (B3 (i:=4) bc9.nd rfl (Or.inl rfl) (A7 GB hr (by rfl) FB A8 (a7 (pv 4) (a7 (pv 5) c7)))))))
  (n5 (B9 (aw6 (bB5 hu1) (pv 4) (pv 3) (by rfl))))),?_⟩
 obtain⟨kvs0,gda,ek0⟩:=id hda
 refine⟨_,rfl,da,kvs0,rfl,gda,by rw[ek0.1];exact ar7 P w n24 hu nd,fun he fhe=>?_⟩
 have s0:=i8 (o:=.dT kvs0) fhe
 refine p6 ?_
 have hfl:=fz.len
 rw[b8]at hfl
 refine⟨_,rfl,sa,rfl,⟨_,SqL.of (s0 _ _ gsa)⟩,?_⟩
 refine ad5 (K:=K) (a:=sa) (xs:=zs) (fun i σ H2=>∃ he ms e5,σ=[some (.int n),some (.ref da),some (.ref sa),some (.ref la),some (.ref he),e5]/\A0 H H2/\TR H2 he ms/\(∀ k∈ms,Up n k)/\ms.Nodup/\Pt n ms (fs.drop i) ls)
  ⟨he,ks,none,rfl,s0,⟨kvs0,.inl b9,ek0⟩,hu,nd,hp⟩ (fun i σ H2 _ ⟨_,_,_,_,s2,_⟩=>SqL.of (s2 _ _ gsa)) ?_ ?_
 ·rintro i x σ H2 hx ⟨he,ms,e5,rfl,s2,tr,hum,ndm,hpm⟩
  obtain⟨qa,k,rfl,hk,hz⟩:=(fz.same s2).get hx
  obtain⟨f,hf,rfl⟩:∃ f,fs[i]?=some f/\k=q4 f:=by
   rw[j6]at hk
   cases e:fs[i]? with
   | none=>rw[e]at hk;cases hk
   | some f=>rw[e]at hk;exact⟨f,rfl,(Option.some.inj hk).symm⟩
  have ed:fs.drop i=f::fs.drop (i+1):=by
   obtain⟨h1,h2⟩:=a9.mp hf
   rw[U8 h1,h2]
  rw[ed]at hpm
  obtain⟨hft,hpr⟩:=hpm
  obtain⟨a,b,c,d⟩:=f
  have hft:Fits n ms a b c d:=hft
  refine p6 ?_
  refine⟨_,rfl,qa,[(a:Int),(b:Int),(c:Int),(d:Int)],rfl,hz.sqT,rfl,⟨_,rfl,G5 ?_⟩⟩
  refine⟨_,rfl,_,rfl,_,rfl,he,qa,n,ms,(a:Int),(b:Int),(c:Int),(d:Int),rfl,tr,hz,fun H3 s3=>⟨_,rfl,?_⟩⟩
  rw[decide_eq_true hft]
  refine G5 ?_
  refine⟨_,rfl,_,rfl,he,qa,n,ms,a,b,c,d,rfl,tr.same s3,n24,hum,ndm,(hz.same s3).sqT,hft,fun l H4 s4 fl htd=>?_⟩
  refine p6 ?_
  have hbp:=aG2 hum ndm hft
  have ex:=Z3 hum ndm hft hbp
  exact⟨l,_,_,rfl,(s2.trans s3).trans s4,htd.toR,ex.1,ex.2.1,hpr.perm hbp.symm⟩
 ·rintro σ H2 ⟨he,ms,e5,rfl,s2,tr,hum,ndm,hpm⟩
  rw[E3 (by omega)]at hpm
  obtain⟨kvs,gk,ek⟩:=tr
  obtain⟨kws,gw,ew⟩:=hla.same s2
  have hpm:ms.Perm ls:=hpm
  exact⟨_,rfl,_,rfl,he,la,kvs,kws,rfl,rfl,gk,gw,by rw[ek.len,ew.len,hpm.length_eq],ek.2,ew.2,ek.sub ew hpm,q _ s2⟩
structure bZ5 (K:W.Frag) (mg:Str->Option Value) (CT CU CB CX:Addr):Prop where
 mT:mg "TallyError"=some (.ref CT)
 mU:mg "Unlike"=some (.ref CU)
 mB:mg "BadWeb"=some (.ref CB)
 mX:mg "NoExchange"=some (.ref CX)
 cU:aM3 K CU
 kU:aM2 K CU
 xU:PySem.W.exmOne K (.ref CU) (.ref CT)=some true
 eU:PySem.W.kitOne K (.ref CU) (.ref CU)=some true
 vU:PySem.W.kitOne K (.ref CU) (.type "ValueError")=some true
 aU:PySem.W.kitAny K (.ref CU) [.ref CB,.ref CX]=some false
 cX:aM3 K CX
def bo2 (K:W.Frag)(PT:Addr):Sp:=fun vs H Q _=>∃ (a b:Addr) (T U:List (List Int)) (n m:Nat),vs=[.ref a,.ref b]/\D3 K H a n T/\D3 K H b m U/\Wbs n T/\Wbs m U/\1<=n/\n<=24/\1<=m/\m<=24/\Tb PT H/\tal n T≠tal m U/\∀ H':Hp,A0 H H'->Q (.bl true) H'
theorem aI6:A1 ["one","two","right","e"] ["one","two"] (p5 aP2):=.mk'
theorem bC1 {fL CT CU CB CX PT:Addr} {fdL:FuncData} (F:Fun K "_law_refused" "_law_refused" aP2 f fd) (B:Bn mg) (FL:Fq K mg "led" aD7 fL fdL ["one","two"]) (GL:A2 P w K mg base (CXE P w) 7 fL fdL ["one","two"] (aI1 K CU PT))
  (L:bZ5 K mg CT CU CB CX):A2 P w K mg base CX0 8 f fd ["one","two"] (bo2 K PT):=by
 refine F.ok aI6 (fun cdv A outer s H vs Q E hr h=>?_)
 obtain⟨a,b,T,U,n,m,rfl,hTa,hTb,wT,wU,n1,n2,m1,m2,tb,hn,q⟩:=h
 refine⟨_,j5 (B3 (i:=2) aI6.nd rfl (Or.inl rfl) ah4)
  (j5 (bM7 (i:=3) aI6.nd rfl rfl (by rfl) L.mT rfl rfl
    (fun _ _=>n5 (Q9 (bs0 GL hr (by rfl) FL.m FL.F.kp FL.b bB1 (a7 (pv 0) (a7 (pv 1) c7)))))
    (fun _ => n5 (B3 (i := 2) aI6.nd rfl (Or.inl rfl) (az8 (v9 (ap2 K rfl) (by rfl) B.isin (by rfl) (a7 (pv 3) (a7 (Z0 (v := .ref CU) (by rfl) L.mU rfl) c7)))
     (az8 (v9 (ap2 K rfl) (by rfl) B.isin (by rfl) (a7 (pv 3) (a7 (ao1 (v:=.ty "ValueError") (by rfl) B.ve (by rfl) rfl) c7)))
     (aJ1 (az6 (v9 (aD2 K rfl) (by rfl) B.isin (by rfl) (a7 (pv 3) (a7 (G1 (a7 (Z0 (v:=.ref CB) (by rfl) L.mB rfl) (a7 (Z0 (v:=.ref CX) (by rfl) L.mX rfl) c7))) c7))))))))))
  (n5 (B9 (pv 2)))),?_⟩
 refine⟨fun σ' cls _ H'=>σ'=[some (.ref a),some (.ref b),some (.bl false),none]/\A0 H H'/\cls=.ref CU,?_,?_⟩
 ·exact⟨_,rfl,_,rfl,a,b,T,U,n,m,rfl,hTa,hTb,wT,wU,n1,n2,m1,m2,tb,fun h=>absurd h hn,fun _ H1 s1=>⟨rfl,s1,rfl⟩⟩
 ·rintro σ' cls H' ⟨rfl,s0,rfl⟩
  refine⟨L.xU,fun x hx=>?_⟩
  have s1:=i8 (o:=XO x (.ref CU)) hx
  have gx:(upd H' x (XO x (.ref CU))) x=some (XO x (.ref CU)):=b9
  refine⟨_,rfl,x,CU,.ref CU,_,true,rfl,gx,L.kU,rfl,L.eU,true,rfl,R5 ⟨_,rfl,x,CU,.ty "ValueError",_,true,rfl,gx,L.kU,rfl,L.vU,true,rfl,R5 ⟨_,rfl,(by show 2<=i7;decide),fun tp htp=>?_⟩⟩⟩
  have s2:=i8 (o:=.tup [.ref CB,.ref CX]) htp
  refine⟨x,CU,tp,[CB,CX],false,rfl,s2 _ _ gx,L.kU,b9,L.aU,false,rfl,?_⟩
  exact⟨_,rfl,q _ (s0.trans (s1.trans s2))⟩
end
end Web
namespace HT
open PySem PyProof.Rows
end HT
namespace L2
open PySem PySem.Spec PyProof.Rows
section
variable {st:Expr} {ts:TE} {p2:Pos}
def ca7 (t u:TS):TS:=fun D σ H=>∃ Mid:St->Hp->Prop,t { D with nx:=Mid } σ H/\∀ σ' H',Mid σ' H'->u D σ' H'
theorem aw4 {stm:Stmt}{rest:List Stmt}{t u:TS}(h1:PS X stm t)(h2:PSs X rest u):PSs X (stm::rest) (ca7 t u):=by
 intro pins s σ H D I ⟨Mid,h,k⟩
 refine aV3 (thn (h1 pins s σ H { D with nx:=Mid } I h) fun f s1 q=>?_)
 cases f with
 | next =>
  obtain⟨σ',H',I',q⟩:=q
  exact h2 pins s1 σ' H' D I' (k _ _ q)
 | ret v=>exact q
 | brk=>exact q
 | cont=>exact q
end
theorem bQ3 {g:TG}{tb:TS}{D:Ends}(Pv:Nat->St->Hp->Prop)(h0:Pv 0 σ H)(hl:∀ i σ H,i<=kvs.length->Pv i σ H->H a=some (.frz o (.dT kvs)))
  (hs:∀ i kv p σ H,kvs[i]?=some kv->H p=some (.tup (kv.1.map kV))->Pv i σ H->g (.ref p) σ H fun σ2 H2=>tb { D with nx:=Pv (i+1),ct:=Pv (i+1),bk:=D.nx } σ2 H2)(hd:∀ σ H,Pv kvs.length σ H->D.nx σ H) :
  ∃ W:Nat->Nat->St->Hp->Prop,(∃ m,W 0 m σ H)/\∀ i m σ H,W i m σ H ->
   ((Itd a o kvs).stop i H/\D.nx σ H)\/((Itd a o kvs).go i H/\∃ N:St->Hp->Prop,(∀ σ' H',N σ' H'->∃ m',m'<m/\W (i+1) m' σ' H')/\∀ x H',(Itd a o kvs).yld i H x H'->g x σ H' fun σ2 H2=>tb { D with nx:=N,ct:=N,bk:=D.nx } σ2 H2):=by
 refine⟨fun i m σ H=>m=kvs.length - i/\i<=kvs.length/\Pv i σ H,⟨kvs.length,by simp,n9 _,h0⟩,?_⟩
 rintro i m σ H ⟨rfl,hi,p⟩
 have q:=hl i σ H hi p
 by_cases hlt:i<kvs.length
 ·refine .inr ⟨⟨q,hlt⟩,Pv (i+1),fun σ' H' p'=>⟨kvs.length - (i+1),by omega,rfl,hlt,p'⟩,fun x H' y=>?_⟩
  obtain⟨e,kv,r,hkv,ex,hr⟩:=y
  subst e ex
  exact hs i kv r σ _ hkv hr p
 ·have e:i=kvs.length:=by omega
  subst e
  exact .inl ⟨⟨q,rfl⟩,hd σ H p⟩
end L2
namespace Web
open PySem L2
theorem aK0 {K:W.Frag}{Q:VK}{u:Addr}{zs us:List V}{ks js:List (List Int)}(hun:A.units+64<R8)(gl:H l=some (.lst zs))(tz:D1 K H zs ks)(gu:H u=some (.lst us))(tu:D1 K H us js)(k:Q (.bl (!decide (ks=js))) H):bq8 K A true (.ref l) (.ref u) H Q:=by
 refine⟨.list (ks.map dP),.list (js.map dP),Dt.mkL (SqL.of gl) (C7.tups tz),Dt.mkL (SqL.of gu) (C7.tups tu),by simp[PyData.canLay0,Z6],by simp[PyData.canLay0,Z6],?_,?_⟩
 ·refine bn1 hun (t9 (aV2 _ _) ?_)
  have:=as4 ks
  simp only[PyData.depth]
  omega
 ·have e:PyData.eqv (.list (ks.map dP)) (.list (js.map dP))=decide (ks=js):=by simp only[PyData.eqv,as3]
  rw[e]
  exact k
theorem G2.tups {K:W.Frag}{ks:List (List Int)}(t:G2 H ys ks):D1 K H ys ks:=Paired.mapP t fun _ _ ⟨a,e,z⟩=>⟨a,e,z.sqT⟩
theorem bu5 {K:W.Frag}{PT:Addr}{xs:List V}(g:O0 PT H H')(t:L4 PT po qu H)(h:SqL K H a xs):SqL K H' a xs:=by
 obtain⟨ps,hP,_⟩:=t
 rcases h with(h | ⟨o,h⟩) | h
 ·exact .inl (.inl (g a _ (fun z=>by rw[z,hP]at h;cases h) h))
 ·exact .inl (.inr ⟨o,g a _ (fun z=>by rw[z,hP]at h;cases h) h⟩)
 ·exact .inr h
theorem aB0 {PT:Addr}{ob:Obj}{u:HO}(g:O0 PT H H')(t:L4 PT po qu H)(h:H a=some (.frz ob u)):H' a=some (.frz ob u):=by
 obtain⟨ps,hP,_⟩:=t
 exact g a _ (fun z=>by rw[z,hP]at h;cases h) h
theorem ay2 {K:W.Frag}{u ob:HO}(hl:H l=some u)(nt:∀ xs,u≠.tup xs/\∀ o,u≠.frz o (.tup xs)):(∀ {a xs},SqT K H a xs->SqT K (upd H l ob) a xs):=fun {a xs} h=>by
 rcases h with(h | ⟨o,h⟩) | h
 ·exact .inl (.inl (by rw[n4 (fun z=>by rw[z,hl]at h;injection h with h;exact(nt xs).1 h)];exact h))
 ·exact .inl (.inr ⟨o,by rw[n4 (fun z=>by rw[z,hl]at h;injection h with h;exact(nt xs).2 o h)];exact h⟩)
 ·exact .inr h
theorem D3.updG {K:W.Frag}{p:Addr}{ks:List (List Int)}{u ob:HO}(h:D3 K H p n ks)(hl:H l=some u)(nt:∀ xs,u≠.tup xs/\∀ o,u≠.frz o (.tup xs)):D3 K (upd H l ob) p n ks:=by
 obtain⟨t,zs,h1,h2,h3⟩:=h
 exact⟨t,zs,ay2 hl nt h1,ay2 hl nt h2,Paired.mapP h3 fun _ _ ⟨a,e,z⟩=>⟨a,e,ay2 hl nt z⟩⟩
theorem D3.updD {K:W.Frag}{p:Addr}{ks:List (List Int)}{ob:HO}(h:D3 K H p n ks)(hl:H l=some (.frz o (.dT kvs))):D3 K (upd H l ob) p n ks:=h.updG hl fun xs=>⟨(fun z=>by cases z),(fun o z=>by cases z)⟩
theorem D3.updT {K:W.Frag}{p:Addr}{ks:List (List Int)}{ob:HO}(h:D3 K H p n ks)(hl:H l=some (.dT kvs)):D3 K (upd H l ob) p n ks:=h.updG hl fun xs=>⟨(fun z=>by cases z),(fun o z=>by cases z)⟩
theorem bz0 {PT:Addr}{ob:Obj}{o:HO}(t:L4 PT po qu H)(h:H l=some (.frz ob (.dT kvs))):L4 PT po qu (upd H l o):=by
 obtain⟨ps,hP,r1,r2⟩:=t
 refine⟨ps,by rw[n4 (fun z=>by rw[z,h]at hP;cases hP)];exact hP,r1,r2.imp id fun⟨c,e,g⟩=>⟨c,e,?_⟩⟩
 rw[n4 (fun z=>by rw[z,h]at g;cases g)]
 exact g
theorem bb6 {PT:Addr}{o:HO}(t:L4 PT po qu H)(h:H l=some (.dT kvs)):L4 PT po qu (upd H l o):=by
 obtain⟨ps,hP,r1,r2⟩:=t
 refine⟨ps,by rw[n4 (fun z=>by rw[z,h]at hP;cases hP)];exact hP,r1,r2.imp id fun⟨c,e,g⟩=>⟨c,e,?_⟩⟩
 rw[n4 (fun z=>by rw[z,h]at g;cases g)]
 exact g
def fl (n:Nat)(k:List Int):List Int:=[(n:Int) - 1 - k.getD 1 0,(n:Int) - 1 - k.getD 0 0]
theorem bY3 (h:Up n k):Up n (fl n k):=by
 obtain⟨i,j,h1,h2,rfl⟩:=h
 refine⟨n - 1 - j,n - 1 - i,by omega,by omega,?_⟩
 show [(n:Int) - 1 - (j:Int),(n:Int) - 1 - (i:Int)]=_
 rw[show (n:Int) - 1 - (j:Int)=((n - 1 - j:Nat):Int) by omega,show (n:Int) - 1 - (i:Int)=((n - 1 - i:Nat):Int) by omega]
theorem bv0 {l:List Int}(h:Up n k)(g:Up n l)(e:fl n k=fl n l):k=l:=by
 obtain⟨i,j,h1,h2,rfl⟩:=h
 obtain⟨i',j',g1,g2,rfl⟩:=g
 have e:[(n:Int) - 1 - (j:Int),(n:Int) - 1 - (i:Int)]=[(n:Int) - 1 - (j':Int),(n:Int) - 1 - (i':Int)]:=e
 injection e with e1 e2
 injection e2 with e2 _
 obtain rfl:i=i':=by omega
 obtain rfl:j=j':=by omega
 rfl
theorem bI1:∀ {ks:List (List Int)},(∀ k∈ks,Up n k)->ks.Nodup->(ks.map (fl n)).Nodup
 | [],_,_=>C0
 | k::ks,h,nd=>by
  obtain⟨h1,h2⟩:=m9.mp nd
  refine m9.mpr ⟨fun z=>?_,bI1 (fun k hk=>h k (d3 _ hk)) h2⟩
  obtain⟨l,hl,e⟩:=o9.mp z
  have:=bv0 (h l (d3 _ hl)) (h k c6) e
  exact h1 (this ▸ hl)
theorem by7 {m:Nat}(h:Up n k)(l:n<=m):Up m k:=let ⟨i,j,h1,h2,e⟩:=h;⟨i,j,h1,by omega,e⟩
theorem Wbs.mono {m:Nat}{ks:List (List Int)}(h:Wbs n ks)(l:n<=m):Wbs m ks:=⟨fun k hk=>by7 (h.up k hk) l,h.nd,h.so⟩
theorem bb9 {ks:List (List Int)}(hn:0<n)(h0:(0:Int)∈k)(p:ls.Perm (k::ks)):tal n ls≠tal n ks:=fun z=>by
 have h1:=bc1 z hn
 have h2:F3 ls 0=F3 (k::ks) 0:=p.countP_eq _
 unfold F3 at h1 h2
 rw[aM7,if_pos (by rw[decide_eq_true_eq];exact h0)]at h2
 omega
theorem br3 (nd:ls.Nodup)(h:k∈ls):ls.Perm (k::ls.filter fun x=>decide (x≠k)):=by
 refine(L9 nd (m9.mpr ⟨fun z=>?_,nd.filter _⟩)).mpr fun x=>?_
 ·have:=(p9.mp z).2
  rw[decide_eq_true_eq]at this
  exact this rfl
 ·rw[c8,p9,decide_eq_true_eq]
  constructor
  ·intro hx
   by_cases e:x=k
   ·exact .inl e
   ·exact .inr ⟨hx,e⟩
  ·rintro(rfl | ⟨hx,_⟩)
   ·exact h
   ·exact hx
seal L2.PE L2.PA L2.PS L2.PSs L2.PT
section
variable {K:W.Frag} {mg:Str->Option Value} {base:Heap}
def aO4 (K:W.Frag)(PT:Addr):Sp:=fun vs H Q _=>∃ (a:Addr) (ns:List Int),vs=[.ref a]/\SqL K H a (ns.map V.int)/\ns.length<=63/\Tb PT H/\∀ H',Q (.bl true) H'
theorem af4:A1 ["script","places","ties","last","one","two","found","kept","about","tie","pair"] ["script"] (p5 aX3):=.mk'
set_option maxHeartbeats 4000000 in
theorem bC7 {fP fD fK fW fS fL fE fR CU PT:Addr} {fdP fdD fdK fdW fdS fdL fdE fdR:FuncData} (F:Fun K "law" "law" aX3 f fd) (B:Bn mg)
  (FC:Fq K mg "_law_cell" ah2 fC fdC ["script","k"])
  (FP:Fq K mg "_law_places" aP3 fP fdP ["script","most"]) (GP:A2 P w K mg base CX0 8 fP fdP ["script","most"] (bo3 K))
  (FD:Fq K mg "_law_ties" ay9 fD fdD ["script","places"]) (GD:A2 P w K mg base CX0 8 fD fdD ["script","places"] (bc3 K))
  (FK:Fq K mg "_law_walked" bp6 fK fdK ["places","ties","cells"]) (GK:A2 P w K mg base CX0 8 fK fdK ["places","ties","cells"] (bG4 K))
  (FW:Fq K mg "_law_web" aO9 fW fdW ["places","ties"]) (GW:A2 P w K mg base CX0 8 fW fdW ["places","ties"] (bn7 K))
  (FS:Fq K mg "_law_sums" aP1 fS fdS ["places","ties"]) (GS:A2 P w K mg base CX0 8 fS fdS ["places","ties"] (bo0 K))
  (FL:Fq K mg "_law_leads" bp8 fL fdL ["places","ties","steps","last"]) (GL:A2 P w K mg base CX0 8 fL fdL ["places","ties","steps","last"] (bG6 K))
  (FE:Fq K mg "led" aD7 fE fdE ["one","two"]) (GE:A2 P w K mg base (CXE P w) 8 fE fdE ["one","two"] (aI1 K CU PT))
  (FR:Fq K mg "_law_refused" aP2 fR fdR ["one","two"]) (GR:A2 P w K mg base CX0 8 fR fdR ["one","two"] (bo2 K PT)):A2 P w K mg base CX0 9 f fd ["script"] (aO4 K PT):=by
 have GC:A2 P w K mg base CX0 8 fC fdC ["script","k"] (aI2 K):=(aJ7 FC.F B).mono (by decide)
 refine F.ok af4 (fun cdv A outer s H vs Q E hr h=>?_)
 obtain⟨sc,ns,rfl,hS,hlen,tb,q⟩:=h
 have hsl:=R4
 have hun:=hr.units
 refine⟨_,j5 (B3 (i:=1) af4.nd rfl (Or.inl rfl) (A7 GP hr (by rfl) FP A8 (a7 (pv 0) (a7 k7 c7))))
  (j5 (B3 (i:=2) af4.nd rfl (Or.inl rfl) (A7 GD hr (by rfl) FD A8 (a7 (pv 0) (a7 (pv 1) c7))))
  (j5 (B3 (i:=3) af4.nd rfl (Or.inl rfl) (br7 (A7 GK hr (by rfl) FK A8 (a7 (pv 1) (a7 (pv 2) (a7 (C5 aJ5 (W6 (a7 (A7 GC hr (by rfl) FC A8 (a7 (pv 0) (a7 k7 c7))) c7)) (br6 bz2 (pv 0) (bd8 k7) (bd8 k7))) c7))))))
  (j5 (B3 (i:=4) af4.nd rfl (Or.inl rfl) (A7 GW hr (by rfl) FW A8 (a7 (pv 1) (a7 (pv 2) c7))))
  (j5 (B3 (i:=5) af4.nd rfl (Or.inl rfl) (A7 GW hr (by rfl) FW A8 (a7 (pv 1) (a7 (pv 3) c7))))
  (j5 (B3 (i:=6) af4.nd rfl (Or.inl rfl) (A7 GE hr (by rfl) FE (aE1 (P:=P) (w:=w)) (a7 (pv 4) (a7 (pv 5) c7))))
  (j5 (K7 (PW.pt (ad1 (M4 (L7 (v9 (ae8 K rfl) (by rfl) B.isin (by rfl) (a7 (pv 6) (a7 (ao1 (v:=.ty "list") (by rfl) B.list (by rfl) rfl) c7))))) (ad1 (E2 bH7 (v9 L3 (by rfl) B.len PySem.boot_len (a7 (pv 6) c7)) (v9 aZ2 (by rfl) B.len PySem.boot_len (a7 (pv 2) c7)) (J5 _)) (aa1 (M4 (L7 (A7 GL hr (by rfl) FL A8 (a7 (pv 1) (a7 (pv 2) (a7 (pv 6) (a7 (pv 3) c7))))))))))) G8 C6)
  (aw4 (K7 (PW.pt (ad1 (PW.pt (aI8 (E2 bN6 (pv 4) (pv 5) (J5 _)) (aw3 (E2 ar4 (pv 6) (W6 c7) (J5 _))))) (aa1 (E2 ar4 (A7 GE hr (by rfl) FE (aE1 (P:=P) (w:=w)) (a7 (pv 4) (a7 (pv 4) c7))) (W6 c7) (J5 _))))) G8 C6)
  (j5 (B3 (i:=7) af4.nd rfl (Or.inl rfl) (F8 aL7 (by rfl) B.list (by rfl) (a7 (pv 6) c7)))
  (j5 (Q9 (az7 PySem.F.plainAttrs_list PySem.F.slot_list_append PySem.F.type_list_append O9 (pv 6) (a7 k7 c7)))
  (aw4 (K7 (PW.pt (ad1 (E2 ar4 (A7 GE hr (by rfl) FE (aE1 (P:=P) (w:=w)) (a7 (pv 4) (a7 (pv 5) c7))) (pv 7) (J5 _)) (aa1 (PW.pt (aI8 (E2 ao2 (pv 1) k7 (J5 _)) (aw3 (M4 (L7 (A7 GR hr (by rfl) FR A8 (a7 (pv 4) (a7 (G1 (a7 (C5 ae6 (pv 1) k7) (a7 (A6 y7 (pv 5) k7 (fun _ _=>rfl)) c7))) c7))))))))))) G8 C6)
  (j5 (B3 (i:=8) af4.nd rfl (Or.inl rfl) aQ3)
  (j5 (U0 PassesOwn.never rfl (bH5 (pv 3)) (B1 (i := 9) af4.nd rfl (Or.inl rfl))
   (n5 (aw5 (ah9 hr) (pv 8) (G1 (a7 (C5 ar3 (C5 ar3 (pv 1) k7) (A6 y7 (pv 9) k7 (fun _ _=>rfl))) (a7 (C5 ar3 (C5 ar3 (pv 1) k7) (A6 y7 (pv 9) k7 (fun _ _=>rfl))) c7))) ah4 rfl)))
  (aw4 (K7 (PW.pt (aI8 (E2 ar4 (A7 GS hr (by rfl) FS A8 (a7 (pv 1) (a7 (br7 (pv 8)) c7))) (A7 GS hr (by rfl) FS A8 (a7 (pv 1) (a7 (pv 3) c7))) (J5 _)) (aw3 (M4 (L7 (A7 GR hr (by rfl) FR A8 (a7 (pv 4) (a7 (A7 GW hr (by rfl) FW A8 (a7 (pv 1) (a7 (pv 8) c7))) c7)))))))) G8 C6)
  (j5 (K7 (E2 ao2 (pv 1) k7 (J5 _)) (n5 (B9 ah4)) C6)
  (j5 (B3 (i:=10) af4.nd rfl (Or.inl rfl) (G1 (a7 k7 (a7 (C5 ae6 k7 (C5 W7 (A7 GC hr (by rfl) FC A8 (a7 (pv 0) (a7 k7 c7))) (C5 ar3 (pv 1) k7))) c7))))
  (bq9 (aw4 (K7 (bM6 (bs1 (ah9 hr) (pv 10) (pv 3)))
    (n5 (Q9 (aQ2 (ah9 hr) (pv 3) (pv 10) ⟨rfl,rfl,rfl,rfl⟩)))
    (n5 (aw5 (ah9 hr) (pv 3) (pv 10) ah4 rfl)))
  (j5 (B3 (i:=5) af4.nd rfl (Or.inl rfl) (A7 GW hr (by rfl) FW A8 (a7 (pv 1) (a7 (pv 3) c7))))
  (n5 (B9 (az8 (A7 GR hr (by rfl) FR A8 (a7 (pv 4) (a7 (pv 5) c7))) (aJ1 (A7 GR hr (by rfl) FR A8 (a7 (pv 5) (a7 (pv 4) c7))))))))))))))))))))))))),?_⟩
 refine⟨_,rfl,sc,ns,rfl,hS,fun n n1 n24=>?_⟩
 refine p6 ?_
 refine⟨_,rfl,_,rfl,sc,ns,n,rfl,hS,n24,fun d ks H1 s1 fd td hkl hu nd=>?_⟩
 refine p6 ?_
 obtain⟨ks0,hks,hks0⟩:=bl0 ns (some 7) (some 30)
 refine⟨_,rfl,_,rfl,_,rfl,sc,ns,1,rfl,s1.seq hS,fun c0=>⟨(by show 1<=i7;decide),fun l0 f0=>?_⟩⟩
 have sl0:=i8 (o:=.lst [.int c0]) f0
 refine⟨_,rfl,_,rfl,_,rfl,sc,ns.map V.int,rfl,(s1.trans sl0).seq hS,fun l1 f1=>?_⟩
 rw[hks]
 have sl1:=i8 (o:=.lst (ks0.map V.int)) f1
 refine⟨l0,l1,_,_,rfl,rfl,sl1 _ _ b9,b9,by rw[b8];show 1+ks0.length<=i7;omega,fun ld fld=>?_⟩
 have sl2:=i8 (o:=.lst ([.int c0]++ks0.map V.int)) fld
 have sL:=sl0.trans (sl1.trans sl2)
 refine⟨d,ld,n,ks,[c0]++ks0,rfl,(td.same sL).toR,n1,n24,hu,nd,SqL.of (by rw[b9,r6];rfl),fun da ls H2 s2 fda tda hul ndl htl=>?_⟩
 obtain⟨kvl,gda,ekl⟩:=tda
 refine⟨da,kvl,rfl,gda,fun o=>?_⟩
 have fda1:=sL.free fda
 have fda0:=s1.free fda1
 have s13:=(sL.trans s2).upd (o:=.frz o (.dT kvl)) fda1
 have gda3:(upd H2 da (.frz o (.dT kvl))) da=some (.frz o (.dT kvl)):=b9
 generalize upd H2 da (.frz o (.dT kvl))=H3 at s13 gda3 ⊢
 clear gda fda s2 sL sl2 fld sl1 f1 sl0 f0 hks hks0
 refine p6 ?_
 have td3:=td.same s13
 have tf3:TF H3 da ls:=⟨o,kvl,gda3,ekl⟩
 have hll:=ac1 n24 ndl hul
 refine⟨_,rfl,_,rfl,d,n,ks,rfl,td3.toR,hkl,fun k hk=>bb2 (hu k hk),fun pw ks1 H4 s4 hp1 so1 hW=>?_⟩
 refine p6 ?_
 refine⟨_,rfl,_,rfl,da,n,ls,rfl,(tf3.same s4).toR,by omega,fun k hk=>bb2 (hul k hk),fun p2 ls1 H5 s5 hp2 so2 hV=>?_⟩
 refine p6 ?_
 have W1:=aH6 hu nd hp1 so1
 have W2:=aH6 hul ndl hp2 so2
 have het:tal n ks1=tal n ls1:=by rw[ac8 hp1,ac8 hp2,htl]
 have s05:=s1.trans (s13.trans (s4.trans s5))
 have tb5:=tb.same s05
 have hS5:=s05.seq hS
 have td5:=td3.same (s4.trans s5)
 have gda5:=(s4.trans s5) _ _ gda3
 have hW5:=hW.same s5
 clear td3 tf3 hW s4 s5 s13 s1 td gda3 hS tb s05
 refine⟨_,rfl,_,rfl,pw,p2,ks1,ls1,n,n,rfl,hW5,hV,W1,W2,n1,n24,n1,n24,tb5,fun _=>?_,fun h=>absurd het h⟩
 intro st zs fs H6 g6 tb6 fst gst fz hpt hfl hlw
 refine p6 ?_
 have hzl:=fz.len
 rw[b8]at hzl
 have hk1:=hp1.length_eq
 have hkl24:=ac1 n24 nd hu
 obtain⟨kvs,gd6,ek⟩:=td5.toR.grow g6 tb5
 have ekn:=ek.len
 have gda6:=aB0 g6 tb5 gda5
 refine⟨_,rfl,_,_,_,true,rfl,.lst gst,rfl,_,rfl,G5 ?_⟩
 refine⟨_,rfl,st,_,rfl,.inl (SqL.of gst),_,rfl,d,kvs,rfl,gd6,_,_,rfl,rfl,_,rfl,aY6 (fun h=>absurd (of_decide_eq_true h) (by omega)) (fun _=>?_)⟩
 refine⟨_,rfl,_,rfl,_,rfl,_,rfl,d,st,da,n,ks,ls,zs,fs,rfl,⟨kvs,gd6,ek⟩,⟨kvl,.inr ⟨o,gda6⟩,ekl⟩,n24,hu,nd,gst,fz,(hpt.perm hp1).permR hp2,by omega,fun H7 s7=>⟨_,rfl,G5 ?_⟩⟩
 have g7:=g6.trans (s7.grow PT)
 have tb7:=tb6.same s7
 have gst7:=s7 _ _ gst
 have fz7:=fz.same s7
 clear s7 gst fz tb6 g6 gda6
 refine⟨fun σ Hn=>σ=[some (.ref sc),some (.int n),some (.ref d),some (.ref da),some (.ref pw),some (.ref p2),some (.ref st),none,none,none,none]/\O0 PT H7 Hn/\Tb PT Hn,?_,?_⟩
 ·refine⟨_,rfl,_,rfl,bb0 false hun (hW5.grow g7 tb5) (hV.grow g7 tb5) ⟨_,rfl,?_⟩⟩
  by_cases hTU:ks1=ls1
  ·rw[if_neg d4,decide_eq_true rfl,ac4,decide_eq_true hTU]
   subst hTU
   have hfs:=hlw.uniq .nil
   subst hfs
   refine R5 ⟨_,rfl,(by show 0<=i7;omega),fun le fe=>?_⟩
   have se:=i8 (o:=.lst []) fe
   refine aK0 hun (se _ _ gst7) (fz7.same se).tups b9 .nil ⟨_,rfl,?_⟩
   rw[decide_eq_true (show Y0 q4 []=[] from rfl)]
   have ge:=g7.trans (se.grow PT)
   have tbe:=tb7.same se
   refine G5 ⟨_,rfl,_,rfl,pw,pw,ks1,ks1,n,n,rfl,hW5.grow ge tb5,hW5.grow ge tb5,W1,W1,n1,n24,n1,n24,tbe,fun _=>?_,fun h=>absurd rfl h⟩
   intro st2 zs2 fs2 H8 g8 tb8 _ gz2 fz2 _ _ hlw2
   have hfs2:=hlw2.uniq .nil
   subst hfs2
   refine⟨(by show 0<=i7;omega),fun l9 f9=>?_⟩
   have s9:=i8 (o:=.lst []) f9
   refine aK0 hun (s9 _ _ gz2) (fz2.same s9).tups b9 .nil ⟨_,rfl,?_⟩
   rw[decide_eq_true (show Y0 q4 []=[] from rfl)]
   exact G5 ⟨rfl,(se.grow PT).trans (g8.trans (s9.grow PT)),tb8.same s9⟩
  ·rw[if_neg d4,decide_eq_true rfl,ac4,decide_eq_false hTU]
   refine G5 ?_
   refine G5 ⟨_,rfl,_,rfl,pw,pw,ks1,ks1,n,n,rfl,hW5.grow g7 tb5,hW5.grow g7 tb5,W1,W1,n1,n24,n1,n24,tb7,fun _=>?_,fun h=>absurd rfl h⟩
   intro st2 zs2 fs2 H8 g8 tb8 _ gz2 fz2 _ _ hlw2
   have hfs2:=hlw2.uniq .nil
   subst hfs2
   refine⟨(by show 0<=i7;omega),fun l9 f9=>?_⟩
   have s9:=i8 (o:=.lst []) f9
   refine aK0 hun (s9 _ _ gz2) (fz2.same s9).tups b9 .nil ⟨_,rfl,?_⟩
   rw[decide_eq_true (show Y0 q4 []=[] from rfl)]
   exact G5 ⟨rfl,g8.trans (s9.grow PT),tb8.same s9⟩
 rintro σ' H8 ⟨rfl,g78,tb8⟩
 have gst8:=ad4 g78 tb7 gst7
 have fz8:=fz7.grow g78 tb7
 have g8:=g7.trans g78
 clear g78 gst7 fz7 g7 tb7
 refine⟨_,rfl,st,zs,rfl,.inl (SqL.of gst8),fun kl fk=>?_⟩
 refine p6 ?_
 have sk:=i8 (o:=.lst zs) fk
 have nkp:kl≠st:=(u6 gst8 fk).symm
 have gsk:=sk _ _ gst8
 refine⟨_,rfl,.inl ⟨rfl,_,SqL.of gsk⟩,st,zs,_,rfl,rfl,gsk,by omega,?_⟩
 have g9:O0 PT H5 (upd (upd H8 kl (.lst zs)) st (.lst (zs++[.int 7]))):=ar8 (g8.trans (sk.grow PT)) fst
 have tb9:Tb PT (upd (upd H8 kl (.lst zs)) st (.lst (zs++[.int 7]))):=aH9 (tb8.same sk) gsk
 have gk9:(upd (upd H8 kl (.lst zs)) st (.lst (zs++[.int 7]))) kl=some (.lst zs):=by rw[n4 nkp,b9]
 have fk9:G2 (upd (upd H8 kl (.lst zs)) st (.lst (zs++[.int 7]))) zs (fs.map q4):=G2.updL gsk (fz8.same sk)
 generalize upd (upd H8 kl (.lst zs)) st (.lst (zs++[.int 7]))=H9 at g9 tb9 gk9 fk9
 clear gsk sk fk gst8 fz8 tb8 g8
 refine⟨fun σ Hn=>σ=[some (.ref sc),some (.int n),some (.ref d),some (.ref da),some (.ref pw),some (.ref p2),some (.ref st),some (.ref kl),none,none,none]/\O0 PT H5 Hn/\Tb PT Hn,?_,?_⟩
 ·refine⟨_,rfl,_,rfl,pw,p2,ks1,ls1,n,n,rfl,hW5.grow g9 tb5,hV.grow g9 tb5,W1,W2,n1,n24,n1,n24,tb9,fun _=>?_,fun h=>absurd het h⟩
  intro st2 zs2 fs2 Ha ga tba _ gz2 fz2 _ _ hlw2
  have hfs2:=hlw2.uniq hlw
  subst hfs2
  refine⟨_,rfl,aK0 hun gz2 fz2.tups (ad4 ga tb9 gk9) (fk9.grow ga tb9).tups ⟨_,rfl,?_⟩⟩
  rw[decide_eq_true rfl]
  refine G5 ?_
  have g9a:=g9.trans ga
  refine⟨_,rfl,_,_,rfl,rfl,_,rfl,aY6 (fun h=>?_) (fun h=>G5 ⟨rfl,g9a,tba⟩)⟩
  have h24:(n:Int)<24:=of_decide_eq_true h
  obtain⟨t2,zt,hp2',ht2,htz⟩:=hV.grow g9a tb5
  refine⟨_,rfl,_,rfl,_,_,rfl,rfl,_,rfl,p2,_,_,_,rfl,rfl,hp2',B5 (j:=1) rfl,(by show 2<=i7;decide),fun np fnp=>?_⟩
  have sn:=i8 (o:=.tup [.int ((n:Int)+1),.ref t2]) fnp
  refine⟨pw,np,ks1,ls1,n,n+1,rfl,(hW5.grow g9a tb5).same sn,⟨t2,zt,SqT.of b9,sn.seqT ht2,sn.tups htz⟩,W1,W2.mono (by omega),n1,n24,by omega,by omega,tba.same sn,fun z=>?_,fun Hb sb=>⟨_,rfl,G5 ⟨rfl,g9a.trans ((sn.trans sb).grow PT),tba.same (sn.trans sb)⟩⟩⟩
  have:=congrArg M7 z
  rw[N5,N5]at this
  omega
 rintro σ' Hb ⟨rfl,gb,tbb⟩
 clear gk9 fk9 tb9 g9 nkp
 have gdab:=aB0 gb tb5 gda5
 refine fun ab fab=>?_
 have sab:=i8 (o:=.dT []) fab
 refine p6 ?_
 refine⟨_,rfl,da,o,kvl,rfl,sab _ _ gdab,?_⟩
 have hkn:=ekl.len
 refine bQ3 (a:=da) (o:=o) (kvs:=kvl) (fun i σ Hc=>∃ e9,σ=[some (.ref sc),some (.int n),some (.ref d),some (.ref da),some (.ref pw),some (.ref p2),some (.ref st),some (.ref kl),some (.ref ab),e9,none]/\A0 Hb Hc/\TD Hc ab ((ls.take i).map (fl n)))
  ⟨none,rfl,sab,⟨[],b9,rfl,fun _ h=>nomatch h⟩⟩ (fun i σ Hc _ ⟨_,_,sc',_⟩=>sc' _ _ gdab) ?_ ?_
 ·rintro i kv p σ Hc hkv hp ⟨e9,rfl,s9,kva,gab,eka⟩
  have hi:i<kvl.length:=(a9.mp hkv).1
  obtain⟨k,hk⟩:∃ k,ls[i]?=some k:=⟨_,m6 (by omega)⟩
  have ek1:kv.1=k.map Sum.inl:=by
   have e1:(kvl.map (·.1))[i]?=some kv.1:=by rw[j6,hkv];rfl
   rw[ekl.1,j6,hk]at e1
   injection e1 with e1
   exact e1.symm
  rw[ek1,Q0]at hp
  have hku:=hul k (d9 hk)
  have hnew:fl n k∉(ls.take i).map (fl n):=fun z=>by
   obtain⟨k',hk',e⟩:=o9.mp z
   have:=bv0 (hul k' (ab8 hk')) hku e
   subst this
   obtain⟨i',hi'⟩:=l5.mp hk'
   rw[J7]at hi'
   split at hi'
   ·rename_i hlt
    obtain⟨q1,q2⟩:=a9.mp hi'
    obtain⟨q3,q4⟩:=a9.mp hk
    exact absurd (q2.trans q4.symm) (o4.mp ndl i' i q1 q3 hlt)
   ·cases hi'
  have eka':=eka.put (fl n k)
  rw[if_neg hnew]at eka'
  have hnext:(ls.take i).map (fl n)++[fl n k]=(ls.take (i+1)).map (fl n):=by
   rw[B8,hk,r6]
   rfl
  rw[hnext]at eka'
  have hal:=eka.len
  rw[b8,A4]at hal
  obtain⟨u,v,huv,hvn,rfl⟩:=hku
  refine p6 ?_
  refine⟨_,rfl,_,rfl,_,_,rfl,rfl,_,rfl,p,_,_,_,rfl,rfl,SqT.of hp,B5 (j:=1) rfl,_,_,rfl,rfl,_,rfl,_,_,rfl,rfl,_,rfl,p,_,_,_,rfl,rfl,SqT.of hp,B5 (j:=0) rfl,_,_,rfl,rfl,(by show 2<=i7;decide),fun x hx=>?_⟩
  have sx:=i8 (o:=.tup [.int ((n:Int) - 1 - (v:Int)),.int ((n:Int) - 1 - (u:Int))]) hx
  refine⟨ab,_,rfl,aU2.t (k:=(fl n [(u:Int),(v:Int)]).map Sum.inl) (sx _ _ gab) (by rw[Q0];exact b9) (by omega),?_⟩
  exact⟨_,rfl,(s9.trans sx).upd fab,⟨_,b9,eka'⟩⟩
 rintro σ Hc ⟨e9,rfl,s9,tdab⟩
 rw[hkn,al3]at tdab
 have hlf:(ls.map (fl n)).length=ls.length:=b8 _
 have gc:=gb.trans (s9.grow PT)
 have tbc:=tbb.same s9
 have gdac:=s9 _ _ gdab
 refine⟨fun σ Hn=>σ=[some (.ref sc),some (.int n),some (.ref d),some (.ref da),some (.ref pw),some (.ref p2),some (.ref st),some (.ref kl),some (.ref ab),e9,none]/\O0 PT H5 Hn/\Tb PT Hn,?_,?_⟩
 ·obtain⟨kva,gab,eka⟩:=tdab
  refine⟨_,rfl,_,rfl,ab,kva,rfl,gab,fun oa=>?_⟩
  have sf:=s9.upd (o:=.frz oa (.dT kva)) fab
  have tfa:TF (upd Hc ab (.frz oa (.dT kva))) ab (ls.map (fl n)):=⟨oa,kva,b9,eka⟩
  generalize upd Hc ab (.frz oa (.dT kva))=Hd at sf tfa ⊢
  refine⟨n,ab,ls.map (fl n),rfl,n24,tfa,by omega,fun l1 He se gl1=>?_⟩
  have sfe:=sf.trans se
  refine⟨_,rfl,_,rfl,n,da,ls,rfl,n24,⟨o,kvl,sfe _ _ gdab,ekl⟩,by omega,fun l2 Hf sff gl2=>?_⟩
  have sbf:=sfe.trans sff
  have gf:=gb.trans (sbf.grow PT)
  have tbf:=tbb.same sbf
  refine aS4 hun (SqL.of (sff _ _ gl1)) (SqL.of gl2) ⟨_,rfl,?_⟩
  by_cases hne:tal n (ls.map (fl n))=tal n ls
  ·rw[decide_eq_true hne]
   exact G5 (G5 ⟨rfl,gf,tbf⟩)
  ·rw[decide_eq_false hne]
   refine R5 ?_
   have hua:∀ k∈ls.map (fl n),Up n k:=fun k hk=>by
    obtain⟨k',h1,rfl⟩:=o9.mp hk
    exact bY3 (hul k' h1)
   refine⟨_,rfl,_,rfl,_,rfl,ab,n,ls.map (fl n),rfl,(tfa.same (se.trans sff)).toR,by omega,fun k hk=>bb2 (hua k hk),fun p3 as1 Hg sg hp3 so3 hA=>?_⟩
   have W3:=aH6 hua (bI1 hul ndl) hp3 so3
   refine⟨pw,p3,ks1,as1,n,n,rfl,(hW5.grow gf tb5).same sg,hA,W1,W3,n1,n24,n1,n24,tbf.same sg,fun z=>hne ?_,fun Hh sh=>⟨_,rfl,G5 ⟨rfl,gf.trans ((sg.trans sh).grow PT),tbf.same (sg.trans sh)⟩⟩⟩
   rw[<- ac8 hp3,<- z,ac8 hp1,htl]
 rintro σ' Hd ⟨rfl,gD,tbD⟩
 clear gdac tbc gc hlf tdab s9 gdab tbb gb sab fab
 refine⟨_,rfl,_,_,rfl,rfl,_,rfl,aY6 (fun h=>q _) (fun h=>?_)⟩
 have h2:¬ (n:Int)<2:=of_decide_eq_false (by simpa using h)
 refine⟨_,rfl,sc,ns,1,rfl,bu5 gD tb5 hS5,fun c1=>?_⟩
 obtain⟨j,hj,hj1,hjn⟩:∃ j:Nat,1+c1 % ((n:Int) - 1)=(j:Int)/\1<=j/\j<n:=by
  have h1:=Y2 c1 (show (n:Int) - 1≠0 by omega)
  have h3:=Y3 c1 (show 0<(n:Int) - 1 by omega)
  exact⟨(1+c1 % ((n:Int) - 1)).toNat,by omega,by omega,by omega⟩
 refine⟨_,rfl,_,_,rfl,rfl,_,_,rfl,rfl,(by show (0:Int)<(n:Int) - 1;omega),_,_,rfl,rfl,(by show 2<=i7;decide),fun pr fpr=>?_⟩
 have sp:=i8 (o:=.tup [.int 0,.int (1+c1 % ((n:Int) - 1))]) fpr
 have gpr:(upd Hd pr (.tup [.int 0,.int (1+c1 % ((n:Int) - 1))])) pr=some (.tup [.int 0,.int (1+c1 % ((n:Int) - 1))]):=b9
 have gE:=gD.trans (sp.grow PT)
 have tbE:=tbD.same sp
 generalize upd Hd pr (.tup [.int 0,.int (1+c1 % ((n:Int) - 1))])=He at sp gpr gE tbE ⊢
 rw[hj]at gpr
 refine p6 ?_
 have gdaE:=aB0 gE tb5 gda5
 have hWF:=(hW5.grow gE tb5).updD (ob:=.dT kvl) gdaE
 have tbF:Tb PT (upd He da (.dT kvl)):=bz0 tbE gdaE
 refine⟨da,o,kvl,gdaE,fda0,?_⟩
 have gprF:(upd He da (.dT kvl)) pr=some (.tup [.int 0,.int (j:Int)]):=by
  rw[n4 (fun z=>by rw[z,gdaE]at gpr;cases gpr)]
  exact gpr
 have gdaF:(upd He da (.dT kvl)) da=some (.dT kvl):=b9
 generalize upd He da (.dT kvl)=Hf at hWF tbF gprF gdaF ⊢
 have hpu:Up n [(0:Int),(j:Int)]:=⟨0,j,by omega,hjn,rfl⟩
 refine⟨fun σ Hn=>σ=[some (.ref sc),some (.int n),some (.ref d),some (.ref da),some (.ref pw),some (.ref p2),some (.ref st),some (.ref kl),some (.ref ab),e9,some (.ref pr)]/\∃ ms:List (List Int),TD Hn da ms/\(∀ k∈ms,Up n k)/\ms.Nodup/\tal n ms≠tal n ls/\D3 K Hn pw n ks1/\Tb PT Hn,?_,?_⟩
 ·refine⟨_,rfl,_,rfl,da,_,rfl,(.inr ⟨kvl,([(0:Int),(j:Int)]:List Int).map Sum.inl,pr,.inl gdaF,rfl,by rw[Q0];exact gprF,rfl⟩),_,rfl,?_⟩
  rw[<- ag6,ao6 ekl.1]
  by_cases hin:[(0:Int),(j:Int)]∈ls
  ·rw[decide_eq_true hin]
   refine R5 ?_
   obtain⟨v,hv⟩:=aR9 ekl.1 hin
   refine⟨_,rfl,da,rfl,.inr ⟨kvl,.inl gdaF⟩,_,rfl,kvl,([(0:Int),(j:Int)]:List Int).map Sum.inl,pr,v,gdaF,rfl,by rw[Q0];exact gprF,hv,?_⟩
   exact⟨rfl,_,⟨_,b9,ekl.drop _⟩,fun k hk=>hul k (p9.mp hk).1,ndl.filter _,fun z=>bb9 (by omega) c6 (br3 ndl hin) z.symm,hWF.updT gdaF,bb6 tbF gdaF⟩
  ·rw[decide_eq_false hin]
   refine G5 ?_
   refine⟨_,rfl,_,rfl,da,_,rfl,aU2.t (k:=([(0:Int),(j:Int)]:List Int).map Sum.inl) gdaF (by rw[Q0];exact gprF) (by omega),?_⟩
   have ekp:=ekl.put [(0:Int),(j:Int)]
   rw[if_neg hin]at ekp
   refine⟨rfl,_,⟨_,b9,ekp⟩,fun k hk=>?_,?_,bb9 (by omega) c6 ap7,hWF.updT gdaF,bb6 tbF gdaF⟩
   ·rcases n8.mp hk with hk | hk
    ·exact hul k hk
    ·rw[d6.mp hk];exact hpu
   ·exact Z4.mpr ⟨ndl,m9.mpr ⟨o7,C0⟩,fun a ha b hb e=>hin (by rw[<- d6.mp hb,<- e];exact ha)⟩
 rintro σ' Hg ⟨rfl,ms,tdm,hum,ndm,htm,hWg,tbg⟩
 have hml:=ac1 n24 ndm hum
 refine⟨_,rfl,_,rfl,da,n,ms,rfl,tdm.toR,by omega,fun k hk=>bb2 (hum k hk),fun p4 ms1 Hh sh hp4 so4 hM=>?_⟩
 refine p6 ?_
 have W4:=aH6 hum ndm hp4 so4
 have hno:tal n ks1≠tal n ms1:=fun z=>htm (by rw[<- ac8 hp4,<- z,ac8 hp1,htl])
 refine⟨_,rfl,_,rfl,pw,p4,ks1,ms1,n,n,rfl,hWg.same sh,hM,W1,W4,n1,n24,n1,n24,tbg.same sh,hno,fun Hi si=>?_⟩
 refine⟨_,rfl,R5 ?_⟩
 refine⟨_,rfl,_,rfl,p4,pw,ms1,ks1,n,n,rfl,hM.same si,(hWg.same sh).same si,W4,W1,n1,n24,n1,n24,(tbg.same sh).same si,fun z=>hno z.symm,fun Hj sj=>?_⟩
 exact q _
theorem bO4 {fb1 fS fI fU fV fℓ fτ fβ fT fO fE fX fκ fN fG fL fM fP fH fD fW fQ fF fK fY fω fρ fR fψ fJ CB CT CU CW CE c PT:Addr}{fdb1 fdS fdU fdV fdℓ fdτ fdβ fdO fdE fdX fdκ fdN fdG fdL fdM fdP fdH fdD fdW fdQ fdF fdK fdY fdω fdρ fdR fdψ fdJ:FuncData}{tk:Tok}(F0:Fun K "law" "law" aX3 f fd)(Bx:Bn mg)(mo:mg "MOST_PLACES"=some (.int 24 tk))
  (Fb1:Fq K mg "led_back" aP6 fb1 fdb1 ["four"])
  (FS:Fq K mg "steps_between" bp7 fS fdS ["one","two","nearer","can_step","stepped"])
  (FI:Fq K mg "is_place" aI7 fI fdI ["places","number"])
  (FC:Fq K mg "check_place" bi1 fC fdC ["places","number"])
  (FU:Fq K mg "turned_up" sUp fU fdU ["places","tie"])
  (FV:Fq K mg "made" aP5 fV fdV ["places","ties"])
  (Fℓ:Fq K mg "tally_of" aq8 fℓ fdℓ ["web"])
  (Fτ:Fq K mg "tied" aP0 fτ fdτ ["web","one","other"])
  (Fβ:Fq K mg "beside" bq2 fβ fdβ ["web"])
  (FT:Fq K mg "check_tally" bq1 fT fdT ["tally"])
  (FO:Fq K mg "order_of" bi0 fO fdO ["tally"])
  (FE:Fq K mg "can_exchange" bi2 fE fdE ["web","four"])
  (FX:Fq K mg "exchanged" bq0 fX fdX ["web","four"])
  (Fκ:Fq K mg "ties_lacking" aP7 fκ fdκ ["web","other"])
  (FN:Fq K mg "leading_nearer" aP4 fN fdN ["one","two"])
  (FG:Fq K mg "led" aD7 fG fdG ["one","two"])
  (FL:Fq K mg "_law_cell" ah2 fL fdL ["script","k"])
  (FM:Fq K mg "_law_mixed" az1 fM fdM ["cell","k"])
  (FP:Fq K mg "_law_places" aP3 fP fdP ["script","most"])
  (FH:Fq K mg "_law_tie_there" az0 fH fdH ["script","k"])
  (FD:Fq K mg "_law_ties" ay9 fD fdD ["script","places"])
  (FW:Fq K mg "_law_web" aO9 fW fdW ["places","ties"])
  (FQ:Fq K mg "_law_tied" am1 fQ fdQ ["ties","one","other"])
  (FF:Fq K mg "_law_fits" aD8 fF fdF ["places","ties","four"])
  (FK:Fq K mg "_law_behind" aD9 fK fdK ["ties","four"])
  (FY:Fq K mg "_law_fours" aP8 fY fdY ["cell","places","many"])
  (Fω:Fq K mg "_law_walked" bp6 fω fdω ["places","ties","cells"])
  (Fρ:Fq K mg "_law_is_four" bp9 fρ fdρ ["found"])
  (FR:Fq K mg "_law_sums" aP1 fR fdR ["places","ties"])
  (Fψ:Fq K mg "_law_refused" aP2 fψ fdψ ["one","two"])
  (FJ:Fq K mg "_law_leads" bp8 fJ fdJ ["places","ties","steps","last"])
  (mB':mg "BadTally"=some (.ref CB))(cB:aM3 K CB)(Zc:bZ5 K mg CT CU CW CE)(hc:fdO.code=.ref c)(LB:aL9 base mg c PT):A2 P w K mg base CX0 9 f fd ["script"] (aO4 K PT):=by
 have GE:A2 P w K mg base CX0 4 fE fdE ["web","four"] (bc7 K):=bO9 FE.F Bx FI FC Fτ
 have GV:A2 P w K mg base CX0 4 fV fdV ["places","ties"] (aW2 K):=(bC4 FV.F Bx FI FU mo).mono (by decide)
 have GX:A2 P w K mg base (CXE P w) 5 fX fdX ["web","four"] (bo7 K CE):=bO6 FX.F Bx FE GE FV GV Zc.mX Zc.cX
 have GO:A2 P w K mg base (CXE P w) 4 fO fdO ["tally"] (bo4 K CB PT):=(bO1 FO.F hc LB Bx FT mo mB' cB).mono (by decide)
 have GN:A2 P w K mg base CX0 5 fN fdN ["one","two"] (aW0 K PT):=bC3 FN.F Bx Fκ Fβ Fℓ FO GO
 have GS:A2 P w K mg base CX0 6 fS fdS ["one","two","nearer","can_step","stepped"] (bo1 K PT fN fE fX):=bO0 FS.F Bx FN.F FN.b GN FE.F FE.b (GE.mono (by decide)) FX.F FX.b GX Fb1
 have GG:A2 P w K mg base (CXE P w) 7 fG fdG ["one","two"] (aI1 K CU PT):=bC5 FG.F Fℓ FN.m FE.m FX.m FS GS Zc.mU Zc.cU
 exact bC7 F0 Bx FL FP ((bC2 FP.F Bx FL).mono (by decide)) FD ((bs3 FD.F Bx FL FM FH).mono (by decide)) Fω ((bN9 Fω.F Bx FY FM FF FQ FK).mono (by decide)) FW ((bB8 FW.F Bx).mono (by decide)) FR ((bC0 FR.F Bx).mono (by decide)) FJ ((bO3 FJ.F Bx Fρ FF FQ FK).mono (by decide)) FG (GG.mono (by decide)) Fψ (bC1 Fψ.F Bx FG GG Zc)
end
end Web
namespace Web
open PySem L2
def ay3 (K:W.Frag):List (Addr × Addr):=match PySem.W.tabIn K "order_of" with
 | some q=>[q]
 | none=>[]
def aX5 (K:W.Frag):Addr:=((PySem.W.tabIn K "order_of").getD (0,0)).2
theorem ls1 (h:∀ x0,p [x0]):∀ us,us.length=1->p us
 | [x0],_=>h x0
theorem ls2 (h:∀ x0 x1,p [x0,x1]):∀ us,us.length=2->p us
 | [x0,x1],_=>h x0 x1
theorem ls3 (h:∀ x0 x1 x2,p [x0,x1,x2]):∀ us,us.length=3->p us
 | [x0,x1,x2],_=>h x0 x1 x2
theorem ls4 (h:∀ x0 x1 x2 x3,p [x0,x1,x2,x3]):∀ us,us.length=4->p us
 | [x0,x1,x2,x3],_=>h x0 x1 x2 x3
theorem ls5 (h:∀ x0 x1 x2 x3 x4,p [x0,x1,x2,x3,x4]):∀ us,us.length=5->p us
 | [x0,x1,x2,x3,x4],_=>h x0 x1 x2 x3 x4
theorem fq {K:W.Frag}{mg:Str->Option Value}{st:Stmt}{ps:List Str}(X:K.In h)(G:h.Ns i9 mg)(a:j2 K i9 x=some (some (.ref f)))(F:Fun K x x st f fd)
  (b:∀ (kV doc pm:Value) (an:Option Addr) (cdv ct:Value) (us:List Value),us.length=ps.length->ba7 (V0 x x (aj8 st) (X3 st) (p5 st) .none kV doc pm an cdv ct) ⟨us,[]⟩=pure (ps.zip us)):Fq K mg x st f fd ps:=⟨F,F.binds b,R7 X G a⟩
set_option maxHeartbeats 0 in
theorem all_mk {l:PySem.W.OpenLaw}{K:W.Frag}{mg:Str->Option Value}{fa fb1 fS fI fU fV fℓ fτ fβ fT fO fE fX fκ fN fG fL fM fP fH fD fW fQ fF fK fY fω fρ fR fψ fJ fZ CTallyError CUnlike CBadWeb CNoExchange CBadTally:Addr}{tk:Tok}{cdUnlike:ClassData}(X:K.In h)(G:h.Ns i9 mg)(hfa:mg "law"=some (.ref fa))
  {fdb1 fdS fdU fdV fdℓ fdτ fdβ fdO fdE fdX fdκ fdN fdG fdL fdM fdP fdH fdD fdW fdQ fdF fdK fdY fdω fdρ fdR fdψ fdJ fdZ:FuncData}
  (ab1:j2 K i9 "led_back"=some (some (.ref fb1)))(Fb1:Fun K "led_back" "led_back" aP6 fb1 fdb1)
  (aS:j2 K i9 "steps_between"=some (some (.ref fS)))(FS:Fun K "steps_between" "steps_between" bp7 fS fdS)
  (aI:j2 K i9 "is_place"=some (some (.ref fI)))(FI:Fun K "is_place" "is_place" aI7 fI fdI)
  (aC:j2 K i9 "check_place"=some (some (.ref fC)))(FC:Fun K "check_place" "check_place" bi1 fC fdC)
  (aU:j2 K i9 "turned_up"=some (some (.ref fU)))(FU:Fun K "turned_up" "turned_up" sUp fU fdU)
  (aV:j2 K i9 "made"=some (some (.ref fV)))(FV:Fun K "made" "made" aP5 fV fdV)
  (aℓ:j2 K i9 "tally_of"=some (some (.ref fℓ)))(Fℓ:Fun K "tally_of" "tally_of" aq8 fℓ fdℓ)
  (aτ:j2 K i9 "tied"=some (some (.ref fτ)))(Fτ:Fun K "tied" "tied" aP0 fτ fdτ)
  (aβ:j2 K i9 "beside"=some (some (.ref fβ)))(Fβ:Fun K "beside" "beside" bq2 fβ fdβ)
  (aT:j2 K i9 "check_tally"=some (some (.ref fT)))(FT:Fun K "check_tally" "check_tally" bq1 fT fdT)
  (aO:j2 K i9 "order_of"=some (some (.ref fO)))(FO:Fun K "order_of" "order_of" bi0 fO fdO)
  (aE:j2 K i9 "can_exchange"=some (some (.ref fE)))(FE:Fun K "can_exchange" "can_exchange" bi2 fE fdE)
  (aX:j2 K i9 "exchanged"=some (some (.ref fX)))(FX:Fun K "exchanged" "exchanged" bq0 fX fdX)
  (aκ:j2 K i9 "ties_lacking"=some (some (.ref fκ)))(Fκ:Fun K "ties_lacking" "ties_lacking" aP7 fκ fdκ)
  (aN:j2 K i9 "leading_nearer"=some (some (.ref fN)))(FN:Fun K "leading_nearer" "leading_nearer" aP4 fN fdN)
  (aG:j2 K i9 "led"=some (some (.ref fG)))(FG:Fun K "led" "led" aD7 fG fdG)
  (aL:j2 K i9 "_law_cell"=some (some (.ref fL)))(FL:Fun K "_law_cell" "_law_cell" ah2 fL fdL)
  (aM:j2 K i9 "_law_mixed"=some (some (.ref fM)))(FM:Fun K "_law_mixed" "_law_mixed" az1 fM fdM)
  (aP:j2 K i9 "_law_places"=some (some (.ref fP)))(FP:Fun K "_law_places" "_law_places" aP3 fP fdP)
  (aH:j2 K i9 "_law_tie_there"=some (some (.ref fH)))(FH:Fun K "_law_tie_there" "_law_tie_there" az0 fH fdH)
  (aD:j2 K i9 "_law_ties"=some (some (.ref fD)))(FD:Fun K "_law_ties" "_law_ties" ay9 fD fdD)
  (aW:j2 K i9 "_law_web"=some (some (.ref fW)))(FW:Fun K "_law_web" "_law_web" aO9 fW fdW)
  (aQ:j2 K i9 "_law_tied"=some (some (.ref fQ)))(FQ:Fun K "_law_tied" "_law_tied" am1 fQ fdQ)
  (aF:j2 K i9 "_law_fits"=some (some (.ref fF)))(FF:Fun K "_law_fits" "_law_fits" aD8 fF fdF)
  (aK:j2 K i9 "_law_behind"=some (some (.ref fK)))(FK:Fun K "_law_behind" "_law_behind" aD9 fK fdK)
  (aY:j2 K i9 "_law_fours"=some (some (.ref fY)))(FY:Fun K "_law_fours" "_law_fours" aP8 fY fdY)
  (aω:j2 K i9 "_law_walked"=some (some (.ref fω)))(Fω:Fun K "_law_walked" "_law_walked" bp6 fω fdω)
  (aρ:j2 K i9 "_law_is_four"=some (some (.ref fρ)))(Fρ:Fun K "_law_is_four" "_law_is_four" bp9 fρ fdρ)
  (aR:j2 K i9 "_law_sums"=some (some (.ref fR)))(FR:Fun K "_law_sums" "_law_sums" aP1 fR fdR)
  (aψ:j2 K i9 "_law_refused"=some (some (.ref fψ)))(Fψ:Fun K "_law_refused" "_law_refused" aP2 fψ fdψ)
  (aJ:j2 K i9 "_law_leads"=some (some (.ref fJ)))(FJ:Fun K "_law_leads" "_law_leads" bp8 fJ fdJ)
  (aZ:j2 K i9 "law"=some (some (.ref fZ)))(FZ:Fun K "law" "law" aX3 fZ fdZ)
  (mo:j2 K i9 "MOST_PLACES"=some (some (.int 24 tk)))
  (aTallyError:j2 K i9 "TallyError"=some (some (.ref CTallyError)))
  (aUnlike:j2 K i9 "Unlike"=some (some (.ref CUnlike)))
  (aBadWeb:j2 K i9 "BadWeb"=some (some (.ref CBadWeb)))
  (aNoExchange:j2 K i9 "NoExchange"=some (some (.ref CNoExchange)))
  (aBadTally:j2 K i9 "BadTally"=some (some (.ref CBadTally)))
  (qUnlike:PySem.W.excIn K CUnlike [.type "ValueError",.type "Exception",.type "BaseException",.type "object"] "ValueError.__new__"=true)
  (gaUnlike:PySem.W.findIn K (.ref CUnlike) "__getattribute__"=some (some (.builtin "BaseException.__getattribute__")))
  (naUnlike:PySem.W.findIn K (.ref CUnlike) "__getattr__"=some none)
  (clUnlike:PySem.W.findIn K (.ref CUnlike) "__class__"=some (some (.builtin "object.__class__")))
  (sbUnlike:PySem.W.subIn K (.ref CUnlike) (.type "BaseException")=some true)
  (soUnlike:PySem.W.subIn K (.ref CUnlike) (.type "object")=some true)
  (csUnlike:PySem.W.clsIn K CUnlike=some cdUnlike)
  (xmUnlike:PySem.W.exmOne K (.ref CUnlike) (.ref CTallyError)=some true)
  (i0Unlike:PySem.W.kitOne K (.ref CUnlike) (.ref CUnlike)=some true)
  (i1Unlike:PySem.W.kitOne K (.ref CUnlike) (.type "ValueError")=some true)
  (i2Unlike:PySem.W.kitAny K (.ref CUnlike) [.ref CBadWeb,.ref CNoExchange]=some false)
  (qBadTally:PySem.W.excIn K CBadTally [.type "ValueError",.type "Exception",.type "BaseException",.type "object"] "ValueError.__new__"=true)
  (xmBadTally:PySem.W.exmOne K (.ref CBadTally) (.ref CBadTally)=some true)
  (qNoExchange:PySem.W.excIn K CNoExchange [.type "ValueError",.type "Exception",.type "BaseException",.type "object"] "ValueError.__new__"=true)
  (xmNoExchange:PySem.W.exmOne K (.ref CNoExchange) (.ref CNoExchange)=some true)
  (tb:(PySem.W.tabIn K "order_of").isSome=true)
  (z1:j2 K i9 "len"=some none)
  (z2:j2 K i9 "range"=some none)
  (z3:j2 K i9 "enumerate"=some none)
  (z4:j2 K i9 "list"=some none)
  (z5:j2 K i9 "tuple"=some none)
  (z6:j2 K i9 "sorted"=some none)
  (z7:j2 K i9 "set"=some none)
  (z8:j2 K i9 "isinstance"=some none)
  (z9:j2 K i9 "int"=some none)
  (z10:j2 K i9 "bool"=some none)
  (z11:j2 K i9 "min"=some none)
  (z12:j2 K i9 "max"=some none)
  (z13:j2 K i9 "sum"=some none)
  (z14:j2 K i9 "str"=some none)
  (z15:j2 K i9 "ValueError"=some none)
  (z16:j2 K i9 "all"=some none)
  (z17:j2 K i9 "dict"=some none)
  (z18:j2 K i9 "reversed"=some none) :
  ∃ fd:FuncData,(∀ (s:Shared) (v:Value),bg8 s fd ⟨[v],[]⟩ [("script",v)])/\∀ base:Heap,K.In base->base.Ns i9 mg->(∀ q∈ay3 K,aL9 base mg q.1 q.2)->A2 l.prog w K mg base CX0 9 fa fd ["script"] (aO4 K (aX5 K)):=by
 have e:=hfa.symm.trans (R7 X G aZ)
 cases e
 have B:Bn mg:=⟨q8 X G z1,q8 X G z2,q8 X G z3,q8 X G z4,q8 X G z5,q8 X G z6,q8 X G z7,q8 X G z8,q8 X G z9,q8 X G z10,q8 X G z11,q8 X G z12,q8 X G z13,q8 X G z14,q8 X G z15,q8 X G z16,q8 X G z17,q8 X G z18⟩
 obtain⟨⟨c,PT⟩,hcp⟩:=p7.mp tb
 obtain⟨_,_,_,_,_,_,_,_,_,_,lO,_⟩:=FO.ex
 have hc:=bn3 hcp aO lO
 have ept:aX5 K=PT:=by unfold aX5;rw[hcp];rfl
 have ets:ay3 K=[(c,PT)]:=by unfold ay3;rw[hcp]
 rw[ept,ets]
 obtain⟨_,_,y1,y2,y3,y4,y5,y6,_,rfl,_,_⟩:=FZ.ex
 exact⟨V0 "law" "law" (aj8 aX3) (X3 aX3) (p5 aX3) .none y1 y2 y3 y4 y5 y6,fun s v=>.of_eq rfl,fun base _ _ hL=>bO4 FZ B (R7 X G mo) (fq X G ab1 Fb1 fun _ _ _ _ _ _=>ls1 fun _=>rfl) (fq X G aS FS fun _ _ _ _ _ _=>ls5 fun _ _ _ _ _=>rfl) (fq X G aI FI fun _ _ _ _ _ _=>ls2 fun _ _=>rfl) (fq X G aC FC fun _ _ _ _ _ _=>ls2 fun _ _=>rfl) (fq X G aU FU fun _ _ _ _ _ _=>ls2 fun _ _=>rfl) (fq X G aV FV fun _ _ _ _ _ _=>ls2 fun _ _=>rfl) (fq X G aℓ Fℓ fun _ _ _ _ _ _=>ls1 fun _=>rfl) (fq X G aτ Fτ fun _ _ _ _ _ _=>ls3 fun _ _ _=>rfl) (fq X G aβ Fβ fun _ _ _ _ _ _=>ls1 fun _=>rfl) (fq X G aT FT fun _ _ _ _ _ _=>ls1 fun _=>rfl) (fq X G aO FO fun _ _ _ _ _ _=>ls1 fun _=>rfl) (fq X G aE FE fun _ _ _ _ _ _=>ls2 fun _ _=>rfl) (fq X G aX FX fun _ _ _ _ _ _=>ls2 fun _ _=>rfl) (fq X G aκ Fκ fun _ _ _ _ _ _=>ls2 fun _ _=>rfl) (fq X G aN FN fun _ _ _ _ _ _=>ls2 fun _ _=>rfl) (fq X G aG FG fun _ _ _ _ _ _=>ls2 fun _ _=>rfl) (fq X G aL FL fun _ _ _ _ _ _=>ls2 fun _ _=>rfl) (fq X G aM FM fun _ _ _ _ _ _=>ls2 fun _ _=>rfl) (fq X G aP FP fun _ _ _ _ _ _=>ls2 fun _ _=>rfl) (fq X G aH FH fun _ _ _ _ _ _=>ls2 fun _ _=>rfl) (fq X G aD FD fun _ _ _ _ _ _=>ls2 fun _ _=>rfl) (fq X G aW FW fun _ _ _ _ _ _=>ls2 fun _ _=>rfl) (fq X G aQ FQ fun _ _ _ _ _ _=>ls3 fun _ _ _=>rfl) (fq X G aF FF fun _ _ _ _ _ _=>ls3 fun _ _ _=>rfl) (fq X G aK FK fun _ _ _ _ _ _=>ls2 fun _ _=>rfl) (fq X G aY FY fun _ _ _ _ _ _=>ls3 fun _ _ _=>rfl) (fq X G aω Fω fun _ _ _ _ _ _=>ls3 fun _ _ _=>rfl) (fq X G aρ Fρ fun _ _ _ _ _ _=>ls1 fun _=>rfl) (fq X G aR FR fun _ _ _ _ _ _=>ls2 fun _ _=>rfl) (fq X G aψ Fψ fun _ _ _ _ _ _=>ls2 fun _ _=>rfl) (fq X G aJ FJ fun _ _ _ _ _ _=>ls4 fun _ _ _ _=>rfl) (R7 X G aBadTally) ⟨qBadTally⟩ ⟨R7 X G aTallyError,R7 X G aUnlike,R7 X G aBadWeb,R7 X G aNoExchange,⟨qUnlike⟩,⟨gaUnlike,naUnlike,clUnlike,sbUnlike,soUnlike,by rw[csUnlike];rfl⟩,xmUnlike,i0Unlike,i1Unlike,i2Unlike,⟨qNoExchange⟩⟩ hc (hL (c,PT) c6)⟩
theorem walk {l:PySem.W.OpenLaw} {q:Program} {loose:List Str} {d:DefRec} {K:Params->PySem.W.Frag} (hn:l.most=some 63) (hdf:d.params.defaults=[])
  (hY:∀ (w:World) (h:Heap),YP w h->(K w.params).In h) (hK0:∀ w:World,PySem.W.noTabs (K w.params)=true) (hrec:((PyProof.Rows.recsOf q).find? (fun e=>e.name == ("order_of":Str))).isSome=true) (htb:∀ w:World,(PySem.W.tabIn (K w.params) "order_of").isSome=true)
  (F : ∀ (w : World) (mg : Str -> Option Value) (fa : Addr) (h : Heap), (K w.params).In h -> h.Ns i9 mg -> mg d.name = some (.ref fa) ->
   ∃ fd:FuncData,(∀ (s:Shared) (u:Value),bg8 s fd ⟨[u],[]⟩ [("script",u)])/\∀ base:Heap,(K w.params).In base->base.Ns i9 mg->(∀ q∈ay3 (K w.params),aL9 base mg q.1 q.2)->A2 l.prog w (K w.params) mg base CX0 9 fa fd ["script"] (aO4 (K w.params) (aX5 (K w.params)))) :
  PySem.W.WalkO q loose XP YP l.row.toRowW d [] (fun f vs=>PySem.call f vs):=by
 refine L2.walk_ofT (n:=63) (k:=9) (x:="script") (CX:=fun _=>CX0) (sp:=fun w _=>aO4 (K w.params) (aX5 (K w.params))) (ts:=fun w=>ay3 (K w.params)) hn (by decide) hdf ⟨rfl,by decide,by decide⟩ hY hK0 (fun w loose mean mg mb h T X=>?_) F (fun w H a ns hl hT hS=>?_) fun _ _ _ _ _ z=>z
 ·obtain⟨⟨c,PT⟩,hcp⟩:=p7.mp (htb w)
  obtain⟨d',hd'⟩:=p7.mp hrec
  have ets:ay3 (K w.params)=[(c,PT)]:=by unfold ay3;rw[hcp]
  show PySem.W.TabsAt (ay3 (K w.params)) h
  rw[ets]
  intro r hr
  rw[d6.mp hr]
  exact PySem.W.tab_of T X hd' hcp
 ·obtain⟨⟨c,PT⟩,hcp⟩:=p7.mp (htb w)
  have ets:ay3 (K w.params)=[(c,PT)]:=by unfold ay3;rw[hcp]
  have ept:aX5 (K w.params)=PT:=by unfold aX5;rw[hcp];rfl
  refine⟨a,ns,rfl,hS,hl,?_,fun _=>rfl⟩
  rw[ept]
  exact⟨#[],hT (c,PT) (by show (c,PT)∈ay3 (K w.params);rw[ets];exact c6),trivial,.inl rfl⟩
end Web
set_option Elab.async false
namespace PySem.W.Fast
def tw9741897784695366593:=0
def tw7536281496556099662:=0
def tw18200875553738089455:=0
def tw4230519443316738026:=0
def tw1777627497706635386:=0
def tw17660688883883209875:=0
def tw16151219193135454599:=0
def tw4036829947750534954:=0
def tw9652461183505083154:=0
def tw17418815665119492066:=0
def tw12873829359235545269:=0
def tw14637851683375994594:=0
def tw1061978173832606304:=0
def tw12344495086490900881:=0
def tw6762266566459613399:=0
def tw10593706673147975364:=0
def tw4397551933027649850:=0
def tw12854724664725549962:=0
def tw8547463888693875044:=0
def tw14596261090947956080:=0
def tw9710772382166161185:=0
def tw9922058648756967033:=0
def tw1501376708146297270:=0
def tw15949045870751184763:=0
def tw17481692430621568146:=0
def tw5132556956621717563:=0
def tw14208203862081106420:=0
def tw4193056325811909254:=0
def tw3808941927373694717:=0
def tw10028115488114815506:=0
def tw15644871642123567439:=0
def tw1063588403080314148:=0
def tw5893182066410458119:=0
def tw3473557634305283349:=0
def tw1043556451659467107:=0
def tw13019536063317191560:=0
def tw4603974632107453872:=0
def tw6801890396322577885:=0
def tw10258864660375464126:=0
def tw4675858446471804615:=0
def tw292995537117897827:=0
def tw2339588042100004910:=0
def tw12722108137497396025:=0
def tw16208748417006433071:=0
def tw12583111902743548520:=0
def tw16205654476260098306:=0
def tw7607288377571081866:=0
def tw11691444939515450691:=0
def tw5408563030743760050:=0
def tw14174238444922444286:=0
def tw8866822106826387518:=0
def tw16610524686780452286:=0
def tw5117540275492934264:=0
def tw16213433696086279710:=0
def tw6420331751720828565:=0
def tw8036425216132957539:=0
def tw6896266020888865340:=0
def tw3059646185986382171:=0
def tw8127740891172377784:=0
def tw4347095705429389514:=0
def tw15114616189062247829:=0
def tw17412992962302850393:=0
def tw7829181262929902982:=0
def tw17386353830727425199:=0
def tw8857300607511803055:=0
def tw6507282348395983909:=0
def tw13383293488960170714:=0
def tw16870787770471908437:=0
def tw7726913268398163846:=0
def tw9251976035922213214:=0
def tw13713614100464725057:=0
def tw11914803706666547630:=0
def tw2952884529493506499:=0
def tw18318834374707479451:=0
def tw14118178803071845485:=0
def tw4289882046267630335:=0
def tw10200961555056308238:=0
def tw17837712144010236149:=0
def tw4133469676597000501:=0
def tw641662197215323664:=0
def tw14143486645623617455:=0
def tw476511626638808885:=0
def tw6186083652634852222:=0
def tw8178016200106876566:=0
def tw15880445984266394449:=0
def tw8727302613585783288:=0
def tw7513424683898855787:=0
def tw2263615386446149533:=0
def tw9579655373302570132:=0
def tw12767733385102245252:=0
def tw9215824516055700417:=0
def tw1141557183075467898:=0
def tw9828287523708807251:=0
def tw11514519846014654121:=0
def tw10915242990151850382:=0
def tw4484076434036960692:=0
def tw5574476588340185113:=0
def tw9622811585565040431:=0
def tw17940690076491289090:=0
def tw12738676155543995805:=0
def tw16804348992195352743:=0
def tw4704499979424244619:=0
def tw8240246287582689906:=0
def tw6002345419080608714:=0
def tw2891886063515159888:=0
def tw1615787628315876804:=0
def tw8707446372187378881:=0
def tw13235794723779164692:=0
def tw14653372156173784978:=0
def tw9439075705512624644:=0
def tw5447769593352477237:=0
def tw12238409980353617696:=0
def tw4671655164216944291:=0
def tw5408607613385902558:=0
def tw279167013592078161:=0
def tw1246069090263077936:=0
def tw4326921591365789330:=0
def tw10075232549403060038:=0
def tw13964358924735087395:=0
def tw15534486239827354748:=0
def tw8357307414464712316:=0
def tw2671019342037510429:=0
def tw8155450764159909588:=0
def tw18252472479651797411:=0
def tw9439434869521629181:=0
def tw8328926460947286633:=0
def tw11777390314894984441:=0
def tw15076537716461629995:=0
def tw8795929495929513411:=0
def tw14307123925286471476:=0
def tw16747909742072654471:=0
def tw1064718679209870146:=0
def tw2635510970252091024:=0
def tw3960687537103116677:=0
def tw17445899167935830863:=0
def tw12588436740593201416:=0
def tw7913137916913233182:=0
def tw12273559237649598817:=0
def tw13414574778268504669:=0
def tw7650139123160967840:=0
def tw14936281641910999325:=0
def tw9034549632732859150:=0
def tw13416411941862451509:=0
def tw13698313413975067510:=0
def tw16989608684994800817:=0
def tw15849161940143632453:=0
def tw1944450915995372975:=0
def tw15961821395742661421:=0
def tw8774352715528173890:=0
def tw8350294163123154623:=0
def tw17399569547795680173:=0
def tw12381187387229084079:=0
def tw14884958398157956164:=0
def tw10628569033599343969:=0
def tw872647406168624211:=0
def tw13828984750987112809:=0
def tw17682208539229649395:=0
def tw8530876405186288070:=0
def tw3912066433814147095:=0
def tw12162532281807080942:=0
def tw13562307577042003736:=0
def tw13594430645648307330:=0
def tw10234727165420560110:=0
def tw7081454146434121070:=0
def tw14346251370311108259:=0
def tw3170603528088247624:=0
def tw13070725302768710547:=0
def tw11503427657696813892:=0
def tw6256316658211437368:=0
def tw18041577077924610825:=0
def tw13786946218052958321:=0
def tw5733004780247361392:=0
def tw9763220473562084105:=0
def tw7220151598656047093:=0
def tw7670455378127487151:=0
def tw9469634206873524209:=0
def tw188885494535122225:=0
def tw7505637035429988511:=0
def tw3706099933272312983:=0
def tw9450344175306267710:=0
def tw13481682525623601514:=0
def tw6056298676402985015:=0
def tw11046682773820944340:=0
def tw12859648957047806531:=0
def tw11848292514092880856:=0
end PySem.W.Fast
open PySem PySem.W PyProof.Rows
set_option maxRecDepth 100000 in
set_option maxHeartbeats 0 in
theorem PySem.Challenge.cw_tallyweb_k20_led_from_web_to_web_holds : PySem.Challenge.rw_tallyweb_k20_led_from_web_to_web.Holds := by
 w_on; o_law; k_head; (case hw => w_witness2)
 k_fill
 refine Web.walk (l := PySem.Challenge.rw_tallyweb_k20_led_from_web_to_web) rfl rfl (fun w h Y => PySem.W.km_in_of Y) ?hN0 ?hR0 ?hT0 ?F
 case hN0 => intro w; kernel_rfl
 case hR0 => kernel_rfl
 case hT0 => intro w; kernel_rfl
 case F =>
  intro w mg fa h KX G hmg
  refine' Web.all_mk KX G hmg ?ab1 (L2.fun_mk ?lb1 ?cb1 ?kb1) ?aS (L2.fun_mk ?lS ?cS ?kS) ?aI (L2.fun_mk ?lI ?cI ?kI) ?aC (L2.fun_mk ?lC ?cC ?kC) ?aU (L2.fun_mk ?lU ?cU ?kU) ?aV (L2.fun_mk ?lV ?cV ?kV) ?aℓ (L2.fun_mk ?lℓ ?cℓ ?kℓ) ?aτ (L2.fun_mk ?lτ ?cτ ?kτ) ?aβ (L2.fun_mk ?lβ ?cβ ?kβ) ?aT (L2.fun_mk ?lT ?cT ?kT) ?aO (L2.fun_mk ?lO ?cO ?kO) ?aE (L2.fun_mk ?lE ?cE ?kE) ?aX (L2.fun_mk ?lX ?cX ?kX) ?aκ (L2.fun_mk ?lκ ?cκ ?kκ) ?aN (L2.fun_mk ?lN ?cN ?kN) ?aG (L2.fun_mk ?lG ?cG ?kG) ?aL (L2.fun_mk ?lL ?cL ?kL) ?aM (L2.fun_mk ?lM ?cM ?kM) ?aP (L2.fun_mk ?lP ?cP ?kP) ?aH (L2.fun_mk ?lH ?cH ?kH) ?aD (L2.fun_mk ?lD ?cD ?kD) ?aW (L2.fun_mk ?lW ?cW ?kW) ?aQ (L2.fun_mk ?lQ ?cQ ?kQ) ?aF (L2.fun_mk ?lF ?cF ?kF) ?aK (L2.fun_mk ?lK ?cK ?kK) ?aY (L2.fun_mk ?lY ?cY ?kY) ?aω (L2.fun_mk ?lω ?cω ?kω) ?aρ (L2.fun_mk ?lρ ?cρ ?kρ) ?aR (L2.fun_mk ?lR ?cR ?kR) ?aψ (L2.fun_mk ?lψ ?cψ ?kψ) ?aJ (L2.fun_mk ?lJ ?cJ ?kJ) ?aZ (L2.fun_mk ?lZ ?cZ ?kZ) ?mo ?aTallyError ?aUnlike ?aBadWeb ?aNoExchange ?aBadTally ?qUnlike ?gaUnlike ?naUnlike ?clUnlike ?sbUnlike ?soUnlike ?csUnlike ?xmUnlike ?i0Unlike ?i1Unlike ?i2Unlike ?qBadTally ?xmBadTally ?qNoExchange ?xmNoExchange ?tb ?z1 ?z2 ?z3 ?z4 ?z5 ?z6 ?z7 ?z8 ?z9 ?z10 ?z11 ?z12 ?z13 ?z14 ?z15 ?z16 ?z17 ?z18
  case ab1 | lb1 | cb1 | kb1 | aS | lS | cS | kS | aI | lI | cI | kI | aC | lC | cC | kC | aU | lU | cU | kU | aV | lV | cV | kV | aℓ | lℓ | cℓ | kℓ | aτ | lτ | cτ | kτ | aβ | lβ | cβ | kβ | aT | lT | cT | kT | aO | lO | cO | kO | aE | lE | cE | kE | aX | lX | cX | kX | aκ | lκ | cκ | kκ | aN | lN | cN | kN | aG | lG | cG | kG | aL | lL | cL | kL | aM | lM | cM | kM | aP | lP | cP | kP | aH | lH | cH | kH | aD | lD | cD | kD | aW | lW | cW | kW | aQ | lQ | cQ | kQ | aF | lF | cF | kF | aK | lK | cK | kK | aY | lY | cY | kY | aω | lω | cω | kω | aρ | lρ | cρ | kρ | aR | lR | cR | kR | aψ | lψ | cψ | kψ | aJ | lJ | cJ | kJ | aZ | lZ | cZ | kZ | mo | aTallyError | aUnlike | aBadWeb | aNoExchange | aBadTally | gaUnlike | naUnlike | clUnlike | sbUnlike | soUnlike | csUnlike | z1 | z2 | z3 | z4 | z5 | z6 | z7 | z8 | z9 | z10 | z11 | z12 | z13 | z14 | z15 | z16 | z17 | z18 => k_is
  case qUnlike | qBadTally | qNoExchange => k_exc
  case xmUnlike | xmBadTally | xmNoExchange => kts_exm
  case i0Unlike | i1Unlike | i2Unlike => kit_is
  case tb => kernel_rfl
#print axioms PySem.Challenge.cw_tallyweb_k20_led_from_web_to_web_holds

