import PyProof.Rows.All
import Wide.All
import OpenK.AllK
import Wide.FinOn
import Lean
import PyProof.EqAt
import PyProof.EqKinds
import PyProof.TupleCall
import PyProof.Rows.SortRunsK
import PyProof.Rows.SortShellK
import KE.KSortTup
import PyProof.TupleKey
import PySem.SetOps
import PyProof.Rows.SetFrom
import PyProof.EnumFor
import PyProof.EnumStmt
import PyProof.EnumMake
import PyProof.P3Eq
import PyProof.NeData
import PyProof.P3In
import PyProof.Rows.SumAny
import KE.KLam
import KE.KSortKey
import PyProof.ListRange
import KE.KTryMore
import PyProof.NsDelKeeps
import PyProof.RulesAs
import PyProof.ExcBaseAll.ValueError
import PyProof.ExcArgsOwn
import KE.KIsAll
import PyProof.Rows.SortRev
import PyProof.TupleOfSeq
import PyProof.Draws
import KE.KTupSum
import PyProof.Cells
import PyProof.Rows.TupAdd
import PyProof.DictWalks
import PyProof.ConsumeWalk
import PyProof.DictKeyH
import PyProof.ListNew
import PyProof.ConsumeS
import PyProof.WalksMore
import PyProof.DictRoadsH
import PyProof.MeetsDictList
import KE.KDictOf
import PyProof.DictUpdate
import PyProof.DictCopy
import Wide.Txt2
import PyProof.ListOps
import PyProof.AutoSeq1
import PyProof.FactsAll.set_2
import KE.KRevIter
import PyProof.FactsAll.dict_1
import PyProof.DictFindH
import PyProof.FactsAll.subtypes_5
import KE.RegKIsAll
import KE.RegKTryMore
import PySem.Challenge.RW_tallyweb_k22_whole_all_come_to
local macro_rules | `(tactic| omega) => `(tactic| lia)
set_option autoImplicit false
set_option linter.all false
set_option Elab.async false
set_option maxRecDepth 100000
open PySem renaming wpAny_bind->a4,wpAny_pure->a6,sizeLine->d7,mainGlobals->i6,tupleKeyHash->l8,wpAny->m5,model->m7,intKind->m9,wpAny_holding->u7,wpAny_forIn_list->B2,wpAny_truthy_bool->B4,starEach->B7,compareOp->C1,sysModules->C3,wpAny_mono->C4,IsTupleKey->E2,wpAny_tupleItemsOf->E3,Paired->F8,cLine->G0,DictEntry->G2,compEnvC->G4,entryOfKey->J1,wpAny_call_entry->J2,wpAny_isInstance->J3,wpAny_dictEntries->K9,wpAny_typeNameOfWhole_keyiter->M5,wpAny_passesOwn->O0,isSubtype_tuple_tuple->O1,wpAny_setState_of->O2,wpAny_typeNameOf_keyiter->R0,wpAny_newList->R7,wpAny_specialOf->R8,foldedSetIterable->U3,codeAny_mono->V9,PyData->X4,wpAny_standAt->X7,wpAny_richCompare_same_room->Z2,bootBuiltins->ab0,binaryOp->ab1,wpAny_seqItems->ac3,ofAClassStatement->ad1,wpAny_comprehension_free->ad2,behindInMarks->ae1,codeAny_compStart_list->ah1,backTo->ak0,wpAny_execs_nil->ak1,codeAny->ak2,wpAny_typeOf->ak7,codeAny_builtin->ak8,wpAny_dictEpoch->ak9,size_of_entries->al0,assignEach->am0,NameKind->am1,call_meets->am2,wpAny_rule->am3,unsupported->ar6,wpAny_Call_Name_kw->av2,attributeBase->av3,setSearchFrom->av5,compPost->av6,wpAny_pyIter_list->az8,Keyword->az9,reduceHash->aA0,wpAny_newObj_type->aA1,isInstance->aA2,wpAny_eqBool_int->aH9,tupleKind->aS0,swapsWith->aS1,letOwnedTupleGo->aS2,BindsTo->aS3,cellsFrom->aS4,callerA->aS5,hashByValue->aS8,theTreesLotGoes->aS9,wpAny_ite_split->aT0,wpAny_updateSeq->aT1,eqIsQuiet->aT2,atKey->aX2,isSubtype_type->aX3,builtinsNs->bh1,pyNext->bh2,closureFor->bh5,holding->bi5,wpAny_attempt->bi6,plainId_quiet->bi7,compTurn_list->bi8,ReadsAll->bi9,wpAny_callSpecial?_slot->bj0,HeapKind->bj1,wpAny_Assign_Subscript->bp4,wpAny_isTrue_Compare1->br6,assign->br7,seqIndex_neg->br8,setSearch->br9,wpAny_eqIsQuiet_tuple->bs0,weight_type_call_type->bs1,codeAny_loop->bs2,pairTrees->bs3,wpAny_notOrdered_dict->bs4,wpAny_isOneOf_keyiter->bs5,wpAny_loadName_local->bA6,codeAny_call_builtin->bA7,wpAny_newFunctionEnv->bA8,wpAny_pyIter_keyiter->bA9,hashInt->bB8,wpAny_loadName_cell->bB9,seqIndex_of->bC0,keywordEach->bC1,wpAny_noted->bC3,wpAny_of_eq->bC4
open PySem.Heap renaming get?_push_of_some->a5,lt_size->d4,get?_push_size->l0,get?_update_other->n9,size_push->B9,get?_update_self->D3,get?_none_of_le->ai7,size_update->bB2
open List renaming mem_singleton->a8,getElem?_eq_some_iff->a9,mem_cons_self->b4,length_map->b6,mem_cons->b7,mem_cons_of_mem->b9,mem_of_getElem?->c8,length_append->c9,getElem?_eq_getElem->d5,mem_append_right->d6,size_toArray->f6,mem_iff_getElem?->i8,mem_append->j0,nodup_cons->j1,getElem?_map->j3,not_mem_nil->j4,mem_filter->j5,length_cons->j7,map_cons->j8,mem_range->k7,mem_map->l6,pairwise_iff_getElem->l7,mem_append_left->m6,map_append->n4,range->n6,take_of_length_le->o1,append_assoc->p7,replicate->r9,nodup_nil->t5,pairwise_append->t6,take_add_one->u6,length_singleton->v9,getD_eq_getElem?_getD->x5,append_nil->y7,length_take->y9,pairwise_map->A0,mem_flatMap->A3,reverse_perm->B3,mem_reverse->C0,getElem?_append_right->C5,perm_ext_iff_of_nodup->C6,drop_of_length_le->C8,all_eq_true->D9,length_range->E8,flatMap_cons->E9,replicate_succ->F7,getElem?_take->G6,getElem?_eq_none->G7,pairwise_cons->G8,length_filter_le->G9,flatten_cons->K2,nil_append->K3,length_erase_of_mem->K4,length->L0,take_append_drop->M8,any_cons->N6,nodup_append->N7,extract_eq_take_drop->O8,lookup_cons->P1,getElem?_take_of_lt->P4,foldl_cons->Q4,getElem?_drop->Q5,filter_append->Q6,filter_cons_of_neg->Q7,filter_cons_of_pos->Q8,pairwise_singleton->Q9,length_pos_of_mem->R5,ext_getElem?->S4,take_zero->S8,drop_append->U7,take_append_of_le_length->U8,length_drop->U9,eq_nil_of_length_eq_zero->V0,take_length->V1,mem_of_mem_drop->V8,foldl->W3,filterMap_cons->X1,map_congr_left->X2,flatMap_append->X3,mem_filterMap->Y8,getElem_range->Z0,map_map->Z1,getElem?_append_left->Z3,drop_eq_getElem_cons->Z4,take_sublist->aa9,nodup_range->ac7,getElem_mem->ac8,any_toArray->ac9,filter_cons->ad0,filter_eq_nil_iff->ae0,pairwise_reverse->ag4,length_nil->ag5,find?_cons->ag6,countP_singleton->ag7,pairwise_flatMap->ag8,filter_nil->ag9,getElem?_set_ne->ai8,mem_of_mem_take->ai9,reverse_append->al6,length_pos_iff->al7,getElem?_range->al8,zip_cons_cons->ar2,map->ar3,countP_eq_countP_filter_add->ar5,filter_congr->as5,map_nil->av1,drop_append_of_le_length->az4,countP_eq_length_filter->az6,of_mem_zip->aH1,length_set->aH2,take->aH4,range_succ->aH6,drop_drop->aM5,pairwise_mergeSort->aW9,getElem?_set_self->aX0,pairwise_lt_range->aX1,perm_append_comm->bg5,any_map->bg8,mem_of_mem_erase->bh0,nodup_iff_count->bi4,mergeSort_perm->bp1,length_take_le->bp2,countP_append->br4,drop_sublist->bz8,getElem?_set->bA1,getElem?_inj->bA2,mem_range'_1->bA4,reverse_cons->bA5,take_append->bB0,map_snd_zip->bB1,countP_cons->bB5,any_eq_true->bB7
open Array renaming getElem?_toList->b5,length_toList->d9,size_push->p9,toList_append->q8,size_extract->B8,size_append->C9,perm_iff_toList_perm->G1,forIn_toList->G5,toList_push->R4,toList_extract->U5,toList_reverse->U6,size_map->Y9,toList_setIfInBounds->aH3,getElem?_append_left->aH5,size_setIfInBounds->aM6,getElem?_replicate->aM7,mem_toList_iff->bg7,toArray_toList->bg9,setIfInBounds->bh9,size_reverse->bo9,getD->br3,toList_map->bA0
open Nat renaming le_refl->c6,ne_of_lt->i9,zero_le->k9,lt_of_lt_of_le->o4,le_trans->o5,lt_succ_of_lt->p6,lt_irrefl->x6,lt_or_eq_of_le->D8,zero_add->J0,mul_le_mul_right->K5,add_sub_cancel_left->L3,add_le_add_left->L4,ne_of_gt->N5,le_succ->P5,lt_trichotomy->S7,add_assoc->W4,succ_pos->Z5,le_of_succ_le->ac1,le_of_lt_succ->ac2,not_lt_zero->ah0,pow_le_pow_right->aj7,mul_le_mul->al9,le_of_lt->az2,add_zero->az3,le_add_right->az5,min_le_left->aH8,div_div_eq_div_mul->bg6,succ_mul->bh6,le_of_eq->bh7,lt_or_ge->bh8,sub_self->bi0,pow_succ->bi1,lt_trans->bi2,testBit_two_pow->br2,add_sub_cancel->bz7,lt_of_le_of_lt->bA3,not_lt->bB3,mod_lt->bB4
open Bool renaming false_ne_true->c7,false_eq_true->d3,and_eq_true->o7,not_true->o9,not_eq_true'->E7,eq_iff_iff->F6,not_false->L8,eq_false_iff->as4,or_false->aW8
open PyProof.Rows renaming wpS_bind->d8,wpS_pure->i7,arrOf->j2,pendingOf->r6,wpS_forRange->B0,mem_zip_self->F9,failedOf->G3,sortedHeap->M6,seqObj->P0,wpS_mono->Q1,get?_update_seq->R6,envOfC->U0,elem'->Z7,AllBare->aj9,wpS_get->ak3,KeyOrd->ak4,tuples'->ak5,pairsOf->ak6,wpS_modify->am4,pairsOf_toList->ar4,wpS_reverse->ar7,listUpdate_at->av4,pairsOf_size->aH7,mirror_perm->aS6,seqEpoch_at->aS7,setPending->bh3,size_push'->bh4,subscriptTail_builtinR->bp3,getElem?_mirror_all->bC2
open PySem.W renaming nsIn->j6,mg_none_of->m8,fnOf->O9,keepIn->X6,mg_of->aj8,codeIn->az7
open Int renaming toNat_natCast->n8,emod_nonneg->X5,emod_lt_of_pos->Z6,fdiv_eq_ediv_of_nonneg->aM4,lt_trichotomy->bB6
open Option renaming isSome_iff_exists->J6,isSome_some->bi3,isSome_map->bp0,map_some->bz9
open Prod renaming ext->br5
variable {A:PySem.Around}{B:PyProof.Rows.Keyed->PyProof.Rows.Keyed->Bool}{C a d f l:PySem.Addr}{E Q:PySem.Value->PySem.Shared->Prop}{F ks ls prs:List (List Int)}{G:Array PySem.GenState->Array PySem.GenState->Prop}{M:PySem.Model}{N N' ps:List PySem.Str}{P prog:PySem.Program}{R:PyProof.Rows.Keyed->PyProof.Rows.Keyed->Prop}{XP:(PySem.Str->Option PySem.Value)->PySem.Heap->Prop}{YP:PySem.World->PySem.Heap->Prop}{b:Nat->Option (Option Nat) × Nat × Nat->StateT PyProof.Rows.SortSt PySem.Sem (ForInStep (Option (Option Nat) × Nat × Nat))}{cl:List (PySem.Str × PySem.Addr)}{e o tg:PySem.Expr}{fd fdC fdI:PySem.FuncData}{fp:List PySem.Addr}{g:Nat->Nat->Bool}{h h':PySem.Heap}{i j n:Nat}{k ss:List Int}{lk:List (Option Nat)}{out ra rb:List PyProof.Rows.Keyed}{outer:List PySem.Env}{p:List PySem.Value->Prop}{pins:List (PySem.Addr × PySem.Obj)}{pos:PySem.Pos}{qual x:PySem.Str}{s:PySem.Shared}{scope:PySem.Scope}{u v:PySem.Value}{us vs:List PySem.Value}{w:PySem.World}{κ:PyProof.Rows.SortKind}
namespace L2
open PySem PySem.Spec PyProof.Rows
abbrev Key:=Sum Int Str
def at7:Key->Value->Bool
 | .inl k,v=>Value.isInt k v
 | .inr x,v=>Value.isStrOf x v
def bI8 (w:World):Key->Int
 | .inl k=>bB8 k
 | .inr x=>hashStr w x
theorem F5:∀ {k:Key} {v:Value},at7 k v=true->(∃ i t,k=Sum.inl i/\v=Value.int i t)\/(∃ x t,k=Sum.inr x/\v=Value.str x t)
 | .inl i,v,h=>by
  obtain⟨t,e⟩:=Value.isInt_shape (k:=i) (v:=v) h
  exact .inl ⟨i,t,rfl,e⟩
 | .inr x,v,h=>by
  obtain⟨t,e⟩:=Value.isStrOf_shape (x:=x) (v:=v) h
  exact .inr ⟨x,t,rfl,e⟩
theorem aV2 (i:Int)(t:Tok):at7 (.inl i) (.int i t)=true:=by simp[at7,Value.isInt]
theorem aV1 (x:Str)(t:Tok):at7 (.inr x) (.str x t)=true:=by simp[at7,Value.isStrOf]
theorem bx7 (a b:Int):decide ((Sum.inl a:Key)=Sum.inl b)=(a == b):=by
 by_cases e:a=b
 ·subst e;simp
 ·have h:¬ (Sum.inl a:Key)=Sum.inl b:=fun q=>e (Sum.inl.inj q)
  rw[decide_eq_false h]
  exact(beq_eq_false_iff_ne.mpr e).symm
theorem bx4 (a b:Str):decide ((Sum.inr a:Key)=Sum.inr b)=decide (a=b):=by
 by_cases e:a=b
 ·subst e;simp
 ·have h:¬ (Sum.inr a:Key)=Sum.inr b:=fun q=>e (Sum.inr.inj q)
  rw[decide_eq_false h,decide_eq_false e]
theorem bx6 (a:Int)(b:Str):decide ((Sum.inl a:Key)=Sum.inr b)=false:=decide_eq_false (fun q=>nomatch q)
theorem bx5 (a:Str)(b:Int):decide ((Sum.inr a:Key)=Sum.inl b)=false:=decide_eq_false (fun q=>nomatch q)
def F3 (prog:Program) (w:World):PySem.KeyKind prog w Key where
  is:=at7
  hash:=bI8 w
  inj:=fun v a b ha hb=>by
    rcases F5 ha with⟨i,t,rfl,rfl⟩ | ⟨x,t,rfl,rfl⟩
    · rcases F5 hb with⟨j,u,rfl,e⟩ | ⟨y,u,rfl,e⟩
      · injection e with e1 _;rw[e1]
      · exact nomatch e
    · rcases F5 hb with⟨j,u,rfl,e⟩ | ⟨y,u,rfl,e⟩
      · exact nomatch e
      · injection e with e1 _;rw[e1]
  byValue := fun k v h => by
    rcases F5 h with⟨i,t,rfl,rfl⟩ | ⟨x,t,rfl,rfl⟩<;>rfl
  pyHash:=fun hv h=>by
    rcases F5 hv with⟨i,t,rfl,rfl⟩ | ⟨x,t,rfl,rfl⟩
    · exact wpAny_pyHash_int h
    · exact wpAny_pyHash_str h
  eqBool:=fun hu hv h=>by
    rcases F5 hu with⟨i,t,rfl,rfl⟩ | ⟨x,t,rfl,rfl⟩
    · rcases F5 hv with⟨j,u,rfl,rfl⟩ | ⟨y,u,rfl,rfl⟩
      · rw[bx7]at h;exact aH9 h
      · rw[bx6]at h;exact SeqAt.EqAt.int_str i t y u _ _ _ _ h
    · rcases F5 hv with⟨j,u,rfl,rfl⟩ | ⟨y,u,rfl,rfl⟩
      · rw[bx5]at h;exact SeqAt.EqAt.str_int x t j u _ _ _ _ h
      · rw[bx4]at h;exact wpAny_eqBool_str h
  «strs»:=fun k x t v h=>by
    rcases F5 h with⟨i,u,rfl,e⟩ | ⟨y,u,rfl,e⟩
    · exact nomatch e
    · injection e with e1 _
      subst e1
      cases v<;>rfl
theorem aE0 (prog:Program)(w:World)(i:Int)(t:Tok):(F3 prog w).is (.inl i) (.int i t)=true:=aV2 i t
theorem aD9 (prog:Program)(w:World)(x:Str)(t:Tok):(F3 prog w).is (.inr x) (.str x t)=true:=aV1 x t
inductive V where
 | non | bl (b:Bool) | int (i:Int) | str (x:Str) | byt (b:Array UInt8) | flt (b:UInt64) | ref (a:Addr) | ty (n:String)
 deriving DecidableEq
def RelV:V->Value->Prop
 | .non,u=>u=Value.none
 | .bl b,u=>u=Value.bool b
 | .int i,u=>∃ t,u=Value.int i t
 | .str x,u=>∃ t,u=Value.str x t
 | .byt b,u=>∃ t,u=Value.bytes b t
 | .flt b,u=>∃ t,u=Value.float b t
 | .ref a,u=>u=Value.ref a
 | .ty n,u=>u=Value.type n
abbrev x9:List V->List Value->Prop:=F8 RelV
theorem x9.length {xs:List V}(r:x9 xs us):xs.length=us.length:=Paired.length r
theorem x9.get:∀ {xs:List V} {us:List Value} {i:Nat} {x:V},x9 xs us->xs[i]?=some x->∃ u,us[i]?=some u/\RelV x u
 | _,_,_,_,.nil,e=>by simp at e
 | _,_,0,_,.cons r _,e=>by simp at e;subst e;exact⟨_,rfl,r⟩
 | _,_,i+1,x,.cons _ t,e=>by
  obtain⟨u,h1,h2⟩:=x9.get (i:=i) (x:=x) t (by simpa using e)
  exact⟨u,by simpa using h1,h2⟩
theorem x9.set {x:V}(r:RelV x u):∀ {xs:List V} {us:List Value} (i:Nat),x9 xs us->x9 (xs.set i x) (us.set i u)
 | _,_,_,.nil=>.nil
 | _,_,0,.cons _ t=>.cons r t
 | _,_,i+1,.cons q t=>.cons q (x9.set r i t)
theorem x9.append:∀ {xs ys:List V} {us ws:List Value},x9 xs us->x9 ys ws->x9 (xs++ys) (us++ws)
 | _,_,_,_,.nil,s=>s
 | _,_,_,_,.cons r t,s=>.cons r (x9.append t s)
def bg3:Option V->Option Value->Prop
 | some v,some u=>RelV v u
 | none,none=>True
 | _,_=>False
def KV {κ:Type}:List (κ × V)->List (κ × Value)->Prop:=F8 fun(p:κ × V) (q:κ × Value)=>p.1=q.1/\RelV p.2 q.2
def kV:Key->V
 | .inl i=>.int i
 | .inr x=>.str x
inductive HO where
  | lst (xs:List V)
  | tup (xs:List V)
  | dK (kvs:List (Key × V)) | dT (kvs:List (List Key × V))
  | set (S:Int->Bool) (n:Nat)
  | ins (C dx:Addr) (fs:List (Str × V))
  | own (x:Addr)
  | xd (fs:List (Str × V))
  | met (f x:Addr)
  | rng (lo hi:Int)
  | frz (o:Obj) (u:HO)
  | tbl (ps:Array Value)
  | ext (φ:Heap->Prop)
abbrev Hp:=Addr->Option HO
def upd (H:Hp)(a:Addr)(o:HO):Hp:=fun b=>if b=a then some o else H b
theorem b8 {H:Hp}{o:HO}:upd H a o a=some o:=by unfold upd;rw[if_pos rfl]
theorem o6 {H:Hp}{b:Addr}{o:HO}(h:b≠a):upd H a o b=H b:=by unfold upd;rw[if_neg h]
theorem av9 {H:Hp}{o u:HO}:upd (upd H a o) a u=upd H a u:=by
 funext b;unfold upd;split<;>rfl
theorem ap2 {H:Hp}{b:Addr}{o u:HO}(h:H a=some o)(h':H b=some u)(d:o≠u):a≠b:=by
 intro e;subst e;rw[h]at h';exact d (Option.some.inj h')
theorem u9 {H:Hp}{b:Addr}{o:HO}(h:H a=some o)(h':H b=none):a≠b:=by
 intro e;subst e;rw[h]at h';cases h'
section
variable (P:Program) (w:World)
def D1 (H:Hp)(h:Heap)(a:Addr):HO->Prop
 | .lst xs=>xs.length<=d7/\∃ (its:List Value) (n:Nat),x9 xs its/\h.get? a=some { cls:=.type "list",data:=.seq its.toArray n }
 | .tup xs=>xs.length<=d7/\∃ its:List Value,x9 xs its/\IsTup h a its.toArray
 | .dK kvs=>kvs.length<=d7/\(a == C3)=false/\∃ vs,KV kvs vs/\h.DictOf (F3 P w) a vs
 | .dT kvs=>kvs.length<=d7/\(a == C3)=false/\∃ xs:List (List Key × Addr × Value),
   F8 (fun(p:List Key × V) (q:List Key × Addr × Value)=>p.1=q.1/\H q.2.1=some (.tup (p.1.map kV))/\RelV p.2 q.2.2) kvs xs /\
   ∃ o es ep,h.get? a=some o/\o.ExactDict/\o.data=.dict es ep/\es.toList=xs.map (J1 (aS0 (F3 P w)))/\(xs.map (·.1)).Nodup
 | .set S n=>h.SetOf (m9 P w) a S n
 | .ins C dx fs=>H dx=some (.own a)/\fs.length<=1000/\dx≠a/\h.get? a=some (PySem.W.instObj C dx) /\
   ∃ mA,h.Ns1 dx mA/\(∀ f,bg3 (fs.lookup f) (mA f))/\PySem.Within mA (fs.map (·.1))
 | .own _=>∃ o,h.get? a=some o
 | .xd fs=>∃ mA,h.Ns1 a mA/\∀ f,bg3 (fs.lookup f) (mA f)
 | .rng lo hi=>∃ t u v,h.get? a=some { cls:=.type "range",data:=.fields #[.int lo t,.int hi u,.int 1 v] }
 | .frz o u=>h.get? a=some o/\D1 H h a u
 | .tbl ps=>h.get? a=some { cls:=.none,data:=.fields ps }
 | .met f x=>h.get? a=some (PySem.W.methodObj (.ref f) (.ref x))
 | .ext φ=>φ h/\(∃ o,h.get? a=some o)/\∀ h1 h2:Heap,φ h1->(∀ o,h1.get? a=some o->h2.get? a=some o)->φ h2
def HOk (H:Hp)(h:Heap):Prop:=∀ a o,H a=some o->D1 P w H h a o
end
section
variable {H H':Hp} {o:HO}
theorem D1.lt (x:D1 P w H h a o):a<h.objs.size:=by
 cases o with
 | lst xs=>obtain⟨_,_,_,_,e⟩:=x;exact d4 e
 | tup xs=>obtain⟨_,_,_,p⟩:=x;exact p.lt
 | dK kvs=>obtain⟨_,_,_,_,o,_,_,e,_⟩:=x;exact d4 e
 | dT kvs=>obtain⟨_,_,_,_,o,_,_,e,_⟩:=x;exact d4 e
 | set S n=>obtain⟨o,_,_,_,e,_⟩:=x;exact d4 e
 | ins C dx fs=>obtain⟨_,_,_,e,_⟩:=x;exact d4 e
 | own y=>obtain⟨_,e⟩:=x;exact d4 e
 | xd fs=>obtain⟨_,⟨_,_,_,e,_⟩,_⟩:=x;exact d4 e
 | rng lo hi=>obtain⟨_,_,_,e⟩:=x;exact d4 e
 | frz ob u=>obtain⟨e,_⟩:=x;exact d4 e
 | tbl ps=>exact d4 (show h.get? a=some _ from x)
 | met f y=>exact d4 (show h.get? a=some _ from x)
 | ext φ=>obtain⟨_,⟨_,e⟩,_⟩:=x;exact d4 e
theorem Paired.mapP {α β:Type}{F G:α->β->Prop}:∀ {l₁:List α} {l₂:List β},F8 F l₁ l₂->(∀ a b,F a b->G a b)->F8 G l₁ l₂
 | _,_,.nil,_=>.nil
 | _,_,.cons r t,f=>.cons (f _ _ r) (Paired.mapP t f)
theorem D1.stay (x:D1 P w H h a o)(k:∀ b u,(b=a\/H b=some (.own a))->h.get? b=some u->h'.get? b=some u)
  (ho:∀ b,H b=some (.own a)->H' b=some (.own a))(ht:∀ b xs,H b=some (.tup xs)->H' b=some (.tup xs)):D1 P w H' h' a o:=by
 induction o with
 | lst xs=>obtain⟨z,its,n,r,e⟩:=x;exact⟨z,its,n,r,k _ _ (.inl rfl) e⟩
 | tup xs=>obtain⟨z,its,r,ob,e,c⟩:=x;exact⟨z,its,r,ob,k _ _ (.inl rfl) e,c⟩
 | dK kvs=>obtain⟨z,y,vs,r,ob,es,ep,e,c⟩:=x;exact⟨z,y,vs,r,ob,es,ep,k _ _ (.inl rfl) e,c⟩
 | dT kvs =>
  obtain⟨z,y,xs,r,ob,es,ep,e,c⟩:=x
  exact⟨z,y,xs,Paired.mapP r fun p q z=>⟨z.1,ht _ _ z.2.1,z.2.2⟩,ob,es,ep,k _ _ (.inl rfl) e,c⟩
 | set S n=>obtain⟨ob,es,ep,t,e,c⟩:=x;exact⟨ob,es,ep,t,k _ _ (.inl rfl) e,c⟩
 | ins C dx fs =>
  obtain⟨d,z,ne,e,mA,⟨od,es,ep,e2,c⟩,r⟩:=x
  exact⟨ho _ d,z,ne,k _ _ (.inl rfl) e,mA,⟨od,es,ep,k _ _ (.inr d) e2,c⟩,r⟩
 | own y=>obtain⟨ob,e⟩:=x;exact⟨ob,k _ _ (.inl rfl) e⟩
 | xd fs=>obtain⟨mA,⟨od,es,ep,e,c⟩,r⟩:=x;exact⟨mA,⟨od,es,ep,k _ _ (.inl rfl) e,c⟩,r⟩
 | rng lo hi=>obtain⟨t,u,v,e⟩:=x;exact⟨t,u,v,k _ _ (.inl rfl) e⟩
 | frz ob u ih=>obtain⟨e,q⟩:=x;exact⟨k _ _ (.inl rfl) e,ih q⟩
 | tbl ps =>
  have e:h.get? a=some { cls:=.none,data:=.fields ps }:=x
  show h'.get? a=some { cls:=.none,data:=.fields ps }
  exact k a _ (.inl rfl) e
 | met f y =>
  have e:h.get? a=some (PySem.W.methodObj (.ref f) (.ref y)):=x
  show h'.get? a=some (PySem.W.methodObj (.ref f) (.ref y))
  exact k a _ (.inl rfl) e
 | ext φ=>obtain⟨p,⟨o,e⟩,st⟩:=x;exact⟨st _ _ p fun o q=>k _ _ (.inl rfl) q,⟨o,k _ _ (.inl rfl) e⟩,st⟩
theorem HOk.lt (x:HOk P w H h)(e:H a=some o):a<h.objs.size:=(x a o e).lt
theorem HOk.fresh (x:HOk P w H h)(e:h.objs.size<=a):H a=none:=by
 cases q:H a with
 | none=>rfl
 | some u=>exact absurd (o4 (x.lt q) e) (x6 _)
theorem HOk.kept (x:HOk P w H h)(k:∀ b u,h.get? b=some u->h'.get? b=some u):HOk P w H h':=fun a o e =>
 (x a o e).stay (fun b u _ q=>k b u q) (fun _ q=>q) fun _ _ q=>q
theorem HOk.laid (x:HOk P w H h)(k:∀ b u,h.get? b=some u->h'.get? b=some u)(hp:h.objs.size<=a)(new:D1 P w (upd H a o) h' a o):HOk P w (upd H a o) h':=fun b u e=>by
 have hn:=x.fresh hp
 by_cases hb:b=a
 ·subst hb;rw[b8]at e;cases e;exact new
 ·rw[o6 hb]at e
  exact(x b u e).stay (fun c v _ q=>k c v q) (fun c q=>by rw[o6 (u9 q hn)];exact q) fun c xs q=>by rw[o6 (u9 q hn)];exact q
end
def Rd (H:Hp)(a:Addr)(u:HO):Prop:=H a=some u\/∃ o,H a=some (.frz o u)
theorem Rd.ok {H:Hp}{u:HO}(r:Rd H a u)(x:HOk P w H h):D1 P w H h a u:=by
 rcases r with r | ⟨o,r⟩
 ·exact x a u r
 ·obtain⟨_,q⟩:=x a _ r
  exact q
def Mut:Option HO->Prop
 | some (.lst _)=>True
 | some (.dK _)=>True
 | some (.dT _)=>True
 | some (.set _ _)=>True
 | some (.ins _ _ _)=>True
 | some (.ext _)=>True
 | _=>False
section
variable {H:Hp} {x e:Addr} {o':HO}
theorem HOk.write (ok:HOk P w H h)(mu:Mut (H x))(he:e=x\/H e=some (.own x))(k:∀ b u,b≠e->h.get? b=some u->h'.get? b=some u)(heo:∃ u,h'.get? e=some u)
  (new:D1 P w (upd H x o') h' x o'):HOk P w (upd H x o') h':=fun b u q=>by
 have nown:∀ c y,H c=some (.own y)->c≠x:=fun c y r z=>by subst z;rw[r]at mu;exact mu
 have ntup:∀ c xs,H c=some (.tup xs)->c≠x:=fun c xs r z=>by subst z;rw[r]at mu;exact mu
 by_cases hb:b=x
 ·subst hb;rw[b8]at q;cases q;exact new
 ·rw[o6 hb]at q
  by_cases hbe:b=e
  ·have q':H b=some (.own x):=by
    rcases he with z | z
    ·exact absurd (hbe.trans z) hb
    ·rw[hbe];exact z
   rw[q]at q';cases q'
   obtain⟨v,hv⟩:=heo
   exact⟨v,by rw[hbe];exact hv⟩
  ·refine(ok b u q).stay (fun c v hc r=>k c v ?_ r) (fun c r=>by rw[o6 (nown c b r)];exact r) fun c xs r=>by rw[o6 (ntup c xs r)];exact r
   rcases hc with rfl | hc
   ·exact hbe
   ·rintro rfl
    rcases he with z | z
    ·exact nown c b hc z
    ·rw[hc]at z;cases z;exact hb rfl
end
structure Un (fs ex:List Addr) (H H':Hp) (h h':Heap):Prop where
 keep:∀ b o,h.get? b=some o->H b=none->b∉fs->b∉ex->h'.get? b=some o
 slot:∀ b o,h.get? b=some o->H b=none->b∈fs->b∉ex->∃ sl,h'.get? b=some { o with slots:=sl }
 free:∀ b o,h.get? b=some o->H b=none->b∉ex->H' b=none
 there:∀ b o,h.get? b=some o->b∉ex->∃ o',h'.get? b=some o'
 tups:∀ b xs,H b=some (.tup xs)->H' b=some (.tup xs)
 frzs:∀ b o u,H b=some (.frz o u)->H' b=some (.frz o u)
 tbls:∀ b ps,H b=some (.tbl ps)->∃ more,H' b=some (.tbl (ps++more))
section
variable {fs fs' ex ex':List Addr} {H H1 H2:Hp} {h1 h2:Heap} {x e:Addr} {o:HO}
theorem Un.any (u:Un fs ex H H1 h h1){b:Addr}{ob:Obj}(q:h.get? b=some ob)(n:H b=none)(hx:b∉ex):∃ sl,h1.get? b=some { ob with slots:=sl }:=by
 by_cases hb:b∈fs
 ·exact u.slot b ob q n hb hx
 ·exact⟨ob.slots,u.keep b ob q n hb hx⟩
theorem Un.kept (k:∀ b u,h.get? b=some u->h'.get? b=some u):Un fs ex H H h h':=
 ⟨fun b ob q _ _ _=>k b ob q,fun b ob q _ _ _=>⟨ob.slots,k b ob q⟩,fun _ _ _ n _=>n,fun b ob q _=>⟨ob,k b ob q⟩,fun _ _ q=>q,fun _ _ _ q=>q,fun _ ps q=>⟨#[],by rw[q];simp⟩⟩
theorem Un.refl:Un fs ex H H h h:=Un.kept fun _ _ q=>q
theorem Un.laid (k:∀ b u,h.get? b=some u->h'.get? b=some u)(hp:h.objs.size<=a)(hn:H a=none):Un fs ex H (upd H a o) h h' where
 keep:=fun b u q _ _ _=>k b u q
 slot:=fun b u q _ _ _=>⟨u.slots,k b u q⟩
 free:=fun b u q n _=>by rw[o6 (i9 (o4 (d4 q) hp))];exact n
 there:=fun b u q _=>⟨u,k b u q⟩
 tups:=fun b xs q=>by rw[o6 (u9 q hn)];exact q
 frzs:=fun b u xs q=>by rw[o6 (u9 q hn)];exact q
 tbls:=fun b ps q=>⟨#[],by rw[o6 (u9 q hn),q];simp⟩
theorem Un.write (mu:Mut (H x))(he:e=x\/H e=some (.own x))(k:∀ b u,b≠e->h.get? b=some u->h'.get? b=some u)(heo:∃ u,h'.get? e=some u):Un fs ex H (upd H x o) h h':=by
 have hx:∀ b,H b=none->b≠x:=fun b n z=>by subst z;rw[n]at mu;exact mu
 have hb:∀ b,H b=none->b≠e:=fun b n z=>by
  subst z
  rcases he with r | r
  ·exact hx b n r
  ·rw[n]at r;cases r
 have hm:∀ b u,H b=some u->¬ Mut (some u)->b≠x:=fun b u q nm z=>by subst z;rw[q]at mu;exact nm mu
 refine⟨fun b u q n _ _=>k b u (hb b n) q,fun b u q n _ _=>⟨u.slots,k b u (hb b n) q⟩,fun b u q n _=>by rw[o6 (hx b n)];exact n,fun b u q _=>?_,
  fun b xs q=>by rw[o6 (hm b _ q fun z=>z)];exact q,fun b u xs q=>by rw[o6 (hm b _ q fun z=>z)];exact q,fun b ps q=>⟨#[],by rw[o6 (hm b _ q fun z=>z),q];simp⟩⟩
 by_cases hbe:b=e
 ·subst hbe;exact heo
 ·exact⟨u,k b u hbe q⟩
end
def trk (h:Heap)(H:Hp):List Addr:=(n6 h.objs.size).filter fun a=>(H a).isSome
def ax9 (h:Heap)(H:Hp):Heap:=PySem.W.hideAll h (trk h H)
theorem aV6 (h:Heap)(H:Hp):(ax9 h H).objs.size=h.objs.size:=PySem.W.hideAll_size _ _
theorem be4 {H:Hp}{b:Addr}{o:Obj}(e:h.get? b=some o)(n:H b=none):(ax9 h H).get? b=some o:=
 PySem.W.hideAll_get _ e fun hm=>by
  have q:(H b).isSome=true:=(j5.mp hm).2
  rw[n]at q;simp at q
theorem bm3 {H:Hp}{b:Addr}{o:Obj}(e:(ax9 h H).get? b=some o):h.get? b=some o/\H b=none:=by
 have e':h.get? b=some o:=PySem.W.of_hideAll (trk h H) e
 refine⟨e',?_⟩
 cases q:H b with
 | none=>rfl
 | some x =>
  have hm:b∈trk h H:=j5.mpr ⟨k7.mpr (d4 e'),by simp[q]⟩
  have z:(ax9 h H).get? b=none:=PySem.W.hideAll_none (trk h H) hm
  rw[z]at e;cases e
def bo4 (g h:Heap)(L:Addr):List (Addr × Obj):=(n6 h.objs.size).filterMap fun a=>if a=L\/(g.get? a).isSome=true then none else (h.get? a).map fun o=>(a,o)
def rest (g h:Heap)(L d:Addr):List (Addr × Obj):=(bo4 g h L).filter fun p=>decide (p.1≠d)
end L2
variable {H H':L2.Hp}{gV:List L2.V->List L2.V->List L2.V}{kvs:List (List L2.Key × L2.V)}{xs ys:List L2.V}
namespace L2
open PySem PySem.Spec PyProof.Rows
structure Mod (K:W.Frag) (mg:Str->Option Value) (base:Heap):Prop where
 kin:K.In base
 glob:base.Ns i6 mg
 blt:∃ mb,base.Ns bh1 mb/\∀ x:Str,x≠"__name__"->mb x=ab0 x
 nolimit:base.NoLimit
structure Cx where
 prog:Program
 w:World
 K:W.Frag
 mg:Str->Option Value
 base:Heap
 A:Around
 N:List Str
 s₀:Shared
 H₀:Hp
 env:Env
 outer:List Env
 stack:List Env
 ex:List Addr
 fn:Str->Bool
 calm:Bool
 pn:List (Addr × Obj)
 xe:Value->Shared->Prop
def frs (l:List Env):List Addr:=l.filterMap (·.frame)
abbrev Cx.fs (X:Cx):List Addr:=frs X.outer
def Vis (sc:Scope)(x:Str):Prop:=sc.names.lookup x=some .local\/sc.names.lookup x=some .cell\/sc.names.lookup x=some .free
def Loc (sc:Scope)(x:Str):Prop:=sc.names.lookup x=some .local\/sc.names.lookup x=some .cell
def Look (env:Env)(h:Heap)(m:Str->Option Value)(x:Str)(u:Value):Prop:=
 (env.kindOf x=some .local/\m x=some u)\/((env.kindOf x=some .cell\/env.kindOf x=some .free)/\∃ c,env.cells.lookup x=some c/\h.IsCell c (some u))
structure Cx.Ok (X:Cx):Prop where
 mod:Mod X.K X.mg X.base
 kind:X.env.scope.kind=.function
 glob:X.env.globals=i6
 blt:X.env.builtins=bh1
 above:X.s₀.heap.objs.size<=X.env.locals
 inj:∀ x y c,X.env.cells.lookup x=some c->X.env.cells.lookup y=some c->x=y
 has:∀ x,(X.env.kindOf x=some .cell\/X.env.kindOf x=some .free)->∃ c,X.env.cells.lookup x=some c
 cab:∀ x c,X.fn x=true->X.env.cells.lookup x=some c->X.s₀.heap.objs.size<=c
 hd:X.calm=true->X.A.handled=none
 frames:X.A.frames=some X.stack
 stk:X.stack=X.outer\/(X.stack=X.env::X.outer/\X.env.frame=some X.env.locals)
 exf:∀ b∈X.ex,b≠X.env.locals/\∀ x c,X.env.cells.lookup x=some c->c≠b
 bs:∀ b o,X.base.get? b=some o->X.s₀.heap.get? b=some o/\X.H₀ b=none
 bsz:X.base.objs.size<=X.s₀.heap.objs.size
 noex:∀ b o,X.base.get? b=some o->b∉X.ex
 exfs:∀ b∈X.ex,b∉X.fs
 funs:X.s₀.heap.FunFrames X.base X.outer
 frf:∀ b∈X.fs,X.H₀ b=none
structure Inv (X:Cx) (pins:List (Addr × Obj)) (σ:List (Option V)) (H:Hp) (s:Shared):Prop where
 ok:X.Ok
 os:s.os=X.s₀.os
 bare:aj9 s.gens
 base:Un X.fs X.ex X.H₀ H X.s₀.heap s.heap
 loc:∃ m,s.heap.Ns X.env.locals m/\∀ (i:Nat) (x:Str) (v:V),X.N[i]?=some x->σ[i]?=some (some v)->Vis X.env.scope x->∃ u,RelV v u/\Look X.env s.heap m x u
 cell:∀ x c,X.env.cells.lookup x=some c->∃ v,s.heap.IsCell c v
 free:H X.env.locals=none
 freeC:∀ x c,X.env.cells.lookup x=some c->H c=none
 pin:∀ p∈X.pn++pins,s.heap.get? p.1=some p.2/\H p.1=none/\p.1≠X.env.locals/\p.1∉X.fs/\∀ v,p.2.data≠.cell v
 hok:HOk X.prog X.w H s.heap
 len:σ.length=X.N.length
section
variable {X:Cx} {σ:List (Option V)}
theorem Cx.Ok.nofr (ok:X.Ok){b:Addr}{o:Obj}(e:X.base.get? b=some o):b∉X.fs:=fun hb=>by
 have:=(ok.funs.mem hb).1
 rw[e]at this;cases this
theorem Inv.bs (I:Inv X pins σ H s):∀ b o,X.base.get? b=some o->s.heap.get? b=some o/\H b=none:=fun b o e =>
 ⟨I.base.keep b o (I.ok.bs b o e).1 (I.ok.bs b o e).2 (I.ok.nofr e) (I.ok.noex b o e),I.base.free b o (I.ok.bs b o e).1 (I.ok.bs b o e).2 (I.ok.noex b o e)⟩
theorem Inv.bk (I:Inv X pins σ H s):∀ b o,X.base.get? b=some o->s.heap.get? b=some o:=fun b o e=>(I.bs b o e).1
theorem Inv.mod (I:Inv X pins σ H s):Mod X.K X.mg X.base:=I.ok.mod
theorem Inv.kIn (I:Inv X pins σ H s):X.K.In s.heap:=I.ok.mod.kin.keeps I.bk
theorem Inv.lt (I:Inv X pins σ H s):X.env.locals<s.heap.objs.size:=let ⟨_,hn,_⟩:=I.loc;hn.lt
theorem Inv.sz (I:Inv X pins σ H s):X.s₀.heap.objs.size<=s.heap.objs.size:=o5 I.ok.above (az2 I.lt)
theorem Inv.nofs (I:Inv X pins σ H s)(h:s.heap.objs.size<=a):a∉X.fs:=fun hb=>by
 obtain⟨_,o,ho,_⟩:=I.ok.funs.mem hb
 exact absurd (o4 (d4 ho) (o5 I.sz h)) (x6 _)
theorem Inv.cne (I:Inv X pins σ H s):∀ x c,X.env.cells.lookup x=some c->c≠X.env.locals:=fun x c e z=>by
 obtain⟨v,o,ho,hd⟩:=I.cell x c e
 obtain⟨m,⟨o',es,ep,ho',hd',_⟩,_⟩:=I.loc
 rw[z,ho']at ho;cases ho;rw[hd']at hd;cases hd
theorem Inv.funs (I:Inv X pins σ H s):s.heap.FunFrames X.base X.outer:=by
 have all:∀ (l:List Env),(∀ b∈frs l,b∈X.fs)->X.s₀.heap.FunFrames X.base l->s.heap.FunFrames X.base l:=by
  intro l
  induction l with
  | nil=>intro _ _;trivial
  | cons env r ih =>
   intro hs hl
   obtain⟨hk,⟨L,o,hf,hn,ho,hd⟩,hr⟩:=hl
   have hL:L∈X.fs:=hs L (by unfold frs;rw[X1,hf];exact b4)
   obtain⟨sl,e⟩:=I.base.slot L o ho (I.ok.frf L hL) hL fun z=>I.ok.exfs L z hL
   exact⟨hk,⟨L,_,hf,hn,e,hd⟩,ih (fun b hb=>hs b (by unfold frs;rw[X1,hf];exact b9 _ hb)) hr⟩
 exact all X.outer (fun _ hb=>hb) I.ok.funs
theorem Inv.stack (I:Inv X pins σ H s):s.heap.FunFrames X.base X.stack:=by
 rcases I.ok.stk with e | ⟨e,hf⟩
 ·rw[e];exact I.funs
 ·rw[e]
  obtain⟨m,hn,_⟩:=I.loc
  refine .cons (by rw[I.ok.kind];decide) hf hn ?_ I.funs
  exact ai7 (o5 I.ok.bsz I.ok.above)
theorem Inv.stkSub (I:Inv X pins σ H s):∀ b∈frs X.stack,b∈X.env.locals::X.fs:=fun b hb=>by
 rcases I.ok.stk with e | ⟨e,hf⟩
 ·rw[e]at hb;exact b9 _ hb
 ·rw[e]at hb
  unfold frs at hb
  rw[X1,hf]at hb
  exact hb
theorem Inv.stkFree (I:Inv X pins σ H s):∀ b∈frs X.stack,H b=none:=fun b hb=>by
 rcases b7.mp (I.stkSub b hb) with e | hb
 ·rw[e];exact I.free
 ·obtain⟨_,o,ho,_⟩:=I.ok.funs.mem hb
  exact I.base.free b o ho (I.ok.frf b hb) fun z=>I.ok.exfs b z hb
theorem Inv.step {g':Array GenState}{t':Nat}{d':Drawn}{ch:List Addr}(I:Inv X pins σ H s)
  (hch:∀ b∈ch,(b∈X.ex\/X.s₀.heap.objs.size<=b)/\b≠X.env.locals/\(∀ x c,X.env.cells.lookup x=some c->c≠b)/\∀ p∈X.pn++pins,p.1≠b)
  (keep:∀ b o,b≠X.env.locals->b∉X.fs->b∉ch->s.heap.get? b=some o->H b=none->h'.get? b=some o)
  (slot:∀ b o,b≠X.env.locals->b∈X.fs->b∉ch->s.heap.get? b=some o->H b=none->∃ sl,h'.get? b=some { o with slots:=sl })(free:∀ b o,b∉ch->s.heap.get? b=some o->H b=none->H' b=none)
  (there:∀ b o,b∉ch->s.heap.get? b=some o->∃ o',h'.get? b=some o')
  (tups:∀ b xs,H b=some (.tup xs)->H' b=some (.tup xs))(frzs:∀ b o u,H b=some (.frz o u)->H' b=some (.frz o u))(tbls:∀ b ps,H b=some (.tbl ps)->∃ more,H' b=some (.tbl (ps++more)))
  (ns:∀ m,s.heap.Ns X.env.locals m->h'.Ns X.env.locals m)(hok:HOk X.prog X.w H' h')(hg:aj9 g') :
  Inv X pins σ H' { s with heap:=h',gens:=g',drawn:=d',toks:=t' }:=by
 have neL:∀ b o,X.s₀.heap.get? b=some o->b≠X.env.locals:=fun b o e=>i9 (o4 (d4 e) I.ok.above)
 have neC:∀ b o,X.s₀.heap.get? b=some o->b∉X.ex->b∉ch:=fun b o e hx hb=>by
  rcases(hch b hb).1 with z | z
  ·exact hx z
  ·exact absurd (o4 (d4 e) z) (x6 _)
 have cellK:∀ x c,X.env.cells.lookup x=some c->∀ v,s.heap.IsCell c v->h'.IsCell c v:=fun x c e v ⟨o,ho,hd⟩=>by
  have nch:c∉ch:=fun z=>(hch c z).2.2.1 x c e rfl
  by_cases hc:c∈X.fs
  ·obtain⟨sl,q⟩:=slot c o (I.cne x c e) hc nch ho (I.freeC x c e)
   exact⟨_,q,hd⟩
  ·exact⟨o,keep c o (I.cne x c e) hc nch ho (I.freeC x c e),hd⟩
 refine⟨I.ok,I.os,hg,⟨fun b o e n hb hx=>?_,fun b o e n hb hx=>?_,fun b o e n hx=>?_,fun b o e hx=>?_,fun b xs e=>tups b xs (I.base.tups b xs e),fun b o xs e=>frzs b o xs (I.base.frzs b o xs e),fun b ps e=>?_⟩,?_,fun x c e=>?_,?_,fun x c e=>?_,fun p hp=>?_,hok,I.len⟩
 ·exact keep b o (neL b o e) hb (neC b o e hx) (I.base.keep b o e n hb hx) (I.base.free b o e n hx)
 ·obtain⟨sl,e1⟩:=I.base.slot b o e n hb hx
  obtain⟨sl',e2⟩:=slot b _ (neL b o e) hb (neC b o e hx) e1 (I.base.free b o e n hx)
  exact⟨sl',e2⟩
 ·obtain⟨o',e1⟩:=I.base.there b o e hx
  exact free b o' (neC b o e hx) e1 (I.base.free b o e n hx)
 ·obtain⟨o',e1⟩:=I.base.there b o e hx
  exact there b o' (neC b o e hx) e1
 ·obtain⟨m1,e1⟩:=I.base.tbls b ps e
  obtain⟨m2,e2⟩:=tbls b _ e1
  exact⟨m1++m2,by rw[e2,Array.append_assoc]⟩
 ·obtain⟨m,hn,hl⟩:=I.loc
  refine⟨m,ns m hn,fun i x v e1 e2 e3=>?_⟩
  obtain⟨u,r,l⟩:=hl i x v e1 e2 e3
  refine⟨u,r,?_⟩
  rcases l with l | ⟨k,c,e,z⟩
  ·exact .inl l
  ·exact .inr ⟨k,c,e,cellK x c e _ z⟩
 ·obtain⟨v,z⟩:=I.cell x c e
  exact⟨v,cellK x c e v z⟩
 ·obtain⟨m,⟨o,_,_,ho,_⟩,_⟩:=I.loc
  exact free _ o (fun z=>(hch _ z).2.1 rfl) ho I.free
 ·obtain⟨v,o,ho,hd⟩:=I.cell x c e
  exact free c o (fun z=>(hch c z).2.2.1 x c e rfl) ho (I.freeC x c e)
 ·obtain⟨e,n,ne,nf,d⟩:=I.pin p hp
  have nch:p.1∉ch:=fun z=>(hch p.1 z).2.2.2 p hp rfl
  exact⟨keep p.1 p.2 ne nf nch e n,free p.1 p.2 nch e n,ne,nf,d⟩
theorem Inv.un {t':Nat}(I:Inv X pins σ H s)(u:Un X.fs [] H H' s.heap h')(hok:HOk X.prog X.w H' h'):Inv X pins σ H' { s with heap:=h',toks:=t' }:=by
 obtain⟨m,⟨o,es,ep,ho,r⟩,_⟩:=id I.loc
 obtain⟨sl,hL⟩:=u.any ho I.free (by simp)
 exact I.step (g':=s.gens) (d':=s.drawn) (ch:=[]) (fun _ z=>nomatch z) (fun b o _ hb _ e n=>u.keep b o e n hb (by simp)) (fun b o _ hb _ e n=>u.slot b o e n hb (by simp)) (fun b o _ e n=>u.free b o e n (by simp)) (fun b o _ e=>u.there b o e (by simp)) u.tups u.frzs u.tbls (fun m' hm=>by
  obtain⟨o',es',ep',ho',r'⟩:=hm
  rw[ho]at ho';cases ho'
  exact⟨_,es',ep',hL,r'⟩) hok I.bare
theorem Inv.call {g':Array GenState}{t':Nat}{d':Drawn}{ch:List Addr}(I:Inv X pins σ H s)(u:Un (frs X.stack) ch H H' s.heap h')(hok:HOk X.prog X.w H' h')(hg:aj9 g')
  (hch:∀ b∈ch,(b∈X.ex\/X.s₀.heap.objs.size<=b)/\b≠X.env.locals/\(∀ x c,X.env.cells.lookup x=some c->c≠b)/\∀ p∈X.pn++pins,p.1≠b) :
  Inv X pins σ H' { s with heap:=h',gens:=g',drawn:=d',toks:=t' }:=by
 obtain⟨m,⟨o,es,ep,ho,r⟩,_⟩:=id I.loc
 obtain⟨sl,hL⟩:=u.any ho I.free fun z=>(hch _ z).2.1 rfl
 exact I.step (ch:=ch) hch (fun b o hL hb hc e n=>u.keep b o e n (fun z=>(b7.mp (I.stkSub b z)).elim hL hb) hc) (fun b o _ _ hc e n=>u.any e n hc) (fun b o hc e n=>u.free b o e n hc) (fun b o hc e=>u.there b o e hc) u.tups u.frzs u.tbls (fun m' hm=>by
  obtain⟨o',es',ep',ho',r'⟩:=hm
  rw[ho]at ho';cases ho'
  exact⟨_,es',ep',hL,r'⟩) hok hg
theorem Inv.turned {t':Nat}{it:Addr}(I:Inv X pins σ H s)(k:∀ b o,b≠it->s.heap.get? b=some o->h'.get? b=some o)(hn:H it=none)(hL:it≠X.env.locals)
  (h1:it∈X.ex\/X.s₀.heap.objs.size<=it)(h2:∀ x c,X.env.cells.lookup x=some c->c≠it)(h3:∀ p∈X.pn++pins,p.1≠it):Inv X pins σ H { s with heap:=h',toks:=t' }:=by
 have nit:∀ b u,H b=some u->b≠it:=fun b u e z=>by rw[z,hn]at e;cases e
 refine I.step (g':=s.gens) (d':=s.drawn) (ch:=[it]) (fun b hb=>?_) (fun b o _ _ hc e _=>k b o (fun z=>hc (by simp[z])) e) (fun b o _ _ hc e _=>⟨o.slots,k b o (fun z=>hc (by simp[z])) e⟩) (fun _ _ _ _ n=>n)
  (fun b o hc e=>⟨o,k b o (fun z=>hc (by simp[z])) e⟩) (fun _ _ e=>e) (fun _ _ _ e=>e) (fun b ps e=>⟨#[],by rw[e];simp⟩) (fun m hm=>?_) (fun b u e=>?_) I.bare
 ·have e:b=it:=by simpa using hb
  subst e
  exact⟨h1,hL,h2,h3⟩
 ·obtain⟨o,es,ep,ho,r⟩:=hm
  exact⟨o,es,ep,k _ o (Ne.symm hL) ho,r⟩
 ·refine(I.hok b u e).stay (fun c v hc q=>k c v ?_ q) (fun _ q=>q) fun _ _ q=>q
  rcases hc with z | z
  ·rw[z];exact nit b u e
  ·exact nit c _ z
theorem Inv.tok (I:Inv X pins σ H s)(t:Nat):Inv X pins σ H { s with toks:=t }:=I.un (h':=s.heap) (t':=t) Un.refl I.hok
theorem Inv.kept {t':Nat}(I:Inv X pins σ H s)(k:∀ b u,s.heap.get? b=some u->h'.get? b=some u):Inv X pins σ H { s with heap:=h',toks:=t' }:=I.un (Un.kept k) (I.hok.kept k)
theorem Inv.laid {o:HO}{t':Nat}(I:Inv X pins σ H s)(k:∀ b u,s.heap.get? b=some u->h'.get? b=some u)(hp:s.heap.objs.size<=a)(new:D1 X.prog X.w (upd H a o) h' a o) :
  Inv X pins σ (upd H a o) { s with heap:=h',toks:=t' }:=I.un (Un.laid k hp (I.hok.fresh hp)) (I.hok.laid k hp new)
theorem Inv.write {x e:Addr}{o:HO}{t':Nat}(I:Inv X pins σ H s)(mu:Mut (H x))(he:e=x\/H e=some (.own x))(k:∀ b u,b≠e->s.heap.get? b=some u->h'.get? b=some u)(heo:∃ u,h'.get? e=some u)
  (new:D1 X.prog X.w (upd H x o) h' x o):Inv X pins σ (upd H x o) { s with heap:=h',toks:=t' }:=I.un (Un.write mu he k heo) (I.hok.write mu he k heo new)
theorem Inv.pins_of {pins':List (Addr × Obj)}(I:Inv X pins σ H s)(h:∀ p∈pins',s.heap.get? p.1=some p.2/\H p.1=none/\p.1≠X.env.locals/\p.1∉X.fs/\∀ v,p.2.data≠.cell v):Inv X pins' σ H s:=
 ⟨I.ok,I.os,I.bare,I.base,I.loc,I.cell,I.free,I.freeC,fun p hp=>(j0.mp hp).elim (fun z=>I.pin p (m6 _ z)) (h p),I.hok,I.len⟩
theorem aD8 (hN:N.Nodup)(a:N[i]?=some x)(b:N[j]?=some x):i=j:=by
 obtain⟨h1,e1⟩:=a9.mp a
 obtain⟨h2,e2⟩:=a9.mp b
 exact(List.getElem_inj hN).mp (e1.trans e2.symm)
theorem as8 {v:V}{Q:Unit->Shared->Prop}(I:Inv X pins σ H s)(hN:X.N.Nodup)(hi:X.N[i]?=some x)(hx:Loc X.env.scope x)(r:RelV v u)
  (h:∀ s',Inv X pins (σ.set i (some v)) H s'->(∃ a,Heap.SameBut a s.heap s'.heap/\(a=X.env.locals\/X.env.cells.lookup x=some a))->Q () s')(hf:X.fn x=true\/X.env.scope.names.lookup x=some .local:=by first | exact .inl rfl | exact .inr rfl | assumption):m5 M A (storeName X.env x u) Q E s:=by
 obtain⟨m,hn,hl⟩:=id I.loc
 have hcls:(X.env.scope.kind == .class || (X.env.scope.kind == .module && X.env.locals != X.env.globals))=false:=by rw[I.ok.kind];rfl
 have hiσ:i<σ.length:=by rw[I.len];exact(a9.mp hi).1
 have cne:=I.cne
 have tracked:∀ {a:Addr} {h':Heap},(∃ o,s.heap.get? a=some o/\H a=none)->Heap.SameBut a s.heap h'->HOk X.prog X.w H h':=fun {a h'} ha hs b ob e=>by
  obtain⟨_,_,hfree⟩:=ha
  refine(I.hok b ob e).stay (fun c w' hc q=>(hs.2 c ?_).trans q) (fun _ q=>q) fun _ _ q=>q
  rintro rfl
  rcases hc with rfl | hc
  ·rw[hfree]at e;cases e
  ·rw[hfree]at hc;cases hc
 rcases hx with hk | hk
 ·refine wpAny_storeName_local hk hn (fun h' hn' hs=>?_) hcls
  obtain⟨oL,_,_,hoL,_⟩:=id hn
  refine h _ ⟨I.ok,I.os,I.bare,⟨fun b o e n hb hx=>?_,fun b o e n hb hx=>?_,I.base.free,fun b o e hx=>?_,I.base.tups,I.base.frzs,I.base.tbls⟩,⟨_,hn',fun j y v' e1 e2 e3=>?_⟩,fun y c e=>?_,I.free,I.freeC,fun p hp=>?_,tracked ⟨oL,hoL,I.free⟩ hs,by simpa using I.len⟩ ⟨_,hs,.inl rfl⟩
  ·exact(hs.2 b (i9 (o4 (d4 e) I.ok.above))).trans (I.base.keep b o e n hb hx)
  ·obtain⟨sl,e1⟩:=I.base.slot b o e n hb hx
   exact⟨sl,(hs.2 b (i9 (o4 (d4 e) I.ok.above))).trans e1⟩
  ·obtain⟨o',e1⟩:=I.base.there b o e hx
   exact⟨o',(hs.2 b (i9 (o4 (d4 e) I.ok.above))).trans e1⟩
  ·by_cases hj:j=i
   ·subst hj
    rw[hi]at e1;cases e1
    rw[aX0 hiσ]at e2
    cases e2
    exact⟨u,r,.inl ⟨hk,by simp⟩⟩
   ·rw[ai8 (Ne.symm hj)]at e2
    obtain⟨u',r',q⟩:=hl j y v' e1 e2 e3
    refine⟨u',r',?_⟩
    rcases q with⟨k,e⟩ | ⟨k,c,e,z⟩
    ·refine .inl ⟨k,?_⟩
     have:y≠x:=fun e=>hj (aD8 hN e1 (e ▸ hi))
     simp[this,e]
    ·exact .inr ⟨k,c,e,z.sameBut hs (cne y c e)⟩
  ·obtain⟨w',z⟩:=I.cell y c e
   exact⟨w',z.sameBut hs (cne y c e)⟩
  ·obtain⟨e,n,ne,nf,d⟩:=I.pin p hp
   exact⟨(hs.2 p.1 ne).trans e,n,ne,nf,d⟩
 ·have hfn:X.fn x=true:=by
   rcases hf with z | z
   ·exact z
   ·rw[z]at hk;cases hk
  obtain⟨c,hc⟩:=I.ok.has x (.inl hk)
  obtain⟨w',z⟩:=I.cell x c hc
  refine wpAny_storeName_cell I.ok.kind hk hc z (fun h' hc' hs=>?_)
  obtain⟨oc,hoc,hocd⟩:=id z
  refine h { s with heap:=h' } ⟨I.ok,I.os,I.bare,⟨fun b o e n hb hx=>?_,fun b o e n hb hx=>?_,I.base.free,fun b o e hx=>?_,I.base.tups,I.base.frzs,I.base.tbls⟩,⟨m,hn.sameBut hs (Ne.symm (cne x c hc)),fun j y v' e1 e2 e3=>?_⟩,fun y c' e=>?_,I.free,I.freeC,fun p hp=>?_,tracked ⟨oc,hoc,I.freeC x c hc⟩ hs,by simpa using I.len⟩ ⟨c,hs,.inr hc⟩
  ·exact(hs.2 b (i9 (o4 (d4 e) (I.ok.cab x c hfn hc)))).trans (I.base.keep b o e n hb hx)
  ·obtain⟨sl,e1⟩:=I.base.slot b o e n hb hx
   exact⟨sl,(hs.2 b (i9 (o4 (d4 e) (I.ok.cab x c hfn hc)))).trans e1⟩
  ·obtain⟨o',e1⟩:=I.base.there b o e hx
   exact⟨o',(hs.2 b (i9 (o4 (d4 e) (I.ok.cab x c hfn hc)))).trans e1⟩
  ·by_cases hj:j=i
   ·subst hj
    rw[hi]at e1;cases e1
    rw[aX0 hiσ]at e2
    cases e2
    exact⟨u,r,.inr ⟨.inl hk,c,hc,hc'⟩⟩
   ·rw[ai8 (Ne.symm hj)]at e2
    obtain⟨u',r',q⟩:=hl j y v' e1 e2 e3
    refine⟨u',r',?_⟩
    rcases q with q | ⟨k,c',e,z'⟩
    ·exact .inl q
    ·refine .inr ⟨k,c',e,z'.sameBut hs ?_⟩
     rintro rfl
     exact hj (aD8 hN e1 (I.ok.inj _ _ _ e hc ▸ hi))
  ·by_cases hcc:c'=c
   ·subst hcc;exact⟨_,hc'⟩
   ·obtain⟨w2,z2⟩:=I.cell y c' e
    exact⟨w2,z2.sameBut hs hcc⟩
  ·obtain⟨e,n,ne,nf,d⟩:=I.pin p hp
   refine⟨(hs.2 p.1 ?_).trans e,n,ne,nf,d⟩
   intro q
   rw[q,hoc]at e
   have q':oc=p.2:=Option.some.inj e
   exact d w' (by rw[<- q'];exact hocd)
theorem ao3 {v:V}{Q:Unit->Shared->Prop}(I:Inv X pins σ H s)(hN:X.N.Nodup)(hi:X.N[i]?=some x)(hx:Loc X.env.scope x)(r:RelV v u)
  (h:∀ s',Inv X pins (σ.set i (some v)) H s'->Q () s')(hf:X.fn x=true\/X.env.scope.names.lookup x=some .local:=by first | exact .inl rfl | exact .inr rfl | assumption):m5 M A (storeName X.env x u) Q E s:=
 as8 I hN hi hx r (fun s' I' _=>h s' I') hf
theorem Inv.call' {s':Shared}{ch:List Addr}(I:Inv X pins σ H s)(ho:s'.os=s.os)(u:Un (frs X.stack) ch H H' s.heap s'.heap)(hok:HOk X.prog X.w H' s'.heap)(hg:aj9 s'.gens)
  (hch:∀ b∈ch,(b∈X.ex\/X.s₀.heap.objs.size<=b)/\b≠X.env.locals/\(∀ x c,X.env.cells.lookup x=some c->c≠b)/\∀ p∈X.pn++pins,p.1≠b):Inv X pins σ H' s':=by
 obtain⟨h',g',d',t',o'⟩:=s'
 have e:o'=s.os:=ho
 subst e
 exact I.call (g':=g') (t':=t') (d':=d') u hok hg hch
end
abbrev XK:=Value->Option Addr->Hp->Prop
abbrev St:=List (Option V)
abbrev VK:=V->Hp->Prop
abbrev TE:=St->Hp->VK->Prop
abbrev TT:=St->Hp->(Bool->Hp->Prop)->Prop
abbrev TA:=St->Hp->(List V->Hp->Prop)->Prop
structure Ends where
 nx:St->Hp->Prop
 rt:VK
 bk:St->Hp->Prop:=fun _ _=>False
 ct:St->Hp->Prop:=fun _ _=>False
abbrev TS:=Ends->St->Hp->Prop
def EP (X:Cx)(pins:List (Addr × Obj))(σ:St)(Q:VK)(u:Value)(s':Shared):Prop:=∃ v H',Inv X pins σ H' s'/\RelV v u/\Q v H'
def TP (X:Cx)(pins:List (Addr × Obj))(σ:St)(Q:Bool->Hp->Prop)(b:Bool)(s':Shared):Prop:=∃ H',Inv X pins σ H' s'/\Q b H'
def AP (X:Cx)(pins:List (Addr × Obj))(σ:St)(Q:List V->Hp->Prop)(us:List Value)(s':Shared):Prop:=∃ vs H',Inv X pins σ H' s'/\x9 vs us/\Q vs H'
def SP (X:Cx)(pins:List (Addr × Obj))(D:Ends)(f:Flow)(s':Shared):Prop:=
 match f with
 | .next=>∃ σ' H',Inv X pins σ' H' s'/\D.nx σ' H'
 | .brk=>∃ σ' H',Inv X pins σ' H' s'/\D.bk σ' H'
 | .cont=>∃ σ' H',Inv X pins σ' H' s'/\D.ct σ' H'
 | .ret u=>∃ v σ' H',Inv X pins σ' H' s'/\RelV v u/\D.rt v H'
def PE (X:Cx)(e:Expr)(t:TE):Prop:=
 ∀ (pins:List (Addr × Obj)) (s:Shared) (σ:St) (H:Hp) (Q:VK),Inv X pins σ H s->t σ H Q->m5 (m7 X.prog X.w) X.A (eval e X.env) (EP X pins σ Q) X.xe s
def PT (X:Cx)(e:Expr)(t:TT):Prop:=
 ∀ (pins:List (Addr × Obj)) (s:Shared) (σ:St) (H:Hp) (Q:Bool->Hp->Prop),Inv X pins σ H s->t σ H Q->m5 (m7 X.prog X.w) X.A (isTrue e X.env (eval e X.env)) (TP X pins σ Q) X.xe s
def PW (X:Cx)(e:Expr)(t:TT):Prop:=
 ∀ (whole:Sem Value) (pins:List (Addr × Obj)) (s:Shared) (σ:St) (H:Hp) (Q:Bool->Hp->Prop),Inv X pins σ H s->t σ H Q->m5 (m7 X.prog X.w) X.A (isTrue e X.env whole) (TP X pins σ Q) X.xe s
theorem PW.pt {X:Cx}{t:TT}(h:PW X e t):PT X e t:=h _
def PA (X:Cx)(es:List Expr)(t:TA):Prop:=
 ∀ (pos:Pos) (pins:List (Addr × Obj)) (s:Shared) (σ:St) (H:Hp) (Q:List V->Hp->Prop),Inv X pins σ H s->t σ H Q->m5 (m7 X.prog X.w) X.A (spliced (ak0 pos (B7 es X.env))) (AP X pins σ Q) X.xe s
def PS (X:Cx)(st:Stmt)(t:TS):Prop:=
 ∀ (pins:List (Addr × Obj)) (s:Shared) (σ:St) (H:Hp) (D:Ends),Inv X pins σ H s->t D σ H->m5 (m7 X.prog X.w) X.A (exec st X.env) (SP X pins D) X.xe s
def PSs (X:Cx)(st:List Stmt)(t:TS):Prop:=
 ∀ (pins:List (Addr × Obj)) (s:Shared) (σ:St) (H:Hp) (D:Ends),Inv X pins σ H s->t D σ H->m5 (m7 X.prog X.w) X.A (execs st X.env) (SP X pins D) X.xe s
theorem thn {α:Type}{t:Sem α}{Q Q':α->Shared->Prop}(h:m5 M A t Q E s)(hQ:∀ a s,Q a s->Q' a s):m5 M A t Q' E s:=C4 h hQ fun _ _ x=>x
end L2
variable {X:L2.Cx}{r:L2.V->List L2.V->L2.Hp->L2.VK->Prop}{ta te:L2.TE}{σ:L2.St}
namespace L2
open PySem PySem.Spec PyProof.Rows
section
def bC7 (i:Nat):TE:=fun σ H Q=>∃ v,σ[i]?=some (some v)/\Q v H
def tC (v:V):TE:=fun _ H Q=>Q v H
theorem bu9 (hN:X.N[i]?=some x)(hv:Vis X.env.scope x)(hd:(x == ("__debug__":Str))=false:=by decide)(hcd:(x == ("__classdict__":Str))=false:=by decide):PE X (.Name x pos) (bC7 i):=by
 intro pins s σ H Q I h
 obtain⟨v,e,h⟩:=h
 obtain⟨m,hn,hl⟩:=I.loc
 obtain⟨u,r,l⟩:=hl i x v hN e hv
 have fin:EP X pins σ Q u s:=⟨v,H,I,r,h⟩
 rcases l with⟨hk,hm⟩ | ⟨hk,c,hc,hcell⟩
 ·exact wpAny_Name (bA6 I.ok.kind hk hn hm fin) hd
 ·rcases hk with hk | hk
  ·exact wpAny_Name (bB9 I.ok.kind hk hc hcell fin) hd
  ·exact wpAny_Name (wpAny_loadName_free I.ok.kind hk hc hcell fin hcd) hd
theorem k8 {i j pos}:PE X (.Constant (.int i) j pos) (tC (.int i)):=fun _ _ _ H _ I h=>wpAny_Constant_int ⟨.int i,H,I.tok _,⟨_,rfl⟩,h⟩
theorem at1 {b j pos}:PE X (.Constant (.bool b) j pos) (tC (.bl b)):=fun _ _ _ H _ I h=>Constant_bool ⟨.bl b,H,I,rfl,h⟩
def Gl (X:Cx)(x:Str):Prop:=X.env.kindOf x=some .globalImplicit
theorem ax5 (I:Inv X pins σ H s)(hg:Gl X x)(hm:X.mg x=some u)(h:Q u s)
  (hd:(x == ("__debug__":Str))=false:=by decide):m5 (m7 X.prog X.w) X.A (eval (.Name x pos) X.env) Q E s :=
 Calls.Name_function_global I.ok.kind hg (Calls.loadGlobal_global (by rw[I.ok.glob];exact I.mod.glob.keeps I.bk) hm h) hd
theorem aK6 (I:Inv X pins σ H s)(hg:Gl X x)(hm:X.mg x=none)(hv:ab0 x=some u)(h:Q u s)
  (hn:x≠"__name__":=by decide)(hd:(x == ("__debug__":Str))=false:=by decide):m5 (m7 X.prog X.w) X.A (eval (.Name x pos) X.env) Q E s:=by
 obtain⟨mb,h1,h2⟩:=I.mod.blt
 exact Calls.Name_function_global I.ok.kind hg (Calls.loadGlobal_builtin (by rw[I.ok.glob];exact I.mod.glob.keeps I.bk) hm (by rw[I.ok.blt];exact h1.keeps I.bk) ((h2 x hn).trans hv) h) hd
theorem aP0 {v:V}(hg:Gl X x)(hm:X.mg x=some u)(r:RelV v u)(hd:(x == ("__debug__":Str))=false:=by decide):PE X (.Name x pos) (tC v) :=
 fun _ _ _ H _ I h=>ax5 I hg hm ⟨v,H,I,r,h⟩ hd
variable {a b:Expr} {tb:TE}
def PC (X:Cx)(op:CmpOp)(a b:Expr)(t:TE):Prop:=
 ∀ (pins:List (Addr × Obj)) (s:Shared) (σ:St) (H:Hp) (Q:VK),Inv X pins σ H s->t σ H Q ->
  m5 (m7 X.prog X.w) X.A (eval a X.env) (fun v s₁=>m5 (m7 X.prog X.w) X.A (eval b X.env) (fun u s₂=>m5 (m7 X.prog X.w) X.A (C1 op v u) (EP X pins σ Q) X.xe s₂) X.xe s₁) X.xe s
def tB (t:TE):TT:=fun σ H Q=>t σ H fun x H1=>∃ c,x=.bl c/\Q c H1
theorem bu8 {op:CmpOp}{t:TE}(h:PC X op a b t)(h1:ae1 op b=false:=by first | exact nobehind _ (by decide) (by decide) | rfl):PT X (.Compare a [op] [b] pos) (tB t):=by
 intro pins s σ H Q I hw
 refine br6 (thn (h pins s σ H _ I hw) fun v s1 h1=>thn h1 fun u s2 h2=>thn h2 fun c s3 ⟨x,H1,I1,r1,q1⟩=>?_) h1
 obtain⟨d,rfl,q⟩:=q1
 cases r1
 exact B4 ⟨H1,I1,q⟩
theorem aa1 {t:TE}(h:PE X e t)(he:∀ whole,isTrue e X.env whole=(do let v <- whole;standAt e.pos;bi5 [v] (truthy v)):=by intro _;rfl):PT X e (tB t):=by
 intro pins s σ H Q I hw
 refine isTrue_plain (thn (h pins s σ H _ I hw) fun v s1 ⟨x,H1,I1,r1,q1⟩=>?_) (he _)
 obtain⟨d,rfl,q⟩:=q1
 cases r1
 exact B4 ⟨H1,I1,q⟩
variable {tA tB':TT} {rest:List Expr}
def bI2 (t u:TT):TT:=fun σ H Q=>t σ H fun c H1=>if c=true then u σ H1 Q else Q false H1
def tOr (t u:TT):TT:=fun σ H Q=>t σ H fun c H1=>if c=true then Q true H1 else u σ H1 Q
def bH5 (t:TT):TT:=fun σ H Q=>t σ H fun c H1=>Q (!c) H1
theorem aw2 (ha:PT X a tA):PW X (.BoolOp .And [a] pos) tA:=by
 intro wh pins s σ H Q I h
 refine isTrue_and (thn (ha pins s σ H Q I h) fun c s1 e=>?_)
 cases c with
 | true=>exact isTrue_and_nil e
 | false=>exact e
theorem aJ6 (ha:PT X a tA):PW X (.BoolOp .Or [a] pos) tA:=by
 intro wh pins s σ H Q I h
 refine isTrue_or (thn (ha pins s σ H Q I h) fun c s1 e=>?_)
 cases c with
 | false=>exact isTrue_or_nil e
 | true=>exact e
theorem aJ7 (ha:PT X a tA)(hb:PW X (.BoolOp .And (b::rest) pos) tB'):PW X (.BoolOp .And (a::b::rest) pos) (bI2 tA tB'):=by
 intro wh pins s σ H Q I h
 refine isTrue_and (thn (ha pins s σ H _ I h) fun c s1 ⟨H1,I1,q1⟩=>?_)
 cases c with
 | true=>exact hb wh pins s1 σ H1 Q I1 q1
 | false=>exact⟨H1,I1,q1⟩
theorem bb0 (ha:PT X a tA)(hb:PW X (.BoolOp .Or (b::rest) pos) tB'):PW X (.BoolOp .Or (a::b::rest) pos) (tOr tA tB'):=by
 intro wh pins s σ H Q I h
 refine isTrue_or (thn (ha pins s σ H _ I h) fun c s1 ⟨H1,I1,q1⟩=>?_)
 cases c with
 | true=>exact⟨H1,I1,q1⟩
 | false=>exact hb wh pins s1 σ H1 Q I1 q1
theorem Y0 (ha:PT X a tA):PT X (.UnaryOp .Not a pos) (bH5 tA):=by
 intro pins s σ H Q I h
 exact isTrue_not (ha pins s σ H (fun c H1=>Q (!c) H1) I h)
def bD4 (ta tb:TE):TE:=fun σ H Q=>ta σ H fun x H1=>∃ c,x=.bl c/\if c=true then tb σ H1 Q else Q (.bl false) H1
def bC9 (ta:TE):TE:=fun σ H Q=>ta σ H fun x H1=>∃ c,x=.bl c/\Q (.bl (!c)) H1
theorem bb8 {op}{t:TE}(h:PE X a t):PE X (.BoolOp op [a] pos) t:=fun pins s σ H Q I hw=>BoolOp_one (h pins s σ H Q I hw)
theorem bc2 (ha:PE X a ta)(hb:PE X (.BoolOp .And (b::rest) pos) tb):PE X (.BoolOp .And (a::b::rest) pos) (bD4 ta tb):=by
 intro pins s σ H Q I h
 refine BoolOp_and (thn (ha pins s σ H _ I h) fun v s1 ⟨x,H1,I1,r1,q1⟩=>?_)
 obtain⟨c,rfl,q1⟩:=q1
 cases r1
 refine B4 ?_
 cases c with
 | true=>exact hb pins s1 σ H1 Q I1 q1
 | false=>exact⟨.bl false,H1,I1,rfl,q1⟩
theorem bb9 (ha:PE X a ta):PE X (.UnaryOp .Not a pos) (bC9 ta):=by
 intro pins s σ H Q I h
 refine UnaryOp_ (thn (ha pins s σ H _ I h) fun v s1 ⟨x,H1,I1,r1,q1⟩=>?_)
 obtain⟨c,rfl,q1⟩:=q1
 cases r1
 exact not_of (B4 ⟨.bl (!c),H1,I1,rfl,q1⟩)
end
def SqL (K:W.Frag)(H:Hp)(a:Addr)(xs:List V):Prop:=
 Rd H a (.lst xs) \/
  ∃ (o:Obj) (its:Array Value) (n:Nat),K.lookup a=some o/\o.cls=.type "list"/\o.dict=none/\o.data=.seq its n/\its.size<=d7/\x9 xs its.toList
def SqT (K:W.Frag)(H:Hp)(a:Addr)(xs:List V):Prop:=
 Rd H a (.tup xs) \/
  ∃ (o:Obj) (its:Array Value) (n:Nat),K.lookup a=some o/\o.cls=.type "tuple"/\o.data=.seq its n/\its.size<=d7/\x9 xs its.toList
def bJ5:Value->Option V
 | .none=>some .non
 | .bool b=>some (.bl b)
 | .int i _=>some (.int i)
 | .str x _=>some (.str x)
 | .bytes b _=>some (.byt b)
 | .float b _=>some (.flt b)
 | .ref a=>some (.ref a)
 | .type n=>some (.ty n)
 | _=>none
theorem RelV.abs {x:V}(r:RelV x u):bJ5 u=some x:=by
 cases x with
 | non=>cases r;rfl
 | bl _=>cases r;rfl
 | int _=>obtain⟨t,rfl⟩:=r;rfl
 | str _=>obtain⟨t,rfl⟩:=r;rfl
 | byt _=>obtain⟨t,rfl⟩:=r;rfl
 | flt _=>obtain⟨t,rfl⟩:=r;rfl
 | ref _=>cases r;rfl
 | ty _=>cases r;rfl
theorem RelV.inj {x y:V}(r:RelV x u)(q:RelV y u):x=y:=Option.some.inj (r.abs.symm.trans q.abs)
theorem x9.inj:∀ {xs ys:List V} {us:List Value},x9 xs us->x9 ys us->xs=ys
 | _,_,_,.nil,.nil=>rfl
 | _,_,_,.cons r t,.cons r' t'=>by rw[r.inj r',x9.inj t t']
theorem SqL.of {K:W.Frag}(h:H a=some (.lst xs)):SqL K H a xs:=.inl (.inl h)
theorem SqT.of {K:W.Frag}(h:H a=some (.tup xs)):SqT K H a xs:=.inl (.inl h)
theorem Inv.list (I:Inv X pins σ H s)(h:SqL X.K H a xs):∃ its:List Value,x9 xs its/\PlainL s.heap a its.toArray/\xs.length<=d7:=by
 rcases h with h | ⟨o,its,n,hk,hc,hd,hs,hz,r⟩
 ·obtain⟨z,its,n,r,e⟩:=h.ok I.hok
  exact⟨its,r,⟨_,n,e,rfl,rfl,rfl⟩,z⟩
 ·refine⟨its.toList,r,⟨o,n,I.kIn a o hk,hc,hd,by simpa using hs⟩,?_⟩
  have e:=r.length
  simp only[d9]at e
  omega
theorem Inv.tuple (I:Inv X pins σ H s)(h:SqT X.K H a xs):∃ its:List Value,x9 xs its/\IsTup s.heap a its.toArray/\xs.length<=d7:=by
 rcases h with h | ⟨o,its,n,hk,hc,hs,hz,r⟩
 ·obtain⟨z,its,r,p⟩:=h.ok I.hok
  exact⟨its,r,p,z⟩
 ·refine⟨its.toList,r,⟨o,I.kIn a o hk,hc,n,by simpa using hs⟩,?_⟩
  have e:=r.length
  simp only[d9]at e
  omega
theorem Inv.list_inj (I:Inv X pins σ H s)(h:SqL X.K H a xs)(h':SqL X.K H a ys):xs=ys:=by
 obtain⟨its,r,⟨o,n,e,_,_,d⟩,_⟩:=I.list h
 obtain⟨its',r',⟨o',n',e',_,_,d'⟩,_⟩:=I.list h'
 rw[e]at e';cases e'
 rw[d]at d'
 injection d' with d1 _
 have:its=its':=by simpa using congrArg Array.toList d1
 subst this
 exact r.inj r'
theorem Inv.tuple_inj (I:Inv X pins σ H s)(h:SqT X.K H a xs)(h':SqT X.K H a ys):xs=ys:=by
 obtain⟨its,r,⟨o,e,_,n,d⟩,_⟩:=I.tuple h
 obtain⟨its',r',⟨o',e',_,n',d'⟩,_⟩:=I.tuple h'
 rw[e]at e';cases e'
 rw[d]at d'
 injection d' with d1 _
 have:its=its':=by simpa using congrArg Array.toList d1
 subst this
 exact r.inj r'
abbrev Cx.wish (X:Cx)(E:Value->Shared->Prop):Cx:={ X with xe:=E }
abbrev Cx.nox (X:Cx):Cx:=X.wish fun _ _=>False
theorem Cx.Ok.wish (ok:X.Ok)(E:Value->Shared->Prop):(X.wish E).Ok:=
 ⟨ok.mod,ok.kind,ok.glob,ok.blt,ok.above,ok.inj,ok.has,ok.cab,ok.hd,ok.frames,ok.stk,ok.exf,ok.bs,ok.bsz,ok.noex,ok.exfs,ok.funs,ok.frf⟩
theorem Cx.Ok.unwish (ok:(X.wish E).Ok):X.Ok:=
 ⟨ok.mod,ok.kind,ok.glob,ok.blt,ok.above,ok.inj,ok.has,ok.cab,ok.hd,ok.frames,ok.stk,ok.exf,ok.bs,ok.bsz,ok.noex,ok.exfs,ok.funs,ok.frf⟩
theorem Inv.wish (I:Inv X pins σ H s)(E:Value->Shared->Prop):Inv (X.wish E) pins σ H s:=⟨I.ok.wish E,I.os,I.bare,I.base,I.loc,I.cell,I.free,I.freeC,I.pin,I.hok,I.len⟩
theorem Inv.unwish (I:Inv (X.wish E) pins σ H s):Inv X pins σ H s:=⟨I.ok.unwish,I.os,I.bare,I.base,I.loc,I.cell,I.free,I.freeC,I.pin,I.hok,I.len⟩
theorem SP.unwish {D:Ends}{f:Flow}{s':Shared}(h:SP (X.wish E) pins D f s'):SP X pins D f s':=by
 cases f with
 | next=>obtain⟨σ',H',I,q⟩:=h;exact⟨σ',H',I.unwish,q⟩
 | brk=>obtain⟨σ',H',I,q⟩:=h;exact⟨σ',H',I.unwish,q⟩
 | cont=>obtain⟨σ',H',I,q⟩:=h;exact⟨σ',H',I.unwish,q⟩
 | ret u=>obtain⟨v,σ',H',I,r,q⟩:=h;exact⟨v,σ',H',I.unwish,r,q⟩
theorem PSs.nox {st:List Stmt}{t:TS}(h:PSs X.nox st t):PSs X st t:=fun pins s σ H D I hw =>
 C4 (h pins s σ H D (I.wish _) hw) (fun _ _ q=>q.unwish) fun _ _ z=>False.elim z
section
variable {st:Stmt} {rest:List Stmt} {t u:TS}
def bD0:TS:=fun D σ H=>D.nx σ H
def bH3 (t u:TS):TS:=fun D σ H=>t { D with nx:=u D } σ H
theorem E4:PSs X [] bD0:=fun _ _ σ H _ I h=>ak1 ⟨σ,H,I,h⟩
theorem j9 (h1:PS X st t)(h2:PSs X rest u):PSs X (st::rest) (bH3 t u):=by
 intro pins s σ H D I h
 refine wpAny_execs_cons (thn (h1 pins s σ H { D with nx:=u D } I h) fun f s1 q=>?_)
 cases f with
 | next =>
  obtain⟨σ',H',I',q⟩:=q
  exact h2 pins s1 σ' H' D I' q
 | ret v=>exact q
 | brk=>exact q
 | cont=>exact q
theorem o3 (h1:PS X st t):PSs X [st] t:=by
 intro pins s σ H D I h
 refine wpAny_execs_cons (thn (h1 pins s σ H D I h) fun f s1 q=>?_)
 cases f with
 | next=>exact ak1 q
 | ret v=>exact q
 | brk=>exact q
 | cont=>exact q
theorem Inv.quiet (I:Inv X pins σ H s):interactive X.env=false:=by simp[interactive,I.ok.kind]
def bD1 (te:TE):TS:=fun D σ H=>te σ H fun _ H1=>D.nx σ H1
theorem S0 (he:PE X e te)(hs:aS1 e none pos.line X.env=pure false:=by rfl):PS X (.Expr e pos) (bD1 te):=by
 intro pins s σ H D I h
 exact wpAny_Expr_any (thn (he pins s σ H _ I h) fun v s1 ⟨x,H1,I1,r1,q1⟩=>⟨σ,H1,I1,q1⟩) I.quiet hs
def bH4 (te:TE):TS:=fun D σ H=>te σ H D.rt
theorem D6 (he:PE X e te):PS X (.Return (some e) pos) (bH4 te):=by
 intro pins s σ H D I h
 exact wpAny_Return_some (thn (he pins s σ H _ I h) fun v s1 ⟨x,H1,I1,r1,q1⟩=>⟨x,σ,H1,I1,r1,q1⟩)
def bH8 (c:TT)(t u:TS):TS:=fun D σ H=>c σ H fun b H1=>if b=true then t D σ H1 else u D σ H1
theorem P2 {c:Expr}{a b:List Stmt}{tc:TT}(hc:PT X c tc)(ha:PSs X a t)(hb:PSs X b u):PS X (.If c a b pos) (bH8 tc t u):=by
 intro pins s σ H D I h
 refine wpAny_If (thn (hc pins s σ H _ I h) fun d s1 ⟨H1,I1,q1⟩=>?_)
 cases d with
 | true=>exact ha pins s1 σ H1 D I1 q1
 | false=>exact hb pins s1 σ H1 D I1 q1
def bt7:TS:=fun _ _ _=>False
theorem P7 {sts:List Stmt}:PSs X sts bt7:=fun _ _ _ _ _ _ h=>h.elim
end
abbrev TG:=V->St->Hp->(St->Hp->Prop)->Prop
abbrev TGs:=List V->St->Hp->(St->Hp->Prop)->Prop
def PG (X:Cx)(target:Expr)(t:TG):Prop:=
 ∀ (pins:List (Addr × Obj)) (s:Shared) (σ:St) (H:Hp) (v:V) (u:Value) (Q:St->Hp->Prop),Inv X pins σ H s->RelV v u->t v σ H Q ->
  m5 (m7 X.prog X.w) X.A (br7 target X.env u) (fun _ s'=>∃ σ' H',Inv X pins σ' H' s'/\Q σ' H') X.xe s
def PGs (X:Cx)(ts:List Expr)(t:TGs):Prop:=
 ∀ (pins:List (Addr × Obj)) (s:Shared) (σ:St) (H:Hp) (vs:List V) (us:List Value) (Q:St->Hp->Prop),Inv X pins σ H s->x9 vs us->t vs σ H Q ->
  m5 (m7 X.prog X.w) X.A (assignInOrder ((am0 ts X.env).map (·.2)) us) (fun _ s'=>∃ σ' H',Inv X pins σ' H' s'/\Q σ' H') X.xe s
abbrev bz4:=V->V->V->Hp->(Hp->Prop)->Prop
def bG8 (X:Cx)(t:bz4):Prop:=
 ∀ (pins:List (Addr × Obj)) (s:Shared) (σ:St) (H:Hp) (o i v:V) (ov iv u:Value) (Q:Hp->Prop),Inv X pins σ H s->RelV o ov->RelV i iv->RelV v u->t o i v H Q ->
  m5 (m7 X.prog X.w) X.A (setItem ov iv u) (fun _ s'=>∃ H',Inv X pins σ H' s'/\Q H') X.xe s
abbrev TIp:=V->V->Hp->VK->Prop
def PIp (X:Cx)(op:Operator)(t:TIp):Prop:=
 ∀ (pins:List (Addr × Obj)) (s:Shared) (σ:St) (H:Hp) (x y:V) (v u:Value) (Q:VK),Inv X pins σ H s->RelV x v->RelV y u->t x y H Q ->
  m5 (m7 X.prog X.w) X.A (inplaceOp op v u) (EP X pins σ Q) X.xe s
def aF2 (i:Nat):TG:=fun v σ H Q=>Q (σ.set i (some v)) H
theorem A6 (hN:X.N.Nodup)(hi:X.N[i]?=some x)(hx:Loc X.env.scope x)(hf:X.fn x=true\/X.env.scope.names.lookup x=some .local:=by first | exact .inl rfl | exact .inr rfl | assumption):PG X (.Name x pos) (aF2 i):=by
 intro pins s σ H v u Q I r h
 exact wpAny_assign_Name (ao3 I hN hi hx r (fun s' I'=>⟨_,H,I',h⟩) hf)
def bJ2:TGs:=fun vs σ H Q=>vs=[]/\Q σ H
def bF8 (t:TG)(u:TGs):TGs:=fun vs σ H Q=>∃ v r,vs=v::r/\t v σ H fun σ' H'=>u r σ' H' Q
theorem am7:PGs X [] bJ2:=by
 intro pins s σ H vs us Q I r h
 obtain⟨e,h⟩:=h
 subst e
 cases r
 exact assignInOrder_nil ⟨σ,H,I,h⟩
theorem Q3 {es:List Expr}{t:TG}{u:TGs}(h1:PG X e t)(h2:PGs X es u)
  (hs:(am0 (e::es) X.env).map (·.2)=br7 e X.env::(am0 es X.env).map (·.2):=by rfl):PGs X (e::es) (bF8 t u):=by
 intro pins s σ H vs us Q I r h
 obtain⟨v,vr,e1,h⟩:=h
 subst e1
 cases r with
 | cons r rr =>
  rw[hs]
  refine assignInOrder_cons (thn (h1 pins s σ H _ _ _ I r h) fun _ s1 ⟨σ1,H1,I1,q1⟩=>?_)
  exact h2 pins s1 σ1 H1 _ _ Q I1 rr q1
def bJ0 (K:W.Frag)(n:Nat)(t:TGs):TG:=fun v σ H Q=>∃ a xs,v=.ref a/\SqT K H a xs/\xs.length=n/\t xs σ H Q
theorem aw8 {es:List Expr}{k:Nat}{t:TGs}(hc:X.calm=true)(h:PGs X es t)
  (hn:(am0 es X.env).length=n:=by rfl)(hst:(am0 es X.env).findIdx? (·.1)=none:=by rfl):PG X (.Tuple es k pos) (bJ0 X.K n t):=by
 intro pins s σ H v u Q I r hw
 obtain⟨a,xs,e1,hq,hl,hw⟩:=hw
 subst e1
 cases r
 obtain⟨its,rv,ht,hz⟩:=I.tuple hq
 refine assign_Tuple_tuple (I.ok.hd hc) ht (by simp[hn,<- hl,rv.length]) hst fun h' hx=>?_
 have I1:Inv X pins σ H { s with heap:=h' }:=I.kept (t':=s.toks) fun b o e=>hx b o (i9 (d4 e)) e
 exact h pins _ σ H xs _ Q I1 (by simpa using rv) hw
def bJ1 (to ti:TE)(t:bz4):TG:=fun v σ H Q=>to σ H fun o H1=>ti σ H1 fun i H2=>t o i v H2 fun H3=>Q σ H3
theorem bb7 {i:Expr} {to ti:TE} {t:bz4} (ho:PE X o to) (hi:PE X i ti) (hs:bG8 X t)
  (ha : ∀ v, br7 (.Subscript o i pos) X.env v = (do
   let ov <- bi5 [v] (eval o X.env)
   let iv <- bi5 [v,ov] (eval i X.env)
   standAt pos
   bi5 [v,ov,iv] (setItem ov iv v)
   release [v,ov,iv] []):=by intro _;rfl):PG X (.Subscript o i pos) (bJ1 to ti t):=by
 intro pins s σ H v u Q I r h
 rw[ha]
 refine a4 (u7 (thn (ho pins s σ H _ I h) fun ov s1 ⟨x,H1,I1,r1,q1⟩=>?_))
 refine a4 (u7 (thn (hi pins s1 σ H1 _ I1 q1) fun iv s2 ⟨y,H2,I2,r2,q2⟩=>?_))
 refine a4 (X7 (a4 (u7 (thn (hs pins s2 σ H2 x y v ov iv u _ I2 r1 r2 r q2) fun _ s3 ⟨H3,I3,q3⟩=>?_))))
 exact wpAny_release ⟨σ,H3,I3,q3⟩
def bD3 (te:TE)(g:TG):TS:=fun D σ H=>te σ H fun x H1=>g x σ H1 D.nx
theorem bb4 {g:TG}(he:PE X e te)(hg:PG X tg g)(hs:swapsWithSole [tg] e pos.line X.env=pure false:=by rfl)(hw:swappedStores [tg] e X.env=pure none:=by rfl)
  (h1:(am0 [tg] X.env).map (·.2)=[br7 tg X.env]:=by rfl):PS X (.Assign [tg] e pos) (bD3 te g):=by
 intro pins s σ H D I h
 refine wpAny_Assign_stores (thn (he pins s σ H _ I h) fun v s1 ⟨x,H1,I1,r1,q1⟩=>?_) hs hw
 rw[h1]
 exact thn (hg pins s1 σ H1 x v _ I1 r1 q1) fun _ s2 q=>q
theorem D5 {pos':Pos}(hN:X.N.Nodup)(hi:X.N[i]?=some x)(hx:Loc X.env.scope x)(he:PE X e te)(hs:aS1 e (some (.Name x pos')) pos.line X.env=pure false:=by rfl)(hf:X.fn x=true\/X.env.scope.names.lookup x=some .local:=by first | exact .inl rfl | exact .inr rfl | assumption) :
  PS X (.Assign [.Name x pos'] e pos) (bD3 te (aF2 i)):=by
 intro pins s σ H D I h
 refine wpAny_Assign_Name (thn (he pins s σ H _ I h) fun v s1 ⟨y,H1,I1,r1,q1⟩=>?_) hs
 exact ao3 I1 hN hi hx r1 (fun s2 I2=>⟨_,H1,I2,q1⟩) hf
def bI1 (i:Nat)(te:TE)(ti:TIp):TS:=fun D σ H=>∃ x,σ[i]?=some (some x)/\te σ H fun y H1=>ti x y H1 fun z H2=>D.nx (σ.set i (some z)) H2
theorem bb3 {op:Operator}{ti:TIp}{pos':Pos}(hN:X.N.Nodup)(hi:X.N[i]?=some x)(hx:Loc X.env.scope x)(he:PE X e te)(ho:PIp X op ti)(hf:X.fn x=true\/X.env.scope.names.lookup x=some .local:=by first | exact .inl rfl | exact .inr rfl | assumption) :
  PS X (.AugAssign (.Name x pos') op e pos) (bI1 i te ti):=by
 intro pins s σ H D I h
 obtain⟨v,e1,h⟩:=h
 obtain⟨m,hn,hl⟩:=I.loc
 have vis:Vis X.env.scope x:=by rcases hx with k | k;exact .inl k;exact .inr (.inl k)
 obtain⟨u,r,l⟩:=hl i x v hi e1 vis
 refine wpAny_AugAssign_Name ?_
 have go:m5 (m7 X.prog X.w) X.A (eval e X.env) (fun w s₂=>m5 (m7 X.prog X.w) X.A (inplaceOp op u w) (fun r s₃=>m5 (m7 X.prog X.w) X.A (storeName X.env x r) (fun _=>SP X pins D .next) X.xe s₃) X.xe s₂) X.xe s:=by
  refine thn (he pins s σ H _ I h) fun w s1 ⟨y,H1,I1,r1,q1⟩=>?_
  refine thn (ho pins s1 σ H1 v y u w _ I1 r r1 q1) fun z s2 ⟨zv,H2,I2,r2,q2⟩=>?_
  exact ao3 I2 hN hi hx r2 (fun s3 I3=>⟨_,H2,I3,q2⟩) hf
 rcases l with⟨hk,hm⟩ | ⟨hk,c,hc,hcell⟩
 ·exact bA6 I.ok.kind hk hn hm go
 ·rcases hk with hk | hk
  ·exact bB9 I.ok.kind hk hc hcell go
  ·rcases hx with k | k
   ·have:X.env.scope.names.lookup x=some .free:=hk
    rw[k]at this;cases this
   ·have:X.env.scope.names.lookup x=some .free:=hk
    rw[k]at this;cases this
def bt5 (c:TT)(tb:TS):TS:=fun D σ H=>∃ W:Nat->St->Hp->Prop,(∃ m,W m σ H)/\∀ m σ H,W m σ H ->
 c σ H fun b H1=>if b=true then ∃ N:St->Hp->Prop,(∀ σ' H',N σ' H'->∃ m',m'<m/\W m' σ' H')/\tb { D with nx:=N,ct:=N,bk:=D.nx } σ H1 else D.nx σ H1
theorem bb1 {c:Expr}{body:List Stmt}{tc:TT}{tb:TS}(hp:PassesOwn (m7 X.prog X.w) X.A X.env X.xe)(hc:PT X c tc)(hb:PSs X body tb):PS X (.While c body [] pos) (bt5 tc tb):=by
 intro pins s σ H D I h
 obtain⟨W,⟨m0,w0⟩,turn⟩:=h
 refine wpAny_While (codeAny_whileLoop (fun n s'=>∃ σ' H',Inv X pins σ' H' s'/\W n σ' H') ?_ m0 ⟨σ,H,I,w0⟩)
 rintro n s1 ⟨σ1,H1,I1,w1⟩
 refine O0 hp (thn (hc pins s1 σ1 H1 _ I1 (turn n σ1 H1 w1)) fun b s2 ⟨H2,I2,q2⟩=>?_)
 cases b with
 | true =>
  obtain⟨N,hN,q2⟩:=q2
  rw[if_pos rfl]
  refine O0 hp (thn (hb pins s2 σ1 H2 _ I2 q2) fun f s3 q3=>?_)
  cases f with
  | next =>
   obtain⟨σ3,H3,I3,n3⟩:=q3
   obtain⟨m',hm,w3⟩:=hN σ3 H3 n3
   exact⟨m',hm,σ3,H3,I3,w3⟩
  | cont =>
   obtain⟨σ3,H3,I3,n3⟩:=q3
   obtain⟨m',hm,w3⟩:=hN σ3 H3 n3
   exact⟨m',hm,σ3,H3,I3,w3⟩
  | brk=>exact q3
  | ret v=>exact q3
 | false =>
  rw[if_neg c7]
  exact ak1 ⟨σ1,H2,I2,q2⟩
structure It where
 go:Nat->Hp->Prop
 yld:Nat->Hp->V->Hp->Prop
 stop:Nat->Hp->Prop
def ag3 (X:Cx)(pins:List (Addr × Obj))(H:Hp)(b:Addr):Prop:=
 H b=none/\b≠X.env.locals/\b∉X.fs/\(b∈X.ex\/X.s₀.heap.objs.size<=b)/\(∀ x c,X.env.cells.lookup x=some c->c≠b)/\∀ p∈X.pn++pins,p.1≠b
theorem Inv.fpOk {b:Addr}(I:Inv X pins σ H s)(hb:s.heap.objs.size<=b)(hn:H' b=none):ag3 X pins H' b:=by
 refine⟨hn,N5 (o4 I.lt hb),I.nofs hb,.inr (o5 I.sz hb),fun x c e z=>?_,fun p hp z=>?_⟩
 ·obtain⟨v,q⟩:=I.cell x c e
  exact absurd (o4 q.lt (by rw[z];exact hb)) (x6 _)
 ·exact absurd (o4 (d4 (I.pin p hp).1) (by rw[z];exact hb)) (x6 _)
structure Turn (P:Program) (w:World) (K:W.Frag) (tg:Expr) (J:It) (fp:List Addr) (it:Addr) (tn:Nat->Heap->Prop):Prop where
 mem:it∈fp
 obj:∀ i h,tn i h->∀ b∈fp,∃ o,h.get? b=some o/\∀ v,o.data≠.cell v
 keep:∀ i h h',tn i h->(∀ b∈fp,∀ o,h.get? b=some o->h'.get? b=some o)->tn i h'
 item:∀ (X:Cx),X.prog=P->X.w=w->X.K=K->X.calm=true->∀ (i:Nat) (pins:List (Addr × Obj)) (s:Shared) (σ:St) (H:Hp) (E:Value->Shared->Prop),Inv X pins σ H s->(∀ b∈fp,ag3 X pins H b)->tn i s.heap->J.go i H ->
  m5 (m7 P w) X.A (bh2 (.ref it)) (fun r s1=>∃ u,r=some u /\
   m5 (m7 P w) X.A (aS2 tg (.ref it) u) (fun _ s2=>∃ x H',Inv X pins σ H' s2/\RelV x u/\J.yld i H x H'/\tn (i+1) s2.heap/\∀ b∈fp,H' b=none) E s1) E s
 done:∀ (X:Cx),X.prog=P->X.w=w->X.K=K->X.calm=true->∀ (i:Nat) (pins:List (Addr × Obj)) (s:Shared) (σ:St) (H:Hp) (E:Value->Shared->Prop),Inv X pins σ H s->(∀ b∈fp,ag3 X pins H b)->tn i s.heap->J.stop i H ->
  m5 (m7 P w) X.A (bh2 (.ref it)) (fun r s1=>r=none/\Inv X pins σ H s1) E s
 self:∀ (A:Around) (i:Nat) (s:Shared) (Q:Value->Shared->Prop) (E:Value->Shared->Prop),tn i s.heap->Q (.ref it) s->m5 (m7 P w) A (pyIter (.ref it)) Q E s
abbrev TI:=St->Hp->(It->Hp->Prop)->Prop
def PIE (X:Cx)(pins:List (Addr × Obj))(σ:St)(tg:Expr)(R:It->Hp->Prop)(itv:Value)(s2:Shared):Prop:=
 ∃ (it:Addr) (fp:List Addr) (tn:Nat->Heap->Prop) (J:It) (H':Hp),itv=.ref it/\Inv X pins σ H' s2/\Turn X.prog X.w X.K tg J fp it tn/\tn 0 s2.heap/\(∀ b∈fp,ag3 X pins H' b)/\R J H'
def PI (X:Cx)(tg iter:Expr)(wi:TI):Prop:=
 ∀ (pins:List (Addr × Obj)) (s:Shared) (σ:St) (H:Hp) (R:It->Hp->Prop),Inv X pins σ H s->wi σ H R ->
  m5 (m7 X.prog X.w) X.A (eval iter X.env) (fun v s1=>m5 (m7 X.prog X.w) X.A (pyIter v) (PIE X pins σ tg R) X.xe s1) X.xe s
theorem aR2 {it:Addr} {o:Obj} {n:String} {vs:Array Value} {Q:Unit->Shared->Prop} (ho:s.heap.get? it=some o) (hc:o.cls=.type n) (hd:o.data=.fields vs)
    (hn:["enumerate","zip","dict_itemiterator","dict_reverseitemiterator","odict_iterator","itertools.zip_longest","itertools.pairwise"].contains n=false) (hQ:Q () s):m5 M A (aS2 tg (.ref it) u) Q E s:=by
  unfold aS2
  cases tg<;>first
    | exact a6 hQ
    | (cases u<;>first
        | exact a6 hQ
        | (refine a4 (wpAny_load ho ?_)
           rw[hc,hd]
           show m5 M A (if (["enumerate","zip","dict_itemiterator","dict_reverseitemiterator","odict_iterator","itertools.zip_longest","itertools.pairwise"].contains n && vs[0]? == some (rawInt _))=true then _ else _) Q E s
           rw[if_neg (by intro h;rw[hn,Bool.false_and]at h;cases h)]
           exact a6 hQ))
def Itl (K:W.Frag)(a:Addr):It:=
 ⟨fun i H=>∃ xs x,SqL K H a xs/\xs[i]?=some x,fun i H x H'=>H'=H/\∀ xs,SqL K H a xs->xs[i]?=some x,fun i H=>∃ xs,SqL K H a xs/\xs.length<=i⟩
def Itt (K:W.Frag)(a:Addr):It:=
 ⟨fun i H=>∃ xs x,SqT K H a xs/\xs[i]?=some x,fun i H x H'=>H'=H/\∀ xs,SqT K H a xs->xs[i]?=some x,fun i H=>∃ xs,SqT K H a xs/\xs.length<=i⟩
def Itr (lo:Int)(n:Nat):It:=⟨fun i _=>i<n,fun i H x H'=>H'=H/\x=.int (lo+i),fun i _=>n<=i⟩
theorem aT5 {K:W.Frag}(a it:Addr):Turn P w K tg (Itl K a) [it] it (fun i h=>h.IsListIter it a i) where
 mem:=by simp
 obj:=fun i h st b hb=>by
  have e:b=it:=by simpa using hb
  subst e
  obtain⟨o,e,c,d⟩:=st
  exact⟨o,e,fun v z=>by rw[d]at z;cases z⟩
 keep:=fun i h h' st k=>st.at fun o e=>k it (by simp) o e
 item:=by
  intro X hP hw hK hc i pins s σ H E I hf st hg
  subst hP hw hK
  obtain⟨xs,x,hq,hx⟩:=hg
  obtain⟨its,rv,p,hz⟩:=I.list hq
  obtain⟨u,hu,ru⟩:=rv.get hx
  obtain⟨f0,f1,f2,f3,f4,f5⟩:=hf it (by simp)
  refine wpAny_pyNext_list_item st p.isList (x:=u) (by simpa using hu) fun h' st' sb=>?_
  have I1:Inv X pins σ H { s with heap:=h' }:=I.turned (t':=s.toks) (fun b o hb e=>(sb.2 b hb).trans e) f0 f1 f3 f4 f5
  obtain⟨o,e,c,d⟩:=id st'
  exact⟨u,rfl,aR2 (s:={ s with heap:=h' }) e c d (by decide) ⟨x,H,I1,ru,⟨rfl,fun ys hy=>by rw[I.list_inj hy hq];exact hx⟩,st',fun b hb=>(hf b hb).1⟩⟩
 done:=by
  intro X hP hw hK hc i pins s σ H E I hf st hg
  subst hP hw hK
  obtain⟨xs,hq,hx⟩:=hg
  obtain⟨its,rv,p,hz⟩:=I.list hq
  obtain⟨f0,f1,f2,f3,f4,f5⟩:=hf it (by simp)
  have hl:=rv.length
  exact wpAny_pyNext_list_end (I.ok.hd hc) st p.isList (by simp;omega) fun h' eb=>⟨rfl,I.turned (t':=s.toks) (fun b o hb e=>eb b o hb e) f0 f1 f3 f4 f5⟩
 self:=fun _ _ _ _ _ st h=>wpAny_pyIter_listiter st h
theorem aI4 {K:W.Frag}(a it:Addr):Turn P w K tg (Itt K a) [it] it (fun i h=>h.IsTupleIter it a i) where
 mem:=by simp
 obj:=fun i h st b hb=>by
  have e:b=it:=by simpa using hb
  subst e
  obtain⟨o,e,c,d⟩:=st
  exact⟨o,e,fun v z=>by rw[d]at z;cases z⟩
 keep:=fun i h h' st k=>st.at fun o e=>k it (by simp) o e
 item:=by
  intro X hP hw hK hc i pins s σ H E I hf st hg
  subst hP hw hK
  obtain⟨xs,x,hq,hx⟩:=hg
  obtain⟨its,rv,p,hz⟩:=I.tuple hq
  obtain⟨u,hu,ru⟩:=rv.get hx
  obtain⟨f0,f1,f2,f3,f4,f5⟩:=hf it (by simp)
  refine wpAny_pyNext_tuple_item st (show s.heap.IsTuple a its.toArray from p) (x:=u) (by simpa using hu) fun h' st' sb=>?_
  have I1:Inv X pins σ H { s with heap:=h' }:=I.turned (t':=s.toks) (fun b o hb e=>(sb.2 b hb).trans e) f0 f1 f3 f4 f5
  obtain⟨o,e,c,d⟩:=id st'
  exact⟨u,rfl,aR2 (s:={ s with heap:=h' }) e c d (by decide) ⟨x,H,I1,ru,⟨rfl,fun ys hy=>by rw[I.tuple_inj hy hq];exact hx⟩,st',fun b hb=>(hf b hb).1⟩⟩
 done:=by
  intro X hP hw hK hc i pins s σ H E I hf st hg
  subst hP hw hK
  obtain⟨xs,hq,hx⟩:=hg
  obtain⟨its,rv,p,hz⟩:=I.tuple hq
  obtain⟨f0,f1,f2,f3,f4,f5⟩:=hf it (by simp)
  have hl:=rv.length
  exact wpAny_pyNext_tuple_end (I.ok.hd hc) st (show s.heap.IsTuple a its.toArray from p) (by simp;omega) fun h' eb=>⟨rfl,I.turned (t':=s.toks) (fun b o hb e=>eb b o hb e) f0 f1 f3 f4 f5⟩
 self:=fun _ _ _ _ _ st h=>wpAny_pyIter_tupleiter st h
theorem aI5 {K:W.Frag}(it:Addr)(lo:Int)(n:Nat):Turn P w K tg (Itr lo n) [it] it (fun i h=>IsRangeIter h it (lo+(i:Nat)*1) ((n:Int) - (i:Nat)) 1) where
 mem:=by simp
 obj:=fun i h st b hb=>by
  have e:b=it:=by simpa using hb
  subst e
  exact⟨_,st,fun v z=>by
   have z':Data.fields _=Data.cell v:=z
   cases z'⟩
 keep:=fun i h h' st k=>k it (by simp) _ st
 item:=by
  intro X hP hw hK hc i pins s σ H E I hf st hg
  subst hP hw hK
  obtain⟨f0,f1,f2,f3,f4,f5⟩:=hf it (by simp)
  have W:=Walks.range (prog:=X.prog) (w:=X.w) (I.ok.hd hc) it lo 1 n
  refine W.item i s _ _ hg st fun v h' tk hv st' kk=>?_
  obtain⟨t,rfl⟩:=hv
  have I1:Inv X pins σ H { s with heap:=h',toks:=tk }:=I.turned (fun b o hb e=>kk b o (by simpa using hb) e) f0 f1 f3 f4 f5
  refine⟨_,rfl,aR2 (s:={ s with heap:=h',toks:=tk }) (n:="range_iterator") st' rfl rfl (by decide) ⟨.int (lo+i),H,I1,⟨t,?_⟩,⟨rfl,rfl⟩,st',fun b hb=>(hf b hb).1⟩⟩
  rw[Int.mul_one]
 done:=by
  intro X hP hw hK hc i pins s σ H E I hf st hg
  subst hP hw hK
  obtain⟨f0,f1,f2,f3,f4,f5⟩:=hf it (by simp)
  exact wpAny_pyNext_range_end (I.ok.hd hc) st (by have:n<=i:=hg;omega) fun h' eb=>⟨rfl,I.turned (t':=s.toks) (fun b o hb e=>eb b o hb e) f0 f1 f3 f4 f5⟩
 self:=fun _ _ _ _ _ st h=>wpAny_pyIter_rangeiter st h
def bF6 (K:W.Frag)(tl:TE):TI:=fun σ H R=>tl σ H fun x H1=>∃ a,x=.ref a/\(∃ xs,SqL K H1 a xs)/\R (Itl K a) H1
def bI9 (K:W.Frag)(tl:TE):TI:=fun σ H R=>tl σ H fun x H1=>∃ a,x=.ref a/\(∃ xs,SqT K H1 a xs)/\R (Itt K a) H1
theorem S1 {l:Expr}{tl:TE}(hl:PE X l tl):PI X tg l (bF6 X.K tl):=by
 intro pins s σ H R I h
 refine thn (hl pins s σ H _ I h) fun v s1 ⟨x,H1,I1,r1,q1⟩=>?_
 obtain⟨a,e,⟨xs,hq⟩,q⟩:=q1
 subst e
 cases r1
 obtain⟨its,rv,p,hz⟩:=I1.list hq
 refine az8 p.isList ?_
 refine⟨s1.heap.objs.size,[s1.heap.objs.size],_,_,H1,rfl,I1.kept (t':=s1.toks) fun b o e=>a5 _ e,aT5 a _,⟨_,l0 _ rfl,rfl,rfl⟩,fun b hb=>?_,q⟩
 have e:b=s1.heap.objs.size:=by simpa using hb
 subst e
 exact I1.fpOk (c6 _) (I1.hok.fresh (c6 _))
theorem aw7 {l:Expr}{tl:TE}(hl:PE X l tl):PI X tg l (bI9 X.K tl):=by
 intro pins s σ H R I h
 refine thn (hl pins s σ H _ I h) fun v s1 ⟨x,H1,I1,r1,q1⟩=>?_
 obtain⟨a,e,⟨xs,hq⟩,q⟩:=q1
 subst e
 cases r1
 obtain⟨its,rv,p,hz⟩:=I1.tuple hq
 refine wpAny_pyIter_tuple (show s1.heap.IsTuple a its.toArray from p) ?_
 refine⟨s1.heap.objs.size,[s1.heap.objs.size],_,_,H1,rfl,I1.kept (t':=s1.toks) fun b o e=>a5 _ e,aI4 a _,⟨_,l0 _ rfl,rfl,rfl⟩,fun b hb=>?_,q⟩
 have e:b=s1.heap.objs.size:=by simpa using hb
 subst e
 exact I1.fpOk (c6 _) (I1.hok.fresh (c6 _))
theorem ba8 {R:It->Hp->Prop}{lo hi:Int}{t u v:Tok}{tk:Nat}(I:Inv X pins σ H s)(h1:-(2 ^ 62)<=lo)(h2:lo<2 ^ 62)(h3:-(2 ^ 62)<=hi)(h4:hi<2 ^ 62)
  (q:R (Itr lo (hi - lo).toNat) H):m5 (m7 X.prog X.w) X.A (pyIter (.ref s.heap.objs.size)) (PIE X pins σ tg R) E { s with heap:=s.heap.push { cls:=.type "range",data:=.fields #[.int lo t,.int hi u,.int 1 v] },toks:=tk }:=by
 refine wpAny_pyIter_range (IsRange.new ..) (small_one h1 h2 h3 h4) ?_
 have I1:Inv X pins σ H { s with heap:=s.heap.push { cls:=.type "range",data:=.fields #[.int lo t,.int hi u,.int 1 v] },toks:=tk }:=I.kept fun b o e=>a5 _ e
 refine⟨(s.heap.push { cls:=.type "range",data:=.fields #[.int lo t,.int hi u,.int 1 v] }).objs.size,[(s.heap.push { cls:=.type "range",data:=.fields #[.int lo t,.int hi u,.int 1 v] }).objs.size],_,_,H,rfl,
  I1.kept (t':=tk) fun b o e=>a5 _ e,aI5 _ lo (hi - lo).toNat,?_,fun b hb=>?_,q⟩
 ·have e1:lo+((0:Nat):Int)*1=lo:=by simp
  have e2:(((hi - lo).toNat:Nat):Int) - ((0:Nat):Int)=Builtin.Range.rangeSize lo hi 1:=by rw[rangeSize_one];split<;>omega
  show IsRangeIter _ _ (lo+((0:Nat):Int)*1) ((((hi - lo).toNat:Nat):Int) - ((0:Nat):Int)) 1
  rw[e1,e2]
  exact l0 _ rfl
 ·have e:b=(s.heap.push { cls:=.type "range",data:=.fields #[.int lo t,.int hi u,.int 1 v] }).objs.size:=by simpa using hb
  subst e
  exact I1.fpOk (c6 _) (I1.hok.fresh (c6 _))
def bF5 (ta:TA):TI:=fun σ H R=>ta σ H fun vs H1=>∃ j:Int,vs=[.int j] /\ -(2 ^ 62)<=j/\j<2 ^ 62/\R (Itr 0 j.toNat) H1
theorem N8 {a:Expr}{ta:TA}{p:Pos}(hg:Gl X "range")(hm:X.mg "range"=none)(ha:PA X [a] ta)(hs:B7 [a] X.env=[(false,eval a X.env)]:=by rfl):PI X tg (.Call (.Name "range" p) [a] [] pos) (bF5 ta):=by
 intro pins s σ H R I h
 refine Call_ (aK6 I hg hm boot_range (PyProof.Rows.callWith_type1 (thn (ha pos pins s σ H _ I h) fun us s1 ⟨vs,H1,I1,r1,q1⟩=>?_) hs rfl))
 obtain⟨j,e,q1,q2,q⟩:=q1
 subst e
 cases r1 with
 | cons r rr =>
  cases rr
  obtain⟨t,rfl⟩:=r
  exact call_range_1 (ba8 I1 (by omega) (by omega) q1 q2 (by simpa using q))
def bH9 (wi:TI)(g:TG)(tb:TS):TS:=fun D σ H=>wi σ H fun J H1=>∃ W:Nat->Nat->St->Hp->Prop,(∃ m,W 0 m σ H1)/\∀ i m σ H,W i m σ H ->
 (J.stop i H/\D.nx σ H)\/(J.go i H/\∃ N:St->Hp->Prop,(∀ σ' H',N σ' H'->∃ m',m'<m/\W (i+1) m' σ' H')/\∀ x H',J.yld i H x H'->g x σ H' fun σ2 H2=>tb { D with nx:=N,ct:=N,bk:=D.nx } σ2 H2)
def ad6 (fp:List Addr)(h:Heap):List (Addr × Obj):=fp.filterMap fun b=>(h.get? b).map fun o=>(b,o)
theorem L6 {b:Addr}{o:Obj}(hb:b∈fp)(e:h.get? b=some o):(b,o)∈ad6 fp h:=Y8.mpr ⟨b,hb,by rw[e];rfl⟩
theorem aU7 {p:Addr × Obj}(hp:p∈ad6 fp h):p.1∈fp/\h.get? p.1=some p.2:=by
 obtain⟨b,hb,e⟩:=Y8.mp hp
 cases q:h.get? b with
 | none=>rw[q]at e;cases e
 | some o =>
  rw[q]at e
  have e':(b,o)=p:=Option.some.inj e
  subst e'
  exact⟨hb,q⟩
theorem Inv.pinned (I:Inv X pins σ H s)(hf:∀ b∈fp,ag3 X pins H b)(ho:∀ b∈fp,∃ o,s.heap.get? b=some o/\∀ v,o.data≠.cell v):Inv X (pins++ad6 fp s.heap) σ H s:=
 I.pins_of fun p hp=>(j0.mp hp).elim (fun z=>I.pin p (d6 _ z)) fun z=>by
  obtain⟨hb,e⟩:=aU7 z
  obtain⟨f0,f1,f2,_⟩:=hf p.1 hb
  obtain⟨o,e',d⟩:=ho p.1 hb
  rw[e]at e';cases e'
  exact⟨e,f0,f1,f2,d⟩
theorem Inv.unpinned {pl:List (Addr × Obj)}(I:Inv X (pins++pl) σ H s):Inv X pins σ H s:=I.pins_of fun p hp=>I.pin p (d6 _ (m6 _ hp))
theorem T7 {iter:Expr}{body:List Stmt}{wi:TI}{g:TG}{tb:TS}(hp:PassesOwn (m7 X.prog X.w) X.A X.env X.xe)(hc:X.calm=true)(hi:PI X tg iter wi)(hg:PG X tg g)(hb:PSs X body tb)
  (hs:∀ x,U3 iter X.env x=pure x:=by intro _;rfl):PS X (.For tg iter body [] pos) (bH9 wi g tb):=by
 intro pins s σ H D I h
 refine wpAny_For (thn (hi pins s σ H _ I h) fun v s1 h1=>thn h1 fun itv s2 h2=>?_) hs
 obtain⟨it,fp,tn,J,H2,e,I2,T,st2,f2,W,⟨m0,w0⟩,turn⟩:=h2
 subst e
 have stat:∀ {H':Hp},(∀ b∈fp,H' b=none)->∀ b∈fp,ag3 X pins H' b:=fun hn b hb=>⟨hn b hb,(f2 b hb).2⟩
 refine codeAny_forLoop_any (fun n s'=>∃ i σ' H',Inv X pins σ' H' s'/\tn i s'.heap/\(∀ b∈fp,H' b=none)/\W i n σ' H') ?_ m0 ⟨0,σ,H2,I2,st2,fun b hb=>(f2 b hb).1,w0⟩
 rintro n s3 ⟨i,σ3,H3,I3,st3,fr3,w3⟩
 rcases turn i n σ3 H3 w3 with⟨stop,qn⟩ | ⟨go,N,hN,step⟩
 ·refine O0 hp (thn (T.done X rfl rfl rfl hc i pins s3 σ3 H3 X.xe I3 (stat fr3) st3 stop) fun r s4 ⟨hr,I4⟩=>?_)
  subst hr
  exact ak1 ⟨σ3,H3,I4,qn⟩
 ·refine O0 hp (thn (T.item X rfl rfl rfl hc i pins s3 σ3 H3 X.xe I3 (stat fr3) st3 go) fun r s4 ⟨u,hr,h4⟩=>?_)
  subst hr
  refine O0 hp (thn h4 fun _ s5 ⟨x,H5,I5,r5,y5,st5,fr5⟩=>?_)
  have I5':=I5.pinned (stat fr5) (T.obj _ _ st5)
  refine O0 hp (thn (hg _ s5 σ3 H5 x u _ I5' r5 (step x H5 y5)) fun _ s6 ⟨σ6,H6,I6,q6⟩=>?_)
  refine O0 hp (thn (hb _ s6 σ6 H6 _ I6 q6) fun f s7 q7=>?_)
  have again:∀ {σ7:St} {H7:Hp},Inv X (pins++ad6 fp s5.heap) σ7 H7 s7->N σ7 H7->∃ m,m<n/\∃ i σ' H',Inv X pins σ' H' s7/\tn i s7.heap/\(∀ b∈fp,H' b=none)/\W i m σ' H':=fun {σ7 H7} I7 n7=>by
   obtain⟨m',hm,w7⟩:=hN σ7 H7 n7
   refine⟨m',hm,i+1,σ7,H7,I7.unpinned,T.keep _ _ _ st5 fun b hb o e=>(I7.pin (b,o) (d6 _ (d6 _ (L6 hb e)))).1,fun b hb=>?_,w7⟩
   obtain⟨o,e,d⟩:=T.obj _ _ st5 b hb
   exact(I7.pin (b,o) (d6 _ (d6 _ (L6 hb e)))).2.1
  cases f with
  | next=>obtain⟨σ7,H7,I7,n7⟩:=q7;exact again I7 n7
  | cont=>obtain⟨σ7,H7,I7,n7⟩:=q7;exact again I7 n7
  | brk=>obtain⟨σ7,H7,I7,q7⟩:=q7;exact⟨σ7,H7,I7.unpinned,q7⟩
  | ret v=>obtain⟨x7,σ7,H7,I7,r7,q7⟩:=q7;exact⟨x7,σ7,H7,I7.unpinned,r7,q7⟩
theorem X0 {K:W.Frag}{g:TG}{tb:TS}{D:Ends}(Pv:Nat->St->Hp->Prop)(h0:Pv 0 σ H)(hl:∀ i σ H,i<=xs.length->Pv i σ H->SqL K H a xs)
  (hs:∀ i x σ H,xs[i]?=some x->Pv i σ H->g x σ H fun σ2 H2=>tb { D with nx:=Pv (i+1),ct:=Pv (i+1),bk:=D.nx } σ2 H2)(hd:∀ σ H,Pv xs.length σ H->D.nx σ H) :
  ∃ W:Nat->Nat->St->Hp->Prop,(∃ m,W 0 m σ H)/\∀ i m σ H,W i m σ H ->
   ((Itl K a).stop i H/\D.nx σ H)\/((Itl K a).go i H/\∃ N:St->Hp->Prop,(∀ σ' H',N σ' H'->∃ m',m'<m/\W (i+1) m' σ' H')/\∀ x H',(Itl K a).yld i H x H'->g x σ H' fun σ2 H2=>tb { D with nx:=N,ct:=N,bk:=D.nx } σ2 H2):=by
 refine⟨fun i m σ H=>m=xs.length - i/\i<=xs.length/\Pv i σ H,⟨xs.length,by simp,k9 _,h0⟩,?_⟩
 rintro i m σ H ⟨rfl,hi,p⟩
 have q:=hl i σ H hi p
 by_cases hlt:i<xs.length
 ·refine .inr ⟨⟨xs,xs[i],q,by simp[hlt]⟩,Pv (i+1),fun σ' H' p'=>⟨xs.length - (i+1),by omega,rfl,hlt,p'⟩,fun x H' y=>?_⟩
  obtain⟨e,y⟩:=y
  subst e
  exact hs i x σ _ (y xs q) p
 ·have e:i=xs.length:=by omega
  subst e
  exact .inl ⟨⟨xs,q,c6 _⟩,hd σ H p⟩
theorem bn5 {K:W.Frag}{g:TG}{tb:TS}{D:Ends}(Pv:Nat->St->Hp->Prop)(h0:Pv 0 σ H)(hl:∀ i σ H,i<=xs.length->Pv i σ H->SqT K H a xs)
  (hs:∀ i x σ H,xs[i]?=some x->Pv i σ H->g x σ H fun σ2 H2=>tb { D with nx:=Pv (i+1),ct:=Pv (i+1),bk:=D.nx } σ2 H2)(hd:∀ σ H,Pv xs.length σ H->D.nx σ H) :
  ∃ W:Nat->Nat->St->Hp->Prop,(∃ m,W 0 m σ H)/\∀ i m σ H,W i m σ H ->
   ((Itt K a).stop i H/\D.nx σ H)\/((Itt K a).go i H/\∃ N:St->Hp->Prop,(∀ σ' H',N σ' H'->∃ m',m'<m/\W (i+1) m' σ' H')/\∀ x H',(Itt K a).yld i H x H'->g x σ H' fun σ2 H2=>tb { D with nx:=N,ct:=N,bk:=D.nx } σ2 H2):=by
 refine⟨fun i m σ H=>m=xs.length - i/\i<=xs.length/\Pv i σ H,⟨xs.length,by simp,k9 _,h0⟩,?_⟩
 rintro i m σ H ⟨rfl,hi,p⟩
 have q:=hl i σ H hi p
 by_cases hlt:i<xs.length
 ·refine .inr ⟨⟨xs,xs[i],q,by simp[hlt]⟩,Pv (i+1),fun σ' H' p'=>⟨xs.length - (i+1),by omega,rfl,hlt,p'⟩,fun x H' y=>?_⟩
  obtain⟨e,y⟩:=y
  subst e
  exact hs i x σ _ (y xs q) p
 ·have e:i=xs.length:=by omega
  subst e
  exact .inl ⟨⟨xs,q,c6 _⟩,hd σ H p⟩
theorem W9 {lo:Int}{g:TG}{tb:TS}{D:Ends}(Pv:Nat->St->Hp->Prop)(h0:Pv 0 σ H)
  (hs:∀ i σ H,i<n->Pv i σ H->g (.int (lo+i)) σ H fun σ2 H2=>tb { D with nx:=Pv (i+1),ct:=Pv (i+1),bk:=D.nx } σ2 H2)(hd:∀ σ H,Pv n σ H->D.nx σ H) :
  ∃ W:Nat->Nat->St->Hp->Prop,(∃ m,W 0 m σ H)/\∀ i m σ H,W i m σ H ->
   ((Itr lo n).stop i H/\D.nx σ H)\/((Itr lo n).go i H/\∃ N:St->Hp->Prop,(∀ σ' H',N σ' H'->∃ m',m'<m/\W (i+1) m' σ' H')/\∀ x H',(Itr lo n).yld i H x H'->g x σ H' fun σ2 H2=>tb { D with nx:=N,ct:=N,bk:=D.nx } σ2 H2):=by
 refine⟨fun i m σ H=>m=n - i/\i<=n/\Pv i σ H,⟨n,by simp,k9 _,h0⟩,?_⟩
 rintro i m σ H ⟨rfl,hi,p⟩
 by_cases hlt:i<n
 ·refine .inr ⟨hlt,Pv (i+1),fun σ' H' p'=>⟨n - (i+1),by omega,rfl,hlt,p'⟩,fun x H' y=>?_⟩
  obtain⟨e,y⟩:=y
  subst e y
  exact hs i σ _ hlt p
 ·have e:i=n:=by omega
  subst e
  exact .inl ⟨c6 _,hd σ H p⟩
abbrev R2:=V->V->Hp->VK->Prop
def OpR (X:Cx)(f:Value->Value->Sem Value)(r:R2):Prop:=
 ∀ (pins:List (Addr × Obj)) (s:Shared) (σ:St) (H:Hp) (x y:V) (v u:Value) (Q:VK),Inv X pins σ H s->RelV x v->RelV y u->r x y H Q ->
  m5 (m7 X.prog X.w) X.A (f v u) (EP X pins σ Q) X.xe s
def P3 (X:Cx)(f:Value)(r:List V->Hp->VK->Prop):Prop:=
 ∀ (pins:List (Addr × Obj)) (s:Shared) (σ:St) (H:Hp) (xs:List V) (us:List Value) (Q:VK),Inv X pins σ H s->x9 xs us->r xs H Q ->
  m5 (m7 X.prog X.w) X.A (call f us) (EP X pins σ Q) X.xe s
def tOp (r:R2)(ta tb:TE):TE:=fun σ H Q=>ta σ H fun x H1=>tb σ H1 fun y H2=>r x y H2 Q
def rI (C:Int->Int->Prop)(g:Int->Int->V):R2:=fun x y H Q=>∃ i j,x=.int i/\y=.int j/\C i j/\Q (g i j) H
def rI0 (g:Int->Int->V):R2:=fun x y H Q=>∃ i j,x=.int i/\y=.int j/\Q (g i j) H
section
variable {a b c:Expr} {tb tc:TE}
theorem bz3 (ha:PE X a ta)(hb:PE X b tb){R:V->V->Hp->Prop}(I:Inv X pins σ H s)
  (h:ta σ H fun x H1=>tb σ H1 fun y H2=>R x y H2){f:Value->Value->Sem Value}
  (hf:∀ v u s2 x y H2,Inv X pins σ H2 s2->RelV x v->RelV y u->R x y H2->m5 (m7 X.prog X.w) X.A (f v u) Q X.xe s2) :
  m5 (m7 X.prog X.w) X.A (eval a X.env) (fun v s₁=>m5 (m7 X.prog X.w) X.A (eval b X.env) (fun u s₂=>m5 (m7 X.prog X.w) X.A (f v u) Q X.xe s₂) X.xe s₁) X.xe s:=by
 refine thn (ha pins s σ H _ I h) fun v s1 ⟨x,H1,I1,r1,q1⟩=>?_
 refine thn (hb pins s1 σ H1 _ I1 q1) fun u s2 ⟨y,H2,I2,r2,q2⟩=>?_
 exact hf v u s2 x y H2 I2 r1 r2 q2
theorem C7 {op:Operator}{r:R2}(ho:OpR X (ab1 op) r)(ha:PE X a ta)(hb:PE X b tb):PE X (.BinOp a op b pos) (tOp r ta tb):=by
 intro pins s σ H Q I h
 exact wpAny_BinOp (bz3 ha hb I h fun v u s2 x y H2 I2 rx ry q=>ho pins s2 σ H2 x y v u Q I2 rx ry q)
theorem opI {f:Value->Value->Sem Value}{C:Int->Int->Prop}{g:Int->Int->Int}
  (rule:∀ (i j:Int) (t u:Tok) (s:Shared) (Q:Value->Shared->Prop) (E:Value->Shared->Prop),C i j->Q (.int (g i j) s.toks) { s with toks:=s.toks+1 }->m5 (m7 X.prog X.w) X.A (f (.int i t) (.int j u)) Q E s) :
  OpR X f (rI C fun i j=>.int (g i j)):=by
 intro pins s σ H x y v u Q I rx ry h
 obtain⟨i,j,rfl,rfl,hc,q⟩:=h
 obtain⟨t,rfl⟩:=rx
 obtain⟨t',rfl⟩:=ry
 exact rule i j t t' s _ _ hc ⟨.int (g i j),H,I.tok _,⟨_,rfl⟩,q⟩
theorem bv9 {f:Value->Value->Sem Value}{g:Int->Int->Int}
  (rule:∀ (i j:Int) (t u:Tok) (s:Shared) (Q:Value->Shared->Prop) (E:Value->Shared->Prop),Q (.int (g i j) s.toks) { s with toks:=s.toks+1 }->m5 (m7 X.prog X.w) X.A (f (.int i t) (.int j u)) Q E s) :
  OpR X f (rI0 fun i j=>.int (g i j)):=by
 intro pins s σ H x y v u Q I rx ry h
 obtain⟨i,j,rfl,rfl,q⟩:=h
 obtain⟨t,rfl⟩:=rx
 obtain⟨t',rfl⟩:=ry
 exact rule i j t t' s _ _ ⟨.int (g i j),H,I.tok _,⟨_,rfl⟩,q⟩
theorem bF2 {f:Value->Value->Sem Value}{g:Int->Int->Bool}
  (rule:∀ (i j:Int) (t u:Tok) (s:Shared) (Q:Value->Shared->Prop) (E:Value->Shared->Prop),Q (.bool (g i j)) s->m5 (m7 X.prog X.w) X.A (f (.int i t) (.int j u)) Q E s) :
  OpR X f (rI0 fun i j=>.bl (g i j)):=by
 intro pins s σ H x y v u Q I rx ry h
 obtain⟨i,j,rfl,rfl,q⟩:=h
 obtain⟨t,rfl⟩:=rx
 obtain⟨t',rfl⟩:=ry
 exact rule i j t t' s _ _ ⟨.bl (g i j),H,I,rfl,q⟩
def bJ7 (i j:Int):Prop:=0<j/\j<1073741824
def bz6 (i j:Int):Prop:=(-(2 ^ 64)<i/\i<2 ^ 64)\/(-(2 ^ 64)<j/\j<2 ^ 64)
theorem bz6.ok {i j:Int}(h:bz6 i j):IntMulOk i j:=by
 rcases h with⟨h1,h2⟩ | ⟨h1,h2⟩
 ·exact .of_left (intBits_le_64 h1 h2)
 ·exact .of_right (intBits_le_64 h1 h2)
theorem aI3 (k:Nat):(0:Int)<=2 ^ k:=by
 rw[two_pow_cast]
 exact Int.natCast_nonneg _
theorem Y3:OpR X (ab1 .Add) (rI0 fun i j=>.int (i+j)):=bv9 fun _ _ _ _ _ _ _ q=>add_int q
theorem bv2:OpR X (ab1 .Sub) (rI0 fun i j=>.int (i - j)):=bv9 fun _ _ _ _ _ _ _ q=>sub_int q
theorem ax1:OpR X (ab1 .Mult) (rI bz6 fun i j=>.int (i*j)):=opI fun _ _ _ _ _ _ _ hc q=>mul_int q hc.ok
theorem ab7:OpR X (ab1 .FloorDiv) (rI bJ7 fun i j=>.int (i / j)):=opI fun i j _ _ _ _ _ hc q=>by
 have h1:(0:Int)<j:=hc.1
 have h2:j<1073741824:=hc.2
 exact floordiv_int (by omega) (by rw[aM4 i (by omega)];exact q) (.inl (PyProof.noPylong_small (by omega)))
theorem T8:OpR X (ab1 .Mod) (rI (fun _ j=>0<j) fun i j=>.int (i % j)):=opI fun i j _ _ _ _ _ hc q=>by
 have h1:(0:Int)<j:=hc
 exact mod_int' (by omega) (by rw[Int.fmod_eq_emod_of_nonneg i (by omega)];exact q)
theorem bv3:OpR X (ab1 .RShift) (rI (fun _ j=>0<=j) fun i j=>.int (i / 2 ^ j.toNat)):=opI fun i j _ _ _ _ _ hc q =>
 rshift_int hc (by rw[aM4 i (aI3 _)];exact q)
theorem bv8:OpR X (ab1 .BitAnd) (rI0 fun i j=>.int (Builtin.bitAnd i j)):=bv9 fun _ _ _ _ _ _ _ q=>and_int q
end
def bD6:V->V->Bool
 | .non,.non=>true | .non,.int _=>true | .int _,.non=>true | .non,.bl _=>true | .bl _,.non=>true | .non,.str _=>true | .str _,.non=>true
 | .int _,.int _=>true | .bl _,.bl _=>true | .str _,.str _=>true | .byt _,.byt _=>true
 | .int _,.str _=>true | .str _,.int _=>true | .bl _,.str _=>true | .str _,.bl _=>true
 | _,_=>false
def rEq:R2:=fun x y H Q=>bD6 x y=true/\Q (.bl (decide (x=y))) H
def rNe:R2:=fun x y H Q=>bD6 x y=true/\Q (.bl (!decide (x=y))) H
theorem aR7 {i j:Int}:decide (V.int i=V.int j)=(i == j):=by
 rw[F6]
 simp
theorem bf8 {i j:Bool}:decide (V.bl i=V.bl j)=(i == j):=by
 rw[F6]
 simp
theorem aR6 {i j:Str}:decide (V.str i=V.str j)=(i == j):=by
 rw[F6]
 simp
theorem aR8 {i j:Array UInt8}:decide (V.byt i=V.byt j)=(i.toList == j.toList):=by
 rw[F6]
 cases i
 cases j
 simp
section
variable {a b c:Expr} {tb tc:TE}
theorem B1 {Q:VK}{k k':Bool}(I:Inv X pins σ H s)(q:Q (.bl k) H)(e:k=k'):EP X pins σ Q (.bool k') s:=by
 subst e
 exact⟨.bl k,H,I,rfl,q⟩
theorem at4:OpR X (C1 .Eq) rEq:=by
 intro pins s σ H x y v u Q I rx ry h
 obtain⟨hs,q⟩:=h
 cases x with
 | non =>
  cases rx
  cases y with
  | non=>cases ry;exact PySem.EqNone.eq_none_none (B1 I q (by simp))
  | bl j=>cases ry;exact PySem.EqNone.eq_none_bool (B1 I q (by simp))
  | int j=>obtain⟨t',rfl⟩:=ry;exact PySem.EqNone.eq_none_int (B1 I q (by simp))
  | str j=>obtain⟨t',rfl⟩:=ry;exact PySem.EqNone.eq_none_str (B1 I q (by simp))
  | _=>exact absurd (show false=true from hs) c7
 | bl i =>
  cases rx
  cases y with
  | non=>cases ry;exact PySem.EqNone.eq_bool_none (B1 I q (by simp))
  | bl j=>cases ry;exact eq_bool (B1 I q bf8)
  | str j=>obtain⟨t',rfl⟩:=ry;exact PySem.EqMixed.eq_bool_str (B1 I q (by simp))
  | _=>exact absurd (show false=true from hs) c7
 | int i =>
  obtain⟨t,rfl⟩:=rx
  cases y with
  | non=>cases ry;exact PySem.EqNone.eq_int_none (B1 I q (by simp))
  | int j=>obtain⟨t',rfl⟩:=ry;exact eq_int (B1 I q aR7)
  | str j=>obtain⟨t',rfl⟩:=ry;exact PySem.EqMixed.eq_int_str (B1 I q (by simp))
  | _=>exact absurd (show false=true from hs) c7
 | str i =>
  obtain⟨t,rfl⟩:=rx
  cases y with
  | non=>cases ry;exact PySem.EqNone.eq_str_none (B1 I q (by simp))
  | bl j=>cases ry;exact PySem.EqMixed.eq_str_bool (B1 I q (by simp))
  | int j=>obtain⟨t',rfl⟩:=ry;exact PySem.EqMixed.eq_str_int (B1 I q (by simp))
  | str j=>obtain⟨t',rfl⟩:=ry;exact eq_str (B1 I q aR6)
  | _=>exact absurd (show false=true from hs) c7
 | byt i =>
  obtain⟨t,rfl⟩:=rx
  cases y with
  | byt j=>obtain⟨t',rfl⟩:=ry;exact PySem.W.eq_bytes (B1 I q aR8)
  | _=>exact absurd (show false=true from hs) c7
 | _=>cases y<;>exact absurd (show false=true from hs) c7
theorem bq6:OpR X (C1 .NotEq) rNe:=by
 intro pins s σ H x y v u Q I rx ry h
 obtain⟨hs,q⟩:=h
 cases x with
 | non =>
  cases rx
  cases y with
  | non=>cases ry;exact PySem.EqNone.ne_none_none (B1 I q (by simp))
  | bl j=>cases ry;exact PySem.EqNone.ne_none_bool (B1 I q (by simp))
  | int j=>obtain⟨t',rfl⟩:=ry;exact PySem.EqNone.ne_none_int (B1 I q (by simp))
  | str j=>obtain⟨t',rfl⟩:=ry;exact PySem.EqNone.ne_none_str (B1 I q (by simp))
  | _=>exact absurd (show false=true from hs) c7
 | bl i =>
  cases rx
  cases y with
  | non=>cases ry;exact PySem.EqNone.ne_bool_none (B1 I q (by simp))
  | bl j=>cases ry;exact ne_bool (B1 I q (congrArg not bf8))
  | str j=>obtain⟨t',rfl⟩:=ry;exact PySem.EqMixed.ne_bool_str (B1 I q (by simp))
  | _=>exact absurd (show false=true from hs) c7
 | int i =>
  obtain⟨t,rfl⟩:=rx
  cases y with
  | non=>cases ry;exact PySem.EqNone.ne_int_none (B1 I q (by simp))
  | int j=>obtain⟨t',rfl⟩:=ry;exact ne_int (B1 I q (congrArg not aR7))
  | str j=>obtain⟨t',rfl⟩:=ry;exact PySem.EqMixed.ne_int_str (B1 I q (by simp))
  | _=>exact absurd (show false=true from hs) c7
 | str i =>
  obtain⟨t,rfl⟩:=rx
  cases y with
  | non=>cases ry;exact PySem.EqNone.ne_str_none (B1 I q (by simp))
  | bl j=>cases ry;exact PySem.EqMixed.ne_str_bool (B1 I q (by simp))
  | int j=>obtain⟨t',rfl⟩:=ry;exact PySem.EqMixed.ne_str_int (B1 I q (by simp))
  | str j=>obtain⟨t',rfl⟩:=ry;exact ne_str (B1 I q (congrArg not aR6))
  | _=>exact absurd (show false=true from hs) c7
 | byt i =>
  obtain⟨t,rfl⟩:=rx
  cases y with
  | byt j=>obtain⟨t',rfl⟩:=ry;exact PySem.W.ne_bytes (B1 I q (congrArg not aR8))
  | _=>exact absurd (show false=true from hs) c7
 | _=>cases y<;>exact absurd (show false=true from hs) c7
theorem aj3:OpR X (C1 .Lt) (rI0 fun i j=>.bl (decide (i<j))):=bF2 fun _ _ _ _ _ _ _ q=>lt_int q
theorem aD5:OpR X (C1 .LtE) (rI0 fun i j=>.bl (decide (i<=j))):=bF2 fun _ _ _ _ _ _ _ q=>le_int q
theorem J5 (b:Expr){op:CmpOp}(h:op≠.In:=by decide)(h2:op≠.NotIn:=by decide):ae1 op b=false:=by
 have e1:(op == CmpOp.In)=false:=by cases op<;>first | rfl | exact absurd rfl h
 have e2:(op == CmpOp.NotIn)=false:=by cases op<;>first | rfl | exact absurd rfl h2
 cases b<;>simp[ae1,e1,e2]
theorem Y1 {op:CmpOp}{r:R2}(ho:OpR X (C1 op) r)(ha:PE X a ta)(hb:PE X b tb)(hm:ae1 op b=false):PE X (.Compare a [op] [b] pos) (tOp r ta tb):=by
 intro pins s σ H Q I h
 exact wpAny_Compare1 (bz3 ha hb I h fun v u s2 x y H2 I2 rx ry q=>ho pins s2 σ H2 x y v u Q I2 rx ry q) hm
def bp7 (t:TE):TT:=fun σ H Q=>t σ H fun x H'=>∃ k,x=.bl k/\Q k H'
theorem F2 {op:CmpOp}{r:R2}(ho:OpR X (C1 op) r)(ha:PE X a ta)(hb:PE X b tb)(hm:ae1 op b=false):PT X (.Compare a [op] [b] pos) (bp7 (tOp r ta tb)):=by
 intro pins s σ H Q I h
 refine br6 (thn (ha pins s σ H _ I h) fun v s1 ⟨x,H1,I1,r1,q1⟩=>thn (hb pins s1 σ H1 _ I1 q1) fun u s2 ⟨y,H2,I2,r2,q2⟩ =>
  thn (ho pins s2 σ H2 x y v u _ I2 r1 r2 q2) fun c s3 ⟨z,H3,I3,r3,k,e,q3⟩=>?_) hm
 subst e
 cases r3
 exact B4 ⟨H3,I3,q3⟩
def aY9 (r r':R2)(ta tb tc:TE):TE:=fun σ H Q=>ta σ H fun x H1=>tb σ H1 fun y H2=>r x y H2 fun z H3=>∃ k,z=.bl k /\
 (if k=true then tc σ H3 fun w' H4=>r' y w' H4 Q else Q (.bl false) H3)
theorem bc1 {op op':CmpOp}{r r':R2}(ho:OpR X (C1 op) r)(ho':OpR X (C1 op') r')(ha:PE X a ta)(hb:PE X b tb)(hc:PE X c tc)
  (hm:lastMarks [op,op'] [b,c]=false:=by with_unfolding_all rfl):PE X (.Compare a [op,op'] [b,c] pos) (aY9 r r' ta tb tc):=by
 intro pins s σ H Q I h
 refine Compare_chain (thn (ha pins s σ H _ I h) fun v s1 ⟨x,H1,I1,r1,q1⟩=>chain_link (thn (hb pins s1 σ H1 _ I1 q1) fun u s2 ⟨y,H2,I2,r2,q2⟩ =>
  thn (ho pins s2 σ H2 x y v u _ I2 r1 r2 q2) fun d s3 ⟨z,H3,I3,r3,k,e,q3⟩=>?_)) hm
 subst e
 cases r3
 refine B4 ?_
 cases k with
 | false=>exact ite_ff ⟨.bl false,H3,I3,rfl,q3⟩
 | true=>exact ite_tt (chain_last (thn (hc pins s3 σ H3 _ I3 q3) fun w' s4 ⟨z',H4,I4,r4,q4⟩=>ho' pins s4 σ H4 y z' u w' Q I4 r2 r4 q4))
theorem aD2 {op op':CmpOp}{r r':R2}(ho:OpR X (C1 op) r)(ho':OpR X (C1 op') r')(ha:PE X a ta)(hb:PE X b tb)(hc:PE X c tc)
  (hm:lastMarks [op,op'] [b,c]=false:=by with_unfolding_all rfl):PT X (.Compare a [op,op'] [b,c] pos) (bp7 (aY9 r r' ta tb tc)):=by
 intro pins s σ H Q I h
 refine isTrue_chain (thn (ha pins s σ H _ I h) fun v s1 ⟨x,H1,I1,r1,q1⟩=>test_link (thn (hb pins s1 σ H1 _ I1 q1) fun u s2 ⟨y,H2,I2,r2,q2⟩ =>
  thn (ho pins s2 σ H2 x y v u _ I2 r1 r2 q2) fun d s3 ⟨z,H3,I3,r3,k,e,q3⟩=>?_)) hm
 subst e
 cases r3
 refine B4 ?_
 cases k with
 | false =>
  obtain⟨k',e',q'⟩:=q3
  cases e'
  exact ite_ff ⟨H3,I3,q'⟩
 | true =>
  refine ite_tt (test_last (thn (hc pins s3 σ H3 _ I3 q3) fun w' s4 ⟨z',H4,I4,r4,q4⟩=>thn (ho' pins s4 σ H4 y z' u w' _ I4 r2 r4 q4) fun d' s5 ⟨z2,H5,I5,r5,k2,e2,q5⟩=>?_))
  subst e2
  cases r5
  exact B4 ⟨H5,I5,q5⟩
theorem ap6:(d7:Nat)<2 ^ 63:=by rw[sizeLine_eq];decide
theorem vals1 {x:V}(r:x9 [x] us):∃ u,us=[u]/\RelV x u:=by
 cases r with
 | cons r1 r2=>cases r2;exact⟨_,rfl,r1⟩
theorem vals2 {x y:V}(r:x9 [x,y] us):∃ u w',us=[u,w']/\RelV x u/\RelV y w':=by
 cases r with
 | cons r1 r2 =>
  cases r2 with
  | cons r3 r4=>cases r4;exact⟨_,_,rfl,r1,r3⟩
theorem au4 (hc:X.calm=true):P3 X (.builtin "max") (fun xs H Q=>∃ i j,xs=[.int i,.int j]/\Q (.int (if j > i then j else i)) H):=by
 intro pins s σ H xs us Q I r h
 obtain⟨i,j,rfl,q⟩:=h
 obtain⟨u,w',rfl,⟨t,rfl⟩,⟨t',rfl⟩⟩:=vals2 r
 refine max_two_ints (I.ok.hd hc) fun h' tk k=>⟨_,H,I.kept k,?_,q⟩
 by_cases hj:j > i
 ·rw[if_pos hj,if_pos hj];exact⟨_,rfl⟩
 ·rw[if_neg hj,if_neg hj];exact⟨_,rfl⟩
theorem ai5 (hc:X.calm=true):P3 X (.builtin "min") (fun xs H Q=>∃ i j,xs=[.int i,.int j]/\Q (.int (if j<i then j else i)) H):=by
 intro pins s σ H xs us Q I r h
 obtain⟨i,j,rfl,q⟩:=h
 obtain⟨u,w',rfl,⟨t,rfl⟩,⟨t',rfl⟩⟩:=vals2 r
 refine min_two_ints (I.ok.hd hc) fun h' tk k=>⟨_,H,I.kept k,?_,q⟩
 by_cases hj:j<i
 ·rw[if_pos hj,if_pos hj];exact⟨_,rfl⟩
 ·rw[if_neg hj,if_neg hj];exact⟨_,rfl⟩
end
structure bJ8 (h:Heap) (x dx C:Addr) (mA:Str->Option Value):Prop where
 obj:h.get? x=some (PySem.W.instObj C dx)
 ns:h.Ns1 dx mA
 ne:dx≠x
section
variable {K:W.Frag} {x dx:Addr} {mA:Str->Option Value} {name:Str}
end
section
variable {dx:Addr} {fs fs':List (Str × V)}
end
structure Cls (K:W.Frag) (C:Addr):Prop where
 pg:PySem.W.plainGet K C Str.empty=true
 hd:PySem.W.hasDictIn K C=true
 po:PySem.W.plainOver K C=true
 sa:PySem.W.findIn K (.ref C) "__setattr__"=some (some (.builtin "object.__setattr__"))
structure Con (K:W.Frag) (C:Addr) (f:Str) (v:V) (u:Value):Prop where
 at_:PySem.W.findIn K (.ref C) f=some (some u)
 rel:RelV v u
 get:PySem.W.specialIn K u "__get__"=some none
 cp:PySem.W.copiedNames.contains f=false
structure bJ9 (K:W.Frag) (C:Addr) (m:Str) (f:Addr):Prop where
 at_:PySem.W.findIn K (.ref C) m=some (some (.ref f))
 fn:PySem.W.isFn K (.ref f)=true
 kp:X6 K (.ref f)=true
section
variable {dx:Addr} {fs:List (Str × V)} {f:Str} {v:V}
end
section
variable {value:Expr} {f:Str} {pos' tpos:Pos} {tv:TE}
end
section
variable {c:Value} {b:Bool}
inductive ar0 (K:W.Frag) (H:Hp):V->Value->Prop where
 | non:ar0 K H .non (.type "NoneType")
 | bl (x:Bool):ar0 K H (.bl x) (.type "bool")
 | int (i:Int):ar0 K H (.int i) (.type "int")
 | str (x:Str):ar0 K H (.str x) (.type "str")
 | flt (x:UInt64):ar0 K H (.flt x) (.type "float")
 | lst {a:Addr} {xs:List V} (e:H a=some (.lst xs)):ar0 K H (.ref a) (.type "list")
 | frz {a:Addr} {o:Obj} {xs:List V} (e:H a=some (.frz o (.lst xs))):ar0 K H (.ref a) (.type "list")
 | tup {a:Addr} {xs:List V} (e:H a=some (.tup xs)):ar0 K H (.ref a) (.type "tuple")
 | dK {a:Addr} {kvs:List (Key × V)} (e:H a=some (.dK kvs)):ar0 K H (.ref a) (.type "dict")
 | dT {a:Addr} {kvs:List (List Key × V)} (e:H a=some (.dT kvs)):ar0 K H (.ref a) (.type "dict")
 | ins {a C dx:Addr} {fs:List (Str × V)} (e:H a=some (.ins C dx fs)) (cl:Cls K C) (ha:PySem.W.findIn K (.ref C) "__class__"=some (some (.builtin "object.__class__")))
   (hn:PySem.W.specialIn K (.builtin "object.__class__") "__get__"=some (some (.builtin "getset_descriptor.__get__"))) (htk:PySem.W.takesIn K (.builtin "object.__class__")=some true)
   (hm:PySem.W.mroIn K C (.type "object")=some true):ar0 K H (.ref a) (.ref C)
end
structure U4 (k:Nat) (A:Around):Prop where
 hd:A.handled=none
 dp:A.depth+3*k+5<recursionLimit
 un:A.units+16*k+200<G0
theorem U4.mono {k:Nat}(r:U4 k A)(h:j<=k):U4 j A:=⟨r.hd,by have:=r.dp;omega,by have:=r.un;omega⟩
theorem U4.deeper {k:Nat}(r:U4 (k+1) A)(env:Env):U4 k (A.deeper env):=
 ⟨r.hd,by have:=r.dp;show A.depth+1+3*k+5<_;omega,by have:=r.un;show A.units+3+16*k+200<_;omega⟩
theorem U4.depth {k:Nat}(r:U4 k A):A.depth<recursionLimit:=by have:=r.dp;omega
theorem U4.units {k:Nat}(r:U4 k A):A.units+64<G0:=by have:=r.un;omega
def bH6:TA:=fun _ H Q=>Q [] H
def bD2 (ta:TE)(tr:TA):TA:=fun σ H Q=>ta σ H fun x H1=>tr σ H1 fun xs H2=>Q (x::xs) H2
section
variable {es:List Expr} {t:TA}
theorem g7:PA X [] bH6:=fun _ _ _ _ H Q I h=>Calls.spliced_nil ⟨[],H,I,.nil,h⟩
theorem a7 (ha:PE X e te)(hr:PA X es t)(hs:B7 (e::es) X.env=(false,eval e X.env)::B7 es X.env:=by rfl):PA X (e::es) (bD2 te t):=by
 intro pos pins s σ H Q I h
 rw[hs]
 show m5 _ _ (spliced ((false,eval e X.env)::ak0 pos (B7 es X.env))) _ _ s
 refine Calls.spliced_cons (thn (ha pins s σ H _ I h) fun u s1 ⟨x,H1,I1,r1,q1⟩=>?_)
 exact thn (hr pos pins s1 σ H1 _ I1 q1) fun us s2 ⟨xs,H2,I2,r2,q2⟩=>⟨x::xs,H2,I2,.cons r1 r2,q2⟩
def bH2 (t:TA):TE:=fun σ H Q=>t σ H fun xs H1=>xs.length<=d7/\∀ p,H1 p=none->Q (.ref p) (upd H1 p (.tup xs))
def bH7 (t:TA):TE:=fun σ H Q=>t σ H fun xs H1=>xs.length<=d7/\∀ p,H1 p=none->Q (.ref p) (upd H1 p (.lst xs))
theorem K8 {x1}(h:PA X es t):PE X (.Tuple es x1 pos) (bH2 t):=by
 intro pins s σ H Q I hq
 refine wpAny_Tuple_spliced (thn (h pos pins s σ H _ I hq) fun us s1 ⟨xs,H1,I1,r,z,q⟩=>⟨by rw[<- r.length];exact z,?_⟩)
 have hf:H1 s1.heap.objs.size=none:=I1.hok.fresh (c6 _)
 refine⟨.ref s1.heap.objs.size,upd H1 s1.heap.objs.size (.tup xs),I1.laid (t':=s1.toks) (fun b u e=>a5 _ e) (c6 _) ?_,rfl,q _ hf⟩
 exact⟨z,us,r,⟨_,l0 _ rfl,rfl,_,rfl⟩⟩
theorem P8 (h:PA X es t):PE X (.List es pos) (bH7 t):=by
 intro pins s σ H Q I hq
 refine wpAny_List_spliced (thn (h pos pins s σ H _ I hq) fun us s1 ⟨xs,H1,I1,r,z,q⟩=>⟨by rw[<- r.length];exact z,?_⟩)
 have hf:H1 s1.heap.objs.size=none:=I1.hok.fresh (c6 _)
 refine⟨.ref s1.heap.objs.size,upd H1 s1.heap.objs.size (.lst xs),I1.laid (t':=s1.toks) (fun b u e=>a5 _ e) (c6 _) ?_,rfl,q _ hf⟩
 exact⟨z,us,0,r,l0 _ rfl⟩
end
abbrev Sp:=List V->Hp->VK->XK->Prop
abbrev CXT:=List Env->Hp->Shared->XK->Value->Shared->Prop
structure bo7 (P:Program) (w:World) (K:W.Frag) (mg:Str->Option Value) (base:Heap) (A:Around) (outer:List Env) (s:Shared) (H:Hp):Prop where
 frames:A.frames=some outer
 mod:Mod K mg base
 bs:∀ b o,base.get? b=some o->s.heap.get? b=some o/\H b=none
 bsz:base.objs.size<=s.heap.objs.size
 funs:s.heap.FunFrames base outer
 frf:∀ b∈frs outer,H b=none
 hok:HOk P w H s.heap
 bare:aj9 s.gens
def CE (outer:List Env)(P:Program)(w:World)(H:Hp)(s:Shared)(Q:VK)(u:Value)(s':Shared):Prop:=
 ∃ v H',s'.os=s.os/\aj9 s'.gens/\Un (frs outer) [] H H' s.heap s'.heap/\HOk P w H' s'.heap/\RelV v u/\Q v H'
def CR (CX:CXT)(outer:List Env)(P:Program)(w:World)(H:Hp)(s:Shared)(Q:VK)(E:XK)(r:Result)(s':Shared):Prop:=
 match r with
 | .ok (.ret u)=>CE outer P w H s Q u s'
 | .ok _=>False
 | .error e=>CX outer H s E e s'
structure B6 (P:Program) (w:World) (K:W.Frag) (mg:Str->Option Value) (base:Heap) (CX:CXT) (k:Nat) (f:Addr) (fd:FuncData) (ps:List Str) (sp:Sp):Prop where
 len:∀ vs H Q E,sp vs H Q E->vs.length=ps.length
 run:∀ (A:Around) (outer:List Env) (s:Shared) (H:Hp) (args:Args) (us:List Value) (vs:List V) (Q:VK) (E:XK),U4 k A->bo7 P w K mg base A outer s H->aS3 s fd args (ps.zip us)->x9 vs us->sp vs H Q E ->
  ak2 (m7 P w) A (.call (.ref f) args) (CR CX outer P w H s Q E) s
theorem B6.mono {K:W.Frag}{mg:Str->Option Value}{base:Heap}{CX:CXT}{k:Nat}{sp:Sp}(F:B6 P w K mg base CX j f fd ps sp)(h:j<=k) :
  B6 P w K mg base CX k f fd ps sp:=⟨F.len,fun A outer s H args us vs Q E hr=>F.run A outer s H args us vs Q E (hr.mono h)⟩
section
variable {s':Shared}
theorem Inv.env0 (I:Inv X pins σ H s):bo7 X.prog X.w X.K X.mg X.base X.A X.stack s H:=
 ⟨I.ok.frames,I.ok.mod,I.bs,o5 I.ok.bsz I.sz,I.stack,I.stkFree,I.hok,I.bare⟩
theorem Inv.after {Q:VK}(I:Inv X pins σ H s)(h:CE X.stack X.prog X.w H s Q u s'):EP X pins σ Q u s':=by
 obtain⟨v,H',os,bare,un,hok,r,q⟩:=h
 obtain⟨hh,g,d,t,os'⟩:=s'
 obtain rfl:os'=s.os:=os
 exact⟨v,H',I.call (h':=hh) (g':=g) (d':=d) (t':=t) (ch:=[]) un hok bare (fun b z=>absurd z (by simp)),r,q⟩
end
def bp8 (sp:Sp)(dvs:List V)(E:XK)(t:TA):TE:=fun σ H Q=>t σ H fun vs H1=>sp (vs++dvs) H1 Q E
def Binds (K:W.Frag)(fd:FuncData)(ps:List Str)(ds:List Value):Prop:=
 ∀ (s:Shared) (us:List Value),K.In s.heap->(us++ds).length=ps.length->aS3 s fd ⟨us,[]⟩ (ps.zip (us++ds))
theorem Binds.all {K:W.Frag}(h:∀ us:List Value,us.length=ps.length->bindArgs fd ⟨us,[]⟩=pure (ps.zip us)):Binds K fd ps []:=fun s us _ hl=>by
 rw[y7]at hl ⊢
 exact .of_eq (h us hl)
def ar1 (CX:CXT)(X:Cx)(E:XK):Prop:=∀ (pins:List (Addr × Obj)) (σ:St) (H:Hp) (s:Shared) (e:Value) (s':Shared),Inv X pins σ H s->CX X.stack H s E e s'->X.xe e s'
section
variable {CX:CXT} {k:Nat} {sp:Sp} {dvs:List V} {ds:List Value} {E:XK} {m:Str} {p apos:Pos} {es:List Expr} {t:TA}
theorem bu5 {Q:VK}{vs:List V}(F:B6 X.prog X.w X.K X.mg X.base CX k f fd ps sp)(hr:U4 k X.A)(hb:Binds X.K fd ps ds)(hd:x9 dvs ds)(hx:ar1 CX X E)
  (I:Inv X pins σ H s)(r:x9 vs us)(h:sp (vs++dvs) H Q E):m5 (m7 X.prog X.w) X.A (call (.ref f) us) (EP X pins σ Q) X.xe s:=by
 have r2:x9 (vs++dvs) (us++ds):=r.append hd
 have hl:(us++ds).length=ps.length:=by rw[<- r2.length];exact F.len _ _ _ _ h
 refine wpAny_call (V9 (F.run X.A X.stack s H ⟨us,[]⟩ (us++ds) (vs++dvs) Q E hr I.env0 (hb s us I.kIn hl) r2 h) fun r s' hq=>?_)
 cases r with
 | error e=>exact hx pins σ H s e s' I hq
 | ok fl =>
  cases fl with
  | ret u=>exact I.after hq
  | next=>exact False.elim hq
  | brk=>exact False.elim hq
  | cont=>exact False.elim hq
theorem aw9 (F:B6 X.prog X.w X.K X.mg X.base CX k f fd ps sp)(hr:U4 k X.A)(hg:Gl X x)(hm:X.mg x=some (.ref f))(hk:X6 X.K (.ref f)=true)(hb:Binds X.K fd ps ds)(hd:x9 dvs ds)(hx:ar1 CX X E)
  (ha:PA X (e::es) t)(hdb:(x == ("__debug__":Str))=false:=by decide)(he:B7 (e::es) X.env=(false,eval e X.env)::B7 es X.env:=by rfl)(hpl:(ak0 pos (B7 es X.env)).any (·.1)=false:=by rfl) :
  PE X (.Call (.Name x p) (e::es) [] pos) (bp8 sp dvs E t):=by
 intro pins s σ H Q I h
 refine av2 (ax5 I hg hm ?_ hdb)
 refine PySem.W.callWith_K (h₀:=X.base) I.ok.mod.kin hk (thn (ha pos pins s σ H _ I h) fun us s1 ⟨vs,H1,I1,r,q⟩=>⟨I1.kIn,?_⟩) he hpl
 exact bu5 F hr hb hd hx I1 r q
structure Mk (K:W.Frag) (C f:Addr):Prop where
 makes:PySem.W.makesIn K C=true
 init:PySem.W.findIn K (.ref C) "__init__"=some (some (.ref f))
 fn:PySem.W.isFn K (.ref f)=true
 kp:X6 K (.ref C)=true
end
section
variable {CX:CXT} {k:Nat} {ks:List Str} {sp:Sp} {E:XK} {m:Str} {p apos kpos:Pos} {es:List Expr} {kws:List az9} {t tk:TA} {nm:Option Str}
structure bJ6 (K:W.Frag) (fd:FuncData) (ps ks:List Str) (g:List Value->List Value->List Value) (gV:List V->List V->List V):Prop where
 to:∀ (s:Shared) (us ws:List Value),K.In s.heap->(g us ws).length=ps.length->aS3 s fd ⟨us,ks.zip ws⟩ (ps.zip (g us ws))
 rel:∀ {vs:List V} {us:List Value} {zs:List V} {ws:List Value},x9 vs us->x9 zs ws->x9 (gV vs zs) (g us ws)
variable {g:List Value->List Value->List Value}
end
structure A7 (N P:List Str) (sc:Scope):Prop where
 kind:sc.kind=.function
 co:sc.isCoroutine=false
 gen:sc.isGenerator=false
 nd:N.Nodup
 pre:N.take P.length=P
 par:∀ x∈P,sc.names.lookup x=some .local\/sc.names.lookup x=some .cell
 nofree:∀ y∈sc.names,y.2≠.free
theorem A7.mk' {P:List Str}{sc:Scope}(a:sc.kind=.function:=by rfl)(b:sc.isCoroutine=false:=by rfl)(c:sc.isGenerator=false:=by rfl)(d:N.Nodup:=by decide +kernel)(e:N.take P.length=P:=by rfl)(f:∀ x∈P,sc.names.lookup x=some .local\/sc.names.lookup x=some .cell:=by decide +kernel)(g:∀ y∈sc.names,y.2≠.free:=by decide +kernel):A7 N P sc:=⟨a,b,c,d,e,f,g⟩
theorem au5 {kindOf:Str->Option am1}:∀ {binds:List (Str × Value)} {m:Str->Option Value},(∀ v,(x,v)∉binds)->bindL kindOf binds m x=m x
 | [],_,_=>rfl
 | (n,v)::r,m,h=>by
  unfold bindL
  rw[au5 fun w hw=>h w (b9 _ hw)]
  split
  ·have:x≠n:=by rintro rfl;exact h v b4
   simp[this]
  ·rfl
theorem au7 {kindOf:Str->Option am1}:∀ {binds:List (Str × Value)} {m:Str->Option Value},(∀ v,(x,v)∉binds)->bindC kindOf binds m x=m x
 | [],_,_=>rfl
 | (n,v)::r,m,h=>by
  unfold bindC
  rw[au7 fun w hw=>h w (b9 _ hw)]
  split
  ·rfl
  ·have:x≠n:=by rintro rfl;exact h v b4
   simp[this]
theorem au6 {kindOf:Str->Option am1}:∀ {P:List Str} {vs:List Value} {i:Nat} {m:Str->Option Value},P.Nodup->P[i]?=some x->vs[i]?=some v->kindOf x=some .local ->
  bindL kindOf (P.zip vs) m x=some v
 | [],_,_,_,_,h,_,_=>by simp at h
 | _::_,[],_,_,_,_,h,_=>by simp at h
 | p::P,w::vs,0,m,nd,h1,h2,hk=>by
  simp at h1 h2;subst h1;subst h2
  show bindL kindOf ((p,w)::P.zip vs) m p=_
  unfold bindL
  rw[au5 fun v hv=>(j1.mp nd).1 (aH1 hv).1,if_pos hk]
  simp
 | p::P,w::vs,i+1,m,nd,h1,h2,hk=>by
  show bindL kindOf ((p,w)::P.zip vs) m x=_
  unfold bindL
  exact au6 (i:=i) (j1.mp nd).2 (by simpa using h1) (by simpa using h2) hk
theorem au8 {kindOf:Str->Option am1}:∀ {P:List Str} {vs:List Value} {i:Nat} {m:Str->Option Value},P.Nodup->P[i]?=some x->vs[i]?=some v->kindOf x≠some .local ->
  bindC kindOf (P.zip vs) m x=some v
 | [],_,_,_,_,h,_,_=>by simp at h
 | _::_,[],_,_,_,_,h,_=>by simp at h
 | p::P,w::vs,0,m,nd,h1,h2,hk=>by
  simp at h1 h2;subst h1;subst h2
  show bindC kindOf ((p,w)::P.zip vs) m p=_
  unfold bindC
  rw[au7 fun v hv=>(j1.mp nd).1 (aH1 hv).1,if_neg hk]
  simp
 | p::P,w::vs,i+1,m,nd,h1,h2,hk=>by
  show bindC kindOf ((p,w)::P.zip vs) m x=_
  unfold bindC
  exact au8 (i:=i) (j1.mp nd).2 (by simpa using h1) (by simpa using h2) hk
def start (N:List Str)(vs:List V):St:=vs.map some++r9 (N.length - vs.length) none
def al3 (CX:CXT)(P:Program)(w:World)(K:W.Frag)(mg:Str->Option Value)(base:Heap)(N:List Str)(qual:Str)(scope:Scope)(f:Addr)(cd:Value)(A:Around)(outer:List Env)(s:Shared)(H:Hp)(E:XK):Cx where
 prog:=P
 w:=w
 K:=K
 mg:=mg
 base:=base
 A:=A.deeper (U0 qual scope s.heap.objs.size f cd)
 N:=N
 s₀:=s
 H₀:=H
 env:=U0 qual scope s.heap.objs.size f cd
 outer:=outer
 stack:=U0 qual scope s.heap.objs.size f cd::outer
 ex:=[]
 calm:=true
 fn:=fun _=>true
 pn:=[]
 xe:=fun e s'=>m5 (m7 P w) (A.deeper (U0 qual scope s.heap.objs.size f cd)) (leaving (U0 qual scope s.heap.objs.size f cd) e) (fun _ s''=>CX outer H s E e s'') (fun e' s''=>CX outer H s E e' s'') s'
theorem aG1 {sc:Scope}(h:sc.names.lookup x=some .cell):∃ c,(aS4 n sc.names []).lookup x=some c:=by
 have q:=PySem.W.cellsFrom_some sc.names n [] (.inl h)
 exact J6.mp q
theorem aV5 {CX:CXT}{K:W.Frag}{mg:Str->Option Value}{base:Heap}{cd:Value}{s1:Shared}{E:XK}{vs:List V}
  (S:A7 N ps scope)(hd:A.handled=none)(e0:bo7 P w K mg base A outer s H)(hl:vs.length=ps.length)(r:x9 vs us)
  (x:InCallC s s.heap.objs.size (bindL (U0 qual scope s.heap.objs.size f cd).kindOf (ps.zip us) fun _=>none) (aS4 (s.heap.objs.size+1) scope.names []) (bindC (U0 qual scope s.heap.objs.size f cd).kindOf (ps.zip us) fun _=>none) s1) :
  Inv (al3 CX P w K mg base N qual scope f cd A outer s H E) [] (start N vs) H s1:=by
 have hpl:ps.length<=N.length:=by have:=congrArg L0 S.pre;rw[y9]at this;omega
 obtain⟨h1,tk,rfl,hk⟩:=x.done
 have noA:∀ b:Addr,b∉(al3 CX P w K mg base N qual scope f cd A outer s H E).ex:=fun b z=>absurd (show b∈([]:List Addr) from z) (by simp)
 refine⟨⟨e0.mod,S.kind,rfl,rfl,c6 _,fun y z c h1 h2=>?_,fun y hy=>?_,fun y c _ h=>?_,fun _=>hd,Around.frames_deeper e0.frames,.inr ⟨rfl,rfl⟩,fun b z=>absurd z (noA b),e0.bs,e0.bsz,fun b _ _=>noA b,fun b z=>absurd z (noA b),e0.funs,e0.frf⟩,
  rfl,e0.bare,Un.kept hk,⟨_,x.toInCall.ns,fun i y v h1 h2 h3=>?_⟩,fun y c h=>⟨_,x.cell y c h⟩,e0.hok.fresh (c6 _),fun y c h=>?_,fun p hp=>absurd (show p∈([]:List (Addr × Obj)) from hp) (by simp),e0.hok.kept hk,?_⟩
 ·exact name_of_addr x.apart (PySem.mem_of_lookup h1) (PySem.mem_of_lookup h2)
 ·have hy:scope.names.lookup y=some .cell\/scope.names.lookup y=some .free:=hy
  rcases hy with hy | hy
  ·exact aG1 hy
  ·exact absurd rfl (S.nofree _ (PySem.mem_of_lookup hy))
 ·exact az2 (x.above y c (PySem.mem_of_lookup h))
 ·have hi:i<vs.length:=by
   unfold start at h2
   by_cases hi:i<vs.length
   ·exact hi
   ·rw[C5 (by simpa using hi)]at h2
    rw[List.getElem?_replicate]at h2
    split at h2<;>cases h2
  have ha:vs[i]?=some v:=by
   unfold start at h2
   rw[Z3 (by simpa using hi),j3]at h2
   cases e:vs[i]? with
   | none=>rw[e]at h2;cases h2
   | some a=>rw[e]at h2;cases h2;rfl
  obtain⟨u,hu,rv⟩:=r.get ha
  have hp:ps[i]?=some y:=by
   rw[<- S.pre,P4 (by omega)];exact h1
  have ndP:ps.Nodup:=by rw[<- S.pre];exact S.nd.sublist (aa9 _ _)
  refine⟨u,rv,?_⟩
  rcases S.par y (c8 hp) with k | k
  ·exact .inl ⟨k,au6 ndP hp hu k⟩
  ·obtain⟨c,e⟩:=aG1 (n:=s.heap.objs.size+1) k
   refine .inr ⟨.inl k,c,e,?_⟩
   have q:=x.cell y c e
   rw[au8 ndP hp hu (by show scope.names.lookup y≠_;rw[k];decide)]at q
   exact q
 ·exact e0.hok.fresh (az2 (x.above y c (PySem.mem_of_lookup h)))
 ·unfold start
  show _=N.length
  rw[c9,b6,List.length_replicate]
  omega
theorem br0 {CX:CXT} {K:W.Frag} {mg:Str->Option Value} {base:Heap} {k:Nat} {name:Str} {params:Arguments} {body:List Stmt} {dV kV doc pm cdv ct oc:Value} {an od:Option Addr}
  {osl:Array (Option Value)} {sp:Sp} (lk:K.lookup f=some ⟨oc,od,.func (O9 name qual params body scope dV kV doc pm an cdv ct),osl⟩) (hcd:az7 K cdv qual=true) (S:A7 N ps scope)
  (len:∀ vs H Q E,sp vs H Q E->vs.length=ps.length)
  (hbody : ∀ (A : Around) (outer : List Env) (s : Shared) (H : Hp) (vs : List V) (Q : VK) (E : XK), U4 k (A.deeper (U0 qual scope s.heap.objs.size f cdv)) -> sp vs H Q E ->
   ∃ t,PSs (al3 CX P w K mg base N qual scope f cdv A outer s H E) body t/\t { nx:=fun _ H'=>Q .non H',rt:=Q } (start N vs) H) :
  B6 P w K mg base CX (k+1) f (O9 name qual params body scope dV kV doc pm an cdv ct) ps sp:=by
 refine⟨len,fun A outer s H args us vs Q E hr e0 hb r hsp=>?_⟩
 have hl:=len _ _ _ _ hsp
 have KX:K.In s.heap:=e0.mod.kin.keeps fun b o e=>(e0.bs b o e).1
 have lim:s.heap.NoLimit:=e0.mod.nolimit.keeps fun b o e=>(e0.bs b o e).1
 have hkind:∀ y∈ps.zip us,scope.names.lookup y.1=some .local\/(scope.names.lookup y.1=some .cell/\((aS4 (s.heap.objs.size+1) scope.names []).lookup y.1).isSome=true):=fun⟨n,v⟩ hy=>by
  rcases S.par n (aH1 hy).1 with q | q
  ·exact .inl q
  ·exact .inr ⟨q,PySem.W.cellsFrom_some _ _ _ (.inl q)⟩
 refine codeAny_call_function hr.depth (KX _ _ lk) rfl S.co S.gen rfl (PySem.W.codeRec_of KX hcd) (hb _ _ _ _ ?_)
 refine wpAny_newFunctionEnv_cells S.kind hkind fun env he s1 x=>?_
 subst he
 refine⟨lim.keeps x.toInCall.keep,codeAny_func ?_⟩
 obtain⟨t,ht,hq⟩:=hbody A outer s H vs Q E (hr.deeper _) hsp
 have I:Inv (al3 CX P w K mg base N qual scope f cdv A outer s H E) [] (start N vs) H s1:=aV5 S hr.hd e0 hl r x
 refine C4 (ht [] s1 (start N vs) H _ I hq) (fun fl s' hs=>?_) fun e s' hs=>hs
 have fin:∀ {σ':St} {H':Hp} {v:V} {u:Value},Inv (al3 CX P w K mg base N qual scope f cdv A outer s H E) [] σ' H' s'->RelV v u->Q v H'->CE outer P w H s Q u s':=
  fun {σ' H' v u} J rv q=>⟨v,H',J.os,J.bare,J.base,J.hok,rv,q⟩
 cases fl with
 | ret u =>
  obtain⟨v,σ',H',J,rv,q⟩:=hs
  exact fin J rv q
 | next =>
  obtain⟨σ',H',J,q⟩:=hs
  exact fin (v:=V.non) (u:=Value.none) J rfl q
 | brk =>
  obtain⟨_,_,_,q⟩:=hs
  exact False.elim q
 | cont =>
  obtain⟨_,_,_,q⟩:=hs
  exact False.elim q
section
variable {p:Pos} {es:List Expr} {t:TA} {id T:String} {r:List V->Hp->VK->Prop}
def tCB (r:List V->Hp->VK->Prop)(t:TA):TE:=fun σ H Q=>t σ H fun vs H1=>r vs H1 Q
theorem A9 (hc:P3 X (.builtin id) r)(hg:Gl X x)(hm:X.mg x=none)(hv:ab0 x=some (.builtin id))(ha:PA X (e::es) t)(hn:x≠"__name__":=by decide)(hdb:(x == ("__debug__":Str))=false:=by decide)
  (he:B7 (e::es) X.env=(false,eval e X.env)::B7 es X.env:=by rfl)(hpl:(ak0 pos (B7 es X.env)).any (·.1)=false:=by rfl):PE X (.Call (.Name x p) (e::es) [] pos) (tCB r t):=by
 intro pins s σ H Q I h
 refine av2 (aK6 I hg hm hv ?_ hn hdb)
 exact PyProof.Rows.callWith_builtin1 (thn (ha pos pins s σ H _ I h) fun us s1 ⟨vs,H1,I1,r1,q1⟩=>hc pins s1 σ H1 vs us Q I1 r1 q1) he hpl
theorem K7 (hc:P3 X (.type T) r)(hg:Gl X x)(hm:X.mg x=none)(hv:ab0 x=some (.type T))(ha:PA X (e::es) t)(hn:x≠"__name__":=by decide)(hdb:(x == ("__debug__":Str))=false:=by decide)
  (he:B7 (e::es) X.env=(false,eval e X.env)::B7 es X.env:=by rfl)(hpl:(ak0 pos (B7 es X.env)).any (·.1)=false:=by rfl):PE X (.Call (.Name x p) (e::es) [] pos) (tCB r t):=by
 intro pins s σ H Q I h
 refine av2 (aK6 I hg hm hv ?_ hn hdb)
 exact PyProof.Rows.callWith_type1 (thn (ha pos pins s σ H _ I h) fun us s1 ⟨vs,H1,I1,r1,q1⟩=>hc pins s1 σ H1 vs us Q I1 r1 q1) he hpl
end
end L2
namespace HT
open PySem PyProof.Rows
def lexLt:List Int->List Int->Bool
 | [],[]=>false
 | [],_::_=>true
 | _::_,[]=>false
 | x::xs,y::ys=>if x=y then lexLt xs ys else decide (x<y)
theorem ba5 (A:Around)(s:Shared)(a:Int)(t:Tok)(c:Int)(u:Tok)(prog:Program)(w:World)(E:Value->Shared->Prop)(Q:Value->Shared->Prop)(h:Q (.bool (decide (a<c))) s) :
  m5 (m7 prog w) A (richCompare .Lt (.int a t) (.int c u)) Q E s:=
 (PyProof.Rows.lt_int h:m5 (m7 prog w) A (C1 .Lt (.int a t) (.int c u)) Q E s)
section
open PySem.SeqAt
open PySem.AutoSeq1 (wpAny_loadPart')
open PySem.MeetsSeq PySem.MeetsSeq2 PySem.MeetsSeq3
end
end HT
namespace L2
open PySem PySem.Spec PyProof.Rows
abbrev TO:=St->Hp->(Option Int->Hp->Prop)->Prop
theorem intsAre_of {ns:List Int}:∀ {us:List Value},x9 (ns.map V.int) us->IntsAre us ns:=by
 induction ns with
 | nil=>intro us r;rw[av1]at r;cases r;exact .nil
 | cons n ns ih =>
  intro us r
  rw[j8]at r
  cases r with
  | cons r1 r2 =>
   obtain⟨t,e⟩:=r1
   subst e
   exact .cons n t (ih r2)
section
variable {lo hi:Option Expr} {tl th:TO} {p2:Pos}
end
def ixN (n:Nat)(i:Int):Option Nat:=if 0<=i then (if i<n then some i.toNat else none) else if -(n:Int)<=i then some (i+n).toNat else none
def atI {α:Type}(xs:List α)(i:Int):Option α:=(ixN xs.length i).bind fun j=>xs[j]?
theorem aQ7 {i:Int}(h:ixN n i=some j):seqIndex? i n=some j/\j<n /\ -(n:Int)<=i/\i<n:=by
 unfold ixN at h
 by_cases h0:0<=i
 ·rw[if_pos h0]at h
  by_cases h1:i<n
  ·rw[if_pos h1]at h
   have e:i.toNat=j:=Option.some.inj h
   exact⟨by rw[bC0 h0 h1,e],by omega,by omega,h1⟩
  ·rw[if_neg h1]at h;cases h
 ·rw[if_neg h0]at h
  by_cases h1:-(n:Int)<=i
  ·rw[if_pos h1]at h
   have e:(i+n).toNat=j:=Option.some.inj h
   exact⟨by rw[br8 (by omega) h1,e],by omega,h1,by omega⟩
  ·rw[if_neg h1]at h;cases h
theorem ay9 {α:Type}{xs:List α}{i:Int}{v:α}(h:atI xs i=some v):∃ j,seqIndex? i xs.length=some j/\xs[j]?=some v/\j<xs.length /\ -(xs.length:Int)<=i/\i<xs.length:=by
 unfold atI at h
 cases e:ixN xs.length i with
 | none=>rw[e]at h;cases h
 | some j =>
  rw[e]at h
  obtain⟨h1,h2,h3,h4⟩:=aQ7 e
  exact⟨j,h1,h,h2,h3,h4⟩
theorem A4 {α:Type}{xs:List α}{v:α}(h:xs[j]?=some v):atI xs (j:Int)=some v:=by
 have hj:j<xs.length:=(a9.mp h).1
 have e:ixN xs.length (j:Int)=some j:=by
  unfold ixN
  rw[if_pos (by omega),if_pos (by omega)];simp
 unfold atI;rw[e];exact h
def az1 (b:Expr):Prop:=∀ o i,subscripted b false o i=operate [o,i] (getItem o i)
def IxR (X:Cx)(r:R2):Prop:=
 ∀ (value slice:Expr) (pins:List (Addr × Obj)) (s:Shared) (σ:St) (H:Hp) (x y:V) (v u:Value) (Q:VK),Inv X pins σ H s->RelV x v->RelV y u->r x y H Q ->
  subscripted slice false v u=operate [v,u] (getItem v u)->m5 (m7 X.prog X.w) X.A (subscriptTail value slice v u) (EP X pins σ Q) X.xe s
def MtR (X:Cx)(id:String)(r:V->List V->Hp->VK->Prop):Prop:=
 ∀ (pins:List (Addr × Obj)) (s:Shared) (σ:St) (H:Hp) (x:V) (xs:List V) (v:Value) (us:List Value) (Q:VK),Inv X pins σ H s->RelV x v->x9 xs us->r x xs H Q ->
  m5 (m7 X.prog X.w) X.A (call (.builtin id) (v::us)) (EP X pins σ Q) X.xe s
section
variable {a b:Expr} {tb:TE}
theorem IxR.or {r r':R2}(h:IxR X r)(h':IxR X r'):IxR X (fun x y H Q=>r x y H Q\/r' x y H Q):=by
 intro value slice pins s σ H x y v u Q I rx ry q hs
 rcases q with q | q
 ·exact h value slice pins s σ H x y v u Q I rx ry q hs
 ·exact h' value slice pins s σ H x y v u Q I rx ry q hs
theorem v8 {r:R2}(hr:IxR X r)(ha:PE X a ta)(hb:PE X b tb)(hs:az1 b):PE X (.Subscript a b pos) (tOp r ta tb):=by
 intro pins s σ H Q I h
 exact Subscript_ (bz3 ha hb I h fun v u s2 x y H2 I2 rx ry q=>hr a b pins s2 σ H2 x y v u Q I2 rx ry q (hs _ _))
def bE8 (K:W.Frag):R2:=fun x y H Q=>∃ p xs i v,x=.ref p/\y=.int i/\SqL K H p xs/\atI xs i=some v/\Q v H
def bu6 (K:W.Frag):R2:=fun x y H Q=>∃ p xs i v,x=.ref p/\y=.int i/\SqT K H p xs/\atI xs i=some v/\Q v H
def bE7:R2:=fun x y H Q=>∃ z i c,x=.str z/\y=.int i/\z.length<=d7/\atI z.cps.toList i=some c/\Q (.str ⟨#[c]⟩) H
theorem M0:IxR X (bE8 X.K):=by
 intro value slice pins s σ H x y v u Q I rx ry h hs
 obtain⟨p,xs,i,z,rfl,rfl,hq,he,q⟩:=h
 cases rx
 obtain⟨t,rfl⟩:=ry
 obtain⟨its,r,pl,hz⟩:=I.list hq
 obtain⟨j,h1,h2,h3,h4,h5⟩:=ay9 he
 obtain⟨w,ew,rw'⟩:=r.get h2
 have hl:=r.length
 have hn:=ap6
 have fin:EP X pins σ Q w s:=⟨z,H,I,rw',q⟩
 by_cases h0:0<=i
 ·have hj:i.toNat=j:=by
   rw[bC0 h0 h5]at h1
   exact Option.some.inj h1
  exact item_listR pl.isList h0 (by omega) (by rw[hj];simpa using ew) fin hs
 ·have hj:(i+(its.toArray.size:Int)).toNat=j:=by
   rw[br8 (by omega) h4]at h1
   rw[f6,<- hl]
   exact Option.some.inj h1
  exact bp3 (x:=w) pl.isList.typeIs slot_list_getitem.lookup
   (wpAny_getItem_list_neg (Q:=fun r s'=>r=w/\EP X pins σ Q r s') pl.isList (by omega) (by rw[f6]<;>omega) (by omega) (by rw[hj];simpa using ew) ⟨rfl,fin⟩) hs
theorem v5:IxR X (bu6 X.K):=by
 intro value slice pins s σ H x y v u Q I rx ry h hs
 obtain⟨p,xs,i,z,rfl,rfl,hq,he,q⟩:=h
 cases rx
 obtain⟨t,rfl⟩:=ry
 obtain⟨its,r,pl,hz⟩:=I.tuple hq
 obtain⟨j,h1,h2,h3,h4,h5⟩:=ay9 he
 obtain⟨w,ew,rw'⟩:=r.get h2
 have hl:=r.length
 have hn:=ap6
 have fin:EP X pins σ Q w s:=⟨z,H,I,rw',q⟩
 exact bp3 (x:=w) pl.typeIs slot_tuple_getitem.lookup
  (getItem_tuple (j:=j) (Q:=fun r s'=>r=w/\EP X pins σ Q r s') pl (by omega) (by omega) (by rw[f6,<- hl];exact h1) (by simpa using ew) ⟨rfl,fin⟩) hs
theorem bx8:IxR X bE7:=by
 intro value slice pins s σ H x y v u Q I rx ry h hs
 obtain⟨z,i,c,rfl,rfl,hz,he,q⟩:=h
 obtain⟨t,rfl⟩:=rx
 obtain⟨t',rfl⟩:=ry
 obtain⟨j,h1,h2,h3,h4,h5⟩:=ay9 he
 have hl:z.cps.toList.length=z.length:=by simp[Str.length]
 rw[hl]at h1 h4 h5
 have hn:=ap6
 exact tail_any (typeIs_str s z t) slot_str_getitem.lookup (getItem_str (c:=c) (by
  have e1:decide (i < -(2 ^ 63:Int))=false:=decide_eq_false (by omega)
  have e2:decide (i≥2 ^ 63)=false:=decide_eq_false (by omega)
  rw[e1,e2,aW8]) (by rw[h1];simpa using h2) ⟨.str ⟨#[c]⟩,H,I.tok _,⟨_,rfl⟩,q⟩) hs
def rIx (K:W.Frag):R2:=fun x y H Q=>bE8 K x y H Q\/bu6 K x y H Q\/bE7 x y H Q
theorem bx9:IxR X (rIx X.K):=M0.or (v5.or bx8)
theorem aK4 (its:List Value)(n j:Nat)(u:Value):Obj.mapSeq (·.setIfInBounds j u) { cls:=.type "list",data:=.seq its.toArray n }={ cls:=.type "list",data:=.seq (its.set j u).toArray n }:=by
 simp[Obj.mapSeq]
theorem Inv.lst {p:Addr}(I:Inv X pins σ H s)(h:H p=some (.lst xs)) :
  ∃ (its:List Value) (n:Nat),x9 xs its/\s.heap.get? p=some { cls:=.type "list",data:=.seq its.toArray n }/\xs.length<=d7:=by
 obtain⟨z,its,n,r,e⟩:=I.hok p _ h
 exact⟨its,n,r,e,z⟩
theorem Inv.lstUpd {p:Addr}{its its':List Value}{n':Nat}{f:Obj->Obj}(I:Inv X pins σ H s)(h:H p=some (.lst xs))
  (ho:s.heap.get? p=some { cls:=.type "list",data:=.seq its.toArray n })(hf:f { cls:=.type "list",data:=.seq its.toArray n }={ cls:=.type "list",data:=.seq its'.toArray n' })(r:x9 ys its')(hz:ys.length<=d7)(t:Nat) :
  Inv X pins σ (upd H p (.lst ys)) { s with heap:=s.heap.update p f,toks:=t }:=by
 have e:(s.heap.update p f).get? p=some { cls:=.type "list",data:=.seq its'.toArray n' }:=by
  rw[D3 f ho (by rw[hf]<;>rfl),hf]
 refine I.write (x:=p) (e:=p) (by rw[h];trivial) (.inl rfl) (fun b u hb q=>(n9 _ _ (Ne.symm hb)).trans q) ⟨_,e⟩ ?_
 exact⟨hz,its',n',r,e⟩
def bE5:V->V->V->Hp->(Hp->Prop)->Prop:=fun o i v H Q=>∃ p xs k j,o=.ref p/\i=.int k/\H p=some (.lst xs)/\ixN xs.length k=some j/\Q (upd H p (.lst (xs.set j v)))
theorem set_list:bG8 X bE5:=by
 intro pins s σ H o i v ov iv u Q I ro ri rv h
 obtain⟨p,xs,k,j,rfl,rfl,hp,hj,q⟩:=h
 cases ro
 obtain⟨t,rfl⟩:=ri
 obtain⟨its,n,r,ho,hz⟩:=I.lst hp
 obtain⟨h1,h2,h3,h4⟩:=aQ7 hj
 have hl:=r.length
 have hn:=ap6
 have I':Inv X pins σ (upd H p (.lst (xs.set j v))) { s with heap:=s.heap.update p (Obj.mapSeq (·.setIfInBounds j u)) }:=
  I.lstUpd hp ho (aK4 its n j u) (r.set rv j) (by rw[aH2];exact hz) s.toks
 by_cases h0:0<=k
 ·have hk:k.toNat=j:=by
   rw[bC0 h0 h4]at h1
   exact Option.some.inj h1
  exact PySem.W.ki_setAt ho h0 (by omega) (by rw[f6,<- hl];exact h4) (by rw[hk];exact⟨_,I',q⟩)
 ·have hk:(k+(its.toArray.size:Int)).toNat=j:=by
   rw[br8 (by omega) h3]at h1
   rw[f6,<- hl]
   exact Option.some.inj h1
  exact PySem.W.ki_setBack ho (by omega) (by rw[f6,<- hl];exact h3) (by omega) (by rw[hk];exact⟨_,I',q⟩)
def af7:V->Bool
 | .non=>true
 | .bl _=>true
 | .int _=>true
 | .str _=>true
 | _=>false
def eqV:V->V->Bool
 | .non,.non=>true
 | .bl a,.bl b=>a == b
 | .bl a,.int b=>(if a then 1 else 0) == b
 | .int a,.bl b=>a == (if b then 1 else 0)
 | .int a,.int b=>a == b
 | .str a,.str b=>a == b
 | _,_=>false
theorem by7 {y x:V}(ry:RelV y u)(rx:RelV x v)(fy:af7 y=true)(fx:af7 x=true):SeqAt.EqAt A s u v (eqV y x):=by
 cases y with
 | non =>
  cases ry
  cases x with
  | non=>cases rx;exact SeqAt.EqAt.same _
  | bl b=>cases rx;exact SeqAt.EqAt.none_bool b
  | int b=>obtain⟨t,rfl⟩:=rx;exact SeqAt.EqAt.none_int b t
  | str b=>obtain⟨t,rfl⟩:=rx;exact SeqAt.EqAt.none_str b t
  | _=>exact absurd (show false=true from fx) c7
 | bl a =>
  cases ry
  cases x with
  | non=>cases rx;exact SeqAt.EqAt.bool_none a
  | bl b=>cases rx;exact SeqAt.EqAt.bool_bool a b
  | int b=>obtain⟨t,rfl⟩:=rx;exact SeqAt.EqAt.bool_int a b t
  | str b=>obtain⟨t,rfl⟩:=rx;exact SeqAt.EqAt.bool_str a b t
  | _=>exact absurd (show false=true from fx) c7
 | int a =>
  obtain⟨t',rfl⟩:=ry
  cases x with
  | non=>cases rx;exact SeqAt.EqAt.int_none a t'
  | bl b=>cases rx;exact SeqAt.EqAt.int_bool a t' b
  | int b=>obtain⟨t,rfl⟩:=rx;exact SeqAt.EqAt.int_int a t' b t
  | str b=>obtain⟨t,rfl⟩:=rx;exact SeqAt.EqAt.int_str a t' b t
  | _=>exact absurd (show false=true from fx) c7
 | str a =>
  obtain⟨t',rfl⟩:=ry
  cases x with
  | non=>cases rx;exact SeqAt.EqAt.str_none a t'
  | bl b=>cases rx;exact SeqAt.EqAt.str_bool a t' b
  | int b=>obtain⟨t,rfl⟩:=rx;exact SeqAt.EqAt.str_int a t' b t
  | str b=>obtain⟨t,rfl⟩:=rx;exact SeqAt.EqAt.str_str a t' b t
  | _=>exact absurd (show false=true from fx) c7
 | _=>exact absurd (show false=true from fy) c7
def eqU (x:V)(u:Value):Bool:=match u with
 | .none=>eqV .non x
 | .bool b=>eqV (.bl b) x
 | .int i _=>eqV (.int i) x
 | .str z _=>eqV (.str z) x
 | _=>false
theorem bf3 {x y:V}(r:RelV y u)(f:af7 y=true):eqU x u=eqV y x:=by
 cases y with
 | non=>cases r;rfl
 | bl b=>cases r;rfl
 | int i=>obtain⟨t,rfl⟩:=r;rfl
 | str z=>obtain⟨t,rfl⟩:=r;rfl
 | _=>exact absurd (show false=true from f) c7
theorem ag1 {x:V}:∀ {xs:List V} {us:List Value},x9 xs us->xs.all af7=true->us.any (eqU x)=xs.any fun y=>eqV y x
 | _,_,.nil,_=>rfl
 | y::xs,u::us,.cons r t,f=>by
  rw[List.all_cons,o7]at f
  rw[N6,N6,bf3 r f.1,ag1 t f.2]
theorem aa2 {x:V}(rx:RelV x v)(fx:af7 x=true):∀ {xs:List V} {us:List Value},x9 xs us->xs.all af7=true->∀ u∈us,SeqAt.EqAt A s u v (eqU x u)
 | _,_,.nil,_=>fun u hu=>by cases hu
 | y::xs,u::us,.cons r t,f=>fun u' hu=>by
  rw[List.all_cons,o7]at f
  rcases b7.mp hu with rfl | hu
  ·rw[bf3 r f.1];exact by7 r rx f.1 fx
  ·exact aa2 rx fx t f.2 u' hu
def inV (x:V)(xs:List V):Bool:=xs.any fun y=>eqV y x
def rIn (K:W.Frag)(neg:Bool):R2:=fun x y H Q=>∃ p xs,y=.ref p/\(SqL K H p xs\/SqT K H p xs)/\af7 x=true/\xs.all af7=true/\Q (.bl (if neg then !inV x xs else inV x xs)) H
theorem aU6:OpR X (C1 .In) (rIn X.K false):=by
 intro pins s σ H x y v u Q I rx ry h
 obtain⟨p,xs,rfl,hq,fx,fs,q⟩:=h
 cases ry
 rcases hq with hq | hq
 ·obtain⟨its,r,pl,hz⟩:=I.list hq
  refine SeqAt.in_listAt (eqU x) pl.isList (fun w hw=>aa2 rx fx r fs w (by simpa using hw)) ⟨.bl _,H,I,rfl,?_⟩
  rw[show its.toArray.any (eqU x)=its.any (eqU x) by simp,ag1 r fs]
  exact q
 ·obtain⟨its,r,pl,hz⟩:=I.tuple hq
  refine SeqAt.in_tupleAt (eqU x) pl (fun w hw=>aa2 rx fx r fs w (by simpa using hw)) ⟨.bl _,H,I,rfl,?_⟩
  rw[show its.toArray.any (eqU x)=its.any (eqU x) by simp,ag1 r fs]
  exact q
theorem ax0:OpR X (C1 .NotIn) (rIn X.K true):=by
 intro pins s σ H x y v u Q I rx ry h
 obtain⟨p,xs,rfl,hq,fx,fs,q⟩:=h
 cases ry
 rcases hq with hq | hq
 ·obtain⟨its,r,pl,hz⟩:=I.list hq
  refine SeqAt.notIn_listAt (eqU x) pl.isList (fun w hw=>aa2 rx fx r fs w (by simpa using hw)) ⟨.bl _,H,I,rfl,?_⟩
  rw[show its.toArray.any (eqU x)=its.any (eqU x) by simp,ag1 r fs]
  exact q
 ·obtain⟨its,r,pl,hz⟩:=I.tuple hq
  refine SeqAt.notIn_tupleAt (eqU x) pl (fun w hw=>aa2 rx fx r fs w (by simpa using hw)) ⟨.bl _,H,I,rfl,?_⟩
  rw[show its.toArray.any (eqU x)=its.any (eqU x) by simp,ag1 r fs]
  exact q
theorem M4:P3 X (.builtin "len") (fun xs H Q=>∃ p ys,xs=[.ref p]/\(SqL X.K H p ys\/SqT X.K H p ys)/\Q (.int ys.length) H):=by
 intro pins s σ H xs us Q I r h
 obtain⟨p,ys,rfl,hq,q⟩:=h
 obtain⟨u,rfl,rx⟩:=vals1 r
 cases rx
 have hn:=ap6
 rcases hq with hq | hq
 ·obtain⟨its,r',pl,hz⟩:=I.list hq
  have hlen:=r'.length
  exact Calls.call_len_list pl.isList (by simp only[f6]<;>omega) ⟨.int ys.length,H,I.tok _,⟨s.toks+1,by rw[f6,hlen]⟩,q⟩
 ·obtain⟨its,r',pl,hz⟩:=I.tuple hq
  have hlen:=r'.length
  exact len_tuple pl (by simp only[f6]<;>omega) ⟨.int ys.length,H,I.tok _,⟨s.toks+1,by rw[f6,hlen]⟩,q⟩
theorem ay7:P3 X (.type "list") (fun xs H Q=>∃ p ys,xs=[.ref p]/\(SqL X.K H p ys\/SqT X.K H p ys)/\∀ l,H l=none->Q (.ref l) (upd H l (.lst ys))):=by
 intro pins s σ H xs us Q I r h
 obtain⟨p,ys,rfl,hq,q⟩:=h
 obtain⟨u,rfl,rx⟩:=vals1 r
 cases rx
 have fin:∀ (its:List Value),x9 ys its->ys.length<=d7->∀ (h':Heap) (c':Nat),(∀ b o',s.heap.get? b=some o'->h'.get? b=some o') ->
   h'.get? s.heap.objs.size=some { cls:=.type "list",dict:=none,data:=.seq its.toArray c',slots:=#[] }->EP X pins σ Q (.ref s.heap.objs.size) { s with heap:=h' }:=fun its r' hz h' c' kp e =>
  ⟨.ref s.heap.objs.size,_,I.laid (t':=s.toks) kp (c6 _) (show D1 X.prog X.w _ h' _ (.lst ys) from ⟨hz,its,c',r',e⟩),rfl,q _ (I.hok.fresh (c6 _))⟩
 rcases hq with hq | hq
 ·obtain⟨its,r',pl,hz⟩:=I.list hq
  have hlen:=r'.length
  obtain⟨o,ho,hc,n,hd⟩:=pl.isList
  exact call_list_seq p (.inl rfl) ho hc hd (fun h' c' kp e=>fin its r' hz h' c' kp e) (by simp only[f6]<;>omega)
 ·obtain⟨its,r',pl,hz⟩:=I.tuple hq
  have hlen:=r'.length
  obtain⟨o,ho,hc,n,hd⟩:=pl
  exact call_list_seq p (.inr rfl) ho hc hd (fun h' c' kp e=>fin its r' hz h' c' kp e) (by simp only[f6]<;>omega)
theorem W0:P3 X (.type "tuple") (fun xs H Q=>∃ p ys,xs=[.ref p]/\((SqL X.K H p ys/\∀ l,H l=none->Q (.ref l) (upd H l (.tup ys)))\/(SqT X.K H p ys/\Q (.ref p) H))):=by
 intro pins s σ H xs us Q I r h
 obtain⟨p,ys,rfl,h⟩:=h
 obtain⟨u,rfl,rx⟩:=vals1 r
 cases rx
 rcases h with⟨hq,q⟩ | ⟨hq,q⟩
 ·obtain⟨its,r',pl,hz⟩:=I.list hq
  have hlen:=r'.length
  refine call_tuple_list pl.isList (fun h' kp=>?_) (by simp only[f6]<;>omega)
  have I1:Inv X pins σ H { s with heap:=h' }:=I.kept (t':=s.toks) kp
  have I2:Inv X pins σ (upd H h'.objs.size (.tup ys)) { s with heap:=h'.push { cls:=.type "tuple",data:=.seq its.toArray } } :=
   I1.laid (t':=s.toks) (fun b o e=>a5 _ e) (c6 _) (show D1 X.prog X.w _ _ _ (.tup ys) from ⟨hz,its,r',IsTup.new _ _⟩)
  exact⟨.ref h'.objs.size,_,I2,rfl,q _ (I1.hok.fresh (c6 _))⟩
 ·obtain⟨its,r',pl,hz⟩:=I.tuple hq
  exact call_tuple_same pl ⟨.ref p,H,I,rfl,q⟩
def tyV (K:W.Frag)(T:String)(x:V)(H:Hp):Prop:=match x with
 | .str _=>T="str"
 | .int _=>T="int"
 | .ref p=>(T="list"/\∃ xs,SqL K H p xs)\/(T="tuple"/\∃ o,K.lookup p=some o/\o.cls=.type "tuple"/\o.dict=none) \/
   (T="dict"/\((∃ kvs,H p=some (.dK kvs))\/∃ kvs,H p=some (.dT kvs)))\/(T="set"/\∃ S n,H p=some (.set S n))
 | _=>False
theorem aY2 {T:String}{x:V}(I:Inv X pins σ H s)(r:RelV x v)(ty:tyV X.K T x H) :
  s.TypeIs v T/\∀ a,v=.ref a->∃ ob,s.heap.get? a=some ob/\ob.dict=none:=by
 cases x with
 | str z =>
  obtain⟨t,rfl⟩:=r
  cases (show T="str" from ty)
  exact⟨typeIs_str s z t,fun _ e=>nomatch e⟩
 | int i =>
  obtain⟨t,rfl⟩:=r
  cases (show T="int" from ty)
  exact⟨typeIs_int s i t,fun _ e=>nomatch e⟩
 | ref p =>
  cases r
  rcases ty with⟨rfl,xs,hq⟩ | ⟨rfl,o,hk,hc,hd⟩ | ⟨rfl,hk⟩ | ⟨rfl,S,n,hk⟩
  ·obtain⟨its,_,pl,_⟩:=I.list hq
   refine⟨pl.isList.typeIs,fun a e=>?_⟩
   cases e
   obtain⟨o,n,e,c,hd,_⟩:=pl
   exact⟨o,e,hd⟩
  ·refine⟨⟨o,I.kIn p o hk,hc⟩,fun a e=>?_⟩
   cases e
   exact⟨o,I.kIn _ o hk,hd⟩
  ·have z:∃ o,s.heap.get? p=some o/\o.ExactDict:=by
    rcases hk with⟨kvs,hk⟩ | ⟨kvs,hk⟩
    ·obtain⟨_,_,_,_,o,_,_,e,ex,_⟩:=I.hok p _ hk
     exact⟨o,e,ex⟩
    ·obtain⟨_,_,_,_,o,_,_,e,ex,_⟩:=I.hok p _ hk
     exact⟨o,e,ex⟩
   obtain⟨o,e,ex⟩:=z
   refine⟨⟨o,e,ex.1⟩,fun a e2=>?_⟩
   cases e2
   exact⟨o,e,ex.2.1⟩
  ·obtain⟨o,_,_,_,e,ex,_⟩:=I.hok p _ hk
   refine⟨⟨o,e,ex.1⟩,fun a e2=>?_⟩
   cases e2
   exact⟨o,e,ex.2.1⟩
 | _=>exact False.elim ty
def bI0 (K:W.Frag)(T:String)(r:V->List V->Hp->VK->Prop)(to:TE):TE:=fun σ H Q=>to σ H fun x H1=>tyV K T x H1/\r x [] H1 Q
def tBM (K:W.Frag)(T:String)(r:V->List V->Hp->VK->Prop)(to:TE)(t:TA):TE:=fun σ H Q=>to σ H fun x H1=>tyV K T x H1/\t σ H1 fun xs H2=>r x xs H2 Q
variable {es:List Expr} {to:TE} {t:TA} {name:Str} {apos cpos:Pos} {T id:String}
theorem bv1 (pa:PlainAttrs T)(slot:Slot T name id)(hty:typeOf (.builtin id)=pure (.type "method_descriptor"))(hm:MtR X id r)(ho:PE X o to)
  (hbase:av3 o name X.env (eval o X.env)=eval o X.env:=by rfl)(hline:(apos.endLine == cpos.line)=true:=by rfl):PE X (.Call (.Attribute o name apos) [] [] cpos) (bI0 X.K T r to):=by
 intro pins s σ H Q I h
 refine wpAny_Call_method0_late hbase hline (thn (ho pins s σ H _ I h) fun v s1 ⟨x,H1,I1,r1,ty,q1⟩=>?_)
 obtain⟨h1,h2⟩:=aY2 I1 r1 ty
 exact⟨T,id,pa,slot,hty,h1,h2,Calls.callWith_builtin rfl (PySem.evalArgs_none (hm pins s1 σ H1 x [] v [] Q I1 r1 .nil q1))⟩
theorem ap1 (pa:PlainAttrs T) (slot:Slot T name id) (hty:typeOf (.builtin id)=pure (.type "method_descriptor")) (hm:MtR X id r) (ho:PE X o to) (ha:PA X (e::es) t)
  (hbase:av3 o name X.env (eval o X.env)=eval o X.env:=by rfl)
  (hfew : ((ak0 cpos (B7 (e :: es) X.env)).all (fun x => !x.1) && (backToKw cpos (bC1 [] X.env)).all (fun x => x.1.isSome)
   && decide ((e::es).length+([]:List az9).length+(if ([]:List az9).isEmpty then 0 else 1)<30))=true:=by rfl)
  (hline:(apos.endLine == cpos.line)=true:=by rfl) (hs:B7 (e::es) X.env=(false,eval e X.env)::B7 es X.env:=by rfl) (hplain:(ak0 cpos (B7 es X.env)).any (·.1)=false:=by rfl) :
  PE X (.Call (.Attribute o name apos) (e::es) [] cpos) (tBM X.K T r to t):=by
 intro pins s σ H Q I h
 refine wpAny_Call_method_late hbase hfew hline rfl (thn (ho pins s σ H _ I h) fun v s1 ⟨x,H1,I1,r1,ty,q1⟩=>?_)
 obtain⟨h1,h2⟩:=aY2 I1 r1 ty
 refine⟨T,id,pa,slot,hty,h1,h2,?_⟩
 have hA:=ha cpos pins s1 σ H1 _ I1 q1
 rw[hs]at hA ⊢
 refine Calls.callWith_builtin (by show (false || (ak0 cpos (B7 es X.env)).any (·.1))=false;rw[hplain]<;>rfl) (Calls.evalArgs_plain ?_)
 exact thn hA fun us s2 ⟨vs,H2,I2,r2,q2⟩=>hm pins s2 σ H2 x vs v us Q I2 r1 r2 q2
/- xs.append(e),list.index on a module's tuple .. are MtR facts of 06m -/
end
def MtM (X:Cx)(id:String)(r:V->List V->Hp->VK->Prop):Prop:=
 ∀ (pins:List (Addr × Obj)) (s:Shared) (σ:St) (H:Hp) (x:V) (xs:List V) (v:Value) (us:List Value) (Q:VK),Inv X pins σ H s->RelV x v->x9 xs us->r x xs H Q ->
  m5 (m7 X.prog X.w) X.A (call (.builtin id) (v::us)) (EP X pins σ Q) X.xe s
theorem x9.one:∀ {x:V} {us:List Value},x9 [x] us->∃ u,us=[u]/\RelV x u
 | _,_,.cons r .nil=>⟨_,rfl,r⟩
theorem x9.zero:∀ {us:List Value},x9 [] us->us=[]
 | _,.nil=>rfl
theorem x9.dropLast (h:x9 xs us):x9 xs.dropLast us.dropLast:=by
 induction h with
 | nil=>exact .nil
 | cons r t ih =>
  cases t with
  | nil=>exact .nil
  | cons q t'=>exact .cons r ih
theorem x9.rep (h:x9 xs us):∀ k:Nat,x9 (r9 k xs).flatten (r9 k us).flatten
 | 0=>.nil
 | k+1=>by
  rw[F7,F7,K2,K2]
  exact x9.append h (x9.rep h k)
theorem aL6 {α:Type}(l:List α):l.eraseIdx (l.length - 1)=l.dropLast:=by
 induction l with
 | nil=>rfl
 | cons a r ih =>
  cases r with
  | nil=>rfl
  | cons b r =>
   have e:(a::b::r).length - 1=((b::r).length - 1)+1:=by
    have h1:(a::b::r).length=r.length+2:=rfl
    have h2:(b::r).length=r.length+1:=rfl
    omega
   rw[e,List.eraseIdx_cons_succ,ih]
   all_goals rfl
theorem foldl_rep (its:List Value):∀ (k:Nat) (acc:List Value),
  W3 (fun x1 x2=>x1++x2) acc.toArray (r9 k its.toArray)=(acc++(r9 k its).flatten).toArray
 | 0,acc=>by simp
 | k+1,acc=>by
  have e:acc.toArray++its.toArray=(acc++its).toArray:=by simp
  have e2:(acc++its)++(r9 k its).flatten=acc++(r9 (k+1) its).flatten:=by
   rw[F7,K2,p7]
  rw[<- e2,<- foldl_rep its k (acc++its),<- e,F7,Q4]
section
variable {b:Addr} {zs:List V}
theorem Inv.lset {its its':List Value}{f:Array Value->Array Value}{t':Nat}(I:Inv X pins σ H s)(hH:H l=some (.lst xs))
  (e:s.heap.get? l=some { cls:=.type "list",data:=.seq its.toArray n })(hf:f its.toArray=its'.toArray)(hv:x9 ys its')(hz:ys.length<=d7) :
  Inv X pins σ (upd H l (.lst ys)) { s with heap:=s.heap.update l (Obj.mapSeq f),toks:=t' }:=by
 have q:=PySem.IsL.update e f
 rw[hf]at q
 refine I.write (x:=l) (e:=l) (by rw[hH];exact trivial) (.inl rfl) (fun b' u hb hu=>(n9 s.heap (Obj.mapSeq f) (Ne.symm hb)).trans hu) ⟨_,q⟩ ?_
 exact⟨hz,its',_,hv,q⟩
theorem Inv.lnew {its:List Value}{t':Nat}(I:Inv X pins σ H s)(hv:x9 ys its)(hz:ys.length<=d7) :
  Inv X pins σ (upd H s.heap.objs.size (.lst ys)) { s with heap:=s.heap.push { cls:=.type "list",data:=.seq its.toArray },toks:=t' } :=
 I.laid (fun _ _ q=>a5 _ q) (c6 _) ⟨hz,its,0,hv,l0 _ rfl⟩
theorem Inv.fresh (I:Inv X pins σ H s):H s.heap.objs.size=none:=I.hok.fresh (c6 _)
theorem Inv.lstM (I:Inv X pins σ H s)(hH:H l=some (.lst xs)):xs.length<=d7/\∃ (its:List Value) (n:Nat),x9 xs its/\xs.length=its.length/\s.heap.get? l=some { cls:=.type "list",data:=.seq its.toArray n }:=by
 obtain⟨z,its,n,r,e⟩:=I.hok l _ hH
 exact⟨z,its,n,r,r.length,e⟩
theorem aD6 (h:n<=d7):Builtin.List.listTooLong n=false:=by
 unfold Builtin.List.listTooLong
 exact decide_eq_false (by omega)
end
def bk9:V->List V->Hp->VK->Prop:=fun x vs H Q=>∃ l xs y,x=.ref l/\vs=[y]/\H l=some (.lst xs)/\xs.length<d7/\Q .non (upd H l (.lst (xs++[y])))
theorem L9:MtM X "list.append" bk9:=by
 intro pins s σ H x vs v us Q I rx rv h
 obtain⟨l,xs,y,rfl,rfl,hH,hz,q⟩:=h
 cases rx
 obtain⟨u,rfl,ru⟩:=rv.one
 obtain⟨z,its,n,r,hl,e⟩:=I.lstM hH
 refine am2 F.slot_list_append ⟨_,e,rfl⟩ F.entry_list_append (F.args_list_append_2 _ _) (PySem.list_append l its.toArray n u (by rw[f6];omega)) ⟨e,?_⟩
 refine⟨.non,_,I.lset (its':=its++[u]) hH e (by simp) (r.append (.cons ru .nil)) ?_,rfl,q⟩
 rw[c9,v9]
 omega
def bk8:V->List V->Hp->VK->Prop:=fun x vs H Q=>∃ l b xs zs,x=.ref l/\vs=[.ref b]/\H l=some (.lst xs)/\H b=some (.lst zs)/\xs.length+zs.length<=d7/\Q .non (upd H l (.lst (xs++zs)))
theorem aU9:MtM X "list.extend" bk8:=by
 intro pins s σ H x vs v us Q I rx rv h
 obtain⟨l,b,xs,zs,rfl,rfl,hH,hB,hz,q⟩:=h
 cases rx
 obtain⟨u,rfl,ru⟩:=rv.one
 cases ru
 obtain⟨z,its,n,r,hl,e⟩:=I.lstM hH
 obtain⟨z2,its2,n2,r2,hl2,e2⟩:=I.lstM hB
 have hsz:its.toArray.size+its2.toArray.size<=d7:=by rw[f6,f6];omega
 have hlong:¬ (!its.toArray.isEmpty && Builtin.List.listTooLong (its.toArray.size+its2.toArray.size))=true:=by
  rw[aD6 hsz,Bool.and_false]
  exact c7
 refine am2 F.slot_list_extend ⟨_,e,rfl⟩ F.entry_list_extend (F.args_list_extend_2 _ _)
  (AutoSeq1.list_extend_list_list_0 l its.toArray n b its2.toArray n2 hlong (by rw[f6];omega) (by omega)) ⟨e,e2,?_⟩
 refine⟨.non,_,I.lset (its':=its++its2) hH e (by simp) (r.append r2) ?_,rfl,q⟩
 rw[c9]
 omega
def bI5:V->List V->Hp->VK->Prop:=fun x vs H Q=>∃ l xs y,x=.ref l/\vs=[]/\H l=some (.lst xs)/\xs[xs.length - 1]?=some y/\Q y (upd H l (.lst xs.dropLast))
theorem bx0:MtM X "list.pop" bI5:=by
 intro pins s σ H x vs v us Q I rx rv h
 obtain⟨l,xs,y,rfl,rfl,hH,hy,q⟩:=h
 cases rx
 have hus:=rv.zero
 subst hus
 obtain⟨z,its,n,r,hl,e⟩:=I.lstM hH
 obtain⟨u,hu,ru⟩:=r.get hy
 have hy':its.toArray[its.toArray.size - 1]?=some u:=by
  show its.toArray[its.length - 1]?=some u
  rw[<- b5,<- hl]
  exact hu
 refine am2 F.slot_list_pop ⟨_,e,rfl⟩ F.entry_list_pop (F.args_list_pop_1 _) (MeetsSeq.list_pop_last l its.toArray n u hy' (by rw[f6];omega)) ⟨e,?_⟩
 refine⟨y,_,I.lset (its':=its.dropLast) hH e ?_ r.dropLast ?_,ru,q⟩
 ·show its.toArray.eraseIdxIfInBounds (its.toArray.size - 1)=its.dropLast.toArray
  rw[f6,List.eraseIdxIfInBounds_toArray,aL6]
 ·rw[List.length_dropLast]
  omega
def bI6:R2:=fun x y H Q=>∃ l b xs zs,x=.ref l/\y=.ref b/\H l=some (.lst xs)/\H b=some (.lst zs)/\xs.length+zs.length<=d7/\∀ p,H p=none->Q (.ref p) (upd H p (.lst (xs++zs)))
theorem bv7:OpR X (ab1 .Add) bI6:=by
 intro pins s σ H x y v u Q I rx ry h
 obtain⟨l,b,xs,zs,rfl,rfl,hH,hB,hz,q⟩:=h
 cases rx
 cases ry
 obtain⟨z,its,n,r,hl,e⟩:=I.lstM hH
 obtain⟨z2,its2,n2,r2,hl2,e2⟩:=I.lstM hB
 refine PySem.P.add_list e e2 ?_ (by rw[f6,f6];omega)
 have ea:its.toArray++its2.toArray=(its++its2).toArray:=by simp
 rw[ea]
 exact⟨.ref _,_,I.lnew (t':=s.toks) (r.append r2) (by rw[c9];omega),rfl,q _ I.fresh⟩
def bI4:R2:=fun x y H Q=>∃ l k xs,x=.ref l/\y=.int k/\H l=some (.lst xs) /\ -(2 ^ 63)<=k/\k<2 ^ 63/\xs.length*k.toNat<=d7 /\
 ∀ p,H p=none->Q (.ref p) (upd H p (.lst (r9 k.toNat xs).flatten))
theorem len_rep {α:Type}(xs:List α)(k:Nat):(r9 k xs).flatten.length=k*xs.length:=by
 induction k with
 | zero=>simp
 | succ k ih=>rw[F7,K2,c9,ih,bh6,Nat.add_comm]
theorem bv4:OpR X (ab1 .Mult) bI4:=by
 intro pins s σ H x y v u Q I rx ry h
 obtain⟨l,k,xs,rfl,rfl,hH,h1,h2,hz,q⟩:=h
 cases rx
 obtain⟨t,rfl⟩:=ry
 obtain⟨z,its,n,r,hl,e⟩:=I.lstM hH
 have hlen:its.toArray.size*k.toNat<=d7:=by rw[f6,<- hl];exact hz
 have hcap:¬ its.toArray.size*k.toNat > (2 ^ 63 - 1) / 8:=by
  have:(d7:Nat)<=(2 ^ 63 - 1) / 8:=by decide
  omega
 have hfit:¬ (!Builtin.List.listFitsIndex k)=true:=by
  rw[fitsIndex_both h1 h2]
  exact c7
 have hlong:¬ Builtin.List.listTooLong (its.toArray.size*k.toNat)=true:=by
  rw[aD6 hlen]
  exact c7
 have hnew:W3 (fun x1 x2=>x1++x2) #[] (r9 (if its.toArray.isEmpty=true then 0 else k.toNat) its.toArray)=(r9 k.toNat its).flatten.toArray:=by
  have f0:∀ m:Nat,W3 (fun x1 x2=>x1++x2) #[] (r9 m its.toArray)=(r9 m its).flatten.toArray:=fun m=>by
   have:=foldl_rep its m []
   rw[K3]at this
   exact this
  rw[f0]
  cases its with
  | nil=>simp
  | cons a r'=>rw[if_neg (by simp)]
 refine wpAny_binaryOp_repeat_ref (T:="list") (U:="int") (by decide) ⟨_,e,rfl⟩ (fun s'=>typeIs_int s' k t) noFill_list_mul F.fills_int_mul F.slot_int_rmul repeat_list F.slot_int_index.lookup
  (am2 F.slot_int_rmul (typeIs_int s k t) F.entry_int_rmul (F.args_int_rmul_2 _ _) (int___rmul___int_list k t l its.toArray n)
   ⟨e,rfl,⟨_,e,rfl⟩,am2 F.slot_list_mul ⟨_,e,rfl⟩ F.entry_list_mul (F.args_list_mul_2 _ _) (AutoListH.list___mul___list_int_3 l its.toArray n k t hfit hcap hlong) ⟨e,?_⟩⟩)
 rw[hnew]
 exact⟨.ref _,_,I.lnew (t':=s.toks) (r.rep k.toNat) (by rw[len_rep,Nat.mul_comm];exact hz),rfl,q _ I.fresh⟩
end L2
namespace Att
open PySem PySem.W PySem.Calls PyProof.Rows
theorem al2 {P:Params}:∀ (ns:List Int) (vs:List Value),WellAll P h vs (ns.map WData.int)->IntsAre vs ns:=by
 intro ns
 induction ns with
 | nil =>
  intro vs w
  rw[av1]at w
  cases w
  exact .nil
 | cons n ns ih =>
  intro vs w
  rw[j8]at w
  cases w with
  | cons a b =>
   cases a
   exact .cons _ _ (ih _ b)
theorem aT8 {l:OpenLaw}(hn:l.most=some n){P:Params}{args:List WData}{vals:List Value}
  (hpre:l.row.toRowW.claim.pre args=true)(hwl:WellAll P h vals args) :
  ∃ a vs ns,vals=[Value.ref a]/\args=[WData.list (ns.map WData.int)]/\h.get? a=some { cls:=.type "list",data:=.seq vs.toArray }/\IntsAre vs ns/\ns.length<=n:=by
 have hsh:WShape.hasAll [] args [.list .int]=true:=(pre_splitW hpre).1
 have hc:l.pre.holds [] { args:=args }=true:=(pre_splitW hpre).2
 obtain⟨d,r,rfl,h1,h2⟩:=hasAllW_cons hsh
 obtain rfl:=hasAllW_nil h2
 obtain⟨xs,rfl,h3⟩:=hasW_list h1
 obtain⟨ns,rfl⟩:=items_int h3
 have hlen:ns.length<=n:=by
  unfold OpenLaw.pre at hc
  have h4:(WTm.not (.lt (.lit (.int (n:Int))) (.len (.arg 0)))).holds [] { args:=[.list (ns.map .int)] }=true:=by
   have h4:=(holds_andW hc).1
   rw[hn]at h4
   exact h4
  have h5:=condW_of h4 (w_not (w_lt w_lit (w_len_list (w_arg rfl))))
  rw[b6]at h5
  refine Nat.le_of_not_lt fun q=>?_
  have q':(n:Int)<((ns.length:Nat):Int):=by omega
  first
   | (rw[decide_eq_true q']at h5;exact absurd h5 (by decide))
   | (simp at h5;omega)
 cases hwl with
 | cons w1 w2 =>
  cases w2
  cases w1 with
  | list ho hall=>exact⟨_,_,ns,rfl,rfl,ho,al2 ns _ hall,hlen⟩
theorem aU1 (l:OpenLaw)(args:List WData):l.row.toRowW.claim.post args (.bool true) args=true:=
 postW_of (r:=l.row.toRowW) (X:=(true == true))
  (show WShape.has [] (.bool true) .bool=true by first | rfl | decide | simp[WShape.has,WShape.arms,WShape.armsAll])
  (show (WTm.eq .res (.lit (.bool true))).value [] { args:=args,res:=some (.bool true),after:=args }=some (.bool (true == true)) from w_eq_bool (w_res rfl) w_lit) rfl
theorem attach_call {l:OpenLaw} {q:Program} {loose:List Str} {d:DefRec}
  (hn:l.most=some n) (hdf:d.params.defaults=[])
  (call : ∀ (w : World) (s₀ s₁ : Shared) (mg mb : Str -> Option Value) (fa : Addr) (o : Obj) (pm cd doc : Value) (a : Addr) (vs : List Value) (ns : List Int),
   Ground q loose [] XP w s₀ mg mb s₁.heap->YP w s₁.heap ->
   s₁.heap.get? fa=some o->o.data=.func (docDef d.name d.params d.body d.scope pm cd doc)->s₁.heap.CodeRec cd d.name->mg d.name=some (.ref fa) ->
   s₁.heap.get? a=some { cls:=.type "list",data:=.seq vs.toArray }->IntsAre vs ns->ns.length<=n->s₁.gens=#[] ->
   ak2 (m7 l.prog w) aS5 (.call (.ref fa) ⟨[.ref a],[]⟩) (fun r s'=>r=.ok (.ret (.bool true))/\OldK s₁.heap s'.heap/\s'.os=s₁.os/\aj9 s'.gens) s₁) :
  WalkO q loose XP YP l.row.toRowW d [] (fun f vs=>PySem.call f vs):=by
 intro w s₀ s₁ mg mb G Y fa o pm cd doc dV kV ho hd hcd hD hmg hg args vals as hpre hlay hrd hwl hlo
 obtain rfl:dV=.none:=Dflts.none hD hdf
 obtain rfl:kV=.none:=Dflts.noKw hD
 obtain⟨a,vs,ns,rfl,rfl,hobj,hints,hlen⟩:=aT8 hn hpre hwl
 refine enter_call (V9 (call w s₀ s₁ mg mb fa o pm cd doc a vs ns G Y ho (fd_plain hd) hcd hmg hobj hints hlen hg) fun r s' hq=>?_)
 obtain⟨rfl,h2,h3,h4⟩:=hq
 exact⟨.inl ⟨.bool true,.bool true,[],rfl,fun _=>rfl,.bool true,aU1 l _,fun _=>⟨List.Pairwise.nil,fun _ hm=>(nomatch hm)⟩⟩,h2,h3,h4⟩
section
variable {K:Frag}
end
end Att
namespace L2
open PySem PySem.Spec PyProof.Rows
theorem as7:∀ {vs:List Value} {ns:List Int},IntsAre vs ns->x9 (ns.map V.int) vs
 | _,_,.nil=>.nil
 | _,_,.cons n t h=>.cons ⟨t,rfl⟩ (as7 h)
def bz5 (H:Hp):Prop:=∀ b,H b=none\/∃ o xs,H b=some (.frz o (.lst xs))
theorem bd4 {K:W.Frag}{mg mb:Str->Option Value}{CX:CXT}{k:Nat}{fa:Addr}{sp:Sp}{s₁:Shared}{ns:List Int}
  (KX:K.In s₁.heap)(hns:s₁.heap.Ns i6 mg)(hb:s₁.heap.Ns bh1 mb)(hbb:∀ x:Str,x≠"__name__"->mb x=ab0 x)(hlim:s₁.heap.NoLimit)(hg:s₁.gens=#[])
  (ha:s₁.heap.get? a=some { cls:=.type "list",data:=.seq vs.toArray })(hi:IntsAre vs ns)(hl:ns.length<=d7)(hr:U4 k aS5)
  (F:∀ base:Heap,K.In base->base.Ns i6 mg->B6 P w K mg base CX k fa fd [x] sp)(hbind:∀ (s:Shared) (u:Value),aS3 s fd ⟨[u],[]⟩ [(x,u)])
  (hsp:∀ H:Hp,bz5 H->SqL K H a (ns.map V.int)->sp [.ref a] H (fun v _=>v=.bl true) fun _ _ _=>False)
  (hCX:∀ H e s',CX [] H s₁ (fun _ _ _=>False) e s'->False) :
  ak2 (m7 P w) aS5 (.call (.ref fa) ⟨[.ref a],[]⟩) (fun r s'=>r=.ok (.ret (.bool true))/\OldK s₁.heap s'.heap/\s'.os=s₁.os/\aj9 s'.gens) s₁:=by
 have rv:=as7 hi
 have lenV:=hi.length
 have core:∀ H:Hp,bz5 H->SqL K H a (ns.map V.int)->HOk P w H s₁.heap->(∀ b,H b≠none->b=a)->(H a≠none->K.lookup a=none) ->
   ak2 (m7 P w) aS5 (.call (.ref fa) ⟨[.ref a],[]⟩) (fun r s'=>r=.ok (.ret (.bool true))/\OldK s₁.heap s'.heap/\s'.os=s₁.os/\aj9 s'.gens) s₁:=by
  intro H hO hS hok hA hK
  have base_of:∀ {b:Addr} {o:Obj},s₁.heap.get? b=some o->H b=none->(ax9 s₁.heap H).get? b=some o:=fun e n=>be4 e n
  have noA:∀ {b:Addr} {o:Obj} {es:Array G2} {ep:Nat},s₁.heap.get? b=some o->o.data=.dict es ep->H b=none:=fun {b o es ep} e d=>by
   cases q:H b with
   | none=>rfl
   | some u =>
    have e':b=a:=hA b (by rw[q];simp)
    subst e'
    rw[ha]at e;cases e
    have d':Data.seq vs.toArray _=Data.dict es ep:=d
    cases d'
  have nsK:∀ {b:Addr} {m:Str->Option Value},s₁.heap.Ns b m->(ax9 s₁.heap H).Ns b m:=fun {b m} ⟨o,es,ep,e,d,r⟩=>⟨o,es,ep,base_of e (noA e d),d,r⟩
  have hKb:K.In (ax9 s₁.heap H):=fun b o e=>base_of (KX b o e) (by
   cases q:H b with
   | none=>rfl
   | some u =>
    have e':b=a:=hA b (by rw[q];simp)
    subst e'
    rw[hK (by rw[q];simp)]at e;cases e)
  have hM:Mod K mg (ax9 s₁.heap H):=⟨hKb,nsK hns,⟨mb,nsK hb,hbb⟩,let ⟨mc,h1,h2⟩:=hlim;⟨mc,nsK h1,h2⟩⟩
  have e0:bo7 P w K mg (ax9 s₁.heap H) aS5 [] s₁ H:=⟨rfl,hM,fun b o e=>bm3 e,bh7 (aV6 _ _),trivial,fun b hb=>absurd (show b∈([]:List Addr) from hb) (by simp),hok,.of_eq hg⟩
  refine V9 ((F _ hKb (nsK hns)).run aS5 [] s₁ H ⟨[.ref a],[]⟩ [.ref a] [.ref a] _ _ hr e0 (hbind s₁ (.ref a)) (.cons rfl .nil) (hsp H hO hS)) fun r s' h=>?_
  cases r with
  | error e=>exact(hCX H e s' h).elim
  | ok fl =>
   cases fl with
   | next=>exact False.elim h
   | brk=>exact False.elim h
   | cont=>exact False.elim h
   | ret u =>
    obtain⟨v,H',os,bare,un,hok',r',q⟩:=h
    have q':v=.bl true:=q
    subst q'
    obtain rfl:u=Value.bool true:=r'
    refine⟨rfl,OldK.of_keep fun b o e=>?_,os,bare⟩
    cases q:H b with
    | none=>exact un.keep b o e q (by intro z;exact absurd (show b∈([]:List Addr) from z) (by simp)) (by simp)
    | some u =>
     rcases hO b with z | ⟨ob,xs,z⟩
     ·rw[q]at z;cases z
     ·have z2:=un.frzs b ob _ z
      obtain⟨e1,_⟩:=hok b _ z
      obtain⟨e2,_⟩:=hok' b _ z2
      rw[e]at e1;cases e1
      exact e2
 cases hk:K.lookup a with
 | some o =>
  have e:=KX a o hk
  rw[ha]at e
  cases e
  refine core (fun _=>none) (fun _=>.inl rfl) (.inr ⟨_,vs.toArray,_,hk,rfl,rfl,rfl,by rw[f6,lenV];exact hl,by simpa using rv⟩) (fun b u z=>by have z':(none:Option HO)=some u:=z;cases z') (fun b z=>absurd rfl z) fun z=>absurd rfl z
 | none =>
  refine core (fun b=>if b=a then some (.frz { cls:=.type "list",data:=.seq vs.toArray } (.lst (ns.map V.int))) else none) (fun b=>?_) (.inl (.inr ⟨{ cls:=.type "list",data:=.seq vs.toArray },if_pos rfl⟩)) (fun b u z=>?_) (fun b z=>?_) fun _=>hk
  ·by_cases hb:b=a
   ·exact .inr ⟨_,_,if_pos hb⟩
   ·exact .inl (if_neg hb)
  ·by_cases hb:b=a
   ·have z':=(if_pos hb).symm.trans z
    cases z'
    subst hb
    exact⟨ha,by rw[b6];exact hl,vs,_,rv,ha⟩
   ·have z':=(if_neg hb).symm.trans z
    cases z'
  ·by_cases hb:b=a
   ·exact hb
   ·exact absurd (if_neg hb) z
theorem walk_of {l:PySem.W.OpenLaw} {k:Nat} {q:Program} {loose:List Str} {d:DefRec} {K:Params->PySem.W.Frag} {CX:World->CXT} {sp:World->Sp}
  (hn:l.most=some n) (hn2:n<=d7) (hdf:d.params.defaults=[]) (hr:U4 k aS5)
  (hY:∀ (w:World) (h:Heap),YP w h->(K w.params).In h)
  (F : ∀ (w : World) (mg : Str -> Option Value) (fa : Addr) (h : Heap), (K w.params).In h -> h.Ns i6 mg -> mg d.name = some (.ref fa) ->
   ∃ fd:FuncData,(∀ (s:Shared) (u:Value),aS3 s fd ⟨[u],[]⟩ [(x,u)]) /\
    ∀ base:Heap,(K w.params).In base->base.Ns i6 mg->B6 l.prog w (K w.params) mg base (CX w) k fa fd [x] (sp w))
  (hsp:∀ (w:World) (H:Hp) (a:Addr) (ns:List Int),ns.length<=n->bz5 H->SqL (K w.params) H a (ns.map V.int)->sp w [.ref a] H (fun v _=>v=.bl true) fun _ _ _=>False)
  (hCX:∀ (w:World) (H:Hp) (s:Shared) (e:Value) (s':Shared),CX w [] H s (fun _ _ _=>False) e s'->False) :
  PySem.W.WalkO q loose XP YP l.row.toRowW d [] (fun f vs=>PySem.call f vs):=by
 refine Att.attach_call hn hdf fun w s₀ s₁ mg mb fa o pm cd doc a vs ns G Y ho hd hcd hmg hobj hints hlen hg=>?_
 have KX:=hY w _ Y
 obtain⟨fd,hb,hF⟩:=F w mg fa _ KX G.T.g hmg
 exact bd4 KX G.T.g G.T.b G.T.builtins G.T.nolimit hg hobj hints (o5 hlen hn2) hr hF hb (fun H hO hS=>hsp w H a ns hlen hO hS) fun H e s'=>hCX w H s₁ e s'
end L2
namespace L2
open PySem PySem.Spec PyProof.Rows
def ac0 (s:Stmt):Arguments:=match s with
 | .FunctionDef _ a _ _ _ _ _ _ _ _=>a
 | _=>{ posonlyargs:=[],args:=[],vararg:=none,kwonlyargs:=[],kw_defaults:=[],kwarg:=none,defaults:=[] }
def V7 (s:Stmt):List Stmt:=match s with
 | .FunctionDef _ _ b _ _ _ _ _ _ _=>b
 | _=>[]
def p5 (s:Stmt):Scope:=match s with
 | .FunctionDef _ _ _ _ _ _ sc _ _ _=>sc
 | _=>{ kind:=.function,names:=[],isGenerator:=false,isCoroutine:=false }
abbrev CX0:CXT:=fun _ _ _ _ _ _=>False
abbrev E0:XK:=fun _ _ _=>False
theorem E1:ar1 CX0 X E0:=fun _ _ _ _ _ _ _ h=>h.elim
structure Fun (K:W.Frag) (x qual:Str) (st:Stmt) (f:Addr) (fd:FuncData):Prop where
 ex:∃ (oc:Value) (od:Option Addr) (kV doc pm:Value) (an:Option Addr) (cdv ct:Value) (osl:Array (Option Value)),
  fd=O9 x qual (ac0 st) (V7 st) (p5 st) .none kV doc pm an cdv ct/\K.lookup f=some ⟨oc,od,.func fd,osl⟩/\az7 K cdv qual=true
 kp:X6 K (.ref f)=true
section
variable {K:W.Frag} {mg:Str->Option Value} {base:Heap}
theorem Fun.ok {st:Stmt} {k:Nat} {sp:Sp} (F:Fun K x qual st f fd) (S:A7 N ps (p5 st))
  (hbody : ∀ (cdv : Value) (A : Around) (outer : List Env) (s : Shared) (H : Hp) (vs : List V) (Q : VK) (E : XK), U4 k (A.deeper (U0 qual (p5 st) s.heap.objs.size f cdv)) -> sp vs H Q E ->
   ∃ t,PSs (al3 CX0 P w K mg base N qual (p5 st) f cdv A outer s H E).nox (V7 st) t/\t { nx:=fun _ H'=>Q .non H',rt:=Q } (start N vs) H) (len:∀ vs H Q E,sp vs H Q E->vs.length=ps.length:=by intro _ _ _ _ h;repeat first | (obtain⟨rfl,_⟩:=h;rfl) | obtain⟨_,h⟩:=h):B6 P w K mg base CX0 (k+1) f fd ps sp:=by
 obtain⟨oc,od,kV,doc,pm,an,cdv,ct,osl,rfl,lk,hcd⟩:=F.ex
 refine br0 lk hcd S len fun A outer s H vs Q E hr hsp=>?_
 obtain⟨t,h,q⟩:=hbody cdv A outer s H vs Q E hr hsp
 exact⟨t,h.nox,q⟩
theorem Fun.binds {st:Stmt}(F:Fun K x qual st f fd)
  (h:∀ (kV doc pm:Value) (an:Option Addr) (cdv ct:Value) (us:List Value),us.length=ps.length->bindArgs (O9 x qual (ac0 st) (V7 st) (p5 st) .none kV doc pm an cdv ct) ⟨us,[]⟩=pure (ps.zip us)):Binds K fd ps []:=by
 obtain⟨oc,od,kV,doc,pm,an,cdv,ct,osl,rfl,lk,hcd⟩:=F.ex
 exact .all (h kV doc pm an cdv ct)
theorem fun_mk {st:Stmt}{oc:Value}{od an:Option Addr}{osl:Array (Option Value)}{kV doc pm cdv ct:Value}(l:K.lookup f=some ⟨oc,od,.func (O9 x qual (ac0 st) (V7 st) (p5 st) .none kV doc pm an cdv ct),osl⟩)
  (c:az7 K cdv qual=true)(k:X6 K (.ref f)=true):Fun K x qual st f (O9 x qual (ac0 st) (V7 st) (p5 st) .none kV doc pm an cdv ct):=⟨⟨oc,od,kV,doc,pm,an,cdv,ct,osl,rfl,l,c⟩,k⟩
structure Fq (K:W.Frag) (mg:Str->Option Value) (x:Str) (st:Stmt) (f:Addr) (fd:FuncData) (ps:List Str):Prop where
 F:Fun K x x st f fd
 b:Binds K fd ps []
 m:mg x=some (.ref f)
theorem E6 {CX:CXT}{k:Nat}{sp:Sp}{es:List Expr}{t:TA}{E:XK}{p:Pos}{st:Stmt}(F:B6 X.prog X.w X.K X.mg X.base CX k f fd ps sp)(hr:U4 k X.A)(hg:Gl X x)(q:Fq X.K X.mg x st f fd ps)(hx:ar1 CX X E)
  (ha:PA X (e::es) t)(hdb:(x == ("__debug__":Str))=false:=by decide)(he:B7 (e::es) X.env=(false,eval e X.env)::B7 es X.env:=by rfl)(hpl:(ak0 pos (B7 es X.env)).any (·.1)=false:=by rfl) :
  PE X (.Call (.Name x p) (e::es) [] pos) (bp8 sp [] E t):=aw9 F hr hg q.m q.F.kp q.b .nil hx ha hdb he hpl
end
theorem pv (i:Nat)(hN:X.N[i]?=some x:=by rfl)(hv:Vis X.env.scope x:=by first | exact Or.inl rfl | exact Or.inr (Or.inl rfl) | exact Or.inr (Or.inr rfl))(hd:(x == ("__debug__":Str))=false:=by decide)
  (hcd:(x == ("__classdict__":Str))=false:=by decide):PE X (.Name x pos) (bC7 i):=bu9 hN hv hd hcd
theorem P9 {A B:Prop}(h:B):if false=true then A else B:=by
 rw[if_neg c7]
 exact h
theorem W8 {A B:Prop}(h:A):if true=true then A else B:=by
 rw[if_pos rfl]
 exact h
theorem aV3 {c A B:Prop}[Decidable c](h1:c->A)(h2:¬ c->B):if c then A else B:=by
 by_cases h:c
 ·rw[if_pos h]
  exact h1 h
 ·rw[if_neg h]
  exact h2 h
def A5 (H H':Hp):Prop:=∀ b o,H b=some o->H' b=some o
theorem A5.trans {H1 H2:Hp}(a:A5 H H1)(b:A5 H1 H2):A5 H H2:=fun c o h=>b c o (a c o h)
theorem A5.free (e:A5 H H')(h:H' l=Option.none):H l=Option.none:=by
 cases q:H l with
 | none=>rfl
 | some o =>
  rw[e l o q]at h
  cases h
theorem A5.seq {K:W.Frag}(e:A5 H H')(h:SqL K H a xs):SqL K H' a xs:=by
 rcases h with(h | ⟨o,h⟩) | h
 ·exact .inl (.inl (e _ _ h))
 ·exact .inl (.inr ⟨o,e _ _ h⟩)
 ·exact .inr h
end L2
namespace Tim
open PySem PyProof.Rows
def S3:Bool->Keyed->Array Keyed->Nat->Nat->Nat->StateT SortSt Sem (Option Nat):=sortPriv% PySem.Builtin.gallop
def K6:Nat->StateT SortSt Sem Unit:=sortPriv% PySem.Builtin.setMinGallop
def ap3:Array Keyed->Array Keyed->StateT SortSt Sem (Array Keyed):=sortPriv% PySem.Builtin.mergeLo
def ap4:Array Keyed->Array Keyed->StateT SortSt Sem (Array Keyed):=sortPriv% PySem.Builtin.mergeHi
def Y5 (left:Bool)(key:Keyed)(arr:Array Keyed)(base:Nat)(i:Nat):StateT SortSt Sem (Option Bool):=do
 let x <- Z7 arr (base+i)
 if left then lt' x key else return (<- lt' key x).map (!·)
theorem aL2 (left:Bool)(key:Keyed)(arr:Array Keyed)(base n hint:Nat):S3 left key arr base n hint=(do
 let mut lastofs:=0
 let mut ofs:=1
 let mut lo:=0
 let mut hi:=0
 let some right <- Y5 left key arr base hint | return none
 if right then
  let maxofs:=n - hint
  for _ in [0:n] do
   if ofs≥maxofs then break
   let some more <- Y5 left key arr base (hint+ofs) | return none
   if !more then break
   lastofs:=ofs
   ofs:=2*ofs+1
  lo:=hint+lastofs+1
  hi:=hint+min ofs maxofs
 else
  let maxofs:=hint+1
  for _ in [0:n] do
   if ofs≥maxofs then break
   let some found <- Y5 left key arr base (hint - ofs) | return none
   if found then break
   lastofs:=ofs
   ofs:=2*ofs+1
  lo:=hint+1 - min ofs maxofs
  hi:=hint - lastofs
 for _ in [0:n] do
  if lo≥hi then break
  let m:=lo+(hi - lo) / 2
  let some more <- Y5 left key arr base m | return none
  if more then lo:=m+1 else hi:=m
 return some hi):=rfl
theorem ah3 (g:Nat):K6 g=modify (fun s=>SortSt.mk' (kindOf s) (j2 s) (r6 s) g (G3 s)):=rfl
structure Ord (B:Keyed->Keyed->Bool):Prop where
 irr:∀ x,B x x=false
 tr:∀ x y z,B x y=true->B y z=true->B x z=true
 ng:∀ x y z,B x z=true->B x y=true\/B y z=true
def le (B:Keyed->Keyed->Bool)(x y:Keyed):Prop:=B y x=false
theorem Ord.rf (o:Ord B)(x:Keyed):le B x x:=o.irr x
theorem Ord.of_lt (o:Ord B){x y:Keyed}(h:B x y=true):le B x y:=by
 unfold le
 cases e:B y x with
 | false=>rfl
 | true =>
  have:=o.tr _ _ _ h e
  rw[o.irr]at this
  cases this
theorem Ord.trans (o:Ord B){x y z:Keyed}(h1:le B x y)(h2:le B y z):le B x z:=by
 unfold le at *
 cases e:B z x with
 | false=>rfl
 | true =>
  rcases o.ng _ y _ e with h | h
  ·rw[h2]at h;cases h
  ·rw[h1]at h;cases h
theorem Ord.lt_le (o:Ord B){x y z:Keyed}(h1:B x y=true)(h2:le B y z):B x z=true:=by
 unfold le at h2
 rcases o.ng _ z _ h1 with h | h
 ·exact h
 ·rw[h2]at h;cases h
theorem Ord.le_lt (o:Ord B){x y z:Keyed}(h1:le B x y)(h2:B y z=true):B x z=true:=by
 unfold le at h1
 rcases o.ng _ x _ h2 with h | h
 ·rw[h1]at h;cases h
 ·exact h
section
variable {S:Keyed->Prop}
def Cmp (prog:Program)(w:World)(A:Around)(E:Value->Shared->Prop)(s:Shared)(κ:SortKind)(S:Keyed->Prop)(B:Keyed->Keyed->Bool):Prop:=
 ∀ (x y:Keyed),S x->S y->∀ (Q:Bool->Shared->Prop),Q (B x y) s->m5 (m7 prog w) A (keyLt' κ x.1 y.1) Q (fun _ _=>False) s
theorem an8 (C:Cmp prog w A E s κ S B){x y:Keyed}{st:SortSt}{Q:Option Bool->SortSt->Prop}(hk:kindOf st=κ)(hx:S x)(hy:S y)(h:Q (some (B x y)) st):wpS (m7 prog w) A E s (lt' x y) Q st:=by
 rw[lt'_eq]
 refine d8 (ak3 ?_)
 rw[hk]
 refine d8 (wpS_lift (bi6 ?_))
 refine C4 (C x y hx hy (fun b s'=>s'=s/\b=B x y) ⟨rfl,rfl⟩) (fun b s' hb=>?_) (fun _ _ f=>f.elim)
 obtain⟨rfl,rfl⟩:=hb
 exact⟨rfl,i7 h⟩
theorem A2 {arr:Array Keyed}{x:Keyed}{st:SortSt}{Q:Keyed->SortSt->Prop}(hi:arr[i]?=some x)(h:Q x st):wpS (m7 prog w) A E s (Z7 arr i) Q st:=by
 rw[elem'_eq,hi]
 exact i7 h
theorem aT3 (C:Cmp prog w A E s κ S B){x y:Keyed}{st:SortSt}{Q:Option Bool->SortSt->Prop}(hk:kindOf st=κ)(hi:(j2 st)[i]?=some x)(hj:(j2 st)[j]?=some y)(hx:S x)(hy:S y)(h:Q (some (B x y)) st) :
  wpS (m7 prog w) A E s (ltAt' i j) Q st:=by
 rw[ltAt'_eq]
 refine d8 (ak3 ?_)
 show wpS _ _ _ _ (do let x <- Z7 (j2 st) i;let y <- Z7 (j2 st) j;lt' x y) Q st
 exact d8 (A2 hi (d8 (A2 hj (an8 C hk hx hy h))))
theorem W5 {n:String}{st:SortSt}{Q:Unit->SortSt->Prop}(h:Q () st):wpS (m7 prog w) A E s (liftM (rule n):StateT SortSt Sem Unit) Q st:=wpS_lift (am3 ⟨rfl,h⟩)
def byn (B:Keyed->Keyed->Bool)(left:Bool)(key x:Keyed):Bool:=if left=true then B x key else !B key x
theorem aI0 (C:Cmp prog w A E s κ S B){left:Bool}{key x:Keyed}{arr:Array Keyed}{base:Nat}{st:SortSt}{Q:Option Bool->SortSt->Prop}(hk:kindOf st=κ)(hi:arr[base+i]?=some x)(hx:S x)(hy:S key)
  (h:Q (some (byn B left key x)) st):wpS (m7 prog w) A E s (Y5 left key arr base i) Q st:=by
 unfold Y5
 refine d8 (A2 hi ?_)
 cases left with
 | true=>exact an8 C hk hx hy h
 | false=>exact d8 (an8 C hk hy hx (i7 h))
theorem as6 {st:SortSt} {Q:Option Nat->SortSt->Prop} (P:Nat->Bool) {f:Nat->Option (Option Nat) × Nat × Nat->StateT SortSt Sem (ForInStep (Option (Option Nat) × Nat × Nat))} {k:Option (Option Nat) × Nat × Nat->StateT SortSt Sem (Option Nat)}
  (mono:∀ i j,i<=j->j<n->P j=true->P i=true)
  (hf : ∀ x lo hi (R : ForInStep (Option (Option Nat) × Nat × Nat) -> SortSt -> Prop), hi <= n -> (hi <= lo -> R (.done (none, lo, hi)) st) -> (lo < hi -> P (lo + (hi - lo) / 2) = true -> R (.yield (none, lo + (hi - lo) / 2 + 1, hi)) st) ->
   (lo<hi->P (lo+(hi - lo) / 2)=false->R (.yield (none,lo,lo+(hi - lo) / 2)) st)->wpS (m7 prog w) A E s (f x (none,lo,hi)) R st)
  (hk:∀ lo hi (R:Option Nat->SortSt->Prop),R (some hi) st->wpS (m7 prog w) A E s (k (none,lo,hi)) R st)
  (h:∀ k,k<=n->(∀ i,i<k->P i=true)->(∀ i,k<=i->i<n->P i=false)->Q (some k) st) {lo hi:Nat}
  (h1:lo<=hi) (h2:hi<=n) (h3:∀ i,i<lo->P i=true) (h4:∀ i,hi<=i->i<n->P i=false) :
  wpS (m7 prog w) A E s (forIn [:n] ((none,lo,hi):Option (Option Nat) × Nat × Nat) f >>= k) Q st:=by
 have anti:∀ i j,i<=j->j<n->P i=false->P j=false:=fun i j h1 h2 h3=>by
  cases e:P j with
  | false=>rfl
  | true=>rw[mono i j h1 h2 e]at h3;cases h3
 refine d8 (Q1 (B0 (I:=fun x c st'=>st'=st/\∃ lo hi,c=(none,lo,hi)/\lo<=hi/\hi<=n/\hi - lo<=n - x/\(∀ i,i<lo->P i=true)/\(∀ i,hi<=i->i<n->P i=false))
  (Q:=fun c st'=>st'=st/\∃ k,c=(none,k,k)/\k<=n/\(∀ i,i<k->P i=true)/\(∀ i,k<=i->i<n->P i=false)) ?step ?fin ⟨rfl,lo,hi,rfl,h1,h2,by omega,h3,h4⟩) ?post)
 case fin =>
  rintro c st' ⟨rfl,lo,hi,rfl,h1,h2,hm,h3,h4⟩
  have:lo=hi:=by omega
  subst this
  exact⟨rfl,lo,rfl,h2,h3,h4⟩
 case post =>
  rintro c st' ⟨rfl,k,rfl,h2,h3,h4⟩
  exact hk _ _ _ (h k h2 h3 h4)
 case step =>
  rintro x c st' _ hx ⟨rfl,lo,hi,rfl,h1,h2,hm,h3,h4⟩
  refine hf x lo hi _ h2 (fun hge=>?_) (fun hlt e=>?_) (fun hlt e=>?_)
  ·have:lo=hi:=by omega
   subst this
   exact⟨rfl,lo,rfl,h2,h3,h4⟩
  ·exact⟨rfl,_,hi,rfl,by omega,h2,by omega,fun i hi'=>mono i _ (by omega) (by omega) e,h4⟩
  ·exact⟨rfl,lo,_,rfl,by omega,by omega,by omega,h3,fun i h5 h6=>anti _ i h5 h6 e⟩
theorem av7 {left:Bool} {key:Keyed} {arr:Array Keyed} {base hint:Nat} {st:SortSt} {Q:Option Nat->SortSt->Prop} (P:Nat->Bool)
  (hP:∀ i,i<n->∀ R:Option Bool->SortSt->Prop,R (some (P i)) st->wpS (m7 prog w) A E s (Y5 left key arr base i) R st)
  (mono:∀ i j,i<=j->j<n->P j=true->P i=true) (hh:hint<n)
  (h:∀ k,k<=n->(∀ i,i<k->P i=true)->(∀ i,k<=i->i<n->P i=false)->Q (some k) st) :
  wpS (m7 prog w) A E s (S3 left key arr base n hint) Q st:=by
 have anti:∀ i j,i<=j->j<n->P i=false->P j=false:=fun i j h1 h2 h3=>by
  cases e:P j with
  | false=>rfl
  | true=>rw[mono i j h1 h2 e]at h3;cases h3
 rw[aL2]
 dsimp only
 refine d8 (hP hint hh _ ?_)
 cases e0:P hint with
 | true =>
  dsimp only
  rw[if_pos rfl]
  refine d8 (Q1 (B0 (I:=fun x c st'=>st'=st/\∃ l o,c=(none,l,o)/\l<o/\x+1<=o/\hint+l<n/\P (hint+l)=true)
   (Q:=fun c st'=>st'=st/\∃ l o,c=(none,l,o)/\l<o/\hint+l<n/\P (hint+l)=true/\(n - hint<=o\/(hint+o<n/\P (hint+o)=false))) ?step ?fin ⟨rfl,0,1,rfl,by omega,by omega,by omega,e0⟩) ?post)
  case fin =>
   rintro c st' ⟨rfl,l,o,rfl,h1,h2,h3,h4⟩
   exact⟨rfl,l,o,rfl,h1,h3,h4,.inl (by omega)⟩
  case post =>
   rintro c st' ⟨rfl,l,o,rfl,h1,h3,h4,h5⟩
   dsimp only
   refine as6 P mono
    (fun x lo hi R hn a b c => by
     dsimp only
     by_cases hge:lo≥hi
     ·rw[if_pos hge]
      exact i7 (a hge)
     ·rw[if_neg hge]
      refine d8 (hP _ (by omega) _ ?_)
      cases e:P (lo+(hi - lo) / 2) with
      | true =>
       dsimp only
       rw[if_pos rfl]
       exact i7 (b (by omega) e)
      | false =>
       dsimp only
       rw[if_neg c7]
       exact i7 (c (by omega) e)) (fun lo hi R hR=>i7 hR) h (lo:=hint+l+1) (hi:=hint+min o (n - hint)) (by omega) (by omega) (fun i hi=>mono i _ (by omega) h3 h4) (fun i h6 h7=>?_)
   rcases h5 with h5 | ⟨h5,h8⟩
   ·omega
   ·exact anti _ i (by omega) h7 h8
  case step =>
   rintro x c st' _ hx ⟨rfl,l,o,rfl,h1,h2,h3,h4⟩
   dsimp only
   by_cases hge:o≥n - hint
   ·rw[if_pos hge]
    exact i7 ⟨rfl,l,o,rfl,h1,h3,h4,.inl hge⟩
   ·rw[if_neg hge]
    refine d8 (hP _ (by omega) _ ?_)
    cases e:P (hint+o) with
    | true =>
     dsimp only
     rw[if_neg (by simp)]
     exact i7 ⟨rfl,o,2*o+1,rfl,by omega,by omega,by omega,e⟩
    | false =>
     dsimp only
     rw[if_pos (by simp)]
     exact i7 ⟨rfl,l,o,rfl,h1,h3,h4,.inr ⟨by omega,e⟩⟩
 | false =>
  dsimp only
  rw[if_neg c7]
  refine d8 (Q1 (B0 (I:=fun x c st'=>st'=st/\∃ l o,c=(none,l,o)/\l<o/\x+1<=o/\l<=hint/\P (hint - l)=false)
   (Q:=fun c st'=>st'=st/\∃ l o,c=(none,l,o)/\l<o/\l<=hint/\P (hint - l)=false/\(hint+1<=o\/(o<=hint/\P (hint - o)=true))) ?step ?fin ⟨rfl,0,1,rfl,by omega,by omega,by omega,e0⟩) ?post)
  case fin =>
   rintro c st' ⟨rfl,l,o,rfl,h1,h2,h3,h4⟩
   exact⟨rfl,l,o,rfl,h1,h3,h4,.inl (by omega)⟩
  case post =>
   rintro c st' ⟨rfl,l,o,rfl,h1,h3,h4,h5⟩
   dsimp only
   refine as6 P mono
    (fun x lo hi R hn a b c => by
     dsimp only
     by_cases hge:lo≥hi
     ·rw[if_pos hge]
      exact i7 (a hge)
     ·rw[if_neg hge]
      refine d8 (hP _ (by omega) _ ?_)
      cases e:P (lo+(hi - lo) / 2) with
      | true =>
       dsimp only
       rw[if_pos rfl]
       exact i7 (b (by omega) e)
      | false =>
       dsimp only
       rw[if_neg c7]
       exact i7 (c (by omega) e)) (fun lo hi R hR=>i7 hR) h (lo:=hint+1 - min o (hint+1)) (hi:=hint - l) (by omega) (by omega) (fun i hi=>?_) (fun i h6 h7=>anti _ i h6 h7 h4)
   rcases h5 with h5 | ⟨h5,h8⟩
   ·omega
   ·exact mono i _ (by omega) (by omega) h8
  case step =>
   rintro x c st' _ hx ⟨rfl,l,o,rfl,h1,h2,h3,h4⟩
   dsimp only
   by_cases hge:o≥hint+1
   ·rw[if_pos hge]
    exact i7 ⟨rfl,l,o,rfl,h1,h3,h4,.inl hge⟩
   ·rw[if_neg hge]
    refine d8 (hP _ (by omega) _ ?_)
    cases e:P (hint - o) with
    | true =>
     dsimp only
     rw[if_pos rfl]
     exact i7 ⟨rfl,l,o,rfl,h1,h3,h4,.inr ⟨by omega,e⟩⟩
    | false =>
     dsimp only
     rw[if_neg c7]
     exact i7 ⟨rfl,o,2*o+1,rfl,by omega,by omega,by omega,e⟩
theorem P6 (o:Ord B)(C:Cmp prog w A E s κ S B){left:Bool}{key:Keyed}{arr:Array Keyed}{base hint:Nat}{st:SortSt}{Q:Option Nat->SortSt->Prop}(hk:kindOf st=κ)(hkey:S key)(hb:base+n<=arr.size)
  (hS:∀ (i:Nat) (x:Keyed),i<n->arr[base+i]?=some x->S x)
  (hs:∀ (i j:Nat) (x y:Keyed),i<=j->j<n->arr[base+i]?=some x->arr[base+j]?=some y->le B x y)(hh:hint<n)
  (h:∀ k,k<=n->(∀ (i:Nat) (x:Keyed),i<k->arr[base+i]?=some x->byn B left key x=true)->(∀ (i:Nat) (x:Keyed),k<=i->i<n->arr[base+i]?=some x->byn B left key x=false)->Q (some k) st) :
  wpS (m7 prog w) A E s (S3 left key arr base n hint) Q st:=by
 have ex:∀ i,i<n->∃ x,arr[base+i]?=some x:=fun i hi=>⟨arr[base+i]'(by omega),getElem?_pos arr _ (by omega)⟩
 have ev:∀ (i:Nat) (x:Keyed),arr[base+i]?=some x->((arr[base+i]?).getD key)=x:=fun i x e=>by rw[e];rfl
 refine av7 (fun i=>byn B left key ((arr[base+i]?).getD key)) (fun i hi R hR=>?_) (fun i j hij hj hp=>?_) hh (fun k hk' h1 h2=>h k hk' (fun i x hi e=>?_) (fun i x h3 h4 e=>?_))
 ·obtain⟨x,e⟩:=ex i hi
  rw[ev i x e]at hR
  exact aI0 C hk e (hS i x hi e) hkey hR
 ·obtain⟨x,e⟩:=ex i (by omega)
  obtain⟨y,e'⟩:=ex j hj
  rw[ev j y e']at hp
  rw[ev i x e]
  have l:=hs i j x y hij hj e e'
  unfold byn at hp ⊢
  cases left with
  | true =>
   simp only[if_true]at hp ⊢
   exact o.le_lt l hp
  | false =>
   simp only[d3,if_false,E7]at hp ⊢
   exact o.trans l hp
 ·have:=h1 i hi;rw[ev i x e]at this;exact this
 ·have:=h2 i h3 h4;rw[ev i x e]at this;exact this
end
theorem aE1 (a b:Array Keyed):ap3 a b=(do
 rule "list.sort.merge-lo"
 let total:=a.size+b.size
 let done (out:Array Keyed) (ia ib:Nat):=out++a.extract ia a.size++b.extract ib b.size
 let lastOfA (out:Array Keyed) (ia ib:Nat):=out++b.extract ib b.size++a.extract ia a.size
 let mut out:Array Keyed:=#[<- Z7 b 0]
 let mut ia:=0
 let mut ib:=1
 if ib == b.size then return done out ia ib
 if ia+1 == a.size then return lastOfA out ia ib
 let mut minGallop:=gallopOf (<- get)
 for _ in [0:total] do
  let mut acount:=0
  let mut bcount:=0
  for _ in [0:total] do
   let some bWins <- lt' (<- Z7 b ib) (<- Z7 a ia) | return done out ia ib
   if bWins then
    out:=out.push (<- Z7 b ib);ib:=ib+1;bcount:=bcount+1;acount:=0
    if ib == b.size then return done out ia ib
    if bcount≥minGallop then break
   else
    out:=out.push (<- Z7 a ia);ia:=ia+1;acount:=acount+1;bcount:=0
    if ia+1 == a.size then return lastOfA out ia ib
    if acount≥minGallop then break
  rule "list.sort.gallop"
  minGallop:=minGallop+1
  for _ in [0:total] do
   if minGallop > 1 then minGallop:=minGallop - 1
   K6 minGallop
   let some k <- S3 false (<- Z7 b ib) a ia (a.size - ia) 0 | return done out ia ib
   acount:=k
   if k > 0 then
    out:=out++a.extract ia (ia+k);ia:=ia+k
    if ia+1 == a.size then return lastOfA out ia ib
    if ia == a.size then return done out ia ib
   out:=out.push (<- Z7 b ib);ib:=ib+1
   if ib == b.size then return done out ia ib
   let some k <- S3 true (<- Z7 a ia) b ib (b.size - ib) 0 | return done out ia ib
   bcount:=k
   if k > 0 then
    out:=out++b.extract ib (ib+k);ib:=ib+k
    if ib == b.size then return done out ia ib
   out:=out.push (<- Z7 a ia);ia:=ia+1
   if ia+1 == a.size then return lastOfA out ia ib
   if acount<7 && bcount<7 then break
  minGallop:=minGallop+1
  K6 minGallop
 ar6 "internal:list.sort.merge-bound"):=rfl
theorem aE2 (a b:Array Keyed):ap4 a b=(do
 rule "list.sort.merge-hi"
 let total:=a.size+b.size
 let done (out:Array Keyed) (na nb:Nat):=a.extract 0 na++b.extract 0 nb++out.reverse
 let firstOfB (out:Array Keyed) (na nb:Nat):=b.extract 0 nb++a.extract 0 na++out.reverse
 let mut na:=a.size - 1
 let mut nb:=b.size
 let mut out:Array Keyed:=#[<- Z7 a na]
 if na == 0 then return done out na nb
 if nb == 1 then return firstOfB out na nb
 let mut minGallop:=gallopOf (<- get)
 for _ in [0:total] do
  let mut acount:=0
  let mut bcount:=0
  for _ in [0:total] do
   let some aWins <- lt' (<- Z7 b (nb - 1)) (<- Z7 a (na - 1)) | return done out na nb
   if aWins then
    na:=na - 1;out:=out.push (<- Z7 a na);acount:=acount+1;bcount:=0
    if na == 0 then return done out na nb
    if acount≥minGallop then break
   else
    nb:=nb - 1;out:=out.push (<- Z7 b nb);bcount:=bcount+1;acount:=0
    if nb == 1 then return firstOfB out na nb
    if bcount≥minGallop then break
  rule "list.sort.gallop"
  minGallop:=minGallop+1
  for _ in [0:total] do
   if minGallop > 1 then minGallop:=minGallop - 1
   K6 minGallop
   let some at_ <- S3 false (<- Z7 b (nb - 1)) a 0 na (na - 1) | return done out na nb
   let k:=na - at_
   acount:=k
   if k > 0 then
    out:=out++(a.extract at_ na).reverse;na:=at_
    if na == 0 then return done out na nb
   nb:=nb - 1;out:=out.push (<- Z7 b nb)
   if nb == 1 then return firstOfB out na nb
   let some at_ <- S3 true (<- Z7 a (na - 1)) b 0 nb (nb - 1) | return done out na nb
   let k:=nb - at_
   bcount:=k
   if k > 0 then
    out:=out++(b.extract at_ nb).reverse;nb:=at_
    if nb == 1 then return firstOfB out na nb
    if nb == 0 then return done out na nb
   na:=na - 1;out:=out.push (<- Z7 a na)
   if na == 0 then return done out na nb
   if acount<7 && bcount<7 then break
  minGallop:=minGallop+1
  K6 minGallop
 ar6 "internal:list.sort.merge-bound"):=rfl
structure MI (R:Keyed->Keyed->Prop) (out ra rb all:List Keyed):Prop where
 so:out.Pairwise R
 oa:∀ x∈out,∀ y∈ra,R x y
 ob:∀ x∈out,∀ y∈rb,R x y
 sa:ra.Pairwise R
 sb:rb.Pairwise R
 pm:(out++(ra++rb)).Perm all
theorem MI.blkA {blk all:List Keyed}(m:MI R out (blk++ra) rb all)(h:∀ x∈blk,∀ y∈rb,R x y):MI R (out++blk) ra rb all:=by
 obtain⟨s1,s2,s3⟩:=t6.mp m.sa
 refine⟨t6.mpr ⟨m.so,s1,fun x hx y hy=>m.oa x hx y (m6 _ hy)⟩,fun x hx y hy=>?_,fun x hx y hy=>?_,s2,m.sb,?_⟩
 ·rcases j0.mp hx with hx | hx
  ·exact m.oa x hx y (d6 _ hy)
  ·exact s3 x hx y hy
 ·rcases j0.mp hx with hx | hx
  ·exact m.ob x hx y hy
  ·exact h x hx y hy
 ·have:=m.pm
  simpa [p7] using this
theorem MI.blkB {blk all:List Keyed}(m:MI R out ra (blk++rb) all)(h:∀ x∈blk,∀ y∈ra,R x y):MI R (out++blk) ra rb all:=by
 obtain⟨s1,s2,s3⟩:=t6.mp m.sb
 refine⟨t6.mpr ⟨m.so,s1,fun x hx y hy=>m.ob x hx y (m6 _ hy)⟩,fun x hx y hy=>?_,fun x hx y hy=>?_,m.sa,s2,?_⟩
 ·rcases j0.mp hx with hx | hx
  ·exact m.oa x hx y hy
  ·exact h x hx y hy
 ·rcases j0.mp hx with hx | hx
  ·exact m.ob x hx y (d6 _ hy)
  ·exact s3 x hx y hy
 ·refine List.Perm.trans ?_ m.pm
  rw[p7]
  refine List.Perm.append_left _ ?_
  rw[<- p7,<- p7]
  exact List.Perm.append_right _ bg5
theorem MI.oneA {x:Keyed}{all:List Keyed}(m:MI R out (x::ra) rb all)(h:∀ y∈rb,R x y):MI R (out++[x]) ra rb all:=
 MI.blkA (blk:=[x]) m fun z hz y hy=>by rw[a8.mp hz];exact h y hy
theorem MI.oneB {x:Keyed}{all:List Keyed}(m:MI R out ra (x::rb) all)(h:∀ y∈ra,R x y):MI R (out++[x]) ra rb all:=
 MI.blkB (blk:=[x]) m fun z hz y hy=>by rw[a8.mp hz];exact h y hy
theorem MI.endAB {all:List Keyed}(m:MI R out ra rb all)(h:∀ x∈ra,∀ y∈rb,R x y):(out++(ra++rb)).Pairwise R/\(out++(ra++rb)).Perm all:=by
 refine⟨t6.mpr ⟨m.so,t6.mpr ⟨m.sa,m.sb,h⟩,fun x hx y hy=>?_⟩,m.pm⟩
 rcases j0.mp hy with hy | hy
 ·exact m.oa x hx y hy
 ·exact m.ob x hx y hy
theorem MI.endBA {all:List Keyed}(m:MI R out ra rb all)(h:∀ x∈rb,∀ y∈ra,R x y):(out++(rb++ra)).Pairwise R/\(out++(rb++ra)).Perm all:=by
 refine⟨t6.mpr ⟨m.so,t6.mpr ⟨m.sb,m.sa,h⟩,fun x hx y hy=>?_⟩,List.Perm.trans (List.Perm.append_left _ bg5) m.pm⟩
 rcases j0.mp hy with hy | hy
 ·exact m.ob x hx y hy
 ·exact m.oa x hx y hy
theorem drop_cons {α:Type}{l:List α}{x:α}(h:l[i]?=some x):l.drop i=x::l.drop (i+1):=by
 obtain⟨hi,rfl⟩:=a9.mp h
 exact Z4 hi
theorem ad7 {α:Type}(l:List α)(i k:Nat):l.drop i=(l.drop i).take k++l.drop (i+k):=by
 rw[<- aM5]
 exact(M8 k (l.drop i)).symm
theorem C2 {α:Type}{l:List α}{x:α}(h:x∈l.drop i):∃ j,i<=j/\j<l.length/\l[j]?=some x:=by
 obtain⟨k,hk⟩:=i8.mp h
 rw[Q5]at hk
 exact⟨i+k,by omega,(a9.mp hk).1,hk⟩
theorem Q2 {α:Type}{l:List α}{k:Nat}{x:α}(h:x∈(l.drop i).take k):∃ j,j<k/\l[i+j]?=some x:=by
 obtain⟨j,hj⟩:=i8.mp h
 rw[G6]at hj
 split at hj
 ·rename_i hlt
  rw[Q5]at hj
  exact⟨j,hlt,hj⟩
 ·cases hj
theorem aF6 (a:Array Keyed)(i k:Nat):(a.extract i (i+k)).toList=(a.toList.drop i).take k:=by
 rw[U5,O8,L3]
theorem an6 (a:Array Keyed)(i:Nat):(a.extract i a.size).toList=a.toList.drop i:=by
 rw[U5,O8]
 exact o1 (by simp)
theorem ay2 (a:Array Keyed)(i:Nat):(a.extract 0 i).toList=a.toList.take i:=by
 rw[U5,O8,List.drop_zero,Nat.sub_zero]
structure Sm (st st':SortSt):Prop where
 k:kindOf st'=kindOf st
 a:j2 st'=j2 st
 p:r6 st'=r6 st
 f:G3 st'=G3 st
theorem Sm.rfl' (st:SortSt):Sm st st:=⟨rfl,rfl,rfl,rfl⟩
theorem Sm.mg {st st':SortSt}(h:Sm st st')(g:Nat):Sm st (SortSt.mk' (kindOf st') (j2 st') (r6 st') g (G3 st')):=⟨h.k,h.a,h.p,h.f⟩
section
variable {S:Keyed->Prop}
theorem ab3 {g:Nat}{st:SortSt}{Q:Unit->SortSt->Prop}(h:Q () (SortSt.mk' (kindOf st) (j2 st) (r6 st) g (G3 st))):wpS (m7 prog w) A E s (K6 g) Q st:=by
 rw[ah3]
 exact am4 h
structure LoI (B:Keyed->Keyed->Bool) (a b out:Array Keyed) (ia ib:Nat):Prop where
 m:MI (le B) out.toList (a.toList.drop ia) (b.toList.drop ib) (a.toList++b.toList)
 ha:ia+1<a.size
 hb:ib<b.size
 sz:out.size=ia+ib
def Good (B:Keyed->Keyed->Bool)(a b r:Array Keyed):Prop:=r.toList.Pairwise (le B)/\r.toList.Perm (a.toList++b.toList)
theorem D4 {α σ:Type}{c:Prop}[Decidable c]{X Y:StateT σ Sem α}{Q:α->σ->Prop}{st:σ}(h:c)(k:wpS M A E s X Q st):wpS M A E s (if c then X else Y) Q st:=by
 rw[if_pos h]
 exact k
theorem D0 {α σ:Type}{c:Prop}[Decidable c]{X Y:StateT σ Sem α}{Q:α->σ->Prop}{st:σ}(h:¬ c)(k:wpS M A E s Y Q st):wpS M A E s (if c then X else Y) Q st:=by
 rw[if_neg h]
 exact k
theorem ab2 {α σ:Type}{c:Prop}[Decidable c]{X Y:StateT σ Sem α}{Q:α->σ->Prop}{st:σ}(h:wpS M A E s X Q st)(k:wpS M A E s Y Q st):wpS M A E s (if c then X else Y) Q st:=by
 split
 ·exact h
 ·exact k
theorem aA5 {α σ:Type}{c:Nat->Prop}[∀ m,Decidable (c m)]{X Y:Nat->StateT σ Sem α}{Q:α->σ->Prop}{st:σ}(hX:∀ m,X m=Y (m - 1))(h:∀ m,wpS M A E s (Y m) Q st):∀ m,wpS M A E s (if c m then X m else Y m) Q st:=fun m=>by
 split
 ·rw[hX]
  exact h _
 ·exact h m
theorem ae2 {α σ β γ:Type}{u0:β}{v0:γ}{c:β->γ->Prop}[∀ u v,Decidable (c u v)]{X Y:β->γ->StateT σ Sem α}{Q:α->σ->Prop}{st:σ}{R:β->γ->Prop}(J:∀ u v,R u v->wpS M A E s (Y u v) Q st)(h1:c u0 v0->(∀ u v,R u v->wpS M A E s (Y u v) Q st)->wpS M A E s (X u0 v0) Q st)(h2:¬ c u0 v0->R u0 v0):∀ u,u0=u->∀ v,v0=v->wpS M A E s (if c u v then X u v else Y u v) Q st:=by
 rintro _ rfl _ rfl
 by_cases h:c u0 v0
 ·rw[if_pos h]
  exact h1 h J
 ·rw[if_neg h]
  exact J u0 v0 (h2 h)
theorem aA3 (o:Ord B)(C:Cmp prog w A E s κ S B){a b:Array Keyed}{st:SortSt}{Q:Array Keyed->SortSt->Prop}(hk:kindOf st=κ)(hSa:∀ x∈a.toList,S x)(hSb:∀ x∈b.toList,S x)
  (sa:a.toList.Pairwise (le B))(sb:b.toList.Pairwise (le B))(ha:0<a.size)(hb:0<b.size)
  (h0:∀ x y,b[0]?=some x->a[0]?=some y->B x y=true)(hl:∀ x∈b.toList,∀ y,a[a.size - 1]?=some y->B x y=true)
  (h:∀ r st',Sm st st'->Good B a b r->Q r st'):wpS (m7 prog w) A E s (ap3 a b) Q st:=by
 have ga:∀ i,i<a.size->∃ x,a[i]?=some x/\a.toList[i]?=some x/\S x:=fun i hi=>by
  refine⟨a[i],getElem?_pos a i hi,by rw[b5];exact getElem?_pos a i hi,hSa _ (by simp)⟩
 have gb:∀ i,i<b.size->∃ x,b[i]?=some x/\b.toList[i]?=some x/\S x:=fun i hi=>by
  refine⟨b[i],getElem?_pos b i hi,by rw[b5];exact getElem?_pos b i hi,hSb _ (by simp)⟩
 have leA:∀ (i j:Nat) (x y:Keyed),i<=j->a.toList[i]?=some x->a.toList[j]?=some y->le B x y:=fun i j x y hij hx hy=>by
  obtain⟨h1,rfl⟩:=a9.mp hx
  obtain⟨h2,rfl⟩:=a9.mp hy
  rcases D8 hij with hlt | rfl
  ·exact l7.mp sa i j h1 h2 hlt
  ·exact o.rf _
 have leB:∀ (i j:Nat) (x y:Keyed),i<=j->b.toList[i]?=some x->b.toList[j]?=some y->le B x y:=fun i j x y hij hx hy=>by
  obtain⟨h1,rfl⟩:=a9.mp hx
  obtain⟨h2,rfl⟩:=a9.mp hy
  rcases D8 hij with hlt | rfl
  ·exact l7.mp sb i j h1 h2 hlt
  ·exact o.rf _
 have tl:∀ (z:Array Keyed) (i:Nat),z[i]?=z.toList[i]?:=fun z i=>(b5 ..).symm
 have goodDone:∀ (out:Array Keyed) (ia ib:Nat),MI (le B) out.toList (a.toList.drop ia) (b.toList.drop ib) (a.toList++b.toList)->ib=b.size->Good B a b (out++a.extract ia a.size++b.extract ib b.size):=fun out ia ib m e=>by
  have en:b.toList.drop ib=[]:=by rw[e];exact C8 (by simp)
  have:=m.endAB (fun x _ y hy=>by rw[en]at hy;cases hy)
  unfold Good
  rw[q8,q8,an6,an6,p7]
  exact this
 have lastA:∀ (ia:Nat) (x:Keyed),ia+1=a.size->x∈a.toList.drop ia->a[a.size - 1]?=some x:=fun ia x e hx=>by
  obtain⟨j,h1,h2,h3⟩:=C2 hx
  have:j=a.size - 1:=by rw[d9]at h2;omega
  rw[<- this,tl]
  exact h3
 have goodLast:∀ (out:Array Keyed) (ia ib:Nat),MI (le B) out.toList (a.toList.drop ia) (b.toList.drop ib) (a.toList++b.toList)->ia+1=a.size->Good B a b (out++b.extract ib b.size++a.extract ia a.size):=fun out ia ib m e=>by
  have:=m.endBA (fun x hx y hy=>o.of_lt (hl x (V8 hx) y (lastA ia y e hy)))
  unfold Good
  rw[q8,q8,an6,an6,p7]
  exact this
 have pushB:∀ (out:Array Keyed) (ia ib:Nat) (x:Keyed),MI (le B) out.toList (a.toList.drop ia) (b.toList.drop ib) (a.toList++b.toList)->b.toList[ib]?=some x->(∀ y∈a.toList.drop ia,le B x y) ->
   MI (le B) (out.push x).toList (a.toList.drop ia) (b.toList.drop (ib+1)) (a.toList++b.toList):=fun out ia ib x m e hx=>by
  rw[drop_cons e]at m
  rw[R4]
  exact m.oneB hx
 have pushA:∀ (out:Array Keyed) (ia ib:Nat) (x:Keyed),MI (le B) out.toList (a.toList.drop ia) (b.toList.drop ib) (a.toList++b.toList)->a.toList[ia]?=some x->(∀ y∈b.toList.drop ib,le B x y) ->
   MI (le B) (out.push x).toList (a.toList.drop (ia+1)) (b.toList.drop ib) (a.toList++b.toList):=fun out ia ib x m e hx=>by
  rw[drop_cons e]at m
  rw[R4]
  exact m.oneA hx
 have blkA:∀ (out:Array Keyed) (ia ib k:Nat),MI (le B) out.toList (a.toList.drop ia) (b.toList.drop ib) (a.toList++b.toList)->(∀ x∈(a.toList.drop ia).take k,∀ y∈b.toList.drop ib,le B x y) ->
   MI (le B) (out++a.extract ia (ia+k)).toList (a.toList.drop (ia+k)) (b.toList.drop ib) (a.toList++b.toList):=fun out ia ib k m hx=>by
  rw[ad7 a.toList ia k]at m
  rw[q8,aF6]
  exact m.blkA hx
 have blkB:∀ (out:Array Keyed) (ia ib k:Nat),MI (le B) out.toList (a.toList.drop ia) (b.toList.drop ib) (a.toList++b.toList)->(∀ x∈(b.toList.drop ib).take k,∀ y∈a.toList.drop ia,le B x y) ->
   MI (le B) (out++b.extract ib (ib+k)).toList (a.toList.drop ia) (b.toList.drop (ib+k)) (a.toList++b.toList):=fun out ia ib k m hx=>by
  rw[ad7 b.toList ib k]at m
  rw[q8,aF6]
  exact m.blkB hx
 rw[aE1]
 refine d8 (W5 ?_)
 obtain⟨b0,eb0,eb0',Sb0⟩:=gb 0 hb
 obtain⟨a0,ea0,ea0',Sa0⟩:=ga 0 ha
 have lt0:=h0 b0 a0 eb0 ea0
 refine d8 (A2 eb0 ?_)
 have m0:MI (le B) ([]:List Keyed) (a.toList.drop 0) (b.toList.drop 0) (a.toList++b.toList):=⟨List.Pairwise.nil,(fun _ hx=>nomatch hx),(fun _ hx=>nomatch hx),sa,sb,List.Perm.refl _⟩
 have m1:MI (le B) (#[b0]:Array Keyed).toList (a.toList.drop 0) (b.toList.drop 1) (a.toList++b.toList):=pushB #[] 0 0 b0 m0 eb0' fun y hy=>by
  obtain⟨j,h1,h2,h3⟩:=C2 hy
  exact o.of_lt (o.lt_le lt0 (leA 0 j a0 y (k9 _) ea0' h3))
 by_cases e1:1=b.size
 ·refine D4 (by simpa using e1) ?_
  exact i7 (h _ st (Sm.rfl' st) (goodDone _ 0 1 m1 e1))
 refine D0 (by simpa using e1) ?_
 by_cases e2:0+1=a.size
 ·refine D4 (by simpa using e2) ?_
  exact i7 (h _ st (Sm.rfl' st) (goodLast _ 0 1 m1 e2))
 refine D0 (by simpa using e2) ?_
 refine d8 (ak3 ?_)
 have I0:LoI B a b #[b0] 0 1:=⟨m1,by omega,by omega,rfl⟩
 refine d8 (Q1 (B0
  (I:=fun x c st'=>Sm st st'/\∃ out ia ib mg,c=(none,out,ia,ib,mg)/\LoI B a b out ia ib/\x+1<=out.size)
  (Q:=fun c st'=>Sm st st'/\∃ r out ia ib mg,c=(some r,out,ia,ib,mg)/\Good B a b r) ?step ?fin ⟨Sm.rfl' st,#[b0],0,1,_,rfl,I0,by simp⟩) ?post)
 case fin =>
  rintro c st' ⟨hS,out,ia,ib,mg,rfl,I,hx⟩
  have h1:=I.sz
  have h2:=I.ha
  have h3:=I.hb
  exfalso
  omega
 case post =>
  rintro c st' ⟨hS,r,out,ia,ib,mg,rfl,hg⟩
  exact i7 (h r st' hS hg)
 case step =>
  rintro x c st1 _ hx ⟨hS1,out,ia,ib,mg,rfl,I,hsz⟩
  refine d8 (Q1 (B0
   (I:=fun j c st'=>Sm st st'/\∃ out' ia' ib' ac bc,c=(none,out',ia',ib',ac,bc)/\LoI B a b out' ia' ib'/\x+1<=out'.size/\(1<=j->x+2<=out'.size))
   (Q:=fun c st'=>Sm st st'/\((∃ r out' ia' ib' ac bc,c=(some r,out',ia',ib',ac,bc)/\Good B a b r)\/(∃ out' ia' ib' ac bc,c=(none,out',ia',ib',ac,bc)/\LoI B a b out' ia' ib'/\x+2<=out'.size)))
   ?istep ?ifin ⟨hS1,out,ia,ib,0,0,rfl,I,hsz,by omega⟩) ?ipost)
  case ifin =>
   rintro c st' ⟨hS,out',ia',ib',ac,bc,rfl,I',h1,h2⟩
   exact⟨hS,.inr ⟨out',ia',ib',ac,bc,rfl,I',h2 (by omega)⟩⟩
  case istep =>
   rintro j c st' _ hj ⟨hS,out',ia',ib',ac,bc,rfl,I',h1,_⟩
   obtain⟨bx,eb,eb',Sb⟩:=gb ib' I'.hb
   obtain⟨ax,ea,ea',Sa⟩:=ga ia' (by have:=I'.ha;omega)
   refine d8 (A2 eb (d8 (A2 ea (d8 (an8 C (hS.k.trans hk) Sb Sa ?_)))))
   cases ew:B bx ax with
   | true =>
    refine D4 rfl ?_
    refine d8 (A2 eb ?_)
    have m2:=pushB out' ia' ib' bx I'.m eb' fun y hy=>by
     obtain⟨j,h1,h2,h3⟩:=C2 hy
     exact o.of_lt (o.lt_le ew (leA ia' j ax y h1 ea' h3))
    by_cases e3:ib'+1=b.size
    ·refine D4 (by simpa using e3) ?_
     exact i7 ⟨hS,.inl ⟨_,_,_,_,_,_,rfl,goodDone _ _ _ m2 e3⟩⟩
    refine D0 (by simpa using e3) ?_
    have I2:LoI B a b (out'.push bx) ia' (ib'+1):=⟨m2,I'.ha,by have:=I'.hb;omega,by rw[p9,I'.sz];omega⟩
    have z2:x+2<=(out'.push bx).size:=by rw[p9];omega
    refine ab2 ?_ ?_
    ·exact i7 ⟨hS,.inr ⟨_,_,_,_,_,rfl,I2,z2⟩⟩
    ·exact i7 ⟨hS,_,_,_,_,_,rfl,I2,ac1 z2,fun _=>z2⟩
   | false =>
    refine D0 c7 ?_
    refine d8 (A2 ea ?_)
    have m2:=pushA out' ia' ib' ax I'.m ea' fun y hy=>by
     obtain⟨j,h1,h2,h3⟩:=C2 hy
     exact o.trans ew (leB ib' j bx y h1 eb' h3)
    by_cases e3:ia'+1+1=a.size
    ·refine D4 (by simpa using e3) ?_
     exact i7 ⟨hS,.inl ⟨_,_,_,_,_,_,rfl,goodLast _ _ _ m2 e3⟩⟩
    refine D0 (by simpa using e3) ?_
    have I2:LoI B a b (out'.push ax) (ia'+1) ib':=⟨m2,by have:=I'.ha;omega,I'.hb,by rw[p9,I'.sz];omega⟩
    have z2:x+2<=(out'.push ax).size:=by rw[p9];omega
    refine ab2 ?_ ?_
    ·exact i7 ⟨hS,.inr ⟨_,_,_,_,_,rfl,I2,z2⟩⟩
    ·exact i7 ⟨hS,_,_,_,_,_,rfl,I2,ac1 z2,fun _=>z2⟩
  case ipost =>
   rintro c st2 ⟨hS2,⟨r,out',ia',ib',ac,bc,rfl,hg⟩ | ⟨out',ia',ib',ac,bc,rfl,I',hz⟩⟩
   ·exact i7 ⟨hS2,r,_,_,_,_,rfl,hg⟩
   refine d8 (W5 ?_)
   refine d8 (Q1 (B0
    (I:=fun j c st'=>Sm st st'/\∃ out' ia' ib' mg ac bc,c=(none,out',ia',ib',mg,ac,bc)/\LoI B a b out' ia' ib'/\x+2<=out'.size)
    (Q:=fun c st'=>Sm st st'/\((∃ r out' ia' ib' mg ac bc,c=(some r,out',ia',ib',mg,ac,bc)/\Good B a b r)\/(∃ out' ia' ib' mg ac bc,c=(none,out',ia',ib',mg,ac,bc)/\LoI B a b out' ia' ib'/\x+2<=out'.size)))
    ?gstep ?gfin ⟨hS2,out',ia',ib',_,ac,bc,rfl,I',hz⟩) ?gpost)
   case gfin =>
    rintro c st' ⟨hS,out',ia',ib',mg,ac,bc,rfl,I',h1⟩
    exact⟨hS,.inr ⟨out',ia',ib',mg,ac,bc,rfl,I',h1⟩⟩
   case gpost =>
    rintro c st3 ⟨hS3,⟨r,out',ia',ib',mg,ac,bc,rfl,hg⟩ | ⟨out',ia',ib',mg,ac,bc,rfl,I',hz⟩⟩
    ·exact i7 ⟨hS3,r,_,_,_,_,rfl,hg⟩
    exact d8 (ab3 (i7 ⟨hS3.mg _,_,_,_,_,rfl,I',by omega⟩))
   case gstep =>
    rintro j c st' _ hj ⟨hS,out',ia',ib',mg,ac,bc,rfl,I',hz⟩
    dsimp (config:={ zeta:=false }) only
    obtain⟨bx,eb,eb',Sb⟩:=gb ib' I'.hb
    obtain⟨al,eal,eal',Sal⟩:=ga (a.size - 1) (by omega)
    revert mg
    refine aA5 (fun _=>rfl) fun mg1=>?_
    try dsimp (config:={ zeta:=false }) only
    refine d8 (ab3 (d8 (A2 eb ?_)))
    refine d8 (P6 o C (hS.k.trans hk) Sb (by have:=I'.ha;omega) (fun i y hi e=>hSa y (c8 (by rw[<- tl];exact e))) (fun i j y z hij hj e e'=>leA _ _ y z (L4 hij _) (by rw[<- tl];exact e) (by rw[<- tl];exact e')) (by have:=I'.ha;omega) fun k hkn hlt hge=>?_)
    dsimp (config:={ zeta:=false }) only
    have hS':=hS
    have hlt':∀ y∈(a.toList.drop ia').take k,∀ z∈b.toList.drop ib',le B y z:=fun y hy z hz'=>by
     obtain⟨i,hi,e⟩:=Q2 hy
     have q:=hlt i y hi (by rw[tl];exact e)
     obtain⟨j',h1,h2,h3⟩:=C2 hz'
     simp only[byn,d3,if_false,E7]at q
     exact o.trans q (leB ib' j' bx z h1 eb' h3)
    have m1':=blkA out' ia' ib' k I'.m hlt'
    have hge':∀ y∈a.toList.drop (ia'+k),B bx y=true:=fun y hy=>by
     obtain⟨j',h1,h2,h3⟩:=C2 hy
     have q:=hge (j' - ia') y (by omega) (by rw[d9]at h2;omega) (by rw[show ia'+(j' - ia')=j' by omega,tl];exact h3)
     simpa [byn] using q
    have hka:ia'+k<a.size:=by
     rcases bh8 (ia'+k) a.size with q | q
     ·exact q
     ·exfalso
      have h9:=I'.ha
      have q1:=hlt (a.size - 1 - ia') al (by omega) (by rw[show ia'+(a.size - 1 - ia')=a.size - 1 by omega];exact eal)
      have q2:=hl bx (c8 eb') al eal
      simp[byn,q2]at q1
    generalize eo:out'=o
    generalize en:ia'=n
    revert o n
    refine ae2 (R:=fun out1 ia1=>MI (le B) out1.toList (a.toList.drop ia1) (b.toList.drop ib') (a.toList++b.toList)/\(∀ y∈a.toList.drop ia1,B bx y=true)/\ia1+1<a.size/\out1.size=ia1+ib'/\x+2<=out1.size) ?_ (fun hk J=>?_) (fun hk=>?_)
    rotate_left
    ·by_cases e4:ia'+k+1=a.size
     ·refine D4 (by simpa using e4) ?_
      exact i7 ⟨hS.mg _,.inl ⟨_,_,_,_,_,_,_,rfl,goodLast _ _ _ m1' e4⟩⟩
     refine D0 (by simpa using e4) (D0 (by simp;omega) ?_)
     exact J (out'++a.extract ia' (ia'+k)) (ia'+k) ⟨m1',hge',by omega,by rw[C9,B8,I'.sz];omega,by rw[C9];omega⟩
    ·have e9:k=0:=by omega
     rw[e9]at hge'
     exact⟨I'.m,hge',I'.ha,I'.sz,hz⟩
    rintro out1 ia1 ⟨m1,hge1,hne1,sz1,z1⟩
    refine d8 (A2 eb ?_)
    have m2:=pushB out1 ia1 ib' bx m1 eb' fun y hy=>o.of_lt (hge1 y hy)
    by_cases e5:ib'+1=b.size
    ·refine D4 (by simpa using e5) ?_
     exact i7 ⟨hS.mg _,.inl ⟨_,_,_,_,_,_,_,rfl,goodDone _ _ _ m2 e5⟩⟩
    refine D0 (by simpa using e5) ?_
    generalize ho:out1.push bx=o2 at m2 ⊢
    have so2:o2.size=out1.size+1:=by rw[<- ho,p9]
    generalize hn:ib'+1=n2 at m2 e5 ⊢
    obtain⟨ax,ea,ea',Sa⟩:=ga ia1 (by omega)
    have hib:=I'.hb
    refine d8 (A2 ea ?_)
    refine d8 (P6 o C (hS.k.trans hk) Sa (by omega) (fun i y hi e=>hSb y (c8 (by rw[<- tl];exact e))) (fun i j y z hij hj e e'=>leB _ _ y z (L4 hij _) (by rw[<- tl];exact e) (by rw[<- tl];exact e')) (by omega) fun k' hkn' hlt2 hge2=>?_)
    dsimp (config:={ zeta:=false }) only
    have hlt2':∀ y∈(b.toList.drop n2).take k',∀ z∈a.toList.drop ia1,le B y z:=fun y hy z hz'=>by
     obtain⟨i,hi,e⟩:=Q2 hy
     have q:=hlt2 i y hi (by rw[tl];exact e)
     obtain⟨j',h1,h2,h3⟩:=C2 hz'
     simp only[byn,if_true]at q
     exact o.of_lt (o.lt_le q (leA ia1 j' ax z h1 ea' h3))
    have m3':=blkB o2 ia1 n2 k' m2 hlt2'
    have hge2':∀ y∈b.toList.drop (n2+k'),le B ax y:=fun y hy=>by
     obtain⟨j',h1,h2,h3⟩:=C2 hy
     have q:=hge2 (j' - n2) y (by omega) (by rw[d9]at h2;omega) (by rw[show n2+(j' - n2)=j' by omega,tl];exact h3)
     show B y ax=false
     simpa [byn] using q
    have sz2:o2.size=ia1+n2:=by omega
    generalize eo:o2=o
    generalize en:n2=n
    revert o n
    refine ae2 (R:=fun out2 ib2=>MI (le B) out2.toList (a.toList.drop ia1) (b.toList.drop ib2) (a.toList++b.toList)/\(∀ y∈b.toList.drop ib2,le B ax y)/\ib2<b.size/\out2.size=ia1+ib2/\x+2<=out2.size) ?_ (fun hk J=>?_) (fun hk=>?_)
    rotate_left
    ·by_cases e6:n2+k'=b.size
     ·refine D4 (by simpa using e6) ?_
      exact i7 ⟨hS.mg _,.inl ⟨_,_,_,_,_,_,_,rfl,goodDone _ _ _ m3' e6⟩⟩
     refine D0 (by simpa using e6) ?_
     exact J (o2++b.extract n2 (n2+k')) (n2+k') ⟨m3',hge2',by omega,by rw[C9,B8,sz2];omega,by rw[C9];omega⟩
    ·have e8:k'=0:=by omega
     rw[e8]at hge2'
     exact⟨m2,hge2',by omega,sz2,by omega⟩
    rintro out2 ib2 ⟨m3,hge3,hne3,sz3,z3⟩
    refine d8 (A2 ea ?_)
    have m4:=pushA out2 ia1 ib2 ax m3 ea' hge3
    by_cases e7:ia1+1+1=a.size
    ·refine D4 (by simpa using e7) ?_
     exact i7 ⟨hS.mg _,.inl ⟨_,_,_,_,_,_,_,rfl,goodLast _ _ _ m4 e7⟩⟩
    refine D0 (by simpa using e7) ?_
    have I4:LoI B a b (out2.push ax) (ia1+1) ib2:=⟨m4,by omega,hne3,by rw[p9,sz3];omega⟩
    have z4:x+2<=(out2.push ax).size:=by
     rw[p9,sz3]
     have:=I'.sz
     omega
    refine ab2 ?_ ?_
    ·exact i7 ⟨hS.mg _,.inr ⟨_,_,_,_,_,_,rfl,I4,z4⟩⟩
    ·exact i7 ⟨hS.mg _,_,_,_,_,_,_,rfl,I4,z4⟩
end
theorem aB6 {α:Type}{l:List α}{x:α}(h:l[n]?=some x):(l.take (n+1)).reverse=x::(l.take n).reverse:=by
 rw[u6,h,al6]
 rfl
theorem Z8 {α:Type}(l:List α){k:Nat}(h:k<=n):(l.take n).reverse=((l.drop k).take (n - k)).reverse++(l.take k).reverse:=by
 rw[<- al6]
 congr 1
 obtain⟨d,rfl⟩:=Nat.le.dest h
 rw[L3,List.take_add]
theorem D7 {α:Type}{l:List α}{x:α}(h:x∈(l.take n).reverse):∃ j,j<n/\j<l.length/\l[j]?=some x:=by
 rw[C0]at h
 obtain⟨j,hj⟩:=i8.mp h
 rw[G6]at hj
 split at hj
 ·rename_i hlt
  exact⟨j,hlt,(a9.mp hj).1,hj⟩
 ·cases hj
theorem an5 (a:Array Keyed)(i k:Nat):(a.extract i k).toList=(a.toList.drop i).take (k - i):=by
 rw[U5,O8]
section
variable {S:Keyed->Prop}
abbrev HM (B:Keyed->Keyed->Bool)(a b out:Array Keyed)(na nb:Nat):Prop:=MI (fun x y=>le B y x) out.toList (a.toList.take na).reverse (b.toList.take nb).reverse (a.toList++b.toList)
structure HiI (B:Keyed->Keyed->Bool) (a b out:Array Keyed) (na nb:Nat):Prop where
 m:HM B a b out na nb
 ha:0<na
 ha':na<=a.size
 hb:1<nb
 hb':nb<=b.size
 sz:out.size+na+nb=a.size+b.size
theorem aA4 (o:Ord B)(C:Cmp prog w A E s κ S B){a b:Array Keyed}{st:SortSt}{Q:Array Keyed->SortSt->Prop}(hk:kindOf st=κ)(hSa:∀ x∈a.toList,S x)(hSb:∀ x∈b.toList,S x)
  (sa:a.toList.Pairwise (le B))(sb:b.toList.Pairwise (le B))(ha:0<a.size)(hb:0<b.size)
  (h0:∀ x y,b[0]?=some x->a[0]?=some y->B x y=true)(hl:∀ x∈b.toList,∀ y,a[a.size - 1]?=some y->B x y=true)
  (h:∀ r st',Sm st st'->Good B a b r->Q r st'):wpS (m7 prog w) A E s (ap4 a b) Q st:=by
 have ga:∀ i,i<a.size->∃ x,a[i]?=some x/\a.toList[i]?=some x/\S x:=fun i hi=>by
  refine⟨a[i],getElem?_pos a i hi,by rw[b5];exact getElem?_pos a i hi,hSa _ (by simp)⟩
 have gb:∀ i,i<b.size->∃ x,b[i]?=some x/\b.toList[i]?=some x/\S x:=fun i hi=>by
  refine⟨b[i],getElem?_pos b i hi,by rw[b5];exact getElem?_pos b i hi,hSb _ (by simp)⟩
 have leA:∀ (i j:Nat) (x y:Keyed),i<=j->a.toList[i]?=some x->a.toList[j]?=some y->le B x y:=fun i j x y hij hx hy=>by
  obtain⟨h1,rfl⟩:=a9.mp hx
  obtain⟨h2,rfl⟩:=a9.mp hy
  rcases D8 hij with hlt | rfl
  ·exact l7.mp sa i j h1 h2 hlt
  ·exact o.rf _
 have leB:∀ (i j:Nat) (x y:Keyed),i<=j->b.toList[i]?=some x->b.toList[j]?=some y->le B x y:=fun i j x y hij hx hy=>by
  obtain⟨h1,rfl⟩:=a9.mp hx
  obtain⟨h2,rfl⟩:=a9.mp hy
  rcases D8 hij with hlt | rfl
  ·exact l7.mp sb i j h1 h2 hlt
  ·exact o.rf _
 have tl:∀ (z:Array Keyed) (i:Nat),z[i]?=z.toList[i]?:=fun z i=>(b5 ..).symm
 have rel:∀ {l:List Keyed},l.Pairwise (fun x y=>le B y x)->l.reverse.Pairwise (le B):=fun {l} hp=>ag4.mpr hp
 have goodDone:∀ (out:Array Keyed) (na nb:Nat),HM B a b out na nb->(na=0\/nb=0)->Good B a b (a.extract 0 na++b.extract 0 nb++out.reverse):=fun out na nb m e=>by
  have:=m.endBA (fun x hx y hy=>by
   rcases e with rfl | rfl
   ·simp at hy
   ·simp at hx)
  unfold Good
  rw[q8,q8,ay2,ay2,U6]
  have q:(out.toList++((b.toList.take nb).reverse++(a.toList.take na).reverse)).reverse=a.toList.take na++b.toList.take nb++out.toList.reverse:=by simp
  exact⟨by rw[<- q];exact rel this.1,by rw[<- q];exact(B3 _).trans this.2⟩
 obtain⟨b0,eb0,eb0',Sb0⟩:=gb 0 hb
 obtain⟨a0,ea0,ea0',Sa0⟩:=ga 0 ha
 have lt0:=h0 b0 a0 eb0 ea0
 have goodFirst:∀ (out:Array Keyed) (na nb:Nat),HM B a b out na nb->nb=1->Good B a b (b.extract 0 nb++a.extract 0 na++out.reverse):=fun out na nb m e=>by
  have:=m.endAB (fun x hx y hy=>by
   subst e
   obtain⟨i,h1,h2,h3⟩:=D7 hx
   obtain⟨j,h4,h5,h6⟩:=D7 hy
   have:j=0:=by omega
   subst this
   rw[eb0']at h6
   cases h6
   exact o.of_lt (o.lt_le lt0 (leA 0 i a0 x (k9 _) ea0' h3)))
  unfold Good
  rw[q8,q8,ay2,ay2,U6]
  have q:(out.toList++((a.toList.take na).reverse++(b.toList.take nb).reverse)).reverse=b.toList.take nb++a.toList.take na++out.toList.reverse:=by simp
  exact⟨by rw[<- q];exact rel this.1,by rw[<- q];exact(B3 _).trans this.2⟩
 have pushA:∀ (out:Array Keyed) (na nb:Nat) (x:Keyed),0<na->HM B a b out na nb->a.toList[na - 1]?=some x->(∀ y∈(b.toList.take nb).reverse,le B y x)->HM B a b (out.push x) (na - 1) nb:=fun out na nb x hn m e hx=>by
  obtain⟨n,rfl⟩:∃ n,na=n+1:=⟨na - 1,by omega⟩
  unfold HM at m ⊢
  rw[bz7]at e ⊢
  rw[aB6 e]at m
  rw[R4]
  exact m.oneA hx
 have pushB:∀ (out:Array Keyed) (na nb:Nat) (x:Keyed),0<nb->HM B a b out na nb->b.toList[nb - 1]?=some x->(∀ y∈(a.toList.take na).reverse,le B y x)->HM B a b (out.push x) na (nb - 1):=fun out na nb x hn m e hx=>by
  obtain⟨n,rfl⟩:∃ n,nb=n+1:=⟨nb - 1,by omega⟩
  unfold HM at m ⊢
  rw[bz7]at e ⊢
  rw[aB6 e]at m
  rw[R4]
  exact m.oneB hx
 have blkA:∀ (out:Array Keyed) (na nb k:Nat),k<=na->HM B a b out na nb->(∀ x∈((a.toList.drop k).take (na - k)).reverse,∀ y∈(b.toList.take nb).reverse,le B y x)->HM B a b (out++(a.extract k na).reverse) k nb:=fun out na nb k hkn m hx=>by
  unfold HM at m ⊢
  rw[Z8 a.toList hkn]at m
  rw[q8,U6,an5]
  exact m.blkA hx
 have blkB:∀ (out:Array Keyed) (na nb k:Nat),k<=nb->HM B a b out na nb->(∀ x∈((b.toList.drop k).take (nb - k)).reverse,∀ y∈(a.toList.take na).reverse,le B y x)->HM B a b (out++(b.extract k nb).reverse) na k:=fun out na nb k hkn m hx=>by
  unfold HM at m ⊢
  rw[Z8 b.toList hkn]at m
  rw[q8,U6,an5]
  exact m.blkB hx
 rw[aE2]
 refine d8 (W5 ?_)
 obtain⟨al,eal,eal',Sal⟩:=ga (a.size - 1) (by omega)
 refine d8 (A2 eal ?_)
 have m0:HM B a b #[] a.size b.size:=by
  unfold HM
  rw[o1 (by simp),o1 (by simp)]
  refine⟨List.Pairwise.nil,(fun _ hx=>nomatch hx),(fun _ hx=>nomatch hx),ag4.mpr sa,ag4.mpr sb,?_⟩
  rw[K3]
  exact List.Perm.append (B3 _) (B3 _)
 have m1:HM B a b #[al] (a.size - 1) b.size:=pushA #[] a.size b.size al ha m0 eal' fun y hy=>by
  obtain⟨j,h1,h2,h3⟩:=D7 hy
  exact o.of_lt (hl y (c8 h3) al eal)
 by_cases e1:a.size - 1=0
 ·refine D4 (by simpa using e1) ?_
  exact i7 (h _ st (Sm.rfl' st) (goodDone _ _ _ m1 (.inl e1)))
 refine D0 (by simpa using e1) ?_
 by_cases e2:b.size=1
 ·refine D4 (by simpa using e2) ?_
  exact i7 (h _ st (Sm.rfl' st) (goodFirst _ _ _ m1 e2))
 refine D0 (by simpa using e2) ?_
 refine d8 (ak3 ?_)
 have I0:HiI B a b #[al] (a.size - 1) b.size:=⟨m1,by omega,by omega,by omega,by omega,by simp;omega⟩
 refine d8 (Q1 (B0
  (I:=fun x c st'=>Sm st st'/\∃ na nb out mg,c=(none,na,nb,out,mg)/\HiI B a b out na nb/\x+1<=out.size)
  (Q:=fun c st'=>Sm st st'/\∃ r na nb out mg,c=(some r,na,nb,out,mg)/\Good B a b r) ?step ?fin ⟨Sm.rfl' st,_,_,#[al],_,rfl,I0,by simp⟩) ?post)
 case fin =>
  rintro c st' ⟨hS,na,nb,out,mg,rfl,I,hx⟩
  have h1:=I.sz
  have h2:=I.ha
  have h3:=I.hb
  exfalso
  omega
 case post =>
  rintro c st' ⟨hS,r,na,nb,out,mg,rfl,hg⟩
  exact i7 (h r st' hS hg)
 case step =>
  rintro x c st1 _ hx ⟨hS1,na,nb,out,mg,rfl,I,hsz⟩
  refine d8 (Q1 (B0
   (I:=fun j c st'=>Sm st st'/\∃ na' nb' out' ac bc,c=(none,na',nb',out',ac,bc)/\HiI B a b out' na' nb'/\x+1<=out'.size/\(1<=j->x+2<=out'.size))
   (Q:=fun c st'=>Sm st st'/\((∃ r na' nb' out' ac bc,c=(some r,na',nb',out',ac,bc)/\Good B a b r)\/(∃ na' nb' out' ac bc,c=(none,na',nb',out',ac,bc)/\HiI B a b out' na' nb'/\x+2<=out'.size)))
   ?istep ?ifin ⟨hS1,na,nb,out,0,0,rfl,I,hsz,by omega⟩) ?ipost)
  case ifin =>
   rintro c st' ⟨hS,na',nb',out',ac,bc,rfl,I',h1,h2⟩
   exact⟨hS,.inr ⟨na',nb',out',ac,bc,rfl,I',h2 (by omega)⟩⟩
  case istep =>
   rintro j c st' _ hj ⟨hS,na',nb',out',ac,bc,rfl,I',h1,_⟩
   have i1:=I'.ha
   have i2:=I'.ha'
   have i3:=I'.hb
   have i4:=I'.hb'
   have i5:=I'.sz
   obtain⟨bx,eb,eb',Sb⟩:=gb (nb' - 1) (by omega)
   obtain⟨ax,ea,ea',Sa⟩:=ga (na' - 1) (by omega)
   refine d8 (A2 eb (d8 (A2 ea (d8 (an8 C (hS.k.trans hk) Sb Sa ?_)))))
   cases ew:B bx ax with
   | true =>
    refine D4 rfl ?_
    refine d8 (A2 ea ?_)
    have m2:=pushA out' na' nb' ax i1 I'.m ea' fun y hy=>by
     obtain⟨j,h1,h2,h3⟩:=D7 hy
     exact o.of_lt (o.le_lt (leB j (nb' - 1) y bx (by omega) h3 eb') ew)
    by_cases e3:na' - 1=0
    ·refine D4 (by simpa using e3) ?_
     exact i7 ⟨hS,.inl ⟨_,_,_,_,_,_,rfl,goodDone _ _ _ m2 (.inl e3)⟩⟩
    refine D0 (by simpa using e3) ?_
    have I2:HiI B a b (out'.push ax) (na' - 1) nb':=⟨m2,by omega,by omega,i3,i4,by rw[p9];omega⟩
    have z2:x+2<=(out'.push ax).size:=by rw[p9];omega
    refine ab2 ?_ ?_
    ·exact i7 ⟨hS,.inr ⟨_,_,_,_,_,rfl,I2,z2⟩⟩
    ·exact i7 ⟨hS,_,_,_,_,_,rfl,I2,ac1 z2,fun _=>z2⟩
   | false =>
    refine D0 c7 ?_
    refine d8 (A2 eb ?_)
    have m2:=pushB out' na' nb' bx (by omega) I'.m eb' fun y hy=>by
     obtain⟨j,h1,h2,h3⟩:=D7 hy
     exact o.trans (leA j (na' - 1) y ax (by omega) h3 ea') ew
    by_cases e3:nb' - 1=1
    ·refine D4 (by simpa using e3) ?_
     exact i7 ⟨hS,.inl ⟨_,_,_,_,_,_,rfl,goodFirst _ _ _ m2 e3⟩⟩
    refine D0 (by simpa using e3) ?_
    have I2:HiI B a b (out'.push bx) na' (nb' - 1):=⟨m2,i1,i2,by omega,by omega,by rw[p9];omega⟩
    have z2:x+2<=(out'.push bx).size:=by rw[p9];omega
    refine ab2 ?_ ?_
    ·exact i7 ⟨hS,.inr ⟨_,_,_,_,_,rfl,I2,z2⟩⟩
    ·exact i7 ⟨hS,_,_,_,_,_,rfl,I2,ac1 z2,fun _=>z2⟩
  case ipost =>
   rintro c st2 ⟨hS2,⟨r,na',nb',out',ac,bc,rfl,hg⟩ | ⟨na',nb',out',ac,bc,rfl,I',hz⟩⟩
   ·exact i7 ⟨hS2,r,_,_,_,_,rfl,hg⟩
   refine d8 (W5 ?_)
   refine d8 (Q1 (B0
    (I:=fun j c st'=>Sm st st'/\∃ na' nb' out' mg ac bc,c=(none,na',nb',out',mg,ac,bc)/\HiI B a b out' na' nb'/\x+2<=out'.size)
    (Q:=fun c st'=>Sm st st'/\((∃ r na' nb' out' mg ac bc,c=(some r,na',nb',out',mg,ac,bc)/\Good B a b r)\/(∃ na' nb' out' mg ac bc,c=(none,na',nb',out',mg,ac,bc)/\HiI B a b out' na' nb'/\x+2<=out'.size)))
    ?gstep ?gfin ⟨hS2,na',nb',out',_,ac,bc,rfl,I',hz⟩) ?gpost)
   case gfin =>
    rintro c st' ⟨hS,na',nb',out',mg,ac,bc,rfl,I',h1⟩
    exact⟨hS,.inr ⟨na',nb',out',mg,ac,bc,rfl,I',h1⟩⟩
   case gpost =>
    rintro c st3 ⟨hS3,⟨r,na',nb',out',mg,ac,bc,rfl,hg⟩ | ⟨na',nb',out',mg,ac,bc,rfl,I',hz⟩⟩
    ·exact i7 ⟨hS3,r,_,_,_,_,rfl,hg⟩
    exact d8 (ab3 (i7 ⟨hS3.mg _,_,_,_,_,rfl,I',by omega⟩))
   case gstep =>
    rintro j c st' _ hj ⟨hS,na',nb',out',mg,ac,bc,rfl,I',hz⟩
    dsimp (config:={ zeta:=false }) only
    have i1:=I'.ha
    have i2:=I'.ha'
    have i3:=I'.hb
    have i4:=I'.hb'
    have i5:=I'.sz
    obtain⟨bx,eb,eb',Sb⟩:=gb (nb' - 1) (by omega)
    revert mg
    refine aA5 (fun _=>rfl) fun mg1=>?_
    try dsimp (config:={ zeta:=false }) only
    refine d8 (ab3 (d8 (A2 eb ?_)))
    refine d8 (P6 o C (hS.k.trans hk) Sb (by omega) (fun i y hi e=>hSa y (c8 (by rw[<- tl];exact e))) (fun i j y z hij hj e e'=>leA _ _ y z (L4 hij _) (by rw[<- tl];exact e) (by rw[<- tl];exact e')) (by omega) fun k hkn hlt hge=>?_)
    dsimp (config:={ zeta:=false }) only
    have hlt':∀ y∈(a.toList.take k).reverse,le B y bx:=fun y hy=>by
     obtain⟨i,h1,h2,h3⟩:=D7 hy
     have q:=hlt i y h1 (by rw[J0,tl];exact h3)
     show B bx y=false
     simpa [byn] using q
    have hge':∀ y∈((a.toList.drop k).take (na' - k)).reverse,∀ z∈(b.toList.take nb').reverse,le B z y:=fun y hy z hz'=>by
     rw[C0]at hy
     obtain⟨i,h1,h3⟩:=Q2 hy
     have q:=hge (k+i) y (by omega) (by omega) (by rw[J0,tl];exact h3)
     obtain⟨j',h4,h5,h6⟩:=D7 hz'
     have q':B bx y=true:=by simpa [byn] using q
     exact o.of_lt (o.le_lt (leB j' (nb' - 1) z bx (by omega) h6 eb') q')
    have m1':=blkA out' na' nb' k hkn I'.m hge'
    generalize hd:na' - k=d
    generalize eo:out'=o
    generalize en:na'=n
    revert o n
    refine ae2 (R:=fun out1 na1=>HM B a b out1 na1 nb'/\(∀ y∈(a.toList.take na1).reverse,le B y bx)/\0<na1/\na1<=a.size/\out1.size+na1+nb'=a.size+b.size/\x+2<=out1.size) ?_ (fun hk J=>?_) (fun hk=>?_)
    rotate_left
    ·by_cases e4:k=0
     ·refine D4 (by simpa using e4) ?_
      exact i7 ⟨hS.mg _,.inl ⟨_,_,_,_,_,_,_,rfl,goodDone _ _ _ m1' (.inl e4)⟩⟩
     refine D0 (by simpa using e4) ?_
     exact J (out'++(a.extract k na').reverse) k ⟨m1',hlt',by omega,by omega,by rw[C9,bo9,B8];omega,by rw[C9];omega⟩
    ·have e9:k=na':=by omega
     exact⟨I'.m,by rw[<- e9];exact hlt',i1,i2,i5,hz⟩
    rintro out1 na1 ⟨m1,hge1,hne1,hle1,sz1,z1⟩
    refine d8 (A2 eb ?_)
    have m2:=pushB out1 na1 nb' bx (by omega) m1 eb' hge1
    by_cases e5:nb' - 1=1
    ·refine D4 (by simpa using e5) ?_
     exact i7 ⟨hS.mg _,.inl ⟨_,_,_,_,_,_,_,rfl,goodFirst _ _ _ m2 e5⟩⟩
    refine D0 (by simpa using e5) ?_
    generalize ho:out1.push bx=o2 at m2 ⊢
    have so2:o2.size=out1.size+1:=by rw[<- ho,p9]
    generalize hn:nb' - 1=n2 at m2 e5 ⊢
    obtain⟨ax,ea,ea',Sa⟩:=ga (na1 - 1) (by omega)
    refine d8 (A2 ea ?_)
    refine d8 (P6 o C (hS.k.trans hk) Sa (by omega) (fun i y hi e=>hSb y (c8 (by rw[<- tl];exact e))) (fun i j y z hij hj e e'=>leB _ _ y z (L4 hij _) (by rw[<- tl];exact e) (by rw[<- tl];exact e')) (by omega) fun k' hkn' hlt2 hge2=>?_)
    dsimp (config:={ zeta:=false }) only
    have hlt2':∀ y∈(b.toList.take k').reverse,le B y ax:=fun y hy=>by
     obtain⟨i,h1,h2,h3⟩:=D7 hy
     have q:=hlt2 i y h1 (by rw[J0,tl];exact h3)
     have q':B y ax=true:=by simpa [byn] using q
     exact o.of_lt q'
    have hge2':∀ y∈((b.toList.drop k').take (n2 - k')).reverse,∀ z∈(a.toList.take na1).reverse,le B z y:=fun y hy z hz'=>by
     rw[C0]at hy
     obtain⟨i,h1,h3⟩:=Q2 hy
     have q:=hge2 (k'+i) y (by omega) (by omega) (by rw[J0,tl];exact h3)
     obtain⟨j',h4,h5,h6⟩:=D7 hz'
     have q':B y ax=false:=by simpa [byn] using q
     exact o.trans (leA j' (na1 - 1) z ax (by omega) h6 ea') q'
    have m3':=blkB o2 na1 n2 k' hkn' m2 hge2'
    have sz2:o2.size+na1+n2=a.size+b.size:=by omega
    generalize hd2:n2 - k'=d2
    generalize eo:o2=o
    generalize en:n2=n
    revert o n
    refine ae2 (R:=fun out2 nb2=>HM B a b out2 na1 nb2/\(∀ y∈(b.toList.take nb2).reverse,le B y ax)/\1<nb2/\nb2<=b.size/\out2.size+na1+nb2=a.size+b.size/\x+2<=out2.size) ?_ (fun hk J=>?_) (fun hk=>?_)
    rotate_left
    ·by_cases e6:k'=1
     ·refine D4 (by simpa using e6) ?_
      exact i7 ⟨hS.mg _,.inl ⟨_,_,_,_,_,_,_,rfl,goodFirst _ _ _ m3' e6⟩⟩
     refine D0 (by simpa using e6) ?_
     by_cases e7:k'=0
     ·refine D4 (by simpa using e7) ?_
      exact i7 ⟨hS.mg _,.inl ⟨_,_,_,_,_,_,_,rfl,goodDone _ _ _ m3' (.inr e7)⟩⟩
     refine D0 (by simpa using e7) ?_
     exact J (o2++(b.extract k' n2).reverse) k' ⟨m3',hlt2',by omega,by omega,by rw[C9,bo9,B8];omega,by rw[C9];omega⟩
    ·have e8:k'=n2:=by omega
     exact⟨m2,by rw[<- e8];exact hlt2',by omega,by omega,sz2,by omega⟩
    rintro out2 nb2 ⟨m3,hge3,hne3,hle3,sz3,z3⟩
    refine d8 (A2 ea ?_)
    have m4:=pushA out2 na1 nb2 ax hne1 m3 ea' hge3
    by_cases e7:na1 - 1=0
    ·refine D4 (by simpa using e7) ?_
     exact i7 ⟨hS.mg _,.inl ⟨_,_,_,_,_,_,_,rfl,goodDone _ _ _ m4 (.inl e7)⟩⟩
    refine D0 (by simpa using e7) ?_
    have I4:HiI B a b (out2.push ax) (na1 - 1) nb2:=⟨m4,by omega,by omega,hne3,hle3,by rw[p9];omega⟩
    have z4:x+2<=(out2.push ax).size:=by
     rw[p9]
     omega
    refine ab2 ?_ ?_
    ·exact i7 ⟨hS.mg _,.inr ⟨_,_,_,_,_,_,rfl,I4,z4⟩⟩
    ·exact i7 ⟨hS.mg _,_,_,_,_,_,_,rfl,I4,z4⟩
end
def KF {O:ak4}(f:Keyed->O.α)(d:O.α)(xs:Array Keyed)(i:Nat):O.α:=match xs[i]? with
 | some p=>f p
 | none=>d
def Bf {O:ak4}(f:Keyed->O.α)(x y:Keyed):Bool:=O.blt (f x) (f y)
theorem Bf.ord {O:ak4}(f:Keyed->O.α):Ord (Bf f):=⟨fun x=>O.irrefl _,fun x y z=>O.trans _ _ _,fun x y z=>O.negTrans _ _ _⟩
section
variable {O:ak4} {f:Keyed->O.α} {d:O.α}
theorem aa8 {xs ys:Array Keyed}(h:xs[i]?=ys[j]?):KF f d xs i=KF f d ys j:=by unfold KF;rw[h]
theorem an7 {xs:Array Keyed}{x:Keyed}(h:xs[i]?=some x):KF f d xs i=f x:=by unfold KF;rw[h]
theorem av0 {xs:Array Keyed}{src dd:Nat}(hs:src<xs.size)(hd:dd<=src)(k:Nat) :
  KF f d (bubble xs src dd) k=if k=src - dd then KF f d xs src else if src - dd<k/\k<=src then KF f d xs (k - 1) else KF f d xs k:=by
 have e:=getElem?_bubble hs dd hd k
 repeat' split at e
 all_goals first
  | (rw[if_pos (by assumption)];exact aa8 e)
  | (rw[if_neg (by assumption),if_pos (by assumption)];exact aa8 e)
  | (rw[if_neg (by assumption),if_neg (by assumption)];exact aa8 e)
theorem ai6 {xs:Array Keyed}(hj:j<=xs.size)(k:Nat):KF f d (mirror xs i j ((j - i) / 2)) k=if i<=k/\k<j then KF f d xs (i+j - 1 - k) else KF f d xs k:=by
 have e:=bC2 (i:=i) hj k
 split at e
 ·rw[if_pos (by assumption)];exact aa8 e
 ·rw[if_neg (by assumption)];exact aa8 e
theorem K1 {xs:Array Keyed}(hj:j<=xs.size)(heq:∀ k,i<=k->k<j->KF f d xs k=KF f d xs (j - 1))(k:Nat):KF f d (mirror xs i j ((j - i) / 2)) k=KF f d xs k:=by
 rw[ai6 hj]
 split
 ·rw[heq _ (by omega) (by omega),heq k (by omega) (by omega)]
 ·rfl
end
def O7 {O:ak4}(f:Keyed->O.α)(d:O.α)(lo:Nat)(xs:Array Keyed)(k:Nat):Prop:=∀ i j,i<=j->j<k->O.kle (KF f d xs (lo+i)) (KF f d xs (lo+j))
def Y7 {O:ak4}(f:Keyed->O.α)(d:O.α)(lo:Nat)(xs:Array Keyed)(k:Nat):Prop:=∀ i j,i<=j->j<k->O.kle (KF f d xs (lo+j)) (KF f d xs (lo+i))
def Pre (lo:Nat)(xs ys:Array Keyed):Prop:=∀ k,k<lo->ys[k]?=xs[k]?
theorem Pre.rf (lo:Nat)(xs:Array Keyed):Pre lo xs xs:=fun _ _=>rfl
theorem Pre.trans {lo:Nat}{xs ys zs:Array Keyed}(a:Pre lo xs ys)(b:Pre lo ys zs):Pre lo xs zs:=fun k hk=>(b k hk).trans (a k hk)
theorem Pre.mirror {lo:Nat}{xs:Array Keyed}(hj:j<=xs.size)(hi:lo<=i):Pre lo xs (mirror xs i j ((j - i) / 2)):=fun k hk=>by
 rw[bC2 hj,if_neg (by omega)]
theorem Pre.bubble {lo src dd:Nat}{xs:Array Keyed}(hs:src<xs.size)(hd:dd<=src)(hl:lo<=src - dd):Pre lo xs (bubble xs src dd):=fun k hk=>by
 rw[getElem?_bubble hs dd hd,if_neg (by omega),if_neg (by omega)]
structure SI (a₀:Array Keyed) (κ:SortKind) (p:Array (Nat × Nat × Nat)) (st:SortSt):Prop where
 perm:(j2 st).Perm a₀
 kind:kindOf st=κ
 failed:G3 st=none
 pend:r6 st=p
section
variable {a₀:Array Keyed} {p:Array (Nat × Nat × Nat)} {O:ak4} {f:Keyed->O.α} {d:O.α}
theorem SI.size {st:SortSt}(h:SI a₀ κ p st):(j2 st).size=a₀.size:=h.perm.size_eq
theorem SI.setArr {st:SortSt}(h:SI a₀ κ p st){xs:Array Keyed}(hp:xs.Perm (j2 st)):SI a₀ κ p (setArr st xs):=⟨hp.trans h.perm,h.kind,h.failed,h.pend⟩
theorem SI.at {st:SortSt}(h:SI a₀ κ p st)(hi:i<a₀.size):∃ x,(j2 st)[i]?=some x/\x∈a₀.toList:=by
 have hi':i<(j2 st).size:=by rw[h.size];exact hi
 exact⟨(j2 st)[i],getElem?_pos _ i hi',(G1.mp h.perm).mem_iff.mp (by simp)⟩
abbrev bo8 (prog:Program)(w:World)(A:Around)(E:Value->Shared->Prop)(s:Shared)(κ:SortKind)(a₀:Array Keyed){O:ak4}(f:Keyed->O.α):Prop:=Cmp prog w A E s κ (·∈a₀.toList) (Bf f)
theorem X8 (C:bo8 prog w A E s κ a₀ f){st:SortSt}{Q:Option Bool->SortSt->Prop}(hB:SI a₀ κ p st)(hi:i<a₀.size)(hj:j<a₀.size)
  (h:Q (some (O.blt (KF f d (j2 st) i) (KF f d (j2 st) j))) st):wpS (m7 prog w) A E s (ltAt' i j) Q st:=by
 obtain⟨x,e1,hx⟩:=hB.at hi
 obtain⟨y,e2,hy⟩:=hB.at hj
 rw[an7 e1,an7 e2]at h
 exact aT3 C hB.kind e1 e2 hx hy h
theorem aM8 {st:SortSt} {lo a nrem:Nat} {Q:Option (Option Nat) × Nat->SortSt->Prop} {b:Nat->Option (Option Nat) × Nat->StateT SortSt Sem (ForInStep (Option (Option Nat) × Nat))} (ha:1<=a) (han:a<=nrem)
  (hb : ∀ x n (R : ForInStep (Option (Option Nat) × Nat) -> SortSt -> Prop), 1 <= n -> n < nrem -> (O.klt (KF f d (j2 st) (lo + n)) (KF f d (j2 st) (lo + n - 1)) -> R (.done (none, n)) st) ->
   (O.kle (KF f d (j2 st) (lo+n - 1)) (KF f d (j2 st) (lo+n))->R (.yield (none,n+1)) st)->wpS (m7 prog w) A E s (b x (none,n)) R st)
  (hs:O7 f d lo (j2 st) a)
  (h:∀ n,a<=n->n<=nrem->O7 f d lo (j2 st) n->(n=nrem\/O.klt (KF f d (j2 st) (lo+n)) (KF f d (j2 st) (lo+n - 1)))->Q (none,n) st) :
  wpS (m7 prog w) A E s (forIn [a:nrem] (none,a) b) Q st:=by
 refine B0 (I:=fun x c st'=>st'=st/\c=(none,x)/\O7 f d lo (j2 st) x) ?step ?fin ⟨rfl,rfl,hs⟩
 case fin =>
  rintro c st' ⟨rfl,rfl,hs'⟩
  rw[show max a nrem=nrem by omega]at hs' ⊢
  exact h nrem han (c6 _) hs' (.inl rfl)
 case step =>
  rintro x c st' hax hxn ⟨rfl,rfl,hs'⟩
  refine hb x x _ (by omega) hxn (fun q=>h x hax (by omega) hs' (.inr q)) (fun q=>⟨rfl,rfl,fun i j hij hj=>?_⟩)
  by_cases hjx:j<x
  ·exact hs' i j hij hjx
  ·have hj':j=x:=by omega
   subst hj'
   by_cases hi':i=j
   ·subst hi';exact KeyOrd.kle_refl _
   ·refine KeyOrd.kle_trans (hs' i (j - 1) (by omega) (by omega)) ?_
    rw[show lo+(j - 1)=lo+j - 1 by omega]
    exact q
theorem aX5 {st:SortSt} {lo nrem:Nat} {Q:Option (Option Nat) × Nat × Nat->SortSt->Prop} (hn:lo+nrem<=a₀.size) (h1:1<=n) (hnn:n<=nrem) (hB:SI a₀ κ p st)
  (hb : ∀ y x neq st' (R : ForInStep (Option (Option Nat) × Nat × Nat) -> SortSt -> Prop), SI a₀ κ p st' -> 1 <= x -> x < nrem ->
   (O.klt (KF f d (j2 st') (lo+x)) (KF f d (j2 st') (lo+x - 1))->0<neq->R (.yield (none,x+1,0)) (setArr st' (mirror (j2 st') (lo+x - (neq+1)) (lo+x) ((lo+x - (lo+x - (neq+1))) / 2)))) ->
   (O.klt (KF f d (j2 st') (lo+x)) (KF f d (j2 st') (lo+x - 1))->R (.yield (none,x+1,0)) st') ->
   (R (.done (none,x,neq)) st') ->
   (O.kle (KF f d (j2 st') (lo+x - 1)) (KF f d (j2 st') (lo+x))->O.kle (KF f d (j2 st') (lo+x)) (KF f d (j2 st') (lo+x - 1))->R (.yield (none,x+1,neq+1)) st')->wpS (m7 prog w) A E s (b y (none,x,neq)) R st')
  (hs:Y7 f d lo (j2 st) n)
  (h:∀ m neq st',SI a₀ κ p st'->Pre lo (j2 st) (j2 st')->n<=m->m<=nrem->Y7 f d lo (j2 st') m->neq+1<=m->(∀ i,m - (neq+1)<=i->i<m->KF f d (j2 st') (lo+i)=KF f d (j2 st') (lo+m - 1))->Q (none,m,neq) st') :
  wpS (m7 prog w) A E s (forIn [n:nrem] (none,n,0) b) Q st:=by
 refine B0 (I:=fun x c st'=>∃ neq,c=(none,x,neq)/\SI a₀ κ p st'/\Pre lo (j2 st) (j2 st')/\Y7 f d lo (j2 st') x/\neq+1<=x /\
   (∀ i,x - (neq+1)<=i->i<x->KF f d (j2 st') (lo+i)=KF f d (j2 st') (lo+x - 1))) ?step ?fin ⟨0,rfl,hB,Pre.rf _ _,hs,by omega,fun i h1 h2=>by congr 1;omega⟩
 case fin =>
  rintro c st' ⟨neq,rfl,hB',hp',hs',hq,he⟩
  rw[show max n nrem=nrem by omega]at hs' hq he ⊢
  exact h nrem neq st' hB' hp' hnn (c6 _) hs' hq he
 case step =>
  rintro x c st' hax hxn ⟨neq,rfl,hB',hp',hs',hq,he⟩
  have hsz:lo+x<=(j2 st').size:=by rw[hB'.size];omega
  have step1:O.klt (KF f d (j2 st') (lo+x)) (KF f d (j2 st') (lo+x - 1))->∀ xs:Array Keyed,(∀ k,KF f d xs k=KF f d (j2 st') k)->Y7 f d lo xs (x+1):=by
   intro hless xs hk i j hij hj
   rw[hk,hk]
   by_cases hjx:j<x
   ·exact hs' i j hij hjx
   ·have hj':j=x:=by omega
    subst hj'
    by_cases hi':i=j
    ·subst hi';exact KeyOrd.kle_refl _
    ·refine KeyOrd.kle_trans (KeyOrd.kle_of_klt hless) ?_
     rw[show lo+j - 1=lo+(j - 1) by omega]
     exact hs' i (j - 1) (by omega) (by omega)
  have he':∀ k,lo+x - (neq+1)<=k->k<lo+x->KF f d (j2 st') k=KF f d (j2 st') (lo+x - 1):=fun k h1 h2=>by
   have:=he (k - lo) (by omega) (by omega)
   rw[show lo+(k - lo)=k by omega]at this
   exact this
  refine hb x x neq st' _ hB' (by omega) hxn (fun q hneq=>?_) (fun q=>?_) (h x neq st' hB' hp' hax (by omega) hs' hq he) (fun q q'=>?_)
  ·exact⟨0,rfl,hB'.setArr (aS6 _ _ _ _),hp'.trans (Pre.mirror hsz (by omega)),step1 q _ (K1 hsz he'),by omega,fun i h1 h2=>by congr 1;omega⟩
  ·exact⟨0,rfl,hB',hp',step1 q _ (fun _=>rfl),by omega,fun i h1 h2=>by congr 1;omega⟩
  ·have heqx:KF f d (j2 st') (lo+x)=KF f d (j2 st') (lo+x - 1):=KeyOrd.kle_antisymm q' q
   refine⟨neq+1,rfl,hB',hp',fun i j hij hj=>?_,by omega,fun i h1 h2=>?_⟩
   ·by_cases hjx:j<x
    ·exact hs' i j hij hjx
    ·have hj':j=x:=by omega
     subst hj'
     by_cases hi':i=j
     ·subst hi';exact KeyOrd.kle_refl _
     ·rw[heqx,show lo+j - 1=lo+(j - 1) by omega];exact hs' i (j - 1) (by omega) (by omega)
   ·rw[show lo+(x+1) - 1=lo+x by omega]
    by_cases hix:i=x
    ·subst hix;rfl
    ·rw[heqx];exact he i (by omega) (by omega)
theorem wpS_countRun (C:bo8 prog w A E s κ a₀ f) {st:SortSt} {lo nrem:Nat} {Q:Option Nat->SortSt->Prop} (d:O.α) (hn:lo+nrem<=a₀.size) (h1:1<=nrem) (hB:SI a₀ κ p st)
    (h:∀ m st',SI a₀ κ p st'->Pre lo (j2 st) (j2 st')->1<=m->m<=nrem->O7 f d lo (j2 st') m->Q (some m) st') :
    wpS (m7 prog w) A E s (countRun' lo nrem) Q st:=by
  rw[countRun'_eq]
  dsimp only
  refine d8 (aM8 (f:=f) (d:=d) (lo:=lo) (c6 1) h1 (fun x n R hn1 hn2 q1 q2=>?_) (fun i j hij hj=>by have:i=j:=(by omega);subst this;exact KeyOrd.kle_refl _) fun n hn1 hn2 hsn hor=>?_)
  · dsimp only
    refine d8 (X8 (d:=d) C hB (by omega) (by omega) ?_)
    cases e:O.blt (KF f d (j2 st) (lo+n)) (KF f d (j2 st) (lo+n - 1)) with
    | true=>exact i7 (q1 e)
    | false=>exact i7 (q2 e)
  dsimp only
  by_cases hnn:n=nrem
  · rw[if_pos (by simpa using hnn)]
    exact i7 (h n st hB (Pre.rf _ _) hn1 hn2 hsn)
  rw[if_neg (by simpa using hnn)]
  have hlt:=hor.resolve_left hnn
  by_cases hrose:1<n/\O.blt (KF f d (j2 st) lo) (KF f d (j2 st) (lo+n - 1))=true
  · rw[if_pos hrose.1]
    refine d8 (X8 (d:=d) C hB (by omega) (by omega) ?_)
    rw[hrose.2]
    exact i7 (h n st hB (Pre.rf _ _) hn1 hn2 hsn)
  have hfell:1<n->O.blt (KF f d (j2 st) lo) (KF f d (j2 st) (lo+n - 1))=false:=fun hgt=>by
    cases e:O.blt (KF f d (j2 st) lo) (KF f d (j2 st) (lo+n - 1)) with
    | false=>rfl
    | true=>exact absurd ⟨hgt,e⟩ hrose
  have fall:∃ st2,SI a₀ κ p st2/\Pre lo (j2 st) (j2 st2)/\Y7 f d lo (j2 st2) (n+1)/\(n > 1->st2=setArr st (mirror (j2 st) lo (lo+n) ((lo+n - lo) / 2)))/\(¬ n > 1->st2=st):=by
    by_cases hgt:1<n
    · have hfell:=hfell hgt
      have hsz:lo+n<=(j2 st).size:=by rw[hB.size];omega
      have hall:∀ k,lo<=k->k<lo+n->KF f d (j2 st) k=KF f d (j2 st) (lo+n - 1):=by
        intro k hk0 hk
        have a1:=hsn 0 (k - lo) (by omega) (by omega)
        have a2:=hsn (k - lo) (n - 1) (by omega) (by omega)
        rw[show lo+0=lo by omega,show lo+(k - lo)=k by omega]at a1
        rw[show lo+(k - lo)=k by omega,show lo+(n - 1)=lo+n - 1 by omega]at a2
        exact KeyOrd.kle_antisymm a2 (KeyOrd.kle_trans hfell a1)
      refine⟨_,hB.setArr (aS6 _ _ _ _),Pre.mirror hsz (c6 _),?_,fun _=>rfl,fun e=>by omega⟩
      intro i j hij hj
      show O.kle (KF f d (mirror (j2 st) _ _ _) (lo+j)) (KF f d (mirror (j2 st) _ _ _) (lo+i))
      rw[K1 hsz hall,K1 hsz hall]
      by_cases hjn:j<n
      · rw[hall (lo+i) (by omega) (by omega),hall (lo+j) (by omega) (by omega)];exact KeyOrd.kle_refl _
      · have hj':j=n:=by omega
        subst hj'
        by_cases hi':i=j
        · subst hi';exact KeyOrd.kle_refl _
        · rw[hall (lo+i) (by omega) (by omega)];exact KeyOrd.kle_of_klt hlt
    · have hn1':n=1:=by omega
      subst hn1'
      refine⟨st,hB,Pre.rf _ _,?_,fun q=>by omega,fun _=>rfl⟩
      intro i j hij hj
      by_cases hi':i=j
      · subst hi';exact KeyOrd.kle_refl _
      · have hi0:i=0:=by omega
        have hj1:j=1:=by omega
        subst hi0;subst hj1
        rw[show lo+0=lo+1 - 1 by omega]
        exact KeyOrd.kle_of_klt hlt
  obtain⟨st2,hB2,hp2,hs2,e2,e3⟩:=fall
  by_cases hgt:n > 1
  all_goals first
    | (rw [if_pos hgt]
       refine d8 (X8 (d:=d) C hB (by omega) (by omega) ?_)
       rw[hfell hgt]
       dsimp only
       rw[if_neg c7]
       refine d8 (ar7 ?_)
       rw[<- e2 hgt])
    | (rw [if_neg hgt]
       have e3:=e3 hgt
       rw[<- e3])
  all_goals
    clear e2 e3
    refine d8 (W5 ?_)
    refine d8 (aX5 (f:=f) (d:=d) (lo:=lo) hn (by omega) (by omega) hB2 (fun y x neq st' R hB' x1 x2 q1 q2 q3 q4=>?_) hs2 fun m neq st' hB' hp' hm1 hm2 hs' hq he=>?_)
    · dsimp only
      refine d8 (X8 (d:=d) C hB' (by omega) (by omega) ?_)
      cases e:O.blt (KF f d (j2 st') (lo+x)) (KF f d (j2 st') (lo+x - 1)) with
      | true =>
        dsimp only
        rw[if_pos rfl]
        split
        · rename_i hz
          exact d8 (ar7 (i7 (q1 e hz)))
        · exact i7 (q2 e)
      | false =>
        dsimp only
        rw[if_neg c7]
        refine d8 (X8 (d:=d) C hB' (by omega) (by omega) ?_)
        cases e':O.blt (KF f d (j2 st') (lo+x - 1)) (KF f d (j2 st') (lo+x)) with
        | true=>exact i7 q3
        | false=>exact i7 (q4 e e')
    · dsimp only
      have hsz:lo+m<=(j2 st').size:=by rw[hB'.size];omega
      have he':∀ k,lo+m - (neq+1)<=k->k<lo+m->KF f d (j2 st') k=KF f d (j2 st') (lo+m - 1):=fun k h1 h2=>by
        have:=he (k - lo) (by omega) (by omega)
        rw[show lo+(k - lo)=k by omega]at this
        exact this
      have tailOk:∀ st3,SI a₀ κ p st3->Pre lo (j2 st) (j2 st3)->Y7 f d lo (j2 st3) m->SI a₀ κ p (setArr st3 (mirror (j2 st3) lo (lo+m) ((lo+m - lo) / 2)))/\Pre lo (j2 st) (mirror (j2 st3) lo (lo+m) ((lo+m - lo) / 2))/\O7 f d lo (mirror (j2 st3) lo (lo+m) ((lo+m - lo) / 2)) m:=fun st3 hB3 hp3 hs3=>by
        have hsz3:lo+m<=(j2 st3).size:=by rw[hB3.size];omega
        refine⟨hB3.setArr (aS6 _ _ _ _),hp3.trans (Pre.mirror hsz3 (c6 _)),fun i j hij hj=>?_⟩
        rw[ai6 hsz3,ai6 hsz3,if_pos (by omega),if_pos (by omega),show lo+(lo+m) - 1 - (lo+i)=lo+(m - 1 - i) by omega,show lo+(lo+m) - 1 - (lo+j)=lo+(m - 1 - j) by omega]
        exact hs3 _ _ (by omega) (by omega)
      have mm:Y7 f d lo (mirror (j2 st') (lo+m - (neq+1)) (lo+m) ((lo+m - (lo+m - (neq+1))) / 2)) m:=fun i j hij hj=>by
        rw[K1 hsz he',K1 hsz he']
        exact hs' i j hij hj
      by_cases hneq:neq > 0
      all_goals first
        | (rw [if_pos hneq]
           refine d8 (ar7 (d8 (ar7 ?_)))
           obtain⟨hB4,hp4,hs4⟩:=tailOk (setArr st' (mirror (j2 st') (lo+m - (neq+1)) (lo+m) ((lo+m - (lo+m - (neq+1))) / 2))) (hB'.setArr (aS6 _ _ _ _)) ((hp2.trans hp').trans (Pre.mirror hsz (by omega))) mm)
        | (rw [if_neg hneq]
           refine d8 (ar7 ?_)
           obtain⟨hB4,hp4,hs4⟩:=tailOk st' hB' (hp2.trans hp') hs')
      all_goals
        refine d8 (aM8 (f:=f) (d:=d) (lo:=lo) (by omega) hm2 (fun x n R hn1 hn2 q1 q2=>?_) hs4 fun n' hn1' hn2' hsn' _=>i7 (h n' _ hB4 hp4 (by omega) hn2' hsn'))
        dsimp only
        refine d8 (X8 (d:=d) C hB4 (by omega) (by omega) ?_)
        revert q1 q2
        generalize KF f d (j2 _) (lo+n)=u
        generalize KF f d (j2 _) (lo+n - 1)=v
        intro q1 q2
        cases e:O.blt u v with
        | true=>exact i7 (q1 e)
        | false=>exact i7 (q2 e)
theorem al1 (C:bo8 prog w A E s κ a₀ f) {st:SortSt} {lo ok:Nat} {Q:Bool->SortSt->Prop} (d:O.α) (hn:lo+n<=a₀.size) (hok:ok<=n) (hB:SI a₀ κ p st) (hs:O7 f d lo (j2 st) ok)
  (h:∀ st',SI a₀ κ p st'->Pre lo (j2 st) (j2 st')->O7 f d lo (j2 st') n->Q true st'):wpS (m7 prog w) A E s (binarySort' lo n ok) Q st:=by
 rw[binarySort'_eq]
 refine d8 (Q1 (B0 (I:=fun k c st'=>c=(none,())/\SI a₀ κ p st'/\Pre lo (j2 st) (j2 st')/\O7 f d lo (j2 st') (min k n))
  (Q:=fun c st'=>c=(none,())/\SI a₀ κ p st'/\Pre lo (j2 st) (j2 st')/\O7 f d lo (j2 st') n) ?step ?fin ?init) ?post)
 case post =>
  rintro c st' ⟨rfl,hB',hp',hs'⟩
  exact i7 (h st' hB' hp' hs')
 case init =>
  refine⟨rfl,hB,Pre.rf _ _,fun i j hij hj=>?_⟩
  by_cases h1:ok=0
  ·have:i=j:=by omega
   subst this;exact KeyOrd.kle_refl _
  ·exact hs i j hij (by omega)
 case fin =>
  rintro c st' ⟨hc,hB',hp',hs'⟩
  refine⟨hc,hB',hp',?_⟩
  rwa [show min (max (max ok 1) n) n=n by omega]at hs'
 case step =>
  rintro k c st' hak hkn ⟨rfl,hB',hp',hs'⟩
  rw[show min k n=k by omega]at hs'
  have hk:lo+k<a₀.size:=by omega
  refine d8 (Q1 (B0 (I:=fun x c st''=>st''=st'/\∃ l r,c=(none,l,r)/\l<=r/\r<=k/\r - l<=k - x /\
    (∀ i,i<l->O.kle (KF f d (j2 st') (lo+i)) (KF f d (j2 st') (lo+k)))/\(∀ i,r<=i->i<k->O.klt (KF f d (j2 st') (lo+k)) (KF f d (j2 st') (lo+i))))
   (Q := fun c st'' => st'' = st' /\ ∃ l r, c = (none, l, r) /\ l <= k /\
    (∀ i,i<l->O.kle (KF f d (j2 st') (lo+i)) (KF f d (j2 st') (lo+k)))/\(∀ i,l<=i->i<k->O.klt (KF f d (j2 st') (lo+k)) (KF f d (j2 st') (lo+i)))) ?istep ?ifin ?iinit) ?ipost)
  case iinit=>exact⟨rfl,0,k,rfl,by omega,by omega,by omega,fun i hi=>by omega,fun i h1 h2=>by omega⟩
  case ifin =>
   rintro c st'' ⟨rfl,l,r,rfl,hlr,hrk,hm,hlo,hhi⟩
   have:l=r:=by omega
   subst this
   exact⟨rfl,l,l,rfl,hrk,hlo,hhi⟩
  case istep =>
   rintro x c st'' _ hxk ⟨rfl,l,r,rfl,hlr,hrk,hm,hlo,hhi⟩
   dsimp only
   by_cases hge:l≥r
   ·rw[if_pos hge]
    have:l=r:=by omega
    subst this
    exact i7 ⟨rfl,l,l,rfl,hrk,hlo,hhi⟩
   ·rw[if_neg hge]
    refine d8 (X8 (d:=d) C hB' hk (by omega) ?_)
    cases hless:O.blt (KF f d (j2 st'') (lo+k)) (KF f d (j2 st'') (lo+(l+r) / 2))
    case true =>
     simp only[if_true]
     refine i7 ⟨rfl,l,(l+r) / 2,rfl,by omega,by omega,by omega,hlo,fun i h1 h2=>?_⟩
     exact KeyOrd.klt_of_klt_of_kle hless (hs' _ _ h1 h2)
    case false =>
     simp only[d3,if_false]
     refine i7 ⟨rfl,(l+r) / 2+1,r,rfl,by omega,by omega,by omega,fun i h1=>?_,hhi⟩
     exact KeyOrd.kle_trans (hs' i ((l+r) / 2) (by omega) (by omega)) (show O.kle _ _ from hless)
  case ipost =>
   rintro c st'' ⟨rfl,l,r,rfl,hlk,hlo,hhi⟩
   show wpS _ _ _ _ (do moveDown' (lo+k) (lo+l);pure (ForInStep.yield (none,()))) _ _
   rw[moveDown'_eq]
   have hks:lo+k<(j2 st'').size:=by rw[hB'.size];exact hk
   refine d8 (am4 (i7 ⟨rfl,hB'.setArr (bubble_perm _ _ _),hp'.trans (Pre.bubble hks (by omega) (by omega)),?_⟩))
   rw[show min (k+1) n=k+1 by omega]
   intro i j hij hj
   show O.kle (KF f d (bubble (j2 st'') (lo+k) (lo+k - (lo+l))) (lo+i)) (KF f d (bubble (j2 st'') (lo+k) (lo+k - (lo+l))) (lo+j))
   rw[av0 hks (by omega),av0 hks (by omega),show lo+k - (lo+k - (lo+l))=lo+l by omega]
   have e1:∀ t:Nat,0<t->lo+t - 1=lo+(t - 1):=fun t ht=>by omega
   repeat' split
   all_goals first
    | (exfalso;omega)
    | exact KeyOrd.kle_refl _
    | exact hlo _ (by omega)
    | (rw[e1 _ (by omega)];exact KeyOrd.kle_of_klt (hhi _ (by omega) (by omega)))
    | exact KeyOrd.kle_of_klt (hhi _ (by omega) (by omega))
    | exact hs' _ _ (by omega) (by omega)
    | (rw[e1 _ (by omega)];exact hs' _ _ (by omega) (by omega))
    | (rw[e1 _ (by omega),e1 _ (by omega)];exact hs' _ _ (by omega) (by omega))
end
theorem aE3 (i:Nat):mergeAt' i=(do
 let s <- get
 let (some (sa,na,power),some (sb,nb,_)):=((r6 s)[i]?,(r6 s)[i+1]?) | ar6 "internal:list.sort.pending"
 set (bh3 s (((r6 s).setIfInBounds i (sa,na+nb,power)).eraseIdxIfInBounds (i+1)))
 let some k <- S3 false (<- Z7 (j2 s) sb) (j2 s) sa na 0 | return false
 let (sa,na):=(sa+k,na - k)
 if na == 0 then return true
 let some nb <- S3 true (<- Z7 (j2 s) (sa+na - 1)) (j2 s) sb nb (nb - 1) | return false
 if nb == 0 then return true
 let x:=(j2 s).extract sa sb
 let y:=(j2 s).extract sb (sb+nb)
 let merged <- if na<=nb then ap3 x y else ap4 x y
 modify fun s=>setArr s (merged.toList.zipIdx.foldl (fun a (p,j)=>a.setIfInBounds (sa+j) p) (j2 s))
 return (G3 (<- get)).isNone):=rfl
def shape (ps:List (Nat × Nat × Nat)):List (Nat × Nat):=ps.map fun x=>(x.1,x.2.1)
def af0:Nat->List (List Keyed)->List (Nat × Nat)
 | _,[]=>[]
 | k,r::rs=>(k,r.length)::af0 (k+r.length) rs
theorem V5:∀ (k:Nat) (rs ts:List (List Keyed)),af0 k (rs++ts)=af0 k rs++af0 (k+rs.flatten.length) ts
 | k,[],ts=>by simp[af0]
 | k,r::rs,ts=>by
  rw[List.cons_append]
  show (k,r.length)::af0 (k+r.length) (rs++ts)=(k,r.length)::(af0 (k+r.length) rs++_)
  rw[V5 (k+r.length) rs ts,K2,c9,W4]
theorem V4:∀ (k:Nat) (rs:List (List Keyed)),(af0 k rs).length=rs.length
 | _,[]=>rfl
 | k,r::rs=>by
  show (af0 (k+r.length) rs).length+1=rs.length+1
  rw[V4]
theorem aB8 {α:Type}{l:List α}(h:i+1<l.length):∃ l1 u v l2,l=l1++u::v::l2/\l1.length=i:=by
 refine⟨l.take i,l[i],l[i+1],l.drop (i+2),?_,by rw[y9];omega⟩
 rw[<- Z4,<- Z4,M8]
theorem aF5 (b:Nat):∀ (m:List Keyed) (k:Nat) (arr:Array Keyed),b+k+m.length<=arr.size ->
  (W3 (fun a x=>match x with | (p,j)=>bh9 a (b+j) p) arr (m.zipIdx k)).toList=arr.toList.take (b+k)++(m++arr.toList.drop (b+k+m.length))
 | [],k,arr,h=>by simp
 | x::m,k,arr,h=>by
  rw[j7]at h
  rw[List.zipIdx_cons,Q4,aF5 b m (k+1) _ (by rw[aM6];omega)]
  dsimp only
  rw[aH3]
  have hl:b+k<arr.toList.length:=by rw[d9];omega
  rw[List.set_eq_take_append_cons_drop,if_pos hl]
  have e1:(aH4 (b+k) arr.toList).length=b+k:=by rw[y9];omega
  have e2:(aH4 (b+k) arr.toList++x::List.drop (b+k+1) arr.toList).take (b+(k+1))=aH4 (b+k) arr.toList++[x]:=by
   rw[bB0,e1,show b+(k+1) - (b+k)=1 by omega,o1 (by rw[e1];omega)]
   rfl
  have e3:(aH4 (b+k) arr.toList++x::List.drop (b+k+1) arr.toList).drop (b+(k+1)+m.length)=arr.toList.drop (b+k+(m.length+1)):=by
   rw[U7,e1,C8 (by rw[e1];omega),K3,show b+(k+1)+m.length - (b+k)=m.length+1 by omega,List.drop_succ_cons,aM5]
   congr 1
   omega
  rw[e2,e3,p7]
  rfl
theorem bj3 {σ:Type}{x:σ}{Q:PUnit->σ->Prop}{st:σ}(h:Q ⟨⟩ x):wpS M A E s (set x:StateT σ Sem PUnit) Q st:=by
 unfold wpS;rw[StateT.run_set];exact a6 ⟨rfl,h⟩
structure SR (a₀:Array Keyed) (κ:SortKind) (B:Keyed->Keyed->Bool) (runs:List (List Keyed)) (suf:List Keyed) (st:SortSt):Prop where
 perm:(j2 st).Perm a₀
 kind:kindOf st=κ
 failed:G3 st=none
 sh:shape (r6 st).toList=af0 0 runs
 ok:∀ r∈runs,r≠[]/\r.Pairwise (le B)
 arr:(j2 st).toList=runs.flatten++suf
section
variable {a₀:Array Keyed}
theorem W6 {l:List Keyed}(h:l.Pairwise R)(rf:∀ x,R x x){x y:Keyed}(hij:i<=j)(hx:l[i]?=some x)(hy:l[j]?=some y):R x y:=by
 obtain⟨h1,rfl⟩:=a9.mp hx
 obtain⟨h2,rfl⟩:=a9.mp hy
 rcases D8 hij with hlt | rfl
 ·exact l7.mp h i j h1 h2 hlt
 ·exact rf _
theorem aj1 (o:Ord B)(C:Cmp prog w A E s κ (·∈a₀.toList) B){st:SortSt}{runs:List (List Keyed)}{suf:List Keyed}{Q:Bool->SortSt->Prop}(I:SR a₀ κ B runs suf st)(hi:i+1<runs.length)
  (h:∀ runs' st',SR a₀ κ B runs' suf st'->runs'.length+1=runs.length->runs'.flatten.length=runs.flatten.length->Q true st'):wpS (m7 prog w) A E s (mergeAt' i) Q st:=by
 obtain⟨r1,R,R',r2,rfl,hr1⟩:=aB8 hi
 have hpl:(r6 st).toList.length=(r1++R::R'::r2).length:=by
  have:=congrArg L0 I.sh
  rw[V4]at this
  unfold shape at this
  rw[b6]at this
  exact this
 obtain⟨l1,u,v,l2,hp,hl1⟩:=aB8 (l:=(r6 st).toList) (i:=i) (by rw[hpl];exact hi)
 have hsh:=I.sh
 rw[hp,V5]at hsh
 unfold shape at hsh
 rw[n4]at hsh
 obtain⟨s1,s2⟩:=List.append_inj hsh (by rw[b6,V4,hl1,hr1])
 rw[j8,j8]at s2
 simp only[af0,List.cons.injEq,J0]at s2
 obtain⟨su,sv,s2⟩:=s2
 obtain⟨sa,na,pw⟩:=u
 obtain⟨sb,nb,pw2⟩:=v
 simp only[Prod.mk.injEq]at su sv
 obtain⟨hsa,hna⟩:=su
 obtain⟨hsb,hnb⟩:=sv
 have okR:=I.ok R (by simp)
 have okR':=I.ok R' (by simp)
 have nR:0<R.length:=al7.mpr okR.1
 have nR':0<R'.length:=al7.mpr okR'.1
 have g1:(r6 st)[i]?=some (sa,na,pw):=by
  rw[<- b5,hp,C5 (by omega),hl1,bi0]
  rfl
 have g2:(r6 st)[i+1]?=some (sb,nb,pw2):=by
  rw[<- b5,hp,C5 (by omega),hl1,show i+1 - i=1 by omega]
  rfl
 have harr:(j2 st).toList=r1.flatten++(R++(R'++(r2.flatten++suf))):=by
  rw[I.arr]
  simp
 have hsize:(j2 st).size=sa+(na+(nb+(r2.flatten++suf).length)):=by
  rw[<- d9,harr,c9,c9,c9,hsa,hna,hnb]
 have atR:∀ k,k<na->(j2 st)[sa+k]?=R[k]?:=fun k hk=>by
  rw[<- b5,harr,C5 (by omega),hsa,L3,Z3 (by omega)]
 have atR':∀ k,k<nb->(j2 st)[sb+k]?=R'[k]?:=fun k hk=>by
  rw[<- b5,harr,C5 (by omega),C5 (by omega),Z3 (by omega)]
  congr 1
  omega
 have inS:∀ x∈(j2 st).toList,x∈a₀.toList:=fun x hx=>(G1.mp I.perm).mem_iff.mp hx
 have hpend:∀ M:List Keyed,M.length=na+nb->shape (((r6 st).setIfInBounds i (sa,na+nb,pw)).eraseIdxIfInBounds (i+1)).toList=af0 0 (r1++M::r2):=fun M hM=>by
  have e:(((r6 st).setIfInBounds i (sa,na+nb,pw)).eraseIdxIfInBounds (i+1)).toList=l1++(sa,na+nb,pw)::l2:=by
   rw[Array.toList_eraseIdxIfInBounds,aH3,hp]
   subst hl1
   rw[List.set_append_right _ _ (c6 _),bi0,List.set_cons_zero,List.eraseIdx_append_of_length_le (by omega)]
   rw[show l1.length+1 - l1.length=1 by omega]
   rfl
  unfold shape
  rw[e,n4,s1,V5,j8]
  show _++(sa,na+nb)::_=_++(0+r1.flatten.length,M.length)::af0 (0+r1.flatten.length+M.length) r2
  rw[hM,s2,J0,hsa,hna,hnb,W4]
 have fin:∀ (st':SortSt) (M:List Keyed),kindOf st'=κ->G3 st'=none->r6 st'=((r6 st).setIfInBounds i (sa,na+nb,pw)).eraseIdxIfInBounds (i+1) ->
   (j2 st').toList=r1.flatten++(M++(r2.flatten++suf))->M.Perm (R++R')->M.Pairwise (le B)->Q true st':=fun st' M k1 k2 k3 k4 k5 k6=>by
  have hM:M.length=na+nb:=by rw[k5.length_eq,c9,hna,hnb]
  refine h (r1++M::r2) st' ⟨?_,k1,k2,by rw[k3];exact hpend M hM,fun r hr=>?_,?_⟩ (by simp;omega) (by simp;omega)
  ·refine Array.Perm.trans ?_ I.perm
   rw[G1,k4,harr]
   refine List.Perm.append_left _ ?_
   rw[<- p7 R]
   exact List.Perm.append_right _ k5
  ·rcases j0.mp hr with hr | hr
   ·exact I.ok r (m6 _ hr)
   ·rcases b7.mp hr with rfl | hr
    ·exact⟨by intro e;rw[e]at hM;simp at hM;omega,k6⟩
    ·exact I.ok r (d6 _ (b9 _ (b9 _ hr)))
  ·rw[k4];simp
 have both:(∀ x∈R,∀ y∈R',le B x y)->(R++R').Pairwise (le B):=fun hxy=>t6.mpr ⟨okR.2,okR'.2,hxy⟩
 rw[aE3]
 refine d8 (ak3 ?_)
 rw[g1,g2]
 dsimp only
 refine d8 (bj3 ?_)
 obtain⟨y0,ey0⟩:∃ y0,R'[0]?=some y0:=⟨R'[0],d5 nR'⟩
 have ey:(j2 st)[sb]?=some y0:=by
  have:=atR' 0 (by omega)
  rw[az3]at this
  rw[this,ey0]
 refine d8 (A2 ey ?_)
 have hy0:y0∈a₀.toList:=inS y0 (c8 (by rw[b5];exact ey))
 refine d8 (P6 o C (by exact I.kind) hy0 (by omega) (fun i x hi' e=>inS x (c8 (by rw[b5];exact e)))
  (fun i j x y hij hj e e'=>W6 okR.2 o.rf hij (by rw[<- atR i (by omega)];exact e) (by rw[<- atR j hj];exact e')) (by omega) fun k hk hlt hge=>?_)
 dsimp only
 have leR:∀ (j:Nat) (x:Keyed),j<k->R[j]?=some x->le B x y0:=fun j x hj e=>by
  have q:=hlt j x hj (by rw[atR j (by omega)];exact e)
  show B y0 x=false
  simpa [byn] using q
 have gtR:∀ (j:Nat) (x:Keyed),k<=j->R[j]?=some x->B y0 x=true:=fun j x hj e=>by
  have hjl:j<R.length:=(a9.mp e).1
  have q:=hge j x hj (by omega) (by rw[atR j (by omega)];exact e)
  simpa [byn] using q
 have leY:∀ y∈R',le B y0 y:=fun y hy=>by
  obtain⟨j,hj⟩:=i8.mp hy
  exact W6 okR'.2 o.rf (k9 j) ey0 hj
 by_cases e0:na - k=0
 ·rw[if_pos (by simpa using e0)]
  refine i7 (fin _ (R++R') I.kind I.failed rfl ?_ (List.Perm.refl _) (both fun x hx y hy=>?_))
  ·show (j2 st).toList=_
   rw[harr];simp
  ·obtain⟨j,hj⟩:=i8.mp hx
   have hjl:j<R.length:=(a9.mp hj).1
   exact o.trans (leR j x (by omega) hj) (leY y hy)
 rw[if_neg (by simpa using e0)]
 obtain⟨xl,exl⟩:∃ xl,R[na - 1]?=some xl:=⟨R[na - 1]'(by omega),d5 (by omega)⟩
 have ex:(j2 st)[sa+k+(na - k) - 1]?=some xl:=by
  rw[show sa+k+(na - k) - 1=sa+(na - 1) by omega,atR _ (by omega),exl]
 refine d8 (A2 ex ?_)
 have hxl:xl∈a₀.toList:=inS xl (c8 (by rw[b5];exact ex))
 refine d8 (P6 o C (by exact I.kind) hxl (by omega) (fun i x hi' e=>inS x (c8 (by rw[b5];exact e)))
  (fun i j x y hij hj e e'=>W6 okR'.2 o.rf hij (by rw[<- atR' i (by omega)];exact e) (by rw[<- atR' j hj];exact e')) (by omega) fun k2 hk2 hlt2 hge2=>?_)
 dsimp only
 have ltY:∀ (j:Nat) (x:Keyed),j<k2->R'[j]?=some x->B x xl=true:=fun j x hj e=>by
  have q:=hlt2 j x hj (by rw[atR' j (by omega)];exact e)
  simpa [byn] using q
 have geY:∀ (j:Nat) (x:Keyed),k2<=j->R'[j]?=some x->le B xl x:=fun j x hj e=>by
  have hjl:j<R'.length:=(a9.mp e).1
  have q:=hge2 j x hj (by omega) (by rw[atR' j (by omega)];exact e)
  show B x xl=false
  simpa [byn] using q
 have leX:∀ x∈R,le B x xl:=fun x hx=>by
  obtain⟨j,hj⟩:=i8.mp hx
  have hjl:j<R.length:=(a9.mp hj).1
  exact W6 okR.2 o.rf (by omega) hj exl
 by_cases e1:k2=0
 ·rw[if_pos (by simpa using e1)]
  refine i7 (fin _ (R++R') I.kind I.failed rfl ?_ (List.Perm.refl _) (both fun x hx y hy=>?_))
  ·show (j2 st).toList=_
   rw[harr];simp
  ·obtain⟨j,hj⟩:=i8.mp hy
   exact o.trans (leX x hx) (geY j y (by omega) hj)
 rw[if_neg (by simpa using e1)]
 have ex1:((j2 st).extract (sa+k) sb).toList=R.drop k:=by
  rw[an5,harr,hsa,U7,C8 (by omega),K3,L3,az4 (by omega),U8 (by rw[U9];omega)]
  exact o1 (by rw[U9];omega)
 have ey1:((j2 st).extract sb (sb+k2)).toList=R'.take k2:=by
  rw[an5,harr,hsb,<- p7,U7,C8 (by rw[c9];omega),K3,c9,bi0,List.drop_zero,L3,U8 (by omega)]
 have sx:((j2 st).extract (sa+k) sb).size=na - k:=by rw[<- d9,ex1,U9];omega
 have sy:((j2 st).extract sb (sb+k2)).size=k2:=by rw[<- d9,ey1,y9];omega
 have pre1:∀ x y,((j2 st).extract sb (sb+k2))[0]?=some x->((j2 st).extract (sa+k) sb)[0]?=some y->B x y=true:=fun x y hx hy=>by
  rw[<- b5,ey1,P4 (by omega),ey0]at hx
  cases hx
  rw[<- b5,ex1,Q5]at hy
  exact gtR (k+0) y (by omega) hy
 have pre2:∀ x∈((j2 st).extract sb (sb+k2)).toList,∀ y,((j2 st).extract (sa+k) sb)[((j2 st).extract (sa+k) sb).size - 1]?=some y->B x y=true:=fun x hx y hy=>by
  rw[<- b5,ex1,Q5,sx,show k+(na - k - 1)=na - 1 by omega,exl]at hy
  cases hy
  rw[ey1]at hx
  obtain⟨j,hj⟩:=i8.mp hx
  rw[G6]at hj
  split at hj
  ·rename_i hlt'
   exact ltY j x hlt' hj
  ·cases hj
 have sS1:∀ x∈((j2 st).extract (sa+k) sb).toList,x∈a₀.toList:=fun x hx=>by
  rw[ex1]at hx
  refine inS x ?_
  rw[harr]
  exact d6 _ (m6 _ (V8 hx))
 have sS2:∀ x∈((j2 st).extract sb (sb+k2)).toList,x∈a₀.toList:=fun x hx=>by
  rw[ey1]at hx
  refine inS x ?_
  rw[harr]
  exact d6 _ (d6 _ (m6 _ (ai9 hx)))
 have so1:((j2 st).extract (sa+k) sb).toList.Pairwise (le B):=by rw[ex1];exact okR.2.sublist (bz8 _ _)
 have so2:((j2 st).extract sb (sb+k2)).toList.Pairwise (le B):=by rw[ey1];exact okR'.2.sublist (aa9 _ _)
 have done:∀ (r:Array Keyed) (st3:SortSt),Sm (bh3 st (((r6 st).setIfInBounds i (sa,na+nb,pw)).eraseIdxIfInBounds (i+1))) st3->Good B ((j2 st).extract (sa+k) sb) ((j2 st).extract sb (sb+k2)) r ->
   wpS (m7 prog w) A E s (do
    modify fun s=>setArr s (W3 (fun a x=>match x with | (p,j)=>bh9 a (sa+k+j) p) (j2 s) r.toList.zipIdx)
    let __do_lift <- get
    pure (G3 __do_lift).isNone) Q st3:=fun r st3 hS hg=>by
  refine d8 (am4 (d8 (ak3 (i7 ?_))))
  have hf:G3 st3=none:=hS.f.trans I.failed
  show Q (G3 st3).isNone _
  rw[hf]
  obtain⟨g1,g2⟩:=hg
  rw[ex1,ey1]at g2
  have hrl:r.toList.length=na - k+k2:=by rw[g2.length_eq,c9,U9,y9];omega
  refine fin _ (R.take k++(r.toList++R'.drop k2)) (hS.k.trans I.kind) hf hS.p ?_ ?_ ?_
  ·show (W3 _ (j2 st3) (r.toList.zipIdx 0)).toList=_
   rw[hS.a]
   show (W3 _ (j2 st) (r.toList.zipIdx 0)).toList=_
   rw[aF5 (sa+k) r.toList 0 (j2 st) (by omega),harr,az3,hrl]
   have t1:aH4 (sa+k) (r1.flatten++(R++(R'++(r2.flatten++suf))))=r1.flatten++R.take k:=by
    rw[bB0,o1 (by omega),show sa+k - r1.flatten.length=k by omega,U8 (by omega)]
   have t2:List.drop (sa+k+(na - k+k2)) (r1.flatten++(R++(R'++(r2.flatten++suf))))=R'.drop k2++(r2.flatten++suf):=by
    rw[U7,C8 (by omega),K3,U7,C8 (by omega),K3,az4 (by omega)]
    congr 2
    omega
   rw[t1,t2]
   simp
  ·have:(R.take k++(r.toList++R'.drop k2)).Perm (R.take k++((R.drop k++R'.take k2)++R'.drop k2)):=List.Perm.append_left _ (List.Perm.append_right _ g2)
   refine this.trans (List.Perm.of_eq ?_)
   rw[p7,M8,<- p7,M8]
  ·have inM:∀ z∈r.toList,z∈R.drop k\/z∈R'.take k2:=fun z hz=>j0.mp (g2.mem_iff.mp hz)
   have tk:∀ {l:List Keyed} {n:Nat} {x:Keyed},x∈l.take n->∃ j,j<n/\l[j]?=some x:=fun {l n x} hx=>by
    obtain⟨j,hj⟩:=i8.mp hx
    rw[G6]at hj
    split at hj
    ·rename_i hlt'
     exact⟨j,hlt',hj⟩
    ·cases hj
   refine t6.mpr ⟨okR.2.sublist (aa9 _ _),t6.mpr ⟨g1,okR'.2.sublist (bz8 _ _),fun x hx y hy=>?_⟩,fun x hx y hy=>?_⟩
   ·obtain⟨j,h1,h2,h3⟩:=C2 hy
    rcases inM x hx with hx | hx
    ·exact o.trans (leX x (V8 hx)) (geY j y h1 h3)
    ·obtain⟨i',h4,h5⟩:=tk hx
     exact W6 okR'.2 o.rf (by omega) h5 h3
   ·obtain⟨i',h4,h5⟩:=tk hx
    rcases j0.mp hy with hy | hy
    ·rcases inM y hy with hy | hy
     ·obtain⟨j,h1,h2,h3⟩:=C2 hy
      exact W6 okR.2 o.rf (by omega) h5 h3
     ·exact o.trans (leR i' x h4 h5) (leY y (ai9 hy))
    ·exact o.trans (leR i' x h4 h5) (leY y (V8 hy))
 by_cases e2:na - k<=k2
 ·rw[if_pos e2]
  exact d8 (aA3 o C (by exact I.kind) sS1 sS2 so1 so2 (by omega) (by omega) pre1 pre2 fun r st3 hS hg=>done r st3 hS hg)
 ·rw[if_neg e2]
  exact d8 (aA4 o C (by exact I.kind) sS1 sS2 so1 so2 (by omega) (by omega) pre1 pre2 fun r st3 hS hg=>done r st3 hS hg)
theorem aD3 {runs:List (List Keyed)}{suf:List Keyed}{st:SortSt}(I:SR a₀ κ B runs suf st):(r6 st).size=runs.length:=by
 have:=congrArg L0 I.sh
 rw[V4]at this
 unfold shape at this
 rw[b6,d9]at this
 exact this
theorem aO1:∀ (runs:List (List Keyed)),(∀ r∈runs,r≠[]/\r.Pairwise (le B))->runs.length<=runs.flatten.length
 | [],_=>c6 _
 | r::rs,h=>by
  have h1:=aO1 rs fun r hr=>h r (b9 _ hr)
  have h2:0<r.length:=al7.mpr (h r b4).1
  rw[j7,K2,c9]
  omega
end
section
variable {a₀:Array Keyed} {O:ak4} {f:Keyed->O.α}
theorem bu4 {d:O.α}{xs:Array Keyed}{lo:Nat}(hs:O7 f d lo xs n)(hn:lo+n<=xs.size):((xs.toList.drop lo).take n).Pairwise (le (Bf f))/\((xs.toList.drop lo).take n).length=n:=by
 refine⟨l7.mpr fun i j hi hj hij=>?_,by rw[y9,U9,d9];omega⟩
 have hjn:j<n:=by rw[y9]at hj;omega
 have gi:∀ k,(hk:k<n)->(xs.toList.drop lo)[k]?=some (xs[lo+k]'(by omega)):=fun k hk=>by
  rw[Q5,b5]
  exact getElem?_pos xs _ _
 have e1:((xs.toList.drop lo).take n)[i]=xs[lo+i]'(by omega):=by
  have:=gi i (by omega)
  rw[<- P4 (show i<n by omega),d5 hi]at this
  exact Option.some.inj this
 have e2:((xs.toList.drop lo).take n)[j]=xs[lo+j]'(by omega):=by
  have:=gi j hjn
  rw[<- P4 hjn,d5 hj]at this
  exact Option.some.inj this
 rw[e1,e2]
 have:=hs i j (az2 hij) hjn
 rw[an7 (getElem?_pos xs (lo+i) (by omega)),an7 (getElem?_pos xs (lo+j) (by omega))]at this
 exact this
theorem aB7 {lo:Nat}{xs ys:Array Keyed}(h:Pre lo xs ys)(hz:ys.size=xs.size):ys.toList.take lo=xs.toList.take lo:=by
 apply S4
 intro k
 rw[G6,G6]
 split
 ·rw[b5,b5]
  exact h k (by assumption)
 ·rfl
theorem aj0 (C:bo8 prog w A E s κ a₀ f) {st:SortSt} {Q:Unit->SortSt->Prop} (d:O.α) (hp:(j2 st).Perm a₀) (hk:kindOf st=κ) (hf:G3 st=none) (hpe:r6 st=#[])
    (h:∀ st',(j2 st').Perm a₀->G3 st'=none->(j2 st').toList.Pairwise (le (Bf f))->Q () st'):wpS (m7 prog w) A E s sortRuns' Q st:=by
  have o:Ord (Bf f):=Bf.ord f
  have hsz:(j2 st).size=a₀.size:=hp.size_eq
  rw[sortRuns'_eq]
  refine d8 (ak3 ?_)
  dsimp only
  rw[hsz]
  refine d8 (Q1 (B0
    (I:=fun x c st'=>∃ runs suf lo,c=(none,lo)/\SR a₀ κ (Bf f) runs suf st'/\lo=runs.flatten.length/\(x<=lo\/lo=a₀.size)/\lo<=a₀.size)
    (Q:=fun c st'=>∃ runs,c=(none,a₀.size)/\SR a₀ κ (Bf f) runs [] st') ?step ?fin
    ⟨[],(j2 st).toList,0,rfl,⟨hp,hk,hf,by rw[hpe];rfl,(fun _ hr=>nomatch hr),by simp⟩,rfl,.inl (c6 _),k9 _⟩) ?post)
  case fin =>
    rintro c st' ⟨runs,suf,lo,rfl,I,h1,h2,h3⟩
    have e:lo=a₀.size:=by omega
    have hl:=congrArg L0 I.arr
    rw[d9,I.perm.size_eq,c9]at hl
    have:suf=[]:=V0 (by omega)
    subst this
    exact⟨runs,by rw[e],I⟩
  case step =>
    rintro x c st1 _ hx ⟨runs,suf,lo,rfl,I,h1,h2,h3⟩
    dsimp only
    by_cases hge:lo≥a₀.size
    · rw[if_pos hge]
      have e:lo=a₀.size:=by omega
      have hl:=congrArg L0 I.arr
      rw[d9,I.perm.size_eq,c9]at hl
      have:suf=[]:=V0 (by omega)
      subst this
      exact i7 ⟨runs,by rw[e],I⟩
    rw[if_neg hge]
    refine d8 (wpS_countRun C d (p:=r6 st1) (by omega) (by omega) ⟨I.perm,I.kind,I.failed,rfl⟩ fun n st2 hB2 hp2 hn1 hn2 hs2=>?_)
    dsimp only
    have cont:∀ (n':Nat) (st3:SortSt),SI a₀ κ (r6 st1) st3->Pre lo (j2 st1) (j2 st3)->1<=n'->n'<=a₀.size - lo->O7 f d lo (j2 st3) n' ->
        ∃ run suf',SR a₀ κ (Bf f) runs (run++suf') st3/\run.length=n'/\run.Pairwise (le (Bf f)):=fun n' st3 hB3 hp3 k1 k2 hs3=>by
      obtain⟨q1,q2⟩:=bu4 hs3 (by rw[hB3.size];omega)
      refine⟨((j2 st3).toList.drop lo).take n',(j2 st3).toList.drop (lo+n'),⟨hB3.perm,hB3.kind,hB3.failed,by rw[hB3.pend];exact I.sh,I.ok,?_⟩,q2,q1⟩
      rw[<- ad7]
      refine(M8 lo (j2 st3).toList).symm.trans ?_
      congr 1
      rw[aB7 hp3 (by rw[hB3.size,I.perm.size_eq]),I.arr,h1]
      exact List.take_left
    have more:∀ (rs:List (List Keyed)) (run suf':List Keyed) (n':Nat) (st3:SortSt),SR a₀ κ (Bf f) rs (run++suf') st3->rs.flatten.length=lo->run.length=n'->run.Pairwise (le (Bf f))->1<=n'->n'<=a₀.size - lo ->
        ∃ runs suf lo',((none,lo+n'):Option Unit × Nat)=(none,lo')/\SR a₀ κ (Bf f) runs suf (bh3 st3 ((r6 st3).push (lo,n',0)))/\lo'=runs.flatten.length/\(x+1<=lo'\/lo'=a₀.size)/\lo'<=a₀.size:=fun rs run suf' n' st3 I3 e1 e2 e3 k1 k2=>by
      refine⟨rs++[run],suf',lo+n',rfl,⟨I3.perm,I3.kind,I3.failed,?_,fun r hr=>?_,?_⟩,by simp[e1,e2],by omega,by omega⟩
      · show shape ((r6 st3).push (lo,n',0)).toList=_
        rw[R4,V5,<- I3.sh]
        unfold shape
        rw[n4,J0,e1]
        simp[af0,e2]
      · rcases j0.mp hr with hr | hr
        · exact I3.ok r hr
        · rw[a8.mp hr]
          exact⟨by intro z;rw[z]at e2;simp at e2;omega,e3⟩
      · show (j2 st3).toList=_
        rw[I3.arr]
        simp
    by_cases hlt:n<minRun' a₀.size a₀.size 0
    all_goals first
      | (rw [if_pos hlt]
         refine d8 (W5 ?_)
         refine d8 (al1 C d (by omega) (by omega) hB2 hs2 fun st3 hB3 hp3 hs3=>?_)
         simp only[o9,d3,if_false]
         obtain⟨run,suf',I3,e2,e3⟩:=cont _ st3 hB3 (hp2.trans hp3) (by omega) (by omega) hs3
         have k1:1<=min (a₀.size - lo) (minRun' a₀.size a₀.size 0):=by omega
         have k2:min (a₀.size - lo) (minRun' a₀.size a₀.size 0)<=a₀.size - lo:=by omega
         revert e2 k1 k2
         generalize min (a₀.size - lo) (minRun' a₀.size a₀.size 0)=n'
         intro e2 k1 k2)
      | (rw [if_neg hlt]
         obtain⟨run,suf',I3,e2,e3⟩:=cont n st2 hB2 hp2 hn1 hn2 hs2
         have k1:1<=n:=hn1
         have k2:n<=a₀.size - lo:=hn2
         revert e2 k1 k2
         generalize n=n'
         intro e2 k1 k2)
    all_goals
      refine d8 (ak3 ?_)
      split
      ·
        rename_i s1 n1 pw1 hback
        refine d8 (Q1 (B0
          (I:=fun _ c st'=>c=(none,())/\∃ rs,SR a₀ κ (Bf f) rs (run++suf') st'/\rs.flatten.length=lo)
          (Q:=fun c st'=>c=(none,())/\∃ rs,SR a₀ κ (Bf f) rs (run++suf') st'/\rs.flatten.length=lo) ?mstep (fun _ _ q=>q) ⟨rfl,runs,I3,h1.symm⟩) ?mpost)
        case mstep =>
          rintro y c st4 _ _ ⟨rfl,rs,I4,e4⟩
          refine d8 (ak3 ?_)
          try dsimp only
          by_cases hz:(r6 st4).size > 1
          · rw[if_pos hz]
            split
            · split
              · exact i7 ⟨rfl,rs,I4,e4⟩
              · refine d8 (aj1 o C I4 (by rw[<- aD3 I4];omega) fun rs' st5 I5 _ e5=>?_)
                simp only[o9,d3,if_false]
                exact i7 ⟨rfl,rs',I5,e5.trans e4⟩
            · exact i7 ⟨rfl,rs,I4,e4⟩
          · rw[if_neg hz]
            exact i7 ⟨rfl,rs,I4,e4⟩
        case mpost =>
          rintro c st4 ⟨rfl,rs,I4,e4⟩
          try dsimp only
          refine d8 (am4 ?_)
          have I5:SR a₀ κ (Bf f) rs (run++suf') (bh3 st4 ((r6 st4).modify ((r6 st4).size - 1) fun x=>match x with | (st,len,snd)=>(st,len,power' a₀.size (2*s1+n1) (2*s1+n1+n1+n') a₀.size))):=by
            refine⟨I4.perm,I4.kind,I4.failed,?_,I4.ok,I4.arr⟩
            rw[<- I4.sh]
            show shape ((r6 st4).modify _ _).toList=_
            rw[Array.toList_modify]
            unfold shape
            apply S4
            intro k
            rw[j3,j3,List.getElem?_modify]
            cases (r6 st4).toList[k]? with
            | none=>rfl
            | some v =>
              obtain⟨v1,v2,v3⟩:=v
              simp only[bz9]
              split<;>rfl
          exact d8 (am4 (i7 (more rs run suf' n' _ I5 e4 e2 e3 k1 k2)))
      · exact d8 (am4 (i7 (more runs run suf' n' _ I3 h1.symm e2 e3 k1 k2)))
  case post =>
    rintro c st1 ⟨runs,rfl,I⟩
    try dsimp only
    refine d8 (Q1 (B0
      (I:=fun x c st'=>c=(none,())/\∃ rs,SR a₀ κ (Bf f) rs [] st'/\(rs.length+x<=a₀.size\/rs.length<=1))
      (Q:=fun c st'=>c=(none,())/\∃ rs,SR a₀ κ (Bf f) rs [] st'/\rs.length<=1) ?fstep ?ffin ⟨rfl,runs,I,.inl ?fst⟩) ?fpost)
    case fst =>
      have h1:=aO1 runs I.ok
      have hl:=congrArg L0 I.arr
      rw[d9,I.perm.size_eq,y7]at hl
      omega
    case ffin =>
      rintro c st' ⟨rfl,rs,I',q⟩
      exact⟨rfl,rs,I',by omega⟩
    case fstep =>
      rintro x c st2 _ hx ⟨rfl,rs,I2,q⟩
      refine d8 (ak3 ?_)
      try dsimp only
      have hpl:=aD3 I2
      by_cases hz:(r6 st2).size<=1
      · rw[if_pos hz]
        exact i7 ⟨rfl,rs,I2,by omega⟩
      rw[if_neg hz]
      refine d8 (aj1 o C I2 ?_ fun rs' st3 I3 e3 _=>?_)
      · (repeat' split)<;>omega
      · simp only[o9,d3,if_false]
        exact i7 ⟨rfl,rs',I3,by omega⟩
    case fpost =>
      rintro c st2 ⟨rfl,rs,I2,q⟩
      refine i7 (h st2 I2.perm I2.failed ?_)
      rw[I2.arr,y7]
      match rs,I2.ok,q with
      | [],_,_=>exact List.Pairwise.nil
      | [r],ok,_=>simpa using (ok r (by simp)).2
end
end Tim
namespace Tim
open PySem PyProof.Rows PySem.W
def F4:List Int->List Int->Bool
 | [],[]=>false
 | [],_::_=>true
 | _::_,[]=>false
 | a::x,b::y=>if a=b then F4 x y else decide (a<b)
theorem ap9:∀ x,F4 x x=false
 | []=>rfl
 | a::x=>by unfold F4;rw[if_pos rfl];exact ap9 x
theorem am9:∀ x y z,F4 x y=true->F4 y z=true->F4 x z=true
 | [],[],z,h,_=>by cases h
 | [],_::_,[],_,h=>by cases h
 | [],_::_,_::_,_,_=>rfl
 | _::_,[],z,h,_=>by cases h
 | _::_,_::_,[],_,h=>by cases h
 | a::x,b::y,c::z,h1,h2=>by
  unfold F4 at h1 h2 ⊢
  by_cases e1:a=b
  ·subst e1
   rw[if_pos rfl]at h1
   by_cases e2:a=c
   ·rw[if_pos e2]at h2 ⊢
    exact am9 x y z h1 h2
   ·rw[if_neg e2]at h2 ⊢
    exact h2
  ·rw[if_neg e1,decide_eq_true_eq]at h1
   by_cases e2:b=c
   ·subst e2
    rw[if_neg e1,decide_eq_true_eq]
    exact h1
   ·rw[if_neg e2,decide_eq_true_eq]at h2
    rw[if_neg (by omega),decide_eq_true_eq]
    omega
theorem ap8:∀ x y,F4 x y=false->F4 y x=false->x=y
 | [],[],_,_=>rfl
 | [],_::_,h,_=>by cases h
 | _::_,[],_,h=>by cases h
 | a::x,b::y,h1,h2=>by
  unfold F4 at h1 h2
  by_cases e:a=b
  ·subst e
   rw[if_pos rfl]at h1 h2
   rw[ap8 x y h1 h2]
  ·rw[if_neg e,decide_eq_false_iff_not]at h1
   rw[if_neg (Ne.symm e),decide_eq_false_iff_not]at h2
   omega
theorem aQ3 (x y z:List Int)(h:F4 x z=true):F4 x y=true\/F4 y z=true:=by
 cases e1:F4 x y with
 | true=>exact .inl rfl
 | false =>
  cases e2:F4 y x with
  | true=>exact .inr (am9 _ _ _ e2 h)
  | false=>rw[ap8 x y e1 e2]at h;exact .inr h
def bn0:ak4:=⟨List Int,F4,ap9,am9,aQ3,ap8⟩
def IsK (prog:Program)(w:World)(h:Heap)(k:List Int)(v:Value):Prop:=∃ a,v=.ref a/\E2 (m9 prog w) h k a
theorem IsK.inj {k':List Int}(x:IsK prog w h k v)(y:IsK prog w h k' v):k=k':=by
 obtain⟨a,rfl,h1⟩:=x
 obtain⟨b,e,h2⟩:=y
 cases e
 exact h1.inj h2
open Classical in
noncomputable def W7 (prog:Program)(w:World)(h:Heap)(v:Value):List Int:=if q:∃ k,IsK prog w h k v then Classical.choose q else []
theorem aa3 (x:IsK prog w h k v):W7 prog w h v=k:=by
 unfold W7
 rw[dif_pos ⟨k,x⟩]
 exact(Classical.choose_spec (⟨k,x⟩:∃ k,IsK prog w h k v)).inj x
theorem IsK.up (x:IsK prog w h k v)(hs:∀ b o,h.get? b=some o->h'.get? b=some o):IsK prog w h' k v:=by
 obtain⟨a,e,o,items,n,h2,h3⟩:=x
 exact⟨a,e,o,items,n,hs a o h2,h3⟩
theorem at5 {b:Bool}{Q:Bool->Shared->Prop}(hb:b=true):∀ (x y:List Int) (vs us:List Value) (i:Nat) (fin:Bool),ItemsAre (m9 prog w) x vs->ItemsAre (m9 prog w) y us->(x.length<y.length↔fin=true)->Q (F4 x y) s->KatLex prog w A b fin Q (vs.zip us) i s
 | [],[],_,_,i,fin,.nil,.nil,hf,h=>by
  have:fin=false:=by cases fin with | false=>rfl | true=>exact absurd (hf.mpr rfl) (by simp)
  subst this
  exact kat_nil h
 | [],_::_,_,_,i,fin,.nil,.cons _ _,hf,h=>by
  have:fin=true:=hf.mp (by simp)
  subst this
  exact kat_nil h
 | _::_,[],_,_,i,fin,.cons _ _,.nil,hf,h=>by
  have:fin=false:=by cases fin with | false=>rfl | true=>exact absurd (hf.mpr rfl) (by simp)
  subst this
  exact kat_nil h
 | a::x,c::y,_,_,i,fin,.cons h1 t1,.cons h2 t2,hf,h=>by
  obtain⟨t,rfl⟩:=Value.isInt_shape h1
  obtain⟨u,rfl⟩:=Value.isInt_shape h2
  rw[ar2]
  refine kat_cons (aH9 ?_)
  unfold F4 at h
  by_cases e:a=c
  ·subst e
   rw[if_pos rfl]at h
   rw[show (a == a)=true by simp]
   exact kat_yes (at5 hb x y _ _ (i+1) fin t1 t2 (by rw[<- hf];simp) h)
  ·rw[if_neg e]at h
   rw[show (a == c)=false by simpa using e]
   refine kat_no ?_
   cases hi:(b && i == 0) with
   | true=>exact oneLt_int h
   | false=>exact kat_one _ _ (lt_int h)
theorem bc9 {x y:Value}{k':List Int}{Q:Bool->Shared->Prop}(hx:IsK prog w s.heap k x)(hy:IsK prog w s.heap k' y)(h:Q (F4 k k') s):m5 (m7 prog w) A (keyLt' (ak5 true) x y) Q E s:=by
 obtain⟨a,rfl,o,xs,n,ho,hc,hd,hi⟩:=hx
 obtain⟨b,rfl,o',ys,n',ho',hc',hd',hi'⟩:=hy
 refine kat_lt ho hd ho' hd' (at5 rfl k k' _ _ 0 _ hi hi' ?_ h)
 have e1:k.length=xs.size:=by have:=hi.length;simpa using this
 have e2:k'.length=ys.size:=by have:=hi'.length;simpa using this
 rw[e1,e2]
 simp
theorem aK8 {Q:SortKind->Shared->Prop}(hne:0<vs.length)(hv:∀ v∈vs,∃ i k,IsK prog w s.heap (i::k) v)(h:Q (ak5 true) s):m5 (m7 prog w) A (keyKind' vs.toArray) Q E s:=by
 have ex:∀ l:List Value,(∀ v∈l,∃ i k,IsK prog w s.heap (i::k) v)->∃ fs:List Value,KatTups s.heap l fs/\fs.length=l.length/\∀ v∈fs,∃ i t,v=.int i t:=fun l=>by
  induction l with
  | nil=>intro _;exact⟨[],KatTups.nil,rfl,(fun _ h=>nomatch h)⟩
  | cons v l ih =>
   intro hl
   obtain⟨i,k,a,rfl,o,xs,n,ho,hc,hd,hi⟩:=hl v b4
   obtain⟨fs,f1,f2,f3⟩:=ih fun v hv=>hl v (b9 _ hv)
   obtain⟨f,hf,t,rfl⟩:∃ f,xs[0]?=some f/\∃ t,f=.int i t:=by
    cases e:xs.toList with
    | nil=>rw[e]at hi;cases hi
    | cons f r =>
     rw[e]at hi
     cases hi with
     | cons h1 _ =>
      obtain⟨t,et⟩:=Value.isInt_shape h1
      exact⟨f,by rw[<- b5,e];rfl,t,et⟩
   refine⟨.int i t::fs,KatTups.cons ho hc hd hf f1,by rw[j7,f2,j7],fun v hv=>?_⟩
   rcases b7.mp hv with rfl | hv
   ·exact⟨i,t,rfl⟩
   ·exact f3 v hv
 obtain⟨fs,f1,f2,f3⟩:=ex vs hv
 refine kat_kind (T:=.type "int") f1 (by omega) (fun v hv=>?_) (by decide) ?_
 ·obtain⟨i,t,rfl⟩:=f3 v hv
  exact .now
 ·exact h
theorem aT7 {P:PySem.Fin->Shared->Prop}(ho:s.heap.get? a=some (P0 "list" vs.toArray n))(hz:vs.length<=d7)
  (hv:∀ v∈vs,∃ i k,IsK prog w s.heap (i::k) v)(hna:∀ v∈vs,v≠.ref a)
  (h:∀ out:List Value,out.Perm vs->out.Pairwise (fun x y=>F4 (W7 prog w s.heap y) (W7 prog w s.heap x)=false)->P (.done (.ret .none)) { s with heap:=M6 s.heap a vs out.toArray }) :
  m5 (m7 prog w) A (Builtin.«list.sort» ⟨[.ref a],[]⟩) P E s:=by
 rw[list_sort_plain]
 have ha:a<s.heap.objs.size:=d4 ho
 refine a4 (listItems_at ho rfl ?_)
 refine a4 (av4 ho rfl ?_ (by rw[f6];exact hz) (k9 _))
 obtain⟨e1,ho1⟩:∃ e1,(s.heap.update a (Obj.mapSeq fun _=>#[])).get? a=some (P0 "list" #[] e1):=⟨_,R6 ho (fun _=>#[])⟩
 refine a4 (aS7 ho1 rfl ?_)
 refine a4 (wpAny_newTuple ?_ (by show vs.length<=_;exact hz))
 refine a4 (R7 ?_ (k9 _))
 refine u7 ?_
 generalize hH:((s.heap.update a (Obj.mapSeq fun _=>#[])).push (P0 "tuple" vs.toArray 0)).push (P0 "list" #[] 0)=h6
 have ho6:h6.get? a=some (P0 "list" #[] e1):=by rw[<- hH];exact a5 _ (a5 _ ho1)
 have keep:∀ b o,b≠a->s.heap.get? b=some o->h6.get? b=some o:=fun b o hb e=>by
  rw[<- hH]
  exact a5 _ (a5 _ ((n9 s.heap _ (Ne.symm hb)).trans e))
 have up:∀ v∈vs,∀ k,IsK prog w s.heap k v->IsK prog w h6 k v:=fun v hv' k hk=>by
  obtain⟨c,rfl,o,items,n,h2,h3⟩:=hk
  exact⟨c,rfl,o,items,n,keep c o (fun z=>hna _ hv' (by rw[z])) h2,h3⟩
 have fin:∀ st':SortSt,(j2 st').Perm (ak6 vs)->(j2 st').toList.Pairwise (le (Bf (O:=bn0) fun p=>W7 prog w s.heap p.1))->P (.done (.ret .none)) { s with heap:=M6 s.heap a vs ((j2 st').map (·.2)) }:=fun st' hp hs=>by
  have hl:(j2 st').toList.Perm (vs.zip vs):=by rw[<- ar4];exact G1.mp hp
  have hm:((j2 st').map (·.2)).toList=(j2 st').toList.map (·.2):=bA0 ..
  have hz2:(vs.zip vs).map (·.2)=vs:=bB1 (c6 _)
  have:=h ((j2 st').toList.map (·.2)) (by have:=hl.map (·.2);rw[hz2]at this;exact this) ?_
  ·rw[show (j2 st').map (·.2)=((j2 st').toList.map (·.2)).toArray by rw[<- hm]]
   exact this
  ·rw[A0]
   refine List.Pairwise.imp_of_mem ?_ hs
   intro x y hx hy hxy
   have ex:=(F9 (hl.mem_iff.mp hx)).1
   have ey:=(F9 (hl.mem_iff.mp hy)).1
   rw[<- ex,<- ey]
   exact hxy
 have out:∀ st':SortSt,(j2 st').Perm (ak6 vs)->G3 st'=none->(j2 st').toList.Pairwise (le (Bf (O:=bn0) fun p=>W7 prog w s.heap p.1)) ->
   m5 (m7 prog w) A (do
    let sorted:=(j2 st').map (·.2)
    let touched:=(<- seqEpoch a) != e1
    Builtin.List.listUpdate (.ref a) fun _=>sorted
    if let some e:=G3 st' then rule "list.sort.comparison-raised";throw e
    if touched then rule "list.sort.modified";raiseError "ValueError" "list modified during sort"
    ret .none) P E { s with heap:=h6 }:=fun st' hp hf hs=>by
  dsimp only
  refine a4 (aS7 (s:={ s with heap:=h6 }) ho6 rfl ?_)
  refine a4 (av4 (s:={ s with heap:=h6 }) ho6 rfl ?_ (k9 _) (by refine o5 (bh7 ((Y9 ..).trans (hp.size_eq.trans (aH7 _)))) ?_;omega))
  rw[hf]
  simp only[bne_self_eq_false,d3,if_false]
  refine a6 ?_
  have:=fin st' hp hs
  unfold M6 at this
  rw[hH]at this
  exact this
 show m5 (m7 prog w) A _ P E { s with heap:=h6 }
 dsimp only
 by_cases h2:vs.toArray.size<2
 ·rw[if_pos h2,if_pos h2]
  refine a4 (a6 ?_)
  rw[StateT.run_pure]
  refine a4 (a6 ?_)
  refine out (SortSt.mk' general' (vs.toArray.zip vs.toArray) #[] 7 none) (Array.Perm.refl _) rfl ?_
  show (ak6 vs).toList.Pairwise _
  rw[l7]
  intro i j hi hj hij
  rw[d9,aH7]at hj
  rw[f6]at h2
  omega
 ·rw[if_neg h2,if_neg h2]
  rw[f6]at h2
  refine a4 (aK8 (s:={ s with heap:=h6 }) (by omega) (fun v hv'=>?_) ?_)
  ·obtain⟨i,k,hk⟩:=hv v hv'
   exact⟨i,k,up v hv' _ hk⟩
  refine a4 (C4 (aj0 (s:={ s with heap:=h6 }) (a₀:=ak6 vs) (κ:=ak5 true) (O:=bn0) (f:=fun p=>W7 prog w s.heap p.1) (st:=SortSt.mk' (ak5 true) (vs.toArray.zip vs.toArray) #[] 7 none)
   (Q:=fun _ st'=>(j2 st').Perm (ak6 vs)/\G3 st'=none/\(j2 st').toList.Pairwise (le (Bf (O:=bn0) fun p=>W7 prog w s.heap p.1))) ?_ ([]:List Int) (Array.Perm.refl _) rfl rfl rfl fun st' a1 a2 a3=>⟨a1,a2,a3⟩) ?_ fun _ _ e=>e)
  ·intro x y hx hy Q hq
   rw[ar4]at hx hy
   obtain⟨i,k,hk⟩:=hv x.1 (F9 hx).2
   obtain⟨j,k',hk'⟩:=hv y.1 (F9 hy).2
   refine bc9 (s:={ s with heap:=h6 }) (up _ (F9 hx).2 _ hk) (up _ (F9 hy).2 _ hk') ?_
   rw[<- aa3 hk,<- aa3 hk']
   exact hq
  ·rintro⟨⟨⟩,st'⟩ s' ⟨rfl,hp,hf,hs⟩
   exact out st' hp hf hs
theorem ar8 (hl:s.heap.IsList l vs.toArray) (hz:vs.length<=d7) (hv:∀ v∈vs,∃ i k,IsK prog w s.heap (i::k) v)
  (h : ∀ (out : List Value) (h' : Heap) (n : Nat), out.Perm vs -> out.Pairwise (fun x y => F4 (W7 prog w s.heap y) (W7 prog w s.heap x) = false) -> (∀ b o, s.heap.get? b = some o -> h'.get? b = some o) ->
   h'.get? (s.heap.objs.size+1)=some { cls:=.type "list",data:=.seq out.toArray n }->Q (.ref (s.heap.objs.size+1)) { s with heap:=h' }) :
  m5 (m7 prog w) A (call (.builtin "sorted") [.ref l]) Q E s:=by
 refine Calls.call_function_entry kind_sorted plain_sorted entry_sorted (args_sorted1 _) ?_
 unfold Builtin.«sorted»
 refine a4 (m:=checkCount "sorted" 1 1 _) (a6 ?_)
 refine a4 (collect_list hl ?_ hz)
 refine a4 (R7 ?_ hz)
 have hsz:((s.heap.push (P0 "list" #[] 0)).update s.heap.objs.size (Obj.mapSeq (·++vs.toArray))).objs.size=s.heap.objs.size+1:=by
  rw[bB2,bh4]
 generalize hH:((s.heap.push (P0 "list" #[] 0)).update s.heap.objs.size (Obj.mapSeq (·++vs.toArray))).push (P0 "list" vs.toArray 0)=h2
 have hoL:h2.get? (s.heap.objs.size+1)=some (P0 "list" vs.toArray 0):=by
  rw[<- hH,<- hsz];exact l0 _ rfl
 have keep:∀ b o,s.heap.get? b=some o->h2.get? b=some o:=fun b o e=>by
  rw[<- hH]
  refine a5 _ ((n9 _ _ ?_).trans (a5 _ e))
  exact Ne.symm (i9 (d4 e))
 have hsz2:h2.objs.size=s.heap.objs.size+2:=by rw[<- hH,bh4,hsz]
 rw[hsz]
 have up:∀ v k,IsK prog w s.heap k v->IsK prog w h2 k v:=fun v k hk=>hk.up keep
 have kA:∀ v∈vs,W7 prog w h2 v=W7 prog w s.heap v:=fun v hv'=>by
  obtain⟨i,k,hk⟩:=hv v hv'
  rw[aa3 hk,aa3 (up v _ hk)]
 refine a4 (u7 (J2 slot_list_sort (s:={ s with heap:=h2 }) ⟨_,hoL,rfl⟩ entry_list_sort (aT7 (s:={ s with heap:=h2 }) hoL hz (fun v hv'=>?_) (fun v hv' z=>?_) fun out a1 a2=>⟨_,rfl,?_⟩) (args_list_sort _)))
 ·obtain⟨i,k,hk⟩:=hv v hv'
  exact⟨i,k,up v _ hk⟩
 ·obtain⟨i,k,a,rfl,o,items,n,ho,_⟩:=hv v hv'
  cases z
  exact absurd (d4 ho) (bB3.mpr (P5 _))
 ·have hlast:∃ n,(M6 h2 (s.heap.objs.size+1) vs out.toArray).get? (s.heap.objs.size+1)=some (P0 "list" out.toArray n):=by
   unfold M6
   have g1:=R6 hoL (fun _=>(#[]:Array Value))
   have g2:(((h2.update (s.heap.objs.size+1) (Obj.mapSeq fun _=>#[])).push (P0 "tuple" vs.toArray 0)).push (P0 "list" #[] 0)).get? (s.heap.objs.size+1)=_:=a5 _ (a5 _ g1)
   exact⟨_,R6 g2 (fun _=>out.toArray)⟩
  obtain⟨n,hn⟩:=hlast
  refine a6 ⟨_,rfl,h out _ n a1 ?_ (fun b o e=>?_) hn⟩
  ·refine List.Pairwise.imp_of_mem ?_ a2
   intro x y hx hy hxy
   rw[kA x (a1.mem_iff.mp hx),kA y (a1.mem_iff.mp hy)]at hxy
   exact hxy
  ·have hb:b≠s.heap.objs.size+1:=i9 (p6 (d4 e))
   unfold M6
   refine(n9 _ _ (Ne.symm hb)).trans (a5 _ (a5 _ ((n9 _ _ (Ne.symm hb)).trans (keep b o e))))
end Tim
namespace Sett
open PySem PySem.SetTable
theorem aL4 {P:Nat->Prop}(h:∃ n,P n):∃ n,P n/\∀ m,m<n->¬ P m:=by
 obtain⟨n,hn⟩:=h
 induction n using Nat.strongRecOn with
 | ind n ih =>
  by_cases q:∃ m,m<n/\P m
  ·obtain⟨m,hm,pm⟩:=q
   exact ih m hm pm
  ·exact⟨n,hn,fun m hm pm=>q ⟨m,hm,pm⟩⟩
def st (m i pt:Nat):Probe:={ j:=i,more:=runEnd m i - i,i:=i,perturb:=pt,dummy:=none }
def it (t:SetTable):Nat->Probe->Probe
 | 0,p=>p
 | n+1,p=>it t n (t.advance p)
theorem ax8 (t:SetTable):∀ (a b:Nat) (p:Probe),it t (a+b) p=it t b (it t a p)
 | 0,b,p=>by rw[J0];rfl
 | a+1,b,p=>by
  rw[show a+1+b=(a+b)+1 by omega]
  exact ax8 t a b (t.advance p)
theorem ab9 (t:SetTable)(n:Nat)(p:Probe):it t (n+1) p=t.advance (it t n p):=ax8 t n 1 p
theorem ah4 (m i:Nat):i<=runEnd m i/\runEnd m i<=i+9:=by unfold runEnd;split<;>omega
theorem aC7 {m:Nat}(h:i<=m):runEnd m i<=m:=by unfold runEnd;split<;>omega
theorem ax6 (t:SetTable)(i pt:Nat):∀ k,k<=runEnd t.mask i - i->it t k (st t.mask i pt)={ j:=i+k,more:=runEnd t.mask i - i - k,i:=i,perturb:=pt,dummy:=none }
 | 0,_=>rfl
 | k+1,h=>by
  rw[ab9,ax6 t i pt k (by omega)]
  unfold advance
  dsimp only
  rw[if_pos (by omega)]
  simp only[Probe.mk.injEq,and_true,true_and]
  omega
theorem ax7 (t:SetTable)(i pt:Nat):it t (runEnd t.mask i - i+1) (st t.mask i pt)=st t.mask (leap t.mask i pt).1 (leap t.mask i pt).2:=by
 rw[ab9,ax6 t i pt _ (c6 _)]
 unfold advance
 dsimp only
 rw[if_neg (by omega)]
 rfl
def rn (m i pt:Nat):Nat->Nat × Nat
 | 0=>(i,pt)
 | r+1=>leap m (rn m i pt r).1 (rn m i pt r).2
theorem bq3 (m i pt:Nat):∀ r,(rn m i pt r).2=pt / 32 ^ r
 | 0=>by simp[rn]
 | r+1=>by
  show (rn m i pt r).2 / 32=_
  rw[bq3 m i pt r,bg6,bi1]
theorem bq4 (m i pt:Nat)(h:i<=m):∀ r,(rn m i pt r).1<=m
 | 0=>h
 | r+1=>ac2 (bB4 _ (Z5 m))
theorem bq9 (t:SetTable)(i pt:Nat):∀ r,∃ n,n<=10*r/\it t n (st t.mask i pt)=st t.mask (rn t.mask i pt r).1 (rn t.mask i pt r).2
 | 0=>⟨0,c6 _,rfl⟩
 | r+1=>by
  obtain⟨n,hn,e⟩:=bq9 t i pt r
  have h9:=ah4 t.mask (rn t.mask i pt r).1
  refine⟨n+(runEnd t.mask (rn t.mask i pt r).1 - (rn t.mask i pt r).1+1),by omega,?_⟩
  rw[ax8,e,ax7]
  rfl
def f5 (m i:Nat):Nat:=(i*5+1) % (m+1)
def orb (m:Nat):Nat->Nat->List Nat
 | 0,_=>[]
 | k+1,i=>i::orb m k (f5 m i)
def Full (m:Nat):Prop:=∀ b,b<=m->∀ a,a<=m->∃ n,n<=m/\Nat.repeat (f5 m) n a=b
def chk (m:Nat):Bool:=(orb m (m+1) 0).foldl (fun acc i=>acc ||| 2 ^ i) 0 == 2 ^ (m+1) - 1
theorem aG4:∀ (l:List Nat) (acc b:Nat),(l.foldl (fun acc i=>acc ||| 2 ^ i) acc).testBit b=true->acc.testBit b=true\/b∈l
 | [],acc,b,h=>.inl h
 | i::l,acc,b,h=>by
  rcases aG4 l _ b h with q | q
  ·rw[Nat.testBit_or,Bool.or_eq_true]at q
   rcases q with q | q
   ·exact .inl q
   ·rw[br2]at q
    exact .inr (by rw[of_decide_eq_true q];exact b4)
  ·exact .inr (b9 _ q)
theorem ae9 (f:Nat->Nat)(a:Nat):∀ n k,Nat.repeat f (n+k) a=Nat.repeat f k (Nat.repeat f n a)
 | n,0=>rfl
 | n,k+1=>by
  show f (Nat.repeat f (n+k) a)=f (Nat.repeat f k (Nat.repeat f n a))
  rw[ae9 f a n k]
theorem aP1 (m:Nat):∀ k i x,x∈orb m k i->∃ n,n<k/\Nat.repeat (f5 m) n i=x
 | 0,i,x,h=>by cases h
 | k+1,i,x,h=>by
  rcases b7.mp h with rfl | h
  ·exact⟨0,Z5 _,rfl⟩
  ·obtain⟨n,hn,e⟩:=aP1 m k (f5 m i) x h
   refine⟨n+1,by omega,?_⟩
   rw[Nat.add_comm n 1,ae9]
   exact e
theorem an1 {m:Nat}(hc:chk m=true)(hz:Nat.repeat (f5 m) (m+1) 0=0):Full m:=by
 intro b hb a ha
 unfold chk at hc
 have hc:=eq_of_beq hc
 have get:∀ x,x<=m->∃ n,n<m+1/\Nat.repeat (f5 m) n 0=x:=fun x hx=>by
  have hb:(2 ^ (m+1) - 1).testBit x=true:=by rw[Nat.testBit_two_pow_sub_one];exact decide_eq_true (by omega)
  rw[<- hc]at hb
  rcases aG4 _ _ _ hb with q | q
  ·simp at q
  ·exact aP1 m (m+1) 0 x q
 obtain⟨p,hp,ep⟩:=get a ha
 obtain⟨q,hq,eq⟩:=get b hb
 by_cases h:p<=q
 ·refine⟨q - p,by omega,?_⟩
  rw[<- ep,<- ae9,show p+(q - p)=q by omega,eq]
 ·refine⟨m+1 - p+q,by omega,?_⟩
  rw[<- ep,<- ae9,show p+(m+1 - p+q)=(m+1)+q by omega,ae9,hz,eq]
def Good (m:Nat):Prop:=m=7\/m=31\/m=127\/m=511
set_option maxRecDepth 100000 in
theorem Good.full {m:Nat}(h:Good m):Full m:=by
 rcases h with rfl | rfl | rfl | rfl
 ·exact an1 (by decide +kernel) (by decide +kernel)
 ·exact an1 (by decide +kernel) (by decide +kernel)
 ·exact an1 (by decide +kernel) (by decide +kernel)
 ·exact an1 (by decide +kernel) (by decide +kernel)
theorem aO4 (m i pt:Nat)(hp:pt<2 ^ 64):∀ k,(rn m i pt (13+k)).1=Nat.repeat (f5 m) k (rn m i pt 13).1
 | 0=>rfl
 | k+1=>by
  show (leap m (rn m i pt (13+k)).1 (rn m i pt (13+k)).2).1=f5 m (Nat.repeat (f5 m) k (rn m i pt 13).1)
  rw[<- aO4 m i pt hp k]
  unfold leap f5
  have:(rn m i pt (13+k)).2 / 32=0:=by
   rw[bq3,Nat.pow_add,<- bg6]
   have:pt / 32 ^ 13=0:=Nat.div_eq_of_lt (bi2 hp (by decide))
   rw[this]
   simp
  dsimp only
  rw[this,az3]
theorem aO5 {m pt b:Nat}(g:Good m)(hi:i<=m)(hp:pt<2 ^ 64)(hb:b<=m):∃ r,r<turns m/\(rn m i pt r).1=b:=by
 obtain⟨n,hn,e⟩:=g.full b hb (rn m i pt 13).1 (bq4 m i pt hi 13)
 exact⟨13+n,by unfold turns;omega,by rw[aO4 m i pt hp];exact e⟩
theorem bn3 (t:SetTable){pt b:Nat}(g:Good t.mask)(hi:i<=t.mask)(hp:pt<2 ^ 64)(hb:b<=t.mask):∃ n,n<10*turns t.mask/\(it t n (st t.mask i pt)).j=b:=by
 obtain⟨r,hr,e⟩:=aO5 g hi hp hb
 obtain⟨n,hn,e'⟩:=bq9 t i pt r
 refine⟨n,by omega,?_⟩
 rw[e']
 exact e
theorem aE8 (t:SetTable):∀ (n:Nat) (p:Probe),(it t n p).dummy=p.dummy
 | 0,p=>rfl
 | n+1,p=>by
  show (it t n (t.advance p)).dummy=_
  rw[aE8 t n]
  unfold advance
  split<;>rfl
theorem aR9 (h:Int):bits h<2 ^ 64:=by
 unfold bits
 have h1:=X5 h (show (2 ^ 64:Int)≠0 by decide)
 have h2:=Z6 h (show (0:Int)<2 ^ 64 by decide)
 omega
theorem aa0 (t:SetTable)(h:Int):t.probeStart h=st t.mask (bits h % (t.mask+1)) (bits h):=rfl
theorem an0 {t t':SetTable}(h:t'.mask=t.mask):∀ (n:Nat) (p:Probe),it t' n p=it t n p
 | 0,p=>rfl
 | n+1,p=>by
  show it t' n (t'.advance p)=it t n (t.advance p)
  have:t'.advance p=t.advance p:=by unfold advance;rw[h]
  rw[this,an0 h n]
def Asc (xs:Array Nat):Prop:=∀ (i j a b:Nat),i<j->xs[i]?=some a->xs[j]?=some b->a<b
theorem aq8 {xs:Array Nat}(asc:Asc xs)(j:Nat):∀ (fuel lo hi:Nat),hi - lo<=fuel->lo<=hi->hi<=xs.size->(∀ i a,i<lo->xs[i]?=some a->a<j)->(∀ i a,hi<=i->xs[i]?=some a->j<=a) ->
  (below.go xs j fuel lo hi)<=xs.size/\(∀ i a,i<below.go xs j fuel lo hi->xs[i]?=some a->a<j)/\(∀ i a,below.go xs j fuel lo hi<=i->xs[i]?=some a->j<=a)
 | 0,lo,hi,h0,h1,h2,h3,h4=>by
  have:lo=hi:=by omega
  subst this
  exact⟨h2,h3,h4⟩
 | fuel+1,lo,hi,h0,h1,h2,h3,h4=>by
  unfold below.go
  by_cases hlt:lo<hi
  ·rw[if_pos hlt]
   dsimp only
   have hm:(lo+hi) / 2<xs.size:=by omega
   have hg:xs.getD ((lo+hi) / 2) j=xs[(lo+hi) / 2]:=by simp[br3,hm]
   have hq:xs[(lo+hi) / 2]?=some xs[(lo+hi) / 2]:=getElem?_pos xs _ hm
   by_cases hc:xs.getD ((lo+hi) / 2) j<j
   ·rw[if_pos hc]
    refine aq8 asc j fuel _ hi (by omega) (by omega) h2 (fun i a hi' e=>?_) h4
    rw[hg]at hc
    by_cases he:i=(lo+hi) / 2
    ·subst he;rw[hq]at e;cases e;exact hc
    ·have:=asc i _ a _ (by omega) e hq
     omega
   ·rw[if_neg hc]
    refine aq8 asc j fuel lo _ (by omega) (by omega) (by omega) h3 (fun i a hi' e=>?_)
    rw[hg]at hc
    by_cases he:i=(lo+hi) / 2
    ·subst he;rw[hq]at e;cases e;omega
    ·have:=asc _ i _ a (by omega) hq e
     omega
  ·rw[if_neg hlt]
   have:lo=hi:=by omega
   subst this
   exact⟨h2,h3,h4⟩
theorem aq7 {xs:Array Nat}(asc:Asc xs)(j:Nat):below xs j<=xs.size/\(∀ i a,i<below xs j->xs[i]?=some a->a<j)/\(∀ i a,below xs j<=i->xs[i]?=some a->j<=a):=
 aq8 asc j xs.size 0 xs.size (by omega) (by omega) (c6 _) (fun i a h=>by omega) fun i a h e=>by
  have:=(getElem?_eq_some_iff.mp e).1
  omega
theorem below_at {xs:Array Nat}(asc:Asc xs)(h:xs[i]?=some j):below xs j=i:=by
 obtain⟨h1,h2,h3⟩:=aq7 asc j
 rcases S7 (below xs j) i with q | q | q
 ·exfalso
  have hlt:below xs j<xs.size:=bi2 q (getElem?_eq_some_iff.mp h).1
  have e:=getElem?_pos xs (below xs j) hlt
  have a1:=h3 (below xs j) _ (c6 _) e
  have a2:=asc _ _ _ _ q e h
  omega
 ·exact q
 ·have:=h2 i j q h
  omega
theorem ah2 {t:SetTable}(asc:Asc t.place)(h:t.place[i]?=some j):t.slot j=.live i:=by
 unfold slot
 dsimp only
 rw[below_at asc h,h]
 simp
theorem aJ0 {t:SetTable}(hd:t.dummies=#[])(h:∀ i:Nat,t.place[i]?≠some j):t.slot j=.empty:=by
 unfold slot
 dsimp only
 rw[if_neg (by simpa using h _),if_neg (by rw[hd];simp[has])]
theorem aF1 {t:SetTable}{hashAt:Nat->Int}{h:Int}:∀ (n fuel:Nat) (p:Probe),n<fuel->(∀ k,k<n->∃ i,t.slot (it t k p).j=.live i/\hashAt i≠h)->t.slot (it t n p).j=.empty ->
  probe.go t hashAt h fuel p=some (.empty (it t n p).j (it t n p).dummy)
 | 0,fuel+1,p,_,_,he=>by
  unfold probe.go
  have he':t.slot p.j=.empty:=he
  rw[he']
  rfl
 | n+1,fuel+1,p,hl,hk,he=>by
  obtain⟨i,e,hne⟩:=hk 0 (Z5 _)
  have e':t.slot p.j=.live i:=e
  unfold probe.go
  rw[e']
  dsimp only
  rw[if_neg (by simpa using hne)]
  exact aF1 n fuel (t.advance p) (by omega) (fun k hk'=>hk (k+1) (by omega)) he
theorem aR3 {t:SetTable}{hashAt:Nat->Int}{h:Int}:∀ (n fuel:Nat) (p:Probe),n<fuel->(∀ k,k<n->∃ i,t.slot (it t k p).j=.live i/\hashAt i≠h)->t.slot (it t n p).j=.live i->hashAt i=h ->
  ∃ q,probe.go t hashAt h fuel p=some (.candidate (it t n p).j i q)
 | 0,fuel+1,p,_,_,he,hh=>by
  unfold probe.go
  have he':t.slot p.j=.live i:=he
  rw[he']
  dsimp only
  rw[if_pos (by simpa using hh)]
  exact⟨_,rfl⟩
 | n+1,fuel+1,p,hl,hk,he,hh=>by
  obtain⟨i',e,hne⟩:=hk 0 (Z5 _)
  have e':t.slot p.j=.live i':=e
  unfold probe.go
  rw[e']
  dsimp only
  rw[if_neg (by simpa using hne)]
  exact aR3 n fuel (t.advance p) (by omega) (fun k hk'=>hk (k+1) (by omega)) he hh
abbrev En:=Int × Value
structure Tb (t:SetTable) (es:Array En):Prop where
 dum:t.dummies=#[]
 len:t.place.size=es.size
 asc:Asc t.place
 bnd:∀ (i j:Nat),t.place[i]?=some j->j<=t.mask
 good:Good t.mask
 nf:es.size*5<t.mask*3
 path:∀ (i:Nat) (e:En),es[i]?=some e->∃ n,n<10*turns t.mask/\t.place[i]?=some (it t n (t.probeStart e.1)).j/\∀ k,k<n->∃ i':Nat,t.place[i']?=some (it t k (t.probeStart e.1)).j
theorem bg1 {xs:Array Nat}(asc:Asc xs):∀ (i a:Nat),xs[i]?=some a->i<=a
 | 0,a,_=>k9 _
 | i+1,a,h=>by
  have hi:i+1<xs.size:=(getElem?_eq_some_iff.mp h).1
  have e:=getElem?_pos xs i (by omega)
  have h1:=bg1 asc i _ e
  have h2:=asc i (i+1) _ a (by omega) e h
  omega
theorem aV8 {xs:Array Nat}(asc:Asc xs){m:Nat}(h:xs.size<=m):∃ b,b<=m/\∀ i:Nat,xs[i]?≠some b:=by
 by_cases q:∃ i,i<xs.size/\xs[i]?≠some i
 ·obtain⟨i,⟨hi,hne⟩,hmin⟩:=aL4 q
  refine⟨i,by omega,fun k e=>?_⟩
  have hk:=bg1 asc k i e
  rcases D8 hk with hlt | rfl
  ·have ek:xs[k]?=some k:=Classical.byContradiction fun z=>hmin k hlt ⟨by omega,z⟩
   rw[ek]at e
   cases e
   omega
  ·exact hne e
 ·refine⟨xs.size,h,fun k e=>?_⟩
  have hk:k<xs.size:=(getElem?_eq_some_iff.mp e).1
  have ek:xs[k]?=some k:=Classical.byContradiction fun z=>q ⟨k,hk,z⟩
  rw[ek]at e
  cases e
  omega
theorem Tb.small {t:SetTable}{es:Array En}(T:Tb t es):es.size<=t.mask:=by
 have:=T.nf
 omega
theorem Tb.fits {t:SetTable}{es:Array En}(T:Tb t es):t.fits es.size=true:=by
 unfold SetTable.fits fill
 rw[T.dum,T.len]
 have:=T.small
 simp
 exact this
theorem Tb.odd {t:SetTable}{es:Array En}(T:Tb t es):t.gaveWay=false:=by
 unfold gaveWay
 rcases T.good with e | e | e | e<;>rw[e]<;>rfl
def hashOf (es:Array En)(i:Nat):Int:=(es[i]?.map (·.1)).getD 0
theorem V6 {es:Array En}{e:En}(h:es[i]?=some e):hashOf es i=e.1:=by unfold hashOf;rw[h];rfl
theorem Z9 (t:SetTable)(h:Int):bits h % (t.mask+1)<=t.mask:=ac2 (bB4 _ (Z5 _))
theorem Tb.absent {t:SetTable}{es:Array En}(T:Tb t es){h:Int}(hh:∀ e∈es.toList,e.1≠h):∃ n,n<10*turns t.mask/\(∀ i:Nat,t.place[i]?≠some (it t n (t.probeStart h)).j)/\(it t n (t.probeStart h)).j<=t.mask /\
  (∀ k,k<n->∃ i':Nat,t.place[i']?=some (it t k (t.probeStart h)).j)/\t.probe (hashOf es) h (t.probeStart h)=some (.empty (it t n (t.probeStart h)).j none):=by
 obtain⟨b,hb,hfree⟩:=aV8 T.asc (m:=t.mask) (by rw[T.len];exact T.small)
 obtain⟨n0,hn0,e0⟩:=bn3 t T.good (Z9 t h) (aR9 h) hb
 rw[<- aa0]at e0
 obtain⟨n,⟨hfr,hn,hle⟩,hmin⟩:=aL4 (P:=fun n=>(∀ i:Nat,t.place[i]?≠some (it t n (t.probeStart h)).j)/\n<=n0/\(it t n (t.probeStart h)).j<=t.mask) ⟨n0,by rw[e0];exact hfree,c6 _,by rw[e0];exact hb⟩
 have hocc:∀ k,k<n->∃ i':Nat,t.place[i']?=some (it t k (t.probeStart h)).j:=fun k hk=>Classical.byContradiction fun z=>by
  have hk':∀ i:Nat,t.place[i]?≠some (it t k (t.probeStart h)).j:=fun i e=>z ⟨i,e⟩
  by_cases hkm:(it t k (t.probeStart h)).j<=t.mask
  ·exact hmin k hk ⟨hk',by omega,hkm⟩
  ·-- every place on the way is a slot
   exact hkm (by
    clear z hk' hkm hmin hfr hle hn hk
    rw[aa0]
    induction k with
    | zero=>exact Z9 t h
    | succ k ih =>
     have key:∀ k,∃ r c,c<=runEnd t.mask (rn t.mask (bits h % (t.mask+1)) (bits h) r).1 - (rn t.mask (bits h % (t.mask+1)) (bits h) r).1 /\
       it t k (st t.mask (bits h % (t.mask+1)) (bits h))=it t c (st t.mask (rn t.mask (bits h % (t.mask+1)) (bits h) r).1 (rn t.mask (bits h % (t.mask+1)) (bits h) r).2):=fun k=>by
      induction k with
      | zero=>exact⟨0,0,k9 _,rfl⟩
      | succ k ih =>
       obtain⟨r,c,hc,e⟩:=ih
       rcases D8 hc with hlt | heq
       ·exact⟨r,c+1,hlt,by rw[ab9,e,<- ab9]⟩
       ·refine⟨r+1,0,k9 _,?_⟩
        rw[ab9,e,<- ab9,heq,ax7]
        rfl
     obtain⟨r,c,hc,e⟩:=key (k+1)
     rw[e,ax6 t _ _ c hc]
     have h1:=bq4 t.mask (bits h % (t.mask+1)) (bits h) (Z9 t h) r
     have h2:=aC7 h1
     have h3:=ah4 t.mask (rn t.mask (bits h % (t.mask+1)) (bits h) r).1
     show (rn t.mask (bits h % (t.mask+1)) (bits h) r).1+c<=t.mask
     omega)
 refine⟨n,by omega,hfr,hle,hocc,?_⟩
 unfold probe
 have:=aF1 (hashAt:=hashOf es) (h:=h) n (10*turns t.mask) (t.probeStart h) (by omega) (fun k hk=>?_) (aJ0 T.dum hfr)
 ·rw[this,aE8]
  rfl
 ·obtain⟨i',e⟩:=hocc k hk
  refine⟨i',ah2 T.asc e,?_⟩
  have hi:i'<es.size:=by rw[<- T.len];exact(getElem?_eq_some_iff.mp e).1
  have e2:=getElem?_pos es i' hi
  rw[V6 e2]
  exact hh _ (by simp)
theorem Tb.present {t:SetTable}{es:Array En}(T:Tb t es){e:En}(he:es[i]?=some e)(hu:∀ (k:Nat) (e':En),es[k]?=some e'->e'.1=e.1->k=i):∃ j q,t.probe (hashOf es) e.1 (t.probeStart e.1)=some (.candidate j i q):=by
 obtain⟨n,hn,hp,hocc⟩:=T.path i e he
 unfold probe
 obtain⟨m,⟨hm,i1,hi1,hs1⟩,hmin⟩:=aL4 (P:=fun m=>m<=n/\∃ i1:Nat,t.place[i1]?=some (it t m (t.probeStart e.1)).j/\hashOf es i1=e.1) ⟨n,c6 _,i,hp,V6 he⟩
 have hi2:i1<es.size:=by rw[<- T.len];exact(getElem?_eq_some_iff.mp hi1).1
 have e2:=getElem?_pos es i1 hi2
 rw[V6 e2]at hs1
 have hii:i1=i:=hu i1 _ e2 hs1
 subst hii
 obtain⟨q,hq⟩:=aR3 (hashAt:=hashOf es) (h:=e.1) (i:=i1) m (10*turns t.mask) (t.probeStart e.1) (by omega) (fun k hk=>by
  obtain⟨i',e3⟩:=hocc k (by omega)
  exact⟨i',ah2 T.asc e3,fun z=>hmin k hk ⟨by omega,i',e3,z⟩⟩) (ah2 T.asc hi1) (V6 he)
 exact⟨_,q,hq⟩
theorem get_ins {α:Type}{xs:Array α}{p:Nat}{x:α}(hp:p<=xs.size)(i:Nat):(insertAt xs p x)[i]?=if i<p then xs[i]? else if i=p then some x else xs[i - 1]?:=by
 unfold insertAt
 have e0:((xs.extract 0 p).push x).size=p+1:=by rw[p9,B8];omega
 by_cases h1:i<p
 ·rw[if_pos h1,aH5 (by omega),Array.getElem?_push_lt (by rw[B8];omega)]
  rw[Array.getElem_extract]
  simp only[J0]
  exact(getElem?_pos xs i (by omega)).symm
 ·rw[if_neg h1]
  by_cases h2:i=p
  ·subst h2
   rw[if_pos rfl,aH5 (by omega)]
   have e1:(xs.extract 0 i).size=i:=by rw[B8];omega
   rw[Array.getElem?_push,e1,if_pos rfl]
  ·rw[if_neg h2,Array.getElem?_append_right (by omega),e0,Array.getElem?_extract]
   split
   ·congr 1;omega
   ·rw[getElem?_neg]
    omega
theorem ae8 {α:Type}{xs:Array α}{p:Nat}{x:α}(hp:p<=xs.size):(insertAt xs p x).size=xs.size+1:=by
 unfold insertAt
 rw[C9,p9,B8,B8]
 omega
theorem bm7 {α:Type}{xs:Array α}{p:Nat}{x:α}(hp:p<=xs.size)(y:α):y∈(insertAt xs p x).toList↔y=x\/y∈xs.toList:=by
 constructor
 ·intro h
  obtain⟨i,hi⟩:=i8.mp h
  rw[b5,get_ins hp]at hi
  split at hi
  ·exact .inr (c8 (by rw[b5];exact hi))
  ·split at hi
   ·cases hi;exact .inl rfl
   ·exact .inr (c8 (by rw[b5];exact hi))
 ·rintro(rfl | h)
  ·exact c8 (i:=p) (by rw[b5,get_ins hp,if_neg (x6 _),if_pos rfl])
  ·obtain⟨i,hi⟩:=i8.mp h
   rw[b5]at hi
   have hi':i<xs.size:=(getElem?_eq_some_iff.mp hi).1
   by_cases q:i<p
   ·exact c8 (i:=i) (by rw[b5,get_ins hp,if_pos q];exact hi)
   ·exact c8 (i:=i+1) (by rw[b5,get_ins hp,if_neg (by omega),if_neg (by omega)];simpa using hi)
structure Tb' (t:SetTable) (es:Array En):Prop where
 dum:t.dummies=#[]
 len:t.place.size=es.size
 asc:Asc t.place
 bnd:∀ (i j:Nat),t.place[i]?=some j->j<=t.mask
 good:Good t.mask
 fil:es.size<=t.mask
 path:∀ (i:Nat) (e:En),es[i]?=some e->∃ n,n<10*turns t.mask/\t.place[i]?=some (it t n (t.probeStart e.1)).j/\∀ k,k<n->∃ i':Nat,t.place[i']?=some (it t k (t.probeStart e.1)).j
theorem Tb'.full {t:SetTable}{es:Array En}(T:Tb' t es)(h:es.size*5<t.mask*3):Tb t es:=⟨T.dum,T.len,T.asc,T.bnd,T.good,h,T.path⟩
theorem Tb'.fits {t:SetTable}{es:Array En}(T:Tb' t es):t.fits es.size=true:=by
 unfold SetTable.fits fill
 rw[T.dum,T.len]
 have:=T.fil
 simp
 exact this
theorem Tb'.plain {t:SetTable}{es:Array En}(T:Tb' t es)(b:Bool):Tb' { t with plain:=b } es:=by
 have e:∀ n (p:Probe),it { t with plain:=b } n p=it t n p:=fun n p=>an0 (t:=t) (t':={ t with plain:=b }) rfl n p
 refine⟨T.dum,T.len,T.asc,T.bnd,T.good,T.fil,fun i x hx=>?_⟩
 obtain⟨n,h1,h2,h3⟩:=T.path i x hx
 exact⟨n,h1,by rw[e];exact h2,fun k hk=>by rw[e];exact h3 k hk⟩
theorem Tb.put {t:SetTable}{es:Array En}(T:Tb t es){h:Int}{x:Value}(hn:n<10*turns t.mask)(hfr:∀ i:Nat,t.place[i]?≠some (it t n (t.probeStart h)).j)(hle:(it t n (t.probeStart h)).j<=t.mask)
  (hocc:∀ k,k<n->∃ i':Nat,t.place[i']?=some (it t k (t.probeStart h)).j) :
  (t.put (it t n (t.probeStart h)).j).2<=es.size/\Tb' (t.put (it t n (t.probeStart h)).j).1 (insertAt es (t.put (it t n (t.probeStart h)).j).2 (h,x)):=by
 generalize hj:(it t n (t.probeStart h)).j=j at *
 obtain⟨b1,b2,b3⟩:=aq7 T.asc j
 have hp:(t.put j).2=below t.place j:=rfl
 have hd:has t.dummies j=false:=by rw[T.dum];simp[has]
 have ht:(t.put j).1={ t with place:=insertAt t.place (below t.place j) j }:=by
  unfold SetTable.put
  dsimp only
  rw[if_neg (by rw[hd];exact c7)]
 have hm:(t.put j).1.mask=t.mask:=by rw[ht]
 have hpl:(t.put j).1.place=insertAt t.place (below t.place j) j:=by rw[ht]
 have hsz:=T.nf
 have old:∀ (i a:Nat),t.place[i]?=some a->∃ i':Nat,(insertAt t.place (below t.place j) j)[i']?=some a:=fun i a e=>by
  by_cases q:i<below t.place j
  ·exact⟨i,by rw[get_ins b1,if_pos q];exact e⟩
  ·exact⟨i+1,by rw[get_ins b1,if_neg (by omega),if_neg (by omega)];simpa using e⟩
 have hit:∀ k (p:Probe),it (t.put j).1 k p=it t k p:=fun k p=>an0 hm k p
 have hst:∀ z:Int,(t.put j).1.probeStart z=t.probeStart z:=fun z=>by rw[aa0,aa0,hm]
 refine⟨by rw[hp,<- T.len];exact b1,?_⟩
 rw[hp]
 refine⟨by rw[ht];exact T.dum,by rw[hpl,ae8 b1,ae8 (by rw[<- T.len];exact b1),T.len],?_,?_,by rw[hm];exact T.good,?_,?_⟩
 ·rw[hpl]
  intro i k a c hik ea ec
  rw[get_ins b1]at ea ec
  split at ea
  ·rename_i hi
   split at ec
   ·exact T.asc i k a c hik ea ec
   ·split at ec
    ·cases ec;exact b2 i a hi ea
    ·exact T.asc i (k - 1) a c (by omega) ea ec
  ·split at ea
   ·rename_i hi1 hi2
    cases ea
    rw[if_neg (by omega),if_neg (by omega)]at ec
    have h1:=b3 (k - 1) c (by omega) ec
    rcases D8 h1 with h2 | h2
    ·exact h2
    ·subst h2;exact absurd ec (hfr (k - 1))
   ·rw[if_neg (by omega),if_neg (by omega)]at ec
    exact T.asc (i - 1) (k - 1) a c (by omega) ea ec
 ·rw[hpl,hm]
  intro i a ea
  rw[get_ins b1]at ea
  split at ea
  ·exact T.bnd i a ea
  ·split at ea
   ·cases ea;exact hle
   ·exact T.bnd _ a ea
 ·rw[hm,ae8 (by rw[<- T.len];exact b1)]
  have:=T.good
  unfold Good at this
  omega
 ·intro i e he
  rw[hpl,hm]
  have b1':below t.place j<=es.size:=by rw[<- T.len];exact b1
  rw[get_ins b1']at he
  have lift:∀ (i0:Nat) (i':Nat),es[i0]?=some e->(∀ a,t.place[i0]?=some a->(insertAt t.place (below t.place j) j)[i']?=some a) ->
    ∃ n,n<10*turns t.mask/\(insertAt t.place (below t.place j) j)[i']?=some (it (t.put j).1 n ((t.put j).1.probeStart e.1)).j/\∀ k,k<n->∃ i':Nat,(insertAt t.place (below t.place j) j)[i']?=some (it (t.put j).1 k ((t.put j).1.probeStart e.1)).j:=fun i0 i' h0 h1=>by
   obtain⟨n',q1,q2,q3⟩:=T.path i0 e h0
   refine⟨n',q1,?_,fun k hk=>?_⟩
   ·rw[hit,hst];exact h1 _ q2
   ·obtain⟨i2,e2⟩:=q3 k hk
    rw[hit,hst]
    exact old i2 _ e2
  split at he
  ·rename_i hi
   exact lift i i he fun a ea=>by rw[get_ins b1,if_pos hi];exact ea
  ·split at he
   ·rename_i hi1 hi2
    cases he
    refine⟨n,hn,?_,fun k hk=>?_⟩
    ·rw[hit,hst,hj,get_ins b1,if_neg hi1,if_pos hi2]
    ·obtain⟨i2,e2⟩:=hocc k hk
     rw[hit,hst]
     exact old i2 _ e2
   ·rename_i hi1 hi2
    exact lift (i - 1) i he fun a ea=>by rw[get_ins b1,if_neg hi1,if_neg hi2];exact ea
end Sett
variable {es:Array Sett.En}
namespace Sett
open PySem PySem.SetTable
theorem aw6:∀ (k n:Nat) (g:Nat->Nat),(∀ i,i<n->g i<k)->(∀ i j,i<n->j<n->g i=g j->i=j)->n<=k
 | 0,n,g,h,_=>by
  rcases Nat.eq_zero_or_pos n with e | e
  ·omega
  ·exact absurd (h 0 e) (ah0 _)
 | k+1,0,g,_,_=>k9 _
 | k+1,n+1,g,h,inj=>by
  by_cases q:∃ i0,i0<n+1/\g i0=k
  ·obtain⟨i0,h0,e0⟩:=q
   have:=aw6 k n (fun i=>if i=i0 then g n else g i) (fun i hi=>?_) (fun i j hi hj e=>?_)
   ·omega
   ·try dsimp only
    split
    ·rename_i hii
     have h1:=h n (by omega)
     have h2:g n≠k:=fun z=>by have:=inj n i0 (by omega) h0 (by rw[z,e0]);omega
     omega
    ·have h1:=h i (by omega)
     have h2:g i≠k:=fun z=>by have:=inj i i0 (by omega) h0 (by rw[z,e0]);omega
     omega
   ·try dsimp only at e
    split at e
    ·split at e
     ·omega
     ·have:=inj n j (by omega) (by omega) e;omega
    ·split at e
     ·have:=inj i n (by omega) (by omega) e;omega
     ·exact inj i j (by omega) (by omega) e
  ·have:=aw6 k (n+1) g (fun i hi=>?_) inj
   ·omega
   ·have h1:=h i hi
    have h2:g i≠k:=fun z=>q ⟨i,hi,z⟩
    omega
structure LI (t:SetTable) (hs:Array Int) (owner:Array (Option Nat)) (k:Nat):Prop where
 size:owner.size=t.mask+1
 lt:∀ (j i:Nat),owner[j]?=some (some i)->i<k
 inj:∀ (j j' i:Nat),owner[j]?=some (some i)->owner[j']?=some (some i)->j=j'
 has:∀ (i:Nat) (h:Int),i<k->hs[i]?=some h->∃ n,n<10*turns t.mask/\owner[(it t n (t.probeStart h)).j]?=some (some i)/\∀ c,c<n->∃ i':Nat,owner[(it t c (t.probeStart h)).j]?=some (some i')
theorem LI.free {t:SetTable}{hs:Array Int}{owner:Array (Option Nat)}{k:Nat}(L:LI t hs owner k)(hk:k<=t.mask):∃ b,b<=t.mask/\owner[b]?=some none:=by
 apply Classical.byContradiction
 intro z
 have all:∀ b,b<=t.mask->∃ i,owner[b]?=some (some i):=fun b hb=>by
  have e:=getElem?_pos owner b (by rw[L.size];omega)
  cases q:owner[b]'(by rw[L.size];omega) with
  | none=>rw[q]at e;exact absurd ⟨b,hb,e⟩ z
  | some i=>rw[q]at e;exact⟨i,e⟩
 have:=aw6 k (t.mask+1) (fun b=>match owner[b]? with | some (some i)=>i | _=>0) (fun b hb=>?_) (fun b b' hb hb' e=>?_)
 ·omega
 ·obtain⟨i,e⟩:=all b (by omega)
  try dsimp only
  rw[e]
  exact L.lt b i e
 ·obtain⟨i,e1⟩:=all b (by omega)
  obtain⟨i',e2⟩:=all b' (by omega)
  try dsimp only at e
  rw[e1,e2]at e
  dsimp only at e
  subst e
  exact L.inj b b' i e1 e2
theorem au0 (t:SetTable)(owner:Array (Option Nat))(hz:owner.size=t.mask+1):∀ (fuel i pt:Nat),i<=t.mask->(∃ r,r<fuel/\∃ b,b=(rn t.mask i pt r).1/\owner[b]?=some none) ->
  ∃ n,n<10*fuel/\layClean.free t.mask owner fuel i pt=some (it t n (st t.mask i pt)).j/\owner[(it t n (st t.mask i pt)).j]?=some none/\∀ c,c<n->∃ i':Nat,owner[(it t c (st t.mask i pt)).j]?=some (some i')
 | 0,i,pt,_,⟨r,hr,_⟩=>absurd hr (ah0 _)
 | fuel+1,i,pt,hi,⟨r,hr,b,hb,hbo⟩=>by
  have h9:=ah4 t.mask i
  have hm:=aC7 hi
  unfold layClean.free
  have slotOf:∀ k,k<=runEnd t.mask i - i->(it t k (st t.mask i pt)).j=i+k:=fun k hk=>by rw[ax6 t i pt k hk]
  have getS:∀ k,k<=runEnd t.mask i - i->(owner.getD (i+k) (some 0)).isNone=false->∃ i':Nat,owner[i+k]?=some (some i'):=fun k hk e=>by
   have hlt:i+k<owner.size:=by omega
   have e1:=getElem?_pos owner (i+k) hlt
   have e2:owner.getD (i+k) (some 0)=owner[i+k]:=by simp[br3,hlt]
   rw[e2]at e
   cases q:owner[i+k] with
   | none=>rw[q]at e;cases e
   | some i'=>rw[q]at e1;exact⟨i',e1⟩
  cases hf:(n6 (runEnd t.mask i+1 - i)).find? (fun k=>(owner.getD (i+k) (some 0)).isNone) with
  | some k =>
   dsimp only
   rw[List.find?_eq_some_iff_getElem]at hf
   obtain⟨hp,k',hk',ek,hbef⟩:=hf
   rw[E8]at hk'
   rw[Z0]at ek
   subst ek
   refine⟨k',by omega,by rw[slotOf k' (by omega)],?_,fun c hc=>?_⟩
   ·rw[slotOf k' (by omega)]
    have hlt:i+k'<owner.size:=by omega
    have e2:owner.getD (i+k') (some 0)=owner[i+k']:=by simp[br3,hlt]
    rw[e2]at hp
    rw[getElem?_pos owner _ hlt]
    cases q:owner[i+k'] with
    | none=>rfl
    | some z=>rw[q]at hp;cases hp
   ·rw[slotOf c (by omega)]
    have:=hbef c hc
    rw[Z0]at this
    exact getS c (by omega) (by simpa using this)
  | none =>
   dsimp only
   rw[List.find?_eq_none]at hf
   have all:∀ c,c<=runEnd t.mask i - i->∃ i':Nat,owner[i+c]?=some (some i'):=fun c hc=>getS c hc (by simpa only [Bool.not_eq_true] using hf c (k7.mpr (by omega)))
   have hr0:r≠0:=fun z=>by
    subst z
    obtain⟨i',e⟩:=all 0 (k9 _)
    have hb':b=i:=hb
    rw[hb']at hbo
    rw[az3,hbo]at e
    cases e
   obtain⟨r',rfl⟩:∃ r',r=r'+1:=⟨r - 1,by omega⟩
   have shift:∀ r,rn t.mask (leap t.mask i pt).1 (leap t.mask i pt).2 r=rn t.mask i pt (r+1):=fun r=>by
    induction r with
    | zero=>rfl
    | succ r ih =>
     show leap t.mask _ _=leap t.mask _ _
     rw[ih]
   obtain⟨n,hn,e1,e2,e3⟩:=au0 t owner hz fuel (leap t.mask i pt).1 (leap t.mask i pt).2 (ac2 (bB4 _ (Z5 _))) ⟨r',by omega,b,by rw[hb,shift],hbo⟩
   have sh:∀ c,it t (runEnd t.mask i - i+1+c) (st t.mask i pt)=it t c (st t.mask (leap t.mask i pt).1 (leap t.mask i pt).2):=fun c=>by rw[ax8,ax7]
   refine⟨runEnd t.mask i - i+1+n,by omega,by rw[sh];exact e1,by rw[sh];exact e2,fun c hc=>?_⟩
   by_cases q:c<=runEnd t.mask i - i
   ·rw[slotOf c q]
    exact all c q
   ·have:=e3 (c - (runEnd t.mask i - i+1)) (by omega)
    rw[<- sh,show runEnd t.mask i - i+1+(c - (runEnd t.mask i - i+1))=c by omega]at this
    exact this
theorem aE5 (t:SetTable)(g:Good t.mask)(hs:Array Int)(hsz:hs.size<=t.mask):∀ (l:List Int) (k:Nat) (owner:Array (Option Nat)),LI t hs owner k->hs.toList.drop k=l ->
  ∃ owner',(l.foldl (fun acc h=>do
   let (owner,k) <- acc
   let j <- layClean.free t.mask owner (turns t.mask) (bits h % (t.mask+1)) (bits h)
   pure (owner.setIfInBounds j (some k),k+1)) (some (owner,k)))=some (owner',k+l.length)/\LI t hs owner' (k+l.length)
 | [],k,owner,L,_=>⟨owner,rfl,L⟩
 | h::l,k,owner,L,hd=>by
  have hk:k<hs.size:=by
   apply Classical.byContradiction
   intro z
   rw[C8 (by rw[d9];omega)]at hd
   cases hd
  have hget:hs[k]?=some h:=by
   rw[<- b5]
   have:=congrArg (fun l=>l[0]?) hd
   simpa using this
  obtain⟨b,hb,hbo⟩:=L.free (by omega)
  obtain⟨r,hr,er⟩:=aO5 g (Z9 t h) (aR9 h) hb
  obtain⟨n,hn,e1,e2,e3⟩:=au0 t owner L.size (turns t.mask) (bits h % (t.mask+1)) (bits h) (Z9 t h) ⟨r,hr,b,er.symm,hbo⟩
  rw[<- aa0]at e1 e2 e3
  have hjs:(it t n (t.probeStart h)).j<owner.size:=(getElem?_eq_some_iff.mp e2).1
  have gs:∀ x,(owner.setIfInBounds (it t n (t.probeStart h)).j (some k))[x]?=if (it t n (t.probeStart h)).j=x then some (some k) else owner[x]?:=fun x=>by
   rw[Array.getElem?_setIfInBounds]
   split
   ·rename_i hx;subst hx;simp[hjs]
   ·rfl
  have occ:∀ (x i:Nat),owner[x]?=some (some i)->∃ i':Nat,(owner.setIfInBounds (it t n (t.probeStart h)).j (some k))[x]?=some (some i'):=fun x i e=>by
   rw[gs];split
   ·exact⟨k,rfl⟩
   ·exact⟨i,e⟩
  have L':LI t hs (owner.setIfInBounds (it t n (t.probeStart h)).j (some k)) (k+1):=by
   refine⟨by rw[aM6];exact L.size,fun j i e=>?_,fun j j' i ea ec=>?_,fun i h' hi hh=>?_⟩
   ·rw[gs]at e
    split at e
    ·cases e;omega
    ·have:=L.lt j i e;omega
   ·rw[gs]at ea ec
    split at ea
    ·rename_i q1
     cases ea
     split at ec
     ·rename_i q2;rw[<- q1,<- q2]
     ·have:=L.lt j' k ec;omega
    ·split at ec
     ·cases ec
      have:=L.lt j k ea;omega
     ·exact L.inj j j' i ea ec
   ·by_cases q:i=k
    ·subst q
     rw[hget]at hh
     cases hh
     refine⟨n,hn,by rw[gs,if_pos rfl],fun c hc=>?_⟩
     obtain⟨i',e⟩:=e3 c hc
     exact occ _ i' e
    ·obtain⟨n',q1,q2,q3⟩:=L.has i h' (by omega) hh
     refine⟨n',q1,?_,fun c hc=>?_⟩
     ·rw[gs]
      split
      ·rename_i q4
       rw[q4]at e2
       rw[e2]at q2
       cases q2
      ·exact q2
     ·obtain⟨i',e⟩:=q3 c hc
      exact occ _ i' e
  obtain⟨owner',f1,f2⟩:=aE5 t g hs hsz l (k+1) _ L' (by
   have e5:hs.toList.drop (k+1)=(hs.toList.drop k).drop 1:=by rw[aM5]
   rw[e5,hd]
   rfl)
  refine⟨owner',?_,?_⟩
  ·rw[Q4]
   have:(do
     let (owner,k) <- some (owner,k)
     let j <- layClean.free t.mask owner (turns t.mask) (bits h % (t.mask+1)) (bits h)
     pure (owner.setIfInBounds j (some k),k+1))=some (owner.setIfInBounds (it t n (t.probeStart h)).j (some k),k+1):=by
    show (layClean.free t.mask owner (turns t.mask) (bits h % (t.mask+1)) (bits h) >>= fun j=>pure (owner.setIfInBounds j (some k),k+1))=_
    rw[e1]
    rfl
   rw[this,f1,j7]
   congr 2
   omega
  ·rw[j7,show k+(l.length+1)=k+1+l.length by omega]
   exact f2
theorem bd5 {M finger moves:Nat}{led plain:Bool}(g:Good M)(hsz:es.size*5<M*3) :
  ∃ t2 order,laid M finger moves led plain (es.map (·.1))=some (t2,order)/\Tb t2 (order.filterMap (es[·]?))/\(order.filterMap (es[·]?)).toList.Perm es.toList/\order.toList.Perm (n6 es.size)/\t2.led=led/\t2.plain=plain:=by
 let t:SetTable:={ mask:=M,place:=#[],dummies:=#[],finger:=finger,led:=led,moves:=moves,plain:=plain }
 have ht:t.mask=M:=rfl
 have h0:LI t (es.map (·.1)) (Array.replicate (M+1) none) 0:=by
  refine⟨by simp[ht],fun j i e=>?_,fun j j' i e=>?_,fun i h hi=>by omega⟩
  ·rw[aM7]at e;split at e<;>cases e
  ·rw[aM7]at e;split at e<;>cases e
 obtain⟨owner,f1,L⟩:=aE5 t g (es.map (·.1)) (by rw[Y9,ht];omega) (es.map (·.1)).toList 0 _ h0 rfl
 rw[J0,d9,Y9]at f1 L
 have hlay:layClean M (es.map (·.1))=some owner:=by
  unfold layClean
  rw[<- Array.foldl_toList]
  have:(W3 _ _ (es.map (·.1)).toList)=some (owner,es.size):=f1
  rw[this]
  rfl
 let live:List (Nat × Nat):=(n6 (M+1)).filterMap fun j=>(owner.getD j none).map (j,·)
 have hlive:∀ p:Nat × Nat,p∈live↔owner[p.1]?=some (some p.2):=fun p=>by
  obtain⟨j,i⟩:=p
  have hg:∀ j,owner.getD j none=(owner[j]?).getD none:=fun j=>by simp
  show (j,i)∈List.filterMap _ _↔_
  rw[Y8]
  constructor
  ·rintro⟨j',hj',e⟩
   rw[hg]at e
   cases q:owner[j']? with
   | none=>rw[q]at e;cases e
   | some z =>
    rw[q]at e
    cases z with
    | none=>cases e
    | some i' =>
     have e':(j',i')=(j,i):=Option.some.inj e
     cases e'
     exact q
  ·intro e
   have hj:j<owner.size:=(getElem?_eq_some_iff.mp e).1
   refine⟨j,k7.mpr (by rw[L.size,ht]at hj;exact hj),?_⟩
   rw[hg,e]
   rfl
 have hpw:live.Pairwise (fun a b=>a.1<b.1):=by
  show (List.filterMap _ _).Pairwise _
  rw[List.pairwise_filterMap]
  refine List.Pairwise.imp ?_ aX1
  intro a b hab p hp q hq
  cases h1:owner.getD a none with
  | none=>rw[h1]at hp;cases hp
  | some i =>
   cases h2:owner.getD b none with
   | none=>rw[h2]at hq;cases hq
   | some i' =>
    rw[h1]at hp
    rw[h2]at hq
    have e1:(a,i)=p:=Option.some.inj hp
    have e2:(b,i')=q:=Option.some.inj hq
    subst e1 e2
    exact hab
 have hnd:(live.map (·.2)).Nodup:=by
  unfold List.Nodup
  rw[A0]
  refine List.Pairwise.imp_of_mem ?_ hpw
  intro a b ha hb hab e
  have h1:=(hlive a).mp ha
  have h2:=(hlive b).mp hb
  rw[<- e]at h2
  have:=L.inj _ _ _ h1 h2
  omega
 have hord:(live.map (·.2)).Perm (n6 es.size):=by
  refine(C6 hnd ac7).mpr fun i=>?_
  rw[k7,l6]
  constructor
  ·rintro⟨p,hp,rfl⟩
   exact L.lt _ _ ((hlive p).mp hp)
  ·intro hi
   obtain⟨n,_,q,_⟩:=L.has i ((es.map (·.1))[i]'(by rw[Y9];exact hi)) hi (getElem?_pos _ _ _)
   exact⟨(_,i),(hlive _).mpr q,rfl⟩
 have hlen:live.length=es.size:=by have:=hord.length_eq;simpa using this
 have hes:∀ i,i∈live.map (·.2)->∃ e,es[i]?=some e:=fun i hi=>by
  have:=hord.mem_iff.mp hi
  rw[k7]at this
  exact⟨es[i],getElem?_pos es i this⟩
 have fm:∀ (l:List Nat),(∀ i∈l,∃ e,es[i]?=some e)->(l.filterMap (es[·]?)).length=l.length/\∀ (p:Nat),(l.filterMap (es[·]?))[p]?=(l[p]?).bind (es[·]?):=fun l=>by
  induction l with
  | nil=>intro _;exact⟨rfl,fun p=>rfl⟩
  | cons a l ih =>
   intro h
   obtain⟨e,he⟩:=h a b4
   obtain⟨i1,i2⟩:=ih fun i hi=>h i (b9 _ hi)
   rw[List.filterMap_cons_some he]
   refine⟨by rw[j7,i1,j7],fun p=>?_⟩
   cases p with
   | zero=>simp[he]
   | succ p=>simpa using i2 p
 obtain⟨fl,fg⟩:=fm _ hes
 have hperm:((live.map (·.2)).filterMap (es[·]?)).Perm es.toList:=by
  refine(hord.filterMap _).trans (List.Perm.of_eq ?_)
  apply S4
  intro p
  obtain⟨_,g2⟩:=fm (n6 es.size) fun i hi=>⟨es[i]'(k7.mp hi),getElem?_pos es i (k7.mp hi)⟩
  rw[g2,show es.toList[p]?=es[p]? from b5 ..]
  by_cases hp:p<es.size
  ·rw[al8 hp];rfl
  ·rw[G7 (by simp;omega),getElem?_neg es p hp];rfl
 let t2:SetTable:={ mask:=M,place:=(live.map (·.1)).toArray,dummies:=#[],finger:=finger,led:=led,moves:=moves,plain:=plain }
 have hes':((live.map (·.2)).toArray.filterMap (es[·]?)).toList=(live.map (·.2)).filterMap (es[·]?):=by simp
 have getE:∀ (p:Nat) (e:En),((live.map (·.2)).toArray.filterMap (es[·]?))[p]?=some e->∃ j i:Nat,live[p]?=some (j,i)/\es[i]?=some e:=fun p e h=>by
  rw[<- b5,hes',fg,j3]at h
  cases q:live[p]? with
  | none=>rw[q]at h;cases h
  | some ji=>rw[q]at h;exact⟨ji.1,ji.2,rfl,h⟩
 have getP:∀ (p:Nat) (j:Nat),t2.place[p]?=some j↔∃ i,live[p]?=some (j,i):=fun p j=>by
  show (live.map (·.1)).toArray[p]?=some j↔_
  rw[List.getElem?_toArray,j3]
  cases q:live[p]? with
  | none=>simp
  | some ji =>
   obtain⟨a,b⟩:=ji
   simp
 have itE:∀ n (p:Probe),it t2 n p=it t n p:=fun n p=>an0 (t:=t) (t':=t2) rfl n p
 refine⟨t2,(live.map (·.2)).toArray,?_,?_,(by rw[hes'];exact hperm),hord,rfl,rfl⟩
 ·unfold laid
  rw[hlay]
  rfl
 ·refine⟨rfl,?_,?_,?_,g,?_,?_⟩
  ·show (live.map (·.1)).toArray.size=_
   rw[f6,b6,<- d9,hes',fl,b6]
  ·intro i j a b hij ea eb
   obtain⟨_,ea⟩:=(getP i a).mp ea
   obtain⟨_,eb⟩:=(getP j b).mp eb
   obtain⟨h1,e1⟩:=a9.mp ea
   obtain⟨h2,e2⟩:=a9.mp eb
   have:=l7.mp hpw i j h1 h2 hij
   rw[e1,e2]at this
   exact this
  ·intro i j e
   obtain⟨i',e⟩:=(getP i j).mp e
   have:=(hlive _).mp (c8 e)
   have hj:j<owner.size:=(getElem?_eq_some_iff.mp this).1
   rw[L.size]at hj
   show j<=M
   exact ac2 hj
  ·rw[<- d9,hes',fl,b6,hlen]
   exact hsz
  ·intro p e he
   obtain⟨j,i,hl,hi⟩:=getE p e he
   have ho:=(hlive _).mp (c8 hl)
   have hi':i<es.size:=(getElem?_eq_some_iff.mp hi).1
   obtain⟨n,q1,q2,q3⟩:=L.has i e.1 hi' (by rw[Array.getElem?_map,hi];rfl)
   have ej:=L.inj _ _ _ ho q2
   refine⟨n,q1,?_,fun c hc=>?_⟩
   ·rw[itE]
    exact(getP p _).mpr ⟨i,by rw[hl];congr 2⟩
   ·obtain⟨i',e'⟩:=q3 c hc
    obtain⟨p',hp'⟩:=i8.mp ((hlive (_,i')).mpr e')
    exact⟨p',by rw[itE];exact(getP p' _).mpr ⟨i',hp'⟩⟩
theorem bn2 {M finger moves:Nat}{led plain:Bool}(g:Good M)(hsz:es.size*5<M*3) :
  ∃ t2 order,laid M finger moves led plain (es.map (·.1))=some (t2,order)/\Tb t2 (order.filterMap (es[·]?))/\(order.filterMap (es[·]?)).toList.Perm es.toList:=
 let ⟨a,b,c,d,e,_⟩:=bd5 (finger:=finger) (moves:=moves) (led:=led) (plain:=plain) g hsz;⟨a,b,c,d,e⟩
end Sett
namespace Sett
open PySem PySem.SetTable PyProof.Rows
def ab8:List Nat->Nat->Bool
 | [],_=>true
 | x::l,acc=>!acc.testBit x && ab8 l (acc ||| 2 ^ x)
theorem af1:∀ (l:List Nat) (acc:Nat),ab8 l acc=true->l.Nodup/\∀ x∈l,acc.testBit x=false
 | [],_,_=>⟨t5,(fun _ h=>nomatch h)⟩
 | x::l,acc,h=>by
  unfold ab8 at h
  rw[o7]at h
  obtain⟨h1,h2⟩:=h
  obtain⟨n,m⟩:=af1 l _ h2
  have m':∀ y∈l,acc.testBit y=false/\x≠y:=fun y hy=>by
   have:=m y hy
   rw[Nat.testBit_or,Bool.or_eq_false_iff,br2]at this
   exact⟨this.1,of_decide_eq_false this.2⟩
  refine⟨j1.mpr ⟨fun hx=>(m' x hx).2 rfl,n⟩,fun y hy=>?_⟩
  rcases b7.mp hy with rfl | hy
  ·simpa using h1
  ·exact(m' y hy).1
def hp (n:Nat):Nat:=bits (aA0 (Builtin.Tuple.tupleHashOf [bB8 ((n / 24:Nat):Int),bB8 ((n % 24:Nat):Int)])) % 3708
set_option maxRecDepth 100000 in
theorem by2:ab8 ((n6 576).map hp) 0=true:=by decide +kernel
theorem by1 {a b:Nat}(ha:a<576)(hb:b<576)(h:hp a=hp b):a=b:=by
 have:=(af1 _ _ by2).1
 unfold List.Nodup at this
 rw[A0]at this
 rw[l7]at this
 rcases S7 a b with q | q | q
 ·have:=this a b (by simpa using ha) (by simpa using hb) q
  simp only[Z0]at this
  exact absurd h this
 ·exact q
 ·have:=this b a (by simpa using hb) (by simpa using ha) q
  simp only[Z0]at this
  exact absurd h.symm this
def aj5 (ks:List Int):Prop:=∃ i j:Nat,i<24/\j<24/\ks=[(i:Int),(j:Int)]
theorem af5 {k':List Int}(h1:aj5 k)(h2:aj5 k')(e:l8 (m9 prog w) k=l8 (m9 prog w) k'):k=k':=by
 obtain⟨i,j,hi,hj,rfl⟩:=h1
 obtain⟨i',j',hi',hj',rfl⟩:=h2
 have e2:hp (24*i+j)=hp (24*i'+j'):=by
  unfold hp
  rw[show (24*i+j) / 24=i by omega,show (24*i+j) % 24=j by omega,show (24*i'+j') / 24=i' by omega,show (24*i'+j') % 24=j' by omega]
  exact congrArg (fun z=>bits z % 3708) e
 have:=by1 (by omega) (by omega) e2
 have h3:i=i':=by omega
 have h4:j=j':=by omega
 rw[h3,h4]
def ac5 (prog:Program)(w:World)(h:Heap)(k:List Int)(e:En):Prop:=∃ a,e.2=.ref a/\E2 (m9 prog w) h k a/\e.1=l8 (m9 prog w) k
def al5 (prog:Program)(w:World)(hk h:Heap)(S:Addr)(ks:List (List Int)):Prop:=
 ∃ o es ep t,h.get? S=some o/\o.ExactSet/\o.data=.set es ep t/\Tb t es/\es.size=ks.length/\ks.Nodup/\(∀ k∈ks,aj5 k)/\(∀ k∈ks,∃ e∈es.toList,ac5 prog w hk k e)/\∀ e∈es.toList,∃ k∈ks,ac5 prog w hk k e
theorem bd9 (x:E2 (m9 prog w) h k a)(hs:∀ b o,h.get? b=some o->h'.get? b=some o):E2 (m9 prog w) h' k a:=by
 obtain⟨o,items,n,h2,h3⟩:=x
 exact⟨o,items,n,hs a o h2,h3⟩
theorem ac5.up {e:En}(x:ac5 prog w h k e)(hs:∀ b o,h.get? b=some o->h'.get? b=some o):ac5 prog w h' k e:=by
 obtain⟨a,h1,h2,h6⟩:=x
 exact⟨a,h1,bd9 h2 hs,h6⟩
theorem ac5.inj {k':List Int}{e:En}(x:ac5 prog w h k e)(y:ac5 prog w h k' e):k=k':=by
 obtain⟨a,h1,h2,_⟩:=x
 obtain⟨b,h3,h4,_⟩:=y
 rw[h1]at h3
 cases h3
 exact h2.inj h4
theorem aL8 (x:Addr)(es:Array En):byScan (.ref x) es=false:=by
 unfold byScan Value.scannable
 rfl
theorem ah7 {x:Addr}{Q:Bool->Shared->Prop}(hx:E2 (m9 prog w) s.heap k x)(h:Q true s):m5 (m7 prog w) A (aS8 8 (.ref x)) Q E s:=by
 have hT:=hx.typeIs
 obtain⟨o,items,n,ho,hc,hd,hi⟩:=hx
 unfold aS8
 refine a4 (R8 hT F.slot_tuple_hash.lookup ?_)
 dsimp only
 refine a4 (ac3 ho hd ?_)
 show m5 _ _ (forIn items _ _ >>= _) _ _ s
 rw[<- G5]
 have hv:∀ v∈items.toList,∃ i t,v=.int i t:=fun v hv=>by
  clear ho hd
  generalize items.toList=l at hi hv
  induction hi with
  | nil=>cases hv
  | cons h1 _ ih =>
   rcases b7.mp hv with rfl | hv
   ·obtain⟨t,e⟩:=Value.isInt_shape h1
    exact⟨_,t,e⟩
   ·exact ih hv
 refine a4 (B2 _ (fun rest r s'=>r.1=none/\s'=s/\∀ v∈rest,∃ i t,v=.int i t) _ ?_ ?_ _ _ ⟨rfl,rfl,hv⟩)
 ·rintro v rest r s' ⟨hr,rfl,hall⟩
  obtain⟨i,t,rfl⟩:=hall v b4
  have e:aS8 7 (.int i t)=pure true:=by unfold aS8;rfl
  rw[e]
  refine a4 (a6 ?_)
  simp only[o9,d3,if_false]
  exact a6 ⟨rfl,rfl,fun u hu'=>hall u (b9 _ hu')⟩
 ·rintro⟨r1,r2⟩ s' ⟨hr,rfl,_⟩
  simp only at hr
  subst hr
  exact a6 h
theorem as0 {S x:Addr}{o:Obj}{ep:Nat}{t:SetTable}{h:Int}{Q:SetFound->Shared->Prop}(ho:s.heap.get? S=some o)(hd:o.data=.set es ep t)(T:Tb t es)(hh:∀ e∈es.toList,e.1≠h)
  (hq:∀ n,n<10*turns t.mask->(∀ i:Nat,t.place[i]?≠some (it t n (t.probeStart h)).j)->(it t n (t.probeStart h)).j<=t.mask->(∀ k,k<n->∃ i':Nat,t.place[i']?=some (it t k (t.probeStart h)).j)->Q (.free (it t n (t.probeStart h)).j false) s) :
  m5 (m7 prog w) A (br9 S (.ref x) h true) Q E s:=by
 obtain⟨n,h1,h2,h3,h4,h5⟩:=T.absent hh
 unfold br9 av5
 refine a4 (O2 ho hd T.fits ?_)
 dsimp only
 rw[T.odd]
 simp only[d3,if_false]
 split
 ·rename_i met hm
  have e:=hm.symm.trans h5
  cases e
  exact a6 (hq n h1 h2 h3 h4)
 ·rename_i hm
  exact absurd h5 (fun z=>hm _ z)
theorem aG0 {x:Addr}{Q:Bool->Shared->Prop}(hx:E2 (m9 prog w) s.heap k x)(h:Q false s):m5 (m7 prog w) A (ad1 8 (.ref x)) Q E s:=by
 have hT:=hx.typeIs
 obtain⟨o,items,n,ho,hc,hd,hi⟩:=hx
 unfold ad1
 refine a4 (ak7 hT ?_)
 dsimp only
 rw[if_pos (by decide)]
 refine a4 (a6 ?_)
 simp only[o9,d3,if_false]
 refine a4 (ac3 ho hd ?_)
 dsimp only
 rw[<- G5]
 have hv:∀ v∈items.toList,∃ i t,v=.int i t:=fun v hv=>by
  clear ho hd
  generalize items.toList=l at hi hv
  induction hi with
  | nil=>cases hv
  | cons h1 _ ih =>
   rcases b7.mp hv with rfl | hv
   ·obtain⟨t,e⟩:=Value.isInt_shape h1
    exact⟨_,t,e⟩
   ·exact ih hv
 refine a4 (B2 _ (fun rest r s'=>r.1=none/\s'=s/\∀ v∈rest,∃ i t,v=.int i t) _ ?_ ?_ _ _ ⟨rfl,rfl,hv⟩)
 ·rintro v rest r s' ⟨hr,rfl,hall⟩
  obtain⟨i,t,rfl⟩:=hall v b4
  have e:ad1 7 (.int i t)=pure false:=by unfold ad1;rfl
  rw[e]
  refine a4 (a6 ?_)
  simp only[d3,if_false]
  exact a6 ⟨rfl,rfl,fun u hu'=>hall u (b9 _ hu')⟩
 ·rintro⟨r1,r2⟩ s' ⟨hr,rfl,_⟩
  simp only at hr
  subst hr
  exact a6 h
theorem bt0 {x:Addr}{l:List Value}{Q:Bool->Shared->Prop}(hx:E2 (m9 prog w) s.heap k x)(hl:∀ v∈l,∃ a k',v=.ref a/\E2 (m9 prog w) s.heap k' a)(h:Q false s) :
  m5 (m7 prog w) A (searchCouldBeSeen (.ref x) l) Q E s:=by
 unfold searchCouldBeSeen
 refine a4 (B2 _ (fun rest r s'=>r.1=none/\s'=s/\∀ v∈rest,∃ a k',v=.ref a/\E2 (m9 prog w) s.heap k' a) _ ?_ ?_ _ _ ⟨rfl,rfl,hl⟩)
 ·rintro v rest r s' ⟨hr,rfl,hall⟩
  obtain⟨a,k',rfl,ha⟩:=hall v b4
  have hrest:∀ v∈rest,∃ a k',v=.ref a/\E2 (m9 prog w) s'.heap k' a:=fun u hu'=>hall u (b9 _ hu')
  dsimp only
  split
  ·exact a6 ⟨rfl,rfl,hrest⟩
  ·refine a4 (bs0 hx ?_)
   simp only[o9,d3,if_false]
   refine a4 (bs0 ha ?_)
   simp only[o9,d3,if_false]
   refine a4 (aG0 hx ?_)
   simp only[d3,if_false]
   refine a4 (aG0 ha ?_)
   simp only[d3,if_false]
   exact a6 ⟨rfl,rfl,hrest⟩
 ·rintro⟨r1,r2⟩ s' ⟨hr,rfl,_⟩
  simp only at hr
  subst hr
  exact a6 h
theorem ao5 {S x:Addr}{o:Obj}{ep:Nat}{t:SetTable}{e:En}{Q:SetFound->Shared->Prop}(hu:A.units<G0)(ho:s.heap.get? S=some o)(hd:o.data=.set es ep t)(T:Tb t es)
  (hx:E2 (m9 prog w) s.heap k x)(he:es[i]?=some e)(hk:ac5 prog w s.heap k e)(hall:∀ e∈es.toList,∃ k,ac5 prog w s.heap k e)(huq:∀ (c:Nat) (e':En),es[c]?=some e'->e'.1=e.1->c=i)
  (hq:Q (.there none) s):m5 (m7 prog w) A (br9 S (.ref x) (l8 (m9 prog w) k) true) Q E s:=by
 obtain⟨y,hy1,hy2,hy3⟩:=hk
 obtain⟨j,q,hp⟩:=T.present he huq
 rw[hy3]at hp
 unfold br9 av5
 refine a4 (O2 ho hd T.fits ?_)
 dsimp only
 rw[T.odd]
 simp only[d3,if_false]
 have fin:m5 (m7 prog w) A (do
   let some (_,y):=es[i]? | ar6 "internal:set-entry"
   let equal <- bi5 [y] (eqBool y (.ref x))
   let (es',_,t') <- setState S
   if true && equal then return .there none
   let some same:=t'.sameMemory t.moves t.mask | ar6 "set.changed-during-lookup:is-the-new-block-at-the-old-address"
   let still <- match (if same then t'.slot j else .empty) with
    | .live i'=>match es'[i']? with
     | some (_,y')=>do pure (if <- isSame y' y then some i' else none)
     | none=>pure none
    | _=>pure none
   match still with
   | none=>rule "set.search.anew";av5 S (.ref x) (l8 (m9 prog w) k) true 99999 none
   | some i'=>if equal then return .there (some i') else av5 S (.ref x) (l8 (m9 prog w) k) true 99999 (some q)) Q E s:=by
  rw[he]
  obtain⟨e1,e2⟩:=e
  have hy1:e2=.ref y:=hy1
  subst hy1
  dsimp only
  refine a4 (u7 (wpAny_eqBool_tuple hu hy2 hx ?_))
  refine a4 (O2 ho hd T.fits ?_)
  dsimp only
  rw[decide_eq_true rfl]
  simp only[Bool.and_self,if_true]
  exact a6 hq
 split
 ·rename_i met hm
  have e9:=hm.symm.trans hp
  cases e9
  dsimp only
  cases hled:t.led with
  | true =>
   simp only[o9,d3,if_false]
   exact fin
  | false =>
   simp only[L8,if_true]
   refine a4 (bt0 hx (fun v hv=>?_) ?_)
   ·rw[l6]at hv
    obtain⟨e',he',rfl⟩:=hv
    have he'':e'∈es.toList:=by
     have:=Array.mem_filter.mp (bg7.mp he')
     exact bg7.mpr this.1
    obtain⟨k',a,h1,h2,_⟩:=hall e' he''
    exact⟨a,k',h1,h2⟩
   ·simp only[d3,if_false]
    exact fin
 ·rename_i hm
  exact absurd hp (fun z=>hm _ z)
theorem thr {m:Nat}(g:Good m)(h1:n*5<m*3)(h2:m*3<=(n+1)*5)(h3:n<300):(m=7/\n+1=5)\/(m=31/\n+1=19)\/(m=127/\n+1=77):=by
 rcases g with rfl | rfl | rfl | rfl<;>omega
theorem aL1 {m:Nat}(g:Good m)(h1:n*5<m*3)(h2:m*3<=(n+1)*5)(h3:n<300):Good (sizeAbove (grown (n+1)) - 1)/\(n+1)*5<(sizeAbove (grown (n+1)) - 1)*3/\sizeAbove (grown (n+1))<=4096:=by
 rcases thr g h1 h2 h3 with⟨_,e⟩ | ⟨_,e⟩ | ⟨_,e⟩<;>rw[e]<;>refine⟨?_,by decide +kernel,by decide +kernel⟩
 ·exact .inr (.inl (by decide +kernel))
 ·exact .inr (.inr (.inl (by decide +kernel)))
 ·exact .inr (.inr (.inr (by decide +kernel)))
theorem bj7 {t:SetTable}(T:Tb' t es):t.tooFull=decide (t.mask*3<=es.size*5):=by
 unfold tooFull PySem.SetTable.fill
 rw[T.dum,T.len]
 rfl
theorem stored {S:Addr}{o:Obj}{es':Array En}{ep:Nat}{t t':SetTable}(ho:h.get? S=some o)(hd:o.data=.set es ep t) :
  (h.update S (Obj.putSet es' t')).get? S=some { o with data:=.set es' (ep+1) t' }:=by
 have:=D3 (Obj.putSet es' t') ho (by rw[putSet_of es' t' hd];rfl)
 rw[putSet_of es' t' hd]at this
 exact this
theorem aC1 {S x:Addr}{Q:Bool->Shared->Prop}{hp:Heap}(hup:∀ b o,hp.get? b=some o->s.heap.get? b=some o)(hu:A.units<G0)(hS:al5 prog w hp s.heap S ks)(hx0:E2 (m9 prog w) hp k x)(hk:aj5 k)(hn:ks.length<300)
  (hq:∀ (b:Bool) (h':Heap) (tk:Nat),s.toks<=tk->Heap.SameBut S s.heap h'->al5 prog w hp h' S (if k∈ks then ks else k::ks)->Q b { s with heap:=h',toks:=tk }) :
  m5 (m7 prog w) A (setAdd S (.ref x)) Q E s:=by
 have hx:=bd9 hx0 hup
 unfold setAdd
 refine u7 (a4 (wpAny_pyHash_tuple hu hx ?_))
 obtain⟨o,es,ep,t,ho,hex,hd,T,hsz,hnd,hok,hto,hfrom⟩:=hS
 unfold setAddHashed
 refine u7 ?_
 unfold setAddHashedIn
 refine a4 (O2 (s:={ s with toks:=s.toks+(k.length+1) }) ho hd T.fits ?_)
 dsimp only
 rw[aL8]
 simp only[d3,if_false]
 by_cases hmem:k∈ks
 ·-- it is there
  obtain⟨e,he,hek⟩:=hto k hmem
  obtain⟨i,hi⟩:=i8.mp he
  rw[b5]at hi
  have huq:∀ (c:Nat) (e':En),es[c]?=some e'->e'.1=e.1->c=i:=fun c e' hc hh=>by
   apply Classical.byContradiction
   intro hci
   have hkey:∀ (c:Nat),c<es.size->∃ kk,kk∈ks/\∃ e,es[c]?=some e/\ac5 prog w hp kk e:=fun c hc=>by
    have e:=getElem?_pos es c hc
    obtain⟨kk,h1,h2⟩:=hfrom es[c] (by simp)
    exact⟨kk,h1,_,e,h2⟩
   have e'k:ac5 prog w hp k e':=by
    obtain⟨kk,h1,h2⟩:=hfrom e' (c8 (by rw[b5];exact hc))
    have h3:=h2
    obtain⟨_,_,_,h4⟩:=h2
    have h5:=hek
    obtain⟨_,_,_,h6⟩:=h5
    have:kk=k:=af5 (prog:=prog) (w:=w) (hok kk h1) hk (by rw[<- h4,hh,h6])
    rw[<- this]
    exact h3
   have hch:∀ n,n<ks.length->∃ c,c<es.size/\∃ e,es[c]?=some e/\∃ kk,ks[n]?=some kk/\ac5 prog w hp kk e:=fun n hn'=>by
    obtain⟨e,he,hek⟩:=hto ks[n] (ac8 hn')
    obtain⟨c,hc⟩:=i8.mp he
    rw[b5]at hc
    exact⟨c,(getElem?_eq_some_iff.mp hc).1,e,hc,ks[n],d5 hn',hek⟩
   have:=aw6 (es.size - 1) ks.length (fun n=>if hn':n<ks.length then (let c0:=Classical.choose (hch n hn');let c1:=if c0=c then i else c0;if c1<c then c1 else c1 - 1) else 0) ?_ ?_
   ·have hc':=(getElem?_eq_some_iff.mp hc).1
    omega
   ·intro n hn'
    dsimp only
    rw[dif_pos hn']
    have hp:=Classical.choose_spec (hch n hn')
    generalize Classical.choose (hch n hn')=c0 at hp
    obtain⟨p1,_⟩:=hp
    have hc':=(getElem?_eq_some_iff.mp hc).1
    have hi':=(getElem?_eq_some_iff.mp hi).1
    split<;>split<;>omega
   ·intro n n' hn1 hn2 eqn
    dsimp only at eqn
    rw[dif_pos hn1,dif_pos hn2]at eqn
    have hp:=Classical.choose_spec (hch n hn1)
    have hp':=Classical.choose_spec (hch n' hn2)
    generalize Classical.choose (hch n hn1)=c0 at hp eqn
    generalize Classical.choose (hch n' hn2)=c0' at hp' eqn
    obtain⟨p1,e1,p2,kk,p3,p4⟩:=hp
    obtain⟨p1',e1',p2',kk',p3',p4'⟩:=hp'
    have same:kk=kk':=by
     have r1:ac5 prog w hp kk (if c0=c then e else e1):=by
      split
      ·rename_i hcc
       subst hcc
       rw[hc]at p2
       cases p2
       have:=p4.inj e'k
       rw[this]
       exact hek
      ·exact p4
     have r2:ac5 prog w hp kk' (if c0'=c then e else e1'):=by
      split
      ·rename_i hcc
       subst hcc
       rw[hc]at p2'
       cases p2'
       have:=p4'.inj e'k
       rw[this]
       exact hek
      ·exact p4'
     have g1:es[if c0=c then i else c0]?=some (if c0=c then e else e1):=by split<;>assumption
     have g2:es[if c0'=c then i else c0']?=some (if c0'=c then e else e1'):=by split<;>assumption
     have ne1:(if c0=c then i else c0)≠c:=by split<;>omega
     have ne2:(if c0'=c then i else c0')≠c:=by split<;>omega
     have eqc:(if c0=c then i else c0)=(if c0'=c then i else c0'):=by
      generalize (if c0=c then i else c0)=u at eqn ne1
      generalize (if c0'=c then i else c0')=v at eqn ne2
      split at eqn<;>split at eqn<;>omega
     rw[eqc,g2]at g1
     rw[<- Option.some.inj g1]at r1
     exact r1.inj r2
    subst same
    obtain⟨q1,q2⟩:=a9.mp p3
    obtain⟨q3,q4⟩:=a9.mp p3'
    rcases S7 n n' with z | z | z
    ·exact absurd (q2.trans q4.symm) (l7.mp hnd n n' q1 q3 z)
    ·exact z
    ·exact absurd (q4.trans q2.symm) (l7.mp hnd n' n q3 q1 z)
  refine a4 (ao5 (s:={ s with toks:=s.toks+(k.length+1) }) hu ho hd T hx hi (hek.up hup) (fun e he=>?_) huq ?_)
  ·obtain⟨kk,_,h2⟩:=hfrom e he
   exact⟨kk,h2.up hup⟩
  ·refine a6 ?_
   have:=hq false s.heap (s.toks+(k.length+1)) (az5 _ _) (Heap.SameBut.refl S s.heap)
   rw[if_pos hmem]at this
   exact this ⟨o,es,ep,t,ho,hex,hd,T,hsz,hnd,hok,hto,hfrom⟩
 ·-- it is new
  have hh:∀ e∈es.toList,e.1≠l8 (m9 prog w) k:=fun e he z=>by
   obtain⟨kk,h1,h2⟩:=hfrom e he
   obtain⟨_,_,_,h4⟩:=h2
   have:kk=k:=af5 (prog:=prog) (w:=w) (hok kk h1) hk (by rw[<- h4,z])
   exact hmem (this ▸ h1)
  refine a4 (as0 (s:={ s with toks:=s.toks+(k.length+1) }) ho hd T hh fun n hn1 hfr hle hocc=>?_)
  dsimp only
  refine a4 (O2 (s:={ s with toks:=s.toks+(k.length+1) }) ho hd T.fits ?_)
  dsimp only
  obtain⟨hp1,T1⟩:=T.put (h:=l8 (m9 prog w) k) (x:=Value.ref x) hn1 hfr hle hocc
  generalize hpt:t.put (it t n (t.probeStart (l8 (m9 prog w) k))).j=tp at hp1 T1 ⊢
  have hled:tp.1.mask=t.mask:=by
   rw[<- hpt]
   unfold SetTable.put
   rfl
  obtain⟨t1,p⟩:=tp
  dsimp only at hp1 T1 hled ⊢
  have hsz1:(insertAt es p (l8 (m9 prog w) k,Value.ref x)).size=es.size+1:=ae8 hp1
  have fits1:(insertAt es p (l8 (m9 prog w) k,Value.ref x)).size<=d7:=by rw[hsz1,hsz,sizeLine_eq];omega
  have made:∀ (h':Heap) (o':Obj) (es':Array En) (ep':Nat) (t':SetTable),Heap.SameBut S s.heap h'->h'.get? S=some o'->o'.ExactSet->o'.data=.set es' ep' t'->Tb t' es' ->
    es'.toList.Perm (insertAt es p (l8 (m9 prog w) k,Value.ref x)).toList->al5 prog w hp h' S (k::ks):=fun h' o' es' ep' t' hsb ho' hex' hd' T' hpm=>by
   have hmemE:∀ e,e∈es'.toList↔e=(l8 (m9 prog w) k,Value.ref x)\/e∈es.toList:=fun e=>by rw[hpm.mem_iff];exact bm7 hp1 e
   have hnew:ac5 prog w hp k (l8 (m9 prog w) k,Value.ref x):=⟨x,rfl,hx0,rfl⟩
   refine⟨o',es',ep',t',ho',hex',hd',T',?_,j1.mpr ⟨hmem,hnd⟩,fun kk hkk=>?_,fun kk hkk=>?_,fun e he=>?_⟩
   ·have:=hpm.length_eq
    rw[d9,d9,hsz1,hsz]at this
    rw[this,j7]
   ·rcases b7.mp hkk with rfl | hkk
    ·exact hk
    ·exact hok kk hkk
   ·rcases b7.mp hkk with rfl | hkk
    ·exact⟨_,(hmemE _).mpr (.inl rfl),hnew⟩
    ·obtain⟨e,he,hek⟩:=hto kk hkk
     exact⟨e,(hmemE e).mpr (.inr he),hek⟩
   ·rcases(hmemE e).mp he with rfl | he
    ·exact⟨k,b4,hnew⟩
    ·obtain⟨kk,h1,h2⟩:=hfrom e he
     exact⟨kk,b9 _ h1,h2⟩
  have rest:∀ b:Bool,m5 (m7 prog w) A (do
    storeSet S (insertAt es p (l8 (m9 prog w) k,Value.ref x)) (if b=true then t1 else { t1 with plain:=false })
    if (!false && (if b=true then t1 else { t1 with plain:=false }).tooFull)=true then do
     setRelay S (grown (es.size+1))
     pure true
    else pure true) Q E { s with toks:=s.toks+(k.length+1) }:=fun b=>by
   have T2:Tb' (if b=true then t1 else { t1 with plain:=false }) (insertAt es p (l8 (m9 prog w) k,Value.ref x)):=by
    split
    ·exact T1
    ·exact T1.plain false
   have hm2:(if b=true then t1 else { t1 with plain:=false }).mask=t.mask:=by split<;>exact hled
   generalize (if b=true then t1 else { t1 with plain:=false })=t2 at T2 hm2
   refine a4 (wpAny_storeSet_of (s:={ s with toks:=s.toks+(k.length+1) }) ho hd ?_ fits1)
   have ho1:=stored (es':=insertAt es p (l8 (m9 prog w) k,Value.ref x)) (t':=t2) ho hd
   have hsb1:=Heap.SameBut.update s.heap S (Obj.putSet (insertAt es p (l8 (m9 prog w) k,Value.ref x)) t2)
   rw[bj7 T2]
   simp only[L8,Bool.true_and,decide_eq_true_eq]
   by_cases hful:t2.mask*3<=(insertAt es p (l8 (m9 prog w) k,Value.ref x)).size*5
   ·rw[if_pos hful]
    rw[hsz1,hm2]at hful
    obtain⟨g1,g2,g3⟩:=aL1 T.good T.nf hful (by rw[hsz];exact hn)
    unfold setRelay
    refine a4 (a4 (O2 (s:={ s with heap:=s.heap.update S (Obj.putSet (insertAt es p (l8 (m9 prog w) k,Value.ref x)) t2),toks:=s.toks+(k.length+1) }) ho1 rfl T2.fits ?_))
    dsimp only
    rw[if_neg (by rw[sizeLine_eq];omega)]
    obtain⟨t3,order,hl3,T3,hpm3⟩:=bn2 (M:=sizeAbove (grown (es.size+1)) - 1) (finger:=t2.finger) (moves:=t2.movedTo (sizeAbove (grown (es.size+1)) - 1)) (led:=t2.led) (plain:=t2.plain) (es:=insertAt es p (l8 (m9 prog w) k,Value.ref x)) g1 (by rw[hsz1];exact g2)
    have hrel:t2.relaid ((insertAt es p (l8 (m9 prog w) k,Value.ref x)).map (·.1)) (grown (es.size+1))=some (t3,order):=by
     unfold relaid
     exact hl3
    rw[hrel]
    have hsz3:(order.filterMap ((insertAt es p (l8 (m9 prog w) k,Value.ref x))[·]?)).size=(insertAt es p (l8 (m9 prog w) k,Value.ref x)).size:=by
     rw[<- d9,hpm3.length_eq,d9]
    refine a4 ?_
    show m5 _ _ (if ((order.filterMap ((insertAt es p (l8 (m9 prog w) k,Value.ref x))[·]?)).size != (insertAt es p (l8 (m9 prog w) k,Value.ref x)).size)=true then _ else _) _ _ _
    rw[if_neg (by rw[hsz3];simp)]
    first | refine a6 ?_ | refine a4 (a6 (a6 ?_))
    dsimp only
    refine wpAny_storeSet_of (s:={ s with heap:=s.heap.update S (Obj.putSet (insertAt es p (l8 (m9 prog w) k,Value.ref x)) t2),toks:=s.toks+(k.length+1) }) ho1 rfl ?_ (by rw[hsz3];exact fits1)
    refine a6 ?_
    have ho2:=stored (es':=order.filterMap ((insertAt es p (l8 (m9 prog w) k,Value.ref x))[·]?)) (t':=t3) ho1 rfl
    have hsb2:=hsb1.trans (Heap.SameBut.update _ S (Obj.putSet (order.filterMap ((insertAt es p (l8 (m9 prog w) k,Value.ref x))[·]?)) t3))
    have:=hq true _ (s.toks+(k.length+1)) (az5 _ _) hsb2
    rw[if_neg hmem]at this
    exact this (made _ _ _ _ _ hsb2 ho2 hex rfl T3 hpm3)
   ·rw[if_neg hful]
    refine a6 ?_
    have:=hq true _ (s.toks+(k.length+1)) (az5 _ _) hsb1
    rw[if_neg hmem]at this
    exact this (made _ _ _ _ _ hsb1 ho1 hex rfl (T2.full (by omega)) (List.Perm.refl _))
  cases hpl:t1.plain with
  | true =>
   rw[if_pos rfl]
   refine a4 (ah7 (s:={ s with toks:=s.toks+(k.length+1) }) hx ?_)
   exact rest true
  | false =>
   rw[if_neg c7]
   refine a4 (a6 ?_)
   exact rest true
def S2 (ks:List (List Int))(k:List Int):List (List Int):=if k∈ks then ks else k::ks
theorem be2 (ks:List (List Int))(k:List Int):(S2 ks k).length<=ks.length+1:=by unfold S2;split<;>simp
theorem an2:∀ (l ks:List (List Int)),(l.foldl S2 ks).length<=ks.length+l.length
 | [],ks=>by simp
 | k::l,ks=>by
  rw[Q4]
  have h1:=an2 l (S2 ks k)
  have h2:=be2 ks k
  rw[j7]
  omega
theorem ah9:∀ (l ks:List (List Int)),(l.foldl S2 ks).length=ks.length+l.length↔l.Nodup/\∀ x∈l,x∉ks
 | [],ks=>by simp
 | k::l,ks=>by
  rw[Q4,j7,j1]
  by_cases h:k∈ks
  ·have e:S2 ks k=ks:=by unfold S2;rw[if_pos h]
   rw[e]
   have:=an2 l ks
   constructor
   ·intro q;omega
   ·rintro⟨_,q⟩
    exact absurd h (q k b4)
  ·have e:S2 ks k=k::ks:=by unfold S2;rw[if_neg h]
   rw[e]
   have:=ah9 l (k::ks)
   rw[j7]at this
   constructor
   ·intro q
    obtain⟨q1,q2⟩:=this.mp (by omega)
    refine⟨⟨fun hk=>q2 k hk b4,q1⟩,fun x hx=>?_⟩
    rcases b7.mp hx with rfl | hx
    ·exact h
    ·exact fun z=>q2 x hx (b9 _ z)
   ·rintro⟨⟨q1,q2⟩,q3⟩
    have:=this.mpr ⟨q2,fun x hx z=>by
     rcases b7.mp z with rfl | z
     ·exact q1 hx
     ·exact q3 x (b9 _ hx) z⟩
    omega
theorem aB1 {R:Result->Shared->Prop}{I:Addr}{wr:List Addr}{P:Nat->Value->Prop}{St:Nat->Shared->Prop}
  (W:WalksS prog w A.in1 I fp wr G n P St)(hu:A.in1.units<G0)(S:Addr)(hSf:S∉fp)(hp:Heap)(hS0:hp.get? S=none)(hw0:∀ b∈wr,hp.get? b=none)(keys:List (List Int))(hn:keys.length=n)(hb:n<300)
  (hkey:∀ i v,P i v->∃ x k,v=.ref x/\keys[i]?=some k/\aj5 k/\E2 (m9 prog w) hp k x) :
  ∀ (c i:Nat) (s:Shared),n - i=c->i<=n->St i s->(∀ b o,hp.get? b=some o->s.heap.get? b=some o)->al5 prog w hp s.heap S ((keys.take i).foldl S2 []) ->
   (∀ s',Moved (S::wr) G s s'->al5 prog w hp s'.heap S (keys.foldl S2 [])->R (.ok (.ret .none)) s') ->
   ak2 (m7 prog w) A (.builtin "set.update.loop" ⟨[.ref S,.ref I],[]⟩) R s:=by
 have hSw:S∉wr:=fun h=>hSf (W.sub _ h)
 have hsub:∀ b∈wr,b∈S::wr:=fun b hb=>b9 _ hb
 have nw:∀ b o,hp.get? b=some o->b∉wr:=fun b o e hm=>by rw[hw0 b hm]at e;cases e
 have nS:∀ b o,hp.get? b=some o->b≠S:=fun b o e hm=>by rw[hm,hS0]at e;cases e
 have setKept:∀ {s s':Shared} {ks:List (List Int)},al5 prog w hp s.heap S ks->(∀ b o,b∉wr->s.heap.get? b=some o->s'.heap.get? b=some o)->al5 prog w hp s'.heap S ks:=fun {s s' ks} hS hk=>by
  obtain⟨o,es,ep,t,ho,rest⟩:=hS
  exact⟨o,es,ep,t,hk S o hSw ho,rest⟩
 intro c
 induction c with
 | zero =>
  intro i s hk hi hst hup hS hR
  have hin:i=n:=by omega
  subst hin
  refine ak8 PyProof.Rows.F.entry_set_update_loop ?_
  rw[Around.under_plainId PyProof.Rows.F.plain_set_update_loop _]
  show m5 _ A.in1 (bh2 (.ref I) >>= _) _ _ s
  refine a4 (W.done s _ _ hst fun s' hm=>?_)
  show m5 _ A.in1 (ret Value.none) _ _ s'
  refine a6 (hR s' (hm.mono hsub) ?_)
  have:=setKept hS hm.heap
  rw[o1 (by omega)]at this
  exact this
 | succ c ih =>
  intro i s hk hi hst hup hS hR
  have hlt:i<n:=by omega
  refine ak8 PyProof.Rows.F.entry_set_update_loop ?_
  rw[Around.under_plainId PyProof.Rows.F.plain_set_update_loop _]
  show m5 _ A.in1 (bh2 (.ref I) >>= _) _ _ s
  refine a4 (W.item i s _ _ hlt hst fun v s' hP hst' hm=>?_)
  obtain⟨x,k,rfl,hki,hok,hx⟩:=hkey i v hP
  have hup':∀ b o,hp.get? b=some o->s'.heap.get? b=some o:=fun b o e=>hm.heap b o (nw b o e) (hup b o e)
  have hS':=setKept (s':=s') hS hm.heap
  show m5 _ A.in1 (bi5 [Value.ref x] (setAdd S (.ref x)) >>= _) _ _ s'
  refine a4 (u7 ?_)
  have hlen:((keys.take i).foldl S2 []).length<300:=by
   have:=an2 (keys.take i) []
   rw[y9]at this
   simp only[ag5]at this
   omega
  refine aC1 hup' hu hS' hx hok hlen fun b h' tk htk hsb hS2=>?_
  have hS3:al5 prog w hp h' S ((keys.take (i+1)).foldl S2 []):=by
   rw[u6,hki,List.foldl_append]
   exact hS2
  refine a6 ⟨bi7 PyProof.Rows.F.plain_set_update_loop _,ih (i+1) _ (by omega) hlt (W.frame _ s' _ _ hst' htk fun b hb o e=>?_) (fun b o e=>?_) hS3 fun s'' hm'' hS''=>?_⟩
  ·rw[hsb.2 b (fun h:b=S=>hSf (h ▸ hb))];exact e
  ·show h'.get? b=some o
   rw[hsb.2 b (nS b o e)]
   exact hup' b o e
  ·refine hR s'' (Moved.trans W.gtrans ((hm.mono hsub).then_heap htk fun b o hb e=>?_) hm'') hS''
   rw[hsb.2 b (fun h:b=S=>hb (h ▸ b4))];exact e
set_option maxRecDepth 100000 in
set_option maxHeartbeats 3200000 in
theorem aC0 {items:Array Value}{keys:List (List Int)}(hh:A.handled=none)(hu:A.units+8<G0)(hl:s.heap.IsList l items)(hn:keys.length=items.size)(hb:items.size<300)
  (hkey:∀ (i:Nat) (v:Value),items[i]?=some v->∃ x k,v=.ref x/\keys[i]?=some k/\aj5 k/\E2 (m9 prog w) s.heap k x)
  (h:∀ (h':Heap) (tk:Nat),al5 prog w s.heap h' s.heap.objs.size (keys.foldl S2 [])->(∀ b o,s.heap.get? b=some o->h'.get? b=some o)->Q (.ref s.heap.objs.size) { s with heap:=h',toks:=tk }) :
  m5 (m7 prog w) A (call (.type "set") [.ref l]) Q E s:=by
 obtain⟨c,tl,hmro⟩:=F.called_set.mro
 have hmade:=F.called_set.made
 have hsub:=F.called_set.sub
 refine wpAny_call (codeAny_of_tree ?_)
 show m5 _ _ (callAny (.type "set") _) _ _ _
 refine a6 ⟨Code.quiet_builtin _ (by decide +kernel),ak8 F.entry_type_call ?_⟩
 rw[Around.under_plain (bs1 "set" [.ref l] []) rfl]
 have h1:=F.called_set.notType
 have h2:=F.called_set.canCreate
 have hct:=F.typeCall_set_1 (.ref l)
 repeat (any_goals (first | assumption | wp_step))
 refine V9 (code_set_new_1 (.ref l) (E:=E) (Q₁:=fun obj s₁=>∃ led:Bool,obj=.ref s.heap.objs.size/\s₁={ s with heap:=s.heap.push { cls:=.type "set",dict:=none,data:=.set #[] 0 (.fresh 0 0 led) } }) fun led=>⟨led,rfl,rfl⟩) fun r s₁ hr=>?_
 cases r with
 | error e=>exact hr
 | ok fl =>
  cases fl with
  | ret obj =>
   obtain⟨led,rfl,rfl⟩:=hr
   have hS:(s.heap.push { cls:=.type "set",dict:=none,data:=.set #[] 0 (.fresh 0 0 led) }).get? s.heap.objs.size=some { cls:=.type "set",dict:=none,data:=.set #[] 0 (.fresh 0 0 led) }:=l0 _ rfl
   have hT:Shared.TypeIs { s with heap:=s.heap.push { cls:=.type "set",dict:=none,data:=.set #[] 0 (.fresh 0 0 led) } } (.ref s.heap.objs.size) "set":=⟨_,hS,rfl⟩
   have hli:=F.called_set.init.lookup
   have hbi:=F.called_set.init.bind (.ref s.heap.objs.size)
   repeat (any_goals (first | assumption | wp_step))
   refine V9 (bA7 (R:=wants (fun r s₂=>r=.none/\∃ h' tk,s₂={ s with heap:=h',toks:=tk }/\al5 prog w s.heap h' s.heap.objs.size (keys.foldl S2 [])/\(∀ b o,s.heap.get? b=some o->h'.get? b=some o)) E) F.called_set.init.plain F.entry_set_init (check_set_init_1 hT ?_)) fun r₂ s₂ hr₂=>?_
   ·obtain⟨ol,hol,hcl,nl,hdl⟩:=hl
    obtain⟨ocls,odict,odata,oslots⟩:=ol
    simp only at hcl hdl
    subst hcl;subst hdl
    have hol':(s.heap.push { cls:=.type "set",dict:=none,data:=.set #[] 0 (.fresh 0 0 led) }).get? l=some { cls:=.type "list",dict:=odict,data:=.seq items nl,slots:=oslots }:=a5 _ hol
    have hsls:=F.sub_list_set
    have hslf:=F.sub_list_frozenset
    have hne:(Value.type "list" == Value.type "dict")=false:=by decide
    have hl1:(s.heap.push { cls:=.type "set",dict:=none,data:=.set #[] 0 (.fresh 0 0 led) }).IsList l items:=⟨_,hol',rfl,nl,rfl⟩
    unfold Builtin.«set.__init__» noKeywords Builtin.Frozenset.updateFrom
    generalize hPI:pyIter=PI
    wp_walk
    subst hPI
    refine az8 hl1 ?_
    refine a4 (wpAny_runValue ?_)
    have hlS:l<s.heap.objs.size:=d4 hol
    have hh3:A.in1.in1.in1.handled=none:=by simp[hh]
    have hneI:l≠(s.heap.push { cls:=.type "set",dict:=none,data:=.set #[] 0 (.fresh 0 0 led) }).objs.size:=by
     rw[B9];exact i9 (p6 hlS)
    have hSf:s.heap.objs.size∉[(s.heap.push { cls:=.type "set",dict:=none,data:=.set #[] 0 (.fresh 0 0 led) }).objs.size,l]:=by
     rw[B9];simp only[b7,a8,j4,or_false,not_or]
     exact⟨i9 (Nat.lt_succ_self _),N5 hlS⟩
    refine aB1 ((Walks.list hh3 _ l hneI items).toS) ?hu s.heap.objs.size hSf s.heap ?hn ?hw keys hn hb hkey (items.size - 0) 0 _ (by omega) (k9 _)
     ⟨⟨_,l0 _ rfl,rfl,rfl⟩,(hl1.push _)⟩ (fun b o e=>a5 _ (a5 _ e)) ?hS0 ?hR
    case hu=>show A.units+1+1+1<G0;omega
    case hn=>exact ai7 (c6 _)
    case hw =>
     intro b hb
     have e:b=(s.heap.push { cls:=.type "set",dict:=none,data:=.set #[] 0 (.fresh 0 0 led) }).objs.size:=by simpa using hb
     rw[e]
     exact ai7 (by rw[B9];exact P5 _)
    case hS0 =>
     have hget:((s.heap.push { cls:=.type "set",dict:=none,data:=.set #[] 0 (.fresh 0 0 led) }).push { cls:=.type "list_iterator",data:=.fields #[.ref l,.int 0 0] }).get? s.heap.objs.size
       = some { cls:=.type "set",dict:=none,data:=.set #[] 0 (.fresh 0 0 led) }:=a5 _ hS
     refine⟨_,_,_,_,hget,⟨rfl,rfl,rfl⟩,rfl,⟨rfl,rfl,?_,?_,.inl rfl,by show 0*5<7*3;decide,?_⟩,rfl,t5,(fun _ h=>nomatch h),(fun _ h=>nomatch h),(fun _ h=>nomatch h)⟩
     ·intro i j a b hij ea
      simp[SetTable.fresh]at ea
     ·intro i j ea
      simp[SetTable.fresh]at ea
     ·intro i e ea
      simp at ea
    case hR =>
     intro s' hm hS'
     obtain⟨h',g',d',tk',os'⟩:=s'
     have eg:g'=s.gens:=hm.gens
     have ed:d'=s.drawn:=hm.drawn
     have eo:os'=s.os:=hm.os
     subst eg;subst ed;subst eo
     show m5 _ _ _ _ _ _
     refine a6 ?_
     show m5 _ _ (ret Value.none) _ _ _
     refine a6 ⟨rfl,h',tk',rfl,hS',fun b o e=>?_⟩
     have hlt:=d4 e
     have hb1:b≠s.heap.objs.size:=i9 hlt
     have hb2:b≠(s.heap.push { cls:=.type "set",dict:=none,data:=.set #[] 0 (.fresh 0 0 led) }).objs.size:=by
      rw[B9];exact i9 (p6 hlt)
     exact hm.heap b o (by simp only[b7,a8,j4,or_false,not_or];exact⟨hb1,hb2⟩) (a5 _ (a5 _ e))
   ·cases r₂ with
    | error e=>exact hr₂
    | ok fl₂ =>
     cases fl₂ with
     | ret r =>
      obtain⟨rfl,h',tk,rfl,hS',hk'⟩:=hr₂
      repeat (any_goals (first | assumption | wp_step))
      exact h _ _ hS' hk'
     | _=>exact hr₂.elim
  | _=>exact hr.elim
theorem aK5 {S:Addr}{hp:Heap}(hS:al5 prog w hp s.heap S ks)(hn:ks.length<300)(h:∀ t tk,Q (.int ks.length t) { s with toks:=tk }) :
  m5 (m7 prog w) A (call (.builtin "len") [.ref S]) Q E s:=by
 obtain⟨o,es,ep,t,ho,hex,hd,T,hsz,_⟩:=hS
 refine call_len_set ho hex hd T.fits (by omega) ?_
 rw[hsz]
 exact h _ _
end Sett
namespace L2
open PySem PySem.Spec PyProof.Rows
def v7 (K:W.Frag)(H:Hp)(ys:List V)(ks:List (List Int)):Prop:=F8 (fun y k=>∃ a,y=V.ref a/\SqT K H a (k.map V.int)) ys ks
theorem v7.len {K:W.Frag}(t:v7 K H ys ks):ys.length=ks.length:=Paired.length t
theorem v7.get {K:W.Frag}:∀ {ys:List V} {ks:List (List Int)} {i:Nat} {y:V},v7 K H ys ks->ys[i]?=some y->∃ a k,y=V.ref a/\ks[i]?=some k/\SqT K H a (k.map V.int)
 | _,_,_,_,.nil,e=>by simp at e
 | _,_,0,_,.cons r _,e=>by
  simp at e
  subst e
  obtain⟨a,h1,h2⟩:=r
  exact⟨a,_,h1,rfl,h2⟩
 | _,_,i+1,y,.cons _ t,e=>by
  obtain⟨a,k,h1,h2,h3⟩:=v7.get (i:=i) (y:=y) t (by simpa using e)
  exact⟨a,k,h1,by simpa using h2,h3⟩
theorem v7.same {K:W.Frag}(hs:∀ b o,H b=some o->H' b=some o):∀ {ys:List V} {ks:List (List Int)},v7 K H ys ks->v7 K H' ys ks
 | _,_,.nil=>.nil
 | _,_,.cons r t=>by
  obtain⟨a,h1,h2⟩:=r
  refine .cons ⟨a,h1,?_⟩ (v7.same hs t)
  rcases h2 with(h | ⟨o,h⟩) | h
  ·exact .inl (.inl (hs _ _ h))
  ·exact .inl (.inr ⟨o,hs _ _ h⟩)
  ·exact .inr h
theorem v7.append {K:W.Frag}:∀ {ys zs:List V} {ks ls:List (List Int)},v7 K H ys ks->v7 K H zs ls->v7 K H (ys++zs) (ks++ls)
 | _,_,_,_,.nil,s=>s
 | _,_,_,_,.cons r t,s=>.cons r (v7.append t s)
theorem aE7:∀ {k:List Int} {its:List Value},x9 (k.map V.int) its->ItemsAre (m9 prog w) k its
 | [],_,.nil=>.nil
 | i::k,_,.cons r t=>by
  obtain⟨tk,rfl⟩:=r
  exact .cons (by simp[m9,Value.isInt]) (aE7 t)
theorem bj6 (I:Inv X pins σ H s)(h:SqT X.K H a (k.map V.int)):E2 (m9 X.prog X.w) s.heap k a:=by
 obtain⟨its,r,⟨o,ho,hc,n,hd⟩,_⟩:=I.tuple h
 exact⟨o,its.toArray,n,ho,hc,hd,by simpa using aE7 r⟩
theorem ab4 (I:Inv X pins σ H s):∀ {ys:List V} {ks:List (List Int)} {us:List Value},v7 X.K H ys ks->x9 ys us->F8 (fun u k=>∃ a,u=Value.ref a/\E2 (m9 X.prog X.w) s.heap k a) us ks
 | _,_,_,.nil,.nil=>.nil
 | _,_,_,.cons r t,.cons q v=>by
  obtain⟨a,rfl,h⟩:=r
  cases q
  exact .cons ⟨a,rfl,bj6 I h⟩ (ab4 I t v)
theorem A8 {α β:Type}{R:α->β->Prop}:∀ {l:List α} {m:List β} {i:Nat} {x:α},F8 R l m->l[i]?=some x->∃ y,m[i]?=some y/\R x y
 | _,_,_,_,.nil,e=>by simp at e
 | _,_,0,_,.cons r _,e=>by simp at e;subst e;exact⟨_,rfl,r⟩
 | _,_,i+1,x,.cons _ t,e=>by
  obtain⟨y,h1,h2⟩:=A8 (i:=i) (x:=x) t (by simpa using e)
  exact⟨y,by simpa using h1,h2⟩
theorem V3 {α β:Type}{R:α->β->Prop}{l l':List α}(p:l'.Perm l):∀ {m:List β},F8 R l m->∃ m',m'.Perm m/\F8 R l' m':=by
 induction p with
 | nil=>intro m h;exact⟨m,List.Perm.refl _,h⟩
 | cons x _ ih =>
  intro m h
  cases h with
  | cons r t =>
   obtain⟨m',p',h'⟩:=ih t
   exact⟨_::m',p'.cons _,.cons r h'⟩
 | swap x y l =>
  intro m h
  cases h with
  | cons r t =>
   cases t with
   | cons r' t'=>exact⟨_::_::_,List.Perm.swap _ _ _,.cons r' (.cons r t')⟩
 | trans _ _ ih1 ih2 =>
  intro m h
  obtain⟨m1,p1,h1⟩:=ih2 h
  obtain⟨m2,p2,h2⟩:=ih1 h1
  exact⟨m2,p2.trans p1,h2⟩
theorem N9 {α β:Type}{R:α->β->Prop}:∀ {l:List α} {m:List β},F8 R l m->F8 (fun b a=>R a b) m l
 | _,_,.nil=>.nil
 | _,_,.cons r t=>.cons r (N9 t)
theorem aa7:P3 X (.builtin "sorted") (fun xs H Q=>∃ p ys ks,xs=[.ref p]/\SqL X.K H p ys/\v7 X.K H ys ks/\(∀ k∈ks,k≠[]) /\
  ∀ l zs ks',H l=none->ks'.Perm ks->ks'.Pairwise (fun a b=>Tim.F4 b a=false)->v7 X.K (upd H l (.lst zs)) zs ks'->Q (.ref l) (upd H l (.lst zs))):=by
 intro pins s σ H xs us Q I r h
 obtain⟨p,ys,ks,rfl,hq,ht,hne,q⟩:=h
 obtain⟨u,rfl,rx⟩:=vals1 r
 cases rx
 obtain⟨its,r',pl,hz⟩:=I.list hq
 have hlen:=r'.length
 have hk:=ab4 I ht r'
 have hv:∀ v∈its,∃ i k,Tim.IsK X.prog X.w s.heap (i::k) v:=fun v hv=>by
  obtain⟨j,hj⟩:=i8.mp hv
  obtain⟨k,h1,a,rfl,h2⟩:=A8 hk hj
  cases k with
  | nil=>exact absurd rfl (hne [] (c8 h1))
  | cons i k=>exact⟨i,k,a,rfl,h2⟩
 refine Tim.ar8 pl.isList (by omega) hv fun out h' n hp hs kp e=>?_
 obtain⟨zs,pz,rz⟩:=V3 hp (N9 r')
 have rz':x9 zs out:=N9 rz
 have hzl:zs.length<=d7:=by rw[pz.length_eq];exact hz
 have hfr:H (s.heap.objs.size+1)=none:=I.hok.fresh (P5 _)
 have keepS:∀ b o,H b=some o->upd H (s.heap.objs.size+1) (.lst zs) b=some o:=fun b o e=>by rw[o6 (u9 e hfr)];exact e
 refine⟨.ref (s.heap.objs.size+1),upd H (s.heap.objs.size+1) (.lst zs),I.laid (t':=s.toks) kp (P5 _) (show D1 X.prog X.w _ h' _ (.lst zs) from ⟨hzl,out,n,rz',e⟩),rfl,?_⟩
 obtain⟨ks',pk,hk'⟩:=V3 pz (show F8 (fun y k=>∃ a,y=V.ref a/\SqT X.K H a (k.map V.int)) ys ks from ht)
 refine q _ zs ks' hfr pk ?_ (v7.same keepS hk')
 have hko:=ab4 I (show v7 X.K H zs ks' from hk') rz'
 have eq:ks'=out.map (Tim.W7 X.prog X.w s.heap):=by
  clear hs hp rz rz' hk' pk e
  induction hko with
  | nil=>rfl
  | cons r t ih =>
   obtain⟨a,rfl,hka⟩:=r
   rw[j8,Tim.aa3 ⟨a,rfl,hka⟩,<- ih]
 rw[eq,A0]
 exact hs
def aM0 (P:Program)(w:World)(S:Addr)(n:Nat):HO:=.ext fun h=>∃ hk ks,ks.length=n/\n<300/\Sett.al5 P w hk h S ks
theorem aG2 (hc:X.calm=true)(hu:X.A.units+8<G0):P3 X (.type "set") (fun xs H Q=>∃ p ys ks,xs=[.ref p]/\SqL X.K H p ys/\v7 X.K H ys ks/\(∀ k∈ks,Sett.aj5 k)/\ks.length<300 /\
  ∀ S,H S=none->Q (.ref S) (upd H S (aM0 X.prog X.w S (ks.foldl Sett.S2 []).length))):=by
 intro pins s σ H xs us Q I r h
 obtain⟨p,ys,ks,rfl,hq,ht,hok,hb,q⟩:=h
 obtain⟨u,rfl,rx⟩:=vals1 r
 cases rx
 obtain⟨its,r',pl,hz⟩:=I.list hq
 have hlen:=r'.length
 have hk:=ab4 I ht r'
 have hkl:=ht.len
 refine Sett.aC0 (keys:=ks) (I.ok.hd hc) hu pl.isList (by simp;omega) (by simp;omega) (fun i v hv=>?_) fun h' tk hS kp=>?_
 ·obtain⟨k,h1,a,rfl,h2⟩:=A8 hk (by simpa using hv)
  exact⟨a,k,rfl,h1,hok k (c8 h1),h2⟩
 ·have hle:=Sett.an2 ks []
  simp only[ag5]at hle
  refine⟨.ref s.heap.objs.size,_,I.laid (o:=aM0 X.prog X.w s.heap.objs.size (ks.foldl Sett.S2 []).length) (t':=tk) kp (c6 _) ?_,rfl,q _ (I.hok.fresh (c6 _))⟩
  refine⟨⟨s.heap,ks.foldl Sett.S2 [],rfl,by omega,hS⟩,?_,fun h1 h2 ⟨hk1,ks1,e1,e2,hS1⟩ hkeep=>⟨hk1,ks1,e1,e2,?_⟩⟩
  ·obtain⟨o,_,_,_,ho,_⟩:=hS
   exact⟨o,ho⟩
  ·obtain⟨o,es,ep,t,ho,rest⟩:=hS1
   exact⟨o,es,ep,t,hkeep o ho,rest⟩
theorem call_len_set:P3 X (.builtin "len") (fun xs H Q=>∃ S n,xs=[.ref S]/\H S=some (aM0 X.prog X.w S n)/\Q (.int n) H):=by
 intro pins s σ H xs us Q I r h
 obtain⟨S,n,rfl,hS,q⟩:=h
 obtain⟨u,rfl,rx⟩:=vals1 r
 cases rx
 obtain⟨⟨hk,ks,e1,e2,hS1⟩,_⟩:=I.hok S _ hS
 refine Sett.aK5 hS1 (by omega) fun t tk=>?_
 exact⟨.int n,H,I.tok _,⟨t,by rw[e1]⟩,q⟩
def B5 (X:Cx)(scope:Scope)(cl:List (Str × Addr))(N':List Str)(s₃:Shared)(H₃:Hp)(fp:List Addr)(xe':Value->Shared->Prop):Cx:=
 { X with N:=N',s₀:=s₃,H₀:=H₃,env:=G4 scope cl s₃.heap.objs.size X.env,outer:=X.stack,ex:=fp,fn:=fun _=>false,pn:=[],xe:=xe' }
def as3 (env:Env):List (Str × Addr)->Prop
 | []=>True
 | (x,c)::r=>env.cells.lookup x=some c/\as3 env r
theorem as3.get {env:Env}:∀ {cl:List (Str × Addr)} {x:Str} {c:Addr},as3 env cl->cl.lookup x=some c->env.cells.lookup x=some c
 | [],_,_,_,h=>by cases h
 | (y,d)::r,x,c,⟨h1,h2⟩,h=>by
  rw[P1]at h
  cases e:x == y with
  | true =>
   rw[e]at h
   cases h
   rw[eq_of_beq e]
   exact h1
  | false =>
   rw[e]at h
   exact as3.get h2 h
def aM3 (names:List (Str × am1))(cl:List (Str × Addr)):Bool:=names.all fun y=>y.2 != .cell && (y.2 != .free || (cl.lookup y.1).isSome)
theorem L7 {env:Env}:∀ {names:List (Str × am1)} {x:Str} {k:am1},(names.map fun(n,k)=>if (k == NameKind.free && env.scope.kind == .function && env.kindOf n == some .cell) then (n,NameKind.cell) else (n,k)).lookup x=some k ->
  ∃ k',(x,k')∈names/\(k'=k\/(k'=.free/\k=.cell))
 | [],_,_,h=>by cases h
 | (n,k0)::r,x,k,h=>by
  rw[j8]at h
  have hn:∀ k1,(List.lookup x ((n,k1)::r.map fun(n,k)=>if (k == NameKind.free && env.scope.kind == .function && env.kindOf n == some .cell) then (n,NameKind.cell) else (n,k)))=some k->(x=n/\k1=k)\/∃ k',(x,k')∈r/\(k'=k\/(k'=.free/\k=.cell)):=fun k1 h=>by
   rw[P1]at h
   cases e:x == n with
   | true=>rw[e]at h;cases h;exact .inl ⟨eq_of_beq e,rfl⟩
   | false=>rw[e]at h;exact .inr (L7 h)
  dsimp only at h
  by_cases hc:(k0 == NameKind.free && env.scope.kind == .function && env.kindOf n == some .cell)=true
  ·rw[if_pos hc]at h
   rcases hn _ h with⟨rfl,rfl⟩ | ⟨k',h1,h2⟩
   ·simp only[o7]at hc
    have e0:k0=.free:=eq_of_beq hc.1.1
    exact⟨k0,b4,.inr ⟨e0,rfl⟩⟩
   ·exact⟨k',b9 _ h1,h2⟩
  ·rw[if_neg hc]at h
   rcases hn _ h with⟨rfl,rfl⟩ | ⟨k',h1,h2⟩
   ·exact⟨k0,b4,.inl rfl⟩
   ·exact⟨k',b9 _ h1,h2⟩
def aa6 (lk:List (Option Nat))(σ:St):St:=lk.map fun o=>o.bind fun j=>(σ[j]?).join
def aM2 (X:Cx)(N':List Str)(lk:List (Option Nat))(scope:Scope)(cl:List (Str × Addr)):Prop:=
 lk.length=N'.length/\∀ (i j:Nat) (x:Str),N'[i]?=some x->lk[i]?=some (some j)->X.N[j]?=some x/\(X.env.scope.names.lookup x=some .cell\/X.env.scope.names.lookup x=some .free)/\(cl.lookup x).isSome=true /\
  ((G4 scope cl 0 X.env).kindOf x=some .cell\/(G4 scope cl 0 X.env).kindOf x=some .free)
theorem aq5 {H3:Hp}{s3:Shared}{h1:Heap}{tk:Nat}{xe':Value->Shared->Prop}{m0:Str->Option Value}
  (I:Inv X pins σ H3 s3)(hf:∀ b∈fp,ag3 X pins H3 b)(hkind:scope.kind=.function)(hcl:as3 X.env cl)(hfr:aM3 scope.names cl=true)(hlk:aM2 X N' lk scope cl)
  (hn:h1.Ns s3.heap.objs.size m0)(hk:∀ b u,s3.heap.get? b=some u->h1.get? b=some u)(hfs:∀ b∈fp,b<s3.heap.objs.size):Inv (B5 X scope cl N' s3 H3 fp xe') [] (aa6 lk σ) H3 { s3 with heap:=h1,toks:=tk }:=by
 have hC:H3 s3.heap.objs.size=none:=I.hok.fresh (c6 _)
 have hmem:∀ y∈scope.names,y.2≠.cell/\(y.2=.free->(cl.lookup y.1).isSome=true):=fun y hy=>by
  unfold aM3 at hfr
  rw[D9]at hfr
  have:=hfr y hy
  rw[o7]at this
  refine⟨by simpa using this.1,fun e=>?_⟩
  have h2:=this.2
  rw[e]at h2
  simpa using h2
 have hcell:∀ x c,cl.lookup x=some c->X.env.cells.lookup x=some c:=fun x c e=>hcl.get e
 have clt:∀ x c,cl.lookup x=some c->c<s3.heap.objs.size:=fun x c e=>by
  obtain⟨v,q⟩:=I.cell x c (hcell x c e)
  exact q.lt
 refine⟨⟨I.ok.mod,hkind,I.ok.glob,I.ok.blt,c6 _,fun x y c e1 e2=>I.ok.inj x y c (hcell x c e1) (hcell y c e2),fun x hx=>?_,(fun x c e=>by cases e),I.ok.hd,I.ok.frames,.inl rfl,fun b hb=>?_,fun b o e=>I.bs b o e,o5 I.ok.bsz I.sz,fun b o e hb=>?_,fun b hb z=>?_,I.stack,I.stkFree⟩,
  rfl,I.bare,Un.kept hk,⟨m0,hn,fun i x v e1 e2 e3=>?_⟩,fun x c e=>?_,hC,fun x c e=>?_,(fun p hp=>nomatch hp),I.hok.kept hk,?_⟩
 ·have hx':(relabel scope X.env).names.lookup x=some .cell\/(relabel scope X.env).names.lookup x=some .free:=hx
  have:∃ k',(x,k')∈scope.names/\k'=.free:=by
   rcases hx' with h | h
   ·obtain⟨k',h1,h2⟩:=L7 h
    rcases h2 with h2 | h2
    ·exact absurd h2 (hmem _ h1).1
    ·exact⟨k',h1,h2.1⟩
   ·obtain⟨k',h1,h2⟩:=L7 h
    rcases h2 with h2 | h2
    ·exact⟨k',h1,h2⟩
    ·exact⟨k',h1,h2.1⟩
  obtain⟨k',h1,h2⟩:=this
  exact J6.mp ((hmem _ h1).2 h2)
 ·obtain⟨f0,f1,f2,f3,f4,f5⟩:=hf b hb
  exact⟨i9 (hfs b hb),fun x c e=>f4 x c (hcell x c e)⟩
 ·obtain⟨f0,f1,f2,f3,f4,f5⟩:=hf b hb
  rcases f3 with f3 | f3
  ·exact I.ok.noex b o e f3
  ·exact absurd (o4 (d4 e) (o5 I.ok.bsz f3)) (x6 _)
 ·obtain⟨f0,f1,f2,f3,f4,f5⟩:=hf b hb
  rcases b7.mp (I.stkSub b z) with e | e
  ·exact f1 e
  ·exact f2 e
 ·-- a captured name
  have e2':(aa6 lk σ)[i]?=some (some v):=e2
  unfold aa6 at e2'
  rw[j3]at e2'
  cases hq:lk[i]? with
  | none=>rw[hq]at e2';cases e2'
  | some o =>
   rw[hq]at e2'
   have e2'':(o.bind fun j=>(σ[j]?).join)=some v:=Option.some.inj e2'
   cases o with
   | none=>cases e2''
   | some j =>
    obtain⟨q1,q2,q3,q4⟩:=hlk.2 i j x e1 hq
    have hσ:σ[j]?=some (some v):=by
     have z:(σ[j]?).join=some v:=e2''
     cases hh:σ[j]? with
     | none=>rw[hh]at z;cases z
     | some o=>rw[hh]at z;rw[show o=some v from z]
    obtain⟨m,hnX,hl⟩:=I.loc
    obtain⟨u,r,lo⟩:=hl j x v q1 hσ (q2.elim (fun a=>.inr (.inl a)) (fun a=>.inr (.inr a)))
    refine⟨u,r,.inr ?_⟩
    obtain⟨c,hc⟩:=J6.mp q3
    refine⟨q4,c,hc,?_⟩
    have hcX:=hcell x c hc
    rcases lo with⟨k,_⟩ | ⟨_,c',hc',z⟩
    ·have k':X.env.scope.names.lookup x=some .local:=k
     rw[k']at q2
     rcases q2 with q2 | q2<;>cases q2
    ·rw[hcX]at hc'
     cases hc'
     obtain⟨o,ho,hd⟩:=z
     exact⟨o,hk c o ho,hd⟩
 ·obtain⟨v,o,ho,hd⟩:=I.cell x c (hcell x c e)
  exact⟨v,o,hk c o ho,hd⟩
 ·exact I.freeC x c (hcell x c e)
 ·show (aa6 lk σ).length=N'.length
  unfold aa6
  rw[b6]
  exact hlk.1
def PTs (X:Cx)(ifs:List Expr)(t:TT):Prop:=
 ∀ (pins:List (Addr × Obj)) (s:Shared) (σ:St) (H:Hp) (Q:Bool->Hp->Prop),Inv X pins σ H s->t σ H Q->m5 (m7 X.prog X.w) X.A (forIn ifs true fun c r=>if r=true then do let ok <- isTrue c X.env (eval c X.env);pure (ForInStep.yield ok) else pure (ForInStep.yield r)) (TP X pins σ Q) X.xe s
def bp6:TT:=fun _ H Q=>Q true H
theorem X9:PTs X [] bp6:=fun pins s σ H Q I h=>wpAny_tests_nil ⟨H,I,h⟩
theorem aw3 {c:Expr}{t:TT}(h:PT X c t):PTs X [c] t:=fun pins s σ H Q I q=>wpAny_tests_one (h pins s σ H Q I q)
def aN3 (wi:TI)(lk:List (Option Nat))(g:TG)(tt:TT)(te:TE):TE:=fun σ H Q=>wi σ H fun J H1=>∀ D,H1 D=none->∃ W:Nat->Nat->List V->St->Hp->Prop,(∃ m,W 0 m [] (aa6 lk σ) (upd H1 D (.lst [])))/\∀ i m xs σ' H',W i m xs σ' H' ->
 H' D=some (.lst xs)/\((J.stop i H'/\Q (.ref D) H')\/(J.go i H'/\xs.length<d7/\∀ x H'',J.yld i H' x H''->g x σ' H'' fun σ2 H2=>tt σ2 H2 fun b H3 =>
  if b=true then te σ2 H3 fun v H4=>H4 D=some (.lst xs)/\∃ m',m'<m/\W (i+1) m' (xs++[v]) σ2 (upd H4 D (.lst (xs++[v]))) else ∃ m',m'<m/\W (i+1) m' xs σ2 H3))
theorem ab5 {elt iter:Expr}{ifs:List Expr}{wi:TI}{g:TG}{tt:TT}(hc:X.calm=true)(hi:PI X tg iter wi)(hclos:bh5 scope X.env=pure cl)(hkind:scope.kind=.function)
  (hnames:∀ y∈scope.names,y.2=.local->scope.names.lookup y.1=some .local)(hcl:as3 X.env cl)(hfr:aM3 scope.names cl=true)(hlk:aM2 X N' lk scope cl)
  (hg:∀ s3 H3 fp,PG (B5 X scope cl N' s3 H3 fp fun _ _=>False) tg g)(ht:∀ s3 H3 fp,PTs (B5 X scope cl N' s3 H3 fp fun _ _=>False) ifs tt)(he:∀ s3 H3 fp,PE (B5 X scope cl N' s3 H3 fp fun _ _=>False) elt te)
  (hs:∀ x,U3 iter X.env x=pure x:=by intro _;rfl):PE X (.ListComp elt [⟨tg,iter,ifs,0⟩] scope pos) (aN3 wi lk g tt te):=by
 intro pins s σ H Q I h
 rw[eval_ListComp]
 have hcellN:∀ y∈scope.names,y.2≠.cell:=fun y hy=>by
  unfold aM3 at hfr
  rw[D9]at hfr
  have:=hfr y hy
  rw[o7]at this
  simpa using this.1
 refine ad2 (use:=none) rfl hs hclos hkind hnames (thn (hi pins s σ H _ I h) fun v s1 h1=>thn h1 fun itv s2 h2=>?_)
 obtain⟨it,fp,tn,J,H2,e,I2,T,st2,f2,q⟩:=h2
 subst e
 refine R7 ?_ (k9 _)
 have hD:H2 s2.heap.objs.size=none:=I2.hok.fresh (c6 _)
 have I3:=I2.lnew (ys:=[]) (its:=[]) (t':=s2.toks) .nil (k9 _)
 obtain⟨W,⟨m0,w0⟩,turn⟩:=q s2.heap.objs.size hD
 have fpl:∀ b∈fp,b<s2.heap.objs.size:=fun b hb=>by
  obtain⟨o,ho,_⟩:=T.obj 0 s2.heap st2 b hb
  exact d4 ho
 refine bA8 hcellN (by intro y hy;cases hy) (fun h1 hns1 hsb1=>?_) hkind
 dsimp only at hns1 hsb1 ⊢
 have e3:s2.heap.push { cls:=.type "list",dict:=none,data:=.seq ([]:List Value).toArray }=s2.heap.push { cls:=.type "list",data:=.seq ([]:List Value).toArray }:=rfl
 generalize hh3:s2.heap.push { cls:=.type "list",dict:=none,data:=.seq ([]:List Value).toArray }=h3 at *
 have I3':Inv X pins σ (upd H2 s2.heap.objs.size (.lst [])) { s2 with heap:=h3,toks:=s2.toks }:=I3
 have size3:h3.objs.size=s2.heap.objs.size+1:=by rw[<- hh3,B9]
 have f3:∀ b∈fp,ag3 X pins (upd H2 s2.heap.objs.size (.lst [])) b:=fun b hb=>by
  obtain⟨f0,fr⟩:=f2 b hb
  exact⟨by rw[o6 (i9 (fpl b hb))];exact f0,fr⟩
 have up:∀ b u,h3.get? b=some u->h1.get? b=some u:=fun b u eb=>by
  rw[hsb1.2 b (i9 (d4 eb))]
  exact a5 _ eb
 have I4:Inv (B5 X scope cl N' { s2 with heap:=h3,toks:=s2.toks } (upd H2 s2.heap.objs.size (.lst [])) fp fun _ _=>False) [] (aa6 lk σ) (upd H2 s2.heap.objs.size (.lst [])) { s2 with heap:=h1,toks:=s2.toks+([]:List (Str × Value)).length }:=
  aq5 (s3:={ s2 with heap:=h3,toks:=s2.toks }) I3' f3 hkind hcl hfr hlk hns1 up fun b hb=>by show b<h3.objs.size;rw[size3];exact p6 (fpl b hb)
 have st4:tn 0 h1:=T.keep 0 s2.heap h1 st2 fun b hb o eb=>up b o (by rw[<- hh3];exact a5 _ eb)
 have hCs:h3.objs.size=(G4 scope cl h3.objs.size X.env).locals:=rfl
 have stat:∀ {H':Hp},(∀ b∈fp,H' b=none)->∀ b∈fp,ag3 (B5 X scope cl N' { s2 with heap:=h3,toks:=s2.toks } (upd H2 s2.heap.objs.size (.lst [])) fp fun _ _=>False) [] H' b:=fun {H'} hn b hb=>by
  obtain⟨f0,f1,f2',f3',f4,f5⟩:=f3 b hb
  refine⟨hn b hb,?_,fun z=>?_,.inl hb,fun x c ex=>f4 x c (hcl.get ex),fun p hp=>nomatch hp⟩
  ·show b≠h3.objs.size
   rw[size3]
   exact i9 (p6 (fpl b hb))
  ·rcases b7.mp (I3'.stkSub b z) with q | q
   ·exact f1 q
   ·exact f2' q
 have fin:∀ (s':Shared) (σ':St) (H':Hp),Inv (B5 X scope cl N' { s2 with heap:=h3,toks:=s2.toks } (upd H2 s2.heap.objs.size (.lst [])) fp fun _ _=>False) [] σ' H' s'->Q (.ref s2.heap.objs.size) H' ->
   av6 (m7 X.prog X.w) X.A X.xe none (EP X pins σ Q) (.ref s2.heap.objs.size) h3.objs.size (.ok .next) s':=fun s' σ' H' I' q'=>by
  obtain⟨m,hm,_⟩:=id I'.loc
  have I5:Inv X pins σ H' s':=I3'.call' (ch:=fp) I'.os I'.base I'.hok I'.bare fun b hb=>by
   obtain⟨f0,f1,f2',f3',f4,f5⟩:=f3 b hb
   exact⟨f3',f1,f4,f5⟩
  refine⟨m,hm,fun h' hsb=>?_⟩
  refine⟨.ref s2.heap.objs.size,H',?_,rfl,q'⟩
  have hfc:H' h3.objs.size=none:=I'.free
  have hcl1:∀ b o,h3.get? b=some o->b≠h3.objs.size:=fun b o eb=>i9 (d4 eb)
  obtain⟨h0',g0,d0,t0,o0⟩:=s'
  refine I5.turned (t':=t0) (it:=h3.objs.size) (fun b o hb eb=>(hsb.2 b hb).trans eb) hfc ?_ (.inr I3'.sz) (fun x c ex z=>?_) (fun p hp z=>?_)
  ·exact N5 I3'.lt
  ·obtain⟨v',q2⟩:=I3'.cell x c ex
   exact absurd q2.lt (by rw[z];exact x6 _)
  ·exact absurd (d4 (I3'.pin p hp).1) (by rw[z];exact x6 _)
 have loop:∀ s5:Shared,s5={ s2 with heap:=h1,toks:=s2.toks+([]:List (Str × Value)).length } ->
   ak2 (m7 X.prog X.w) X.A (.compLoop (.ListComp elt [⟨tg,iter,ifs,0⟩] scope pos) 0 (.ref it) (.ref s2.heap.objs.size) (G4 scope cl h3.objs.size X.env)) (av6 (m7 X.prog X.w) X.A X.xe none (EP X pins σ Q) (.ref s2.heap.objs.size) h3.objs.size) s5:=by
  rintro s5 rfl
  refine bs2 rfl (fun n s'=>∃ i xs σ' H',Inv (B5 X scope cl N' { s2 with heap:=h3,toks:=s2.toks } (upd H2 s2.heap.objs.size (.lst [])) fp fun _ _=>False) [] σ' H' s'/\tn i s'.heap/\(∀ b∈fp,H' b=none)/\W i n xs σ' H')
   (fun n s6 hI=>?_) m0 ⟨0,[],aa6 lk σ,_,I4,st4,fun b hb=>(f3 b hb).1,w0⟩
  obtain⟨i,xs,σ6,H6,I6,st6,fr6,w6⟩:=hI
  show m5 _ X.A ((compTurn (.ListComp elt [⟨tg,iter,ifs,0⟩] scope pos) 0 (.ref it) (.ref s2.heap.objs.size) (G4 scope cl h3.objs.size X.env)).onRaise (fun x=>do noteFrame x (G4 scope cl h3.objs.size X.env);aS9 x)) _ _ s6
  refine bC3 ?_
  rw[bi8]
  refine a4 (X7 (a4 ?_))
  obtain⟨hD6,hw⟩:=turn i n xs σ6 H6 w6
  rcases hw with⟨stop,qn⟩ | ⟨go,hlen,step⟩
  ·refine thn (T.done (B5 X scope cl N' { s2 with heap:=h3,toks:=s2.toks } (upd H2 s2.heap.objs.size (.lst [])) fp fun _ _=>False) rfl rfl rfl hc i [] s6 σ6 H6 _ I6 (stat fr6) st6 stop) fun r s7 ⟨hr,I7⟩=>?_
   subst hr
   exact a6 (fin s7 σ6 H6 I7 qn)
  ·refine thn (T.item (B5 X scope cl N' { s2 with heap:=h3,toks:=s2.toks } (upd H2 s2.heap.objs.size (.lst [])) fp fun _ _=>False) rfl rfl rfl hc i [] s6 σ6 H6 _ I6 (stat fr6) st6 go) fun r s7 ⟨u,hr,h7⟩=>?_
   subst hr
   refine a4 (thn h7 fun _ s8 ⟨x,H8,I8,r8,y8,st8,fr8⟩=>?_)
   have I8':=I8.pinned (stat fr8) (T.obj _ _ st8)
   refine a4 (C4 (hg _ _ _ _ s8 σ6 H8 x u _ I8' r8 (step x H8 y8)) (fun _ s9 ⟨σ9,H9,I9,q9⟩=>?_) (fun _ _ z=>False.elim z))
   refine a4 (C4 (ht _ _ _ _ s9 σ9 H9 _ I9 q9) (fun ok s10 ⟨H10,I10,q10⟩=>?_) (fun _ _ z=>False.elim z))
   have again:∀ {σ':St} {H':Hp} {ys:List V} {s':Shared},Inv (B5 X scope cl N' { s2 with heap:=h3,toks:=s2.toks } (upd H2 s2.heap.objs.size (.lst [])) fp fun _ _=>False) ([]++ad6 fp s8.heap) σ' H' s'->(∃ m',m'<n/\W (i+1) m' ys σ' H') ->
     ∃ m',m'<n/\∃ i xs σ' H',Inv (B5 X scope cl N' { s2 with heap:=h3,toks:=s2.toks } (upd H2 s2.heap.objs.size (.lst [])) fp fun _ _=>False) [] σ' H' s'/\tn i s'.heap/\(∀ b∈fp,H' b=none)/\W i m' xs σ' H':=fun {σ' H' ys s'} I' ⟨m',hm,w'⟩=>by
    refine⟨m',hm,i+1,ys,σ',H',I'.unpinned,T.keep _ _ _ st8 fun b hb o eb=>(I'.pin (b,o) (d6 _ (d6 _ (L6 hb eb)))).1,fun b hb=>?_,w'⟩
    obtain⟨o,eb,_⟩:=T.obj _ _ st8 b hb
    exact(I'.pin (b,o) (d6 _ (d6 _ (L6 hb eb)))).2.1
   cases ok with
   | false =>
    have q10':∃ m',m'<n/\W (i+1) m' xs σ9 H10:=by simpa using q10
    exact a6 ⟨rfl,again I10 q10'⟩
   | true =>
    rw[if_pos rfl]at q10
    refine a4 (a4 (C4 (he _ _ _ _ s10 σ9 H10 _ I10 q10) (fun y s11 ⟨v11,H11,I11,r11,hD11,q11⟩=>?_) (fun _ _ z=>False.elim z)))
    refine a4 (C4 (L9 (X:=B5 X scope cl N' { s2 with heap:=h3,toks:=s2.toks } (upd H2 s2.heap.objs.size (.lst [])) fp fun _ _=>False) _ s11 σ9 H11 (.ref s2.heap.objs.size) [v11] (.ref s2.heap.objs.size) [y] (fun _ H'=>∃ m',m'<n/\W (i+1) m' (xs++[v11]) σ9 H') I11 rfl (.cons r11 .nil) ⟨s2.heap.objs.size,xs,v11,rfl,rfl,hD11,hlen,q11⟩) (fun _ s12 ⟨_,H12,I12,_,q12⟩=>?_) (fun _ _ z=>False.elim z))
    exact a6 (a6 ⟨rfl,again I12 q12⟩)
 exact ah1 (loop _ rfl) (T.self X.A 0 _ _ _ st4 (loop _ rfl))
theorem ai4 {K:W.Frag}{D:Addr}{g:TG}{tt:TT}{Qd:Hp->Prop}{σ0:St}{H0:Hp}(Pv:Nat->List V->St->Hp->Prop)(h0:Pv 0 [] σ0 H0)(hz:ys.length<=d7)(hl:∀ i xs σ H,i<=ys.length->Pv i xs σ H->SqL K H a ys/\H D=some (.lst xs)/\xs.length<=i)
  (hs:∀ i xs x σ H (N:List V->St->Hp->Prop),(∀ xs' σ' H',Pv (i+1) xs' σ' H'->N xs' σ' H')->ys[i]?=some x->Pv i xs σ H->g x σ H fun σ2 H2=>tt σ2 H2 fun b H3=>if b=true then te σ2 H3 fun v H4=>H4 D=some (.lst xs)/\N (xs++[v]) σ2 (upd H4 D (.lst (xs++[v]))) else N xs σ2 H3)
  (hd:∀ xs σ H,Pv ys.length xs σ H->Qd H) :
  ∃ W:Nat->Nat->List V->St->Hp->Prop,(∃ m,W 0 m [] σ0 H0)/\∀ i m xs σ' H',W i m xs σ' H'->H' D=some (.lst xs)/\(((Itl K a).stop i H'/\Qd H')\/((Itl K a).go i H'/\xs.length<d7/\∀ x H'',(Itl K a).yld i H' x H''->g x σ' H'' fun σ2 H2=>tt σ2 H2 fun b H3 =>
   if b=true then te σ2 H3 fun v H4=>H4 D=some (.lst xs)/\∃ m',m'<m/\W (i+1) m' (xs++[v]) σ2 (upd H4 D (.lst (xs++[v]))) else ∃ m',m'<m/\W (i+1) m' xs σ2 H3)):=by
 refine⟨fun i m xs σ H=>m=ys.length - i/\i<=ys.length/\Pv i xs σ H,⟨ys.length,by simp,k9 _,h0⟩,?_⟩
 rintro i m xs σ H ⟨rfl,hi,p⟩
 obtain⟨q,hD,hx⟩:=hl i xs σ H hi p
 refine⟨hD,?_⟩
 by_cases hlt:i<ys.length
 ·refine .inr ⟨⟨ys,ys[i],q,by simp[hlt]⟩,by omega,fun x H'' y=>?_⟩
  obtain⟨e,y⟩:=y
  subst e
  exact hs i xs x σ _ (fun zs σ' H'=>∃ m',m'<ys.length - i/\m'=ys.length - (i+1)/\i+1<=ys.length/\Pv (i+1) zs σ' H') (fun zs σ' H' r=>⟨_,by omega,rfl,hlt,r⟩) (y ys q) p
 ·have e:i=ys.length:=by omega
  subst e
  exact .inl ⟨⟨ys,q,c6 _⟩,hd xs σ H p⟩
theorem aq4 {K:W.Frag}{D:Addr}{g:TG}{tt:TT}{Qd:Hp->Prop}{σ0:St}{H0:Hp}(Pv:Nat->List V->St->Hp->Prop)(h0:Pv 0 [] σ0 H0)(hz:ys.length<=d7)(hl:∀ i xs σ H,i<=ys.length->Pv i xs σ H->SqT K H a ys/\H D=some (.lst xs)/\xs.length<=i)
  (hs:∀ i xs x σ H (N:List V->St->Hp->Prop),(∀ xs' σ' H',Pv (i+1) xs' σ' H'->N xs' σ' H')->ys[i]?=some x->Pv i xs σ H->g x σ H fun σ2 H2=>tt σ2 H2 fun b H3=>if b=true then te σ2 H3 fun v H4=>H4 D=some (.lst xs)/\N (xs++[v]) σ2 (upd H4 D (.lst (xs++[v]))) else N xs σ2 H3)
  (hd:∀ xs σ H,Pv ys.length xs σ H->Qd H) :
  ∃ W:Nat->Nat->List V->St->Hp->Prop,(∃ m,W 0 m [] σ0 H0)/\∀ i m xs σ' H',W i m xs σ' H'->H' D=some (.lst xs)/\(((Itt K a).stop i H'/\Qd H')\/((Itt K a).go i H'/\xs.length<d7/\∀ x H'',(Itt K a).yld i H' x H''->g x σ' H'' fun σ2 H2=>tt σ2 H2 fun b H3 =>
   if b=true then te σ2 H3 fun v H4=>H4 D=some (.lst xs)/\∃ m',m'<m/\W (i+1) m' (xs++[v]) σ2 (upd H4 D (.lst (xs++[v]))) else ∃ m',m'<m/\W (i+1) m' xs σ2 H3)):=by
 refine⟨fun i m xs σ H=>m=ys.length - i/\i<=ys.length/\Pv i xs σ H,⟨ys.length,by simp,k9 _,h0⟩,?_⟩
 rintro i m xs σ H ⟨rfl,hi,p⟩
 obtain⟨q,hD,hx⟩:=hl i xs σ H hi p
 refine⟨hD,?_⟩
 by_cases hlt:i<ys.length
 ·refine .inr ⟨⟨ys,ys[i],q,by simp[hlt]⟩,by omega,fun x H'' y=>?_⟩
  obtain⟨e,y⟩:=y
  subst e
  exact hs i xs x σ _ (fun zs σ' H'=>∃ m',m'<ys.length - i/\m'=ys.length - (i+1)/\i+1<=ys.length/\Pv (i+1) zs σ' H') (fun zs σ' H' r=>⟨_,by omega,rfl,hlt,r⟩) (y ys q) p
 ·have e:i=ys.length:=by omega
  subst e
  exact .inl ⟨⟨ys,q,c6 _⟩,hd xs σ H p⟩
mutual
def Dt (K:W.Frag)(H:Hp):X4->V->Prop
 | .none,v=>v=.non
 | .bool b,v=>v=.bl b
 | .int i,v=>v=.int i
 | .str x,v=>v=.str x
 | .list ds,v=>∃ a xs,v=.ref a/\SqL K H a xs/\A1 K H ds xs
 | .tuple ds,v=>∃ a xs,v=.ref a/\SqT K H a xs/\A1 K H ds xs
 | .dict _,_=>False
def A1 (K:W.Frag)(H:Hp):List X4->List V->Prop
 | [],xs=>xs=[]
 | d::ds,xs=>∃ y ys,xs=y::ys/\Dt K H d y/\A1 K H ds ys
end
mutual
theorem Dt.reads (I:Inv X pins σ H s):∀ (d:X4) (v:V) (u:Value),Dt X.K H d v->RelV v u->∃ as,Reads s.heap u d as
 | .none,v,u,h,r=>by unfold Dt at h;subst h;cases r;exact⟨_,.none⟩
 | .bool b,v,u,h,r=>by unfold Dt at h;subst h;cases r;exact⟨_,.bool b⟩
 | .int i,v,u,h,r=>by unfold Dt at h;subst h;obtain⟨t,rfl⟩:=r;exact⟨_,.int i t⟩
 | .str x,v,u,h,r=>by unfold Dt at h;subst h;obtain⟨t,rfl⟩:=r;exact⟨_,.str x t⟩
 | .list ds,v,u,h,r=>by
  unfold Dt at h
  obtain⟨a,xs,rfl,hq,hd⟩:=h
  cases r
  obtain⟨its,rv,⟨o,n,ho,hc,_,hdd⟩,_⟩:=I.list hq
  obtain⟨as,ra⟩:=A1.reads I ds xs its hd rv
  exact⟨_,.list ho hc hdd (by simpa using ra)⟩
 | .tuple ds,v,u,h,r=>by
  unfold Dt at h
  obtain⟨a,xs,rfl,hq,hd⟩:=h
  cases r
  obtain⟨its,rv,⟨o,ho,hc,n,hdd⟩,_⟩:=I.tuple hq
  obtain⟨as,ra⟩:=A1.reads I ds xs its hd rv
  exact⟨_,.tuple ho hc hdd (by simpa using ra)⟩
 | .dict _,v,u,h,r=>by unfold Dt at h;exact h.elim
theorem A1.reads (I:Inv X pins σ H s):∀ (ds:List X4) (xs:List V) (us:List Value),A1 X.K H ds xs->x9 xs us->∃ as,bi9 s.heap us ds as
 | [],xs,us,h,r=>by unfold A1 at h;subst h;cases r;exact⟨_,.nil⟩
 | d::ds,xs,us,h,r=>by
  unfold A1 at h
  obtain⟨y,ys,rfl,h1,h2⟩:=h
  cases r with
  | cons q t =>
   obtain⟨as,ra⟩:=Dt.reads I d y _ h1 q
   obtain⟨bs,rb⟩:=A1.reads I ds ys _ h2 t
   exact⟨_,.cons ra rb⟩
end
mutual
theorem Dt.same {K:W.Frag}(hs:∀ b o,H b=some o->H' b=some o):∀ (d:X4) (v:V),Dt K H d v->Dt K H' d v
 | .none,v,h=>by unfold Dt at h ⊢;exact h
 | .bool b,v,h=>by unfold Dt at h ⊢;exact h
 | .int i,v,h=>by unfold Dt at h ⊢;exact h
 | .str x,v,h=>by unfold Dt at h ⊢;exact h
 | .list ds,v,h=>by
  unfold Dt at h ⊢
  obtain⟨a,xs,rfl,hq,hd⟩:=h
  refine⟨a,xs,rfl,?_,A1.same hs ds xs hd⟩
  rcases hq with(h | ⟨o,h⟩) | h
  ·exact .inl (.inl (hs _ _ h))
  ·exact .inl (.inr ⟨o,hs _ _ h⟩)
  ·exact .inr h
 | .tuple ds,v,h=>by
  unfold Dt at h ⊢
  obtain⟨a,xs,rfl,hq,hd⟩:=h
  refine⟨a,xs,rfl,?_,A1.same hs ds xs hd⟩
  rcases hq with(h | ⟨o,h⟩) | h
  ·exact .inl (.inl (hs _ _ h))
  ·exact .inl (.inr ⟨o,hs _ _ h⟩)
  ·exact .inr h
 | .dict _,v,h=>by unfold Dt at h;exact h.elim
theorem A1.same {K:W.Frag}(hs:∀ b o,H b=some o->H' b=some o):∀ (ds:List X4) (xs:List V),A1 K H ds xs->A1 K H' ds xs
 | [],xs,h=>by unfold A1 at h ⊢;exact h
 | d::ds,xs,h=>by
  unfold A1 at h ⊢
  obtain⟨y,ys,rfl,h1,h2⟩:=h
  exact⟨y,ys,rfl,Dt.same hs d y h1,A1.same hs ds ys h2⟩
end
def dP (k:List Int):X4:=.tuple (k.map .int)
theorem A1.ints {K:W.Frag}:∀ (k:List Int),A1 K H (k.map PyData.int) (k.map V.int)
 | []=>by unfold A1;rfl
 | i::k=>by
  rw[j8,j8]
  unfold A1
  exact⟨_,_,rfl,by unfold Dt;rfl,A1.ints k⟩
theorem A1.tups {K:W.Frag}:∀ {ys:List V} {ks:List (List Int)},v7 K H ys ks->A1 K H (ks.map dP) ys
 | _,_,.nil=>by unfold A1;rfl
 | _,_,.cons r t=>by
  obtain⟨a,rfl,h⟩:=r
  rw[j8]
  unfold A1
  refine⟨_,_,rfl,?_,A1.tups t⟩
  unfold dP Dt
  exact⟨a,_,rfl,h,A1.ints _⟩
theorem lay_ints:∀ k:List Int,PyData.canLayAll0 (k.map .int)=true
 | []=>by simp[PyData.canLayAll0]
 | i::k=>by rw[j8];simp[PyData.canLayAll0,PyData.canLay0,lay_ints k]
theorem S5:∀ ks:List (List Int),PyData.canLayAll0 (ks.map dP)=true
 | []=>by simp[PyData.canLayAll0]
 | k::ks=>by rw[j8];simp[PyData.canLayAll0,PyData.canLay0,dP,lay_ints k,S5 ks]
theorem af8:∀ k k':List Int,PyData.eqvAll (k.map .int) (k'.map .int)=decide (k=k')
 | [],[]=>by simp[PyData.eqvAll]
 | [],_::_=>by simp[PyData.eqvAll]
 | _::_,[]=>by simp[PyData.eqvAll]
 | i::k,j::k'=>by
  rw[j8,j8]
  simp only[PyData.eqvAll,PyData.eqv,af8 k k']
  by_cases h:i=j
  ·subst h;simp
  ·simp[h]
theorem ai2:∀ ks ks':List (List Int),PyData.eqvAll (ks.map dP) (ks'.map dP)=decide (ks=ks')
 | [],[]=>by simp[PyData.eqvAll]
 | [],_::_=>by simp[PyData.eqvAll]
 | _::_,[]=>by simp[PyData.eqvAll]
 | k::ks,k'::ks'=>by
  rw[j8,j8]
  simp only[PyData.eqvAll,PyData.eqv,dP,af8 k k']
  rw[ai2 ks ks']
  by_cases h:k=k'
  ·subst h;simp
  ·simp[h]
theorem af9:∀ k:List Int,PyData.depthAll (k.map .int)<=1
 | []=>by simp[PyData.depthAll]
 | i::k=>by
  have:=af9 k
  rw[j8]
  simp only[PyData.depthAll,PyData.depth]
  omega
theorem ai3:∀ ks:List (List Int),PyData.depthAll (ks.map dP)<=2
 | []=>by simp[PyData.depthAll]
 | k::ks=>by
  have h1:=af9 k
  have h2:=ai3 ks
  rw[j8]
  simp only[PyData.depthAll,PyData.depth,dP]at h2 ⊢
  omega
def ba9 (K:W.Frag)(A:Around)(neg:Bool):R2:=fun x y H Q=>∃ dx dy,Dt K H dx x/\Dt K H dy y/\dx.canLay0=true/\dy.canLay0=true/\A.units+min dx.depth dy.depth<G0/\Q (.bl (if neg then !PyData.eqv dx dy else PyData.eqv dx dy)) H
theorem aK2:OpR X (C1 .Eq) (ba9 X.K X.A false):=by
 intro pins s σ H x y v u Q I rx ry h
 obtain⟨dx,dy,h1,h2,h3,h4,h5,q⟩:=h
 obtain⟨as,ra⟩:=h1.reads I dx x v rx
 obtain⟨bs,rb⟩:=h2.reads I dy y u ry
 exact SeqAt.compareEq_reads ra rb h3 h4 h5 ⟨.bl _,H,I,rfl,q⟩
theorem bv5:OpR X (C1 .NotEq) (ba9 X.K X.A true):=by
 intro pins s σ H x y v u Q I rx ry h
 obtain⟨dx,dy,h1,h2,h3,h4,h5,q⟩:=h
 obtain⟨as,ra⟩:=h1.reads I dx x v rx
 obtain⟨bs,rb⟩:=h2.reads I dy y u ry
 exact SeqAt.compareNe_reads ra rb h3 h4 h5 ⟨.bl _,H,I,rfl,q⟩
def bk7 (K:W.Frag)(A:Around)(neg:Bool):R2:=fun x y H Q=>∃ p xs dx ds,y=.ref p/\(SqL K H p xs\/SqT K H p xs)/\Dt K H dx x/\A1 K H ds xs/\dx.canLay0=true/\PyData.canLayAll0 ds=true/\A.units+1+dx.depth<G0 /\
 Q (.bl (if neg then !ds.any (fun d=>PyData.eqv d dx) else ds.any (fun d=>PyData.eqv d dx))) H
open Classical in
noncomputable def ay4 (h:Heap)(dx:X4)(v:Value):Bool:=if q:∃ d as,d.canLay0=true/\Reads h v d as then PyData.eqv (Classical.choose q) dx else false
theorem ay3 {dx d:X4}{as:List Addr}(hl:d.canLay0=true)(r:Reads h v d as):ay4 h dx v=PyData.eqv d dx:=by
 unfold ay4
 have q:∃ d as,d.canLay0=true/\Reads h v d as:=⟨d,as,hl,r⟩
 rw[dif_pos q]
 obtain⟨as',h1,h2⟩:=Classical.choose_spec q
 rw[SeqAt.Reads.unique _ _ _ _ _ h1 h2 r]
theorem aq9 {dx:X4}:∀ {ds:List X4} {us:List Value} {as:List Addr},PyData.canLayAll0 ds=true->bi9 h us ds as->us.any (ay4 h dx)=ds.any (fun d=>PyData.eqv d dx)
 | _,_,_,_,.nil=>rfl
 | d::ds,u::us,_,hl,.cons r t=>by
  have hl':d.canLay0=true/\PyData.canLayAll0 ds=true:=by simpa [PyData.canLayAll0] using hl
  rw[N6,N6,ay3 hl'.1 r,aq9 hl'.2 t]
theorem ah6:∀ {ds:List X4} {us:List Value} {as:List Addr} {u:Value},PyData.canLayAll0 ds=true->bi9 h us ds as->u∈us->∃ d as,d.canLay0=true/\Reads h u d as
 | _,_,_,_,_,.nil,hu=>by cases hu
 | d::ds,_::us,_,u,hl,.cons r t,hu=>by
  have hl':d.canLay0=true/\PyData.canLayAll0 ds=true:=by simpa [PyData.canLayAll0] using hl
  rcases b7.mp hu with rfl | hu
  ·exact⟨d,_,hl'.1,r⟩
  ·exact ah6 hl'.2 t hu
theorem bv6:OpR X (C1 .In) (bk7 X.K X.A false):=by
 intro pins s σ H x y v u Q I rx ry h
 obtain⟨p,xs,dx,ds,rfl,hq,h1,h2,h3,h4,h5,q⟩:=h
 cases ry
 obtain⟨bs,rb⟩:=h1.reads I dx x v rx
 have he:∀ (its:List Value) (as:List Addr),bi9 s.heap its ds as->∀ y,y∈its.toArray->SeqAt.EqAt X.A.in1 s y v (ay4 s.heap dx y):=fun its as ra y hy=>by
  obtain⟨d,cs,hl,rd⟩:=ah6 h4 ra (by simpa using hy)
  rw[ay3 hl rd]
  refine SeqAt.eqAt_reads d dx X.A.in1 s y v cs bs rd rb hl h3 ?_
  show X.A.units+1+min d.depth dx.depth<G0
  omega
 rcases hq with hq | hq
 ·obtain⟨its,rv,pl,hz⟩:=I.list hq
  obtain⟨as,ra⟩:=h2.reads I ds xs its rv
  refine SeqAt.in_listAt (ay4 s.heap dx) pl.isList (he its as ra) ⟨.bl _,H,I,rfl,?_⟩
  rw[ac9,aq9 h4 ra]
  exact q
 ·obtain⟨its,rv,pl,hz⟩:=I.tuple hq
  obtain⟨as,ra⟩:=h2.reads I ds xs its rv
  refine SeqAt.in_tupleAt (ay4 s.heap dx) pl (he its as ra) ⟨.bl _,H,I,rfl,?_⟩
  rw[ac9,aq9 h4 ra]
  exact q
theorem aU5:OpR X (C1 .NotIn) (bk7 X.K X.A true):=by
 intro pins s σ H x y v u Q I rx ry h
 obtain⟨p,xs,dx,ds,rfl,hq,h1,h2,h3,h4,h5,q⟩:=h
 cases ry
 obtain⟨bs,rb⟩:=h1.reads I dx x v rx
 have he:∀ (its:List Value) (as:List Addr),bi9 s.heap its ds as->∀ y,y∈its.toArray->SeqAt.EqAt X.A.in1 s y v (ay4 s.heap dx y):=fun its as ra y hy=>by
  obtain⟨d,cs,hl,rd⟩:=ah6 h4 ra (by simpa using hy)
  rw[ay3 hl rd]
  refine SeqAt.eqAt_reads d dx X.A.in1 s y v cs bs rd rb hl h3 ?_
  show X.A.units+1+min d.depth dx.depth<G0
  omega
 rcases hq with hq | hq
 ·obtain⟨its,rv,pl,hz⟩:=I.list hq
  obtain⟨as,ra⟩:=h2.reads I ds xs its rv
  refine SeqAt.notIn_listAt (ay4 s.heap dx) pl.isList (he its as ra) ⟨.bl _,H,I,rfl,?_⟩
  rw[ac9,aq9 h4 ra]
  exact q
 ·obtain⟨its,rv,pl,hz⟩:=I.tuple hq
  obtain⟨as,ra⟩:=h2.reads I ds xs its rv
  refine SeqAt.notIn_tupleAt (ay4 s.heap dx) pl (he its as ra) ⟨.bl _,H,I,rfl,?_⟩
  rw[ac9,aq9 h4 ra]
  exact q
end L2
namespace L2
open PySem PySem.Spec PyProof.Rows
def LkL (X:Cx)(scope:Scope)(cl:List (Str × Addr)):List Str->List (Option Nat)->Prop
 | [],[]=>True
 | _::N,none::lk=>LkL X scope cl N lk
 | x::N,some j::lk=>(X.N[j]?=some x/\(X.env.scope.names.lookup x=some .cell\/X.env.scope.names.lookup x=some .free)/\(cl.lookup x).isSome=true /\
  ((G4 scope cl 0 X.env).kindOf x=some .cell\/(G4 scope cl 0 X.env).kindOf x=some .free))/\LkL X scope cl N lk
 | _,_=>False
theorem LkL.len:∀ {N:List Str} {lk:List (Option Nat)},LkL X scope cl N lk->lk.length=N.length
 | [],[],_=>rfl
 | _::N,none::lk,h=>congrArg (·+1) (LkL.len (N:=N) (lk:=lk) h)
 | _::N,some _::lk,h=>congrArg (·+1) (LkL.len (N:=N) (lk:=lk) h.2)
 | [],_::_,h=>h.elim
 | _::_,[],h=>h.elim
theorem LkL.get:∀ {N:List Str} {lk:List (Option Nat)},LkL X scope cl N lk->∀ (i j:Nat) (x:Str),N[i]?=some x->lk[i]?=some (some j) ->
  X.N[j]?=some x/\(X.env.scope.names.lookup x=some .cell\/X.env.scope.names.lookup x=some .free)/\(cl.lookup x).isSome=true/\((G4 scope cl 0 X.env).kindOf x=some .cell\/(G4 scope cl 0 X.env).kindOf x=some .free)
 | [],[],_,i,j,x,h1,_=>by simp at h1
 | _::N,none::lk,h,0,j,x,h1,h2=>by simp at h2
 | _::N,none::lk,h,i+1,j,x,h1,h2=>LkL.get (N:=N) (lk:=lk) h i j x (by simpa using h1) (by simpa using h2)
 | y::N,some k::lk,h,0,j,x,h1,h2=>by
  simp at h1 h2
  subst h1 h2
  exact h.1
 | _::N,some _::lk,h,i+1,j,x,h1,h2=>LkL.get (N:=N) (lk:=lk) h.2 i j x (by simpa using h1) (by simpa using h2)
 | [],_::_,h,_,_,_,_,_=>h.elim
 | _::_,[],h,_,_,_,_,_=>h.elim
theorem LkL.ok (h:LkL X scope cl N lk):aM2 X N lk scope cl:=⟨h.len,h.get⟩
theorem T4 {A B:Hp->Prop}(h:A H):bp6 σ H (fun b H3=>if b=true then A H3 else B H3):=by
 show if true=true then A H else B H
 exact W8 h
theorem o8 {v:V}{Q:St->Hp->Prop}(h:Q (σ.set i (some v)) H):aF2 i v σ H Q:=h
theorem SqT.updL {K:W.Frag}{zs:List V}(h:SqT K H a ys)(hl:H l=some (.lst xs)):SqT K (upd H l (.lst zs)) a ys:=by
 rcases h with(h | ⟨o,h⟩) | h
 ·exact .inl (.inl (by rw[o6 (ap2 h hl (by intro z;cases z))];exact h))
 ·exact .inl (.inr ⟨o,by rw[o6 (ap2 h hl (by intro z;cases z))];exact h⟩)
 ·exact .inr h
theorem v7.updL {K:W.Frag}{zs:List V}(hl:H l=some (.lst xs)):∀ {ys:List V} {ks:List (List Int)},v7 K H ys ks->v7 K (upd H l (.lst zs)) ys ks
 | _,_,.nil=>.nil
 | _,_,.cons r t=>by
  obtain⟨a,h1,h2⟩:=r
  exact .cons ⟨a,h1,h2.updL hl⟩ (v7.updL hl t)
theorem v7.one {K:W.Frag}(h:SqT K H a (k.map V.int)):v7 K H [.ref a] [k]:=.cons ⟨a,rfl,h⟩ .nil
theorem A5.seqT {K:W.Frag}(e:A5 H H')(h:SqT K H a xs):SqT K H' a xs:=by
 rcases h with(h | ⟨o,h⟩) | h
 ·exact .inl (.inl (e _ _ h))
 ·exact .inl (.inr ⟨o,e _ _ h⟩)
 ·exact .inr h
theorem A5.tups {K:W.Frag}(e:A5 H H')(h:v7 K H ys ks):v7 K H' ys ks:=v7.same e h
theorem A5.upd {o:HO}(e:A5 H H')(h:H l=none):A5 H (upd H' l o):=fun b u q=>by
 rw[o6 (u9 q h)]
 exact e b u q
end L2
namespace L2
open PySem
theorem aY0 {u d:Nat}(h:u+64<G0)(hd:d<=60):u+1+d<G0:=by omega
theorem aY1 {u d:Nat}(h:u+64<G0)(hd:d<=64):u+d<G0:=by omega
theorem Dt.mkInt {K:W.Frag}{i:Int}:Dt K H (.int i) (.int i):=by unfold Dt;rfl
theorem Dt.mkL {K:W.Frag}{ds:List X4}(h:SqL K H a xs)(d:A1 K H ds xs):Dt K H (.list ds) (.ref a):=by unfold Dt;exact⟨a,xs,rfl,h,d⟩
theorem Dt.mkT {K:W.Frag}{ds:List X4}(h:SqT K H a xs)(d:A1 K H ds xs):Dt K H (.tuple ds) (.ref a):=by unfold Dt;exact⟨a,xs,rfl,h,d⟩
theorem A1.mkN {K:W.Frag}:A1 K H [] []:=by unfold A1;rfl
theorem A1.mkC {K:W.Frag}{d:X4}{x:V}{ds:List X4}(h:Dt K H d x)(t:A1 K H ds xs):A1 K H (d::ds) (x::xs):=by unfold A1;exact⟨x,xs,rfl,h,t⟩
theorem ah8 {z:Int}{Q:St->Hp->Prop}(h:∀ c:Int,c=z->aF2 i (.int c) σ H Q):aF2 i (.int z) σ H Q:=h z rfl
theorem ae5 {p:Addr}{zs:List V}(hp:H p=some (.tup ys))(hl:H l=some (.lst xs)):upd H l (.lst zs) p=some (.tup ys):=by
 rw[o6 (ap2 hp hl (by intro z;cases z))]
 exact hp
theorem aQ8 (h:j<n):ixN n (j:Int)=some j:=by
 unfold ixN
 rw[if_pos (by omega),if_pos (by omega)]
 simp
theorem by6 (a b:List Int):PyData.eqv (dP a) (dP b)=decide (a=b):=by
 unfold dP
 simp only[PyData.eqv]
 exact af8 a b
theorem aL9 (k:List Int):∀ ks:List (List Int),(ks.map dP).any (fun d=>PyData.eqv d (dP k))=decide (k∈ks)
 | []=>by simp
 | l::ks=>by
  rw[j8,N6,by6,aL9 k ks]
  by_cases h:l=k
  ·subst h;simp
  ·have h':k≠l:=fun e=>h e.symm
   simp[h,h']
theorem bd3 (k:List Int):(dP k).canLay0=true:=by simp[dP,PyData.canLay0,lay_ints]
theorem bf6 (k:List Int):(dP k).depth<=2:=by
 have:=af9 k
 simp only[dP,PyData.depth]
 omega
theorem Dt.mkP {K:W.Frag}(h:SqT K H a (k.map V.int)):Dt K H (dP k) (.ref a):=by
 unfold dP
 exact Dt.mkT h (A1.ints k)
theorem bd2 (k:List Int):(PyData.list (k.map .int)).canLay0=true:=by simp[PyData.canLay0,lay_ints]
theorem bz1 (k:List Int):(PyData.list (k.map .int)).depth<=2:=by
 have:=af9 k
 simp only[PyData.depth]
 omega
theorem by5 (a b:List Int):PyData.eqv (.list (a.map .int)) (.list (b.map .int))=decide (a=b):=by
 simp only[PyData.eqv]
 exact af8 a b
theorem Dt.mkLi {K:W.Frag}(h:SqL K H a (k.map V.int)):Dt K H (.list (k.map .int)) (.ref a):=Dt.mkL h (A1.ints k)
theorem v7.dtAll {K:W.Frag}(t:v7 K H ys ks):A1 K H (ks.map dP) ys:=A1.tups t
def dW (n:Int)(ks:List (List Int)):X4:=.tuple [.int n,.tuple (ks.map dP)]
theorem bF4 (n:Int)(ks:List (List Int)):(dW n ks).canLay0=true:=by simp[dW,PyData.canLay0,PyData.canLayAll0,S5]
theorem bG4 (n:Int)(ks:List (List Int)):(dW n ks).depth<=4:=by
 have:=ai3 ks
 simp only[dW,PyData.depth,PyData.depthAll]
 omega
theorem bF9 (n m:Int)(ks ls:List (List Int)):PyData.eqv (dW n ks) (dW m ls)=(decide (n=m) && decide (ks=ls)):=by
 simp only[dW,PyData.eqv,PyData.eqvAll,ai2,Bool.and_true]
 by_cases h:n=m
 ·subst h;simp
 ·simp[h]
end L2
namespace Web
open PySem L2
def bE2 (i m:Nat):List (List Int):=(n6 m).map fun(d:Nat)=>([(i:Int),(i:Int)+1+(d:Int)]:List Int)
def Y2 (n:Nat):List (List Int):=(n6 n).flatMap fun i=>bE2 i (n - (i+1))
def Up (n:Nat)(k:List Int):Prop:=∃ i j:Nat,i<j/\j<n/\k=[(i:Int),(j:Int)]
def Asc (ks:List (List Int)):Prop:=ks.Pairwise fun a b=>Tim.F4 a b=true
theorem aV0:∀ n:Nat,n<=24->(Y2 n).length<=276:=by decide +kernel
theorem aG9:∀ {ks ls:List (List Int)},Asc ks->ls.Perm ks->ls.Pairwise (fun a b=>Tim.F4 b a=false)->ls=ks
 | [],ls,_,p,_=>p.eq_nil
 | k::ks,[],_,p,_=>by
  have:=p.length_eq
  simp at this
 | k::ks,l::ls,h,p,q=>by
  have hkl:l=k:=by
   have h1:l∈k::ks:=p.mem_iff.mp b4
   have h2:k∈l::ls:=p.mem_iff.mpr b4
   rcases b7.mp h1 with e | e
   ·exact e
   ·rcases b7.mp h2 with e2 | e2
    ·exact e2.symm
    ·have a1:=(G8.mp h).1 l e
     have a2:=(G8.mp q).1 k e2
     rw[a1]at a2
     cases a2
  subst hkl
  rw[aG9 (G8.mp h).2 ((List.perm_cons _).mp p) (G8.mp q).2]
def up:List Int->List Int
 | [a,b]=>[if b<a then b else a,if b > a then b else a]
 | k=>k
theorem bC5 (h:Up n k):up k=k:=by
 obtain⟨i,j,h1,h2,rfl⟩:=h
 show [if (j:Int)<i then (j:Int) else i,if (j:Int) > i then (j:Int) else i]=_
 rw[if_neg (by omega),if_pos (by omega)]
theorem Up.key (h:Up n k)(hn:n<=24):Sett.aj5 k:=by
 obtain⟨i,j,h1,h2,rfl⟩:=h
 exact⟨i,j,by omega,by omega,rfl⟩
theorem Up.len (h:Up n k):k.length=2:=by
 obtain⟨i,j,h1,h2,rfl⟩:=h
 rfl
def aj6 (n:Nat)(k:List Int):Prop:=∃ i j:Nat,i<n/\j<n/\i≠j/\k=[(i:Int),(j:Int)]
theorem aj6.up (h:aj6 n k):Up n (up k):=by
 obtain⟨i,j,h1,h2,h3,rfl⟩:=h
 show Up n [if (j:Int)<i then (j:Int) else i,if (j:Int) > i then (j:Int) else i]
 by_cases h:i<j
 ·rw[if_neg (by omega),if_pos (by omega)]
  exact⟨i,j,h,h2,rfl⟩
 ·rw[if_pos (by omega),if_neg (by omega)]
  exact⟨j,i,by omega,h1,rfl⟩
theorem Up.ends (h:Up n k):aj6 n k:=by
 obtain⟨i,j,h1,h2,rfl⟩:=h
 exact⟨i,j,by omega,h2,by omega,rfl⟩
end Web
namespace L2
open PySem
def U4.around {k:Nat}{A:Around}(_:U4 k A):Around:=A
theorem aK0 (K:W.Frag)(A:Around)(hK:X.K=K)(hA:X.A=A):OpR X (C1 .NotIn) (bk7 K A true):=by subst hK hA;exact aU5
end L2
namespace L2
open PySem PySem.Spec PyProof.Rows
section
variable {es:List Expr} {to:TE} {t:TA} {name:Str} {apos cpos:Pos} {T id:String}
end
structure bK1 (base:Heap) (mg:Str->Option Value) (c P:Addr):Prop where
 hd:PySem.W.CodeHd base c P
 blt:base.BuiltinsAt mg P
 ne:i6≠P
theorem D1.there {o:HO}(x:D1 P w H h a o):∃ ob,h.get? a=some ob:=by
 cases o with
 | lst xs=>obtain⟨_,_,_,_,e⟩:=x;exact⟨_,e⟩
 | tup xs=>obtain⟨_,_,_,ob,e,_⟩:=x;exact⟨_,e⟩
 | dK kvs=>obtain⟨_,_,_,_,o,_,_,e,_⟩:=x;exact⟨_,e⟩
 | dT kvs=>obtain⟨_,_,_,_,o,_,_,e,_⟩:=x;exact⟨_,e⟩
 | set S n=>obtain⟨o,_,_,_,e,_⟩:=x;exact⟨_,e⟩
 | ins C dx fs=>obtain⟨_,_,_,e,_⟩:=x;exact⟨_,e⟩
 | own y=>obtain⟨ob,e⟩:=x;exact⟨ob,e⟩
 | xd fs=>obtain⟨_,⟨_,_,_,e,_⟩,_⟩:=x;exact⟨_,e⟩
 | rng lo hi=>obtain⟨_,_,_,e⟩:=x;exact⟨_,e⟩
 | frz ob u=>obtain⟨e,_⟩:=x;exact⟨_,e⟩
 | tbl ps=>exact⟨_,(show h.get? a=some _ from x)⟩
 | met f y=>exact⟨_,(show h.get? a=some _ from x)⟩
 | ext φ=>obtain⟨_,⟨ob,e⟩,_⟩:=x;exact⟨ob,e⟩
theorem HOk.stays (ok:HOk P w H h) (k:∀ b o,h.get? b=some o->H b≠none->h'.get? b=some o):HOk P w H h':=fun a o e =>
 (ok a o e).stay (fun b u hb q => k b u q (by
  rcases hb with z | z
  ·rw[z,e];simp
  ·rw[z];simp)) (fun _ q=>q) fun _ _ q=>q
def bH0 (outer:List Env)(x:Addr)(cls:Value)(h0:Heap)(H':Hp)(h':Heap):Prop:=
 ∃ (B:Heap) (a0:Value),Heap.FlyingW B outer x cls a0 h'/\∀ b o,h'.get? b=some o->(H' b≠none\/h0.get? b≠none)->b∉frs outer->B.get? b=some o
def CXE (P:Program)(w:World):CXT:=fun outer H s E e s' =>
 ∃ (x:Addr) (cls:Value) (H':Hp),e=.ref x/\s'.os=s.os/\aj9 s'.gens/\Un (frs outer) [] H H' s.heap s'.heap/\HOk P w H' s'.heap/\s.heap.get? x=none/\H' x=none/\bH0 outer x cls s.heap H' s'.heap/\E cls none H'
theorem Un.onto {fs:List Addr}{h'':Heap}(u:Un fs [] H H' h h')(stay:∀ b o,h'.get? b=some o->h.get? b≠none->b∉fs->h''.get? b=some o)
  (slots:∀ b o,h'.get? b=some o->h.get? b≠none->b∈fs->∃ sl,h''.get? b=some { o with slots:=sl }):Un fs [] H H' h h'' where
 keep:=fun b o e n hb hx=>stay b o (u.keep b o e n hb hx) (by rw[e];simp) hb
 slot:=fun b o e n hb hx=>by
  obtain⟨sl,e1⟩:=u.slot b o e n hb hx
  obtain⟨sl2,e2⟩:=slots b _ e1 (by rw[e];simp) hb
  exact⟨sl2,e2⟩
 free:=u.free
 there:=fun b o e hx=>by
  obtain⟨o',e1⟩:=u.there b o e hx
  by_cases hb:b∈fs
  ·obtain⟨sl,e2⟩:=slots b o' e1 (by rw[e];simp) hb
   exact⟨_,e2⟩
  ·exact⟨o',stay b o' e1 (by rw[e];simp) hb⟩
 tups:=u.tups
 frzs:=u.frzs
 tbls:=u.tbls
theorem ad3 {α:Type}{o:Option α}(h:o≠none):∃ x,o=some x:=by
 cases o with
 | none=>exact absurd rfl h
 | some x=>exact⟨x,rfl⟩
theorem be7 {env:Env}{L:Addr}(h:env.frame=some L):frs (env::outer)=L::frs outer:=by
 unfold frs
 rw[X1,h]
section
variable {K:W.Frag} {mg:Str->Option Value} {base:Heap} {cd:Value} {E:XK} {H1:Hp} {s1:Shared}
theorem bj2 {e:Addr}{cls:Value}{h2:Heap}(I:Inv (al3 (CXE P w) P w K mg base N qual scope f cd A outer s H E) pins σ H1 s1)(hx:Heap.MadeExcOf s1.heap h2 e cls vs)(hE:E cls none H1) :
  (al3 (CXE P w) P w K mg base N qual scope f cd A outer s H E).xe (.ref e) { s1 with heap:=h2 }:=by
 have hst:=I.stack
 have hfr:=I.ok.frames
 have hlt:=I.lt
 have hL:=I.free
 have hab:=I.ok.above
 have hbs:Un (frs outer) [] H H1 s.heap s1.heap:=I.base
 change s1.heap.FunFrames base (U0 qual scope s.heap.objs.size f cd::outer) at hst
 change (A.deeper (U0 qual scope s.heap.objs.size f cd)).frames=some (U0 qual scope s.heap.objs.size f cd::outer) at hfr
 change H1 s.heap.objs.size=none at hL
 have hff:frs (U0 qual scope s.heap.objs.size f cd::outer)=s.heap.objs.size::frs outer:=be7 rfl
 have hin:∀ env∈(U0 qual scope s.heap.objs.size f cd::outer),∀ b,env.frame=some b->b∈frs (U0 qual scope s.heap.objs.size f cd::outer):=fun env he b hb=>Y8.mpr ⟨env,he,hb⟩
 have old:∀ b,(H1 b≠none\/s.heap.get? b≠none)->b∉frs outer->∃ o,s1.heap.get? b=some o/\b∉frs (U0 qual scope s.heap.objs.size f cd::outer):=fun b hb hno=>by
  have hne:b≠s.heap.objs.size:=by
   rcases hb with z | z
   ·intro q;rw[q]at z;exact z hL
   ·obtain⟨o,z⟩:=ad3 z
    exact i9 (d4 z)
  have hex:∃ o,s1.heap.get? b=some o:=by
   rcases hb with z | z
   ·obtain⟨o,z⟩:=ad3 z
    exact(I.hok b o z).there
   ·obtain⟨o,z⟩:=ad3 z
    exact hbs.there b o z (by simp)
  obtain⟨o,ho⟩:=hex
  refine⟨o,ho,?_⟩
  rw[hff]
  intro hm
  rcases b7.mp hm with q | q
  ·exact hne q
  ·exact hno q
 have eNew:s.heap.get? e=none:=by
  cases q:s.heap.get? e with
  | none=>rfl
  | some o =>
   obtain⟨o',z⟩:=hbs.there e o q (by simp)
   rw[hx.new]at z
   cases z
 have eFree:H1 e=none:=by
  cases q:H1 e with
  | none=>rfl
  | some o =>
   obtain⟨o',z⟩:=(I.hok e o q).there
   rw[hx.new]at z
   cases z
 refine wpAny_leaves_madeW (base:=PySem.W.hideAll s1.heap (frs (U0 qual scope s.heap.objs.size f cd::outer))) hfr rfl (fun b o q=>PySem.W.of_hideAll _ q) (PySem.W.funFrames_hide hst hin) hx fun h' t x1 x2 x3 x4=>?_
 have stay:∀ b o,s1.heap.get? b=some o->(H1 b≠none\/s.heap.get? b≠none)->b∉frs outer->h'.get? b=some o:=fun b o ho hb hno=>by
  obtain⟨o',ho',hm⟩:=old b hb hno
  rw[ho]at ho'
  cases ho'
  exact x1.1 b o (PySem.W.hideAll_get _ ho hm)
 have frNone:∀ b∈frs outer,H1 b=none:=fun b hb=>I.stkFree b (by
  show b∈frs (U0 qual scope s.heap.objs.size f cd::outer)
  rw[hff]
  exact b9 _ hb)
 refine⟨e,cls,H1,rfl,I.os,I.bare,hbs.onto (fun b o ho hh hno=>stay b o ho (.inr hh) hno) (fun b o ho hh hm=>?_),I.hok.stays fun b o ho hh=>stay b o ho (.inl hh) fun hm=>hh (frNone b hm),eNew,eFree,⟨_,_,x1,fun b o ho hb hno=>?_⟩,hE⟩
 ·obtain⟨_,o',ho',hd⟩:=hst.mem (b:=b) (by
   show b∈frs (U0 qual scope s.heap.objs.size f cd::outer)
   rw[hff]
   exact b9 _ hm)
  rw[ho]at ho'
  cases ho'
  exact x4 b o (hx.keeps b o ho) hd
 ·obtain⟨o',ho',hm⟩:=old b hb hno
  have:=stay b o' ho' hb hno
  rw[ho]at this
  cases this
  exact PySem.W.hideAll_get _ ho' hm
end
theorem Fun.okX {K:W.Frag} {mg:Str->Option Value} {base:Heap} {st:Stmt} {k:Nat} {sp:Sp} (F:Fun K x qual st f fd) (S:A7 N ps (p5 st))
  (hbody : ∀ (cdv : Value) (A : Around) (outer : List Env) (s : Shared) (H : Hp) (vs : List V) (Q : VK) (E : XK), U4 k (A.deeper (U0 qual (p5 st) s.heap.objs.size f cdv)) -> sp vs H Q E ->
   ∃ t,PSs (al3 (CXE P w) P w K mg base N qual (p5 st) f cdv A outer s H E) (V7 st) t/\t { nx:=fun _ H'=>Q .non H',rt:=Q } (start N vs) H) (len:∀ vs H Q E,sp vs H Q E->vs.length=ps.length:=by intro _ _ _ _ h;repeat first | (obtain⟨rfl,_⟩:=h;rfl) | obtain⟨_,h⟩:=h):B6 P w K mg base (CXE P w) (k+1) f fd ps sp:=by
 obtain⟨oc,od,kV,doc,pm,an,cdv,ct,osl,rfl,lk,hcd⟩:=F.ex
 exact br0 lk hcd S len fun A outer s H vs Q E hr hsp=>hbody cdv A outer s H vs Q E hr hsp
structure bo6 (K:W.Frag) (C:Addr):Prop where
 q:PySem.W.excIn K C [.type "ValueError",.type "Exception",.type "BaseException",.type "object"] "ValueError.__new__"=true
abbrev bmV:List Value:=[.type "ValueError",.type "Exception",.type "BaseException",.type "object"]
theorem by3 {K:W.Frag}(KI:K.In h)(c:bo6 K C):∃ bm N nm q bs hd sn sub ab col dd k0 k1 k2 k3 k5 mN,h.get? C=some (excClassObj nm q C N bs bm hd sn sub ab col dd k0 k1 k2 k3 k5 "ValueError.__new__") /\
  h.Ns N mN/\mN "__init__"=none/\OwnTail h bmV bm:=by
 have z:=c.q
 revert z
 unfold PySem.W.excIn
 split
 ·rename_i d1 c1 s1 hl
  split
  ·rename_i D bm y0 y1 y2 y3 nn y5 e1 e2
   intro z
   rw[o7,o7,o7,o7,o7]at z
   obtain⟨⟨⟨⟨⟨z1,z2⟩,z3⟩,z4⟩,z5⟩,z6⟩:=z
   have z1':D=C:=beq_iff_eq.mp z1
   have z2':nn="ValueError.__new__":=beq_iff_eq.mp z2
   have z6':=beq_iff_eq.mp z6
   subst z1' z2'
   obtain⟨w1,w2,w3,w4,w5,w6,w7,w8,w9,w10,w11⟩:=c1
   dsimp only at e1 z3 z5 z6'
   subst e1
   have z3':w11=false:=by simpa using z3
   subst z3'
   have e3:s1=#[y0,y1,y2,y3,some (.builtin "ValueError.__new__"),y5]:=by
    obtain⟨l1⟩:=s1
    exact congrArg Array.mk e2
   subst e3
   exact⟨bm,w4,w1,w5,w2,w6,w7,w8,w9,w10,d1,y0,y1,y2,y3,y5,_,KI _ _ hl,.of_isNs (PySem.W.isNs_of_in KI z5),PySem.W.nsMap_none_of_in KI z5 z6',PySem.W.tail_of_in KI z4⟩
  ·intro z;cases z
 ·intro z;cases z
section
variable {K:W.Frag} {mg:Str->Option Value} {base:Heap} {cd:Value} {E:XK}
def bt6 (E:XK)(C:Addr):TS:=fun _ _ H=>E (.ref C) none H
theorem bb2 {txt:Str}{np cp ep:Pos}(hg:Gl (al3 (CXE P w) P w K mg base N qual scope f cd A outer s H E) x)(hm:mg x=some (.ref C))(c:bo6 K C)(hd:(x == ("__debug__":Str))=false:=by decide) :
  PS (al3 (CXE P w) P w K mg base N qual scope f cd A outer s H E) (.Raise (some (.Call (.Name x np) [.Constant (.str txt) j cp] [] ep)) none pos) (bt6 E C):=by
 intro pins s1 σ H1 D I hE
 have hh:(al3 (CXE P w) P w K mg base N qual scope f cd A outer s H E).A.handled=none:=I.ok.hd rfl
 obtain⟨bm,N',nm,q,bs,hdc,sn,sub,ab,col,dd,k0,k1,k2,k3,k5,mN,hC,hN,hni,T⟩:=by3 I.kIn c
 refine wpAny_Raise_call_subT (C:=C) (nm:=nm) (q:=q) (N:=N') (bs:=bs) (bm:=bm) (hdct:=hdc) (sn:=sn) (sub:=sub) (ab:=ab) (col:=col) (dd:=dd) (k0:=k0) (k1:=k1) (k2:=k2) (k3:=k3) (k5:=k5)
  PySem.F.excBase_ValueError (mN:=mN) (T.hasType (by decide +kernel)) hh rfl hni (ax5 I hg hm ⟨rfl,?_⟩ hd)
 refine Calls.evalArgs_plain ?_
 refine PyProof.Rows.spliced_more (Calls.Constant_str ?_)
 refine PyProof.Rows.spliced_none ⟨rfl,by show 1<=d7;decide,hC,hN,T,fun h' e hx=>?_⟩
 exact bj2 (I.tok _) hx hE
end
section
variable {pins':List (Addr × Obj)} {E:St->XK}
end
section
variable {CX:CXT} {k:Nat} {sp:Sp} {E:St->XK} {p:Pos} {es:List Expr} {t:TA}
end
end L2
set_option maxRecDepth 100000
namespace L2
open PySem PySem.Spec PyProof.Rows PySem.W
structure bK2 (K:W.Frag) (C:Addr):Prop where
 ga:findIn K (.ref C) "__getattribute__"=some (some (.builtin "BaseException.__getattribute__"))
 na:findIn K (.ref C) "__getattr__"=some none
 cl:findIn K (.ref C) "__class__"=some (some (.builtin "object.__class__"))
 sb:subIn K (.ref C) (.type "BaseException")=some true
 so:subIn K (.ref C) (.type "object")=some true
 cs:(clsIn K C).isSome=true
section
variable {g:Array GenState} {d:Drawn} {t:Nat} {os:OsState} {o:Obj} {K:W.Frag}
end
end L2
namespace L2
open PySem PySem.Spec PyProof.Rows
def bw0 (ns:List Int)(z:Int):List Int:=[-(ns.getD z.toNat 0),z]
def ole (ns:List Int)(x y:Int):Prop:=Tim.F4 (bw0 ns y) (bw0 ns x)=false
theorem aP2 {ns:List Int}{x y:Int}:ole ns x y↔(ns.getD y.toNat 0<ns.getD x.toNat 0\/(ns.getD x.toNat 0=ns.getD y.toNat 0/\x<=y)):=by
 unfold ole bw0 Tim.F4
 by_cases h:-(ns.getD y.toNat 0) = -(ns.getD x.toNat 0)
 ·rw[if_pos h]
  unfold Tim.F4
  by_cases h2:y=x
  ·rw[if_pos h2]
   simp only[Tim.F4,true_iff]
   exact .inr ⟨by omega,by omega⟩
  ·rw[if_neg h2,decide_eq_false_iff_not]
   constructor
   ·intro h3;exact .inr ⟨by omega,by omega⟩
   ·intro h3 h4;omega
 ·rw[if_neg h,decide_eq_false_iff_not]
  constructor
  ·intro h3;exact .inl (by omega)
  ·intro h3 h4;omega
def bE3 (i:Int)(n:Nat):List Int:=(List.range' 0 n).map fun k:Nat=>i+(k:Int)
theorem ad8 {lo:Int}{D:Addr}{g:TG}{tt:TT}{Qd:Hp->Prop}{σ0:St}{H0:Hp}(Pv:Nat->List V->St->Hp->Prop)(h0:Pv 0 [] σ0 H0)(hz:n<=d7)(hl:∀ i xs σ H,i<=n->Pv i xs σ H->H D=some (.lst xs)/\xs.length<=i)
  (hs:∀ i xs σ H (N:List V->St->Hp->Prop),(∀ xs' σ' H',Pv (i+1) xs' σ' H'->N xs' σ' H')->i<n->Pv i xs σ H->g (.int (lo+i)) σ H fun σ2 H2=>tt σ2 H2 fun b H3=>if b=true then te σ2 H3 fun v H4=>H4 D=some (.lst xs)/\N (xs++[v]) σ2 (upd H4 D (.lst (xs++[v]))) else N xs σ2 H3)
  (hd:∀ xs σ H,Pv n xs σ H->Qd H) :
  ∃ W:Nat->Nat->List V->St->Hp->Prop,(∃ m,W 0 m [] σ0 H0)/\∀ i m xs σ' H',W i m xs σ' H'->H' D=some (.lst xs)/\(((Itr lo n).stop i H'/\Qd H')\/((Itr lo n).go i H'/\xs.length<d7/\∀ x H'',(Itr lo n).yld i H' x H''->g x σ' H'' fun σ2 H2=>tt σ2 H2 fun b H3 =>
   if b=true then te σ2 H3 fun v H4=>H4 D=some (.lst xs)/\∃ m',m'<m/\W (i+1) m' (xs++[v]) σ2 (upd H4 D (.lst (xs++[v]))) else ∃ m',m'<m/\W (i+1) m' xs σ2 H3)):=by
 refine⟨fun i m xs σ H=>m=n - i/\i<=n/\Pv i xs σ H,⟨n,by simp,k9 _,h0⟩,?_⟩
 rintro i m xs σ H ⟨rfl,hi,p⟩
 obtain⟨hD,hx⟩:=hl i xs σ H hi p
 refine⟨hD,?_⟩
 by_cases hlt:i<n
 ·refine .inr ⟨hlt,by omega,fun x H'' y=>?_⟩
  obtain⟨e,y⟩:=y
  subst e y
  exact hs i xs σ _ (fun zs σ' H'=>∃ m',m'<n - i/\m'=n - (i+1)/\i+1<=n/\Pv (i+1) zs σ' H') (fun zs σ' H' r=>⟨_,by omega,rfl,hlt,r⟩) hlt p
 ·obtain rfl:i=n:=by omega
  exact .inl ⟨c6 _,hd xs σ H p⟩
end L2
set_option Elab.async false
set_option maxRecDepth 100000
namespace L2
open PySem PySem.Spec PyProof.Rows
section
variable (P:Program) (w:World)
end
section
variable {o:HO}
end
section
variable {x e:Addr} {o':HO}
end
section
variable {fs fs' ex ex':List Addr} {H1 H2:Hp} {h1 h2:Heap} {x e:Addr} {o:HO}
end
section
variable {σ:List (Option V)}
end
section
variable {a b:Expr} {tb:TE}
variable {tA tB':TT} {rest:List Expr}
end
section
variable {st:Stmt} {rest:List Stmt} {t u:TS}
end
section
variable {a b c:Expr} {tb tc:TE}
end
section
variable {a b c:Expr} {tb tc:TE}
end
section
variable {K:W.Frag} {x dx:Addr} {mA:Str->Option Value} {name:Str}
end
section
variable {dx:Addr} {fs fs':List (Str × V)}
end
section
variable {dx:Addr} {fs:List (Str × V)} {f:Str} {v:V}
end
section
variable {value:Expr} {f:Str} {pos' tpos:Pos} {tv:TE}
end
section
variable {c:Value} {b:Bool}
end
section
variable {es:List Expr} {t:TA}
end
section
variable {s':Shared}
end
section
variable {CX:CXT} {k:Nat} {sp:Sp} {dvs:List V} {ds:List Value} {E:XK} {m:Str} {p apos:Pos} {es:List Expr} {t:TA}
end
section
variable {CX:CXT} {k:Nat} {ks:List Str} {sp:Sp} {E:XK} {m:Str} {p apos kpos:Pos} {es:List Expr} {kws:List az9} {t tk:TA} {nm:Option Str}
variable {g:List Value->List Value->List Value}
end
section
variable {p:Pos} {es:List Expr} {t:TA} {id T:String} {r:List V->Hp->VK->Prop}
end
section
variable {κ:Type} [DecidableEq κ]
def aI2 (kvs:List (κ × V))(k:κ):Option V:=(kvs.find? fun kv=>decide (kv.1=k)).map (·.2)
def putK (kvs:List (κ × V))(k:κ)(v:V):List (κ × V):=
 if (kvs.any fun kv=>decide (kv.1=k))=true then kvs.map (fun kv=>if kv.1=k then (kv.1,v) else kv) else kvs++[(k,v)]
theorem aA8 {p:κ × V}{r:List (κ × V)}{k:κ}(e:p.1=k):aI2 (p::r) k=some p.2:=by simp[aI2,ag6,e]
theorem aA9 {p:κ × V}{r:List (κ × V)}{k:κ}(e:¬ p.1=k):aI2 (p::r) k=aI2 r k:=by simp[aI2,ag6,e]
theorem aB0 (k:κ):∀ kvs:List (κ × V),(kvs.any fun kv=>decide (kv.1=k))=(aI2 kvs k).isSome
 | []=>rfl
 | p::r=>by
  rw[N6]
  by_cases e:p.1=k
  ·simp only[aA8 e,decide_eq_true e,Bool.true_or,bi3]
  ·rw[aA9 e,decide_eq_false e,Bool.false_or];exact aB0 k r
theorem aj4 (kvs:List (κ × V))(k:κ)(v:V):(putK kvs k v).length<=kvs.length+1:=by
 unfold putK
 split
 ·rw[b6];omega
 ·rw[c9,j7,ag5];omega
theorem bg3.isSome_eq {o:Option V}{u:Option Value}(r:bg3 o u):o.isSome=u.isSome:=by
 cases o with
 | none=>cases u with
  | none=>rfl
  | some _=>exact(show False from r).elim
 | some _=>cases u with
  | none=>exact(show False from r).elim
  | some _=>rfl
theorem KV.any {kvs:List (κ × V)}{vs:List (κ × Value)}(r:KV kvs vs)(k:κ):(kvs.any fun kv=>decide (kv.1=k))=vs.any fun kv=>decide (kv.1=k):=by
 unfold KV at r
 induction r with
 | nil=>rfl
 | cons h t ih=>rw[N6,N6,ih,h.1]
theorem KV.repl {kvs:List (κ × V)}{vs:List (κ × Value)}(r:KV kvs vs)(k:κ){y:V}(ry:RelV y u) :
  KV (kvs.map fun kv=>if kv.1=k then (kv.1,y) else kv) (vs.map fun kv=>if kv.1=k then (kv.1,u) else kv):=by
 unfold KV at r ⊢
 induction r with
 | nil=>exact .nil
 | @cons p q ps qs h t ih =>
  rw[j8,j8]
  refine .cons ?_ ih
  obtain⟨h1,h2⟩:=h
  by_cases e:p.1=k
  ·rw[if_pos e,if_pos (h1.symm.trans e)];exact⟨h1,ry⟩
  ·rw[if_neg e,if_neg (fun z=>e (h1.trans z))];exact⟨h1,h2⟩
theorem KV.put {kvs:List (κ × V)}{vs:List (κ × Value)}(r:KV kvs vs)(k:κ){y:V}(ry:RelV y u):KV (putK kvs k y) (stored vs k u):=by
 unfold putK stored
 rw[r.any k]
 by_cases e:(vs.any fun kv=>decide (kv.1=k))=true
 ·rw[if_pos e,if_pos e];exact r.repl k ry
 ·rw[if_neg e,if_neg e];exact Paired.snoc r ⟨rfl,ry⟩
theorem KV.length {kvs:List (κ × V)}{vs:List (κ × Value)}(r:KV kvs vs):kvs.length=vs.length:=Paired.length r
end
theorem bq8 {k:Key}(r:RelV (kV k) u):(F3 P w).is k u=true:=by
 cases k with
 | inl i=>obtain⟨t,e⟩:=(show ∃ t,u=Value.int i t from r);subst e;exact aE0 P w i t
 | inr x=>obtain⟨t,e⟩:=(show ∃ t,u=Value.str x t from r);subst e;exact aD9 P w x t
theorem at8:∀ {ks:List Key} {us:List Value},x9 (ks.map kV) us->ItemsAre (F3 P w) ks us
 | [],_,r=>by rw[av1]at r;cases r;exact .nil
 | k::ks,_,r=>by
  rw[j8]at r
  cases r with
  | cons h t=>exact .cons (bq8 h) (at8 t)
abbrev KT (H:Hp):List (List Key × V)->List (List Key × Addr × Value)->Prop:=F8 fun p q=>p.1=q.1/\H q.2.1=some (.tup (p.1.map kV))/\RelV p.2 q.2.2
theorem KT.val {xs:List (List Key × Addr × Value)}(r:KT H kvs xs)(k:List Key):bg3 (aI2 kvs k) ((aX2 xs k).map (·.2)):=by
 induction r with
 | nil=>exact True.intro
 | @cons p q ps qs h t ih =>
  obtain⟨h1,_,h2⟩:=h
  by_cases e:p.1=k
  ·have e':q.1=k:=h1.symm.trans e
   have b:aX2 (q::qs) k=some q.2:=by simp[aX2,ag6,e']
   rw[aA8 e,b];exact h2
  ·have e':¬ q.1=k:=fun z=>e (h1.trans z)
   have b:aX2 (q::qs) k=aX2 qs k:=by simp[aX2,ag6,e']
   rw[aA9 e,b];exact ih
theorem KT.repl {xs:List (List Key × Addr × Value)}(r:KT H kvs xs)(k:List Key){y:V}(ry:RelV y u) :
  KT H (kvs.map fun kv=>if kv.1=k then (kv.1,y) else kv) (xs.map (putAt k u)):=by
 induction r with
 | nil=>exact .nil
 | @cons p q ps qs h t ih =>
  rw[j8,j8]
  refine .cons ?_ ih
  obtain⟨h1,h2,h3⟩:=h
  unfold putAt
  by_cases e:p.1=k
  ·rw[if_pos e,if_pos (h1.symm.trans e)];exact⟨h1,h2,ry⟩
  ·rw[if_neg e,if_neg (fun z=>e (h1.trans z))];exact⟨h1,h2,h3⟩
theorem KT.put {xs:List (List Key × Addr × Value)}(r:KT H kvs xs)(k:List Key){b:Addr}{y:V}(hb:H b=some (.tup (k.map kV)))(ry:RelV y u) :
  KT H (putK kvs k y) (storedH xs k b u):=by
 have e:(kvs.any fun kv=>decide (kv.1=k))=(aX2 xs k).isSome:=by
  rw[aB0,(r.val k).isSome_eq,bp0]
 unfold putK storedH
 rw[e]
 by_cases q:(aX2 xs k).isSome=true
 ·rw[if_pos q,if_pos q];exact r.repl k ry
 ·rw[if_neg q,if_neg q];exact Paired.snoc r ⟨rfl,hb,ry⟩
theorem KT.keeps {xs:List (List Key × Addr × Value)}(r:KT H kvs xs)(ht:∀ b ys,H b=some (.tup ys)->H' b=some (.tup ys)):KT H' kvs xs:=
 Paired.mapP r fun _ _ z=>⟨z.1,ht _ _ z.2.1,z.2.2⟩
theorem bq5 {u:HO}(ok:HOk P w H h)(e:Rd H a u):D1 P w H h a u:=e.ok ok
theorem bG2 {kvs:List (Key × V)}(ok:HOk P w H h)(e:Rd H a (.dK kvs)):kvs.length<=d7/\(a == C3)=false/\∃ vs,KV kvs vs/\h.DictOf (F3 P w) a vs:=
 show D1 P w H h a (.dK kvs) from bq5 ok e
theorem bG3 {kvs:List (Key × V)}(ok:HOk P w H h)(e:H a=some (.dK kvs)):kvs.length<=d7/\(a == C3)=false/\∃ vs,KV kvs vs/\h.DictOf (F3 P w) a vs:=bG2 ok (.inl e)
theorem be0 {ks:List Key}(ok:HOk P w H h)(e:H a=some (.tup (ks.map kV))):(aS0 (F3 P w)).is h ks a:=by
 obtain⟨_,its,r,o,h1,h2,n,h3⟩:=(show D1 P w H h a (.tup (ks.map kV)) from ok a _ e)
 exact⟨o,its.toArray,n,h1,h2,h3,by simpa using at8 r⟩
theorem bf4 (ok:HOk P w H h)(e:Rd H a (.dT kvs)):kvs.length<=d7/\(a == C3)=false /\
  ∃ xs,KT H kvs xs/\h.DictOfH (aS0 (F3 P w)) a xs:=by
 obtain⟨z,y,xs,r,o,es,ep,h1,h2,h3,h4,h5⟩:=(show D1 P w H h a (.dT kvs) from bq5 ok e)
 refine⟨z,y,xs,r,o,es,ep,h1,h2,h3,h4,fun x hx=>?_,h5⟩
 have all:∀ {l:List (List Key × V)} {m:List (List Key × Addr × Value)},KT H l m->∀ x∈m,(aS0 (F3 P w)).is h x.1 x.2.1:=by
  intro l m q
  induction q with
  | nil=>intro x hx;exact nomatch hx
  | @cons p q ps qs hq t ih =>
   intro x hx
   rcases b7.mp hx with e | hx
   ·subst e
    exact be0 ok (by rw[<- hq.1];exact hq.2.1)
   ·exact ih x hx
 exact all r x hx
theorem bG1 (ok:HOk P w H h)(e:H a=some (.dT kvs)):kvs.length<=d7/\(a == C3)=false /\
  ∃ xs,KT H kvs xs/\h.DictOfH (aS0 (F3 P w)) a xs:=bf4 ok (.inl e)
def aW7 (H:Hp)(a:Addr)(y v:V)(H':Hp):Prop:=
 (∃ kvs k,H a=some (.dK kvs)/\y=kV k/\kvs.length<d7/\H'=upd H a (.dK (putK kvs k v))) \/
 ∃ kvs k b,H a=some (.dT kvs)/\y=.ref b/\H b=some (.tup (k.map kV))/\kvs.length<d7/\H'=upd H a (.dT (putK kvs k v))
theorem aW7.t {b:Addr}{k:List Key}{v:V}(e:H a=some (.dT kvs))(eb:H b=some (.tup (k.map kV)))(hl:kvs.length<d7) :
  aW7 H a (.ref b) v (upd H a (.dT (putK kvs k v))):=.inr ⟨kvs,k,b,e,rfl,eb,hl,rfl⟩
section
variable {y v:V} {r:Value} {o:Option V}
theorem Inv.big (I:Inv X pins σ H s):C3<s.heap.objs.size:=by
 have h:i6<s.heap.objs.size:=(I.mod.glob.keeps I.bk).lt
 exact bi2 (by decide) h
theorem ag0 {t':Nat}{ob:HO}(I:Inv X pins σ H s)(mu:Mut (H a))(hs:Heap.SameBut a s.heap h')(he:∃ q,h'.get? a=some q)(new:D1 X.prog X.w (upd H a ob) h' a ob) :
  Inv X pins σ (upd H a ob) { s with heap:=h',toks:=t' }:=
 I.write (x:=a) (e:=a) mu (.inl rfl) (fun b q hb z=>(hs.2 b hb).trans z) he new
theorem bz0 {kvs:List (Key × V)}{vs:List (Key × Value)}(z:kvs.length<=d7)(hd:(a == C3)=false)(rel:KV kvs vs)(dd:h'.DictOf (F3 P w) a vs) :
  D1 P w H' h' a (.dK kvs):=⟨z,hd,vs,rel,dd⟩
theorem aW0 {Q:Unit->Shared->Prop}(hu:A.units+1<G0)(I:Inv X pins σ H s)(g:aW7 H a y v H')(ry:RelV y u)(rv:RelV v r)(h:∀ s',Inv X pins σ H' s'->Q () s') :
  m5 (m7 X.prog X.w) A (setItem (.ref a) u r) Q E s:=by
 rcases g with⟨kvs,k,e,ey,l,eH⟩ | ⟨kvs,k,b,e,ey,eb,l,eH⟩
 ·subst ey eH
  obtain⟨z,hd,vs,rel,dd⟩:=bG3 I.hok e
  have hz:vs.length<=d7:=by rw[<- rel.length];exact z
  have hl:(putK kvs k v).length<=d7:=by have:=aj4 kvs k v;omega
  refine wpAny_setItem_pairs (hsz:=hz) (bq8 ry) dd fun h' dd' hs=>h _ ?_
  have he:∃ q,h'.get? a=some q:=let ⟨q,_,_,hq,_⟩:=dd';⟨q,hq⟩
  exact ag0 I (by rw[e];exact True.intro) hs he (bz0 hl hd (rel.put k rv) dd')
 ·subst ey eH
  cases (show u=Value.ref b from ry)
  obtain⟨z,hd,xs,rel,dd⟩:=bG1 I.hok e
  have hz:xs.length<=d7:=by rw[<- Paired.length rel];exact z
  have hl:(putK kvs k v).length<=d7:=by have:=aj4 kvs k v;omega
  refine wpAny_setItem_heap (hsz:=hz) (tupleKind_room_in1 hu) (be0 I.hok eb) dd fun h' dd' hs=>h _ ?_
  obtain⟨q,es,ep,hq,h2,h3,h4,_,h5⟩:=dd'
  refine ag0 I (by rw[e];exact True.intro) hs ⟨q,hq⟩ ⟨hl,hd,_,(rel.put k eb rv).keeps fun c ys ec=>?_,q,es,ep,hq,h2,h3,h4,h5⟩
  rw[o6 (ap2 ec e (fun z=>nomatch z))]
  exact ec
end
section
variable {kvs:List (Key × V)} {k:Key}
end
def bE1 (td ty tv:TE):TS:=fun D σ H=>tv σ H fun v H1=>td σ H1 fun x H2=>ty σ H2 fun y H3=>∃ a H4,x=.ref a/\aW7 H3 a y v H4/\D.nx σ H4
section
variable {i value:Expr} {pos' tpos:Pos} {td ty tv:TE}
theorem aO7 (hu:X.A.units+1<G0)(ho:PE X o td)(hi:PE X i ty)(hv:PE X value tv)(hs:aS1 value (some (.Subscript o i pos')) pos.line X.env=pure false) :
  PS X (.Assign [.Subscript o i pos'] value pos) (bE1 td ty tv):=by
 intro pins s σ H D I h
 refine bp4 (thn (hv pins s σ H _ I h) fun r s1 ⟨v,H1,I1,rv,q1⟩=>thn (ho pins s1 σ H1 _ I1 q1) fun u s2 ⟨x,H2,I2,rx,q2⟩=>thn (hi pins s2 σ H2 _ I2 q2) fun iv s3 ⟨y,H3,I3,ry,a,H4,ex,g,q3⟩=>?_) hs
 subst ex
 obtain rfl:u=Value.ref a:=rx
 exact aW0 hu I3 g ry rv fun s4 I4=>⟨σ,H4,I4,q3⟩
end
theorem bf5 (h:Heap)(hb:C3<h.objs.size):D1 P w H (h.push { cls:=.type "dict",data:=.dict #[] }) h.objs.size (.dT []) :=
 ⟨k9 _,beq_eq_false_iff_ne.mpr (Ne.symm (i9 hb)),[],.nil,_,#[],0,l0 _ rfl,⟨rfl,rfl,rfl⟩,rfl,rfl,t5⟩
def bt8:TE:=fun _ H Q=>∀ p,H p=none->Q (.ref p) (upd H p (.dT []))
theorem aD4:PE X (.Dict [] [] pos) bt8:=fun pins s σ H Q I h =>
 wpAny_Dict_empty ⟨.ref s.heap.objs.size,_,I.laid (a:=s.heap.objs.size) (o:=.dT []) (t':=s.toks) (fun _ _ q=>a5 _ q) (c6 _) (bf5 s.heap I.big),rfl,h _ (I.hok.fresh (c6 _))⟩
def aY8:List (TE × TE)->St->Hp->(List (V × V)->Hp->Prop)->Prop
 | [],_,H,Q=>Q [] H
 | (tk,tv)::r,σ,H,Q=>tk σ H fun x H1=>tv σ H1 fun y H2=>aY8 r σ H2 fun ps H3=>Q ((x,y)::ps) H3
abbrev VV:List (V × V)->List (Value × Value)->Prop:=F8 fun p q=>RelV p.1 q.1/\RelV p.2 q.2
def PPs (X:Cx)(pos:Pos)(keys:List (Option Expr))(values:List Expr)(trs:List (TE × TE)):Prop:=
 ∀ (pins:List (Addr × Obj)) (s:Shared) (σ:St) (H:Hp) (Q:List (V × V)->Hp->Prop),Inv X pins σ H s->aY8 trs σ H Q ->
  m5 (m7 X.prog X.w) X.A (evalPairs (bs3 keys values X.env pos)) (fun vs s'=>∃ ps H',Inv X pins σ H' s'/\VV ps vs/\Q ps H') X.xe s
theorem bl1:PPs X pos [] [] []:=fun pins s σ H Q I h=>pairTrees_nil_walk ⟨[],H,I,.nil,h⟩
theorem bb6 {k v:Expr}{ks:List (Option Expr)}{vs:List Expr}{tk tv:TE}{trs:List (TE × TE)}(hk:PE X k tk)(hv:PE X v tv)(hr:PPs X pos ks vs trs) :
  PPs X pos (some k::ks) (v::vs) ((tk,tv)::trs):=fun pins s σ H Q I h =>
 pairTrees_cons_walk (thn (hk pins s σ H _ I h) fun u s1 ⟨x,H1,I1,rx,q1⟩=>thn (hv pins s1 σ H1 _ I1 q1) fun w2 s2 ⟨y,H2,I2,ry,q2⟩ =>
  thn (hr pins s2 σ H2 _ I2 q2) fun ws s3 ⟨ps,H3,I3,rel,q3⟩=>⟨(x,y)::ps,H3,I3,.cons ⟨rx,ry⟩ rel,q3⟩)
structure M1 (X:Cx) (o:Expr) (m:Str) (apos:Pos) (e:Expr) (cpos:Pos):Prop where
 base:av3 o m X.env (eval o X.env)=eval o X.env
 few:((ak0 cpos (B7 [e] X.env)).all (fun x=>!x.1) && (backToKw cpos (bC1 [] X.env)).all (fun x=>x.1.isSome)
  && decide (([e]:List Expr).length+([]:List az9).length+(if ([]:List az9).isEmpty then 0 else 1)<30))=true
 line:(apos.endLine == cpos.line)=true
 trees:ak0 cpos (B7 [e] X.env)=[(false,eval e X.env)]
structure M2 (X:Cx) (o:Expr) (m:Str) (apos:Pos) (e f:Expr) (cpos:Pos):Prop where
 base:av3 o m X.env (eval o X.env)=eval o X.env
 few:((ak0 cpos (B7 [e,f] X.env)).all (fun x=>!x.1) && (backToKw cpos (bC1 [] X.env)).all (fun x=>x.1.isSome)
  && decide (([e,f]:List Expr).length+([]:List az9).length+(if ([]:List az9).isEmpty then 0 else 1)<30))=true
 line:(apos.endLine == cpos.line)=true
 trees:ak0 cpos (B7 [e,f] X.env)=[(false,eval e X.env),(false,eval f X.env)]
section
variable {y d:V} {r:Value} {o:Option V}
end
section
variable {f:Expr} {apos cpos:Pos} {td ty tx:TE}
end
section
variable {kvs:List (Key × V)}
end
section
variable {y:V}
end
end L2
namespace Att
open PySem PySem.W PySem.Calls PyProof.Rows
section
variable {K:Frag}
end
end Att
namespace L2
open PySem PySem.Spec PyProof.Rows
section
variable {K:W.Frag} {mg:Str->Option Value} {base:Heap}
end
section
variable {κ:Type} [DecidableEq κ]
theorem aP6:∀ {l:List κ} {k:κ},l.Nodup->¬ k∈l->(l++[k]).Nodup
 | [],k,_,_=>by simp
 | a::r,k,h,hk=>by
  obtain⟨h1,h2⟩:=j1.mp h
  show (a::(r++[k])).Nodup
  refine j1.mpr ⟨fun m=>?_,aP6 h2 fun m=>hk (b7.mpr (Or.inr m))⟩
  rcases j0.mp m with q | q
  ·exact h1 q
  ·exact hk (b7.mpr (Or.inl (a8.mp q).symm))
end
end L2
namespace L2
open PySem PySem.Spec PyProof.Rows PySem.SeqAt
theorem aN1:∀ {bs:List Bool} {its:List Value},x9 (bs.map V.bl) its->its=bs.map Value.bool
 | [],_,.nil=>rfl
 | b::bs,_,.cons r t=>by rw[aN1 t,show _=Value.bool b from r];rfl
theorem bl3 {a b:Expr}{tb:TE}(K:W.Frag)(hK:X.K=K)(ha:PE X a ta)(hb:PE X b tb)(hs:az1 b):PE X (.Subscript a b pos) (tOp (bu6 K) ta tb):=by
 cases hK
 exact v8 v5 ha hb hs
theorem bl4 {a b:Expr}{tb:TE}(K:W.Frag)(hK:X.K=K)(ha:PE X a ta)(hb:PE X b tb)(hs:az1 b):PE X (.Subscript a b pos) (tOp (rIx K) ta tb):=by
 cases hK
 exact v8 bx9 ha hb hs
end L2
namespace L2
open PySem PySem.Spec PyProof.Rows
theorem bE9 {it:Expr}{w1 w2:TI}(h1:PI X tg it w1)(h2:PI X tg it w2):PI X tg it (fun σ H R=>w1 σ H R\/w2 σ H R):=
 fun pins s σ H R I h=>h.elim (h1 pins s σ H R I) (h2 pins s σ H R I)
def bg4 (x0:Str)(names:List (Str × am1))(cl:List (Str × Addr)):Bool:=names.all fun y=>(y.2 != .cell || y.1 == x0) && (y.2 != .free || (cl.lookup y.1).isSome)
def M3 (X:Cx)(x0:Str)(scope:Scope)(cl:List (Str × Addr))(N':List Str)(s₃:Shared)(H₃:Hp)(fp:List Addr)(xe':Value->Shared->Prop):Cx:=
 { X with N:=N',s₀:=s₃,H₀:=H₃,env:=G4 scope ((x0,s₃.heap.objs.size+1)::cl) s₃.heap.objs.size X.env,outer:=X.stack,ex:=fp,fn:=fun x=>x == x0,pn:=[],xe:=xe' }
theorem bm4 {x0:Str}{globals:Addr}{outer:Env}{Q:Env->Shared->Prop}
  (hcs:∀ n,aS4 n scope.names cl=(x0,n)::cl)(hpc:∀ h,pushCells h scope.names=h.push { cls:=.type "cell",data:=.cell none })
  (hQ:Q (newEnv scope s.heap.objs.size globals ((x0,s.heap.objs.size+1)::cl) qual none .none (some outer) bh1) { s with heap:=(s.heap.push { cls:=.type "dict",data:=.dict #[] }).push { cls:=.type "cell",data:=.cell none } }) :
  m5 M A (newFunctionEnv scope globals cl [] qual none .none (some outer)) Q E s:=by
 simp only[newFunctionEnv,bi3,if_true]
 refine a4 (wpAny_alloc ?_)
 refine a4 (wpAny_layCells _ (fun name kind cells=>by cases hkc:kind == NameKind.cell<;>simp[hkc]) _ _ _ _ ?_)
 rw[hcs,hpc]
 have e:({ s with heap:=s.heap.push { cls:=.type "dict",data:=.dict #[] } }:Shared).heap.objs.size=s.heap.objs.size+1:=B9 ..
 rw[e]
 rw[List.forIn_nil]
 exact a4 (a6 (a6 hQ))
theorem aF8 {x0:Str}{H3:Hp}{s3:Shared}{h1:Heap}{tk:Nat}{xe':Value->Shared->Prop}{m0:Str->Option Value}
  (I:Inv X pins σ H3 s3)(hf:∀ b∈fp,ag3 X pins H3 b)(hkind:scope.kind=.function)(hcl:as3 X.env cl)(hfr:bg4 x0 scope.names cl=true)(hx0:cl.lookup x0=none)(hc0:h1.IsCell (s3.heap.objs.size+1) none)(hlk:aM2 X N' lk scope cl)
  (hn:h1.Ns s3.heap.objs.size m0)(hk:∀ b u,s3.heap.get? b=some u->h1.get? b=some u)(hfs:∀ b∈fp,b<s3.heap.objs.size):Inv (M3 X x0 scope cl N' s3 H3 fp xe') [] (aa6 lk σ) H3 { s3 with heap:=h1,toks:=tk }:=by
 have hC:H3 s3.heap.objs.size=none:=I.hok.fresh (c6 _)
 have hC0:H3 (s3.heap.objs.size+1)=none:=I.hok.fresh (P5 _)
 have hmem:∀ y∈scope.names,(y.2=.cell->y.1=x0)/\(y.2=.free->(cl.lookup y.1).isSome=true):=fun y hy=>by
  unfold bg4 at hfr
  rw[D9]at hfr
  have:=hfr y hy
  rw[o7]at this
  refine⟨fun e=>?_,fun e=>?_⟩
  ·have h1:=this.1
   rw[e]at h1
   simpa using h1
  have h2:=this.2
  rw[e]at h2
  simpa using h2
 have hcell:∀ x c,cl.lookup x=some c->X.env.cells.lookup x=some c:=fun x c e=>hcl.get e
 have hlook:∀ x c,((x0,s3.heap.objs.size+1)::cl:List (Str × Addr)).lookup x=some c->(x=x0/\c=s3.heap.objs.size+1)\/cl.lookup x=some c:=fun x c e=>by
  rw[P1]at e
  cases hb:x == x0 with
  | true=>rw[hb]at e;cases e;exact .inl ⟨eq_of_beq hb,rfl⟩
  | false=>rw[hb]at e;exact .inr e
 have hsome:∀ x,x=x0\/(cl.lookup x).isSome=true->(((x0,s3.heap.objs.size+1)::cl:List (Str × Addr)).lookup x).isSome=true:=fun x h=>by
  rw[P1]
  cases hb:x == x0 with
  | true=>rfl
  | false =>
   rcases h with h | h
   ·rw[h]at hb;simp at hb
   ·exact h
 have clt:∀ x c,cl.lookup x=some c->c<s3.heap.objs.size:=fun x c e=>by
  obtain⟨v,q⟩:=I.cell x c (hcell x c e)
  exact q.lt
 refine⟨⟨I.ok.mod,hkind,I.ok.glob,I.ok.blt,c6 _,fun x y c e1 e2=>?_,fun x hx=>?_,fun x c hf e=>?_,I.ok.hd,I.ok.frames,.inl rfl,fun b hb=>?_,fun b o e=>I.bs b o e,o5 I.ok.bsz I.sz,fun b o e hb=>?_,fun b hb z=>?_,I.stack,I.stkFree⟩,
  rfl,I.bare,Un.kept hk,⟨m0,hn,fun i x v e1 e2 e3=>?_⟩,fun x c e=>?_,hC,fun x c e=>?_,(fun p hp=>nomatch hp),I.hok.kept hk,?_⟩
 ·rcases hlook x c e1 with⟨z1,z2⟩ | d1
  ·rcases hlook y c e2 with⟨z3,_⟩ | d2
   ·rw[z1,z3]
   ·rw[z2]at d2;exact absurd (clt _ _ d2) (bB3.mpr (P5 _))
  ·rcases hlook y c e2 with⟨_,z4⟩ | d2
   ·rw[z4]at d1;exact absurd (clt _ _ d1) (bB3.mpr (P5 _))
   ·exact I.ok.inj x y c (hcell x c d1) (hcell y c d2)
 ·have hx':(relabel scope X.env).names.lookup x=some .cell\/(relabel scope X.env).names.lookup x=some .free:=hx
  have:∃ k',(x,k')∈scope.names/\(k'=.free\/k'=.cell):=by
   rcases hx' with h | h
   ·obtain⟨k',h1,h2⟩:=L7 h
    rcases h2 with h2 | h2
    ·exact⟨k',h1,.inr h2⟩
    ·exact⟨k',h1,.inl h2.1⟩
   ·obtain⟨k',h1,h2⟩:=L7 h
    rcases h2 with h2 | h2
    ·exact⟨k',h1,.inl h2⟩
    ·exact⟨k',h1,.inl h2.1⟩
  obtain⟨k',h1,h2⟩:=this
  refine J6.mp (hsome x ?_)
  rcases h2 with h2 | h2
  ·exact .inr ((hmem _ h1).2 h2)
  ·exact .inl ((hmem _ h1).1 h2)
 ·have hf':(x == x0)=true:=hf
  rcases hlook x c e with⟨_,rfl⟩ | e
  ·show s3.heap.objs.size<=_
   omega
  ·rw[eq_of_beq hf',hx0]at e
   cases e
 ·obtain⟨f0,f1,f2,f3,f4,f5⟩:=hf b hb
  refine⟨i9 (hfs b hb),fun x c e=>?_⟩
  rcases hlook x c e with⟨_,rfl⟩ | e
  ·exact N5 (p6 (hfs b hb))
  ·exact f4 x c (hcell x c e)
 ·obtain⟨f0,f1,f2,f3,f4,f5⟩:=hf b hb
  rcases f3 with f3 | f3
  ·exact I.ok.noex b o e f3
  ·exact absurd (o4 (d4 e) (o5 I.ok.bsz f3)) (x6 _)
 ·obtain⟨f0,f1,f2,f3,f4,f5⟩:=hf b hb
  rcases b7.mp (I.stkSub b z) with e | e
  ·exact f1 e
  ·exact f2 e
 ·-- a captured name
  have e2':(aa6 lk σ)[i]?=some (some v):=e2
  unfold aa6 at e2'
  rw[j3]at e2'
  cases hq:lk[i]? with
  | none=>rw[hq]at e2';cases e2'
  | some o =>
   rw[hq]at e2'
   have e2'':(o.bind fun j=>(σ[j]?).join)=some v:=Option.some.inj e2'
   cases o with
   | none=>cases e2''
   | some j =>
    obtain⟨q1,q2,q3,q4⟩:=hlk.2 i j x e1 hq
    have hσ:σ[j]?=some (some v):=by
     have z:(σ[j]?).join=some v:=e2''
     cases hh:σ[j]? with
     | none=>rw[hh]at z;cases z
     | some o=>rw[hh]at z;rw[show o=some v from z]
    obtain⟨m,hnX,hl⟩:=I.loc
    obtain⟨u,r,lo⟩:=hl j x v q1 hσ (q2.elim (fun a=>.inr (.inl a)) (fun a=>.inr (.inr a)))
    refine⟨u,r,.inr ?_⟩
    obtain⟨c,hc⟩:=J6.mp q3
    have hne:(x == x0)=false:=by
     cases hb:x == x0 with
     | false=>rfl
     | true=>rw[eq_of_beq hb,hx0]at hc;cases hc
    refine⟨q4,c,by show ((x0,s3.heap.objs.size+1)::cl:List (Str × Addr)).lookup x=some c;rw[P1,hne];exact hc,?_⟩
    have hcX:=hcell x c hc
    rcases lo with⟨k,_⟩ | ⟨_,c',hc',z⟩
    ·have k':X.env.scope.names.lookup x=some .local:=k
     rw[k']at q2
     rcases q2 with q2 | q2<;>cases q2
    ·rw[hcX]at hc'
     cases hc'
     obtain⟨o,ho,hd⟩:=z
     exact⟨o,hk c o ho,hd⟩
 ·rcases hlook x c e with⟨_,rfl⟩ | e
  ·exact⟨none,hc0⟩
  ·obtain⟨v,o,ho,hd⟩:=I.cell x c (hcell x c e)
   exact⟨v,o,hk c o ho,hd⟩
 ·rcases hlook x c e with⟨_,rfl⟩ | e
  ·exact hC0
  ·exact I.freeC x c (hcell x c e)
 ·show (aa6 lk σ).length=N'.length
  unfold aa6
  rw[b6]
  exact hlk.1
theorem bc0 {x0:Str}{elt iter:Expr}{ifs:List Expr}{wi:TI}{g:TG}{tt:TT}(hc:X.calm=true)(hi:PI X tg iter wi)(hclos:bh5 scope X.env=pure cl)(hkind:scope.kind=.function)
  (hnames:∀ y∈scope.names,y.2=.local->scope.names.lookup y.1=some .local)(hcl:as3 X.env cl)(hfr:bg4 x0 scope.names cl=true)(hx0:cl.lookup x0=none)(hcs:∀ n,aS4 n scope.names cl=(x0,n)::cl)(hpc:∀ h,pushCells h scope.names=h.push { cls:=.type "cell",data:=.cell none })(hlk:aM2 X N' lk scope cl)
  (hg:∀ s3 H3 fp,PG (M3 X x0 scope cl N' s3 H3 fp fun _ _=>False) tg g)(ht:∀ s3 H3 fp,PTs (M3 X x0 scope cl N' s3 H3 fp fun _ _=>False) ifs tt)(he:∀ s3 H3 fp,PE (M3 X x0 scope cl N' s3 H3 fp fun _ _=>False) elt te)
  (hs:∀ x,U3 iter X.env x=pure x:=by intro _;rfl):PE X (.ListComp elt [⟨tg,iter,ifs,0⟩] scope pos) (aN3 wi lk g tt te):=by
 intro pins s σ H Q I h
 rw[eval_ListComp]
 refine ad2 (use:=none) rfl hs hclos hkind hnames (thn (hi pins s σ H _ I h) fun v s1 h1=>thn h1 fun itv s2 h2=>?_)
 obtain⟨it,fp,tn,J,H2,e,I2,T,st2,f2,q⟩:=h2
 subst e
 refine R7 ?_ (k9 _)
 have hD:H2 s2.heap.objs.size=none:=I2.hok.fresh (c6 _)
 have I3:=I2.lnew (ys:=[]) (its:=[]) (t':=s2.toks) .nil (k9 _)
 obtain⟨W,⟨m0,w0⟩,turn⟩:=q s2.heap.objs.size hD
 have fpl:∀ b∈fp,b<s2.heap.objs.size:=fun b hb=>by
  obtain⟨o,ho,_⟩:=T.obj 0 s2.heap st2 b hb
  exact d4 ho
 refine bm4 hcs hpc ?_
 dsimp only
 have e3:s2.heap.push { cls:=.type "list",dict:=none,data:=.seq ([]:List Value).toArray }=s2.heap.push { cls:=.type "list",data:=.seq ([]:List Value).toArray }:=rfl
 generalize hh3:s2.heap.push { cls:=.type "list",dict:=none,data:=.seq ([]:List Value).toArray }=h3 at *
 have I3':Inv X pins σ (upd H2 s2.heap.objs.size (.lst [])) { s2 with heap:=h3,toks:=s2.toks }:=I3
 have size3:h3.objs.size=s2.heap.objs.size+1:=by rw[<- hh3,B9]
 have f3:∀ b∈fp,ag3 X pins (upd H2 s2.heap.objs.size (.lst [])) b:=fun b hb=>by
  obtain⟨f0,fr⟩:=f2 b hb
  exact⟨by rw[o6 (i9 (fpl b hb))];exact f0,fr⟩
 have hns1:((h3.push { cls:=.type "dict",data:=.dict #[] }).push { cls:=.type "cell",data:=.cell none }).Ns h3.objs.size (fun _=>none):=(Heap.Ns.new h3 (.type "dict")).keeps fun b o e=>a5 _ e
 have hc0:((h3.push { cls:=.type "dict",data:=.dict #[] }).push { cls:=.type "cell",data:=.cell none }).IsCell (h3.objs.size+1) none:=⟨_,by rw[<- B9 h3 { cls:=.type "dict",data:=.dict #[] }];exact l0 _ rfl,rfl⟩
 have up:∀ b u,h3.get? b=some u->((h3.push { cls:=.type "dict",data:=.dict #[] }).push { cls:=.type "cell",data:=.cell none }).get? b=some u:=fun b u eb=>a5 _ (a5 _ eb)
 generalize (h3.push { cls:=.type "dict",data:=.dict #[] }).push { cls:=.type "cell",data:=.cell none }=h1 at hns1 hc0 up ⊢
 have I4:Inv (M3 X x0 scope cl N' { s2 with heap:=h3,toks:=s2.toks } (upd H2 s2.heap.objs.size (.lst [])) fp fun _ _=>False) [] (aa6 lk σ) (upd H2 s2.heap.objs.size (.lst [])) { s2 with heap:=h1,toks:=s2.toks }:=
  aF8 (s3:={ s2 with heap:=h3,toks:=s2.toks }) I3' f3 hkind hcl hfr hx0 hc0 hlk hns1 up fun b hb=>by show b<h3.objs.size;rw[size3];exact p6 (fpl b hb)
 have st4:tn 0 h1:=T.keep 0 s2.heap h1 st2 fun b hb o eb=>up b o (by rw[<- hh3];exact a5 _ eb)
 have hCs:h3.objs.size=(G4 scope ((x0,h3.objs.size+1)::cl) h3.objs.size X.env).locals:=rfl
 have stat:∀ {H':Hp},(∀ b∈fp,H' b=none)->∀ b∈fp,ag3 (M3 X x0 scope cl N' { s2 with heap:=h3,toks:=s2.toks } (upd H2 s2.heap.objs.size (.lst [])) fp fun _ _=>False) [] H' b:=fun {H'} hn b hb=>by
  obtain⟨f0,f1,f2',f3',f4,f5⟩:=f3 b hb
  refine⟨hn b hb,?_,fun z=>?_,.inl hb,fun x c ex=>?_,fun p hp=>nomatch hp⟩
  ·show b≠h3.objs.size
   rw[size3]
   exact i9 (p6 (fpl b hb))
  ·rcases b7.mp (I3'.stkSub b z) with q | q
   ·exact f1 q
   ·exact f2' q
  ·have ex':((x0,h3.objs.size+1)::cl:List (Str × Addr)).lookup x=some c:=ex
   rw[P1]at ex'
   cases hb0:x == x0 with
   | true =>
    rw[hb0]at ex'
    cases ex'
    exact N5 (p6 (by rw[size3];exact p6 (fpl b hb)))
   | false =>
    rw[hb0]at ex'
    exact f4 x c (hcl.get ex')
 have fin:∀ (s':Shared) (σ':St) (H':Hp),Inv (M3 X x0 scope cl N' { s2 with heap:=h3,toks:=s2.toks } (upd H2 s2.heap.objs.size (.lst [])) fp fun _ _=>False) [] σ' H' s'->Q (.ref s2.heap.objs.size) H' ->
   av6 (m7 X.prog X.w) X.A X.xe none (EP X pins σ Q) (.ref s2.heap.objs.size) h3.objs.size (.ok .next) s':=fun s' σ' H' I' q'=>by
  obtain⟨m,hm,_⟩:=id I'.loc
  have I5:Inv X pins σ H' s':=I3'.call' (ch:=fp) I'.os I'.base I'.hok I'.bare fun b hb=>by
   obtain⟨f0,f1,f2',f3',f4,f5⟩:=f3 b hb
   exact⟨f3',f1,f4,f5⟩
  refine⟨m,hm,fun h' hsb=>?_⟩
  refine⟨.ref s2.heap.objs.size,H',?_,rfl,q'⟩
  have hfc:H' h3.objs.size=none:=I'.free
  have hcl1:∀ b o,h3.get? b=some o->b≠h3.objs.size:=fun b o eb=>i9 (d4 eb)
  obtain⟨h0',g0,d0,t0,o0⟩:=s'
  refine I5.turned (t':=t0) (it:=h3.objs.size) (fun b o hb eb=>(hsb.2 b hb).trans eb) hfc ?_ (.inr I3'.sz) (fun x c ex z=>?_) (fun p hp z=>?_)
  ·exact N5 I3'.lt
  ·obtain⟨v',q2⟩:=I3'.cell x c ex
   exact absurd q2.lt (by rw[z];exact x6 _)
  ·exact absurd (d4 (I3'.pin p hp).1) (by rw[z];exact x6 _)
 have loop:∀ s5:Shared,s5={ s2 with heap:=h1,toks:=s2.toks } ->
   ak2 (m7 X.prog X.w) X.A (.compLoop (.ListComp elt [⟨tg,iter,ifs,0⟩] scope pos) 0 (.ref it) (.ref s2.heap.objs.size) (G4 scope ((x0,h3.objs.size+1)::cl) h3.objs.size X.env)) (av6 (m7 X.prog X.w) X.A X.xe none (EP X pins σ Q) (.ref s2.heap.objs.size) h3.objs.size) s5:=by
  rintro s5 rfl
  refine bs2 rfl (fun n s'=>∃ i xs σ' H',Inv (M3 X x0 scope cl N' { s2 with heap:=h3,toks:=s2.toks } (upd H2 s2.heap.objs.size (.lst [])) fp fun _ _=>False) [] σ' H' s'/\tn i s'.heap/\(∀ b∈fp,H' b=none)/\W i n xs σ' H')
   (fun n s6 hI=>?_) m0 ⟨0,[],aa6 lk σ,_,I4,st4,fun b hb=>(f3 b hb).1,w0⟩
  obtain⟨i,xs,σ6,H6,I6,st6,fr6,w6⟩:=hI
  show m5 _ X.A ((compTurn (.ListComp elt [⟨tg,iter,ifs,0⟩] scope pos) 0 (.ref it) (.ref s2.heap.objs.size) (G4 scope ((x0,h3.objs.size+1)::cl) h3.objs.size X.env)).onRaise (fun x=>do noteFrame x (G4 scope ((x0,h3.objs.size+1)::cl) h3.objs.size X.env);aS9 x)) _ _ s6
  refine bC3 ?_
  rw[bi8]
  refine a4 (X7 (a4 ?_))
  obtain⟨hD6,hw⟩:=turn i n xs σ6 H6 w6
  rcases hw with⟨stop,qn⟩ | ⟨go,hlen,step⟩
  ·refine thn (T.done (M3 X x0 scope cl N' { s2 with heap:=h3,toks:=s2.toks } (upd H2 s2.heap.objs.size (.lst [])) fp fun _ _=>False) rfl rfl rfl hc i [] s6 σ6 H6 _ I6 (stat fr6) st6 stop) fun r s7 ⟨hr,I7⟩=>?_
   subst hr
   exact a6 (fin s7 σ6 H6 I7 qn)
  ·refine thn (T.item (M3 X x0 scope cl N' { s2 with heap:=h3,toks:=s2.toks } (upd H2 s2.heap.objs.size (.lst [])) fp fun _ _=>False) rfl rfl rfl hc i [] s6 σ6 H6 _ I6 (stat fr6) st6 go) fun r s7 ⟨u,hr,h7⟩=>?_
   subst hr
   refine a4 (thn h7 fun _ s8 ⟨x,H8,I8,r8,y8,st8,fr8⟩=>?_)
   have I8':=I8.pinned (stat fr8) (T.obj _ _ st8)
   refine a4 (C4 (hg _ _ _ _ s8 σ6 H8 x u _ I8' r8 (step x H8 y8)) (fun _ s9 ⟨σ9,H9,I9,q9⟩=>?_) (fun _ _ z=>False.elim z))
   refine a4 (C4 (ht _ _ _ _ s9 σ9 H9 _ I9 q9) (fun ok s10 ⟨H10,I10,q10⟩=>?_) (fun _ _ z=>False.elim z))
   have again:∀ {σ':St} {H':Hp} {ys:List V} {s':Shared},Inv (M3 X x0 scope cl N' { s2 with heap:=h3,toks:=s2.toks } (upd H2 s2.heap.objs.size (.lst [])) fp fun _ _=>False) ([]++ad6 fp s8.heap) σ' H' s'->(∃ m',m'<n/\W (i+1) m' ys σ' H') ->
     ∃ m',m'<n/\∃ i xs σ' H',Inv (M3 X x0 scope cl N' { s2 with heap:=h3,toks:=s2.toks } (upd H2 s2.heap.objs.size (.lst [])) fp fun _ _=>False) [] σ' H' s'/\tn i s'.heap/\(∀ b∈fp,H' b=none)/\W i m' xs σ' H':=fun {σ' H' ys s'} I' ⟨m',hm,w'⟩=>by
    refine⟨m',hm,i+1,ys,σ',H',I'.unpinned,T.keep _ _ _ st8 fun b hb o eb=>(I'.pin (b,o) (d6 _ (d6 _ (L6 hb eb)))).1,fun b hb=>?_,w'⟩
    obtain⟨o,eb,_⟩:=T.obj _ _ st8 b hb
    exact(I'.pin (b,o) (d6 _ (d6 _ (L6 hb eb)))).2.1
   cases ok with
   | false =>
    have q10':∃ m',m'<n/\W (i+1) m' xs σ9 H10:=by simpa using q10
    exact a6 ⟨rfl,again I10 q10'⟩
   | true =>
    rw[if_pos rfl]at q10
    refine a4 (a4 (C4 (he _ _ _ _ s10 σ9 H10 _ I10 q10) (fun y s11 ⟨v11,H11,I11,r11,hD11,q11⟩=>?_) (fun _ _ z=>False.elim z)))
    refine a4 (C4 (L9 (X:=M3 X x0 scope cl N' { s2 with heap:=h3,toks:=s2.toks } (upd H2 s2.heap.objs.size (.lst [])) fp fun _ _=>False) _ s11 σ9 H11 (.ref s2.heap.objs.size) [v11] (.ref s2.heap.objs.size) [y] (fun _ H'=>∃ m',m'<n/\W (i+1) m' (xs++[v11]) σ9 H') I11 rfl (.cons r11 .nil) ⟨s2.heap.objs.size,xs,v11,rfl,rfl,hD11,hlen,q11⟩) (fun _ s12 ⟨_,H12,I12,_,q12⟩=>?_) (fun _ _ z=>False.elim z))
    exact a6 (a6 ⟨rfl,again I12 q12⟩)
 exact ah1 (loop _ rfl) (T.self X.A 0 _ _ _ st4 (loop _ rfl))
end L2
namespace L2
open PySem PySem.Spec PyProof.Rows PySem.SeqAt
def ad9 (h:Heap)(d:Addr)(es:Array G2)(ep:Nat):Prop:=∃ o,h.get? d=some o/\o.ExactDict/\o.data=.dict es ep
theorem ad9.typeIs {es:Array G2}{ep:Nat}(x:ad9 s.heap d es ep):s.TypeIs (.ref d) "dict":=let ⟨o,ho,hc,_⟩:=x;⟨o,ho,hc.1⟩
theorem ad9.at' {es:Array G2}{ep:Nat}(x:ad9 h d es ep)(e:∀ o,h.get? d=some o->h'.get? d=some o):ad9 h' d es ep:=let ⟨o,ho,r⟩:=x;⟨o,e _ ho,r⟩
theorem aD1 {es:Array G2}{ep:Nat}(hd:(d == C3)=false)(hm:ad9 s.heap d es ep)
  (hQ:Q (.ref s.heap.objs.size) { s with heap:=s.heap.push { cls:=.type "dict_keyiterator",data:=.fields #[.ref d,.int 0 0,.int es.size 0,.int ep 0] } }) :
  m5 (m7 prog w) A (pyIter (.ref d)) Q E s:=by
 have hT:=hm.typeIs
 obtain⟨o,ho,hc,hdat⟩:=id hm
 refine wpAny_pyIter_slot hT PySem.F.slot_dict_iter (J2 PySem.F.slot_dict_iter hT PySem.F.entry_dict_iter ?_ (PySem.F.args_dict_iter_1 _))
 unfold Builtin.«dict.__iter__»
 refine a4 ?_
 unfold Builtin.Dict.dictSlotNone
 refine a4 (bs4 hT ?_)
 show m5 _ _ (pure (Value.ref d)) _ _ s
 refine a6 ?_
 show m5 _ _ (Builtin.Dict.showsAll d >>= _) _ _ s
 unfold Builtin.Dict.showsAll
 rw[if_neg (by rw[hd];exact c7)]
 refine a4 (a6 ?_)
 refine a4 (K9 ho hdat ?_)
 refine a4 (ak9 ho hdat ?_)
 refine a4 (aA1 (a6 ⟨_,rfl,"dict_keyiterator",_,⟨_,l0 _ rfl,rfl⟩,PySem.F.slot_dict_keyiterator_next.lookup,?_⟩))
 simpa [rawInt] using hQ
theorem ba6 {it:Addr}{ep:Nat}{es:Array G2}{e:G2}{Q:Option Value->Shared->Prop}(hit:s.heap.IsKeyIter it d i es.size ep)
  (hm:ad9 s.heap d es ep)(hx:es[i]?=some e)(hQ:∀ h',h'.IsKeyIter it d (i+1) es.size ep->Heap.SameBut it s.heap h'->Q (some e.key) { s with heap:=h' }) :
  m5 (m7 prog w) A (bh2 (.ref it)) Q E s:=by
 obtain⟨o,ho,hc,hd⟩:=id hit
 obtain⟨od,hod,hcd,hdd⟩:=id hm
 unfold bh2
 refine a4 (bi6 (bj0 (name:=Str.ofString "__next__") hit.typeIs PySem.F.slot_dict_keyiterator_next
  (J2 PySem.F.slot_dict_keyiterator_next hit.typeIs PySem.F.entry_dict_keyiterator_next ?_ (PySem.F.args_dict_keyiterator_next_1 _))))
 refine a4 (a6 ?_)
 refine a4 ?_
 refine a4 ?_
 first | refine a4 (M5 hit.typeIs (a6 ?_)) | refine a4 (R0 hit.typeIs (a6 ?_))
 refine a4 (wpAny_fieldsOf ho hd ?_)
 have hown:Builtin.Dict_items.ownsTuple "dict_keyiterator"=false:=by decide
 simp only[hown,d3,if_false]
 show m5 _ _ (if (Value.ref d == Value.none)=true then _ else _) _ _ s
 rw[if_neg (show ¬ ((Value.ref d == Value.none)=true) from c7)]
 refine a4 (a6 ?_)
 refine a4 (K9 hod hdd ?_)
 rw[if_neg (by simp)]
 refine a4 (a6 ?_)
 refine a4 (ak9 hod hdd ?_)
 rw[if_neg (by simp)]
 refine a6 ?_
 simp only[show ¬ ((i:Int)<0) from by omega,if_false,n8,hx]
 refine a4 ?_
 first | refine a4 (M5 hit.typeIs (a6 ?_)) | refine a4 (R0 hit.typeIs (a6 ?_))
 refine a4 (bs5 hit.typeIs ?_)
 show m5 _ _ (setField (.ref it) 1 (rawInt ((i:Int)+1)) >>= _) _ _ s
 refine a4 (wpAny_setField ho hd (by simp) ?_)
 have hit':(s.heap.update it (Obj.mapFields (·.setIfInBounds 1 (rawInt ((i:Int)+1))))).IsKeyIter it d (i+1) es.size ep:=
  ⟨_,D3 _ ho (Obj.isFreed_of_fields (Obj.data_mapFields hd _)),(Obj.cls_mapFields ..).trans hc,by rw[Obj.data_mapFields hd];simp[rawInt]⟩
 refine a4 (u7 ?_)
 refine a4 (bs5 (s:={ s with heap:=s.heap.update it (Obj.mapFields (·.setIfInBounds 1 (rawInt ((i:Int)+1)))) }) hit'.typeIs ?_)
 show m5 _ _ (pure e.key) _ _ _
 exact a6 (a6 ⟨_,rfl,a6 (hQ _ hit' (Heap.SameBut.update ..))⟩)
theorem bk6 {it:Addr}{ep:Nat}{es:Array G2}{Q:Option Value->Shared->Prop}(hh:A.handled=none)(hit:s.heap.IsKeyIter it d i es.size ep)
  (hm:ad9 s.heap d es ep)(hx:es.size<=i)(hQ:∀ h',Heap.ExtBut it s.heap h'->Q none { s with heap:=h' }):m5 (m7 prog w) A (bh2 (.ref it)) Q E s:=by
 obtain⟨o,ho,hc,hd⟩:=id hit
 obtain⟨od,hod,hcd,hdd⟩:=id hm
 unfold bh2
 refine a4 (bi6 (bj0 (name:=Str.ofString "__next__") hit.typeIs PySem.F.slot_dict_keyiterator_next
  (J2 PySem.F.slot_dict_keyiterator_next hit.typeIs PySem.F.entry_dict_keyiterator_next ?_ (PySem.F.args_dict_keyiterator_next_1 _))))
 refine a4 (a6 ?_)
 refine a4 ?_
 refine a4 ?_
 first | refine a4 (M5 hit.typeIs (a6 ?_)) | refine a4 (R0 hit.typeIs (a6 ?_))
 refine a4 (wpAny_fieldsOf ho hd ?_)
 have hown:Builtin.Dict_items.ownsTuple "dict_keyiterator"=false:=by decide
 simp only[hown,d3,if_false]
 show m5 _ _ (if (Value.ref d == Value.none)=true then _ else _) _ _ s
 rw[if_neg (show ¬ ((Value.ref d == Value.none)=true) from c7)]
 refine a4 (a6 ?_)
 refine a4 (K9 hod hdd ?_)
 rw[if_neg (by simp)]
 refine a4 (a6 ?_)
 refine a4 (ak9 hod hdd ?_)
 rw[if_neg (by simp)]
 refine a6 ?_
 simp only[show ¬ ((i:Int)<0) from by omega,if_false,n8,Array.getElem?_eq_none hx]
 refine a4 ?_
 first | refine a4 (M5 hit.typeIs (a6 ?_)) | refine a4 (R0 hit.typeIs (a6 ?_))
 show m5 _ _ (setField (.ref it) 0 .none >>= _) _ _ s
 refine a4 (wpAny_setField ho hd (by simp) ?_)
 show m5 _ _ (newExc (.type "StopIteration") [] >>= _) _ _ _
 refine a4 ?_
 simp only[newExc,newTuple]
 refine a4 (aA1 ?_ (by size_fits))
 refine a4 (m:=firstArgMember _ _) (bC4 (a:=Value.none) (by first | rfl | (simp only[firstArgMember];rfl)) ?_)
 refine aA1 ?_ (by size_fits)
 simp only[raiseNew]
 refine a4 (wpAny_handled ?_)
 rw[show A.in1.handled=none from hh]
 refine a4 (a6 (wpAny_throw ?_))
 refine a4 (J3 (T:="StopIteration") (b:=true) ⟨_,l0 _ rfl,rfl⟩ isSubtype_stop ?_)
 exact a6 (hQ _ (((Heap.SameBut.update ..).extBut.push _).push _))
theorem ap0 (hh:A.handled=none)(I d:Addr)(hne:d≠I)(es:Array G2)(ep:Nat) :
  Walks prog w A I [I,d] [I] es.size (fun i v=>∃ e,es[i]?=some e/\v=e.key) (fun i h=>h.IsKeyIter I d i es.size ep/\ad9 h d es ep) where
 sub:=fun b hb=>by simp at hb;simp[hb]
 frame:=fun _ _ _ st hk=>⟨st.1.at fun o e=>hk I (by simp) o e,st.2.at' fun o e=>hk d (by simp) o e⟩
 item:=fun i s Q E hi st hQ=>by
  obtain⟨e,hx⟩:∃ e,es[i]?=some e:=⟨es[i],by simp[hi]⟩
  refine ba6 st.1 st.2 hx fun h' hit' hs'=>?_
  exact hQ e.key h' s.toks ⟨e,hx,rfl⟩ ⟨hit',st.2.at' fun o q=>hs'.extBut d o hne q⟩ fun b o hb q=>hs'.extBut b o (fun h=>hb (by simp[h])) q
 done:=fun s Q E st hQ=>bk6 hh st.1 st.2 (c6 _) fun h' he'=>hQ h' s.toks fun b o hb e=>he' b o (fun h=>hb (by simp[h])) e
 self:=fun _ _ _ _ st hQ=>bA9 st.1 hQ
theorem ba7 {es:Array G2}{ep:Nat}{Q:Bool->Shared->Prop}(hr:ad9 s.heap d es ep)(h:Q false s):m5 (m7 prog w) A (Builtin.List.listLengthHint (.ref d)) Q E s:=by
 have hT:=hr.typeIs
 unfold Builtin.List.listLengthHint
 refine a4 (R8 hT PySem.F.slot_dict_len.lookup ?_)
 generalize hid:("dict.__len__":String)=id0
 wp_delta
 rw[show splitId id0=some ("dict","__len__") from by subst hid;decide +kernel]
 subst hid
 refine a4 (J3 (T:="dict") (b:=true) hT (by rw[aX3];kernel_rfl) ?_)
 refine aT0 (fun hab=>absurd hab (by decide)) (fun _=>?_)
 refine aT0 (fun _=>?_) (fun hab=>absurd (by decide +kernel) hab)
 refine a4 (ak7 hT ?_)
 exact a6 h
theorem aJ5 {R:Result->Shared->Prop} {es:Array G2} {ep:Nat} (hh:A.handled=none) (hd:(d == C3)=false) (hr:ad9 s.heap d es ep) (hlen:es.size<=d7) (S:Addr) (res:Value) (c₀:Nat) (hS:s.heap.get? S=some { cls:=.type "list",data:=.seq #[] c₀ })
  (hR : ∀ h' tk acc' c', (∀ b o, b ≠ S -> s.heap.get? b = some o -> h'.get? b = some o) -> h'.get? S = some { cls := .type "list", dict := none, data := .seq acc' c', slots := #[] } ->
   ItemsOf (fun i v=>∃ e,es[i]?=some e/\v=e.key) acc' es.size->R (.ok (.ret res)) { s with heap:=h',toks:=tk }) :
  m5 (m7 prog w) A.in1 (Builtin.List.listExtendWith (.ref S) (.ref d) res)
   (fun fin s'=>match fin with | .done f=>R (.ok f) s' | .again c'=>c'.quiet=true/\ak2 (m7 prog w) A c' R s') (fun e s'=>R (.error e) s') s:=by
 have hSd:S≠d:=fun e=>by
  obtain⟨o,ho,_,hx⟩:=hr
  rw[e,ho]at hS
  cases hS
  cases hx
 have hdlt:d<s.heap.objs.size:=let ⟨o,ho,_⟩:=hr;d4 ho
 have hSlt:S<s.heap.objs.size:=d4 hS
 have hSI:S≠s.heap.objs.size:=i9 hSlt
 have hSf:S∉[s.heap.objs.size,d]:=fun hm=>by
  rcases b7.mp hm with e | e
  ·exact hSI e
  ·exact hSd (a8.mp e)
 have W:=(ap0 (prog:=prog) (w:=w) (A:=A.in1) hh s.heap.objs.size d (i9 hdlt) es ep).toS
 have key:∀ (h:Heap) (c₁ tk:Nat),h.IsKeyIter s.heap.objs.size d 0 es.size ep->ad9 h d es ep->(∀ b o,b≠S->s.heap.get? b=some o->h.get? b=some o) ->
   h.get? S=some { cls:=.type "list",data:=.seq #[] c₁ }->ak2 (m7 prog w) A (.builtin "list.extend.loop" ⟨[.ref S,.ref s.heap.objs.size,res],[]⟩) R { s with heap:=h,toks:=tk }:=by
  intro h c₁ tk hit hr1 hk hS₁
  refine codeAny_extend_loopS W hlen S hSf res es.size 0 _ #[] c₁ rfl (k9 _) ⟨hit,hr1⟩ hS₁ (ItemsOf.nil _) fun s' acc' c' hm hS' hacc=>?_
  rw[Moved.eq_with hm]
  refine hR s'.heap s'.toks acc' c' (fun b o hb e=>hm.heap b o (fun hmem=>?_) (hk b o hb e)) hS' hacc
  rcases b7.mp hmem with e' | hmem
  ·exact hb e'
  ·exact absurd (d4 e) (by rw[a8.mp hmem];exact x6 _)
 unfold Builtin.List.listExtendWith
 refine a4 (ak7 hr.typeIs ?_)
 have h1:Builtin.List.listSameRef (.ref S) (.ref d)=false:=by simp[Builtin.List.listSameRef,hSd]
 have h2:(Value.type "dict" == Value.type "list")=false:=by decide
 have h3:(Value.type "dict" == Value.type "tuple")=false:=by decide
 simp only[h1,h2,h3,aW8,d3,if_false]
 refine a4 (aD1 hd hr ?_)
 have hr₁:ad9 (s.heap.push { cls:=.type "dict_keyiterator",data:=.fields #[.ref d,.int 0 0,.int es.size 0,.int ep 0] }) d es ep:=hr.at' fun o e=>a5 _ e
 refine a4 (u7 (ba7 hr₁ ?_))
 have hit₁:(s.heap.push { cls:=.type "dict_keyiterator",data:=.fields #[.ref d,.int 0 0,.int es.size 0,.int ep 0] }).IsKeyIter s.heap.objs.size d 0 es.size ep:=⟨_,l0 _ rfl,rfl,rfl⟩
 have hS₁:=a5 { cls:=.type "dict_keyiterator",data:=.fields #[.ref d,.int 0 0,.int es.size 0,.int ep 0] } hS
 refine aT0 (fun _=>?_) (fun _=>a6 ⟨bi7 PySem.F.plain_extend_loop _,key _ c₀ _ hit₁ hr₁ (fun b o _ e=>a5 _ e) hS₁⟩)
 refine a4 (am3 ?_)
 refine a4 ?_
 show m5 _ _ (updateSeq S (·.push .none) >>= fun _=>updateSeq S (·.pop)) _ _ _
 refine a4 (aT1 hS₁ rfl ?_)
 have hS₂:=D3 (Obj.mapSeq (·.push Value.none)) hS₁ rfl
 refine aT1 (hz:=by seq_fits) hS₂ rfl ?_
 have hS₃:=D3 (Obj.mapSeq (·.pop)) hS₂ rfl
 have oth:∀ b o,b≠S->(s.heap.push { cls:=.type "dict_keyiterator",data:=.fields #[.ref d,.int 0 0,.int es.size 0,.int ep 0] }).get? b=some o->(((s.heap.push { cls:=.type "dict_keyiterator",data:=.fields #[.ref d,.int 0 0,.int es.size 0,.int ep 0] }).update S (Obj.mapSeq (·.push Value.none))).update S (Obj.mapSeq (·.pop))).get? b=some o:=fun b o hb e =>
  (n9 _ _ (Ne.symm hb)).trans ((n9 _ _ (Ne.symm hb)).trans e)
 refine a6 ⟨bi7 PySem.F.plain_extend_loop _,key _ _ _ (hit₁.at fun o e=>oth _ _ (Ne.symm hSI) e) (hr₁.at' fun o e=>oth _ _ (Ne.symm hSd) e) (fun b o hb e=>oth b o hb (a5 _ e)) hS₃⟩
theorem aD0 {es:Array G2} {ep:Nat} (hh:A.handled=none) (hd:(d == C3)=false) (hr:ad9 s.heap d es ep) (hlen:es.size<=d7)
  (hQ : ∀ h' tk acc' c', (∀ b o, s.heap.get? b = some o -> h'.get? b = some o) ->
   h'.get? s.heap.objs.size=some { cls:=.type "list",dict:=none,data:=.seq acc' c',slots:=#[] }->ItemsOf (fun i v=>∃ e,es[i]?=some e/\v=e.key) acc' es.size->Q (.ref s.heap.objs.size) { s with heap:=h',toks:=tk }) :
  m5 (m7 prog w) A (call (.type "list") [.ref d]) Q E s:=by
 refine callType_codes (Q₁:=fun obj s₁=>obj=.ref s.heap.objs.size/\s₁={ s with heap:=s.heap.push { cls:=.type "list",data:=.seq #[] } }) PySem.F.called_list (PySem.F.typeCall_list_1 _) PySem.F.entry_list_init
  (code_list_new _ ⟨rfl,rfl⟩) fun obj s₁ h₁=>?_
 obtain⟨rfl,rfl⟩:=h₁
 have hS:(s.heap.push { cls:=.type "list",data:=.seq #[] }).get? s.heap.objs.size=some { cls:=.type "list",data:=.seq #[] }:=l0 _ rfl
 refine⟨⟨_,hS,rfl⟩,PySem.F.args_list_init_2 _ _,?_⟩
 have hr₁:ad9 (s.heap.push { cls:=.type "list",data:=.seq #[] }) d es ep:=hr.at' fun o e=>a5 _ e
 have hSd:s.heap.objs.size≠d:=N5 (let ⟨o,ho,_⟩:=hr;d4 ho)
 show m5 _ _ (do let old <- Builtin.List.listItems (.ref s.heap.objs.size);Builtin.List.listUpdate (.ref s.heap.objs.size) (fun _=>#[]);letGo old.toList.reverse;Builtin.List.listExtendWith (.ref s.heap.objs.size) (.ref d) .none) _ _ _
 refine a4 ?_
 unfold Builtin.List.listItems
 refine a4 (ac3 hS rfl (a6 ?_))
 show m5 _ _ (updateSeq s.heap.objs.size (fun _=>#[]) >>= fun _=>letGo (#[]:Array Value).toList.reverse >>= fun _=>Builtin.List.listExtendWith (.ref s.heap.objs.size) (.ref d) .none) _ _ _
 refine a4 (aT1 hS rfl ?_)
 have hS₂:=D3 (Obj.mapSeq (fun _=>(#[]:Array Value))) hS rfl
 have oth:∀ b o,b≠s.heap.objs.size->(s.heap.push { cls:=.type "list",data:=.seq #[] }).get? b=some o->((s.heap.push { cls:=.type "list",data:=.seq #[] }).update s.heap.objs.size (Obj.mapSeq (fun _=>(#[]:Array Value)))).get? b=some o :=
  fun b o hb e=>(n9 _ _ (Ne.symm hb)).trans e
 refine a4 (wpAny_letGo ?_)
 refine aJ5 (A:=A.in1) hh hd (hr₁.at' fun o e=>oth _ _ (Ne.symm hSd) e) hlen _ .none _ hS₂ fun h' tk acc' c' hk hS' hacc=>?_
 exact⟨rfl,hQ h' tk acc' c' (fun b o e=>hk b o (i9 (d4 e)) (oth b o (i9 (d4 e)) (a5 _ e))) hS' hacc⟩
theorem ab6 {α β:Type}{R:α->β->Prop}:∀ {l:List α} {m:List β},l.length=m.length->(∀ (i:Nat) (x:α) (y:β),l[i]?=some x->m[i]?=some y->R x y)->F8 R l m
 | [],[],_,_=>.nil
 | [],_::_,e,_=>by cases e
 | _::_,[],e,_=>by cases e
 | x::l,y::m,e,h=>.cons (h 0 x y rfl rfl) (ab6 (by simpa using e) fun i a b ha hb=>h (i+1) a b (by simpa using ha) (by simpa using hb))
theorem aW5 {bs:List Bool}(h:(bs.map Value.bool)[i]?=some v):v=.bool (bs.getD i false):=by
 rw[j3]at h
 cases e:bs[i]? with
 | none=>rw[e]at h;cases h
 | some b=>rw[e]at h;cases h;rw[x5,e];rfl
theorem all_range (bs:List Bool):((n6 bs.length).all fun i=>bs.getD i false)=bs.all id:=by
 rw[F6,D9,D9]
 constructor
 ·intro h b hb
  obtain⟨i,hi,rfl⟩:=List.mem_iff_getElem.mp hb
  have:=h i (k7.mpr hi)
  rw[x5,d5 hi]at this
  exact this
 ·intro h i hi
  have hi:=k7.mp hi
  rw[x5,d5 hi]
  exact h _ (ac8 hi)
theorem boot_all:ab0 "all"=some (.builtin "all"):=by decide +kernel
theorem aW4 (hc:X.calm=true):P3 X (.builtin "all") (fun xs H Q=>∃ (l:Addr) (bs:List Bool),xs=[.ref l]/\H l=some (.lst (bs.map V.bl))/\Q (.bl (bs.all id)) H):=by
 intro pins s σ H xs us Q I r h
 obtain⟨l,bs,rfl,hH,q⟩:=h
 obtain⟨u,rfl,rx⟩:=vals1 r
 cases rx
 obtain⟨z,its,n,r,hl,e⟩:=I.lstM hH
 obtain rfl:=aN1 r
 have hl1:s.heap.IsList l (bs.map Value.bool).toArray:=⟨_,e,rfl,_,rfl⟩
 refine call_all_walkS (az8 hl1 ?_)
 have hlt:l<s.heap.objs.size:=d4 e
 have hh:X.A.in1.handled=none:=by simp[I.ok.hd hc]
 refine⟨_,_,_,_,_,_,_,fun i=>bs.getD i false,rfl,(Walks.list hh _ l (i9 hlt) (bs.map Value.bool).toArray).toS,⟨⟨_,l0 _ rfl,rfl,rfl⟩,hl1.push _⟩,?_,fun s' hm=>?_⟩
 ·intro i v s Q E hv hq
  have:=aW5 (bs:=bs) (i:=i) (v:=v) (by simpa using hv)
  subst this
  exact a6 hq
 ·refine⟨.bl (bs.all id),H,?_,?_,q⟩
  ·rw[Moved.eq_with hm]
   exact I.kept (t':=s'.toks) fun b o eo=>hm.heap b o (fun hb=>absurd (d4 eo) (by rw[a8.mp hb];exact x6 _)) (a5 _ eo)
  ·show _=Value.bool (bs.all id)
   rw[<- all_range]
   simp
theorem sub_tuple_set:isSubtype (.type "tuple") (.type "set")=pure false:=by rw[aX3];kernel_rfl
theorem sub_tuple_frozenset:isSubtype (.type "tuple") (.type "frozenset")=pure false:=by rw[aX3];kernel_rfl
set_option maxRecDepth 100000 in
set_option maxHeartbeats 3200000 in
theorem aJ1 {items:Array Value} {ns:List Int}
  (hh:A.handled=none) (hl:s.heap.IsTuple l items) (hi:PyProof.Rows.IntsAre items.toList ns) (hb:items.size+1<scanBound)
  (h : ∀ (h' : Heap) (tk : Nat), h'.SetOf (m9 prog w) s.heap.objs.size (fun k' => (PyProof.Rows.firstMet (fun i => ns.getD i 0) items.size).any (· == k')) (PyProof.Rows.firstMet (fun i => ns.getD i 0) items.size).length ->
   (∀ b o,s.heap.get? b=some o->h'.get? b=some o)->Q (.ref s.heap.objs.size) { s with heap:=h',toks:=tk }) :
  m5 (m7 prog w) A (call (.type "set") [.ref l]) Q E s:=by
 obtain⟨c,tl,hmro⟩:=PySem.F.called_set.mro
 have hmade:=PySem.F.called_set.made
 have hsub:=PySem.F.called_set.sub
 refine wpAny_call (codeAny_of_tree ?_)
 show m5 _ _ (callAny (.type "set") _) _ _ _
 refine a6 ⟨Code.quiet_builtin _ (by decide +kernel),ak8 PySem.F.entry_type_call ?_⟩
 rw[Around.under_plain (bs1 "set" [.ref l] []) rfl]
 have h1:=PySem.F.called_set.notType
 have h2:=PySem.F.called_set.canCreate
 have hct:=PySem.F.typeCall_set_1 (.ref l)
 repeat (any_goals (first | assumption | wp_step))
 refine V9 (code_set_new_1 (.ref l) (E:=E) (Q₁:=fun obj s₁=>∃ led:Bool,obj=.ref s.heap.objs.size/\s₁={ s with heap:=s.heap.push { cls:=.type "set",dict:=none,data:=.set #[] 0 (.fresh 0 0 led) } }) fun led=>⟨led,rfl,rfl⟩) fun r s₁ hr=>?_
 cases r with
 | error e=>exact hr
 | ok fl =>
  cases fl with
  | ret obj =>
   obtain⟨led,rfl,rfl⟩:=hr
   have hS:(s.heap.push { cls:=.type "set",dict:=none,data:=.set #[] 0 (.fresh 0 0 led) }).get? s.heap.objs.size=some { cls:=.type "set",dict:=none,data:=.set #[] 0 (.fresh 0 0 led) }:=l0 _ rfl
   have hT:Shared.TypeIs { s with heap:=s.heap.push { cls:=.type "set",dict:=none,data:=.set #[] 0 (.fresh 0 0 led) } } (.ref s.heap.objs.size) "set":=⟨_,hS,rfl⟩
   have hli:=PySem.F.called_set.init.lookup
   have hbi:=PySem.F.called_set.init.bind (.ref s.heap.objs.size)
   repeat (any_goals (first | assumption | wp_step))
   refine V9 (bA7 (R:=wants (fun r s₂=>r=.none/\∃ h' tk,s₂={ s with heap:=h',toks:=tk } /\
     h'.SetOf (m9 prog w) s.heap.objs.size (fun k'=>(PyProof.Rows.firstMet (fun i=>ns.getD i 0) items.size).any (· == k')) (PyProof.Rows.firstMet (fun i=>ns.getD i 0) items.size).length /\
     (∀ b o,s.heap.get? b=some o->h'.get? b=some o)) E) PySem.F.called_set.init.plain PySem.F.entry_set_init (check_set_init_1 hT ?_)) fun r₂ s₂ hr₂=>?_
   ·obtain⟨ol,hol,hcl,nl,hdl⟩:=hl
    obtain⟨ocls,odict,odata,oslots⟩:=ol
    simp only at hcl hdl
    subst hcl;subst hdl
    have hol':(s.heap.push { cls:=.type "set",dict:=none,data:=.set #[] 0 (.fresh 0 0 led) }).get? l=some { cls:=.type "tuple",dict:=odict,data:=.seq items nl,slots:=oslots }:=a5 _ hol
    have hsls:=sub_tuple_set
    have hslf:=sub_tuple_frozenset
    have hne:(Value.type "tuple" == Value.type "dict")=false:=by decide
    have hl1:(s.heap.push { cls:=.type "set",dict:=none,data:=.set #[] 0 (.fresh 0 0 led) }).IsTuple l items:=⟨_,hol',rfl,nl,rfl⟩
    unfold Builtin.«set.__init__» noKeywords Builtin.Frozenset.updateFrom
    generalize hPI:pyIter=PI
    wp_walk
    subst hPI
    refine wpAny_pyIter_tuple hl1 ?_
    refine a4 (wpAny_runValue ?_)
    have hlS:l<s.heap.objs.size:=d4 hol
    have hh3:A.in1.in1.in1.handled=none:=by simp[hh]
    have hneI:l≠(s.heap.push { cls:=.type "set",dict:=none,data:=.set #[] 0 (.fresh 0 0 led) }).objs.size:=by
     rw[B9];exact i9 (p6 hlS)
    have hSf:s.heap.objs.size∉[(s.heap.push { cls:=.type "set",dict:=none,data:=.set #[] 0 (.fresh 0 0 led) }).objs.size,l]:=by
     rw[B9];simp only[b7,a8,j4,or_false,not_or]
     exact⟨i9 (Nat.lt_succ_self _),N5 hlS⟩
    have hval:∀ (i:Nat) (v:Value),items[i]?=some v->∃ t,v=.int ((fun i=>ns.getD i 0) i) t:=fun i v hv =>
     PyProof.Rows.IntsAre.int_at hi i v (by rw[b5];exact hv)
    have hl2:((s.heap.push { cls:=.type "set",dict:=none,data:=.set #[] 0 (.fresh 0 0 led) }).push { cls:=.type "tuple_iterator",data:=.fields #[.ref l,.int 0 0] }).IsTuple l items:=⟨_,a5 _ hol',rfl,nl,rfl⟩
    refine PyProof.Rows.codeAny_set_update_loopS ((Walks.tuple hh3 _ l hneI items).toS) s.heap.objs.size
     hSf (fun i=>ns.getD i 0) hval hb (items.size - 0) 0 _ (by omega) (k9 _)
     ⟨⟨_,l0 _ rfl,rfl,rfl⟩,hl2⟩ ?hS0 ?hR
    case hS0 =>
     have hget:((s.heap.push { cls:=.type "set",dict:=none,data:=.set #[] 0 (.fresh 0 0 led) }).push { cls:=.type "tuple_iterator",data:=.fields #[.ref l,.int 0 0] }).get? s.heap.objs.size
       = some { cls:=.type "set",dict:=none,data:=.set #[] 0 (.fresh 0 0 led) }:=a5 _ hS
     exact PyProof.Rows.SetOf_congr ((PyProof.Rows.setObjOf_fresh (knd:=m9 prog w) led).setOf hget (by unfold scanBound;omega)) (fun _=>rfl) rfl
    case hR =>
     intro s' hm hS'
     obtain⟨h',g',d',tk',os'⟩:=s'
     have eg:g'=s.gens:=hm.gens
     have ed:d'=s.drawn:=hm.drawn
     have eo:os'=s.os:=hm.os
     subst eg;subst ed;subst eo
     show m5 _ _ _ _ _ _
     refine a6 ?_
     show m5 _ _ (ret Value.none) _ _ _
     refine a6 ⟨rfl,h',tk',rfl,hS',fun b o e=>?_⟩
     have hb:=d4 e
     have hb1:b≠s.heap.objs.size:=i9 hb
     have hb2:b≠(s.heap.push { cls:=.type "set",dict:=none,data:=.set #[] 0 (.fresh 0 0 led) }).objs.size:=by
      rw[B9];exact i9 (p6 hb)
     exact hm.heap b o (by simp only[b7,a8,j4,or_false,not_or];exact⟨hb1,hb2⟩) (a5 _ (a5 _ e))
   ·cases r₂ with
    | error e=>exact hr₂
    | ok fl₂ =>
     cases fl₂ with
     | ret r =>
      obtain⟨rfl,h',tk,rfl,hS',hk'⟩:=hr₂
      repeat (any_goals (first | assumption | wp_step))
      exact h _ _ hS' hk'
     | _=>exact hr₂.elim
  | _=>exact hr.elim
def unl (ns:List Int):Nat:=(ns.foldl step_dedup []).length
theorem ay1 (ns:List Int):(firstMet (fun i=>ns.getD i 0) ns.length).length=unl ns:=by
 unfold firstMet unl
 have:(n6 ns.length).map (fun i=>ns.getD i 0)=ns:=by
  apply S4
  intro i
  rw[j3]
  rcases bh8 i ns.length with h | h
  ·rw[al8 h,bz9,x5,d5 h];rfl
  ·rw[G7 (by simpa using h),G7 h];rfl
 rw[this]
def bo5 (P:Program)(w:World)(S:Addr)(n:Nat):HO:=.ext fun h=>n<1000/\∃ f,h.SetOf (m9 P w) S f n
theorem aW3 (hc:X.calm=true):P3 X (.type "set") (fun xs H Q=>∃ (p:Addr) (ns:List Int),xs=[.ref p]/\SqT X.K H p (ns.map V.int)/\ns.length<1000/\∀ S,H S=none->Q (.ref S) (upd H S (bo5 X.prog X.w S (unl ns)))):=by
 intro pins s σ H xs us Q I r h
 obtain⟨p,ns,rfl,hq,hb,q⟩:=h
 obtain⟨u,rfl,rx⟩:=vals1 r
 cases rx
 obtain⟨its,r',pl,hz⟩:=I.tuple hq
 have hi:=intsAre_of r'
 have hl:its.length=ns.length:=IntsAre.length hi
 refine aJ1 (ns:=ns) (items:=its.toArray) (I.ok.hd hc) pl (by simpa using hi) (by unfold scanBound;simp;omega) fun h' tk hS kp=>?_
 have hsz:its.toArray.size=ns.length:=by simp[hl]
 rw[hsz,ay1]at hS
 have hle:unl ns<=ns.length:=foldl_step_dedup_nil_length_le ns
 refine⟨.ref s.heap.objs.size,_,I.laid (o:=bo5 X.prog X.w s.heap.objs.size (unl ns)) (t':=tk) kp (c6 _) ?_,rfl,q _ (I.hok.fresh (c6 _))⟩
 refine⟨⟨by omega,_,hS⟩,?_,fun h1 h2 ⟨hn1,f1,hS1⟩ hkeep=>⟨hn1,f1,?_⟩⟩
 ·obtain⟨o,_,_,_,ho,_⟩:=hS
  exact⟨o,ho⟩
 ·obtain⟨o,es,ep,t,ho,rest⟩:=hS1
  exact⟨o,es,ep,t,hkeep o ho,rest⟩
theorem as1:P3 X (.builtin "len") (fun xs H Q=>∃ S n,xs=[.ref S]/\H S=some (bo5 X.prog X.w S n)/\Q (.int n) H):=by
 intro pins s σ H xs us Q I r h
 obtain⟨S,n,rfl,hS,q⟩:=h
 obtain⟨u,rfl,rx⟩:=vals1 r
 cases rx
 obtain⟨⟨hn,f,o,es,ep,t,ho,hex,hd,_,_,_,hf,he⟩,_⟩:=I.hok S _ hS
 refine PySem.call_len_set ho hex hd hf (by omega) ?_
 exact⟨.int n,H,I.tok _,⟨_,by rw[he]⟩,q⟩
end L2
namespace L2
open PySem PySem.Spec PyProof.Rows
end L2
namespace Web
open PySem L2
def x8 (ks:List (List Int))(p:Nat):Nat:=ks.countP fun k=>decide ((p:Int)∈k)
def tal (n:Nat)(ks:List (List Int)):List Int:=(n6 n).map fun p=>(x8 ks p:Int)
theorem O4 (n:Nat)(ks:List (List Int)):(tal n ks).length=n:=by simp[tal]
theorem ae6 {p:Nat}(h:p<n):(tal n ks)[p]?=some (x8 ks p:Int):=by
 unfold tal
 rw[j3,al8 h]
 rfl
theorem aW2 (h:ks.Perm ls)(p:Nat):x8 ks p=x8 ls p:=h.countP_eq _
theorem ao2 (h:ks.Perm ls)(n:Nat):tal n ks=tal n ls:=by
 unfold tal
 exact X2 fun p _=>by rw[aW2 h]
theorem aF9 (ks ls:List (List Int))(p:Nat):x8 (ks++ls) p=x8 ks p+x8 ls p:=br4
theorem bf9 (i j p:Nat):x8 [[(i:Int),(j:Int)]] p=if p=i\/p=j then 1 else 0:=by
 unfold x8
 rw[ag7]
 by_cases h:p=i\/p=j
 ·rw[if_pos h,if_pos]
  simp only[decide_eq_true_eq,b7,j4,or_false]
  omega
 ·rw[if_neg h,if_neg]
  simp only[decide_eq_true_eq,b7,j4,or_false]
  omega
theorem bk0 (n:Nat):tal n []=r9 n 0:=by
 unfold tal x8
 rw[List.eq_replicate_iff]
 simp
theorem bj9 (hi:i<n)(hj:j<n)(h:i≠j)(ks:List (List Int))(z1 z2:Int)(e1:z1=x8 ks i)(e2:z2=x8 ks j) :
  ((tal n ks).set i (z1+1)).set j (z2+1)=tal n (ks++[[(i:Int),(j:Int)]]):=by
 subst e1 e2
 refine S4 fun p=>?_
 by_cases hp:p<n
 ·rw[ae6 hp,aF9,bf9,bA1,bA1,aH2,O4,ae6 hp]
  by_cases q1:j=p
  ·subst q1
   rw[if_pos rfl,if_pos hj,if_pos (.inr rfl)]
   simp
  ·rw[if_neg q1]
   by_cases q2:i=p
   ·subst q2
    rw[if_pos rfl,if_pos hi,if_pos (.inl rfl)]
    simp
   ·rw[if_neg q2,if_neg (by omega)]
    simp
 ·rw[G7 (by simp[O4];omega),G7 (by rw[O4];omega)]
end Web
namespace PySem
section
variable {K:Type} [DecidableEq K] {knd:bj1 prog w K}
end
end PySem
namespace PySem
section
variable {K:Type} [DecidableEq K] {knd:bj1 prog w K}
theorem bc3 {xs:List (K × Addr × Value)}(hh:(xs.map fun x=>knd.hash x.1).Nodup){x:K × Addr × Value}(hx:x∈xs):((xs.map (J1 knd)).filter fun e=>e.hash == (J1 knd x).hash).length<=1:=by
 have key:∀ (l:List (K × Addr × Value)),(l.map fun x=>knd.hash x.1).Nodup->((l.map (J1 knd)).filter fun e=>e.hash == (J1 knd x).hash).length<=1:=by
  intro l
  induction l with
  | nil=>intro _;exact k9 _
  | cons y l ih =>
   intro hn
   rw[j8,j1]at hn
   rw[j8]
   by_cases e:((J1 knd y).hash == (J1 knd x).hash)=true
   ·rw[ad0,if_pos e]
    have:((l.map (J1 knd)).filter fun e=>e.hash == (J1 knd x).hash)=[]:=by
     rw[ae0]
     intro z hz he
     obtain⟨z',hz',rfl⟩:=l6.mp hz
     refine hn.1 (l6.mpr ⟨z',hz',?_⟩)
     have e1:=beq_iff_eq.mp e
     have e2:=beq_iff_eq.mp he
     exact e2.trans e1.symm
    rw[this]
    exact c6 _
   ·rw[ad0,if_neg e]
    exact ih hn.2
 exact key xs hh
theorem aa4 {id:String}{o:Obj}{es ep}{xs:List (K × Addr × Value)}{Q:Array G2->Shared->Prop}(ho:s.heap.get? d=some o)(hd:o.data=.dict es ep)(he:es.toList=xs.map (J1 knd))
  (hq:∀ x∈xs,s.TypeIs (.ref x.2.1) "tuple")(hh:(xs.map fun x=>knd.hash x.1).Nodup)(h:Q es s) :
  m5 (m7 prog w) A (Builtin.Dict.entriesForEmpty id d) Q E s:=by
 unfold Builtin.Dict.entriesForEmpty
 refine a4 (K9 ho hd ?_)
 rw[<- G5,he]
 refine a4 (B2 _ (fun rest _ s'=>s'=s/\∀ e∈rest,∃ x∈xs,e=J1 knd x) _ ?_ ?_ _ _ ⟨rfl,fun e he=>let ⟨x,hx,ex⟩:=l6.mp he;⟨x,hx,ex.symm⟩⟩)
 ·rintro e rest b s' ⟨rfl,hr⟩
  obtain⟨x,hx,rfl⟩:=hr e b4
  have hrest:∀ e∈rest,∃ x∈xs,e=J1 knd x:=fun e he=>hr e (b9 _ he)
  have hone:=bc3 hh hx
  have hsz:(es.filter fun e=>e.hash == (J1 knd x).hash).size<=1:=by
   rw[<- d9,Array.toList_filter,he]
   exact hone
  unfold Builtin.Dict.quietEq
  refine a4 (a4 (R8 (hq x hx) PyProof.Rows.slot_tuple_eq.lookup (a6 ?_)))
  split
  ·rw[if_neg (by omega)]
   exact a6 ⟨rfl,hrest⟩
  ·exact a6 ⟨rfl,hrest⟩
 ·rintro b s' ⟨rfl,_⟩
  exact a6 h
theorem ap5 {nm:String}{o:Addr}{od:Obj}{epd:Nat}{xs:List (K × Addr × Value)}{Q:Unit->Shared->Prop}(hdo:d≠o)(hoS:(o == C3)=false)
  (hod:s.heap.get? d=some od)(hcd:od.ExactDict)(hdd:od.data=.dict #[] epd)(ho:s.heap.DictOfH knd o xs)
  (hq:∀ x∈xs,s.TypeIs (.ref x.2.1) "tuple")(hh:(xs.map fun x=>knd.hash x.1).Nodup)
  (hQ:∀ h',h'.DictOfH knd d xs->Heap.SameBut d s.heap h'->Q () { s with heap:=h' })(hsz:xs.length<=d7) :
  m5 (m7 prog w) A (Builtin.Dict.mergeDict nm d o) Q E s:=by
 obtain⟨oo,eso,epo,hoo,hco,hdo',he,his,hn⟩:=id ho
 have hlen:=al0 he
 unfold Builtin.Dict.mergeDict
 rw[if_neg (by simpa using hdo)]
 unfold Builtin.Dict.showsAll
 rw[if_neg (by rw[hoS];exact c7)]
 refine a4 (a6 ?_)
 refine a4 (K9 hoo hdo' ?_)
 by_cases hx:xs=[]
 ·subst hx
  have h0:eso=#[]:=Array.size_eq_zero_iff.mp hlen
  subst h0
  have few:(decide ((#[]:Array G2).size<=8) && (#[]:Array G2).all fun e=>(keyPart e.key).isSome)=true:=by simp
  rw[few]
  simp only[o9,d3,if_false]
  refine a4 (ak9 hoo hdo' ?_)
  refine a4 (K9 hoo hdo' ?_)
  refine a4 ?_
  rw[Std.Legacy.Range.forIn_eq_forIn_range']
  exact a6 (a6 (hQ s.heap ⟨od,#[],epd,hod,hcd,hdd,rfl,(fun _ h=>by cases h),t5⟩ (Heap.SameBut.refl _ _)))
 ·have few:(decide (eso.size<=8) && eso.all fun e=>(keyPart e.key).isSome)=false:=by
   have:(eso.all fun e=>(keyPart e.key).isSome)=false:=by
    rw[<- Array.all_toList,he]
    cases xs with
    | nil=>exact absurd rfl hx
    | cons x l=>rfl
   rw[this,Bool.and_false]
  rw[few]
  simp only[L8,if_true]
  refine a4 (K9 hod hdd ?_)
  rw[if_pos (show (#[]:Array G2).isEmpty=true by rfl)]
  refine a4 (aa4 hoo hdo' he hq hh ?_)
  have hne:eso.isEmpty=false:=by
   rw[Array.isEmpty_eq_false_iff]
   intro z
   rw[z]at hlen
   exact hx (V0 hlen.symm)
  rw[hne]
  simp only[L8,if_true]
  refine a4 (wpAny_updateDictKeysTo hod hdd (a6 (hQ _ ⟨_,_,epd+1,D3 _ hod (Obj.isFreed_of_dict (Obj.data_mapDictKeys hdd _)),hcd.mapDictKeys _,
     Obj.data_mapDictKeys hdd _,he,fun x hx=>knd.keeps (his x hx) hod hdd (Heap.SameBut.update ..),hn⟩ (Heap.SameBut.update ..))) (by omega))
theorem ay5 {o:Addr}{xs:List (K × Addr × Value)}(hoS:(o == C3)=false)(ho:s.heap.DictOfH knd o xs)(hsz:xs.length<=d7)
  (hq:∀ x∈xs,s.TypeIs (.ref x.2.1) "tuple")(hh:(xs.map fun x=>knd.hash x.1).Nodup)(hup:∀ (ob:Obj) (k:K) (a:Addr),knd.is s.heap k a->knd.is (s.heap.push ob) k a)
  (h:∀ h',h'.DictOfH knd s.heap.objs.size xs->Heap.SameBut s.heap.objs.size (s.heap.push { cls:=.type "dict",data:=.dict #[] }) h'->Q (.ref s.heap.objs.size) { s with heap:=h' }) :
  m5 (m7 prog w) A (call (.type "dict") [.ref o]) Q E s:=by
 refine callType_codes (Q₁:=fun obj s₁=>obj=.ref s.heap.objs.size/\s₁={ s with heap:=s.heap.push { cls:=.type "dict",data:=.dict #[] } }) F.kt_called_dict (F.kt_typeCall_dict_1 _) F.entry_dict_init (kt_code_dict_new _ ⟨rfl,rfl⟩) ?_
 rintro obj s₁ ⟨rfl,rfl⟩
 have hget:(s.heap.push { cls:=.type "dict",data:=.dict #[] }).get? s.heap.objs.size=some { cls:=.type "dict",data:=.dict #[] }:=l0 _ rfl
 have hnew:Shared.TypeIs { s with heap:=s.heap.push { cls:=.type "dict",data:=.dict #[] } } (.ref s.heap.objs.size) "dict":=⟨_,hget,rfl⟩
 obtain⟨oo,eso,epo,hoo,hco,hdo',he,his,hn⟩:=id ho
 have ho':(s.heap.push { cls:=.type "dict",data:=.dict #[] }).DictOfH knd o xs:=⟨oo,eso,epo,a5 _ hoo,hco,hdo',he,fun x hx=>hup _ _ _ (his x hx),hn⟩
 have hdo:s.heap.objs.size≠o:=fun e=>absurd (d4 hoo) (by rw[e];exact x6 _)
 refine⟨hnew,F.args_dict_init_2 _ _,?_⟩
 unfold Builtin.«dict.__init__»
 refine a4 ?_
 unfold Builtin.Dict.selfAndRest
 refine a4 (bs4 hnew ?_)
 show m5 _ _ (pure (s.heap.objs.size,[Value.ref o])) _ _ _
 refine a6 ?_
 show m5 _ _ (Builtin.Dict.updateFrom "dict.__init__" s.heap.objs.size (.ref o) [] .none) _ _ _
 unfold Builtin.Dict.updateFrom
 refine a4 (ak7 ho'.typeIs ?_)
 rw[if_neg (by decide)]
 refine a4 ?_
 unfold Builtin.Dict.merge
 refine a4 ?_
 unfold Builtin.Dict.readDirectly
 refine a4 (J3 ho'.typeIs isSubtype_dict_dict ?_)
 simp only[o9,d3,if_false]
 refine a4 (R8 ho'.typeIs F.slot_dict_iter.lookup (a6 ?_))
 simp only[beq_self_eq_true,if_true]
 refine a4 (a6 ?_)
 refine ap5 hdo hoS hget ⟨rfl,rfl,rfl⟩ rfl ho' (fun x hx=>?_) hh (fun h' hd' hs'=>?_) hsz
 ·obtain⟨ob,e,c⟩:=hq x hx
  exact⟨ob,a5 _ e,c⟩
 ·show m5 _ _ (Builtin.Dict.addKeywords s.heap.objs.size [] >>= _) _ _ _
  exact a4 (a6 (a6 ⟨rfl,h h' hd' hs'⟩))
end
end PySem
namespace L2
open PySem PySem.Spec PyProof.Rows
theorem KT.keys {xs:List (List Key × Addr × Value)}(r:KT H kvs xs):kvs.map (·.1)=xs.map (·.1):=by
 unfold KT at r
 induction r with
 | nil=>rfl
 | cons h t ih=>rw[j8,j8,ih,h.1]
theorem freeze (I:Inv X pins σ H s)(e:H a=some (.dT kvs)):∃ o,Inv X pins σ (upd H a (.frz o (.dT kvs))) s:=by
 obtain⟨z,hd,xs,kt,o,es,ep,h1,h2,h3,h4,h5⟩:=(show D1 X.prog X.w H s.heap a (.dT kvs) from I.hok a _ e)
 refine⟨o,?_⟩
 have:=ag0 (ob:=.frz o (.dT kvs)) (h':=s.heap) (t':=s.toks) I (by rw[e];exact True.intro) (Heap.SameBut.refl _ _) ⟨o,h1⟩ ⟨h1,z,hd,xs,KT.keeps kt fun b ys eb=>by
  rw[o6 (fun q=>by rw[q,e]at eb;cases eb)]
  exact eb,o,es,ep,h1,h2,h3,h4,h5⟩
 exact this
theorem bv0 (h:PE X e te):PE X e (fun σ H Q=>te σ H fun x H1=>∃ (a:Addr) (kvs:List (List Key × V)),x=.ref a/\H1 a=some (.dT kvs)/\∀ o,Q x (upd H1 a (.frz o (.dT kvs)))):=by
 intro pins s σ H Q I hw
 refine thn (h pins s σ H _ I hw) fun v s1 ⟨x,H1,I1,r1,a,kvs,ex,ea,q⟩=>?_
 obtain⟨o,I2⟩:=freeze I1 ea
 exact⟨x,_,I2,r1,q o⟩
theorem ay8:P3 X (.type "dict") (fun xs H Q=>∃ (a:Addr) (kvs:List (List Key × V)),xs=[V.ref a]/\Rd H a (.dT kvs)/\((kvs.map (·.1)).map (l8 (F3 X.prog X.w))).Nodup/\∀ p,H p=none->Q (.ref p) (upd H p (.dT kvs))):=by
 intro pins s σ H xs us Q I r h
 obtain⟨a,kvs,rfl,ha,hh,q⟩:=h
 obtain⟨u,rfl,rx⟩:=vals1 r
 cases rx
 obtain⟨z,hd,xs,kt,dd⟩:=bf4 I.hok ha
 have hkl:kvs.length=xs.length:=Paired.length kt
 obtain⟨_,_,_,_,_,_,_,his,_⟩:=id dd
 refine ay5 hd dd (by omega) (fun x hx=>?_) ?_ (fun ob k b hb=>?_) fun h' dd' hs=>?_
 ·obtain⟨o,its,n,h1,h2,h3,_⟩:=his x hx
  exact⟨o,h1,h2⟩
 ·rw[KT.keys kt,Z1]at hh
  exact hh
 ·obtain⟨o,its,n,h1,h2,h3,h4⟩:=hb
  exact⟨o,its,n,a5 _ h1,h2,h3,h4⟩
 ·obtain⟨ob,es,ep,h1,h2,h3,h4,_,h6⟩:=dd'
  have hf:=I.hok.fresh (c6 s.heap.objs.size)
  refine⟨.ref s.heap.objs.size,_,I.laid (a:=s.heap.objs.size) (o:=.dT kvs) (t':=s.toks) (fun b w' hq=>?_) (c6 _) ⟨z,beq_eq_false_iff_ne.mpr (Ne.symm (i9 I.big)),xs,KT.keeps kt fun b ys eb=>?_,ob,es,ep,h1,h2,h3,h4,h6⟩,rfl,q _ hf⟩
  ·exact(hs.2 b (i9 (d4 hq))).trans (a5 _ hq)
  ·rw[o6 (fun e=>by rw[e,hf]at eb;cases eb)]
   exact eb
def Itd (a:Addr)(o:Obj)(kvs:List (List Key × V)):It:=
 ⟨fun i H=>H a=some (.frz o (.dT kvs))/\i<kvs.length,fun i H x H'=>H'=H/\∃ kv p,kvs[i]?=some kv/\x=.ref p/\H p=some (.tup (kv.1.map kV)),fun i H=>H a=some (.frz o (.dT kvs))/\kvs.length=i⟩
theorem bj5 {K:W.Frag}(a it:Addr)(hne:a≠it)(o:Obj)(kvs:List (List Key × V))(es:Array G2)(ep:Nat)(hx:o.ExactDict)(hd:o.data=.dict es ep)(hes:es.size=kvs.length) :
  Turn P w K tg (Itd a o kvs) [it] it (fun i h=>h.IsKeyIter it a i es.size ep) where
 mem:=by simp
 obj:=fun i h st b hb=>by
  have e:b=it:=by simpa using hb
  subst e
  obtain⟨o,e,c,d⟩:=st
  exact⟨o,e,fun v z=>by rw[d]at z;cases z⟩
 keep:=fun i h h' st k=>st.at fun o e=>k it (by simp) o e
 item:=by
  intro X hP hw hK hc i pins s σ H E I hf st hg
  subst hP hw hK
  obtain⟨hH,hi⟩:=hg
  obtain⟨h1,z,hds,xs,kt,o',es',ep',g1,g2,g3,g4,g5⟩:=(show D1 X.prog X.w H s.heap a (.frz o (.dT kvs)) from I.hok a _ hH)
  have eo:o'=o:=by rw[h1]at g1;injection g1 with g1;exact g1.symm
  subst eo
  have ee:es'=es/\ep'=ep:=by rw[hd]at g3;cases g3;exact⟨rfl,rfl⟩
  obtain⟨rfl,rfl⟩:=ee
  obtain⟨f0,f1,f2,f3,f4,f5⟩:=hf it (by simp)
  have W:=ap0 (prog:=X.prog) (w:=X.w) (A:=X.A) (I.ok.hd hc) it a hne es' ep'
  refine W.item i s _ _ (by omega) ⟨st,o',h1,hx,hd⟩ fun v h' tk hv st' kk=>?_
  obtain⟨en,he,rfl⟩:=hv
  have I1:Inv X pins σ H { s with heap:=h',toks:=tk }:=I.turned (fun b o hb e=>kk b o (by simpa using hb) e) f0 f1 f3 f4 f5
  obtain⟨ot,e,c,d⟩:=id st'.1
  obtain⟨kv,hkv⟩:∃ kv,kvs[i]?=some kv:=⟨_,d5 hi⟩
  obtain⟨q,hq,hr⟩:=A8 kt hkv
  rw[entry_at g4 i,hq]at he
  cases he
  exact⟨_,rfl,aR2 (s:={ s with heap:=h',toks:=tk }) e c d (by decide) ⟨.ref q.2.1,H,I1,rfl,⟨rfl,kv,q.2.1,hkv,rfl,hr.2.1⟩,st'.1,fun b hb=>(hf b hb).1⟩⟩
 done:=by
  intro X hP hw hK hc i pins s σ H E I hf st hg
  subst hP hw hK
  obtain⟨hH,hi⟩:=hg
  obtain⟨h1,z,hds,xs,kt,o',es',ep',g1,g2,g3,g4,g5⟩:=(show D1 X.prog X.w H s.heap a (.frz o (.dT kvs)) from I.hok a _ hH)
  have eo:o'=o:=by rw[h1]at g1;injection g1 with g1;exact g1.symm
  subst eo
  have ee:es'=es/\ep'=ep:=by rw[hd]at g3;cases g3;exact⟨rfl,rfl⟩
  obtain⟨rfl,rfl⟩:=ee
  obtain⟨f0,f1,f2,f3,f4,f5⟩:=hf it (by simp)
  have W:=ap0 (prog:=X.prog) (w:=X.w) (A:=X.A) (I.ok.hd hc) it a hne es' ep'
  have ei:i=es'.size:=by omega
  subst ei
  exact W.done s _ _ ⟨st,o',h1,hx,hd⟩ fun h' tk kk=>⟨rfl,I.turned (fun b o hb e=>kk b o (by simpa using hb) e) f0 f1 f3 f4 f5⟩
 self:=fun _ _ _ _ _ st h=>bA9 st h
def bF7 (tl:TE):TI:=fun σ H R=>tl σ H fun x H1=>∃ (a:Addr) (o:Obj) (kvs:List (List Key × V)),x=.ref a/\H1 a=some (.frz o (.dT kvs))/\R (Itd a o kvs) H1
theorem bF0 {l:Expr}{tl:TE}(hl:PE X l tl):PI X tg l (bF7 tl):=by
 intro pins s σ H R I h
 refine thn (hl pins s σ H _ I h) fun v s1 ⟨x,H1,I1,r1,a,o,kvs,ex,hH,q⟩=>?_
 subst ex
 cases r1
 obtain⟨h1,z,hds,xs,kt,o',es,ep,g1,g2,g3,g4,g5⟩:=(show D1 X.prog X.w H1 s1.heap a (.frz o (.dT kvs)) from I1.hok a _ hH)
 have eo:o'=o:=by rw[h1]at g1;injection g1 with g1;exact g1.symm
 subst eo
 have hes:es.size=kvs.length:=by rw[al0 g4];exact(Paired.length kt).symm
 refine aD1 hds ⟨o',h1,g2,g3⟩ ?_
 refine⟨s1.heap.objs.size,[s1.heap.objs.size],_,_,H1,rfl,I1.kept (t':=s1.toks) fun b o e=>a5 _ e,bj5 a _ (i9 (d4 h1)) o' kvs es ep g2 g3 hes,⟨_,l0 _ rfl,rfl,rfl⟩,fun b hb=>?_,q⟩
 have e:b=s1.heap.objs.size:=by simpa using hb
 subst e
 exact I1.fpOk (c6 _) (I1.hok.fresh (c6 _))
theorem bo1 {D:Addr}{o:Obj}{g:TG}{tt:TT}{Qd:Hp->Prop}{σ0:St}{H0:Hp}(Pv:Nat->List V->St->Hp->Prop)(h0:Pv 0 [] σ0 H0)(hz:kvs.length<=d7)(hl:∀ i xs σ H,i<=kvs.length->Pv i xs σ H->H a=some (.frz o (.dT kvs))/\H D=some (.lst xs)/\xs.length<=i)
  (hs:∀ i xs kv p σ H (N:List V->St->Hp->Prop),(∀ xs' σ' H',Pv (i+1) xs' σ' H'->N xs' σ' H')->kvs[i]?=some kv->H p=some (.tup (kv.1.map kV))->Pv i xs σ H->g (.ref p) σ H fun σ2 H2=>tt σ2 H2 fun b H3=>if b=true then te σ2 H3 fun v H4=>H4 D=some (.lst xs)/\N (xs++[v]) σ2 (upd H4 D (.lst (xs++[v]))) else N xs σ2 H3)
  (hd:∀ xs σ H,Pv kvs.length xs σ H->Qd H) :
  ∃ W:Nat->Nat->List V->St->Hp->Prop,(∃ m,W 0 m [] σ0 H0)/\∀ i m xs σ' H',W i m xs σ' H'->H' D=some (.lst xs)/\(((Itd a o kvs).stop i H'/\Qd H')\/((Itd a o kvs).go i H'/\xs.length<d7/\∀ x H'',(Itd a o kvs).yld i H' x H''->g x σ' H'' fun σ2 H2=>tt σ2 H2 fun b H3 =>
   if b=true then te σ2 H3 fun v H4=>H4 D=some (.lst xs)/\∃ m',m'<m/\W (i+1) m' (xs++[v]) σ2 (upd H4 D (.lst (xs++[v]))) else ∃ m',m'<m/\W (i+1) m' xs σ2 H3)):=by
 refine⟨fun i m xs σ H=>m=kvs.length - i/\i<=kvs.length/\Pv i xs σ H,⟨kvs.length,by simp,k9 _,h0⟩,?_⟩
 rintro i m xs σ H ⟨rfl,hi,p⟩
 obtain⟨q,hD,hx⟩:=hl i xs σ H hi p
 refine⟨hD,?_⟩
 by_cases hlt:i<kvs.length
 ·refine .inr ⟨⟨q,hlt⟩,by omega,fun x H'' y=>?_⟩
  obtain⟨e,kv,r,hkv,ex,hr⟩:=y
  subst e ex
  exact hs i xs kv r σ _ (fun zs σ' H'=>∃ m',m'<kvs.length - i/\m'=kvs.length - (i+1)/\i+1<=kvs.length/\Pv (i+1) zs σ' H') (fun zs σ' H' r=>⟨_,by omega,rfl,hlt,r⟩) hkv hr p
 ·have e:i=kvs.length:=by omega
  subst e
  exact .inl ⟨⟨q,rfl⟩,hd xs σ H p⟩
end L2
namespace Grf
def S:Nat->(Nat->Int)->Int
 | 0,_=>0
 | n+1,f=>S n f+f n
theorem ag2 {f g:Nat->Int}:∀ {n:Nat},(∀ i,i<n->f i=g i)->S n f=S n g
 | 0,_=>rfl
 | n+1,h=>by
  show S n f+f n=S n g+g n
  rw[ag2 fun i hi=>h i (by omega),h n (by omega)]
theorem br1 (f g:Nat->Int):∀ n:Nat,S n (fun i=>f i+g i)=S n f+S n g
 | 0=>rfl
 | n+1=>by
  show S n (fun i=>f i+g i)+(f n+g n)=S n f+f n+(S n g+g n)
  rw[br1 f g n]
  omega
theorem aM1:∀ n:Nat,S n (fun _=>0)=0
 | 0=>rfl
 | n+1=>by
  show S n (fun _=>0)+0=0
  rw[aM1 n];rfl
theorem bG7 (c:Int)(h:j<n):S n (fun i=>if i=j then c else 0)=c:=by
 induction n with
 | zero=>omega
 | succ n ih =>
  show S n (fun i=>if i=j then c else 0)+(if n=j then c else 0)=c
  by_cases e:n=j
  ·rw[if_pos e,ag2 (g:=fun _=>0) fun i hi=>if_neg (by omega),aM1];omega
  ·rw[if_neg e,ih (by omega)];omega
theorem bg2 {f g:Nat->Int}(h:j<n)(hf:∀ i,i<n->i≠j->f i=g i):S n f=S n g+(f j - g j):=by
 have:S n f=S n (fun i=>g i+(if i=j then f j - g j else 0)):=ag2 fun i hi=>by
  by_cases e:i=j
  ·rw[if_pos e,e];omega
  ·rw[if_neg e,hf i hi e];omega
 rw[this,br1,bG7 _ h]
def b2 (b:Bool):Int:=if b then 1 else 0
theorem bJ3:b2 true=1:=rfl
theorem bJ4:b2 false=0:=rfl
structure Gph (g:Nat->Nat->Bool):Prop where
 sym:∀ i j,g i j=g j i
 irr:∀ i,g i i=false
def deg (n:Nat)(g:Nat->Nat->Bool)(i:Nat):Int:=S n fun j=>b2 (g i j)
def T6 (g:Nat->Nat->Bool)(a b:Nat)(v:Bool):Nat->Nat->Bool:=fun i j=>if (i=a/\j=b)\/(i=b/\j=a) then v else g i j
theorem ao4 {a b:Nat}{v:Bool}(h:Gph g)(hab:a≠b):Gph (T6 g a b v) where
 sym:=fun i j=>by
  unfold T6
  by_cases e:(i=a/\j=b)\/(i=b/\j=a)
  ·rw[if_pos e,if_pos (by omega)]
  ·rw[if_neg e,if_neg (by omega)];exact h.sym i j
 irr:=fun i=>by
  unfold T6
  rw[if_neg (by omega)];exact h.irr i
theorem R9 {a b:Nat}{v:Bool}(e:¬ ((i=a/\j=b)\/(i=b/\j=a))):T6 g a b v i j=g i j:=if_neg e
theorem bk4 {a b:Nat}{v:Bool}:T6 g a b v a b=v:=if_pos (.inl ⟨rfl,rfl⟩)
theorem aa5 {a b:Nat}{v:Bool}(h:Gph g)(hab:a≠b)(ha:a<n)(hb:b<n)(i:Nat):deg n (T6 g a b v) i=deg n g i+(if i=a\/i=b then b2 v - b2 (g a b) else 0):=by
 unfold deg
 by_cases e1:i=a
 ·subst e1
  rw[if_pos (.inl rfl),bg2 (g:=fun j=>b2 (g i j)) hb (fun j _ hj=>by show b2 _=_;rw[R9 (by omega)])]
  show _+(b2 (T6 g i b v i b) - _)=_
  rw[bk4]
 ·by_cases e2:i=b
  ·subst e2
   rw[if_pos (.inr rfl),bg2 (g:=fun j=>b2 (g i j)) ha (fun j _ hj=>by show b2 _=_;rw[R9 (by omega)])]
   show _+(b2 (T6 g a i v i a) - _)=_
   have:T6 g a i v i a=v:=if_pos (.inr ⟨rfl,rfl⟩)
   rw[this,h.sym i a]
  ·rw[if_neg (by omega),ag2 (g:=fun j=>b2 (g i j)) fun j _=>by show b2 _=_;rw[R9 (by omega)]]
   omega
end Grf
namespace Grf
def bn6 (g:Nat->Nat->Bool)(a b c d:Nat):Nat->Nat->Bool:=T6 (T6 (T6 (T6 g a b false) c d false) a d true) c b true
structure Ex (g:Nat->Nat->Bool) (a b c d:Nat):Prop where
 ab:a≠b
 ac:a≠c
 ad:a≠d
 bc:b≠c
 bd:b≠d
 cd:c≠d
 t1:g a b=true
 t2:g c d=true
 n1:g a d=false
 n2:g c b=false
theorem bf0 {a b c d:Nat}(h:Gph g)(x:Ex g a b c d)(ha:a<n)(hb:b<n)(hc:c<n)(hd:d<n)(i:Nat):deg n (bn6 g a b c d) i=deg n g i:=by
 obtain⟨ab,ac,ad,bc,bd,cd,t1,t2,n1,n2⟩:=x
 unfold bn6
 have h1:=ao4 (v:=false) h ab
 have h2:=ao4 (v:=false) h1 cd
 have h3:=ao4 (v:=true) h2 ad
 rw[aa5 h3 (Ne.symm bc) hc hb,aa5 h2 ad ha hd,aa5 h1 cd hc hd,aa5 h ab ha hb]
 have v1:T6 g a b false c d=true:=by rw[R9 (by omega)];exact t2
 have v2:T6 (T6 g a b false) c d false a d=false:=by rw[R9 (by omega),R9 (by omega)];exact n1
 have v3:T6 (T6 (T6 g a b false) c d false) a d true c b=false:=by rw[R9 (by omega),R9 (by omega),R9 (by omega)];exact n2
 rw[t1,v1,v2,v3,bJ3,bJ4]
 by_cases ea:i=a
 ·subst ea
  rw[if_pos (.inl rfl),if_neg (by omega),if_pos (.inl rfl),if_neg (by omega)];omega
 ·by_cases eb:i=b
  ·subst eb
   rw[if_pos (.inr rfl),if_neg (by omega),if_neg (by omega),if_pos (.inr rfl)];omega
  ·by_cases ec:i=c
   ·subst ec
    rw[if_neg (by omega),if_pos (.inl rfl),if_neg (by omega),if_pos (.inl rfl)];omega
   ·by_cases ed:i=d
    ·subst ed
     rw[if_neg (by omega),if_pos (.inr rfl),if_pos (.inr rfl),if_neg (by omega)];omega
    ·rw[if_neg (by omega),if_neg (by omega),if_neg (by omega),if_neg (by omega)];omega
end Grf
namespace Grf
def cnt (n:Nat)(a:Nat->Bool):Int:=S n fun i=>b2 (a i)
def sm (n:Nat)(a:Nat->Bool)(d:Nat->Int):Int:=S n fun i=>if a i=true then d i else 0
def put (a:Nat->Bool)(j:Nat)(v:Bool):Nat->Bool:=fun i=>if i=j then v else a i
end Grf
namespace Grf
end Grf
namespace Grf
def mnf (r x:Int):Int:=if r<x then r else x
def roomF (n:Nat)(d:Nat->Int)(A:Nat->Bool):Int:=cnt n A*(cnt n A - 1)+S n (fun i=>if A i=true then 0 else mnf (cnt n A) (d i)) - sm n A d
def Top (n:Nat)(d:Nat->Int)(A:Nat->Bool):Prop:=∀ i j,i<n->j<n->A i=true->A j=false->d j<=d i
end Grf
namespace Web
end Web
namespace Web
inductive Wl where
 | below (p:Nat) | odd | wall (r:Nat) | free
 deriving DecidableEq
end Web
namespace Web
open L2
def rng (n:Nat):List Int:=(List.range' 0 n).map fun k:Nat=>(k:Int)
def rest (zs:List Int)(p:Int):List Int:=zs.filter fun x=>decide (x≠p)
open Grf (S b2 Gph deg cnt sm Top roomF)
theorem aJ8 (ns:List Int):∃ zs:List Int,zs.Perm (rng ns.length)/\zs.Pairwise (ole ns):=by
 let le:Int->Int->Bool:=fun x y=>decide (ns.getD y.toNat 0<ns.getD x.toNat 0\/(ns.getD x.toNat 0=ns.getD y.toNat 0/\x<=y))
 refine⟨(rng ns.length).mergeSort le,bp1 _ _,?_⟩
 have:=aW9 (le:=le) (fun a b c h1 h2=>?_) (fun a b=>?_) (rng ns.length)
 ·exact this.imp fun h=>aP2.mpr (of_decide_eq_true h)
 ·have g1:=of_decide_eq_true h1
  have g2:=of_decide_eq_true h2
  exact decide_eq_true (by omega)
 ·rw[Bool.or_eq_true]
  by_cases h:ns.getD b.toNat 0<ns.getD a.toNat 0\/(ns.getD a.toNat 0=ns.getD b.toNat 0/\a<=b)
  ·exact .inl (decide_eq_true h)
  ·exact .inr (decide_eq_true (by omega))
end Web
namespace Web
open L2
open Grf (S b2 Gph deg T6)
def gW (ks:List (List Int))(i j:Nat):Bool:=decide ([(i:Int),(j:Int)]∈ks) || decide ([(j:Int),(i:Int)]∈ks)
theorem bn4 {a b:Nat}:gW ([(a:Int),(b:Int)]::ks)=T6 (gW ks) a b true:=by
 funext i j
 unfold gW T6
 have e1:([(i:Int),(j:Int)]=[(a:Int),(b:Int)])↔(i=a/\j=b):=by
  constructor
  ·intro h;injection h with h1 h2;injection h2 with h2;omega
  ·rintro⟨rfl,rfl⟩;rfl
 have e2:([(j:Int),(i:Int)]=[(a:Int),(b:Int)])↔(i=b/\j=a):=by
  constructor
  ·intro h;injection h with h1 h2;injection h2 with h2;omega
  ·rintro⟨rfl,rfl⟩;rfl
 by_cases c:(i=a/\j=b)\/(i=b/\j=a)
 ·rw[if_pos c]
  rcases c with c | c
  ·simp[e1.mpr c]
  ·simp[e2.mpr c]
 ·rw[if_neg c]
  have c1:¬ [(i:Int),(j:Int)]=[(a:Int),(b:Int)]:=fun z=>c (.inl (e1.mp z))
  have c2:¬ [(j:Int),(i:Int)]=[(a:Int),(b:Int)]:=fun z=>c (.inr (e2.mp z))
  simp only[b7,c1,c2,false_or]
theorem be6 (h:∀ k∈ks,Up n k):Gph (gW ks) where
 sym:=fun i j=>by unfold gW;rw[Bool.or_comm]
 irr:=fun i=>by
  have:¬ [(i:Int),(i:Int)]∈ks:=fun z=>by
   obtain⟨a,b,h1,h2,e⟩:=h _ z
   injection e with e1 e2
   injection e2 with e2
   omega
  unfold gW
  rw[decide_eq_false this];rfl
theorem aL3:∀ {ks:List (List Int)},ks.Nodup->(∀ k∈ks,Up n k)->∀ i,deg n (gW ks) i=(x8 ks i:Int)
 | [],_,_,i=>by
  have:deg n (gW []) i=S n (fun _=>0):=Grf.ag2 fun j _=>by simp[gW,b2]
  rw[this,Grf.aM1]
  rfl
 | k::ks,nd,h,i=>by
  obtain⟨n1,n2⟩:=j1.mp nd
  obtain⟨a,b,h1,h2,e⟩:=h k b4
  subst e
  have hk:∀ k∈ks,Up n k:=fun k hk=>h k (b9 _ hk)
  have hf:gW ks a b=false:=by
   have:¬ [(b:Int),(a:Int)]∈ks:=fun z=>by
    obtain⟨x,y,u1,u2,e⟩:=hk _ z
    injection e with e1 e2
    injection e2 with e2
    omega
   unfold gW
   rw[decide_eq_false n1,decide_eq_false this];rfl
  rw[bn4,Grf.aa5 (be6 hk) (by omega) (by omega) h2,aL3 n2 hk i,hf]
  have ec:x8 ([(a:Int),(b:Int)]::ks) i=x8 ks i+(if i=a\/i=b then 1 else 0):=by
   show List.countP _ _=List.countP _ _+_
   rw[bB5]
   congr 1
   have:decide ((i:Int)∈[(a:Int),(b:Int)])=decide (i=a\/i=b):=by
    congr 1
    rw[b7,a8]
    exact propext ⟨fun z=>by omega,fun z=>by omega⟩
   rw[this]
   by_cases c:i=a\/i=b
   ·rw[decide_eq_true c,if_pos rfl,if_pos c]
   ·rw[decide_eq_false c,if_neg (by decide),if_neg c]
  rw[ec]
  by_cases c:i=a\/i=b
  ·rw[if_pos c,if_pos c];simp[b2]
  ·rw[if_neg c,if_neg c];simp
theorem S9 (h:i<n):(tal n ks).getD i 0=(x8 ks i:Int):=by
 rw[x5,ae6 h];rfl
theorem bl5 (h1:i<j)(h2:j<n):[(i:Int),(j:Int)]∈Y2 n:=by
 unfold Y2
 refine A3.mpr ⟨i,k7.mpr (by omega),?_⟩
 unfold bE2
 exact l6.mpr ⟨j - (i+1),k7.mpr (by omega),by
  rw[show ((j - (i+1):Nat):Int)=(j:Int) - ((i:Int)+1) by omega]
  rw[show (i:Int)+1+((j:Int) - ((i:Int)+1))=(j:Int) by omega]⟩
end Web
namespace Web
open L2
open Grf (S b2 Gph deg cnt sm Top roomF)
def sk (p i:Nat):Nat:=if i<p then i else i+1
end Web
namespace Web
open L2
theorem up_eq {a b c d:Int}(h:up [a,b]=up [c,d]):(a=c/\b=d)\/(a=d/\b=c):=by
 unfold up at h
 injection h with h1 h2
 injection h2 with h2 _
 split at h1<;>split at h1<;>split at h2<;>split at h2<;>omega
structure bK0 (ns ps left:List Int) (ks:List (List Int)):Prop where
 len:left.length=ps.length
 nd:ps.Nodup
 inn:∀ q∈ps,0<=q/\q<ns.length
 ends:∀ k∈ks,aj6 ns.length k
 nodup:(ks.map up).Nodup
 out:∀ a b:Int,[a,b]∈ks->¬ (a∈ps/\b∈ps)
 cnt:∀ i q:Nat,ps[i]?=some (q:Int)->(x8 ks q:Int)+left.getD i 0=ns.getD q 0
 done:∀ q:Nat,q<ns.length->(q:Int)∉ps->(x8 ks q:Int)=ns.getD q 0
theorem aD7:∀ {l m:List (List Int)},l.Nodup->(∀ x∈l,x∈m)->l.length<=m.length
 | [],m,_,_=>k9 _
 | x::l,m,nd,h=>by
  have h1:=j1.mp nd
  have hm:=h x b4
  have h2:∀ y∈l,y∈m.erase x:=fun y hy=>by
   have hne:y≠x:=fun e=>h1.1 (e ▸ hy)
   exact(List.mem_erase_of_ne hne).mpr (h y (b9 _ hy))
  have h3:=aD7 h1.2 h2
  rw[K4 hm]at h3
  have h4:0<m.length:=R5 hm
  simp only[j7]
  omega
theorem ao0 (hn:n<=24)(nd:ks.Nodup)(h:∀ k∈ks,Up n k):ks.length<=276:=
 o5 (aD7 nd fun k hk=>by
  obtain⟨i,j,h1,h2,rfl⟩:=h k hk
  exact bl5 h1 h2) (aV0 n hn)
noncomputable def aJ9 (ns:List Int):List Int:=Classical.choose (aJ8 ns)
theorem aU4 (ns:List Int):(aJ9 ns).Perm (rng ns.length):=(Classical.choose_spec (aJ8 ns)).1
theorem aU3 (ns:List Int):(aJ9 ns).Pairwise (ole ns):=(Classical.choose_spec (aJ8 ns)).2
def chs:List Int->Int->List (List Int)
 | [],m=>if m=0 then [[]] else []
 | p::ps,m=>if m=0 then [[]] else (chs ps (m - 1)).map (p::·)++chs ps m
def Ws (f:List Int->Nat):List Int->Int->Nat
 | [],a=>if a=0 then f [] else 0
 | x::c,a=>Ws (fun l=>f ((x - 1)::l)) c (a - 1)+Ws (fun l=>f (x::l)) c a
def PI (f:List Int->Nat):Prop:=∀ l m:List Int,l.Perm m->f l=f m
def bG5:Nat->List Int->Nat
 | 0,_=>1
 | n+1,[]=>1
 | n+1,a::c=>Ws (bG5 n) c a
def cnt (d:List Int):Nat:=bG5 d.length d
def two (a b:Int)(c:List Int):Nat:=Ws (fun l=>cnt ((b - 1)::l)) c (a - 1)
def bz2 (s:Int)(E:List Int):List Int->List Int
 | []=>[]
 | x::c=>(if s∈E then x - 1 else x)::bz2 (s+1) E c
def bnd (n:Nat):Nat:=([1,1,2,3,6,10,20]:List Nat).getD n 0
def ahd (x:Int)(c E:List Int):Nat:=(((chs (bE3 1 c.length) x).filter fun F=>HT.lexLt F E).map fun F=>cnt (bz2 1 F c)).sum
end Web
namespace L2
open PySem PySem.Spec PyProof.Rows
theorem aK9:fillsInplaceSlot (.type "list") "add" true=pure false:=by
 unfold fillsInplaceSlot
 show (typeLookup (.type "list") (dunderI "add") >>= fun fi=>pure (fi.isSome && !isSeqSlot fi))=pure false
 rw[F.slot_list_iadd.lookup]
 rw[pure_bind]
 congr 1
theorem aV4:seqSlot? (.type "list") (dunderI "add")=pure (some (.builtin "list.__iadd__")):=by
 unfold seqSlot?
 rw[F.slot_list_iadd.lookup]
 rfl
def bu7:R2:=fun x y H Q=>∃ l b xs zs,x=.ref l/\y=.ref b/\H l=some (.lst xs)/\H b=some (.lst zs)/\xs.length+zs.length<=10000/\Q (.ref l) (upd H l (.lst (xs++zs)))
theorem aQ9:PIp X .Add bu7:=by
 intro pins s σ H x y v u Q I rx ry h
 obtain⟨l,b,xs,zs,rfl,rfl,hH,hB,hz,q⟩:=h
 cases rx
 cases ry
 obtain⟨z,its,n,r,hl,e⟩:=I.lstM hH
 obtain⟨z2,its2,n2,r2,hl2,e2⟩:=I.lstM hB
 have hln:=r.length
 have hln2:=r2.length
 unfold inplaceOp
 refine u7 ?_
 refine a4 (ak7 (T:="list") ⟨_,e,rfl⟩ (a4 (bC4 aK9 ?_)))
 show m5 _ _ (if false=true then _ else _) _ _ s
 rw[if_neg c7]
 refine a4 (wpAny_binaryOp1_none (a:=.ref l) (b:=.ref b) (s:=s) (nm:="add") (T:="list") ⟨_,e,rfl⟩ ⟨_,e2,rfl⟩ noFill_list_add ?_)
 refine a4 (bC4 aV4 ?_)
 refine a4 (am3 ?_)
 have hd:¬(!its.toArray.isEmpty && Builtin.List.listTooLong (its.toArray.size+its2.toArray.size))=true:=extend_door (by rw[f6,f6,sizeLine_eq];omega)
 refine am2 F.slot_list_iadd ⟨_,e,rfl⟩ F.entry_list_iadd (F.args_list_iadd_2 _ _) (PySem.AutoSeq1.list___iadd___list_list_0 l its.toArray n b its2.toArray n2 hd (by rw[f6,sizeLine_eq];omega) (by rw[f6,f6,sizeLine_eq];omega)) ⟨e,e2,?_⟩
 refine⟨.ref l,_,I.lset (its':=its++its2) hH e ?_ (r.append r2) ?_,rfl,q⟩
 ·show its.toArray++its2.toArray=_
  simp
 ·rw[c9,sizeLine_eq];omega
theorem aW1 {elt iter:Expr} {ifs:List Expr} {ipos:Pos} {wi:TI} {g:TG} {tt:TT} {use:Option (Value->Sem Unit)} {R:Value->Shared->Prop} {Q:VK}
  (hc:X.calm=true) (hi:PI X tg iter wi) (hclos:bh5 scope X.env=pure cl) (hkind:scope.kind=.function)
  (hnames:∀ y∈scope.names,y.2=.local->scope.names.lookup y.1=some .local) (hcl:as3 X.env cl) (hfr:aM3 scope.names cl=true) (hlk:aM2 X N' lk scope cl)
  (hg:∀ s3 H3 fp,PG (B5 X scope cl N' s3 H3 fp fun _ _=>False) tg g) (ht:∀ s3 H3 fp,PTs (B5 X scope cl N' s3 H3 fp fun _ _=>False) ifs tt) (he:∀ s3 H3 fp,PE (B5 X scope cl N' s3 H3 fp fun _ _=>False) elt te)
  (hs:∀ x,U3 iter X.env x=pure x) (I:Inv X pins σ H s) (h:aN3 wi lk g tt te σ H Q)
  (hend : ∀ (C D : Addr) (s' : Shared) (H' : Hp), Inv X pins σ H' s' -> Q (.ref D) H' -> H' C = none -> C ≠ X.env.locals -> X.s₀.heap.objs.size <= C -> (∀ x c, X.env.cells.lookup x = some c -> c ≠ C) -> (∀ p ∈ X.pn ++ pins, p.1 ≠ C) -> (∃ m, s'.heap.Ns C m) ->
   av6 (m7 X.prog X.w) X.A X.xe use R (.ref D) C (.ok .next) s') :
  m5 (m7 X.prog X.w) X.A (comprehension (.ListComp elt [⟨tg,iter,ifs,0⟩] scope pos) scope X.env ipos (newList []) false (eval iter X.env) use) R X.xe s:=by
 have hcellN:∀ y∈scope.names,y.2≠.cell:=fun y hy=>by
  unfold aM3 at hfr
  rw[D9]at hfr
  have:=hfr y hy
  rw[o7]at this
  simpa using this.1
 refine ad2 (use:=use) rfl hs hclos hkind hnames (thn (hi pins s σ H _ I h) fun v s1 h1=>thn h1 fun itv s2 h2=>?_)
 obtain⟨it,fp,tn,J,H2,e,I2,T,st2,f2,q⟩:=h2
 subst e
 refine R7 ?_ (k9 _)
 have hD:H2 s2.heap.objs.size=none:=I2.hok.fresh (c6 _)
 have I3:=I2.lnew (ys:=[]) (its:=[]) (t':=s2.toks) .nil (k9 _)
 obtain⟨W,⟨m0,w0⟩,turn⟩:=q s2.heap.objs.size hD
 have fpl:∀ b∈fp,b<s2.heap.objs.size:=fun b hb=>by
  obtain⟨o,ho,_⟩:=T.obj 0 s2.heap st2 b hb
  exact d4 ho
 refine bA8 hcellN (by intro y hy;cases hy) (fun h1 hns1 hsb1=>?_) hkind
 dsimp only at hns1 hsb1 ⊢
 have e3:s2.heap.push { cls:=.type "list",dict:=none,data:=.seq ([]:List Value).toArray }=s2.heap.push { cls:=.type "list",data:=.seq ([]:List Value).toArray }:=rfl
 generalize hh3:s2.heap.push { cls:=.type "list",dict:=none,data:=.seq ([]:List Value).toArray }=h3 at *
 have I3':Inv X pins σ (upd H2 s2.heap.objs.size (.lst [])) { s2 with heap:=h3,toks:=s2.toks }:=I3
 have size3:h3.objs.size=s2.heap.objs.size+1:=by rw[<- hh3,B9]
 have f3:∀ b∈fp,ag3 X pins (upd H2 s2.heap.objs.size (.lst [])) b:=fun b hb=>by
  obtain⟨f0,fr⟩:=f2 b hb
  exact⟨by rw[o6 (i9 (fpl b hb))];exact f0,fr⟩
 have up:∀ b u,h3.get? b=some u->h1.get? b=some u:=fun b u eb=>by
  rw[hsb1.2 b (i9 (d4 eb))]
  exact a5 _ eb
 have I4:Inv (B5 X scope cl N' { s2 with heap:=h3,toks:=s2.toks } (upd H2 s2.heap.objs.size (.lst [])) fp fun _ _=>False) [] (aa6 lk σ) (upd H2 s2.heap.objs.size (.lst [])) { s2 with heap:=h1,toks:=s2.toks+([]:List (Str × Value)).length }:=
  aq5 (s3:={ s2 with heap:=h3,toks:=s2.toks }) I3' f3 hkind hcl hfr hlk hns1 up fun b hb=>by show b<h3.objs.size;rw[size3];exact p6 (fpl b hb)
 have st4:tn 0 h1:=T.keep 0 s2.heap h1 st2 fun b hb o eb=>up b o (by rw[<- hh3];exact a5 _ eb)
 have hCs:h3.objs.size=(G4 scope cl h3.objs.size X.env).locals:=rfl
 have stat:∀ {H':Hp},(∀ b∈fp,H' b=none)->∀ b∈fp,ag3 (B5 X scope cl N' { s2 with heap:=h3,toks:=s2.toks } (upd H2 s2.heap.objs.size (.lst [])) fp fun _ _=>False) [] H' b:=fun {H'} hn b hb=>by
  obtain⟨f0,f1,f2',f3',f4,f5⟩:=f3 b hb
  refine⟨hn b hb,?_,fun z=>?_,.inl hb,fun x c ex=>f4 x c (hcl.get ex),fun p hp=>nomatch hp⟩
  ·show b≠h3.objs.size
   rw[size3]
   exact i9 (p6 (fpl b hb))
  ·rcases b7.mp (I3'.stkSub b z) with q | q
   ·exact f1 q
   ·exact f2' q
 have fin:∀ (s':Shared) (σ':St) (H':Hp),Inv (B5 X scope cl N' { s2 with heap:=h3,toks:=s2.toks } (upd H2 s2.heap.objs.size (.lst [])) fp fun _ _=>False) [] σ' H' s'->Q (.ref s2.heap.objs.size) H' ->
   av6 (m7 X.prog X.w) X.A X.xe use R (.ref s2.heap.objs.size) h3.objs.size (.ok .next) s':=fun s' σ' H' I' q'=>by
  obtain⟨m,hm,_⟩:=id I'.loc
  have I5:Inv X pins σ H' s':=I3'.call' (ch:=fp) I'.os I'.base I'.hok I'.bare fun b hb=>by
   obtain⟨f0,f1,f2',f3',f4,f5⟩:=f3 b hb
   exact⟨f3',f1,f4,f5⟩
  exact hend h3.objs.size s2.heap.objs.size s' H' I5 q' I'.free (N5 I3'.lt) I3'.sz (fun x c ex z=>by
   obtain⟨v',q2⟩:=I3'.cell x c ex
   exact absurd q2.lt (by rw[z];exact x6 _)) (fun p hp z=>absurd (d4 (I3'.pin p hp).1) (by rw[z];exact x6 _)) ⟨m,hm⟩
 have loop:∀ s5:Shared,s5={ s2 with heap:=h1,toks:=s2.toks+([]:List (Str × Value)).length } ->
   ak2 (m7 X.prog X.w) X.A (.compLoop (.ListComp elt [⟨tg,iter,ifs,0⟩] scope pos) 0 (.ref it) (.ref s2.heap.objs.size) (G4 scope cl h3.objs.size X.env)) (av6 (m7 X.prog X.w) X.A X.xe use R (.ref s2.heap.objs.size) h3.objs.size) s5:=by
  rintro s5 rfl
  refine bs2 rfl (fun n s'=>∃ i xs σ' H',Inv (B5 X scope cl N' { s2 with heap:=h3,toks:=s2.toks } (upd H2 s2.heap.objs.size (.lst [])) fp fun _ _=>False) [] σ' H' s'/\tn i s'.heap/\(∀ b∈fp,H' b=none)/\W i n xs σ' H')
   (fun n s6 hI=>?_) m0 ⟨0,[],aa6 lk σ,_,I4,st4,fun b hb=>(f3 b hb).1,w0⟩
  obtain⟨i,xs,σ6,H6,I6,st6,fr6,w6⟩:=hI
  show m5 _ X.A ((compTurn (.ListComp elt [⟨tg,iter,ifs,0⟩] scope pos) 0 (.ref it) (.ref s2.heap.objs.size) (G4 scope cl h3.objs.size X.env)).onRaise (fun x=>do noteFrame x (G4 scope cl h3.objs.size X.env);aS9 x)) _ _ s6
  refine bC3 ?_
  rw[bi8]
  refine a4 (X7 (a4 ?_))
  obtain⟨hD6,hw⟩:=turn i n xs σ6 H6 w6
  rcases hw with⟨stop,qn⟩ | ⟨go,hlen,step⟩
  ·refine thn (T.done (B5 X scope cl N' { s2 with heap:=h3,toks:=s2.toks } (upd H2 s2.heap.objs.size (.lst [])) fp fun _ _=>False) rfl rfl rfl hc i [] s6 σ6 H6 _ I6 (stat fr6) st6 stop) fun r s7 ⟨hr,I7⟩=>?_
   subst hr
   exact a6 (fin s7 σ6 H6 I7 qn)
  ·refine thn (T.item (B5 X scope cl N' { s2 with heap:=h3,toks:=s2.toks } (upd H2 s2.heap.objs.size (.lst [])) fp fun _ _=>False) rfl rfl rfl hc i [] s6 σ6 H6 _ I6 (stat fr6) st6 go) fun r s7 ⟨u,hr,h7⟩=>?_
   subst hr
   refine a4 (thn h7 fun _ s8 ⟨x,H8,I8,r8,y8,st8,fr8⟩=>?_)
   have I8':=I8.pinned (stat fr8) (T.obj _ _ st8)
   refine a4 (C4 (hg _ _ _ _ s8 σ6 H8 x u _ I8' r8 (step x H8 y8)) (fun _ s9 ⟨σ9,H9,I9,q9⟩=>?_) (fun _ _ z=>False.elim z))
   refine a4 (C4 (ht _ _ _ _ s9 σ9 H9 _ I9 q9) (fun ok s10 ⟨H10,I10,q10⟩=>?_) (fun _ _ z=>False.elim z))
   have again:∀ {σ':St} {H':Hp} {ys:List V} {s':Shared},Inv (B5 X scope cl N' { s2 with heap:=h3,toks:=s2.toks } (upd H2 s2.heap.objs.size (.lst [])) fp fun _ _=>False) ([]++ad6 fp s8.heap) σ' H' s'->(∃ m',m'<n/\W (i+1) m' ys σ' H') ->
     ∃ m',m'<n/\∃ i xs σ' H',Inv (B5 X scope cl N' { s2 with heap:=h3,toks:=s2.toks } (upd H2 s2.heap.objs.size (.lst [])) fp fun _ _=>False) [] σ' H' s'/\tn i s'.heap/\(∀ b∈fp,H' b=none)/\W i m' xs σ' H':=fun {σ' H' ys s'} I' ⟨m',hm,w'⟩=>by
    refine⟨m',hm,i+1,ys,σ',H',I'.unpinned,T.keep _ _ _ st8 fun b hb o eb=>(I'.pin (b,o) (d6 _ (d6 _ (L6 hb eb)))).1,fun b hb=>?_,w'⟩
    obtain⟨o,eb,_⟩:=T.obj _ _ st8 b hb
    exact(I'.pin (b,o) (d6 _ (d6 _ (L6 hb eb)))).2.1
   cases ok with
   | false =>
    have q10':∃ m',m'<n/\W (i+1) m' xs σ9 H10:=by simpa using q10
    exact a6 ⟨rfl,again I10 q10'⟩
   | true =>
    rw[if_pos rfl]at q10
    refine a4 (a4 (C4 (he _ _ _ _ s10 σ9 H10 _ I10 q10) (fun y s11 ⟨v11,H11,I11,r11,hD11,q11⟩=>?_) (fun _ _ z=>False.elim z)))
    refine a4 (C4 (L9 (X:=B5 X scope cl N' { s2 with heap:=h3,toks:=s2.toks } (upd H2 s2.heap.objs.size (.lst [])) fp fun _ _=>False) _ s11 σ9 H11 (.ref s2.heap.objs.size) [v11] (.ref s2.heap.objs.size) [y] (fun _ H'=>∃ m',m'<n/\W (i+1) m' (xs++[v11]) σ9 H') I11 rfl (.cons r11 .nil) ⟨s2.heap.objs.size,xs,v11,rfl,rfl,hD11,hlen,q11⟩) (fun _ s12 ⟨_,H12,I12,_,q12⟩=>?_) (fun _ _ z=>False.elim z))
    exact a6 (a6 ⟨rfl,again I12 q12⟩)
 exact ah1 (loop _ rfl) (T.self X.A 0 _ _ _ st4 (loop _ rfl))
def bC8 (i:Nat)(t:TE):TS:=fun D σ H=>t σ H fun v H1=>D.nx (σ.set i (some v)) H1
theorem aw4 {y:Str}{py:Pos}{elt iter:Expr}{ifs:List Expr}{spos:Pos}{wi:TI}{g:TG}{tt:TT}
  (hN:X.N.Nodup)(hy:X.N[i]?=some y)(hyl:X.env.scope.names.lookup y=some .local)
  (hsw:aS1 (.ListComp elt [⟨tg,iter,ifs,0⟩] scope pos) (some (.Name y py)) spos.line X.env=pure true)
  (hc:X.calm=true)(hi:PI X tg iter wi)(hclos:bh5 scope X.env=pure cl)(hkind:scope.kind=.function)
  (hnames:∀ y∈scope.names,y.2=.local->scope.names.lookup y.1=some .local)(hcl:as3 X.env cl)(hfr:aM3 scope.names cl=true)(hlk:aM2 X N' lk scope cl)
  (hg:∀ s3 H3 fp,PG (B5 X scope cl N' s3 H3 fp fun _ _=>False) tg g)(ht:∀ s3 H3 fp,PTs (B5 X scope cl N' s3 H3 fp fun _ _=>False) ifs tt)(he:∀ s3 H3 fp,PE (B5 X scope cl N' s3 H3 fp fun _ _=>False) elt te)
  (hs:∀ x,U3 iter X.env x=pure x:=by intro _;rfl):PS X (.Assign [.Name y py] (.ListComp elt [⟨tg,iter,ifs,0⟩] scope pos) spos) (bC8 i (aN3 wi lk g tt te)):=by
 intro pins s σ H D I h
 rw[exec_Assign_Name_used _ _ _ _ hsw]
 refine a4 (X7 (a4 ?_))
 show m5 _ X.A (do let _ <- comprehension (.ListComp elt [⟨tg,iter,ifs,0⟩] scope pos) scope X.env _ (newList []) false (eval iter X.env) (some (br7 (.Name y py) X.env))) _ _ s
 refine a4 (thn (aW1 (use:=some (br7 (.Name y py) X.env)) (R:=fun _ s'=>SP X pins D .next s') hc hi hclos hkind hnames hcl hfr hlk hg ht he hs I h
  fun C Dd s' H' I' q' hC hCL hCs hCc hCp ⟨m,hm⟩=>?_) fun _ s' hq=>a6 (a6 hq))
 show m5 _ X.A (br7 (.Name y py) X.env (.ref Dd)) _ _ s'
 refine wpAny_assign_Name (as8 (v:=.ref Dd) I' hN hy (.inl hyl) rfl (fun s2 I2 ⟨a,hsb,ha⟩=>?_) (.inr hyl))
 have hCa:C≠a:=by
  rcases ha with z | z
  ·rw[z];exact hCL
  ·exact(hCc y a z).symm
 refine⟨m,hm.sameBut hsb hCa,fun h' hs'=>?_⟩
 obtain⟨h0,g0,d0,t0,o0⟩:=s2
 exact⟨_,H',I2.turned (t':=t0) (it:=C) (fun b o hb eb=>(hs'.2 b hb).trans eb) hC hCL (.inr hCs) hCc hCp,q'⟩
end L2
namespace Web
open PySem L2
theorem O3 (a b:Int):up [a,b]=up [b,a]:=by
 show [(if b<a then b else a),(if b > a then b else a)]=[(if a<b then a else b),(if a > b then a else b)]
 rcases bB6 a b with h | h | h
 ·rw[if_neg (by omega),if_pos (by omega),if_pos (by omega),if_neg (by omega)]
 ·subst h;rfl
 ·rw[if_pos (by omega),if_neg (by omega),if_neg (by omega),if_pos (by omega)]
theorem aj2 {a b:Int}(h:a<b):up [a,b]=[a,b]:=by
 show [(if b<a then b else a),(if b > a then b else a)]=_
 rw[if_neg (by omega),if_pos (by omega)]
def nb1 (x:Nat):List Int->List Int
 | [i,j]=>(if i=(x:Int) then [j] else [])++(if j=(x:Int) then [i] else [])
 | _=>[]
def nbF (ks:List (List Int))(x:Nat):List Int:=ks.flatMap (nb1 x)
theorem N0 (hU:∀ k∈ks,Up n k)(x:Nat)(y:Int):y∈nbF ks x↔∃ Y:Nat,Y<n/\y=(Y:Int)/\up [(x:Int),(Y:Int)]∈ks:=by
 unfold nbF
 rw[A3]
 constructor
 ·rintro⟨k,hk,hy⟩
  obtain⟨i,j,hij,hj,rfl⟩:=hU k hk
  rcases j0.mp hy with h | h
  ·split at h
   ·rename_i e
    rw[a8.mp h]
    refine⟨j,hj,rfl,?_⟩
    rw[<- e,aj2 (by omega)]
    exact hk
   ·cases h
  ·split at h
   ·rename_i e
    rw[a8.mp h]
    refine⟨i,by omega,rfl,?_⟩
    rw[<- e,O3,aj2 (by omega)]
    exact hk
   ·cases h
 ·rintro⟨Y,hY,rfl,h⟩
  refine⟨_,h,?_⟩
  obtain⟨i,j,hij,hj,e⟩:=hU _ h
  rcases S7 x Y with z | z | z
  ·rw[aj2 (by omega)]
   refine m6 _ ?_
   rw[if_pos rfl]
   exact a8.mpr rfl
  ·subst z
   have:up [(x:Int),(x:Int)]=[(x:Int),(x:Int)]:=by show [(if (x:Int)<x then (x:Int) else x),(if (x:Int) > x then (x:Int) else x)]=_;simp
   rw[this]at e
   injection e with e1 e2
   injection e2 with e2
   omega
  ·rw[O3,aj2 (by omega)]
   refine d6 _ ?_
   rw[if_pos rfl]
   exact a8.mpr rfl
structure NN (H:Hp) (a:Addr) (ps:List Addr) (T:Nat->List Int) (n:Nat):Prop where
 lst:H a=some (.lst (ps.map V.ref))
 len:ps.length=n
 row:∀ (i:Nat) (p:Addr),ps[i]?=some p->H p=some (.lst ((T i).map V.int))
 nd:ps.Nodup
 out:a∉ps
theorem NN.same {ps:List Addr}{T:Nat->List Int}(h:NN H a ps T n)(s:A5 H H'):NN H' a ps T n:=⟨s _ _ h.lst,h.len,fun i p e=>s _ _ (h.row i p e),h.nd,h.out⟩
theorem NN.at {ps:List Addr}{T:Nat->List Int}(h:NN H a ps T n)(hi:i<n):∃ p,ps[i]?=some p/\H p=some (.lst ((T i).map V.int))/\(ps.map V.ref)[i]?=some (.ref p):=by
 have hl:i<ps.length:=by rw[h.len];exact hi
 exact⟨ps[i],d5 hl,h.row i _ (d5 hl),by rw[j3,d5 hl];rfl⟩
theorem bc7 {ps:List Addr}(h:ps.Nodup){p:Addr}(h1:ps[i]?=some p)(h2:ps[j]?=some p):i=j:=by
 have hi:i<ps.length:=by
  rcases bh8 i ps.length with l | l
  ·exact l
  ·rw[G7 l]at h1;cases h1
 exact(bA2 hi h).mp (h1.trans h2.symm)
theorem NN.put {p:Addr}{ps:List Addr}{T:Nat->List Int}{r:Nat}(h:NN H a ps T n)(hp:ps[r]?=some p)(l:List Int):NN (upd H p (.lst (l.map V.int))) a ps (fun i=>if i=r then l else T i) n:=by
 have hpa:a≠p:=fun z=>h.out (by rw[z];exact c8 hp)
 refine⟨by rw[o6 hpa];exact h.lst,h.len,fun i q e=>?_,h.nd,h.out⟩
 by_cases hi:i=r
 ·subst hi
  rw[hp]at e
  cases e
  rw[if_pos rfl]
  exact b8
 ·have hq:q≠p:=fun z=>hi (bc7 h.nd (by rw[z]at e;exact e) hp)
  rw[o6 hq,if_neg hi]
  exact h.row i q e
theorem bm6 (x:Nat)(k:List Int):(nb1 x k).length<=2:=by
 unfold nb1
 split
 ·rw[c9]
  split<;>split<;>simp
 ·exact k9 _
theorem aP7 (ks:List (List Int))(x:Nat):(nbF ks x).length<=2*ks.length:=by
 unfold nbF
 induction ks with
 | nil=>exact c6 _
 | cons k ks ih =>
  rw[E9,c9,j7]
  have:=bm6 x k
  omega
theorem bc8 {m:Nat}(h:ks[m]?=some k)(x:Nat):nbF (ks.take (m+1)) x=nbF (ks.take m) x++nb1 x k:=by
 unfold nbF
 rw[u6,h,X3]
 simp
theorem aF0 (x:Int)(ns:List Int):inV (.int x) (ns.map V.int)=decide (x∈ns):=by
 unfold inV
 rw[bg8,F6,bB7,decide_eq_true_iff]
 constructor
 ·rintro⟨y,hy,e⟩
  have:y=x:=by simpa [eqV] using e
  exact this ▸ hy
 ·intro h
  exact⟨x,h,by simp[eqV]⟩
theorem au2 (ns:List Int):(ns.map V.int).all af7=true:=by
 rw[D9]
 intro y hy
 obtain⟨z,_,rfl⟩:=l6.mp hy
 rfl
inductive Run (V:Prop) (c0:List Int):List (List Int)->List Int->Nat->Prop
 | nil:Run V c0 [] c0 0
 | snoc {Es:List (List Int)} {x:Int} {c E:List Int} {r:Nat}:Run V c0 Es (x::c) r->(V->E∈chs (bE3 1 c.length) x)->Run V c0 (Es++[E]) (bz2 1 E c) (r+ahd x c E)
end Web
namespace L2
open PySem PySem.Spec PyProof.Rows PySem.SeqAt
theorem ay6 (hc:X.calm=true):P3 X (.type "list") (fun xs H Q=>∃ (a:Addr) (kvs:List (List Key × V)),xs=[V.ref a]/\Rd H a (.dT kvs) /\
  ∀ (l:Addr) (ps:List Addr),H l=none->ps.length=kvs.length->(∀ (i:Nat) (p:Addr) (kv:List Key × V),ps[i]?=some p->kvs[i]?=some kv->H p=some (.tup (kv.1.map kV)))->Q (.ref l) (upd H l (.lst (ps.map V.ref)))):=by
 intro pins s σ H xs us Q I r h
 obtain⟨a,kvs,rfl,ha,q⟩:=h
 obtain⟨u,rfl,rx⟩:=vals1 r
 cases rx
 obtain⟨z,hd,xs,kt,o,es,ep,h1,h2,h3,h4,h5,h6⟩:=bf4 I.hok ha
 have hsz:es.size=xs.length:=al0 h4
 have hkl:kvs.length=xs.length:=kt.length
 refine aD0 (I.ok.hd hc) hd ⟨o,h1,h2,h3⟩ (by omega) fun h' tk acc c' kp e hacc=>?_
 have hv:x9 ((xs.map fun x=>V.ref x.2.1)) acc.toList:=by
  refine ab6 (by have:=hacc.1;rw[b6];show xs.length=acc.toList.length;simp only[d9];omega) fun i x v hx hv=>?_
  rw[b5]at hv
  obtain⟨en,he,rfl⟩:=hacc.2 i v hv
  rw[entry_at h4 i]at he
  rw[j3]at hx
  cases hxi:xs[i]? with
  | none=>rw[hxi]at hx;cases hx
  | some y =>
   rw[hxi]at hx he
   cases hx
   cases he
   rfl
 have hps:(xs.map fun x=>V.ref x.2.1)=(xs.map fun x=>x.2.1).map V.ref:=by rw[Z1];rfl
 rw[hps]at hv
 refine⟨.ref s.heap.objs.size,_,I.laid (t':=tk) kp (c6 _) (show D1 X.prog X.w _ h' _ (.lst ((xs.map fun x=>x.2.1).map V.ref)) from ⟨by rw[b6,b6,<- hkl];exact z,acc.toList,c',hv,by rw[bg9];exact e⟩),rfl,q _ (xs.map fun x=>x.2.1) (I.hok.fresh (c6 _)) (by rw[b6,hkl]) fun i p kv hp hk=>?_⟩
 rw[j3]at hp
 cases hxi:xs[i]? with
 | none=>rw[hxi]at hp;cases hp
 | some y =>
  rw[hxi]at hp
  cases hp
  obtain⟨y',hy',hr⟩:=A8 kt hk
  rw[hxi]at hy'
  cases hy'
  exact hr.2.1
end L2
namespace HT
open PySem PyProof.Rows
end HT
namespace L2
open PySem PyProof.Rows Web
end L2
namespace Web
open PySem L2
def hp2 (i j:Int):Int:=aA0 (Builtin.Tuple.tupleHashOf [bB8 i,bB8 j])
def hpk:List Int->Int
 | [i,j]=>hp2 i j
 | _=>0
theorem aL0:((Y2 24).map hpk).Nodup:=by
 have e:(Y2 24).map (fun k=>(hpk k % 1530).toNat)=[1050,1262,1061,606,210,617,221,1296,900,1307,852,456,1,1135,12,1146,691,490,702,247,1381,1180,1392,833,1240,844,389,1523,400,1475,1079,624,1090,635,239,1314,191,1325,870,474,881,485,30,1359,41,1242,846,645,1052,402,201,1081,212,1092,891,436,902,447,51,1126,1338,1137,682,286,693,297,1093,638,437,649,448,1328,1127,1339,1138,683,287,694,44,1373,977,522,929,533,78,1212,894,1301,905,450,54,461,6,1140,685,1151,696,300,1375,252,1386,1185,535,334,741,9,1084,629,233,1308,244,1319,923,468,875,479,278,1158,35,1364,714,513,725,469,876,480,25,1159,36,1170,715,514,726,271,1405,1204,1416,961,760,110,1132,482,281,493,292,1367,971,1378,982,527,72,538,83,1217,762,366,729,528,1408,539,84,1218,763,367,774,378,1453,998,1464,1009,613,530,937,541,86,1220,1019,1231,776,575,1455,586,1466,1265,810,313,720,324,1399,1198,1410,1209,559,358,765,115,1444,1048,976,521,125,532,136,1211,756,1222,767,371,1446,382,768,372,1447,383,1458,1003,607,152,618,163,1297,619,164,1298,843,1309,854,399,3,410,14,352,564,363,1243,1042,1449,1053,598,202,1479,610,1490,1289,834,1046,845,449,612,157,1291,168,1302,847,451,404,8,1083,687,1094,698,196,603,207,1282,886,1518,454,1529,1133,1369,914,1380,248,1382,31]:=by decide +kernel
 have n:([1050,1262,1061,606,210,617,221,1296,900,1307,852,456,1,1135,12,1146,691,490,702,247,1381,1180,1392,833,1240,844,389,1523,400,1475,1079,624,1090,635,239,1314,191,1325,870,474,881,485,30,1359,41,1242,846,645,1052,402,201,1081,212,1092,891,436,902,447,51,1126,1338,1137,682,286,693,297,1093,638,437,649,448,1328,1127,1339,1138,683,287,694,44,1373,977,522,929,533,78,1212,894,1301,905,450,54,461,6,1140,685,1151,696,300,1375,252,1386,1185,535,334,741,9,1084,629,233,1308,244,1319,923,468,875,479,278,1158,35,1364,714,513,725,469,876,480,25,1159,36,1170,715,514,726,271,1405,1204,1416,961,760,110,1132,482,281,493,292,1367,971,1378,982,527,72,538,83,1217,762,366,729,528,1408,539,84,1218,763,367,774,378,1453,998,1464,1009,613,530,937,541,86,1220,1019,1231,776,575,1455,586,1466,1265,810,313,720,324,1399,1198,1410,1209,559,358,765,115,1444,1048,976,521,125,532,136,1211,756,1222,767,371,1446,382,768,372,1447,383,1458,1003,607,152,618,163,1297,619,164,1298,843,1309,854,399,3,410,14,352,564,363,1243,1042,1449,1053,598,202,1479,610,1490,1289,834,1046,845,449,612,157,1291,168,1302,847,451,404,8,1083,687,1094,698,196,603,207,1282,886,1518,454,1529,1133,1369,914,1380,248,1382,31]:List Nat).Nodup:=by decide +kernel
 rw[<- e]at n
 exact A0.mpr (List.Pairwise.imp (fun {a b} h z=>h (by rw[z])) (A0.mp n))
theorem be5 (P:Program)(w:World)(i j:Int):l8 (F3 P w) [Sum.inl i,Sum.inl j]=hpk [i,j]:=by
 unfold l8
 exact congrArg (fun l=>aA0 (Builtin.Tuple.tupleHashOf l)) rfl
theorem af5 {x y:List Int}(hx:x∈Y2 24)(hy:y∈Y2 24)(h:hpk x=hpk y):x=y:=by
 have n:=aL0
 revert hx hy n
 generalize Y2 24=L
 intro hx hy n
 obtain⟨a,ha⟩:=i8.mp hx
 obtain⟨b,hb⟩:=i8.mp hy
 have hab:a=b:=by
  have h1:(L.map hpk)[a]?=some (hpk x):=by rw[j3,ha];rfl
  have h2:(L.map hpk)[b]?=some (hpk y):=by rw[j3,hb];rfl
  obtain⟨la,_⟩:=a9.mp h1
  exact(bA2 la n).mp (by rw[h1,h2,h])
 rw[hab,hb]at ha
 injection ha with ha
 exact ha.symm
theorem aV7 (P:Program)(w:World)(hn:n<=24)(hu:∀ k∈ks,Up n k)(nd:ks.Nodup):((ks.map (ar3 (Sum.inl:Int->Key))).map (l8 (F3 P w))).Nodup:=by
 have e:(ks.map (ar3 (Sum.inl:Int->Key))).map (l8 (F3 P w))=ks.map hpk:=by
  rw[Z1]
  refine X2 fun k hk=>?_
  obtain⟨i,j,_,_,rfl⟩:=hu k hk
  rw[Function.comp_apply,j8,j8,av1]
  exact be5 P w i j
 rw[e]
 have hin:∀ k∈ks,k∈Y2 24:=fun k hk=>by
  obtain⟨i,j,h1,h2,rfl⟩:=hu k hk
  refine A3.mpr ⟨i,k7.mpr (by omega),l6.mpr ⟨j - (i+1),k7.mpr (by omega),?_⟩⟩
  rw[show (i:Int)+1+((j - (i+1):Nat):Int)=(j:Int) by omega]
 refine A0.mpr (List.Pairwise.imp_of_mem (fun {a b} ha hb hab z=>hab (af5 (hin a ha) (hin b hb) z)) nd)
end Web
namespace L2
open PySem PySem.Spec PyProof.Rows PySem.SeqAt
end L2
namespace PySem.F
set_option maxRecDepth 100000
end PySem.F
namespace L2
open PySem PySem.Spec PyProof.Rows PySem.SeqAt
abbrev En:=Int × Value
structure WkS (w:World) (es:Array En) (t:SetTable):Prop where
 fit:t.fits es.size=true
 asc:Sett.Asc t.place
 pl:t.plain=true
 led:w.params.followText "set-order"=true\/t.led=true
end L2
namespace Sett
open PySem PySem.SetTable PyProof.Rows
end Sett
namespace Sett
open PySem PySem.SetTable PyProof.Rows L2
end Sett
namespace L2
open PySem PySem.Spec PyProof.Rows PySem.SeqAt
end L2
namespace Sett
open PySem PySem.SetTable PyProof.Rows PySem.SeqAt L2
end Sett
namespace L2
open PySem PySem.Spec PyProof.Rows
section
variable {R:Result->Shared->Prop}
variable {I:Addr} {wr:List Addr} {P:Nat->Value->Prop} {St:Nat->Shared->Prop}
end
section
variable {I:Addr} {wr:List Addr} {P:Nat->Value->Prop} {St:Nat->Shared->Prop}
end
end L2
namespace HT
open PySem PyProof.Rows
section
open PySem.SeqAt
open PySem.AutoSeq1 (wpAny_loadPart')
open PySem.MeetsSeq PySem.MeetsSeq2 PySem.MeetsSeq3
end
end HT
namespace L2
open PySem PySem.Spec PyProof.Rows
section
variable {Er:Value->Shared->Prop}
end
section
variable {K:W.Frag} {mg:Str->Option Value} {base:Heap} {cd:Value} {E:XK} {H1:Hp} {s1:Shared}
end
section
variable {K:W.Frag} {mg:Str->Option Value} {base:Heap} {cd:Value} {E:XK}
end
section
variable {K:W.Frag} {mg:Str->Option Value} {base:Heap} {scope0:Scope} {cd:Value} {s0:Shared} {H0:Hp} {E:XK}
end
end L2
namespace Web
open PySem L2
def top (i:Nat):Stmt:=PySem.Challenge.pw_tallyweb_k22_whole_all_come_to.main.body.getD i (.Pass ⟨0,0,0,0⟩)
abbrev aw0:Stmt:=top 7
abbrev aT9:Stmt:=top 8
abbrev aC3:Stmt:=top 11
abbrev sUp:Stmt:=top 9
abbrev aC6:Stmt:=top 10
abbrev ba3:Stmt:=top 14
abbrev ba1:Stmt:=top 15
abbrev ad4:Stmt:=top 19
abbrev at0:Stmt:=top 20
abbrev aC5:Stmt:=top 21
abbrev ao7:Stmt:=top 22
abbrev ao6:Stmt:=top 23
abbrev aC2:Stmt:=top 24
abbrev aC4:Stmt:=top 26
abbrev ba4:Stmt:=top 12
abbrev ao8:Stmt:=top 25
abbrev ba2:Stmt:=top 16
abbrev ba0:Stmt:=top 17
abbrev aJ4:Stmt:=top 27
structure Bn (mg:Str->Option Value):Prop where
 len:mg "len"=none
 range:mg "range"=none
 enum:mg "enumerate"=none
 list:mg "list"=none
 tuple:mg "tuple"=none
 sorted:mg "sorted"=none
 set:mg "set"=none
 isin:mg "isinstance"=none
 int:mg "int"=none
 bool:mg "bool"=none
 min:mg "min"=none
 max:mg "max"=none
 sum:mg "sum"=none
 str:mg "str"=none
 ve:mg "ValueError"=none
 all:mg "all"=none
 dict:mg "dict"=none
 rev:mg "reversed"=none
theorem T5:1000<=d7:=by decide
theorem f7 {o:HO}(h:H l=none):A5 H (upd H l o):=fun b u e=>by
 rw[o6 (u9 e h)]
 exact e
def M7 (K:W.Frag)(H:Hp)(p:Addr)(n:Nat)(ks:List (List Int)):Prop:=∃ t zs,SqT K H p [.int n,.ref t]/\SqT K H t zs/\v7 K H zs ks
theorem M7.same {K:W.Frag}{p:Addr}(h:M7 K H p n ks)(s:A5 H H'):M7 K H' p n ks:=by
 obtain⟨t,zs,h1,h2,h3⟩:=h
 exact⟨t,zs,s.seqT h1,s.seqT h2,s.tups h3⟩
def by0 (n:Nat)(a:Int):Prop:=0<=a/\a<n
section
variable {K:W.Frag} {mg:Str->Option Value} {base:Heap}
def aI8 (K:W.Frag):Sp:=fun vs H Q _=>∃ (a:Addr) (ns:List Int) (k:Nat),vs=[.ref a,.int k]/\SqL K H a (ns.map V.int)/\∀ r:Int,Q (.int r) H
theorem bu3:A7 ["script","k"] ["script","k"] (p5 ad4):=.mk'
theorem aP3 (F:Fun K "_law_cell" "_law_cell" ad4 f fd)(B:Bn mg):B6 P w K mg base CX0 1 f fd ["script","k"] (aI8 K):=by
 refine F.ok bu3 (fun cdv A outer s H vs Q E hr h=>?_)
 obtain⟨a,ns,k,rfl,hS,q⟩:=h
 refine⟨_,j9 (P2 (F2 aj3 (pv 1) (A9 M4 (by rfl) B.len PySem.boot_len (a7 (pv 0) g7)) (J5 _)) (o3 (D6 (v8 M0 (pv 0) (pv 1) (fun _ _=>rfl)))) E4)
  (o3 (D6 k8)),?_⟩
 refine⟨_,rfl,_,rfl,a,_,rfl,.inl hS,_,_,rfl,rfl,_,rfl,?_⟩
 refine aV3 (fun h=>?_) (fun h=>?_)
 ·have hl:k<ns.length:=by
   have:=of_decide_eq_true h
   rw[b6]at this
   omega
  refine⟨_,rfl,_,rfl,a,_,_,_,rfl,rfl,hS,A4 (j:=k) (v:=.int ns[k]) (by simp[hl]),?_⟩
  exact q _
 ·exact q _
def aN7:Sp:=fun vs H Q _=>∃ a b:Int,vs=[.int a,.int b]/\Q (.bl (decide (0<=b) && decide (b<a))) H
theorem bD7:A7 ["places","number"] ["places","number"] (p5 aw0):=.mk'
theorem aK3 (F:Fun K "is_place" "is_place" aw0 f fd):B6 P w K mg base CX0 1 f fd ["places","number"] aN7:=by
 refine F.ok bD7 (fun cdv A outer s H vs Q E hr h=>?_)
 obtain⟨a,b,rfl,k⟩:=h
 refine⟨_,o3 (D6 (bc1 aD5 aj3 k8 (pv 1) (pv 0))),?_⟩
 refine⟨_,rfl,_,_,rfl,rfl,_,rfl,?_⟩
 cases e:decide ((0:Int)<=b) with
 | true =>
  refine W8 ⟨_,rfl,_,_,rfl,rfl,?_⟩
  rw[e,Bool.true_and]at k
  exact k
 | false =>
  refine P9 ?_
  rw[e,Bool.false_and]at k
  exact k
def bq1:Sp:=fun vs H Q _=>∃ (n:Nat) (a:Int),vs=[.int n,.int a]/\by0 n a/\Q .non H
theorem bD8:A7 ["places","number"] ["places","number"] (p5 aT9):=.mk'
theorem bw5 {fI:Addr}(F:Fun K "check_place" "check_place" aT9 f fd)(FI:Fq K mg "is_place" aw0 fI fdI ["places","number"]):B6 P w K mg base CX0 2 f fd ["places","number"] bq1:=by
 have GI:B6 P w K mg base CX0 1 fI fdI ["places","number"] aN7:=aK3 FI.F
 refine F.ok bD8 (fun cdv A outer s H vs Q E hr h=>?_)
 obtain⟨n,a,rfl,hp,q⟩:=h
 refine⟨_,o3 (P2 (Y0 (aa1 (E6 GI hr (by rfl) FI E1 (a7 (pv 0) (a7 (pv 1) g7))))) P7 E4),?_⟩
 refine⟨_,rfl,_,rfl,_,_,rfl,_,rfl,?_⟩
 rw[decide_eq_true hp.1,decide_eq_true hp.2]
 exact P9 q
def aZ2 (K:W.Frag):Sp:=fun vs H Q _=>∃ (p:Addr) (n:Nat) (a b:Int) (ks:List (List Int)),vs=[.ref p,.int a,.int b]/\M7 K H p n ks/\by0 n a/\by0 n b/\∀ H',A5 H H'->Q (.bl (decide (up [a,b]∈ks))) H'
theorem bu1:A7 ["web","one","other"] ["web","one","other"] (p5 aC3):=.mk'
theorem bl7 {fI fC:Addr} (F:Fun K "tied" "tied" aC3 f fd) (B:Bn mg) (FI:Fq K mg "is_place" aw0 fI fdI ["places","number"])
  (FC:Fq K mg "check_place" aT9 fC fdC ["places","number"]):B6 P w K mg base CX0 3 f fd ["web","one","other"] (aZ2 K):=by
 have GC:B6 P w K mg base CX0 2 fC fdC ["places","number"] bq1:=bw5 FC.F FI
 refine F.ok bu1 (fun cdv A outer s H vs Q E hr h=>?_)
 obtain⟨p,n,a,b,ks,rfl,⟨t,zs,h1,h2,h3⟩,ha,hb,q⟩:=h
 have hun:=hr.units
 refine⟨_,j9 (S0 (E6 GC hr (by rfl) FC E1 (a7 (v8 v5 (pv 0) k8 (fun _ _=>rfl)) (a7 (pv 1) g7))))
  (j9 (S0 (E6 GC hr (by rfl) FC E1 (a7 (v8 v5 (pv 0) k8 (fun _ _=>rfl)) (a7 (pv 2) g7))))
  (o3 (D6 (Y1 bv6 (K8 (a7 (A9 (ai5 rfl) (by rfl) B.min (by rfl) (a7 (pv 1) (a7 (pv 2) g7))) (a7 (A9 (au4 rfl) (by rfl) B.max (by rfl) (a7 (pv 1) (a7 (pv 2) g7))) g7)))
   (v8 v5 (pv 0) k8 (fun _ _=>rfl)) (by rfl))))),?_⟩
 have a0:atI ([.int n,.ref t]:List V) 0=some (.int n):=A4 (j:=0) rfl
 have a1:atI ([.int n,.ref t]:List V) 1=some (.ref t):=A4 (j:=1) rfl
 refine⟨_,rfl,p,_,_,_,rfl,rfl,h1,a0,_,rfl,n,a,rfl,ha,?_⟩
 refine⟨_,rfl,p,_,_,_,rfl,rfl,h1,a0,_,rfl,n,b,rfl,hb,?_⟩
 refine⟨_,rfl,_,rfl,_,_,rfl,_,rfl,_,rfl,_,_,rfl,(by show 2<=d7;decide),fun x hx=>?_⟩
 have s1:=f7 (o:=.tup [.int (if b<a then b else a),.int (if b > a then b else a)]) hx
 refine⟨_,rfl,p,_,_,_,rfl,rfl,s1.seqT h1,a1,t,zs,dP (up [a,b]),ks.map dP,rfl,.inr (s1.seqT h2),Dt.mkP (SqT.of b8),(s1.tups h3).dtAll,bd3 _,S5 ks,?_,?_⟩
 ·exact aY0 hun (o5 (bf6 _) (by decide))
 ·show Q (.bl ((ks.map dP).any fun d=>PyData.eqv d (dP (up [a,b])))) _
  rw[aL9]
  exact q _ s1
def aZ5:Sp:=fun vs H Q _=>∃ (c k:Int),vs=[.int c,.int k]/\∀ r:Int,Q (.int r) H
theorem aJ2:A7 ["cell","k","turn"] ["cell","k"] (p5 at0):=.mk'
theorem bm0 (F:Fun K "_law_mixed" "_law_mixed" at0 f fd):B6 P w K mg base CX0 1 f fd ["cell","k"] aZ5:=by
 refine F.ok aJ2 (fun cdv A outer s H vs Q E hr h=>?_)
 obtain⟨c,k,rfl,q⟩:=h
 refine⟨_,j9 (D5 (i:=2) aJ2.nd rfl (Or.inl rfl) (C7 T8 (C7 Y3 (C7 Y3 (C7 T8 (pv 0) k8) (C7 ax1 k8 (pv 1))) k8) k8))
  (j9 (D5 (i:=2) aJ2.nd rfl (Or.inl rfl) (C7 T8 (C7 ax1 (pv 2) (pv 2)) k8))
  (o3 (D6 (C7 T8 (C7 ax1 (pv 2) k8) k8)))),?_⟩
 refine⟨_,rfl,_,_,rfl,rfl,(by show (0:Int)<2147483647;decide),_,rfl,_,_,rfl,rfl,.inl ⟨by decide,by decide⟩,_,_,rfl,rfl,_,_,rfl,rfl,_,_,rfl,rfl,(by show (0:Int)<2147483647;decide),?_⟩
 refine ah8 fun k1 hk1=>?_
 have k10:0<=k1:=by rw[hk1];exact X5 _ (by decide)
 have k11:k1<2147483647:=by rw[hk1];exact Z6 _ (by decide)
 clear hk1
 refine⟨_,rfl,_,rfl,_,_,rfl,rfl,.inl ⟨by omega,by omega⟩,_,_,rfl,rfl,(by show (0:Int)<1000000007;decide),?_⟩
 refine ah8 fun k2 _=>?_
 refine⟨_,rfl,_,_,rfl,rfl,.inr ⟨by decide,by decide⟩,_,_,rfl,rfl,(by show (0:Int)<998244353;decide),?_⟩
 exact q _
def aZ4 (K:W.Frag):Sp:=fun vs H Q _=>∃ (a:Addr) (ns:List Int),vs=[.ref a,.int 5]/\SqL K H a (ns.map V.int)/\∀ n:Nat,1<=n->n<=5->Q (.int n) H
theorem aZ8:A7 ["script","most","rest"] ["script","most"] (p5 aC5):=.mk'
theorem bl9 {fC:Addr} (F:Fun K "_law_places" "_law_places" aC5 f fd) (B:Bn mg) (FC:Fq K mg "_law_cell" ad4 fC fdC ["script","k"]):B6 P w K mg base CX0 2 f fd ["script","most"] (aZ4 K):=by
 have GC:B6 P w K mg base CX0 1 fC fdC ["script","k"] (aI8 K):=aP3 FC.F B
 refine F.ok aZ8 (fun cdv A outer s H vs Q E hr h=>?_)
 obtain⟨a,ns,rfl,hS,q⟩:=h
 refine⟨_,j9 (D5 (i:=2) aZ8.nd rfl (Or.inl rfl) (C7 ab7 (E6 GC hr (by rfl) FC E1 (a7 (pv 0) (a7 k8 g7))) k8))
  (j9 (P2 (F2 at4 (C7 T8 (C7 ab7 (pv 2) k8) k8) k8 (J5 _))
   (o3 (D6 (C7 Y3 k8 (C7 T8 (C7 ab7 (pv 2) k8) (pv 1))))) E4)
  (o3 (D6 (C7 Y3 k8 (C7 T8 (pv 2) (A9 (ai5 rfl) (by rfl) B.min (by rfl) (a7 k8 (a7 (pv 1) g7)))))))),?_⟩
 refine⟨_,rfl,a,ns,0,rfl,hS,fun c0=>⟨_,_,rfl,rfl,⟨by decide,by decide⟩,?_⟩⟩
 refine ah8 fun r _=>?_
 refine⟨_,rfl,_,_,rfl,rfl,⟨by decide,by decide⟩,_,_,rfl,rfl,(by show (0:Int)<8;decide),rfl,_,rfl,?_⟩
 refine aV3 (fun h=>?_) (fun h=>?_)
 ·have h1:0<=r / 56 % 5:=X5 _ (by decide)
  have h2:r / 56 % 5<5:=Z6 _ (by decide)
  refine⟨_,rfl,_,_,rfl,rfl,⟨by decide,by decide⟩,_,rfl,_,_,rfl,rfl,(by show (0:Int)<5;decide),_,_,rfl,rfl,?_⟩
  have:=q (1+r / 56 % 5).toNat (by omega) (by omega)
  rw[show (((1+r / 56 % 5).toNat:Nat):Int)=1+r / 56 % 5 by omega]at this
  exact this
 ·have h1:0<=r % 5:=X5 _ (by decide)
  have h2:r % 5<5:=Z6 _ (by decide)
  refine⟨_,rfl,_,rfl,_,_,rfl,_,_,rfl,rfl,(by show (0:Int)<(if (5:Int)<7 then 5 else 7);decide),_,_,rfl,rfl,?_⟩
  have:=q (1+r % 5).toNat (by omega) (by omega)
  rw[show (((1+r % 5).toNat:Nat):Int)=1+r % 5 by omega]at this
  exact this
def aN6 (K:W.Frag):Sp:=fun vs H Q _=>∃ (a:Addr) (ns:List Int) (k:Nat),vs=[.ref a,.int k]/\SqL K H a (ns.map V.int)/\∀ b:Bool,Q (.bl b) H
theorem bk5:A7 ["script","k"] ["script","k"] (p5 ao7):=.mk'
theorem bc5 {fC fM:Addr} {fdM:FuncData} (F:Fun K "_law_tie_there" "_law_tie_there" ao7 f fd) (B:Bn mg) (FC:Fq K mg "_law_cell" ad4 fC fdC ["script","k"])
  (FM:Fq K mg "_law_mixed" at0 fM fdM ["cell","k"]):B6 P w K mg base CX0 2 f fd ["script","k"] (aN6 K):=by
 have GC:B6 P w K mg base CX0 1 fC fdC ["script","k"] (aI8 K):=aP3 FC.F B
 have GM:B6 P w K mg base CX0 1 fM fdM ["cell","k"] aZ5:=bm0 FM.F
 refine F.ok bk5 (fun cdv A outer s H vs Q E hr h=>?_)
 obtain⟨a,ns,k,rfl,hS,q⟩:=h
 refine⟨_,j9 (P2 (F2 at4 (C7 T8 (E6 GC hr (by rfl) FC E1 (a7 (pv 0) (a7 k8 g7))) k8) k8 (J5 _))
   (o3 (D6 (Y1 at4 (C7 bv8 (C7 bv3 (E6 GC hr (by rfl) FC E1 (a7 (pv 0) (a7 (C7 Y3 k8 (C7 ab7 (pv 1) k8)) g7))) (C7 T8 (pv 1) k8)) k8) k8 (J5 _)))) E4)
  (o3 (D6 (Y1 aj3 (C7 T8 (C7 ab7 (E6 GM hr (by rfl) FM E1 (a7 (E6 GC hr (by rfl) FC E1 (a7 (pv 0) (a7 k8 g7))) (a7 (pv 1) g7))) k8) k8)
   (C7 Y3 k8 (C7 T8 (E6 GC hr (by rfl) FC E1 (a7 (pv 0) (a7 k8 g7))) k8)) (J5 _)))),?_⟩
 refine⟨_,rfl,a,ns,0,rfl,hS,fun c0=>⟨_,_,rfl,rfl,(by show (0:Int)<2;decide),rfl,_,rfl,?_⟩⟩
 refine aV3 (fun h=>?_) (fun h=>?_)
 ·refine⟨_,rfl,_,rfl,_,_,rfl,rfl,⟨by decide,by decide⟩,_,_,rfl,rfl,a,ns,2+k / 60,by rw[Int.natCast_add];rfl,hS,fun c1=>?_⟩
  refine⟨_,rfl,_,_,rfl,rfl,(by show (0:Int)<60;decide),_,_,rfl,rfl,X5 _ (by decide),_,_,rfl,rfl,rfl,?_⟩
  exact q _
 ·refine⟨_,rfl,a,ns,2,rfl,hS,fun c1=>⟨_,rfl,c1,(k:Int),rfl,fun r1=>?_⟩⟩
  refine⟨_,_,rfl,rfl,⟨by decide,by decide⟩,_,_,rfl,rfl,(by show (0:Int)<4;decide),_,rfl,a,ns,1,rfl,hS,fun c2=>⟨_,_,rfl,rfl,(by show (0:Int)<3;decide),_,_,rfl,rfl,_,_,rfl,rfl,?_⟩⟩
  exact q _
end
theorem be3 {k:Nat}(hr:U4 k A):A.units+1<G0:=by have:=hr.units;omega
theorem af4 (xs:List Int):(xs.map (Sum.inl:Int->Key)).map kV=xs.map V.int:=by rw[Z1];rfl
theorem aQ6:∀ {xs ys:List Int},xs.map (Sum.inl:Int->Key)=ys.map Sum.inl->xs=ys
 | [],[],_=>rfl
 | [],_::_,h=>by cases h
 | _::_,[],h=>by cases h
 | x::xs,y::ys,h=>by
  rw[j8,j8]at h
  injection h with h1 h2
  injection h1 with h1
  rw[h1,aQ6 h2]
def KE (kvs:List (List Key × V))(ks:List (List Int)):Prop:=kvs.map (·.1)=ks.map (ar3 Sum.inl)/\∀ kv∈kvs,kv.2=.bl true
def TD (H:Hp)(d:Addr)(ks:List (List Int)):Prop:=∃ kvs:List (List Key × V),H d=some (.dT kvs)/\KE kvs ks
def TF (H:Hp)(d:Addr)(ks:List (List Int)):Prop:=∃ (o:Obj) (kvs:List (List Key × V)),H d=some (.frz o (.dT kvs))/\KE kvs ks
theorem TF.same (h:TF H d ks)(s:A5 H H'):TF H' d ks:=let ⟨o,kvs,h1,h2⟩:=h;⟨o,kvs,s _ _ h1,h2⟩
theorem TD.same (h:TD H d ks)(s:A5 H H'):TD H' d ks:=let ⟨kvs,h1,h2⟩:=h;⟨kvs,s _ _ h1,h2⟩
def TR (H:Hp)(d:Addr)(ks:List (List Int)):Prop:=∃ kvs:List (List Key × V),Rd H d (.dT kvs)/\KE kvs ks
theorem TF.toR (h:TF H d ks):TR H d ks:=let ⟨o,kvs,h1,h2⟩:=h;⟨kvs,.inr ⟨o,h1⟩,h2⟩
theorem TD.toR (h:TD H d ks):TR H d ks:=let ⟨kvs,h1,h2⟩:=h;⟨kvs,.inl h1,h2⟩
theorem bd8 (h:kvs.map (·.1)=ks.map (ar3 Sum.inl))(k:List Int):(kvs.any fun kv=>decide (kv.1=k.map Sum.inl))=decide (k∈ks):=by
 have e:(kvs.any fun kv=>decide (kv.1=k.map Sum.inl))=(kvs.map (·.1)).any fun x=>decide (x=k.map Sum.inl):=by rw[bg8];rfl
 rw[e,h,bg8,F6,bB7,decide_eq_true_iff]
 constructor
 ·rintro⟨x,hx,e⟩
  have:=aQ6 (of_decide_eq_true e)
  exact this ▸ hx
 ·intro hk
  exact⟨k,hk,decide_eq_true rfl⟩
theorem bd6 (h:kvs.map (·.1)=ks.map (ar3 Sum.inl))(k:List Int)(v:V):(putK kvs (k.map Sum.inl) v).map (·.1)=(if k∈ks then ks else ks++[k]).map (ar3 Sum.inl):=by
 unfold putK
 rw[bd8 h k]
 by_cases hk:k∈ks
 ·rw[if_pos (decide_eq_true hk),if_pos hk,<- h,Z1]
  apply X2
  intro kv _
  show (if kv.1=_ then (kv.1,v) else kv).1=kv.1
  split<;>rfl
 ·rw[if_neg (by rw[decide_eq_false hk];decide),if_neg hk,n4,n4,h]
  rfl
theorem KE.put (h:KE kvs ks)(k:List Int):KE (putK kvs (k.map Sum.inl) (.bl true)) (if k∈ks then ks else ks++[k]):=by
 refine⟨bd6 h.1 k _,fun kv hkv=>?_⟩
 unfold putK at hkv
 split at hkv
 ·obtain⟨x,hx,rfl⟩:=l6.mp hkv
  split
  ·rfl
  ·exact h.2 x hx
 ·rcases j0.mp hkv with z | z
  ·exact h.2 kv z
  ·rw[a8.mp z]
section
variable {K:W.Frag} {mg:Str->Option Value} {base:Heap}
def aN5 (K:W.Frag):Sp:=fun vs H Q _=>∃ (a:Addr) (ns:List Int) (n:Nat),vs=[.ref a,.int n]/\SqL K H a (ns.map V.int)/\n<=24 /\
 ∀ (d:Addr) (ks:List (List Int)) (H':Hp),A5 H H'->H d=none->TD H' d ks->ks.length<=600->(∀ k∈ks,Up n k)->ks.Nodup->Q (.ref d) H'
theorem am5:A7 ["script","places","ties","other","one"] ["script","places"] (p5 ao6):=.mk'
set_option maxHeartbeats 1000000 in
theorem bc4 {fC fM fH:Addr} {fdM fdH:FuncData} (F:Fun K "_law_ties" "_law_ties" ao6 f fd) (B:Bn mg) (FC:Fq K mg "_law_cell" ad4 fC fdC ["script","k"])
  (FM:Fq K mg "_law_mixed" at0 fM fdM ["cell","k"]) (FH:Fq K mg "_law_tie_there" ao7 fH fdH ["script","k"]):B6 P w K mg base CX0 3 f fd ["script","places"] (aN5 K):=by
 have GH:B6 P w K mg base CX0 2 fH fdH ["script","k"] (aN6 K):=bc5 FH.F B FC FM
 refine F.ok am5 (fun cdv A outer s H vs Q E hr h=>?_)
 obtain⟨a,ns,n,rfl,hS,hn,q⟩:=h
 have hsl:=T5
 refine⟨_,j9 (D5 (i:=2) am5.nd rfl (Or.inl rfl) aD4)
  (j9 (T7 PassesOwn.never rfl (N8 rfl B.range (a7 (pv 1) g7)) (A6 (i := 3) am5.nd rfl (Or.inl rfl))
   (o3 (T7 PassesOwn.never rfl (N8 rfl B.range (a7 (pv 3) g7)) (A6 (i := 4) am5.nd rfl (Or.inl rfl))
    (o3 (P2 (aa1 (E6 GH hr (by rfl) FH E1 (a7 (pv 0) (a7 (C7 Y3 (C7 ab7 (C7 ax1 (pv 3) (C7 bv2 (pv 3) k8)) k8) (pv 4)) g7))))
     (o3 (aO7 (be3 hr) (pv 2) (K8 (a7 (pv 4) (a7 (pv 3) g7))) at1 rfl)) E4)))))
  (o3 (D6 (pv 2)))),?_⟩
 refine fun d fd=>?_
 have s0:=f7 (o:=.dT []) fd
 refine⟨_,rfl,n,rfl,by omega,by omega,W9 (lo:=0) (n:=n) (fun i σ H1=>∃ (ks:List (List Int)) (e3 e4:Option V),σ=[some (.ref a),some (.int n),some (.ref d),e3,e4]/\A5 H H1/\TD H1 d ks/\ks.length<=i*24/\(∀ k∈ks,Up n k)/\ks.Nodup)
  ⟨[],none,none,rfl,s0,⟨[],b8,rfl,fun _ h=>nomatch h⟩,by simp,(fun k hk=>absurd hk j4),t5⟩ ?_ ?_⟩
 ·rintro i σ H1 hi ⟨ks,e3,e4,rfl,s1,t1,l1,n1⟩
  rw[show ((0:Int)+(i:Int))=(i:Int) by omega]
  refine o8 ?_
  refine⟨_,rfl,(i:Int),rfl,by omega,by omega,?_⟩
  rw[n8]
  refine W9 (lo:=0) (n:=i) (fun j σ H2=>∃ (ks:List (List Int)) (e4:Option V),σ=[some (.ref a),some (.int n),some (.ref d),some (.int i),e4]/\A5 H H2/\TD H2 d ks/\ks.length<=i*24+j/\(∀ k∈ks,Up n k)/\ks.Nodup)
   ⟨ks,e4,rfl,s1,t1,l1,n1⟩ ?_ ?_
  ·rintro j σ H2 hj ⟨ks,e4,rfl,s2,t2,l2,n2⟩
   rw[show ((0:Int)+(j:Int))=(j:Int) by omega]
   refine o8 ?_
   have hi0:0<=(i:Int)*((i:Int) - 1):=Int.mul_nonneg (by omega) (by omega)
   have hk0:0<=(i:Int)*((i:Int) - 1) / 2:=Int.ediv_nonneg hi0 (by decide)
   refine⟨_,rfl,_,rfl,_,rfl,_,_,rfl,rfl,_,_,rfl,rfl,.inl ⟨by omega,by omega⟩,_,_,rfl,rfl,⟨by decide,by decide⟩,_,rfl,_,_,rfl,rfl,a,ns,((i:Int)*((i:Int) - 1) / 2).toNat+j,?_,s2.seq hS,fun b=>⟨_,rfl,?_⟩⟩
   ·show [V.ref a,V.int _]=_
    congr 3
    omega
   refine aV3 (fun hb=>?_) (fun hb=>?_)
   ·refine⟨_,rfl,_,rfl,_,rfl,(by show 2<=d7;decide),fun x hx=>?_⟩
    have s3:=f7 (o:=.tup [.int (j:Int),.int (i:Int)]) hx
    obtain⟨kvs,g2,e2⟩:=t2
    have hkl:kvs.length=ks.length:=by have:=congrArg L0 e2.1;rw[b6,b6]at this;exact this
    have hil:i*24<=23*24:=K5 24 (by omega)
    refine⟨d,_,rfl,aW7.t (k:=([(j:Int),(i:Int)]:List Int).map Sum.inl) (s3 _ _ g2) (by rw[af4];exact b8) (by omega),?_⟩
    refine⟨if [(j:Int),(i:Int)]∈ks then ks else ks++[[(j:Int),(i:Int)]],_,rfl,(s2.trans s3).upd fd,⟨_,b8,e2.put _⟩,?_,fun k hk=>?_,?_⟩
    ·split
     ·omega
     ·rw[c9];show ks.length+1<=_;omega
    ·split at hk
     ·exact n2.1 k hk
     ·rcases j0.mp hk with hk | hk
      ·exact n2.1 k hk
      ·rw[a8.mp hk];exact⟨j,i,hj,hi,rfl⟩
    ·split
     ·exact n2.2
     ·rename_i hno
      refine N7.mpr ⟨n2.2,j1.mpr ⟨j4,t5⟩,fun x hx y hy e=>hno ?_⟩
      rw[<- a8.mp hy,<- e];exact hx
   ·exact⟨ks,_,rfl,s2,t2,by omega,n2⟩
  ·rintro σ H2 ⟨ks,e4,rfl,s2,t2,l2,n2⟩
   exact⟨ks,_,_,rfl,s2,t2,by omega,n2⟩
 ·rintro σ H1 ⟨ks,e3,e4,rfl,s1,t1,l1,n1⟩
  have:n*24<=24*24:=K5 24 hn
  exact⟨_,rfl,q d ks H1 s1 fd t1 (by omega) n1.1 n1.2⟩
def aZ1 (K:W.Frag):Sp:=fun vs H Q _=>∃ (d:Addr) (n:Nat) (ks:List (List Int)),vs=[.int n,.ref d]/\TR H d ks/\ks.length<=600/\(∀ k∈ks,k≠[]) /\
 ∀ (p:Addr) (ks':List (List Int)) (H':Hp),A5 H H'->ks'.Perm ks->ks'.Pairwise (fun a b=>Tim.F4 b a=false)->M7 K H' p n ks'->Q (.ref p) H'
theorem bu0:A7 ["places","ties"] ["places","ties"] (p5 aC2):=.mk'
theorem bl6 (F:Fun K "_law_web" "_law_web" aC2 f fd)(B:Bn mg):B6 P w K mg base CX0 1 f fd ["places","ties"] (aZ1 K):=by
 refine F.ok bu0 (fun cdv A outer s H vs Q E hr h=>?_)
 obtain⟨d,n,ks,rfl,⟨kvs,g,e,_⟩,hl,hne,q⟩:=h
 refine⟨_,o3 (D6 (K8 (a7 (pv 0) (a7 (K7 W0 (by rfl) B.tuple (by rfl) (a7 (A9 aa7 (by rfl) B.sorted (by rfl) (a7 (K7 (ay6 rfl) (by rfl) B.list (by rfl) (a7 (pv 1) g7)) g7)) g7)) g7)))),?_⟩
 refine⟨_,rfl,_,rfl,d,kvs,rfl,g,fun l ps fl hpl hps=>?_⟩
 have s1:=f7 (o:=.lst (ps.map V.ref)) fl
 have hkl:kvs.length=ks.length:=by have:=congrArg L0 e;rw[b6,b6]at this;exact this
 have ht:v7 K (upd H l (.lst (ps.map V.ref))) (ps.map V.ref) ks:=by
  refine ab6 (by rw[b6];omega) fun i x k hx hk=>?_
  rw[j3]at hx
  cases hp:ps[i]? with
  | none=>rw[hp]at hx;cases hx
  | some p =>
   rw[hp]at hx
   cases hx
   have hi:i<kvs.length:=by
    rw[hkl]
    exact(a9.mp hk).1
   have hkv:=d5 hi
   have hg:=hps i p _ hp hkv
   have e1:(kvs.map (·.1))[i]?=some kvs[i].1:=by rw[j3,hkv];rfl
   rw[e,j3,hk]at e1
   injection e1 with e1
   rw[<- e1,af4]at hg
   exact⟨p,rfl,SqT.of (s1 _ _ hg)⟩
 refine⟨l,_,ks,rfl,SqL.of b8,ht,hne,fun l2 zs ks' f2 pm so t2=>?_⟩
 have s2:=f7 (o:=.lst zs) f2
 refine⟨l2,zs,rfl,.inl ⟨SqL.of b8,fun l3 f3=>?_⟩⟩
 have s3:=f7 (o:=.tup zs) f3
 refine⟨(by show 2<=d7;decide),fun p fp=>?_⟩
 have s4:=f7 (o:=.tup [.int n,.ref l3]) fp
 exact q p ks' _ (s1.trans (s2.trans (s3.trans s4))) pm so ⟨l3,zs,SqT.of b8,SqT.of (s4 _ _ b8),(s3.trans s4).tups t2⟩
end
def OkP (n:Nat)(r:List Int):Prop:=∀ x∈r,0<=x/\x<(n:Int)/\r.count x<=1
instance (n:Nat) (r:List Int):Decidable (OkP n r):=by unfold OkP;infer_instance
def Fits (n:Nat)(ks:List (List Int))(a b c d:Int):Prop:=OkP n [a,b,c,d]/\up [a,b]∈ks/\up [c,d]∈ks/\¬ up [a,d]∈ks/\¬ up [c,b]∈ks
instance (n:Nat) (ks:List (List Int)) (a b c d:Int):Decidable (Fits n ks a b c d):=by unfold Fits;infer_instance
theorem aq3:∀ (l σ:List Int),(l.foldl PyProof.Rows.step_dedup σ).length=σ.length+l.length↔l.Nodup/\∀ x∈l,x∉σ
 | [],σ=>by simp
 | k::l,σ=>by
  rw[Q4,j7,j1]
  by_cases h:k∈σ
  ·have e:PyProof.Rows.step_dedup σ k=σ:=by unfold PyProof.Rows.step_dedup;rw[if_pos (by simpa using h)]
   rw[e]
   have:=PyProof.Rows.foldl_step_dedup_length_le σ l
   constructor
   ·intro q;omega
   ·rintro⟨_,q⟩
    exact absurd h (q k b4)
  ·have e:PyProof.Rows.step_dedup σ k=σ++[k]:=by unfold PyProof.Rows.step_dedup;rw[if_neg (by simpa using h)]
   rw[e]
   have:=aq3 l (σ++[k])
   rw[c9,v9]at this
   constructor
   ·intro q
    obtain⟨q1,q2⟩:=this.mp (by omega)
    refine⟨⟨fun hk=>q2 k hk (by simp),q1⟩,fun x hx=>?_⟩
    rcases b7.mp hx with rfl | hx
    ·exact h
    ·exact fun z=>q2 x hx (m6 _ z)
   ·rintro⟨⟨q1,q2⟩,q3⟩
    have:=this.mpr ⟨q2,fun x hx z=>by
     rcases j0.mp z with z | z
     ·exact q3 x (b9 _ hx) z
     ·rw[a8.mp z]at hx;exact q1 hx⟩
    omega
theorem aX9 (a b c d:Int):(unl [a,b,c,d]:Int)<4↔¬ ([a,b,c,d]:List Int).Nodup:=by
 have h1:=aq3 [a,b,c,d] []
 have h2:unl [a,b,c,d]<=4:=PyProof.Rows.foldl_step_dedup_nil_length_le [a,b,c,d]
 unfold unl at *
 simp only[ag5,j7,j4,not_false_eq_true,implies_true,and_true,J0]at h1
 rw[<- h1]
 omega
theorem M9 (n:Nat)(r:List Int):OkP n r↔(∀ x∈r,0<=x/\x<(n:Int))/\r.Nodup:=by
 constructor
 ·intro h
  refine⟨fun x hx=>⟨(h x hx).1,(h x hx).2.1⟩,bi4.mpr fun x=>?_⟩
  by_cases hx:x∈r
  ·exact(h x hx).2.2
  ·rw[List.count_eq_zero.mpr hx];exact k9 _
 ·rintro⟨h1,h2⟩ x hx
  exact⟨(h1 x hx).1,(h1 x hx).2,bi4.mp h2 x⟩
section
variable {K:W.Frag} {mg:Str->Option Value} {base:Heap}
end
theorem aG8 {x y z u:V}:atI ([x,y,z,u]:List V) 0=some x:=A4 (j:=0) rfl
theorem aG7 {x y z u:V}:atI ([x,y,z,u]:List V) 1=some y:=A4 (j:=1) rfl
theorem aG6 {x y z u:V}:atI ([x,y,z,u]:List V) 2=some z:=A4 (j:=2) rfl
theorem aG5 {x y z u:V}:atI ([x,y,z,u]:List V) 3=some u:=A4 (j:=3) rfl
section
variable {K:W.Frag} {mg:Str->Option Value} {base:Heap}
def aZ7 (K:W.Frag):Sp:=fun vs H Q _=>∃ (p qa:Addr) (n:Nat) (ks:List (List Int)) (a b c d:Int),vs=[.ref p,.ref qa]/\M7 K H p n ks/\SqT K H qa (([a,b,c,d]:List Int).map V.int)/\∀ H',A5 H H'->Q (.bl (decide (Fits n ks a b c d))) H'
theorem bD9:A7 ["web","four"] ["web","four"] (p5 ba3):=.mk'
set_option maxHeartbeats 2000000 in
theorem bw6 {fI fC fT:Addr} {fdT:FuncData} (F:Fun K "can_exchange" "can_exchange" ba3 f fd) (B:Bn mg) (FI:Fq K mg "is_place" aw0 fI fdI ["places","number"])
  (FC:Fq K mg "check_place" aT9 fC fdC ["places","number"]) (FT:Fq K mg "tied" aC3 fT fdT ["web","one","other"]):B6 P w K mg base CX0 4 f fd ["web","four"] (aZ7 K):=by
 have GI:B6 P w K mg base CX0 3 fI fdI ["places","number"] aN7:=(aK3 FI.F).mono (by decide)
 have GT:B6 P w K mg base CX0 3 fT fdT ["web","one","other"] (aZ2 K):=bl7 FT.F B FI FC
 refine F.ok bD9 (fun cdv A outer s H vs Q E hr h=>?_)
 obtain⟨p,qa,n,ks,a,b,c,d,rfl,hW,hq,q⟩:=h
 have hsl:=T5
 have nd2:(["number","web"]:List Str).Nodup:=by decide +kernel
 refine⟨_,j9 (P2 (PW.pt (bb0 (Y0 (aa1 (A9 (aW4 rfl) (by rfl) B.all boot_all (a7
    (ab5 (N' := ["number", "web"]) (lk := [none, some 0]) rfl (aw7 (pv 1)) (by rfl) rfl (by decide +kernel) (by exact ⟨rfl, trivial⟩) (by rfl) (by exact LkL.ok ⟨⟨rfl, Or.inl rfl, rfl, Or.inl rfl⟩, trivial⟩)
     (fun _ _ _=>A6 (i:=0) nd2 rfl (Or.inl rfl)) (fun _ _ _=>X9) (fun _ _ _=>E6 GI hr (by rfl) FI E1 (a7 (bl3 K rfl (pv 1) k8 (fun _ _=>rfl)) (a7 (pv 0) g7)))) g7))))
    (aJ6 (F2 aj3 (A9 as1 (by rfl) B.len PySem.boot_len (a7 (K7 (aW3 rfl) (by rfl) B.set (by rfl) (a7 (pv 1) g7)) g7)) k8 (J5 _))))) (o3 (D6 at1)) E4)
  (j9 (P2 (PW.pt (bb0 (Y0 (aa1 (E6 GT hr (by rfl) FT E1 (a7 (pv 0) (a7 (v8 v5 (pv 1) k8 (fun _ _=>rfl)) (a7 (v8 v5 (pv 1) k8 (fun _ _=>rfl)) g7)))))) (aJ6 (Y0 (aa1 (E6 GT hr (by rfl) FT E1 (a7 (pv 0) (a7 (v8 v5 (pv 1) k8 (fun _ _=>rfl)) (a7 (v8 v5 (pv 1) k8 (fun _ _=>rfl)) g7))))))))) (o3 (D6 at1)) E4)
  (o3 (D6 (bc2 (bb9 (E6 GT hr (by rfl) FT E1 (a7 (pv 0) (a7 (v8 v5 (pv 1) k8 (fun _ _=>rfl)) (a7 (v8 v5 (pv 1) k8 (fun _ _=>rfl)) g7))))) (bb8 (bb9 (E6 GT hr (by rfl) FT E1 (a7 (pv 0) (a7 (v8 v5 (pv 1) k8 (fun _ _=>rfl)) (a7 (v8 v5 (pv 1) k8 (fun _ _=>rfl)) g7)))))))))),?_⟩
 have no:¬ Fits n ks a b c d->∀ H',A5 H H'->Q (.bl false) H':=fun hn H' s'=>by
  have:=q H' s'
  rw[decide_eq_false hn]at this
  exact this
 obtain⟨t,zs,h1,h2,h3⟩:=id hW
 have a0:atI ([.int n,.ref t]:List V) 0=some (.int n):=A4 (j:=0) rfl
 refine⟨_,rfl,qa,rfl,⟨_,hq⟩,fun D hD=>aq4 (K:=K) (a:=qa) (D:=D) (ys:=([a,b,c,d]:List Int).map V.int) (fun i xs σ' H'=>(∃ v,σ'=[v,some (.ref p)])/\A5 H H'/\H' D=some (.lst xs)/\xs=((([a,b,c,d]:List Int).take i).map fun x=>decide ((0:Int)<=x) && decide (x<(n:Int))).map V.bl)
  ⟨⟨none,rfl⟩,f7 hD,b8,by rw[S8];rfl⟩ (by show 4<=d7;decide) (fun i xs σ' H' hi' ⟨_,s2,g2,e2⟩=>⟨s2.seqT hq,g2,by rw[e2,b6,b6,y9];omega⟩) ?_ ?_⟩
 ·rintro i xs y σ' H' N kN hy ⟨⟨v,rfl⟩,s2,g2,rfl⟩
  obtain⟨z,hz,rfl⟩:∃ z,([a,b,c,d]:List Int)[i]?=some z/\y=V.int z:=by
   rw[j3]at hy
   cases e:([a,b,c,d]:List Int)[i]? with
   | none=>rw[e]at hy;cases hy
   | some z=>rw[e]at hy;cases hy;exact⟨z,rfl,rfl⟩
  refine o8 (T4 ?_)
  refine⟨_,rfl,p,_,_,_,rfl,rfl,s2.seqT h1,a0,_,rfl,_,_,rfl,g2,kN _ _ _ ⟨⟨_,rfl⟩,s2.upd hD,b8,?_⟩⟩
  rw[u6,hz,n4,n4]
  rfl
 ·rintro xs σ' H1 ⟨⟨v,rfl⟩,s1,g1,rfl⟩
  have ht4:(([a,b,c,d]:List Int).take (([a,b,c,d]:List Int).map V.int).length)=[a,b,c,d]:=rfl
  rw[ht4]at g1
  refine⟨D,_,rfl,g1,_,rfl,?_⟩
  by_cases hall:∀ x∈([a,b,c,d]:List Int),0<=x/\x<(n:Int)
  ·have e:((([a,b,c,d]:List Int).map fun x=>decide ((0:Int)<=x) && decide (x<(n:Int))).all id)=true:=by
    rw[D9]
    intro y hy
    obtain⟨x,hx,rfl⟩:=l6.mp hy
    have:=hall x hx
    rw[decide_eq_true this.1,decide_eq_true this.2];rfl
   rw[e]
   refine P9 ⟨_,rfl,qa,[a,b,c,d],rfl,s1.seqT hq,by show 4<1000;decide,fun S fS=>⟨S,_,rfl,b8,_,_,rfl,rfl,_,rfl,?_⟩⟩
   have s2:=s1.trans (f7 (o:=bo5 P w S (unl [a,b,c,d])) fS)
   by_cases hnd:([a,b,c,d]:List Int).Nodup
   ·rw[decide_eq_false fun z=>(aX9 a b c d).mp z hnd]
    have hP:OkP n [a,b,c,d]:=(M9 n _).mpr ⟨hall,hnd⟩
    have pa:=hall a (by simp)
    have pb:=hall b (by simp)
    have pc:=hall c (by simp)
    have pd:=hall d (by simp)
    refine P9 ?_
    have hq2:=s2.seqT hq
    refine⟨_,rfl,_,rfl,qa,_,_,_,rfl,rfl,hq2,aG8,_,rfl,qa,_,_,_,rfl,rfl,hq2,aG7,p,n,a,b,ks,rfl,hW.same s2,pa,pb,fun H3 s3=>⟨_,rfl,?_⟩⟩
    have s23:=s2.trans s3
    have hq3:=s23.seqT hq
    by_cases c1:up [a,b]∈ks
    ·rw[decide_eq_true c1]
     refine P9 ⟨_,rfl,_,rfl,qa,_,_,_,rfl,rfl,hq3,aG6,_,rfl,qa,_,_,_,rfl,rfl,hq3,aG5,p,n,c,d,ks,rfl,hW.same s23,pc,pd,fun H4 s4=>⟨_,rfl,?_⟩⟩
     have s24:=s23.trans s4
     have hq4:=s24.seqT hq
     by_cases c2:up [c,d]∈ks
     ·rw[decide_eq_true c2]
      refine P9 ⟨_,rfl,_,rfl,qa,_,_,_,rfl,rfl,hq4,aG8,_,rfl,qa,_,_,_,rfl,rfl,hq4,aG5,p,n,a,d,ks,rfl,hW.same s24,pa,pd,fun H5 s5=>⟨_,rfl,_,rfl,?_⟩⟩
      have s25:=s24.trans s5
      have hq5:=s25.seqT hq
      by_cases c3:up [a,d]∈ks
      ·rw[decide_eq_true c3]
       exact P9 (no (fun h=>h.2.2.2.1 c3) _ s25)
      ·rw[decide_eq_false c3]
       refine W8 ⟨_,rfl,_,rfl,qa,_,_,_,rfl,rfl,hq5,aG6,_,rfl,qa,_,_,_,rfl,rfl,hq5,aG7,p,n,c,b,ks,rfl,hW.same s25,pc,pb,fun H6 s6=>⟨_,rfl,?_⟩⟩
       have:=q H6 (s25.trans s6)
       have e:decide (Fits n ks a b c d)=!decide (up [c,b]∈ks):=by
        by_cases c4:up [c,b]∈ks
        ·rw[decide_eq_true c4,decide_eq_false fun h:Fits n ks a b c d=>h.2.2.2.2 c4];rfl
        ·rw[decide_eq_false c4,decide_eq_true (show Fits n ks a b c d from ⟨hP,c1,c2,c3,c4⟩)];rfl
       rw[e]at this
       exact this
     ·rw[decide_eq_false c2]
      exact W8 (no (fun h=>c2 h.2.2.1) _ s24)
    ·rw[decide_eq_false c1]
     exact W8 (no (fun h=>c1 h.2.1) _ s23)
   ·rw[decide_eq_true ((aX9 a b c d).mpr hnd)]
    exact W8 (no (fun h=>hnd ((M9 n _).mp h.1).2) _ s2)
  ·have e:((([a,b,c,d]:List Int).map fun x=>decide ((0:Int)<=x) && decide (x<(n:Int))).all id)=false:=by
    rw[as4]
    intro z
    rw[D9]at z
    refine hall fun x hx=>?_
    have:=z _ (l6.mpr ⟨x,hx,rfl⟩)
    simp only[id,o7,decide_eq_true_iff]at this
    exact this
   rw[e]
   exact W8 (no (fun h=>hall ((M9 n _).mp h.1).1) _ s1)
end
section
variable {K:W.Frag} {mg:Str->Option Value} {base:Heap}
def bD5 (K:W.Frag):Sp:=fun vs H Q _=>∃ (n:Nat) (a:Addr) (k:List Int),vs=[.int n,.ref a]/\SqT K H a (k.map V.int)/\aj6 n k /\
 ∀ p,H p=none->Q (.ref p) (upd H p (.tup ((up k).map V.int)))
theorem bI3:A7 ["places","tie"] ["places","tie"] (p5 sUp):=.mk'
theorem bF3 {fI:Addr} (F:Fun K "turned_up" "turned_up" sUp f fd) (B:Bn mg) (FI:Fq K mg "is_place" aw0 fI fdI ["places","number"]) :
  B6 P w K mg base CX0 2 f fd ["places","tie"] (bD5 K):=by
 have GI:B6 P w K mg base CX0 1 fI fdI ["places","number"] aN7:=aK3 FI.F
 refine F.ok bI3 (fun cdv A outer s H vs Q E hr h=>?_)
 obtain⟨n,a,k,rfl,hS,⟨i,j,h1,h2,h3,rfl⟩,q⟩:=h
 refine⟨_,j9 (P2 (PW.pt (bb0 (Y0 (aa1 (aw9 GI hr rfl FI.m FI.F.kp FI.b .nil E1 (a7 (pv 0) (a7 (v8 v5 (pv 1) k8 (fun _ _=>rfl)) g7)))))
    (aJ6 (Y0 (aa1 (aw9 GI hr rfl FI.m FI.F.kp FI.b .nil E1 (a7 (pv 0) (a7 (v8 v5 (pv 1) k8 (fun _ _=>rfl)) g7)))))))) P7 E4)
  (j9 (P2 (F2 at4 (v8 v5 (pv 1) k8 (fun _ _=>rfl)) (v8 v5 (pv 1) k8 (fun _ _=>rfl)) (J5 _)) P7 E4)
  (o3 (D6 (K8 (a7 (A9 (ai5 rfl) (by rfl) B.min (by rfl) (a7 (v8 v5 (pv 1) k8 (fun _ _ => rfl)) (a7 (v8 v5 (pv 1) k8 (fun _ _ => rfl)) g7)))
   (a7 (A9 (au4 rfl) (by rfl) B.max (by rfl) (a7 (v8 v5 (pv 1) k8 (fun _ _=>rfl)) (a7 (v8 v5 (pv 1) k8 (fun _ _=>rfl)) g7))) g7)))))),?_⟩
 have a0:atI (([(i:Int),(j:Int)]:List Int).map V.int) 0=some (.int i):=A4 (j:=0) rfl
 have a1:atI (([(i:Int),(j:Int)]:List Int).map V.int) 1=some (.int j):=A4 (j:=1) rfl
 refine⟨_,rfl,_,rfl,a,_,_,_,rfl,rfl,hS,a0,_,_,rfl,?_⟩
 rw[decide_eq_true (show (0:Int)<=i by omega),decide_eq_true (show (i:Int)<n by omega)]
 refine⟨_,rfl,P9 ?_⟩
 refine⟨_,rfl,_,rfl,a,_,_,_,rfl,rfl,hS,a1,_,_,rfl,?_⟩
 rw[decide_eq_true (show (0:Int)<=j by omega),decide_eq_true (show (j:Int)<n by omega)]
 refine⟨_,rfl,P9 ?_⟩
 refine⟨_,rfl,a,_,_,_,rfl,rfl,hS,a0,_,rfl,a,_,_,_,rfl,rfl,hS,a1,rfl,_,rfl,?_⟩
 rw[decide_eq_false (show ¬ V.int (i:Int)=V.int (j:Int) by intro z;injection z;omega)]
 refine P9 ?_
 refine⟨_,rfl,a,_,_,_,rfl,rfl,hS,a0,_,rfl,a,_,_,_,rfl,rfl,hS,a1,_,_,rfl,?_⟩
 refine⟨_,rfl,a,_,_,_,rfl,rfl,hS,a0,_,rfl,a,_,_,_,rfl,rfl,hS,a1,_,_,rfl,(by show 2<=d7;decide),fun p hp=>?_⟩
 exact q p hp
def aI7 (K:W.Frag):Sp:=fun vs H Q _=>∃ (n:Nat) (a:Addr) (ys:List V) (hs:List (List Int)),vs=[.int n,.ref a]/\1<=n/\n<=24/\(SqL K H a ys\/SqT K H a ys)/\v7 K H ys hs/\(∀ k∈hs,aj6 n k)/\(hs.map up).Nodup/\hs.length<300 /\
 ∀ p t zs ks H',A5 H H'->H p=none->H t=none->H' p=some (.tup [.int n,.ref t])->H' t=some (.tup zs)->v7 K H' zs ks->ks.Perm (hs.map up)->ks.Pairwise (fun a b=>Tim.F4 b a=false)->Q (.ref p) H'
theorem aJ3:A7 ["places","ties","ascending"] ["places","ties"] (p5 aC6):=.mk'
theorem bm1 {fI fU:Addr} {fdU:FuncData} {tk:Tok} (F:Fun K "made" "made" aC6 f fd) (B:Bn mg) (FI:Fq K mg "is_place" aw0 fI fdI ["places","number"])
  (FU:Fq K mg "turned_up" sUp fU fdU ["places","tie"]) (mM:mg "MOST_PLACES"=some (.int 24 tk)) :
  B6 P w K mg base CX0 3 f fd ["places","ties"] (aI7 K):=by
 have GU:B6 P w K mg base CX0 2 fU fdU ["places","tie"] (bD5 K):=bF3 FU.F B FI
 refine F.ok aJ3 (fun cdv A outer s H vs Q E hr h=>?_)
 obtain⟨n,a,ys,hs,rfl,n1,n2,hS,hT,hE,hN,hL,q⟩:=h
 have hu8:=bA3 (L4 (by decide:8<=64) _) hr.units
 have hyl:=hT.len
 have nd2:(["tie","places"]:List Str).Nodup:=by decide +kernel
 have step:∀ (D:Addr),H D=none->∀ (i:Nat) (xs:List V) (H':Hp) (x:V) (N:List V->Hp->Prop),A5 H H'->H' D=some (.lst xs)->v7 K H' xs ((hs.take i).map up)->ys[i]?=some x ->
   (∀ xs' H'',A5 H H''->H'' D=some (.lst xs')->v7 K H'' xs' ((hs.take (i+1)).map up)->N xs' H'') ->
   ∃ (m:Nat) (b:Addr) (k:List Int),[V.int n,x]=[.int m,.ref b]/\SqT K H' b (k.map V.int)/\aj6 m k/\∀ p,H' p=none->(upd H' p (.tup ((up k).map V.int))) D=some (.lst xs)/\N (xs++[.ref p]) (upd (upd H' p (.tup ((up k).map V.int))) D (.lst (xs++[.ref p]))):=by
  intro D hD i xs H' x N s1 hd ht hx k
  obtain⟨b,kk,rfl,hk,hq⟩:=hT.get hx
  refine⟨n,b,kk,rfl,s1.seqT hq,hE kk (c8 hk),fun p hp=>?_⟩
  have npd:D≠p:=u9 hd hp
  have hd':(upd H' p (.tup ((up kk).map V.int))) D=some (.lst xs):=by rw[o6 npd];exact hd
  refine⟨hd',k _ _ ((s1.trans (f7 hp)).upd hD) b8 ?_⟩
  have e:(hs.take (i+1)).map up=(hs.take i).map up++[up kk]:=by
   rw[u6,hk,n4]
   rfl
  rw[e]
  refine v7.updL hd' (v7.append (A5.tups (f7 hp) ht) (v7.one (SqT.of b8)))
 rcases hS with hS | hS
 ·refine⟨_,j9 (P2 (Y0 (aD2 aD5 aD5 k8 (pv 0) (aP0 (v:=.int 24) rfl mM ⟨_,rfl⟩))) P7 E4)
   (j9 (D5 (i := 2) aJ3.nd rfl (Or.inl rfl) (A9 aa7 (by rfl) B.sorted (by rfl) (a7
    (ab5 (N' := ["tie", "places"]) (lk := [none, some 0]) rfl (S1 (pv 1)) (by rfl) rfl (by decide +kernel) (by exact ⟨rfl, trivial⟩) (by rfl) (by exact LkL.ok ⟨⟨rfl, Or.inl rfl, rfl, Or.inl rfl⟩, trivial⟩)
     (fun _ _ _=>A6 (i:=0) nd2 rfl (Or.inl rfl)) (fun _ _ _=>X9) (fun _ _ _=>E6 GU hr (by rfl) FU E1 (a7 (pv 1) (a7 (pv 0) g7)))) g7)))
   (j9 (P2 (F2 aj3 (A9 call_len_set (by rfl) B.len PySem.boot_len (a7 (K7 (aG2 rfl hu8) (by rfl) B.set (by rfl) (a7 (pv 2) g7)) g7)) (A9 M4 (by rfl) B.len PySem.boot_len (a7 (pv 2) g7)) (J5 _)) P7 E4)
   (o3 (D6 (K8 (a7 (pv 0) (a7 (K7 W0 (by rfl) B.tuple (by rfl) (a7 (pv 2) g7)) g7))))))),?_⟩
  refine⟨_,rfl,_,_,rfl,rfl,_,rfl,?_⟩
  rw[decide_eq_true (show (1:Int)<=n by omega)]
  refine W8 ⟨_,_,rfl,rfl,_,rfl,?_⟩
  rw[decide_eq_true (show (n:Int)<=24 by omega)]
  refine P9 ?_
  refine⟨_,rfl,a,rfl,⟨_,hS⟩,fun D hD=>ai4 (K:=K) (a:=a) (D:=D) (ys:=ys) (fun i xs σ' H'=>∃ v,σ'=[v,some (.int n)]/\A5 H H'/\H' D=some (.lst xs)/\v7 K H' xs ((hs.take i).map up)) ⟨none,rfl,f7 hD,b8,.nil⟩ (by have:=T5;omega)
   (fun i xs σ' H' hi ⟨_,_,s1,h1,h2⟩=>⟨s1.seq hS,h1,by have:=h2.len;simp at this;omega⟩) ?_ ?_⟩
  ·rintro i xs x σ' H' N kN hx ⟨v,rfl,s1,h1,h2⟩
   refine o8 ?_
   refine T4 ?_
   refine⟨_,rfl,_,rfl,?_⟩
   exact step D hD i xs H' x (fun xs' H''=>N xs' _ H'') s1 h1 h2 hx fun xs' H'' a1 a2 a3=>kN _ _ _ ⟨_,rfl,a1,a2,a3⟩
  ·rintro xs σ' H1 ⟨v,rfl,s1,h1,h2⟩
   rw[o1 (by omega)]at h2
   have hup:∀ k∈hs.map up,Up n k:=fun k hk=>by
    obtain⟨k0,h0,rfl⟩:=l6.mp hk
    exact(hE k0 h0).up
   refine⟨D,xs,_,rfl,SqL.of h1,h2,(fun k hk z=>by have:=(hup k hk).len;rw[z]at this;cases this),fun l zs ks hl pk hs1 ht1=>?_⟩
   have hkl:ks.length=hs.length:=by rw[pk.length_eq,b6]
   have hzl:=ht1.len
   have s2:A5 H (upd H1 l (.lst zs)):=s1.trans (f7 hl)
   refine⟨_,rfl,l,zs,ks,rfl,SqL.of b8,ht1,(fun k hk=>(hup k (pk.mem_iff.mp hk)).key n2),by omega,fun S hSn=>?_⟩
   have hlS:l≠S:=u9 b8 hSn
   have s3:=s2.trans (f7 (o:=aM0 P w S (ks.foldl Sett.S2 []).length) hSn)
   have l3:(upd (upd H1 l (.lst zs)) S (aM0 P w S (ks.foldl Sett.S2 []).length)) l=some (.lst zs):=by rw[o6 hlS,b8]
   refine⟨S,_,rfl,b8,_,rfl,l,zs,rfl,.inl (SqL.of l3),_,_,rfl,rfl,_,rfl,?_⟩
   have hfold:(ks.foldl Sett.S2 []).length=zs.length:=by
    have:=(Sett.ah9 ks []).mpr ⟨(pk.nodup_iff).mpr hN,fun x _=>by simp⟩
    simp at this
    omega
   rw[hfold,decide_eq_false (by omega)]
   refine P9 ?_
   refine⟨_,rfl,_,rfl,l,zs,rfl,.inl ⟨SqL.of (by rw[hfold]at l3;exact l3),fun t ht=>⟨(by show 2<=d7;decide),fun p hp=>?_⟩⟩⟩
   rw[hfold]at s3
   have s4:=(s3.trans (f7 (o:=.tup zs) ht)).trans (f7 (o:=.tup [.int n,.ref t]) hp)
   refine q p t zs ks _ s4 ((s3.trans (f7 ht)).free hp) (s3.free ht) b8 ?_ ?_ pk hs1
   ·rw[o6 (u9 b8 hp),b8]
   ·exact A5.tups (((f7 hSn).trans (f7 ht)).trans (f7 hp)) ht1
 ·refine⟨_,j9 (P2 (Y0 (aD2 aD5 aD5 k8 (pv 0) (aP0 (v:=.int 24) rfl mM ⟨_,rfl⟩))) P7 E4)
   (j9 (D5 (i := 2) aJ3.nd rfl (Or.inl rfl) (A9 aa7 (by rfl) B.sorted (by rfl) (a7
    (ab5 (N' := ["tie", "places"]) (lk := [none, some 0]) rfl (aw7 (pv 1)) (by rfl) rfl (by decide +kernel) (by exact ⟨rfl, trivial⟩) (by rfl) (by exact LkL.ok ⟨⟨rfl, Or.inl rfl, rfl, Or.inl rfl⟩, trivial⟩)
     (fun _ _ _=>A6 (i:=0) nd2 rfl (Or.inl rfl)) (fun _ _ _=>X9) (fun _ _ _=>E6 GU hr (by rfl) FU E1 (a7 (pv 1) (a7 (pv 0) g7)))) g7)))
   (j9 (P2 (F2 aj3 (A9 call_len_set (by rfl) B.len PySem.boot_len (a7 (K7 (aG2 rfl hu8) (by rfl) B.set (by rfl) (a7 (pv 2) g7)) g7)) (A9 M4 (by rfl) B.len PySem.boot_len (a7 (pv 2) g7)) (J5 _)) P7 E4)
   (o3 (D6 (K8 (a7 (pv 0) (a7 (K7 W0 (by rfl) B.tuple (by rfl) (a7 (pv 2) g7)) g7))))))),?_⟩
  refine⟨_,rfl,_,_,rfl,rfl,_,rfl,?_⟩
  rw[decide_eq_true (show (1:Int)<=n by omega)]
  refine W8 ⟨_,_,rfl,rfl,_,rfl,?_⟩
  rw[decide_eq_true (show (n:Int)<=24 by omega)]
  refine P9 ?_
  refine⟨_,rfl,a,rfl,⟨_,hS⟩,fun D hD=>aq4 (K:=K) (a:=a) (D:=D) (ys:=ys) (fun i xs σ' H'=>∃ v,σ'=[v,some (.int n)]/\A5 H H'/\H' D=some (.lst xs)/\v7 K H' xs ((hs.take i).map up)) ⟨none,rfl,f7 hD,b8,.nil⟩ (by have:=T5;omega)
   (fun i xs σ' H' hi ⟨_,_,s1,h1,h2⟩=>⟨s1.seqT hS,h1,by have:=h2.len;simp at this;omega⟩) ?_ ?_⟩
  ·rintro i xs x σ' H' N kN hx ⟨v,rfl,s1,h1,h2⟩
   refine o8 ?_
   refine T4 ?_
   refine⟨_,rfl,_,rfl,?_⟩
   exact step D hD i xs H' x (fun xs' H''=>N xs' _ H'') s1 h1 h2 hx fun xs' H'' a1 a2 a3=>kN _ _ _ ⟨_,rfl,a1,a2,a3⟩
  ·rintro xs σ' H1 ⟨v,rfl,s1,h1,h2⟩
   rw[o1 (by omega)]at h2
   have hup:∀ k∈hs.map up,Up n k:=fun k hk=>by
    obtain⟨k0,h0,rfl⟩:=l6.mp hk
    exact(hE k0 h0).up
   refine⟨D,xs,_,rfl,SqL.of h1,h2,(fun k hk z=>by have:=(hup k hk).len;rw[z]at this;cases this),fun l zs ks hl pk hs1 ht1=>?_⟩
   have hkl:ks.length=hs.length:=by rw[pk.length_eq,b6]
   have hzl:=ht1.len
   have s2:A5 H (upd H1 l (.lst zs)):=s1.trans (f7 hl)
   refine⟨_,rfl,l,zs,ks,rfl,SqL.of b8,ht1,(fun k hk=>(hup k (pk.mem_iff.mp hk)).key n2),by omega,fun S hSn=>?_⟩
   have hlS:l≠S:=u9 b8 hSn
   have s3:=s2.trans (f7 (o:=aM0 P w S (ks.foldl Sett.S2 []).length) hSn)
   have l3:(upd (upd H1 l (.lst zs)) S (aM0 P w S (ks.foldl Sett.S2 []).length)) l=some (.lst zs):=by rw[o6 hlS,b8]
   refine⟨S,_,rfl,b8,_,rfl,l,zs,rfl,.inl (SqL.of l3),_,_,rfl,rfl,_,rfl,?_⟩
   have hfold:(ks.foldl Sett.S2 []).length=zs.length:=by
    have:=(Sett.ah9 ks []).mpr ⟨(pk.nodup_iff).mpr hN,fun x _=>by simp⟩
    simp at this
    omega
   rw[hfold,decide_eq_false (by omega)]
   refine P9 ?_
   refine⟨_,rfl,_,rfl,l,zs,rfl,.inl ⟨SqL.of (by rw[hfold]at l3;exact l3),fun t ht=>⟨(by show 2<=d7;decide),fun p hp=>?_⟩⟩⟩
   rw[hfold]at s3
   have s4:=(s3.trans (f7 (o:=.tup zs) ht)).trans (f7 (o:=.tup [.int n,.ref t]) hp)
   refine q p t zs ks _ s4 ((s3.trans (f7 ht)).free hp) (s3.free ht) b8 ?_ ?_ pk hs1
   ·rw[o6 (u9 b8 hp),b8]
   ·exact A5.tups (((f7 hSn).trans (f7 ht)).trans (f7 hp)) ht1
end
end Web
namespace Web
open L2 Grf
theorem bs8 {x y:Int}(h:x<y):up [x,y]=[x,y]:=by
 show [if y<x then y else x,if y > x then y else x]=_
 rw[if_neg (by omega),if_pos h]
theorem bs9 {x y:Int}(h:y<x):up [x,y]=[y,x]:=by
 show [if y<x then y else x,if y > x then y else x]=_
 rw[if_pos h,if_neg (by omega)]
theorem bj4 {x y:Int}:up [x,y]=[x,y]\/up [x,y]=[y,x]:=by
 rcases bB6 x y with c | c | c
 ·exact .inl (bs8 c)
 ·subst c
  left
  show [if x<x then x else x,if x > x then x else x]=[x,x]
  rw[if_neg (Int.lt_irrefl x)]
 ·exact .inr (bs9 c)
theorem at9 (hu:∀ k∈ks,Up n k)(i j:Nat):gW ks i j=decide (up [(i:Int),(j:Int)]∈ks):=by
 have no:∀ {x y:Nat},y<=x->[(x:Int),(y:Int)]∉ks:=fun {x y} hxy h=>by
  obtain⟨u,v,h1,h2,h3⟩:=hu _ h
  injection h3 with z1 z2
  injection z2 with z2 z3
  omega
 unfold gW
 rcases S7 i j with c | c | c
 ·rw[bs8 (by omega),decide_eq_false (no (x:=j) (y:=i) (by omega)),aW8]
 ·subst c
  have e:up [(i:Int),(i:Int)]=[(i:Int),(i:Int)]:=bj4.elim id id
  rw[e,Bool.or_self]
 ·rw[bs9 (by omega),decide_eq_false (no (x:=i) (y:=j) (by omega)),Bool.false_or]
def tkn (a b c d:Int):List (List Int):=[[a,b],[b,a],[c,d],[d,c]]
def exL (ks:List (List Int))(a b c d:Int):List (List Int):=ks.filter (fun k=>!decide (k∈tkn a b c d))++[[a,d],[c,b]]
theorem an4 {a b c d:Nat}(hu:∀ k∈ks,Up n k)(h:Fits n ks a b c d):(a<n/\b<n/\c<n/\d<n)/\Ex (gW ks) a b c d:=by
 obtain⟨hP,h1,h2,h3,h4⟩:=h
 obtain⟨hin,hnd⟩:=(M9 n _).mp hP
 have ia:=hin a (by simp)
 have ib:=hin b (by simp)
 have ic:=hin c (by simp)
 have id':=hin d (by simp)
 simp only[j1,b7,j4,or_false,not_or]at hnd
 obtain⟨⟨ab,ac,ad⟩,⟨bc,bd⟩,cd,_⟩:=hnd
 refine⟨⟨by omega,by omega,by omega,by omega⟩,by omega,by omega,by omega,by omega,by omega,by omega,?_,?_,?_,?_⟩
 ·rw[at9 hu,decide_eq_true h1]
 ·rw[at9 hu,decide_eq_true h2]
 ·rw[at9 hu,decide_eq_false h3]
 ·rw[at9 hu,decide_eq_false h4]
section
variable {a b c d:Nat} (hu:∀ k∈ks,Up n k) (nd:ks.Nodup) (hf:Fits n ks a b c d)
include hu nd hf
theorem aF7:∀ k∈exL ks a b c d,aj6 n k:=fun k hk=>by
 obtain⟨⟨ha,hb,hc,hd⟩,ex⟩:=an4 hu hf
 rcases j0.mp hk with h | h
 ·exact(hu k (j5.mp h).1).ends
 ·rcases b7.mp h with rfl | h
  ·exact⟨a,d,ha,hd,ex.ad,rfl⟩
  ·rw[a8.mp h]
   exact⟨c,b,hc,hb,Ne.symm ex.bc,rfl⟩
theorem aL5:(exL ks a b c d).map up=ks.filter (fun k=>!decide (k∈tkn a b c d))++[up [(a:Int),(d:Int)],up [(c:Int),(b:Int)]]:=by
 unfold exL
 rw[n4]
 congr 1
 conv=>rhs;rw[<- List.map_id' (List.filter _ ks)]
 exact X2 fun k hk=>bC5 (hu k (j5.mp hk).1)
theorem bf1:((exL ks a b c d).map up).Nodup:=by
 obtain⟨_,ex⟩:=an4 hu hf
 rw[aL5 hu nd hf]
 refine N7.mpr ⟨nd.filter _,?_,fun x hx y hy e=>?_⟩
 ·refine j1.mpr ⟨fun h=>?_,j1.mpr ⟨j4,t5⟩⟩
  rcases up_eq (a8.mp h) with z | z
  ·have:=ex.ac;omega
  ·have:=ex.ab;omega
 ·subst e
  have hk:=(j5.mp hx).1
  rcases b7.mp hy with rfl | h
  ·exact hf.2.2.2.1 hk
  ·rw[a8.mp h]at hk
   exact hf.2.2.2.2 hk
theorem O6 (hl:ls.Perm ((exL ks a b c d).map up)):(∀ k∈ls,Up n k)/\ls.Nodup/\tal n ls=tal n ks:=by
 obtain⟨⟨ha,hb,hc,hd⟩,ex⟩:=an4 hu hf
 have hu':∀ k∈ls,Up n k:=fun k hk=>by
  obtain⟨k',h1,rfl⟩:=l6.mp (hl.mem_iff.mp hk)
  exact(aF7 hu nd hf k' h1).up
 have nd':ls.Nodup:=hl.nodup_iff.mpr (bf1 hu nd hf)
 have mem:∀ x,x∈ls↔(x∈ks/\x∉tkn a b c d)\/x=up [(a:Int),(d:Int)]\/x=up [(c:Int),(b:Int)]:=fun x=>by
  rw[hl.mem_iff,aL5 hu nd hf,j0,j5,E7,decide_eq_false_iff_not,b7,a8]
 have tk:∀ {i j:Nat},up [(i:Int),(j:Int)]∈tkn a b c d->((i=a/\j=b)\/(i=b/\j=a))\/((i=c/\j=d)\/(i=d/\j=c)):=fun {i j} h=>by
  have key:∀ {u v:Nat},up [(i:Int),(j:Int)]=[(u:Int),(v:Int)]->(i=u/\j=v)\/(i=v/\j=u):=fun {u v} e=>by
   rcases bj4 (x:=(i:Int)) (y:=(j:Int)) with z | z<;>rw[z]at e<;>injection e with e1 e2<;>injection e2 with e2 e3
   ·exact .inl ⟨by omega,by omega⟩
   ·exact .inr ⟨by omega,by omega⟩
  unfold tkn at h
  simp only[b7,j4,or_false]at h
  rcases h with h | h | h | h
  ·exact .inl (key h)
  ·exact .inl (key h).symm
  ·exact .inr (key h)
  ·exact .inr (key h).symm
 have kt:∀ {i j u v:Nat},(i=u/\j=v)\/(i=v/\j=u)->up [(i:Int),(j:Int)]=up [(u:Int),(v:Int)]:=fun {i j u v} h=>by
  rcases h with⟨rfl,rfl⟩ | ⟨rfl,rfl⟩
  ·rfl
  ·exact O3 _ _
 have inT:∀ {u v:Nat},(u=a/\v=b)\/(u=c/\v=d)->up [(u:Int),(v:Int)]∈tkn a b c d:=fun {u v} h=>by
  unfold tkn
  rcases h with⟨rfl,rfl⟩ | ⟨rfl,rfl⟩<;>rcases bj4 (x:=(u:Int)) (y:=(v:Int)) with z | z<;>rw[z]<;>simp
 have hg:gW ls=bn6 (gW ks) a b c d:=funext fun i=>funext fun j=>by
  rw[at9 hu']
  have neab:=ex.ab
  have neac:=ex.ac
  have nead:=ex.ad
  have nebc:=ex.bc
  have nebd:=ex.bd
  have necd:=ex.cd
  unfold bn6 T6
  by_cases h4:(i=c/\j=b)\/(i=b/\j=c)
  ·rw[if_pos h4]
   exact decide_eq_true ((mem _).mpr (.inr (.inr (kt h4))))
  ·rw[if_neg h4]
   by_cases h3:(i=a/\j=d)\/(i=d/\j=a)
   ·rw[if_pos h3]
    exact decide_eq_true ((mem _).mpr (.inr (.inl (kt h3))))
   ·rw[if_neg h3]
    have other:up [(i:Int),(j:Int)]∈ls->up [(i:Int),(j:Int)]∈ks/\up [(i:Int),(j:Int)]∉tkn a b c d:=fun h=>by
     rcases(mem _).mp h with z | z | z
     ·exact z
     ·exact absurd (up_eq z) (fun q=>h3 (by omega))
     ·exact absurd (up_eq z) (fun q=>h4 (by omega))
    by_cases h2:(i=c/\j=d)\/(i=d/\j=c)
    ·rw[if_pos h2]
     exact decide_eq_false fun h=>(other h).2 (by rw[kt h2];exact inT (.inr ⟨rfl,rfl⟩))
    ·rw[if_neg h2]
     by_cases h1:(i=a/\j=b)\/(i=b/\j=a)
     ·rw[if_pos h1]
      exact decide_eq_false fun h=>(other h).2 (by rw[kt h1];exact inT (.inl ⟨rfl,rfl⟩))
     ·rw[if_neg h1,at9 hu]
      by_cases hm:up [(i:Int),(j:Int)]∈ks
      ·rw[decide_eq_true hm]
       exact decide_eq_true ((mem _).mpr (.inl ⟨hm,fun z=>(tk z).elim h1 h2⟩))
      ·rw[decide_eq_false hm]
       exact decide_eq_false fun h=>hm (other h).1
 refine⟨hu',nd',List.ext_getElem (by rw[O4,O4]) fun i h1 h2=>?_⟩
 have hi:i<n:=by rw[O4]at h1;exact h1
 have e1:=aL3 nd' hu' i
 have e2:=aL3 nd hu i
 rw[hg,bf0 (be6 hu) ex ha hb hc hd,e2]at e1
 have g1:=S9 (n:=n) (ks:=ls) hi
 have g2:=S9 (n:=n) (ks:=ks) hi
 rw[x5,d5 h1]at g1
 rw[x5,d5 h2]at g2
 show (tal n ls)[i]=(tal n ks)[i]
 have g1':(tal n ls)[i]=(x8 ls i:Int):=g1
 have g2':(tal n ks)[i]=(x8 ks i:Int):=g2
 rw[g1',g2',e1]
end
theorem aN2 {x:List Int}{a b c d:Int}(h:Up n x):x∈tkn a b c d↔x=up [a,b]\/x=up [c,d]:=by
 obtain⟨i,j,hij,hj,rfl⟩:=h
 have key:∀ u v:Int,([(i:Int),(j:Int)]=[u,v]\/[(i:Int),(j:Int)]=[v,u])↔[(i:Int),(j:Int)]=up [u,v]:=fun u v=>by
  constructor
  ·rintro(h | h)<;>injection h with h1 h2<;>injection h2 with h2 h3<;>subst h1<;>subst h2
   ·rw[bs8 (by omega)]
   ·rw[bs9 (by omega)]
  ·intro h
   rcases bj4 (x:=u) (y:=v) with z | z<;>rw[z]at h
   ·exact .inl h
   ·exact .inr h
 unfold tkn
 simp only[b7,j4,or_false]
 rw[<- key a b,<- key c d,or_assoc]
section
variable {a b c d:Nat} (hu:∀ k∈ks,Up n k) (nd:ks.Nodup) (hf:Fits n ks a b c d)
include hu nd hf
theorem Y4 (hl:ls.Perm ((exL ks a b c d).map up))(x:List Int):x∈ls↔(x∈ks/\x≠up [(a:Int),(b:Int)]/\x≠up [(c:Int),(d:Int)])\/x=up [(a:Int),(d:Int)]\/x=up [(c:Int),(b:Int)]:=by
 rw[hl.mem_iff,aL5 hu nd hf,j0,j5,E7,decide_eq_false_iff_not,b7,a8]
 refine or_congr ⟨fun h=>⟨h.1,?_⟩,fun h=>⟨h.1,?_⟩⟩ Iff.rfl
 ·have:=h.2
  rw[aN2 (hu x h.1),not_or]at this
  exact this
 ·rw[aN2 (hu x h.1),not_or]
  exact h.2
theorem ai1 (hl:ls.Perm ((exL ks a b c d).map up)):Fits n ls a d c b:=by
 obtain⟨_,ex⟩:=an4 hu hf
 have neab:=ex.ab
 have neac:=ex.ac
 have nead:=ex.ad
 have nebc:=ex.bc
 have nebd:=ex.bd
 have necd:=ex.cd
 obtain⟨hin,hnd⟩:=(M9 n _).mp hf.1
 refine⟨(M9 n _).mpr ⟨fun x hx=>hin x ?_,?_⟩,(Y4 hu nd hf hl _).mpr (.inr (.inl rfl)),(Y4 hu nd hf hl _).mpr (.inr (.inr rfl)),fun h=>?_,fun h=>?_⟩
 ·simp only[b7,j4,or_false]at hx ⊢
  rcases hx with h | h | h | h<;>simp[h]
 ·simp only[j1,b7,j4,or_false,not_or,not_false_eq_true,t5,and_true]
  exact⟨⟨by omega,by omega,by omega⟩,⟨by omega,by omega⟩,by omega⟩
 ·rcases(Y4 hu nd hf hl _).mp h with z | z | z
  ·exact z.2.1 rfl
  ·rcases up_eq z with q | q<;>omega
  ·rcases up_eq z with q | q<;>omega
 ·rcases(Y4 hu nd hf hl _).mp h with z | z | z
  ·exact z.2.2 rfl
  ·rcases up_eq z with q | q<;>omega
  ·rcases up_eq z with q | q<;>omega
theorem bo3 {ls2:List (List Int)}(hl:ls.Perm ((exL ks a b c d).map up))(hl2:ls2.Perm ((exL ls a d c b).map up))(x:List Int):x∈ls2↔x∈ks:=by
 obtain⟨hu',nd',_⟩:=O6 hu nd hf hl
 rw[Y4 hu' nd' (ai1 hu nd hf hl) hl2,Y4 hu nd hf hl]
 constructor
 ·rintro(⟨h1 | h1 | h1,h2,h3⟩ | h | h)
  ·exact h1.1
  ·exact absurd h1 h2
  ·exact absurd h1 h3
  ·rw[h];exact hf.2.1
  ·rw[h];exact hf.2.2.1
 ·intro h
  by_cases e1:x=up [(a:Int),(b:Int)]
  ·exact .inr (.inl e1)
  by_cases e2:x=up [(c:Int),(d:Int)]
  ·exact .inr (.inr e2)
  exact .inl ⟨.inl ⟨h,e1,e2⟩,fun z=>hf.2.2.2.1 (by rw[<- z];exact h),fun z=>hf.2.2.2.2 (by rw[<- z];exact h)⟩
end
end Web
namespace Web
open PySem L2
theorem aU8 {K:W.Frag}{Q:VK}{t:Addr}(hun:A.units+64<G0)(ht:SqT K H t (k.map V.int))(hl:SqL K H l xs)(hx:v7 K H xs ks)(q:Q (.bl (!decide (k∈ks))) H):bk7 K A true (.ref t) (.ref l) H Q:=by
 refine⟨l,xs,dP k,ks.map dP,rfl,.inl hl,Dt.mkP ht,hx.dtAll,bd3 _,S5 ks,aY0 hun (o5 (bf6 _) (by decide)),?_⟩
 rw[if_pos rfl,aL9]
 exact q
theorem take_snoc {α:Type}{l:List α}{x:α}(h:l[i]?=some x):l.take (i+1)=l.take i++[x]:=by rw[u6,h];rfl
def aE6 (ks ls:List (List Int)):List (List Int):=ls.filter fun k=>!decide (k∈ks)
theorem at6 (h:ls[i]?=some k):aE6 ks (ls.take (i+1))=aE6 ks (ls.take i)++(if k∈ks then [] else [k]):=by
 unfold aE6
 rw[take_snoc h,Q6]
 by_cases c:k∈ks
 ·rw[if_pos c,Q7 (by rw[decide_eq_true c];decide)];rfl
 ·rw[if_neg c,Q8 (by rw[decide_eq_false c];decide)];rfl
theorem aQ5 (ks ls:List (List Int)):(aE6 ks ls).length<=ls.length:=G9 _ _
seal L2.PE L2.PA L2.PS L2.PSs L2.PT
section
variable {K:W.Frag} {mg:Str->Option Value} {base:Heap}
def aZ6 (K:W.Frag)(CE:Addr):Sp:=fun vs H Q E=>∃ (p qa:Addr) (n:Nat) (ks:List (List Int)) (a b c d:Int),vs=[.ref p,.ref qa]/\M7 K H p n ks/\1<=n/\n<=24/\(∀ k∈ks,Up n k)/\ks.Nodup/\SqT K H qa (([a,b,c,d]:List Int).map V.int)/\(∀ a' b' c' d':Nat,a=(a':Int)->b=(b':Int)->c=(c':Int)->d=(d':Int)->Fits n ks a' b' c' d'->∀ (r:Addr) (ls:List (List Int)) (H':Hp),A5 H H'->M7 K H' r n ls->ls.Perm ((exL ks a' b' c' d').map up)->ls.Pairwise (fun a b=>Tim.F4 b a=false)->Q (.ref r) H')/\(¬ Fits n ks a b c d->∀ H':Hp,A5 H H'->E (.ref CE) none H')
theorem aZ9:A7 ["web","four","taken_out","kept"] ["web","four"] (p5 ba1):=.mk'
set_option maxHeartbeats 4000000 in
theorem bw3 {fC fV CE:Addr}{fdV:FuncData}(F:Fun K "exchanged" "exchanged" ba1 f fd)(B:Bn mg)(FC:Fq K mg "can_exchange" ba3 fC fdC ["web","four"])(GC:B6 P w K mg base CX0 4 fC fdC ["web","four"] (aZ7 K))
  (FV:Fq K mg "made" aC6 fV fdV ["places","ties"])(GV:B6 P w K mg base CX0 4 fV fdV ["places","ties"] (aI7 K))(mE:mg "NoExchange"=some (.ref CE))(cE:bo6 K CE):B6 P w K mg base (CXE P w) 5 f fd ["web","four"] (aZ6 K CE):=by
 refine F.okX aZ9 (fun cdv A outer s H vs Q E hr h=>?_)
 obtain⟨p,qa,n,ks,a0',b0',c0',d0',rfl,hW,n1,n24,hu,nd,hq,q0,qe⟩:=h
 have hsl:=T5
 have hun:=hr.units
 have nd2:(["tie","taken_out"]:List Str).Nodup:=by decide +kernel
 obtain⟨tt,zt,w1,w2,w3⟩:=id hW
 have a0:atI ([.int n,.ref tt]:List V) 0=some (.int n):=A4 (j:=0) rfl
 have a1:atI ([.int n,.ref tt]:List V) 1=some (.ref tt):=A4 (j:=1) rfl
 have hkl:=ao0 n24 nd hu
 have hzl:=w3.len
 refine⟨_,j9 (P2 (Y0 (aa1 (E6 GC hr (by rfl) FC E1 (a7 (pv 0) (a7 (pv 1) g7))))) (o3 (bb2 (by rfl) mE cE)) E4)
  (j9 (D5 (i:=2) aZ9.nd rfl (Or.inr rfl) (P8 (a7 (K8 (a7 (v8 v5 (pv 1) k8 (fun _ _=>rfl)) (a7 (v8 v5 (pv 1) k8 (fun _ _=>rfl)) g7))) (a7 (K8 (a7 (v8 v5 (pv 1) k8 (fun _ _=>rfl)) (a7 (v8 v5 (pv 1) k8 (fun _ _=>rfl)) g7))) (a7 (K8 (a7 (v8 v5 (pv 1) k8 (fun _ _=>rfl)) (a7 (v8 v5 (pv 1) k8 (fun _ _=>rfl)) g7))) (a7 (K8 (a7 (v8 v5 (pv 1) k8 (fun _ _=>rfl)) (a7 (v8 v5 (pv 1) k8 (fun _ _=>rfl)) g7))) g7))))))
  (j9 (aw4 (i:=3) aZ9.nd rfl rfl (by rfl) (N':=["tie","taken_out"]) (lk:=[none,some 2]) rfl (aw7 (v8 v5 (pv 0) k8 (fun _ _=>rfl))) (by rfl) rfl (by decide +kernel) (by exact⟨rfl,trivial⟩) (by rfl) (by exact LkL.ok ⟨⟨rfl,Or.inl rfl,rfl,Or.inl rfl⟩,trivial⟩) (fun _ _ _=>A6 (i:=0) nd2 rfl (Or.inl rfl)) (fun _ _ _=>aw3 (F2 (aK0 K hr.around rfl rfl) (pv 0) (pv 1) (by rfl))) (fun _ _ _=>pv 0))
  (o3 (D6 (E6 GV hr (by rfl) FV E1 (a7 (v8 v5 (pv 0) k8 (fun _ _=>rfl)) (a7 (C7 bv7 (pv 3) (P8 (a7 (K8 (a7 (v8 v5 (pv 1) k8 (fun _ _=>rfl)) (a7 (v8 v5 (pv 1) k8 (fun _ _=>rfl)) g7))) (a7 (K8 (a7 (v8 v5 (pv 1) k8 (fun _ _=>rfl)) (a7 (v8 v5 (pv 1) k8 (fun _ _=>rfl)) g7))) g7)))) g7))))))),?_⟩
 refine⟨_,rfl,_,rfl,p,qa,n,ks,a0',b0',c0',d0',rfl,hW,hq,fun H1 s1=>?_⟩
 by_cases hf':Fits n ks a0' b0' c0' d0'
 case neg =>
  rw[decide_eq_false hf']
  exact⟨_,rfl,W8 (qe hf' _ s1)⟩
 rw[decide_eq_true hf']
 obtain⟨a,b,c,d,ea,eb,ec,ed⟩:∃ a b c d:Nat,a0'=(a:Int)/\b0'=(b:Int)/\c0'=(c:Int)/\d0'=(d:Int):=by
  have hin:=((M9 n _).mp hf'.1).1
  have ia:=hin a0' (by simp)
  have ib:=hin b0' (by simp)
  have ic:=hin c0' (by simp)
  have ie:=hin d0' (by simp)
  exact⟨a0'.toNat,b0'.toNat,c0'.toNat,d0'.toNat,by omega,by omega,by omega,by omega⟩
 subst ea eb ec ed
 have hf:Fits n ks a b c d:=hf'
 have q:=q0 a b c d rfl rfl rfl rfl hf
 refine⟨_,rfl,P9 ?_⟩
 have hq1:SqT K H1 qa [.int (a:Int),.int (b:Int),.int (c:Int),.int (d:Int)]:=s1.seqT hq
 refine⟨_,rfl,qa,_,_,_,rfl,rfl,hq1,aG8,_,rfl,qa,_,_,_,rfl,rfl,hq1,aG7,(by show 2<=d7;decide),fun x1 f1=>?_⟩
 have u1:=f7 (o:=.tup [.int (a:Int),.int (b:Int)]) f1
 have hq2:=u1.seqT hq1
 refine⟨_,rfl,qa,_,_,_,rfl,rfl,hq2,aG7,_,rfl,qa,_,_,_,rfl,rfl,hq2,aG8,(by show 2<=d7;decide),fun x2 f2=>?_⟩
 have u2:=f7 (o:=.tup [.int (b:Int),.int (a:Int)]) f2
 have hq3:=u2.seqT hq2
 refine⟨_,rfl,qa,_,_,_,rfl,rfl,hq3,aG6,_,rfl,qa,_,_,_,rfl,rfl,hq3,aG5,(by show 2<=d7;decide),fun x3 f3=>?_⟩
 have u3:=f7 (o:=.tup [.int (c:Int),.int (d:Int)]) f3
 have hq4:=u3.seqT hq3
 refine⟨_,rfl,qa,_,_,_,rfl,rfl,hq4,aG5,_,rfl,qa,_,_,_,rfl,rfl,hq4,aG6,(by show 2<=d7;decide),fun x4 f4=>⟨(by show 4<=d7;decide),fun lt flt=>?_⟩⟩
 have u4:=f7 (o:=.tup [.int (d:Int),.int (c:Int)]) f4
 have u5:=f7 (o:=.lst [.ref x1,.ref x2,.ref x3,.ref x4]) flt
 have g1:=(u2.trans (u3.trans (u4.trans u5))) _ _ (b8 (H:=H1) (a:=x1))
 have g2:=(u3.trans (u4.trans u5)) _ _ (b8 (a:=x2))
 have g3:=(u4.trans u5) _ _ (b8 (a:=x3))
 have g4:=u5 _ _ (b8 (a:=x4))
 have glt:=b8 (H:=upd (upd (upd (upd H1 x1 (.tup [.int (a:Int),.int (b:Int)])) x2 (.tup [.int (b:Int),.int (a:Int)])) x3 (.tup [.int (c:Int),.int (d:Int)])) x4 (.tup [.int (d:Int),.int (c:Int)])) (a:=lt) (o:=.lst [.ref x1,.ref x2,.ref x3,.ref x4])
 have hT:v7 K (upd (upd (upd (upd (upd H1 x1 (.tup [.int (a:Int),.int (b:Int)])) x2 (.tup [.int (b:Int),.int (a:Int)])) x3 (.tup [.int (c:Int),.int (d:Int)])) x4 (.tup [.int (d:Int),.int (c:Int)])) lt (.lst [.ref x1,.ref x2,.ref x3,.ref x4])) [.ref x1,.ref x2,.ref x3,.ref x4] (tkn a b c d):=.cons ⟨x1,rfl,SqT.of g1⟩ (.cons ⟨x2,rfl,SqT.of g2⟩ (.cons ⟨x3,rfl,SqT.of g3⟩ (.cons ⟨x4,rfl,SqT.of g4⟩ .nil)))
 have s6:=s1.trans (u1.trans (u2.trans (u3.trans (u4.trans u5))))
 generalize upd (upd (upd (upd (upd H1 x1 (.tup [.int (a:Int),.int (b:Int)])) x2 (.tup [.int (b:Int),.int (a:Int)])) x3 (.tup [.int (c:Int),.int (d:Int)])) x4 (.tup [.int (d:Int),.int (c:Int)])) lt (.lst [.ref x1,.ref x2,.ref x3,.ref x4])=H6 at glt hT s6 ⊢
 refine o8 ?_
 refine⟨_,rfl,p,_,_,_,rfl,rfl,s6.seqT w1,a1,tt,rfl,⟨_,s6.seqT w2⟩,fun D hD=>aq4 (K:=K) (a:=tt) (D:=D) (ys:=zt) (fun i xs σ' H'=>(∃ v,σ'=[v,some (.ref lt)])/\A5 H6 H'/\H' D=some (.lst xs)/\v7 K H' xs (aE6 (tkn a b c d) (ks.take i))) ⟨⟨none,rfl⟩,f7 hD,b8,.nil⟩ (by omega)
  (fun i xs σ' H' hi ⟨_,s7,h7,t7⟩=>⟨(s6.trans s7).seqT w2,h7,by rw[t7.len];exact o5 (aQ5 _ _) (bp2 _ _)⟩) ?_ ?_⟩
 ·rintro i xs x σ' H' N kN hx ⟨⟨v,rfl⟩,s7,h7,t7⟩
  obtain⟨y,k,rfl,hk,hy⟩:=w3.get hx
  refine o8 ?_
  refine⟨_,rfl,_,rfl,aU8 (ks:=tkn a b c d) hun ((s6.trans s7).seqT hy) (SqL.of (s7 _ _ glt)) (s7.tups hT) ⟨_,rfl,?_⟩⟩
  by_cases ck:k∈tkn a b c d
  ·rw[decide_eq_true ck]
   refine P9 (kN _ _ _ ⟨⟨_,rfl⟩,s7,h7,?_⟩)
   rw[at6 hk,if_pos ck,y7]
   exact t7
  ·rw[decide_eq_false ck]
   refine W8 ⟨_,rfl,h7,kN _ _ _ ⟨⟨_,rfl⟩,s7.upd hD,b8,?_⟩⟩
   rw[at6 hk,if_neg ck]
   exact v7.updL h7 (v7.append t7 (v7.one ((s6.trans s7).seqT hy)))
 ·rintro xs σ' H7 ⟨⟨v,rfl⟩,s7,h7,t7⟩
  rw[o1 (by omega)]at t7
  have s17:=s6.trans s7
  have hq7:SqT K H7 qa [.int (a:Int),.int (b:Int),.int (c:Int),.int (d:Int)]:=s17.seqT hq
  refine⟨_,rfl,p,_,_,_,rfl,rfl,s17.seqT w1,a0,_,rfl,_,rfl,qa,_,_,_,rfl,rfl,hq7,aG8,_,rfl,qa,_,_,_,rfl,rfl,hq7,aG5,(by show 2<=d7;decide),fun y1 fy1=>?_⟩
  have v1:=f7 (o:=.tup [.int (a:Int),.int (d:Int)]) fy1
  have hq8:=v1.seqT hq7
  refine⟨_,rfl,qa,_,_,_,rfl,rfl,hq8,aG6,_,rfl,qa,_,_,_,rfl,rfl,hq8,aG7,(by show 2<=d7;decide),fun y2 fy2=>⟨(by show 2<=d7;decide),fun l9 f9=>?_⟩⟩
  have v2:=f7 (o:=.tup [.int (c:Int),.int (b:Int)]) fy2
  have v3:=f7 (o:=.lst [.ref y1,.ref y2]) f9
  have v13:=v1.trans (v2.trans v3)
  have hxl:=t7.len
  have hll:=aQ5 (tkn a b c d) ks
  refine⟨D,l9,_,_,rfl,rfl,v13 _ _ h7,b8,by show xs.length+2<=_;omega,fun l10 f10=>?_⟩
  have v4:=f7 (o:=.lst (xs++[.ref y1,.ref y2])) f10
  have v14:=v13.trans v4
  have hT2:v7 K (upd (upd (upd (upd H7 y1 (.tup [.int (a:Int),.int (d:Int)])) y2 (.tup [.int (c:Int),.int (b:Int)])) l9 (.lst [.ref y1,.ref y2])) l10 (.lst (xs++[.ref y1,.ref y2]))) (xs++[.ref y1,.ref y2]) (exL ks a b c d):=v7.append (v14.tups t7) (.cons ⟨y1,rfl,SqT.of ((v2.trans (v3.trans v4)) _ _ b8)⟩ (.cons ⟨y2,rfl,SqT.of ((v3.trans v4) _ _ b8)⟩ .nil))
  refine⟨n,l10,_,exL ks a b c d,rfl,n1,n24,.inl (SqL.of b8),hT2,aF7 hu nd hf,bf1 hu nd hf,by rw[<- hT2.len,c9];show xs.length+2<300;omega,fun r t zs ls H' s' _ _ gr gt tl pm so=>?_⟩
  exact q r ls H' (s17.trans (v14.trans s')) ⟨t,zs,SqT.of gr,SqT.of gt,tl⟩ pm so
end
end Web
namespace Web
open PySem L2
theorem as2 (K:W.Frag)(hK:X.K=K):P3 X (.builtin "len") (fun xs H Q=>∃ p ys,xs=[.ref p]/\(SqL K H p ys\/SqT K H p ys)/\Q (.int ys.length) H):=by subst hK;exact M4
theorem aK1 (K:W.Frag)(hK:X.K=K):OpR X (C1 .In) (rIn K false):=by subst hK;exact aU6
theorem bd7 (h:kvs.map (·.1)=ks.map (ar3 Sum.inl)):kvs.length=ks.length:=by
 have:=congrArg L0 h
 rw[b6,b6]at this
 exact this
def inS (ks:List (List Int))(u v:List Int):Nat->List (List Int)
 | 0=>ks
 | 1=>ks++[u]
 | _=>(ks++[u])++[v]
section
variable {K:W.Frag} {mg:Str->Option Value} {base:Heap}
end
theorem aY7 (n:Nat)(ks:List (List Int)):tal (n+1) ks=tal n ks++[(x8 ks n:Int)]:=by
 unfold tal
 rw[aH6,n4]
 rfl
theorem au3 (h:ks[j]?=some k)(i:Nat):x8 (ks.take (j+1)) i=x8 (ks.take j) i+(if (i:Int)∈k then 1 else 0):=by
 rw[u6,h,Option.toList_some,aF9]
 congr 1
 unfold x8
 rw[ag7]
 by_cases c:(i:Int)∈k
 ·rw[if_pos c,if_pos (decide_eq_true c)]
 ·rw[if_neg c,if_neg (by rw[decide_eq_false c];decide)]
seal L2.PE L2.PA L2.PS L2.PSs L2.PT
section
variable {K:W.Frag} {mg:Str->Option Value} {base:Heap}
def aZ3 (K:W.Frag):Sp:=fun vs H Q _=>∃ (n:Nat) (d:Addr) (ks:List (List Int)),vs=[.int n,.ref d]/\n<=24/\TF H d ks/\ks.length<=900/\∀ (l:Addr) (H':Hp),A5 H H'->H' l=some (.lst ((tal n ks).map V.int))->Q (.ref l) H'
theorem bu2:A7 ["places","ties"] ["places","ties"] (p5 aC4):=.mk'
set_option maxHeartbeats 4000000 in
theorem bl8 (F:Fun K "_law_sums" "_law_sums" aC4 f fd) (B:Bn mg):B6 P w K mg base CX0 1 f fd ["places","ties"] (aZ3 K):=by
 refine F.ok bu2 (fun cdv A outer s H vs Q E hr h=>?_)
 obtain⟨n,d,ks,rfl,n24,⟨o,kvs,gd,ek,_⟩,hkl,q⟩:=h
 have hsl:=T5
 have nd2:(["place","ties"]:List Str).Nodup:=by decide +kernel
 have nd3:(["tie","place"]:List Str).Nodup:=by decide +kernel
 have hlen:=bd7 ek
 refine⟨_,o3 (D6 (bc0 (x0:="place") (N':=["place","ties"]) (lk:=[none,some 1]) rfl (N8 rfl B.range (a7 (pv 0) g7)) (by rfl) rfl (by decide +kernel) (by exact⟨rfl,trivial⟩) (by rfl) (by rfl) (fun _=>rfl) (fun _=>rfl) (by exact LkL.ok ⟨⟨rfl,Or.inl rfl,rfl,Or.inl rfl⟩,trivial⟩)
   (fun _ _ _ => A6 (i := 0) nd2 rfl (Or.inr rfl)) (fun _ _ _ => X9) (fun _ _ _ => A9 (as2 K rfl) (by rfl) B.len PySem.boot_len (a7
    (ab5 (N' := ["tie", "place"]) (lk := [none, some 0]) rfl (bF0 (pv 1)) (by rfl) rfl (by decide +kernel) (by exact ⟨rfl, trivial⟩) (by rfl) (by exact LkL.ok ⟨⟨rfl, Or.inl rfl, rfl, Or.inl rfl⟩, trivial⟩)
     (fun _ _ _=>A6 (i:=0) nd3 rfl (Or.inl rfl)) (fun _ _ _=>aw3 (F2 (aK1 K rfl) (pv 1) (pv 0) (by rfl))) (fun _ _ _=>pv 0)) g7)))),?_⟩
 refine⟨_,rfl,(n:Int),rfl,by omega,by omega,?_⟩
 rw[n8]
 refine fun D hD=>ad8 (lo:=0) (n:=n) (D:=D) (fun i xs σ' H'=>(∃ v,σ'=[v,some (.ref d)])/\A5 H H'/\H' D=some (.lst xs)/\xs=(tal i ks).map V.int)
  ⟨⟨none,rfl⟩,f7 hD,b8,rfl⟩ (by omega) (fun i xs σ' H' hi' ⟨_,_,h1,e1⟩=>⟨h1,by rw[e1,b6,O4];exact c6 _⟩) ?_ ?_
 ·rintro i xs σ' H' N kN hi' ⟨⟨v,rfl⟩,s2,h2,rfl⟩
  rw[show ((0:Int)+(i:Int))=(i:Int) by omega]
  refine o8 (T4 ?_)
  refine⟨_,rfl,d,o,kvs,rfl,s2 _ _ gd,fun D2 hD2=>bo1 (a:=d) (D:=D2) (o:=o) (kvs:=kvs) (fun j xs σ'' H''=>(∃ v,σ''=[v,some (.int (i:Int))])/\A5 H' H''/\H'' D2=some (.lst xs)/\xs.length=x8 (ks.take j) i)
   ⟨⟨none,rfl⟩,f7 hD2,b8,rfl⟩ (by omega) (fun j xs σ'' H'' hj ⟨_,s3,h3,l3⟩=>⟨s3 _ _ (s2 _ _ gd),h3,by rw[l3];exact o5 (List.countP_le_length) (bp2 _ _)⟩) ?_ ?_⟩
  ·rintro j xs kv p σ'' H'' N' kN' hkv hp ⟨⟨v,rfl⟩,s3,h3,l3⟩
   have hj:j<kvs.length:=(a9.mp hkv).1
   obtain⟨k,hk⟩:∃ k,ks[j]?=some k:=⟨_,d5 (by omega)⟩
   have ek1:kv.1=k.map Sum.inl:=by
    have e1:(kvs.map (·.1))[j]?=some kv.1:=by rw[j3,hkv];rfl
    rw[ek,j3,hk]at e1
    injection e1 with e1
    exact e1.symm
   rw[ek1,af4]at hp
   refine o8 ?_
   refine⟨_,rfl,_,rfl,p,_,rfl,.inr (SqT.of hp),rfl,au2 k,_,rfl,?_⟩
   have ei:(if false=true then !inV (V.int (i:Int)) (k.map V.int) else inV (V.int (i:Int)) (k.map V.int))=decide ((i:Int)∈k):=aF0 _ _
   rw[ei]
   by_cases c:(i:Int)∈k
   ·rw[decide_eq_true c]
    refine W8 ⟨_,rfl,h3,kN' _ _ _ ⟨⟨_,rfl⟩,s3.upd hD2,b8,?_⟩⟩
    rw[au3 hk,if_pos c,c9,l3]
    rfl
   ·rw[decide_eq_false c]
    refine P9 (kN' _ _ _ ⟨⟨_,rfl⟩,s3,h3,?_⟩)
    rw[au3 hk,if_neg c,l3]
    rfl
  ·rintro xs σ'' H3 ⟨⟨v,rfl⟩,s3,h3,l3⟩
   rw[hlen,V1]at l3
   refine⟨D2,_,rfl,.inl (SqL.of h3),s3 _ _ h2,kN _ _ _ ⟨⟨_,rfl⟩,(s2.trans s3).upd hD,b8,?_⟩⟩
   rw[aY7,n4,l3]
   rfl
 ·rintro xs σ' H2 ⟨⟨v,rfl⟩,s2,h2,rfl⟩
  exact q D H2 s2 h2
end
end Web
namespace L2
open PySem PySem.Spec PyProof.Rows PySem.SeqAt
def SqU (kd:Bool)(K:W.Frag)(H:Hp)(a:Addr)(xs:List V):Prop:=match kd with
 | true=>SqL K H a xs
 | false=>SqT K H a xs
theorem bt9 {K:W.Frag}(h:SqL K H a xs\/SqT K H a xs):∃ kd,SqU kd K H a xs:=h.elim (fun h=>⟨true,h⟩) fun h=>⟨false,h⟩
theorem SqU.same {kd:Bool}{K:W.Frag}(h:SqU kd K H a xs)(s:A5 H H'):SqU kd K H' a xs:=by
 cases kd with
 | true=>exact s.seq (show SqL K H a xs from h)
 | false=>exact s.seqT (show SqT K H a xs from h)
theorem be8 {kd:Bool} {K:W.Frag} {g:TG} {tb:TS} {D:Ends} (hS:SqU kd K H a xs) (Pv:Nat->St->Hp->Prop) (h0:Pv 0 σ H) (hk:∀ i σ H',i<=xs.length->Pv i σ H'->SqU kd K H' a xs)
  (hs:∀ i x σ H,xs[i]?=some x->Pv i σ H->g x σ H fun σ2 H2=>tb { D with nx:=Pv (i+1),ct:=Pv (i+1),bk:=D.nx } σ2 H2) (hd:∀ σ H,Pv xs.length σ H->D.nx σ H) :
  (∃ b, V.ref a = V.ref b /\ (∃ ys, SqL K H b ys) /\ ∃ W : Nat -> Nat -> St -> Hp -> Prop, (∃ m, W 0 m σ H) /\ ∀ i m σ H, W i m σ H ->
   ((Itl K b).stop i H/\D.nx σ H)\/((Itl K b).go i H/\∃ N:St->Hp->Prop,(∀ σ' H',N σ' H'->∃ m',m'<m/\W (i+1) m' σ' H')/\∀ x H',(Itl K b).yld i H x H'->g x σ H' fun σ2 H2=>tb { D with nx:=N,ct:=N,bk:=D.nx } σ2 H2)) \/
  (∃ b, V.ref a = V.ref b /\ (∃ ys, SqT K H b ys) /\ ∃ W : Nat -> Nat -> St -> Hp -> Prop, (∃ m, W 0 m σ H) /\ ∀ i m σ H, W i m σ H ->
   ((Itt K b).stop i H/\D.nx σ H)\/((Itt K b).go i H/\∃ N:St->Hp->Prop,(∀ σ' H',N σ' H'->∃ m',m'<m/\W (i+1) m' σ' H')/\∀ x H',(Itt K b).yld i H x H'->g x σ H' fun σ2 H2=>tb { D with nx:=N,ct:=N,bk:=D.nx } σ2 H2)):=by
 cases kd with
 | true=>exact .inl ⟨a,rfl,⟨_,hS⟩,X0 (K:=K) (a:=a) (xs:=xs) Pv h0 (fun i σ H' hi p=>hk i σ H' hi p) hs hd⟩
 | false=>exact .inr ⟨a,rfl,⟨_,hS⟩,bn5 (K:=K) (a:=a) (xs:=xs) Pv h0 (fun i σ H' hi p=>hk i σ H' hi p) hs hd⟩
end L2
namespace Web
open PySem L2
def bG6 (K:W.Frag)(H:Hp)(p:Addr)(n:Nat)(ks:List (List Int)):Prop:=∃ t zs,SqT K H p [.int n,.ref t]/\(SqL K H t zs\/SqT K H t zs)/\v7 K H zs ks
theorem M7.toS {K:W.Frag}{p:Addr}(h:M7 K H p n ks):bG6 K H p n ks:=let ⟨t,zs,h1,h2,h3⟩:=h;⟨t,zs,h1,.inr h2,h3⟩
seal L2.PE L2.PA L2.PS L2.PSs L2.PT
section
variable {K:W.Frag} {mg:Str->Option Value} {base:Heap}
def bq2 (K:W.Frag):Sp:=fun vs H Q _=>∃ (wa:Addr) (n:Nat) (ks:List (List Int)),vs=[.ref wa]/\bG6 K H wa n ks/\n<=24/\ks.length<=600/\(∀ k∈ks,Up n k)/\∀ (a:Addr) (ps:List Addr) (H':Hp),A5 H H'->NN H' a ps (nbF ks) n->Q (.ref a) H'
theorem aO0:A7 ["web","near","one","other"] ["web"] (p5 ba4):=.mk'
set_option maxHeartbeats 2000000 in
theorem bw7 (F:Fun K "beside" "beside" ba4 f fd) (B:Bn mg):B6 P w K mg base CX0 1 f fd ["web"] (bq2 K):=by
 refine F.ok aO0 (fun cdv A outer s H vs Q E hr h=>?_)
 obtain⟨wa,n,ks,rfl,⟨t,zs,h1,h2',h3⟩,hn,hkl,hU,q⟩:=h
 obtain⟨kd,h2⟩:=bt9 h2'
 have hsl:=T5
 have sl2:2000<=d7:=by decide
 have nd1:(["place"]:List Str).Nodup:=by decide +kernel
 refine⟨_,j9 (aw4 (i:=1) aO0.nd rfl rfl (by rfl) (N':=["place"]) (lk:=[none]) rfl (N8 rfl B.range (a7 (v8 v5 (pv 0) k8 (fun _ _=>rfl)) g7)) (by rfl) rfl (by decide +kernel) (by exact trivial) (by rfl) (by exact LkL.ok trivial)
    (fun _ _ _=>A6 (i:=0) nd1 rfl (Or.inl rfl)) (fun _ _ _=>X9) (fun _ _ _=>P8 g7))
  (j9 (T7 PassesOwn.never rfl (bE9 (S1 (v8 v5 (pv 0) k8 (fun _ _ => rfl))) (aw7 (v8 v5 (pv 0) k8 (fun _ _ => rfl)))) (aw8 rfl (Q3 (A6 (i := 2) aO0.nd rfl (Or.inl rfl)) (Q3 (A6 (i := 3) aO0.nd rfl (Or.inl rfl)) am7)))
   (j9 (S0 (ap1 PySem.F.plainAttrs_list PySem.F.slot_list_append PySem.F.type_list_append L9 (v8 M0 (pv 1) (pv 2) (fun _ _=>rfl)) (a7 (pv 3) g7)))
   (o3 (S0 (ap1 PySem.F.plainAttrs_list PySem.F.slot_list_append PySem.F.type_list_append L9 (v8 M0 (pv 1) (pv 3) (fun _ _=>rfl)) (a7 (pv 2) g7))))))
  (o3 (D6 (pv 1)))),?_⟩
 have a0:atI ([.int n,.ref t]:List V) 0=some (.int n):=A4 (j:=0) rfl
 have a1:atI ([.int n,.ref t]:List V) 1=some (.ref t):=A4 (j:=1) rfl
 refine⟨_,rfl,wa,_,_,_,rfl,rfl,h1,a0,(n:Int),rfl,by omega,by omega,fun D hD=>?_⟩
 rw[n8]
 refine ad8 (lo:=0) (n:=n) (D:=D) (fun i xs σ' H'=>(∃ v,σ'=[v])/\A5 H H'/\H' D=some (.lst xs)/\∃ ps:List Addr,xs=ps.map V.ref/\ps.length=i/\ps.Nodup/\D∉ps/\∀ p∈ps,H p=none/\H' p=some (.lst []))
  ⟨⟨none,rfl⟩,f7 hD,b8,[],rfl,rfl,t5,j4,fun p hp=>absurd hp j4⟩ (by omega) (fun i xs σ' H' hi' ⟨_,_,g,ps,e,l,_⟩=>⟨g,by rw[e,b6,l];exact c6 _⟩) ?_ ?_
 ·rintro i xs σ' H' N kN hi' ⟨⟨v,rfl⟩,s2,g2,ps,rfl,hpl,hnd,hout,hps⟩
  refine o8 (T4 ?_)
  refine⟨by show 0<=d7;omega,fun x hx=>?_⟩
  have s3:=f7 (o:=.lst []) hx
  have nD:D≠x:=u9 g2 hx
  refine⟨s3 _ _ g2,kN _ _ _ ⟨⟨_,rfl⟩,(s2.trans s3).upd hD,b8,ps++[x],by rw[n4];rfl,by rw[c9,hpl];rfl,aP6 hnd fun hm=>?_,fun hm=>?_,fun p hp=>?_⟩⟩
  ·have:=(hps x hm).2
   rw[hx]at this
   cases this
  ·rcases j0.mp hm with hm | hm
   ·exact hout hm
   ·exact nD (a8.mp hm)
  ·rcases j0.mp hp with hp | hp
   ·have hpD:p≠D:=fun z=>hout (by rw[<- z];exact hp)
    exact⟨(hps p hp).1,by rw[o6 hpD];exact s3 _ _ (hps p hp).2⟩
   ·rw[a8.mp hp]
    exact⟨s2.free hx,by rw[o6 (Ne.symm nD)];exact b8⟩
 ·rintro xs σ' H1 ⟨⟨v,rfl⟩,s1,g1,ps,rfl,hpl,hnd,hout,hps⟩
  have N1:NN H1 D ps (nbF (ks.take 0)) n:=⟨g1,hpl,fun i p e=>(hps p (c8 e)).2,hnd,hout⟩
  have hzl:=h3.len
  refine Or.imp (fun h=>⟨_,rfl,wa,_,_,_,rfl,rfl,s1.seqT h1,a1,h⟩) (fun h=>⟨_,rfl,wa,_,_,_,rfl,rfl,s1.seqT h1,a1,h⟩) (be8 (K:=K) (a:=t) (xs:=zs) (h2.same s1) (fun m σ H2=>∃ e2 e3,σ=[some (.ref wa),some (.ref D),e2,e3]/\A5 H H2/\NN H2 D ps (nbF (ks.take m)) n)
   ⟨none,none,rfl,s1,N1⟩ (fun m σ H2 _ ⟨_,_,_,s,_⟩=>h2.same s) ?_ ?_)
  ·rintro m y σ H2 hy ⟨e2,e3,rfl,s2,N2⟩
   obtain⟨pa,k,rfl,hk,hq⟩:=h3.get hy
   obtain⟨i,j,hij,hj,rfl⟩:=hU k (c8 hk)
   refine⟨pa,_,rfl,s2.seqT hq,rfl,_,_,rfl,_,_,rfl,rfl,?_⟩
   obtain⟨p1,e1,g1',m1⟩:=N2.at (show i<n by omega)
   have l1:=aP7 (ks.take m) i
   have l2:=aP7 (ks.take m) j
   have lt:(ks.take m).length<=ks.length:=by rw[y9];omega
   refine⟨_,rfl,_,rfl,D,_,_,_,rfl,rfl,SqL.of N2.lst,A4 m1,.inl ⟨rfl,_,SqL.of g1'⟩,_,rfl,p1,_,_,rfl,rfl,g1',by rw[b6];omega,?_⟩
   have N3:=N2.put e1 (nbF (ks.take m) i++[(j:Int)])
   rw[n4]at N3
   obtain⟨p2,e2',g2',m2⟩:=N3.at hj
   have hne:¬ j=i:=by omega
   rw[if_neg hne]at g2'
   refine⟨_,rfl,_,rfl,D,_,_,_,rfl,rfl,SqL.of N3.lst,A4 m2,.inl ⟨rfl,_,SqL.of g2'⟩,_,rfl,p2,_,_,rfl,rfl,g2',by rw[b6];omega,?_⟩
   have N4:=N3.put e2' (nbF (ks.take m) j++[(i:Int)])
   rw[n4]at N4
   have hT:(fun x=>if x=j then nbF (ks.take m) j++[(i:Int)] else if x=i then nbF (ks.take m) i++[(j:Int)] else nbF (ks.take m) x)=nbF (ks.take (m+1)):=by
    funext x
    rw[bc8 hk x]
    show _=_++((if (i:Int)=(x:Int) then [(j:Int)] else [])++(if (j:Int)=(x:Int) then [(i:Int)] else []))
    by_cases hx:x=j
    ·subst hx
     rw[if_pos rfl,if_neg (by omega),if_pos rfl,K3]
    ·rw[if_neg hx,if_neg (show ¬ (j:Int)=(x:Int) by omega)]
     by_cases hx':x=i
     ·subst hx'
      rw[if_pos rfl,if_pos rfl,y7]
     ·rw[if_neg hx',if_neg (show ¬ (i:Int)=(x:Int) by omega),y7,y7]
   rw[hT]at N4
   exact⟨_,_,rfl,(s2.upd (hps p1 (c8 e1)).1).upd (hps p2 (c8 e2')).1,N4⟩
  ·rintro σ H2 ⟨e2,e3,rfl,s2,N2⟩
   rw[hzl,V1]at N2
   exact⟨_,rfl,q D ps H2 s2 N2⟩
end
end Web
namespace Web
open PySem L2
def nbR (n:Nat)(ks:List (List Int))(x:Nat):List Nat:=(n6 n).filter fun y:Nat=>decide (up [(x:Int),(y:Int)]∈ks)
theorem aQ0:∀ {l m:List Int},l.Pairwise (·<·)->m.Pairwise (·<·)->(∀ x,x∈l↔x∈m)->l=m
 | [],[],_,_,_=>rfl
 | [],b::m,_,_,h=>absurd ((h b).mpr b4) j4
 | a::l,[],_,_,h=>absurd ((h a).mp b4) j4
 | a::l,b::m,h1,h2,h=>by
  rw[G8]at h1 h2
  have hab:a=b:=by
   rcases b7.mp ((h a).mp b4) with e | e
   ·exact e
   ·rcases b7.mp ((h b).mpr b4) with e' | e'
    ·exact e'.symm
    ·have:=h1.1 b e'
     have:=h2.1 a e
     omega
  subst hab
  rw[aQ0 h1.2 h2.2 fun x=>?_]
  constructor
  ·intro hx
   rcases b7.mp ((h x).mp (b9 _ hx)) with e | e
   ·have:=h1.1 x hx;omega
   ·exact e
  ·intro hx
   rcases b7.mp ((h x).mpr (b9 _ hx)) with e | e
   ·have:=h2.1 x hx;omega
   ·exact e
theorem bI7 {a b c d:Int}(h:Tim.F4 [a,b] [c,d]=true):a<c\/a=c/\b<d:=by
 simp only[Tim.F4]at h
 split at h
 ·split at h
  ·cases h
  ·exact .inr ⟨by assumption,of_decide_eq_true h⟩
 ·exact .inl (of_decide_eq_true h)
theorem bw9 (hU:∀ k∈ks,Up n k)(hs:Asc ks)(x:Nat):nbF ks x=(nbR n ks x).map fun y:Nat=>(y:Int):=by
 refine aQ0 ?_ ?_ fun y=>?_
 ·unfold nbF
  rw[ag8]
  constructor
  ·intro k hk
   obtain⟨i,j,hij,hj,rfl⟩:=hU k hk
   show ((if (i:Int)=(x:Int) then [(j:Int)] else [])++(if (j:Int)=(x:Int) then [(i:Int)] else [])).Pairwise (·<·)
   split<;>split
   ·omega
   ·exact Q9 _ _
   ·exact Q9 _ _
   ·exact List.Pairwise.nil
  ·refine hs.imp_of_mem fun {k1 k2} h1 h2 hl u hu v hv=>?_
   obtain⟨i,j,hij,hj,rfl⟩:=hU k1 h1
   obtain⟨i',j',hij',hj',rfl⟩:=hU k2 h2
   have hl:=bI7 hl
   have hu':((i:Int)=x/\u=j)\/((j:Int)=x/\u=i):=by
    rcases j0.mp hu with h | h<;>split at h
    ·exact .inl ⟨by assumption,a8.mp h⟩
    ·cases h
    ·exact .inr ⟨by assumption,a8.mp h⟩
    ·cases h
   have hv':((i':Int)=x/\v=j')\/((j':Int)=x/\v=i'):=by
    rcases j0.mp hv with h | h<;>split at h
    ·exact .inl ⟨by assumption,a8.mp h⟩
    ·cases h
    ·exact .inr ⟨by assumption,a8.mp h⟩
    ·cases h
   omega
 ·rw[A0]
  exact(List.Pairwise.filter _ aX1).imp fun h=>by omega
 ·rw[N0 hU,l6]
  constructor
  ·rintro⟨Y,h1,rfl,h2⟩
   exact⟨Y,j5.mpr ⟨k7.mpr h1,decide_eq_true h2⟩,rfl⟩
  ·rintro⟨Y,h,rfl⟩
   obtain⟨h1,h2⟩:=j5.mp h
   exact⟨Y,k7.mp h1,rfl,of_decide_eq_true h2⟩
def four (a b c d:Nat):List Int:=[(a:Int),(b:Int),(c:Int),(d:Int)]
def bG0 (n:Nat)(ks:List (List Int))(a b c:Nat):List (List Int):=((n6 n).filter fun d:Nat=>decide (Fits n ks a b c d)).map (four a b c)
def bo0 (n:Nat)(ks:List (List Int))(a b:Nat):List (List Int):=if up [(a:Int),(b:Int)]∈ks then (n6 n).flatMap (bG0 n ks a b) else []
def by9 (n:Nat)(ks:List (List Int)):List (List Int):=(n6 n).flatMap fun a=>(n6 n).flatMap (bo0 n ks a)
def aq1 (n:Nat)(ks:List (List Int))(a b c:Nat):List (List Int):=if c≠b/\c∉nbR n ks b then ((nbR n ks c).filter fun d=>decide (d≠a/\d∉nbR n ks a)).map (four a b c) else []
def ay0 (n:Nat)(ks:List (List Int))(a b:Nat):List (List Int):=(n6 n).flatMap (aq1 n ks a b)
def ai0 (n:Nat)(ks:List (List Int)):List (List Int):=(n6 n).flatMap fun a=>(nbR n ks a).flatMap (ay0 n ks a)
theorem af6 {α β:Type}:∀ {l:List α} {f g:α->List β},(∀ x∈l,f x=g x)->l.flatMap f=l.flatMap g
 | [],_,_,_=>rfl
 | x::l,f,g,h=>by rw[E9,E9,h x b4,af6 fun y hy=>h y (b9 _ hy)]
theorem au1 {α β:Type}(p:α->Bool)(f:α->List β):∀ l:List α,(l.filter p).flatMap f=l.flatMap fun x=>if p x=true then f x else []
 | []=>rfl
 | x::l=>by
  rw[ad0,E9,<- au1 p f l]
  split
  ·rw[E9]
  ·rfl
theorem aP9 {x y:Nat}(hy:y<n):y∈nbR n ks x↔up [(x:Int),(y:Int)]∈ks:=by
 unfold nbR
 rw[j5,k7,decide_eq_true_iff]
 exact⟨fun h=>h.2,fun h=>⟨hy,h⟩⟩
theorem aP4 (hU:∀ k∈ks,Up n k)(x:Int):up [x,x]∉ks:=fun h=>by
 obtain⟨i,j,hij,hj,e⟩:=hU _ h
 have:up [x,x]=[x,x]:=by show [(if x<x then x else x),(if x > x then x else x)]=_;simp
 rw[this]at e
 injection e with e1 e2
 injection e2 with e2
 omega
theorem bn9 (hU:∀ k∈ks,Up n k):ai0 n ks=by9 n ks:=by
 unfold ai0 by9
 refine af6 fun a ha=>?_
 have ha:=k7.mp ha
 unfold nbR
 rw[au1]
 refine af6 fun b hb=>?_
 have hb:=k7.mp hb
 unfold bo0
 by_cases hab:up [(a:Int),(b:Int)]∈ks
 ·rw[if_pos (decide_eq_true hab),if_pos hab]
  refine af6 fun c hc=>?_
  have hc:=k7.mp hc
  unfold aq1 bG0
  have key:∀ d,d<n->(Fits n ks a b c d↔(c≠b/\c∉nbR n ks b)/\(up [(c:Int),(d:Int)]∈ks/\(d≠a/\d∉nbR n ks a))):=fun d hd=>by
   rw[aP9 hc,aP9 hd]
   constructor
   ·rintro⟨h1,h2,h3,h4,h5⟩
    have nd:=((M9 n _).mp h1).2
    simp only[j1,b7,j4,or_false,not_or]at nd
    refine⟨⟨fun e=>?_,by rw[O3];exact h5⟩,h3,fun e=>?_,h4⟩
    ·exact nd.2.1.1 (by rw[e])
    ·exact nd.1.2.2 (by rw[e])
   ·rintro⟨⟨h1,h2⟩,h3,h4,h5⟩
    rw[O3]at h2
    have nab:a≠b:=fun e=>aP4 hU (a:Int) (by rw[e]at hab ⊢;exact hab)
    have ncd:c≠d:=fun e=>aP4 hU (c:Int) (by rw[<- e]at h3;exact h3)
    have nac:a≠c:=fun e=>h2 (by rw[<- e];exact hab)
    have nbd:b≠d:=fun e=>h2 (by rw[e];exact h3)
    refine⟨(M9 n _).mpr ⟨fun x hx=>?_,?_⟩,hab,h3,h5,h2⟩
    ·simp only[b7,j4,or_false]at hx
     rcases hx with rfl | rfl | rfl | rfl<;>omega
    ·simp only[j1,b7,j4,or_false,not_or,t5,and_true]
     refine⟨⟨?_,?_,?_⟩,⟨?_,?_⟩,?_,?_⟩<;>first | omega | trivial
  by_cases hcb:c≠b/\c∉nbR n ks b
  ·rw[if_pos hcb]
   unfold nbR
   rw[List.filter_filter]
   congr 1
   refine as5 fun d hd=>?_
   have:=key d (k7.mp hd)
   rw[F6,o7,decide_eq_true_iff,decide_eq_true_iff,decide_eq_true_iff,this]
   constructor
   ·rintro⟨h1,h2⟩;exact⟨hcb,h2,h1⟩
   ·rintro⟨_,h2,h1⟩;exact⟨h1,h2⟩
  ·rw[if_neg hcb]
   have:(n6 n).filter (fun d:Nat=>decide (Fits n ks a b c d))=[]:=by
    rw[ae0]
    intro d hd z
    exact hcb ((key d (k7.mp hd)).mp (of_decide_eq_true z)).1
   rw[this]
   rfl
 ·rw[if_neg (by rw[decide_eq_false hab];decide),if_neg hab]
theorem an3 {β:Type}(f:Nat->List β)(i:Nat):(n6 (i+1)).flatMap f=(n6 i).flatMap f++f i:=by rw[aH6,X3];simp
end Web
namespace L2
open PySem PySem.Spec PyProof.Rows PySem.SeqAt
end L2
namespace Web
open PySem L2
def bE6 (K:W.Frag):R2:=fun x y H Q=>∃ (p:Addr) (ns:List Int) (i:Int),y=.ref p/\x=.int i/\SqL K H p (ns.map V.int)/\Q (.bl (decide (i∉ns))) H
theorem at3 (K:W.Frag)(hK:X.K=K):OpR X (C1 .NotIn) (bE6 K):=by
 subst hK
 intro pins s σ H x y v u Q I rx ry h
 obtain⟨p,ns,i,rfl,rfl,hS,q⟩:=h
 refine ax0 pins s σ H _ _ v u Q I rx ry ⟨p,ns.map V.int,rfl,.inl hS,rfl,au2 ns,?_⟩
 rw[aF0]
 have e:(if true=true then !decide (i∈ns) else decide (i∈ns))=decide (i∉ns):=by simp
 rw[e]
 exact q
theorem nev (a b:Nat):(!decide (V.int (a:Int)=V.int (b:Int)))=decide (a≠b):=by
 by_cases h:a=b
 ·subst h;simp
 ·rw[decide_eq_true h,decide_eq_false (fun z=>h (by injection z with z;omega))];rfl
theorem mem_cast (c:Nat)(l:List Nat):((c:Int)∈l.map fun y:Nat=>(y:Int))↔c∈l:=by
 rw[l6]
 constructor
 ·rintro⟨y,hy,e⟩
  have:y=c:=by omega
  exact this ▸ hy
 ·intro h
  exact⟨c,h,rfl⟩
def nbT (n:Nat)(ks:List (List Int)):Nat->List Int:=fun x=>(nbR n ks x).map fun y:Nat=>(y:Int)
theorem af2 (n:Nat)(ks:List (List Int))(x:Nat):(nbR n ks x).length<=n:=by
 have:=G9 (fun y:Nat=>decide (up [(x:Int),(y:Int)]∈ks)) (n6 n)
 rw[E8]at this
 exact this
theorem bw8 {x y:Nat}(h:y∈nbR n ks x):y<n:=k7.mp (j5.mp h).1
theorem aq2 {α β:Type}{f:α->List β}{m:Nat}(h:∀ x,(f x).length<=m):∀ l:List α,(l.flatMap f).length<=l.length*m
 | []=>by simp
 | x::l=>by
  rw[E9,c9,j7,bh6]
  have:=h x
  have:=aq2 h l
  omega
theorem aF4 (n:Nat)(ks:List (List Int))(a b c:Nat):(aq1 n ks a b c).length<=n:=by
 unfold aq1
 split
 ·rw[b6]
  exact o5 (G9 _ _) (af2 n ks c)
 ·exact k9 _
theorem aF3 (n:Nat)(ks:List (List Int))(a b:Nat):(ay0 n ks a b).length<=n*n:=by
 have:=aq2 (aF4 n ks a b) (n6 n)
 rw[E8]at this
 exact this
theorem aR0 {l:List Nat}{x:V}(h:((l.map fun y:Nat=>(y:Int)).map V.int)[i]?=some x):∃ d:Nat,l[i]?=some d/\x=.int (d:Int):=by
 rw[j3,j3]at h
 cases e:l[i]? with
 | none=>rw[e]at h;cases h
 | some d=>rw[e]at h;cases h;exact⟨d,rfl,rfl⟩
section
variable {K:W.Frag} {mg:Str->Option Value} {base:Heap}
def bq0 (K:W.Frag):Sp:=fun vs H Q _=>∃ (na:Addr) (ps:List Addr) (n a b:Nat) (ks:List (List Int)),vs=[.ref na,.int a,.int b]/\NN H na ps (nbT n ks) n/\n<=9/\a<n/\b<n/\∀ (l:Addr) (ys:List V) (H':Hp),A5 H H'->H l=none->H' l=some (.lst ys)->v7 K H' ys (ay0 n ks a b)->Q (.ref l) H'
theorem aN9:A7 ["near","a","b","found","c"] ["near","a","b"] (p5 ba2):=.mk'
set_option maxHeartbeats 2000000 in
theorem bw4 (F:Fun K "exchanges_from" "exchanges_from" ba2 f fd) (B:Bn mg):B6 P w K mg base CX0 1 f fd ["near","a","b"] (bq0 K):=by
  refine F.ok aN9 (fun cdv A outer s H vs Q E hr h=>?_)
  obtain⟨na,ps,n,a,b,ks,rfl,hN,hn,ha,hb,q⟩:=h
  have hsl:=T5
  have nd5:(["d","a","b","c","near"]:List Str).Nodup:=by decide +kernel
  refine⟨_,j9 (D5 (i:=3) aN9.nd rfl (Or.inl rfl) (P8 g7))
    (j9 (T7 PassesOwn.never rfl (N8 rfl B.range (a7 (A9 M4 (by rfl) B.len PySem.boot_len (a7 (pv 0) g7)) g7)) (A6 (i:=4) aN9.nd rfl (Or.inr rfl))
      (o3 (P2 (PW.pt (aJ7 (F2 bq6 (pv 4) (pv 2) (J5 _)) (aw2 (F2 (at3 K rfl) (pv 4) (v8 M0 (pv 0) (pv 2) (fun _ _=>rfl)) (by rfl)))))
        (o3 (bb3 (i:=3) aN9.nd rfl (Or.inl rfl) (ab5 (N':=["d","a","b","c","near"]) (lk:=[none,some 1,some 2,some 4,some 0]) rfl (S1 (v8 M0 (pv 0) (pv 4) (fun _ _=>rfl))) (by rfl) rfl (by decide +kernel) (by exact⟨rfl,rfl,rfl,rfl,trivial⟩) (by rfl) (by exact LkL.ok ⟨⟨rfl,Or.inl rfl,rfl,Or.inl rfl⟩,⟨rfl,Or.inl rfl,rfl,Or.inl rfl⟩,⟨rfl,Or.inl rfl,rfl,Or.inl rfl⟩,⟨rfl,Or.inl rfl,rfl,Or.inl rfl⟩,trivial⟩)
            (fun _ _ _=>A6 (i:=0) nd5 rfl (Or.inl rfl)) (fun _ _ _=>aw3 (PW.pt (aJ7 (F2 bq6 (pv 0) (pv 1) (J5 _)) (aw2 (F2 (at3 K rfl) (pv 0) (bl4 K rfl (pv 4) (pv 1) (fun _ _=>rfl)) (by rfl)))))) (fun _ _ _=>K8 (a7 (pv 1) (a7 (pv 2) (a7 (pv 3) (a7 (pv 0) g7)))))) aQ9)) E4)))
    (o3 (D6 (pv 3)))),?_⟩
  refine⟨by show 0<=d7;omega,fun l hl=>?_⟩
  have s0:=f7 (o:=.lst []) hl
  refine⟨_,rfl,na,_,rfl,.inl (SqL.of (s0 _ _ hN.lst)),(n:Int),by rw[b6,hN.len],by omega,by omega,?_⟩
  rw[n8]
  refine W9 (lo:=0) (n:=n) (fun i σ H1=>∃ ys e4,σ=[some (.ref na),some (.int a),some (.int b),some (.ref l),e4]/\A5 H H1/\H1 l=some (.lst ys)/\v7 K H1 ys ((n6 i).flatMap (aq1 n ks a b)))
    ⟨[],none,rfl,s0,b8,.nil⟩ ?_ ?_
  · rintro c σ H1 hc ⟨ys,e4,rfl,s1,g1,t1⟩
    rw[show ((0:Int)+(c:Int))=(c:Int) by omega]
    have hN1:=hN.same s1
    obtain⟨pb,_,gb,mb⟩:=hN1.at hb
    obtain⟨pc,_,gc,mc⟩:=hN1.at hc
    have hyl:=t1.len
    have hfl:=aq2 (aF4 n ks a b) (n6 c)
    rw[E8]at hfl
    have hcn:c*n<=9*9:=al9 (by omega) hn
    refine o8 ?_
    refine⟨_,rfl,_,rfl,rfl,_,rfl,?_⟩
    rw[nev]
    by_cases hcb:c=b
    · rw[decide_eq_false (fun z=>z hcb)]
      refine P9 (P9 ⟨ys,_,rfl,s1,g1,?_⟩)
      rw[an3,show aq1 n ks a b c=[] by unfold aq1;rw[if_neg fun z=>z.1 hcb],y7]
      exact t1
    · rw[decide_eq_true hcb]
      refine W8 ⟨_,rfl,_,rfl,_,rfl,na,_,_,_,rfl,rfl,SqL.of hN1.lst,A4 mb,pb,nbT n ks b,_,rfl,rfl,SqL.of gb,_,rfl,?_⟩
      have hmem:((c:Int)∉nbT n ks b)↔c∉nbR n ks b:=not_congr (mem_cast c _)
      by_cases hin:c∈nbR n ks b
      · rw[decide_eq_false (fun z=>hmem.mp z hin)]
        refine P9 ⟨ys,_,rfl,s1,g1,?_⟩
        rw[an3,show aq1 n ks a b c=[] by unfold aq1;rw[if_neg fun z=>z.2 hin],y7]
        exact t1
      · rw[decide_eq_true (hmem.mpr hin)]
        refine W8 ⟨_,rfl,_,rfl,_,rfl,na,_,_,_,rfl,rfl,SqL.of hN1.lst,A4 mc,pc,rfl,⟨_,SqL.of gc⟩,fun D hD=>ai4 (K:=K) (a:=pc) (D:=D) (ys:=(nbT n ks c).map V.int) (fun i xs σ' H'=>(∃ v,σ'=[v,some (.int a),some (.int b),some (.int c),some (.ref na)])/\A5 H1 H'/\H' D=some (.lst xs)/\v7 K H' xs ((((nbR n ks c).take i).filter fun d=>decide (d≠a/\d∉nbR n ks a)).map (four a b c)))
          ⟨⟨none, rfl⟩, f7 hD, b8, by rw [S8]; exact .nil⟩ (by unfold nbT; rw [b6, b6]; have := af2 n ks c; omega) (fun i xs σ' H' hi ⟨_, s2, g2, t2⟩ => ⟨SqL.of (s2 _ _ gc), g2, by
            rw[t2.len,b6]
            refine o5 (G9 _ _) ?_
            rw[y9];omega⟩) ?_ ?_⟩
        · rintro i xs x σ' H' N kN hx ⟨⟨v,rfl⟩,s2,g2,t2⟩
          obtain⟨d,hd,rfl⟩:=aR0 hx
          obtain⟨pa,_,ga,ma⟩:=(hN1.same s2).at ha
          have et:(((nbR n ks c).take (i+1)).filter fun d=>decide (d≠a/\d∉nbR n ks a))=(((nbR n ks c).take i).filter fun d=>decide (d≠a/\d∉nbR n ks a))++(if d≠a/\d∉nbR n ks a then [d] else []):=by
            rw[u6,hd,Q6]
            congr 1
            by_cases h:d≠a/\d∉nbR n ks a
            · rw[if_pos h];simp[h]
            · rw[if_neg h]
              show ([d].filter _)=[]
              rw[ad0,if_neg (by rw[decide_eq_false h];decide)]
              rfl
          refine o8 ?_
          refine⟨_,rfl,_,rfl,rfl,_,rfl,?_⟩
          rw[nev]
          by_cases hda:d=a
          · rw[decide_eq_false (fun z=>z hda)]
            refine P9 (P9 (kN _ _ _ ⟨⟨_,rfl⟩,s2,g2,?_⟩))
            rw[et,if_neg fun z=>z.1 hda,y7]
            exact t2
          · rw[decide_eq_true hda]
            refine W8 ⟨_,rfl,_,rfl,_,rfl,.inl ⟨na,_,_,_,rfl,rfl,SqL.of (s2 _ _ hN1.lst),A4 ma,pa,nbT n ks a,_,rfl,rfl,SqL.of ga,_,rfl,?_⟩⟩
            have hmem2:((d:Int)∉nbT n ks a)↔d∉nbR n ks a:=not_congr (mem_cast d _)
            by_cases hin2:d∈nbR n ks a
            · rw[decide_eq_false (fun z=>hmem2.mp z hin2)]
              refine P9 (kN _ _ _ ⟨⟨_,rfl⟩,s2,g2,?_⟩)
              rw[et,if_neg fun z=>z.2 hin2,y7]
              exact t2
            · rw[decide_eq_true (hmem2.mpr hin2)]
              refine W8 ⟨_,rfl,_,rfl,_,rfl,_,rfl,(by show 4<=d7;decide),fun p hp=>?_⟩
              have s3:=f7 (o:=.tup [.int a,.int b,.int c,.int d]) hp
              refine⟨s3 _ _ g2,kN _ _ _ ⟨⟨_,rfl⟩,(s2.trans s3).upd hD,b8,?_⟩⟩
              rw[et,if_pos ⟨hda,hin2⟩,n4]
              exact v7.updL (s3 _ _ g2) (v7.append (s3.tups t2) (v7.one (SqT.of b8)))
        · rintro xs σ' H2 ⟨⟨v,rfl⟩,s2,g2,t2⟩
          have htl:(nbR n ks c).take ((nbT n ks c).map V.int).length=nbR n ks c:=by unfold nbT;rw[b6,b6,V1]
          rw[htl]at t2
          have hx:=t2.len
          rw[b6]at hx
          have hx2:=o5 (G9 (fun d=>decide (d≠a/\d∉nbR n ks a)) (nbR n ks c)) (af2 n ks c)
          have g12:=s2 _ _ g1
          refine⟨l,D,ys,xs,rfl,rfl,g12,g2,by omega,?_⟩
          refine⟨ys++xs,_,rfl,(s1.trans s2).upd hl,b8,?_⟩
          rw[an3,show aq1 n ks a b c=((nbR n ks c).filter fun d=>decide (d≠a/\d∉nbR n ks a)).map (four a b c) by unfold aq1;rw[if_pos ⟨hcb,hin⟩]]
          exact v7.updL g12 (v7.append (s2.tups t1) t2)
  · rintro σ H1 ⟨ys,e4,rfl,s1,g1,t1⟩
    exact⟨_,rfl,q l ys H1 s1 hl g1 t1⟩
def bp9 (K:W.Frag):Sp:=fun vs H Q _=>∃ (wa:Addr) (n:Nat) (ks:List (List Int)),vs=[.ref wa]/\M7 K H wa n ks/\n<=9/\ks.length<=600/\(∀ k∈ks,Up n k)/\Asc ks/\∀ (l:Addr) (ys:List V) (H':Hp),A5 H H'->H l=none->H' l=some (.lst ys)->v7 K H' ys (ai0 n ks)->ys.length<=6561->Q (.ref l) H'
theorem as9:A7 ["web","near","found","a","b"] ["web"] (p5 ba0):=.mk'
set_option maxHeartbeats 2000000 in
theorem bw2 {fB fF:Addr} {fdB fdF:FuncData} (F:Fun K "exchanges_of" "exchanges_of" ba0 f fd) (B:Bn mg) (FB:Fq K mg "beside" ba4 fB fdB ["web"]) (FF:Fq K mg "exchanges_from" ba2 fF fdF ["near","a","b"]):B6 P w K mg base CX0 2 f fd ["web"] (bp9 K):=by
 have GB:B6 P w K mg base CX0 1 fB fdB ["web"] (bq2 K):=bw7 FB.F B
 have GF:B6 P w K mg base CX0 1 fF fdF ["near","a","b"] (bq0 K):=bw4 FF.F B
 refine F.ok as9 (fun cdv A outer s H vs Q E hr h=>?_)
 obtain⟨wa,n,ks,rfl,hW,hn,hkl,hU,hA,q⟩:=h
 refine⟨_,j9 (D5 (i:=1) as9.nd rfl (Or.inl rfl) (E6 GB hr (by rfl) FB E1 (a7 (pv 0) g7)))
  (j9 (D5 (i:=2) as9.nd rfl (Or.inl rfl) (P8 g7))
  (j9 (T7 PassesOwn.never rfl (N8 rfl B.range (a7 (v8 v5 (pv 0) k8 (fun _ _ => rfl)) g7)) (A6 (i := 3) as9.nd rfl (Or.inl rfl))
   (o3 (T7 PassesOwn.never rfl (S1 (v8 M0 (pv 1) (pv 3) (fun _ _ => rfl))) (A6 (i := 4) as9.nd rfl (Or.inl rfl))
    (o3 (bb3 (i:=2) as9.nd rfl (Or.inl rfl) (E6 GF hr (by rfl) FF E1 (a7 (pv 1) (a7 (pv 3) (a7 (pv 4) g7)))) aQ9)))))
  (o3 (D6 (pv 2))))),?_⟩
 have hsl:=T5
 refine⟨_,rfl,wa,n,ks,rfl,hW.toS,by omega,hkl,hU,fun na ps H1 s1 hN=>?_⟩
 have hT:nbF ks=nbT n ks:=funext fun x=>bw9 hU hA x
 rw[hT]at hN
 refine⟨by show 0<=d7;omega,fun l hl=>?_⟩
 have s2:=f7 (o:=.lst []) hl
 obtain⟨t,zs,h1,h2,h3⟩:=hW.same (s1.trans s2)
 have a0:atI ([.int n,.ref t]:List V) 0=some (.int n):=A4 (j:=0) rfl
 refine⟨_,rfl,wa,_,_,_,rfl,rfl,h1,a0,(n:Int),rfl,by omega,by omega,?_⟩
 rw[n8]
 have fr1:∀ (x:Nat) (m:List Nat),m.length<=n->((m.flatMap (ay0 n ks x)).length<=729):=fun x m hm=>by
  have h1:=aq2 (aF3 n ks x) m
  have h2:n*n<=9*9:=al9 hn hn
  have h3:m.length*(n*n)<=9*81:=al9 (by omega) h2
  omega
 have fr2:∀ i:Nat,i<=n->(((n6 i).flatMap fun a=>(nbR n ks a).flatMap (ay0 n ks a)).length<=i*729):=fun i hi=>by
  have:=aq2 (f:=fun a=>(nbR n ks a).flatMap (ay0 n ks a)) (m:=729) (fun x=>fr1 x _ (af2 n ks x)) (n6 i)
  rw[E8]at this
  exact this
 refine W9 (lo:=0) (n:=n) (fun i σ H2=>∃ ys e3 e4,σ=[some (.ref wa),some (.ref na),some (.ref l),e3,e4]/\A5 H1 H2/\H2 l=some (.lst ys)/\v7 K H2 ys ((n6 i).flatMap fun a=>(nbR n ks a).flatMap (ay0 n ks a)))
  ⟨[],none,none,rfl,s2,b8,.nil⟩ ?_ ?_
 ·rintro a σ H2 ha ⟨ys,e3,e4,rfl,sa,ga,ta⟩
  rw[show ((0:Int)+(a:Int))=(a:Int) by omega]
  refine o8 ?_
  have hNa:=hN.same sa
  obtain⟨pa,_,gpa,mpa⟩:=hNa.at ha
  have hra:=fr2 a (by omega)
  have hra2:a*729<=8*729:=K5 _ (by omega)
  refine⟨_,rfl,_,rfl,na,_,_,_,rfl,rfl,SqL.of hNa.lst,A4 mpa,pa,rfl,⟨_,SqL.of gpa⟩,X0 (K:=K) (a:=pa) (xs:=(nbT n ks a).map V.int) (fun j σ H3=>∃ ys e4,σ=[some (.ref wa),some (.ref na),some (.ref l),some (.int a),e4]/\A5 H1 H3/\NN H3 na ps (nbT n ks) n/\H3 l=some (.lst ys)/\v7 K H3 ys (((n6 a).flatMap fun a=>(nbR n ks a).flatMap (ay0 n ks a))++((nbR n ks a).take j).flatMap (ay0 n ks a)))
   ⟨ys, e4, rfl, sa, hNa, ga, by rw [S8]; simpa using ta⟩ (fun j σ H3 _ ⟨_, _, _, s, N, _⟩ => by
    obtain⟨pa',e',g',m'⟩:=N.at ha
    have:pa'=pa:=by
     have h1:=mpa.symm.trans m'
     injection h1 with h1
     injection h1 with h1
     exact h1.symm
    rw[<- this]
    exact SqL.of g') ?_ ?_⟩
  ·rintro j y σ H3 hy ⟨ys,e4,rfl,sb,N3,gb,tb⟩
   obtain⟨b,hb,rfl⟩:=aR0 hy
   have hbn:b<n:=bw8 (c8 hb)
   refine o8 ?_
   refine⟨_,rfl,_,rfl,_,rfl,_,rfl,na,ps,n,a,b,ks,rfl,N3,hn,ha,hbn,fun l2 y2 H4 s4 f4 g4 t4=>?_⟩
   have hy1:=tb.len
   have hy2:=t4.len
   rw[c9]at hy1
   have hf1:=fr1 a ((nbR n ks a).take j) (by rw[y9];have:=af2 n ks a;omega)
   have hf2:=aF3 n ks a b
   have hnn:n*n<=9*9:=al9 hn hn
   refine⟨l,l2,ys,y2,rfl,rfl,s4 _ _ gb,g4,by omega,?_⟩
   have hn4:=N3.same s4
   have hlna:na≠l:=fun z=>by
    have h1:=N3.lst
    have h0:H1 na=some (.lst (ps.map V.ref)):=hN.lst
    rw[z,hl]at h0
    cases h0
   have hlps:∀ p∈ps,p≠l:=fun p hp z=>by
    obtain⟨i,hi⟩:=i8.mp hp
    have h0:=hN.row i p hi
    rw[z,hl]at h0
    cases h0
   refine⟨ys++y2,_,rfl,(sb.trans s4).upd hl,⟨by rw[o6 hlna];exact hn4.lst,hn4.len,fun i p e=>by rw[o6 (hlps p (c8 e))];exact hn4.row i p e,hn4.nd,hn4.out⟩,b8,?_⟩
   rw[u6,hb,X3,<- p7]
   refine v7.updL (s4 _ _ gb) (v7.append (s4.tups tb) ?_)
   simpa using t4
  ·rintro σ H3 ⟨ys,e4,rfl,sb,N3,gb,tb⟩
   have htl:(nbR n ks a).take ((nbT n ks a).map V.int).length=nbR n ks a:=by unfold nbT;rw[b6,b6,V1]
   rw[htl]at tb
   refine⟨ys,_,_,rfl,sb,gb,?_⟩
   rw[an3]
   exact tb
 ·rintro σ H2 ⟨ys,e3,e4,rfl,sa,ga,ta⟩
  have hra:=fr2 n (c6 _)
  have hra2:n*729<=9*729:=K5 _ hn
  have:=ta.len
  exact⟨_,rfl,q l ys H2 (s1.trans sa) (s1.free hl) ga ta (by omega)⟩
end
theorem bn1 {a b:List Int}(ha:Up n a)(hb:Up n b)(hne:a≠b)(h:Tim.F4 b a=false):Tim.F4 a b=true:=by
 obtain⟨i,j,_,_,rfl⟩:=ha
 obtain⟨u,v,_,_,rfl⟩:=hb
 unfold Tim.F4 Tim.F4 at h ⊢
 by_cases e1:(u:Int)=i
 ·rw[if_pos e1]at h
  rw[if_pos e1.symm]
  by_cases e2:(v:Int)=j
  ·exact absurd (by rw[e1,e2]) hne
  ·rw[if_neg e2]at h
   rw[if_neg (Ne.symm e2)]
   have:=of_decide_eq_false h
   exact decide_eq_true (by omega)
 ·rw[if_neg e1]at h
  rw[if_neg (Ne.symm e1)]
  have:=of_decide_eq_false h
  exact decide_eq_true (by omega)
theorem az0 (ups:∀ k∈ks,Up n k)(nd:ks.Nodup)(so:ks.Pairwise (fun a b=>Tim.F4 b a=false)):Asc ks:=by
 have h2:=List.nodup_iff_pairwise_ne.mp nd
 have h3:=so.and h2
 exact List.Pairwise.imp_of_mem (fun {a b} ha hb h=>bn1 (ups a ha) (ups b hb) h.2 h.1) h3
structure Wbs (n:Nat) (ks:List (List Int)):Prop where
 up:∀ k∈ks,Up n k
 nd:ks.Nodup
 so:ks.Pairwise (fun a b=>Tim.F4 b a=false)
theorem Wbs.eq (h:Wbs n ks)(g:Wbs n ls)(e:∀ k,k∈ks↔k∈ls):ks=ls:=
 aG9 (az0 g.up g.nd g.so) ((C6 h.nd g.nd).mpr e) h.so
def lck (ks ls:List (List Int)):List (List Int):=ks.filter fun k=>!decide (k∈ls)
theorem E5:k∈lck ks ls↔k∈ks/\k∉ls:=by
 unfold lck
 rw[j5]
 simp
theorem Wbs.lck (h:Wbs n ks):Wbs n (lck ks ls):=⟨fun k hk=>h.up k (E5.mp hk).1,h.nd.filter _,h.so.filter _⟩
theorem bm5 {x:Nat}{y:Int}(hk:Up n k)(h:y∈nb1 x k):up [(x:Int),y]=k:=by
 obtain⟨i,j,h1,h2,rfl⟩:=hk
 rcases j0.mp h with h | h
 ·by_cases e:(i:Int)=(x:Int)
  ·rw[if_pos e]at h
   rw[a8.mp h,<- e,aj2 (by omega)]
  ·rw[if_neg e]at h;cases h
 ·by_cases e:(j:Int)=(x:Int)
  ·rw[if_pos e]at h
   rw[a8.mp h,<- e,O3,aj2 (by omega)]
  ·rw[if_neg e]at h;cases h
theorem aP8 {x:Nat}(hk:Up n k):(nb1 x k).length=if decide ((x:Int)∈k)=true then 1 else 0:=by
 obtain⟨i,j,h1,h2,rfl⟩:=hk
 show (((if (i:Int)=(x:Int) then [(j:Int)] else [])++(if (j:Int)=(x:Int) then [(i:Int)] else []):List Int)).length=_
 rw[c9]
 by_cases e:(i:Int)=(x:Int)
 ·rw[if_pos e,if_neg (by omega),if_pos (by rw[decide_eq_true_eq,<- e];exact b4)]
  rfl
 ·by_cases e':(j:Int)=(x:Int)
  ·rw[if_neg e,if_pos e',if_pos (by rw[decide_eq_true_eq,<- e'];simp)]
   rfl
  ·rw[if_neg e,if_neg e',if_neg (by
    rw[decide_eq_true_eq,b7,a8]
    omega)]
   rfl
theorem ax2 (x:Nat):∀ {ks:List (List Int)},(∀ k∈ks,Up n k)->(nbF ks x).length=x8 ks x
 | [],_=>rfl
 | k::ks,h=>by
  have ih:=ax2 x fun k hk=>h k (b9 _ hk)
  unfold nbF x8 at *
  rw[E9,c9,ih,aP8 (h k b4),bB5]
  omega
theorem bq7 (x:Nat):∀ {ks:List (List Int)},(∀ k∈ks,Up n k)->ks.Nodup->(nbF ks x).Nodup
 | [],_,_=>t5
 | k::ks,h,nd=>by
  have ih:=bq7 x (fun k hk=>h k (b9 _ hk)) (j1.mp nd).2
  show (nb1 x k++nbF ks x).Nodup
  have hk:=h k b4
  refine N7.mpr ⟨?_,ih,fun y hy z hz e=>?_⟩
  ·have:=aP8 (x:=x) hk
   match e:nb1 x k,this with
   | [],_=>exact t5
   | [y],_=>simp
   | _::_::_,this =>
    rw[j7,j7]at this
    split at this<;>omega
  ·subst e
   have e1:=bm5 hk hy
   obtain⟨Y,_,eY,hm⟩:=(N0 (fun k hk=>h k (b9 _ hk)) x y).mp hz
   rw[<- eY,e1]at hm
   exact(j1.mp nd).1 hm
theorem bo2 {p:Nat}(hk:ks.Nodup)(hl:ls.Nodup)(h:x8 ks p=x8 ls p):x8 (lck ks ls) p=x8 (lck ls ks) p:=by
 have h1:x8 ks p=x8 (ks.filter fun k=>decide (k∈ls)) p+x8 (lck ks ls) p:=ar5 _ _ _
 have h2:x8 ls p=x8 (ls.filter fun k=>decide (k∈ks)) p+x8 (lck ls ks) p:=ar5 _ _ _
 have pm:(ks.filter fun k=>decide (k∈ls)).Perm (ls.filter fun k=>decide (k∈ks)):=(C6 (hk.filter _) (hl.filter _)).mpr fun k=>by
  rw[j5,j5,decide_eq_true_eq,decide_eq_true_eq]
  exact and_comm
 have h3:x8 (ks.filter fun k=>decide (k∈ls)) p=x8 (ls.filter fun k=>decide (k∈ks)) p:=pm.countP_eq _
 omega
theorem bk1 {p:Nat}(h:tal n ks=tal n ls)(hp:p<n):x8 ks p=x8 ls p:=by
 have h1:=S9 (ks:=ks) hp
 have h2:=S9 (ks:=ls) hp
 rw[h]at h1
 omega
theorem aL7 {n p q:Nat}(h:up [(p:Int),(q:Int)]∈ks):1<=x8 ks p:=by
 unfold x8
 refine List.one_le_countP_iff.mpr ⟨_,h,?_⟩
 rw[decide_eq_true_eq]
 show (p:Int)∈[(if (q:Int)<(p:Int) then (q:Int) else (p:Int)),(if (q:Int) > (p:Int) then (q:Int) else (p:Int))]
 by_cases e:(q:Int)<(p:Int)
 ·rw[if_pos e,if_neg (by omega)];simp
 ·rw[if_neg e];exact b4
noncomputable def nrB (n:Nat)(ks ls:List (List Int)):Nat:=((aJ9 (tal n (lck ks ls))).headD 0).toNat
noncomputable def nrC (n:Nat)(ks ls:List (List Int)):Nat:=((nbF (lck ls ks) (nrB n ks ls)).headD 0).toNat
noncomputable def nrD (n:Nat)(ks ls:List (List Int)):Nat:=((nbF (lck ks ls) (nrC n ks ls)).headD 0).toNat
noncomputable def aR5 (n:Nat)(ks ls:List (List Int)):List Int:=(nbF (lck ks ls) (nrB n ks ls)).filter fun e=>!decide (e=(nrD n ks ls:Int)) && !decide (e∈nbF (lck ks ls) (nrD n ks ls))
noncomputable def nrA (n:Nat)(ks ls:List (List Int)):Nat:=((aR5 n ks ls).headD 0).toNat
structure Nr (n:Nat) (ks ls:List (List Int)) (a b c d:Nat):Prop where
 hb:∃ r,aJ9 (tal n (lck ks ls))=(b:Int)::r
 hc:∃ r,nbF (lck ls ks) b=(c:Int)::r
 hd:∃ r,nbF (lck ks ls) c=(d:Int)::r
 ha:∃ r,(nbF (lck ks ls) b).filter (fun e=>!decide (e=(d:Int)) && !decide (e∈nbF (lck ks ls) d))=(a:Int)::r
 lt:a<n/\b<n/\c<n/\d<n
 ab:up [(a:Int),(b:Int)]∈lck ks ls
 cd:up [(c:Int),(d:Int)]∈lck ks ls
 cb:up [(c:Int),(b:Int)]∈lck ls ks
 go:Fits n ks a b c d\/(up [(a:Int),(d:Int)]∈ks/\Fits n ls a d c b)
theorem aR1 {l:List Int}(h:l≠[])(hp:∀ x∈l,0<=x):∃ r,l=((l.headD 0).toNat:Int)::r:=by
 cases l with
 | nil=>exact absurd rfl h
 | cons x r=>exact⟨r,by have:=hp x b4;show x::r=((x.toNat:Nat):Int)::r;rw[Int.toNat_of_nonneg this]⟩
theorem aP5 (W1:Wbs n ks)(W2:Wbs n ls)(ht:tal n ks=tal n ls)(hne:ks≠ls):Nr n ks ls (nrA n ks ls) (nrB n ks ls) (nrC n ks ls) (nrD n ks ls):=by
 have hc:∀ p,p<n->x8 (lck ks ls) p=x8 (lck ls ks) p:=fun p hp=>bo2 W1.nd W2.nd (bk1 ht hp)
 have U1:=(W1.lck (ls:=ls)).up
 have U2:=(W2.lck (ls:=ks)).up
 have N1:=(W1.lck (ls:=ls)).nd
 have N2:=(W2.lck (ls:=ks)).nd
 have some1:∃ p,p<n/\1<=x8 (lck ks ls) p:=by
  apply Classical.byContradiction
  intro hno
  apply hne
  refine W1.eq W2 fun k=>⟨fun hk=>?_,fun hk=>?_⟩
  ·apply Classical.byContradiction
   intro z
   have hm:=E5.mpr ⟨hk,z⟩
   obtain⟨i,j,h1,h2,rfl⟩:=U1 k hm
   rw[<- aj2 (show (i:Int)<(j:Int) by omega)]at hm
   exact hno ⟨i,by omega,aL7 (n:=n) hm⟩
  ·apply Classical.byContradiction
   intro z
   have hm:=E5.mpr ⟨hk,z⟩
   obtain⟨i,j,h1,h2,rfl⟩:=U2 k hm
   rw[<- aj2 (show (i:Int)<(j:Int) by omega)]at hm
   refine hno ⟨i,by omega,?_⟩
   rw[hc i (by omega)]
   exact aL7 (n:=n) hm
 obtain⟨p0,hp0,hp1⟩:=some1
 have hlen:(tal n (lck ks ls)).length=n:=O4 _ _
 have op:=aU4 (tal n (lck ks ls))
 rw[hlen]at op
 have onn:aJ9 (tal n (lck ks ls))≠[]:=fun z=>by
  rw[z]at op
  have:=op.length_eq
  unfold rng at this
  simp at this
  omega
 have hin:∀ x,x∈aJ9 (tal n (lck ks ls))↔∃ i:Nat,i<n/\x=(i:Int):=fun x=>by
  rw[op.mem_iff]
  unfold rng
  rw[l6]
  constructor
  ·rintro⟨i,hi,rfl⟩
   exact⟨i,by have:=bA4.mp hi;omega,rfl⟩
  ·rintro⟨i,hi,rfl⟩
   exact⟨i,bA4.mpr ⟨k9 _,by omega⟩,rfl⟩
 obtain⟨r1,e1⟩:=aR1 onn fun x hx=>by obtain⟨i,_,rfl⟩:=(hin x).mp hx;omega
 have eb:(((aJ9 (tal n (lck ks ls))).headD 0).toNat)=nrB n ks ls:=rfl
 rw[eb]at e1
 have hbn:nrB n ks ls<n:=by
  obtain⟨i,hi,e⟩:=(hin (nrB n ks ls:Int)).mp (by rw[e1];exact b4)
  omega
 have hmax:∀ p,p<n->x8 (lck ks ls) p<=x8 (lck ks ls) (nrB n ks ls):=fun p hp=>by
  have hs:=aU3 (tal n (lck ks ls))
  have hm:=(hin (p:Int)).mpr ⟨p,hp,rfl⟩
  rw[e1]at hs hm
  rcases b7.mp hm with e | hm
  ·rw[show p=nrB n ks ls by omega]
   exact c6 _
  ·have:=aP2.mp ((G8.mp hs).1 _ hm)
   rw[n8,n8,S9 hp,S9 hbn]at this
   omega
 have hB1:1<=x8 (lck ks ls) (nrB n ks ls):=o5 hp1 (hmax p0 hp0)
 have nat_of:∀ {qs:List (List Int)} {x:Nat},(∀ k∈qs,Up n k)->∀ y∈nbF qs x,0<=y:=fun hU y hy=>by
  obtain⟨Y,_,rfl,_⟩:=(N0 hU _ y).mp hy
  omega
 have ap2:∀ {qs:List (List Int)} {x:Nat},(∀ k∈qs,Up n k)->1<=x8 qs x->nbF qs x≠[]:=fun hU h z=>by
  have:=ax2 _ hU ▸ h
  rw[z]at this
  exact absurd this (by decide)
 have up_ne:∀ {x y:Nat},Up n (up [(x:Int),(y:Int)])->x≠y:=fun {x y} ⟨i,j,h1,_,e⟩ z=>by
  subst z
  have e':[(if (x:Int)<(x:Int) then (x:Int) else (x:Int)),(if (x:Int) > (x:Int) then (x:Int) else (x:Int))]=[(i:Int),(j:Int)]:=e
  rw[if_neg (by omega)]at e'
  injection e' with e1 e2
  injection e2 with e2 _
  omega
 obtain⟨r2,e2⟩:=aR1 (ap2 U2 (by rw[<- hc _ hbn];exact hB1)) (nat_of U2)
 rw[show ((nbF (lck ls ks) (nrB n ks ls)).headD 0).toNat=nrC n ks ls from rfl]at e2
 obtain⟨Y,hcn,eY,hbc⟩:=(N0 U2 (nrB n ks ls) (nrC n ks ls:Int)).mp (by rw[e2];exact b4)
 have eY:Y=nrC n ks ls:=by omega
 subst eY
 have hcb:up [(nrC n ks ls:Int),(nrB n ks ls:Int)]∈lck ls ks:=by rw[O3];exact hbc
 have hC1:1<=x8 (lck ks ls) (nrC n ks ls):=by rw[hc _ hcn];exact aL7 (n:=n) hcb
 obtain⟨r3,e3⟩:=aR1 (ap2 U1 hC1) (nat_of U1)
 rw[show ((nbF (lck ks ls) (nrC n ks ls)).headD 0).toNat=nrD n ks ls from rfl]at e3
 obtain⟨Y,hdn,eY,hcd⟩:=(N0 U1 (nrC n ks ls) (nrD n ks ls:Int)).mp (by rw[e3];exact b4)
 have eY:Y=nrD n ks ls:=by omega
 subst eY
 have apart:∀ {k:List Int},k∈lck ks ls->k∈lck ls ks->False:=fun h1 h2=>(E5.mp h2).2 (E5.mp h1).1
 have hCd:(nrC n ks ls:Int)∈nbF (lck ks ls) (nrD n ks ls):=(N0 U1 _ _).mpr ⟨_,hcn,rfl,by rw[O3];exact hcd⟩
 have hCb:(nrC n ks ls:Int)∉nbF (lck ks ls) (nrB n ks ls):=fun z=>by
  obtain⟨Y,_,eY,h⟩:=(N0 U1 _ _).mp z
  rw[<- eY]at h
  exact apart h hbc
 have hle:(nbF (lck ks ls) (nrD n ks ls)).length<=(nbF (lck ks ls) (nrB n ks ls)).length:=by
  rw[ax2 _ U1,ax2 _ U1]
  exact hmax _ hdn
 have nB:=bq7 (nrB n ks ls) U1 N1
 have bc:=up_ne (U2 _ hbc)
 have ann:aR5 n ks ls≠[]:=fun z=>by
  have all:∀ e∈nbF (lck ks ls) (nrB n ks ls),e=(nrD n ks ls:Int)\/e∈nbF (lck ks ls) (nrD n ks ls):=fun e he=>by
   have:=ae0.mp z e he
   by_cases h1:e=(nrD n ks ls:Int)
   ·exact .inl h1
   ·by_cases h2:e∈nbF (lck ks ls) (nrD n ks ls)
    ·exact .inr h2
    ·exact absurd (by rw[decide_eq_false h1,decide_eq_false h2];rfl) this
  by_cases hD:(nrD n ks ls:Int)∈nbF (lck ks ls) (nrB n ks ls)
  ·have hBd:(nrB n ks ls:Int)∈nbF (lck ks ls) (nrD n ks ls):=by
    obtain⟨Y,_,eY,h⟩:=(N0 U1 _ _).mp hD
    rw[<- eY]at h
    exact(N0 U1 _ _).mpr ⟨_,hbn,rfl,by rw[O3];exact h⟩
   have hBb:(nrB n ks ls:Int)∉nbF (lck ks ls) (nrB n ks ls):=fun z=>by
    obtain⟨Y,_,eY,h⟩:=(N0 U1 _ _).mp z
    rw[<- eY]at h
    exact up_ne (U1 _ h) rfl
   have nd:((nrB n ks ls:Int)::(nrC n ks ls:Int)::(nbF (lck ks ls) (nrB n ks ls)).erase (nrD n ks ls:Int)).Nodup:=by
    refine j1.mpr ⟨fun z=>?_,j1.mpr ⟨fun z=>hCb (bh0 z),nB.erase _⟩⟩
    rcases b7.mp z with e | z
    ·omega
    ·exact hBb (bh0 z)
   have:=nd.length_le_of_subset (l₂:=nbF (lck ks ls) (nrD n ks ls)) fun e he=>by
    rcases b7.mp he with rfl | he
    ·exact hBd
    ·rcases b7.mp he with rfl | he
     ·exact hCd
     ·obtain⟨h1,h2⟩:=nB.mem_erase_iff.mp he
      exact(all e h2).resolve_left h1
   rw[j7,j7,K4 hD]at this
   have:=R5 hD
   omega
  ·have nd:((nrC n ks ls:Int)::nbF (lck ks ls) (nrB n ks ls)).Nodup:=j1.mpr ⟨hCb,nB⟩
   have:=nd.length_le_of_subset (l₂:=nbF (lck ks ls) (nrD n ks ls)) fun e he=>by
    rcases b7.mp he with rfl | he
    ·exact hCd
    ·exact(all e he).resolve_left fun z=>hD (z ▸ he)
   rw[j7]at this
   omega
 obtain⟨r4,e4⟩:=aR1 ann fun e he=>nat_of U1 e (j5.mp he).1
 rw[show ((aR5 n ks ls).headD 0).toNat=nrA n ks ls from rfl]at e4
 have hA:=j5.mp (show (nrA n ks ls:Int)∈aR5 n ks ls by rw[e4];exact b4)
 obtain⟨Y,han,eY,hba⟩:=(N0 U1 _ _).mp hA.1
 have eY:Y=nrA n ks ls:=by omega
 subst eY
 have hA2:=hA.2
 rw[o7,E7,E7,decide_eq_false_iff_not,decide_eq_false_iff_not]at hA2
 obtain⟨had,hadn⟩:=hA2
 have hab:up [(nrA n ks ls:Int),(nrB n ks ls:Int)]∈lck ks ls:=by rw[O3];exact hba
 have ab:=up_ne (U1 _ hab)
 have cd:=up_ne (U1 _ hcd)
 have ac:nrA n ks ls≠nrC n ks ls:=fun z=>by
  rw[z]at hab
  exact apart hab hcb
 have bd:nrB n ks ls≠nrD n ks ls:=fun z=>by
  rw[<- z]at hcd
  exact apart hcd hcb
 have ok:∀ {x y z u:Nat},x<n->y<n->z<n->u<n->x≠y->x≠z->x≠u->y≠z->y≠u->z≠u->OkP n [(x:Int),(y:Int),(z:Int),(u:Int)]:=fun h1 h2 h3 h4 g1 g2 g3 g4 g5 g6=>by
  refine(M9 n _).mpr ⟨fun v hv=>?_,?_⟩
  ·simp only[b7,j4,or_false]at hv
   omega
  ·simp only[j1,b7,j4,or_false,not_or]
   refine⟨⟨by omega,by omega,by omega⟩,⟨by omega,by omega⟩,by omega,not_false,t5⟩
 refine⟨⟨r1,e1⟩,⟨r2,e2⟩,⟨r3,e3⟩,⟨r4,e4⟩,⟨han,hbn,hcn,hdn⟩,hab,hcd,hcb,?_⟩
 by_cases hk:up [(nrA n ks ls:Int),(nrD n ks ls:Int)]∈ks
 ·right
  refine⟨hk,ok han hdn hcn hbn (by omega) ac ab (by omega) (by omega) (by omega),?_,(E5.mp hcb).1,(E5.mp hab).2,(E5.mp hcd).2⟩
  apply Classical.byContradiction
  intro z
  exact hadn ((N0 U1 _ _).mpr ⟨_,han,rfl,by rw[O3];exact E5.mpr ⟨hk,z⟩⟩)
 ·left
  exact⟨ok han hbn hcn hdn ab ac (by omega) bc bd cd,(E5.mp hab).1,(E5.mp hcd).1,hk,(E5.mp hcb).2⟩
theorem aQ4 {n:Nat}{out:List (List Int)}{x y z:List Int}(hnd:out.Nodup)(nd:(lck ks ls).Nodup)(hx:x∈out)(hy:y∈out)(hxy:x≠y)(h:∀ k∈lck ks ls,k=z\/(k∈out/\k≠x/\k≠y)):(lck ks ls).length<out.length:=by
 have h1:=nd.length_le_of_subset (l₂:=z::(out.erase x).erase y) fun k hk=>by
  rcases h k hk with e | ⟨h1,h2,h3⟩
  ·rw[e];exact b4
  ·exact b9 _ ((hnd.erase _).mem_erase_iff.mpr ⟨h3,hnd.mem_erase_iff.mpr ⟨h2,h1⟩⟩)
 have hy':y∈out.erase x:=hnd.mem_erase_iff.mpr ⟨fun e=>hxy e.symm,hy⟩
 rw[j7,K4 hy',K4 hx]at h1
 have h2:=R5 hy'
 rw[K4 hx]at h2
 omega
theorem aR4 {a b c d:Nat}(hu:∀ k∈ks,Up n k)(h:Fits n ks a b c d):up [(a:Int),(b:Int)]≠up [(c:Int),(d:Int)]:=fun e=>h.2.2.2.1 (by
 obtain⟨hP,h1,h2,h3,h4⟩:=h
 obtain⟨hin,hnd⟩:=(M9 n _).mp hP
 exfalso
 simp only[j1,b7,j4,or_false,not_or]at hnd
 obtain⟨⟨ab,ac,ad⟩,⟨bc,bd⟩,cd,_⟩:=hnd
 have e':[(if (b:Int)<(a:Int) then (b:Int) else (a:Int)),(if (b:Int) > (a:Int) then (b:Int) else (a:Int))]=[(if (d:Int)<(c:Int) then (d:Int) else (c:Int)),(if (d:Int) > (c:Int) then (d:Int) else (c:Int))]:=e
 injection e' with e1 e2
 split at e1<;>split at e1<;>omega)
theorem bx3 {ks':List (List Int)}{a b c d:Nat}(W1:Wbs n ks)(N:Nr n ks ls a b c d)(hf:Fits n ks a b c d)(hp:ks'.Perm ((exL ks a b c d).map up)):(lck ks' ls).length<(lck ks ls).length:=by
 have nd':=(O6 W1.up W1.nd hf hp).2.1
 refine aQ4 (n:=n) (z:=up [(a:Int),(d:Int)]) (W1.lck (ls:=ls)).nd (nd'.filter _) N.ab N.cd (aR4 W1.up hf) fun k hk=>?_
 obtain⟨h1,h2⟩:=E5.mp hk
 rcases(Y4 W1.up W1.nd hf hp k).mp h1 with⟨g1,g2,g3⟩ | e | e
 ·exact .inr ⟨E5.mpr ⟨g1,h2⟩,g2,g3⟩
 ·exact .inl e
 ·exact absurd (e ▸ (E5.mp N.cb).1) h2
theorem bx2 {ls':List (List Int)}{a b c d:Nat}(W1:Wbs n ks)(W2:Wbs n ls)(N:Nr n ks ls a b c d)(hf:Fits n ls a d c b)(hp:ls'.Perm ((exL ls a d c b).map up)):(lck ks ls').length<(lck ks ls).length:=by
 have hne:up [(a:Int),(b:Int)]≠up [(c:Int),(d:Int)]:=aR4 (O6 W2.up W2.nd hf hp).1 (ai1 W2.up W2.nd hf hp)
 refine aQ4 (n:=n) (z:=up [(a:Int),(d:Int)]) (W1.lck (ls:=ls)).nd (W1.nd.filter _) N.ab N.cd hne fun k hk=>?_
 obtain⟨h1,h2⟩:=E5.mp hk
 have hm:=fun z=>h2 ((Y4 W2.up W2.nd hf hp k).mpr z)
 by_cases ed:k=up [(a:Int),(d:Int)]
 ·exact .inl ed
 ·refine .inr ⟨E5.mpr ⟨h1,fun hl=>hm (.inl ⟨hl,ed,fun e=>(E5.mp N.cb).2 (e ▸ h1)⟩)⟩,fun e=>hm (.inr (.inl e)),fun e=>hm (.inr (.inr e))⟩
abbrev bG9:=Nat × Nat × Nat × Nat
def q4 (f:bG9):List Int:=[(f.1:Int),(f.2.1:Int),(f.2.2.1:Int),(f.2.2.2:Int)]
def xl (ks:List (List Int))(f:bG9):List (List Int):=(exL ks f.1 f.2.1 f.2.2.1 f.2.2.2).map up
def leB (a b:List Int):Bool:=!Tim.F4 b a
theorem aI6 (hu:∀ k∈ks,Up n k)(nd:ks.Nodup):∃ ls,ls.Perm ks/\Wbs n ls:=by
 have hs:(ks.mergeSort leB).Pairwise (fun a b=>leB a b=true):=aW9 (fun a b c h1 h2=>by
  unfold leB at *
  rw[E7]at *
  cases h:Tim.F4 c a with
  | false=>rfl
  | true =>
   rcases Tim.aQ3 c b a h with z | z
   ·rw[h2]at z;cases z
   ·rw[h1]at z;cases z) (fun a b=>by
  unfold leB
  cases h:Tim.F4 b a with
  | false=>rfl
  | true =>
   cases g:Tim.F4 a b with
   | false=>rfl
   | true =>
    have:=Tim.am9 _ _ _ h g
    rw[Tim.ap9]at this
    cases this) ks
 have hp:=bp1 ks leB
 refine⟨_,hp,fun k hk=>hu k (hp.mem_iff.mp hk),hp.nodup_iff.mpr nd,hs.imp fun {a b} h=>?_⟩
 unfold leB at h
 rwa [E7]at h
inductive Rch (n:Nat) (F:List (List Int)):List (List Int)->Prop
 | refl:Rch n F F
 | step {M M':List (List Int)} {a b c d:Nat}:Rch n F M->Wbs n M->Fits n M a b c d->Wbs n M'->M'.Perm ((exL M a b c d).map up)->Rch n F M'
theorem Rch.trans {G M:List (List Int)}(h:Rch n F G)(g:Rch n G M):Rch n F M:=by
 induction g with
 | refl=>exact h
 | step _ h1 h2 h3 h4 ih=>exact ih.step h1 h2 h3 h4
theorem aO6:∀ (m:Nat) {F L:List (List Int)},Wbs n F->Wbs n L->tal n F=tal n L->(lck F L).length<=m->Rch n F L:=by
 intro m
 induction m with
 | zero =>
  intro F L hF hL ht hm
  by_cases e:F=L
  ·subst e;exact .refl
  ·have N:=aP5 hF hL ht e
   have:=R5 N.ab
   omega
 | succ m ih =>
  intro F L hF hL ht hm
  by_cases e:F=L
  ·subst e;exact .refl
  ·have N:=aP5 hF hL ht e
   rcases N.go with hf | ⟨_,hf⟩
   ·have ex:=O6 hF.up hF.nd hf (List.Perm.refl _)
    obtain⟨F',hp,hW⟩:=aI6 ex.1 ex.2.1
    have ex':=O6 hF.up hF.nd hf hp
    have hl:=bx3 hF N hf hp
    exact(Rch.refl.step hF hf hW hp).trans (ih hW hL (ex'.2.2.trans ht) (by omega))
   ·have ex:=O6 hL.up hL.nd hf (List.Perm.refl _)
    obtain⟨L',hp,hW⟩:=aI6 ex.1 ex.2.1
    have ex':=O6 hL.up hL.nd hf hp
    have hl:=bx2 hF hL N hf hp
    have hb:=ai1 hL.up hL.nd hf hp
    have h2:=O6 hW.up hW.nd hb (List.Perm.refl _)
    refine(ih hF hW (ht.trans ex'.2.2.symm) (by omega)).step hW hb hL ?_
    exact(C6 hL.nd h2.2.1).mpr fun x=>(bo3 hL.up hL.nd hf hp (List.Perm.refl _) x).symm
def aO3 (ss:List Int)(ks:List (List Int))(k:List Int):Bool:=decide ((x8 ks (k.getD 0 0).toNat:Int)<ss.getD (k.getD 0 0).toNat 0) && decide ((x8 ks (k.getD 1 0).toNat:Int)<ss.getD (k.getD 1 0).toNat 0)
def O5 (ss:List Int)(k:List Int)(ks:List (List Int)):List (List (List Int)):=ks::(if aO3 ss ks k=true then [ks++[k]] else [])
def L5 (ss:List Int):List (List Int)->List (List (List Int))
 | []=>[[]]
 | k::ps=>(L5 ss ps).flatMap (O5 ss k)
theorem ah5 {ms:List (List Int)}(h:ks∈O5 ss k ms):ks=ms\/ks=ms++[k]:=by
 unfold O5 at h
 rcases b7.mp h with h | h
 ·exact .inl h
 ·split at h
  ·exact .inr (a8.mp h)
  ·cases h
theorem aV9 {ps ms:List (List Int)}(h:k∉ps):(ps.reverse.filter fun x=>decide (x∈ms++[k]))=ps.reverse.filter fun x=>decide (x∈ms):=by
 refine as5 fun x hx=>?_
 have hne:x≠k:=fun z=>h (z ▸ C0.mp hx)
 rw[decide_eq_decide,j0,a8]
 exact⟨fun z=>z.resolve_right hne,.inl⟩
theorem am6:∀ {ps:List (List Int)},ps.Nodup->∀ ks∈L5 ss ps,ks=ps.reverse.filter fun x=>decide (x∈ks)
 | [],_,ks,h=>by rw[a8.mp h];rfl
 | k::ps,nd,ks,h=>by
  obtain⟨h1,h2⟩:=j1.mp nd
  obtain⟨ms,hm,hk⟩:=A3.mp h
  have ih:=am6 h2 ms hm
  have hkm:k∉ms:=fun z=>by
   rw[ih]at z
   exact h1 (C0.mp (j5.mp z).1)
  rw[bA5,Q6]
  rcases ah5 hk with e | e
  ·subst e
   rw[<- ih,Q7 (by simpa using hkm)]
   simp
  ·subst e
   rw[aV9 h1,<- ih,Q8 (by simp)]
   simp
theorem ao9 {ps:List (List Int)}(nd:ps.Nodup)(h:ks∈L5 ss ps):(∀ k∈ks,k∈ps)/\ks.Nodup:=by
 have e:=am6 nd ks h
 constructor
 ·intro k hk
  rw[e]at hk
  exact C0.mp (j5.mp hk).1
 ·rw[e]
  exact((B3 ps).nodup_iff.mpr nd).filter _
theorem aU0 {ps:List (List Int)}(nd:ps.Nodup)(h:ks∈L5 ss ps)(g:ls∈L5 ss ps)(p:ks.Perm ls):ks=ls:=by
 rw[am6 nd ks h,am6 nd ls g]
 exact as5 fun x _=>by rw[decide_eq_decide];exact p.mem_iff
theorem aO2:∀ {ps:List (List Int)},ps.Nodup->(L5 ss ps).Nodup
 | [],_=>by simp[L5]
 | k::ps,nd=>by
  obtain⟨h1,h2⟩:=j1.mp nd
  have ih:=aO2 h2
  have hkm:∀ ms∈L5 ss ps,k∉ms:=fun ms hm z=>h1 ((ao9 h2 hm).1 k z)
  show ((L5 ss ps).flatMap (O5 ss k)).Nodup
  unfold List.Nodup at *
  rw[ag8]
  refine⟨fun ms hm=>?_,ih.imp_of_mem fun {a b} ha hb hab x hx y hy=>?_⟩
  ·unfold O5
   split
   ·refine List.Pairwise.cons (fun y hy e=>?_) (Q9 _ _)
    rw[a8.mp hy]at e
    have:=congrArg L0 e
    rw[c9,v9]at this
    omega
   ·exact Q9 _ _
  ·intro e
   rcases ah5 hx with e1 | e1<;>rcases ah5 hy with e2 | e2
   ·exact hab (e1.symm.trans (e.trans e2))
   ·exact hkm a ha (by rw[<- e1,e,e2];simp)
   ·exact hkm b hb (by rw[<- e2,<- e,e1];simp)
   ·have:=e1.symm.trans (e.trans e2)
    exact hab (List.append_cancel_right this)
theorem aC9 {W:List (List Int)}(hs:∀ p,p<n->(x8 W p:Int)=ss.getD p 0):∀ {ps:List (List Int)},(∀ k∈ps,Up n k)->ps.Nodup->(ps.reverse.filter fun x=>decide (x∈W))∈L5 ss ps
 | [],_,_=>a8.mpr rfl
 | k::ps,hu,nd=>by
  obtain⟨h1,h2⟩:=j1.mp nd
  have ih:=aC9 hs (fun k hk=>hu k (b9 _ hk)) h2
  rw[bA5,Q6]
  refine A3.mpr ⟨_,ih,?_⟩
  by_cases hk:k∈W
  ·rw[Q8 (by simpa using hk),ag9]
   unfold O5
   rw[if_pos ?_]
   ·exact b9 _ (a8.mpr rfl)
   ·obtain⟨i,j,hij,hjn,rfl⟩:=hu k b4
    have nd':((ps.reverse.filter fun x=>decide (x∈W))++[[(i:Int),(j:Int)]]).Nodup:=by
     refine N7.mpr ⟨((B3 ps).nodup_iff.mpr h2).filter _,j1.mpr ⟨j4,t5⟩,fun a ha b hb e=>h1 ?_⟩
     rw[<- a8.mp hb,<- e]
     exact C0.mp (j5.mp ha).1
    have sub:∀ x∈(ps.reverse.filter fun x=>decide (x∈W))++[[(i:Int),(j:Int)]],x∈W:=fun x hx=>by
     rcases j0.mp hx with hx | hx
     ·exact of_decide_eq_true (j5.mp hx).2
     ·rw[a8.mp hx];exact hk
    have le:∀ p:Nat,(p:Int)∈[(i:Int),(j:Int)]->x8 (ps.reverse.filter fun x=>decide (x∈W)) p+1<=x8 W p:=fun p hp=>by
     have h3:x8 ((ps.reverse.filter fun x=>decide (x∈W))++[[(i:Int),(j:Int)]]) p<=x8 W p:=by
      unfold x8
      rw[az6,az6]
      exact List.Nodup.length_le_of_subset (nd'.filter _) fun x hx=>j5.mpr ⟨sub x (j5.mp hx).1,(j5.mp hx).2⟩
     unfold x8 at h3 ⊢
     rw[br4,ag7,if_pos (by rw[decide_eq_true_eq];exact hp)]at h3
     exact h3
    have l1:=le i (by simp)
    have l2:=le j (by simp)
    have s1:=hs i (by omega)
    have s2:=hs j hjn
    unfold aO3
    show (decide ((x8 _ ((i:Int)).toNat:Int)<ss.getD ((i:Int)).toNat 0) && decide ((x8 _ ((j:Int)).toNat:Int)<ss.getD ((j:Int)).toNat 0))=true
    rw[n8,n8,<- s1,<- s2,decide_eq_true (by omega),decide_eq_true (by omega)]
    rfl
  ·rw[Q7 (by simpa using hk),ag9,y7]
   exact b4
end Web
namespace L2
open PySem PySem.Spec PyProof.Rows
section
variable {K:Type} [DecidableEq K] {knd:bj1 prog w K}
end
end L2
namespace Web
open PySem L2
theorem bE4 (n:Nat)(z:Int):(r9 n [V.int z]).flatten=(r9 n z).map V.int:=by
 induction n with
 | zero=>rfl
 | succ n ih=>rw[F7,K2,ih,F7];rfl
theorem rep0 (n:Nat):(r9 n [V.int 0]).flatten=(tal n []).map V.int:=by
 rw[bk0]
 exact bE4 n 0
def Rw (H:Hp)(n:Nat)(lo lf:Addr)(u:V)(ks:List (List Int)):Prop:=∃ (r d c:Addr),u=.ref r/\H r=some (.tup [.ref d,.ref c])/\TD H d ks/\H c=some (.lst ((tal n ks).map V.int))/\c≠lo/\c≠lf
theorem Rw.same {lo lf:Addr}{u:V}(h:Rw H n lo lf u ks)(s:A5 H H'):Rw H' n lo lf u ks:=by
 obtain⟨r,d,c,e,h1,h2,h3,h4⟩:=h
 exact⟨r,d,c,e,s _ _ h1,h2.same s,s _ _ h3,h4⟩
theorem TD.updL {us:List V}(h:TD H d ks)(hl:H l=some (.lst xs)):TD (upd H l (.lst us)) d ks:=by
 obtain⟨kvs,h1,h2⟩:=h
 exact⟨kvs,by rw[o6 (fun z=>by rw[z,hl]at h1;cases h1)];exact h1,h2⟩
theorem Rw.updO {lo lf:Addr}{u:V}{us:List V}(h:Rw H n lo lf u ks)(hl:H lo=some (.lst xs)):Rw (upd H lo (.lst us)) n lo lf u ks:=by
 obtain⟨r,d,c,e,h1,h2,h3,h4,h5⟩:=h
 exact⟨r,d,c,e,ae5 h1 hl,h2.updL hl,by rw[o6 h4];exact h3,h4,h5⟩
theorem Rw.updF {lo lf:Addr}{u:V}{us:List V}(h:Rw H n lo lf u ks)(hl:H lf=some (.lst xs)):Rw (upd H lf (.lst us)) n lo lf u ks:=by
 obtain⟨r,d,c,e,h1,h2,h3,h4,h5⟩:=h
 exact⟨r,d,c,e,ae5 h1 hl,h2.updL hl,by rw[o6 h5];exact h3,h4,h5⟩
theorem aw5 {R:V->List (List Int)->Prop}:∀ {us vs:List V} {ks ls:List (List (List Int))},F8 R us ks->F8 R vs ls->F8 R (us++vs) (ks++ls)
 | _,_,_,_,.nil,g=>g
 | _,_,_,_,.cons a as,g=>.cons a (aw5 as g)
theorem bg0 {ts:List Int}(h:i<ts.length):atI (ts.map V.int) (i:Int)=some (.int (ts.getD i 0)):=A4 (by rw[j3,d5 h,x5,d5 h];rfl)
theorem set_int {ts:List Int}{v:Int}:(ts.map V.int).set j (.int v)=(ts.set j v).map V.int:=List.map_set.symm
theorem be1 {K:W.Frag}{Q:VK}{u:Addr}{ns ms:List Int}(hun:A.units+64<G0)(gl:SqL K H l (ns.map V.int))(gu:SqL K H u (ms.map V.int))(q:Q (.bl (decide (ns=ms))) H):ba9 K A false (.ref l) (.ref u) H Q:=by
 refine⟨.list (ns.map .int),.list (ms.map .int),Dt.mkLi gl,Dt.mkLi gu,bd2 _,bd2 _,?_,?_⟩
 ·refine aY1 hun (o5 (aH8 _ _) ?_)
  have:=bz1 ns
  omega
 ·show Q (.bl (PyData.eqv _ _)) _
  rw[by5]
  exact q
theorem aq0 (h:i<n):((tal n ks).map V.int)[i]?=some (.int (x8 ks i:Int)):=by rw[j3,ae6 h];rfl
theorem bj8 (hi:i<n)(hj:j<n)(h:i≠j)(ks:List (List Int)):(((tal n ks).set i (x8 ks i+1)).set j (x8 ks j+1))=tal n (ks++[[(i:Int),(j:Int)]]):=bj9 hi hj h ks _ _ rfl rfl
theorem aN4 {p o:Nat}(h:decide ((x8 ks p:Int)<ss.getD p 0)=false\/decide ((x8 ks o:Int)<ss.getD o 0)=false):O5 ss [(p:Int),(o:Int)] ks=[ks]:=by
 unfold O5 aO3
 show (ks::if (decide ((x8 ks ((p:Int)).toNat:Int)<ss.getD ((p:Int)).toNat 0) && decide ((x8 ks ((o:Int)).toNat:Int)<ss.getD ((o:Int)).toNat 0))=true then [ks++[[(p:Int),(o:Int)]]] else [])=[ks]
 rw[n8,n8,if_neg]
 rw[o7]
 rintro⟨h1,h2⟩
 rcases h with h | h
 ·rw[h]at h1;cases h1
 ·rw[h]at h2;cases h2
theorem aZ0 {p o:Nat}(h1:decide ((x8 ks p:Int)<ss.getD p 0)=true)(h2:decide ((x8 ks o:Int)<ss.getD o 0)=true):O5 ss [(p:Int),(o:Int)] ks=[ks,ks++[[(p:Int),(o:Int)]]]:=by
 unfold O5 aO3
 show (ks::if (decide ((x8 ks ((p:Int)).toNat:Int)<ss.getD ((p:Int)).toNat 0) && decide ((x8 ks ((o:Int)).toNat:Int)<ss.getD ((o:Int)).toNat 0))=true then [ks++[[(p:Int),(o:Int)]]] else [])=_
 rw[n8,n8,if_pos (by rw[h1,h2];rfl)]
seal L2.PE L2.PA L2.PS L2.PSs L2.PT
section
variable {K:W.Frag} {mg:Str->Option Value} {base:Heap}
def Fnd (H:Hp)(u:V)(ks:List (List Int)):Prop:=∃ (d:Addr),u=.ref d/\TD H d ks
theorem Fnd.updL {u:V}{us:List V}(h:Fnd H u ks)(hl:H l=some (.lst xs)):Fnd (upd H l (.lst us)) u ks:=let ⟨d,e,h1⟩:=h;⟨d,e,h1.updL hl⟩
def Y6 (n:Nat)(ss:List Int)(prs:List (List Int)):List (List (List Int)):=(L5 ss prs.reverse).filter fun ks=>decide (tal n ks=ss)
def aN8 (K:W.Frag):Sp:=fun vs H Q _=>∃ (n:Nat) (sa:Addr) (ss:List Int),vs=[.int n,.ref sa]/\n<=5/\H sa=some (.lst (ss.map V.int))/\ss.length=n/\∀ (l:Addr) (us:List V) (prs:List (List Int)) (H':Hp),A5 H H'->H' l=some (.lst us)->prs.Nodup->(∀ k,k∈prs↔Up n k)->us.length<=2000000->F8 (Fnd H') us (Y6 n ss prs)->Q (.ref l) H'
theorem J4:A7 ["places","sums","pairs","other","found","rows","one","longer","ties","counts","more","with_it"] ["places","sums"] (p5 ao8):=.mk'
structure Prs (K:W.Frag) (H:Hp) (lp:Addr) (i:Nat) (zs:List V) (prs:List (List Int)):Prop where
 at_:H lp=some (.lst zs)
 tu:v7 K H zs prs
 up:∀ k∈prs,Up i k
 nd:prs.Nodup
 len:prs.length<=i*4
 all:∀ k,Up i k->k∈prs
set_option maxHeartbeats 4000000 in
theorem bc6 (F:Fun K "_law_all_of" "_law_all_of" ao8 f fd) (B:Bn mg):B6 P w K mg base CX0 1 f fd ["places","sums"] (aN8 K):=by
 refine F.ok J4 (fun cdv A outer s H vs Q E hr h=>?_)
 obtain⟨n,sa,ss,rfl,hn,hsa,hss,q⟩:=h
 have hsl:=T5
 have hun:=hr.units
 have nd2:(["one","other"]:List Str).Nodup:=by decide +kernel
 have APP:True:=trivial
 refine⟨_,j9 (D5 (i:=2) J4.nd rfl (Or.inl rfl) (P8 g7))
  (j9 (T7 PassesOwn.never rfl (N8 rfl B.range (a7 (pv 0) g7)) (A6 (i := 3) J4.nd rfl (Or.inr rfl))
   (o3 (S0 (ap1 PySem.F.plainAttrs_list PySem.F.slot_list_extend PySem.F.type_list_extend aU9 (pv 2) (a7 (ab5 (N' := ["one", "other"]) (lk := [none, some 3]) rfl (N8 rfl B.range (a7 (pv 3) g7)) (by rfl) rfl (by decide +kernel) (by exact ⟨rfl, trivial⟩) (by rfl) (by exact LkL.ok ⟨⟨rfl, Or.inl rfl, rfl, Or.inl rfl⟩, trivial⟩)
    (fun _ _ _=>A6 (i:=0) nd2 rfl (Or.inl rfl)) (fun _ _ _=>X9) (fun _ _ _=>K8 (a7 (pv 0) (a7 (pv 1) g7)))) g7)))))
  (j9 (D5 (i:=4) J4.nd rfl (Or.inl rfl) (P8 g7))
  (j9 (D5 (i:=5) J4.nd rfl (Or.inl rfl) (P8 (a7 (K8 (a7 aD4 (a7 (C7 bv4 (P8 (a7 k8 g7)) (pv 0)) g7))) g7)))
  (j9 (T7 PassesOwn.never rfl (S1 (pv 2)) (aw8 rfl (Q3 (A6 (i := 6) J4.nd rfl (Or.inl rfl)) (Q3 (A6 (i := 3) J4.nd rfl (Or.inr rfl)) am7)))
   (j9 (D5 (i:=7) J4.nd rfl (Or.inl rfl) (P8 g7))
   (j9 (T7 PassesOwn.never rfl (S1 (pv 5)) (aw8 rfl (Q3 (A6 (i := 8) J4.nd rfl (Or.inl rfl)) (Q3 (A6 (i := 9) J4.nd rfl (Or.inl rfl)) am7)))
    (j9 (S0 (ap1 PySem.F.plainAttrs_list PySem.F.slot_list_append PySem.F.type_list_append L9 (pv 7) (a7 (K8 (a7 (pv 8) (a7 (pv 9) g7))) g7)))
    (o3 (P2 (PW.pt (aJ7 (F2 aj3 (v8 M0 (pv 9) (pv 6) (fun _ _ => rfl)) (v8 M0 (pv 1) (pv 6) (fun _ _ => rfl)) (J5 _)) (aw2 (F2 aj3 (v8 M0 (pv 9) (pv 3) (fun _ _ => rfl)) (v8 M0 (pv 1) (pv 3) (fun _ _ => rfl)) (J5 _)))))
     (j9 (D5 (i:=10) J4.nd rfl (Or.inl rfl) (K7 ay7 (by rfl) B.list (by rfl) (a7 (pv 9) g7)))
     (j9 (bb4 (C7 Y3 (v8 M0 (pv 10) (pv 6) (fun _ _=>rfl)) k8) (bb7 (pv 10) (pv 6) set_list))
     (j9 (bb4 (C7 Y3 (v8 M0 (pv 10) (pv 3) (fun _ _=>rfl)) k8) (bb7 (pv 10) (pv 3) set_list))
     (j9 (D5 (i:=11) J4.nd rfl (Or.inl rfl) (K7 ay8 (by rfl) B.dict (by rfl) (a7 (pv 8) g7)))
     (j9 (aO7 (be3 hr) (pv 11) (K8 (a7 (pv 6) (a7 (pv 3) g7))) at1 rfl)
     (o3 (S0 (ap1 PySem.F.plainAttrs_list PySem.F.slot_list_append PySem.F.type_list_append L9 (pv 7) (a7 (K8 (a7 (pv 11) (a7 (pv 10) g7))) g7))))))))) E4))))
   (o3 (D5 (i:=5) J4.nd rfl (Or.inl rfl) (pv 7))))))
  (j9 (T7 PassesOwn.never rfl (S1 (pv 5)) (aw8 rfl (Q3 (A6 (i := 8) J4.nd rfl (Or.inl rfl)) (Q3 (A6 (i := 9) J4.nd rfl (Or.inl rfl)) am7)))
   (o3 (P2 (F2 aK2 (pv 9) (pv 1) (J5 _)) (o3 (S0 (ap1 PySem.F.plainAttrs_list PySem.F.slot_list_append PySem.F.type_list_append L9 (pv 4) (a7 (pv 8) g7)))) E4)))
  (o3 (D6 (pv 4)))))))),?_⟩
 refine⟨by show 0<=d7;omega,fun lp fp=>?_⟩
 have sp:=f7 (o:=.lst []) fp
 refine o8 ?_
 refine⟨_,rfl,n,rfl,by omega,by omega,?_⟩
 rw[n8]
 refine W9 (lo:=0) (n:=n) (fun i σ H1=>∃ zs prs e3,σ=[some (.int n),some (.ref sa),some (.ref lp),e3,none,none,none,none,none,none,none,none]/\A5 H H1/\Prs K H1 lp i zs prs) ⟨[],[],none,rfl,sp,b8,.nil,(fun k hk=>nomatch hk),t5,k9 _,fun k ⟨_,_,_,h,_⟩=>absurd h (ah0 _)⟩ ?_ ?_
 ·rintro i σ H1 hi ⟨zs,prs,e3,rfl,s1,p1⟩
  rw[show ((0:Int)+(i:Int))=(i:Int) by omega]
  refine o8 ?_
  refine⟨_,rfl,.inl ⟨rfl,_,SqL.of p1.at_⟩,_,rfl,i,rfl,by omega,by omega,fun D hD=>?_⟩
  rw[n8]
  refine ad8 (lo:=0) (n:=i) (D:=D) (fun j xs σ' H'=>(∃ v,σ'=[v,some (.int (i:Int))])/\A5 H1 H'/\H' D=some (.lst xs)/\v7 K H' xs ((n6 j).map fun p:Nat=>[(p:Int),(i:Int)]))
   ⟨⟨none,rfl⟩,f7 hD,b8,.nil⟩ (by omega) (fun j xs σ' H' hj ⟨_,s2,g2,t2⟩=>⟨g2,by rw[t2.len,b6,E8];exact c6 _⟩) ?_ ?_
  ·rintro j xs σ' H' N kN hj ⟨⟨v,rfl⟩,s2,g2,t2⟩
   rw[show ((0:Int)+(j:Int))=(j:Int) by omega]
   refine o8 (T4 ?_)
   refine⟨_,rfl,_,rfl,(by show 2<=d7;decide),fun p fp=>?_⟩
   have sq:=f7 (o:=.tup [.int (j:Int),.int (i:Int)]) fp
   have g2':=sq _ _ g2
   refine⟨g2',kN _ _ _ ⟨⟨_,rfl⟩,(s2.trans sq).upd hD,b8,?_⟩⟩
   rw[aH6,n4]
   exact v7.updL g2' (v7.append (sq.tups t2) (v7.one (SqT.of b8)))
  ·rintro xs σ' H2 ⟨⟨v,rfl⟩,s2,g2,t2⟩
   have hxl:=t2.len
   rw[b6,E8]at hxl
   have hzl:=p1.tu.len
   have hlen:=p1.len
   have hi5:i*4<=5*4:=K5 4 (by omega)
   have gp:=s2 _ _ p1.at_
   refine⟨lp,D,zs,xs,rfl,rfl,gp,g2,by omega,?_⟩
   refine⟨zs++xs,prs++(n6 i).map (fun p:Nat=>[(p:Int),(i:Int)]),_,rfl,(s1.trans s2).upd fp,b8,v7.updL gp (v7.append (s2.tups p1.tu) t2),fun k hk=>?_,?_,?_,fun k hk=>?_⟩
   ·rcases j0.mp hk with hk | hk
    ·obtain⟨a,b,h1,h2,e⟩:=p1.up k hk
     exact⟨a,b,h1,by omega,e⟩
    ·obtain⟨p,hp,rfl⟩:=l6.mp hk
     exact⟨p,i,k7.mp hp,by omega,rfl⟩
   ·refine N7.mpr ⟨p1.nd,?_,fun x hx y hy e=>?_⟩
    ·refine A0.mpr (ac7.imp fun {a b} h e=>h ?_)
     injection e with e _
     omega
    ·obtain⟨p,hp,rfl⟩:=l6.mp hy
     obtain⟨a,b,h1,h2,e'⟩:=p1.up x hx
     rw[e']at e
     injection e with e1 e2
     injection e2 with e2 _
     omega
   ·rw[c9,b6,E8,bh6]
    omega
   ·obtain⟨a,b,h1,h2,rfl⟩:=hk
    by_cases hb:b<i
    ·exact m6 _ (p1.all _ ⟨a,b,h1,hb,rfl⟩)
    ·obtain rfl:b=i:=by omega
     exact d6 _ (l6.mpr ⟨a,k7.mpr h1,rfl⟩)
 ·rintro σ H1 ⟨zs,prs,e3,rfl,s1,p1⟩
  have hpl:prs.length<=20:=by
   have:=p1.len
   have:n*4<=5*4:=K5 4 hn
   omega
  refine⟨by show 0<=d7;omega,fun lf ff=>?_⟩
  have sf:=f7 (o:=.lst []) ff
  have ffH:H lf=none:=s1.free ff
  refine o8 ?_
  refine fun d0 fd0=>?_
  have sd:=f7 (o:=.dT []) fd0
  refine⟨(by show 1<=d7;decide),fun lz fz=>?_⟩
  have sz:=f7 (o:=.lst [.int 0]) fz
  refine⟨_,rfl,lz,(n:Int),_,rfl,rfl,b8,by omega,by omega,by show 1*_<=d7;omega,fun lr fr=>?_⟩
  rw[n8,rep0]
  have sr:=f7 (o:=.lst ((tal n []).map V.int)) fr
  refine⟨(by show 2<=d7;decide),fun r0 fr0=>⟨(by show 1<=d7;decide),fun l5 f5=>?_⟩⟩
  have st:=f7 (o:=.tup [.ref d0,.ref lr]) fr0
  have s5:=f7 (o:=.lst [.ref r0]) f5
  have sall:=(sd.trans sz).trans (sr.trans (st.trans s5))
  have pB:=p1
  have gfB:=(sd.trans sz).trans (sr.trans (st.trans s5)) _ _ (b8 (H:=H1) (a:=lf) (o:=.lst []))
  have g5B:=b8 (H:=upd (upd (upd (upd (upd H1 lf (.lst [])) d0 (.dT [])) lz (.lst [.int 0])) lr (.lst ((tal n []).map V.int))) r0 (.tup [.ref d0,.ref lr])) (a:=l5) (o:=.lst [.ref r0])
  have rw0:Rw _ n l5 lf (.ref r0) []:=⟨r0,d0,lr,rfl,s5 _ _ b8,⟨[],(sz.trans (sr.trans (st.trans s5))) _ _ b8,rfl,fun _ h=>nomatch h⟩,(st.trans s5) _ _ b8,u9 (st _ _ b8) f5,(fun z=>by
   have:=(sd.trans sz) _ _ (b8 (H:=H1) (a:=lf) (o:=.lst []))
   rw[z]at fr
   rw[fr]at this
   cases this)⟩
  have n5f:l5≠lf:=fun z=>by
   have:=((sd.trans sz).trans (sr.trans st)) _ _ (b8 (H:=H1) (a:=lf) (o:=.lst []))
   rw[z]at f5
   rw[f5]at this
   cases this
  have sB:=sf.trans sall
  generalize upd (upd (upd (upd (upd (upd H1 lf (.lst [])) d0 (.dT [])) lz (.lst [.int 0])) lr (.lst ((tal n []).map V.int))) r0 (.tup [.ref d0,.ref lr])) l5 (.lst [.ref r0])=HB at sB gfB g5B rw0 ⊢
  clear sall s5 st sr sz sd sf
  refine o8 ?_
  have sHB:=s1.trans sB
  have gpB:=sB _ _ p1.at_
  have tuB:=sB.tups p1.tu
  refine⟨_,rfl,lp,rfl,⟨_,SqL.of gpB⟩,?_⟩
  refine X0 (K:=K) (a:=lp) (xs:=zs) (fun j σ H2=>∃ l5 us e3 e6 e7 e8 e9 e10 e11,σ=[some (.int n),some (.ref sa),some (.ref lp),e3,some (.ref lf),some (.ref l5),e6,e7,e8,e9,e10,e11]/\A5 H H2/\H2 lp=some (.lst zs)/\v7 K H2 zs prs/\H2 lf=some (.lst [])/\H2 l5=some (.lst us)/\us.length<=2 ^ j/\l5≠lf/\F8 (Rw H2 n l5 lf) us (L5 ss (prs.take j).reverse))
   ⟨l5,[.ref r0],e3,none,none,none,none,none,none,rfl,sHB,gpB,tuB,gfB,g5B,c6 _,n5f,.cons rw0 .nil⟩ (fun i σ H2 _ ⟨_,_,_,_,_,_,_,_,_,_,_,g,_⟩=>SqL.of g) ?_ ?_
  ·rintro j x σ H2 hx ⟨l5,us,e3,e6,e7,e8,e9,e10,e11,rfl,s2,gp,tu,gf,g5,ul,n5,rws⟩
   obtain⟨pa,pk,rfl,hk',hq⟩:=tu.get hx
   obtain⟨p,o,hpo,hon,rfl⟩:=p1.up pk (c8 hk')
   have hj:j<prs.length:=(a9.mp hk').1
   have hpw:=aj7 (show 0<2 by decide) (show j<=20 by omega)
   refine⟨pa,_,rfl,hq,rfl,_,_,rfl,_,_,rfl,rfl,?_⟩
   refine⟨by show 0<=d7;omega,fun lo flo=>?_⟩
   have slo:=f7 (o:=.lst []) flo
   refine o8 ?_
   have nlof:lo≠lf:=fun z=>by rw[z,gf]at flo;cases flo
   refine⟨_,rfl,l5,rfl,⟨_,SqL.of (slo _ _ g5)⟩,?_⟩
   refine X0 (K:=K) (a:=l5) (xs:=us) (fun i σ H3=>∃ vs e8 e9 e10 e11,σ=[some (.int n),some (.ref sa),some (.ref lp),some (.int (o:Int)),some (.ref lf),some (.ref l5),some (.int (p:Int)),some (.ref lo),e8,e9,e10,e11]/\A5 H2 H3/\H3 lo=some (.lst vs)/\vs.length<=2*i/\F8 (Rw H3 n lo lf) vs (((L5 ss (prs.take j).reverse).take i).flatMap (O5 ss [(p:Int),(o:Int)])))
    ⟨[],_,_,_,_,rfl,slo,b8,k9 _,by rw[S8];exact .nil⟩ (fun i σ H3 _ ⟨_,_,_,_,_,_,s3,_⟩=>SqL.of (s3 _ _ g5)) ?_ ?_
   ·rintro i x σ H3 hx3 ⟨vs,e8,e9,e10,e11,rfl,s3,glo,vl,rvs⟩
    have hi:i<us.length:=(a9.mp hx3).1
    obtain⟨ks,hks,hrw⟩:=A8 rws hx3
    obtain⟨hsub,hnd⟩:=ao9 ((B3 _).nodup_iff.mpr (p1.nd.sublist (aa9 j prs))) (c8 hks)
    have htk:((L5 ss (prs.take j).reverse).take (i+1)).flatMap (O5 ss [(p:Int),(o:Int)])=((L5 ss (prs.take j).reverse).take i).flatMap (O5 ss [(p:Int),(o:Int)])++O5 ss [(p:Int),(o:Int)] ks:=by
     rw[u6,hks,X3]
     simp
    obtain⟨r,d,c,rfl,h1',h2',h3',c5,cf⟩:=hrw
    have clo:c≠lo:=u9 h3' flo
    have h1:=s3 _ _ h1'
    have h2:=h2'.same s3
    have h3:=s3 _ _ h3'
    have hsub:∀ k∈ks,k∈prs.take j:=fun k hk=>C0.mp (hsub k hk)
    have hup:∀ k∈ks,Up n k:=fun k hk=>p1.up k (ai9 (hsub k hk))
    have hkl:=ao0 (by omega) hnd hup
    have hnew:[(p:Int),(o:Int)]∉ks:=fun z=>by
     obtain⟨i',hi'⟩:=i8.mp (hsub _ z)
     rw[G6]at hi'
     split at hi'
     ·rename_i hlt
      obtain⟨q1,q2⟩:=a9.mp hi'
      obtain⟨q3,q4⟩:=a9.mp hk'
      exact absurd (q2.trans q4.symm) (l7.mp p1.nd i' j q1 q3 hlt)
     ·cases hi'
    refine⟨r,_,rfl,SqT.of h1,rfl,_,_,rfl,_,_,rfl,rfl,?_⟩
    refine⟨_,rfl,.inl ⟨rfl,_,SqL.of glo⟩,_,rfl,_,rfl,(by show 2<=d7;decide),fun t1 ft1=>?_⟩
    have st1:=f7 (o:=.tup [.ref d,.ref c]) ft1
    have glo1:=st1 _ _ glo
    refine⟨lo,_,_,rfl,rfl,glo1,by have:d7=16777216:=PySem.sizeLine_eq;omega,?_⟩
    have s4:=(s3.trans st1).upd (o:=.lst (vs++[.ref t1])) flo
    have rn:Rw (upd (upd H3 t1 (.tup [.ref d,.ref c])) lo (.lst (vs++[.ref t1]))) n lo lf (.ref t1) ks:=⟨t1,d,c,rfl,ae5 b8 glo1,(h2.same st1).updL glo1,by rw[o6 clo];exact st1 _ _ h3,clo,cf⟩
    have rvs4:F8 (Rw (upd (upd H3 t1 (.tup [.ref d,.ref c])) lo (.lst (vs++[.ref t1]))) n lo lf) (vs++[.ref t1]) (((L5 ss (prs.take j).reverse).take i).flatMap (O5 ss [(p:Int),(o:Int)])++[ks]):=aw5 (Paired.mapP rvs fun _ _ z=>(z.same st1).updO glo1) (.cons rn .nil)
    have glo4:(upd (upd H3 t1 (.tup [.ref d,.ref c])) lo (.lst (vs++[.ref t1]))) lo=some (.lst (vs++[.ref t1])):=b8
    have hd4:=(h2.same st1).updL (us:=vs++[.ref t1]) glo1
    have hc4:(upd (upd H3 t1 (.tup [.ref d,.ref c])) lo (.lst (vs++[.ref t1]))) c=some (.lst ((tal n ks).map V.int)):=by rw[o6 clo];exact st1 _ _ h3
    have vl4:(vs++[V.ref t1]).length<=2*i+1:=by rw[c9,v9];omega
    generalize upd (upd H3 t1 (.tup [.ref d,.ref c])) lo (.lst (vs++[.ref t1]))=H4 at s4 rvs4 glo4 hd4 hc4 ⊢
    generalize vs++[V.ref t1]=vs4 at rvs4 glo4 vl4
    clear rn rvs glo1 st1 h1 h2 h3 h1' h2' h3' glo vl ft1
    have gsa:=(s2.trans s4) _ _ hsa
    have hp_n:p<n:=by omega
    refine⟨_,rfl,_,rfl,c,_,_,_,rfl,rfl,SqL.of hc4,A4 (aq0 hp_n),_,rfl,_,rfl,sa,_,_,_,rfl,rfl,SqL.of gsa,bg0 (by rw[hss];exact hp_n),_,_,rfl,rfl,_,rfl,aV3 (fun t1=>?_) (fun t1=>P9 ⟨vs4,_,_,_,_,rfl,s4,glo4,by omega,by rw[htk,aN4 (.inl (as4.mpr t1))];exact rvs4⟩)⟩
    refine⟨_,rfl,_,rfl,c,_,_,_,rfl,rfl,SqL.of hc4,A4 (aq0 hon),_,rfl,_,rfl,sa,_,_,_,rfl,rfl,SqL.of gsa,bg0 (by rw[hss];exact hon),_,_,rfl,rfl,_,rfl,aV3 (fun t2=>?_) (fun t2=>⟨vs4,_,_,_,_,rfl,s4,glo4,by omega,by rw[htk,aN4 (.inr (as4.mpr t2))];exact rvs4⟩)⟩
    refine⟨_,rfl,c,_,rfl,.inl (SqL.of hc4),fun mo fmo=>?_⟩
    have sm:=f7 (o:=.lst ((tal n ks).map V.int)) fmo
    refine o8 ?_
    have hml:((tal n ks).map V.int).length=n:=by rw[b6,O4]
    refine⟨_,rfl,_,rfl,mo,_,_,_,rfl,rfl,SqL.of b8,A4 (aq0 hp_n),_,_,rfl,rfl,_,rfl,_,rfl,mo,_,_,p,rfl,rfl,b8,aQ8 (by rw[hml];exact hp_n),?_⟩
    rw[av9,set_int]
    have hg2:(((tal n ks).set p ((x8 ks p:Int)+1)).map V.int)[o]?=some (.int (x8 ks o:Int)):=by
     rw[j3,ai8 (by omega),ae6 hon]
     rfl
    refine⟨_,rfl,_,rfl,mo,_,_,_,rfl,rfl,SqL.of b8,A4 hg2,_,_,rfl,rfl,_,rfl,_,rfl,mo,_,_,o,rfl,rfl,b8,aQ8 (by rw[b6,aH2,O4];exact hon),?_⟩
    rw[av9,set_int,bj8 hp_n hon (by omega)]
    have sm2:=f7 (o:=.lst ((tal n (ks++[[(p:Int),(o:Int)]])).map V.int)) fmo
    obtain⟨kvs,gd,ek⟩:=hd4
    refine⟨_,rfl,d,kvs,rfl,.inl (sm2 _ _ gd),by rw[ek.1];exact aV7 P w (by omega) hup hnd,fun di fdi=>?_⟩
    have sdi:=f7 (o:=.dT kvs) fdi
    refine o8 ?_
    refine⟨_,rfl,_,rfl,_,rfl,(by show 2<=d7;decide),fun x hx=>?_⟩
    have sx:=f7 (o:=.tup [.int (p:Int),.int (o:Int)]) hx
    have hkv:kvs.length=ks.length:=by have:=congrArg L0 ek.1;rw[b6,b6]at this;exact this
    refine⟨di,_,rfl,aW7.t (k:=([(p:Int),(o:Int)]:List Int).map Sum.inl) (sx _ _ b8) (by rw[af4];exact b8) (by omega),?_⟩
    have ek':=ek.put [(p:Int),(o:Int)]
    rw[if_neg hnew]at ek'
    have fdi4:=sm2.free fdi
    have s5x:=(sm2.trans (sdi.trans sx))
    have s6:A5 H4 (upd (upd (upd (upd H4 mo (.lst ((tal n (ks++[[(p:Int),(o:Int)]])).map V.int))) di (.dT kvs)) x (.tup [.int (p:Int),.int (o:Int)])) di (.dT (putK kvs (([(p:Int),(o:Int)]:List Int).map Sum.inl) (.bl true)))):=s5x.upd fdi4
    have gdi:(upd (upd (upd (upd H4 mo (.lst ((tal n (ks++[[(p:Int),(o:Int)]])).map V.int))) di (.dT kvs)) x (.tup [.int (p:Int),.int (o:Int)])) di (.dT (putK kvs (([(p:Int),(o:Int)]:List Int).map Sum.inl) (.bl true)))) di=some (.dT (putK kvs (([(p:Int),(o:Int)]:List Int).map Sum.inl) (.bl true))):=b8
    have gmo:(upd (upd (upd (upd H4 mo (.lst ((tal n (ks++[[(p:Int),(o:Int)]])).map V.int))) di (.dT kvs)) x (.tup [.int (p:Int),.int (o:Int)])) di (.dT (putK kvs (([(p:Int),(o:Int)]:List Int).map Sum.inl) (.bl true)))) mo=some (.lst ((tal n (ks++[[(p:Int),(o:Int)]])).map V.int)):=by
     rw[o6 (u9 b8 fdi)]
     exact(sdi.trans sx) _ _ b8
    have nmo:mo≠lo:=fun z=>by rw[z,glo4]at fmo;cases fmo
    have nmf:mo≠lf:=fun z=>by rw[z,s4 _ _ gf]at fmo;cases fmo
    generalize upd (upd (upd (upd H4 mo (.lst ((tal n (ks++[[(p:Int),(o:Int)]])).map V.int))) di (.dT kvs)) x (.tup [.int (p:Int),.int (o:Int)])) di (.dT (putK kvs (([(p:Int),(o:Int)]:List Int).map Sum.inl) (.bl true)))=H6 at s6 gdi gmo ⊢
    have glo6:=s6 _ _ glo4
    refine⟨_,rfl,.inl ⟨rfl,_,SqL.of glo6⟩,_,rfl,_,rfl,(by show 2<=d7;decide),fun t2' ft2=>?_⟩
    have st2:=f7 (o:=.tup [.ref di,.ref mo]) ft2
    have glo7:=st2 _ _ glo6
    refine⟨lo,_,_,rfl,rfl,glo7,by have:d7=16777216:=PySem.sizeLine_eq;omega,?_⟩
    refine⟨vs4++[.ref t2'],_,_,_,_,rfl,(s4.trans (s6.trans st2)).upd flo,b8,by rw[c9,v9];omega,?_⟩
    rw[htk,aZ0 t1 t2,show ([ks,ks++[[(p:Int),(o:Int)]]]:List (List (List Int)))=[ks]++[ks++[[(p:Int),(o:Int)]]] from rfl,<- p7]
    exact aw5 (Paired.mapP rvs4 fun _ _ z=>(z.same (s6.trans st2)).updO glo7) (.cons ⟨t2',di,mo,rfl,ae5 b8 glo7,TD.updL ⟨_,st2 _ _ gdi,ek'⟩ glo7,by rw[o6 nmo];exact st2 _ _ gmo,nmo,nmf⟩ .nil)
   ·rintro σ H3 ⟨vs,e8,e9,e10,e11,rfl,s3,glo,vl,rvs⟩
    refine⟨_,rfl,?_⟩
    refine o8 ?_
    have hul:=Paired.length rws
    rw[o1 (by omega)]at rvs
    refine⟨lo,vs,_,_,_,_,_,_,_,rfl,s2.trans s3,s3 _ _ gp,s3.tups tu,s3 _ _ gf,glo,by rw[bi1];omega,nlof,?_⟩
    rw[u6,hk',show (some [(p:Int),(o:Int)]:Option (List Int)).toList=[[(p:Int),(o:Int)]] from rfl,al6]
    exact rvs
  ·rintro σ H2 ⟨l5,us,e3,e6,e7,e8,e9,e10,e11,rfl,s2,gp,tu,gf,g5,ul,n5,rws⟩
   have hzl:=tu.len
   rw[o1 (show prs.length<=zs.length by omega)]at rws
   have hpw:=aj7 (show 0<2 by decide) (show zs.length<=20 by omega)
   refine⟨_,rfl,l5,rfl,⟨_,SqL.of g5⟩,?_⟩
   refine X0 (K:=K) (a:=l5) (xs:=us) (fun i σ H3=>∃ fs e8 e9,σ=[some (.int n),some (.ref sa),some (.ref lp),e3,some (.ref lf),some (.ref l5),e6,e7,e8,e9,e10,e11]/\A5 H H3/\H3 l5=some (.lst us)/\H3 lf=some (.lst fs)/\fs.length<=i/\F8 (Rw H3 n l5 lf) us (L5 ss prs.reverse)/\F8 (Fnd H3) fs (((L5 ss prs.reverse).take i).filter fun ks=>decide (tal n ks=ss)))
    ⟨[],_,_,rfl,s2,g5,gf,k9 _,rws,by rw[S8];exact .nil⟩ (fun i σ H3 _ ⟨_,_,_,_,_,g,_⟩=>SqL.of g) ?_ ?_
   ·rintro i x σ H3 hx3 ⟨fs,e8,e9,rfl,s3,g53,gf3,fl,rws3,fnd⟩
    have hi:i<us.length:=(a9.mp hx3).1
    obtain⟨ks,hks,r,d,c,rfl,h1,h2,h3,c5,cf⟩:=A8 rws3 hx3
    have htk:((L5 ss prs.reverse).take (i+1)).filter (fun ks=>decide (tal n ks=ss))=((L5 ss prs.reverse).take i).filter (fun ks=>decide (tal n ks=ss))++[ks].filter (fun ks=>decide (tal n ks=ss)):=by
     rw[u6,hks,Q6]
     rfl
    refine⟨r,_,rfl,SqT.of h1,rfl,_,_,rfl,_,_,rfl,rfl,?_⟩
    refine⟨_,rfl,_,rfl,be1 hun (SqL.of h3) (SqL.of (s3 _ _ hsa)) ⟨_,rfl,?_⟩⟩
    by_cases he:tal n ks=ss
    ·rw[decide_eq_true he]
     refine W8 ⟨_,rfl,.inl ⟨rfl,_,SqL.of gf3⟩,_,rfl,lf,_,_,rfl,rfl,gf3,by have:d7=16777216:=PySem.sizeLine_eq;omega,?_⟩
     refine⟨fs++[.ref d],_,_,rfl,s3.upd ffH,by rw[o6 n5];exact g53,b8,by rw[c9,v9];omega,Paired.mapP rws3 fun _ _ z=>z.updF gf3,?_⟩
     rw[htk,Q8 (by rw[decide_eq_true he]),ag9]
     exact aw5 (Paired.mapP fnd fun _ _ z=>z.updL gf3) (.cons ⟨d,rfl,h2.updL gf3⟩ .nil)
    ·rw[decide_eq_false he]
     refine P9 ⟨fs,_,_,rfl,s3,g53,gf3,by omega,rws3,?_⟩
     rw[htk,Q7 (by rw[decide_eq_false he];exact c7),ag9,y7]
     exact fnd
   ·rintro σ H3 ⟨fs,e8,e9,rfl,s3,g53,gf3,fl,rws3,fnd⟩
    have hul:=Paired.length rws3
    rw[o1 (by omega)]at fnd
    exact⟨_,rfl,q lf fs prs H3 s3 gf3 p1.nd (fun k=>⟨p1.up k,p1.all k⟩) (by omega) fnd⟩
end
end Web
namespace L2
open PySem PySem.Spec PyProof.Rows
structure IK (prog:Program) (w:World) (K:Type) [DecidableEq K] where
 is:Heap->K->Value->Prop
 hash:K->Int
 draws:K->Nat
 deep:Nat
 inj:∀ {h:Heap} {v:Value} {x y:K},is h x v->is h y v->x=y
 mono:∀ {h h':Heap} {k:K} {v:Value},is h k v->(∀ (b:Addr) (o:Obj),h.get? b=some o->o.cls=.type "tuple"->(∀ es ep,o.data≠.dict es ep)->h'.get? b=some o)->is h' k v
 pyHash:∀ {A:Around} {E:Value->Shared->Prop} {s:Shared} {k:K} {v:Value} {Q:Int->Shared->Prop},A.units+deep<G0+1->is s.heap k v->Q (hash k) { s with toks:=s.toks+draws k }->m5 (m7 prog w) A (PySem.pyHash v) Q E s
 eqBool:∀ {A:Around} {E:Value->Shared->Prop} {s:Shared} {x y:K} {u v:Value} {Q:Bool->Shared->Prop},A.units+deep<G0+1->is s.heap x u->is s.heap y v->Q (decide (x=y)) s->m5 (m7 prog w) A (PySem.eqBool u v) Q E s
 quiet:∀ {A:Around} {E:Value->Shared->Prop} {s:Shared} {k:K} {v:Value} {Q:Bool->Shared->Prop} (n:Nat),deep<=n->is s.heap k v->Q true s->m5 (m7 prog w) A (aT2 n v) Q E s
section
variable {K:Type} [DecidableEq K]
def IK.ofKey (knd:PySem.KeyKind prog w K):IK prog w K where
 is:=fun _ k v=>knd.is k v=true
 hash:=knd.hash
 draws:=fun _=>1
 deep:=0
 inj:=fun hx hy=>knd.inj _ _ _ hx hy
 mono:=fun h _=>h
 pyHash:=fun _ hk h=>knd.pyHash hk h
 eqBool:=fun _ hx hy h=>knd.eqBool hx hy h
 quiet:=fun n _ hk h=>by rw[eqIsQuiet_byValue n (knd.byValue _ _ hk)];exact a6 h
def Q0 (ik:IK prog w K)(h:Heap)(ks:List K)(vs:List Value):Prop:=F8 (fun k v=>ik.is h k v) ks vs
def TupIs (ik:IK prog w K)(h:Heap)(ks:List K)(v:Value):Prop:=∃ (a:Addr) (o:Obj) (items:Array Value) (n:Nat),v=.ref a/\h.get? a=some o/\o.cls=.type "tuple"/\o.data=.seq items n/\Q0 ik h ks items.toList
theorem TupIs.typeIs {ik:IK prog w K}{ks:List K}(x:TupIs ik s.heap ks v):s.TypeIs v "tuple":=let ⟨a,o,_,_,e,ho,hc,_⟩:=x;by subst e;exact⟨o,ho,hc⟩
variable {ik:IK prog w K}
theorem Q0.inj:∀ {xs ys:List K} {vs:List Value},Q0 ik h xs vs->Q0 ik h ys vs->xs=ys
 | _,_,_,.nil,.nil=>rfl
 | _,_,_,.cons a as,.cons b bs=>by rw[ik.inj a b,Q0.inj as bs]
theorem TupIs.inj {x y:List K}(hx:TupIs ik h x v)(hy:TupIs ik h y v):x=y:=by
 obtain⟨a,o,items,n,rfl,ho,_,hd,hi⟩:=hx
 obtain⟨a',o',items',n',e,ho',_,hd',hi'⟩:=hy
 cases e
 obtain rfl:o=o':=Option.some.inj (ho.symm.trans ho')
 rw[hd]at hd'
 injection hd' with h1 _
 subst h1
 exact hi.inj hi'
theorem TupIs.mono {ks:List K}(x:TupIs ik h ks v)(k:∀ (b:Addr) (o:Obj),h.get? b=some o->o.cls=.type "tuple"->(∀ es ep,o.data≠.dict es ep)->h'.get? b=some o):TupIs ik h' ks v:=by
 obtain⟨a,o,items,n,e,ho,hc,hd,hi⟩:=x
 exact⟨a,o,items,n,e,k a o ho hc (fun es ep z=>by rw[hd]at z;cases z),hc,hd,Paired.mapP hi fun _ _ z=>ik.mono z k⟩
def bk3 (ik:IK prog w K)(ks:List K):Nat:=(ks.map ik.draws).sum
def bt4 (ik:IK prog w K)(ks:List K):Int:=aA0 (Builtin.Tuple.tupleHashOf (ks.map ik.hash))
theorem in1_units (A:Around):A.in1.units=A.units+1:=rfl
theorem aY5 {ks:List K}{Q:Int->Shared->Prop}(hu:A.units+(ik.deep+1)<G0+1)(hk:TupIs ik s.heap ks v)(h:Q (bt4 ik ks) { s with toks:=s.toks+(bk3 ik ks+1) }) :
  m5 (m7 prog w) A (PySem.pyHash v) Q E s:=by
 have hT:=hk.typeIs
 obtain⟨a,o,items,n,rfl,ho,_,hd,hi⟩:=hk
 have hu1:A.units<G0:=by omega
 unfold PySem.pyHash
 refine W.pyHash_slot hT F.slot_tuple_hash F.entry_tuple_hash (F.args_tuple_hash_1 _) (beq_builtin_none _) (.inr hu1) ?_
 show m5 _ _ (Builtin.Tuple.tupleItemsOf (.ref a) >>= _) _ _ s
 refine a4 (E3 ho hd ?_)
 refine a4 ?_
 rw[<- G5]
 refine B2 _
  (fun rest (b:Array Int) s'=>∃ done left,ks=done++left/\Q0 ik s.heap left rest/\b.toList=done.map ik.hash/\s'={ s with toks:=s.toks+bk3 ik done })
  _ ?_ ?_ _ _ ⟨[],ks,rfl,hi,rfl,rfl⟩
 ·rintro x rest b s' ⟨done,left,rfl,hl,hb,rfl⟩
  cases hl with
  | @cons k _ ks' _ h1 hl' =>
   refine a4 (ik.pyHash (by rw[in1_units];omega) h1 ?_)
   exact a6 ⟨done++[k],ks',by simp,hl',by simp[hb],by simp[bk3,W4]⟩
 ·rintro b s' ⟨done,left,rfl,hl,hb,rfl⟩
  cases hl
  rw[y7]at h
  show m5 _ _ (retInt (Builtin.Tuple.tupleHashOf b.toList)) _ _ _
  rw[hb]
  show m5 _ _ (mkInt _ >>= fun v=>ret v) _ _ _
  exact a4 (wpAny_mkInt (a6 ⟨_,_,rfl,by simpa [W4,bt4] using h⟩))
theorem aB5 {x y:List K}{b:Addr}{P:Fin->Shared->Prop}(hu:A.units+ik.deep<G0+1)(hx:TupIs ik s.heap x (.ref a))(hy:TupIs ik s.heap y (.ref b))(h:P (.done (.ret (.bool (decide (x=y))))) s) :
  m5 (m7 prog w) A (Builtin.«tuple.__eq__» ⟨[.ref a,.ref b],[]⟩) P E s:=by
 have hTb:=hy.typeIs
 obtain⟨a',oa,xs,na,ea,hoa,_,hda,hia⟩:=hx
 obtain⟨b',ob,ys,nb,eb,hob,_,hdb,hib⟩:=hy
 cases ea
 cases eb
 show m5 _ _ (aA2 (.ref b) (.type "tuple") >>= _) _ _ s
 refine a4 (J3 hTb O1 ?_)
 simp only[o9,d3,if_false]
 refine a4 (E3 hoa hda ?_)
 refine a4 (E3 hob hdb ?_)
 refine a4 ?_
 refine B2 _
  (fun rest r s'=>r.1=none/\s'=s/\∃ x' y' xs' ys',rest=List.zip xs' ys'/\Q0 ik s.heap x' xs'/\Q0 ik s.heap y' ys'/\decide (x'=y')=decide (x=y)/\(xs'.length == ys'.length)=(xs.size == ys.size))
  _ ?_ ?_ _ _ ⟨rfl,rfl,x,y,xs.toList,ys.toList,rfl,hia,hib,rfl,by simp⟩
 ·rintro⟨u,v⟩ rest r s' ⟨hr,rfl,x',y',xs',ys',hz,hx',hy',hdec,hlen⟩
  cases hx' with
  | nil=>simp at hz
  | @cons k1 u' x'' xs'' h1 hx'' =>
   cases hy' with
   | nil=>simp at hz
   | @cons k2 v' y'' ys'' h2 hy'' =>
    simp only[ar2,List.cons.injEq,Prod.mk.injEq]at hz
    obtain⟨⟨rfl,rfl⟩,rfl⟩:=hz
    refine a4 (ik.eqBool hu h1 h2 ?_)
    by_cases hk:k1=k2
    ·subst hk
     rw[decide_eq_true rfl]
     simp only[o9,d3,if_false]
     refine a6 ⟨rfl,rfl,x'',y'',xs'',ys'',rfl,hx'',hy'',?_,by simpa using hlen⟩
     rw[<- hdec]
     by_cases hxy:x''=y''
     ·simp[hxy]
     ·simp[hxy]
    ·rw[decide_eq_false hk]
     simp only[L8,if_true]
     have hf:decide (x=y)=false:=by rw[<- hdec];simp[hk]
     rw[hf]at h
     exact a4 (a6 (a6 (a6 h)))
 ·rintro⟨r1,r2⟩ s' ⟨hr,rfl,x',y',xs',ys',hz,hx',hy',hdec,hlen⟩
  simp only at hr
  subst hr
  refine a6 ?_
  have hfin:(xs.size == ys.size)=decide (x=y):=by
   rw[<- hdec,<- hlen]
   cases hx' with
   | nil =>
    cases hy' with
    | nil=>simp
    | cons _ _=>simp
   | cons _ _ =>
    cases hy' with
    | nil=>simp
    | cons _ _=>simp at hz
  show P (.done (.ret (.bool (xs.size == ys.size)))) s'
  rw[hfin];exact h
theorem bt3 {x y:List K}{Q:Bool->Shared->Prop}(hu:A.units+(ik.deep+1)<G0+1)(hx:TupIs ik s.heap x u)(hy:TupIs ik s.heap y v)(h:Q (decide (x=y)) s):m5 (m7 prog w) A (PySem.eqBool u v) Q E s:=by
 obtain⟨a,_,_,_,rfl,_⟩:=id hx
 obtain⟨b,_,_,_,rfl,_⟩:=id hy
 unfold PySem.eqBool
 try with_reducible refine u7 ?_
 show m5 _ _ (if (Value.ref a == Value.ref b)=true then _ else _) Q E s
 by_cases hab:(Value.ref a == Value.ref b)=true
 ·rw[if_pos hab]
  have e:a=b:=by have:=eq_of_beq hab;injection this
  subst e
  obtain rfl:=hx.inj hy
  exact a4 (am3 (a6 (by simpa using h)))
 ·rw[if_neg hab]
  exact a4 (Z2 (op:=.Eq) hx.typeIs hy.typeIs F.slot_tuple_eq
   (J2 F.slot_tuple_eq hx.typeIs F.entry_tuple_eq (aB5 (by simp only[in1_units];omega) hx hy ⟨_,rfl,(fun e=>nomatch e),B4 h⟩) (F.args_tuple_eq_2 _ _)) (by omega))
theorem aT6 {ks:List K}{Q:Bool->Shared->Prop}(n:Nat)(hn:ik.deep+1<=n)(hk:TupIs ik s.heap ks v)(h:Q true s):m5 (m7 prog w) A (aT2 n v) Q E s:=by
 obtain⟨m,rfl⟩:∃ m,n=m+1:=⟨n - 1,by omega⟩
 have hT:=hk.typeIs
 obtain⟨a,o,items,n,rfl,ho,_,hd,hi⟩:=hk
 unfold aT2
 refine a4 (R8 hT F.slot_tuple_eq.lookup ?_)
 show m5 _ _ (aA2 (.ref a) (.type "tuple") >>= _) _ _ s
 refine a4 (J3 hT O1 ?_)
 simp only[o9,d3,if_false]
 refine a4 (ac3 ho hd ?_)
 refine a4 ?_
 show m5 _ _ (forIn items _ _) _ _ s
 rw[<- G5]
 refine B2 _ (fun rest r s'=>r.1=none/\s'=s/\∃ left,Q0 ik s.heap left rest) _ ?_ ?_ _ _ ⟨rfl,rfl,ks,hi⟩
 ·rintro v rest r s' ⟨hr,rfl,left,hl⟩
  cases hl with
  | @cons k _ ks' _ h1 hl' =>
   refine a4 (ik.quiet m (by omega) h1 ?_)
   simp only[o9,d3,if_false]
   exact a6 ⟨rfl,rfl,ks',hl'⟩
 ·rintro⟨r1,r2⟩ s' ⟨hr,rfl,_⟩
  simp only at hr
  subst hr
  exact a6 h
end
def IK.tup {prog:Program}{w:World}{K:Type}[DecidableEq K](ik:IK prog w K):IK prog w (List K) where
 is:=TupIs ik
 hash:=bt4 ik
 draws:=fun ks=>bk3 ik ks+1
 deep:=ik.deep+1
 inj:=fun hx hy=>hx.inj hy
 mono:=fun h k=>h.mono k
 pyHash:=fun hu hk h=>aY5 hu hk h
 eqBool:=fun hu hx hy h=>bt3 hu hx hy h
 quiet:=fun n hn hk h=>aT6 n hn hk h
def IK.heap {prog:Program}{w:World}{K:Type}[DecidableEq K](ik:IK prog w K)(hd:ik.deep<=8):bj1 prog w K where
 is:=fun h k a=>ik.is h k (.ref a)
 hash:=ik.hash
 draws:=ik.draws
 room:=fun A=>A.units+ik.deep<G0+1
 inj:=fun hx hy=>ik.inj hx hy
 keeps:=fun {h h' k a d o es ep} x ho hd hs=>ik.mono x fun b ob e _ nd=>by
  by_cases hb:b=d
  ·subst hb
   rw[e]at ho
   cases ho
   exact absurd hd (nd _ _)
  ·exact(hs.2 b hb).trans e
 pyHash:=fun hu hk h=>ik.pyHash hu hk h
 eqBool:=fun hu hx hy h=>ik.eqBool hu hx hy h
 quiet:=fun hk h=>ik.quiet 8 hd hk h
section
variable {K L:Type} [DecidableEq K] [DecidableEq L] {ik:IK prog w K} {il:IK prog w L}
def T9 (ik:IK prog w K)(il:IK prog w L)(h:Heap)(k:K × L)(v:Value):Prop:=∃ (a:Addr) (o:Obj) (items:Array Value) (n:Nat) (p q:Value),v=.ref a/\h.get? a=some o/\o.cls=.type "tuple"/\o.data=.seq items n/\items.toList=[p,q]/\ik.is h k.1 p/\il.is h k.2 q
theorem T9.typeIs {k:K × L}(x:T9 ik il s.heap k v):s.TypeIs v "tuple":=let ⟨a,o,_,_,_,_,e,ho,hc,_⟩:=x;by subst e;exact⟨o,ho,hc⟩
theorem T9.inj {x y:K × L}(hx:T9 ik il h x v)(hy:T9 ik il h y v):x=y:=by
 obtain⟨a,o,items,n,p,q,rfl,ho,_,hd,hi,h1,h2⟩:=hx
 obtain⟨a',o',items',n',p',q',e,ho',_,hd',hi',g1,g2⟩:=hy
 cases e
 obtain rfl:o=o':=Option.some.inj (ho.symm.trans ho')
 rw[hd]at hd'
 injection hd' with e1 _
 subst e1
 rw[hi]at hi'
 injection hi' with e1 e2
 injection e2 with e2 _
 subst e1 e2
 exact br5 (ik.inj h1 g1) (il.inj h2 g2)
theorem T9.mono {k:K × L}(x:T9 ik il h k v)(f:∀ (b:Addr) (o:Obj),h.get? b=some o->o.cls=.type "tuple"->(∀ es ep,o.data≠.dict es ep)->h'.get? b=some o):T9 ik il h' k v:=by
 obtain⟨a,o,items,n,p,q,e,ho,hc,hd,hi,h1,h2⟩:=x
 exact⟨a,o,items,n,p,q,e,f a o ho hc (fun es ep z=>by rw[hd]at z;cases z),hc,hd,hi,ik.mono h1 f,il.mono h2 f⟩
def bt2 (ik:IK prog w K)(il:IK prog w L)(k:K × L):Int:=aA0 (Builtin.Tuple.tupleHashOf [ik.hash k.1,il.hash k.2])
theorem aY3 {k:K × L}{Q:Int->Shared->Prop}(hu:A.units+(ik.deep+il.deep+1)<G0+1)(hk:T9 ik il s.heap k v)(h:Q (bt2 ik il k) { s with toks:=s.toks+(ik.draws k.1+il.draws k.2+1) }) :
  m5 (m7 prog w) A (PySem.pyHash v) Q E s:=by
 have hT:=hk.typeIs
 obtain⟨a,o,items,n,p,q,rfl,ho,_,hd,hi,h1,h2⟩:=hk
 have hu1:A.units<G0:=by omega
 unfold PySem.pyHash
 refine W.pyHash_slot hT F.slot_tuple_hash F.entry_tuple_hash (F.args_tuple_hash_1 _) (beq_builtin_none _) (.inr hu1) ?_
 show m5 _ _ (Builtin.Tuple.tupleItemsOf (.ref a) >>= _) _ _ s
 refine a4 (E3 ho hd ?_)
 refine a4 ?_
 rw[<- G5,hi]
 refine B2 _
  (fun rest (b:Array Int) s'=>(rest=[p,q]/\b=#[]/\s'=s)\/(rest=[q]/\b.toList=[ik.hash k.1]/\s'={ s with toks:=s.toks+ik.draws k.1 })\/(rest=[]/\b.toList=[ik.hash k.1,il.hash k.2]/\s'={ s with toks:=s.toks+(ik.draws k.1+il.draws k.2) }))
  _ ?_ ?_ _ _ (.inl ⟨rfl,rfl,rfl⟩)
 ·rintro x rest b s' (⟨e,rfl,rfl⟩ | ⟨e,hb,rfl⟩ | ⟨e,_⟩)
  ·injection e with e1 e2
   subst e1 e2
   refine a4 (ik.pyHash (by rw[in1_units];omega) h1 ?_)
   exact a6 (.inr (.inl ⟨rfl,by simp,rfl⟩))
  ·injection e with e1 e2
   subst e1 e2
   refine a4 (il.pyHash (by rw[in1_units];omega) h2 ?_)
   exact a6 (.inr (.inr ⟨rfl,by simp[hb],by simp[W4]⟩))
  ·cases e
 ·rintro b s' (⟨e,_⟩ | ⟨e,_⟩ | ⟨_,hb,rfl⟩)
  ·cases e
  ·cases e
  ·show m5 _ _ (retInt (Builtin.Tuple.tupleHashOf b.toList)) _ _ _
   rw[hb]
   show m5 _ _ (mkInt _ >>= fun v=>ret v) _ _ _
   exact a4 (wpAny_mkInt (a6 ⟨_,_,rfl,by simpa [W4,bt2] using h⟩))
theorem aB2 {x y:K × L}{b:Addr}{P:Fin->Shared->Prop}(hu:A.units+(ik.deep+il.deep)<G0+1)(hx:T9 ik il s.heap x (.ref a))(hy:T9 ik il s.heap y (.ref b))(h:P (.done (.ret (.bool (decide (x=y))))) s) :
  m5 (m7 prog w) A (Builtin.«tuple.__eq__» ⟨[.ref a,.ref b],[]⟩) P E s:=by
 have hTb:=hy.typeIs
 obtain⟨a',oa,xs,na,p,q,ea,hoa,_,hda,hia,h1,h2⟩:=hx
 obtain⟨b',ob,ys,nb,p',q',eb,hob,_,hdb,hib,g1,g2⟩:=hy
 cases ea
 cases eb
 show m5 _ _ (aA2 (.ref b) (.type "tuple") >>= _) _ _ s
 refine a4 (J3 hTb O1 ?_)
 simp only[o9,d3,if_false]
 refine a4 (E3 hoa hda ?_)
 refine a4 (E3 hob hdb ?_)
 refine a4 ?_
 have hz:List.zip xs.toList ys.toList=[(p,p'),(q,q')]:=by rw[hia,hib];rfl
 have hs2:xs.size=2/\ys.size=2:=⟨by rw[<- d9,hia];rfl,by rw[<- d9,hib];rfl⟩
 rw[hz]
 refine B2 _
  (fun rest r s'=>r.1=none/\s'=s/\(rest=[(p,p'),(q,q')]\/(rest=[(q,q')]/\x.1=y.1)\/(rest=[]/\x=y)))
  _ ?_ ?_ _ _ ⟨rfl,rfl,.inl rfl⟩
 ·rintro⟨u,v⟩ rest r s' ⟨hr,rfl,e | ⟨e,e1⟩ | ⟨e,_⟩⟩
  ·injection e with e1 e2
   cases e1
   subst e2
   refine a4 (ik.eqBool (by omega) h1 g1 ?_)
   by_cases hk:x.1=y.1
   ·rw[decide_eq_true hk]
    simp only[o9,d3,if_false]
    exact a6 ⟨rfl,rfl,.inr (.inl ⟨by trivial,hk⟩)⟩
   ·rw[decide_eq_false hk]
    simp only[L8,if_true]
    have hf:decide (x=y)=false:=decide_eq_false fun z=>hk (by rw[z])
    rw[hf]at h
    exact a4 (a6 (a6 (a6 h)))
  ·injection e with e2 e3
   cases e2
   subst e3
   refine a4 (il.eqBool (by omega) h2 g2 ?_)
   by_cases hk:x.2=y.2
   ·rw[decide_eq_true hk]
    simp only[o9,d3,if_false]
    exact a6 ⟨rfl,rfl,.inr (.inr ⟨by trivial,br5 e1 hk⟩)⟩
   ·rw[decide_eq_false hk]
    simp only[L8,if_true]
    have hf:decide (x=y)=false:=decide_eq_false fun z=>hk (by rw[z])
    rw[hf]at h
    exact a4 (a6 (a6 (a6 h)))
  ·cases e
 ·rintro⟨r1,r2⟩ s' ⟨hr,rfl,e | ⟨e,_⟩ | ⟨_,e⟩⟩
  ·cases e
  ·cases e
  ·simp only at hr
   subst hr
   refine a6 ?_
   show P (.done (.ret (.bool (xs.size == ys.size)))) s'
   rw[hs2.1,hs2.2]
   rw[decide_eq_true e]at h
   exact h
theorem bt1 {x y:K × L}{Q:Bool->Shared->Prop}(hu:A.units+(ik.deep+il.deep+1)<G0+1)(hx:T9 ik il s.heap x u)(hy:T9 ik il s.heap y v)(h:Q (decide (x=y)) s):m5 (m7 prog w) A (PySem.eqBool u v) Q E s:=by
 obtain⟨a,_,_,_,_,_,rfl,_⟩:=id hx
 obtain⟨b,_,_,_,_,_,rfl,_⟩:=id hy
 unfold PySem.eqBool
 try with_reducible refine u7 ?_
 show m5 _ _ (if (Value.ref a == Value.ref b)=true then _ else _) Q E s
 by_cases hab:(Value.ref a == Value.ref b)=true
 ·rw[if_pos hab]
  have e:a=b:=by have:=eq_of_beq hab;injection this
  subst e
  obtain rfl:=hx.inj hy
  exact a4 (am3 (a6 (by simpa using h)))
 ·rw[if_neg hab]
  exact a4 (Z2 (op:=.Eq) hx.typeIs hy.typeIs F.slot_tuple_eq
   (J2 F.slot_tuple_eq hx.typeIs F.entry_tuple_eq (aB2 (by simp only[in1_units];omega) hx hy ⟨_,rfl,(fun e=>nomatch e),B4 h⟩) (F.args_tuple_eq_2 _ _)) (by omega))
theorem aT4 {k:K × L}{Q:Bool->Shared->Prop}(n:Nat)(hn:ik.deep+il.deep+1<=n)(hk:T9 ik il s.heap k v)(h:Q true s):m5 (m7 prog w) A (aT2 n v) Q E s:=by
 obtain⟨m,rfl⟩:∃ m,n=m+1:=⟨n - 1,by omega⟩
 have hT:=hk.typeIs
 obtain⟨a,o,items,n,p,q,rfl,ho,_,hd,hi,h1,h2⟩:=hk
 unfold aT2
 refine a4 (R8 hT F.slot_tuple_eq.lookup ?_)
 show m5 _ _ (aA2 (.ref a) (.type "tuple") >>= _) _ _ s
 refine a4 (J3 hT O1 ?_)
 simp only[o9,d3,if_false]
 refine a4 (ac3 ho hd ?_)
 refine a4 ?_
 show m5 _ _ (forIn items _ _) _ _ s
 rw[<- G5,hi]
 refine B2 _ (fun rest r s'=>r.1=none/\s'=s/\(rest=[p,q]\/rest=[q]\/rest=[])) _ ?_ ?_ _ _ ⟨rfl,rfl,.inl rfl⟩
 ·rintro v rest r s' ⟨hr,rfl,e | e | e⟩
  ·injection e with e1 e2
   subst e1 e2
   refine a4 (ik.quiet m (by omega) h1 ?_)
   simp only[o9,d3,if_false]
   exact a6 ⟨rfl,rfl,.inr (.inl (by trivial))⟩
  ·injection e with e1 e2
   subst e1 e2
   refine a4 (il.quiet m (by omega) h2 ?_)
   simp only[o9,d3,if_false]
   exact a6 ⟨rfl,rfl,.inr (.inr (by trivial))⟩
  ·cases e
 ·rintro⟨r1,r2⟩ s' ⟨hr,rfl,_⟩
  simp only at hr
  subst hr
  exact a6 h
end
def IK.two {prog:Program}{w:World}{K L:Type}[DecidableEq K][DecidableEq L](ik:IK prog w K)(il:IK prog w L):IK prog w (K × L) where
 is:=T9 ik il
 hash:=bt2 ik il
 draws:=fun k=>ik.draws k.1+il.draws k.2+1
 deep:=ik.deep+il.deep+1
 inj:=fun hx hy=>hx.inj hy
 mono:=fun h k=>h.mono k
 pyHash:=fun hu hk h=>aY3 hu hk h
 eqBool:=fun hu hx hy h=>bt1 hu hx hy h
 quiet:=fun n hn hk h=>aT4 n hn hk h
abbrev WbK:=Int × List (List Int)
def ae3 (P:Program)(w:World):IK P w WbK:=IK.two (IK.ofKey (m9 P w)) (IK.tup (IK.tup (IK.ofKey (m9 P w))))
def V2 (P:Program)(w:World):bj1 P w WbK:=(ae3 P w).heap (by show 0+(0+1+1)+1<=8;omega)
end L2
variable {ws:List (L2.WbK × PySem.Addr)}
namespace L2
open PySem PySem.Spec PyProof.Rows
def WbI (K:W.Frag)(H:Hp)(p:Addr)(k:WbK):Prop:=∃ t zs,SqT K H p [.int k.1,.ref t]/\SqT K H t zs/\v7 K H zs k.2
theorem int_is (P:Program)(w:World)(i:Int)(t:Tok):(m9 P w).is i (.int i t)=true:=by simp[m9,Value.isInt]
theorem aE9 (P:Program)(w:World):∀ {k:List Int} {its:List Value},x9 (k.map V.int) its->Q0 (IK.ofKey (m9 P w)) h k its
 | [],_,r=>by cases r;exact .nil
 | i::k,_,r=>by
  cases r with
  | cons a as =>
   obtain⟨t,rfl⟩:=a
   exact .cons (int_is _ _ _ _) (aE9 P w as)
theorem tup_is (I:Inv X pins σ H s)(h:SqT X.K H a (k.map V.int)):TupIs (IK.ofKey (m9 X.prog X.w)) s.heap k (.ref a):=by
 obtain⟨its,r,⟨o,ho,hc,n,hd⟩,_⟩:=I.tuple h
 exact⟨a,o,its.toArray,n,rfl,ho,hc,hd,by simpa using aE9 X.prog X.w r⟩
theorem aB3 (I:Inv X pins σ H s):∀ {zs:List V} {ks:List (List Int)} {its:List Value},v7 X.K H zs ks->x9 zs its->Q0 (IK.tup (IK.ofKey (m9 X.prog X.w))) s.heap ks its
 | _,_,_,.nil,.nil=>.nil
 | _,_,_,.cons ⟨a,e,h⟩ t,.cons r rs=>by
  subst e
  cases r
  exact .cons (tup_is I h) (aB3 I t rs)
theorem an9 {p:Addr}{k:WbK}(I:Inv X pins σ H s)(h:WbI X.K H p k):(V2 X.prog X.w).is s.heap k p:=by
 obtain⟨t,zs,h1,h2,h3⟩:=h
 obtain⟨its,r,⟨o,ho,hc,n,hd⟩,_⟩:=I.tuple h1
 obtain⟨its2,r2,⟨o2,ho2,hc2,n2,hd2⟩,_⟩:=I.tuple h2
 cases r with
 | cons a as =>
  cases as with
  | cons b bs =>
   cases bs
   obtain⟨tk,rfl⟩:=a
   cases b
   exact⟨p,o,_,n,_,_,rfl,ho,hc,hd,rfl,int_is _ _ _ _,⟨t,o2,_,n2,rfl,ho2,hc2,hd2,by simpa using aB3 I h3 r2⟩⟩
def tru (xs:List (WbK × Addr)):List (WbK × Addr × Value):=xs.map fun x=>(x.1,x.2,Value.bool true)
def ac4 (P:Program)(w:World)(d:Addr)(xs:List (WbK × Addr)):Heap->Prop:=fun h=>(d == C3)=false/\∃ o es ep,h.get? d=some o/\o.ExactDict/\o.data=.dict es ep/\es.toList=(tru xs).map (J1 (V2 P w))/\(xs.map (·.1)).Nodup
structure WDa (P:Program) (w:World) (K:W.Frag) (H:Hp) (d:Addr) (xs:List (WbK × Addr)):Prop where
 at_:H d=some (.ext (ac4 P w d xs))
 keys:∀ x∈xs,WbI K H x.2 x.1
theorem ao1 (xs:List (WbK × Addr)):(tru xs).map (·.1)=xs.map (·.1):=by unfold tru;rw[Z1];rfl
theorem aY6 {xs:List (WbK × Addr)}{k:WbK}:(aX2 (tru xs) k).isSome=decide (k∈xs.map (·.1)):=by
 unfold aX2
 rw[bp0,F6,List.find?_isSome,decide_eq_true_eq,<- ao1,l6]
 constructor
 ·rintro⟨x,hx,e⟩
  exact⟨x,hx,of_decide_eq_true e⟩
 ·rintro⟨x,hx,e⟩
  exact⟨x,hx,decide_eq_true e⟩
section
variable {xs:List (WbK × Addr)}
theorem aN0 (I:Inv X pins σ H s)(h:WDa X.prog X.w X.K H d xs):(d == C3)=false/\s.heap.DictOfH (V2 X.prog X.w) d (tru xs):=by
 obtain⟨⟨hd,o,es,ep,h1,h2,h3,h4,h5⟩,_⟩:=(show D1 X.prog X.w H s.heap d (.ext (ac4 X.prog X.w d xs)) from I.hok d _ h.at_)
 refine⟨hd,o,es,ep,h1,h2,h3,h4,fun x hx=>?_,by rw[ao1];exact h5⟩
 obtain⟨y,hy,rfl⟩:=l6.mp hx
 exact an9 I (h.keys y hy)
theorem aX7 (hd:(d == C3)=false)(dd:h.DictOfH (V2 X.prog X.w) d (tru xs)):D1 X.prog X.w H' h d (.ext (ac4 X.prog X.w d xs)):=by
 obtain⟨o,es,ep,h1,h2,h3,h4,_,h6⟩:=dd
 rw[ao1]at h6
 exact⟨⟨hd,o,es,ep,h1,h2,h3,h4,h6⟩,⟨o,h1⟩,fun a b ⟨z,o,es,ep,h1,r⟩ k=>⟨z,o,es,ep,k o h1,r⟩⟩
theorem aA6 (hu:X.A.units+8<G0):(V2 X.prog X.w).room X.A.in1:=by
 show X.A.in1.units+(0+(0+1+1)+1)<G0+1
 rw[in1_units]
 omega
end
def bk2 (P:Program)(w:World)(K:W.Frag)(ty td:TE):TE:=fun σ H Q=>ty σ H fun y H1=>td σ H1 fun x H2=>∃ (d p:Addr) (k:WbK) (xs:List (WbK × Addr)),x=.ref d/\y=.ref p/\WDa P w K H2 d xs/\WbI K H2 p k/\Q (.bl (!decide (k∈xs.map (·.1)))) H2
theorem aU2 {i:Expr}{ty td:TE}(hu:X.A.units+8<G0)(hi:PE X i ty)(ho:PE X o td):PC X .NotIn i o (bk2 X.prog X.w X.K ty td):=by
 intro pins s σ H Q I h
 refine thn (hi pins s σ H _ I h) fun iv s1 ⟨y,H1,I1,ry,q1⟩=>thn (ho pins s1 σ H1 _ I1 q1) fun u s2 ⟨x,H2,I2,rx,d,p,k,xs,ex,ey,hd,hk,q2⟩=>?_
 subst ex ey
 obtain rfl:u=Value.ref d:=rx
 obtain rfl:iv=Value.ref p:=ry
 obtain⟨hs,dd⟩:=aN0 I2 hd
 refine wpAny_notIn_heap (aA6 hu) (an9 I2 hk) hs dd ?_
 rw[aY6]
 exact⟨.bl (!decide (k∈xs.map (fun x:WbK × Addr=>x.1))),H2,I2.tok _,rfl,q2⟩
def bE0 (P:Program)(w:World)(K:W.Frag)(td ty tv:TE):TS:=fun D σ H=>tv σ H fun v H1=>td σ H1 fun x H2=>ty σ H2 fun y H3=>∃ (d p:Addr) (k:WbK) (xs:List (WbK × Addr)),v=.bl true/\x=.ref d/\y=.ref p/\WDa P w K H3 d xs/\WbI K H3 p k/\k∉xs.map (·.1)/\xs.length<d7/\D.nx σ (upd H3 d (.ext (ac4 P w d (xs++[(k,p)]))))
theorem au9 {xs:List (WbK × Addr)}{k:WbK}(h:k∉xs.map (·.1)):aX2 (tru xs) k=none:=by
 have:=aY6 (xs:=xs) (k:=k)
 rw[decide_eq_false h]at this
 cases e:aX2 (tru xs) k with
 | none=>rfl
 | some p=>rw[e]at this;cases this
theorem bl0 {i value:Expr}{td ty tv:TE}{pos':Pos}(hu:X.A.units+8<G0)(ho:PE X o td)(hi:PE X i ty)(hv:PE X value tv)(hs:aS1 value (some (.Subscript o i pos')) pos.line X.env=pure false) :
  PS X (.Assign [.Subscript o i pos'] value pos) (bE0 X.prog X.w X.K td ty tv):=by
 intro pins s σ H D I h
 refine bp4 (thn (hv pins s σ H _ I h) fun r s1 ⟨v,H1,I1,rv,q1⟩=>thn (ho pins s1 σ H1 _ I1 q1) fun u s2 ⟨x,H2,I2,rx,q2⟩=>thn (hi pins s2 σ H2 _ I2 q2) fun iv s3 ⟨y,H3,I3,ry,d,p,k,xs,ev,ex,ey,hd,hk,hn,hl,q3⟩=>?_) hs
 subst ev ex ey
 obtain rfl:u=Value.ref d:=rx
 obtain rfl:iv=Value.ref p:=ry
 obtain rfl:r=Value.bool true:=rv
 obtain⟨hsy,dd⟩:=aN0 I3 hd
 have hl':(tru xs).length<=d7:=by unfold tru;rw[b6];omega
 refine wpAny_setItem_heap (hsz:=hl') (aA6 hu) (an9 I3 hk) dd fun h' dd' hs'=>?_
 rw[storedH_new (au9 hn)]at dd'
 have e:tru xs++[(k,p,Value.bool true)]=tru (xs++[(k,p)]):=by unfold tru;rw[n4];rfl
 rw[e]at dd'
 have he:∃ q,h'.get? d=some q:=let ⟨q,_,_,hq,_⟩:=dd';⟨q,hq⟩
 exact⟨σ,_,ag0 I3 (by rw[hd.at_];exact True.intro) hs' he (aX7 hsy dd'),q3⟩
def bC6 (P:Program)(w:World)(K:W.Frag)(ty tv:TE):TE:=fun σ H Q=>∀ d,H d=none->ty σ (upd H d (.ext (ac4 P w d []))) fun y H1=>tv σ H1 fun v H2=>∃ (p:Addr) (k:WbK),y=.ref p/\v=.bl true/\H2 d=some (.ext (ac4 P w d []))/\WbI K H2 p k/\Q (.ref d) (upd H2 d (.ext (ac4 P w d [(k,p)])))
theorem bl2 {k v:Expr}{ty tv:TE}(hu:X.A.units+8<G0)(hk:PE X k ty)(hv:PE X v tv):PE X (.Dict [some k] [v] pos) (bC6 X.prog X.w X.K ty tv):=by
 intro pins s σ H Q I q
 have hn:=I.hok.fresh (c6 s.heap.objs.size)
 have h0:(s.heap.push { cls:=.type "dict",data:=.dict #[] }).DictOfH (V2 X.prog X.w) s.heap.objs.size (tru []):=Heap.DictOfH.new s.heap
 have hsy:(s.heap.objs.size == C3)=false:=beq_eq_false_iff_ne.mpr (Ne.symm (i9 I.big))
 have I1:=I.laid (a:=s.heap.objs.size) (o:=.ext (ac4 X.prog X.w s.heap.objs.size [])) (h':=s.heap.push { cls:=.type "dict",data:=.dict #[] }) (t':=s.toks) (fun _ _ q=>a5 _ q) (c6 _) (aX7 hsy h0)
 have hp:=bb6 (pos:=pos) hk hv bl1
 have hsh:=zip_pairTrees [some k] [v] X.env pos rfl rfl
 rw[arm_eval_Dict,hsh,dictDisplay_pairs _ (by simp[bs3]) (by simp[bs3])]
 refine a4 (X7 (a4 ?_))
 unfold subDict
 refine a4 (wpAny_alloc ?_)
 refine a4 (u7 ?_)
 rw[if_pos (by simp[bs3])]
 refine a4 (thn (hp pins _ σ _ (fun ps H2=>match ps with | [(y,z)]=>(∃ (p:Addr) (k:WbK),y=.ref p/\z=.bl true/\H2 s.heap.objs.size=some (.ext (ac4 X.prog X.w s.heap.objs.size []))/\WbI X.K H2 p k/\Q (.ref s.heap.objs.size) (upd H2 s.heap.objs.size (.ext (ac4 X.prog X.w s.heap.objs.size [(k,p)])))) | _=>False) I1 (q _ hn)) fun ws s2 ⟨ps,H2,I2,rel,qq⟩=>?_)
 cases rel with
 | nil=>exact False.elim qq
 | @cons yz ur _ _ a rest =>
  cases rest with
  | cons _ _=>exact False.elim qq
  | nil =>
   obtain⟨y,z⟩:=yz
   obtain⟨u,r⟩:=ur
   obtain⟨p,kk,ey,ez,g2,hw,q2⟩:=qq
   subst ey ez
   obtain⟨ra,rb⟩:=a
   obtain rfl:u=Value.ref p:=ra
   obtain rfl:r=Value.bool true:=rb
   have hd0:WDa X.prog X.w X.K H2 s.heap.objs.size []:=⟨g2,fun x hx=>by cases hx⟩
   obtain⟨_,dd⟩:=aN0 I2 hd0
   refine u7 ?_
   refine a4 ?_
   rw[List.forIn_cons]
   refine a4 (a4 (wpAny_dictSet_heap (hsz:=k9 _) (show X.A.units+(0+(0+1+1)+1)<G0+1 by omega) (an9 I2 hw) dd fun h' dd' hs'=>a6 ?_))
   rw[storedH_new (au9 (xs:=[]) (by intro z;cases z))]at dd'
   have dd2:h'.DictOfH (V2 X.prog X.w) s.heap.objs.size (tru [(kk,p)]):=dd'
   have he:∃ q,h'.get? s.heap.objs.size=some q:=let ⟨q,_,_,hq,_⟩:=dd2;⟨q,hq⟩
   have In:=ag0 (t':=s2.toks+(V2 X.prog X.w).draws kk) I2 (by rw[g2];exact True.intro) hs' he (aX7 (H':=upd H2 s.heap.objs.size (.ext (ac4 X.prog X.w s.heap.objs.size [(kk,p)]))) (xs:=[(kk,p)]) hsy dd2)
   dsimp only
   rw[List.forIn_nil]
   exact a6 (a6 (a6 (a6 ⟨V.ref s.heap.objs.size,_,In,rfl,q2⟩)))
theorem aG3 (hc:X.calm=true):P3 X (.type "list") (fun zs H Q=>∃ (d:Addr) (xs:List (WbK × Addr)),zs=[V.ref d]/\WDa X.prog X.w X.K H d xs/\xs.length<=d7/\∀ l,H l=none->Q (.ref l) (upd H l (.lst (xs.map fun x=>V.ref x.2)))):=by
 intro pins s σ H zs us Q I r h
 obtain⟨d,xs,rfl,ha,hz,q⟩:=h
 obtain⟨u,rfl,rx⟩:=vals1 r
 cases rx
 obtain⟨hd,o,es,ep,h1,h2,h3,h4,h5,h6⟩:=aN0 I ha
 have hsz:es.size=xs.length:=by rw[al0 h4];unfold tru;rw[b6]
 refine aD0 (I.ok.hd hc) hd ⟨o,h1,h2,h3⟩ (by omega) fun h' tk acc c' kp e hacc=>?_
 have hv:x9 (xs.map fun x=>V.ref x.2) acc.toList:=by
  refine ab6 (by have:=hacc.1;rw[b6];show xs.length=acc.toList.length;simp only[d9];omega) fun i x v hx hv=>?_
  rw[b5]at hv
  obtain⟨en,he,rfl⟩:=hacc.2 i v hv
  rw[entry_at h4 i]at he
  unfold tru at he
  rw[j3]at hx he
  cases hxi:xs[i]? with
  | none=>rw[hxi]at hx;cases hx
  | some y =>
   rw[hxi]at hx he
   cases hx
   cases he
   rfl
 exact⟨.ref s.heap.objs.size,_,I.laid (t':=tk) kp (c6 _) (show D1 X.prog X.w _ h' _ (.lst (xs.map fun x=>V.ref x.2)) from ⟨by rw[b6];exact hz,acc.toList,c',hv,by rw[bg9];exact e⟩),rfl,q _ (I.hok.fresh (c6 _))⟩
end L2
namespace Tim
open PySem PyProof.Rows PySem.W
structure SK (prog:Program) (w:World) (O:ak4) where
 is:Heap->O.α->Value->Prop
 d0:O.α
 room:Around->Prop
 inj:∀ {h:Heap} {v:Value} {x y:O.α},is h x v->is h y v->x=y
 mono:∀ {h h':Heap} {k:O.α} {v:Value},is h k v->(∀ (b:Addr) (o:Obj),h.get? b=some o->o.cls=.type "tuple"->(∀ es ep,o.data≠.dict es ep)->h'.get? b=some o)->is h' k v
 lt:∀ {A:Around} {E:Value->Shared->Prop} {s:Shared} {x y:Value} {k k':O.α} {Q:Bool->Shared->Prop},room A->is s.heap k x->is s.heap k' y->Q (O.blt k k') s->m5 (m7 prog w) A (keyLt' (ak5 true) x y) Q E s
 kind:∀ {A:Around} {E:Value->Shared->Prop} {s:Shared} {vs:List Value} {Q:SortKind->Shared->Prop},0<vs.length->(∀ v∈vs,∃ k,is s.heap k v)->Q (ak5 true) s->m5 (m7 prog w) A (keyKind' vs.toArray) Q E s
section
variable {O:ak4} (S:SK prog w O)
open Classical in
noncomputable def R3 (h:Heap)(v:Value):O.α:=if q:∃ k,S.is h k v then Classical.choose q else S.d0
theorem S6 {k:O.α}(x:S.is h k v):R3 S h v=k:=by
 unfold R3
 rw[dif_pos ⟨k,x⟩]
 exact S.inj (Classical.choose_spec (⟨k,x⟩:∃ k,S.is h k v)) x
theorem ar9 {P:PySem.Fin->Shared->Prop}(ho:s.heap.get? a=some (P0 "list" vs.toArray n))(hz:vs.length<=d7)
  (hv:∀ v∈vs,∃ k,S.is s.heap k v)(hr:S.room A)
  (h:∀ out:List Value,out.Perm vs->out.Pairwise (fun x y=>O.blt (R3 S s.heap y) (R3 S s.heap x)=false)->P (.done (.ret .none)) { s with heap:=M6 s.heap a vs out.toArray }) :
  m5 (m7 prog w) A (Builtin.«list.sort» ⟨[.ref a],[]⟩) P E s:=by
 rw[list_sort_plain]
 have ha:a<s.heap.objs.size:=d4 ho
 refine a4 (listItems_at ho rfl ?_)
 refine a4 (av4 ho rfl ?_ (by rw[f6];exact hz) (k9 _))
 obtain⟨e1,ho1⟩:∃ e1,(s.heap.update a (Obj.mapSeq fun _=>#[])).get? a=some (P0 "list" #[] e1):=⟨_,R6 ho (fun _=>#[])⟩
 refine a4 (aS7 ho1 rfl ?_)
 refine a4 (wpAny_newTuple ?_ (by show vs.length<=_;exact hz))
 refine a4 (R7 ?_ (k9 _))
 refine u7 ?_
 generalize hH:((s.heap.update a (Obj.mapSeq fun _=>#[])).push (P0 "tuple" vs.toArray 0)).push (P0 "list" #[] 0)=h6
 have ho6:h6.get? a=some (P0 "list" #[] e1):=by rw[<- hH];exact a5 _ (a5 _ ho1)
 have keep:∀ b o,b≠a->s.heap.get? b=some o->h6.get? b=some o:=fun b o hb e=>by
  rw[<- hH]
  exact a5 _ (a5 _ ((n9 s.heap _ (Ne.symm hb)).trans e))
 have up:∀ v∈vs,∀ k,S.is s.heap k v->S.is h6 k v:=fun v hv' k hk=>S.mono hk fun b o e hc _=>keep b o (fun z=>by
  subst z
  rw[ho]at e
  cases e
  injection hc with hc
  exact absurd hc (by decide)) e
 have fin:∀ st':SortSt,(j2 st').Perm (ak6 vs)->(j2 st').toList.Pairwise (le (Bf (O:=O) fun p=>R3 S s.heap p.1))->P (.done (.ret .none)) { s with heap:=M6 s.heap a vs ((j2 st').map (·.2)) }:=fun st' hp hs=>by
  have hl:(j2 st').toList.Perm (vs.zip vs):=by rw[<- ar4];exact G1.mp hp
  have hm:((j2 st').map (·.2)).toList=(j2 st').toList.map (·.2):=bA0 ..
  have hz2:(vs.zip vs).map (·.2)=vs:=bB1 (c6 _)
  have:=h ((j2 st').toList.map (·.2)) (by have:=hl.map (·.2);rw[hz2]at this;exact this) ?_
  ·rw[show (j2 st').map (·.2)=((j2 st').toList.map (·.2)).toArray by rw[<- hm]]
   exact this
  ·rw[A0]
   refine List.Pairwise.imp_of_mem ?_ hs
   intro x y hx hy hxy
   have ex:=(F9 (hl.mem_iff.mp hx)).1
   have ey:=(F9 (hl.mem_iff.mp hy)).1
   rw[<- ex,<- ey]
   exact hxy
 have out:∀ st':SortSt,(j2 st').Perm (ak6 vs)->G3 st'=none->(j2 st').toList.Pairwise (le (Bf (O:=O) fun p=>R3 S s.heap p.1)) ->
   m5 (m7 prog w) A (do
    let sorted:=(j2 st').map (·.2)
    let touched:=(<- seqEpoch a) != e1
    Builtin.List.listUpdate (.ref a) fun _=>sorted
    if let some e:=G3 st' then rule "list.sort.comparison-raised";throw e
    if touched then rule "list.sort.modified";raiseError "ValueError" "list modified during sort"
    ret .none) P E { s with heap:=h6 }:=fun st' hp hf hs=>by
  dsimp only
  refine a4 (aS7 (s:={ s with heap:=h6 }) ho6 rfl ?_)
  refine a4 (av4 (s:={ s with heap:=h6 }) ho6 rfl ?_ (k9 _) (by refine o5 (bh7 ((Y9 ..).trans (hp.size_eq.trans (aH7 _)))) ?_;omega))
  rw[hf]
  simp only[bne_self_eq_false,d3,if_false]
  refine a6 ?_
  have:=fin st' hp hs
  unfold M6 at this
  rw[hH]at this
  exact this
 show m5 (m7 prog w) A _ P E { s with heap:=h6 }
 dsimp only
 by_cases h2:vs.toArray.size<2
 ·rw[if_pos h2,if_pos h2]
  refine a4 (a6 ?_)
  rw[StateT.run_pure]
  refine a4 (a6 ?_)
  refine out (SortSt.mk' general' (vs.toArray.zip vs.toArray) #[] 7 none) (Array.Perm.refl _) rfl ?_
  show (ak6 vs).toList.Pairwise _
  rw[l7]
  intro i j hi hj hij
  rw[d9,aH7]at hj
  rw[f6]at h2
  omega
 ·rw[if_neg h2,if_neg h2]
  rw[f6]at h2
  refine a4 (S.kind (s:={ s with heap:=h6 }) (by omega) (fun v hv'=>?_) ?_)
  ·obtain⟨k,hk⟩:=hv v hv'
   exact⟨k,up v hv' _ hk⟩
  refine a4 (C4 (aj0 (s:={ s with heap:=h6 }) (a₀:=ak6 vs) (κ:=ak5 true) (O:=O) (f:=fun p=>R3 S s.heap p.1) (st:=SortSt.mk' (ak5 true) (vs.toArray.zip vs.toArray) #[] 7 none)
   (Q:=fun _ st'=>(j2 st').Perm (ak6 vs)/\G3 st'=none/\(j2 st').toList.Pairwise (le (Bf (O:=O) fun p=>R3 S s.heap p.1))) ?_ S.d0 (Array.Perm.refl _) rfl rfl rfl fun st' a1 a2 a3=>⟨a1,a2,a3⟩) ?_ fun _ _ e=>e)
  ·intro x y hx hy Q hq
   rw[ar4]at hx hy
   obtain⟨k,hk⟩:=hv x.1 (F9 hx).2
   obtain⟨k',hk'⟩:=hv y.1 (F9 hy).2
   refine S.lt (s:={ s with heap:=h6 }) hr (up _ (F9 hx).2 _ hk) (up _ (F9 hy).2 _ hk') ?_
   rw[<- S6 S hk,<- S6 S hk']
   exact hq
  ·rintro⟨⟨⟩,st'⟩ s' ⟨rfl,hp,hf,hs⟩
   exact out st' hp hf hs
theorem aI9 (hr:S.room A.in1.in1) (hl:s.heap.IsList l vs.toArray) (hz:vs.length<=d7) (hv:∀ v∈vs,∃ k,S.is s.heap k v)
  (h : ∀ (out : List Value) (h' : Heap) (n : Nat), out.Perm vs -> out.Pairwise (fun x y => O.blt (R3 S s.heap y) (R3 S s.heap x) = false) -> (∀ b o, s.heap.get? b = some o -> h'.get? b = some o) ->
   h'.get? (s.heap.objs.size+1)=some { cls:=.type "list",data:=.seq out.toArray n }->Q (.ref (s.heap.objs.size+1)) { s with heap:=h' }) :
  m5 (m7 prog w) A (call (.builtin "sorted") [.ref l]) Q E s:=by
 refine Calls.call_function_entry kind_sorted plain_sorted entry_sorted (args_sorted1 _) ?_
 unfold Builtin.«sorted»
 refine a4 (m:=checkCount "sorted" 1 1 _) (a6 ?_)
 refine a4 (collect_list hl ?_ hz)
 refine a4 (R7 ?_ hz)
 have hsz:((s.heap.push (P0 "list" #[] 0)).update s.heap.objs.size (Obj.mapSeq (·++vs.toArray))).objs.size=s.heap.objs.size+1:=by
  rw[bB2,bh4]
 generalize hH:((s.heap.push (P0 "list" #[] 0)).update s.heap.objs.size (Obj.mapSeq (·++vs.toArray))).push (P0 "list" vs.toArray 0)=h2
 have hoL:h2.get? (s.heap.objs.size+1)=some (P0 "list" vs.toArray 0):=by
  rw[<- hH,<- hsz];exact l0 _ rfl
 have keep:∀ b o,s.heap.get? b=some o->h2.get? b=some o:=fun b o e=>by
  rw[<- hH]
  refine a5 _ ((n9 _ _ ?_).trans (a5 _ e))
  exact Ne.symm (i9 (d4 e))
 have hsz2:h2.objs.size=s.heap.objs.size+2:=by rw[<- hH,bh4,hsz]
 rw[hsz]
 have up:∀ v k,S.is s.heap k v->S.is h2 k v:=fun v k hk=>S.mono hk fun b o e _ _=>keep b o e
 have kA:∀ v∈vs,R3 S h2 v=R3 S s.heap v:=fun v hv'=>by
  obtain⟨k,hk⟩:=hv v hv'
  rw[S6 S hk,S6 S (up v _ hk)]
 refine a4 (u7 (J2 slot_list_sort (s:={ s with heap:=h2 }) ⟨_,hoL,rfl⟩ entry_list_sort (ar9 S (s:={ s with heap:=h2 }) hoL hz (fun v hv'=>?_) hr fun out a1 a2=>⟨_,rfl,?_⟩) (args_list_sort _)))
 ·obtain⟨k,hk⟩:=hv v hv'
  exact⟨k,up v _ hk⟩
 ·have hlast:∃ n,(M6 h2 (s.heap.objs.size+1) vs out.toArray).get? (s.heap.objs.size+1)=some (P0 "list" out.toArray n):=by
   unfold M6
   have g1:=R6 hoL (fun _=>(#[]:Array Value))
   have g2:(((h2.update (s.heap.objs.size+1) (Obj.mapSeq fun _=>#[])).push (P0 "tuple" vs.toArray 0)).push (P0 "list" #[] 0)).get? (s.heap.objs.size+1)=_:=a5 _ (a5 _ g1)
   exact⟨_,R6 g2 (fun _=>out.toArray)⟩
  obtain⟨n,hn⟩:=hlast
  refine a6 ⟨_,rfl,h out _ n a1 ?_ (fun b o e=>?_) hn⟩
  ·refine List.Pairwise.imp_of_mem ?_ a2
   intro x y hx hy hxy
   rw[kA x (a1.mem_iff.mp hx),kA y (a1.mem_iff.mp hy)]at hxy
   exact hxy
  ·have hb:b≠s.heap.objs.size+1:=i9 (p6 (d4 e))
   unfold M6
   refine(n9 _ _ (Ne.symm hb)).trans (a5 _ (a5 _ ((n9 _ _ (Ne.symm hb)).trans (keep b o e))))
end
end Tim
namespace L2
open PySem PySem.Spec PyProof.Rows
def R1 {K:Type}[DecidableEq K](lt:K->K->Bool):List K->List K->Bool
 | [],[]=>false
 | [],_::_=>true
 | _::_,[]=>false
 | x::xs,y::ys=>if x=y then R1 lt xs ys else lt x y
section
variable {K:Type} [DecidableEq K] {ik:IK prog w K} {lt:K->K->Bool}
def Elt (ik:IK prog w K)(lt:K->K->Bool):Prop:=∀ {A:Around} {E:Value->Shared->Prop} {s:Shared} {x y:K} {u v:Value} {Q:Value->Shared->Prop},A.units+ik.deep<G0+1->ik.is s.heap x u->ik.is s.heap y v->Q (.bool (lt x y)) s->m5 (m7 prog w) A (richCompare .Lt u v) Q E s
theorem aB4 (el:Elt ik lt){x y:List K}{b:Addr}{P:Fin->Shared->Prop}(hu:A.units+ik.deep<G0+1)(hx:TupIs ik s.heap x (.ref a))(hy:TupIs ik s.heap y (.ref b))(h:P (.done (.ret (.bool (R1 lt x y)))) s) :
  m5 (m7 prog w) A (Builtin.«tuple.__lt__» ⟨[.ref a,.ref b],[]⟩) P E s:=by
 have hTb:=hy.typeIs
 obtain⟨a',oa,xs,na,ea,hoa,_,hda,hia⟩:=hx
 obtain⟨b',ob,ys,nb,eb,hob,_,hdb,hib⟩:=hy
 cases ea
 cases eb
 show m5 _ _ (aA2 (.ref b) (.type "tuple") >>= _) _ _ s
 refine a4 (J3 hTb O1 ?_)
 simp only[o9,d3,if_false]
 refine a4 (E3 hoa hda ?_)
 refine a4 (E3 hob hdb ?_)
 refine a4 ?_
 refine B2 _
  (fun rest r s'=>r.1=none/\s'=s/\∃ x' y' xs' ys',rest=List.zip xs' ys'/\Q0 ik s.heap x' xs'/\Q0 ik s.heap y' ys'/\R1 lt x' y'=R1 lt x y/\(xs'.length<ys'.length↔xs.size<ys.size))
  _ ?_ ?_ _ _ ⟨rfl,rfl,x,y,xs.toList,ys.toList,rfl,hia,hib,rfl,by simp⟩
 ·rintro⟨u,v⟩ rest r s' ⟨hr,rfl,x',y',xs',ys',hz,hx',hy',hdec,hlen⟩
  cases hx' with
  | nil=>simp at hz
  | @cons k1 u' x'' xs'' h1 hx'' =>
   cases hy' with
   | nil=>simp at hz
   | @cons k2 v' y'' ys'' h2 hy'' =>
    simp only[ar2,List.cons.injEq,Prod.mk.injEq]at hz
    obtain⟨⟨rfl,rfl⟩,rfl⟩:=hz
    refine a4 (ik.eqBool hu h1 h2 ?_)
    have e:R1 lt (k1::x'') (k2::y'')=if k1=k2 then R1 lt x'' y'' else lt k1 k2:=rfl
    by_cases hk:k1=k2
    ·subst hk
     rw[decide_eq_true rfl]
     simp only[o9,d3,if_false]
     rw[if_pos rfl]at e
     exact a6 ⟨rfl,rfl,x'',y'',xs'',ys'',rfl,hx'',hy'',e ▸ hdec,by simpa using hlen⟩
    ·rw[decide_eq_false hk]
     simp only[L8,if_true]
     rw[if_neg hk]at e
     rw[<- hdec,e]at h
     refine a4 (am3 ?_)
     refine a4 (el hu h1 h2 ?_)
     exact a4 (a6 (a6 (a6 h)))
 ·rintro⟨r1,r2⟩ s' ⟨hr,rfl,x',y',xs',ys',hz,hx',hy',hdec,hlen⟩
  simp only at hr
  subst hr
  refine a6 ?_
  have hfin:decide (xs.size<ys.size)=R1 lt x y:=by
   have e2:decide (xs.size<ys.size)=decide (xs'.length<ys'.length):=by rw[decide_eq_decide];exact hlen.symm
   rw[<- hdec,e2]
   cases hx' with
   | nil =>
    cases hy' with
    | nil=>simp[R1]
    | cons _ _=>simp[R1]
   | cons _ _ =>
    cases hy' with
    | nil=>simp[R1]
    | cons _ _=>simp at hz
  show P (.done (.ret (.bool (decide (xs.size<ys.size))))) s'
  rw[hfin];exact h
theorem aY4 (el:Elt ik lt):Elt (IK.tup ik) (R1 lt):=fun {A E s x y u v Q} hu hx hy h=>by
 have hu:A.units+(ik.deep+1)<G0+1:=hu
 obtain⟨a,_,_,_,rfl,_⟩:=id hx
 obtain⟨b,_,_,_,rfl,_⟩:=id hy
 have hx:TupIs ik s.heap x (.ref a):=hx
 have hy:TupIs ik s.heap y (.ref b):=hy
 exact Z2 (op:=.Lt) hx.typeIs hy.typeIs PySem.F.slot_tuple_lt
   (J2 PySem.F.slot_tuple_lt hx.typeIs PySem.F.entry_tuple_lt (aB4 el (by simp only[in1_units];omega) hx hy ⟨_,rfl,(fun e=>nomatch e),h⟩) (PySem.F.args_tuple_lt_2 _ _)) (by omega)
theorem int_lt:Elt (IK.ofKey (m9 prog w)) (fun a b=>decide (a<b)):=fun {A E s x y u v Q} hu hx hy h=>by
 obtain⟨t,rfl⟩:=Value.isInt_shape hx
 obtain⟨t',rfl⟩:=Value.isInt_shape hy
 exact HT.ba5 A s x t y t' prog w E Q h
end
end L2
namespace L2
open PySem PySem.Spec PyProof.Rows PySem.W
section
variable {K:Type} [DecidableEq K] {lt:K->K->Bool}
theorem af3:∀ x:List K,R1 lt x x=false
 | []=>rfl
 | x::xs=>by
  show (if x=x then R1 lt xs xs else lt x x)=false
  rw[if_pos rfl]
  exact af3 xs
theorem ax4 (irr:∀ a,lt a a=false)(tr:∀ a b c,lt a b=true->lt b c=true->lt a c=true):∀ x y z:List K,R1 lt x y=true->R1 lt y z=true->R1 lt x z=true
 | [],[],_,h,_=>by cases h
 | _::_,[],_,h,_=>by cases h
 | [],_::_,[],_,h=>by cases h
 | _::_,_::_,[],_,h=>by cases h
 | [],_::_,_::_,_,_=>rfl
 | x::xs,y::ys,z::zs,h,g=>by
  have h:(if x=y then R1 lt xs ys else lt x y)=true:=h
  have g:(if y=z then R1 lt ys zs else lt y z)=true:=g
  show (if x=z then R1 lt xs zs else lt x z)=true
  by_cases e1:x=y
  ·subst e1
   rw[if_pos rfl]at h
   by_cases e2:x=z
   ·subst e2
    rw[if_pos rfl]at g ⊢
    exact ax4 irr tr xs ys zs h g
   ·rw[if_neg e2]at g ⊢
    exact g
  ·rw[if_neg e1]at h
   by_cases e2:y=z
   ·subst e2
    rw[if_neg e1]
    exact h
   ·rw[if_neg e2]at g
    have:=tr _ _ _ h g
    by_cases e3:x=z
    ·subst e3
     rw[irr]at this
     cases this
    ·rw[if_neg e3]
     exact this
theorem ap7 (tot:∀ a b,lt a b=false->lt b a=false->a=b):∀ x y:List K,R1 lt x y=false->R1 lt y x=false->x=y
 | [],[],_,_=>rfl
 | [],_::_,h,_=>by cases h
 | _::_,[],_,h=>by cases h
 | x::xs,y::ys,h,g=>by
  have h:(if x=y then R1 lt xs ys else lt x y)=false:=h
  have g:(if y=x then R1 lt ys xs else lt y x)=false:=g
  by_cases e:x=y
  ·subst e
   rw[if_pos rfl]at h g
   rw[ap7 tot xs ys h g]
  ·rw[if_neg e]at h
   rw[if_neg fun z=>e z.symm]at g
   exact absurd (tot _ _ h g) e
end
def ltI (a b:Int):Bool:=decide (a<b)
theorem aQ2 (a:Int):ltI a a=false:=by simp[ltI]
theorem bd1 (a b c:Int)(h:ltI a b=true)(g:ltI b c=true):ltI a c=true:=by simp[ltI]at *;omega
theorem aQ1 (a b:Int)(h:ltI a b=false)(g:ltI b a=false):a=b:=by simp[ltI]at *;omega
abbrev ltT:List (List Int)->List (List Int)->Bool:=R1 (R1 ltI)
def ltW (x y:WbK):Bool:=if x.1=y.1 then ltT x.2 y.2 else ltI x.1 y.1
theorem bm8 (x:WbK):ltW x x=false:=by unfold ltW;rw[if_pos rfl];exact af3 _
theorem bd0 (x y z:WbK)(h:ltW x y=true)(g:ltW y z=true):ltW x z=true:=by
 unfold ltW at *
 by_cases e1:x.1=y.1
 ·rw[if_pos e1]at h
  by_cases e2:y.1=z.1
  ·rw[if_pos e2]at g
   rw[if_pos (e1.trans e2)]
   exact ax4 (af3) (ax4 aQ2 bd1) _ _ _ h g
  ·rw[if_neg e2]at g
   rw[if_neg (by rw[e1];exact e2),e1]
   exact g
 ·rw[if_neg e1]at h
  by_cases e2:y.1=z.1
  ·rw[if_neg (by rw[<- e2];exact e1),<- e2]
   exact h
  ·rw[if_neg e2]at g
   have:=bd1 _ _ _ h g
   rw[if_neg (fun z=>by rw[z,aQ2]at this;cases this)]
   exact this
theorem ax3 (x y:WbK)(h:ltW x y=false)(g:ltW y x=false):x=y:=by
 unfold ltW at *
 by_cases e:x.1=y.1
 ·rw[if_pos e]at h
  rw[if_pos e.symm]at g
  exact br5 e (ap7 (ap7 aQ1) _ _ h g)
 ·rw[if_neg e]at h
  rw[if_neg fun z=>e z.symm]at g
  exact absurd (aQ1 _ _ h g) e
def bH1:ak4:=⟨WbK,ltW,bm8,bd0,fun a b c h=>by
 by_cases h1:ltW a b=true
 ·exact .inl h1
 ·by_cases h2:ltW b a=true
  ·exact .inr (bd0 _ _ _ h2 h)
  ·have:=ax3 a b (by simpa using h1) (by simpa using h2)
   subst this
   exact .inr h,ax3⟩
theorem bs6 {x y:Value}{k k':WbK}{Q:Bool->Shared->Prop}(hu:A.units+3<G0+1)(hx:(ae3 prog w).is s.heap k x)(hy:(ae3 prog w).is s.heap k' y)(h:Q (ltW k k') s):m5 (m7 prog w) A (keyLt' (ak5 true) x y) Q E s:=by
 obtain⟨a,o,xs,n,p,q,rfl,ho,hc,hd,hi,h1,h2⟩:=hx
 obtain⟨b,o',ys,n',p',q',rfl,ho',hc',hd',hi',g1,g2⟩:=hy
 refine kat_lt ho hd ho' hd' ?_
 have hs1:xs.size=2:=by rw[<- d9,hi];rfl
 have hs2:ys.size=2:=by rw[<- d9,hi'];rfl
 rw[hi,hi',hs1,hs2]
 have ef:decide (2<2)=false:=by decide
 rw[ef]
 show KatLex prog w A true false Q [(p,p'),(q,q')] 0 s
 obtain⟨t,rfl⟩:=Value.isInt_shape h1
 obtain⟨t',rfl⟩:=Value.isInt_shape g1
 unfold ltW at h
 refine kat_cons (aH9 ?_)
 by_cases e:k.1=k'.1
 ·rw[if_pos e]at h
  rw[show (k.1 == k'.1)=true by simpa using e]
  refine kat_yes (kat_cons ((IK.tup (IK.tup (IK.ofKey (m9 prog w)))).eqBool (by show A.units+(0+1+1)<G0+1;omega) h2 g2 ?_))
  by_cases e2:k.2=k'.2
  ·rw[decide_eq_true e2]
   refine kat_yes (kat_nil ?_)
   rw[e2]at h
   have:ltT k'.2 k'.2=false:=af3 _
   rw[this]at h
   exact h
  ·rw[decide_eq_false e2]
   refine kat_no ?_
   exact kat_one _ _ (aY4 (aY4 int_lt) (by show A.units+(0+1+1)<G0+1;omega) h2 g2 h)
 ·rw[if_neg e]at h
  rw[show (k.1 == k'.1)=false by simpa using e]
  exact kat_no (oneLt_int h)
theorem aX6 {Q:SortKind->Shared->Prop}(hne:0<vs.length)(hv:∀ v∈vs,∃ k,(ae3 prog w).is s.heap k v)(h:Q (ak5 true) s):m5 (m7 prog w) A (keyKind' vs.toArray) Q E s:=by
 have ex:∀ l:List Value,(∀ v∈l,∃ k,(ae3 prog w).is s.heap k v)->∃ fs:List Value,KatTups s.heap l fs/\fs.length=l.length/\∀ v∈fs,∃ i t,v=.int i t:=fun l=>by
  induction l with
  | nil=>intro _;exact⟨[],KatTups.nil,rfl,(fun _ h=>nomatch h)⟩
  | cons v l ih =>
   intro hl
   obtain⟨k,a,o,xs,n,p,q,rfl,ho,hc,hd,hi,h1,h2⟩:=hl v b4
   obtain⟨fs,f1,f2,f3⟩:=ih fun v hv=>hl v (b9 _ hv)
   obtain⟨t,et⟩:=Value.isInt_shape h1
   have hf:xs[0]?=some p:=by rw[<- b5,hi];rfl
   subst et
   refine⟨.int k.1 t::fs,KatTups.cons ho hc hd hf f1,by rw[j7,f2,j7],fun v hv=>?_⟩
   rcases b7.mp hv with rfl | hv
   ·exact⟨_,t,rfl⟩
   ·exact f3 v hv
 obtain⟨fs,f1,f2,f3⟩:=ex vs hv
 refine kat_kind (T:=.type "int") f1 (by omega) (fun v hv=>?_) (by decide) ?_
 ·obtain⟨i,t,rfl⟩:=f3 v hv
  exact .now
 ·exact h
def aM9 (P:Program)(w:World):Tim.SK P w bH1 where
 is:=(ae3 P w).is
 d0:=(0,[])
 room:=fun A=>A.units+3<G0+1
 inj:=fun hx hy=>(ae3 P w).inj hx hy
 mono:=fun h k=>(ae3 P w).mono h k
 lt:=fun hu hx hy h=>bs6 hu hx hy h
 kind:=fun hn hv h=>aX6 hn hv h
def al4 (K:W.Frag)(H:Hp)(ys:List V)(ks:List WbK):Prop:=F8 (fun y k=>∃ a,y=V.ref a/\WbI K H a k) ys ks
theorem WbI.same {K:W.Frag}{p:Addr}{k:WbK}(s:∀ b o,H b=some o->H' b=some o)(h:WbI K H p k):WbI K H' p k:=by
 obtain⟨t,zs,h1,h2,h3⟩:=h
 have f:∀ {a xs},SqT K H a xs->SqT K H' a xs:=fun {a xs} h=>by
  rcases h with(h | ⟨o,h⟩) | h
  ·exact .inl (.inl (s _ _ h))
  ·exact .inl (.inr ⟨o,s _ _ h⟩)
  ·exact .inr h
 exact⟨t,zs,f h1,f h2,Paired.mapP h3 fun _ _ ⟨a,e,z⟩=>⟨a,e,f z⟩⟩
theorem aq6 (hu:X.A.units+8<G0):P3 X (.builtin "sorted") (fun xs H Q=>∃ p ys ks,xs=[.ref p]/\SqL X.K H p ys/\al4 X.K H ys ks /\
  ∀ l zs ks',H l=none->ks'.Perm ks->ks'.Pairwise (fun a b=>ltW b a=false)->al4 X.K (upd H l (.lst zs)) zs ks'->Q (.ref l) (upd H l (.lst zs))):=by
 intro pins s σ H xs us Q I r h
 obtain⟨p,ys,ks,rfl,hq,ht,q⟩:=h
 obtain⟨u,rfl,rx⟩:=vals1 r
 cases rx
 obtain⟨its,r',pl,hz⟩:=I.list hq
 have hlen:=r'.length
 have vals_of:∀ {ys:List V} {ks:List WbK} {its:List Value},al4 X.K H ys ks->x9 ys its->F8 (fun v k=>(ae3 X.prog X.w).is s.heap k v) its ks:=fun {ys ks its} t=>by
  unfold al4 at t
  intro r
  induction t generalizing its with
  | nil=>cases r;exact .nil
  | cons h _ ih =>
   obtain⟨a,rfl,hw⟩:=h
   cases r with
   | cons ra rr =>
    cases ra
    exact .cons (an9 I hw) (ih rr)
 have hk:=vals_of ht r'
 have hv:∀ v∈its,∃ k,(aM9 X.prog X.w).is s.heap k v:=fun v hv=>by
  obtain⟨j,hj⟩:=i8.mp hv
  obtain⟨k,_,h2⟩:=A8 hk hj
  exact⟨k,h2⟩
 refine Tim.aI9 (aM9 X.prog X.w) (show X.A.in1.in1.units+3<G0+1 by rw[in1_units,in1_units];omega) pl.isList (by omega) hv fun out h' n hp hs kp e=>?_
 obtain⟨zs,pz,rz⟩:=V3 hp (N9 r')
 have rz':x9 zs out:=N9 rz
 have hzl:zs.length<=d7:=by rw[pz.length_eq];exact hz
 have hfr:H (s.heap.objs.size+1)=none:=I.hok.fresh (P5 _)
 have keepS:∀ b o,H b=some o->upd H (s.heap.objs.size+1) (.lst zs) b=some o:=fun b o e=>by rw[o6 (u9 e hfr)];exact e
 refine⟨.ref (s.heap.objs.size+1),upd H (s.heap.objs.size+1) (.lst zs),I.laid (t':=s.toks) kp (P5 _) (show D1 X.prog X.w _ h' _ (.lst zs) from ⟨hzl,out,n,rz',e⟩),rfl,?_⟩
 obtain⟨ks',pk,hk'⟩:=V3 pz (show F8 (fun y k=>∃ a,y=V.ref a/\WbI X.K H a k) ys ks from ht)
 refine q _ zs ks' hfr pk ?_ (Paired.mapP hk' fun _ _ ⟨a,e,z⟩=>⟨a,e,z.same keepS⟩)
 have hko:=vals_of (show al4 X.K H zs ks' from hk') rz'
 rw[l7]at hs ⊢
 intro i j hi hj hij
 have hl2:out.length=ks'.length:=Paired.length hko
 have:=hs i j (by omega) (by omega) hij
 obtain⟨k1,g1,g2⟩:=A8 hko (d5 (show i<out.length by omega))
 obtain⟨k2,g3,g4⟩:=A8 hko (d5 (show j<out.length by omega))
 rw[d5 hi]at g1
 rw[d5 hj]at g3
 cases g1
 cases g3
 rw[Tim.S6 (aM9 X.prog X.w) g2,Tim.S6 (aM9 X.prog X.w) g4]at this
 exact this
end L2
namespace Web
open PySem L2
def dWs (ks:List WbK):List X4:=ks.map fun k=>dW k.1 k.2
theorem aK7:∀ ks:List WbK,PyData.canLayAll0 (dWs ks)=true
 | []=>by simp[dWs,PyData.canLayAll0]
 | k::ks=>by
  have h1:=bF4 k.1 k.2
  have h2:=aK7 ks
  unfold dWs at h2 ⊢
  rw[j8]
  simp only[PyData.canLayAll0,o7]
  exact⟨h1,h2⟩
theorem bf7:∀ ks:List WbK,PyData.depthAll (dWs ks)<=4
 | []=>by simp[dWs,PyData.depthAll]
 | k::ks=>by
  have h1:=bG4 k.1 k.2
  have h2:=bf7 ks
  unfold dWs at h2 ⊢
  rw[j8]
  simp only[PyData.depthAll]at h2 ⊢
  omega
theorem bf2:∀ ks ls:List WbK,PyData.eqvAll (dWs ks) (dWs ls)=decide (ks=ls)
 | [],[]=>by simp[dWs,PyData.eqvAll]
 | [],_::_=>by simp[dWs,PyData.eqvAll]
 | _::_,[]=>by simp[dWs,PyData.eqvAll]
 | k::ks,l::ls=>by
  have h1:=bF9 k.1 l.1 k.2 l.2
  have h2:=bf2 ks ls
  unfold dWs at h2 ⊢
  rw[j8,j8]
  simp only[PyData.eqvAll,h1,h2]
  by_cases c:k=l
  ·subst c;simp
  ·have:¬ (k.1=l.1/\k.2=l.2):=fun z=>c (br5 z.1 z.2)
   by_cases c1:k.1=l.1
   ·have c2:¬ k.2=l.2:=fun z=>this ⟨c1,z⟩
    simp[c,c2]
   ·simp[c,c1]
theorem bs7 {K:W.Frag}{p:Addr}{k:WbK}(h:WbI K H p k):Dt K H (dW k.1 k.2) (.ref p):=by
 obtain⟨t,zs,h1,h2,h3⟩:=h
 exact Dt.mkT h1 (.mkC .mkInt (.mkC (Dt.mkT h2 h3.dtAll) .mkN))
theorem aI1 {K:W.Frag}:∀ {ys:List V} {ks:List WbK},al4 K H ys ks->A1 K H (dWs ks) ys
 | _,_,.nil=>A1.mkN
 | _,_,.cons ⟨a,e,h⟩ t=>by subst e;exact A1.mkC (bs7 h) (aI1 t)
theorem aX4 {K:W.Frag}{Q:VK}{b:Addr}{zs:List V}{ks ls:List WbK}(neg:Bool)(hun:A.units+64<G0)(ga:SqL K H a ys)(ha:al4 K H ys ks)(gb:SqL K H b zs)(hb:al4 K H zs ls)(q:Q (.bl (if neg then !decide (ks=ls) else decide (ks=ls))) H):ba9 K A neg (.ref a) (.ref b) H Q:=by
 refine⟨.list (dWs ks),.list (dWs ls),Dt.mkL ga (aI1 ha),Dt.mkL gb (aI1 hb),by simp[PyData.canLay0,aK7],by simp[PyData.canLay0,aK7],?_,?_⟩
 ·refine aY1 hun (o5 (aH8 _ _) ?_)
  have:=bf7 ks
  simp only[PyData.depth]
  omega
 ·have e:PyData.eqv (.list (dWs ks)) (.list (dWs ls))=decide (ks=ls):=by simp only[PyData.eqv,bf2]
  rw[e]
  exact q
theorem M7.wbI {K:W.Frag}{p:Addr}(h:M7 K H p n ks):WbI K H p ((n:Int),ks):=h
theorem bm9:∀ {ks ls:List WbK},ks.Perm ls->ks.Nodup->ks.Pairwise (fun a b=>ltW b a=false)->ls.Pairwise (fun a b=>ltW b a=false)->ks=ls:=by
 intro ks ls p nd h1 h2
 exact p.eq_of_pairwise (fun a b _ _ hab hba=>ax3 a b hba hab) h1 h2
theorem am8 (hU:∀ k∈ks,Up n k)(k:List Int):k∈ai0 n ks↔∃ a b c d:Nat,k=[(a:Int),(b:Int),(c:Int),(d:Int)]/\Fits n ks a b c d:=by
 rw[bn9 hU]
 unfold by9
 constructor
 ·intro h
  obtain⟨a,_,h⟩:=A3.mp h
  obtain⟨b,_,h⟩:=A3.mp h
  unfold bo0 at h
  split at h
  ·obtain⟨c,_,h⟩:=A3.mp h
   obtain⟨d,hd,e⟩:=l6.mp h
   exact⟨a,b,c,d,e.symm,of_decide_eq_true (j5.mp hd).2⟩
  ·cases h
 ·rintro⟨a,b,c,d,rfl,hf⟩
  have hin:=((M9 n _).mp hf.1).1
  have ha:=hin (a:Int) (by simp)
  have hb:=hin (b:Int) (by simp)
  have hc:=hin (c:Int) (by simp)
  have hd:=hin (d:Int) (by simp)
  refine A3.mpr ⟨a,k7.mpr (by omega),A3.mpr ⟨b,k7.mpr (by omega),?_⟩⟩
  unfold bo0
  rw[if_pos hf.2.1]
  exact A3.mpr ⟨c,k7.mpr (by omega),l6.mpr ⟨d,j5.mpr ⟨k7.mpr (by omega),decide_eq_true hf⟩,rfl⟩⟩
end Web
namespace HT
open PySem PyProof.Rows
end HT
namespace L2
open PySem PySem.Spec PyProof.Rows
section
variable {st:Expr} {ts:TE} {p2:Pos}
end
end L2
namespace Web
open PySem L2
theorem bF1:ar1 (CXE P w) X E0:=fun _ _ _ _ _ _ _ h=>by
 obtain⟨_,_,_,_,_,_,_,_,_,_,_,hE⟩:=h
 exact hE.elim
theorem ae7 {K:W.Frag}{u ob:HO}(hl:H l=some u)(nt:∀ xs,u≠.tup xs/\∀ o,u≠.frz o (.tup xs))(h:SqT K H a xs):SqT K (upd H l ob) a xs:=by
 rcases h with(h | ⟨o,h⟩) | h
 ·exact .inl (.inl (by rw[o6 (fun z=>by rw[z,hl]at h;injection h with h;exact(nt xs).1 h)];exact h))
 ·exact .inl (.inr ⟨o,by rw[o6 (fun z=>by rw[z,hl]at h;injection h with h;exact(nt xs).2 o h)];exact h⟩)
 ·exact .inr h
theorem ae4 {K:W.Frag}{p:Addr}{k:WbK}{u ob:HO}(hl:H l=some u)(nt:∀ xs,u≠.tup xs/\∀ o,u≠.frz o (.tup xs))(h:WbI K H p k):WbI K (upd H l ob) p k:=by
 obtain⟨t,zs,h1,h2,h3⟩:=h
 exact⟨t,zs,ae7 hl nt h1,ae7 hl nt h2,Paired.mapP h3 fun _ _ ⟨a,e,z⟩=>⟨a,e,ae7 hl nt z⟩⟩
theorem ntL (ys:List V):∀ xs,HO.lst ys≠.tup xs/\∀ o,HO.lst ys≠.frz o (.tup xs):=fun xs=>⟨(fun z=>by cases z),(fun o z=>by cases z)⟩
theorem ntX (φ:Heap->Prop):∀ xs,HO.ext φ≠.tup xs/\∀ o,HO.ext φ≠.frz o (.tup xs):=fun xs=>⟨(fun z=>by cases z),(fun o z=>by cases z)⟩
def ad5 (n:Nat):List (List Int):=(n6 n).flatMap fun j:Nat=>(n6 j).map fun i:Nat=>[(i:Int),(j:Int)]
theorem aE4:k∈ad5 n↔Up n k:=by
 unfold ad5
 rw[A3]
 constructor
 ·rintro⟨j,hj,h⟩
  obtain⟨i,hi,rfl⟩:=l6.mp h
  exact⟨i,j,k7.mp hi,k7.mp hj,rfl⟩
 ·rintro⟨i,j,h1,h2,rfl⟩
  exact⟨j,k7.mpr h2,l6.mpr ⟨i,k7.mpr h1,rfl⟩⟩
def Wof (n:Nat)(ss:List Int)(k:WbK):Prop:=∃ F,k=((n:Int),F)/\Wbs n F/\tal n F=ss
theorem aw1 (nd:prs.Nodup)(hp:∀ k,k∈prs↔Up n k)(hW:Wbs n F)(ht:tal n F=ss):(prs.filter fun x=>decide (x∈F))∈Y6 n ss prs/\F.Perm (prs.filter fun x=>decide (x∈F)):=by
 have pm:F.Perm (prs.filter fun x=>decide (x∈F)):=(C6 hW.nd (nd.filter _)).mpr fun x=>by
  rw[j5,decide_eq_true_eq,hp]
  exact⟨fun h=>⟨hW.up x h,h⟩,fun h=>h.2⟩
 refine⟨j5.mpr ⟨?_,?_⟩,pm⟩
 ·have:=aC9 (n:=n) (ss:=ss) (W:=F) (fun p hpn=>by rw[<- ht,S9 hpn]) (ps:=prs.reverse) (fun k hk=>(hp k).mp (C0.mp hk)) ((B3 prs).nodup_iff.mpr nd)
  rw[List.reverse_reverse]at this
  exact this
 ·rw[decide_eq_true_eq,<- ao2 pm]
  exact ht
theorem be9 (nd:prs.Nodup)(hp:∀ k,k∈prs↔Up n k){ks:List WbK}(hk:ks.Nodup)(hw:∀ k∈ks,Wof n ss k):ks.length<=(Y6 n ss prs).length:=by
 have h:=List.Nodup.length_le_of_subset (l₁:=ks.map fun k=>prs.filter fun x=>decide (x∈k.2)) (l₂:=Y6 n ss prs) ?_ ?_
 ·rwa [b6]at h
 ·unfold List.Nodup
  rw[A0]
  refine List.Pairwise.imp_of_mem ?_ hk
  intro a b ha hb hab e
  obtain⟨F,rfl,hF,tF⟩:=hw a ha
  obtain⟨G,rfl,hG,tG⟩:=hw b hb
  have p1:=(aw1 nd hp hF tF).2
  have p2:=(aw1 nd hp hG tG).2
  have e:(prs.filter fun x=>decide (x∈F))=prs.filter fun x=>decide (x∈G):=e
  have:=hF.eq hG fun x=>(p1.trans (e ▸ p2.symm)).mem_iff
  exact hab (by rw[this])
 ·intro x hx
  obtain⟨k,hk',rfl⟩:=l6.mp hx
  obtain⟨F,rfl,hF,tF⟩:=hw k hk'
  exact(aw1 nd hp hF tF).1
theorem aW6 {ks:List WbK}(hF:Wbs n F)(ht:tal n F=ss)(h0:((n:Int),F)∈ks)(cl:∀ M,((n:Int),M)∈ks->Wbs n M->∀ (a b c d:Nat) M',Fits n M a b c d->Wbs n M'->M'.Perm ((exL M a b c d).map up)->((n:Int),M')∈ks):∀ L,Wbs n L->tal n L=ss->((n:Int),L)∈ks:=fun L hL hl=>by
 have r:=aO6 _ hF hL (ht.trans hl.symm) (c6 _)
 clear hL hl
 induction r with
 | refl=>exact h0
 | step _ h1 h2 h3 h4 ih=>exact cl _ ih h1 _ _ _ _ _ h2 h3 h4
theorem aX8 (hu:∀ k∈ks,Up n k)(nd:ks.Nodup)(p:ls.Perm ks)(so:ls.Pairwise (fun a b=>Tim.F4 b a=false)):Wbs n ls:=⟨fun k hk=>hu k (p.mem_iff.mp hk),p.nodup_iff.mpr nd,so⟩
theorem bp5 (h:Up n k):k≠[]:=by
 obtain⟨i,j,_,_,rfl⟩:=h
 simp
seal L2.PE L2.PA L2.PS L2.PSs L2.PT
structure Kn (P:Program) (w:World) (K:W.Frag) (H0 H:Hp) (n:Nat) (ss:List Int) (F1:List (List Int)) (kn wt:Addr) (xs ws:List (WbK × Addr)):Prop where
 sm:A5 H0 H
 wd:WDa P w K H kn xs
 at_:H wt=some (.lst (ws.map fun x=>V.ref x.2))
 wof:∀ x∈xs,Wof n ss x.1
 nd:(xs.map (·.1)).Nodup
 f1:((n:Int),F1)∈xs.map (·.1)
 sub:∀ x∈ws,x∈xs
theorem Kn.same' {K:W.Frag}{H0:Hp}{F1:List (List Int)}{kn wt:Addr}{xs:List (WbK × Addr)}(h:Kn P w K H0 H n ss F1 kn wt xs ws)(s:A5 H H'):Kn P w K H0 H' n ss F1 kn wt xs ws:=
 ⟨h.sm.trans s,⟨s _ _ h.wd.at_,fun x hx=>WbI.same s (h.wd.keys x hx)⟩,s _ _ h.at_,h.wof,h.nd,h.f1,h.sub⟩
theorem Kn.put {K:W.Frag}{H0:Hp}{F1:List (List Int)}{kn wt:Addr}{xs ws':List (WbK × Addr)}(h:Kn P w K H0 H n ss F1 kn wt xs ws)(fw:H0 wt=none)(ne:kn≠wt)(sub:∀ x∈ws',x∈xs):Kn P w K H0 (upd H wt (.lst (ws'.map fun x=>V.ref x.2))) n ss F1 kn wt xs ws':=
 ⟨h.sm.upd fw,⟨by rw[o6 ne];exact h.wd.at_,fun x hx=>ae4 h.at_ (ntL _) (h.wd.keys x hx)⟩,b8,h.wof,h.nd,h.f1,sub⟩
theorem aO8:(ad5 n).Nodup:=by
 unfold ad5 List.Nodup
 rw[ag8]
 refine⟨fun j _=>A0.mpr (ac7.imp fun {a b} h e=>h ?_),ac7.imp fun {a b} h x hx y hy e=>h ?_⟩
 ·injection e with e _
  omega
 ·obtain⟨p,_,rfl⟩:=l6.mp hx
  obtain⟨q,_,rfl⟩:=l6.mp hy
  injection e with _ e
  injection e with e _
  omega
theorem aC8:∀ ps:List (List Int),(L5 ss ps).length<=2 ^ ps.length
 | []=>c6 _
 | k::ps=>by
  have ih:=aC8 ps
  have h:∀ l:List (List (List Int)),(l.flatMap (O5 ss k)).length<=2*l.length:=fun l=>by
   induction l with
   | nil=>exact c6 _
   | cons x l ih2 =>
    rw[E9,c9,j7]
    have:(O5 ss k x).length<=2:=by
     unfold O5
     split<;>simp
    omega
  have:=h (L5 ss ps)
  rw[j7,bi1]
  show ((L5 ss ps).flatMap (O5 ss k)).length<=_
  omega
theorem bb5 (h:n<=5):(ad5 n).length<=10:=by
 match n,h with
 | 0,_=>decide
 | 1,_=>decide
 | 2,_=>decide
 | 3,_=>decide
 | 4,_=>decide
 | 5,_=>decide
theorem aH0 (h:n<=5):(Y6 n ss (ad5 n)).length<=1024:=by
 refine o5 (G9 _ _) (o5 (aC8 _) ?_)
 rw[List.length_reverse]
 exact aj7 (show 0<2 by decide) (bb5 h)
theorem Kn.add {K:W.Frag} {H0:Hp} {F1:List (List Int)} {kn wt r:Addr} {k:WbK} {xs:List (WbK × Addr)} (h:Kn P w K H0 H n ss F1 kn wt xs ws) (fkn':H0 kn=none) (ne:kn≠wt) (hw:∀ x∈xs++[(k,r)],Wof n ss x.1) (hnd:((xs++[(k,r)]).map fun x=>x.1).Nodup) (hr:WbI K H r k):Kn P w K H0 (upd H kn (.ext (ac4 P w kn (xs++[(k,r)])))) n ss F1 kn wt (xs++[(k,r)]) ws:=
 ⟨h.sm.upd fkn', ⟨b8, fun x hx => by
  rcases j0.mp hx with hx | hx
  ·exact ae4 h.wd.at_ (ntX _) (h.wd.keys x hx)
  ·rw[a8.mp hx];exact ae4 h.wd.at_ (ntX _) hr⟩,by rw[o6 (Ne.symm ne)];exact h.at_,hw,hnd,by rw[n4];exact m6 _ h.f1,fun x hx=>m6 _ (h.sub x hx)⟩
theorem av8 {K:W.Frag}:∀ {ws:List (WbK × Addr)},(∀ x∈ws,WbI K H x.2 x.1)->al4 K H (ws.map fun x=>V.ref x.2) (ws.map fun x=>x.1)
 | [],_=>.nil
 | x::ws,h=>.cons ⟨x.2,rfl,h x b4⟩ (av8 fun y hy=>h y (b9 _ hy))
theorem aA7 {K:W.Frag}:∀ {ys:List V} {ks:List WbK} {y:V} {k:WbK},al4 K H ys ks->(∃ a,y=V.ref a/\WbI K H a k)->al4 K H (ys++[y]) (ks++[k])
 | _,_,_,_,.nil,h=>.cons h .nil
 | _,_,_,_,.cons a as,h=>.cons a (aA7 as h)
theorem aO9 {α β:Type}{R:α->β->Prop}:∀ {us:List α} {ks:List β} {u:α} {k:β},F8 R us ks->R u k->F8 R (us++[u]) (ks++[k])
 | _,_,_,_,.nil,h=>.cons h .nil
 | _,_,_,_,.cons a as,h=>.cons a (aO9 as h)
theorem bx1 {K:W.Frag}{Q:VK}{u:Addr}{zs us:List V}{js:List (List Int)}(hun:A.units+64<G0)(gl:H l=some (.lst zs))(tz:v7 K H zs ks)(gu:H u=some (.lst us))(tu:v7 K H us js)(k:Q (.bl (decide (ks=js))) H):ba9 K A false (.ref l) (.ref u) H Q:=by
 refine⟨.list (ks.map dP),.list (js.map dP),Dt.mkL (SqL.of gl) (A1.tups tz),Dt.mkL (SqL.of gu) (A1.tups tu),by simp[PyData.canLay0,S5],by simp[PyData.canLay0,S5],?_,?_⟩
 ·refine aY1 hun (o5 (aH8 _ _) ?_)
  have:=ai3 ks
  simp only[PyData.depth]
  omega
 ·have e:PyData.eqv (.list (ks.map dP)) (.list (js.map dP))=decide (ks=js):=by simp only[PyData.eqv,ai2]
  rw[e]
  exact k
theorem bn8 {dk:List WbK}(nd:prs.Nodup)(hp:∀ k,k∈prs↔Up n k)(p:F8 (fun(ks':List (List Int)) (k:WbK)=>∃ L,k=((n:Int),L)/\L.Perm ks'/\Wbs n L) (Y6 n ss prs) dk)(k:WbK):k∈dk↔Wof n ss k:=by
 constructor
 ·intro h
  obtain⟨i,hi⟩:=i8.mp h
  obtain⟨ks',hk,L,e,hL,hW⟩:=A8 (N9 p) hi
  have:=of_decide_eq_true (j5.mp (c8 hk)).2
  exact⟨L,e,hW,by rw[ao2 hL];exact this⟩
 ·rintro⟨F,rfl,hF,tF⟩
  obtain⟨h1,h2⟩:=aw1 nd hp hF tF
  obtain⟨i,hi⟩:=i8.mp h1
  obtain⟨k,hk,L,e,hL,hW⟩:=A8 p hi
  have:=hF.eq hW fun x=>(h2.trans hL.symm).mem_iff
  rw[this,<- e]
  exact c8 hk
theorem by8 {dk:List WbK}(nd:prs.Nodup)(p:F8 (fun(ks':List (List Int)) (k:WbK)=>∃ L,k=((n:Int),L)/\L.Perm ks'/\Wbs n L) (Y6 n ss prs) dk):dk.Nodup:=by
 have ndr:=(B3 prs).nodup_iff.mpr nd
 have na:(Y6 n ss prs).Nodup:=(aO2 ndr).filter _
 have hl:=Paired.length p
 unfold List.Nodup at na ⊢
 rw[l7]at na ⊢
 intro i j hi hj hij e
 obtain⟨k1,h1,L1,e1,q1,_⟩:=A8 p (d5 (show i<(Y6 n ss prs).length by omega))
 obtain⟨k2,h2,L2,e2,q2,_⟩:=A8 p (d5 (show j<(Y6 n ss prs).length by omega))
 rw[d5 hi]at h1
 rw[d5 hj]at h2
 cases h1
 cases h2
 rw[e1,e2]at e
 injection e with _ e
 subst e
 exact na i j (by omega) (by omega) hij (aU0 ndr (j5.mp (ac8 _)).1 (j5.mp (ac8 _)).1 (q1.symm.trans q2))
theorem bn7 {dk:List WbK}(hF:Wbs n F)(ht:tal n F=ss)(h:∀ k,k∈dk↔Wof n ss k)(nd:dk.Nodup):dk.length=1↔ai0 n F=[]:=by
 have h0:((n:Int),F)∈dk:=(h _).mpr ⟨F,rfl,hF,ht⟩
 constructor
 ·intro h1
  rw[List.eq_nil_iff_forall_not_mem]
  intro k hk
  obtain⟨a,b,c,d,rfl,hf⟩:=(am8 hF.up k).mp hk
  have ex:=O6 hF.up hF.nd hf (List.Perm.refl _)
  obtain⟨M,hp,hW⟩:=aI6 ex.1 ex.2.1
  have ex':=O6 hF.up hF.nd hf hp
  have h2:((n:Int),M)∈dk:=(h _).mpr ⟨M,rfl,hW,ex'.2.2.trans ht⟩
  obtain⟨z,rfl⟩:=List.length_eq_one_iff.mp h1
  have e:=(a8.mp h0).trans (a8.mp h2).symm
  injection e with _ e
  subst e
  exact hf.2.2.2.1 ((Y4 hF.up hF.nd hf hp _).mpr (.inr (.inl rfl)))
 ·intro h1
  have hall:∀ k∈dk,k=((n:Int),F):=fun k hk=>by
   obtain⟨L,rfl,hL,tL⟩:=(h k).mp hk
   have r:=aO6 _ hF hL (ht.trans tL.symm) (c6 _)
   have:L=F:=by
    clear hL tL hk
    induction r with
    | refl=>rfl
    | @step M M' a b c d _ w1 hf _ _ ih =>
     subst ih
     have:=(am8 w1.up _).mpr ⟨a,b,c,d,rfl,hf⟩
     rw[h1]at this
     cases this
   rw[this]
  match dk,hall,nd,h0 with
  | [x],_,_,_=>rfl
  | x::y::r,hall,nd,_ =>
   have e1:=hall x b4
   have e2:=hall y (b9 _ b4)
   exact absurd (e1.trans e2.symm) (G8.mp nd |>.1 y b4)
def Clo (n:Nat)(xs:List (WbK × Addr))(M:List (List Int)):Prop:=∀ (a b c d:Nat) M',Fits n M a b c d->Wbs n M'->M'.Perm ((exL M a b c d).map up)->((n:Int),M')∈xs.map (·.1)
theorem Clo.mono {xs ys:List (WbK × Addr)}{M:List (List Int)}(h:Clo n xs M)(s:∀ x∈xs,x∈ys):Clo n ys M:=fun a b c d M' h1 h2 h3=>by
 obtain⟨x,hx,e⟩:=l6.mp (h a b c d M' h1 h2 h3)
 exact l6.mpr ⟨x,s x hx,e⟩
section
variable {K:W.Frag} {mg:Str->Option Value} {base:Heap}
def aB9 (K:W.Frag):Sp:=fun vs H Q _=>∃ (a:Addr) (ns:List Int),vs=[.ref a]/\SqL K H a (ns.map V.int)/\ns.length<=63/\∀ H',Q (.bl true) H'
theorem ac6:A7 ["script","places","ties","first","known","waiting","web","four","behind","due"] ["script"] (p5 aJ4):=.mk'
set_option maxHeartbeats 4000000 in
theorem bm2 {fP fD fW fA fS fX fE CE:Addr} {fdP fdD fdW fdA fdS fdX fdE:FuncData} (F:Fun K "law" "law" aJ4 f fd) (B:Bn mg)
  (FP:Fq K mg "_law_places" aC5 fP fdP ["script","most"]) (GP:B6 P w K mg base CX0 6 fP fdP ["script","most"] (aZ4 K))
  (FD:Fq K mg "_law_ties" ao6 fD fdD ["script","places"]) (GD:B6 P w K mg base CX0 6 fD fdD ["script","places"] (aN5 K))
  (FW:Fq K mg "_law_web" aC2 fW fdW ["places","ties"]) (GW:B6 P w K mg base CX0 6 fW fdW ["places","ties"] (aZ1 K))
  (FA:Fq K mg "_law_all_of" ao8 fA fdA ["places","sums"]) (GA:B6 P w K mg base CX0 6 fA fdA ["places","sums"] (aN8 K))
  (FS:Fq K mg "_law_sums" aC4 fS fdS ["places","ties"]) (GS:B6 P w K mg base CX0 6 fS fdS ["places","ties"] (aZ3 K))
  (FX:Fq K mg "exchanges_of" ba0 fX fdX ["web"]) (GX:B6 P w K mg base CX0 6 fX fdX ["web"] (bp9 K))
  (FE:Fq K mg "exchanged" ba1 fE fdE ["web","four"]) (GE:B6 P w K mg base (CXE P w) 6 fE fdE ["web","four"] (aZ6 K CE)):B6 P w K mg base CX0 7 f fd ["script"] (aB9 K):=by
 refine F.ok ac6 (fun cdv A outer s H vs Q E hr h=>?_)
 obtain⟨sc,ns,rfl,hS,hlen,q⟩:=h
 have hsl:=T5
 have hun:=hr.units
 have hu8:_+8<G0:=bA3 (L4 (by decide:8<=64) _) hun
 have nd2:(["other","places"]:List Str).Nodup:=by decide +kernel
 refine⟨_,j9 (D5 (i:=1) ac6.nd rfl (Or.inr rfl) (E6 GP hr (by rfl) FP E1 (a7 (pv 0) (a7 k8 g7))))
  (j9 (D5 (i:=2) ac6.nd rfl (Or.inl rfl) (bv0 (E6 GD hr (by rfl) FD E1 (a7 (pv 0) (a7 (pv 1) g7)))))
  (j9 (D5 (i:=3) ac6.nd rfl (Or.inl rfl) (E6 GW hr (by rfl) FW E1 (a7 (pv 1) (a7 (pv 2) g7))))
  (j9 (D5 (i:=4) ac6.nd rfl (Or.inl rfl) (bl2 hu8 (pv 3) at1))
  (j9 (D5 (i:=5) ac6.nd rfl (Or.inl rfl) (P8 (a7 (pv 3) g7)))
  (j9 (bb1 PassesOwn.never (F2 bv5 (pv 5) (P8 g7) (J5 _))
   (j9 (D5 (i:=6) ac6.nd rfl (Or.inl rfl) (bv1 PySem.F.plainAttrs_list PySem.F.slot_list_pop PySem.F.type_list_pop bx0 (pv 5)))
   (o3 (T7 PassesOwn.never rfl (S1 (E6 GX hr (by rfl) FX E1 (a7 (pv 6) g7))) (A6 (i := 7) ac6.nd rfl (Or.inl rfl))
    (j9 (D5 (i:=8) ac6.nd rfl (Or.inl rfl) (E6 GE hr (by rfl) FE (bF1 (P:=P) (w:=w)) (a7 (pv 6) (a7 (pv 7) g7))))
    (o3 (P2 (bu8 (aU2 hu8 (pv 8) (pv 4)))
     (j9 (bl0 hu8 (pv 4) (pv 8) at1 rfl)
     (o3 (S0 (ap1 PySem.F.plainAttrs_list PySem.F.slot_list_append PySem.F.type_list_append L9 (pv 5) (a7 (pv 8) g7))))) E4)))))))
  (j9 (aw4 (i:=9) (N':=["other","places"]) (lk:=[none,some 1]) ac6.nd rfl rfl (by rfl) rfl (S1 (E6 GA hr (by rfl) FA E1 (a7 (pv 1) (a7 (E6 GS hr (by rfl) FS E1 (a7 (pv 1) (a7 (pv 2) g7))) g7)))) (by rfl) rfl (by decide +kernel) (by exact⟨rfl,trivial⟩) (by rfl) (by exact LkL.ok ⟨⟨rfl,Or.inl rfl,rfl,Or.inl rfl⟩,trivial⟩)
    (fun _ _ _=>A6 (i:=0) nd2 rfl (Or.inl rfl)) (fun _ _ _=>X9) (fun _ _ _=>E6 GW hr (by rfl) FW E1 (a7 (pv 1) (a7 (pv 0) g7))))
  (o3 (D6 (bc2 (Y1 aK2 (A9 (aq6 hu8) (by rfl) B.sorted (by rfl) (a7 (K7 (aG3 rfl) (by rfl) B.list (by rfl) (a7 (pv 4) g7)) g7)) (A9 (aq6 hu8) (by rfl) B.sorted (by rfl) (a7 (pv 9) g7)) (J5 _))
   (bb8 (Y1 at4 (Y1 at4 (A9 M4 (by rfl) B.len PySem.boot_len (a7 (pv 9) g7)) k8 (J5 _)) (Y1 aK2 (E6 GX hr (by rfl) FX E1 (a7 (pv 3) g7)) (P8 g7) (J5 _)) (J5 _)))))))))))),?_⟩
 refine⟨_,rfl,sc,ns,rfl,hS,fun n n1 n5=>?_⟩
 refine o8 ?_
 have n24:n<=24:=by omega
 refine⟨_,rfl,_,rfl,sc,ns,n,rfl,hS,n24,fun d ks H1 s1 fd td hkl hu nd=>?_⟩
 obtain⟨kvs,gd,ek⟩:=td
 refine⟨d,kvs,rfl,gd,fun o=>?_⟩
 have s2:=s1.upd (o:=.frz o (.dT kvs)) fd
 have tf:TF (upd H1 d (.frz o (.dT kvs))) d ks:=⟨o,kvs,b8,ek⟩
 generalize upd H1 d (.frz o (.dT kvs))=H2 at s2 tf ⊢
 refine o8 ?_
 refine⟨_,rfl,_,rfl,d,n,ks,rfl,tf.toR,hkl,fun k hk=>bp5 (hu k hk),fun pf F1 H3 s3 hp1 so1 hW=>?_⟩
 refine o8 ?_
 have W1:=aX8 hu nd hp1 so1
 have tf3:=tf.same s3
 have hss:tal n F1=tal n ks:=ao2 hp1 n
 refine fun kn fkn=>⟨_,rfl,?_⟩
 have skn:=f7 (o:=.ext (ac4 P w kn [])) fkn
 refine⟨pf,((n:Int),F1),rfl,rfl,b8,M7.wbI (hW.same skn),?_⟩
 rw[av9]
 have skn1:=f7 (o:=.ext (ac4 P w kn [(((n:Int),F1),pf)])) fkn
 refine o8 ?_
 refine⟨_,rfl,(by show 1<=d7;decide),fun wt fwt=>?_⟩
 have swt:=f7 (o:=.lst [.ref pf]) fwt
 have fwt3:H3 wt=none:=skn1.free fwt
 have nkw:kn≠wt:=u9 b8 fwt
 refine o8 ?_
 have K0:Kn P w K H3 (upd (upd H3 kn (.ext (ac4 P w kn [(((n:Int),F1),pf)]))) wt (.lst [.ref pf])) n (tal n ks) F1 kn wt [(((n:Int),F1),pf)] [(((n:Int),F1),pf)]:=
  ⟨skn1.trans swt,⟨swt _ _ b8,fun x hx=>by rw[a8.mp hx];exact M7.wbI (hW.same (skn1.trans swt))⟩,b8,fun x hx=>by rw[a8.mp hx];exact⟨F1,rfl,W1,hss⟩,j1.mpr ⟨j4,t5⟩,b4,fun x hx=>hx⟩
 refine⟨fun m σ H'=>∃ (xs ws:List (WbK × Addr)) (e6 e7 e8:Option V),m=2*((Y6 n (tal n ks) (ad5 n)).length - xs.length)+ws.length/\σ=[some (.ref sc),some (.int n),some (.ref d),some (.ref pf),some (.ref kn),some (.ref wt),e6,e7,e8,none]/\Kn P w K H3 H' n (tal n ks) F1 kn wt xs ws/\(∀ x∈xs,x∉ws->∀ M,x.1=((n:Int),M)->Clo n xs M)/\2*((Y6 n (tal n ks) (ad5 n)).length - xs.length)+ws.length<=2*(Y6 n (tal n ks) (ad5 n)).length+1,
  ⟨_,[(((n:Int),F1),pf)],[(((n:Int),F1),pf)],none,none,none,rfl,rfl,K0,fun x hx hn=>absurd hx hn,by rw[v9];omega⟩,?_⟩
 rintro m σ H' ⟨xs,ws,e6,e7,e8,rfl,rfl,I,cl,hbd⟩
 refine⟨_,rfl,(by show 0<=d7;omega),fun le fe=>?_⟩
 have se:=f7 (o:=.lst []) fe
 refine aX4 true hun (SqL.of (se _ _ I.at_)) (av8 fun x hx=>WbI.same se (I.wd.keys x (I.sub x hx))) (SqL.of b8) .nil ⟨_,rfl,?_⟩
 rw[if_pos rfl]
 have I:=I.same' se
 generalize upd H' le (.lst [])=H5 at I ⊢
 clear se fe
 by_cases hws:ws.map (fun x:WbK × Addr=>x.1)=[]
 ·rw[decide_eq_true hws]
  refine P9 ?_
  have hws0:ws=[]:=List.map_eq_nil_iff.mp hws
  subst hws0
  have allk:=aW6 W1 hss I.f1 (fun M hM hW'=>by
   obtain⟨x,hx,e⟩:=l6.mp hM
   exact cl x hx j4 M e)
  refine⟨_,rfl,_,rfl,_,rfl,n,d,ks,rfl,n24,tf3.same I.sm,by omega,fun sl H6 s6 gs=>?_⟩
  refine⟨n,sl,tal n ks,rfl,n5,gs,O4 _ _,fun l us prs H7 s7 gl ndp hpp hul fnd=>?_⟩
  have hsz:d7=16777216:=PySem.sizeLine_eq
  have rsub:∀ ks'∈Y6 n (tal n ks) prs,(∀ k∈ks',Up n k)/\ks'.Nodup/\tal n ks'=tal n ks:=fun ks' h=>by
   obtain⟨h1,h2⟩:=j5.mp h
   obtain⟨h3,h4⟩:=ao9 ((B3 prs).nodup_iff.mpr ndp) h1
   exact⟨fun k hk=>(hpp k).mp (C0.mp (h3 k hk)),h4,of_decide_eq_true h2⟩
  refine⟨l,rfl,⟨_,SqL.of gl⟩,fun D hD=>ai4 (K:=K) (a:=l) (D:=D) (ys:=us) (fun m zs σ' H8=>(∃ v,σ'=[v,some (.int n)])/\A5 H7 H8/\H8 D=some (.lst zs)/\∃ dk:List WbK,al4 K H8 zs dk/\F8 (fun(ks':List (List Int)) (k:WbK)=>∃ L,k=((n:Int),L)/\L.Perm ks'/\Wbs n L) ((Y6 n (tal n ks) prs).take m) dk)
   ⟨⟨none,rfl⟩,f7 hD,b8,[],.nil,by rw[S8];exact .nil⟩ (by omega) (fun m zs σ' H8 hm ⟨_,s8,g8,dk,w8,p8⟩=>⟨SqL.of (s8 _ _ gl),g8,by have h1:=Paired.length w8;have h2:=Paired.length p8;rw[y9]at h2;omega⟩) ?_ ?_⟩
  ·rintro m zs x σ' H8 N kN hx ⟨⟨v,rfl⟩,s8,g8,dk,w8,p8⟩
   obtain⟨ks',hks',d',rfl,td'⟩:=A8 fnd hx
   obtain⟨u1,u2,u3⟩:=rsub ks' (c8 hks')
   have hkl':=ao0 n24 u2 u1
   refine o8 (T4 ?_)
   refine⟨_,rfl,_,rfl,d',n,ks',rfl,(td'.same s8).toR,by omega,fun k hk=>bp5 (u1 k hk),fun p L H9 s9 hpL soL hWL=>?_⟩
   refine⟨s9 _ _ g8,kN _ _ _ ⟨⟨_,rfl⟩,(s8.trans s9).upd hD,b8,dk++[((n:Int),L)],?_,?_⟩⟩
   ·refine aA7 (Paired.mapP w8 fun _ _ ⟨a,e,z⟩=>⟨a,e,ae4 (s9 _ _ g8) (ntL _) (WbI.same s9 z)⟩) ⟨p,rfl,ae4 (s9 _ _ g8) (ntL _) (M7.wbI hWL)⟩
   ·rw[u6,hks']
    exact aO9 p8 ⟨L,rfl,hpL,aX8 u1 u2 hpL soL⟩
  rintro zs σ' H8 ⟨⟨v,rfl⟩,s8,g8,dk,w8,p8⟩
  have hfl:=Paired.length fnd
  rw[hfl,V1]at p8
  have hkk:∀ k:WbK,k∈(xs.map fun x=>x.1)↔Wof n (tal n ks) k:=fun k=>⟨fun h=>by
   obtain⟨x,hx,rfl⟩:=l6.mp h
   exact I.wof x hx,fun⟨L,e,hL,tL⟩=>by rw[e];exact allk L hL tL⟩
  have hdk:=bn8 ndp hpp p8
  have hdn:=by8 ndp p8
  have hpm:(xs.map fun x=>x.1).Perm dk:=(C6 I.nd hdn).mpr fun k=>(hkk k).trans (hdk k).symm
  have hone:=bn7 W1 hss hdk hdn
  have hfew:=be9 (n:=n) (ss:=tal n ks) (prs:=ad5 n) aO8 (fun k=>aE4) I.nd (fun k hk=>(hkk k).mp hk)
  rw[b6]at hfew
  have hT:=aH0 (n:=n) (ss:=tal n ks) n5
  have hzl:zs.length=dk.length:=Paired.length w8
  have J:=I.same' (s6.trans (s7.trans s8))
  have hWp:=hW.same J.sm
  refine o8 ?_
  refine⟨_,rfl,kn,xs,rfl,J.wd,by omega,fun lk flk=>?_⟩
  have sk:=f7 (o:=.lst (xs.map fun x=>V.ref x.2)) flk
  refine⟨lk,_,_,rfl,SqL.of b8,av8 fun x hx=>WbI.same sk (J.wd.keys x hx),fun l1 zs1 k1 fl1 pk1 so1 w1=>?_⟩
  have sl1:=f7 (o:=.lst zs1) fl1
  have sD:=sk.trans sl1
  refine⟨_,rfl,D,zs,dk,rfl,SqL.of (sD _ _ g8),Paired.mapP w8 (fun _ _ ⟨a,e,z⟩=>⟨a,e,WbI.same sD z⟩),fun l2 zs2 k2 fl2 pk2 so2 w2=>?_⟩
  have sl2:=f7 (o:=.lst zs2) fl2
  have ek12:k1=k2:=bm9 (pk1.trans (hpm.trans pk2.symm)) (pk1.nodup_iff.mpr I.nd) so1 so2
  refine aX4 false hun (SqL.of (sl2 _ _ b8)) (Paired.mapP w1 fun _ _ ⟨a,e,z⟩=>⟨a,e,WbI.same sl2 z⟩) (SqL.of b8) w2 ?_
  rw[if_neg c7,decide_eq_true ek12]
  refine⟨_,rfl,W8 ?_⟩
  have sE:=sD.trans sl2
  have hMl:=ao0 n24 W1.nd W1.up
  refine⟨_,rfl,D,zs,rfl,.inl (SqL.of (sE _ _ g8)),rfl,?_⟩
  refine⟨_,rfl,pf,n,F1,rfl,hWp.same sE,by omega,by omega,W1.up,az0 W1.up W1.nd W1.so,fun l3 ys H9 s9 fl3 gl3 tys hyl=>?_⟩
  refine⟨(by show 0<=d7;omega),fun l4 f4=>?_⟩
  have s4:=f7 (o:=.lst []) f4
  refine bx1 hun (s4 _ _ gl3) (s4.tups tys) b8 .nil ?_
  refine⟨rfl,?_⟩
  have e1:decide ((zs.length:Int)=1)=decide (ai0 n F1=[]):=by
   rw[decide_eq_decide,<- hone,<- hzl]
   omega
  have e2:decide (V.int (zs.length:Int)=V.int 1)=decide (ai0 n F1=[]):=by
   rw[<- e1,decide_eq_decide]
   exact⟨fun h=>by injection h,fun h=>by rw[h]⟩
  have e3:decide (V.bl (decide (V.int (zs.length:Int)=V.int 1))=V.bl (decide (ai0 n F1=[])))=true:=decide_eq_true (by rw[e2])
  show Q (.bl (decide (V.bl (decide (V.int (zs.length:Int)=V.int 1))=V.bl (decide (ai0 n F1=[]))))) _
  rw[e3]
  exact q _
 ·rw[decide_eq_false hws]
  refine W8 ?_
  refine⟨fun σ' H''=>∃ (xs' ws':List (WbK × Addr)) (e6 e7 e8:Option V),2*((Y6 n (tal n ks) (ad5 n)).length - xs'.length)+ws'.length<2*((Y6 n (tal n ks) (ad5 n)).length - xs.length)+ws.length/\σ'=[some (.ref sc),some (.int n),some (.ref d),some (.ref pf),some (.ref kn),some (.ref wt),e6,e7,e8,none]/\Kn P w K H3 H'' n (tal n ks) F1 kn wt xs' ws'/\∀ x∈xs',x∉ws'->∀ M,x.1=((n:Int),M)->Clo n xs' M,
   fun σ' H'' ⟨xs',ws',e6,e7,e8,z0,z1,z2,z3⟩=>⟨_,z0,xs',ws',e6,e7,e8,rfl,z1,z2,z3,by omega⟩,?_⟩
  obtain⟨ws0,y,rfl⟩:∃ ws0 y,ws=ws0++[y]:=by
   rcases List.eq_nil_or_concat ws with z | ⟨a,b,z⟩
   ·exact absurd (by rw[z];rfl) hws
   ·exact⟨a,b,by rw[z,List.concat_eq_append]⟩
  have elast:((ws0++[y]).map fun x=>V.ref x.2)[((ws0++[y]).map fun x=>V.ref x.2).length - 1]?=some (.ref y.2):=by simp
  have edrop:((ws0++[y]).map fun x=>V.ref x.2).dropLast=ws0.map fun x=>V.ref x.2:=by simp
  refine⟨_,rfl,.inl ⟨rfl,_,SqL.of I.at_⟩,wt,_,_,rfl,rfl,I.at_,elast,?_⟩
  rw[edrop]
  refine o8 ?_
  have J:=I.put (ws':=ws0) fwt3 nkw fun x hx=>I.sub x (m6 _ hx)
  generalize upd H5 wt (.lst (ws0.map fun x=>V.ref x.2))=H6 at J ⊢
  have hy:y∈xs:=I.sub y (d6 _ b4)
  obtain⟨M,ey,WM,tM⟩:=I.wof y hy
  have hyW:M7 K H6 y.2 n M:=by
   have:=J.wd.keys y hy
   rw[ey]at this
   exact this
  have hMl:=ao0 n24 WM.nd WM.up
  refine⟨_,rfl,y.2,n,M,rfl,hyW,by omega,by omega,WM.up,az0 WM.up WM.nd WM.so,fun l ys H7 s7 fl gl tys hyl=>?_⟩
  have J7:=J.same' s7
  have nlk:l≠kn:=fun z=>by rw[z,J.wd.at_]at fl;cases fl
  have nlw:l≠wt:=fun z=>by rw[z,J.at_]at fl;cases fl
  refine⟨l,rfl,⟨_,SqL.of gl⟩,?_⟩
  refine X0 (K:=K) (a:=l) (xs:=ys) (fun i σ H8=>∃ (xs' ws':List (WbK × Addr)) (e7 e8:Option V),σ=[some (.ref sc),some (.int n),some (.ref d),some (.ref pf),some (.ref kn),some (.ref wt),some (.ref y.2),e7,e8,none]/\Kn P w K H3 H8 n (tal n ks) F1 kn wt xs' ws'/\2*((Y6 n (tal n ks) (ad5 n)).length - xs'.length)+ws'.length<2*((Y6 n (tal n ks) (ad5 n)).length - xs.length)+(ws0++[y]).length/\(∀ x∈xs,x∈xs')/\(∀ x∈xs',x∉ws'->x=y\/∀ M,x.1=((n:Int),M)->Clo n xs' M)/\(∀ (j:Nat) (a b c d:Nat) (M':List (List Int)),j<i->(ai0 n M)[j]?=some [(a:Int),(b:Int),(c:Int),(d:Int)]->Fits n M a b c d->Wbs n M'->M'.Perm ((exL M a b c d).map up)->((n:Int),M')∈xs'.map fun x=>x.1)/\H8 l=some (.lst ys)/\v7 K H8 ys (ai0 n M))
   ⟨xs,ws0,_,_,rfl,J7,by rw[c9,v9];omega,fun x hx=>hx,fun x hx hn=>?_,fun j _ _ _ _ _ hj=>absurd hj (ah0 _),gl,tys⟩ (fun i σ H8 _ ⟨_,_,_,_,_,_,_,_,_,_,g,_⟩=>SqL.of g) ?_ ?_
  ·by_cases hxy:x=y
   ·exact .inl hxy
   ·refine .inr (cl x hx fun z=>?_)
    rcases j0.mp z with z | z
    ·exact hn z
    ·exact hxy (a8.mp z)
  ·rintro i x σ H8 hx ⟨xs',ws',e7,e8,rfl,J8,hm,hsub,hcl,hdn,g8,t8⟩
   obtain⟨qa,k,rfl,hk,hq⟩:=t8.get hx
   obtain⟨a,b,c,dd,rfl,hf⟩:=(am8 WM.up k).mp (c8 hk)
   refine o8 ?_
   have hyW8:M7 K H8 y.2 n M:=by
    have:=J8.wd.keys y (hsub y hy)
    rw[ey]at this
    exact this
   refine⟨_,rfl,_,rfl,y.2,qa,n,M,(a:Int),(b:Int),(c:Int),(dd:Int),rfl,hyW8,n1,n24,WM.up,WM.nd,hq,fun a' b' c' d' ea eb ec ed _ r M' H9 s9 hr9 hpm hso=>?_,fun h=>absurd hf h⟩
   obtain rfl:a'=a:=by omega
   obtain rfl:b'=b:=by omega
   obtain rfl:c'=c:=by omega
   obtain rfl:d'=dd:=by omega
   refine o8 ?_
   have ex:=O6 WM.up WM.nd hf hpm
   have W':Wbs n M':=⟨ex.1,ex.2.1,hso⟩
   have J9:=J8.same' s9
   have g9:=s9 _ _ g8
   have t9:=s9.tups t8
   have dn':∀ (ys':List (WbK × Addr)),(∀ z∈xs',z∈ys')->((n:Int),M')∈(ys'.map fun x=>x.1)->∀ (j:Nat) (a b c d:Nat) (M':List (List Int)),j<i+1->(ai0 n M)[j]?=some [(a:Int),(b:Int),(c:Int),(d:Int)]->Fits n M a b c d->Wbs n M'->M'.Perm ((exL M a b c d).map up)->((n:Int),M')∈ys'.map fun x=>x.1:=fun ys' hys hM j a2 b2 c2 d2 M2 hj hfj h1 h2 h3=>by
    by_cases hji:j=i
    ·subst hji
     rw[hk]at hfj
     injection hfj with hfj
     injection hfj with e1 hfj
     injection hfj with e2 hfj
     injection hfj with e3 hfj
     injection hfj with e4 _
     obtain rfl:a'=a2:=by omega
     obtain rfl:b'=b2:=by omega
     obtain rfl:c'=c2:=by omega
     obtain rfl:d'=d2:=by omega
     rw[W'.eq h2 fun x=>(hpm.trans h3.symm).mem_iff]at hM
     exact hM
    ·obtain⟨z,hz,e⟩:=l6.mp (hdn j a2 b2 c2 d2 M2 (by omega) hfj h1 h2 h3)
     exact l6.mpr ⟨z,hys z hz,e⟩
   refine⟨_,rfl,_,rfl,kn,r,((n:Int),M'),xs',rfl,rfl,J9.wd,M7.wbI hr9,_,rfl,?_⟩
   by_cases hin:((n:Int),M')∈xs'.map fun x:WbK × Addr=>x.1
   ·rw[decide_eq_true hin]
    exact P9 ⟨xs',ws',_,_,rfl,J9,hm,hsub,hcl,dn' xs' (fun z hz=>hz) hin,g9,t9⟩
   ·rw[decide_eq_false hin]
    refine W8 ?_
    have hwof:∀ x∈xs'++[(((n:Int),M'),r)],Wof n (tal n ks) x.1:=fun x hx=>by
     rcases j0.mp hx with hx | hx
     ·exact J9.wof x hx
     ·rw[a8.mp hx]
      exact⟨M',rfl,W',by rw[ex.2.2,tM]⟩
    have hnd:((xs'++[(((n:Int),M'),r)]).map fun x=>x.1).Nodup:=by
     rw[n4]
     exact N7.mpr ⟨J9.nd,j1.mpr ⟨j4,t5⟩,fun u hu v hv e=>hin (by
      have e':u=((n:Int),M'):=e.trans (a8.mp hv)
      exact e' ▸ hu)⟩
    have hfew:=be9 (n:=n) (ss:=tal n ks) (prs:=ad5 n) aO8 (fun k=>aE4) hnd (fun k hk=>by
     obtain⟨x,hx,rfl⟩:=l6.mp hk
     exact hwof x hx)
    rw[b6,c9,v9]at hfew
    have hT:=aH0 (n:=n) (ss:=tal n ks) n5
    have hsz:d7=16777216:=PySem.sizeLine_eq
    refine⟨_,rfl,_,rfl,kn,r,((n:Int),M'),xs',rfl,rfl,rfl,J9.wd,M7.wbI hr9,hin,by omega,?_⟩
    have J10:=J9.add (fkn':=fkn) nkw hwof hnd (M7.wbI hr9)
    have gx:(upd H9 kn (.ext (ac4 P w kn (xs'++[(((n:Int),M'),r)])))) wt=some (.lst (ws'.map fun x=>V.ref x.2)):=by rw[o6 (Ne.symm nkw)];exact J9.at_
    refine⟨_,rfl,.inl ⟨rfl,_,SqL.of gx⟩,_,rfl,wt,_,_,rfl,rfl,gx,by rw[b6];omega,?_⟩
    have J11:=J10.put (ws':=ws'++[(((n:Int),M'),r)]) fwt3 nkw fun x hx=>by
     rcases j0.mp hx with hx | hx
     ·exact m6 _ (J9.sub x hx)
     ·exact d6 _ hx
    rw[n4]at J11
    refine⟨xs'++[(((n:Int),M'),r)],ws'++[(((n:Int),M'),r)],_,_,rfl,J11,by rw[c9,c9,v9];omega,fun x hx=>m6 _ (hsub x hx),fun x hx hn=>?_,dn' _ (fun z hz=>m6 _ hz) (by rw[n4];exact d6 _ b4),by rw[o6 nlw,o6 nlk];exact g9,Paired.mapP t9 fun _ _ ⟨u,e,z⟩=>⟨u,e,ae7 gx (ntL _) (ae7 J9.wd.at_ (ntX _) z)⟩⟩
    rcases j0.mp hx with hx' | hx'
    ·rcases hcl x hx' (fun z=>hn (m6 _ z)) with h | h
     ·exact .inl h
     ·exact .inr fun M2 e=>(h M2 e).mono fun z hz=>m6 _ hz
    ·exact absurd (d6 _ hx') hn
  ·rintro σ H8 ⟨xs',ws',e7,e8,rfl,J8,hm,hsub,hcl,hdn,g8,t8⟩
   have hfl:ys.length=(ai0 n M).length:=t8.len
   refine⟨xs',ws',_,_,_,hm,rfl,J8,fun x hx hn M' e=>?_⟩
   rcases hcl x hx hn with rfl | h
   ·rw[ey]at e
    cases e
    intro a b c d M2 h1 h2 h3
    obtain⟨j,hj⟩:=i8.mp ((am8 WM.up _).mpr ⟨a,b,c,d,rfl,h1⟩)
    have hjl:j<ys.length:=by rw[hfl];exact(a9.mp hj).1
    exact hdn j a b c d M2 hjl hj h1 h2 h3
   ·exact h M' e
theorem bw1 {fI fC fU fV fτ fβ fE fX fφ fG fL fM fP fH fD fW fA fR CE:Addr}{fdU fdV fdτ fdβ fdE fdX fdφ fdG fdL fdM fdP fdH fdD fdW fdA fdR:FuncData}{tk:Tok}(F0:Fun K "law" "law" aJ4 f fd)(Bx:Bn mg)(mo:mg "MOST_PLACES"=some (.int 24 tk))
  (FI:Fq K mg "is_place" aw0 fI fdI ["places","number"])
  (FC:Fq K mg "check_place" aT9 fC fdC ["places","number"])
  (FU:Fq K mg "turned_up" sUp fU fdU ["places","tie"])
  (FV:Fq K mg "made" aC6 fV fdV ["places","ties"])
  (Fτ:Fq K mg "tied" aC3 fτ fdτ ["web","one","other"])
  (Fβ:Fq K mg "beside" ba4 fβ fdβ ["web"])
  (FE:Fq K mg "can_exchange" ba3 fE fdE ["web","four"])
  (FX:Fq K mg "exchanged" ba1 fX fdX ["web","four"])
  (Fφ:Fq K mg "exchanges_from" ba2 fφ fdφ ["near","a","b"])
  (FG:Fq K mg "exchanges_of" ba0 fG fdG ["web"])
  (FL:Fq K mg "_law_cell" ad4 fL fdL ["script","k"])
  (FM:Fq K mg "_law_mixed" at0 fM fdM ["cell","k"])
  (FP:Fq K mg "_law_places" aC5 fP fdP ["script","most"])
  (FH:Fq K mg "_law_tie_there" ao7 fH fdH ["script","k"])
  (FD:Fq K mg "_law_ties" ao6 fD fdD ["script","places"])
  (FW:Fq K mg "_law_web" aC2 fW fdW ["places","ties"])
  (FA:Fq K mg "_law_all_of" ao8 fA fdA ["places","sums"])
  (FR:Fq K mg "_law_sums" aC4 fR fdR ["places","ties"])
  (mE':mg "NoExchange"=some (.ref CE))(cE:bo6 K CE):B6 P w K mg base CX0 7 f fd ["script"] (aB9 K):=by
 have GE:B6 P w K mg base CX0 4 fE fdE ["web","four"] (aZ7 K):=bw6 FE.F Bx FI FC Fτ
 have GV:B6 P w K mg base CX0 4 fV fdV ["places","ties"] (aI7 K):=(bm1 FV.F Bx FI FU mo).mono (by decide)
 have GX:B6 P w K mg base (CXE P w) 5 fX fdX ["web","four"] (aZ6 K CE):=bw3 FX.F Bx FE GE FV GV mE' cE
 exact bm2 F0 Bx FP ((bl9 FP.F Bx FL).mono (by decide)) FD ((bc4 FD.F Bx FL FM FH).mono (by decide)) FW ((bl6 FW.F Bx).mono (by decide)) FA ((bc6 FA.F Bx).mono (by decide)) FR ((bl8 FR.F Bx).mono (by decide)) FG ((bw2 FG.F Bx Fβ Fφ).mono (by decide)) FX (GX.mono (by decide))
end
end Web
namespace Web
open PySem L2
theorem ls1 (h:∀ x0,p [x0]):∀ us,us.length=1->p us
 | [x0],_=>h x0
theorem ls2 (h:∀ x0 x1,p [x0,x1]):∀ us,us.length=2->p us
 | [x0,x1],_=>h x0 x1
theorem ls3 (h:∀ x0 x1 x2,p [x0,x1,x2]):∀ us,us.length=3->p us
 | [x0,x1,x2],_=>h x0 x1 x2
theorem fq {K:W.Frag}{mg:Str->Option Value}{st:Stmt}(X:K.In h)(G:h.Ns i6 mg)(a:j6 K i6 x=some (some (.ref f)))(F:Fun K x x st f fd)
  (b:∀ (kV doc pm:Value) (an:Option Addr) (cdv ct:Value) (us:List Value),us.length=ps.length->bindArgs (O9 x x (ac0 st) (V7 st) (p5 st) .none kV doc pm an cdv ct) ⟨us,[]⟩=pure (ps.zip us)):Fq K mg x st f fd ps:=⟨F,F.binds b,aj8 X G a⟩
theorem all_mk {l:PySem.W.OpenLaw}{K:W.Frag}{mg:Str->Option Value}{fa fI fC fU fV fτ fβ fE fX fφ fG fL fM fP fH fD fW fA fR fZ CNoExchange:Addr}{tk:Tok}(X:K.In h)(G:h.Ns i6 mg)(hfa:mg "law"=some (.ref fa))
  {fdU fdV fdτ fdβ fdE fdX fdφ fdG fdL fdM fdP fdH fdD fdW fdA fdR fdZ:FuncData}
  (aI:j6 K i6 "is_place"=some (some (.ref fI)))(FI:Fun K "is_place" "is_place" aw0 fI fdI)
  (aC:j6 K i6 "check_place"=some (some (.ref fC)))(FC:Fun K "check_place" "check_place" aT9 fC fdC)
  (aU:j6 K i6 "turned_up"=some (some (.ref fU)))(FU:Fun K "turned_up" "turned_up" sUp fU fdU)
  (aV:j6 K i6 "made"=some (some (.ref fV)))(FV:Fun K "made" "made" aC6 fV fdV)
  (aτ:j6 K i6 "tied"=some (some (.ref fτ)))(Fτ:Fun K "tied" "tied" aC3 fτ fdτ)
  (aβ:j6 K i6 "beside"=some (some (.ref fβ)))(Fβ:Fun K "beside" "beside" ba4 fβ fdβ)
  (aE:j6 K i6 "can_exchange"=some (some (.ref fE)))(FE:Fun K "can_exchange" "can_exchange" ba3 fE fdE)
  (aX:j6 K i6 "exchanged"=some (some (.ref fX)))(FX:Fun K "exchanged" "exchanged" ba1 fX fdX)
  (aφ:j6 K i6 "exchanges_from"=some (some (.ref fφ)))(Fφ:Fun K "exchanges_from" "exchanges_from" ba2 fφ fdφ)
  (aG:j6 K i6 "exchanges_of"=some (some (.ref fG)))(FG:Fun K "exchanges_of" "exchanges_of" ba0 fG fdG)
  (aL:j6 K i6 "_law_cell"=some (some (.ref fL)))(FL:Fun K "_law_cell" "_law_cell" ad4 fL fdL)
  (aM:j6 K i6 "_law_mixed"=some (some (.ref fM)))(FM:Fun K "_law_mixed" "_law_mixed" at0 fM fdM)
  (aP:j6 K i6 "_law_places"=some (some (.ref fP)))(FP:Fun K "_law_places" "_law_places" aC5 fP fdP)
  (aH:j6 K i6 "_law_tie_there"=some (some (.ref fH)))(FH:Fun K "_law_tie_there" "_law_tie_there" ao7 fH fdH)
  (aD:j6 K i6 "_law_ties"=some (some (.ref fD)))(FD:Fun K "_law_ties" "_law_ties" ao6 fD fdD)
  (aW:j6 K i6 "_law_web"=some (some (.ref fW)))(FW:Fun K "_law_web" "_law_web" aC2 fW fdW)
  (aA:j6 K i6 "_law_all_of"=some (some (.ref fA)))(FA:Fun K "_law_all_of" "_law_all_of" ao8 fA fdA)
  (aR:j6 K i6 "_law_sums"=some (some (.ref fR)))(FR:Fun K "_law_sums" "_law_sums" aC4 fR fdR)
  (aZ:j6 K i6 "law"=some (some (.ref fZ)))(FZ:Fun K "law" "law" aJ4 fZ fdZ)
  (mo:j6 K i6 "MOST_PLACES"=some (some (.int 24 tk)))
  (aNoExchange:j6 K i6 "NoExchange"=some (some (.ref CNoExchange)))
  (qNoExchange:PySem.W.excIn K CNoExchange [.type "ValueError",.type "Exception",.type "BaseException",.type "object"] "ValueError.__new__"=true)
  (xmNoExchange:PySem.W.exmOne K (.ref CNoExchange) (.ref CNoExchange)=some true)
  (z1:j6 K i6 "len"=some none)
  (z2:j6 K i6 "range"=some none)
  (z3:j6 K i6 "enumerate"=some none)
  (z4:j6 K i6 "list"=some none)
  (z5:j6 K i6 "tuple"=some none)
  (z6:j6 K i6 "sorted"=some none)
  (z7:j6 K i6 "set"=some none)
  (z8:j6 K i6 "isinstance"=some none)
  (z9:j6 K i6 "int"=some none)
  (z10:j6 K i6 "bool"=some none)
  (z11:j6 K i6 "min"=some none)
  (z12:j6 K i6 "max"=some none)
  (z13:j6 K i6 "sum"=some none)
  (z14:j6 K i6 "str"=some none)
  (z15:j6 K i6 "ValueError"=some none)
  (z16:j6 K i6 "all"=some none)
  (z17:j6 K i6 "dict"=some none)
  (z18:j6 K i6 "reversed"=some none) :
  ∃ fd:FuncData,(∀ (s:Shared) (v:Value),aS3 s fd ⟨[v],[]⟩ [("script",v)])/\∀ base:Heap,K.In base->base.Ns i6 mg->B6 l.prog w K mg base CX0 7 fa fd ["script"] (aB9 K):=by
 have e:=hfa.symm.trans (aj8 X G aZ)
 cases e
 have B:Bn mg:=⟨m8 X G z1,m8 X G z2,m8 X G z3,m8 X G z4,m8 X G z5,m8 X G z6,m8 X G z7,m8 X G z8,m8 X G z9,m8 X G z10,m8 X G z11,m8 X G z12,m8 X G z13,m8 X G z14,m8 X G z15,m8 X G z16,m8 X G z17,m8 X G z18⟩
 obtain⟨_,_,y1,y2,y3,y4,y5,y6,_,rfl,_,_⟩:=FZ.ex
 exact⟨O9 "law" "law" (ac0 aJ4) (V7 aJ4) (p5 aJ4) .none y1 y2 y3 y4 y5 y6,fun s v=>.of_eq rfl,fun base _ _=>bw1 FZ B (aj8 X G mo) (fq X G aI FI fun _ _ _ _ _ _=>ls2 fun _ _=>rfl) (fq X G aC FC fun _ _ _ _ _ _=>ls2 fun _ _=>rfl) (fq X G aU FU fun _ _ _ _ _ _=>ls2 fun _ _=>rfl) (fq X G aV FV fun _ _ _ _ _ _=>ls2 fun _ _=>rfl) (fq X G aτ Fτ fun _ _ _ _ _ _=>ls3 fun _ _ _=>rfl) (fq X G aβ Fβ fun _ _ _ _ _ _=>ls1 fun _=>rfl) (fq X G aE FE fun _ _ _ _ _ _=>ls2 fun _ _=>rfl) (fq X G aX FX fun _ _ _ _ _ _=>ls2 fun _ _=>rfl) (fq X G aφ Fφ fun _ _ _ _ _ _=>ls3 fun _ _ _=>rfl) (fq X G aG FG fun _ _ _ _ _ _=>ls1 fun _=>rfl) (fq X G aL FL fun _ _ _ _ _ _=>ls2 fun _ _=>rfl) (fq X G aM FM fun _ _ _ _ _ _=>ls2 fun _ _=>rfl) (fq X G aP FP fun _ _ _ _ _ _=>ls2 fun _ _=>rfl) (fq X G aH FH fun _ _ _ _ _ _=>ls2 fun _ _=>rfl) (fq X G aD FD fun _ _ _ _ _ _=>ls2 fun _ _=>rfl) (fq X G aW FW fun _ _ _ _ _ _=>ls2 fun _ _=>rfl) (fq X G aA FA fun _ _ _ _ _ _=>ls2 fun _ _=>rfl) (fq X G aR FR fun _ _ _ _ _ _=>ls2 fun _ _=>rfl) (aj8 X G aNoExchange) ⟨qNoExchange⟩⟩
theorem walk {l:PySem.W.OpenLaw} {q:Program} {loose:List Str} {d:DefRec} {K:Params->PySem.W.Frag} (hn:l.most=some 63) (hdf:d.params.defaults=[])
  (hY:∀ (w:World) (h:Heap),YP w h->(K w.params).In h)
  (F : ∀ (w : World) (mg : Str -> Option Value) (fa : Addr) (h : Heap), (K w.params).In h -> h.Ns i6 mg -> mg d.name = some (.ref fa) ->
   ∃ fd:FuncData,(∀ (s:Shared) (u:Value),aS3 s fd ⟨[u],[]⟩ [("script",u)])/\∀ base:Heap,(K w.params).In base->base.Ns i6 mg->B6 l.prog w (K w.params) mg base CX0 7 fa fd ["script"] (aB9 (K w.params))) :
  PySem.W.WalkO q loose XP YP l.row.toRowW d [] (fun f vs=>PySem.call f vs):=
 L2.walk_of (n:=63) (k:=7) (x:="script") (CX:=fun _=>CX0) (sp:=fun w=>aB9 (K w.params)) hn (by decide) hdf ⟨rfl,by decide,by decide⟩ hY F (fun _ _ a ns hl _ hS=>⟨a,ns,rfl,hS,hl,fun _=>rfl⟩) fun _ _ _ _ _ z=>z
end Web
set_option Elab.async false
namespace PySem.W.Fast
def tw767995178585231937:=0
def tw2608379299894771206:=0
def tw3039703314978726708:=0
def tw9850279451696960030:=0
def tw6418599246879511733:=0
def tw14412032305341559425:=0
def tw4869640343295495513:=0
def tw2256058277557819509:=0
def tw2277753128523448848:=0
def tw2091340621862100291:=0
def tw18144675552134271345:=0
def tw14272253123867559399:=0
def tw7051728349042250399:=0
def tw8904558140413398451:=0
def tw14095946109869410405:=0
def tw3416413657642026405:=0
def tw18038681228258170360:=0
def tw11355794456666616528:=0
def tw859121046698567078:=0
def tw14900003030393881179:=0
def tw10845876845542204920:=0
def tw8691552828671111780:=0
def tw8878807728683885954:=0
def tw96514365396826446:=0
def tw8549348114050128143:=0
def tw5541989621336161424:=0
def tw10666744135519115100:=0
def tw8871417702100243413:=0
def tw12280131742334183714:=0
def tw12023037605309415038:=0
def tw10920384277980878923:=0
def tw4324823762212623299:=0
def tw10398989718424572520:=0
def tw10706871806082234020:=0
def tw2357586517860769486:=0
def tw11753644495289821630:=0
def tw1043822255217035628:=0
def tw13854572158406132701:=0
def tw3503276414971580948:=0
def tw6089883606573426867:=0
def tw7095589651603338864:=0
def tw4305275456902287330:=0
def tw4177370091922041015:=0
def tw2791527977306353774:=0
def tw13582862771289980115:=0
def tw1859538737596555219:=0
def tw16682508532319175343:=0
def tw13825776859267432835:=0
def tw13485916979397245608:=0
def tw14152998754788885734:=0
def tw11269639698842169446:=0
def tw3795920613633077670:=0
def tw12988272022940425259:=0
def tw14679180396839062089:=0
def tw10196716525920684906:=0
def tw1789994540105785805:=0
def tw18357162309867998368:=0
def tw9072165056271920679:=0
def tw392668072134166:=0
def tw5761954975129217066:=0
def tw6769509318002782070:=0
def tw4453168057336913763:=0
def tw11631704577384908093:=0
def tw3359754918302445984:=0
def tw4079439446654054513:=0
def tw4693001758731173205:=0
def tw14789198782913921019:=0
def tw10753632941897909154:=0
def tw17240640252199221031:=0
def tw3229013208070059583:=0
def tw4209954317516122235:=0
def tw10582479162696564437:=0
def tw10009768027665517632:=0
def tw12694588344919332564:=0
def tw15952643806701622411:=0
def tw9215608995410834026:=0
def tw18022426874300746322:=0
def tw1517261449794620304:=0
def tw3225617210605617799:=0
def tw3175214315961510587:=0
def tw10206125645377422707:=0
def tw6361801148532988258:=0
def tw2057759035199663392:=0
def tw2820396981912757951:=0
def tw8265919686928951892:=0
def tw17537769671469182604:=0
def tw8828815035641316716:=0
def tw3830515518626941032:=0
def tw18396205088069163218:=0
def tw13474669067136691107:=0
def tw3665587332954380075:=0
def tw8232266534293711273:=0
def tw7831735368828274279:=0
def tw13333935335992909587:=0
def tw13748129395873080198:=0
def tw14261846439163110371:=0
def tw15136602525773735558:=0
def tw178262628583517098:=0
def tw13123406554871713686:=0
def tw6277955768622328328:=0
def tw4669483214940984550:=0
def tw561535093815047932:=0
def tw3526941885569518702:=0
def tw18234575225512903866:=0
def tw17178989957772186465:=0
def tw16179383525933613351:=0
def tw1567357398386843595:=0
def tw10878352202101762873:=0
def tw10408884705950330544:=0
def tw14474212025423956172:=0
def tw3715677908035905818:=0
def tw12181873070042216323:=0
def tw3751613628362759820:=0
def tw15910446780250801878:=0
def tw14562027437082013071:=0
def tw14624114612131543342:=0
def tw17296801724539126650:=0
def tw13300776588580482337:=0
end PySem.W.Fast
open PySem PySem.W PyProof.Rows
set_option maxRecDepth 100000 in
set_option maxHeartbeats 0 in
theorem PySem.Challenge.cw_tallyweb_k22_whole_all_come_to_holds : PySem.Challenge.rw_tallyweb_k22_whole_all_come_to.Holds := by
 w_on; o_law; k_head; (case hw => w_witness2)
 k_fill
 refine Web.walk (l := PySem.Challenge.rw_tallyweb_k22_whole_all_come_to) rfl rfl (fun w h Y => PySem.W.kIn_of Y) ?F
 case F =>
  intro w mg fa h KX G hmg
  refine' Web.all_mk KX G hmg ?aI (L2.fun_mk ?lI ?cI ?kI) ?aC (L2.fun_mk ?lC ?cC ?kC) ?aU (L2.fun_mk ?lU ?cU ?kU) ?aV (L2.fun_mk ?lV ?cV ?kV) ?aτ (L2.fun_mk ?lτ ?cτ ?kτ) ?aβ (L2.fun_mk ?lβ ?cβ ?kβ) ?aE (L2.fun_mk ?lE ?cE ?kE) ?aX (L2.fun_mk ?lX ?cX ?kX) ?aφ (L2.fun_mk ?lφ ?cφ ?kφ) ?aG (L2.fun_mk ?lG ?cG ?kG) ?aL (L2.fun_mk ?lL ?cL ?kL) ?aM (L2.fun_mk ?lM ?cM ?kM) ?aP (L2.fun_mk ?lP ?cP ?kP) ?aH (L2.fun_mk ?lH ?cH ?kH) ?aD (L2.fun_mk ?lD ?cD ?kD) ?aW (L2.fun_mk ?lW ?cW ?kW) ?aA (L2.fun_mk ?lA ?cA ?kA) ?aR (L2.fun_mk ?lR ?cR ?kR) ?aZ (L2.fun_mk ?lZ ?cZ ?kZ) ?mo ?aNoExchange ?qNoExchange ?xmNoExchange ?z1 ?z2 ?z3 ?z4 ?z5 ?z6 ?z7 ?z8 ?z9 ?z10 ?z11 ?z12 ?z13 ?z14 ?z15 ?z16 ?z17 ?z18
  case aI | lI | cI | kI | aC | lC | cC | kC | aU | lU | cU | kU | aV | lV | cV | kV | aτ | lτ | cτ | kτ | aβ | lβ | cβ | kβ | aE | lE | cE | kE | aX | lX | cX | kX | aφ | lφ | cφ | kφ | aG | lG | cG | kG | aL | lL | cL | kL | aM | lM | cM | kM | aP | lP | cP | kP | aH | lH | cH | kH | aD | lD | cD | kD | aW | lW | cW | kW | aA | lA | cA | kA | aR | lR | cR | kR | aZ | lZ | cZ | kZ | mo | aNoExchange | z1 | z2 | z3 | z4 | z5 | z6 | z7 | z8 | z9 | z10 | z11 | z12 | z13 | z14 | z15 | z16 | z17 | z18 => k_is
  case qNoExchange => k_exc
  case xmNoExchange => kts_exm
#print axioms PySem.Challenge.cw_tallyweb_k22_whole_all_come_to_holds

