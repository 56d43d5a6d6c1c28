import PyProof.Rows.All
import Wide.All
import OpenK.AllK
import Wide.FinOn
import Lean
import PyProof.EqAt
import PyProof.EqKinds
import PyProof.TupleCall
import PyProof.Rows.SortRunsK
import PyProof.Rows.SortShellK
import KE.KSortTup
import PyProof.TupleKey
import PySem.SetOps
import PyProof.Rows.SetFrom
import PyProof.EnumFor
import PyProof.EnumStmt
import PyProof.EnumMake
import PyProof.P3Eq
import PyProof.NeData
import PyProof.P3In
import PyProof.Rows.SumAny
import KE.KLam
import KE.KSortKey
import PyProof.ListRange
import KE.KTryMore
import PyProof.NsDelKeeps
import PyProof.RulesAs
import PyProof.ExcBaseAll.ValueError
import PyProof.ExcArgsOwn
import KE.KIsAll
import PyProof.Rows.SortRev
import PyProof.TupleOfSeq
import PyProof.Draws
import KE.KTupSum
import Wide.Txt2
import PyProof.ListOps
import PyProof.AutoSeq1
import KE.KIntText
import KE.IntTextLaws
import PyProof.StrLawsIn
import PyProof.Rows.StrNews2
import PyProof.StrLawsOcc
import PyProof.StrLawsTight
import PyProof.StrLawsFirst
import PyProof.Rows.ReprOcc
import PyProof.Rows.FStr
import PyProof.Cells
import PyProof.Rows.TupAdd
import PyProof.DictWalks
import PyProof.ConsumeWalk
import PyProof.DictKeyH
import PyProof.ListNew
import PyProof.ConsumeS
import PyProof.WalksMore
import PyProof.CallStr
import KE.RegKIsAll
import KE.RegKTryMore
import PySem.Challenge.RW_tallyweb_k63_pair_answers
local macro_rules | `(tactic| omega) => `(tactic| lia)
set_option autoImplicit false
set_option linter.all false
set_option Elab.async false
set_option maxRecDepth 100000
open List renaming length_map->a5,mem_cons_of_mem->b8,mem_of_getElem?->b9,mem_cons->c5,mem_cons_self->c7,getElem?_eq_some_iff->d5,size_toArray->d9,getElem?_eq_getElem->f9,map_append->g9,getD_eq_getElem?_getD->i8,length_cons->i9,length_append->j2,mem_append_right->j7,mem_singleton->j8,take_of_length_le->k7,length_take->k8,mem_map->k9,mem_append->m7,map_cons->n6,mem_iff_getElem?->o5,getElem?_map->o6,take_add_one->o7,pairwise_iff_getElem->p7,pairwise_append->q8,getElem?_eq_none->t8,append_assoc->v9,take_append_drop->A0,length_drop->A1,length_set->A3,mem_of_mem_take->A4,range->A5,all_eq_true->A6,mem_range->B1,replicate->C5,not_mem_nil->D9,take_sublist->E1,pairwise_cons->E9,mem_append_left->F1,getElem?_append_right->F9,drop_of_length_le->G1,mem_filter->G7,append_nil->G9,nodup_cons->J0,take_zero->K1,pairwise_map->K3,length_range->K4,replicate_succ->K9,take_length->L6,length_singleton->M4,getElem?_drop->M5,sum_cons->M6,filter_append->M7,length_filter_le->M8,mem_of_mem_drop->N7,getElem?_take_of_lt->O3,flatten_cons->O4,nil_append->O5,range_succ->O6,filterMap_cons->P5,eq_nil_of_length_eq_zero->Q0,getElem_mem->Q1,getElem?_take->Q5,map_set->R1,drop_sublist->S1,ext_getElem?->S2,nodup_iff_pairwise_ne->S9,getElem?_set_ne->T6,extract_eq_take_drop->U5,getElem?_range->U8,map_congr_left->U9,zip_cons_cons->W0,reverse_perm->X8,getElem?_set->X9,pairwise_reverse->Y9,map_map->Z0,drop_append->Z6,take_append_of_le_length->Z7,any_cons->ac2,foldl->ac3,length->ad6,length_nil->ad7,foldl_cons->ad8,length_pos_iff->ad9,mem_filterMap->ag7,getElem_range->ag9,getElem?_append_left->ah5,drop_eq_getElem_cons->ah6,nodup_append->ak3,range'->am9,filter_cons_of_pos->an0,filter_cons_of_neg->an1,any_toArray->an7,getElem?_set_self->ap8,filter_eq_nil_iff->aq0,of_mem_zip->as6,perm_append_comm->as7,filter_nil->as8,length_reverse->ax7,map_drop->aF6,map_take->aF7,length_range'->aF8,mem_range'_1->aI0,mem_reverse->aP1,drop_append_of_le_length->aP3,countP_cons->aP4,countP_eq_length_filter->aP6,take->aY3,drop_drop->bf0,drop_zero->bf1,length_erase_of_mem->bl1,length_eq_zero_iff->br7,pairwise_lt_range->br9,drop_eq_nil_of_le->bs0,drop->bE2,singleton_append->bE4,range_eq_range'->bF4,mem_iff_getElem->bF5,reverse_append->bO8,flatMap_append->bP0,toList_toArray->bP1,countP->bP2,getElem_of_mem->bP4,drop_reverse->ce5,take_reverse->ce6,getElem?_inj->ce7,cons_append->cf0,take_append->cf1,lookup_cons->cf4,mem_flatMap->cf5,map_reverse->cf6
open PySem.Heap renaming get?_push_of_some->a7,lt_size->i7,get?_push_size->l5,get?_update_other->E5,size_push->N0,get?_update_self->Y8,get?_none_of_le->av9,size_update->cf2
open PySem renaming wpAny_bind->a8,mainGlobals->d4,sizeLine->d8,wpAny_pure->j5,model->t7,tupleKeyHash->u7,wpAny->v7,sizeLine_eq->x6,intKind->A8,starEach->B0,compareOp->C4,wpAny_mono->C6,wpAny_holding->F5,IsTupleKey->J9,bootBuiltins->N1,compEnvC->N3,wpAny_truthy_bool->P4,wpAny_Call_Name_kw->R3,wpAny_passesOwn->T4,foldedSetIterable->T7,wpAny_newList->T8,wpAny_setState_of->T9,wpAny_standAt->W9,wpAny_getItem_str_slice->X1,backTo->Z1,wpAny_field->Z2,binaryOp->Z8,Paired->ab5,wpAny_newFunctionEnv->ae0,PyData->ae1,assignEach->ag3,call_meets->ag4,wpAny_execs_nil->ah0,sliceBounds->ah1,unsupported->ah2,codeAny_builtin->ah3,wpAny_pyIter_tuple->ak4,codeAny_mono->ak5,rawInt->an9,typeIs_str->ao0,cLine->ao1,ofAClassStatement->ao3,closureFor->ao4,wpAny_comprehension_free->ao5,wpAny_pyIter_enum->ao6,compPost->aq2,wpAny_forIn_list->as9,codeAny_compStart_list->at7,noteFrame->ax1,post_val_or_str->ax2,recursionLimit->aG0,wpAny_seqItems->aG1,wpAny_setField->aG2,codeAny->aG5,Keyword->aG6,keywordEach->aG7,behindInMarks->aL1,NameKind->aL2,setSearchFrom->aL3,comprehension->aL4,builtinsNs->aP8,holding->aP9,wpAny_assign_Name->aQ0,wpAny_pyIter_list->aQ1,wpAny_newObj_type->aQ2,assign->aY7,seqIndex_neg->aY8,wpAny_execs_cons->aZ4,wpAny_call_entry->aZ5,bindArgs->bf6,letOwnedTupleGo->bl2,again->bl3,BindsTo->bl4,seqIndex_of->bl5,callerA->bl6,hashByValue->bm0,theTreesLotGoes->bm1,wpAny_letOwnedTupleGo_enum->br8,wpAny_call->bE5,wpAny_rule->bE6,GenState->bF7,backToKw->bF8,attributeBase->bF9,compTurn_list->bG1,ReadsAll->bG2,wpAny_callSpecial?_slot->bG3,wpAny_getItem_list_neg->bP6,swapsWith->bT0,setSearch->bT4,wpAny_eqIsQuiet_tuple->bT5,codeAny_loop->bT6,codeAmong->bT7,exec_Assign_Name_used->bT8,strValues->bT9,wpAny_loadName_local->ce8,wpAny_loadName_cell->cf7,getItem->cf8,subscripted->cf9,wpAny_noted->cg3,newList->cg4,wpAny_of_eq->cg6
open Nat renaming le_refl->c6,ne_of_lt->m6,lt_of_lt_of_le->o4,zero_le->r9,le_trans->t9,lt_or_ge->D8,lt_irrefl->E2,lt_succ_of_lt->E3,lt_or_eq_of_le->J5,zero_add->M9,toDigits->P6,add_sub_cancel_left->P7,add_le_add_left->V1,ne_of_gt->V3,le_succ->Y1,lt_trichotomy->Y2,add_sub_cancel->ah7,succ_pos->ah8,le_of_succ_le->am3,le_of_lt_succ->am4,toDigits_of_lt_base->an8,le_add_right->ap9,le_of_lt->at1,le_of_eq->at4,lt_of_le_of_lt->aG4,mod_lt->aK9,add_zero->aP2,toDigits_append_toDigits->aY6,not_lt_zero->aZ0,min_eq_left->aZ1,isDigit_of_mem_toDigits->aZ2,div_div_eq_div_mul->bE3,sub_self->bF0,mul_le_mul_right->bP3,testBit_two_pow->bS7
open Array renaming getElem?_toList->d3,length_toList->j9,size_push->A7,toList_append->B5,size_extract->E4,size_append->G3,perm_iff_toList_perm->L3,toList_extract->S8,toList_push->W8,toList_reverse->Z5,getElem?_eq_some_iff->ae2,forIn_toList->ag2,size_map->ag8,mem_toList_iff->at3,toArray_toList->at5,append_assoc->aA1,toList_setIfInBounds->aY2,getElem?_append_left->aY5,size_setIfInBounds->bf2,getElem?_replicate->bf3,setIfInBounds->bE9,size_reverse->bO9,getD->bS8,toList_map->ce2,toList_inj->ce4
open PySem.W renaming nsIn->d7,mg_none_of->u9,mg_of->G4,fnOf->U6,keepIn->W5,codeIn->aP7
open Bool renaming false_ne_true->i6,false_eq_true->m5,and_eq_true->n8,false_and->D7,eq_iff_iff->G8,not_true->S3,true_and->S4,or_false->ac1,and_false->ah9,false_or->aF9,not_eq_true'->aH9,or_true->aL0,or_eq_true->aY4,not_false->bf4,and_true->br6,or_eq_false_iff->bF1,not_eq_true->cf3
open PyProof.Rows renaming wpS_bind->j4,wpS_pure->l9,arrOf->m8,pendingOf->B6,wpS_forRange->E6,envOfC->F6,seqObj->G2,IntsAre->G6,failedOf->N2,wpS_mono->V4,get?_update_seq->X0,listUpdate_at->ae4,elem'->ai0,mem_zip_self->ak6,sortedHeap->ao2,AllBare->aq1,wpS_get->ax0,wpS_modify->ax8,wpS_reverse->aG8,KeyOrd->aY9,mirror_perm->bl7,seqEpoch_at->bl8,entry_list_sort->bl9,slot_list_sort->bs2,joinParts_cons->bs3,setPending->bE7,size_push'->bE8,tuples'->bG0,subscriptTail_builtinR->bP5,call_function_entry_kw->bP7,listItems_at->bT1,plain_sorted->bT2,entry_sorted->bT3,formatField_int_small->bU0,FormattedValue_plain->ce9,getElem?_mirror_all->cg0,pairsOf->cg1,kind_sorted->cg2,wpAny_call_entry_kw->cg5
open Int renaming toNat_natCast->j6,emod_lt_of_pos->C9,emod_nonneg->F2,toNat->J1,le_refl->L0,mul_one->R7,toNat_of_nonneg->ae3,mul_zero->at6,lt_irrefl->aG3,mul_le_mul_of_nonneg_left->aP5,pow_pos->aZ3,eq_ofNat_of_zero_le->bs1,mul_comm->bF2,zero_mul->bF3,one_mul->bS9,natCast_nonneg->ce3
open Option renaming isSome_iff_exists->B8,isNone->bf5,toList_some->bF6,getD_none->bS6
variable {A:PySem.Around}{B:PyProof.Rows.Keyed->PyProof.Rows.Keyed->Bool}{C CB a f fT l:PySem.Addr}{E Q:PySem.Value->PySem.Shared->Prop}{M:PySem.Model}{N N' ps:List PySem.Str}{P prog:PySem.Program}{R:PyProof.Rows.Keyed->PyProof.Rows.Keyed->Prop}{XP:(PySem.Str->Option PySem.Value)->PySem.Heap->Prop}{YP:PySem.World->PySem.Heap->Prop}{b:Nat->Option (Option Nat) × Nat × Nat->StateT PyProof.Rows.SortSt PySem.Sem (ForInStep (Option (Option Nat) × Nat × Nat))}{cl:List (PySem.Str × PySem.Addr)}{d:Nat->Int}{e o tg:PySem.Expr}{es ifs:List PySem.Expr}{fd fdA fdC fdF fdI fdO fdR fdT:PySem.FuncData}{fp:List PySem.Addr}{g:Nat->Nat->Bool}{h h':PySem.Heap}{i j n p:Nat}{k ns zs:List Int}{ks:List (List Int)}{lk:List (Option Nat)}{mA:PySem.Str->Option PySem.Value}{out ra rb:List PyProof.Rows.Keyed}{outer:List PySem.Env}{params:PySem.Arguments}{pins:List (PySem.Addr × PySem.Obj)}{pos:PySem.Pos}{qual x:PySem.Str}{s:PySem.Shared}{scope:PySem.Scope}{t:PySem.SetTable}{u v:PySem.Value}{us vs:List PySem.Value}{use:Option (PySem.Value->PySem.Sem Unit)}{w:PySem.World}{κ:PyProof.Rows.SortKind}
namespace L2
open PySem PySem.Spec PyProof.Rows
abbrev Key:=Sum Int Str
def bR9:Key->Value->Bool
 | .inl k,v=>Value.isInt k v
 | .inr x,v=>Value.isStrOf x v
def cq5 (w:World):Key->Int
 | .inl k=>hashInt k
 | .inr x=>hashStr w x
theorem K7:∀ {k:Key} {v:Value},bR9 k v=true->(∃ i t,k=Sum.inl i/\v=Value.int i t)\/(∃ x t,k=Sum.inr x/\v=Value.str x t)
 | .inl i,v,h=>by
  obtain⟨t,e⟩:=Value.isInt_shape (k:=i) (v:=v) h
  exact .inl ⟨i,t,rfl,e⟩
 | .inr x,v,h=>by
  obtain⟨t,e⟩:=Value.isStrOf_shape (x:=x) (v:=v) h
  exact .inr ⟨x,t,rfl,e⟩
theorem cb0 (a b:Int):decide ((Sum.inl a:Key)=Sum.inl b)=(a == b):=by
 by_cases e:a=b
 ·subst e;simp
 ·have h:¬ (Sum.inl a:Key)=Sum.inl b:=fun q=>e (Sum.inl.inj q)
  rw[decide_eq_false h]
  exact(beq_eq_false_iff_ne.mpr e).symm
theorem ca0 (a b:Str):decide ((Sum.inr a:Key)=Sum.inr b)=decide (a=b):=by
 by_cases e:a=b
 ·subst e;simp
 ·have h:¬ (Sum.inr a:Key)=Sum.inr b:=fun q=>e (Sum.inr.inj q)
  rw[decide_eq_false h,decide_eq_false e]
theorem ca9 (a:Int)(b:Str):decide ((Sum.inl a:Key)=Sum.inr b)=false:=decide_eq_false (fun q=>nomatch q)
theorem ca8 (a:Str)(b:Int):decide ((Sum.inr a:Key)=Sum.inl b)=false:=decide_eq_false (fun q=>nomatch q)
def aN7 (prog:Program) (w:World):PySem.KeyKind prog w Key where
  is:=bR9
  hash:=cq5 w
  inj:=fun v a b ha hb=>by
    rcases K7 ha with⟨i,t,rfl,rfl⟩ | ⟨x,t,rfl,rfl⟩
    · rcases K7 hb with⟨j,u,rfl,e⟩ | ⟨y,u,rfl,e⟩
      · injection e with e1 _;rw[e1]
      · exact nomatch e
    · rcases K7 hb with⟨j,u,rfl,e⟩ | ⟨y,u,rfl,e⟩
      · exact nomatch e
      · injection e with e1 _;rw[e1]
  byValue := fun k v h => by
    rcases K7 h with⟨i,t,rfl,rfl⟩ | ⟨x,t,rfl,rfl⟩<;>rfl
  pyHash:=fun hv h=>by
    rcases K7 hv with⟨i,t,rfl,rfl⟩ | ⟨x,t,rfl,rfl⟩
    · exact wpAny_pyHash_int h
    · exact wpAny_pyHash_str h
  eqBool:=fun hu hv h=>by
    rcases K7 hu with⟨i,t,rfl,rfl⟩ | ⟨x,t,rfl,rfl⟩
    · rcases K7 hv with⟨j,u,rfl,rfl⟩ | ⟨y,u,rfl,rfl⟩
      · rw[cb0]at h;exact wpAny_eqBool_int h
      · rw[ca9]at h;exact SeqAt.EqAt.int_str i t y u _ _ _ _ h
    · rcases K7 hv with⟨j,u,rfl,rfl⟩ | ⟨y,u,rfl,rfl⟩
      · rw[ca8]at h;exact SeqAt.EqAt.str_int x t j u _ _ _ _ h
      · rw[ca0]at h;exact wpAny_eqBool_str h
  «strs»:=fun k x t v h=>by
    rcases K7 h with⟨i,u,rfl,e⟩ | ⟨y,u,rfl,e⟩
    · exact nomatch e
    · injection e with e1 _
      subst e1
      cases v<;>rfl
inductive V where
 | non | bl (b:Bool) | int (i:Int) | str (x:Str) | byt (b:Array UInt8) | flt (b:UInt64) | ref (a:Addr) | ty (n:String)
 deriving DecidableEq
def RelV:V->Value->Prop
 | .non,u=>u=Value.none
 | .bl b,u=>u=Value.bool b
 | .int i,u=>∃ t,u=Value.int i t
 | .str x,u=>∃ t,u=Value.str x t
 | .byt b,u=>∃ t,u=Value.bytes b t
 | .flt b,u=>∃ t,u=Value.float b t
 | .ref a,u=>u=Value.ref a
 | .ty n,u=>u=Value.type n
abbrev B7:List V->List Value->Prop:=ab5 RelV
theorem B7.length {xs:List V}(r:B7 xs us):xs.length=us.length:=Paired.length r
theorem B7.get:∀ {xs:List V} {us:List Value} {i:Nat} {x:V},B7 xs us->xs[i]?=some x->∃ u,us[i]?=some u/\RelV x u
 | _,_,_,_,.nil,e=>by simp at e
 | _,_,0,_,.cons r _,e=>by simp at e;subst e;exact⟨_,rfl,r⟩
 | _,_,i+1,x,.cons _ t,e=>by
  obtain⟨u,h1,h2⟩:=B7.get (i:=i) (x:=x) t (by simpa using e)
  exact⟨u,by simpa using h1,h2⟩
theorem B7.set {x:V}(r:RelV x u):∀ {xs:List V} {us:List Value} (i:Nat),B7 xs us->B7 (xs.set i x) (us.set i u)
 | _,_,_,.nil=>.nil
 | _,_,0,.cons _ t=>.cons r t
 | _,_,i+1,.cons q t=>.cons q (B7.set r i t)
theorem B7.append:∀ {xs ys:List V} {us ws:List Value},B7 xs us->B7 ys ws->B7 (xs++ys) (us++ws)
 | _,_,_,_,.nil,s=>s
 | _,_,_,_,.cons r t,s=>.cons r (B7.append t s)
theorem B7.take:∀ {xs:List V} {us:List Value} (n:Nat),B7 xs us->B7 (xs.take n) (us.take n)
 | _,_,0,_=>.nil
 | _,_,_+1,.nil=>.nil
 | _,_,n+1,.cons r t=>.cons r (B7.take n t)
theorem B7.drop:∀ {xs:List V} {us:List Value} (n:Nat),B7 xs us->B7 (xs.drop n) (us.drop n)
 | _,_,0,r=>r
 | _,_,_+1,.nil=>.nil
 | _,_,n+1,.cons _ t=>B7.drop n t
def cd8:Option V->Option Value->Prop
 | some v,some u=>RelV v u
 | none,none=>True
 | _,_=>False
def KV {κ:Type}:List (κ × V)->List (κ × Value)->Prop:=ab5 fun(p:κ × V) (q:κ × Value)=>p.1=q.1/\RelV p.2 q.2
def kV:Key->V
 | .inl i=>.int i
 | .inr x=>.str x
inductive HO where
  | lst (xs:List V)
  | tup (xs:List V)
  | dK (kvs:List (Key × V)) | dT (kvs:List (List Key × V))
  | set (S:Int->Bool) (n:Nat)
  | ins (C dx:Addr) (fs:List (Str × V))
  | own (x:Addr)
  | xd (fs:List (Str × V))
  | met (f x:Addr)
  | rng (lo hi:Int)
  | frz (o:Obj) (u:HO)
  | tbl (ps:Array Value)
  | ext (φ:Heap->Prop)
abbrev Hp:=Addr->Option HO
def upd (H:Hp)(a:Addr)(o:HO):Hp:=fun b=>if b=a then some o else H b
theorem a9 {H:Hp}{o:HO}:upd H a o a=some o:=by unfold upd;rw[if_pos rfl]
theorem x8 {H:Hp}{b:Addr}{o:HO}(h:b≠a):upd H a o b=H b:=by unfold upd;rw[if_neg h]
theorem ax9 {H:Hp}{o u:HO}:upd (upd H a o) a u=upd H a u:=by
 funext b;unfold upd;split<;>rfl
theorem bR8 {H:Hp}{b:Addr}{o u:HO}(h:H a=some o)(h':H b=some u)(d:o≠u):a≠b:=by
 intro e;subst e;rw[h]at h';exact d (Option.some.inj h')
theorem y7 {H:Hp}{b:Addr}{o:HO}(h:H a=some o)(h':H b=none):a≠b:=by
 intro e;subst e;rw[h]at h';cases h'
section
variable (P:Program) (w:World)
def O0 (H:Hp)(h:Heap)(a:Addr):HO->Prop
 | .lst xs=>xs.length<=d8/\∃ (its:List Value) (n:Nat),B7 xs its/\h.get? a=some { cls:=.type "list",data:=.seq its.toArray n }
 | .tup xs=>xs.length<=d8/\∃ its:List Value,B7 xs its/\IsTup h a its.toArray
 | .dK kvs=>kvs.length<=d8/\(a == sysModules)=false/\∃ vs,KV kvs vs/\h.DictOf (aN7 P w) a vs
 | .dT kvs=>kvs.length<=d8/\(a == sysModules)=false/\∃ xs:List (List Key × Addr × Value),
   ab5 (fun(p:List Key × V) (q:List Key × Addr × Value)=>p.1=q.1/\H q.2.1=some (.tup (p.1.map kV))/\RelV p.2 q.2.2) kvs xs /\
   ∃ o es ep,h.get? a=some o/\o.ExactDict/\o.data=.dict es ep/\es.toList=xs.map (entryOfKey (tupleKind (aN7 P w)))/\(xs.map (·.1)).Nodup
 | .set S n=>h.SetOf (A8 P w) a S n
 | .ins C dx fs=>H dx=some (.own a)/\fs.length<=1000/\dx≠a/\h.get? a=some (PySem.W.instObj C dx) /\
   ∃ mA,h.Ns1 dx mA/\(∀ f,cd8 (fs.lookup f) (mA f))/\PySem.Within mA (fs.map (·.1))
 | .own _=>∃ o,h.get? a=some o
 | .xd fs=>∃ mA,h.Ns1 a mA/\∀ f,cd8 (fs.lookup f) (mA f)
 | .rng lo hi=>∃ t u v,h.get? a=some { cls:=.type "range",data:=.fields #[.int lo t,.int hi u,.int 1 v] }
 | .frz o u=>h.get? a=some o/\O0 H h a u
 | .tbl ps=>h.get? a=some { cls:=.none,data:=.fields ps }
 | .met f x=>h.get? a=some (PySem.W.methodObj (.ref f) (.ref x))
 | .ext φ=>φ h/\(∃ o,h.get? a=some o)/\∀ h1 h2:Heap,φ h1->(∀ o,h1.get? a=some o->h2.get? a=some o)->φ h2
def HOk (H:Hp)(h:Heap):Prop:=∀ a o,H a=some o->O0 P w H h a o
end
section
variable {H H':Hp} {o:HO}
theorem O0.lt (x:O0 P w H h a o):a<h.objs.size:=by
 cases o with
 | lst xs=>obtain⟨_,_,_,_,e⟩:=x;exact i7 e
 | tup xs=>obtain⟨_,_,_,p⟩:=x;exact p.lt
 | dK kvs=>obtain⟨_,_,_,_,o,_,_,e,_⟩:=x;exact i7 e
 | dT kvs=>obtain⟨_,_,_,_,o,_,_,e,_⟩:=x;exact i7 e
 | set S n=>obtain⟨o,_,_,_,e,_⟩:=x;exact i7 e
 | ins C dx fs=>obtain⟨_,_,_,e,_⟩:=x;exact i7 e
 | own y=>obtain⟨_,e⟩:=x;exact i7 e
 | xd fs=>obtain⟨_,⟨_,_,_,e,_⟩,_⟩:=x;exact i7 e
 | rng lo hi=>obtain⟨_,_,_,e⟩:=x;exact i7 e
 | frz ob u=>obtain⟨e,_⟩:=x;exact i7 e
 | tbl ps=>exact i7 (show h.get? a=some _ from x)
 | met f y=>exact i7 (show h.get? a=some _ from x)
 | ext φ=>obtain⟨_,⟨_,e⟩,_⟩:=x;exact i7 e
theorem Paired.mapP {α β:Type}{F G:α->β->Prop}:∀ {l₁:List α} {l₂:List β},ab5 F l₁ l₂->(∀ a b,F a b->G a b)->ab5 G l₁ l₂
 | _,_,.nil,_=>.nil
 | _,_,.cons r t,f=>.cons (f _ _ r) (Paired.mapP t f)
theorem O0.stay (x:O0 P w H h a o)(k:∀ b u,(b=a\/H b=some (.own a))->h.get? b=some u->h'.get? b=some u)
  (ho:∀ b,H b=some (.own a)->H' b=some (.own a))(ht:∀ b xs,H b=some (.tup xs)->H' b=some (.tup xs)):O0 P w H' h' a o:=by
 induction o with
 | lst xs=>obtain⟨z,its,n,r,e⟩:=x;exact⟨z,its,n,r,k _ _ (.inl rfl) e⟩
 | tup xs=>obtain⟨z,its,r,ob,e,c⟩:=x;exact⟨z,its,r,ob,k _ _ (.inl rfl) e,c⟩
 | dK kvs=>obtain⟨z,y,vs,r,ob,es,ep,e,c⟩:=x;exact⟨z,y,vs,r,ob,es,ep,k _ _ (.inl rfl) e,c⟩
 | dT kvs =>
  obtain⟨z,y,xs,r,ob,es,ep,e,c⟩:=x
  exact⟨z,y,xs,Paired.mapP r fun p q z=>⟨z.1,ht _ _ z.2.1,z.2.2⟩,ob,es,ep,k _ _ (.inl rfl) e,c⟩
 | set S n=>obtain⟨ob,es,ep,t,e,c⟩:=x;exact⟨ob,es,ep,t,k _ _ (.inl rfl) e,c⟩
 | ins C dx fs =>
  obtain⟨d,z,ne,e,mA,⟨od,es,ep,e2,c⟩,r⟩:=x
  exact⟨ho _ d,z,ne,k _ _ (.inl rfl) e,mA,⟨od,es,ep,k _ _ (.inr d) e2,c⟩,r⟩
 | own y=>obtain⟨ob,e⟩:=x;exact⟨ob,k _ _ (.inl rfl) e⟩
 | xd fs=>obtain⟨mA,⟨od,es,ep,e,c⟩,r⟩:=x;exact⟨mA,⟨od,es,ep,k _ _ (.inl rfl) e,c⟩,r⟩
 | rng lo hi=>obtain⟨t,u,v,e⟩:=x;exact⟨t,u,v,k _ _ (.inl rfl) e⟩
 | frz ob u ih=>obtain⟨e,q⟩:=x;exact⟨k _ _ (.inl rfl) e,ih q⟩
 | tbl ps =>
  have e:h.get? a=some { cls:=.none,data:=.fields ps }:=x
  show h'.get? a=some { cls:=.none,data:=.fields ps }
  exact k a _ (.inl rfl) e
 | met f y =>
  have e:h.get? a=some (PySem.W.methodObj (.ref f) (.ref y)):=x
  show h'.get? a=some (PySem.W.methodObj (.ref f) (.ref y))
  exact k a _ (.inl rfl) e
 | ext φ=>obtain⟨p,⟨o,e⟩,st⟩:=x;exact⟨st _ _ p fun o q=>k _ _ (.inl rfl) q,⟨o,k _ _ (.inl rfl) e⟩,st⟩
theorem HOk.lt (x:HOk P w H h)(e:H a=some o):a<h.objs.size:=(x a o e).lt
theorem HOk.fresh (x:HOk P w H h)(e:h.objs.size<=a):H a=none:=by
 cases q:H a with
 | none=>rfl
 | some u=>exact absurd (o4 (x.lt q) e) (E2 _)
theorem HOk.kept (x:HOk P w H h)(k:∀ b u,h.get? b=some u->h'.get? b=some u):HOk P w H h':=fun a o e =>
 (x a o e).stay (fun b u _ q=>k b u q) (fun _ q=>q) fun _ _ q=>q
theorem HOk.laid (x:HOk P w H h)(k:∀ b u,h.get? b=some u->h'.get? b=some u)(hp:h.objs.size<=a)(new:O0 P w (upd H a o) h' a o):HOk P w (upd H a o) h':=fun b u e=>by
 have hn:=x.fresh hp
 by_cases hb:b=a
 ·subst hb;rw[a9]at e;cases e;exact new
 ·rw[x8 hb]at e
  exact(x b u e).stay (fun c v _ q=>k c v q) (fun c q=>by rw[x8 (y7 q hn)];exact q) fun c xs q=>by rw[x8 (y7 q hn)];exact q
end
def Rd (H:Hp)(a:Addr)(u:HO):Prop:=H a=some u\/∃ o,H a=some (.frz o u)
theorem Rd.ok {H:Hp}{u:HO}(r:Rd H a u)(x:HOk P w H h):O0 P w H h a u:=by
 rcases r with r | ⟨o,r⟩
 ·exact x a u r
 ·obtain⟨_,q⟩:=x a _ r
  exact q
def Mut:Option HO->Prop
 | some (.lst _)=>True
 | some (.dK _)=>True
 | some (.dT _)=>True
 | some (.set _ _)=>True
 | some (.ins _ _ _)=>True
 | some (.ext _)=>True
 | _=>False
section
variable {H:Hp} {x e:Addr} {o':HO}
theorem HOk.write (ok:HOk P w H h)(mu:Mut (H x))(he:e=x\/H e=some (.own x))(k:∀ b u,b≠e->h.get? b=some u->h'.get? b=some u)(heo:∃ u,h'.get? e=some u)
  (new:O0 P w (upd H x o') h' x o'):HOk P w (upd H x o') h':=fun b u q=>by
 have nown:∀ c y,H c=some (.own y)->c≠x:=fun c y r z=>by subst z;rw[r]at mu;exact mu
 have ntup:∀ c xs,H c=some (.tup xs)->c≠x:=fun c xs r z=>by subst z;rw[r]at mu;exact mu
 by_cases hb:b=x
 ·subst hb;rw[a9]at q;cases q;exact new
 ·rw[x8 hb]at q
  by_cases hbe:b=e
  ·have q':H b=some (.own x):=by
    rcases he with z | z
    ·exact absurd (hbe.trans z) hb
    ·rw[hbe];exact z
   rw[q]at q';cases q'
   obtain⟨v,hv⟩:=heo
   exact⟨v,by rw[hbe];exact hv⟩
  ·refine(ok b u q).stay (fun c v hc r=>k c v ?_ r) (fun c r=>by rw[x8 (nown c b r)];exact r) fun c xs r=>by rw[x8 (ntup c xs r)];exact r
   rcases hc with rfl | hc
   ·exact hbe
   ·rintro rfl
    rcases he with z | z
    ·exact nown c b hc z
    ·rw[hc]at z;cases z;exact hb rfl
end
structure Un (fs ex:List Addr) (H H':Hp) (h h':Heap):Prop where
 keep:∀ b o,h.get? b=some o->H b=none->b∉fs->b∉ex->h'.get? b=some o
 slot:∀ b o,h.get? b=some o->H b=none->b∈fs->b∉ex->∃ sl,h'.get? b=some { o with slots:=sl }
 free:∀ b o,h.get? b=some o->H b=none->b∉ex->H' b=none
 there:∀ b o,h.get? b=some o->b∉ex->∃ o',h'.get? b=some o'
 tups:∀ b xs,H b=some (.tup xs)->H' b=some (.tup xs)
 frzs:∀ b o u,H b=some (.frz o u)->H' b=some (.frz o u)
 tbls:∀ b ps,H b=some (.tbl ps)->∃ more,H' b=some (.tbl (ps++more))
section
variable {fs fs' ex ex':List Addr} {H H1 H2:Hp} {h1 h2:Heap} {x e:Addr} {o:HO}
theorem Un.any (u:Un fs ex H H1 h h1){b:Addr}{ob:Obj}(q:h.get? b=some ob)(n:H b=none)(hx:b∉ex):∃ sl,h1.get? b=some { ob with slots:=sl }:=by
 by_cases hb:b∈fs
 ·exact u.slot b ob q n hb hx
 ·exact⟨ob.slots,u.keep b ob q n hb hx⟩
theorem Un.kept (k:∀ b u,h.get? b=some u->h'.get? b=some u):Un fs ex H H h h':=
 ⟨fun b ob q _ _ _=>k b ob q,fun b ob q _ _ _=>⟨ob.slots,k b ob q⟩,fun _ _ _ n _=>n,fun b ob q _=>⟨ob,k b ob q⟩,fun _ _ q=>q,fun _ _ _ q=>q,fun _ ps q=>⟨#[],by rw[q];simp⟩⟩
theorem Un.refl:Un fs ex H H h h:=Un.kept fun _ _ q=>q
theorem Un.laid (k:∀ b u,h.get? b=some u->h'.get? b=some u)(hp:h.objs.size<=a)(hn:H a=none):Un fs ex H (upd H a o) h h' where
 keep:=fun b u q _ _ _=>k b u q
 slot:=fun b u q _ _ _=>⟨u.slots,k b u q⟩
 free:=fun b u q n _=>by rw[x8 (m6 (o4 (i7 q) hp))];exact n
 there:=fun b u q _=>⟨u,k b u q⟩
 tups:=fun b xs q=>by rw[x8 (y7 q hn)];exact q
 frzs:=fun b u xs q=>by rw[x8 (y7 q hn)];exact q
 tbls:=fun b ps q=>⟨#[],by rw[x8 (y7 q hn),q];simp⟩
theorem Un.write (mu:Mut (H x))(he:e=x\/H e=some (.own x))(k:∀ b u,b≠e->h.get? b=some u->h'.get? b=some u)(heo:∃ u,h'.get? e=some u):Un fs ex H (upd H x o) h h':=by
 have hx:∀ b,H b=none->b≠x:=fun b n z=>by subst z;rw[n]at mu;exact mu
 have hb:∀ b,H b=none->b≠e:=fun b n z=>by
  subst z
  rcases he with r | r
  ·exact hx b n r
  ·rw[n]at r;cases r
 have hm:∀ b u,H b=some u->¬ Mut (some u)->b≠x:=fun b u q nm z=>by subst z;rw[q]at mu;exact nm mu
 refine⟨fun b u q n _ _=>k b u (hb b n) q,fun b u q n _ _=>⟨u.slots,k b u (hb b n) q⟩,fun b u q n _=>by rw[x8 (hx b n)];exact n,fun b u q _=>?_,
  fun b xs q=>by rw[x8 (hm b _ q fun z=>z)];exact q,fun b u xs q=>by rw[x8 (hm b _ q fun z=>z)];exact q,fun b ps q=>⟨#[],by rw[x8 (hm b _ q fun z=>z),q];simp⟩⟩
 by_cases hbe:b=e
 ·subst hbe;exact heo
 ·exact⟨u,k b u hbe q⟩
end
def trk (h:Heap)(H:Hp):List Addr:=(A5 h.objs.size).filter fun a=>(H a).isSome
def aH7 (h:Heap)(H:Hp):Heap:=PySem.W.hideAll h (trk h H)
theorem bp9 (h:Heap)(H:Hp):(aH7 h H).objs.size=h.objs.size:=PySem.W.hideAll_size _ _
theorem bB2 {H:Hp}{b:Addr}{o:Obj}(e:h.get? b=some o)(n:H b=none):(aH7 h H).get? b=some o:=
 PySem.W.hideAll_get _ e fun hm=>by
  have q:(H b).isSome=true:=(G7.mp hm).2
  rw[n]at q;simp at q
theorem bL9 {H:Hp}{b:Addr}{o:Obj}(e:(aH7 h H).get? b=some o):h.get? b=some o/\H b=none:=by
 have e':h.get? b=some o:=PySem.W.of_hideAll (trk h H) e
 refine⟨e',?_⟩
 cases q:H b with
 | none=>rfl
 | some x =>
  have hm:b∈trk h H:=G7.mpr ⟨B1.mpr (i7 e'),by simp[q]⟩
  have z:(aH7 h H).get? b=none:=PySem.W.hideAll_none (trk h H) hm
  rw[z]at e;cases e
def bO4 (g h:Heap)(L:Addr):List (Addr × Obj):=(A5 h.objs.size).filterMap fun a=>if a=L\/(g.get? a).isSome=true then none else (h.get? a).map fun o=>(a,o)
def rest (g h:Heap)(L d:Addr):List (Addr × Obj):=(bO4 g h L).filter fun p=>decide (p.1≠d)
end L2
variable {H H':L2.Hp}{Qd:L2.Hp->Prop}{gV:List L2.V->List L2.V->List L2.V}{xs ys:List L2.V}
namespace L2
open PySem PySem.Spec PyProof.Rows
structure Mod (K:W.Frag) (mg:Str->Option Value) (base:Heap):Prop where
 kin:K.In base
 glob:base.Ns d4 mg
 blt:∃ mb,base.Ns aP8 mb/\∀ x:Str,x≠"__name__"->mb x=N1 x
 nolimit:base.NoLimit
structure Cx where
 prog:Program
 w:World
 K:W.Frag
 mg:Str->Option Value
 base:Heap
 A:Around
 N:List Str
 s₀:Shared
 H₀:Hp
 env:Env
 outer:List Env
 stack:List Env
 ex:List Addr
 fn:Str->Bool
 calm:Bool
 pn:List (Addr × Obj)
 xe:Value->Shared->Prop
def frs (l:List Env):List Addr:=l.filterMap (·.frame)
abbrev Cx.fs (X:Cx):List Addr:=frs X.outer
def Vis (sc:Scope)(x:Str):Prop:=sc.names.lookup x=some .local\/sc.names.lookup x=some .cell\/sc.names.lookup x=some .free
def Loc (sc:Scope)(x:Str):Prop:=sc.names.lookup x=some .local\/sc.names.lookup x=some .cell
def Look (env:Env)(h:Heap)(m:Str->Option Value)(x:Str)(u:Value):Prop:=
 (env.kindOf x=some .local/\m x=some u)\/((env.kindOf x=some .cell\/env.kindOf x=some .free)/\∃ c,env.cells.lookup x=some c/\h.IsCell c (some u))
structure Cx.Ok (X:Cx):Prop where
 mod:Mod X.K X.mg X.base
 kind:X.env.scope.kind=.function
 glob:X.env.globals=d4
 blt:X.env.builtins=aP8
 above:X.s₀.heap.objs.size<=X.env.locals
 inj:∀ x y c,X.env.cells.lookup x=some c->X.env.cells.lookup y=some c->x=y
 has:∀ x,(X.env.kindOf x=some .cell\/X.env.kindOf x=some .free)->∃ c,X.env.cells.lookup x=some c
 cab:∀ x c,X.fn x=true->X.env.cells.lookup x=some c->X.s₀.heap.objs.size<=c
 hd:X.calm=true->X.A.handled=none
 frames:X.A.frames=some X.stack
 stk:X.stack=X.outer\/(X.stack=X.env::X.outer/\X.env.frame=some X.env.locals)
 exf:∀ b∈X.ex,b≠X.env.locals/\∀ x c,X.env.cells.lookup x=some c->c≠b
 bs:∀ b o,X.base.get? b=some o->X.s₀.heap.get? b=some o/\X.H₀ b=none
 bsz:X.base.objs.size<=X.s₀.heap.objs.size
 noex:∀ b o,X.base.get? b=some o->b∉X.ex
 exfs:∀ b∈X.ex,b∉X.fs
 funs:X.s₀.heap.FunFrames X.base X.outer
 frf:∀ b∈X.fs,X.H₀ b=none
structure Inv (X:Cx) (pins:List (Addr × Obj)) (σ:List (Option V)) (H:Hp) (s:Shared):Prop where
 ok:X.Ok
 os:s.os=X.s₀.os
 bare:aq1 s.gens
 base:Un X.fs X.ex X.H₀ H X.s₀.heap s.heap
 loc:∃ m,s.heap.Ns X.env.locals m/\∀ (i:Nat) (x:Str) (v:V),X.N[i]?=some x->σ[i]?=some (some v)->Vis X.env.scope x->∃ u,RelV v u/\Look X.env s.heap m x u
 cell:∀ x c,X.env.cells.lookup x=some c->∃ v,s.heap.IsCell c v
 free:H X.env.locals=none
 freeC:∀ x c,X.env.cells.lookup x=some c->H c=none
 pin:∀ p∈X.pn++pins,s.heap.get? p.1=some p.2/\H p.1=none/\p.1≠X.env.locals/\p.1∉X.fs/\∀ v,p.2.data≠.cell v
 hok:HOk X.prog X.w H s.heap
 len:σ.length=X.N.length
section
variable {X:Cx} {σ:List (Option V)}
theorem Cx.Ok.nofr (ok:X.Ok){b:Addr}{o:Obj}(e:X.base.get? b=some o):b∉X.fs:=fun hb=>by
 have:=(ok.funs.mem hb).1
 rw[e]at this;cases this
theorem Inv.bs (I:Inv X pins σ H s):∀ b o,X.base.get? b=some o->s.heap.get? b=some o/\H b=none:=fun b o e =>
 ⟨I.base.keep b o (I.ok.bs b o e).1 (I.ok.bs b o e).2 (I.ok.nofr e) (I.ok.noex b o e),I.base.free b o (I.ok.bs b o e).1 (I.ok.bs b o e).2 (I.ok.noex b o e)⟩
theorem Inv.bk (I:Inv X pins σ H s):∀ b o,X.base.get? b=some o->s.heap.get? b=some o:=fun b o e=>(I.bs b o e).1
theorem Inv.mod (I:Inv X pins σ H s):Mod X.K X.mg X.base:=I.ok.mod
theorem Inv.kIn (I:Inv X pins σ H s):X.K.In s.heap:=I.ok.mod.kin.keeps I.bk
theorem Inv.nolimit (I:Inv X pins σ H s):s.heap.NoLimit:=I.ok.mod.nolimit.keeps I.bk
theorem Inv.lt (I:Inv X pins σ H s):X.env.locals<s.heap.objs.size:=let ⟨_,hn,_⟩:=I.loc;hn.lt
theorem Inv.sz (I:Inv X pins σ H s):X.s₀.heap.objs.size<=s.heap.objs.size:=t9 I.ok.above (at1 I.lt)
theorem Inv.nofs (I:Inv X pins σ H s)(h:s.heap.objs.size<=a):a∉X.fs:=fun hb=>by
 obtain⟨_,o,ho,_⟩:=I.ok.funs.mem hb
 exact absurd (o4 (i7 ho) (t9 I.sz h)) (E2 _)
theorem Inv.cne (I:Inv X pins σ H s):∀ x c,X.env.cells.lookup x=some c->c≠X.env.locals:=fun x c e z=>by
 obtain⟨v,o,ho,hd⟩:=I.cell x c e
 obtain⟨m,⟨o',es,ep,ho',hd',_⟩,_⟩:=I.loc
 rw[z,ho']at ho;cases ho;rw[hd']at hd;cases hd
theorem Inv.funs (I:Inv X pins σ H s):s.heap.FunFrames X.base X.outer:=by
 have all:∀ (l:List Env),(∀ b∈frs l,b∈X.fs)->X.s₀.heap.FunFrames X.base l->s.heap.FunFrames X.base l:=by
  intro l
  induction l with
  | nil=>intro _ _;trivial
  | cons env r ih =>
   intro hs hl
   obtain⟨hk,⟨L,o,hf,hn,ho,hd⟩,hr⟩:=hl
   have hL:L∈X.fs:=hs L (by unfold frs;rw[P5,hf];exact c7)
   obtain⟨sl,e⟩:=I.base.slot L o ho (I.ok.frf L hL) hL fun z=>I.ok.exfs L z hL
   exact⟨hk,⟨L,_,hf,hn,e,hd⟩,ih (fun b hb=>hs b (by unfold frs;rw[P5,hf];exact b8 _ hb)) hr⟩
 exact all X.outer (fun _ hb=>hb) I.ok.funs
theorem Inv.stack (I:Inv X pins σ H s):s.heap.FunFrames X.base X.stack:=by
 rcases I.ok.stk with e | ⟨e,hf⟩
 ·rw[e];exact I.funs
 ·rw[e]
  obtain⟨m,hn,_⟩:=I.loc
  refine .cons (by rw[I.ok.kind];decide) hf hn ?_ I.funs
  exact av9 (t9 I.ok.bsz I.ok.above)
theorem Inv.stkSub (I:Inv X pins σ H s):∀ b∈frs X.stack,b∈X.env.locals::X.fs:=fun b hb=>by
 rcases I.ok.stk with e | ⟨e,hf⟩
 ·rw[e]at hb;exact b8 _ hb
 ·rw[e]at hb
  unfold frs at hb
  rw[P5,hf]at hb
  exact hb
theorem Inv.stkFree (I:Inv X pins σ H s):∀ b∈frs X.stack,H b=none:=fun b hb=>by
 rcases c5.mp (I.stkSub b hb) with e | hb
 ·rw[e];exact I.free
 ·obtain⟨_,o,ho,_⟩:=I.ok.funs.mem hb
  exact I.base.free b o ho (I.ok.frf b hb) fun z=>I.ok.exfs b z hb
theorem Inv.step {g':Array bF7}{t':Nat}{d':Drawn}{ch:List Addr}(I:Inv X pins σ H s)
  (hch:∀ b∈ch,(b∈X.ex\/X.s₀.heap.objs.size<=b)/\b≠X.env.locals/\(∀ x c,X.env.cells.lookup x=some c->c≠b)/\∀ p∈X.pn++pins,p.1≠b)
  (keep:∀ b o,b≠X.env.locals->b∉X.fs->b∉ch->s.heap.get? b=some o->H b=none->h'.get? b=some o)
  (slot:∀ b o,b≠X.env.locals->b∈X.fs->b∉ch->s.heap.get? b=some o->H b=none->∃ sl,h'.get? b=some { o with slots:=sl })(free:∀ b o,b∉ch->s.heap.get? b=some o->H b=none->H' b=none)
  (there:∀ b o,b∉ch->s.heap.get? b=some o->∃ o',h'.get? b=some o')
  (tups:∀ b xs,H b=some (.tup xs)->H' b=some (.tup xs))(frzs:∀ b o u,H b=some (.frz o u)->H' b=some (.frz o u))(tbls:∀ b ps,H b=some (.tbl ps)->∃ more,H' b=some (.tbl (ps++more)))
  (ns:∀ m,s.heap.Ns X.env.locals m->h'.Ns X.env.locals m)(hok:HOk X.prog X.w H' h')(hg:aq1 g') :
  Inv X pins σ H' { s with heap:=h',gens:=g',drawn:=d',toks:=t' }:=by
 have neL:∀ b o,X.s₀.heap.get? b=some o->b≠X.env.locals:=fun b o e=>m6 (o4 (i7 e) I.ok.above)
 have neC:∀ b o,X.s₀.heap.get? b=some o->b∉X.ex->b∉ch:=fun b o e hx hb=>by
  rcases(hch b hb).1 with z | z
  ·exact hx z
  ·exact absurd (o4 (i7 e) z) (E2 _)
 have cellK:∀ x c,X.env.cells.lookup x=some c->∀ v,s.heap.IsCell c v->h'.IsCell c v:=fun x c e v ⟨o,ho,hd⟩=>by
  have nch:c∉ch:=fun z=>(hch c z).2.2.1 x c e rfl
  by_cases hc:c∈X.fs
  ·obtain⟨sl,q⟩:=slot c o (I.cne x c e) hc nch ho (I.freeC x c e)
   exact⟨_,q,hd⟩
  ·exact⟨o,keep c o (I.cne x c e) hc nch ho (I.freeC x c e),hd⟩
 refine⟨I.ok,I.os,hg,⟨fun b o e n hb hx=>?_,fun b o e n hb hx=>?_,fun b o e n hx=>?_,fun b o e hx=>?_,fun b xs e=>tups b xs (I.base.tups b xs e),fun b o xs e=>frzs b o xs (I.base.frzs b o xs e),fun b ps e=>?_⟩,?_,fun x c e=>?_,?_,fun x c e=>?_,fun p hp=>?_,hok,I.len⟩
 ·exact keep b o (neL b o e) hb (neC b o e hx) (I.base.keep b o e n hb hx) (I.base.free b o e n hx)
 ·obtain⟨sl,e1⟩:=I.base.slot b o e n hb hx
  obtain⟨sl',e2⟩:=slot b _ (neL b o e) hb (neC b o e hx) e1 (I.base.free b o e n hx)
  exact⟨sl',e2⟩
 ·obtain⟨o',e1⟩:=I.base.there b o e hx
  exact free b o' (neC b o e hx) e1 (I.base.free b o e n hx)
 ·obtain⟨o',e1⟩:=I.base.there b o e hx
  exact there b o' (neC b o e hx) e1
 ·obtain⟨m1,e1⟩:=I.base.tbls b ps e
  obtain⟨m2,e2⟩:=tbls b _ e1
  exact⟨m1++m2,by rw[e2,aA1]⟩
 ·obtain⟨m,hn,hl⟩:=I.loc
  refine⟨m,ns m hn,fun i x v e1 e2 e3=>?_⟩
  obtain⟨u,r,l⟩:=hl i x v e1 e2 e3
  refine⟨u,r,?_⟩
  rcases l with l | ⟨k,c,e,z⟩
  ·exact .inl l
  ·exact .inr ⟨k,c,e,cellK x c e _ z⟩
 ·obtain⟨v,z⟩:=I.cell x c e
  exact⟨v,cellK x c e v z⟩
 ·obtain⟨m,⟨o,_,_,ho,_⟩,_⟩:=I.loc
  exact free _ o (fun z=>(hch _ z).2.1 rfl) ho I.free
 ·obtain⟨v,o,ho,hd⟩:=I.cell x c e
  exact free c o (fun z=>(hch c z).2.2.1 x c e rfl) ho (I.freeC x c e)
 ·obtain⟨e,n,ne,nf,d⟩:=I.pin p hp
  have nch:p.1∉ch:=fun z=>(hch p.1 z).2.2.2 p hp rfl
  exact⟨keep p.1 p.2 ne nf nch e n,free p.1 p.2 nch e n,ne,nf,d⟩
theorem Inv.un {t':Nat}(I:Inv X pins σ H s)(u:Un X.fs [] H H' s.heap h')(hok:HOk X.prog X.w H' h'):Inv X pins σ H' { s with heap:=h',toks:=t' }:=by
 obtain⟨m,⟨o,es,ep,ho,r⟩,_⟩:=id I.loc
 obtain⟨sl,hL⟩:=u.any ho I.free (by simp)
 exact I.step (g':=s.gens) (d':=s.drawn) (ch:=[]) (fun _ z=>nomatch z) (fun b o _ hb _ e n=>u.keep b o e n hb (by simp)) (fun b o _ hb _ e n=>u.slot b o e n hb (by simp)) (fun b o _ e n=>u.free b o e n (by simp)) (fun b o _ e=>u.there b o e (by simp)) u.tups u.frzs u.tbls (fun m' hm=>by
  obtain⟨o',es',ep',ho',r'⟩:=hm
  rw[ho]at ho';cases ho'
  exact⟨_,es',ep',hL,r'⟩) hok I.bare
theorem Inv.call {g':Array bF7}{t':Nat}{d':Drawn}{ch:List Addr}(I:Inv X pins σ H s)(u:Un (frs X.stack) ch H H' s.heap h')(hok:HOk X.prog X.w H' h')(hg:aq1 g')
  (hch:∀ b∈ch,(b∈X.ex\/X.s₀.heap.objs.size<=b)/\b≠X.env.locals/\(∀ x c,X.env.cells.lookup x=some c->c≠b)/\∀ p∈X.pn++pins,p.1≠b) :
  Inv X pins σ H' { s with heap:=h',gens:=g',drawn:=d',toks:=t' }:=by
 obtain⟨m,⟨o,es,ep,ho,r⟩,_⟩:=id I.loc
 obtain⟨sl,hL⟩:=u.any ho I.free fun z=>(hch _ z).2.1 rfl
 exact I.step (ch:=ch) hch (fun b o hL hb hc e n=>u.keep b o e n (fun z=>(c5.mp (I.stkSub b z)).elim hL hb) hc) (fun b o _ _ hc e n=>u.any e n hc) (fun b o hc e n=>u.free b o e n hc) (fun b o hc e=>u.there b o e hc) u.tups u.frzs u.tbls (fun m' hm=>by
  obtain⟨o',es',ep',ho',r'⟩:=hm
  rw[ho]at ho';cases ho'
  exact⟨_,es',ep',hL,r'⟩) hok hg
theorem Inv.turned {t':Nat}{it:Addr}(I:Inv X pins σ H s)(k:∀ b o,b≠it->s.heap.get? b=some o->h'.get? b=some o)(hn:H it=none)(hL:it≠X.env.locals)
  (h1:it∈X.ex\/X.s₀.heap.objs.size<=it)(h2:∀ x c,X.env.cells.lookup x=some c->c≠it)(h3:∀ p∈X.pn++pins,p.1≠it):Inv X pins σ H { s with heap:=h',toks:=t' }:=by
 have nit:∀ b u,H b=some u->b≠it:=fun b u e z=>by rw[z,hn]at e;cases e
 refine I.step (g':=s.gens) (d':=s.drawn) (ch:=[it]) (fun b hb=>?_) (fun b o _ _ hc e _=>k b o (fun z=>hc (by simp[z])) e) (fun b o _ _ hc e _=>⟨o.slots,k b o (fun z=>hc (by simp[z])) e⟩) (fun _ _ _ _ n=>n)
  (fun b o hc e=>⟨o,k b o (fun z=>hc (by simp[z])) e⟩) (fun _ _ e=>e) (fun _ _ _ e=>e) (fun b ps e=>⟨#[],by rw[e];simp⟩) (fun m hm=>?_) (fun b u e=>?_) I.bare
 ·have e:b=it:=by simpa using hb
  subst e
  exact⟨h1,hL,h2,h3⟩
 ·obtain⟨o,es,ep,ho,r⟩:=hm
  exact⟨o,es,ep,k _ o (Ne.symm hL) ho,r⟩
 ·refine(I.hok b u e).stay (fun c v hc q=>k c v ?_ q) (fun _ q=>q) fun _ _ q=>q
  rcases hc with z | z
  ·rw[z];exact nit b u e
  ·exact nit c _ z
theorem Inv.tok (I:Inv X pins σ H s)(t:Nat):Inv X pins σ H { s with toks:=t }:=I.un (h':=s.heap) (t':=t) Un.refl I.hok
theorem Inv.kept {t':Nat}(I:Inv X pins σ H s)(k:∀ b u,s.heap.get? b=some u->h'.get? b=some u):Inv X pins σ H { s with heap:=h',toks:=t' }:=I.un (Un.kept k) (I.hok.kept k)
theorem Inv.laid {o:HO}{t':Nat}(I:Inv X pins σ H s)(k:∀ b u,s.heap.get? b=some u->h'.get? b=some u)(hp:s.heap.objs.size<=a)(new:O0 X.prog X.w (upd H a o) h' a o) :
  Inv X pins σ (upd H a o) { s with heap:=h',toks:=t' }:=I.un (Un.laid k hp (I.hok.fresh hp)) (I.hok.laid k hp new)
theorem Inv.write {x e:Addr}{o:HO}{t':Nat}(I:Inv X pins σ H s)(mu:Mut (H x))(he:e=x\/H e=some (.own x))(k:∀ b u,b≠e->s.heap.get? b=some u->h'.get? b=some u)(heo:∃ u,h'.get? e=some u)
  (new:O0 X.prog X.w (upd H x o) h' x o):Inv X pins σ (upd H x o) { s with heap:=h',toks:=t' }:=I.un (Un.write mu he k heo) (I.hok.write mu he k heo new)
theorem Inv.pins_of {pins':List (Addr × Obj)}(I:Inv X pins σ H s)(h:∀ p∈pins',s.heap.get? p.1=some p.2/\H p.1=none/\p.1≠X.env.locals/\p.1∉X.fs/\∀ v,p.2.data≠.cell v):Inv X pins' σ H s:=
 ⟨I.ok,I.os,I.bare,I.base,I.loc,I.cell,I.free,I.freeC,fun p hp=>(m7.mp hp).elim (fun z=>I.pin p (F1 _ z)) (h p),I.hok,I.len⟩
theorem aU2 (hN:N.Nodup)(a:N[i]?=some x)(b:N[j]?=some x):i=j:=by
 obtain⟨h1,e1⟩:=d5.mp a
 obtain⟨h2,e2⟩:=d5.mp b
 exact(List.getElem_inj hN).mp (e1.trans e2.symm)
theorem at8 {v:V}{Q:Unit->Shared->Prop}(I:Inv X pins σ H s)(hN:X.N.Nodup)(hi:X.N[i]?=some x)(hx:Loc X.env.scope x)(r:RelV v u)
  (h:∀ s',Inv X pins (σ.set i (some v)) H s'->(∃ a,Heap.SameBut a s.heap s'.heap/\(a=X.env.locals\/X.env.cells.lookup x=some a))->Q () s')(hf:X.fn x=true\/X.env.scope.names.lookup x=some .local:=by first | exact .inl rfl | exact .inr rfl | assumption):v7 M A (storeName X.env x u) Q E s:=by
 obtain⟨m,hn,hl⟩:=id I.loc
 have hcls:(X.env.scope.kind == .class || (X.env.scope.kind == .module && X.env.locals != X.env.globals))=false:=by rw[I.ok.kind];rfl
 have hiσ:i<σ.length:=by rw[I.len];exact(d5.mp hi).1
 have cne:=I.cne
 have tracked:∀ {a:Addr} {h':Heap},(∃ o,s.heap.get? a=some o/\H a=none)->Heap.SameBut a s.heap h'->HOk X.prog X.w H h':=fun {a h'} ha hs b ob e=>by
  obtain⟨_,_,hfree⟩:=ha
  refine(I.hok b ob e).stay (fun c w' hc q=>(hs.2 c ?_).trans q) (fun _ q=>q) fun _ _ q=>q
  rintro rfl
  rcases hc with rfl | hc
  ·rw[hfree]at e;cases e
  ·rw[hfree]at hc;cases hc
 rcases hx with hk | hk
 ·refine wpAny_storeName_local hk hn (fun h' hn' hs=>?_) hcls
  obtain⟨oL,_,_,hoL,_⟩:=id hn
  refine h _ ⟨I.ok,I.os,I.bare,⟨fun b o e n hb hx=>?_,fun b o e n hb hx=>?_,I.base.free,fun b o e hx=>?_,I.base.tups,I.base.frzs,I.base.tbls⟩,⟨_,hn',fun j y v' e1 e2 e3=>?_⟩,fun y c e=>?_,I.free,I.freeC,fun p hp=>?_,tracked ⟨oL,hoL,I.free⟩ hs,by simpa using I.len⟩ ⟨_,hs,.inl rfl⟩
  ·exact(hs.2 b (m6 (o4 (i7 e) I.ok.above))).trans (I.base.keep b o e n hb hx)
  ·obtain⟨sl,e1⟩:=I.base.slot b o e n hb hx
   exact⟨sl,(hs.2 b (m6 (o4 (i7 e) I.ok.above))).trans e1⟩
  ·obtain⟨o',e1⟩:=I.base.there b o e hx
   exact⟨o',(hs.2 b (m6 (o4 (i7 e) I.ok.above))).trans e1⟩
  ·by_cases hj:j=i
   ·subst hj
    rw[hi]at e1;cases e1
    rw[ap8 hiσ]at e2
    cases e2
    exact⟨u,r,.inl ⟨hk,by simp⟩⟩
   ·rw[T6 (Ne.symm hj)]at e2
    obtain⟨u',r',q⟩:=hl j y v' e1 e2 e3
    refine⟨u',r',?_⟩
    rcases q with⟨k,e⟩ | ⟨k,c,e,z⟩
    ·refine .inl ⟨k,?_⟩
     have:y≠x:=fun e=>hj (aU2 hN e1 (e ▸ hi))
     simp[this,e]
    ·exact .inr ⟨k,c,e,z.sameBut hs (cne y c e)⟩
  ·obtain⟨w',z⟩:=I.cell y c e
   exact⟨w',z.sameBut hs (cne y c e)⟩
  ·obtain⟨e,n,ne,nf,d⟩:=I.pin p hp
   exact⟨(hs.2 p.1 ne).trans e,n,ne,nf,d⟩
 ·have hfn:X.fn x=true:=by
   rcases hf with z | z
   ·exact z
   ·rw[z]at hk;cases hk
  obtain⟨c,hc⟩:=I.ok.has x (.inl hk)
  obtain⟨w',z⟩:=I.cell x c hc
  refine wpAny_storeName_cell I.ok.kind hk hc z (fun h' hc' hs=>?_)
  obtain⟨oc,hoc,hocd⟩:=id z
  refine h { s with heap:=h' } ⟨I.ok,I.os,I.bare,⟨fun b o e n hb hx=>?_,fun b o e n hb hx=>?_,I.base.free,fun b o e hx=>?_,I.base.tups,I.base.frzs,I.base.tbls⟩,⟨m,hn.sameBut hs (Ne.symm (cne x c hc)),fun j y v' e1 e2 e3=>?_⟩,fun y c' e=>?_,I.free,I.freeC,fun p hp=>?_,tracked ⟨oc,hoc,I.freeC x c hc⟩ hs,by simpa using I.len⟩ ⟨c,hs,.inr hc⟩
  ·exact(hs.2 b (m6 (o4 (i7 e) (I.ok.cab x c hfn hc)))).trans (I.base.keep b o e n hb hx)
  ·obtain⟨sl,e1⟩:=I.base.slot b o e n hb hx
   exact⟨sl,(hs.2 b (m6 (o4 (i7 e) (I.ok.cab x c hfn hc)))).trans e1⟩
  ·obtain⟨o',e1⟩:=I.base.there b o e hx
   exact⟨o',(hs.2 b (m6 (o4 (i7 e) (I.ok.cab x c hfn hc)))).trans e1⟩
  ·by_cases hj:j=i
   ·subst hj
    rw[hi]at e1;cases e1
    rw[ap8 hiσ]at e2
    cases e2
    exact⟨u,r,.inr ⟨.inl hk,c,hc,hc'⟩⟩
   ·rw[T6 (Ne.symm hj)]at e2
    obtain⟨u',r',q⟩:=hl j y v' e1 e2 e3
    refine⟨u',r',?_⟩
    rcases q with q | ⟨k,c',e,z'⟩
    ·exact .inl q
    ·refine .inr ⟨k,c',e,z'.sameBut hs ?_⟩
     rintro rfl
     exact hj (aU2 hN e1 (I.ok.inj _ _ _ e hc ▸ hi))
  ·by_cases hcc:c'=c
   ·subst hcc;exact⟨_,hc'⟩
   ·obtain⟨w2,z2⟩:=I.cell y c' e
    exact⟨w2,z2.sameBut hs hcc⟩
  ·obtain⟨e,n,ne,nf,d⟩:=I.pin p hp
   refine⟨(hs.2 p.1 ?_).trans e,n,ne,nf,d⟩
   intro q
   rw[q,hoc]at e
   have q':oc=p.2:=Option.some.inj e
   exact d w' (by rw[<- q'];exact hocd)
theorem aA4 {v:V}{Q:Unit->Shared->Prop}(I:Inv X pins σ H s)(hN:X.N.Nodup)(hi:X.N[i]?=some x)(hx:Loc X.env.scope x)(r:RelV v u)
  (h:∀ s',Inv X pins (σ.set i (some v)) H s'->Q () s')(hf:X.fn x=true\/X.env.scope.names.lookup x=some .local:=by first | exact .inl rfl | exact .inr rfl | assumption):v7 M A (storeName X.env x u) Q E s:=
 at8 I hN hi hx r (fun s' I' _=>h s' I') hf
theorem Inv.call' {s':Shared}{ch:List Addr}(I:Inv X pins σ H s)(ho:s'.os=s.os)(u:Un (frs X.stack) ch H H' s.heap s'.heap)(hok:HOk X.prog X.w H' s'.heap)(hg:aq1 s'.gens)
  (hch:∀ b∈ch,(b∈X.ex\/X.s₀.heap.objs.size<=b)/\b≠X.env.locals/\(∀ x c,X.env.cells.lookup x=some c->c≠b)/\∀ p∈X.pn++pins,p.1≠b):Inv X pins σ H' s':=by
 obtain⟨h',g',d',t',o'⟩:=s'
 have e:o'=s.os:=ho
 subst e
 exact I.call (g':=g') (t':=t') (d':=d') u hok hg hch
end
abbrev XK:=Value->Option Addr->Hp->Prop
abbrev St:=List (Option V)
abbrev VK:=V->Hp->Prop
abbrev TE:=St->Hp->VK->Prop
abbrev TT:=St->Hp->(Bool->Hp->Prop)->Prop
abbrev TA:=St->Hp->(List V->Hp->Prop)->Prop
structure Ends where
 nx:St->Hp->Prop
 rt:VK
 bk:St->Hp->Prop:=fun _ _=>False
 ct:St->Hp->Prop:=fun _ _=>False
abbrev TS:=Ends->St->Hp->Prop
def EP (X:Cx)(pins:List (Addr × Obj))(σ:St)(Q:VK)(u:Value)(s':Shared):Prop:=∃ v H',Inv X pins σ H' s'/\RelV v u/\Q v H'
def TP (X:Cx)(pins:List (Addr × Obj))(σ:St)(Q:Bool->Hp->Prop)(b:Bool)(s':Shared):Prop:=∃ H',Inv X pins σ H' s'/\Q b H'
def AP (X:Cx)(pins:List (Addr × Obj))(σ:St)(Q:List V->Hp->Prop)(us:List Value)(s':Shared):Prop:=∃ vs H',Inv X pins σ H' s'/\B7 vs us/\Q vs H'
def SP (X:Cx)(pins:List (Addr × Obj))(D:Ends)(f:Flow)(s':Shared):Prop:=
 match f with
 | .next=>∃ σ' H',Inv X pins σ' H' s'/\D.nx σ' H'
 | .brk=>∃ σ' H',Inv X pins σ' H' s'/\D.bk σ' H'
 | .cont=>∃ σ' H',Inv X pins σ' H' s'/\D.ct σ' H'
 | .ret u=>∃ v σ' H',Inv X pins σ' H' s'/\RelV v u/\D.rt v H'
def PE (X:Cx)(e:Expr)(t:TE):Prop:=
 ∀ (pins:List (Addr × Obj)) (s:Shared) (σ:St) (H:Hp) (Q:VK),Inv X pins σ H s->t σ H Q->v7 (t7 X.prog X.w) X.A (eval e X.env) (EP X pins σ Q) X.xe s
def PT (X:Cx)(e:Expr)(t:TT):Prop:=
 ∀ (pins:List (Addr × Obj)) (s:Shared) (σ:St) (H:Hp) (Q:Bool->Hp->Prop),Inv X pins σ H s->t σ H Q->v7 (t7 X.prog X.w) X.A (isTrue e X.env (eval e X.env)) (TP X pins σ Q) X.xe s
def PW (X:Cx)(e:Expr)(t:TT):Prop:=
 ∀ (whole:Sem Value) (pins:List (Addr × Obj)) (s:Shared) (σ:St) (H:Hp) (Q:Bool->Hp->Prop),Inv X pins σ H s->t σ H Q->v7 (t7 X.prog X.w) X.A (isTrue e X.env whole) (TP X pins σ Q) X.xe s
theorem PW.pt {X:Cx}{t:TT}(h:PW X e t):PT X e t:=h _
def PA (X:Cx)(es:List Expr)(t:TA):Prop:=
 ∀ (pos:Pos) (pins:List (Addr × Obj)) (s:Shared) (σ:St) (H:Hp) (Q:List V->Hp->Prop),Inv X pins σ H s->t σ H Q->v7 (t7 X.prog X.w) X.A (spliced (Z1 pos (B0 es X.env))) (AP X pins σ Q) X.xe s
def PS (X:Cx)(st:Stmt)(t:TS):Prop:=
 ∀ (pins:List (Addr × Obj)) (s:Shared) (σ:St) (H:Hp) (D:Ends),Inv X pins σ H s->t D σ H->v7 (t7 X.prog X.w) X.A (exec st X.env) (SP X pins D) X.xe s
def PSs (X:Cx)(st:List Stmt)(t:TS):Prop:=
 ∀ (pins:List (Addr × Obj)) (s:Shared) (σ:St) (H:Hp) (D:Ends),Inv X pins σ H s->t D σ H->v7 (t7 X.prog X.w) X.A (execs st X.env) (SP X pins D) X.xe s
theorem thn {α:Type}{t:Sem α}{Q Q':α->Shared->Prop}(h:v7 M A t Q E s)(hQ:∀ a s,Q a s->Q' a s):v7 M A t Q' E s:=C6 h hQ fun _ _ x=>x
end L2
variable {X:L2.Cx}{r:L2.V->List L2.V->L2.Hp->L2.VK->Prop}{ta te:L2.TE}{σ:L2.St}
namespace L2
open PySem PySem.Spec PyProof.Rows
section
def cg7 (i:Nat):TE:=fun σ H Q=>∃ v,σ[i]?=some (some v)/\Q v H
def tC (v:V):TE:=fun _ H Q=>Q v H
theorem bX7 (hN:X.N[i]?=some x)(hv:Vis X.env.scope x)(hd:(x == ("__debug__":Str))=false:=by decide)(hcd:(x == ("__classdict__":Str))=false:=by decide):PE X (.Name x pos) (cg7 i):=by
 intro pins s σ H Q I h
 obtain⟨v,e,h⟩:=h
 obtain⟨m,hn,hl⟩:=I.loc
 obtain⟨u,r,l⟩:=hl i x v hN e hv
 have fin:EP X pins σ Q u s:=⟨v,H,I,r,h⟩
 rcases l with⟨hk,hm⟩ | ⟨hk,c,hc,hcell⟩
 ·exact wpAny_Name (ce8 I.ok.kind hk hn hm fin) hd
 ·rcases hk with hk | hk
  ·exact wpAny_Name (cf7 I.ok.kind hk hc hcell fin) hd
  ·exact wpAny_Name (wpAny_loadName_free I.ok.kind hk hc hcell fin hcd) hd
theorem d6 {i j pos}:PE X (.Constant (.int i) j pos) (tC (.int i)):=fun _ _ _ H _ I h=>wpAny_Constant_int ⟨.int i,H,I.tok _,⟨_,rfl⟩,h⟩
theorem bh6 {b j pos}:PE X (.Constant (.bool b) j pos) (tC (.bl b)):=fun _ _ _ H _ I h=>Constant_bool ⟨.bl b,H,I,rfl,h⟩
theorem P8 {j pos}:PE X (.Constant .none j pos) (tC .non):=fun _ _ _ H _ I h=>Constant_none ⟨.non,H,I,rfl,h⟩
theorem C8 {x j pos}:PE X (.Constant (.str x) j pos) (tC (.str x)):=fun _ _ _ H _ I h=>Calls.Constant_str ⟨.str x,H,I.tok _,⟨_,rfl⟩,h⟩
def Gl (X:Cx)(x:Str):Prop:=X.env.kindOf x=some .globalImplicit
theorem ar9 (I:Inv X pins σ H s)(hg:Gl X x)(hm:X.mg x=some u)(h:Q u s)
  (hd:(x == ("__debug__":Str))=false:=by decide):v7 (t7 X.prog X.w) X.A (eval (.Name x pos) X.env) Q E s :=
 Calls.Name_function_global I.ok.kind hg (Calls.loadGlobal_global (by rw[I.ok.glob];exact I.mod.glob.keeps I.bk) hm h) hd
theorem ab8 (I:Inv X pins σ H s)(hg:Gl X x)(hm:X.mg x=none)(hv:N1 x=some u)(h:Q u s)
  (hn:x≠"__name__":=by decide)(hd:(x == ("__debug__":Str))=false:=by decide):v7 (t7 X.prog X.w) X.A (eval (.Name x pos) X.env) Q E s:=by
 obtain⟨mb,h1,h2⟩:=I.mod.blt
 exact Calls.Name_function_global I.ok.kind hg (Calls.loadGlobal_builtin (by rw[I.ok.glob];exact I.mod.glob.keeps I.bk) hm (by rw[I.ok.blt];exact h1.keeps I.bk) ((h2 x hn).trans hv) h) hd
theorem af1 {v:V}(hg:Gl X x)(hm:X.mg x=some u)(r:RelV v u)(hd:(x == ("__debug__":Str))=false:=by decide):PE X (.Name x pos) (tC v) :=
 fun _ _ _ H _ I h=>ar9 I hg hm ⟨v,H,I,r,h⟩ hd
theorem bJ6 {v:V}(hg:Gl X x)(hm:X.mg x=none)(hv:N1 x=some u)(r:RelV v u)(hn:x≠"__name__":=by decide)(hd:(x == ("__debug__":Str))=false:=by decide):PE X (.Name x pos) (tC v) :=
 fun _ _ _ H _ I h=>ab8 I hg hm hv ⟨v,H,I,r,h⟩ hn hd
variable {a b:Expr} {tb:TE}
def tB (t:TE):TT:=fun σ H Q=>t σ H fun x H1=>∃ c,x=.bl c/\Q c H1
theorem ai6 {t:TE}(h:PE X e t)(he:∀ whole,isTrue e X.env whole=(do let v <- whole;standAt e.pos;aP9 [v] (truthy v)):=by intro _;rfl):PT X e (tB t):=by
 intro pins s σ H Q I hw
 refine isTrue_plain (thn (h pins s σ H _ I hw) fun v s1 ⟨x,H1,I1,r1,q1⟩=>?_) (he _)
 obtain⟨d,rfl,q⟩:=q1
 cases r1
 exact P4 ⟨H1,I1,q⟩
variable {tA tB':TT} {rest:List Expr}
def cp1 (t u:TT):TT:=fun σ H Q=>t σ H fun c H1=>if c=true then u σ H1 Q else Q false H1
def tOr (t u:TT):TT:=fun σ H Q=>t σ H fun c H1=>if c=true then Q true H1 else u σ H1 Q
def co4 (t:TT):TT:=fun σ H Q=>t σ H fun c H1=>Q (!c) H1
theorem aM7 (ha:PT X a tA):PW X (.BoolOp .And [a] pos) tA:=by
 intro wh pins s σ H Q I h
 refine isTrue_and (thn (ha pins s σ H Q I h) fun c s1 e=>?_)
 cases c with
 | true=>exact isTrue_and_nil e
 | false=>exact e
theorem ab6 (ha:PT X a tA):PW X (.BoolOp .Or [a] pos) tA:=by
 intro wh pins s σ H Q I h
 refine isTrue_or (thn (ha pins s σ H Q I h) fun c s1 e=>?_)
 cases c with
 | false=>exact isTrue_or_nil e
 | true=>exact e
theorem bb8 (ha:PT X a tA)(hb:PW X (.BoolOp .And (b::rest) pos) tB'):PW X (.BoolOp .And (a::b::rest) pos) (cp1 tA tB'):=by
 intro wh pins s σ H Q I h
 refine isTrue_and (thn (ha pins s σ H _ I h) fun c s1 ⟨H1,I1,q1⟩=>?_)
 cases c with
 | true=>exact hb wh pins s1 σ H1 Q I1 q1
 | false=>exact⟨H1,I1,q1⟩
theorem ag5 (ha:PT X a tA)(hb:PW X (.BoolOp .Or (b::rest) pos) tB'):PW X (.BoolOp .Or (a::b::rest) pos) (tOr tA tB'):=by
 intro wh pins s σ H Q I h
 refine isTrue_or (thn (ha pins s σ H _ I h) fun c s1 ⟨H1,I1,q1⟩=>?_)
 cases c with
 | true=>exact⟨H1,I1,q1⟩
 | false=>exact hb wh pins s1 σ H1 Q I1 q1
theorem U1 (ha:PT X a tA):PT X (.UnaryOp .Not a pos) (co4 tA):=by
 intro pins s σ H Q I h
 exact isTrue_not (ha pins s σ H (fun c H1=>Q (!c) H1) I h)
def co3 (ta tb:TE):TE:=fun σ H Q=>ta σ H fun x H1=>∃ c,x=.bl c/\if c=true then Q (.bl true) H1 else tb σ H1 Q
theorem bX8 {op}{t:TE}(h:PE X a t):PE X (.BoolOp op [a] pos) t:=fun pins s σ H Q I hw=>BoolOp_one (h pins s σ H Q I hw)
theorem ck2 (ha:PE X a ta)(hb:PE X (.BoolOp .Or (b::rest) pos) tb):PE X (.BoolOp .Or (a::b::rest) pos) (co3 ta tb):=by
 intro pins s σ H Q I h
 refine BoolOp_or (thn (ha pins s σ H _ I h) fun v s1 ⟨x,H1,I1,r1,q1⟩=>?_)
 obtain⟨c,rfl,q1⟩:=q1
 cases r1
 refine P4 ?_
 cases c with
 | false=>exact hb pins s1 σ H1 Q I1 q1
 | true=>exact⟨.bl true,H1,I1,rfl,q1⟩
def tIf (t:TT)(ta tb:TE):TE:=fun σ H Q=>t σ H fun c H1=>if c=true then ta σ H1 Q else tb σ H1 Q
theorem aB8 {c:Expr}(hc:PT X c tA)(ha:PE X a ta)(hb:PE X b tb):PE X (.IfExp c a b pos) (tIf tA ta tb):=by
 intro pins s σ H Q I h
 refine wpAny_IfExp (thn (hc pins s σ H _ I h) fun d s1 ⟨H1,I1,q1⟩=>?_)
 cases d with
 | true=>exact ha pins s1 σ H1 Q I1 q1
 | false=>exact hb pins s1 σ H1 Q I1 q1
end
def SqL (K:W.Frag)(H:Hp)(a:Addr)(xs:List V):Prop:=
 Rd H a (.lst xs) \/
  ∃ (o:Obj) (its:Array Value) (n:Nat),K.lookup a=some o/\o.cls=.type "list"/\o.dict=none/\o.data=.seq its n/\its.size<=d8/\B7 xs its.toList
def SqT (K:W.Frag)(H:Hp)(a:Addr)(xs:List V):Prop:=
 Rd H a (.tup xs) \/
  ∃ (o:Obj) (its:Array Value) (n:Nat),K.lookup a=some o/\o.cls=.type "tuple"/\o.data=.seq its n/\its.size<=d8/\B7 xs its.toList
def cr2:Value->Option V
 | .none=>some .non
 | .bool b=>some (.bl b)
 | .int i _=>some (.int i)
 | .str x _=>some (.str x)
 | .bytes b _=>some (.byt b)
 | .float b _=>some (.flt b)
 | .ref a=>some (.ref a)
 | .type n=>some (.ty n)
 | _=>none
theorem RelV.abs {x:V}(r:RelV x u):cr2 u=some x:=by
 cases x with
 | non=>cases r;rfl
 | bl _=>cases r;rfl
 | int _=>obtain⟨t,rfl⟩:=r;rfl
 | str _=>obtain⟨t,rfl⟩:=r;rfl
 | byt _=>obtain⟨t,rfl⟩:=r;rfl
 | flt _=>obtain⟨t,rfl⟩:=r;rfl
 | ref _=>cases r;rfl
 | ty _=>cases r;rfl
theorem RelV.inj {x y:V}(r:RelV x u)(q:RelV y u):x=y:=Option.some.inj (r.abs.symm.trans q.abs)
theorem B7.inj:∀ {xs ys:List V} {us:List Value},B7 xs us->B7 ys us->xs=ys
 | _,_,_,.nil,.nil=>rfl
 | _,_,_,.cons r t,.cons r' t'=>by rw[r.inj r',B7.inj t t']
theorem SqL.of {K:W.Frag}(h:H a=some (.lst xs)):SqL K H a xs:=.inl (.inl h)
theorem SqT.of {K:W.Frag}(h:H a=some (.tup xs)):SqT K H a xs:=.inl (.inl h)
theorem Inv.list (I:Inv X pins σ H s)(h:SqL X.K H a xs):∃ its:List Value,B7 xs its/\PlainL s.heap a its.toArray/\xs.length<=d8:=by
 rcases h with h | ⟨o,its,n,hk,hc,hd,hs,hz,r⟩
 ·obtain⟨z,its,n,r,e⟩:=h.ok I.hok
  exact⟨its,r,⟨_,n,e,rfl,rfl,rfl⟩,z⟩
 ·refine⟨its.toList,r,⟨o,n,I.kIn a o hk,hc,hd,by simpa using hs⟩,?_⟩
  have e:=r.length
  simp only[j9]at e
  omega
theorem Inv.tuple (I:Inv X pins σ H s)(h:SqT X.K H a xs):∃ its:List Value,B7 xs its/\IsTup s.heap a its.toArray/\xs.length<=d8:=by
 rcases h with h | ⟨o,its,n,hk,hc,hs,hz,r⟩
 ·obtain⟨z,its,r,p⟩:=h.ok I.hok
  exact⟨its,r,p,z⟩
 ·refine⟨its.toList,r,⟨o,I.kIn a o hk,hc,n,by simpa using hs⟩,?_⟩
  have e:=r.length
  simp only[j9]at e
  omega
theorem Inv.list_inj (I:Inv X pins σ H s)(h:SqL X.K H a xs)(h':SqL X.K H a ys):xs=ys:=by
 obtain⟨its,r,⟨o,n,e,_,_,d⟩,_⟩:=I.list h
 obtain⟨its',r',⟨o',n',e',_,_,d'⟩,_⟩:=I.list h'
 rw[e]at e';cases e'
 rw[d]at d'
 injection d' with d1 _
 have:its=its':=by simpa using congrArg Array.toList d1
 subst this
 exact r.inj r'
theorem Inv.tuple_inj (I:Inv X pins σ H s)(h:SqT X.K H a xs)(h':SqT X.K H a ys):xs=ys:=by
 obtain⟨its,r,⟨o,e,_,n,d⟩,_⟩:=I.tuple h
 obtain⟨its',r',⟨o',e',_,n',d'⟩,_⟩:=I.tuple h'
 rw[e]at e';cases e'
 rw[d]at d'
 injection d' with d1 _
 have:its=its':=by simpa using congrArg Array.toList d1
 subst this
 exact r.inj r'
abbrev Cx.wish (X:Cx)(E:Value->Shared->Prop):Cx:={ X with xe:=E }
abbrev Cx.nox (X:Cx):Cx:=X.wish fun _ _=>False
theorem Cx.Ok.wish (ok:X.Ok)(E:Value->Shared->Prop):(X.wish E).Ok:=
 ⟨ok.mod,ok.kind,ok.glob,ok.blt,ok.above,ok.inj,ok.has,ok.cab,ok.hd,ok.frames,ok.stk,ok.exf,ok.bs,ok.bsz,ok.noex,ok.exfs,ok.funs,ok.frf⟩
theorem Cx.Ok.unwish (ok:(X.wish E).Ok):X.Ok:=
 ⟨ok.mod,ok.kind,ok.glob,ok.blt,ok.above,ok.inj,ok.has,ok.cab,ok.hd,ok.frames,ok.stk,ok.exf,ok.bs,ok.bsz,ok.noex,ok.exfs,ok.funs,ok.frf⟩
theorem Inv.wish (I:Inv X pins σ H s)(E:Value->Shared->Prop):Inv (X.wish E) pins σ H s:=⟨I.ok.wish E,I.os,I.bare,I.base,I.loc,I.cell,I.free,I.freeC,I.pin,I.hok,I.len⟩
theorem Inv.unwish (I:Inv (X.wish E) pins σ H s):Inv X pins σ H s:=⟨I.ok.unwish,I.os,I.bare,I.base,I.loc,I.cell,I.free,I.freeC,I.pin,I.hok,I.len⟩
theorem SP.unwish {D:Ends}{f:Flow}{s':Shared}(h:SP (X.wish E) pins D f s'):SP X pins D f s':=by
 cases f with
 | next=>obtain⟨σ',H',I,q⟩:=h;exact⟨σ',H',I.unwish,q⟩
 | brk=>obtain⟨σ',H',I,q⟩:=h;exact⟨σ',H',I.unwish,q⟩
 | cont=>obtain⟨σ',H',I,q⟩:=h;exact⟨σ',H',I.unwish,q⟩
 | ret u=>obtain⟨v,σ',H',I,r,q⟩:=h;exact⟨v,σ',H',I.unwish,r,q⟩
theorem PSs.nox {st:List Stmt}{t:TS}(h:PSs X.nox st t):PSs X st t:=fun pins s σ H D I hw =>
 C6 (h pins s σ H D (I.wish _) hw) (fun _ _ q=>q.unwish) fun _ _ z=>False.elim z
section
variable {st:Stmt} {rest:List Stmt} {t u:TS}
def ch1:TS:=fun D σ H=>D.nx σ H
def co1 (t u:TS):TS:=fun D σ H=>t { D with nx:=u D } σ H
theorem x9:PSs X [] ch1:=fun _ _ σ H _ I h=>ah0 ⟨σ,H,I,h⟩
theorem c9 (h1:PS X st t)(h2:PSs X rest u):PSs X (st::rest) (co1 t u):=by
 intro pins s σ H D I h
 refine aZ4 (thn (h1 pins s σ H { D with nx:=u D } I h) fun f s1 q=>?_)
 cases f with
 | next =>
  obtain⟨σ',H',I',q⟩:=q
  exact h2 pins s1 σ' H' D I' q
 | ret v=>exact q
 | brk=>exact q
 | cont=>exact q
theorem j3 (h1:PS X st t):PSs X [st] t:=by
 intro pins s σ H D I h
 refine aZ4 (thn (h1 pins s σ H D I h) fun f s1 q=>?_)
 cases f with
 | next=>exact ah0 q
 | ret v=>exact q
 | brk=>exact q
 | cont=>exact q
theorem Inv.quiet (I:Inv X pins σ H s):interactive X.env=false:=by simp[interactive,I.ok.kind]
def ch3 (te:TE):TS:=fun D σ H=>te σ H fun _ H1=>D.nx σ H1
theorem R4 (he:PE X e te)(hs:bT0 e none pos.line X.env=pure false:=by rfl):PS X (.Expr e pos) (ch3 te):=by
 intro pins s σ H D I h
 exact wpAny_Expr_any (thn (he pins s σ H _ I h) fun v s1 ⟨x,H1,I1,r1,q1⟩=>⟨σ,H1,I1,q1⟩) I.quiet hs
def co2 (te:TE):TS:=fun D σ H=>te σ H D.rt
theorem r6 (he:PE X e te):PS X (.Return (some e) pos) (co2 te):=by
 intro pins s σ H D I h
 exact wpAny_Return_some (thn (he pins s σ H _ I h) fun v s1 ⟨x,H1,I1,r1,q1⟩=>⟨x,σ,H1,I1,r1,q1⟩)
def co6 (c:TT)(t u:TS):TS:=fun D σ H=>c σ H fun b H1=>if b=true then t D σ H1 else u D σ H1
theorem D6 {c:Expr}{a b:List Stmt}{tc:TT}(hc:PT X c tc)(ha:PSs X a t)(hb:PSs X b u):PS X (.If c a b pos) (co6 tc t u):=by
 intro pins s σ H D I h
 refine wpAny_If (thn (hc pins s σ H _ I h) fun d s1 ⟨H1,I1,q1⟩=>?_)
 cases d with
 | true=>exact ha pins s1 σ H1 D I1 q1
 | false=>exact hb pins s1 σ H1 D I1 q1
def bV2:TS:=fun _ _ _=>False
theorem J4 {sts:List Stmt}:PSs X sts bV2:=fun _ _ _ _ _ _ h=>h.elim
end
abbrev TG:=V->St->Hp->(St->Hp->Prop)->Prop
abbrev TGs:=List V->St->Hp->(St->Hp->Prop)->Prop
def PG (X:Cx)(target:Expr)(t:TG):Prop:=
 ∀ (pins:List (Addr × Obj)) (s:Shared) (σ:St) (H:Hp) (v:V) (u:Value) (Q:St->Hp->Prop),Inv X pins σ H s->RelV v u->t v σ H Q ->
  v7 (t7 X.prog X.w) X.A (aY7 target X.env u) (fun _ s'=>∃ σ' H',Inv X pins σ' H' s'/\Q σ' H') X.xe s
def PGs (X:Cx)(ts:List Expr)(t:TGs):Prop:=
 ∀ (pins:List (Addr × Obj)) (s:Shared) (σ:St) (H:Hp) (vs:List V) (us:List Value) (Q:St->Hp->Prop),Inv X pins σ H s->B7 vs us->t vs σ H Q ->
  v7 (t7 X.prog X.w) X.A (assignInOrder ((ag3 ts X.env).map (·.2)) us) (fun _ s'=>∃ σ' H',Inv X pins σ' H' s'/\Q σ' H') X.xe s
abbrev bD7:=V->V->V->Hp->(Hp->Prop)->Prop
def cd9 (X:Cx)(t:bD7):Prop:=
 ∀ (pins:List (Addr × Obj)) (s:Shared) (σ:St) (H:Hp) (o i v:V) (ov iv u:Value) (Q:Hp->Prop),Inv X pins σ H s->RelV o ov->RelV i iv->RelV v u->t o i v H Q ->
  v7 (t7 X.prog X.w) X.A (setItem ov iv u) (fun _ s'=>∃ H',Inv X pins σ H' s'/\Q H') X.xe s
abbrev TIp:=V->V->Hp->VK->Prop
def PIp (X:Cx)(op:Operator)(t:TIp):Prop:=
 ∀ (pins:List (Addr × Obj)) (s:Shared) (σ:St) (H:Hp) (x y:V) (v u:Value) (Q:VK),Inv X pins σ H s->RelV x v->RelV y u->t x y H Q ->
  v7 (t7 X.prog X.w) X.A (inplaceOp op v u) (EP X pins σ Q) X.xe s
def aW4 (i:Nat):TG:=fun v σ H Q=>Q (σ.set i (some v)) H
theorem B2 (hN:X.N.Nodup)(hi:X.N[i]?=some x)(hx:Loc X.env.scope x)(hf:X.fn x=true\/X.env.scope.names.lookup x=some .local:=by first | exact .inl rfl | exact .inr rfl | assumption):PG X (.Name x pos) (aW4 i):=by
 intro pins s σ H v u Q I r h
 exact aQ0 (aA4 I hN hi hx r (fun s' I'=>⟨_,H,I',h⟩) hf)
def cq9:TGs:=fun vs σ H Q=>vs=[]/\Q σ H
def cn2 (t:TG)(u:TGs):TGs:=fun vs σ H Q=>∃ v r,vs=v::r/\t v σ H fun σ' H'=>u r σ' H' Q
theorem aN1:PGs X [] cq9:=by
 intro pins s σ H vs us Q I r h
 obtain⟨e,h⟩:=h
 subst e
 cases r
 exact assignInOrder_nil ⟨σ,H,I,h⟩
theorem ac7 {t:TG}{u:TGs}(h1:PG X e t)(h2:PGs X es u)
  (hs:(ag3 (e::es) X.env).map (·.2)=aY7 e X.env::(ag3 es X.env).map (·.2):=by rfl):PGs X (e::es) (cn2 t u):=by
 intro pins s σ H vs us Q I r h
 obtain⟨v,vr,e1,h⟩:=h
 subst e1
 cases r with
 | cons r rr =>
  rw[hs]
  refine assignInOrder_cons (thn (h1 pins s σ H _ _ _ I r h) fun _ s1 ⟨σ1,H1,I1,q1⟩=>?_)
  exact h2 pins s1 σ1 H1 _ _ Q I1 rr q1
def cn1 (K:W.Frag)(n:Nat)(t:TGs):TG:=fun v σ H Q=>∃ a xs,v=.ref a/\SqT K H a xs/\xs.length=n/\t xs σ H Q
theorem bx6 {k:Nat}{t:TGs}(hc:X.calm=true)(h:PGs X es t)
  (hn:(ag3 es X.env).length=n:=by rfl)(hst:(ag3 es X.env).findIdx? (·.1)=none:=by rfl):PG X (.Tuple es k pos) (cn1 X.K n t):=by
 intro pins s σ H v u Q I r hw
 obtain⟨a,xs,e1,hq,hl,hw⟩:=hw
 subst e1
 cases r
 obtain⟨its,rv,ht,hz⟩:=I.tuple hq
 refine assign_Tuple_tuple (I.ok.hd hc) ht (by simp[hn,<- hl,rv.length]) hst fun h' hx=>?_
 have I1:Inv X pins σ H { s with heap:=h' }:=I.kept (t':=s.toks) fun b o e=>hx b o (m6 (i7 e)) e
 exact h pins _ σ H xs _ Q I1 (by simpa using rv) hw
def cq8 (to ti:TE)(t:bD7):TG:=fun v σ H Q=>to σ H fun o H1=>ti σ H1 fun i H2=>t o i v H2 fun H3=>Q σ H3
theorem aj0 {i:Expr} {to ti:TE} {t:bD7} (ho:PE X o to) (hi:PE X i ti) (hs:cd9 X t)
  (ha : ∀ v, aY7 (.Subscript o i pos) X.env v = (do
   let ov <- aP9 [v] (eval o X.env)
   let iv <- aP9 [v,ov] (eval i X.env)
   standAt pos
   aP9 [v,ov,iv] (setItem ov iv v)
   release [v,ov,iv] []):=by intro _;rfl):PG X (.Subscript o i pos) (cq8 to ti t):=by
 intro pins s σ H v u Q I r h
 rw[ha]
 refine a8 (F5 (thn (ho pins s σ H _ I h) fun ov s1 ⟨x,H1,I1,r1,q1⟩=>?_))
 refine a8 (F5 (thn (hi pins s1 σ H1 _ I1 q1) fun iv s2 ⟨y,H2,I2,r2,q2⟩=>?_))
 refine a8 (W9 (a8 (F5 (thn (hs pins s2 σ H2 x y v ov iv u _ I2 r1 r2 r q2) fun _ s3 ⟨H3,I3,q3⟩=>?_))))
 exact wpAny_release ⟨σ,H3,I3,q3⟩
def ch5 (te:TE)(g:TG):TS:=fun D σ H=>te σ H fun x H1=>g x σ H1 D.nx
theorem ai8 {g:TG}(he:PE X e te)(hg:PG X tg g)(hs:swapsWithSole [tg] e pos.line X.env=pure false:=by rfl)(hw:swappedStores [tg] e X.env=pure none:=by rfl)
  (h1:(ag3 [tg] X.env).map (·.2)=[aY7 tg X.env]:=by rfl):PS X (.Assign [tg] e pos) (ch5 te g):=by
 intro pins s σ H D I h
 refine wpAny_Assign_stores (thn (he pins s σ H _ I h) fun v s1 ⟨x,H1,I1,r1,q1⟩=>?_) hs hw
 rw[h1]
 exact thn (hg pins s1 σ H1 x v _ I1 r1 q1) fun _ s2 q=>q
theorem v8 {pos':Pos}(hN:X.N.Nodup)(hi:X.N[i]?=some x)(hx:Loc X.env.scope x)(he:PE X e te)(hs:bT0 e (some (.Name x pos')) pos.line X.env=pure false:=by rfl)(hf:X.fn x=true\/X.env.scope.names.lookup x=some .local:=by first | exact .inl rfl | exact .inr rfl | assumption) :
  PS X (.Assign [.Name x pos'] e pos) (ch5 te (aW4 i)):=by
 intro pins s σ H D I h
 refine wpAny_Assign_Name (thn (he pins s σ H _ I h) fun v s1 ⟨y,H1,I1,r1,q1⟩=>?_) hs
 exact aA4 I1 hN hi hx r1 (fun s2 I2=>⟨_,H1,I2,q1⟩) hf
def cp0 (i:Nat)(te:TE)(ti:TIp):TS:=fun D σ H=>∃ x,σ[i]?=some (some x)/\te σ H fun y H1=>ti x y H1 fun z H2=>D.nx (σ.set i (some z)) H2
theorem bX5 {op:Operator}{ti:TIp}{pos':Pos}(hN:X.N.Nodup)(hi:X.N[i]?=some x)(hx:Loc X.env.scope x)(he:PE X e te)(ho:PIp X op ti)(hf:X.fn x=true\/X.env.scope.names.lookup x=some .local:=by first | exact .inl rfl | exact .inr rfl | assumption) :
  PS X (.AugAssign (.Name x pos') op e pos) (cp0 i te ti):=by
 intro pins s σ H D I h
 obtain⟨v,e1,h⟩:=h
 obtain⟨m,hn,hl⟩:=I.loc
 have vis:Vis X.env.scope x:=by rcases hx with k | k;exact .inl k;exact .inr (.inl k)
 obtain⟨u,r,l⟩:=hl i x v hi e1 vis
 refine wpAny_AugAssign_Name ?_
 have go:v7 (t7 X.prog X.w) X.A (eval e X.env) (fun w s₂=>v7 (t7 X.prog X.w) X.A (inplaceOp op u w) (fun r s₃=>v7 (t7 X.prog X.w) X.A (storeName X.env x r) (fun _=>SP X pins D .next) X.xe s₃) X.xe s₂) X.xe s:=by
  refine thn (he pins s σ H _ I h) fun w s1 ⟨y,H1,I1,r1,q1⟩=>?_
  refine thn (ho pins s1 σ H1 v y u w _ I1 r r1 q1) fun z s2 ⟨zv,H2,I2,r2,q2⟩=>?_
  exact aA4 I2 hN hi hx r2 (fun s3 I3=>⟨_,H2,I3,q2⟩) hf
 rcases l with⟨hk,hm⟩ | ⟨hk,c,hc,hcell⟩
 ·exact ce8 I.ok.kind hk hn hm go
 ·rcases hk with hk | hk
  ·exact cf7 I.ok.kind hk hc hcell go
  ·rcases hx with k | k
   ·have:X.env.scope.names.lookup x=some .free:=hk
    rw[k]at this;cases this
   ·have:X.env.scope.names.lookup x=some .free:=hk
    rw[k]at this;cases this
def ch4 (to ti te:TE)(tget:V->V->Hp->VK->Prop)(tip:TIp)(tset:bD7):TS:=fun D σ H=>to σ H fun o H1=>ti σ H1 fun i H2=>tget o i H2 fun x H3=>te σ H3 fun y H4=>tip x y H4 fun z H5=>tset o i z H5 fun H6=>D.nx σ H6
def cn8 (X:Cx)(t:V->V->Hp->VK->Prop):Prop:=
 ∀ (pins:List (Addr × Obj)) (s:Shared) (σ:St) (H:Hp) (o i:V) (ov iv:Value) (Q:VK),Inv X pins σ H s->RelV o ov->RelV i iv->t o i H Q ->
  v7 (t7 X.prog X.w) X.A (cf8 ov iv) (EP X pins σ Q) X.xe s
theorem bJ2 {i:Expr}{to ti:TE}{tget:V->V->Hp->VK->Prop}{tip:TIp}{tset:bD7}{op:Operator}{tpos:Pos}(ho:PE X o to)(hi:PE X i ti)(hg:cn8 X tget)(he:PE X e te)(hp:PIp X op tip)(hs:cd9 X tset)
  (ha:∀ ov iv new,augStore i ov iv new=(do aP9 [new,ov,iv] (setItem ov iv new);release [new,ov,iv] [];pure .next):=by intros;rfl):PS X (.AugAssign (.Subscript o i tpos) op e pos) (ch4 to ti te tget tip tset):=by
 intro pins s σ H D I h
 refine wpAny_AugAssign_SubscriptAny (thn (ho pins s σ H _ I h) fun ov s1 ⟨x1,H1,I1,r1,q1⟩=>?_) ha
 refine thn (hi pins s1 σ H1 _ I1 q1) fun iv s2 ⟨x2,H2,I2,r2,q2⟩=>?_
 refine thn (hg pins s2 σ H2 x1 x2 ov iv _ I2 r1 r2 q2) fun old s3 ⟨x3,H3,I3,r3,q3⟩=>?_
 refine thn (he pins s3 σ H3 _ I3 q3) fun v s4 ⟨x4,H4,I4,r4,q4⟩=>?_
 refine thn (hp pins s4 σ H4 x3 x4 old v _ I4 r3 r4 q4) fun new s5 ⟨x5,H5,I5,r5,q5⟩=>?_
 exact thn (hs pins s5 σ H5 x1 x2 x5 ov iv new _ I5 r1 r2 r5 q5) fun _ s6 ⟨H6,I6,q6⟩=>⟨σ,H6,I6,q6⟩
def ipI (f:Int->Int->Int):TIp:=fun x y H Q=>∃ i j,x=.int i/\y=.int j/\Q (.int (f i j)) H
theorem cb8:PIp X .Add (ipI fun i j=>i+j):=by
 intro pins s σ H x y v u Q I r1 r2 h
 obtain⟨i,j,e1,e2,q⟩:=h
 subst e1;subst e2
 obtain⟨t,rfl⟩:=r1
 obtain⟨t',rfl⟩:=r2
 exact iadd_int ⟨.int _,H,I.tok _,⟨_,rfl⟩,q⟩
def bU8 (c:TT)(tb:TS):TS:=fun D σ H=>∃ W:Nat->St->Hp->Prop,(∃ m,W m σ H)/\∀ m σ H,W m σ H ->
 c σ H fun b H1=>if b=true then ∃ N:St->Hp->Prop,(∀ σ' H',N σ' H'->∃ m',m'<m/\W m' σ' H')/\tb { D with nx:=N,ct:=N,bk:=D.nx } σ H1 else D.nx σ H1
theorem aT4 {c:Expr}{body:List Stmt}{tc:TT}{tb:TS}(hp:PassesOwn (t7 X.prog X.w) X.A X.env X.xe)(hc:PT X c tc)(hb:PSs X body tb):PS X (.While c body [] pos) (bU8 tc tb):=by
 intro pins s σ H D I h
 obtain⟨W,⟨m0,w0⟩,turn⟩:=h
 refine wpAny_While (codeAny_whileLoop (fun n s'=>∃ σ' H',Inv X pins σ' H' s'/\W n σ' H') ?_ m0 ⟨σ,H,I,w0⟩)
 rintro n s1 ⟨σ1,H1,I1,w1⟩
 refine T4 hp (thn (hc pins s1 σ1 H1 _ I1 (turn n σ1 H1 w1)) fun b s2 ⟨H2,I2,q2⟩=>?_)
 cases b with
 | true =>
  obtain⟨N,hN,q2⟩:=q2
  rw[if_pos rfl]
  refine T4 hp (thn (hb pins s2 σ1 H2 _ I2 q2) fun f s3 q3=>?_)
  cases f with
  | next =>
   obtain⟨σ3,H3,I3,n3⟩:=q3
   obtain⟨m',hm,w3⟩:=hN σ3 H3 n3
   exact⟨m',hm,σ3,H3,I3,w3⟩
  | cont =>
   obtain⟨σ3,H3,I3,n3⟩:=q3
   obtain⟨m',hm,w3⟩:=hN σ3 H3 n3
   exact⟨m',hm,σ3,H3,I3,w3⟩
  | brk=>exact q3
  | ret v=>exact q3
 | false =>
  rw[if_neg i6]
  exact ah0 ⟨σ1,H2,I2,q2⟩
structure It where
 go:Nat->Hp->Prop
 yld:Nat->Hp->V->Hp->Prop
 stop:Nat->Hp->Prop
def P1 (X:Cx)(pins:List (Addr × Obj))(H:Hp)(b:Addr):Prop:=
 H b=none/\b≠X.env.locals/\b∉X.fs/\(b∈X.ex\/X.s₀.heap.objs.size<=b)/\(∀ x c,X.env.cells.lookup x=some c->c≠b)/\∀ p∈X.pn++pins,p.1≠b
theorem Inv.fpOk {b:Addr}(I:Inv X pins σ H s)(hb:s.heap.objs.size<=b)(hn:H' b=none):P1 X pins H' b:=by
 refine⟨hn,V3 (o4 I.lt hb),I.nofs hb,.inr (t9 I.sz hb),fun x c e z=>?_,fun p hp z=>?_⟩
 ·obtain⟨v,q⟩:=I.cell x c e
  exact absurd (o4 q.lt (by rw[z];exact hb)) (E2 _)
 ·exact absurd (o4 (i7 (I.pin p hp).1) (by rw[z];exact hb)) (E2 _)
structure Turn (P:Program) (w:World) (K:W.Frag) (tg:Expr) (J:It) (fp:List Addr) (it:Addr) (tn:Nat->Heap->Prop):Prop where
 mem:it∈fp
 obj:∀ i h,tn i h->∀ b∈fp,∃ o,h.get? b=some o/\∀ v,o.data≠.cell v
 keep:∀ i h h',tn i h->(∀ b∈fp,∀ o,h.get? b=some o->h'.get? b=some o)->tn i h'
 item:∀ (X:Cx),X.prog=P->X.w=w->X.K=K->X.calm=true->∀ (i:Nat) (pins:List (Addr × Obj)) (s:Shared) (σ:St) (H:Hp) (E:Value->Shared->Prop),Inv X pins σ H s->(∀ b∈fp,P1 X pins H b)->tn i s.heap->J.go i H ->
  v7 (t7 P w) X.A (pyNext (.ref it)) (fun r s1=>∃ u,r=some u /\
   v7 (t7 P w) X.A (bl2 tg (.ref it) u) (fun _ s2=>∃ x H',Inv X pins σ H' s2/\RelV x u/\J.yld i H x H'/\tn (i+1) s2.heap/\∀ b∈fp,H' b=none) E s1) E s
 done:∀ (X:Cx),X.prog=P->X.w=w->X.K=K->X.calm=true->∀ (i:Nat) (pins:List (Addr × Obj)) (s:Shared) (σ:St) (H:Hp) (E:Value->Shared->Prop),Inv X pins σ H s->(∀ b∈fp,P1 X pins H b)->tn i s.heap->J.stop i H ->
  v7 (t7 P w) X.A (pyNext (.ref it)) (fun r s1=>r=none/\Inv X pins σ H s1) E s
 self:∀ (A:Around) (i:Nat) (s:Shared) (Q:Value->Shared->Prop) (E:Value->Shared->Prop),tn i s.heap->Q (.ref it) s->v7 (t7 P w) A (pyIter (.ref it)) Q E s
abbrev TI:=St->Hp->(It->Hp->Prop)->Prop
def PIE (X:Cx)(pins:List (Addr × Obj))(σ:St)(tg:Expr)(R:It->Hp->Prop)(itv:Value)(s2:Shared):Prop:=
 ∃ (it:Addr) (fp:List Addr) (tn:Nat->Heap->Prop) (J:It) (H':Hp),itv=.ref it/\Inv X pins σ H' s2/\Turn X.prog X.w X.K tg J fp it tn/\tn 0 s2.heap/\(∀ b∈fp,P1 X pins H' b)/\R J H'
def PI (X:Cx)(tg iter:Expr)(wi:TI):Prop:=
 ∀ (pins:List (Addr × Obj)) (s:Shared) (σ:St) (H:Hp) (R:It->Hp->Prop),Inv X pins σ H s->wi σ H R ->
  v7 (t7 X.prog X.w) X.A (eval iter X.env) (fun v s1=>v7 (t7 X.prog X.w) X.A (pyIter v) (PIE X pins σ tg R) X.xe s1) X.xe s
theorem aW2 {it:Addr} {o:Obj} {n:String} {vs:Array Value} {Q:Unit->Shared->Prop} (ho:s.heap.get? it=some o) (hc:o.cls=.type n) (hd:o.data=.fields vs)
    (hn:["enumerate","zip","dict_itemiterator","dict_reverseitemiterator","odict_iterator","itertools.zip_longest","itertools.pairwise"].contains n=false) (hQ:Q () s):v7 M A (bl2 tg (.ref it) u) Q E s:=by
  unfold bl2
  cases tg<;>first
    | exact j5 hQ
    | (cases u<;>first
        | exact j5 hQ
        | (refine a8 (wpAny_load ho ?_)
           rw[hc,hd]
           show v7 M A (if (["enumerate","zip","dict_itemiterator","dict_reverseitemiterator","odict_iterator","itertools.zip_longest","itertools.pairwise"].contains n && vs[0]? == some (an9 _))=true then _ else _) Q E s
           rw[if_neg (by intro h;rw[hn,D7]at h;cases h)]
           exact j5 hQ))
def Itl (K:W.Frag)(a:Addr):It:=
 ⟨fun i H=>∃ xs x,SqL K H a xs/\xs[i]?=some x,fun i H x H'=>H'=H/\∀ xs,SqL K H a xs->xs[i]?=some x,fun i H=>∃ xs,SqL K H a xs/\xs.length<=i⟩
def Itt (K:W.Frag)(a:Addr):It:=
 ⟨fun i H=>∃ xs x,SqT K H a xs/\xs[i]?=some x,fun i H x H'=>H'=H/\∀ xs,SqT K H a xs->xs[i]?=some x,fun i H=>∃ xs,SqT K H a xs/\xs.length<=i⟩
def Itr (lo:Int)(n:Nat):It:=⟨fun i _=>i<n,fun i H x H'=>H'=H/\x=.int (lo+i),fun i _=>n<=i⟩
theorem bm6 {K:W.Frag}(a it:Addr):Turn P w K tg (Itl K a) [it] it (fun i h=>h.IsListIter it a i) where
 mem:=by simp
 obj:=fun i h st b hb=>by
  have e:b=it:=by simpa using hb
  subst e
  obtain⟨o,e,c,d⟩:=st
  exact⟨o,e,fun v z=>by rw[d]at z;cases z⟩
 keep:=fun i h h' st k=>st.at fun o e=>k it (by simp) o e
 item:=by
  intro X hP hw hK hc i pins s σ H E I hf st hg
  subst hP hw hK
  obtain⟨xs,x,hq,hx⟩:=hg
  obtain⟨its,rv,p,hz⟩:=I.list hq
  obtain⟨u,hu,ru⟩:=rv.get hx
  obtain⟨f0,f1,f2,f3,f4,f5⟩:=hf it (by simp)
  refine wpAny_pyNext_list_item st p.isList (x:=u) (by simpa using hu) fun h' st' sb=>?_
  have I1:Inv X pins σ H { s with heap:=h' }:=I.turned (t':=s.toks) (fun b o hb e=>(sb.2 b hb).trans e) f0 f1 f3 f4 f5
  obtain⟨o,e,c,d⟩:=id st'
  exact⟨u,rfl,aW2 (s:={ s with heap:=h' }) e c d (by decide) ⟨x,H,I1,ru,⟨rfl,fun ys hy=>by rw[I.list_inj hy hq];exact hx⟩,st',fun b hb=>(hf b hb).1⟩⟩
 done:=by
  intro X hP hw hK hc i pins s σ H E I hf st hg
  subst hP hw hK
  obtain⟨xs,hq,hx⟩:=hg
  obtain⟨its,rv,p,hz⟩:=I.list hq
  obtain⟨f0,f1,f2,f3,f4,f5⟩:=hf it (by simp)
  have hl:=rv.length
  exact wpAny_pyNext_list_end (I.ok.hd hc) st p.isList (by simp;omega) fun h' eb=>⟨rfl,I.turned (t':=s.toks) (fun b o hb e=>eb b o hb e) f0 f1 f3 f4 f5⟩
 self:=fun _ _ _ _ _ st h=>wpAny_pyIter_listiter st h
theorem aZ9 {K:W.Frag}(a it:Addr):Turn P w K tg (Itt K a) [it] it (fun i h=>h.IsTupleIter it a i) where
 mem:=by simp
 obj:=fun i h st b hb=>by
  have e:b=it:=by simpa using hb
  subst e
  obtain⟨o,e,c,d⟩:=st
  exact⟨o,e,fun v z=>by rw[d]at z;cases z⟩
 keep:=fun i h h' st k=>st.at fun o e=>k it (by simp) o e
 item:=by
  intro X hP hw hK hc i pins s σ H E I hf st hg
  subst hP hw hK
  obtain⟨xs,x,hq,hx⟩:=hg
  obtain⟨its,rv,p,hz⟩:=I.tuple hq
  obtain⟨u,hu,ru⟩:=rv.get hx
  obtain⟨f0,f1,f2,f3,f4,f5⟩:=hf it (by simp)
  refine wpAny_pyNext_tuple_item st (show s.heap.IsTuple a its.toArray from p) (x:=u) (by simpa using hu) fun h' st' sb=>?_
  have I1:Inv X pins σ H { s with heap:=h' }:=I.turned (t':=s.toks) (fun b o hb e=>(sb.2 b hb).trans e) f0 f1 f3 f4 f5
  obtain⟨o,e,c,d⟩:=id st'
  exact⟨u,rfl,aW2 (s:={ s with heap:=h' }) e c d (by decide) ⟨x,H,I1,ru,⟨rfl,fun ys hy=>by rw[I.tuple_inj hy hq];exact hx⟩,st',fun b hb=>(hf b hb).1⟩⟩
 done:=by
  intro X hP hw hK hc i pins s σ H E I hf st hg
  subst hP hw hK
  obtain⟨xs,hq,hx⟩:=hg
  obtain⟨its,rv,p,hz⟩:=I.tuple hq
  obtain⟨f0,f1,f2,f3,f4,f5⟩:=hf it (by simp)
  have hl:=rv.length
  exact wpAny_pyNext_tuple_end (I.ok.hd hc) st (show s.heap.IsTuple a its.toArray from p) (by simp;omega) fun h' eb=>⟨rfl,I.turned (t':=s.toks) (fun b o hb e=>eb b o hb e) f0 f1 f3 f4 f5⟩
 self:=fun _ _ _ _ _ st h=>wpAny_pyIter_tupleiter st h
theorem ba0 {K:W.Frag}(it:Addr)(lo:Int)(n:Nat):Turn P w K tg (Itr lo n) [it] it (fun i h=>IsRangeIter h it (lo+(i:Nat)*1) ((n:Int) - (i:Nat)) 1) where
 mem:=by simp
 obj:=fun i h st b hb=>by
  have e:b=it:=by simpa using hb
  subst e
  exact⟨_,st,fun v z=>by
   have z':Data.fields _=Data.cell v:=z
   cases z'⟩
 keep:=fun i h h' st k=>k it (by simp) _ st
 item:=by
  intro X hP hw hK hc i pins s σ H E I hf st hg
  subst hP hw hK
  obtain⟨f0,f1,f2,f3,f4,f5⟩:=hf it (by simp)
  have W:=Walks.range (prog:=X.prog) (w:=X.w) (I.ok.hd hc) it lo 1 n
  refine W.item i s _ _ hg st fun v h' tk hv st' kk=>?_
  obtain⟨t,rfl⟩:=hv
  have I1:Inv X pins σ H { s with heap:=h',toks:=tk }:=I.turned (fun b o hb e=>kk b o (by simpa using hb) e) f0 f1 f3 f4 f5
  refine⟨_,rfl,aW2 (s:={ s with heap:=h',toks:=tk }) (n:="range_iterator") st' rfl rfl (by decide) ⟨.int (lo+i),H,I1,⟨t,?_⟩,⟨rfl,rfl⟩,st',fun b hb=>(hf b hb).1⟩⟩
  rw[R7]
 done:=by
  intro X hP hw hK hc i pins s σ H E I hf st hg
  subst hP hw hK
  obtain⟨f0,f1,f2,f3,f4,f5⟩:=hf it (by simp)
  exact wpAny_pyNext_range_end (I.ok.hd hc) st (by have:n<=i:=hg;omega) fun h' eb=>⟨rfl,I.turned (t':=s.toks) (fun b o hb e=>eb b o hb e) f0 f1 f3 f4 f5⟩
 self:=fun _ _ _ _ _ st h=>wpAny_pyIter_rangeiter st h
def cm8 (K:W.Frag)(tl:TE):TI:=fun σ H R=>tl σ H fun x H1=>∃ a,x=.ref a/\(∃ xs,SqL K H1 a xs)/\R (Itl K a) H1
def cq6 (K:W.Frag)(tl:TE):TI:=fun σ H R=>tl σ H fun x H1=>∃ a,x=.ref a/\(∃ xs,SqT K H1 a xs)/\R (Itt K a) H1
theorem P3 {l:Expr}{tl:TE}(hl:PE X l tl):PI X tg l (cm8 X.K tl):=by
 intro pins s σ H R I h
 refine thn (hl pins s σ H _ I h) fun v s1 ⟨x,H1,I1,r1,q1⟩=>?_
 obtain⟨a,e,⟨xs,hq⟩,q⟩:=q1
 subst e
 cases r1
 obtain⟨its,rv,p,hz⟩:=I1.list hq
 refine aQ1 p.isList ?_
 refine⟨s1.heap.objs.size,[s1.heap.objs.size],_,_,H1,rfl,I1.kept (t':=s1.toks) fun b o e=>a7 _ e,bm6 a _,⟨_,l5 _ rfl,rfl,rfl⟩,fun b hb=>?_,q⟩
 have e:b=s1.heap.objs.size:=by simpa using hb
 subst e
 exact I1.fpOk (c6 _) (I1.hok.fresh (c6 _))
theorem aN0 {l:Expr}{tl:TE}(hl:PE X l tl):PI X tg l (cq6 X.K tl):=by
 intro pins s σ H R I h
 refine thn (hl pins s σ H _ I h) fun v s1 ⟨x,H1,I1,r1,q1⟩=>?_
 obtain⟨a,e,⟨xs,hq⟩,q⟩:=q1
 subst e
 cases r1
 obtain⟨its,rv,p,hz⟩:=I1.tuple hq
 refine ak4 (show s1.heap.IsTuple a its.toArray from p) ?_
 refine⟨s1.heap.objs.size,[s1.heap.objs.size],_,_,H1,rfl,I1.kept (t':=s1.toks) fun b o e=>a7 _ e,aZ9 a _,⟨_,l5 _ rfl,rfl,rfl⟩,fun b hb=>?_,q⟩
 have e:b=s1.heap.objs.size:=by simpa using hb
 subst e
 exact I1.fpOk (c6 _) (I1.hok.fresh (c6 _))
theorem aT2 {R:It->Hp->Prop}{lo hi:Int}{t u v:Tok}{tk:Nat}(I:Inv X pins σ H s)(h1:-(2 ^ 62)<=lo)(h2:lo<2 ^ 62)(h3:-(2 ^ 62)<=hi)(h4:hi<2 ^ 62)
  (q:R (Itr lo (hi - lo).toNat) H):v7 (t7 X.prog X.w) X.A (pyIter (.ref s.heap.objs.size)) (PIE X pins σ tg R) E { s with heap:=s.heap.push { cls:=.type "range",data:=.fields #[.int lo t,.int hi u,.int 1 v] },toks:=tk }:=by
 refine wpAny_pyIter_range (IsRange.new ..) (small_one h1 h2 h3 h4) ?_
 have I1:Inv X pins σ H { s with heap:=s.heap.push { cls:=.type "range",data:=.fields #[.int lo t,.int hi u,.int 1 v] },toks:=tk }:=I.kept fun b o e=>a7 _ e
 refine⟨(s.heap.push { cls:=.type "range",data:=.fields #[.int lo t,.int hi u,.int 1 v] }).objs.size,[(s.heap.push { cls:=.type "range",data:=.fields #[.int lo t,.int hi u,.int 1 v] }).objs.size],_,_,H,rfl,
  I1.kept (t':=tk) fun b o e=>a7 _ e,ba0 _ lo (hi - lo).toNat,?_,fun b hb=>?_,q⟩
 ·have e1:lo+((0:Nat):Int)*1=lo:=by simp
  have e2:(((hi - lo).toNat:Nat):Int) - ((0:Nat):Int)=Builtin.Range.rangeSize lo hi 1:=by rw[rangeSize_one];split<;>omega
  show IsRangeIter _ _ (lo+((0:Nat):Int)*1) ((((hi - lo).toNat:Nat):Int) - ((0:Nat):Int)) 1
  rw[e1,e2]
  exact l5 _ rfl
 ·have e:b=(s.heap.push { cls:=.type "range",data:=.fields #[.int lo t,.int hi u,.int 1 v] }).objs.size:=by simpa using hb
  subst e
  exact I1.fpOk (c6 _) (I1.hok.fresh (c6 _))
def cm7 (ta:TA):TI:=fun σ H R=>ta σ H fun vs H1=>∃ j:Int,vs=[.int j] /\ -(2 ^ 62)<=j/\j<2 ^ 62/\R (Itr 0 j.toNat) H1
def cm6 (ta:TA):TI:=fun σ H R=>ta σ H fun vs H1=>∃ i j:Int,vs=[.int i,.int j]/\(-(2 ^ 62)<=i/\i<2 ^ 62 /\ -(2 ^ 62)<=j/\j<2 ^ 62)/\R (Itr i (j - i).toNat) H1
theorem S5 {a:Expr}{ta:TA}{p:Pos}(hg:Gl X "range")(hm:X.mg "range"=none)(ha:PA X [a] ta)(hs:B0 [a] X.env=[(false,eval a X.env)]:=by rfl):PI X tg (.Call (.Name "range" p) [a] [] pos) (cm7 ta):=by
 intro pins s σ H R I h
 refine Call_ (ab8 I hg hm boot_range (PyProof.Rows.callWith_type1 (thn (ha pos pins s σ H _ I h) fun us s1 ⟨vs,H1,I1,r1,q1⟩=>?_) hs rfl))
 obtain⟨j,e,q1,q2,q⟩:=q1
 subst e
 cases r1 with
 | cons r rr =>
  cases rr
  obtain⟨t,rfl⟩:=r
  exact call_range_1 (aT2 I1 (by omega) (by omega) q1 q2 (by simpa using q))
theorem au6 {a b:Expr}{ta:TA}{p:Pos}(hg:Gl X "range")(hm:X.mg "range"=none)(ha:PA X [a,b] ta)(hs:B0 [a,b] X.env=[(false,eval a X.env),(false,eval b X.env)]:=by rfl)(hs2:B0 [b] X.env=[(false,eval b X.env)]:=by rfl) :
  PI X tg (.Call (.Name "range" p) [a,b] [] pos) (cm6 ta):=by
 intro pins s σ H R I h
 refine Call_ (ab8 I hg hm boot_range (PyProof.Rows.callWith_type1 (thn (ha pos pins s σ H _ I h) fun us s1 ⟨vs,H1,I1,r1,q1⟩=>?_) (by rw[hs,hs2]) (by rw[hs2];rfl)))
 obtain⟨i,j,e,⟨q1,q2,q3,q4⟩,q⟩:=q1
 subst e
 cases r1 with
 | cons r rr =>
  cases rr with
  | cons r' rr =>
   cases rr
   obtain⟨t,rfl⟩:=r
   obtain⟨t',rfl⟩:=r'
   exact call_range_2 (aT2 I1 q1 q2 q3 q4 q)
def co7 (wi:TI)(g:TG)(tb:TS):TS:=fun D σ H=>wi σ H fun J H1=>∃ W:Nat->Nat->St->Hp->Prop,(∃ m,W 0 m σ H1)/\∀ i m σ H,W i m σ H ->
 (J.stop i H/\D.nx σ H)\/(J.go i H/\∃ N:St->Hp->Prop,(∀ σ' H',N σ' H'->∃ m',m'<m/\W (i+1) m' σ' H')/\∀ x H',J.yld i H x H'->g x σ H' fun σ2 H2=>tb { D with nx:=N,ct:=N,bk:=D.nx } σ2 H2)
def ai9 (fp:List Addr)(h:Heap):List (Addr × Obj):=fp.filterMap fun b=>(h.get? b).map fun o=>(b,o)
theorem N6 {b:Addr}{o:Obj}(hb:b∈fp)(e:h.get? b=some o):(b,o)∈ai9 fp h:=ag7.mpr ⟨b,hb,by rw[e];rfl⟩
theorem bo6 {p:Addr × Obj}(hp:p∈ai9 fp h):p.1∈fp/\h.get? p.1=some p.2:=by
 obtain⟨b,hb,e⟩:=ag7.mp hp
 cases q:h.get? b with
 | none=>rw[q]at e;cases e
 | some o =>
  rw[q]at e
  have e':(b,o)=p:=Option.some.inj e
  subst e'
  exact⟨hb,q⟩
theorem Inv.pinned (I:Inv X pins σ H s)(hf:∀ b∈fp,P1 X pins H b)(ho:∀ b∈fp,∃ o,s.heap.get? b=some o/\∀ v,o.data≠.cell v):Inv X (pins++ai9 fp s.heap) σ H s:=
 I.pins_of fun p hp=>(m7.mp hp).elim (fun z=>I.pin p (j7 _ z)) fun z=>by
  obtain⟨hb,e⟩:=bo6 z
  obtain⟨f0,f1,f2,_⟩:=hf p.1 hb
  obtain⟨o,e',d⟩:=ho p.1 hb
  rw[e]at e';cases e'
  exact⟨e,f0,f1,f2,d⟩
theorem Inv.unpinned {pl:List (Addr × Obj)}(I:Inv X (pins++pl) σ H s):Inv X pins σ H s:=I.pins_of fun p hp=>I.pin p (j7 _ (F1 _ hp))
theorem W2 {iter:Expr}{body:List Stmt}{wi:TI}{g:TG}{tb:TS}(hp:PassesOwn (t7 X.prog X.w) X.A X.env X.xe)(hc:X.calm=true)(hi:PI X tg iter wi)(hg:PG X tg g)(hb:PSs X body tb)
  (hs:∀ x,T7 iter X.env x=pure x:=by intro _;rfl):PS X (.For tg iter body [] pos) (co7 wi g tb):=by
 intro pins s σ H D I h
 refine wpAny_For (thn (hi pins s σ H _ I h) fun v s1 h1=>thn h1 fun itv s2 h2=>?_) hs
 obtain⟨it,fp,tn,J,H2,e,I2,T,st2,f2,W,⟨m0,w0⟩,turn⟩:=h2
 subst e
 have stat:∀ {H':Hp},(∀ b∈fp,H' b=none)->∀ b∈fp,P1 X pins H' b:=fun hn b hb=>⟨hn b hb,(f2 b hb).2⟩
 refine codeAny_forLoop_any (fun n s'=>∃ i σ' H',Inv X pins σ' H' s'/\tn i s'.heap/\(∀ b∈fp,H' b=none)/\W i n σ' H') ?_ m0 ⟨0,σ,H2,I2,st2,fun b hb=>(f2 b hb).1,w0⟩
 rintro n s3 ⟨i,σ3,H3,I3,st3,fr3,w3⟩
 rcases turn i n σ3 H3 w3 with⟨stop,qn⟩ | ⟨go,N,hN,step⟩
 ·refine T4 hp (thn (T.done X rfl rfl rfl hc i pins s3 σ3 H3 X.xe I3 (stat fr3) st3 stop) fun r s4 ⟨hr,I4⟩=>?_)
  subst hr
  exact ah0 ⟨σ3,H3,I4,qn⟩
 ·refine T4 hp (thn (T.item X rfl rfl rfl hc i pins s3 σ3 H3 X.xe I3 (stat fr3) st3 go) fun r s4 ⟨u,hr,h4⟩=>?_)
  subst hr
  refine T4 hp (thn h4 fun _ s5 ⟨x,H5,I5,r5,y5,st5,fr5⟩=>?_)
  have I5':=I5.pinned (stat fr5) (T.obj _ _ st5)
  refine T4 hp (thn (hg _ s5 σ3 H5 x u _ I5' r5 (step x H5 y5)) fun _ s6 ⟨σ6,H6,I6,q6⟩=>?_)
  refine T4 hp (thn (hb _ s6 σ6 H6 _ I6 q6) fun f s7 q7=>?_)
  have bl3:∀ {σ7:St} {H7:Hp},Inv X (pins++ai9 fp s5.heap) σ7 H7 s7->N σ7 H7->∃ m,m<n/\∃ i σ' H',Inv X pins σ' H' s7/\tn i s7.heap/\(∀ b∈fp,H' b=none)/\W i m σ' H':=fun {σ7 H7} I7 n7=>by
   obtain⟨m',hm,w7⟩:=hN σ7 H7 n7
   refine⟨m',hm,i+1,σ7,H7,I7.unpinned,T.keep _ _ _ st5 fun b hb o e=>(I7.pin (b,o) (j7 _ (j7 _ (N6 hb e)))).1,fun b hb=>?_,w7⟩
   obtain⟨o,e,d⟩:=T.obj _ _ st5 b hb
   exact(I7.pin (b,o) (j7 _ (j7 _ (N6 hb e)))).2.1
  cases f with
  | next=>obtain⟨σ7,H7,I7,n7⟩:=q7;exact bl3 I7 n7
  | cont=>obtain⟨σ7,H7,I7,n7⟩:=q7;exact bl3 I7 n7
  | brk=>obtain⟨σ7,H7,I7,q7⟩:=q7;exact⟨σ7,H7,I7.unpinned,q7⟩
  | ret v=>obtain⟨x7,σ7,H7,I7,r7,q7⟩:=q7;exact⟨x7,σ7,H7,I7.unpinned,r7,q7⟩
theorem aE1 {K:W.Frag}{g:TG}{tb:TS}{D:Ends}(Pv:Nat->St->Hp->Prop)(h0:Pv 0 σ H)(hl:∀ i σ H,i<=xs.length->Pv i σ H->SqL K H a xs)
  (hs:∀ i x σ H,xs[i]?=some x->Pv i σ H->g x σ H fun σ2 H2=>tb { D with nx:=Pv (i+1),ct:=Pv (i+1),bk:=D.nx } σ2 H2)(hd:∀ σ H,Pv xs.length σ H->D.nx σ H) :
  ∃ W:Nat->Nat->St->Hp->Prop,(∃ m,W 0 m σ H)/\∀ i m σ H,W i m σ H ->
   ((Itl K a).stop i H/\D.nx σ H)\/((Itl K a).go i H/\∃ N:St->Hp->Prop,(∀ σ' H',N σ' H'->∃ m',m'<m/\W (i+1) m' σ' H')/\∀ x H',(Itl K a).yld i H x H'->g x σ H' fun σ2 H2=>tb { D with nx:=N,ct:=N,bk:=D.nx } σ2 H2):=by
 refine⟨fun i m σ H=>m=xs.length - i/\i<=xs.length/\Pv i σ H,⟨xs.length,by simp,r9 _,h0⟩,?_⟩
 rintro i m σ H ⟨rfl,hi,p⟩
 have q:=hl i σ H hi p
 by_cases hlt:i<xs.length
 ·refine .inr ⟨⟨xs,xs[i],q,by simp[hlt]⟩,Pv (i+1),fun σ' H' p'=>⟨xs.length - (i+1),by omega,rfl,hlt,p'⟩,fun x H' y=>?_⟩
  obtain⟨e,y⟩:=y
  subst e
  exact hs i x σ _ (y xs q) p
 ·have e:i=xs.length:=by omega
  subst e
  exact .inl ⟨⟨xs,q,c6 _⟩,hd σ H p⟩
theorem bN7 {K:W.Frag}{g:TG}{tb:TS}{D:Ends}(Pv:Nat->St->Hp->Prop)(h0:Pv 0 σ H)(hl:∀ i σ H,i<=xs.length->Pv i σ H->SqT K H a xs)
  (hs:∀ i x σ H,xs[i]?=some x->Pv i σ H->g x σ H fun σ2 H2=>tb { D with nx:=Pv (i+1),ct:=Pv (i+1),bk:=D.nx } σ2 H2)(hd:∀ σ H,Pv xs.length σ H->D.nx σ H) :
  ∃ W:Nat->Nat->St->Hp->Prop,(∃ m,W 0 m σ H)/\∀ i m σ H,W i m σ H ->
   ((Itt K a).stop i H/\D.nx σ H)\/((Itt K a).go i H/\∃ N:St->Hp->Prop,(∀ σ' H',N σ' H'->∃ m',m'<m/\W (i+1) m' σ' H')/\∀ x H',(Itt K a).yld i H x H'->g x σ H' fun σ2 H2=>tb { D with nx:=N,ct:=N,bk:=D.nx } σ2 H2):=by
 refine⟨fun i m σ H=>m=xs.length - i/\i<=xs.length/\Pv i σ H,⟨xs.length,by simp,r9 _,h0⟩,?_⟩
 rintro i m σ H ⟨rfl,hi,p⟩
 have q:=hl i σ H hi p
 by_cases hlt:i<xs.length
 ·refine .inr ⟨⟨xs,xs[i],q,by simp[hlt]⟩,Pv (i+1),fun σ' H' p'=>⟨xs.length - (i+1),by omega,rfl,hlt,p'⟩,fun x H' y=>?_⟩
  obtain⟨e,y⟩:=y
  subst e
  exact hs i x σ _ (y xs q) p
 ·have e:i=xs.length:=by omega
  subst e
  exact .inl ⟨⟨xs,q,c6 _⟩,hd σ H p⟩
theorem S6 {lo:Int}{g:TG}{tb:TS}{D:Ends}(Pv:Nat->St->Hp->Prop)(h0:Pv 0 σ H)
  (hs:∀ i σ H,i<n->Pv i σ H->g (.int (lo+i)) σ H fun σ2 H2=>tb { D with nx:=Pv (i+1),ct:=Pv (i+1),bk:=D.nx } σ2 H2)(hd:∀ σ H,Pv n σ H->D.nx σ H) :
  ∃ W:Nat->Nat->St->Hp->Prop,(∃ m,W 0 m σ H)/\∀ i m σ H,W i m σ H ->
   ((Itr lo n).stop i H/\D.nx σ H)\/((Itr lo n).go i H/\∃ N:St->Hp->Prop,(∀ σ' H',N σ' H'->∃ m',m'<m/\W (i+1) m' σ' H')/\∀ x H',(Itr lo n).yld i H x H'->g x σ H' fun σ2 H2=>tb { D with nx:=N,ct:=N,bk:=D.nx } σ2 H2):=by
 refine⟨fun i m σ H=>m=n - i/\i<=n/\Pv i σ H,⟨n,by simp,r9 _,h0⟩,?_⟩
 rintro i m σ H ⟨rfl,hi,p⟩
 by_cases hlt:i<n
 ·refine .inr ⟨hlt,Pv (i+1),fun σ' H' p'=>⟨n - (i+1),by omega,rfl,hlt,p'⟩,fun x H' y=>?_⟩
  obtain⟨e,y⟩:=y
  subst e y
  exact hs i σ _ hlt p
 ·have e:i=n:=by omega
  subst e
  exact .inl ⟨c6 _,hd σ H p⟩
abbrev R2:=V->V->Hp->VK->Prop
def OpR (X:Cx)(f:Value->Value->Sem Value)(r:R2):Prop:=
 ∀ (pins:List (Addr × Obj)) (s:Shared) (σ:St) (H:Hp) (x y:V) (v u:Value) (Q:VK),Inv X pins σ H s->RelV x v->RelV y u->r x y H Q ->
  v7 (t7 X.prog X.w) X.A (f v u) (EP X pins σ Q) X.xe s
def UnR (X:Cx)(f:Value->Sem Value)(r:V->Hp->VK->Prop):Prop:=
 ∀ (pins:List (Addr × Obj)) (s:Shared) (σ:St) (H:Hp) (x:V) (v:Value) (Q:VK),Inv X pins σ H s->RelV x v->r x H Q ->
  v7 (t7 X.prog X.w) X.A (f v) (EP X pins σ Q) X.xe s
def S7 (X:Cx)(f:Value)(r:List V->Hp->VK->Prop):Prop:=
 ∀ (pins:List (Addr × Obj)) (s:Shared) (σ:St) (H:Hp) (xs:List V) (us:List Value) (Q:VK),Inv X pins σ H s->B7 xs us->r xs H Q ->
  v7 (t7 X.prog X.w) X.A (call f us) (EP X pins σ Q) X.xe s
def cr3 (X:Cx)(r:V->Hp->(Bool->Hp->Prop)->Prop):Prop:=
 ∀ (pins:List (Addr × Obj)) (s:Shared) (σ:St) (H:Hp) (x:V) (v:Value) (Q:Bool->Hp->Prop),Inv X pins σ H s->RelV x v->r x H Q ->
  v7 (t7 X.prog X.w) X.A (truthy v) (TP X pins σ Q) X.xe s
def tOp (r:R2)(ta tb:TE):TE:=fun σ H Q=>ta σ H fun x H1=>tb σ H1 fun y H2=>r x y H2 Q
def tUn (r:V->Hp->VK->Prop)(ta:TE):TE:=fun σ H Q=>ta σ H fun x H1=>r x H1 Q
def rI (C:Int->Int->Prop)(g:Int->Int->V):R2:=fun x y H Q=>∃ i j,x=.int i/\y=.int j/\C i j/\Q (g i j) H
def rI0 (g:Int->Int->V):R2:=fun x y H Q=>∃ i j,x=.int i/\y=.int j/\Q (g i j) H
def rU (g:Int->V):V->Hp->VK->Prop:=fun x H Q=>∃ i,x=.int i/\Q (g i) H
section
variable {a b c:Expr} {tb tc:TE}
theorem bO1 (ha:PE X a ta)(hb:PE X b tb){R:V->V->Hp->Prop}(I:Inv X pins σ H s)
  (h:ta σ H fun x H1=>tb σ H1 fun y H2=>R x y H2){f:Value->Value->Sem Value}
  (hf:∀ v u s2 x y H2,Inv X pins σ H2 s2->RelV x v->RelV y u->R x y H2->v7 (t7 X.prog X.w) X.A (f v u) Q X.xe s2) :
  v7 (t7 X.prog X.w) X.A (eval a X.env) (fun v s₁=>v7 (t7 X.prog X.w) X.A (eval b X.env) (fun u s₂=>v7 (t7 X.prog X.w) X.A (f v u) Q X.xe s₂) X.xe s₁) X.xe s:=by
 refine thn (ha pins s σ H _ I h) fun v s1 ⟨x,H1,I1,r1,q1⟩=>?_
 refine thn (hb pins s1 σ H1 _ I1 q1) fun u s2 ⟨y,H2,I2,r2,q2⟩=>?_
 exact hf v u s2 x y H2 I2 r1 r2 q2
theorem o8 {op:Operator}{r:R2}(ho:OpR X (Z8 op) r)(ha:PE X a ta)(hb:PE X b tb):PE X (.BinOp a op b pos) (tOp r ta tb):=by
 intro pins s σ H Q I h
 exact wpAny_BinOp (bO1 ha hb I h fun v u s2 x y H2 I2 rx ry q=>ho pins s2 σ H2 x y v u Q I2 rx ry q)
theorem bx7 {op:UnaryOp}{r:V->Hp->VK->Prop}(ho:UnR X (unaryOp op) r)(ha:PE X a ta):PE X (.UnaryOp op a pos) (tUn r ta):=by
 intro pins s σ H Q I h
 exact UnaryOp_ (thn (ha pins s σ H _ I h) fun v s1 ⟨x,H1,I1,r1,q1⟩=>ho pins s1 σ H1 x v Q I1 r1 q1)
theorem opI {f:Value->Value->Sem Value}{C:Int->Int->Prop}{g:Int->Int->Int}
  (rule:∀ (i j:Int) (t u:Tok) (s:Shared) (Q:Value->Shared->Prop) (E:Value->Shared->Prop),C i j->Q (.int (g i j) s.toks) { s with toks:=s.toks+1 }->v7 (t7 X.prog X.w) X.A (f (.int i t) (.int j u)) Q E s) :
  OpR X f (rI C fun i j=>.int (g i j)):=by
 intro pins s σ H x y v u Q I rx ry h
 obtain⟨i,j,rfl,rfl,hc,q⟩:=h
 obtain⟨t,rfl⟩:=rx
 obtain⟨t',rfl⟩:=ry
 exact rule i j t t' s _ _ hc ⟨.int (g i j),H,I.tok _,⟨_,rfl⟩,q⟩
theorem ck5 {f:Value->Value->Sem Value}{g:Int->Int->Int}
  (rule:∀ (i j:Int) (t u:Tok) (s:Shared) (Q:Value->Shared->Prop) (E:Value->Shared->Prop),Q (.int (g i j) s.toks) { s with toks:=s.toks+1 }->v7 (t7 X.prog X.w) X.A (f (.int i t) (.int j u)) Q E s) :
  OpR X f (rI0 fun i j=>.int (g i j)):=by
 intro pins s σ H x y v u Q I rx ry h
 obtain⟨i,j,rfl,rfl,q⟩:=h
 obtain⟨t,rfl⟩:=rx
 obtain⟨t',rfl⟩:=ry
 exact rule i j t t' s _ _ ⟨.int (g i j),H,I.tok _,⟨_,rfl⟩,q⟩
theorem bJ9 {f:Value->Value->Sem Value}{g:Int->Int->Bool}
  (rule:∀ (i j:Int) (t u:Tok) (s:Shared) (Q:Value->Shared->Prop) (E:Value->Shared->Prop),Q (.bool (g i j)) s->v7 (t7 X.prog X.w) X.A (f (.int i t) (.int j u)) Q E s) :
  OpR X f (rI0 fun i j=>.bl (g i j)):=by
 intro pins s σ H x y v u Q I rx ry h
 obtain⟨i,j,rfl,rfl,q⟩:=h
 obtain⟨t,rfl⟩:=rx
 obtain⟨t',rfl⟩:=ry
 exact rule i j t t' s _ _ ⟨.bl (g i j),H,I,rfl,q⟩
def cr7 (i j:Int):Prop:=0<j/\j<1073741824
def cr6 (i j:Int):Prop:=0<=j/\j<=1000000/\i.natAbs<2 ^ 64
def ce1 (i j:Int):Prop:=(-(2 ^ 64)<i/\i<2 ^ 64)\/(-(2 ^ 64)<j/\j<2 ^ 64)
theorem ce1.ok {i j:Int}(h:ce1 i j):IntMulOk i j:=by
 rcases h with⟨h1,h2⟩ | ⟨h1,h2⟩
 ·exact .of_left (intBits_le_64 h1 h2)
 ·exact .of_right (intBits_le_64 h1 h2)
theorem L8:OpR X (Z8 .Add) (rI0 fun i j=>.int (i+j)):=ck5 fun _ _ _ _ _ _ _ q=>add_int q
theorem ab7:OpR X (Z8 .Sub) (rI0 fun i j=>.int (i - j)):=ck5 fun _ _ _ _ _ _ _ q=>sub_int q
theorem af3:OpR X (Z8 .Mult) (rI ce1 fun i j=>.int (i*j)):=opI fun _ _ _ _ _ _ _ hc q=>mul_int q hc.ok
theorem N5:OpR X (Z8 .FloorDiv) (rI cr7 fun i j=>.int (i / j)):=opI fun i j _ _ _ _ _ hc q=>by
 have h1:(0:Int)<j:=hc.1
 have h2:j<1073741824:=hc.2
 exact floordiv_int (by omega) (by rw[Int.fdiv_eq_ediv_of_nonneg i (by omega)];exact q) (.inl (PyProof.noPylong_small (by omega)))
theorem G0:OpR X (Z8 .Mod) (rI (fun _ j=>0<j) fun i j=>.int (i % j)):=opI fun i j _ _ _ _ _ hc q=>by
 have h1:(0:Int)<j:=hc
 exact mod_int' (by omega) (by rw[Int.fmod_eq_emod_of_nonneg i (by omega)];exact q)
theorem aj3:OpR X (Z8 .Pow) (rI cr6 fun i j=>.int (i ^ j.toNat)):=opI fun _ _ _ _ _ _ _ hc q=>pow_int_small hc.1 hc.2.1 hc.2.2 q
theorem unI {f:Value->Sem Value}{g:Int->Int}
  (rule:∀ (i:Int) (t:Tok) (s:Shared) (Q:Value->Shared->Prop) (E:Value->Shared->Prop),Q (.int (g i) s.toks) { s with toks:=s.toks+1 }->v7 (t7 X.prog X.w) X.A (f (.int i t)) Q E s) :
  UnR X f (rU fun i=>.int (g i)):=by
 intro pins s σ H x v Q I rx h
 obtain⟨i,rfl,q⟩:=h
 obtain⟨t,rfl⟩:=rx
 exact rule i t s _ _ ⟨.int (g i),H,I.tok _,⟨_,rfl⟩,q⟩
theorem aZ8:UnR X (unaryOp .USub) (rU fun i=>.int (-i)):=unI fun _ _ _ _ _ q=>neg_int q
end
def ci5:V->V->Bool
 | .non,.non=>true | .non,.int _=>true | .int _,.non=>true | .non,.bl _=>true | .bl _,.non=>true | .non,.str _=>true | .str _,.non=>true
 | .int _,.int _=>true | .bl _,.bl _=>true | .str _,.str _=>true | .byt _,.byt _=>true
 | .int _,.str _=>true | .str _,.int _=>true | .bl _,.str _=>true | .str _,.bl _=>true
 | _,_=>false
def rEq:R2:=fun x y H Q=>ci5 x y=true/\Q (.bl (decide (x=y))) H
def rNe:R2:=fun x y H Q=>ci5 x y=true/\Q (.bl (!decide (x=y))) H
theorem bk3 {i j:Int}:decide (V.int i=V.int j)=(i == j):=by
 rw[G8]
 simp
theorem bC4 {i j:Bool}:decide (V.bl i=V.bl j)=(i == j):=by
 rw[G8]
 simp
theorem bk2 {i j:Str}:decide (V.str i=V.str j)=(i == j):=by
 rw[G8]
 simp
theorem bk4 {i j:Array UInt8}:decide (V.byt i=V.byt j)=(i.toList == j.toList):=by
 rw[G8]
 cases i
 cases j
 simp
section
variable {a b c:Expr} {tb tc:TE}
theorem D3 {Q:VK}{k k':Bool}(I:Inv X pins σ H s)(q:Q (.bl k) H)(e:k=k'):EP X pins σ Q (.bool k') s:=by
 subst e
 exact⟨.bl k,H,I,rfl,q⟩
theorem Q8:OpR X (C4 .Eq) rEq:=by
 intro pins s σ H x y v u Q I rx ry h
 obtain⟨hs,q⟩:=h
 cases x with
 | non =>
  cases rx
  cases y with
  | non=>cases ry;exact PySem.EqNone.eq_none_none (D3 I q (by simp))
  | bl j=>cases ry;exact PySem.EqNone.eq_none_bool (D3 I q (by simp))
  | int j=>obtain⟨t',rfl⟩:=ry;exact PySem.EqNone.eq_none_int (D3 I q (by simp))
  | str j=>obtain⟨t',rfl⟩:=ry;exact PySem.EqNone.eq_none_str (D3 I q (by simp))
  | _=>exact absurd (show false=true from hs) i6
 | bl i =>
  cases rx
  cases y with
  | non=>cases ry;exact PySem.EqNone.eq_bool_none (D3 I q (by simp))
  | bl j=>cases ry;exact eq_bool (D3 I q bC4)
  | str j=>obtain⟨t',rfl⟩:=ry;exact PySem.EqMixed.eq_bool_str (D3 I q (by simp))
  | _=>exact absurd (show false=true from hs) i6
 | int i =>
  obtain⟨t,rfl⟩:=rx
  cases y with
  | non=>cases ry;exact PySem.EqNone.eq_int_none (D3 I q (by simp))
  | int j=>obtain⟨t',rfl⟩:=ry;exact eq_int (D3 I q bk3)
  | str j=>obtain⟨t',rfl⟩:=ry;exact PySem.EqMixed.eq_int_str (D3 I q (by simp))
  | _=>exact absurd (show false=true from hs) i6
 | str i =>
  obtain⟨t,rfl⟩:=rx
  cases y with
  | non=>cases ry;exact PySem.EqNone.eq_str_none (D3 I q (by simp))
  | bl j=>cases ry;exact PySem.EqMixed.eq_str_bool (D3 I q (by simp))
  | int j=>obtain⟨t',rfl⟩:=ry;exact PySem.EqMixed.eq_str_int (D3 I q (by simp))
  | str j=>obtain⟨t',rfl⟩:=ry;exact eq_str (D3 I q bk2)
  | _=>exact absurd (show false=true from hs) i6
 | byt i =>
  obtain⟨t,rfl⟩:=rx
  cases y with
  | byt j=>obtain⟨t',rfl⟩:=ry;exact PySem.W.eq_bytes (D3 I q bk4)
  | _=>exact absurd (show false=true from hs) i6
 | _=>cases y<;>exact absurd (show false=true from hs) i6
theorem aw5:OpR X (C4 .NotEq) rNe:=by
 intro pins s σ H x y v u Q I rx ry h
 obtain⟨hs,q⟩:=h
 cases x with
 | non =>
  cases rx
  cases y with
  | non=>cases ry;exact PySem.EqNone.ne_none_none (D3 I q (by simp))
  | bl j=>cases ry;exact PySem.EqNone.ne_none_bool (D3 I q (by simp))
  | int j=>obtain⟨t',rfl⟩:=ry;exact PySem.EqNone.ne_none_int (D3 I q (by simp))
  | str j=>obtain⟨t',rfl⟩:=ry;exact PySem.EqNone.ne_none_str (D3 I q (by simp))
  | _=>exact absurd (show false=true from hs) i6
 | bl i =>
  cases rx
  cases y with
  | non=>cases ry;exact PySem.EqNone.ne_bool_none (D3 I q (by simp))
  | bl j=>cases ry;exact ne_bool (D3 I q (congrArg not bC4))
  | str j=>obtain⟨t',rfl⟩:=ry;exact PySem.EqMixed.ne_bool_str (D3 I q (by simp))
  | _=>exact absurd (show false=true from hs) i6
 | int i =>
  obtain⟨t,rfl⟩:=rx
  cases y with
  | non=>cases ry;exact PySem.EqNone.ne_int_none (D3 I q (by simp))
  | int j=>obtain⟨t',rfl⟩:=ry;exact ne_int (D3 I q (congrArg not bk3))
  | str j=>obtain⟨t',rfl⟩:=ry;exact PySem.EqMixed.ne_int_str (D3 I q (by simp))
  | _=>exact absurd (show false=true from hs) i6
 | str i =>
  obtain⟨t,rfl⟩:=rx
  cases y with
  | non=>cases ry;exact PySem.EqNone.ne_str_none (D3 I q (by simp))
  | bl j=>cases ry;exact PySem.EqMixed.ne_str_bool (D3 I q (by simp))
  | int j=>obtain⟨t',rfl⟩:=ry;exact PySem.EqMixed.ne_str_int (D3 I q (by simp))
  | str j=>obtain⟨t',rfl⟩:=ry;exact ne_str (D3 I q (congrArg not bk2))
  | _=>exact absurd (show false=true from hs) i6
 | byt i =>
  obtain⟨t,rfl⟩:=rx
  cases y with
  | byt j=>obtain⟨t',rfl⟩:=ry;exact PySem.W.ne_bytes (D3 I q (congrArg not bk4))
  | _=>exact absurd (show false=true from hs) i6
 | _=>cases y<;>exact absurd (show false=true from hs) i6
theorem ag6:OpR X (C4 .Lt) (rI0 fun i j=>.bl (decide (i<j))):=bJ9 fun _ _ _ _ _ _ _ q=>lt_int q
theorem aj4:OpR X (C4 .LtE) (rI0 fun i j=>.bl (decide (i<=j))):=bJ9 fun _ _ _ _ _ _ _ q=>le_int q
theorem by3:OpR X (C4 .Gt) (rI0 fun i j=>.bl (decide (j<i))):=bJ9 fun _ _ _ _ _ _ _ q=>gt_int q
theorem by5:OpR X (C4 .GtE) (rI0 fun i j=>.bl (decide (j<=i))):=bJ9 fun _ _ _ _ _ _ _ q=>ge_int q
theorem bo2:OpR X (C4 .In) (fun x y H Q=>∃ i j,x=.str i/\y=.str j/\Q (.bl (!(Builtin.Str.occurrences j i 0 j.length 1).isEmpty)) H):=by
 intro pins s σ H x y v u Q I rx ry h
 obtain⟨i,j,rfl,rfl,q⟩:=h
 obtain⟨t,rfl⟩:=rx
 obtain⟨t',rfl⟩:=ry
 exact in_str (D3 I q rfl)
theorem bY4:OpR X (C4 .Is) (fun x y H Q=>y=.non/\Q (.bl (decide (x=.non))) H):=by
 intro pins s σ H x y v u Q I rx ry h
 obtain⟨rfl,q⟩:=h
 cases ry
 refine is_none_gen (D3 I q ?_)
 cases x<;>first
  | (cases rx;rfl)
  | (obtain⟨t,rfl⟩:=rx;rfl)
theorem al5:OpR X (C4 .IsNot) (fun x y H Q=>y=.non/\Q (.bl (!decide (x=.non))) H):=by
 intro pins s σ H x y v u Q I rx ry h
 obtain⟨rfl,q⟩:=h
 cases ry
 refine isnot_none_gen (D3 I q ?_)
 cases x<;>first
  | (cases rx;rfl)
  | (obtain⟨t,rfl⟩:=rx;rfl)
theorem aN4:OpR X (C4 .NotIn) (fun x y H Q=>∃ i j,x=.str i/\y=.str j/\Q (.bl (!(!(Builtin.Str.occurrences j i 0 j.length 1).isEmpty))) H):=by
 intro pins s σ H x y v u Q I rx ry h
 obtain⟨i,j,rfl,rfl,q⟩:=h
 obtain⟨t,rfl⟩:=rx
 obtain⟨t',rfl⟩:=ry
 exact notIn_str (D3 I q rfl)
theorem y9 (b:Expr){op:CmpOp}(h:op≠.In:=by decide)(h2:op≠.NotIn:=by decide):aL1 op b=false:=by
 have e1:(op == CmpOp.In)=false:=by cases op<;>first | rfl | exact absurd rfl h
 have e2:(op == CmpOp.NotIn)=false:=by cases op<;>first | rfl | exact absurd rfl h2
 cases b<;>simp[aL1,e1,e2]
theorem aa0 {op:CmpOp}{r:R2}(ho:OpR X (C4 op) r)(ha:PE X a ta)(hb:PE X b tb)(hm:aL1 op b=false):PE X (.Compare a [op] [b] pos) (tOp r ta tb):=by
 intro pins s σ H Q I h
 exact wpAny_Compare1 (bO1 ha hb I h fun v u s2 x y H2 I2 rx ry q=>ho pins s2 σ H2 x y v u Q I2 rx ry q) hm
def bQ0 (t:TE):TT:=fun σ H Q=>t σ H fun x H'=>∃ k,x=.bl k/\Q k H'
theorem p5 {op:CmpOp}{r:R2}(ho:OpR X (C4 op) r)(ha:PE X a ta)(hb:PE X b tb)(hm:aL1 op b=false):PT X (.Compare a [op] [b] pos) (bQ0 (tOp r ta tb)):=by
 intro pins s σ H Q I h
 refine wpAny_isTrue_Compare1 (thn (ha pins s σ H _ I h) fun v s1 ⟨x,H1,I1,r1,q1⟩=>thn (hb pins s1 σ H1 _ I1 q1) fun u s2 ⟨y,H2,I2,r2,q2⟩ =>
  thn (ho pins s2 σ H2 x y v u _ I2 r1 r2 q2) fun c s3 ⟨z,H3,I3,r3,k,e,q3⟩=>?_) hm
 subst e
 cases r3
 exact P4 ⟨H3,I3,q3⟩
def bt7 (r r':R2)(ta tb tc:TE):TE:=fun σ H Q=>ta σ H fun x H1=>tb σ H1 fun y H2=>r x y H2 fun z H3=>∃ k,z=.bl k /\
 (if k=true then tc σ H3 fun w' H4=>r' y w' H4 Q else Q (.bl false) H3)
theorem by0 {op op':CmpOp}{r r':R2}(ho:OpR X (C4 op) r)(ho':OpR X (C4 op') r')(ha:PE X a ta)(hb:PE X b tb)(hc:PE X c tc)
  (hm:lastMarks [op,op'] [b,c]=false:=by with_unfolding_all rfl):PE X (.Compare a [op,op'] [b,c] pos) (bt7 r r' ta tb tc):=by
 intro pins s σ H Q I h
 refine Compare_chain (thn (ha pins s σ H _ I h) fun v s1 ⟨x,H1,I1,r1,q1⟩=>chain_link (thn (hb pins s1 σ H1 _ I1 q1) fun u s2 ⟨y,H2,I2,r2,q2⟩ =>
  thn (ho pins s2 σ H2 x y v u _ I2 r1 r2 q2) fun d s3 ⟨z,H3,I3,r3,k,e,q3⟩=>?_)) hm
 subst e
 cases r3
 refine P4 ?_
 cases k with
 | false=>exact ite_ff ⟨.bl false,H3,I3,rfl,q3⟩
 | true=>exact ite_tt (chain_last (thn (hc pins s3 σ H3 _ I3 q3) fun w' s4 ⟨z',H4,I4,r4,q4⟩=>ho' pins s4 σ H4 y z' u w' Q I4 r2 r4 q4))
theorem ai7 {op op':CmpOp}{r r':R2}(ho:OpR X (C4 op) r)(ho':OpR X (C4 op') r')(ha:PE X a ta)(hb:PE X b tb)(hc:PE X c tc)
  (hm:lastMarks [op,op'] [b,c]=false:=by with_unfolding_all rfl):PT X (.Compare a [op,op'] [b,c] pos) (bQ0 (bt7 r r' ta tb tc)):=by
 intro pins s σ H Q I h
 refine isTrue_chain (thn (ha pins s σ H _ I h) fun v s1 ⟨x,H1,I1,r1,q1⟩=>test_link (thn (hb pins s1 σ H1 _ I1 q1) fun u s2 ⟨y,H2,I2,r2,q2⟩ =>
  thn (ho pins s2 σ H2 x y v u _ I2 r1 r2 q2) fun d s3 ⟨z,H3,I3,r3,k,e,q3⟩=>?_)) hm
 subst e
 cases r3
 refine P4 ?_
 cases k with
 | false =>
  obtain⟨k',e',q'⟩:=q3
  cases e'
  exact ite_ff ⟨H3,I3,q'⟩
 | true =>
  refine ite_tt (test_last (thn (hc pins s3 σ H3 _ I3 q3) fun w' s4 ⟨z',H4,I4,r4,q4⟩=>thn (ho' pins s4 σ H4 y z' u w' _ I4 r2 r4 q4) fun d' s5 ⟨z2,H5,I5,r5,k2,e2,q5⟩=>?_))
  subst e2
  cases r5
  exact P4 ⟨H5,I5,q5⟩
def cn7 (K:W.Frag)(x:V)(H:Hp)(k:Bool):Prop:=
 match x with
 | .non=>k=false
 | .bl b=>k=b
 | .int i=>k=(i != 0)
 | .str y=>y.length<=d8/\k=((y.length:Int) != 0)
 | .byt y=>y.size<=d8/\k=((y.size:Int) != 0)
 | .ref p=>(∃ xs,SqL K H p xs/\k=!xs.isEmpty)\/(∃ xs,SqT K H p xs/\k=!xs.isEmpty)\/∃ kvs,H p=some (.dK kvs)/\k=!kvs.isEmpty
 | _=>False
theorem bd4 {κ:Type}{kvs:List (κ × V)}{vs:List (κ × Value)}(r:KV kvs vs):(!vs.isEmpty)=!kvs.isEmpty:=by
 cases r<;>rfl
theorem aD7 {its:List Value}(r:B7 xs its):(!its.toArray.isEmpty)=!xs.isEmpty:=by
 cases r<;>simp
theorem aj6:(d8:Nat)<2 ^ 63:=by rw[x6];decide
theorem bU5:cr3 X (fun x H Q=>∃ k,cn7 X.K x H k/\Q k H):=by
 intro pins s σ H x v Q I rx h
 obtain⟨k,e,q⟩:=h
 have hl:=aj6
 have hs:d8=16777216:=x6
 cases x with
 | non =>
  cases rx
  have e':k=false:=e
  subst e'
  exact truthy_none ⟨H,I,q⟩
 | bl b =>
  cases rx
  have e':k=b:=e
  subst e'
  exact P4 ⟨H,I,q⟩
 | int i =>
  obtain⟨t,rfl⟩:=rx
  have e':k=(i != 0):=e
  subst e'
  exact PySem.P.truthy_int ⟨H,I,q⟩
 | str y =>
  obtain⟨t,rfl⟩:=rx
  obtain⟨hy,e'⟩:y.length<=d8/\k=((y.length:Int) != 0):=e
  subst e'
  exact PySem.P.truthy_str (by omega) ⟨H,I.tok _,q⟩
 | byt y =>
  obtain⟨t,rfl⟩:=rx
  obtain⟨hy,e'⟩:y.size<=d8/\k=((y.size:Int) != 0):=e
  subst e'
  exact PySem.W.truthy_bytes (by omega) ⟨H,I.tok _,q⟩
 | ref p =>
  cases rx
  have e':(∃ xs,SqL X.K H p xs/\k=!xs.isEmpty)\/(∃ xs,SqT X.K H p xs/\k=!xs.isEmpty)\/∃ kvs,H p=some (.dK kvs)/\k=!kvs.isEmpty:=e
  rcases e' with⟨xs,hx,e'⟩ | ⟨xs,hx,e'⟩ | ⟨kvs,hx,e'⟩
  ·subst e'
   obtain⟨its,r,pl,hz⟩:=I.list hx
   have hlen:=r.length
   exact wpAny_truthy_list pl.isList (by simp only[d9];omega) ⟨H,I.tok _,by rw[aD7 r];exact q⟩
  ·subst e'
   obtain⟨its,r,pl,hz⟩:=I.tuple hx
   have hlen:=r.length
   exact truthy_tuple pl (by simp only[d9];omega) ⟨H,I.tok _,by rw[aD7 r];exact q⟩
  ·subst e'
   obtain⟨hz,hS,vs,r,m⟩:kvs.length<=d8/\(p == sysModules)=false/\∃ vs,KV kvs vs/\s.heap.DictOf (aN7 X.prog X.w) p vs:=I.hok p _ hx
   have hlen:kvs.length=vs.length:=Paired.length r
   exact wpAny_truthy_dict hS m (by omega) ⟨H,I.tok _,by rw[bd4 r];exact q⟩
 | _=>exact(show False from e).elim
theorem aT3 (ha:PE X a ta)(he:∀ whole,isTrue a X.env whole=(do let v <- whole;standAt a.pos;aP9 [v] (truthy v))) :
  PT X a (fun σ H Q=>ta σ H fun x H'=>∃ k,cn7 X.K x H' k/\Q k H'):=by
 intro pins s σ H Q I h
 exact isTrue_plain (thn (ha pins s σ H _ I h) fun v s1 ⟨x,H1,I1,r1,q1⟩=>bU5 pins s1 σ H1 x v Q I1 r1 q1) (he _)
theorem af4:OpR X (Z8 .Add) (fun x y H Q=>∃ i j,x=.str i/\y=.str j/\i.length+j.length<=d8/\Q (.str (i++j)) H):=by
 intro pins s σ H x y v u Q I rx ry h
 obtain⟨i,j,rfl,rfl,hz,q⟩:=h
 obtain⟨t,rfl⟩:=rx
 obtain⟨t',rfl⟩:=ry
 exact add_str (fun t' tk=>⟨.str (i++j),H,I.tok _,⟨_,rfl⟩,q⟩) hz
def bE1 (b:Expr):Prop:=∀ o i,cf9 b false o i=operate [o,i] (cf8 o i)
theorem aw2 (ha:PE X a ta)(hb:PE X b tb)(hs:bE1 b) :
  PE X (.Subscript a b pos) (tOp (fun x y H Q=>∃ z i c,x=.str z/\y=.int i/\0<=i/\i<2 ^ 63/\i<z.length/\z.cps[i.toNat]?=some c/\Q (.str ⟨#[c]⟩) H) ta tb):=by
 intro pins s σ H Q I h
 refine Subscript_ (bO1 ha hb I h fun v u s2 x y H2 I2 rx ry q=>?_)
 obtain⟨z,i,c,rfl,rfl,h0,h63,h1,hc,q⟩:=q
 obtain⟨t,rfl⟩:=rx
 obtain⟨t',rfl⟩:=ry
 have e:seqIndex? i z.length=some i.toNat:=PySem.StrLaws.seqIndex_nonneg h0 h1
 exact tail_any (ao0 s2 z t) slot_str_getitem.lookup (getItem_str (c:=c) (by
  have e1:decide (i < -(2 ^ 63:Int))=false:=decide_eq_false (by omega)
  have e2:decide (i≥2 ^ 63)=false:=decide_eq_false (by omega)
  rw[e1,e2]<;>rfl) (by rw[e];exact hc) ⟨.str ⟨#[c]⟩,H2,I2.tok _,⟨_,rfl⟩,q⟩) (hs _ _)
theorem vals1 {x:V}(r:B7 [x] us):∃ u,us=[u]/\RelV x u:=by
 cases r with
 | cons r1 r2=>cases r2;exact⟨_,rfl,r1⟩
theorem vals2 {x y:V}(r:B7 [x,y] us):∃ u w',us=[u,w']/\RelV x u/\RelV y w':=by
 cases r with
 | cons r1 r2 =>
  cases r2 with
  | cons r3 r4=>cases r4;exact⟨_,_,rfl,r1,r3⟩
theorem ad4 (hc:X.calm=true):S7 X (.builtin "max") (fun xs H Q=>∃ i j,xs=[.int i,.int j]/\Q (.int (if j > i then j else i)) H):=by
 intro pins s σ H xs us Q I r h
 obtain⟨i,j,rfl,q⟩:=h
 obtain⟨u,w',rfl,⟨t,rfl⟩,⟨t',rfl⟩⟩:=vals2 r
 refine max_two_ints (I.ok.hd hc) fun h' tk k=>⟨_,H,I.kept k,?_,q⟩
 by_cases hj:j > i
 ·rw[if_pos hj,if_pos hj];exact⟨_,rfl⟩
 ·rw[if_neg hj,if_neg hj];exact⟨_,rfl⟩
theorem ad3 (hc:X.calm=true):S7 X (.builtin "min") (fun xs H Q=>∃ i j,xs=[.int i,.int j]/\Q (.int (if j<i then j else i)) H):=by
 intro pins s σ H xs us Q I r h
 obtain⟨i,j,rfl,q⟩:=h
 obtain⟨u,w',rfl,⟨t,rfl⟩,⟨t',rfl⟩⟩:=vals2 r
 refine min_two_ints (I.ok.hd hc) fun h' tk k=>⟨_,H,I.kept k,?_,q⟩
 by_cases hj:j<i
 ·rw[if_pos hj,if_pos hj];exact⟨_,rfl⟩
 ·rw[if_neg hj,if_neg hj];exact⟨_,rfl⟩
theorem X7:S7 X (.type "str") (fun xs H Q=>∃ i,xs=[.int i]/\i.natAbs.log2<1920/\Q (.str (toString i)) H):=by
 intro pins s σ H xs us Q I r h
 obtain⟨i,rfl,hz,q⟩:=h
 obtain⟨u,rfl,t,rfl⟩:=vals1 r
 exact PySem.P.str_of_int hz ⟨.str _,H,I.tok _,⟨_,rfl⟩,q⟩
def cr4 (K:W.Frag)(x:V)(H:Hp)(n:Nat):Prop:=
 match x with
 | .str y=>y.length<=d8/\n=y.length
 | .byt y=>y.size<=d8/\n=y.size
 | .ref p=>(∃ xs,SqL K H p xs/\n=xs.length)\/∃ xs,SqT K H p xs/\n=xs.length
 | _=>False
theorem aE9:S7 X (.builtin "len") (fun xs H Q=>∃ x n,xs=[x]/\cr4 X.K x H n/\Q (.int n) H):=by
 intro pins s σ H xs us Q I r h
 obtain⟨x,n,rfl,e,q⟩:=h
 obtain⟨u,rfl,rx⟩:=vals1 r
 have hl:=aj6
 have hs:d8=16777216:=x6
 cases x with
 | str y =>
  obtain⟨t,rfl⟩:=rx
  obtain⟨hy,e'⟩:y.length<=d8/\n=y.length:=e
  subst e'
  exact len_str (by omega) ⟨.int _,H,I.tok _,⟨_,rfl⟩,q⟩
 | byt y =>
  obtain⟨t,rfl⟩:=rx
  obtain⟨hy,e'⟩:y.size<=d8/\n=y.size:=e
  subst e'
  exact PySem.W.len_bytes (by omega) ⟨.int _,H,I.tok _,⟨_,rfl⟩,q⟩
 | ref p =>
  cases rx
  have e':(∃ xs,SqL X.K H p xs/\n=xs.length)\/∃ xs,SqT X.K H p xs/\n=xs.length:=e
  rcases e' with⟨xs,hx,e'⟩ | ⟨xs,hx,e'⟩
  ·subst e'
   obtain⟨its,r',pl,hz⟩:=I.list hx
   have hlen:=r'.length
   exact Calls.call_len_list pl.isList (by simp only[d9];omega) ⟨.int xs.length,H,I.tok _,⟨_,by simp only[d9];rw[hlen]⟩,q⟩
  ·subst e'
   obtain⟨its,r',pl,hz⟩:=I.tuple hx
   have hlen:=r'.length
   exact len_tuple pl (by simp only[d9];omega) ⟨.int xs.length,H,I.tok _,⟨_,by simp only[d9];rw[hlen]⟩,q⟩
 | _=>exact(show False from e).elim
end
structure ce0 (h:Heap) (x dx C:Addr) (mA:Str->Option Value):Prop where
 obj:h.get? x=some (PySem.W.instObj C dx)
 ns:h.Ns1 dx mA
 ne:dx≠x
theorem bp1 {dx:Addr}(n:h.Ns1 dx mA):∃ od,h.get? dx=some od/\∀ name,PySem.W.lookIn name od=some (mA name):=by
 obtain⟨o,es,ep,ho,hd,hk,_,hm⟩:=n
 refine⟨o,ho,fun name=>?_⟩
 have e:=hm name
 unfold nsFind findBy at e
 rw[<- Array.find?_toList]at e
 unfold PySem.W.lookIn
 rw[hd]
 dsimp only
 split
 ·rename_i y q
  rw[q]at e
  exact congrArg some e
 ·rename_i q
  rw[q]at e
  have a:es.toList.any (·.refKey)=false:=by
   rw[List.any_eq_false]
   intro y hy
   obtain⟨z,t,hkey⟩:=hk y (at3.mp hy)
   simp[DictEntry.refKey,hkey]
  have a':¬ es.toList.any (·.refKey)=true:=by rw[a];exact i6
  rw[if_neg a']
  exact congrArg some e
theorem ce0.look {x dx:Addr}(I:ce0 h x dx C mA):∃ od,PySem.W.InstAt h x (PySem.W.instObj C dx) C (some od)/\∀ name,PySem.W.lookIn name od=some (mA name):=
 let ⟨od,ho,hl⟩:=bp1 I.ns
 ⟨od,⟨I.obj,rfl,rfl,ho⟩,hl⟩
section
variable {K:W.Frag} {x dx:Addr} {name:Str}
end
section
variable {dx:Addr} {fs fs':List (Str × V)}
theorem bN3 (hok:HOk P w H h)(e:H a=some (.ins C dx fs)):∃ mA,ce0 h a dx C mA/\(∀ f,cd8 (fs.lookup f) (mA f))/\PySem.Within mA (fs.map (·.1))/\fs.length<=1000/\H dx=some (.own a):=by
 obtain⟨d,z,ne,ob,mA,n,r,q⟩:=(show O0 P w H h a (.ins C dx fs) from hok a _ e)
 exact⟨mA,⟨ob,n,ne⟩,r,q,z,d⟩
end
structure Cls (K:W.Frag) (C:Addr):Prop where
 pg:PySem.W.plainGet K C Str.empty=true
 hd:PySem.W.hasDictIn K C=true
 po:PySem.W.plainOver K C=true
 sa:PySem.W.findIn K (.ref C) "__setattr__"=some (some (.builtin "object.__setattr__"))
theorem Cls.get {K:W.Frag}(c:Cls K C)(f:Str):PySem.W.plainGet K C f=true:=c.pg
structure Con (K:W.Frag) (C:Addr) (f:Str) (v:V) (u:Value):Prop where
 at_:PySem.W.findIn K (.ref C) f=some (some u)
 rel:RelV v u
 get:PySem.W.specialIn K u "__get__"=some none
 cp:PySem.W.copiedNames.contains f=false
structure cr8 (K:W.Frag) (C:Addr) (m:Str) (f:Addr):Prop where
 at_:PySem.W.findIn K (.ref C) m=some (some (.ref f))
 fn:PySem.W.isFn K (.ref f)=true
 kp:W5 K (.ref f)=true
section
variable {dx:Addr} {fs:List (Str × V)} {f:Str} {v:V}
end
section
variable {value:Expr} {f:Str} {pos' tpos:Pos} {tv:TE}
end
section
variable {c:Value} {b:Bool}
inductive as5 (K:W.Frag) (H:Hp):V->Value->Prop where
 | non:as5 K H .non (.type "NoneType")
 | bl (x:Bool):as5 K H (.bl x) (.type "bool")
 | int (i:Int):as5 K H (.int i) (.type "int")
 | str (x:Str):as5 K H (.str x) (.type "str")
 | flt (x:UInt64):as5 K H (.flt x) (.type "float")
 | lst {a:Addr} {xs:List V} (e:H a=some (.lst xs)):as5 K H (.ref a) (.type "list")
 | frz {a:Addr} {o:Obj} {xs:List V} (e:H a=some (.frz o (.lst xs))):as5 K H (.ref a) (.type "list")
 | tup {a:Addr} {xs:List V} (e:H a=some (.tup xs)):as5 K H (.ref a) (.type "tuple")
 | dK {a:Addr} {kvs:List (Key × V)} (e:H a=some (.dK kvs)):as5 K H (.ref a) (.type "dict")
 | dT {a:Addr} {kvs:List (List Key × V)} (e:H a=some (.dT kvs)):as5 K H (.ref a) (.type "dict")
 | ins {a C dx:Addr} {fs:List (Str × V)} (e:H a=some (.ins C dx fs)) (cl:Cls K C) (ha:PySem.W.findIn K (.ref C) "__class__"=some (some (.builtin "object.__class__")))
   (hn:PySem.W.specialIn K (.builtin "object.__class__") "__get__"=some (some (.builtin "getset_descriptor.__get__"))) (htk:PySem.W.takesIn K (.builtin "object.__class__")=some true)
   (hm:PySem.W.mroIn K C (.type "object")=some true):as5 K H (.ref a) (.ref C)
theorem bp6 {x:V}{t:Value}(I:Inv X pins σ H s)(rx:RelV x u)(ty:as5 X.K H x t)(e:PySem.W.kitOne X.K t c=some b)(h:∀ tk,Q (.bool b) { s with toks:=tk }) :
  v7 (t7 X.prog X.w) A (call (.builtin "isinstance") [u,c]) Q E s:=by
 cases ty with
 | non=>cases (show u=Value.none from rx);exact PySem.W.kia_one PySem.W.kitx_none I.kIn True.intro e (fun z=>nomatch z) h
 | bl y=>cases (show u=Value.bool y from rx);exact PySem.W.kia_one PySem.W.kitx_bool I.kIn True.intro e (fun z=>nomatch z) h
 | int i=>obtain⟨t,q⟩:=(show ∃ t,u=Value.int i t from rx);cases q;exact PySem.W.kia_one PySem.W.kitx_int I.kIn True.intro e (fun z=>nomatch z) h
 | str y=>obtain⟨t,q⟩:=(show ∃ t,u=Value.str y t from rx);cases q;exact PySem.W.kia_one PySem.W.kitx_str I.kIn True.intro e (fun z=>nomatch z) h
 | flt y=>obtain⟨t,q⟩:=(show ∃ t,u=Value.float y t from rx);cases q;exact PySem.W.kia_one PySem.W.kitx_float I.kIn True.intro e (fun z=>nomatch z) h
 | @lst a xs ea =>
  cases (show u=Value.ref a from rx)
  obtain⟨_,_,n,_,h1⟩:=(show O0 X.prog X.w H s.heap a (.lst xs) from I.hok a _ ea)
  exact PySem.W.kia_one PySem.W.kitx_list I.kIn ⟨_,h1,rfl⟩ e (fun z=>nomatch z) h
 | @frz a ob xs ea =>
  cases (show u=Value.ref a from rx)
  obtain⟨_,_,_,n,_,h1⟩:=(show O0 X.prog X.w H s.heap a (.frz ob (.lst xs)) from I.hok a _ ea)
  exact PySem.W.kia_one PySem.W.kitx_list I.kIn ⟨_,h1,rfl⟩ e (fun z=>nomatch z) h
 | @tup a xs ea =>
  cases (show u=Value.ref a from rx)
  obtain⟨_,_,_,p⟩:=(show O0 X.prog X.w H s.heap a (.tup xs) from I.hok a _ ea)
  obtain⟨o,h1,h2,_⟩:=p
  exact PySem.W.kia_one PySem.W.kitx_tuple I.kIn ⟨o,h1,h2⟩ e (fun z=>nomatch z) h
 | @dK a kvs ea =>
  cases (show u=Value.ref a from rx)
  obtain⟨_,_,vs,_,p⟩:=(show O0 X.prog X.w H s.heap a (.dK kvs) from I.hok a _ ea)
  obtain⟨o,es,ep,h1,h2,_⟩:=p
  exact PySem.W.kia_one PySem.W.kitx_dict I.kIn ⟨o,h1,h2.1⟩ e (fun z=>nomatch z) h
 | @dT a kvs ea =>
  cases (show u=Value.ref a from rx)
  obtain⟨_,_,xs,_,o,es,ep,h1,h2,_⟩:=(show O0 X.prog X.w H s.heap a (.dT kvs) from I.hok a _ ea)
  exact PySem.W.kia_one PySem.W.kitx_dict I.kIn ⟨o,h1,h2.1⟩ e (fun z=>nomatch z) h
 | @ins a C dx fs ea cl ha hn htk hm =>
  cases (show u=Value.ref a from rx)
  obtain⟨mA,O,_⟩:=bN3 I.hok ea
  obtain⟨od,J,_⟩:=O.look
  exact PySem.W.kia_one (PySem.W.kitx_own (cl.get _) cl.hd ha hn htk hm) I.kIn J e (fun z=>nomatch z) h
end
structure Y7 (k:Nat) (A:Around):Prop where
 hd:A.handled=none
 dp:A.depth+3*k+5<aG0
 un:A.units+16*k+200<ao1
theorem Y7.mono {k:Nat}(r:Y7 k A)(h:j<=k):Y7 j A:=⟨r.hd,by have:=r.dp;omega,by have:=r.un;omega⟩
theorem Y7.deeper {k:Nat}(r:Y7 (k+1) A)(env:Env):Y7 k (A.deeper env):=
 ⟨r.hd,by have:=r.dp;show A.depth+1+3*k+5<_;omega,by have:=r.un;show A.units+3+16*k+200<_;omega⟩
theorem Y7.depth {k:Nat}(r:Y7 k A):A.depth<aG0:=by have:=r.dp;omega
theorem Y7.units {k:Nat}(r:Y7 k A):A.units+64<ao1:=by have:=r.un;omega
def bH6:TA:=fun _ H Q=>Q [] H
def bg3 (ta:TE)(tr:TA):TA:=fun σ H Q=>ta σ H fun x H1=>tr σ H1 fun xs H2=>Q (x::xs) H2
section
variable {t:TA}
theorem b7:PA X [] bH6:=fun _ _ _ _ H Q I h=>Calls.spliced_nil ⟨[],H,I,.nil,h⟩
theorem a6 (ha:PE X e te)(hr:PA X es t)(hs:B0 (e::es) X.env=(false,eval e X.env)::B0 es X.env:=by rfl):PA X (e::es) (bg3 te t):=by
 intro pos pins s σ H Q I h
 rw[hs]
 show v7 _ _ (spliced ((false,eval e X.env)::Z1 pos (B0 es X.env))) _ _ s
 refine Calls.spliced_cons (thn (ha pins s σ H _ I h) fun u s1 ⟨x,H1,I1,r1,q1⟩=>?_)
 exact thn (hr pos pins s1 σ H1 _ I1 q1) fun us s2 ⟨xs,H2,I2,r2,q2⟩=>⟨x::xs,H2,I2,.cons r1 r2,q2⟩
def co0 (t:TA):TE:=fun σ H Q=>t σ H fun xs H1=>xs.length<=d8/\∀ p,H1 p=none->Q (.ref p) (upd H1 p (.tup xs))
def co5 (t:TA):TE:=fun σ H Q=>t σ H fun xs H1=>xs.length<=d8/\∀ p,H1 p=none->Q (.ref p) (upd H1 p (.lst xs))
theorem J7 {x1}(h:PA X es t):PE X (.Tuple es x1 pos) (co0 t):=by
 intro pins s σ H Q I hq
 refine wpAny_Tuple_spliced (thn (h pos pins s σ H _ I hq) fun us s1 ⟨xs,H1,I1,r,z,q⟩=>⟨by rw[<- r.length];exact z,?_⟩)
 have hf:H1 s1.heap.objs.size=none:=I1.hok.fresh (c6 _)
 refine⟨.ref s1.heap.objs.size,upd H1 s1.heap.objs.size (.tup xs),I1.laid (t':=s1.toks) (fun b u e=>a7 _ e) (c6 _) ?_,rfl,q _ hf⟩
 exact⟨z,us,r,⟨_,l5 _ rfl,rfl,_,rfl⟩⟩
theorem P0 (h:PA X es t):PE X (.List es pos) (co5 t):=by
 intro pins s σ H Q I hq
 refine wpAny_List_spliced (thn (h pos pins s σ H _ I hq) fun us s1 ⟨xs,H1,I1,r,z,q⟩=>⟨by rw[<- r.length];exact z,?_⟩)
 have hf:H1 s1.heap.objs.size=none:=I1.hok.fresh (c6 _)
 refine⟨.ref s1.heap.objs.size,upd H1 s1.heap.objs.size (.lst xs),I1.laid (t':=s1.toks) (fun b u e=>a7 _ e) (c6 _) ?_,rfl,q _ hf⟩
 exact⟨z,us,0,r,l5 _ rfl⟩
end
abbrev Sp:=List V->Hp->VK->XK->Prop
abbrev CXT:=List Env->Hp->Shared->XK->Value->Shared->Prop
structure bO6 (P:Program) (w:World) (K:W.Frag) (mg:Str->Option Value) (base:Heap) (A:Around) (outer:List Env) (s:Shared) (H:Hp):Prop where
 frames:A.frames=some outer
 mod:Mod K mg base
 bs:∀ b o,base.get? b=some o->s.heap.get? b=some o/\H b=none
 bsz:base.objs.size<=s.heap.objs.size
 funs:s.heap.FunFrames base outer
 frf:∀ b∈frs outer,H b=none
 hok:HOk P w H s.heap
 bare:aq1 s.gens
def CE (outer:List Env)(P:Program)(w:World)(H:Hp)(s:Shared)(Q:VK)(u:Value)(s':Shared):Prop:=
 ∃ v H',s'.os=s.os/\aq1 s'.gens/\Un (frs outer) [] H H' s.heap s'.heap/\HOk P w H' s'.heap/\RelV v u/\Q v H'
def CR (CX:CXT)(outer:List Env)(P:Program)(w:World)(H:Hp)(s:Shared)(Q:VK)(E:XK)(r:Result)(s':Shared):Prop:=
 match r with
 | .ok (.ret u)=>CE outer P w H s Q u s'
 | .ok _=>False
 | .error e=>CX outer H s E e s'
structure p0 (P:Program) (w:World) (K:W.Frag) (mg:Str->Option Value) (base:Heap) (CX:CXT) (k:Nat) (f:Addr) (fd:FuncData) (ps:List Str) (sp:Sp):Prop where
 len:∀ vs H Q E,sp vs H Q E->vs.length=ps.length
 run:∀ (A:Around) (outer:List Env) (s:Shared) (H:Hp) (args:Args) (us:List Value) (vs:List V) (Q:VK) (E:XK),Y7 k A->bO6 P w K mg base A outer s H->bl4 s fd args (ps.zip us)->B7 vs us->sp vs H Q E ->
  aG5 (t7 P w) A (.call (.ref f) args) (CR CX outer P w H s Q E) s
theorem p0.mono {K:W.Frag}{mg:Str->Option Value}{base:Heap}{CX:CXT}{k:Nat}{sp:Sp}(F:p0 P w K mg base CX j f fd ps sp)(h:j<=k) :
  p0 P w K mg base CX k f fd ps sp:=⟨F.len,fun A outer s H args us vs Q E hr=>F.run A outer s H args us vs Q E (hr.mono h)⟩
theorem p0.imp {K:W.Frag}{mg:Str->Option Value}{base:Heap}{CX:CXT}{k:Nat}{sp sp':Sp}(F:p0 P w K mg base CX k f fd ps sp)
  (h:∀ vs H Q E,sp' vs H Q E->sp vs H Q E):p0 P w K mg base CX k f fd ps sp':=
 ⟨fun vs H Q E q=>F.len vs H Q E (h _ _ _ _ q),fun A outer s H args us vs Q E hr he hb hv hs=>F.run A outer s H args us vs Q E hr he hb hv (h _ _ _ _ hs)⟩
section
variable {s':Shared}
theorem Inv.env0 (I:Inv X pins σ H s):bO6 X.prog X.w X.K X.mg X.base X.A X.stack s H:=
 ⟨I.ok.frames,I.ok.mod,I.bs,t9 I.ok.bsz I.sz,I.stack,I.stkFree,I.hok,I.bare⟩
theorem Inv.after {Q:VK}(I:Inv X pins σ H s)(h:CE X.stack X.prog X.w H s Q u s'):EP X pins σ Q u s':=by
 obtain⟨v,H',os,bare,un,hok,r,q⟩:=h
 obtain⟨hh,g,d,t,os'⟩:=s'
 obtain rfl:os'=s.os:=os
 exact⟨v,H',I.call (h':=hh) (g':=g) (d':=d) (t':=t) (ch:=[]) un hok bare (fun b z=>absurd z (by simp)),r,q⟩
end
def bQ2 (sp:Sp)(dvs:List V)(E:XK)(t:TA):TE:=fun σ H Q=>t σ H fun vs H1=>sp (vs++dvs) H1 Q E
def Binds (K:W.Frag)(fd:FuncData)(ps:List Str)(ds:List Value):Prop:=
 ∀ (s:Shared) (us:List Value),K.In s.heap->(us++ds).length=ps.length->bl4 s fd ⟨us,[]⟩ (ps.zip (us++ds))
theorem Binds.all {K:W.Frag}(h:∀ us:List Value,us.length=ps.length->bf6 fd ⟨us,[]⟩=pure (ps.zip us)):Binds K fd ps []:=fun s us _ hl=>by
 rw[G9]at hl ⊢
 exact .of_eq (h us hl)
def ap6 (CX:CXT)(X:Cx)(E:XK):Prop:=∀ (pins:List (Addr × Obj)) (σ:St) (H:Hp) (s:Shared) (e:Value) (s':Shared),Inv X pins σ H s->CX X.stack H s E e s'->X.xe e s'
section
variable {CX:CXT} {k:Nat} {sp:Sp} {dvs:List V} {ds:List Value} {E:XK} {m:Str} {p apos:Pos} {t:TA}
theorem bX1 {Q:VK}{vs:List V}(F:p0 X.prog X.w X.K X.mg X.base CX k f fd ps sp)(hr:Y7 k X.A)(hb:Binds X.K fd ps ds)(hd:B7 dvs ds)(hx:ap6 CX X E)
  (I:Inv X pins σ H s)(r:B7 vs us)(h:sp (vs++dvs) H Q E):v7 (t7 X.prog X.w) X.A (call (.ref f) us) (EP X pins σ Q) X.xe s:=by
 have r2:B7 (vs++dvs) (us++ds):=r.append hd
 have hl:(us++ds).length=ps.length:=by rw[<- r2.length];exact F.len _ _ _ _ h
 refine bE5 (ak5 (F.run X.A X.stack s H ⟨us,[]⟩ (us++ds) (vs++dvs) Q E hr I.env0 (hb s us I.kIn hl) r2 h) fun r s' hq=>?_)
 cases r with
 | error e=>exact hx pins σ H s e s' I hq
 | ok fl =>
  cases fl with
  | ret u=>exact I.after hq
  | next=>exact False.elim hq
  | brk=>exact False.elim hq
  | cont=>exact False.elim hq
theorem al4 (F:p0 X.prog X.w X.K X.mg X.base CX k f fd ps sp)(hr:Y7 k X.A)(hg:Gl X x)(hm:X.mg x=some (.ref f))(hk:W5 X.K (.ref f)=true)(hb:Binds X.K fd ps ds)(hd:B7 dvs ds)(hx:ap6 CX X E)
  (ha:PA X (e::es) t)(hdb:(x == ("__debug__":Str))=false:=by decide)(he:B0 (e::es) X.env=(false,eval e X.env)::B0 es X.env:=by rfl)(hpl:(Z1 pos (B0 es X.env)).any (·.1)=false:=by rfl) :
  PE X (.Call (.Name x p) (e::es) [] pos) (bQ2 sp dvs E t):=by
 intro pins s σ H Q I h
 refine R3 (ar9 I hg hm ?_ hdb)
 refine PySem.W.callWith_K (h₀:=X.base) I.ok.mod.kin hk (thn (ha pos pins s σ H _ I h) fun us s1 ⟨vs,H1,I1,r,q⟩=>⟨I1.kIn,?_⟩) he hpl
 exact bX1 F hr hb hd hx I1 r q
structure Mk (K:W.Frag) (C f:Addr):Prop where
 makes:PySem.W.makesIn K C=true
 init:PySem.W.findIn K (.ref C) "__init__"=some (some (.ref f))
 fn:PySem.W.isFn K (.ref f)=true
 kp:W5 K (.ref C)=true
end
def PK (X:Cx)(kws:List aG6)(t:TA):Prop:=
 ∀ (pos:Pos) (pins:List (Addr × Obj)) (s:Shared) (σ:St) (H:Hp) (Q:List V->Hp->Prop),Inv X pins σ H s->t σ H Q->v7 (t7 X.prog X.w) X.A (evalAll ((bF8 pos (aG7 kws X.env)).map (·.2))) (AP X pins σ Q) X.xe s
section
variable {CX:CXT} {k:Nat} {ks:List Str} {sp:Sp} {E:XK} {m:Str} {p apos kpos:Pos} {kws:List aG6} {t tk:TA} {nm:Option Str}
theorem bx3:PK X [] bH6:=fun _ _ _ _ H Q I h=>wpAny_evalAll_nil ⟨[],H,I,.nil,h⟩
theorem bh4 (ha:PE X e te)(hr:PK X kws t):PK X (⟨nm,e,kpos⟩::kws) (bg3 te t):=by
 intro pos pins s σ H Q I h
 show v7 _ _ (evalAll ((do let v <- eval e X.env;standAt pos;pure v)::(bF8 pos (aG7 kws X.env)).map (·.2))) _ _ s
 refine wpAny_evalAll_cons (a8 (thn (ha pins s σ H _ I h) fun u s1 ⟨x,H1,I1,r1,q1⟩=>a8 (W9 (j5 ?_))))
 exact thn (hr pos pins s1 σ H1 _ I1 q1) fun us s2 ⟨xs,H2,I2,r2,q2⟩=>⟨x::xs,H2,I2,.cons r1 r2,q2⟩
structure cr5 (K:W.Frag) (fd:FuncData) (ps ks:List Str) (g:List Value->List Value->List Value) (gV:List V->List V->List V):Prop where
 to:∀ (s:Shared) (us ws:List Value),K.In s.heap->(g us ws).length=ps.length->bl4 s fd ⟨us,ks.zip ws⟩ (ps.zip (g us ws))
 rel:∀ {vs:List V} {us:List Value} {zs:List V} {ws:List Value},B7 vs us->B7 zs ws->B7 (gV vs zs) (g us ws)
variable {g:List Value->List Value->List Value}
end
structure p9 (N P:List Str) (sc:Scope):Prop where
 kind:sc.kind=.function
 co:sc.isCoroutine=false
 gen:sc.isGenerator=false
 nd:N.Nodup
 pre:N.take P.length=P
 par:∀ x∈P,sc.names.lookup x=some .local\/sc.names.lookup x=some .cell
 nofree:∀ y∈sc.names,y.2≠.free
theorem p9.mk' {P:List Str}{sc:Scope}(a:sc.kind=.function:=by rfl)(b:sc.isCoroutine=false:=by rfl)(c:sc.isGenerator=false:=by rfl)(d:N.Nodup:=by decide +kernel)(e:N.take P.length=P:=by rfl)(f:∀ x∈P,sc.names.lookup x=some .local\/sc.names.lookup x=some .cell:=by decide +kernel)(g:∀ y∈sc.names,y.2≠.free:=by decide +kernel):p9 N P sc:=⟨a,b,c,d,e,f,g⟩
theorem aK2 {kindOf:Str->Option aL2}:∀ {binds:List (Str × Value)} {m:Str->Option Value},(∀ v,(x,v)∉binds)->bindL kindOf binds m x=m x
 | [],_,_=>rfl
 | (n,v)::r,m,h=>by
  unfold bindL
  rw[aK2 fun w hw=>h w (b8 _ hw)]
  split
  ·have:x≠n:=by rintro rfl;exact h v c7
   simp[this]
  ·rfl
theorem aK4 {kindOf:Str->Option aL2}:∀ {binds:List (Str × Value)} {m:Str->Option Value},(∀ v,(x,v)∉binds)->bindC kindOf binds m x=m x
 | [],_,_=>rfl
 | (n,v)::r,m,h=>by
  unfold bindC
  rw[aK4 fun w hw=>h w (b8 _ hw)]
  split
  ·rfl
  ·have:x≠n:=by rintro rfl;exact h v c7
   simp[this]
theorem aK3 {kindOf:Str->Option aL2}:∀ {P:List Str} {vs:List Value} {i:Nat} {m:Str->Option Value},P.Nodup->P[i]?=some x->vs[i]?=some v->kindOf x=some .local ->
  bindL kindOf (P.zip vs) m x=some v
 | [],_,_,_,_,h,_,_=>by simp at h
 | _::_,[],_,_,_,_,h,_=>by simp at h
 | p::P,w::vs,0,m,nd,h1,h2,hk=>by
  simp at h1 h2;subst h1;subst h2
  show bindL kindOf ((p,w)::P.zip vs) m p=_
  unfold bindL
  rw[aK2 fun v hv=>(J0.mp nd).1 (as6 hv).1,if_pos hk]
  simp
 | p::P,w::vs,i+1,m,nd,h1,h2,hk=>by
  show bindL kindOf ((p,w)::P.zip vs) m x=_
  unfold bindL
  exact aK3 (i:=i) (J0.mp nd).2 (by simpa using h1) (by simpa using h2) hk
theorem aK5 {kindOf:Str->Option aL2}:∀ {P:List Str} {vs:List Value} {i:Nat} {m:Str->Option Value},P.Nodup->P[i]?=some x->vs[i]?=some v->kindOf x≠some .local ->
  bindC kindOf (P.zip vs) m x=some v
 | [],_,_,_,_,h,_,_=>by simp at h
 | _::_,[],_,_,_,_,h,_=>by simp at h
 | p::P,w::vs,0,m,nd,h1,h2,hk=>by
  simp at h1 h2;subst h1;subst h2
  show bindC kindOf ((p,w)::P.zip vs) m p=_
  unfold bindC
  rw[aK4 fun v hv=>(J0.mp nd).1 (as6 hv).1,if_neg hk]
  simp
 | p::P,w::vs,i+1,m,nd,h1,h2,hk=>by
  show bindC kindOf ((p,w)::P.zip vs) m x=_
  unfold bindC
  exact aK5 (i:=i) (J0.mp nd).2 (by simpa using h1) (by simpa using h2) hk
def start (N:List Str)(vs:List V):St:=vs.map some++C5 (N.length - vs.length) none
def X6 (CX:CXT)(P:Program)(w:World)(K:W.Frag)(mg:Str->Option Value)(base:Heap)(N:List Str)(qual:Str)(scope:Scope)(f:Addr)(cd:Value)(A:Around)(outer:List Env)(s:Shared)(H:Hp)(E:XK):Cx where
 prog:=P
 w:=w
 K:=K
 mg:=mg
 base:=base
 A:=A.deeper (F6 qual scope s.heap.objs.size f cd)
 N:=N
 s₀:=s
 H₀:=H
 env:=F6 qual scope s.heap.objs.size f cd
 outer:=outer
 stack:=F6 qual scope s.heap.objs.size f cd::outer
 ex:=[]
 calm:=true
 fn:=fun _=>true
 pn:=[]
 xe:=fun e s'=>v7 (t7 P w) (A.deeper (F6 qual scope s.heap.objs.size f cd)) (leaving (F6 qual scope s.heap.objs.size f cd) e) (fun _ s''=>CX outer H s E e s'') (fun e' s''=>CX outer H s E e' s'') s'
theorem aX6 {sc:Scope}(h:sc.names.lookup x=some .cell):∃ c,(cellsFrom n sc.names []).lookup x=some c:=by
 have q:=PySem.W.cellsFrom_some sc.names n [] (.inl h)
 exact B8.mp q
theorem bp8 {CX:CXT}{K:W.Frag}{mg:Str->Option Value}{base:Heap}{cd:Value}{s1:Shared}{E:XK}{vs:List V}
  (S:p9 N ps scope)(hd:A.handled=none)(e0:bO6 P w K mg base A outer s H)(hl:vs.length=ps.length)(r:B7 vs us)
  (x:InCallC s s.heap.objs.size (bindL (F6 qual scope s.heap.objs.size f cd).kindOf (ps.zip us) fun _=>none) (cellsFrom (s.heap.objs.size+1) scope.names []) (bindC (F6 qual scope s.heap.objs.size f cd).kindOf (ps.zip us) fun _=>none) s1) :
  Inv (X6 CX P w K mg base N qual scope f cd A outer s H E) [] (start N vs) H s1:=by
 have hpl:ps.length<=N.length:=by have:=congrArg ad6 S.pre;rw[k8]at this;omega
 obtain⟨h1,tk,rfl,hk⟩:=x.done
 have noA:∀ b:Addr,b∉(X6 CX P w K mg base N qual scope f cd A outer s H E).ex:=fun b z=>absurd (show b∈([]:List Addr) from z) (by simp)
 refine⟨⟨e0.mod,S.kind,rfl,rfl,c6 _,fun y z c h1 h2=>?_,fun y hy=>?_,fun y c _ h=>?_,fun _=>hd,Around.frames_deeper e0.frames,.inr ⟨rfl,rfl⟩,fun b z=>absurd z (noA b),e0.bs,e0.bsz,fun b _ _=>noA b,fun b z=>absurd z (noA b),e0.funs,e0.frf⟩,
  rfl,e0.bare,Un.kept hk,⟨_,x.toInCall.ns,fun i y v h1 h2 h3=>?_⟩,fun y c h=>⟨_,x.cell y c h⟩,e0.hok.fresh (c6 _),fun y c h=>?_,fun p hp=>absurd (show p∈([]:List (Addr × Obj)) from hp) (by simp),e0.hok.kept hk,?_⟩
 ·exact name_of_addr x.apart (PySem.mem_of_lookup h1) (PySem.mem_of_lookup h2)
 ·have hy:scope.names.lookup y=some .cell\/scope.names.lookup y=some .free:=hy
  rcases hy with hy | hy
  ·exact aX6 hy
  ·exact absurd rfl (S.nofree _ (PySem.mem_of_lookup hy))
 ·exact at1 (x.above y c (PySem.mem_of_lookup h))
 ·have hi:i<vs.length:=by
   unfold start at h2
   by_cases hi:i<vs.length
   ·exact hi
   ·rw[F9 (by simpa using hi)]at h2
    rw[List.getElem?_replicate]at h2
    split at h2<;>cases h2
  have ha:vs[i]?=some v:=by
   unfold start at h2
   rw[ah5 (by simpa using hi),o6]at h2
   cases e:vs[i]? with
   | none=>rw[e]at h2;cases h2
   | some a=>rw[e]at h2;cases h2;rfl
  obtain⟨u,hu,rv⟩:=r.get ha
  have hp:ps[i]?=some y:=by
   rw[<- S.pre,O3 (by omega)];exact h1
  have ndP:ps.Nodup:=by rw[<- S.pre];exact S.nd.sublist (E1 _ _)
  refine⟨u,rv,?_⟩
  rcases S.par y (b9 hp) with k | k
  ·exact .inl ⟨k,aK3 ndP hp hu k⟩
  ·obtain⟨c,e⟩:=aX6 (n:=s.heap.objs.size+1) k
   refine .inr ⟨.inl k,c,e,?_⟩
   have q:=x.cell y c e
   rw[aK5 ndP hp hu (by show scope.names.lookup y≠_;rw[k];decide)]at q
   exact q
 ·exact e0.hok.fresh (at1 (x.above y c (PySem.mem_of_lookup h)))
 ·unfold start
  show _=N.length
  rw[j2,a5,List.length_replicate]
  omega
theorem bB6 {CX:CXT} {K:W.Frag} {mg:Str->Option Value} {base:Heap} {k:Nat} {name:Str} {body:List Stmt} {dV kV doc pm cdv ct oc:Value} {an od:Option Addr}
  {osl:Array (Option Value)} {sp:Sp} (lk:K.lookup f=some ⟨oc,od,.func (U6 name qual params body scope dV kV doc pm an cdv ct),osl⟩) (hcd:aP7 K cdv qual=true) (S:p9 N ps scope)
  (len:∀ vs H Q E,sp vs H Q E->vs.length=ps.length)
  (hbody : ∀ (A : Around) (outer : List Env) (s : Shared) (H : Hp) (vs : List V) (Q : VK) (E : XK), Y7 k (A.deeper (F6 qual scope s.heap.objs.size f cdv)) -> sp vs H Q E ->
   ∃ t,PSs (X6 CX P w K mg base N qual scope f cdv A outer s H E) body t/\t { nx:=fun _ H'=>Q .non H',rt:=Q } (start N vs) H) :
  p0 P w K mg base CX (k+1) f (U6 name qual params body scope dV kV doc pm an cdv ct) ps sp:=by
 refine⟨len,fun A outer s H args us vs Q E hr e0 hb r hsp=>?_⟩
 have hl:=len _ _ _ _ hsp
 have KX:K.In s.heap:=e0.mod.kin.keeps fun b o e=>(e0.bs b o e).1
 have lim:s.heap.NoLimit:=e0.mod.nolimit.keeps fun b o e=>(e0.bs b o e).1
 have hkind:∀ y∈ps.zip us,scope.names.lookup y.1=some .local\/(scope.names.lookup y.1=some .cell/\((cellsFrom (s.heap.objs.size+1) scope.names []).lookup y.1).isSome=true):=fun⟨n,v⟩ hy=>by
  rcases S.par n (as6 hy).1 with q | q
  ·exact .inl q
  ·exact .inr ⟨q,PySem.W.cellsFrom_some _ _ _ (.inl q)⟩
 refine codeAny_call_function hr.depth (KX _ _ lk) rfl S.co S.gen rfl (PySem.W.codeRec_of KX hcd) (hb _ _ _ _ ?_)
 refine wpAny_newFunctionEnv_cells S.kind hkind fun env he s1 x=>?_
 subst he
 refine⟨lim.keeps x.toInCall.keep,codeAny_func ?_⟩
 obtain⟨t,ht,hq⟩:=hbody A outer s H vs Q E (hr.deeper _) hsp
 have I:Inv (X6 CX P w K mg base N qual scope f cdv A outer s H E) [] (start N vs) H s1:=bp8 S hr.hd e0 hl r x
 refine C6 (ht [] s1 (start N vs) H _ I hq) (fun fl s' hs=>?_) fun e s' hs=>hs
 have fin:∀ {σ':St} {H':Hp} {v:V} {u:Value},Inv (X6 CX P w K mg base N qual scope f cdv A outer s H E) [] σ' H' s'->RelV v u->Q v H'->CE outer P w H s Q u s':=
  fun {σ' H' v u} J rv q=>⟨v,H',J.os,J.bare,J.base,J.hok,rv,q⟩
 cases fl with
 | ret u =>
  obtain⟨v,σ',H',J,rv,q⟩:=hs
  exact fin J rv q
 | next =>
  obtain⟨σ',H',J,q⟩:=hs
  exact fin (v:=V.non) (u:=Value.none) J rfl q
 | brk =>
  obtain⟨_,_,_,q⟩:=hs
  exact False.elim q
 | cont =>
  obtain⟨_,_,_,q⟩:=hs
  exact False.elim q
section
variable {p:Pos} {t:TA} {id T:String} {r:List V->Hp->VK->Prop}
def tCB (r:List V->Hp->VK->Prop)(t:TA):TE:=fun σ H Q=>t σ H fun vs H1=>r vs H1 Q
theorem n9 (hc:S7 X (.builtin id) r)(hg:Gl X x)(hm:X.mg x=none)(hv:N1 x=some (.builtin id))(ha:PA X (e::es) t)(hn:x≠"__name__":=by decide)(hdb:(x == ("__debug__":Str))=false:=by decide)
  (he:B0 (e::es) X.env=(false,eval e X.env)::B0 es X.env:=by rfl)(hpl:(Z1 pos (B0 es X.env)).any (·.1)=false:=by rfl):PE X (.Call (.Name x p) (e::es) [] pos) (tCB r t):=by
 intro pins s σ H Q I h
 refine R3 (ab8 I hg hm hv ?_ hn hdb)
 exact PyProof.Rows.callWith_builtin1 (thn (ha pos pins s σ H _ I h) fun us s1 ⟨vs,H1,I1,r1,q1⟩=>hc pins s1 σ H1 vs us Q I1 r1 q1) he hpl
theorem F3 (hc:S7 X (.type T) r)(hg:Gl X x)(hm:X.mg x=none)(hv:N1 x=some (.type T))(ha:PA X (e::es) t)(hn:x≠"__name__":=by decide)(hdb:(x == ("__debug__":Str))=false:=by decide)
  (he:B0 (e::es) X.env=(false,eval e X.env)::B0 es X.env:=by rfl)(hpl:(Z1 pos (B0 es X.env)).any (·.1)=false:=by rfl):PE X (.Call (.Name x p) (e::es) [] pos) (tCB r t):=by
 intro pins s σ H Q I h
 refine R3 (ab8 I hg hm hv ?_ hn hdb)
 exact PyProof.Rows.callWith_type1 (thn (ha pos pins s σ H _ I h) fun us s1 ⟨vs,H1,I1,r1,q1⟩=>hc pins s1 σ H1 vs us Q I1 r1 q1) he hpl
end
end L2
namespace HT
open PySem PyProof.Rows
def lexLt:List Int->List Int->Bool
 | [],[]=>false
 | [],_::_=>true
 | _::_,[]=>false
 | x::xs,y::ys=>if x=y then lexLt xs ys else decide (x<y)
theorem af5 (x y:Int)(xs ys:List Int):lexLt (x::xs) (y::ys)=if x=y then lexLt xs ys else decide (x<y):=rfl
theorem aH6:lexLt [] []=false:=rfl
theorem aD2 (y:Int)(ys:List Int):lexLt [] (y::ys)=true:=rfl
theorem aD3 (x:Int)(xs:List Int):lexLt (x::xs) []=false:=rfl
theorem bC0 (A:Around)(s:Shared)(a:Int)(t:Tok)(c:Int)(u:Tok):∃ e,SeqAt.EqAt A s (.int a t) (.int c u) e/\(e=true↔a=c):=
 ⟨(a == c),SeqAt.EqAt.int_int a t c u,by simp⟩
theorem bw9 (A:Around)(s:Shared)(a:Int)(t:Tok)(c:Int)(u:Tok)(prog:Program)(w:World)(E:Value->Shared->Prop)(Q:Value->Shared->Prop)(h:Q (.bool (decide (a<c))) s) :
  v7 (t7 prog w) A (richCompare .Lt (.int a t) (.int c u)) Q E s:=
 (PyProof.Rows.lt_int h:v7 (t7 prog w) A (C4 .Lt (.int a t) (.int c u)) Q E s)
section
open PySem.SeqAt
open PySem.AutoSeq1 (wpAny_loadPart')
open PySem.MeetsSeq PySem.MeetsSeq2 PySem.MeetsSeq3
theorem aG9 (l b:Addr) (items items2:Array Value) (n n2:Nat) (dd dd2:Option Addr) (sl sl2:Array (Option Value)) (ns ms:List Int) (hi:G6 items.toList ns) (hj:G6 items2.toList ms) :
  Meets (Builtin.«tuple.__lt__» ⟨[.ref l,.ref b],[]⟩)
   (fun _ R s => s.heap.get? l = some { cls := .type "tuple", dict := dd, data := .seq items n, slots := sl } /\ s.heap.get? b = some { cls := .type "tuple", dict := dd2, data := .seq items2 n2, slots := sl2 } /\
    R (.ok (.ret (.bool (lexLt ns ms)))) s):=
 .of_wp fun prog w A R s h=>by
  obtain⟨hp,g,d,tk,os⟩:=s;obtain⟨hl,hb,h⟩:=h
  have f2:=AutoSeq1.sub_tuple_tuple
  have z1:items.size=ns.length:=by rw[<- hi.length];simp
  have z2:items2.size=ms.length:=by rw[<- hj.length];simp
  wp_walk using wpAny_loadPart' hl,wpAny_loadPart' hb,as9 _ (fun rest b s'=>b.1=none/\s'=⟨hp,g,d,tk,os⟩/\∃ (vs ws:List Value) (ns' ms':List Int),rest=vs.zip ws /\
   G6 vs ns'/\G6 ws ms'/\ns'.length+items2.size=ms'.length+items.size/\R (.ok (.ret (.bool (lexLt ns' ms')))) ⟨hp,g,d,tk,os⟩) _
  case turn =>
   rintro⟨y,x⟩ rest b s' ⟨hb',rfl,vs,ws,ns',ms',hz,hvi,hwi,hlen,hR⟩
   cases hvi with
   | nil=>rw[List.zip_nil_left]at hz;cases hz
   | cons a t hvi' =>
    cases hwi with
    | nil=>rw[List.zip_nil_right]at hz;cases hz
    | cons c u hwi' =>
     rw[W0]at hz
     injection hz with hyx hrest
     injection hyx with hy hx
     subst hy hx
     rw[af5]at hR
     simp only[i9]at hlen
     obtain⟨e,he,hiff⟩:=bC0 A.in1 ⟨hp,g,d,tk,os⟩ a t c u
     refine a8 (he prog w _ _ ?_)
     cases e with
     | true =>
      rw[if_pos (hiff.mp rfl)]at hR
      wp_walk
      exact⟨rfl,rfl,_,_,_,_,hrest,hvi',hwi',by omega,hR⟩
     | false =>
      rw[if_neg (fun q=>absurd (hiff.mpr q) i6)]at hR
      have hri:=bw9 A.in1 ⟨hp,g,d,tk,os⟩ a t c u prog w
      wp_walk using hri
      exact⟨_,rfl,by simpa using hR⟩
  case fin =>
   rintro⟨b1,b2⟩ s' ⟨hb',rfl,vs,ws,ns',ms',hz,hvi,hwi,hlen,hR⟩
   simp only at hb'
   subst hb'
   have hv:lexLt ns' ms'=decide (items.size<items2.size):=by
    cases hvi with
    | nil =>
     cases hwi with
     | nil =>
      simp only[ad7]at hlen
      rw[aH6]
      exact(decide_eq_false (by omega)).symm
     | cons c u hw =>
      simp only[ad7,i9]at hlen
      rw[aD2]
      exact(decide_eq_true (by omega)).symm
    | cons a t hv =>
     cases hwi with
     | nil =>
      simp only[ad7,i9]at hlen
      rw[aD3]
      exact(decide_eq_false (by omega)).symm
     | cons c u hw =>
      rw[W0]at hz
      cases hz
   rw[hv]at hR
   wp_walk
   exact⟨_,rfl,by simpa [Builtin.Tuple.tupleCompareSizes] using hR⟩
  case h =>
   exact⟨rfl,rfl,items.toList,items2.toList,ns,ms,rfl,hi,hj,by omega,h⟩
end
theorem bc8 {b:Addr}{items items2:Array Value}{ms:List Int}(hl:IsTup s.heap l items)(hb:IsTup s.heap b items2)(hi:G6 items.toList ns)(hj:G6 items2.toList ms)
  (hu:A.units<ao1)(h:Q (.bool (lexLt ns ms)) s):v7 (t7 prog w) A (C4 .Lt (.ref l) (.ref b)) Q E s:=by
 obtain⟨⟨cls,dd,data,sl⟩,ho,hc,n,hd⟩:=id hl
 obtain⟨⟨cls2,dd2,data2,sl2⟩,ho2,hc2,n2,hd2⟩:=id hb
 simp only at hc hd hc2 hd2
 subst hc hd hc2 hd2
 exact richCompare_meets_room (op:=.Lt) ⟨_,ho,rfl⟩ ⟨_,ho2,rfl⟩ PySem.F.slot_tuple_lt PySem.F.entry_tuple_lt (PySem.F.args_tuple_lt_2 _ _) (aG9 l b items items2 n n2 dd dd2 sl sl2 ns ms hi hj)
  ⟨ho,ho2,show Value.bool (lexLt ns ms)≠Value.notImplemented/\Q (.bool (lexLt ns ms)) s from ⟨(fun x=>nomatch x),h⟩⟩ hu
theorem bO0 {t b:Addr}{ws:List Value}(ht:IsTup s.heap t vs.toArray)(hb:IsTup s.heap b ws.toArray)(hv:vs≠[])
  (h1:ws=[]->Q (.ref t) s)(h2:ws≠[]->Q (.ref s.heap.objs.size) { s with heap:=s.heap.push { cls:=.type "tuple",data:=.seq (vs++ws).toArray } })
  (hsz:vs.length+ws.length<=d8):v7 (t7 prog w) A (Z8 .Add (.ref t) (.ref b)) Q E s:=by
 obtain⟨⟨cls,dd,data,sl⟩,ho,hc,n,hd⟩:=id ht
 obtain⟨⟨cls2,dd2,data2,sl2⟩,ho2,hc2,n2,hd2⟩:=id hb
 simp only at hc hd hc2 hd2
 subst hc hd hc2 hd2
 have e:vs.toArray++ws.toArray=(vs++ws).toArray:=by simp
 by_cases hw:ws=[]
 ·exact concat_meets ⟨_,ho,rfl⟩ ⟨_,ho2,rfl⟩ noFill_tuple_add seq_tuple_add PySem.F.slot_tuple_add PySem.F.entry_tuple_add (PySem.F.args_tuple_add_2 _ _)
   (tuple_addW1 t b vs.toArray ws.toArray n n2 dd dd2 sl sl2 (by simpa using hv) (by simp[hw])) ⟨ho,ho2,h1 hw⟩
 ·refine concat_meets ⟨_,ho,rfl⟩ ⟨_,ho2,rfl⟩ noFill_tuple_add seq_tuple_add PySem.F.slot_tuple_add PySem.F.entry_tuple_add (PySem.F.args_tuple_add_2 _ _)
   (tuple_addW2 t b vs.toArray ws.toArray n n2 dd dd2 sl sl2 (by simpa using hv) (by simpa using hw) (by rw[d9,d9];exact hsz)) ⟨ho,ho2,?_⟩
  rw[e]
  exact h2 hw
def sIx (n d:Nat):Option Int->Nat
 | none=>d
 | some v=>if v<0 then (v+(n:Int)).toNat else min v.toNat n
theorem aS7 (n d:Nat):sIx n d none=d:=rfl
theorem bh0 (n d k:Nat):sIx n d (some (k:Int))=min k n:=by
 show (if (k:Int)<0 then ((k:Int)+(n:Int)).toNat else min (k:Int).toNat n)=min k n
 rw[if_neg (by omega),j6]
end HT
namespace L2
open PySem PySem.Spec PyProof.Rows
abbrev TO:=St->Hp->(Option Int->Hp->Prop)->Prop
def PO (X:Cx)(e:Option Expr)(t:TO):Prop:=
 ∀ (pins:List (Addr × Obj)) (s:Shared) (σ:St) (H:Hp) (Q:Option Int->Hp->Prop),Inv X pins σ H s->t σ H Q ->
  v7 (t7 X.prog X.w) X.A (evalPart e X.env) (fun u s'=>∃ o H',Inv X pins σ H' s'/\IsPart u o/\Q o H') X.xe s
def bH5:TO:=fun _ H Q=>Q none H
def ch0 (t:TE):TO:=fun σ H Q=>t σ H fun x H1=>∃ i,x=.int i/\Q (some i) H1
theorem intsAre_of:∀ {us:List Value},B7 (ns.map V.int) us->G6 us ns:=by
 induction ns with
 | nil=>intro us r;rw[List.map_nil]at r;cases r;exact .nil
 | cons n ns ih =>
  intro us r
  rw[n6]at r
  cases r with
  | cons r1 r2 =>
   obtain⟨t,e⟩:=r1
   subst e
   exact .cons n t (ih r2)
section
variable {lo hi:Option Expr} {tl th:TO} {p2:Pos}
theorem U2:PO X none bH5:=by
 intro pins s σ H Q I h
 rw[evalPart_none]
 exact j5 ⟨none,H,I,.none,h⟩
theorem Q3 (h:PE X e te):PO X (some e) (ch0 te):=by
 intro pins s σ H Q I hw
 rw[evalPart_some]
 refine thn (h pins s σ H _ I hw) fun u s1 ⟨x,H1,I1,r1,q1⟩=>?_
 obtain⟨i,rfl,q⟩:=q1
 obtain⟨t,rfl⟩:=r1
 exact⟨some i,H1,I1,.int i t,q⟩
def SlR (X:Cx)(r:V->Option Int->Option Int->Hp->VK->Prop):Prop:=
 ∀ (pins:List (Addr × Obj)) (s:Shared) (σ:St) (H:Hp) (x:V) (v vl vu:Value) (lo hi:Option Int) (sl:Addr) (Q:VK),Inv X pins σ H s->RelV x v->s.heap.IsSliceOf sl vl vu .none->IsPart vl lo->IsPart vu hi->r x lo hi H Q ->
  ∃ T id,typeLookup (.type T) "__getitem__"=pure (some (.builtin id))/\s.TypeIs v T/\v7 (t7 X.prog X.w) X.A (cf8 v (.ref sl)) (EP X pins σ Q) X.xe s
def tSl (r:V->Option Int->Option Int->Hp->VK->Prop)(te:TE)(tl th:TO):TE:=fun σ H Q=>te σ H fun x H1=>tl σ H1 fun l H2=>th σ H2 fun u H3=>r x l u H3 Q
theorem N8 {r:V->Option Int->Option Int->Hp->VK->Prop}(hr:SlR X r)(he:PE X e te)(hl:PO X lo tl)(hu:PO X hi th):PE X (.Subscript e (.Slice lo hi none p2) pos) (tSl r te tl th):=by
 intro pins s σ H Q I h
 refine Subscript_ (thn (he pins s σ H _ I h) fun v s1 ⟨x,H1,I1,r1,q1⟩=>?_)
 refine wpAny_Slice (thn (hl pins s1 σ H1 _ I1 q1) fun vl s2 ⟨l,H2,I2,pl,q2⟩=>thn (hu pins s2 σ H2 _ I2 q2) fun vu s3 ⟨u,H3,I3,pu,q3⟩=>?_)
 rw[evalPart_none]
 refine j5 ?_
 have I4:Inv X pins σ H3 { s3 with heap:=s3.heap.push { cls:=.type "slice",data:=.fields #[vl,vu,.none] } }:=I3.kept (t':=s3.toks) fun b ob q=>a7 _ q
 obtain⟨T,id,hT,ht,hg⟩:=hr pins { s3 with heap:=s3.heap.push { cls:=.type "slice",data:=.fields #[vl,vu,.none] } } σ H3 x v vl vu l u s3.heap.objs.size Q I4 r1 (Heap.IsSliceOf.new ..) pl pu q3
 show v7 (t7 X.prog X.w) X.A (subscriptTail e (.Slice lo hi none p2) v (.ref s3.heap.objs.size)) (EP X pins σ Q) X.xe { s3 with heap:=s3.heap.push { cls:=.type "slice",data:=.fields #[vl,vu,.none] } }
 exact tail_any (ops:=[.ref s3.heap.objs.size,v]) ht hT hg (by with_unfolding_all rfl)
def as1 (xs:List V)(lo hi:Option Int):List V:=(xs.drop (HT.sIx xs.length 0 lo)).take (HT.sIx xs.length xs.length hi - HT.sIx xs.length 0 lo)
theorem aX2 (xs:List V)(lo hi:Option Int):(as1 xs lo hi).length<=xs.length:=by
 unfold as1
 rw[k8,A1]
 omega
def cq1 (K:W.Frag):R2:=fun x y H Q=>∃ a b ns ms,x=.ref a/\y=.ref b/\SqT K H a (ns.map V.int)/\SqT K H b (ms.map V.int)/\Q (.bl (HT.lexLt ns ms)) H
theorem bY3 (hu:X.A.units<ao1):OpR X (C4 .Lt) (cq1 X.K):=by
 intro pins s σ H x y v u Q I rx ry h
 obtain⟨a,b,ns,ms,rfl,rfl,ha,hb,q⟩:=h
 cases rx
 cases ry
 obtain⟨its,r1,p1,_⟩:=I.tuple ha
 obtain⟨its2,r2,p2,_⟩:=I.tuple hb
 have i1:G6 its.toArray.toList ns:=intsAre_of r1
 have i2:G6 its2.toArray.toList ms:=intsAre_of r2
 exact HT.bc8 p1 p2 i1 i2 hu ⟨.bl (HT.lexLt ns ms),H,I,rfl,q⟩
def ck0 (K:W.Frag):R2:=fun x y H Q=>∃ a b xs ys,x=.ref a/\y=.ref b/\SqT K H a xs/\SqT K H b ys/\xs≠[]/\xs.length+ys.length<=d8 /\
 (ys=[]->Q (.ref a) H)/\(ys≠[]->∀ p,H p=none->Q (.ref p) (upd H p (.tup (xs++ys))))
theorem B7.nil_iff (r:B7 xs us):us=[]↔xs=[]:=by
 cases r with
 | nil=>simp
 | cons _ _=>simp
theorem bJ8:OpR X (Z8 .Add) (ck0 X.K):=by
 intro pins s σ H x y v u Q I rx ry h
 obtain⟨a,b,xs,ys,rfl,rfl,ha,hb,hx,hz,q1,q2⟩:=h
 cases rx
 cases ry
 obtain⟨its,r1,p1,_⟩:=I.tuple ha
 obtain⟨its2,r2,p2,_⟩:=I.tuple hb
 refine HT.bO0 p1 p2 (fun z=>hx (r1.nil_iff.mp z)) (fun z=>⟨.ref a,H,I,rfl,q1 (r2.nil_iff.mp z)⟩) (fun z=>?_) (by rw[<- r1.length,<- r2.length];exact hz)
 refine⟨.ref s.heap.objs.size,_,I.laid (t':=s.toks) (o:=.tup (xs++ys)) (fun b ob q=>a7 _ q) (c6 _) ?_,rfl,q2 (fun w=>z (r2.nil_iff.mpr w)) _ (I.hok.fresh (c6 _))⟩
 exact⟨by rw[j2];exact hz,_,r1.append r2,IsTup.new _ _⟩
end
def ixN (n:Nat)(i:Int):Option Nat:=if 0<=i then (if i<n then some i.toNat else none) else if -(n:Int)<=i then some (i+n).toNat else none
def atI {α:Type}(xs:List α)(i:Int):Option α:=(ixN xs.length i).bind fun j=>xs[j]?
theorem bi8 {i:Int}(h:ixN n i=some j):seqIndex? i n=some j/\j<n /\ -(n:Int)<=i/\i<n:=by
 unfold ixN at h
 by_cases h0:0<=i
 ·rw[if_pos h0]at h
  by_cases h1:i<n
  ·rw[if_pos h1]at h
   have e:i.toNat=j:=Option.some.inj h
   exact⟨by rw[bl5 h0 h1,e],by omega,by omega,h1⟩
  ·rw[if_neg h1]at h;cases h
 ·rw[if_neg h0]at h
  by_cases h1:-(n:Int)<=i
  ·rw[if_pos h1]at h
   have e:(i+n).toNat=j:=Option.some.inj h
   exact⟨by rw[aY8 (by omega) h1,e],by omega,h1,by omega⟩
  ·rw[if_neg h1]at h;cases h
theorem az7 {α:Type}{xs:List α}{i:Int}{v:α}(h:atI xs i=some v):∃ j,seqIndex? i xs.length=some j/\xs[j]?=some v/\j<xs.length /\ -(xs.length:Int)<=i/\i<xs.length:=by
 unfold atI at h
 cases e:ixN xs.length i with
 | none=>rw[e]at h;cases h
 | some j =>
  rw[e]at h
  obtain⟨h1,h2,h3,h4⟩:=bi8 e
  exact⟨j,h1,h,h2,h3,h4⟩
theorem p6 {α:Type}{xs:List α}{v:α}(h:xs[j]?=some v):atI xs (j:Int)=some v:=by
 have hj:j<xs.length:=(d5.mp h).1
 have e:ixN xs.length (j:Int)=some j:=by
  unfold ixN
  rw[if_pos (by omega),if_pos (by omega)];simp
 unfold atI;rw[e];exact h
def az9 (b:Expr):Prop:=∀ o i,cf9 b false o i=operate [o,i] (cf8 o i)
def IxR (X:Cx)(r:R2):Prop:=
 ∀ (value slice:Expr) (pins:List (Addr × Obj)) (s:Shared) (σ:St) (H:Hp) (x y:V) (v u:Value) (Q:VK),Inv X pins σ H s->RelV x v->RelV y u->r x y H Q ->
  cf9 slice false v u=operate [v,u] (cf8 v u)->v7 (t7 X.prog X.w) X.A (subscriptTail value slice v u) (EP X pins σ Q) X.xe s
def MtR (X:Cx)(id:String)(r:V->List V->Hp->VK->Prop):Prop:=
 ∀ (pins:List (Addr × Obj)) (s:Shared) (σ:St) (H:Hp) (x:V) (xs:List V) (v:Value) (us:List Value) (Q:VK),Inv X pins σ H s->RelV x v->B7 xs us->r x xs H Q ->
  v7 (t7 X.prog X.w) X.A (call (.builtin id) (v::us)) (EP X pins σ Q) X.xe s
section
variable {a b:Expr} {tb:TE}
theorem IxR.or {r r':R2}(h:IxR X r)(h':IxR X r'):IxR X (fun x y H Q=>r x y H Q\/r' x y H Q):=by
 intro value slice pins s σ H x y v u Q I rx ry q hs
 rcases q with q | q
 ·exact h value slice pins s σ H x y v u Q I rx ry q hs
 ·exact h' value slice pins s σ H x y v u Q I rx ry q hs
theorem B9 {r:R2}(hr:IxR X r)(ha:PE X a ta)(hb:PE X b tb)(hs:az9 b):PE X (.Subscript a b pos) (tOp r ta tb):=by
 intro pins s σ H Q I h
 exact Subscript_ (bO1 ha hb I h fun v u s2 x y H2 I2 rx ry q=>hr a b pins s2 σ H2 x y v u Q I2 rx ry q (hs _ _))
def bX4 (K:W.Frag):R2:=fun x y H Q=>∃ p xs i v,x=.ref p/\y=.int i/\SqL K H p xs/\atI xs i=some v/\Q v H
def bX3 (K:W.Frag):R2:=fun x y H Q=>∃ p xs i v,x=.ref p/\y=.int i/\SqT K H p xs/\atI xs i=some v/\Q v H
def cj7:R2:=fun x y H Q=>∃ z i c,x=.str z/\y=.int i/\z.length<=d8/\atI z.cps.toList i=some c/\Q (.str ⟨#[c]⟩) H
theorem C3:IxR X (bX4 X.K):=by
 intro value slice pins s σ H x y v u Q I rx ry h hs
 obtain⟨p,xs,i,z,rfl,rfl,hq,he,q⟩:=h
 cases rx
 obtain⟨t,rfl⟩:=ry
 obtain⟨its,r,pl,hz⟩:=I.list hq
 obtain⟨j,h1,h2,h3,h4,h5⟩:=az7 he
 obtain⟨w,ew,rw'⟩:=r.get h2
 have hl:=r.length
 have hn:=aj6
 have fin:EP X pins σ Q w s:=⟨z,H,I,rw',q⟩
 by_cases h0:0<=i
 ·have hj:i.toNat=j:=by
   rw[bl5 h0 h5]at h1
   exact Option.some.inj h1
  exact item_listR pl.isList h0 (by omega) (by rw[hj];simpa using ew) fin hs
 ·have hj:(i+(its.toArray.size:Int)).toNat=j:=by
   rw[aY8 (by omega) h4]at h1
   rw[d9,<- hl]
   exact Option.some.inj h1
  exact bP5 (x:=w) pl.isList.typeIs slot_list_getitem.lookup
   (bP6 (Q:=fun r s'=>r=w/\EP X pins σ Q r s') pl.isList (by omega) (by rw[d9]<;>omega) (by omega) (by rw[hj];simpa using ew) ⟨rfl,fin⟩) hs
theorem J8:IxR X (bX3 X.K):=by
 intro value slice pins s σ H x y v u Q I rx ry h hs
 obtain⟨p,xs,i,z,rfl,rfl,hq,he,q⟩:=h
 cases rx
 obtain⟨t,rfl⟩:=ry
 obtain⟨its,r,pl,hz⟩:=I.tuple hq
 obtain⟨j,h1,h2,h3,h4,h5⟩:=az7 he
 obtain⟨w,ew,rw'⟩:=r.get h2
 have hl:=r.length
 have hn:=aj6
 have fin:EP X pins σ Q w s:=⟨z,H,I,rw',q⟩
 exact bP5 (x:=w) pl.typeIs slot_tuple_getitem.lookup
  (getItem_tuple (j:=j) (Q:=fun r s'=>r=w/\EP X pins σ Q r s') pl (by omega) (by omega) (by rw[d9,<- hl];exact h1) (by simpa using ew) ⟨rfl,fin⟩) hs
theorem cb2:IxR X cj7:=by
 intro value slice pins s σ H x y v u Q I rx ry h hs
 obtain⟨z,i,c,rfl,rfl,hz,he,q⟩:=h
 obtain⟨t,rfl⟩:=rx
 obtain⟨t',rfl⟩:=ry
 obtain⟨j,h1,h2,h3,h4,h5⟩:=az7 he
 have hl:z.cps.toList.length=z.length:=by simp[Str.length]
 rw[hl]at h1 h4 h5
 have hn:=aj6
 exact tail_any (ao0 s z t) slot_str_getitem.lookup (getItem_str (c:=c) (by
  have e1:decide (i < -(2 ^ 63:Int))=false:=decide_eq_false (by omega)
  have e2:decide (i≥2 ^ 63)=false:=decide_eq_false (by omega)
  rw[e1,e2,ac1]) (by rw[h1];simpa using h2) ⟨.str ⟨#[c]⟩,H,I.tok _,⟨_,rfl⟩,q⟩) hs
def rIx (K:W.Frag):R2:=fun x y H Q=>bX4 K x y H Q\/bX3 K x y H Q\/cj7 x y H Q
theorem bA7:IxR X (rIx X.K):=C3.or (J8.or cb2)
theorem bc7 (its:List Value)(n j:Nat)(u:Value):Obj.mapSeq (·.setIfInBounds j u) { cls:=.type "list",data:=.seq its.toArray n }={ cls:=.type "list",data:=.seq (its.set j u).toArray n }:=by
 simp[Obj.mapSeq]
theorem Inv.lst {pins:List (Addr × Obj)}{σ:St}{H:Hp}{s:Shared}{p:Addr}{xs:List V}(I:Inv X pins σ H s)(h:H p=some (.lst xs)) :
  ∃ (its:List Value) (n:Nat),B7 xs its/\s.heap.get? p=some { cls:=.type "list",data:=.seq its.toArray n }/\xs.length<=d8:=by
 obtain⟨z,its,n,r,e⟩:=I.hok p _ h
 exact⟨its,n,r,e,z⟩
theorem Inv.lstUpd {p:Addr}{its its':List Value}{n':Nat}{f:Obj->Obj}(I:Inv X pins σ H s)(h:H p=some (.lst xs))
  (ho:s.heap.get? p=some { cls:=.type "list",data:=.seq its.toArray n })(hf:f { cls:=.type "list",data:=.seq its.toArray n }={ cls:=.type "list",data:=.seq its'.toArray n' })(r:B7 ys its')(hz:ys.length<=d8)(t:Nat) :
  Inv X pins σ (upd H p (.lst ys)) { s with heap:=s.heap.update p f,toks:=t }:=by
 have e:(s.heap.update p f).get? p=some { cls:=.type "list",data:=.seq its'.toArray n' }:=by
  rw[Y8 f ho (by rw[hf]<;>rfl),hf]
 refine I.write (x:=p) (e:=p) (by rw[h];trivial) (.inl rfl) (fun b u hb q=>(E5 _ _ (Ne.symm hb)).trans q) ⟨_,e⟩ ?_
 exact⟨hz,its',n',r,e⟩
def cj6:V->V->V->Hp->(Hp->Prop)->Prop:=fun o i v H Q=>∃ p xs k j,o=.ref p/\i=.int k/\H p=some (.lst xs)/\ixN xs.length k=some j/\Q (upd H p (.lst (xs.set j v)))
theorem set_list:cd9 X cj6:=by
 intro pins s σ H o i v ov iv u Q I ro ri rv h
 obtain⟨p,xs,k,j,rfl,rfl,hp,hj,q⟩:=h
 cases ro
 obtain⟨t,rfl⟩:=ri
 obtain⟨its,n,r,ho,hz⟩:=I.lst hp
 obtain⟨h1,h2,h3,h4⟩:=bi8 hj
 have hl:=r.length
 have hn:=aj6
 have I':Inv X pins σ (upd H p (.lst (xs.set j v))) { s with heap:=s.heap.update p (Obj.mapSeq (·.setIfInBounds j u)) }:=
  I.lstUpd hp ho (bc7 its n j u) (r.set rv j) (by rw[A3];exact hz) s.toks
 by_cases h0:0<=k
 ·have hk:k.toNat=j:=by
   rw[bl5 h0 h4]at h1
   exact Option.some.inj h1
  exact PySem.W.ki_setAt ho h0 (by omega) (by rw[d9,<- hl];exact h4) (by rw[hk];exact⟨_,I',q⟩)
 ·have hk:(k+(its.toArray.size:Int)).toNat=j:=by
   rw[aY8 (by omega) h3]at h1
   rw[d9,<- hl]
   exact Option.some.inj h1
  exact PySem.W.ki_setBack ho (by omega) (by rw[d9,<- hl];exact h3) (by omega) (by rw[hk];exact⟨_,I',q⟩)
theorem aM2 (lo hi:Option Int)(n:Nat):(ah1 lo hi none n).1=((HT.sIx n 0 lo:Nat):Int)/\(ah1 lo hi none n).2.1=((HT.sIx n n hi:Nat):Int)/\(ah1 lo hi none n).2.2=1:=by
 refine⟨?_,?_,rfl⟩
 ·cases lo with
  | none=>simp[ah1,HT.sIx]
  | some i =>
   simp only[ah1,HT.sIx,bS6,show (1:Int) > 0 by decide,if_true]
   by_cases h:i<0
   ·simp only[h,if_true]<;>omega
   ·simp only[h,if_false]<;>omega
 ·cases hi with
  | none=>simp[ah1,HT.sIx]
  | some i =>
   simp only[ah1,HT.sIx,bS6,show (1:Int) > 0 by decide,if_true]
   by_cases h:i<0
   ·simp only[h,if_true]<;>omega
   ·simp only[h,if_false]<;>omega
theorem aH1 (its:List Value)(lo hi:Option Int):slicePick its.toArray lo hi none=((its.drop (HT.sIx its.length 0 lo)).take (HT.sIx its.length its.length hi - HT.sIx its.length 0 lo)).toArray:=by
 obtain⟨h1,h2,h3⟩:=aM2 lo hi its.toArray.size
 unfold slicePick
 rw[h1,h2,h3]
 simp only[sliceRange_one,pick_run,d9]<;>rfl
def cp9 (K:W.Frag):V->Option Int->Option Int->Hp->VK->Prop:=fun x lo hi H Q=>∃ a xs,x=.ref a/\SqL K H a xs/\∀ p,H p=none->Q (.ref p) (upd H p (.lst (as1 xs lo hi)))
theorem U0:SlR X (cp9 X.K):=by
 intro pins s σ H x v vl vu lo hi sl Q I rx hs pl pu h
 obtain⟨a,xs,rfl,hx,q⟩:=h
 cases rx
 obtain⟨its,r,ht,hz⟩:=I.list hx
 have hlen:=r.length
 refine⟨"list",_,slot_list_getitem.lookup,ht.isList.typeIs,?_⟩
 refine wpAny_getItem_list_slice ht.isList hs pl pu .none (by simp) ?_ (by rw[d9]<;>omega)
 rw[aH1,<- hlen]
 refine⟨.ref s.heap.objs.size,_,I.laid (t':=s.toks) (o:=.lst (as1 xs lo hi)) (fun b ob q=>a7 _ q) (c6 _) ?_,rfl,q _ (I.hok.fresh (c6 _))⟩
 exact⟨t9 (aX2 xs lo hi) hz,_,0,(r.drop (HT.sIx xs.length 0 lo)).take (HT.sIx xs.length xs.length hi - HT.sIx xs.length 0 lo),l5 _ rfl⟩
def aw7:V->Bool
 | .non=>true
 | .bl _=>true
 | .int _=>true
 | .str _=>true
 | _=>false
def eqV:V->V->Bool
 | .non,.non=>true
 | .bl a,.bl b=>a == b
 | .bl a,.int b=>(if a then 1 else 0) == b
 | .int a,.bl b=>a == (if b then 1 else 0)
 | .int a,.int b=>a == b
 | .str a,.str b=>a == b
 | _,_=>false
theorem cc9 {y x:V}(ry:RelV y u)(rx:RelV x v)(fy:aw7 y=true)(fx:aw7 x=true):SeqAt.EqAt A s u v (eqV y x):=by
 cases y with
 | non =>
  cases ry
  cases x with
  | non=>cases rx;exact SeqAt.EqAt.same _
  | bl b=>cases rx;exact SeqAt.EqAt.none_bool b
  | int b=>obtain⟨t,rfl⟩:=rx;exact SeqAt.EqAt.none_int b t
  | str b=>obtain⟨t,rfl⟩:=rx;exact SeqAt.EqAt.none_str b t
  | _=>exact absurd (show false=true from fx) i6
 | bl a =>
  cases ry
  cases x with
  | non=>cases rx;exact SeqAt.EqAt.bool_none a
  | bl b=>cases rx;exact SeqAt.EqAt.bool_bool a b
  | int b=>obtain⟨t,rfl⟩:=rx;exact SeqAt.EqAt.bool_int a b t
  | str b=>obtain⟨t,rfl⟩:=rx;exact SeqAt.EqAt.bool_str a b t
  | _=>exact absurd (show false=true from fx) i6
 | int a =>
  obtain⟨t',rfl⟩:=ry
  cases x with
  | non=>cases rx;exact SeqAt.EqAt.int_none a t'
  | bl b=>cases rx;exact SeqAt.EqAt.int_bool a t' b
  | int b=>obtain⟨t,rfl⟩:=rx;exact SeqAt.EqAt.int_int a t' b t
  | str b=>obtain⟨t,rfl⟩:=rx;exact SeqAt.EqAt.int_str a t' b t
  | _=>exact absurd (show false=true from fx) i6
 | str a =>
  obtain⟨t',rfl⟩:=ry
  cases x with
  | non=>cases rx;exact SeqAt.EqAt.str_none a t'
  | bl b=>cases rx;exact SeqAt.EqAt.str_bool a t' b
  | int b=>obtain⟨t,rfl⟩:=rx;exact SeqAt.EqAt.str_int a t' b t
  | str b=>obtain⟨t,rfl⟩:=rx;exact SeqAt.EqAt.str_str a t' b t
  | _=>exact absurd (show false=true from fx) i6
 | _=>exact absurd (show false=true from fy) i6
def eqU (x:V)(u:Value):Bool:=match u with
 | .none=>eqV .non x
 | .bool b=>eqV (.bl b) x
 | .int i _=>eqV (.int i) x
 | .str z _=>eqV (.str z) x
 | _=>false
theorem bB9 {x y:V}(r:RelV y u)(f:aw7 y=true):eqU x u=eqV y x:=by
 cases y with
 | non=>cases r;rfl
 | bl b=>cases r;rfl
 | int i=>obtain⟨t,rfl⟩:=r;rfl
 | str z=>obtain⟨t,rfl⟩:=r;rfl
 | _=>exact absurd (show false=true from f) i6
theorem as4 {x:V}:∀ {xs:List V} {us:List Value},B7 xs us->xs.all aw7=true->us.any (eqU x)=xs.any fun y=>eqV y x
 | _,_,.nil,_=>rfl
 | y::xs,u::us,.cons r t,f=>by
  rw[List.all_cons,n8]at f
  rw[ac2,ac2,bB9 r f.1,as4 t f.2]
theorem aj5 {x:V}(rx:RelV x v)(fx:aw7 x=true):∀ {xs:List V} {us:List Value},B7 xs us->xs.all aw7=true->∀ u∈us,SeqAt.EqAt A s u v (eqU x u)
 | _,_,.nil,_=>fun u hu=>by cases hu
 | y::xs,u::us,.cons r t,f=>fun u' hu=>by
  rw[List.all_cons,n8]at f
  rcases c5.mp hu with rfl | hu
  ·rw[bB9 r f.1];exact cc9 r rx f.1 fx
  ·exact aj5 rx fx t f.2 u' hu
def inV (x:V)(xs:List V):Bool:=xs.any fun y=>eqV y x
def rIn (K:W.Frag)(neg:Bool):R2:=fun x y H Q=>∃ p xs,y=.ref p/\(SqL K H p xs\/SqT K H p xs)/\aw7 x=true/\xs.all aw7=true/\Q (.bl (if neg then !inV x xs else inV x xs)) H
theorem bo3:OpR X (C4 .In) (rIn X.K false):=by
 intro pins s σ H x y v u Q I rx ry h
 obtain⟨p,xs,rfl,hq,fx,fs,q⟩:=h
 cases ry
 rcases hq with hq | hq
 ·obtain⟨its,r,pl,hz⟩:=I.list hq
  refine SeqAt.in_listAt (eqU x) pl.isList (fun w hw=>aj5 rx fx r fs w (by simpa using hw)) ⟨.bl _,H,I,rfl,?_⟩
  rw[show its.toArray.any (eqU x)=its.any (eqU x) by simp,as4 r fs]
  exact q
 ·obtain⟨its,r,pl,hz⟩:=I.tuple hq
  refine SeqAt.in_tupleAt (eqU x) pl (fun w hw=>aj5 rx fx r fs w (by simpa using hw)) ⟨.bl _,H,I,rfl,?_⟩
  rw[show its.toArray.any (eqU x)=its.any (eqU x) by simp,as4 r fs]
  exact q
theorem aN5:OpR X (C4 .NotIn) (rIn X.K true):=by
 intro pins s σ H x y v u Q I rx ry h
 obtain⟨p,xs,rfl,hq,fx,fs,q⟩:=h
 cases ry
 rcases hq with hq | hq
 ·obtain⟨its,r,pl,hz⟩:=I.list hq
  refine SeqAt.notIn_listAt (eqU x) pl.isList (fun w hw=>aj5 rx fx r fs w (by simpa using hw)) ⟨.bl _,H,I,rfl,?_⟩
  rw[show its.toArray.any (eqU x)=its.any (eqU x) by simp,as4 r fs]
  exact q
 ·obtain⟨its,r,pl,hz⟩:=I.tuple hq
  refine SeqAt.notIn_tupleAt (eqU x) pl (fun w hw=>aj5 rx fx r fs w (by simpa using hw)) ⟨.bl _,H,I,rfl,?_⟩
  rw[show its.toArray.any (eqU x)=its.any (eqU x) by simp,as4 r fs]
  exact q
theorem o9:S7 X (.builtin "len") (fun xs H Q=>∃ p ys,xs=[.ref p]/\(SqL X.K H p ys\/SqT X.K H p ys)/\Q (.int ys.length) H):=by
 intro pins s σ H xs us Q I r h
 obtain⟨p,ys,rfl,hq,q⟩:=h
 obtain⟨u,rfl,rx⟩:=vals1 r
 cases rx
 have hn:=aj6
 rcases hq with hq | hq
 ·obtain⟨its,r',pl,hz⟩:=I.list hq
  have hlen:=r'.length
  exact Calls.call_len_list pl.isList (by simp only[d9]<;>omega) ⟨.int ys.length,H,I.tok _,⟨s.toks+1,by rw[d9,hlen]⟩,q⟩
 ·obtain⟨its,r',pl,hz⟩:=I.tuple hq
  have hlen:=r'.length
  exact len_tuple pl (by simp only[d9]<;>omega) ⟨.int ys.length,H,I.tok _,⟨s.toks+1,by rw[d9,hlen]⟩,q⟩
theorem af7:S7 X (.type "list") (fun xs H Q=>∃ p ys,xs=[.ref p]/\(SqL X.K H p ys\/SqT X.K H p ys)/\∀ l,H l=none->Q (.ref l) (upd H l (.lst ys))):=by
 intro pins s σ H xs us Q I r h
 obtain⟨p,ys,rfl,hq,q⟩:=h
 obtain⟨u,rfl,rx⟩:=vals1 r
 cases rx
 have fin:∀ (its:List Value),B7 ys its->ys.length<=d8->∀ (h':Heap) (c':Nat),(∀ b o',s.heap.get? b=some o'->h'.get? b=some o') ->
   h'.get? s.heap.objs.size=some { cls:=.type "list",dict:=none,data:=.seq its.toArray c',slots:=#[] }->EP X pins σ Q (.ref s.heap.objs.size) { s with heap:=h' }:=fun its r' hz h' c' kp e =>
  ⟨.ref s.heap.objs.size,_,I.laid (t':=s.toks) kp (c6 _) (show O0 X.prog X.w _ h' _ (.lst ys) from ⟨hz,its,c',r',e⟩),rfl,q _ (I.hok.fresh (c6 _))⟩
 rcases hq with hq | hq
 ·obtain⟨its,r',pl,hz⟩:=I.list hq
  have hlen:=r'.length
  obtain⟨o,ho,hc,n,hd⟩:=pl.isList
  exact call_list_seq p (.inl rfl) ho hc hd (fun h' c' kp e=>fin its r' hz h' c' kp e) (by simp only[d9]<;>omega)
 ·obtain⟨its,r',pl,hz⟩:=I.tuple hq
  have hlen:=r'.length
  obtain⟨o,ho,hc,n,hd⟩:=pl
  exact call_list_seq p (.inr rfl) ho hc hd (fun h' c' kp e=>fin its r' hz h' c' kp e) (by simp only[d9]<;>omega)
theorem V8:S7 X (.type "tuple") (fun xs H Q=>∃ p ys,xs=[.ref p]/\((SqL X.K H p ys/\∀ l,H l=none->Q (.ref l) (upd H l (.tup ys)))\/(SqT X.K H p ys/\Q (.ref p) H))):=by
 intro pins s σ H xs us Q I r h
 obtain⟨p,ys,rfl,h⟩:=h
 obtain⟨u,rfl,rx⟩:=vals1 r
 cases rx
 rcases h with⟨hq,q⟩ | ⟨hq,q⟩
 ·obtain⟨its,r',pl,hz⟩:=I.list hq
  have hlen:=r'.length
  refine call_tuple_list pl.isList (fun h' kp=>?_) (by simp only[d9]<;>omega)
  have I1:Inv X pins σ H { s with heap:=h' }:=I.kept (t':=s.toks) kp
  have I2:Inv X pins σ (upd H h'.objs.size (.tup ys)) { s with heap:=h'.push { cls:=.type "tuple",data:=.seq its.toArray } } :=
   I1.laid (t':=s.toks) (fun b o e=>a7 _ e) (c6 _) (show O0 X.prog X.w _ _ _ (.tup ys) from ⟨hz,its,r',IsTup.new _ _⟩)
  exact⟨.ref h'.objs.size,_,I2,rfl,q _ (I1.hok.fresh (c6 _))⟩
 ·obtain⟨its,r',pl,hz⟩:=I.tuple hq
  exact call_tuple_same pl ⟨.ref p,H,I,rfl,q⟩
def tyV (K:W.Frag)(T:String)(x:V)(H:Hp):Prop:=match x with
 | .str _=>T="str"
 | .int _=>T="int"
 | .ref p=>(T="list"/\∃ xs,SqL K H p xs)\/(T="tuple"/\∃ o,K.lookup p=some o/\o.cls=.type "tuple"/\o.dict=none) \/
   (T="dict"/\((∃ kvs,H p=some (.dK kvs))\/∃ kvs,H p=some (.dT kvs)))\/(T="set"/\∃ S n,H p=some (.set S n))
 | _=>False
theorem bU4 {T:String}{x:V}(I:Inv X pins σ H s)(r:RelV x v)(ty:tyV X.K T x H) :
  s.TypeIs v T/\∀ a,v=.ref a->∃ ob,s.heap.get? a=some ob/\ob.dict=none:=by
 cases x with
 | str z =>
  obtain⟨t,rfl⟩:=r
  cases (show T="str" from ty)
  exact⟨ao0 s z t,fun _ e=>nomatch e⟩
 | int i =>
  obtain⟨t,rfl⟩:=r
  cases (show T="int" from ty)
  exact⟨typeIs_int s i t,fun _ e=>nomatch e⟩
 | ref p =>
  cases r
  rcases ty with⟨rfl,xs,hq⟩ | ⟨rfl,o,hk,hc,hd⟩ | ⟨rfl,hk⟩ | ⟨rfl,S,n,hk⟩
  ·obtain⟨its,_,pl,_⟩:=I.list hq
   refine⟨pl.isList.typeIs,fun a e=>?_⟩
   cases e
   obtain⟨o,n,e,c,hd,_⟩:=pl
   exact⟨o,e,hd⟩
  ·refine⟨⟨o,I.kIn p o hk,hc⟩,fun a e=>?_⟩
   cases e
   exact⟨o,I.kIn _ o hk,hd⟩
  ·have z:∃ o,s.heap.get? p=some o/\o.ExactDict:=by
    rcases hk with⟨kvs,hk⟩ | ⟨kvs,hk⟩
    ·obtain⟨_,_,_,_,o,_,_,e,ex,_⟩:=I.hok p _ hk
     exact⟨o,e,ex⟩
    ·obtain⟨_,_,_,_,o,_,_,e,ex,_⟩:=I.hok p _ hk
     exact⟨o,e,ex⟩
   obtain⟨o,e,ex⟩:=z
   refine⟨⟨o,e,ex.1⟩,fun a e2=>?_⟩
   cases e2
   exact⟨o,e,ex.2.1⟩
  ·obtain⟨o,_,_,_,e,ex,_⟩:=I.hok p _ hk
   refine⟨⟨o,e,ex.1⟩,fun a e2=>?_⟩
   cases e2
   exact⟨o,e,ex.2.1⟩
 | _=>exact False.elim ty
def tBM (K:W.Frag)(T:String)(r:V->List V->Hp->VK->Prop)(to:TE)(t:TA):TE:=fun σ H Q=>to σ H fun x H1=>tyV K T x H1/\t σ H1 fun xs H2=>r x xs H2 Q
variable {to:TE} {t:TA} {name:Str} {apos cpos:Pos} {T id:String}
theorem ac8 (pa:PlainAttrs T) (slot:Slot T name id) (hty:typeOf (.builtin id)=pure (.type "method_descriptor")) (hm:MtR X id r) (ho:PE X o to) (ha:PA X (e::es) t)
  (hbase:bF9 o name X.env (eval o X.env)=eval o X.env:=by rfl)
  (hfew : ((Z1 cpos (B0 (e :: es) X.env)).all (fun x => !x.1) && (bF8 cpos (aG7 [] X.env)).all (fun x => x.1.isSome)
   && decide ((e::es).length+([]:List aG6).length+(if ([]:List aG6).isEmpty then 0 else 1)<30))=true:=by rfl)
  (hline:(apos.endLine == cpos.line)=true:=by rfl) (hs:B0 (e::es) X.env=(false,eval e X.env)::B0 es X.env:=by rfl) (hplain:(Z1 cpos (B0 es X.env)).any (·.1)=false:=by rfl) :
  PE X (.Call (.Attribute o name apos) (e::es) [] cpos) (tBM X.K T r to t):=by
 intro pins s σ H Q I h
 refine wpAny_Call_method_late hbase hfew hline rfl (thn (ho pins s σ H _ I h) fun v s1 ⟨x,H1,I1,r1,ty,q1⟩=>?_)
 obtain⟨h1,h2⟩:=bU4 I1 r1 ty
 refine⟨T,id,pa,slot,hty,h1,h2,?_⟩
 have hA:=ha cpos pins s1 σ H1 _ I1 q1
 rw[hs]at hA ⊢
 refine Calls.callWith_builtin (by show (false || (Z1 cpos (B0 es X.env)).any (·.1))=false;rw[hplain]<;>rfl) (Calls.evalArgs_plain ?_)
 exact thn hA fun us s2 ⟨vs,H2,I2,r2,q2⟩=>hm pins s2 σ H2 x vs v us Q I2 r1 r2 q2
/- xs.append(e),list.index on a module's tuple .. are MtR facts of 06m -/
end
def MtM (X:Cx)(id:String)(r:V->List V->Hp->VK->Prop):Prop:=
 ∀ (pins:List (Addr × Obj)) (s:Shared) (σ:St) (H:Hp) (x:V) (xs:List V) (v:Value) (us:List Value) (Q:VK),Inv X pins σ H s->RelV x v->B7 xs us->r x xs H Q ->
  v7 (t7 X.prog X.w) X.A (call (.builtin id) (v::us)) (EP X pins σ Q) X.xe s
theorem B7.one:∀ {x:V} {us:List Value},B7 [x] us->∃ u,us=[u]/\RelV x u
 | _,_,.cons r .nil=>⟨_,rfl,r⟩
theorem B7.two:∀ {x y:V} {us:List Value},B7 [x,y] us->∃ u v,us=[u,v]/\RelV x u/\RelV y v
 | _,_,_,.cons r (.cons q .nil)=>⟨_,_,rfl,r,q⟩
theorem B7.rep (h:B7 xs us):∀ k:Nat,B7 (C5 k xs).flatten (C5 k us).flatten
 | 0=>.nil
 | k+1=>by
  rw[K9,K9,O4,O4]
  exact B7.append h (B7.rep h k)
theorem foldl_rep (its:List Value):∀ (k:Nat) (acc:List Value),
  ac3 (fun x1 x2=>x1++x2) acc.toArray (C5 k its.toArray)=(acc++(C5 k its).flatten).toArray
 | 0,acc=>by simp
 | k+1,acc=>by
  have e:acc.toArray++its.toArray=(acc++its).toArray:=by simp
  have e2:(acc++its)++(C5 k its).flatten=acc++(C5 (k+1) its).flatten:=by
   rw[K9,O4,v9]
  rw[<- e2,<- foldl_rep its k (acc++its),<- e,K9,ad8]
section
variable {b:Addr} {zs:List V}
theorem Inv.lset {its its':List Value}{f:Array Value->Array Value}{t':Nat}(I:Inv X pins σ H s)(hH:H l=some (.lst xs))
  (e:s.heap.get? l=some { cls:=.type "list",data:=.seq its.toArray n })(hf:f its.toArray=its'.toArray)(hv:B7 ys its')(hz:ys.length<=d8) :
  Inv X pins σ (upd H l (.lst ys)) { s with heap:=s.heap.update l (Obj.mapSeq f),toks:=t' }:=by
 have q:=PySem.IsL.update e f
 rw[hf]at q
 refine I.write (x:=l) (e:=l) (by rw[hH];exact trivial) (.inl rfl) (fun b' u hb hu=>(E5 s.heap (Obj.mapSeq f) (Ne.symm hb)).trans hu) ⟨_,q⟩ ?_
 exact⟨hz,its',_,hv,q⟩
theorem Inv.lnew {its:List Value}{t':Nat}(I:Inv X pins σ H s)(hv:B7 ys its)(hz:ys.length<=d8) :
  Inv X pins σ (upd H s.heap.objs.size (.lst ys)) { s with heap:=s.heap.push { cls:=.type "list",data:=.seq its.toArray },toks:=t' } :=
 I.laid (fun _ _ q=>a7 _ q) (c6 _) ⟨hz,its,0,hv,l5 _ rfl⟩
theorem Inv.fresh (I:Inv X pins σ H s):H s.heap.objs.size=none:=I.hok.fresh (c6 _)
theorem Inv.lstM (I:Inv X pins σ H s)(hH:H l=some (.lst xs)):xs.length<=d8/\∃ (its:List Value) (n:Nat),B7 xs its/\xs.length=its.length/\s.heap.get? l=some { cls:=.type "list",data:=.seq its.toArray n }:=by
 obtain⟨z,its,n,r,e⟩:=I.hok l _ hH
 exact⟨z,its,n,r,r.length,e⟩
theorem bz1 (h:n<=d8):Builtin.List.listTooLong n=false:=by
 unfold Builtin.List.listTooLong
 exact decide_eq_false (by omega)
end
def bI9:V->List V->Hp->VK->Prop:=fun x vs H Q=>∃ l xs y,x=.ref l/\vs=[y]/\H l=some (.lst xs)/\xs.length<d8/\Q .non (upd H l (.lst (xs++[y])))
theorem Y0:MtM X "list.append" bI9:=by
 intro pins s σ H x vs v us Q I rx rv h
 obtain⟨l,xs,y,rfl,rfl,hH,hz,q⟩:=h
 cases rx
 obtain⟨u,rfl,ru⟩:=rv.one
 obtain⟨z,its,n,r,hl,e⟩:=I.lstM hH
 refine ag4 F.slot_list_append ⟨_,e,rfl⟩ F.entry_list_append (F.args_list_append_2 _ _) (PySem.list_append l its.toArray n u (by rw[d9];omega)) ⟨e,?_⟩
 refine⟨.non,_,I.lset (its':=its++[u]) hH e (by simp) (r.append (.cons ru .nil)) ?_,rfl,q⟩
 rw[j2,M4]
 omega
def cq2:R2:=fun x y H Q=>∃ l b xs zs,x=.ref l/\y=.ref b/\H l=some (.lst xs)/\H b=some (.lst zs)/\xs.length+zs.length<=d8/\∀ p,H p=none->Q (.ref p) (upd H p (.lst (xs++zs)))
theorem aC3:OpR X (Z8 .Add) cq2:=by
 intro pins s σ H x y v u Q I rx ry h
 obtain⟨l,b,xs,zs,rfl,rfl,hH,hB,hz,q⟩:=h
 cases rx
 cases ry
 obtain⟨z,its,n,r,hl,e⟩:=I.lstM hH
 obtain⟨z2,its2,n2,r2,hl2,e2⟩:=I.lstM hB
 refine PySem.P.add_list e e2 ?_ (by rw[d9,d9];omega)
 have ea:its.toArray++its2.toArray=(its++its2).toArray:=by simp
 rw[ea]
 exact⟨.ref _,_,I.lnew (t':=s.toks) (r.append r2) (by rw[j2];omega),rfl,q _ I.fresh⟩
def cq0:R2:=fun x y H Q=>∃ l k xs,x=.ref l/\y=.int k/\H l=some (.lst xs) /\ -(2 ^ 63)<=k/\k<2 ^ 63/\xs.length*k.toNat<=d8 /\
 ∀ p,H p=none->Q (.ref p) (upd H p (.lst (C5 k.toNat xs).flatten))
theorem len_rep {α:Type}(xs:List α)(k:Nat):(C5 k xs).flatten.length=k*xs.length:=by
 induction k with
 | zero=>simp
 | succ k ih=>rw[K9,O4,j2,ih,Nat.succ_mul,Nat.add_comm]
theorem bY2:OpR X (Z8 .Mult) cq0:=by
 intro pins s σ H x y v u Q I rx ry h
 obtain⟨l,k,xs,rfl,rfl,hH,h1,h2,hz,q⟩:=h
 cases rx
 obtain⟨t,rfl⟩:=ry
 obtain⟨z,its,n,r,hl,e⟩:=I.lstM hH
 have hlen:its.toArray.size*k.toNat<=d8:=by rw[d9,<- hl];exact hz
 have hcap:¬ its.toArray.size*k.toNat > (2 ^ 63 - 1) / 8:=by
  have:(d8:Nat)<=(2 ^ 63 - 1) / 8:=by decide
  omega
 have hfit:¬ (!Builtin.List.listFitsIndex k)=true:=by
  rw[fitsIndex_both h1 h2]
  exact i6
 have hlong:¬ Builtin.List.listTooLong (its.toArray.size*k.toNat)=true:=by
  rw[bz1 hlen]
  exact i6
 have hnew:ac3 (fun x1 x2=>x1++x2) #[] (C5 (if its.toArray.isEmpty=true then 0 else k.toNat) its.toArray)=(C5 k.toNat its).flatten.toArray:=by
  have f0:∀ m:Nat,ac3 (fun x1 x2=>x1++x2) #[] (C5 m its.toArray)=(C5 m its).flatten.toArray:=fun m=>by
   have:=foldl_rep its m []
   rw[O5]at this
   exact this
  rw[f0]
  cases its with
  | nil=>simp
  | cons a r'=>rw[if_neg (by simp)]
 refine wpAny_binaryOp_repeat_ref (T:="list") (U:="int") (by decide) ⟨_,e,rfl⟩ (fun s'=>typeIs_int s' k t) noFill_list_mul F.fills_int_mul F.slot_int_rmul repeat_list F.slot_int_index.lookup
  (ag4 F.slot_int_rmul (typeIs_int s k t) F.entry_int_rmul (F.args_int_rmul_2 _ _) (int___rmul___int_list k t l its.toArray n)
   ⟨e,rfl,⟨_,e,rfl⟩,ag4 F.slot_list_mul ⟨_,e,rfl⟩ F.entry_list_mul (F.args_list_mul_2 _ _) (AutoListH.list___mul___list_int_3 l its.toArray n k t hfit hcap hlong) ⟨e,?_⟩⟩)
 rw[hnew]
 exact⟨.ref _,_,I.lnew (t':=s.toks) (r.rep k.toNat) (by rw[len_rep,Nat.mul_comm];exact hz),rfl,q _ I.fresh⟩
end L2
namespace Att
open PySem PySem.W PySem.Calls PyProof.Rows
theorem ax5 {P:Params}:∀ (ns:List Int) (vs:List Value),WellAll P h vs (ns.map WData.int)->G6 vs ns:=by
 intro ns
 induction ns with
 | nil =>
  intro vs w
  rw[List.map_nil]at w
  cases w
  exact .nil
 | cons n ns ih =>
  intro vs w
  rw[n6]at w
  cases w with
  | cons a b =>
   cases a
   exact .cons _ _ (ih _ b)
theorem bn1 {l:OpenLaw}(hn:l.most=some n){P:Params}{args:List WData}{vals:List Value}
  (hpre:l.row.toRowW.claim.pre args=true)(hwl:WellAll P h vals args) :
  ∃ a vs ns,vals=[Value.ref a]/\args=[WData.list (ns.map WData.int)]/\h.get? a=some { cls:=.type "list",data:=.seq vs.toArray }/\G6 vs ns/\ns.length<=n:=by
 have hsh:WShape.hasAll [] args [.list .int]=true:=(pre_splitW hpre).1
 have hc:l.pre.holds [] { args:=args }=true:=(pre_splitW hpre).2
 obtain⟨d,r,rfl,h1,h2⟩:=hasAllW_cons hsh
 obtain rfl:=hasAllW_nil h2
 obtain⟨xs,rfl,h3⟩:=hasW_list h1
 obtain⟨ns,rfl⟩:=items_int h3
 have hlen:ns.length<=n:=by
  unfold OpenLaw.pre at hc
  have h4:(WTm.not (.lt (.lit (.int (n:Int))) (.len (.arg 0)))).holds [] { args:=[.list (ns.map .int)] }=true:=by
   have h4:=(holds_andW hc).1
   rw[hn]at h4
   exact h4
  have h5:=condW_of h4 (w_not (w_lt w_lit (w_len_list (w_arg rfl))))
  rw[a5]at h5
  refine Nat.le_of_not_lt fun q=>?_
  have q':(n:Int)<((ns.length:Nat):Int):=by omega
  first
   | (rw[decide_eq_true q']at h5;exact absurd h5 (by decide))
   | (simp at h5;omega)
 cases hwl with
 | cons w1 w2 =>
  cases w2
  cases w1 with
  | list ho hall=>exact⟨_,_,ns,rfl,rfl,ho,ax5 ns _ hall,hlen⟩
theorem bn4 (l:OpenLaw)(args:List WData):l.row.toRowW.claim.post args (.bool true) args=true:=
 postW_of (r:=l.row.toRowW) (X:=(true == true))
  (show WShape.has [] (.bool true) .bool=true by first | rfl | decide | simp[WShape.has,WShape.arms,WShape.armsAll])
  (show (WTm.eq .res (.lit (.bool true))).value [] { args:=args,res:=some (.bool true),after:=args }=some (.bool (true == true)) from w_eq_bool (w_res rfl) w_lit) rfl
theorem attach_call {l:OpenLaw} {q:Program} {loose:List Str} {d:DefRec}
  (hn:l.most=some n) (hdf:d.params.defaults=[])
  (call : ∀ (w : World) (s₀ s₁ : Shared) (mg mb : Str -> Option Value) (fa : Addr) (o : Obj) (pm cd doc : Value) (a : Addr) (vs : List Value) (ns : List Int),
   Ground q loose [] XP w s₀ mg mb s₁.heap->YP w s₁.heap ->
   s₁.heap.get? fa=some o->o.data=.func (docDef d.name d.params d.body d.scope pm cd doc)->s₁.heap.CodeRec cd d.name->mg d.name=some (.ref fa) ->
   s₁.heap.get? a=some { cls:=.type "list",data:=.seq vs.toArray }->G6 vs ns->ns.length<=n->s₁.gens=#[] ->
   aG5 (t7 l.prog w) bl6 (.call (.ref fa) ⟨[.ref a],[]⟩) (fun r s'=>r=.ok (.ret (.bool true))/\OldK s₁.heap s'.heap/\s'.os=s₁.os/\aq1 s'.gens) s₁) :
  WalkO q loose XP YP l.row.toRowW d [] (fun f vs=>PySem.call f vs):=by
 intro w s₀ s₁ mg mb G Y fa o pm cd doc dV kV ho hd hcd hD hmg hg args vals as hpre hlay hrd hwl hlo
 obtain rfl:dV=.none:=Dflts.none hD hdf
 obtain rfl:kV=.none:=Dflts.noKw hD
 obtain⟨a,vs,ns,rfl,rfl,hobj,hints,hlen⟩:=bn1 hn hpre hwl
 refine enter_call (ak5 (call w s₀ s₁ mg mb fa o pm cd doc a vs ns G Y ho (fd_plain hd) hcd hmg hobj hints hlen hg) fun r s' hq=>?_)
 obtain⟨rfl,h2,h3,h4⟩:=hq
 exact⟨.inl ⟨.bool true,.bool true,[],rfl,fun _=>rfl,.bool true,bn4 l _,fun _=>⟨List.Pairwise.nil,fun _ hm=>(nomatch hm)⟩⟩,h2,h3,h4⟩
section
variable {K:Frag}
end
end Att
namespace L2
open PySem PySem.Spec PyProof.Rows
theorem ak9:∀ {vs:List Value} {ns:List Int},G6 vs ns->B7 (ns.map V.int) vs
 | _,_,.nil=>.nil
 | _,_,.cons n t h=>.cons ⟨t,rfl⟩ (ak9 h)
end L2
namespace L2
open PySem PySem.Spec PyProof.Rows
def am1 (s:Stmt):Arguments:=match s with
 | .FunctionDef _ a _ _ _ _ _ _ _ _=>a
 | _=>{ posonlyargs:=[],args:=[],vararg:=none,kwonlyargs:=[],kw_defaults:=[],kwarg:=none,defaults:=[] }
def V7 (s:Stmt):List Stmt:=match s with
 | .FunctionDef _ _ b _ _ _ _ _ _ _=>b
 | _=>[]
def m9 (s:Stmt):Scope:=match s with
 | .FunctionDef _ _ _ _ _ _ sc _ _ _=>sc
 | _=>{ kind:=.function,names:=[],isGenerator:=false,isCoroutine:=false }
abbrev CX0:CXT:=fun _ _ _ _ _ _=>False
abbrev E0:XK:=fun _ _ _=>False
theorem D0:ap6 CX0 X E0:=fun _ _ _ _ _ _ _ h=>h.elim
structure Fun (K:W.Frag) (x qual:Str) (st:Stmt) (f:Addr) (fd:FuncData):Prop where
 ex:∃ (oc:Value) (od:Option Addr) (kV doc pm:Value) (an:Option Addr) (cdv ct:Value) (osl:Array (Option Value)),
  fd=U6 x qual (am1 st) (V7 st) (m9 st) .none kV doc pm an cdv ct/\K.lookup f=some ⟨oc,od,.func fd,osl⟩/\aP7 K cdv qual=true
 kp:W5 K (.ref f)=true
section
variable {K:W.Frag} {mg:Str->Option Value} {base:Heap}
theorem Fun.ok {st:Stmt} {k:Nat} {sp:Sp} (F:Fun K x qual st f fd) (S:p9 N ps (m9 st))
  (hbody : ∀ (cdv : Value) (A : Around) (outer : List Env) (s : Shared) (H : Hp) (vs : List V) (Q : VK) (E : XK), Y7 k (A.deeper (F6 qual (m9 st) s.heap.objs.size f cdv)) -> sp vs H Q E ->
   ∃ t,PSs (X6 CX0 P w K mg base N qual (m9 st) f cdv A outer s H E).nox (V7 st) t/\t { nx:=fun _ H'=>Q .non H',rt:=Q } (start N vs) H) (len:∀ vs H Q E,sp vs H Q E->vs.length=ps.length:=by intro _ _ _ _ h;repeat first | (obtain⟨rfl,_⟩:=h;rfl) | obtain⟨_,h⟩:=h):p0 P w K mg base CX0 (k+1) f fd ps sp:=by
 obtain⟨oc,od,kV,doc,pm,an,cdv,ct,osl,rfl,lk,hcd⟩:=F.ex
 refine bB6 lk hcd S len fun A outer s H vs Q E hr hsp=>?_
 obtain⟨t,h,q⟩:=hbody cdv A outer s H vs Q E hr hsp
 exact⟨t,h.nox,q⟩
theorem Fun.binds {st:Stmt}(F:Fun K x qual st f fd)
  (h:∀ (kV doc pm:Value) (an:Option Addr) (cdv ct:Value) (us:List Value),us.length=ps.length->bf6 (U6 x qual (am1 st) (V7 st) (m9 st) .none kV doc pm an cdv ct) ⟨us,[]⟩=pure (ps.zip us)):Binds K fd ps []:=by
 obtain⟨oc,od,kV,doc,pm,an,cdv,ct,osl,rfl,lk,hcd⟩:=F.ex
 exact .all (h kV doc pm an cdv ct)
theorem fun_mk {st:Stmt}{oc:Value}{od an:Option Addr}{osl:Array (Option Value)}{kV doc pm cdv ct:Value}(l:K.lookup f=some ⟨oc,od,.func (U6 x qual (am1 st) (V7 st) (m9 st) .none kV doc pm an cdv ct),osl⟩)
  (c:aP7 K cdv qual=true)(k:W5 K (.ref f)=true):Fun K x qual st f (U6 x qual (am1 st) (V7 st) (m9 st) .none kV doc pm an cdv ct):=⟨⟨oc,od,kV,doc,pm,an,cdv,ct,osl,rfl,l,c⟩,k⟩
structure Fq (K:W.Frag) (mg:Str->Option Value) (x:Str) (st:Stmt) (f:Addr) (fd:FuncData) (ps:List Str):Prop where
 F:Fun K x x st f fd
 b:Binds K fd ps []
 m:mg x=some (.ref f)
theorem A9 {CX:CXT}{k:Nat}{sp:Sp}{t:TA}{E:XK}{p:Pos}{st:Stmt}(F:p0 X.prog X.w X.K X.mg X.base CX k f fd ps sp)(hr:Y7 k X.A)(hg:Gl X x)(q:Fq X.K X.mg x st f fd ps)(hx:ap6 CX X E)
  (ha:PA X (e::es) t)(hdb:(x == ("__debug__":Str))=false:=by decide)(he:B0 (e::es) X.env=(false,eval e X.env)::B0 es X.env:=by rfl)(hpl:(Z1 pos (B0 es X.env)).any (·.1)=false:=by rfl) :
  PE X (.Call (.Name x p) (e::es) [] pos) (bQ2 sp [] E t):=al4 F hr hg q.m q.F.kp q.b .nil hx ha hdb he hpl
end
theorem pv (i:Nat)(hN:X.N[i]?=some x:=by rfl)(hv:Vis X.env.scope x:=by first | exact Or.inl rfl | exact Or.inr (Or.inl rfl) | exact Or.inr (Or.inr rfl))(hd:(x == ("__debug__":Str))=false:=by decide)
  (hcd:(x == ("__classdict__":Str))=false:=by decide):PE X (.Name x pos) (cg7 i):=bX7 hN hv hd hcd
theorem E8 {A B:Prop}(h:B):if false=true then A else B:=by
 rw[if_neg i6]
 exact h
theorem E7 {A B:Prop}(h:A):if true=true then A else B:=by
 rw[if_pos rfl]
 exact h
theorem ah4 {c A B:Prop}[Decidable c](h1:c->A)(h2:¬ c->B):if c then A else B:=by
 by_cases h:c
 ·rw[if_pos h]
  exact h1 h
 ·rw[if_neg h]
  exact h2 h
theorem aV5 {c A B:Prop}[Decidable c](hc:c)(h:B):if (!decide c)=true then A else B:=by
 rw[decide_eq_true hc]
 exact E8 h
def p8 (H H':Hp):Prop:=∀ b o,H b=some o->H' b=some o
theorem p8.refl (H:Hp):p8 H H:=fun _ _ h=>h
theorem p8.trans {H1 H2:Hp}(a:p8 H H1)(b:p8 H1 H2):p8 H H2:=fun c o h=>b c o (a c o h)
theorem p8.free (e:p8 H H')(h:H' l=Option.none):H l=Option.none:=by
 cases q:H l with
 | none=>rfl
 | some o =>
  rw[e l o q]at h
  cases h
theorem p8.seq {K:W.Frag}(e:p8 H H')(h:SqL K H a xs):SqL K H' a xs:=by
 rcases h with(h | ⟨o,h⟩) | h
 ·exact .inl (.inl (e _ _ h))
 ·exact .inl (.inr ⟨o,e _ _ h⟩)
 ·exact .inr h
end L2
namespace Tim
open PySem PyProof.Rows
def X5:Bool->Keyed->Array Keyed->Nat->Nat->Nat->StateT SortSt Sem (Option Nat):=sortPriv% PySem.Builtin.gallop
def O7:Nat->StateT SortSt Sem Unit:=sortPriv% PySem.Builtin.setMinGallop
def aC9:Array Keyed->Array Keyed->StateT SortSt Sem (Array Keyed):=sortPriv% PySem.Builtin.mergeLo
def aD0:Array Keyed->Array Keyed->StateT SortSt Sem (Array Keyed):=sortPriv% PySem.Builtin.mergeHi
def af8 (left:Bool)(key:Keyed)(arr:Array Keyed)(base:Nat)(i:Nat):StateT SortSt Sem (Option Bool):=do
 let x <- ai0 arr (base+i)
 if left then lt' x key else return (<- lt' key x).map (!·)
theorem be0 (left:Bool)(key:Keyed)(arr:Array Keyed)(base n hint:Nat):X5 left key arr base n hint=(do
 let mut lastofs:=0
 let mut ofs:=1
 let mut lo:=0
 let mut hi:=0
 let some right <- af8 left key arr base hint | return none
 if right then
  let maxofs:=n - hint
  for _ in [0:n] do
   if ofs≥maxofs then break
   let some more <- af8 left key arr base (hint+ofs) | return none
   if !more then break
   lastofs:=ofs
   ofs:=2*ofs+1
  lo:=hint+lastofs+1
  hi:=hint+min ofs maxofs
 else
  let maxofs:=hint+1
  for _ in [0:n] do
   if ofs≥maxofs then break
   let some found <- af8 left key arr base (hint - ofs) | return none
   if found then break
   lastofs:=ofs
   ofs:=2*ofs+1
  lo:=hint+1 - min ofs maxofs
  hi:=hint - lastofs
 for _ in [0:n] do
  if lo≥hi then break
  let m:=lo+(hi - lo) / 2
  let some more <- af8 left key arr base m | return none
  if more then lo:=m+1 else hi:=m
 return some hi):=rfl
theorem au0 (g:Nat):O7 g=modify (fun s=>SortSt.mk' (kindOf s) (m8 s) (B6 s) g (N2 s)):=rfl
structure Ord (B:Keyed->Keyed->Bool):Prop where
 irr:∀ x,B x x=false
 tr:∀ x y z,B x y=true->B y z=true->B x z=true
 ng:∀ x y z,B x z=true->B x y=true\/B y z=true
def le (B:Keyed->Keyed->Bool)(x y:Keyed):Prop:=B y x=false
theorem Ord.rf (o:Ord B)(x:Keyed):le B x x:=o.irr x
theorem Ord.of_lt (o:Ord B){x y:Keyed}(h:B x y=true):le B x y:=by
 unfold le
 cases e:B y x with
 | false=>rfl
 | true =>
  have:=o.tr _ _ _ h e
  rw[o.irr]at this
  cases this
theorem Ord.trans (o:Ord B){x y z:Keyed}(h1:le B x y)(h2:le B y z):le B x z:=by
 unfold le at *
 cases e:B z x with
 | false=>rfl
 | true =>
  rcases o.ng _ y _ e with h | h
  ·rw[h2]at h;cases h
  ·rw[h1]at h;cases h
theorem Ord.lt_le (o:Ord B){x y z:Keyed}(h1:B x y=true)(h2:le B y z):B x z=true:=by
 unfold le at h2
 rcases o.ng _ z _ h1 with h | h
 ·exact h
 ·rw[h2]at h;cases h
theorem Ord.le_lt (o:Ord B){x y z:Keyed}(h1:le B x y)(h2:B y z=true):B x z=true:=by
 unfold le at h1
 rcases o.ng _ x _ h2 with h | h
 ·rw[h1]at h;cases h
 ·exact h
section
variable {S:Keyed->Prop}
def Cmp (prog:Program)(w:World)(A:Around)(E:Value->Shared->Prop)(s:Shared)(κ:SortKind)(S:Keyed->Prop)(B:Keyed->Keyed->Bool):Prop:=
 ∀ (x y:Keyed),S x->S y->∀ (Q:Bool->Shared->Prop),Q (B x y) s->v7 (t7 prog w) A (keyLt' κ x.1 y.1) Q (fun _ _=>False) s
theorem aA2 (C:Cmp prog w A E s κ S B){x y:Keyed}{st:SortSt}{Q:Option Bool->SortSt->Prop}(hk:kindOf st=κ)(hx:S x)(hy:S y)(h:Q (some (B x y)) st):wpS (t7 prog w) A E s (lt' x y) Q st:=by
 rw[lt'_eq]
 refine j4 (ax0 ?_)
 rw[hk]
 refine j4 (wpS_lift (wpAny_attempt ?_))
 refine C6 (C x y hx hy (fun b s'=>s'=s/\b=B x y) ⟨rfl,rfl⟩) (fun b s' hb=>?_) (fun _ _ f=>f.elim)
 obtain⟨rfl,rfl⟩:=hb
 exact⟨rfl,l9 h⟩
theorem C7 {arr:Array Keyed}{x:Keyed}{st:SortSt}{Q:Keyed->SortSt->Prop}(hi:arr[i]?=some x)(h:Q x st):wpS (t7 prog w) A E s (ai0 arr i) Q st:=by
 rw[elem'_eq,hi]
 exact l9 h
theorem bm2 (C:Cmp prog w A E s κ S B){x y:Keyed}{st:SortSt}{Q:Option Bool->SortSt->Prop}(hk:kindOf st=κ)(hi:(m8 st)[i]?=some x)(hj:(m8 st)[j]?=some y)(hx:S x)(hy:S y)(h:Q (some (B x y)) st) :
  wpS (t7 prog w) A E s (ltAt' i j) Q st:=by
 rw[ltAt'_eq]
 refine j4 (ax0 ?_)
 show wpS _ _ _ _ (do let x <- ai0 (m8 st) i;let y <- ai0 (m8 st) j;lt' x y) Q st
 exact j4 (C7 hi (j4 (C7 hj (aA2 C hk hx hy h))))
theorem ac4 {n:String}{st:SortSt}{Q:Unit->SortSt->Prop}(h:Q () st):wpS (t7 prog w) A E s (liftM (rule n):StateT SortSt Sem Unit) Q st:=wpS_lift (bE6 ⟨rfl,h⟩)
def byn (B:Keyed->Keyed->Bool)(left:Bool)(key x:Keyed):Bool:=if left=true then B x key else !B key x
theorem aZ6 (C:Cmp prog w A E s κ S B){left:Bool}{key x:Keyed}{arr:Array Keyed}{base:Nat}{st:SortSt}{Q:Option Bool->SortSt->Prop}(hk:kindOf st=κ)(hi:arr[base+i]?=some x)(hx:S x)(hy:S key)
  (h:Q (some (byn B left key x)) st):wpS (t7 prog w) A E s (af8 left key arr base i) Q st:=by
 unfold af8
 refine j4 (C7 hi ?_)
 cases left with
 | true=>exact aA2 C hk hx hy h
 | false=>exact j4 (aA2 C hk hy hx (l9 h))
theorem aI1 {st:SortSt} {Q:Option Nat->SortSt->Prop} (P:Nat->Bool) {f:Nat->Option (Option Nat) × Nat × Nat->StateT SortSt Sem (ForInStep (Option (Option Nat) × Nat × Nat))} {k:Option (Option Nat) × Nat × Nat->StateT SortSt Sem (Option Nat)}
  (mono:∀ i j,i<=j->j<n->P j=true->P i=true)
  (hf : ∀ x lo hi (R : ForInStep (Option (Option Nat) × Nat × Nat) -> SortSt -> Prop), hi <= n -> (hi <= lo -> R (.done (none, lo, hi)) st) -> (lo < hi -> P (lo + (hi - lo) / 2) = true -> R (.yield (none, lo + (hi - lo) / 2 + 1, hi)) st) ->
   (lo<hi->P (lo+(hi - lo) / 2)=false->R (.yield (none,lo,lo+(hi - lo) / 2)) st)->wpS (t7 prog w) A E s (f x (none,lo,hi)) R st)
  (hk:∀ lo hi (R:Option Nat->SortSt->Prop),R (some hi) st->wpS (t7 prog w) A E s (k (none,lo,hi)) R st)
  (h:∀ k,k<=n->(∀ i,i<k->P i=true)->(∀ i,k<=i->i<n->P i=false)->Q (some k) st) {lo hi:Nat}
  (h1:lo<=hi) (h2:hi<=n) (h3:∀ i,i<lo->P i=true) (h4:∀ i,hi<=i->i<n->P i=false) :
  wpS (t7 prog w) A E s (forIn [:n] ((none,lo,hi):Option (Option Nat) × Nat × Nat) f >>= k) Q st:=by
 have anti:∀ i j,i<=j->j<n->P i=false->P j=false:=fun i j h1 h2 h3=>by
  cases e:P j with
  | false=>rfl
  | true=>rw[mono i j h1 h2 e]at h3;cases h3
 refine j4 (V4 (E6 (I:=fun x c st'=>st'=st/\∃ lo hi,c=(none,lo,hi)/\lo<=hi/\hi<=n/\hi - lo<=n - x/\(∀ i,i<lo->P i=true)/\(∀ i,hi<=i->i<n->P i=false))
  (Q:=fun c st'=>st'=st/\∃ k,c=(none,k,k)/\k<=n/\(∀ i,i<k->P i=true)/\(∀ i,k<=i->i<n->P i=false)) ?step ?fin ⟨rfl,lo,hi,rfl,h1,h2,by omega,h3,h4⟩) ?post)
 case fin =>
  rintro c st' ⟨rfl,lo,hi,rfl,h1,h2,hm,h3,h4⟩
  have:lo=hi:=by omega
  subst this
  exact⟨rfl,lo,rfl,h2,h3,h4⟩
 case post =>
  rintro c st' ⟨rfl,k,rfl,h2,h3,h4⟩
  exact hk _ _ _ (h k h2 h3 h4)
 case step =>
  rintro x c st' _ hx ⟨rfl,lo,hi,rfl,h1,h2,hm,h3,h4⟩
  refine hf x lo hi _ h2 (fun hge=>?_) (fun hlt e=>?_) (fun hlt e=>?_)
  ·have:lo=hi:=by omega
   subst this
   exact⟨rfl,lo,rfl,h2,h3,h4⟩
  ·exact⟨rfl,_,hi,rfl,by omega,h2,by omega,fun i hi'=>mono i _ (by omega) (by omega) e,h4⟩
  ·exact⟨rfl,lo,_,rfl,by omega,by omega,by omega,h3,fun i h5 h6=>anti _ i h5 h6 e⟩
theorem aL5 {left:Bool} {key:Keyed} {arr:Array Keyed} {base hint:Nat} {st:SortSt} {Q:Option Nat->SortSt->Prop} (P:Nat->Bool)
  (hP:∀ i,i<n->∀ R:Option Bool->SortSt->Prop,R (some (P i)) st->wpS (t7 prog w) A E s (af8 left key arr base i) R st)
  (mono:∀ i j,i<=j->j<n->P j=true->P i=true) (hh:hint<n)
  (h:∀ k,k<=n->(∀ i,i<k->P i=true)->(∀ i,k<=i->i<n->P i=false)->Q (some k) st) :
  wpS (t7 prog w) A E s (X5 left key arr base n hint) Q st:=by
 have anti:∀ i j,i<=j->j<n->P i=false->P j=false:=fun i j h1 h2 h3=>by
  cases e:P j with
  | false=>rfl
  | true=>rw[mono i j h1 h2 e]at h3;cases h3
 rw[be0]
 dsimp only
 refine j4 (hP hint hh _ ?_)
 cases e0:P hint with
 | true =>
  dsimp only
  rw[if_pos rfl]
  refine j4 (V4 (E6 (I:=fun x c st'=>st'=st/\∃ l o,c=(none,l,o)/\l<o/\x+1<=o/\hint+l<n/\P (hint+l)=true)
   (Q:=fun c st'=>st'=st/\∃ l o,c=(none,l,o)/\l<o/\hint+l<n/\P (hint+l)=true/\(n - hint<=o\/(hint+o<n/\P (hint+o)=false))) ?step ?fin ⟨rfl,0,1,rfl,by omega,by omega,by omega,e0⟩) ?post)
  case fin =>
   rintro c st' ⟨rfl,l,o,rfl,h1,h2,h3,h4⟩
   exact⟨rfl,l,o,rfl,h1,h3,h4,.inl (by omega)⟩
  case post =>
   rintro c st' ⟨rfl,l,o,rfl,h1,h3,h4,h5⟩
   dsimp only
   refine aI1 P mono
    (fun x lo hi R hn a b c => by
     dsimp only
     by_cases hge:lo≥hi
     ·rw[if_pos hge]
      exact l9 (a hge)
     ·rw[if_neg hge]
      refine j4 (hP _ (by omega) _ ?_)
      cases e:P (lo+(hi - lo) / 2) with
      | true =>
       dsimp only
       rw[if_pos rfl]
       exact l9 (b (by omega) e)
      | false =>
       dsimp only
       rw[if_neg i6]
       exact l9 (c (by omega) e)) (fun lo hi R hR=>l9 hR) h (lo:=hint+l+1) (hi:=hint+min o (n - hint)) (by omega) (by omega) (fun i hi=>mono i _ (by omega) h3 h4) (fun i h6 h7=>?_)
   rcases h5 with h5 | ⟨h5,h8⟩
   ·omega
   ·exact anti _ i (by omega) h7 h8
  case step =>
   rintro x c st' _ hx ⟨rfl,l,o,rfl,h1,h2,h3,h4⟩
   dsimp only
   by_cases hge:o≥n - hint
   ·rw[if_pos hge]
    exact l9 ⟨rfl,l,o,rfl,h1,h3,h4,.inl hge⟩
   ·rw[if_neg hge]
    refine j4 (hP _ (by omega) _ ?_)
    cases e:P (hint+o) with
    | true =>
     dsimp only
     rw[if_neg (by simp)]
     exact l9 ⟨rfl,o,2*o+1,rfl,by omega,by omega,by omega,e⟩
    | false =>
     dsimp only
     rw[if_pos (by simp)]
     exact l9 ⟨rfl,l,o,rfl,h1,h3,h4,.inr ⟨by omega,e⟩⟩
 | false =>
  dsimp only
  rw[if_neg i6]
  refine j4 (V4 (E6 (I:=fun x c st'=>st'=st/\∃ l o,c=(none,l,o)/\l<o/\x+1<=o/\l<=hint/\P (hint - l)=false)
   (Q:=fun c st'=>st'=st/\∃ l o,c=(none,l,o)/\l<o/\l<=hint/\P (hint - l)=false/\(hint+1<=o\/(o<=hint/\P (hint - o)=true))) ?step ?fin ⟨rfl,0,1,rfl,by omega,by omega,by omega,e0⟩) ?post)
  case fin =>
   rintro c st' ⟨rfl,l,o,rfl,h1,h2,h3,h4⟩
   exact⟨rfl,l,o,rfl,h1,h3,h4,.inl (by omega)⟩
  case post =>
   rintro c st' ⟨rfl,l,o,rfl,h1,h3,h4,h5⟩
   dsimp only
   refine aI1 P mono
    (fun x lo hi R hn a b c => by
     dsimp only
     by_cases hge:lo≥hi
     ·rw[if_pos hge]
      exact l9 (a hge)
     ·rw[if_neg hge]
      refine j4 (hP _ (by omega) _ ?_)
      cases e:P (lo+(hi - lo) / 2) with
      | true =>
       dsimp only
       rw[if_pos rfl]
       exact l9 (b (by omega) e)
      | false =>
       dsimp only
       rw[if_neg i6]
       exact l9 (c (by omega) e)) (fun lo hi R hR=>l9 hR) h (lo:=hint+1 - min o (hint+1)) (hi:=hint - l) (by omega) (by omega) (fun i hi=>?_) (fun i h6 h7=>anti _ i h6 h7 h4)
   rcases h5 with h5 | ⟨h5,h8⟩
   ·omega
   ·exact mono i _ (by omega) (by omega) h8
  case step =>
   rintro x c st' _ hx ⟨rfl,l,o,rfl,h1,h2,h3,h4⟩
   dsimp only
   by_cases hge:o≥hint+1
   ·rw[if_pos hge]
    exact l9 ⟨rfl,l,o,rfl,h1,h3,h4,.inl hge⟩
   ·rw[if_neg hge]
    refine j4 (hP _ (by omega) _ ?_)
    cases e:P (hint - o) with
    | true =>
     dsimp only
     rw[if_pos rfl]
     exact l9 ⟨rfl,l,o,rfl,h1,h3,h4,.inr ⟨by omega,e⟩⟩
    | false =>
     dsimp only
     rw[if_neg i6]
     exact l9 ⟨rfl,o,2*o+1,rfl,by omega,by omega,by omega,e⟩
theorem V2 (o:Ord B)(C:Cmp prog w A E s κ S B){left:Bool}{key:Keyed}{arr:Array Keyed}{base hint:Nat}{st:SortSt}{Q:Option Nat->SortSt->Prop}(hk:kindOf st=κ)(hkey:S key)(hb:base+n<=arr.size)
  (hS:∀ (i:Nat) (x:Keyed),i<n->arr[base+i]?=some x->S x)
  (hs:∀ (i j:Nat) (x y:Keyed),i<=j->j<n->arr[base+i]?=some x->arr[base+j]?=some y->le B x y)(hh:hint<n)
  (h:∀ k,k<=n->(∀ (i:Nat) (x:Keyed),i<k->arr[base+i]?=some x->byn B left key x=true)->(∀ (i:Nat) (x:Keyed),k<=i->i<n->arr[base+i]?=some x->byn B left key x=false)->Q (some k) st) :
  wpS (t7 prog w) A E s (X5 left key arr base n hint) Q st:=by
 have ex:∀ i,i<n->∃ x,arr[base+i]?=some x:=fun i hi=>⟨arr[base+i]'(by omega),getElem?_pos arr _ (by omega)⟩
 have ev:∀ (i:Nat) (x:Keyed),arr[base+i]?=some x->((arr[base+i]?).getD key)=x:=fun i x e=>by rw[e];rfl
 refine aL5 (fun i=>byn B left key ((arr[base+i]?).getD key)) (fun i hi R hR=>?_) (fun i j hij hj hp=>?_) hh (fun k hk' h1 h2=>h k hk' (fun i x hi e=>?_) (fun i x h3 h4 e=>?_))
 ·obtain⟨x,e⟩:=ex i hi
  rw[ev i x e]at hR
  exact aZ6 C hk e (hS i x hi e) hkey hR
 ·obtain⟨x,e⟩:=ex i (by omega)
  obtain⟨y,e'⟩:=ex j hj
  rw[ev j y e']at hp
  rw[ev i x e]
  have l:=hs i j x y hij hj e e'
  unfold byn at hp ⊢
  cases left with
  | true =>
   simp only[if_true]at hp ⊢
   exact o.le_lt l hp
  | false =>
   simp only[m5,if_false,aH9]at hp ⊢
   exact o.trans l hp
 ·have:=h1 i hi;rw[ev i x e]at this;exact this
 ·have:=h2 i h3 h4;rw[ev i x e]at this;exact this
end
theorem aU4 (a b:Array Keyed):aC9 a b=(do
 rule "list.sort.merge-lo"
 let total:=a.size+b.size
 let done (out:Array Keyed) (ia ib:Nat):=out++a.extract ia a.size++b.extract ib b.size
 let lastOfA (out:Array Keyed) (ia ib:Nat):=out++b.extract ib b.size++a.extract ia a.size
 let mut out:Array Keyed:=#[<- ai0 b 0]
 let mut ia:=0
 let mut ib:=1
 if ib == b.size then return done out ia ib
 if ia+1 == a.size then return lastOfA out ia ib
 let mut minGallop:=gallopOf (<- get)
 for _ in [0:total] do
  let mut acount:=0
  let mut bcount:=0
  for _ in [0:total] do
   let some bWins <- lt' (<- ai0 b ib) (<- ai0 a ia) | return done out ia ib
   if bWins then
    out:=out.push (<- ai0 b ib);ib:=ib+1;bcount:=bcount+1;acount:=0
    if ib == b.size then return done out ia ib
    if bcount≥minGallop then break
   else
    out:=out.push (<- ai0 a ia);ia:=ia+1;acount:=acount+1;bcount:=0
    if ia+1 == a.size then return lastOfA out ia ib
    if acount≥minGallop then break
  rule "list.sort.gallop"
  minGallop:=minGallop+1
  for _ in [0:total] do
   if minGallop > 1 then minGallop:=minGallop - 1
   O7 minGallop
   let some k <- X5 false (<- ai0 b ib) a ia (a.size - ia) 0 | return done out ia ib
   acount:=k
   if k > 0 then
    out:=out++a.extract ia (ia+k);ia:=ia+k
    if ia+1 == a.size then return lastOfA out ia ib
    if ia == a.size then return done out ia ib
   out:=out.push (<- ai0 b ib);ib:=ib+1
   if ib == b.size then return done out ia ib
   let some k <- X5 true (<- ai0 a ia) b ib (b.size - ib) 0 | return done out ia ib
   bcount:=k
   if k > 0 then
    out:=out++b.extract ib (ib+k);ib:=ib+k
    if ib == b.size then return done out ia ib
   out:=out.push (<- ai0 a ia);ia:=ia+1
   if ia+1 == a.size then return lastOfA out ia ib
   if acount<7 && bcount<7 then break
  minGallop:=minGallop+1
  O7 minGallop
 ah2 "internal:list.sort.merge-bound"):=rfl
theorem aU5 (a b:Array Keyed):aD0 a b=(do
 rule "list.sort.merge-hi"
 let total:=a.size+b.size
 let done (out:Array Keyed) (na nb:Nat):=a.extract 0 na++b.extract 0 nb++out.reverse
 let firstOfB (out:Array Keyed) (na nb:Nat):=b.extract 0 nb++a.extract 0 na++out.reverse
 let mut na:=a.size - 1
 let mut nb:=b.size
 let mut out:Array Keyed:=#[<- ai0 a na]
 if na == 0 then return done out na nb
 if nb == 1 then return firstOfB out na nb
 let mut minGallop:=gallopOf (<- get)
 for _ in [0:total] do
  let mut acount:=0
  let mut bcount:=0
  for _ in [0:total] do
   let some aWins <- lt' (<- ai0 b (nb - 1)) (<- ai0 a (na - 1)) | return done out na nb
   if aWins then
    na:=na - 1;out:=out.push (<- ai0 a na);acount:=acount+1;bcount:=0
    if na == 0 then return done out na nb
    if acount≥minGallop then break
   else
    nb:=nb - 1;out:=out.push (<- ai0 b nb);bcount:=bcount+1;acount:=0
    if nb == 1 then return firstOfB out na nb
    if bcount≥minGallop then break
  rule "list.sort.gallop"
  minGallop:=minGallop+1
  for _ in [0:total] do
   if minGallop > 1 then minGallop:=minGallop - 1
   O7 minGallop
   let some at_ <- X5 false (<- ai0 b (nb - 1)) a 0 na (na - 1) | return done out na nb
   let k:=na - at_
   acount:=k
   if k > 0 then
    out:=out++(a.extract at_ na).reverse;na:=at_
    if na == 0 then return done out na nb
   nb:=nb - 1;out:=out.push (<- ai0 b nb)
   if nb == 1 then return firstOfB out na nb
   let some at_ <- X5 true (<- ai0 a (na - 1)) b 0 nb (nb - 1) | return done out na nb
   let k:=nb - at_
   bcount:=k
   if k > 0 then
    out:=out++(b.extract at_ nb).reverse;nb:=at_
    if nb == 1 then return firstOfB out na nb
    if nb == 0 then return done out na nb
   na:=na - 1;out:=out.push (<- ai0 a na)
   if na == 0 then return done out na nb
   if acount<7 && bcount<7 then break
  minGallop:=minGallop+1
  O7 minGallop
 ah2 "internal:list.sort.merge-bound"):=rfl
structure MI (R:Keyed->Keyed->Prop) (out ra rb all:List Keyed):Prop where
 so:out.Pairwise R
 oa:∀ x∈out,∀ y∈ra,R x y
 ob:∀ x∈out,∀ y∈rb,R x y
 sa:ra.Pairwise R
 sb:rb.Pairwise R
 pm:(out++(ra++rb)).Perm all
theorem MI.blkA {blk all:List Keyed}(m:MI R out (blk++ra) rb all)(h:∀ x∈blk,∀ y∈rb,R x y):MI R (out++blk) ra rb all:=by
 obtain⟨s1,s2,s3⟩:=q8.mp m.sa
 refine⟨q8.mpr ⟨m.so,s1,fun x hx y hy=>m.oa x hx y (F1 _ hy)⟩,fun x hx y hy=>?_,fun x hx y hy=>?_,s2,m.sb,?_⟩
 ·rcases m7.mp hx with hx | hx
  ·exact m.oa x hx y (j7 _ hy)
  ·exact s3 x hx y hy
 ·rcases m7.mp hx with hx | hx
  ·exact m.ob x hx y hy
  ·exact h x hx y hy
 ·have:=m.pm
  simpa [v9] using this
theorem MI.blkB {blk all:List Keyed}(m:MI R out ra (blk++rb) all)(h:∀ x∈blk,∀ y∈ra,R x y):MI R (out++blk) ra rb all:=by
 obtain⟨s1,s2,s3⟩:=q8.mp m.sb
 refine⟨q8.mpr ⟨m.so,s1,fun x hx y hy=>m.ob x hx y (F1 _ hy)⟩,fun x hx y hy=>?_,fun x hx y hy=>?_,m.sa,s2,?_⟩
 ·rcases m7.mp hx with hx | hx
  ·exact m.oa x hx y hy
  ·exact h x hx y hy
 ·rcases m7.mp hx with hx | hx
  ·exact m.ob x hx y (j7 _ hy)
  ·exact s3 x hx y hy
 ·refine List.Perm.trans ?_ m.pm
  rw[v9]
  refine List.Perm.append_left _ ?_
  rw[<- v9,<- v9]
  exact List.Perm.append_right _ as7
theorem MI.oneA {x:Keyed}{all:List Keyed}(m:MI R out (x::ra) rb all)(h:∀ y∈rb,R x y):MI R (out++[x]) ra rb all:=
 MI.blkA (blk:=[x]) m fun z hz y hy=>by rw[j8.mp hz];exact h y hy
theorem MI.oneB {x:Keyed}{all:List Keyed}(m:MI R out ra (x::rb) all)(h:∀ y∈ra,R x y):MI R (out++[x]) ra rb all:=
 MI.blkB (blk:=[x]) m fun z hz y hy=>by rw[j8.mp hz];exact h y hy
theorem MI.endAB {all:List Keyed}(m:MI R out ra rb all)(h:∀ x∈ra,∀ y∈rb,R x y):(out++(ra++rb)).Pairwise R/\(out++(ra++rb)).Perm all:=by
 refine⟨q8.mpr ⟨m.so,q8.mpr ⟨m.sa,m.sb,h⟩,fun x hx y hy=>?_⟩,m.pm⟩
 rcases m7.mp hy with hy | hy
 ·exact m.oa x hx y hy
 ·exact m.ob x hx y hy
theorem MI.endBA {all:List Keyed}(m:MI R out ra rb all)(h:∀ x∈rb,∀ y∈ra,R x y):(out++(rb++ra)).Pairwise R/\(out++(rb++ra)).Perm all:=by
 refine⟨q8.mpr ⟨m.so,q8.mpr ⟨m.sb,m.sa,h⟩,fun x hx y hy=>?_⟩,List.Perm.trans (List.Perm.append_left _ as7) m.pm⟩
 rcases m7.mp hy with hy | hy
 ·exact m.ob x hx y hy
 ·exact m.oa x hx y hy
theorem drop_cons {α:Type}{l:List α}{x:α}(h:l[i]?=some x):l.drop i=x::l.drop (i+1):=by
 obtain⟨hi,rfl⟩:=d5.mp h
 exact ah6 hi
theorem ap3 {α:Type}(l:List α)(i k:Nat):l.drop i=(l.drop i).take k++l.drop (i+k):=by
 rw[<- bf0]
 exact(A0 k (l.drop i)).symm
theorem F7 {α:Type}{l:List α}{x:α}(h:x∈l.drop i):∃ j,i<=j/\j<l.length/\l[j]?=some x:=by
 obtain⟨k,hk⟩:=o5.mp h
 rw[M5]at hk
 exact⟨i+k,by omega,(d5.mp hk).1,hk⟩
theorem V6 {α:Type}{l:List α}{k:Nat}{x:α}(h:x∈(l.drop i).take k):∃ j,j<k/\l[i+j]?=some x:=by
 obtain⟨j,hj⟩:=o5.mp h
 rw[Q5]at hj
 split at hj
 ·rename_i hlt
  rw[M5]at hj
  exact⟨j,hlt,hj⟩
 ·cases hj
theorem aW9 (a:Array Keyed)(i k:Nat):(a.extract i (i+k)).toList=(a.toList.drop i).take k:=by
 rw[S8,U5,P7]
theorem az3 (a:Array Keyed)(i:Nat):(a.extract i a.size).toList=a.toList.drop i:=by
 rw[S8,U5]
 exact k7 (by simp)
theorem aO3 (a:Array Keyed)(i:Nat):(a.extract 0 i).toList=a.toList.take i:=by
 rw[S8,U5,bf1,Nat.sub_zero]
structure Sm (st st':SortSt):Prop where
 k:kindOf st'=kindOf st
 a:m8 st'=m8 st
 p:B6 st'=B6 st
 f:N2 st'=N2 st
theorem Sm.rfl' (st:SortSt):Sm st st:=⟨rfl,rfl,rfl,rfl⟩
theorem Sm.mg {st st':SortSt}(h:Sm st st')(g:Nat):Sm st (SortSt.mk' (kindOf st') (m8 st') (B6 st') g (N2 st')):=⟨h.k,h.a,h.p,h.f⟩
section
variable {S:Keyed->Prop}
theorem ak8 {g:Nat}{st:SortSt}{Q:Unit->SortSt->Prop}(h:Q () (SortSt.mk' (kindOf st) (m8 st) (B6 st) g (N2 st))):wpS (t7 prog w) A E s (O7 g) Q st:=by
 rw[au0]
 exact ax8 h
structure LoI (B:Keyed->Keyed->Bool) (a b out:Array Keyed) (ia ib:Nat):Prop where
 m:MI (le B) out.toList (a.toList.drop ia) (b.toList.drop ib) (a.toList++b.toList)
 ha:ia+1<a.size
 hb:ib<b.size
 sz:out.size=ia+ib
def Good (B:Keyed->Keyed->Bool)(a b r:Array Keyed):Prop:=r.toList.Pairwise (le B)/\r.toList.Perm (a.toList++b.toList)
theorem J2 {α σ:Type}{c:Prop}[Decidable c]{X Y:StateT σ Sem α}{Q:α->σ->Prop}{st:σ}(h:c)(k:wpS M A E s X Q st):wpS M A E s (if c then X else Y) Q st:=by
 rw[if_pos h]
 exact k
theorem G5 {α σ:Type}{c:Prop}[Decidable c]{X Y:StateT σ Sem α}{Q:α->σ->Prop}{st:σ}(h:¬ c)(k:wpS M A E s Y Q st):wpS M A E s (if c then X else Y) Q st:=by
 rw[if_neg h]
 exact k
theorem ak7 {α σ:Type}{c:Prop}[Decidable c]{X Y:StateT σ Sem α}{Q:α->σ->Prop}{st:σ}(h:wpS M A E s X Q st)(k:wpS M A E s Y Q st):wpS M A E s (if c then X else Y) Q st:=by
 split
 ·exact h
 ·exact k
theorem aQ5 {α σ:Type}{c:Nat->Prop}[∀ m,Decidable (c m)]{X Y:Nat->StateT σ Sem α}{Q:α->σ->Prop}{st:σ}(hX:∀ m,X m=Y (m - 1))(h:∀ m,wpS M A E s (Y m) Q st):∀ m,wpS M A E s (if c m then X m else Y m) Q st:=fun m=>by
 split
 ·rw[hX]
  exact h _
 ·exact h m
theorem aq3 {α σ β γ:Type}{u0:β}{v0:γ}{c:β->γ->Prop}[∀ u v,Decidable (c u v)]{X Y:β->γ->StateT σ Sem α}{Q:α->σ->Prop}{st:σ}{R:β->γ->Prop}(J:∀ u v,R u v->wpS M A E s (Y u v) Q st)(h1:c u0 v0->(∀ u v,R u v->wpS M A E s (Y u v) Q st)->wpS M A E s (X u0 v0) Q st)(h2:¬ c u0 v0->R u0 v0):∀ u,u0=u->∀ v,v0=v->wpS M A E s (if c u v then X u v else Y u v) Q st:=by
 rintro _ rfl _ rfl
 by_cases h:c u0 v0
 ·rw[if_pos h]
  exact h1 h J
 ·rw[if_neg h]
  exact J u0 v0 (h2 h)
theorem aQ3 (o:Ord B)(C:Cmp prog w A E s κ S B){a b:Array Keyed}{st:SortSt}{Q:Array Keyed->SortSt->Prop}(hk:kindOf st=κ)(hSa:∀ x∈a.toList,S x)(hSb:∀ x∈b.toList,S x)
  (sa:a.toList.Pairwise (le B))(sb:b.toList.Pairwise (le B))(ha:0<a.size)(hb:0<b.size)
  (h0:∀ x y,b[0]?=some x->a[0]?=some y->B x y=true)(hl:∀ x∈b.toList,∀ y,a[a.size - 1]?=some y->B x y=true)
  (h:∀ r st',Sm st st'->Good B a b r->Q r st'):wpS (t7 prog w) A E s (aC9 a b) Q st:=by
 have ga:∀ i,i<a.size->∃ x,a[i]?=some x/\a.toList[i]?=some x/\S x:=fun i hi=>by
  refine⟨a[i],getElem?_pos a i hi,by rw[d3];exact getElem?_pos a i hi,hSa _ (by simp)⟩
 have gb:∀ i,i<b.size->∃ x,b[i]?=some x/\b.toList[i]?=some x/\S x:=fun i hi=>by
  refine⟨b[i],getElem?_pos b i hi,by rw[d3];exact getElem?_pos b i hi,hSb _ (by simp)⟩
 have leA:∀ (i j:Nat) (x y:Keyed),i<=j->a.toList[i]?=some x->a.toList[j]?=some y->le B x y:=fun i j x y hij hx hy=>by
  obtain⟨h1,rfl⟩:=d5.mp hx
  obtain⟨h2,rfl⟩:=d5.mp hy
  rcases J5 hij with hlt | rfl
  ·exact p7.mp sa i j h1 h2 hlt
  ·exact o.rf _
 have leB:∀ (i j:Nat) (x y:Keyed),i<=j->b.toList[i]?=some x->b.toList[j]?=some y->le B x y:=fun i j x y hij hx hy=>by
  obtain⟨h1,rfl⟩:=d5.mp hx
  obtain⟨h2,rfl⟩:=d5.mp hy
  rcases J5 hij with hlt | rfl
  ·exact p7.mp sb i j h1 h2 hlt
  ·exact o.rf _
 have tl:∀ (z:Array Keyed) (i:Nat),z[i]?=z.toList[i]?:=fun z i=>(d3 ..).symm
 have goodDone:∀ (out:Array Keyed) (ia ib:Nat),MI (le B) out.toList (a.toList.drop ia) (b.toList.drop ib) (a.toList++b.toList)->ib=b.size->Good B a b (out++a.extract ia a.size++b.extract ib b.size):=fun out ia ib m e=>by
  have en:b.toList.drop ib=[]:=by rw[e];exact G1 (by simp)
  have:=m.endAB (fun x _ y hy=>by rw[en]at hy;cases hy)
  unfold Good
  rw[B5,B5,az3,az3,v9]
  exact this
 have lastA:∀ (ia:Nat) (x:Keyed),ia+1=a.size->x∈a.toList.drop ia->a[a.size - 1]?=some x:=fun ia x e hx=>by
  obtain⟨j,h1,h2,h3⟩:=F7 hx
  have:j=a.size - 1:=by rw[j9]at h2;omega
  rw[<- this,tl]
  exact h3
 have goodLast:∀ (out:Array Keyed) (ia ib:Nat),MI (le B) out.toList (a.toList.drop ia) (b.toList.drop ib) (a.toList++b.toList)->ia+1=a.size->Good B a b (out++b.extract ib b.size++a.extract ia a.size):=fun out ia ib m e=>by
  have:=m.endBA (fun x hx y hy=>o.of_lt (hl x (N7 hx) y (lastA ia y e hy)))
  unfold Good
  rw[B5,B5,az3,az3,v9]
  exact this
 have pushB:∀ (out:Array Keyed) (ia ib:Nat) (x:Keyed),MI (le B) out.toList (a.toList.drop ia) (b.toList.drop ib) (a.toList++b.toList)->b.toList[ib]?=some x->(∀ y∈a.toList.drop ia,le B x y) ->
   MI (le B) (out.push x).toList (a.toList.drop ia) (b.toList.drop (ib+1)) (a.toList++b.toList):=fun out ia ib x m e hx=>by
  rw[drop_cons e]at m
  rw[W8]
  exact m.oneB hx
 have pushA:∀ (out:Array Keyed) (ia ib:Nat) (x:Keyed),MI (le B) out.toList (a.toList.drop ia) (b.toList.drop ib) (a.toList++b.toList)->a.toList[ia]?=some x->(∀ y∈b.toList.drop ib,le B x y) ->
   MI (le B) (out.push x).toList (a.toList.drop (ia+1)) (b.toList.drop ib) (a.toList++b.toList):=fun out ia ib x m e hx=>by
  rw[drop_cons e]at m
  rw[W8]
  exact m.oneA hx
 have blkA:∀ (out:Array Keyed) (ia ib k:Nat),MI (le B) out.toList (a.toList.drop ia) (b.toList.drop ib) (a.toList++b.toList)->(∀ x∈(a.toList.drop ia).take k,∀ y∈b.toList.drop ib,le B x y) ->
   MI (le B) (out++a.extract ia (ia+k)).toList (a.toList.drop (ia+k)) (b.toList.drop ib) (a.toList++b.toList):=fun out ia ib k m hx=>by
  rw[ap3 a.toList ia k]at m
  rw[B5,aW9]
  exact m.blkA hx
 have blkB:∀ (out:Array Keyed) (ia ib k:Nat),MI (le B) out.toList (a.toList.drop ia) (b.toList.drop ib) (a.toList++b.toList)->(∀ x∈(b.toList.drop ib).take k,∀ y∈a.toList.drop ia,le B x y) ->
   MI (le B) (out++b.extract ib (ib+k)).toList (a.toList.drop ia) (b.toList.drop (ib+k)) (a.toList++b.toList):=fun out ia ib k m hx=>by
  rw[ap3 b.toList ib k]at m
  rw[B5,aW9]
  exact m.blkB hx
 rw[aU4]
 refine j4 (ac4 ?_)
 obtain⟨b0,eb0,eb0',Sb0⟩:=gb 0 hb
 obtain⟨a0,ea0,ea0',Sa0⟩:=ga 0 ha
 have lt0:=h0 b0 a0 eb0 ea0
 refine j4 (C7 eb0 ?_)
 have m0:MI (le B) ([]:List Keyed) (a.toList.drop 0) (b.toList.drop 0) (a.toList++b.toList):=⟨List.Pairwise.nil,(fun _ hx=>nomatch hx),(fun _ hx=>nomatch hx),sa,sb,List.Perm.refl _⟩
 have m1:MI (le B) (#[b0]:Array Keyed).toList (a.toList.drop 0) (b.toList.drop 1) (a.toList++b.toList):=pushB #[] 0 0 b0 m0 eb0' fun y hy=>by
  obtain⟨j,h1,h2,h3⟩:=F7 hy
  exact o.of_lt (o.lt_le lt0 (leA 0 j a0 y (r9 _) ea0' h3))
 by_cases e1:1=b.size
 ·refine J2 (by simpa using e1) ?_
  exact l9 (h _ st (Sm.rfl' st) (goodDone _ 0 1 m1 e1))
 refine G5 (by simpa using e1) ?_
 by_cases e2:0+1=a.size
 ·refine J2 (by simpa using e2) ?_
  exact l9 (h _ st (Sm.rfl' st) (goodLast _ 0 1 m1 e2))
 refine G5 (by simpa using e2) ?_
 refine j4 (ax0 ?_)
 have I0:LoI B a b #[b0] 0 1:=⟨m1,by omega,by omega,rfl⟩
 refine j4 (V4 (E6
  (I:=fun x c st'=>Sm st st'/\∃ out ia ib mg,c=(none,out,ia,ib,mg)/\LoI B a b out ia ib/\x+1<=out.size)
  (Q:=fun c st'=>Sm st st'/\∃ r out ia ib mg,c=(some r,out,ia,ib,mg)/\Good B a b r) ?step ?fin ⟨Sm.rfl' st,#[b0],0,1,_,rfl,I0,by simp⟩) ?post)
 case fin =>
  rintro c st' ⟨hS,out,ia,ib,mg,rfl,I,hx⟩
  have h1:=I.sz
  have h2:=I.ha
  have h3:=I.hb
  exfalso
  omega
 case post =>
  rintro c st' ⟨hS,r,out,ia,ib,mg,rfl,hg⟩
  exact l9 (h r st' hS hg)
 case step =>
  rintro x c st1 _ hx ⟨hS1,out,ia,ib,mg,rfl,I,hsz⟩
  refine j4 (V4 (E6
   (I:=fun j c st'=>Sm st st'/\∃ out' ia' ib' ac bc,c=(none,out',ia',ib',ac,bc)/\LoI B a b out' ia' ib'/\x+1<=out'.size/\(1<=j->x+2<=out'.size))
   (Q:=fun c st'=>Sm st st'/\((∃ r out' ia' ib' ac bc,c=(some r,out',ia',ib',ac,bc)/\Good B a b r)\/(∃ out' ia' ib' ac bc,c=(none,out',ia',ib',ac,bc)/\LoI B a b out' ia' ib'/\x+2<=out'.size)))
   ?istep ?ifin ⟨hS1,out,ia,ib,0,0,rfl,I,hsz,by omega⟩) ?ipost)
  case ifin =>
   rintro c st' ⟨hS,out',ia',ib',ac,bc,rfl,I',h1,h2⟩
   exact⟨hS,.inr ⟨out',ia',ib',ac,bc,rfl,I',h2 (by omega)⟩⟩
  case istep =>
   rintro j c st' _ hj ⟨hS,out',ia',ib',ac,bc,rfl,I',h1,_⟩
   obtain⟨bx,eb,eb',Sb⟩:=gb ib' I'.hb
   obtain⟨ax,ea,ea',Sa⟩:=ga ia' (by have:=I'.ha;omega)
   refine j4 (C7 eb (j4 (C7 ea (j4 (aA2 C (hS.k.trans hk) Sb Sa ?_)))))
   cases ew:B bx ax with
   | true =>
    refine J2 rfl ?_
    refine j4 (C7 eb ?_)
    have m2:=pushB out' ia' ib' bx I'.m eb' fun y hy=>by
     obtain⟨j,h1,h2,h3⟩:=F7 hy
     exact o.of_lt (o.lt_le ew (leA ia' j ax y h1 ea' h3))
    by_cases e3:ib'+1=b.size
    ·refine J2 (by simpa using e3) ?_
     exact l9 ⟨hS,.inl ⟨_,_,_,_,_,_,rfl,goodDone _ _ _ m2 e3⟩⟩
    refine G5 (by simpa using e3) ?_
    have I2:LoI B a b (out'.push bx) ia' (ib'+1):=⟨m2,I'.ha,by have:=I'.hb;omega,by rw[A7,I'.sz];omega⟩
    have z2:x+2<=(out'.push bx).size:=by rw[A7];omega
    refine ak7 ?_ ?_
    ·exact l9 ⟨hS,.inr ⟨_,_,_,_,_,rfl,I2,z2⟩⟩
    ·exact l9 ⟨hS,_,_,_,_,_,rfl,I2,am3 z2,fun _=>z2⟩
   | false =>
    refine G5 i6 ?_
    refine j4 (C7 ea ?_)
    have m2:=pushA out' ia' ib' ax I'.m ea' fun y hy=>by
     obtain⟨j,h1,h2,h3⟩:=F7 hy
     exact o.trans ew (leB ib' j bx y h1 eb' h3)
    by_cases e3:ia'+1+1=a.size
    ·refine J2 (by simpa using e3) ?_
     exact l9 ⟨hS,.inl ⟨_,_,_,_,_,_,rfl,goodLast _ _ _ m2 e3⟩⟩
    refine G5 (by simpa using e3) ?_
    have I2:LoI B a b (out'.push ax) (ia'+1) ib':=⟨m2,by have:=I'.ha;omega,I'.hb,by rw[A7,I'.sz];omega⟩
    have z2:x+2<=(out'.push ax).size:=by rw[A7];omega
    refine ak7 ?_ ?_
    ·exact l9 ⟨hS,.inr ⟨_,_,_,_,_,rfl,I2,z2⟩⟩
    ·exact l9 ⟨hS,_,_,_,_,_,rfl,I2,am3 z2,fun _=>z2⟩
  case ipost =>
   rintro c st2 ⟨hS2,⟨r,out',ia',ib',ac,bc,rfl,hg⟩ | ⟨out',ia',ib',ac,bc,rfl,I',hz⟩⟩
   ·exact l9 ⟨hS2,r,_,_,_,_,rfl,hg⟩
   refine j4 (ac4 ?_)
   refine j4 (V4 (E6
    (I:=fun j c st'=>Sm st st'/\∃ out' ia' ib' mg ac bc,c=(none,out',ia',ib',mg,ac,bc)/\LoI B a b out' ia' ib'/\x+2<=out'.size)
    (Q:=fun c st'=>Sm st st'/\((∃ r out' ia' ib' mg ac bc,c=(some r,out',ia',ib',mg,ac,bc)/\Good B a b r)\/(∃ out' ia' ib' mg ac bc,c=(none,out',ia',ib',mg,ac,bc)/\LoI B a b out' ia' ib'/\x+2<=out'.size)))
    ?gstep ?gfin ⟨hS2,out',ia',ib',_,ac,bc,rfl,I',hz⟩) ?gpost)
   case gfin =>
    rintro c st' ⟨hS,out',ia',ib',mg,ac,bc,rfl,I',h1⟩
    exact⟨hS,.inr ⟨out',ia',ib',mg,ac,bc,rfl,I',h1⟩⟩
   case gpost =>
    rintro c st3 ⟨hS3,⟨r,out',ia',ib',mg,ac,bc,rfl,hg⟩ | ⟨out',ia',ib',mg,ac,bc,rfl,I',hz⟩⟩
    ·exact l9 ⟨hS3,r,_,_,_,_,rfl,hg⟩
    exact j4 (ak8 (l9 ⟨hS3.mg _,_,_,_,_,rfl,I',by omega⟩))
   case gstep =>
    rintro j c st' _ hj ⟨hS,out',ia',ib',mg,ac,bc,rfl,I',hz⟩
    dsimp (config:={ zeta:=false }) only
    obtain⟨bx,eb,eb',Sb⟩:=gb ib' I'.hb
    obtain⟨al,eal,eal',Sal⟩:=ga (a.size - 1) (by omega)
    revert mg
    refine aQ5 (fun _=>rfl) fun mg1=>?_
    try dsimp (config:={ zeta:=false }) only
    refine j4 (ak8 (j4 (C7 eb ?_)))
    refine j4 (V2 o C (hS.k.trans hk) Sb (by have:=I'.ha;omega) (fun i y hi e=>hSa y (b9 (by rw[<- tl];exact e))) (fun i j y z hij hj e e'=>leA _ _ y z (V1 hij _) (by rw[<- tl];exact e) (by rw[<- tl];exact e')) (by have:=I'.ha;omega) fun k hkn hlt hge=>?_)
    dsimp (config:={ zeta:=false }) only
    have hS':=hS
    have hlt':∀ y∈(a.toList.drop ia').take k,∀ z∈b.toList.drop ib',le B y z:=fun y hy z hz'=>by
     obtain⟨i,hi,e⟩:=V6 hy
     have q:=hlt i y hi (by rw[tl];exact e)
     obtain⟨j',h1,h2,h3⟩:=F7 hz'
     simp only[byn,m5,if_false,aH9]at q
     exact o.trans q (leB ib' j' bx z h1 eb' h3)
    have m1':=blkA out' ia' ib' k I'.m hlt'
    have hge':∀ y∈a.toList.drop (ia'+k),B bx y=true:=fun y hy=>by
     obtain⟨j',h1,h2,h3⟩:=F7 hy
     have q:=hge (j' - ia') y (by omega) (by rw[j9]at h2;omega) (by rw[show ia'+(j' - ia')=j' by omega,tl];exact h3)
     simpa [byn] using q
    have hka:ia'+k<a.size:=by
     rcases D8 (ia'+k) a.size with q | q
     ·exact q
     ·exfalso
      have h9:=I'.ha
      have q1:=hlt (a.size - 1 - ia') al (by omega) (by rw[show ia'+(a.size - 1 - ia')=a.size - 1 by omega];exact eal)
      have q2:=hl bx (b9 eb') al eal
      simp[byn,q2]at q1
    generalize eo:out'=o
    generalize en:ia'=n
    revert o n
    refine aq3 (R:=fun out1 ia1=>MI (le B) out1.toList (a.toList.drop ia1) (b.toList.drop ib') (a.toList++b.toList)/\(∀ y∈a.toList.drop ia1,B bx y=true)/\ia1+1<a.size/\out1.size=ia1+ib'/\x+2<=out1.size) ?_ (fun hk J=>?_) (fun hk=>?_)
    rotate_left
    ·by_cases e4:ia'+k+1=a.size
     ·refine J2 (by simpa using e4) ?_
      exact l9 ⟨hS.mg _,.inl ⟨_,_,_,_,_,_,_,rfl,goodLast _ _ _ m1' e4⟩⟩
     refine G5 (by simpa using e4) (G5 (by simp;omega) ?_)
     exact J (out'++a.extract ia' (ia'+k)) (ia'+k) ⟨m1',hge',by omega,by rw[G3,E4,I'.sz];omega,by rw[G3];omega⟩
    ·have e9:k=0:=by omega
     rw[e9]at hge'
     exact⟨I'.m,hge',I'.ha,I'.sz,hz⟩
    rintro out1 ia1 ⟨m1,hge1,hne1,sz1,z1⟩
    refine j4 (C7 eb ?_)
    have m2:=pushB out1 ia1 ib' bx m1 eb' fun y hy=>o.of_lt (hge1 y hy)
    by_cases e5:ib'+1=b.size
    ·refine J2 (by simpa using e5) ?_
     exact l9 ⟨hS.mg _,.inl ⟨_,_,_,_,_,_,_,rfl,goodDone _ _ _ m2 e5⟩⟩
    refine G5 (by simpa using e5) ?_
    generalize ho:out1.push bx=o2 at m2 ⊢
    have so2:o2.size=out1.size+1:=by rw[<- ho,A7]
    generalize hn:ib'+1=n2 at m2 e5 ⊢
    obtain⟨ax,ea,ea',Sa⟩:=ga ia1 (by omega)
    have hib:=I'.hb
    refine j4 (C7 ea ?_)
    refine j4 (V2 o C (hS.k.trans hk) Sa (by omega) (fun i y hi e=>hSb y (b9 (by rw[<- tl];exact e))) (fun i j y z hij hj e e'=>leB _ _ y z (V1 hij _) (by rw[<- tl];exact e) (by rw[<- tl];exact e')) (by omega) fun k' hkn' hlt2 hge2=>?_)
    dsimp (config:={ zeta:=false }) only
    have hlt2':∀ y∈(b.toList.drop n2).take k',∀ z∈a.toList.drop ia1,le B y z:=fun y hy z hz'=>by
     obtain⟨i,hi,e⟩:=V6 hy
     have q:=hlt2 i y hi (by rw[tl];exact e)
     obtain⟨j',h1,h2,h3⟩:=F7 hz'
     simp only[byn,if_true]at q
     exact o.of_lt (o.lt_le q (leA ia1 j' ax z h1 ea' h3))
    have m3':=blkB o2 ia1 n2 k' m2 hlt2'
    have hge2':∀ y∈b.toList.drop (n2+k'),le B ax y:=fun y hy=>by
     obtain⟨j',h1,h2,h3⟩:=F7 hy
     have q:=hge2 (j' - n2) y (by omega) (by rw[j9]at h2;omega) (by rw[show n2+(j' - n2)=j' by omega,tl];exact h3)
     show B y ax=false
     simpa [byn] using q
    have sz2:o2.size=ia1+n2:=by omega
    generalize eo:o2=o
    generalize en:n2=n
    revert o n
    refine aq3 (R:=fun K2 ib2=>MI (le B) K2.toList (a.toList.drop ia1) (b.toList.drop ib2) (a.toList++b.toList)/\(∀ y∈b.toList.drop ib2,le B ax y)/\ib2<b.size/\K2.size=ia1+ib2/\x+2<=K2.size) ?_ (fun hk J=>?_) (fun hk=>?_)
    rotate_left
    ·by_cases e6:n2+k'=b.size
     ·refine J2 (by simpa using e6) ?_
      exact l9 ⟨hS.mg _,.inl ⟨_,_,_,_,_,_,_,rfl,goodDone _ _ _ m3' e6⟩⟩
     refine G5 (by simpa using e6) ?_
     exact J (o2++b.extract n2 (n2+k')) (n2+k') ⟨m3',hge2',by omega,by rw[G3,E4,sz2];omega,by rw[G3];omega⟩
    ·have e8:k'=0:=by omega
     rw[e8]at hge2'
     exact⟨m2,hge2',by omega,sz2,by omega⟩
    rintro K2 ib2 ⟨m3,hge3,hne3,sz3,z3⟩
    refine j4 (C7 ea ?_)
    have m4:=pushA K2 ia1 ib2 ax m3 ea' hge3
    by_cases e7:ia1+1+1=a.size
    ·refine J2 (by simpa using e7) ?_
     exact l9 ⟨hS.mg _,.inl ⟨_,_,_,_,_,_,_,rfl,goodLast _ _ _ m4 e7⟩⟩
    refine G5 (by simpa using e7) ?_
    have I4:LoI B a b (K2.push ax) (ia1+1) ib2:=⟨m4,by omega,hne3,by rw[A7,sz3];omega⟩
    have z4:x+2<=(K2.push ax).size:=by
     rw[A7,sz3]
     have:=I'.sz
     omega
    refine ak7 ?_ ?_
    ·exact l9 ⟨hS.mg _,.inr ⟨_,_,_,_,_,_,rfl,I4,z4⟩⟩
    ·exact l9 ⟨hS.mg _,_,_,_,_,_,_,rfl,I4,z4⟩
end
theorem aQ9 {α:Type}{l:List α}{x:α}(h:l[n]?=some x):(l.take (n+1)).reverse=x::(l.take n).reverse:=by
 rw[o7,h,bO8]
 rfl
theorem ai1 {α:Type}(l:List α){k:Nat}(h:k<=n):(l.take n).reverse=((l.drop k).take (n - k)).reverse++(l.take k).reverse:=by
 rw[<- bO8]
 congr 1
 obtain⟨d,rfl⟩:=Nat.le.dest h
 rw[P7,List.take_add]
theorem J3 {α:Type}{l:List α}{x:α}(h:x∈(l.take n).reverse):∃ j,j<n/\j<l.length/\l[j]?=some x:=by
 rw[aP1]at h
 obtain⟨j,hj⟩:=o5.mp h
 rw[Q5]at hj
 split at hj
 ·rename_i hlt
  exact⟨j,hlt,(d5.mp hj).1,hj⟩
 ·cases hj
theorem az2 (a:Array Keyed)(i k:Nat):(a.extract i k).toList=(a.toList.drop i).take (k - i):=by
 rw[S8,U5]
section
variable {S:Keyed->Prop}
abbrev HM (B:Keyed->Keyed->Bool)(a b out:Array Keyed)(na nb:Nat):Prop:=MI (fun x y=>le B y x) out.toList (a.toList.take na).reverse (b.toList.take nb).reverse (a.toList++b.toList)
structure HiI (B:Keyed->Keyed->Bool) (a b out:Array Keyed) (na nb:Nat):Prop where
 m:HM B a b out na nb
 ha:0<na
 ha':na<=a.size
 hb:1<nb
 hb':nb<=b.size
 sz:out.size+na+nb=a.size+b.size
theorem aQ4 (o:Ord B)(C:Cmp prog w A E s κ S B){a b:Array Keyed}{st:SortSt}{Q:Array Keyed->SortSt->Prop}(hk:kindOf st=κ)(hSa:∀ x∈a.toList,S x)(hSb:∀ x∈b.toList,S x)
  (sa:a.toList.Pairwise (le B))(sb:b.toList.Pairwise (le B))(ha:0<a.size)(hb:0<b.size)
  (h0:∀ x y,b[0]?=some x->a[0]?=some y->B x y=true)(hl:∀ x∈b.toList,∀ y,a[a.size - 1]?=some y->B x y=true)
  (h:∀ r st',Sm st st'->Good B a b r->Q r st'):wpS (t7 prog w) A E s (aD0 a b) Q st:=by
 have ga:∀ i,i<a.size->∃ x,a[i]?=some x/\a.toList[i]?=some x/\S x:=fun i hi=>by
  refine⟨a[i],getElem?_pos a i hi,by rw[d3];exact getElem?_pos a i hi,hSa _ (by simp)⟩
 have gb:∀ i,i<b.size->∃ x,b[i]?=some x/\b.toList[i]?=some x/\S x:=fun i hi=>by
  refine⟨b[i],getElem?_pos b i hi,by rw[d3];exact getElem?_pos b i hi,hSb _ (by simp)⟩
 have leA:∀ (i j:Nat) (x y:Keyed),i<=j->a.toList[i]?=some x->a.toList[j]?=some y->le B x y:=fun i j x y hij hx hy=>by
  obtain⟨h1,rfl⟩:=d5.mp hx
  obtain⟨h2,rfl⟩:=d5.mp hy
  rcases J5 hij with hlt | rfl
  ·exact p7.mp sa i j h1 h2 hlt
  ·exact o.rf _
 have leB:∀ (i j:Nat) (x y:Keyed),i<=j->b.toList[i]?=some x->b.toList[j]?=some y->le B x y:=fun i j x y hij hx hy=>by
  obtain⟨h1,rfl⟩:=d5.mp hx
  obtain⟨h2,rfl⟩:=d5.mp hy
  rcases J5 hij with hlt | rfl
  ·exact p7.mp sb i j h1 h2 hlt
  ·exact o.rf _
 have tl:∀ (z:Array Keyed) (i:Nat),z[i]?=z.toList[i]?:=fun z i=>(d3 ..).symm
 have rel:∀ {l:List Keyed},l.Pairwise (fun x y=>le B y x)->l.reverse.Pairwise (le B):=fun {l} hp=>Y9.mpr hp
 have goodDone:∀ (out:Array Keyed) (na nb:Nat),HM B a b out na nb->(na=0\/nb=0)->Good B a b (a.extract 0 na++b.extract 0 nb++out.reverse):=fun out na nb m e=>by
  have:=m.endBA (fun x hx y hy=>by
   rcases e with rfl | rfl
   ·simp at hy
   ·simp at hx)
  unfold Good
  rw[B5,B5,aO3,aO3,Z5]
  have q:(out.toList++((b.toList.take nb).reverse++(a.toList.take na).reverse)).reverse=a.toList.take na++b.toList.take nb++out.toList.reverse:=by simp
  exact⟨by rw[<- q];exact rel this.1,by rw[<- q];exact(X8 _).trans this.2⟩
 obtain⟨b0,eb0,eb0',Sb0⟩:=gb 0 hb
 obtain⟨a0,ea0,ea0',Sa0⟩:=ga 0 ha
 have lt0:=h0 b0 a0 eb0 ea0
 have goodFirst:∀ (out:Array Keyed) (na nb:Nat),HM B a b out na nb->nb=1->Good B a b (b.extract 0 nb++a.extract 0 na++out.reverse):=fun out na nb m e=>by
  have:=m.endAB (fun x hx y hy=>by
   subst e
   obtain⟨i,h1,h2,h3⟩:=J3 hx
   obtain⟨j,h4,h5,h6⟩:=J3 hy
   have:j=0:=by omega
   subst this
   rw[eb0']at h6
   cases h6
   exact o.of_lt (o.lt_le lt0 (leA 0 i a0 x (r9 _) ea0' h3)))
  unfold Good
  rw[B5,B5,aO3,aO3,Z5]
  have q:(out.toList++((a.toList.take na).reverse++(b.toList.take nb).reverse)).reverse=b.toList.take nb++a.toList.take na++out.toList.reverse:=by simp
  exact⟨by rw[<- q];exact rel this.1,by rw[<- q];exact(X8 _).trans this.2⟩
 have pushA:∀ (out:Array Keyed) (na nb:Nat) (x:Keyed),0<na->HM B a b out na nb->a.toList[na - 1]?=some x->(∀ y∈(b.toList.take nb).reverse,le B y x)->HM B a b (out.push x) (na - 1) nb:=fun out na nb x hn m e hx=>by
  obtain⟨n,rfl⟩:∃ n,na=n+1:=⟨na - 1,by omega⟩
  unfold HM at m ⊢
  rw[ah7]at e ⊢
  rw[aQ9 e]at m
  rw[W8]
  exact m.oneA hx
 have pushB:∀ (out:Array Keyed) (na nb:Nat) (x:Keyed),0<nb->HM B a b out na nb->b.toList[nb - 1]?=some x->(∀ y∈(a.toList.take na).reverse,le B y x)->HM B a b (out.push x) na (nb - 1):=fun out na nb x hn m e hx=>by
  obtain⟨n,rfl⟩:∃ n,nb=n+1:=⟨nb - 1,by omega⟩
  unfold HM at m ⊢
  rw[ah7]at e ⊢
  rw[aQ9 e]at m
  rw[W8]
  exact m.oneB hx
 have blkA:∀ (out:Array Keyed) (na nb k:Nat),k<=na->HM B a b out na nb->(∀ x∈((a.toList.drop k).take (na - k)).reverse,∀ y∈(b.toList.take nb).reverse,le B y x)->HM B a b (out++(a.extract k na).reverse) k nb:=fun out na nb k hkn m hx=>by
  unfold HM at m ⊢
  rw[ai1 a.toList hkn]at m
  rw[B5,Z5,az2]
  exact m.blkA hx
 have blkB:∀ (out:Array Keyed) (na nb k:Nat),k<=nb->HM B a b out na nb->(∀ x∈((b.toList.drop k).take (nb - k)).reverse,∀ y∈(a.toList.take na).reverse,le B y x)->HM B a b (out++(b.extract k nb).reverse) na k:=fun out na nb k hkn m hx=>by
  unfold HM at m ⊢
  rw[ai1 b.toList hkn]at m
  rw[B5,Z5,az2]
  exact m.blkB hx
 rw[aU5]
 refine j4 (ac4 ?_)
 obtain⟨al,eal,eal',Sal⟩:=ga (a.size - 1) (by omega)
 refine j4 (C7 eal ?_)
 have m0:HM B a b #[] a.size b.size:=by
  unfold HM
  rw[k7 (by simp),k7 (by simp)]
  refine⟨List.Pairwise.nil,(fun _ hx=>nomatch hx),(fun _ hx=>nomatch hx),Y9.mpr sa,Y9.mpr sb,?_⟩
  rw[O5]
  exact List.Perm.append (X8 _) (X8 _)
 have m1:HM B a b #[al] (a.size - 1) b.size:=pushA #[] a.size b.size al ha m0 eal' fun y hy=>by
  obtain⟨j,h1,h2,h3⟩:=J3 hy
  exact o.of_lt (hl y (b9 h3) al eal)
 by_cases e1:a.size - 1=0
 ·refine J2 (by simpa using e1) ?_
  exact l9 (h _ st (Sm.rfl' st) (goodDone _ _ _ m1 (.inl e1)))
 refine G5 (by simpa using e1) ?_
 by_cases e2:b.size=1
 ·refine J2 (by simpa using e2) ?_
  exact l9 (h _ st (Sm.rfl' st) (goodFirst _ _ _ m1 e2))
 refine G5 (by simpa using e2) ?_
 refine j4 (ax0 ?_)
 have I0:HiI B a b #[al] (a.size - 1) b.size:=⟨m1,by omega,by omega,by omega,by omega,by simp;omega⟩
 refine j4 (V4 (E6
  (I:=fun x c st'=>Sm st st'/\∃ na nb out mg,c=(none,na,nb,out,mg)/\HiI B a b out na nb/\x+1<=out.size)
  (Q:=fun c st'=>Sm st st'/\∃ r na nb out mg,c=(some r,na,nb,out,mg)/\Good B a b r) ?step ?fin ⟨Sm.rfl' st,_,_,#[al],_,rfl,I0,by simp⟩) ?post)
 case fin =>
  rintro c st' ⟨hS,na,nb,out,mg,rfl,I,hx⟩
  have h1:=I.sz
  have h2:=I.ha
  have h3:=I.hb
  exfalso
  omega
 case post =>
  rintro c st' ⟨hS,r,na,nb,out,mg,rfl,hg⟩
  exact l9 (h r st' hS hg)
 case step =>
  rintro x c st1 _ hx ⟨hS1,na,nb,out,mg,rfl,I,hsz⟩
  refine j4 (V4 (E6
   (I:=fun j c st'=>Sm st st'/\∃ na' nb' out' ac bc,c=(none,na',nb',out',ac,bc)/\HiI B a b out' na' nb'/\x+1<=out'.size/\(1<=j->x+2<=out'.size))
   (Q:=fun c st'=>Sm st st'/\((∃ r na' nb' out' ac bc,c=(some r,na',nb',out',ac,bc)/\Good B a b r)\/(∃ na' nb' out' ac bc,c=(none,na',nb',out',ac,bc)/\HiI B a b out' na' nb'/\x+2<=out'.size)))
   ?istep ?ifin ⟨hS1,na,nb,out,0,0,rfl,I,hsz,by omega⟩) ?ipost)
  case ifin =>
   rintro c st' ⟨hS,na',nb',out',ac,bc,rfl,I',h1,h2⟩
   exact⟨hS,.inr ⟨na',nb',out',ac,bc,rfl,I',h2 (by omega)⟩⟩
  case istep =>
   rintro j c st' _ hj ⟨hS,na',nb',out',ac,bc,rfl,I',h1,_⟩
   have i1:=I'.ha
   have i2:=I'.ha'
   have i3:=I'.hb
   have i4:=I'.hb'
   have i5:=I'.sz
   obtain⟨bx,eb,eb',Sb⟩:=gb (nb' - 1) (by omega)
   obtain⟨ax,ea,ea',Sa⟩:=ga (na' - 1) (by omega)
   refine j4 (C7 eb (j4 (C7 ea (j4 (aA2 C (hS.k.trans hk) Sb Sa ?_)))))
   cases ew:B bx ax with
   | true =>
    refine J2 rfl ?_
    refine j4 (C7 ea ?_)
    have m2:=pushA out' na' nb' ax i1 I'.m ea' fun y hy=>by
     obtain⟨j,h1,h2,h3⟩:=J3 hy
     exact o.of_lt (o.le_lt (leB j (nb' - 1) y bx (by omega) h3 eb') ew)
    by_cases e3:na' - 1=0
    ·refine J2 (by simpa using e3) ?_
     exact l9 ⟨hS,.inl ⟨_,_,_,_,_,_,rfl,goodDone _ _ _ m2 (.inl e3)⟩⟩
    refine G5 (by simpa using e3) ?_
    have I2:HiI B a b (out'.push ax) (na' - 1) nb':=⟨m2,by omega,by omega,i3,i4,by rw[A7];omega⟩
    have z2:x+2<=(out'.push ax).size:=by rw[A7];omega
    refine ak7 ?_ ?_
    ·exact l9 ⟨hS,.inr ⟨_,_,_,_,_,rfl,I2,z2⟩⟩
    ·exact l9 ⟨hS,_,_,_,_,_,rfl,I2,am3 z2,fun _=>z2⟩
   | false =>
    refine G5 i6 ?_
    refine j4 (C7 eb ?_)
    have m2:=pushB out' na' nb' bx (by omega) I'.m eb' fun y hy=>by
     obtain⟨j,h1,h2,h3⟩:=J3 hy
     exact o.trans (leA j (na' - 1) y ax (by omega) h3 ea') ew
    by_cases e3:nb' - 1=1
    ·refine J2 (by simpa using e3) ?_
     exact l9 ⟨hS,.inl ⟨_,_,_,_,_,_,rfl,goodFirst _ _ _ m2 e3⟩⟩
    refine G5 (by simpa using e3) ?_
    have I2:HiI B a b (out'.push bx) na' (nb' - 1):=⟨m2,i1,i2,by omega,by omega,by rw[A7];omega⟩
    have z2:x+2<=(out'.push bx).size:=by rw[A7];omega
    refine ak7 ?_ ?_
    ·exact l9 ⟨hS,.inr ⟨_,_,_,_,_,rfl,I2,z2⟩⟩
    ·exact l9 ⟨hS,_,_,_,_,_,rfl,I2,am3 z2,fun _=>z2⟩
  case ipost =>
   rintro c st2 ⟨hS2,⟨r,na',nb',out',ac,bc,rfl,hg⟩ | ⟨na',nb',out',ac,bc,rfl,I',hz⟩⟩
   ·exact l9 ⟨hS2,r,_,_,_,_,rfl,hg⟩
   refine j4 (ac4 ?_)
   refine j4 (V4 (E6
    (I:=fun j c st'=>Sm st st'/\∃ na' nb' out' mg ac bc,c=(none,na',nb',out',mg,ac,bc)/\HiI B a b out' na' nb'/\x+2<=out'.size)
    (Q:=fun c st'=>Sm st st'/\((∃ r na' nb' out' mg ac bc,c=(some r,na',nb',out',mg,ac,bc)/\Good B a b r)\/(∃ na' nb' out' mg ac bc,c=(none,na',nb',out',mg,ac,bc)/\HiI B a b out' na' nb'/\x+2<=out'.size)))
    ?gstep ?gfin ⟨hS2,na',nb',out',_,ac,bc,rfl,I',hz⟩) ?gpost)
   case gfin =>
    rintro c st' ⟨hS,na',nb',out',mg,ac,bc,rfl,I',h1⟩
    exact⟨hS,.inr ⟨na',nb',out',mg,ac,bc,rfl,I',h1⟩⟩
   case gpost =>
    rintro c st3 ⟨hS3,⟨r,na',nb',out',mg,ac,bc,rfl,hg⟩ | ⟨na',nb',out',mg,ac,bc,rfl,I',hz⟩⟩
    ·exact l9 ⟨hS3,r,_,_,_,_,rfl,hg⟩
    exact j4 (ak8 (l9 ⟨hS3.mg _,_,_,_,_,rfl,I',by omega⟩))
   case gstep =>
    rintro j c st' _ hj ⟨hS,na',nb',out',mg,ac,bc,rfl,I',hz⟩
    dsimp (config:={ zeta:=false }) only
    have i1:=I'.ha
    have i2:=I'.ha'
    have i3:=I'.hb
    have i4:=I'.hb'
    have i5:=I'.sz
    obtain⟨bx,eb,eb',Sb⟩:=gb (nb' - 1) (by omega)
    revert mg
    refine aQ5 (fun _=>rfl) fun mg1=>?_
    try dsimp (config:={ zeta:=false }) only
    refine j4 (ak8 (j4 (C7 eb ?_)))
    refine j4 (V2 o C (hS.k.trans hk) Sb (by omega) (fun i y hi e=>hSa y (b9 (by rw[<- tl];exact e))) (fun i j y z hij hj e e'=>leA _ _ y z (V1 hij _) (by rw[<- tl];exact e) (by rw[<- tl];exact e')) (by omega) fun k hkn hlt hge=>?_)
    dsimp (config:={ zeta:=false }) only
    have hlt':∀ y∈(a.toList.take k).reverse,le B y bx:=fun y hy=>by
     obtain⟨i,h1,h2,h3⟩:=J3 hy
     have q:=hlt i y h1 (by rw[M9,tl];exact h3)
     show B bx y=false
     simpa [byn] using q
    have hge':∀ y∈((a.toList.drop k).take (na' - k)).reverse,∀ z∈(b.toList.take nb').reverse,le B z y:=fun y hy z hz'=>by
     rw[aP1]at hy
     obtain⟨i,h1,h3⟩:=V6 hy
     have q:=hge (k+i) y (by omega) (by omega) (by rw[M9,tl];exact h3)
     obtain⟨j',h4,h5,h6⟩:=J3 hz'
     have q':B bx y=true:=by simpa [byn] using q
     exact o.of_lt (o.le_lt (leB j' (nb' - 1) z bx (by omega) h6 eb') q')
    have m1':=blkA out' na' nb' k hkn I'.m hge'
    generalize hd:na' - k=d
    generalize eo:out'=o
    generalize en:na'=n
    revert o n
    refine aq3 (R:=fun out1 na1=>HM B a b out1 na1 nb'/\(∀ y∈(a.toList.take na1).reverse,le B y bx)/\0<na1/\na1<=a.size/\out1.size+na1+nb'=a.size+b.size/\x+2<=out1.size) ?_ (fun hk J=>?_) (fun hk=>?_)
    rotate_left
    ·by_cases e4:k=0
     ·refine J2 (by simpa using e4) ?_
      exact l9 ⟨hS.mg _,.inl ⟨_,_,_,_,_,_,_,rfl,goodDone _ _ _ m1' (.inl e4)⟩⟩
     refine G5 (by simpa using e4) ?_
     exact J (out'++(a.extract k na').reverse) k ⟨m1',hlt',by omega,by omega,by rw[G3,bO9,E4];omega,by rw[G3];omega⟩
    ·have e9:k=na':=by omega
     exact⟨I'.m,by rw[<- e9];exact hlt',i1,i2,i5,hz⟩
    rintro out1 na1 ⟨m1,hge1,hne1,hle1,sz1,z1⟩
    refine j4 (C7 eb ?_)
    have m2:=pushB out1 na1 nb' bx (by omega) m1 eb' hge1
    by_cases e5:nb' - 1=1
    ·refine J2 (by simpa using e5) ?_
     exact l9 ⟨hS.mg _,.inl ⟨_,_,_,_,_,_,_,rfl,goodFirst _ _ _ m2 e5⟩⟩
    refine G5 (by simpa using e5) ?_
    generalize ho:out1.push bx=o2 at m2 ⊢
    have so2:o2.size=out1.size+1:=by rw[<- ho,A7]
    generalize hn:nb' - 1=n2 at m2 e5 ⊢
    obtain⟨ax,ea,ea',Sa⟩:=ga (na1 - 1) (by omega)
    refine j4 (C7 ea ?_)
    refine j4 (V2 o C (hS.k.trans hk) Sa (by omega) (fun i y hi e=>hSb y (b9 (by rw[<- tl];exact e))) (fun i j y z hij hj e e'=>leB _ _ y z (V1 hij _) (by rw[<- tl];exact e) (by rw[<- tl];exact e')) (by omega) fun k' hkn' hlt2 hge2=>?_)
    dsimp (config:={ zeta:=false }) only
    have hlt2':∀ y∈(b.toList.take k').reverse,le B y ax:=fun y hy=>by
     obtain⟨i,h1,h2,h3⟩:=J3 hy
     have q:=hlt2 i y h1 (by rw[M9,tl];exact h3)
     have q':B y ax=true:=by simpa [byn] using q
     exact o.of_lt q'
    have hge2':∀ y∈((b.toList.drop k').take (n2 - k')).reverse,∀ z∈(a.toList.take na1).reverse,le B z y:=fun y hy z hz'=>by
     rw[aP1]at hy
     obtain⟨i,h1,h3⟩:=V6 hy
     have q:=hge2 (k'+i) y (by omega) (by omega) (by rw[M9,tl];exact h3)
     obtain⟨j',h4,h5,h6⟩:=J3 hz'
     have q':B y ax=false:=by simpa [byn] using q
     exact o.trans (leA j' (na1 - 1) z ax (by omega) h6 ea') q'
    have m3':=blkB o2 na1 n2 k' hkn' m2 hge2'
    have sz2:o2.size+na1+n2=a.size+b.size:=by omega
    generalize hd2:n2 - k'=d2
    generalize eo:o2=o
    generalize en:n2=n
    revert o n
    refine aq3 (R:=fun K2 nb2=>HM B a b K2 na1 nb2/\(∀ y∈(b.toList.take nb2).reverse,le B y ax)/\1<nb2/\nb2<=b.size/\K2.size+na1+nb2=a.size+b.size/\x+2<=K2.size) ?_ (fun hk J=>?_) (fun hk=>?_)
    rotate_left
    ·by_cases e6:k'=1
     ·refine J2 (by simpa using e6) ?_
      exact l9 ⟨hS.mg _,.inl ⟨_,_,_,_,_,_,_,rfl,goodFirst _ _ _ m3' e6⟩⟩
     refine G5 (by simpa using e6) ?_
     by_cases e7:k'=0
     ·refine J2 (by simpa using e7) ?_
      exact l9 ⟨hS.mg _,.inl ⟨_,_,_,_,_,_,_,rfl,goodDone _ _ _ m3' (.inr e7)⟩⟩
     refine G5 (by simpa using e7) ?_
     exact J (o2++(b.extract k' n2).reverse) k' ⟨m3',hlt2',by omega,by omega,by rw[G3,bO9,E4];omega,by rw[G3];omega⟩
    ·have e8:k'=n2:=by omega
     exact⟨m2,by rw[<- e8];exact hlt2',by omega,by omega,sz2,by omega⟩
    rintro K2 nb2 ⟨m3,hge3,hne3,hle3,sz3,z3⟩
    refine j4 (C7 ea ?_)
    have m4:=pushA K2 na1 nb2 ax hne1 m3 ea' hge3
    by_cases e7:na1 - 1=0
    ·refine J2 (by simpa using e7) ?_
     exact l9 ⟨hS.mg _,.inl ⟨_,_,_,_,_,_,_,rfl,goodDone _ _ _ m4 (.inl e7)⟩⟩
    refine G5 (by simpa using e7) ?_
    have I4:HiI B a b (K2.push ax) (na1 - 1) nb2:=⟨m4,by omega,by omega,hne3,hle3,by rw[A7];omega⟩
    have z4:x+2<=(K2.push ax).size:=by
     rw[A7]
     omega
    refine ak7 ?_ ?_
    ·exact l9 ⟨hS.mg _,.inr ⟨_,_,_,_,_,_,rfl,I4,z4⟩⟩
    ·exact l9 ⟨hS.mg _,_,_,_,_,_,_,rfl,I4,z4⟩
end
def KF {O:aY9}(f:Keyed->O.α)(d:O.α)(xs:Array Keyed)(i:Nat):O.α:=match xs[i]? with
 | some p=>f p
 | none=>d
def Bf {O:aY9}(f:Keyed->O.α)(x y:Keyed):Bool:=O.blt (f x) (f y)
theorem Bf.ord {O:aY9}(f:Keyed->O.α):Ord (Bf f):=⟨fun x=>O.irrefl _,fun x y z=>O.trans _ _ _,fun x y z=>O.negTrans _ _ _⟩
section
variable {O:aY9} {f:Keyed->O.α} {d:O.α}
theorem ak2 {xs ys:Array Keyed}(h:xs[i]?=ys[j]?):KF f d xs i=KF f d ys j:=by unfold KF;rw[h]
theorem aA0 {xs:Array Keyed}{x:Keyed}(h:xs[i]?=some x):KF f d xs i=f x:=by unfold KF;rw[h]
theorem aK8 {xs:Array Keyed}{src dd:Nat}(hs:src<xs.size)(hd:dd<=src)(k:Nat) :
  KF f d (bubble xs src dd) k=if k=src - dd then KF f d xs src else if src - dd<k/\k<=src then KF f d xs (k - 1) else KF f d xs k:=by
 have e:=getElem?_bubble hs dd hd k
 repeat' split at e
 all_goals first
  | (rw[if_pos (by assumption)];exact ak2 e)
  | (rw[if_neg (by assumption),if_pos (by assumption)];exact ak2 e)
  | (rw[if_neg (by assumption),if_neg (by assumption)];exact ak2 e)
theorem av7 {xs:Array Keyed}(hj:j<=xs.size)(k:Nat):KF f d (mirror xs i j ((j - i) / 2)) k=if i<=k/\k<j then KF f d xs (i+j - 1 - k) else KF f d xs k:=by
 have e:=cg0 (i:=i) hj k
 split at e
 ·rw[if_pos (by assumption)];exact ak2 e
 ·rw[if_neg (by assumption)];exact ak2 e
theorem O1 {xs:Array Keyed}(hj:j<=xs.size)(heq:∀ k,i<=k->k<j->KF f d xs k=KF f d xs (j - 1))(k:Nat):KF f d (mirror xs i j ((j - i) / 2)) k=KF f d xs k:=by
 rw[av7 hj]
 split
 ·rw[heq _ (by omega) (by omega),heq k (by omega) (by omega)]
 ·rfl
end
def U4 {O:aY9}(f:Keyed->O.α)(d:O.α)(lo:Nat)(xs:Array Keyed)(k:Nat):Prop:=∀ i j,i<=j->j<k->O.kle (KF f d xs (lo+i)) (KF f d xs (lo+j))
def ag0 {O:aY9}(f:Keyed->O.α)(d:O.α)(lo:Nat)(xs:Array Keyed)(k:Nat):Prop:=∀ i j,i<=j->j<k->O.kle (KF f d xs (lo+j)) (KF f d xs (lo+i))
def Pre (lo:Nat)(xs ys:Array Keyed):Prop:=∀ k,k<lo->ys[k]?=xs[k]?
theorem Pre.rf (lo:Nat)(xs:Array Keyed):Pre lo xs xs:=fun _ _=>rfl
theorem Pre.trans {lo:Nat}{xs ys zs:Array Keyed}(a:Pre lo xs ys)(b:Pre lo ys zs):Pre lo xs zs:=fun k hk=>(b k hk).trans (a k hk)
theorem Pre.mirror {lo:Nat}{xs:Array Keyed}(hj:j<=xs.size)(hi:lo<=i):Pre lo xs (mirror xs i j ((j - i) / 2)):=fun k hk=>by
 rw[cg0 hj,if_neg (by omega)]
theorem Pre.bubble {lo src dd:Nat}{xs:Array Keyed}(hs:src<xs.size)(hd:dd<=src)(hl:lo<=src - dd):Pre lo xs (bubble xs src dd):=fun k hk=>by
 rw[getElem?_bubble hs dd hd,if_neg (by omega),if_neg (by omega)]
structure SI (a₀:Array Keyed) (κ:SortKind) (p:Array (Nat × Nat × Nat)) (st:SortSt):Prop where
 perm:(m8 st).Perm a₀
 kind:kindOf st=κ
 failed:N2 st=none
 pend:B6 st=p
section
variable {a₀:Array Keyed} {p:Array (Nat × Nat × Nat)} {O:aY9} {f:Keyed->O.α} {d:O.α}
theorem SI.size {st:SortSt}(h:SI a₀ κ p st):(m8 st).size=a₀.size:=h.perm.size_eq
theorem SI.setArr {st:SortSt}(h:SI a₀ κ p st){xs:Array Keyed}(hp:xs.Perm (m8 st)):SI a₀ κ p (setArr st xs):=⟨hp.trans h.perm,h.kind,h.failed,h.pend⟩
theorem SI.at {st:SortSt}(h:SI a₀ κ p st)(hi:i<a₀.size):∃ x,(m8 st)[i]?=some x/\x∈a₀.toList:=by
 have hi':i<(m8 st).size:=by rw[h.size];exact hi
 exact⟨(m8 st)[i],getElem?_pos _ i hi',(L3.mp h.perm).mem_iff.mp (by simp)⟩
abbrev bO7 (prog:Program)(w:World)(A:Around)(E:Value->Shared->Prop)(s:Shared)(κ:SortKind)(a₀:Array Keyed){O:aY9}(f:Keyed->O.α):Prop:=Cmp prog w A E s κ (·∈a₀.toList) (Bf f)
theorem ae5 (C:bO7 prog w A E s κ a₀ f){st:SortSt}{Q:Option Bool->SortSt->Prop}(hB:SI a₀ κ p st)(hi:i<a₀.size)(hj:j<a₀.size)
  (h:Q (some (O.blt (KF f d (m8 st) i) (KF f d (m8 st) j))) st):wpS (t7 prog w) A E s (ltAt' i j) Q st:=by
 obtain⟨x,e1,hx⟩:=hB.at hi
 obtain⟨y,e2,hy⟩:=hB.at hj
 rw[aA0 e1,aA0 e2]at h
 exact bm2 C hB.kind e1 e2 hx hy h
theorem bf7 {st:SortSt} {lo a nrem:Nat} {Q:Option (Option Nat) × Nat->SortSt->Prop} {b:Nat->Option (Option Nat) × Nat->StateT SortSt Sem (ForInStep (Option (Option Nat) × Nat))} (ha:1<=a) (han:a<=nrem)
  (hb : ∀ x n (R : ForInStep (Option (Option Nat) × Nat) -> SortSt -> Prop), 1 <= n -> n < nrem -> (O.klt (KF f d (m8 st) (lo + n)) (KF f d (m8 st) (lo + n - 1)) -> R (.done (none, n)) st) ->
   (O.kle (KF f d (m8 st) (lo+n - 1)) (KF f d (m8 st) (lo+n))->R (.yield (none,n+1)) st)->wpS (t7 prog w) A E s (b x (none,n)) R st)
  (hs:U4 f d lo (m8 st) a)
  (h:∀ n,a<=n->n<=nrem->U4 f d lo (m8 st) n->(n=nrem\/O.klt (KF f d (m8 st) (lo+n)) (KF f d (m8 st) (lo+n - 1)))->Q (none,n) st) :
  wpS (t7 prog w) A E s (forIn [a:nrem] (none,a) b) Q st:=by
 refine E6 (I:=fun x c st'=>st'=st/\c=(none,x)/\U4 f d lo (m8 st) x) ?step ?fin ⟨rfl,rfl,hs⟩
 case fin =>
  rintro c st' ⟨rfl,rfl,hs'⟩
  rw[show max a nrem=nrem by omega]at hs' ⊢
  exact h nrem han (c6 _) hs' (.inl rfl)
 case step =>
  rintro x c st' hax hxn ⟨rfl,rfl,hs'⟩
  refine hb x x _ (by omega) hxn (fun q=>h x hax (by omega) hs' (.inr q)) (fun q=>⟨rfl,rfl,fun i j hij hj=>?_⟩)
  by_cases hjx:j<x
  ·exact hs' i j hij hjx
  ·have hj':j=x:=by omega
   subst hj'
   by_cases hi':i=j
   ·subst hi';exact KeyOrd.kle_refl _
   ·refine KeyOrd.kle_trans (hs' i (j - 1) (by omega) (by omega)) ?_
    rw[show lo+(j - 1)=lo+j - 1 by omega]
    exact q
theorem bs4 {st:SortSt} {lo nrem:Nat} {Q:Option (Option Nat) × Nat × Nat->SortSt->Prop} (hn:lo+nrem<=a₀.size) (h1:1<=n) (hnn:n<=nrem) (hB:SI a₀ κ p st)
  (hb : ∀ y x neq st' (R : ForInStep (Option (Option Nat) × Nat × Nat) -> SortSt -> Prop), SI a₀ κ p st' -> 1 <= x -> x < nrem ->
   (O.klt (KF f d (m8 st') (lo+x)) (KF f d (m8 st') (lo+x - 1))->0<neq->R (.yield (none,x+1,0)) (setArr st' (mirror (m8 st') (lo+x - (neq+1)) (lo+x) ((lo+x - (lo+x - (neq+1))) / 2)))) ->
   (O.klt (KF f d (m8 st') (lo+x)) (KF f d (m8 st') (lo+x - 1))->R (.yield (none,x+1,0)) st') ->
   (R (.done (none,x,neq)) st') ->
   (O.kle (KF f d (m8 st') (lo+x - 1)) (KF f d (m8 st') (lo+x))->O.kle (KF f d (m8 st') (lo+x)) (KF f d (m8 st') (lo+x - 1))->R (.yield (none,x+1,neq+1)) st')->wpS (t7 prog w) A E s (b y (none,x,neq)) R st')
  (hs:ag0 f d lo (m8 st) n)
  (h:∀ m neq st',SI a₀ κ p st'->Pre lo (m8 st) (m8 st')->n<=m->m<=nrem->ag0 f d lo (m8 st') m->neq+1<=m->(∀ i,m - (neq+1)<=i->i<m->KF f d (m8 st') (lo+i)=KF f d (m8 st') (lo+m - 1))->Q (none,m,neq) st') :
  wpS (t7 prog w) A E s (forIn [n:nrem] (none,n,0) b) Q st:=by
 refine E6 (I:=fun x c st'=>∃ neq,c=(none,x,neq)/\SI a₀ κ p st'/\Pre lo (m8 st) (m8 st')/\ag0 f d lo (m8 st') x/\neq+1<=x /\
   (∀ i,x - (neq+1)<=i->i<x->KF f d (m8 st') (lo+i)=KF f d (m8 st') (lo+x - 1))) ?step ?fin ⟨0,rfl,hB,Pre.rf _ _,hs,by omega,fun i h1 h2=>by congr 1;omega⟩
 case fin =>
  rintro c st' ⟨neq,rfl,hB',hp',hs',hq,he⟩
  rw[show max n nrem=nrem by omega]at hs' hq he ⊢
  exact h nrem neq st' hB' hp' hnn (c6 _) hs' hq he
 case step =>
  rintro x c st' hax hxn ⟨neq,rfl,hB',hp',hs',hq,he⟩
  have hsz:lo+x<=(m8 st').size:=by rw[hB'.size];omega
  have step1:O.klt (KF f d (m8 st') (lo+x)) (KF f d (m8 st') (lo+x - 1))->∀ xs:Array Keyed,(∀ k,KF f d xs k=KF f d (m8 st') k)->ag0 f d lo xs (x+1):=by
   intro hless xs hk i j hij hj
   rw[hk,hk]
   by_cases hjx:j<x
   ·exact hs' i j hij hjx
   ·have hj':j=x:=by omega
    subst hj'
    by_cases hi':i=j
    ·subst hi';exact KeyOrd.kle_refl _
    ·refine KeyOrd.kle_trans (KeyOrd.kle_of_klt hless) ?_
     rw[show lo+j - 1=lo+(j - 1) by omega]
     exact hs' i (j - 1) (by omega) (by omega)
  have he':∀ k,lo+x - (neq+1)<=k->k<lo+x->KF f d (m8 st') k=KF f d (m8 st') (lo+x - 1):=fun k h1 h2=>by
   have:=he (k - lo) (by omega) (by omega)
   rw[show lo+(k - lo)=k by omega]at this
   exact this
  refine hb x x neq st' _ hB' (by omega) hxn (fun q hneq=>?_) (fun q=>?_) (h x neq st' hB' hp' hax (by omega) hs' hq he) (fun q q'=>?_)
  ·exact⟨0,rfl,hB'.setArr (bl7 _ _ _ _),hp'.trans (Pre.mirror hsz (by omega)),step1 q _ (O1 hsz he'),by omega,fun i h1 h2=>by congr 1;omega⟩
  ·exact⟨0,rfl,hB',hp',step1 q _ (fun _=>rfl),by omega,fun i h1 h2=>by congr 1;omega⟩
  ·have heqx:KF f d (m8 st') (lo+x)=KF f d (m8 st') (lo+x - 1):=KeyOrd.kle_antisymm q' q
   refine⟨neq+1,rfl,hB',hp',fun i j hij hj=>?_,by omega,fun i h1 h2=>?_⟩
   ·by_cases hjx:j<x
    ·exact hs' i j hij hjx
    ·have hj':j=x:=by omega
     subst hj'
     by_cases hi':i=j
     ·subst hi';exact KeyOrd.kle_refl _
     ·rw[heqx,show lo+j - 1=lo+(j - 1) by omega];exact hs' i (j - 1) (by omega) (by omega)
   ·rw[show lo+(x+1) - 1=lo+x by omega]
    by_cases hix:i=x
    ·subst hix;rfl
    ·rw[heqx];exact he i (by omega) (by omega)
theorem wpS_countRun (C:bO7 prog w A E s κ a₀ f) {st:SortSt} {lo nrem:Nat} {Q:Option Nat->SortSt->Prop} (d:O.α) (hn:lo+nrem<=a₀.size) (h1:1<=nrem) (hB:SI a₀ κ p st)
    (h:∀ m st',SI a₀ κ p st'->Pre lo (m8 st) (m8 st')->1<=m->m<=nrem->U4 f d lo (m8 st') m->Q (some m) st') :
    wpS (t7 prog w) A E s (countRun' lo nrem) Q st:=by
  rw[countRun'_eq]
  dsimp only
  refine j4 (bf7 (f:=f) (d:=d) (lo:=lo) (c6 1) h1 (fun x n R hn1 hn2 q1 q2=>?_) (fun i j hij hj=>by have:i=j:=(by omega);subst this;exact KeyOrd.kle_refl _) fun n hn1 hn2 hsn hor=>?_)
  · dsimp only
    refine j4 (ae5 (d:=d) C hB (by omega) (by omega) ?_)
    cases e:O.blt (KF f d (m8 st) (lo+n)) (KF f d (m8 st) (lo+n - 1)) with
    | true=>exact l9 (q1 e)
    | false=>exact l9 (q2 e)
  dsimp only
  by_cases hnn:n=nrem
  · rw[if_pos (by simpa using hnn)]
    exact l9 (h n st hB (Pre.rf _ _) hn1 hn2 hsn)
  rw[if_neg (by simpa using hnn)]
  have hlt:=hor.resolve_left hnn
  by_cases hrose:1<n/\O.blt (KF f d (m8 st) lo) (KF f d (m8 st) (lo+n - 1))=true
  · rw[if_pos hrose.1]
    refine j4 (ae5 (d:=d) C hB (by omega) (by omega) ?_)
    rw[hrose.2]
    exact l9 (h n st hB (Pre.rf _ _) hn1 hn2 hsn)
  have hfell:1<n->O.blt (KF f d (m8 st) lo) (KF f d (m8 st) (lo+n - 1))=false:=fun hgt=>by
    cases e:O.blt (KF f d (m8 st) lo) (KF f d (m8 st) (lo+n - 1)) with
    | false=>rfl
    | true=>exact absurd ⟨hgt,e⟩ hrose
  have fall:∃ st2,SI a₀ κ p st2/\Pre lo (m8 st) (m8 st2)/\ag0 f d lo (m8 st2) (n+1)/\(n > 1->st2=setArr st (mirror (m8 st) lo (lo+n) ((lo+n - lo) / 2)))/\(¬ n > 1->st2=st):=by
    by_cases hgt:1<n
    · have hfell:=hfell hgt
      have hsz:lo+n<=(m8 st).size:=by rw[hB.size];omega
      have hall:∀ k,lo<=k->k<lo+n->KF f d (m8 st) k=KF f d (m8 st) (lo+n - 1):=by
        intro k hk0 hk
        have a1:=hsn 0 (k - lo) (by omega) (by omega)
        have a2:=hsn (k - lo) (n - 1) (by omega) (by omega)
        rw[show lo+0=lo by omega,show lo+(k - lo)=k by omega]at a1
        rw[show lo+(k - lo)=k by omega,show lo+(n - 1)=lo+n - 1 by omega]at a2
        exact KeyOrd.kle_antisymm a2 (KeyOrd.kle_trans hfell a1)
      refine⟨_,hB.setArr (bl7 _ _ _ _),Pre.mirror hsz (c6 _),?_,fun _=>rfl,fun e=>by omega⟩
      intro i j hij hj
      show O.kle (KF f d (mirror (m8 st) _ _ _) (lo+j)) (KF f d (mirror (m8 st) _ _ _) (lo+i))
      rw[O1 hsz hall,O1 hsz hall]
      by_cases hjn:j<n
      · rw[hall (lo+i) (by omega) (by omega),hall (lo+j) (by omega) (by omega)];exact KeyOrd.kle_refl _
      · have hj':j=n:=by omega
        subst hj'
        by_cases hi':i=j
        · subst hi';exact KeyOrd.kle_refl _
        · rw[hall (lo+i) (by omega) (by omega)];exact KeyOrd.kle_of_klt hlt
    · have hn1':n=1:=by omega
      subst hn1'
      refine⟨st,hB,Pre.rf _ _,?_,fun q=>by omega,fun _=>rfl⟩
      intro i j hij hj
      by_cases hi':i=j
      · subst hi';exact KeyOrd.kle_refl _
      · have hi0:i=0:=by omega
        have hj1:j=1:=by omega
        subst hi0;subst hj1
        rw[show lo+0=lo+1 - 1 by omega]
        exact KeyOrd.kle_of_klt hlt
  obtain⟨st2,hB2,hp2,hs2,e2,e3⟩:=fall
  by_cases hgt:n > 1
  all_goals first
    | (rw [if_pos hgt]
       refine j4 (ae5 (d:=d) C hB (by omega) (by omega) ?_)
       rw[hfell hgt]
       dsimp only
       rw[if_neg i6]
       refine j4 (aG8 ?_)
       rw[<- e2 hgt])
    | (rw [if_neg hgt]
       have e3:=e3 hgt
       rw[<- e3])
  all_goals
    clear e2 e3
    refine j4 (ac4 ?_)
    refine j4 (bs4 (f:=f) (d:=d) (lo:=lo) hn (by omega) (by omega) hB2 (fun y x neq st' R hB' x1 x2 q1 q2 q3 q4=>?_) hs2 fun m neq st' hB' hp' hm1 hm2 hs' hq he=>?_)
    · dsimp only
      refine j4 (ae5 (d:=d) C hB' (by omega) (by omega) ?_)
      cases e:O.blt (KF f d (m8 st') (lo+x)) (KF f d (m8 st') (lo+x - 1)) with
      | true =>
        dsimp only
        rw[if_pos rfl]
        split
        · rename_i hz
          exact j4 (aG8 (l9 (q1 e hz)))
        · exact l9 (q2 e)
      | false =>
        dsimp only
        rw[if_neg i6]
        refine j4 (ae5 (d:=d) C hB' (by omega) (by omega) ?_)
        cases e':O.blt (KF f d (m8 st') (lo+x - 1)) (KF f d (m8 st') (lo+x)) with
        | true=>exact l9 q3
        | false=>exact l9 (q4 e e')
    · dsimp only
      have hsz:lo+m<=(m8 st').size:=by rw[hB'.size];omega
      have he':∀ k,lo+m - (neq+1)<=k->k<lo+m->KF f d (m8 st') k=KF f d (m8 st') (lo+m - 1):=fun k h1 h2=>by
        have:=he (k - lo) (by omega) (by omega)
        rw[show lo+(k - lo)=k by omega]at this
        exact this
      have tailOk:∀ st3,SI a₀ κ p st3->Pre lo (m8 st) (m8 st3)->ag0 f d lo (m8 st3) m->SI a₀ κ p (setArr st3 (mirror (m8 st3) lo (lo+m) ((lo+m - lo) / 2)))/\Pre lo (m8 st) (mirror (m8 st3) lo (lo+m) ((lo+m - lo) / 2))/\U4 f d lo (mirror (m8 st3) lo (lo+m) ((lo+m - lo) / 2)) m:=fun st3 hB3 hp3 hs3=>by
        have hsz3:lo+m<=(m8 st3).size:=by rw[hB3.size];omega
        refine⟨hB3.setArr (bl7 _ _ _ _),hp3.trans (Pre.mirror hsz3 (c6 _)),fun i j hij hj=>?_⟩
        rw[av7 hsz3,av7 hsz3,if_pos (by omega),if_pos (by omega),show lo+(lo+m) - 1 - (lo+i)=lo+(m - 1 - i) by omega,show lo+(lo+m) - 1 - (lo+j)=lo+(m - 1 - j) by omega]
        exact hs3 _ _ (by omega) (by omega)
      have mm:ag0 f d lo (mirror (m8 st') (lo+m - (neq+1)) (lo+m) ((lo+m - (lo+m - (neq+1))) / 2)) m:=fun i j hij hj=>by
        rw[O1 hsz he',O1 hsz he']
        exact hs' i j hij hj
      by_cases hneq:neq > 0
      all_goals first
        | (rw [if_pos hneq]
           refine j4 (aG8 (j4 (aG8 ?_)))
           obtain⟨hB4,hp4,hs4⟩:=tailOk (setArr st' (mirror (m8 st') (lo+m - (neq+1)) (lo+m) ((lo+m - (lo+m - (neq+1))) / 2))) (hB'.setArr (bl7 _ _ _ _)) ((hp2.trans hp').trans (Pre.mirror hsz (by omega))) mm)
        | (rw [if_neg hneq]
           refine j4 (aG8 ?_)
           obtain⟨hB4,hp4,hs4⟩:=tailOk st' hB' (hp2.trans hp') hs')
      all_goals
        refine j4 (bf7 (f:=f) (d:=d) (lo:=lo) (by omega) hm2 (fun x n R hn1 hn2 q1 q2=>?_) hs4 fun n' hn1' hn2' hsn' _=>l9 (h n' _ hB4 hp4 (by omega) hn2' hsn'))
        dsimp only
        refine j4 (ae5 (d:=d) C hB4 (by omega) (by omega) ?_)
        revert q1 q2
        generalize KF f d (m8 _) (lo+n)=u
        generalize KF f d (m8 _) (lo+n - 1)=v
        intro q1 q2
        cases e:O.blt u v with
        | true=>exact l9 (q1 e)
        | false=>exact l9 (q2 e)
theorem ax3 (C:bO7 prog w A E s κ a₀ f) {st:SortSt} {lo ok:Nat} {Q:Bool->SortSt->Prop} (d:O.α) (hn:lo+n<=a₀.size) (hok:ok<=n) (hB:SI a₀ κ p st) (hs:U4 f d lo (m8 st) ok)
  (h:∀ st',SI a₀ κ p st'->Pre lo (m8 st) (m8 st')->U4 f d lo (m8 st') n->Q true st'):wpS (t7 prog w) A E s (binarySort' lo n ok) Q st:=by
 rw[binarySort'_eq]
 refine j4 (V4 (E6 (I:=fun k c st'=>c=(none,())/\SI a₀ κ p st'/\Pre lo (m8 st) (m8 st')/\U4 f d lo (m8 st') (min k n))
  (Q:=fun c st'=>c=(none,())/\SI a₀ κ p st'/\Pre lo (m8 st) (m8 st')/\U4 f d lo (m8 st') n) ?step ?fin ?init) ?post)
 case post =>
  rintro c st' ⟨rfl,hB',hp',hs'⟩
  exact l9 (h st' hB' hp' hs')
 case init =>
  refine⟨rfl,hB,Pre.rf _ _,fun i j hij hj=>?_⟩
  by_cases h1:ok=0
  ·have:i=j:=by omega
   subst this;exact KeyOrd.kle_refl _
  ·exact hs i j hij (by omega)
 case fin =>
  rintro c st' ⟨hc,hB',hp',hs'⟩
  refine⟨hc,hB',hp',?_⟩
  rwa [show min (max (max ok 1) n) n=n by omega]at hs'
 case step =>
  rintro k c st' hak hkn ⟨rfl,hB',hp',hs'⟩
  rw[show min k n=k by omega]at hs'
  have hk:lo+k<a₀.size:=by omega
  refine j4 (V4 (E6 (I:=fun x c st''=>st''=st'/\∃ l r,c=(none,l,r)/\l<=r/\r<=k/\r - l<=k - x /\
    (∀ i,i<l->O.kle (KF f d (m8 st') (lo+i)) (KF f d (m8 st') (lo+k)))/\(∀ i,r<=i->i<k->O.klt (KF f d (m8 st') (lo+k)) (KF f d (m8 st') (lo+i))))
   (Q := fun c st'' => st'' = st' /\ ∃ l r, c = (none, l, r) /\ l <= k /\
    (∀ i,i<l->O.kle (KF f d (m8 st') (lo+i)) (KF f d (m8 st') (lo+k)))/\(∀ i,l<=i->i<k->O.klt (KF f d (m8 st') (lo+k)) (KF f d (m8 st') (lo+i)))) ?istep ?ifin ?iinit) ?ipost)
  case iinit=>exact⟨rfl,0,k,rfl,by omega,by omega,by omega,fun i hi=>by omega,fun i h1 h2=>by omega⟩
  case ifin =>
   rintro c st'' ⟨rfl,l,r,rfl,hlr,hrk,hm,hlo,hhi⟩
   have:l=r:=by omega
   subst this
   exact⟨rfl,l,l,rfl,hrk,hlo,hhi⟩
  case istep =>
   rintro x c st'' _ hxk ⟨rfl,l,r,rfl,hlr,hrk,hm,hlo,hhi⟩
   dsimp only
   by_cases hge:l≥r
   ·rw[if_pos hge]
    have:l=r:=by omega
    subst this
    exact l9 ⟨rfl,l,l,rfl,hrk,hlo,hhi⟩
   ·rw[if_neg hge]
    refine j4 (ae5 (d:=d) C hB' hk (by omega) ?_)
    cases hless:O.blt (KF f d (m8 st'') (lo+k)) (KF f d (m8 st'') (lo+(l+r) / 2))
    case true =>
     simp only[if_true]
     refine l9 ⟨rfl,l,(l+r) / 2,rfl,by omega,by omega,by omega,hlo,fun i h1 h2=>?_⟩
     exact KeyOrd.klt_of_klt_of_kle hless (hs' _ _ h1 h2)
    case false =>
     simp only[m5,if_false]
     refine l9 ⟨rfl,(l+r) / 2+1,r,rfl,by omega,by omega,by omega,fun i h1=>?_,hhi⟩
     exact KeyOrd.kle_trans (hs' i ((l+r) / 2) (by omega) (by omega)) (show O.kle _ _ from hless)
  case ipost =>
   rintro c st'' ⟨rfl,l,r,rfl,hlk,hlo,hhi⟩
   show wpS _ _ _ _ (do moveDown' (lo+k) (lo+l);pure (ForInStep.yield (none,()))) _ _
   rw[moveDown'_eq]
   have hks:lo+k<(m8 st'').size:=by rw[hB'.size];exact hk
   refine j4 (ax8 (l9 ⟨rfl,hB'.setArr (bubble_perm _ _ _),hp'.trans (Pre.bubble hks (by omega) (by omega)),?_⟩))
   rw[show min (k+1) n=k+1 by omega]
   intro i j hij hj
   show O.kle (KF f d (bubble (m8 st'') (lo+k) (lo+k - (lo+l))) (lo+i)) (KF f d (bubble (m8 st'') (lo+k) (lo+k - (lo+l))) (lo+j))
   rw[aK8 hks (by omega),aK8 hks (by omega),show lo+k - (lo+k - (lo+l))=lo+l by omega]
   have e1:∀ t:Nat,0<t->lo+t - 1=lo+(t - 1):=fun t ht=>by omega
   repeat' split
   all_goals first
    | (exfalso;omega)
    | exact KeyOrd.kle_refl _
    | exact hlo _ (by omega)
    | (rw[e1 _ (by omega)];exact KeyOrd.kle_of_klt (hhi _ (by omega) (by omega)))
    | exact KeyOrd.kle_of_klt (hhi _ (by omega) (by omega))
    | exact hs' _ _ (by omega) (by omega)
    | (rw[e1 _ (by omega)];exact hs' _ _ (by omega) (by omega))
    | (rw[e1 _ (by omega),e1 _ (by omega)];exact hs' _ _ (by omega) (by omega))
end
theorem aU6 (i:Nat):mergeAt' i=(do
 let s <- get
 let (some (sa,na,power),some (sb,nb,_)):=((B6 s)[i]?,(B6 s)[i+1]?) | ah2 "internal:list.sort.pending"
 set (bE7 s (((B6 s).setIfInBounds i (sa,na+nb,power)).eraseIdxIfInBounds (i+1)))
 let some k <- X5 false (<- ai0 (m8 s) sb) (m8 s) sa na 0 | return false
 let (sa,na):=(sa+k,na - k)
 if na == 0 then return true
 let some nb <- X5 true (<- ai0 (m8 s) (sa+na - 1)) (m8 s) sb nb (nb - 1) | return false
 if nb == 0 then return true
 let x:=(m8 s).extract sa sb
 let y:=(m8 s).extract sb (sb+nb)
 let merged <- if na<=nb then aC9 x y else aD0 x y
 modify fun s=>setArr s (merged.toList.zipIdx.foldl (fun a (p,j)=>a.setIfInBounds (sa+j) p) (m8 s))
 return (N2 (<- get)).isNone):=rfl
def shape (ps:List (Nat × Nat × Nat)):List (Nat × Nat):=ps.map fun x=>(x.1,x.2.1)
def ar4:Nat->List (List Keyed)->List (Nat × Nat)
 | _,[]=>[]
 | k,r::rs=>(k,r.length)::ar4 (k+r.length) rs
theorem aa9:∀ (k:Nat) (rs ts:List (List Keyed)),ar4 k (rs++ts)=ar4 k rs++ar4 (k+rs.flatten.length) ts
 | k,[],ts=>by simp[ar4]
 | k,r::rs,ts=>by
  rw[cf0]
  show (k,r.length)::ar4 (k+r.length) (rs++ts)=(k,r.length)::(ar4 (k+r.length) rs++_)
  rw[aa9 (k+r.length) rs ts,O4,j2,Nat.add_assoc]
theorem aa8:∀ (k:Nat) (rs:List (List Keyed)),(ar4 k rs).length=rs.length
 | _,[]=>rfl
 | k,r::rs=>by
  show (ar4 (k+r.length) rs).length+1=rs.length+1
  rw[aa8]
theorem aR2 {α:Type}{l:List α}(h:i+1<l.length):∃ l1 u v l2,l=l1++u::v::l2/\l1.length=i:=by
 refine⟨l.take i,l[i],l[i+1],l.drop (i+2),?_,by rw[k8];omega⟩
 rw[<- ah6,<- ah6,A0]
theorem aW7 (b:Nat):∀ (m:List Keyed) (k:Nat) (arr:Array Keyed),b+k+m.length<=arr.size ->
  (ac3 (fun a x=>match x with | (p,j)=>bE9 a (b+j) p) arr (m.zipIdx k)).toList=arr.toList.take (b+k)++(m++arr.toList.drop (b+k+m.length))
 | [],k,arr,h=>by simp
 | x::m,k,arr,h=>by
  rw[i9]at h
  rw[List.zipIdx_cons,ad8,aW7 b m (k+1) _ (by rw[bf2];omega)]
  dsimp only
  rw[aY2]
  have hl:b+k<arr.toList.length:=by rw[j9];omega
  rw[List.set_eq_take_append_cons_drop,if_pos hl]
  have e1:(aY3 (b+k) arr.toList).length=b+k:=by rw[k8];omega
  have e2:(aY3 (b+k) arr.toList++x::bE2 (b+k+1) arr.toList).take (b+(k+1))=aY3 (b+k) arr.toList++[x]:=by
   rw[cf1,e1,show b+(k+1) - (b+k)=1 by omega,k7 (by rw[e1];omega)]
   rfl
  have e3:(aY3 (b+k) arr.toList++x::bE2 (b+k+1) arr.toList).drop (b+(k+1)+m.length)=arr.toList.drop (b+k+(m.length+1)):=by
   rw[Z6,e1,G1 (by rw[e1];omega),O5,show b+(k+1)+m.length - (b+k)=m.length+1 by omega,List.drop_succ_cons,bf0]
   congr 1
   omega
  rw[e2,e3,v9]
  rfl
theorem bG5 {σ:Type}{x:σ}{Q:PUnit->σ->Prop}{st:σ}(h:Q ⟨⟩ x):wpS M A E s (set x:StateT σ Sem PUnit) Q st:=by
 unfold wpS;rw[StateT.run_set];exact j5 ⟨rfl,h⟩
structure SR (a₀:Array Keyed) (κ:SortKind) (B:Keyed->Keyed->Bool) (runs:List (List Keyed)) (suf:List Keyed) (st:SortSt):Prop where
 perm:(m8 st).Perm a₀
 kind:kindOf st=κ
 failed:N2 st=none
 sh:shape (B6 st).toList=ar4 0 runs
 ok:∀ r∈runs,r≠[]/\r.Pairwise (le B)
 arr:(m8 st).toList=runs.flatten++suf
section
variable {a₀:Array Keyed}
theorem ac9 {l:List Keyed}(h:l.Pairwise R)(rf:∀ x,R x x){x y:Keyed}(hij:i<=j)(hx:l[i]?=some x)(hy:l[j]?=some y):R x y:=by
 obtain⟨h1,rfl⟩:=d5.mp hx
 obtain⟨h2,rfl⟩:=d5.mp hy
 rcases J5 hij with hlt | rfl
 ·exact p7.mp h i j h1 h2 hlt
 ·exact rf _
theorem aw1 (o:Ord B)(C:Cmp prog w A E s κ (·∈a₀.toList) B){st:SortSt}{runs:List (List Keyed)}{suf:List Keyed}{Q:Bool->SortSt->Prop}(I:SR a₀ κ B runs suf st)(hi:i+1<runs.length)
  (h:∀ runs' st',SR a₀ κ B runs' suf st'->runs'.length+1=runs.length->runs'.flatten.length=runs.flatten.length->Q true st'):wpS (t7 prog w) A E s (mergeAt' i) Q st:=by
 obtain⟨r1,R,R',r2,rfl,hr1⟩:=aR2 hi
 have hpl:(B6 st).toList.length=(r1++R::R'::r2).length:=by
  have:=congrArg ad6 I.sh
  rw[aa8]at this
  unfold shape at this
  rw[a5]at this
  exact this
 obtain⟨l1,u,v,l2,hp,hl1⟩:=aR2 (l:=(B6 st).toList) (i:=i) (by rw[hpl];exact hi)
 have hsh:=I.sh
 rw[hp,aa9]at hsh
 unfold shape at hsh
 rw[g9]at hsh
 obtain⟨s1,s2⟩:=List.append_inj hsh (by rw[a5,aa8,hl1,hr1])
 rw[n6,n6]at s2
 simp only[ar4,List.cons.injEq,M9]at s2
 obtain⟨su,sv,s2⟩:=s2
 obtain⟨sa,na,pw⟩:=u
 obtain⟨sb,nb,pw2⟩:=v
 simp only[Prod.mk.injEq]at su sv
 obtain⟨hsa,hna⟩:=su
 obtain⟨hsb,hnb⟩:=sv
 have okR:=I.ok R (by simp)
 have okR':=I.ok R' (by simp)
 have nR:0<R.length:=ad9.mpr okR.1
 have nR':0<R'.length:=ad9.mpr okR'.1
 have g1:(B6 st)[i]?=some (sa,na,pw):=by
  rw[<- d3,hp,F9 (by omega),hl1,bF0]
  rfl
 have g2:(B6 st)[i+1]?=some (sb,nb,pw2):=by
  rw[<- d3,hp,F9 (by omega),hl1,show i+1 - i=1 by omega]
  rfl
 have harr:(m8 st).toList=r1.flatten++(R++(R'++(r2.flatten++suf))):=by
  rw[I.arr]
  simp
 have hsize:(m8 st).size=sa+(na+(nb+(r2.flatten++suf).length)):=by
  rw[<- j9,harr,j2,j2,j2,hsa,hna,hnb]
 have atR:∀ k,k<na->(m8 st)[sa+k]?=R[k]?:=fun k hk=>by
  rw[<- d3,harr,F9 (by omega),hsa,P7,ah5 (by omega)]
 have atR':∀ k,k<nb->(m8 st)[sb+k]?=R'[k]?:=fun k hk=>by
  rw[<- d3,harr,F9 (by omega),F9 (by omega),ah5 (by omega)]
  congr 1
  omega
 have inS:∀ x∈(m8 st).toList,x∈a₀.toList:=fun x hx=>(L3.mp I.perm).mem_iff.mp hx
 have hpend:∀ M:List Keyed,M.length=na+nb->shape (((B6 st).setIfInBounds i (sa,na+nb,pw)).eraseIdxIfInBounds (i+1)).toList=ar4 0 (r1++M::r2):=fun M hM=>by
  have e:(((B6 st).setIfInBounds i (sa,na+nb,pw)).eraseIdxIfInBounds (i+1)).toList=l1++(sa,na+nb,pw)::l2:=by
   rw[Array.toList_eraseIdxIfInBounds,aY2,hp]
   subst hl1
   rw[List.set_append_right _ _ (c6 _),bF0,List.set_cons_zero,List.eraseIdx_append_of_length_le (by omega)]
   rw[show l1.length+1 - l1.length=1 by omega]
   rfl
  unfold shape
  rw[e,g9,s1,aa9,n6]
  show _++(sa,na+nb)::_=_++(0+r1.flatten.length,M.length)::ar4 (0+r1.flatten.length+M.length) r2
  rw[hM,s2,M9,hsa,hna,hnb,Nat.add_assoc]
 have fin:∀ (st':SortSt) (M:List Keyed),kindOf st'=κ->N2 st'=none->B6 st'=((B6 st).setIfInBounds i (sa,na+nb,pw)).eraseIdxIfInBounds (i+1) ->
   (m8 st').toList=r1.flatten++(M++(r2.flatten++suf))->M.Perm (R++R')->M.Pairwise (le B)->Q true st':=fun st' M k1 k2 k3 k4 k5 k6=>by
  have hM:M.length=na+nb:=by rw[k5.length_eq,j2,hna,hnb]
  refine h (r1++M::r2) st' ⟨?_,k1,k2,by rw[k3];exact hpend M hM,fun r hr=>?_,?_⟩ (by simp;omega) (by simp;omega)
  ·refine Array.Perm.trans ?_ I.perm
   rw[L3,k4,harr]
   refine List.Perm.append_left _ ?_
   rw[<- v9 R]
   exact List.Perm.append_right _ k5
  ·rcases m7.mp hr with hr | hr
   ·exact I.ok r (F1 _ hr)
   ·rcases c5.mp hr with rfl | hr
    ·exact⟨by intro e;rw[e]at hM;simp at hM;omega,k6⟩
    ·exact I.ok r (j7 _ (b8 _ (b8 _ hr)))
  ·rw[k4];simp
 have both:(∀ x∈R,∀ y∈R',le B x y)->(R++R').Pairwise (le B):=fun hxy=>q8.mpr ⟨okR.2,okR'.2,hxy⟩
 rw[aU6]
 refine j4 (ax0 ?_)
 rw[g1,g2]
 dsimp only
 refine j4 (bG5 ?_)
 obtain⟨y0,ey0⟩:∃ y0,R'[0]?=some y0:=⟨R'[0],f9 nR'⟩
 have ey:(m8 st)[sb]?=some y0:=by
  have:=atR' 0 (by omega)
  rw[aP2]at this
  rw[this,ey0]
 refine j4 (C7 ey ?_)
 have hy0:y0∈a₀.toList:=inS y0 (b9 (by rw[d3];exact ey))
 refine j4 (V2 o C (by exact I.kind) hy0 (by omega) (fun i x hi' e=>inS x (b9 (by rw[d3];exact e)))
  (fun i j x y hij hj e e'=>ac9 okR.2 o.rf hij (by rw[<- atR i (by omega)];exact e) (by rw[<- atR j hj];exact e')) (by omega) fun k hk hlt hge=>?_)
 dsimp only
 have leR:∀ (j:Nat) (x:Keyed),j<k->R[j]?=some x->le B x y0:=fun j x hj e=>by
  have q:=hlt j x hj (by rw[atR j (by omega)];exact e)
  show B y0 x=false
  simpa [byn] using q
 have gtR:∀ (j:Nat) (x:Keyed),k<=j->R[j]?=some x->B y0 x=true:=fun j x hj e=>by
  have hjl:j<R.length:=(d5.mp e).1
  have q:=hge j x hj (by omega) (by rw[atR j (by omega)];exact e)
  simpa [byn] using q
 have leY:∀ y∈R',le B y0 y:=fun y hy=>by
  obtain⟨j,hj⟩:=o5.mp hy
  exact ac9 okR'.2 o.rf (r9 j) ey0 hj
 by_cases e0:na - k=0
 ·rw[if_pos (by simpa using e0)]
  refine l9 (fin _ (R++R') I.kind I.failed rfl ?_ (List.Perm.refl _) (both fun x hx y hy=>?_))
  ·show (m8 st).toList=_
   rw[harr];simp
  ·obtain⟨j,hj⟩:=o5.mp hx
   have hjl:j<R.length:=(d5.mp hj).1
   exact o.trans (leR j x (by omega) hj) (leY y hy)
 rw[if_neg (by simpa using e0)]
 obtain⟨xl,exl⟩:∃ xl,R[na - 1]?=some xl:=⟨R[na - 1]'(by omega),f9 (by omega)⟩
 have ex:(m8 st)[sa+k+(na - k) - 1]?=some xl:=by
  rw[show sa+k+(na - k) - 1=sa+(na - 1) by omega,atR _ (by omega),exl]
 refine j4 (C7 ex ?_)
 have hxl:xl∈a₀.toList:=inS xl (b9 (by rw[d3];exact ex))
 refine j4 (V2 o C (by exact I.kind) hxl (by omega) (fun i x hi' e=>inS x (b9 (by rw[d3];exact e)))
  (fun i j x y hij hj e e'=>ac9 okR'.2 o.rf hij (by rw[<- atR' i (by omega)];exact e) (by rw[<- atR' j hj];exact e')) (by omega) fun k2 hk2 hlt2 hge2=>?_)
 dsimp only
 have ltY:∀ (j:Nat) (x:Keyed),j<k2->R'[j]?=some x->B x xl=true:=fun j x hj e=>by
  have q:=hlt2 j x hj (by rw[atR' j (by omega)];exact e)
  simpa [byn] using q
 have geY:∀ (j:Nat) (x:Keyed),k2<=j->R'[j]?=some x->le B xl x:=fun j x hj e=>by
  have hjl:j<R'.length:=(d5.mp e).1
  have q:=hge2 j x hj (by omega) (by rw[atR' j (by omega)];exact e)
  show B x xl=false
  simpa [byn] using q
 have leX:∀ x∈R,le B x xl:=fun x hx=>by
  obtain⟨j,hj⟩:=o5.mp hx
  have hjl:j<R.length:=(d5.mp hj).1
  exact ac9 okR.2 o.rf (by omega) hj exl
 by_cases e1:k2=0
 ·rw[if_pos (by simpa using e1)]
  refine l9 (fin _ (R++R') I.kind I.failed rfl ?_ (List.Perm.refl _) (both fun x hx y hy=>?_))
  ·show (m8 st).toList=_
   rw[harr];simp
  ·obtain⟨j,hj⟩:=o5.mp hy
   exact o.trans (leX x hx) (geY j y (by omega) hj)
 rw[if_neg (by simpa using e1)]
 have ex1:((m8 st).extract (sa+k) sb).toList=R.drop k:=by
  rw[az2,harr,hsa,Z6,G1 (by omega),O5,P7,aP3 (by omega),Z7 (by rw[A1];omega)]
  exact k7 (by rw[A1];omega)
 have ey1:((m8 st).extract sb (sb+k2)).toList=R'.take k2:=by
  rw[az2,harr,hsb,<- v9,Z6,G1 (by rw[j2];omega),O5,j2,bF0,bf1,P7,Z7 (by omega)]
 have sx:((m8 st).extract (sa+k) sb).size=na - k:=by rw[<- j9,ex1,A1];omega
 have sy:((m8 st).extract sb (sb+k2)).size=k2:=by rw[<- j9,ey1,k8];omega
 have pre1:∀ x y,((m8 st).extract sb (sb+k2))[0]?=some x->((m8 st).extract (sa+k) sb)[0]?=some y->B x y=true:=fun x y hx hy=>by
  rw[<- d3,ey1,O3 (by omega),ey0]at hx
  cases hx
  rw[<- d3,ex1,M5]at hy
  exact gtR (k+0) y (by omega) hy
 have pre2:∀ x∈((m8 st).extract sb (sb+k2)).toList,∀ y,((m8 st).extract (sa+k) sb)[((m8 st).extract (sa+k) sb).size - 1]?=some y->B x y=true:=fun x hx y hy=>by
  rw[<- d3,ex1,M5,sx,show k+(na - k - 1)=na - 1 by omega,exl]at hy
  cases hy
  rw[ey1]at hx
  obtain⟨j,hj⟩:=o5.mp hx
  rw[Q5]at hj
  split at hj
  ·rename_i hlt'
   exact ltY j x hlt' hj
  ·cases hj
 have sS1:∀ x∈((m8 st).extract (sa+k) sb).toList,x∈a₀.toList:=fun x hx=>by
  rw[ex1]at hx
  refine inS x ?_
  rw[harr]
  exact j7 _ (F1 _ (N7 hx))
 have sS2:∀ x∈((m8 st).extract sb (sb+k2)).toList,x∈a₀.toList:=fun x hx=>by
  rw[ey1]at hx
  refine inS x ?_
  rw[harr]
  exact j7 _ (j7 _ (F1 _ (A4 hx)))
 have so1:((m8 st).extract (sa+k) sb).toList.Pairwise (le B):=by rw[ex1];exact okR.2.sublist (S1 _ _)
 have so2:((m8 st).extract sb (sb+k2)).toList.Pairwise (le B):=by rw[ey1];exact okR'.2.sublist (E1 _ _)
 have done:∀ (r:Array Keyed) (st3:SortSt),Sm (bE7 st (((B6 st).setIfInBounds i (sa,na+nb,pw)).eraseIdxIfInBounds (i+1))) st3->Good B ((m8 st).extract (sa+k) sb) ((m8 st).extract sb (sb+k2)) r ->
   wpS (t7 prog w) A E s (do
    modify fun s=>setArr s (ac3 (fun a x=>match x with | (p,j)=>bE9 a (sa+k+j) p) (m8 s) r.toList.zipIdx)
    let __do_lift <- get
    pure (N2 __do_lift).isNone) Q st3:=fun r st3 hS hg=>by
  refine j4 (ax8 (j4 (ax0 (l9 ?_))))
  have hf:N2 st3=none:=hS.f.trans I.failed
  show Q (N2 st3).isNone _
  rw[hf]
  obtain⟨g1,g2⟩:=hg
  rw[ex1,ey1]at g2
  have hrl:r.toList.length=na - k+k2:=by rw[g2.length_eq,j2,A1,k8];omega
  refine fin _ (R.take k++(r.toList++R'.drop k2)) (hS.k.trans I.kind) hf hS.p ?_ ?_ ?_
  ·show (ac3 _ (m8 st3) (r.toList.zipIdx 0)).toList=_
   rw[hS.a]
   show (ac3 _ (m8 st) (r.toList.zipIdx 0)).toList=_
   rw[aW7 (sa+k) r.toList 0 (m8 st) (by omega),harr,aP2,hrl]
   have t1:aY3 (sa+k) (r1.flatten++(R++(R'++(r2.flatten++suf))))=r1.flatten++R.take k:=by
    rw[cf1,k7 (by omega),show sa+k - r1.flatten.length=k by omega,Z7 (by omega)]
   have t2:bE2 (sa+k+(na - k+k2)) (r1.flatten++(R++(R'++(r2.flatten++suf))))=R'.drop k2++(r2.flatten++suf):=by
    rw[Z6,G1 (by omega),O5,Z6,G1 (by omega),O5,aP3 (by omega)]
    congr 2
    omega
   rw[t1,t2]
   simp
  ·have:(R.take k++(r.toList++R'.drop k2)).Perm (R.take k++((R.drop k++R'.take k2)++R'.drop k2)):=List.Perm.append_left _ (List.Perm.append_right _ g2)
   refine this.trans (List.Perm.of_eq ?_)
   rw[v9,A0,<- v9,A0]
  ·have inM:∀ z∈r.toList,z∈R.drop k\/z∈R'.take k2:=fun z hz=>m7.mp (g2.mem_iff.mp hz)
   have tk:∀ {l:List Keyed} {n:Nat} {x:Keyed},x∈l.take n->∃ j,j<n/\l[j]?=some x:=fun {l n x} hx=>by
    obtain⟨j,hj⟩:=o5.mp hx
    rw[Q5]at hj
    split at hj
    ·rename_i hlt'
     exact⟨j,hlt',hj⟩
    ·cases hj
   refine q8.mpr ⟨okR.2.sublist (E1 _ _),q8.mpr ⟨g1,okR'.2.sublist (S1 _ _),fun x hx y hy=>?_⟩,fun x hx y hy=>?_⟩
   ·obtain⟨j,h1,h2,h3⟩:=F7 hy
    rcases inM x hx with hx | hx
    ·exact o.trans (leX x (N7 hx)) (geY j y h1 h3)
    ·obtain⟨i',h4,h5⟩:=tk hx
     exact ac9 okR'.2 o.rf (by omega) h5 h3
   ·obtain⟨i',h4,h5⟩:=tk hx
    rcases m7.mp hy with hy | hy
    ·rcases inM y hy with hy | hy
     ·obtain⟨j,h1,h2,h3⟩:=F7 hy
      exact ac9 okR.2 o.rf (by omega) h5 h3
     ·exact o.trans (leR i' x h4 h5) (leY y (A4 hy))
    ·exact o.trans (leR i' x h4 h5) (leY y (N7 hy))
 by_cases e2:na - k<=k2
 ·rw[if_pos e2]
  exact j4 (aQ3 o C (by exact I.kind) sS1 sS2 so1 so2 (by omega) (by omega) pre1 pre2 fun r st3 hS hg=>done r st3 hS hg)
 ·rw[if_neg e2]
  exact j4 (aQ4 o C (by exact I.kind) sS1 sS2 so1 so2 (by omega) (by omega) pre1 pre2 fun r st3 hS hg=>done r st3 hS hg)
theorem aT5 {runs:List (List Keyed)}{suf:List Keyed}{st:SortSt}(I:SR a₀ κ B runs suf st):(B6 st).size=runs.length:=by
 have:=congrArg ad6 I.sh
 rw[aa8]at this
 unfold shape at this
 rw[a5,j9]at this
 exact this
theorem bh1:∀ (runs:List (List Keyed)),(∀ r∈runs,r≠[]/\r.Pairwise (le B))->runs.length<=runs.flatten.length
 | [],_=>c6 _
 | r::rs,h=>by
  have h1:=bh1 rs fun r hr=>h r (b8 _ hr)
  have h2:0<r.length:=ad9.mpr (h r c7).1
  rw[i9,O4,j2]
  omega
end
section
variable {a₀:Array Keyed} {O:aY9} {f:Keyed->O.α}
theorem bX0 {d:O.α}{xs:Array Keyed}{lo:Nat}(hs:U4 f d lo xs n)(hn:lo+n<=xs.size):((xs.toList.drop lo).take n).Pairwise (le (Bf f))/\((xs.toList.drop lo).take n).length=n:=by
 refine⟨p7.mpr fun i j hi hj hij=>?_,by rw[k8,A1,j9];omega⟩
 have hjn:j<n:=by rw[k8]at hj;omega
 have gi:∀ k,(hk:k<n)->(xs.toList.drop lo)[k]?=some (xs[lo+k]'(by omega)):=fun k hk=>by
  rw[M5,d3]
  exact getElem?_pos xs _ _
 have e1:((xs.toList.drop lo).take n)[i]=xs[lo+i]'(by omega):=by
  have:=gi i (by omega)
  rw[<- O3 (show i<n by omega),f9 hi]at this
  exact Option.some.inj this
 have e2:((xs.toList.drop lo).take n)[j]=xs[lo+j]'(by omega):=by
  have:=gi j hjn
  rw[<- O3 hjn,f9 hj]at this
  exact Option.some.inj this
 rw[e1,e2]
 have:=hs i j (at1 hij) hjn
 rw[aA0 (getElem?_pos xs (lo+i) (by omega)),aA0 (getElem?_pos xs (lo+j) (by omega))]at this
 exact this
theorem aR0 {lo:Nat}{xs ys:Array Keyed}(h:Pre lo xs ys)(hz:ys.size=xs.size):ys.toList.take lo=xs.toList.take lo:=by
 apply S2
 intro k
 rw[Q5,Q5]
 split
 ·rw[d3,d3]
  exact h k (by assumption)
 ·rfl
theorem aw0 (C:bO7 prog w A E s κ a₀ f) {st:SortSt} {Q:Unit->SortSt->Prop} (d:O.α) (hp:(m8 st).Perm a₀) (hk:kindOf st=κ) (hf:N2 st=none) (hpe:B6 st=#[])
    (h:∀ st',(m8 st').Perm a₀->N2 st'=none->(m8 st').toList.Pairwise (le (Bf f))->Q () st'):wpS (t7 prog w) A E s sortRuns' Q st:=by
  have o:Ord (Bf f):=Bf.ord f
  have hsz:(m8 st).size=a₀.size:=hp.size_eq
  rw[sortRuns'_eq]
  refine j4 (ax0 ?_)
  dsimp only
  rw[hsz]
  refine j4 (V4 (E6
    (I:=fun x c st'=>∃ runs suf lo,c=(none,lo)/\SR a₀ κ (Bf f) runs suf st'/\lo=runs.flatten.length/\(x<=lo\/lo=a₀.size)/\lo<=a₀.size)
    (Q:=fun c st'=>∃ runs,c=(none,a₀.size)/\SR a₀ κ (Bf f) runs [] st') ?step ?fin
    ⟨[],(m8 st).toList,0,rfl,⟨hp,hk,hf,by rw[hpe];rfl,(fun _ hr=>nomatch hr),by simp⟩,rfl,.inl (c6 _),r9 _⟩) ?post)
  case fin =>
    rintro c st' ⟨runs,suf,lo,rfl,I,h1,h2,h3⟩
    have e:lo=a₀.size:=by omega
    have hl:=congrArg ad6 I.arr
    rw[j9,I.perm.size_eq,j2]at hl
    have:suf=[]:=Q0 (by omega)
    subst this
    exact⟨runs,by rw[e],I⟩
  case step =>
    rintro x c st1 _ hx ⟨runs,suf,lo,rfl,I,h1,h2,h3⟩
    dsimp only
    by_cases hge:lo≥a₀.size
    · rw[if_pos hge]
      have e:lo=a₀.size:=by omega
      have hl:=congrArg ad6 I.arr
      rw[j9,I.perm.size_eq,j2]at hl
      have:suf=[]:=Q0 (by omega)
      subst this
      exact l9 ⟨runs,by rw[e],I⟩
    rw[if_neg hge]
    refine j4 (wpS_countRun C d (p:=B6 st1) (by omega) (by omega) ⟨I.perm,I.kind,I.failed,rfl⟩ fun n st2 hB2 hp2 hn1 hn2 hs2=>?_)
    dsimp only
    have cont:∀ (n':Nat) (st3:SortSt),SI a₀ κ (B6 st1) st3->Pre lo (m8 st1) (m8 st3)->1<=n'->n'<=a₀.size - lo->U4 f d lo (m8 st3) n' ->
        ∃ run suf',SR a₀ κ (Bf f) runs (run++suf') st3/\run.length=n'/\run.Pairwise (le (Bf f)):=fun n' st3 hB3 hp3 k1 k2 hs3=>by
      obtain⟨q1,q2⟩:=bX0 hs3 (by rw[hB3.size];omega)
      refine⟨((m8 st3).toList.drop lo).take n',(m8 st3).toList.drop (lo+n'),⟨hB3.perm,hB3.kind,hB3.failed,by rw[hB3.pend];exact I.sh,I.ok,?_⟩,q2,q1⟩
      rw[<- ap3]
      refine(A0 lo (m8 st3).toList).symm.trans ?_
      congr 1
      rw[aR0 hp3 (by rw[hB3.size,I.perm.size_eq]),I.arr,h1]
      exact List.take_left
    have more:∀ (rs:List (List Keyed)) (run suf':List Keyed) (n':Nat) (st3:SortSt),SR a₀ κ (Bf f) rs (run++suf') st3->rs.flatten.length=lo->run.length=n'->run.Pairwise (le (Bf f))->1<=n'->n'<=a₀.size - lo ->
        ∃ runs suf lo',((none,lo+n'):Option Unit × Nat)=(none,lo')/\SR a₀ κ (Bf f) runs suf (bE7 st3 ((B6 st3).push (lo,n',0)))/\lo'=runs.flatten.length/\(x+1<=lo'\/lo'=a₀.size)/\lo'<=a₀.size:=fun rs run suf' n' st3 I3 e1 e2 e3 k1 k2=>by
      refine⟨rs++[run],suf',lo+n',rfl,⟨I3.perm,I3.kind,I3.failed,?_,fun r hr=>?_,?_⟩,by simp[e1,e2],by omega,by omega⟩
      · show shape ((B6 st3).push (lo,n',0)).toList=_
        rw[W8,aa9,<- I3.sh]
        unfold shape
        rw[g9,M9,e1]
        simp[ar4,e2]
      · rcases m7.mp hr with hr | hr
        · exact I3.ok r hr
        · rw[j8.mp hr]
          exact⟨by intro z;rw[z]at e2;simp at e2;omega,e3⟩
      · show (m8 st3).toList=_
        rw[I3.arr]
        simp
    by_cases hlt:n<minRun' a₀.size a₀.size 0
    all_goals first
      | (rw [if_pos hlt]
         refine j4 (ac4 ?_)
         refine j4 (ax3 C d (by omega) (by omega) hB2 hs2 fun st3 hB3 hp3 hs3=>?_)
         simp only[S3,m5,if_false]
         obtain⟨run,suf',I3,e2,e3⟩:=cont _ st3 hB3 (hp2.trans hp3) (by omega) (by omega) hs3
         have k1:1<=min (a₀.size - lo) (minRun' a₀.size a₀.size 0):=by omega
         have k2:min (a₀.size - lo) (minRun' a₀.size a₀.size 0)<=a₀.size - lo:=by omega
         revert e2 k1 k2
         generalize min (a₀.size - lo) (minRun' a₀.size a₀.size 0)=n'
         intro e2 k1 k2)
      | (rw [if_neg hlt]
         obtain⟨run,suf',I3,e2,e3⟩:=cont n st2 hB2 hp2 hn1 hn2 hs2
         have k1:1<=n:=hn1
         have k2:n<=a₀.size - lo:=hn2
         revert e2 k1 k2
         generalize n=n'
         intro e2 k1 k2)
    all_goals
      refine j4 (ax0 ?_)
      split
      ·
        rename_i s1 n1 pw1 hback
        refine j4 (V4 (E6
          (I:=fun _ c st'=>c=(none,())/\∃ rs,SR a₀ κ (Bf f) rs (run++suf') st'/\rs.flatten.length=lo)
          (Q:=fun c st'=>c=(none,())/\∃ rs,SR a₀ κ (Bf f) rs (run++suf') st'/\rs.flatten.length=lo) ?mstep (fun _ _ q=>q) ⟨rfl,runs,I3,h1.symm⟩) ?mpost)
        case mstep =>
          rintro y c st4 _ _ ⟨rfl,rs,I4,e4⟩
          refine j4 (ax0 ?_)
          try dsimp only
          by_cases hz:(B6 st4).size > 1
          · rw[if_pos hz]
            split
            · split
              · exact l9 ⟨rfl,rs,I4,e4⟩
              · refine j4 (aw1 o C I4 (by rw[<- aT5 I4];omega) fun rs' st5 I5 _ e5=>?_)
                simp only[S3,m5,if_false]
                exact l9 ⟨rfl,rs',I5,e5.trans e4⟩
            · exact l9 ⟨rfl,rs,I4,e4⟩
          · rw[if_neg hz]
            exact l9 ⟨rfl,rs,I4,e4⟩
        case mpost =>
          rintro c st4 ⟨rfl,rs,I4,e4⟩
          try dsimp only
          refine j4 (ax8 ?_)
          have I5:SR a₀ κ (Bf f) rs (run++suf') (bE7 st4 ((B6 st4).modify ((B6 st4).size - 1) fun x=>match x with | (st,len,snd)=>(st,len,power' a₀.size (2*s1+n1) (2*s1+n1+n1+n') a₀.size))):=by
            refine⟨I4.perm,I4.kind,I4.failed,?_,I4.ok,I4.arr⟩
            rw[<- I4.sh]
            show shape ((B6 st4).modify _ _).toList=_
            rw[Array.toList_modify]
            unfold shape
            apply S2
            intro k
            rw[o6,o6,List.getElem?_modify]
            cases (B6 st4).toList[k]? with
            | none=>rfl
            | some v =>
              obtain⟨v1,v2,v3⟩:=v
              simp only[Option.map_some]
              split<;>rfl
          exact j4 (ax8 (l9 (more rs run suf' n' _ I5 e4 e2 e3 k1 k2)))
      · exact j4 (ax8 (l9 (more runs run suf' n' _ I3 h1.symm e2 e3 k1 k2)))
  case post =>
    rintro c st1 ⟨runs,rfl,I⟩
    try dsimp only
    refine j4 (V4 (E6
      (I:=fun x c st'=>c=(none,())/\∃ rs,SR a₀ κ (Bf f) rs [] st'/\(rs.length+x<=a₀.size\/rs.length<=1))
      (Q:=fun c st'=>c=(none,())/\∃ rs,SR a₀ κ (Bf f) rs [] st'/\rs.length<=1) ?fstep ?ffin ⟨rfl,runs,I,.inl ?fst⟩) ?fpost)
    case fst =>
      have h1:=bh1 runs I.ok
      have hl:=congrArg ad6 I.arr
      rw[j9,I.perm.size_eq,G9]at hl
      omega
    case ffin =>
      rintro c st' ⟨rfl,rs,I',q⟩
      exact⟨rfl,rs,I',by omega⟩
    case fstep =>
      rintro x c st2 _ hx ⟨rfl,rs,I2,q⟩
      refine j4 (ax0 ?_)
      try dsimp only
      have hpl:=aT5 I2
      by_cases hz:(B6 st2).size<=1
      · rw[if_pos hz]
        exact l9 ⟨rfl,rs,I2,by omega⟩
      rw[if_neg hz]
      refine j4 (aw1 o C I2 ?_ fun rs' st3 I3 e3 _=>?_)
      · (repeat' split)<;>omega
      · simp only[S3,m5,if_false]
        exact l9 ⟨rfl,rs',I3,by omega⟩
    case fpost =>
      rintro c st2 ⟨rfl,rs,I2,q⟩
      refine l9 (h st2 I2.perm I2.failed ?_)
      rw[I2.arr,G9]
      match rs,I2.ok,q with
      | [],_,_=>exact List.Pairwise.nil
      | [r],ok,_=>simpa using (ok r (by simp)).2
end
end Tim
namespace Tim
open PySem PyProof.Rows PySem.W
def L9:List Int->List Int->Bool
 | [],[]=>false
 | [],_::_=>true
 | _::_,[]=>false
 | a::x,b::y=>if a=b then L9 x y else decide (a<b)
theorem ar8:∀ x,L9 x x=false
 | []=>rfl
 | a::x=>by unfold L9;rw[if_pos rfl];exact ar8 x
theorem ar7:∀ x y z,L9 x y=true->L9 y z=true->L9 x z=true
 | [],[],z,h,_=>by cases h
 | [],_::_,[],_,h=>by cases h
 | [],_::_,_::_,_,_=>rfl
 | _::_,[],z,h,_=>by cases h
 | _::_,_::_,[],_,h=>by cases h
 | a::x,b::y,c::z,h1,h2=>by
  unfold L9 at h1 h2 ⊢
  by_cases e1:a=b
  ·subst e1
   rw[if_pos rfl]at h1
   by_cases e2:a=c
   ·rw[if_pos e2]at h2 ⊢
    exact ar7 x y z h1 h2
   ·rw[if_neg e2]at h2 ⊢
    exact h2
  ·rw[if_neg e1,decide_eq_true_eq]at h1
   by_cases e2:b=c
   ·subst e2
    rw[if_neg e1,decide_eq_true_eq]
    exact h1
   ·rw[if_neg e2,decide_eq_true_eq]at h2
    rw[if_neg (by omega),decide_eq_true_eq]
    omega
theorem aD4:∀ x y,L9 x y=false->L9 y x=false->x=y
 | [],[],_,_=>rfl
 | [],_::_,h,_=>by cases h
 | _::_,[],_,h=>by cases h
 | a::x,b::y,h1,h2=>by
  unfold L9 at h1 h2
  by_cases e:a=b
  ·subst e
   rw[if_pos rfl]at h1 h2
   rw[aD4 x y h1 h2]
  ·rw[if_neg e,decide_eq_false_iff_not]at h1
   rw[if_neg (Ne.symm e),decide_eq_false_iff_not]at h2
   omega
theorem bM5 (x y z:List Int)(h:L9 x z=true):L9 x y=true\/L9 y z=true:=by
 cases e1:L9 x y with
 | true=>exact .inl rfl
 | false =>
  cases e2:L9 y x with
  | true=>exact .inr (ar7 _ _ _ e2 h)
  | false=>rw[aD4 x y e1 e2]at h;exact .inr h
def bc9:aY9:=⟨List Int,L9,ar8,ar7,bM5,aD4⟩
def IsK (prog:Program)(w:World)(h:Heap)(k:List Int)(v:Value):Prop:=∃ a,v=.ref a/\J9 (A8 prog w) h k a
theorem IsK.inj {k':List Int}(x:IsK prog w h k v)(y:IsK prog w h k' v):k=k':=by
 obtain⟨a,rfl,h1⟩:=x
 obtain⟨b,e,h2⟩:=y
 cases e
 exact h1.inj h2
open Classical in
noncomputable def V0 (prog:Program)(w:World)(h:Heap)(v:Value):List Int:=if q:∃ k,IsK prog w h k v then Classical.choose q else []
theorem U3 (x:IsK prog w h k v):V0 prog w h v=k:=by
 unfold V0
 rw[dif_pos ⟨k,x⟩]
 exact(Classical.choose_spec (⟨k,x⟩:∃ k,IsK prog w h k v)).inj x
theorem IsK.up (x:IsK prog w h k v)(hs:∀ b o,h.get? b=some o->h'.get? b=some o):IsK prog w h' k v:=by
 obtain⟨a,e,o,items,n,h2,h3⟩:=x
 exact⟨a,e,o,items,n,hs a o h2,h3⟩
theorem aJ2 {b:Bool}{Q:Bool->Shared->Prop}(hb:b=true):∀ (x y:List Int) (vs us:List Value) (i:Nat) (fin:Bool),ItemsAre (A8 prog w) x vs->ItemsAre (A8 prog w) y us->(x.length<y.length↔fin=true)->Q (L9 x y) s->KatLex prog w A b fin Q (vs.zip us) i s
 | [],[],_,_,i,fin,.nil,.nil,hf,h=>by
  have:fin=false:=by cases fin with | false=>rfl | true=>exact absurd (hf.mpr rfl) (by simp)
  subst this
  exact kat_nil h
 | [],_::_,_,_,i,fin,.nil,.cons _ _,hf,h=>by
  have:fin=true:=hf.mp (by simp)
  subst this
  exact kat_nil h
 | _::_,[],_,_,i,fin,.cons _ _,.nil,hf,h=>by
  have:fin=false:=by cases fin with | false=>rfl | true=>exact absurd (hf.mpr rfl) (by simp)
  subst this
  exact kat_nil h
 | a::x,c::y,_,_,i,fin,.cons h1 t1,.cons h2 t2,hf,h=>by
  obtain⟨t,rfl⟩:=Value.isInt_shape h1
  obtain⟨u,rfl⟩:=Value.isInt_shape h2
  rw[W0]
  refine kat_cons (wpAny_eqBool_int ?_)
  unfold L9 at h
  by_cases e:a=c
  ·subst e
   rw[if_pos rfl]at h
   rw[show (a == a)=true by simp]
   exact kat_yes (aJ2 hb x y _ _ (i+1) fin t1 t2 (by rw[<- hf];simp) h)
  ·rw[if_neg e]at h
   rw[show (a == c)=false by simpa using e]
   refine kat_no ?_
   cases hi:(b && i == 0) with
   | true=>exact oneLt_int h
   | false=>exact kat_one _ _ (lt_int h)
theorem aU7 {x y:Value}{k':List Int}{Q:Bool->Shared->Prop}(hx:IsK prog w s.heap k x)(hy:IsK prog w s.heap k' y)(h:Q (L9 k k') s):v7 (t7 prog w) A (keyLt' (bG0 true) x y) Q E s:=by
 obtain⟨a,rfl,o,xs,n,ho,hc,hd,hi⟩:=hx
 obtain⟨b,rfl,o',ys,n',ho',hc',hd',hi'⟩:=hy
 refine kat_lt ho hd ho' hd' (aJ2 rfl k k' _ _ 0 _ hi hi' ?_ h)
 have e1:k.length=xs.size:=by have:=hi.length;simpa using this
 have e2:k'.length=ys.size:=by have:=hi'.length;simpa using this
 rw[e1,e2]
 simp
theorem aD5 {Q:SortKind->Shared->Prop}(hne:0<vs.length)(hv:∀ v∈vs,∃ i k,IsK prog w s.heap (i::k) v)(h:Q (bG0 true) s):v7 (t7 prog w) A (keyKind' vs.toArray) Q E s:=by
 have ex:∀ l:List Value,(∀ v∈l,∃ i k,IsK prog w s.heap (i::k) v)->∃ fs:List Value,KatTups s.heap l fs/\fs.length=l.length/\∀ v∈fs,∃ i t,v=.int i t:=fun l=>by
  induction l with
  | nil=>intro _;exact⟨[],KatTups.nil,rfl,(fun _ h=>nomatch h)⟩
  | cons v l ih =>
   intro hl
   obtain⟨i,k,a,rfl,o,xs,n,ho,hc,hd,hi⟩:=hl v c7
   obtain⟨fs,f1,f2,f3⟩:=ih fun v hv=>hl v (b8 _ hv)
   obtain⟨f,hf,t,rfl⟩:∃ f,xs[0]?=some f/\∃ t,f=.int i t:=by
    cases e:xs.toList with
    | nil=>rw[e]at hi;cases hi
    | cons f r =>
     rw[e]at hi
     cases hi with
     | cons h1 _ =>
      obtain⟨t,et⟩:=Value.isInt_shape h1
      exact⟨f,by rw[<- d3,e];rfl,t,et⟩
   refine⟨.int i t::fs,KatTups.cons ho hc hd hf f1,by rw[i9,f2,i9],fun v hv=>?_⟩
   rcases c5.mp hv with rfl | hv
   ·exact⟨i,t,rfl⟩
   ·exact f3 v hv
 obtain⟨fs,f1,f2,f3⟩:=ex vs hv
 refine kat_kind (T:=.type "int") f1 (by omega) (fun v hv=>?_) (by decide) ?_
 ·obtain⟨i,t,rfl⟩:=f3 v hv
  exact .now
 ·exact h
theorem bn0 {P:PySem.Fin->Shared->Prop}(ho:s.heap.get? a=some (G2 "list" vs.toArray n))(hz:vs.length<=d8)
  (hv:∀ v∈vs,∃ i k,IsK prog w s.heap (i::k) v)(hna:∀ v∈vs,v≠.ref a)
  (h:∀ out:List Value,out.Perm vs->out.Pairwise (fun x y=>L9 (V0 prog w s.heap y) (V0 prog w s.heap x)=false)->P (.done (.ret .none)) { s with heap:=ao2 s.heap a vs out.toArray }) :
  v7 (t7 prog w) A (Builtin.«list.sort» ⟨[.ref a],[]⟩) P E s:=by
 rw[list_sort_plain]
 have ha:a<s.heap.objs.size:=i7 ho
 refine a8 (bT1 ho rfl ?_)
 refine a8 (ae4 ho rfl ?_ (by rw[d9];exact hz) (r9 _))
 obtain⟨e1,ho1⟩:∃ e1,(s.heap.update a (Obj.mapSeq fun _=>#[])).get? a=some (G2 "list" #[] e1):=⟨_,X0 ho (fun _=>#[])⟩
 refine a8 (bl8 ho1 rfl ?_)
 refine a8 (wpAny_newTuple ?_ (by show vs.length<=_;exact hz))
 refine a8 (T8 ?_ (r9 _))
 refine F5 ?_
 generalize hH:((s.heap.update a (Obj.mapSeq fun _=>#[])).push (G2 "tuple" vs.toArray 0)).push (G2 "list" #[] 0)=h6
 have ho6:h6.get? a=some (G2 "list" #[] e1):=by rw[<- hH];exact a7 _ (a7 _ ho1)
 have keep:∀ b o,b≠a->s.heap.get? b=some o->h6.get? b=some o:=fun b o hb e=>by
  rw[<- hH]
  exact a7 _ (a7 _ ((E5 s.heap _ (Ne.symm hb)).trans e))
 have up:∀ v∈vs,∀ k,IsK prog w s.heap k v->IsK prog w h6 k v:=fun v hv' k hk=>by
  obtain⟨c,rfl,o,items,n,h2,h3⟩:=hk
  exact⟨c,rfl,o,items,n,keep c o (fun z=>hna _ hv' (by rw[z])) h2,h3⟩
 have fin:∀ st':SortSt,(m8 st').Perm (cg1 vs)->(m8 st').toList.Pairwise (le (Bf (O:=bc9) fun p=>V0 prog w s.heap p.1))->P (.done (.ret .none)) { s with heap:=ao2 s.heap a vs ((m8 st').map (·.2)) }:=fun st' hp hs=>by
  have hl:(m8 st').toList.Perm (vs.zip vs):=by rw[<- pairsOf_toList];exact L3.mp hp
  have hm:((m8 st').map (·.2)).toList=(m8 st').toList.map (·.2):=ce2 ..
  have hz2:(vs.zip vs).map (·.2)=vs:=List.map_snd_zip (c6 _)
  have:=h ((m8 st').toList.map (·.2)) (by have:=hl.map (·.2);rw[hz2]at this;exact this) ?_
  ·rw[show (m8 st').map (·.2)=((m8 st').toList.map (·.2)).toArray by rw[<- hm]]
   exact this
  ·rw[K3]
   refine List.Pairwise.imp_of_mem ?_ hs
   intro x y hx hy hxy
   have ex:=(ak6 (hl.mem_iff.mp hx)).1
   have ey:=(ak6 (hl.mem_iff.mp hy)).1
   rw[<- ex,<- ey]
   exact hxy
 have out:∀ st':SortSt,(m8 st').Perm (cg1 vs)->N2 st'=none->(m8 st').toList.Pairwise (le (Bf (O:=bc9) fun p=>V0 prog w s.heap p.1)) ->
   v7 (t7 prog w) A (do
    let sorted:=(m8 st').map (·.2)
    let touched:=(<- seqEpoch a) != e1
    Builtin.List.listUpdate (.ref a) fun _=>sorted
    if let some e:=N2 st' then rule "list.sort.comparison-raised";throw e
    if touched then rule "list.sort.modified";raiseError "ValueError" "list modified during sort"
    ret .none) P E { s with heap:=h6 }:=fun st' hp hf hs=>by
  dsimp only
  refine a8 (bl8 (s:={ s with heap:=h6 }) ho6 rfl ?_)
  refine a8 (ae4 (s:={ s with heap:=h6 }) ho6 rfl ?_ (r9 _) (by refine t9 (at4 ((ag8 ..).trans (hp.size_eq.trans (pairsOf_size _)))) ?_;omega))
  rw[hf]
  simp only[bne_self_eq_false,m5,if_false]
  refine j5 ?_
  have:=fin st' hp hs
  unfold ao2 at this
  rw[hH]at this
  exact this
 show v7 (t7 prog w) A _ P E { s with heap:=h6 }
 dsimp only
 by_cases h2:vs.toArray.size<2
 ·rw[if_pos h2,if_pos h2]
  refine a8 (j5 ?_)
  rw[StateT.run_pure]
  refine a8 (j5 ?_)
  refine out (SortSt.mk' general' (vs.toArray.zip vs.toArray) #[] 7 none) (Array.Perm.refl _) rfl ?_
  show (cg1 vs).toList.Pairwise _
  rw[p7]
  intro i j hi hj hij
  rw[j9,pairsOf_size]at hj
  rw[d9]at h2
  omega
 ·rw[if_neg h2,if_neg h2]
  rw[d9]at h2
  refine a8 (aD5 (s:={ s with heap:=h6 }) (by omega) (fun v hv'=>?_) ?_)
  ·obtain⟨i,k,hk⟩:=hv v hv'
   exact⟨i,k,up v hv' _ hk⟩
  refine a8 (C6 (aw0 (s:={ s with heap:=h6 }) (a₀:=cg1 vs) (κ:=bG0 true) (O:=bc9) (f:=fun p=>V0 prog w s.heap p.1) (st:=SortSt.mk' (bG0 true) (vs.toArray.zip vs.toArray) #[] 7 none)
   (Q:=fun _ st'=>(m8 st').Perm (cg1 vs)/\N2 st'=none/\(m8 st').toList.Pairwise (le (Bf (O:=bc9) fun p=>V0 prog w s.heap p.1))) ?_ ([]:List Int) (Array.Perm.refl _) rfl rfl rfl fun st' a1 a2 a3=>⟨a1,a2,a3⟩) ?_ fun _ _ e=>e)
  ·intro x y hx hy Q hq
   rw[pairsOf_toList]at hx hy
   obtain⟨i,k,hk⟩:=hv x.1 (ak6 hx).2
   obtain⟨j,k',hk'⟩:=hv y.1 (ak6 hy).2
   refine aU7 (s:={ s with heap:=h6 }) (up _ (ak6 hx).2 _ hk) (up _ (ak6 hy).2 _ hk') ?_
   rw[<- U3 hk,<- U3 hk']
   exact hq
  ·rintro⟨⟨⟩,st'⟩ s' ⟨rfl,hp,hf,hs⟩
   exact out st' hp hf hs
theorem aH0 (hl:s.heap.IsList l vs.toArray) (hz:vs.length<=d8) (hv:∀ v∈vs,∃ i k,IsK prog w s.heap (i::k) v)
  (h : ∀ (out : List Value) (h' : Heap) (n : Nat), out.Perm vs -> out.Pairwise (fun x y => L9 (V0 prog w s.heap y) (V0 prog w s.heap x) = false) -> (∀ b o, s.heap.get? b = some o -> h'.get? b = some o) ->
   h'.get? (s.heap.objs.size+1)=some { cls:=.type "list",data:=.seq out.toArray n }->Q (.ref (s.heap.objs.size+1)) { s with heap:=h' }) :
  v7 (t7 prog w) A (call (.builtin "sorted") [.ref l]) Q E s:=by
 refine Calls.call_function_entry cg2 bT2 bT3 (args_sorted1 _) ?_
 unfold Builtin.«sorted»
 refine a8 (m:=checkCount "sorted" 1 1 _) (j5 ?_)
 refine a8 (collect_list hl ?_ hz)
 refine a8 (T8 ?_ hz)
 have hsz:((s.heap.push (G2 "list" #[] 0)).update s.heap.objs.size (Obj.mapSeq (·++vs.toArray))).objs.size=s.heap.objs.size+1:=by
  rw[cf2,bE8]
 generalize hH:((s.heap.push (G2 "list" #[] 0)).update s.heap.objs.size (Obj.mapSeq (·++vs.toArray))).push (G2 "list" vs.toArray 0)=h2
 have hoL:h2.get? (s.heap.objs.size+1)=some (G2 "list" vs.toArray 0):=by
  rw[<- hH,<- hsz];exact l5 _ rfl
 have keep:∀ b o,s.heap.get? b=some o->h2.get? b=some o:=fun b o e=>by
  rw[<- hH]
  refine a7 _ ((E5 _ _ ?_).trans (a7 _ e))
  exact Ne.symm (m6 (i7 e))
 have hsz2:h2.objs.size=s.heap.objs.size+2:=by rw[<- hH,bE8,hsz]
 rw[hsz]
 have up:∀ v k,IsK prog w s.heap k v->IsK prog w h2 k v:=fun v k hk=>hk.up keep
 have kA:∀ v∈vs,V0 prog w h2 v=V0 prog w s.heap v:=fun v hv'=>by
  obtain⟨i,k,hk⟩:=hv v hv'
  rw[U3 hk,U3 (up v _ hk)]
 refine a8 (F5 (aZ5 bs2 (s:={ s with heap:=h2 }) ⟨_,hoL,rfl⟩ bl9 (bn0 (s:={ s with heap:=h2 }) hoL hz (fun v hv'=>?_) (fun v hv' z=>?_) fun out a1 a2=>⟨_,rfl,?_⟩) (args_list_sort _)))
 ·obtain⟨i,k,hk⟩:=hv v hv'
  exact⟨i,k,up v _ hk⟩
 ·obtain⟨i,k,a,rfl,o,items,n,ho,_⟩:=hv v hv'
  cases z
  exact absurd (i7 ho) (Nat.not_lt.mpr (Y1 _))
 ·have hlast:∃ n,(ao2 h2 (s.heap.objs.size+1) vs out.toArray).get? (s.heap.objs.size+1)=some (G2 "list" out.toArray n):=by
   unfold ao2
   have g1:=X0 hoL (fun _=>(#[]:Array Value))
   have g2:(((h2.update (s.heap.objs.size+1) (Obj.mapSeq fun _=>#[])).push (G2 "tuple" vs.toArray 0)).push (G2 "list" #[] 0)).get? (s.heap.objs.size+1)=_:=a7 _ (a7 _ g1)
   exact⟨_,X0 g2 (fun _=>out.toArray)⟩
  obtain⟨n,hn⟩:=hlast
  refine j5 ⟨_,rfl,h out _ n a1 ?_ (fun b o e=>?_) hn⟩
  ·refine List.Pairwise.imp_of_mem ?_ a2
   intro x y hx hy hxy
   rw[kA x (a1.mem_iff.mp hx),kA y (a1.mem_iff.mp hy)]at hxy
   exact hxy
  ·have hb:b≠s.heap.objs.size+1:=m6 (E3 (i7 e))
   unfold ao2
   refine(E5 _ _ (Ne.symm hb)).trans (a7 _ (a7 _ ((E5 _ _ (Ne.symm hb)).trans (keep b o e))))
end Tim
namespace Sett
open PySem PySem.SetTable
theorem be1 {P:Nat->Prop}(h:∃ n,P n):∃ n,P n/\∀ m,m<n->¬ P m:=by
 obtain⟨n,hn⟩:=h
 induction n using Nat.strongRecOn with
 | ind n ih =>
  by_cases q:∃ m,m<n/\P m
  ·obtain⟨m,hm,pm⟩:=q
   exact ih m hm pm
  ·exact⟨n,hn,fun m hm pm=>q ⟨m,hm,pm⟩⟩
def st (m i pt:Nat):Probe:={ j:=i,more:=runEnd m i - i,i:=i,perturb:=pt,dummy:=none }
def it (t:SetTable):Nat->Probe->Probe
 | 0,p=>p
 | n+1,p=>it t n (t.advance p)
theorem aO0 (t:SetTable):∀ (a b:Nat) (p:Probe),it t (a+b) p=it t b (it t a p)
 | 0,b,p=>by rw[M9];rfl
 | a+1,b,p=>by
  rw[show a+1+b=(a+b)+1 by omega]
  exact aO0 t a b (t.advance p)
theorem am0 (t:SetTable)(n:Nat)(p:Probe):it t (n+1) p=t.advance (it t n p):=aO0 t n 1 p
theorem au4 (m i:Nat):i<=runEnd m i/\runEnd m i<=i+9:=by unfold runEnd;split<;>omega
theorem aT0 {m:Nat}(h:i<=m):runEnd m i<=m:=by unfold runEnd;split<;>omega
theorem aN8 (t:SetTable)(i pt:Nat):∀ k,k<=runEnd t.mask i - i->it t k (st t.mask i pt)={ j:=i+k,more:=runEnd t.mask i - i - k,i:=i,perturb:=pt,dummy:=none }
 | 0,_=>rfl
 | k+1,h=>by
  rw[am0,aN8 t i pt k (by omega)]
  unfold advance
  dsimp only
  rw[if_pos (by omega)]
  simp only[Probe.mk.injEq,and_true,true_and]
  omega
theorem aN9 (t:SetTable)(i pt:Nat):it t (runEnd t.mask i - i+1) (st t.mask i pt)=st t.mask (leap t.mask i pt).1 (leap t.mask i pt).2:=by
 rw[am0,aN8 t i pt _ (c6 _)]
 unfold advance
 dsimp only
 rw[if_neg (by omega)]
 rfl
def rn (m i pt:Nat):Nat->Nat × Nat
 | 0=>(i,pt)
 | r+1=>leap m (rn m i pt r).1 (rn m i pt r).2
theorem bR5 (m i pt:Nat):∀ r,(rn m i pt r).2=pt / 32 ^ r
 | 0=>by simp[rn]
 | r+1=>by
  show (rn m i pt r).2 / 32=_
  rw[bR5 m i pt r,bE3,Nat.pow_succ]
theorem bR6 (m i pt:Nat)(h:i<=m):∀ r,(rn m i pt r).1<=m
 | 0=>h
 | r+1=>am4 (aK9 _ (ah8 m))
theorem bS0 (t:SetTable)(i pt:Nat):∀ r,∃ n,n<=10*r/\it t n (st t.mask i pt)=st t.mask (rn t.mask i pt r).1 (rn t.mask i pt r).2
 | 0=>⟨0,c6 _,rfl⟩
 | r+1=>by
  obtain⟨n,hn,e⟩:=bS0 t i pt r
  have h9:=au4 t.mask (rn t.mask i pt r).1
  refine⟨n+(runEnd t.mask (rn t.mask i pt r).1 - (rn t.mask i pt r).1+1),by omega,?_⟩
  rw[aO0,e,aN9]
  rfl
def f5 (m i:Nat):Nat:=(i*5+1) % (m+1)
def orb (m:Nat):Nat->Nat->List Nat
 | 0,_=>[]
 | k+1,i=>i::orb m k (f5 m i)
def Full (m:Nat):Prop:=∀ b,b<=m->∀ a,a<=m->∃ n,n<=m/\Nat.repeat (f5 m) n a=b
def chk (m:Nat):Bool:=(orb m (m+1) 0).foldl (fun acc i=>acc ||| 2 ^ i) 0 == 2 ^ (m+1) - 1
theorem aX9:∀ (l:List Nat) (acc b:Nat),(l.foldl (fun acc i=>acc ||| 2 ^ i) acc).testBit b=true->acc.testBit b=true\/b∈l
 | [],acc,b,h=>.inl h
 | i::l,acc,b,h=>by
  rcases aX9 l _ b h with q | q
  ·rw[Nat.testBit_or,aY4]at q
   rcases q with q | q
   ·exact .inl q
   ·rw[bS7]at q
    exact .inr (by rw[of_decide_eq_true q];exact c7)
  ·exact .inr (b8 _ q)
theorem ar2 (f:Nat->Nat)(a:Nat):∀ n k,Nat.repeat f (n+k) a=Nat.repeat f k (Nat.repeat f n a)
 | n,0=>rfl
 | n,k+1=>by
  show f (Nat.repeat f (n+k) a)=f (Nat.repeat f k (Nat.repeat f n a))
  rw[ar2 f a n k]
theorem bh8 (m:Nat):∀ k i x,x∈orb m k i->∃ n,n<k/\Nat.repeat (f5 m) n i=x
 | 0,i,x,h=>by cases h
 | k+1,i,x,h=>by
  rcases c5.mp h with rfl | h
  ·exact⟨0,ah8 _,rfl⟩
  ·obtain⟨n,hn,e⟩:=bh8 m k (f5 m i) x h
   refine⟨n+1,by omega,?_⟩
   rw[Nat.add_comm n 1,ar2]
   exact e
theorem ay8 {m:Nat}(hc:chk m=true)(hz:Nat.repeat (f5 m) (m+1) 0=0):Full m:=by
 intro b hb a ha
 unfold chk at hc
 have hc:=eq_of_beq hc
 have get:∀ x,x<=m->∃ n,n<m+1/\Nat.repeat (f5 m) n 0=x:=fun x hx=>by
  have hb:(2 ^ (m+1) - 1).testBit x=true:=by rw[Nat.testBit_two_pow_sub_one];exact decide_eq_true (by omega)
  rw[<- hc]at hb
  rcases aX9 _ _ _ hb with q | q
  ·simp at q
  ·exact bh8 m (m+1) 0 x q
 obtain⟨p,hp,ep⟩:=get a ha
 obtain⟨q,hq,eq⟩:=get b hb
 by_cases h:p<=q
 ·refine⟨q - p,by omega,?_⟩
  rw[<- ep,<- ar2,show p+(q - p)=q by omega,eq]
 ·refine⟨m+1 - p+q,by omega,?_⟩
  rw[<- ep,<- ar2,show p+(m+1 - p+q)=(m+1)+q by omega,ar2,hz,eq]
def Good (m:Nat):Prop:=m=7\/m=31\/m=127\/m=511
set_option maxRecDepth 100000 in
theorem Good.full {m:Nat}(h:Good m):Full m:=by
 rcases h with rfl | rfl | rfl | rfl
 ·exact ay8 (by decide +kernel) (by decide +kernel)
 ·exact ay8 (by decide +kernel) (by decide +kernel)
 ·exact ay8 (by decide +kernel) (by decide +kernel)
 ·exact ay8 (by decide +kernel) (by decide +kernel)
theorem bh2 (m i pt:Nat)(hp:pt<2 ^ 64):∀ k,(rn m i pt (13+k)).1=Nat.repeat (f5 m) k (rn m i pt 13).1
 | 0=>rfl
 | k+1=>by
  show (leap m (rn m i pt (13+k)).1 (rn m i pt (13+k)).2).1=f5 m (Nat.repeat (f5 m) k (rn m i pt 13).1)
  rw[<- bh2 m i pt hp k]
  unfold leap f5
  have:(rn m i pt (13+k)).2 / 32=0:=by
   rw[bR5,Nat.pow_add,<- bE3]
   have:pt / 32 ^ 13=0:=Nat.div_eq_of_lt (Nat.lt_trans hp (by decide))
   rw[this]
   simp
  dsimp only
  rw[this,aP2]
theorem bh3 {m pt b:Nat}(g:Good m)(hi:i<=m)(hp:pt<2 ^ 64)(hb:b<=m):∃ r,r<turns m/\(rn m i pt r).1=b:=by
 obtain⟨n,hn,e⟩:=g.full b hb (rn m i pt 13).1 (bR6 m i pt hi 13)
 exact⟨13+n,by unfold turns;omega,by rw[bh2 m i pt hp];exact e⟩
theorem bN0 (t:SetTable){pt b:Nat}(g:Good t.mask)(hi:i<=t.mask)(hp:pt<2 ^ 64)(hb:b<=t.mask):∃ n,n<10*turns t.mask/\(it t n (st t.mask i pt)).j=b:=by
 obtain⟨r,hr,e⟩:=bh3 g hi hp hb
 obtain⟨n,hn,e'⟩:=bS0 t i pt r
 refine⟨n,by omega,?_⟩
 rw[e']
 exact e
theorem aV6 (t:SetTable):∀ (n:Nat) (p:Probe),(it t n p).dummy=p.dummy
 | 0,p=>rfl
 | n+1,p=>by
  show (it t n (t.advance p)).dummy=_
  rw[aV6 t n]
  unfold advance
  split<;>rfl
theorem bk7 (h:Int):bits h<2 ^ 64:=by
 unfold bits
 have h1:=F2 h (show (2 ^ 64:Int)≠0 by decide)
 have h2:=C9 h (show (0:Int)<2 ^ 64 by decide)
 omega
theorem ai3 (t:SetTable)(h:Int):t.probeStart h=st t.mask (bits h % (t.mask+1)) (bits h):=rfl
theorem ay6 {t':SetTable}(h:t'.mask=t.mask):∀ (n:Nat) (p:Probe),it t' n p=it t n p
 | 0,p=>rfl
 | n+1,p=>by
  show it t' n (t'.advance p)=it t n (t.advance p)
  have:t'.advance p=t.advance p:=by unfold advance;rw[h]
  rw[this,ay6 h n]
def Asc (xs:Array Nat):Prop:=∀ (i j a b:Nat),i<j->xs[i]?=some a->xs[j]?=some b->a<b
theorem aF1 {xs:Array Nat}(asc:Asc xs)(j:Nat):∀ (fuel lo hi:Nat),hi - lo<=fuel->lo<=hi->hi<=xs.size->(∀ i a,i<lo->xs[i]?=some a->a<j)->(∀ i a,hi<=i->xs[i]?=some a->j<=a) ->
  (below.go xs j fuel lo hi)<=xs.size/\(∀ i a,i<below.go xs j fuel lo hi->xs[i]?=some a->a<j)/\(∀ i a,below.go xs j fuel lo hi<=i->xs[i]?=some a->j<=a)
 | 0,lo,hi,h0,h1,h2,h3,h4=>by
  have:lo=hi:=by omega
  subst this
  exact⟨h2,h3,h4⟩
 | fuel+1,lo,hi,h0,h1,h2,h3,h4=>by
  unfold below.go
  by_cases hlt:lo<hi
  ·rw[if_pos hlt]
   dsimp only
   have hm:(lo+hi) / 2<xs.size:=by omega
   have hg:xs.getD ((lo+hi) / 2) j=xs[(lo+hi) / 2]:=by simp[bS8,hm]
   have hq:xs[(lo+hi) / 2]?=some xs[(lo+hi) / 2]:=getElem?_pos xs _ hm
   by_cases hc:xs.getD ((lo+hi) / 2) j<j
   ·rw[if_pos hc]
    refine aF1 asc j fuel _ hi (by omega) (by omega) h2 (fun i a hi' e=>?_) h4
    rw[hg]at hc
    by_cases he:i=(lo+hi) / 2
    ·subst he;rw[hq]at e;cases e;exact hc
    ·have:=asc i _ a _ (by omega) e hq
     omega
   ·rw[if_neg hc]
    refine aF1 asc j fuel lo _ (by omega) (by omega) (by omega) h3 (fun i a hi' e=>?_)
    rw[hg]at hc
    by_cases he:i=(lo+hi) / 2
    ·subst he;rw[hq]at e;cases e;omega
    ·have:=asc _ i _ a (by omega) hq e
     omega
  ·rw[if_neg hlt]
   have:lo=hi:=by omega
   subst this
   exact⟨h2,h3,h4⟩
theorem aF0 {xs:Array Nat}(asc:Asc xs)(j:Nat):below xs j<=xs.size/\(∀ i a,i<below xs j->xs[i]?=some a->a<j)/\(∀ i a,below xs j<=i->xs[i]?=some a->j<=a):=
 aF1 asc j xs.size 0 xs.size (by omega) (by omega) (c6 _) (fun i a h=>by omega) fun i a h e=>by
  have:=(getElem?_eq_some_iff.mp e).1
  omega
theorem below_at {xs:Array Nat}(asc:Asc xs)(h:xs[i]?=some j):below xs j=i:=by
 obtain⟨h1,h2,h3⟩:=aF0 asc j
 rcases Y2 (below xs j) i with q | q | q
 ·exfalso
  have hlt:below xs j<xs.size:=Nat.lt_trans q (getElem?_eq_some_iff.mp h).1
  have e:=getElem?_pos xs (below xs j) hlt
  have a1:=h3 (below xs j) _ (c6 _) e
  have a2:=asc _ _ _ _ q e h
  omega
 ·exact q
 ·have:=h2 i j q h
  omega
theorem at9 (asc:Asc t.place)(h:t.place[i]?=some j):t.slot j=.live i:=by
 unfold slot
 dsimp only
 rw[below_at asc h,h]
 simp
theorem ba9 (hd:t.dummies=#[])(h:∀ i:Nat,t.place[i]?≠some j):t.slot j=.empty:=by
 unfold slot
 dsimp only
 rw[if_neg (by simpa using h _),if_neg (by rw[hd];simp[has])]
theorem aW3 {hashAt:Nat->Int}{h:Int}:∀ (n fuel:Nat) (p:Probe),n<fuel->(∀ k,k<n->∃ i,t.slot (it t k p).j=.live i/\hashAt i≠h)->t.slot (it t n p).j=.empty ->
  probe.go t hashAt h fuel p=some (.empty (it t n p).j (it t n p).dummy)
 | 0,fuel+1,p,_,_,he=>by
  unfold probe.go
  have he':t.slot p.j=.empty:=he
  rw[he']
  rfl
 | n+1,fuel+1,p,hl,hk,he=>by
  obtain⟨i,e,hne⟩:=hk 0 (ah8 _)
  have e':t.slot p.j=.live i:=e
  unfold probe.go
  rw[e']
  dsimp only
  rw[if_neg (by simpa using hne)]
  exact aW3 n fuel (t.advance p) (by omega) (fun k hk'=>hk (k+1) (by omega)) he
theorem bj3 {hashAt:Nat->Int}{h:Int}:∀ (n fuel:Nat) (p:Probe),n<fuel->(∀ k,k<n->∃ i,t.slot (it t k p).j=.live i/\hashAt i≠h)->t.slot (it t n p).j=.live i->hashAt i=h ->
  ∃ q,probe.go t hashAt h fuel p=some (.candidate (it t n p).j i q)
 | 0,fuel+1,p,_,_,he,hh=>by
  unfold probe.go
  have he':t.slot p.j=.live i:=he
  rw[he']
  dsimp only
  rw[if_pos (by simpa using hh)]
  exact⟨_,rfl⟩
 | n+1,fuel+1,p,hl,hk,he,hh=>by
  obtain⟨i',e,hne⟩:=hk 0 (ah8 _)
  have e':t.slot p.j=.live i':=e
  unfold probe.go
  rw[e']
  dsimp only
  rw[if_neg (by simpa using hne)]
  exact bj3 n fuel (t.advance p) (by omega) (fun k hk'=>hk (k+1) (by omega)) he hh
abbrev En:=Int × Value
structure Tb (t:SetTable) (es:Array En):Prop where
 dum:t.dummies=#[]
 len:t.place.size=es.size
 asc:Asc t.place
 bnd:∀ (i j:Nat),t.place[i]?=some j->j<=t.mask
 good:Good t.mask
 nf:es.size*5<t.mask*3
 path:∀ (i:Nat) (e:En),es[i]?=some e->∃ n,n<10*turns t.mask/\t.place[i]?=some (it t n (t.probeStart e.1)).j/\∀ k,k<n->∃ i':Nat,t.place[i']?=some (it t k (t.probeStart e.1)).j
theorem bD3 {xs:Array Nat}(asc:Asc xs):∀ (i a:Nat),xs[i]?=some a->i<=a
 | 0,a,_=>r9 _
 | i+1,a,h=>by
  have hi:i+1<xs.size:=(getElem?_eq_some_iff.mp h).1
  have e:=getElem?_pos xs i (by omega)
  have h1:=bD3 asc i _ e
  have h2:=asc i (i+1) _ a (by omega) e h
  omega
theorem bq1 {xs:Array Nat}(asc:Asc xs){m:Nat}(h:xs.size<=m):∃ b,b<=m/\∀ i:Nat,xs[i]?≠some b:=by
 by_cases q:∃ i,i<xs.size/\xs[i]?≠some i
 ·obtain⟨i,⟨hi,hne⟩,hmin⟩:=be1 q
  refine⟨i,by omega,fun k e=>?_⟩
  have hk:=bD3 asc k i e
  rcases J5 hk with hlt | rfl
  ·have ek:xs[k]?=some k:=Classical.byContradiction fun z=>hmin k hlt ⟨by omega,z⟩
   rw[ek]at e
   cases e
   omega
  ·exact hne e
 ·refine⟨xs.size,h,fun k e=>?_⟩
  have hk:k<xs.size:=(getElem?_eq_some_iff.mp e).1
  have ek:xs[k]?=some k:=Classical.byContradiction fun z=>q ⟨k,hk,z⟩
  rw[ek]at e
  cases e
  omega
theorem Tb.small {es:Array En}(T:Tb t es):es.size<=t.mask:=by
 have:=T.nf
 omega
theorem Tb.fits {es:Array En}(T:Tb t es):t.fits es.size=true:=by
 unfold SetTable.fits fill
 rw[T.dum,T.len]
 have:=T.small
 simp
 exact this
theorem Tb.odd {es:Array En}(T:Tb t es):t.gaveWay=false:=by
 unfold gaveWay
 rcases T.good with e | e | e | e<;>rw[e]<;>rfl
def hashOf (es:Array En)(i:Nat):Int:=(es[i]?.map (·.1)).getD 0
theorem ab1 {es:Array En}{e:En}(h:es[i]?=some e):hashOf es i=e.1:=by unfold hashOf;rw[h];rfl
theorem ai2 (t:SetTable)(h:Int):bits h % (t.mask+1)<=t.mask:=am4 (aK9 _ (ah8 _))
theorem Tb.absent {es:Array En}(T:Tb t es){h:Int}(hh:∀ e∈es.toList,e.1≠h):∃ n,n<10*turns t.mask/\(∀ i:Nat,t.place[i]?≠some (it t n (t.probeStart h)).j)/\(it t n (t.probeStart h)).j<=t.mask /\
  (∀ k,k<n->∃ i':Nat,t.place[i']?=some (it t k (t.probeStart h)).j)/\t.probe (hashOf es) h (t.probeStart h)=some (.empty (it t n (t.probeStart h)).j none):=by
 obtain⟨b,hb,hfree⟩:=bq1 T.asc (m:=t.mask) (by rw[T.len];exact T.small)
 obtain⟨n0,hn0,e0⟩:=bN0 t T.good (ai2 t h) (bk7 h) hb
 rw[<- ai3]at e0
 obtain⟨n,⟨hfr,hn,hle⟩,hmin⟩:=be1 (P:=fun n=>(∀ i:Nat,t.place[i]?≠some (it t n (t.probeStart h)).j)/\n<=n0/\(it t n (t.probeStart h)).j<=t.mask) ⟨n0,by rw[e0];exact hfree,c6 _,by rw[e0];exact hb⟩
 have hocc:∀ k,k<n->∃ i':Nat,t.place[i']?=some (it t k (t.probeStart h)).j:=fun k hk=>Classical.byContradiction fun z=>by
  have hk':∀ i:Nat,t.place[i]?≠some (it t k (t.probeStart h)).j:=fun i e=>z ⟨i,e⟩
  by_cases hkm:(it t k (t.probeStart h)).j<=t.mask
  ·exact hmin k hk ⟨hk',by omega,hkm⟩
  ·-- every place on the way is a slot
   exact hkm (by
    clear z hk' hkm hmin hfr hle hn hk
    rw[ai3]
    induction k with
    | zero=>exact ai2 t h
    | succ k ih =>
     have key:∀ k,∃ r c,c<=runEnd t.mask (rn t.mask (bits h % (t.mask+1)) (bits h) r).1 - (rn t.mask (bits h % (t.mask+1)) (bits h) r).1 /\
       it t k (st t.mask (bits h % (t.mask+1)) (bits h))=it t c (st t.mask (rn t.mask (bits h % (t.mask+1)) (bits h) r).1 (rn t.mask (bits h % (t.mask+1)) (bits h) r).2):=fun k=>by
      induction k with
      | zero=>exact⟨0,0,r9 _,rfl⟩
      | succ k ih =>
       obtain⟨r,c,hc,e⟩:=ih
       rcases J5 hc with hlt | heq
       ·exact⟨r,c+1,hlt,by rw[am0,e,<- am0]⟩
       ·refine⟨r+1,0,r9 _,?_⟩
        rw[am0,e,<- am0,heq,aN9]
        rfl
     obtain⟨r,c,hc,e⟩:=key (k+1)
     rw[e,aN8 t _ _ c hc]
     have h1:=bR6 t.mask (bits h % (t.mask+1)) (bits h) (ai2 t h) r
     have h2:=aT0 h1
     have h3:=au4 t.mask (rn t.mask (bits h % (t.mask+1)) (bits h) r).1
     show (rn t.mask (bits h % (t.mask+1)) (bits h) r).1+c<=t.mask
     omega)
 refine⟨n,by omega,hfr,hle,hocc,?_⟩
 unfold probe
 have:=aW3 (hashAt:=hashOf es) (h:=h) n (10*turns t.mask) (t.probeStart h) (by omega) (fun k hk=>?_) (ba9 T.dum hfr)
 ·rw[this,aV6]
  rfl
 ·obtain⟨i',e⟩:=hocc k hk
  refine⟨i',at9 T.asc e,?_⟩
  have hi:i'<es.size:=by rw[<- T.len];exact(getElem?_eq_some_iff.mp e).1
  have e2:=getElem?_pos es i' hi
  rw[ab1 e2]
  exact hh _ (by simp)
theorem Tb.present {es:Array En}(T:Tb t es){e:En}(he:es[i]?=some e)(hu:∀ (k:Nat) (e':En),es[k]?=some e'->e'.1=e.1->k=i):∃ j q,t.probe (hashOf es) e.1 (t.probeStart e.1)=some (.candidate j i q):=by
 obtain⟨n,hn,hp,hocc⟩:=T.path i e he
 unfold probe
 obtain⟨m,⟨hm,i1,hi1,hs1⟩,hmin⟩:=be1 (P:=fun m=>m<=n/\∃ i1:Nat,t.place[i1]?=some (it t m (t.probeStart e.1)).j/\hashOf es i1=e.1) ⟨n,c6 _,i,hp,ab1 he⟩
 have hi2:i1<es.size:=by rw[<- T.len];exact(getElem?_eq_some_iff.mp hi1).1
 have e2:=getElem?_pos es i1 hi2
 rw[ab1 e2]at hs1
 have hii:i1=i:=hu i1 _ e2 hs1
 subst hii
 obtain⟨q,hq⟩:=bj3 (hashAt:=hashOf es) (h:=e.1) (i:=i1) m (10*turns t.mask) (t.probeStart e.1) (by omega) (fun k hk=>by
  obtain⟨i',e3⟩:=hocc k (by omega)
  exact⟨i',at9 T.asc e3,fun z=>hmin k hk ⟨by omega,i',e3,z⟩⟩) (at9 T.asc hi1) (ab1 he)
 exact⟨_,q,hq⟩
theorem get_ins {α:Type}{xs:Array α}{x:α}(hp:p<=xs.size)(i:Nat):(insertAt xs p x)[i]?=if i<p then xs[i]? else if i=p then some x else xs[i - 1]?:=by
 unfold insertAt
 have e0:((xs.extract 0 p).push x).size=p+1:=by rw[A7,E4];omega
 by_cases h1:i<p
 ·rw[if_pos h1,aY5 (by omega),Array.getElem?_push_lt (by rw[E4];omega)]
  rw[Array.getElem_extract]
  simp only[M9]
  exact(getElem?_pos xs i (by omega)).symm
 ·rw[if_neg h1]
  by_cases h2:i=p
  ·subst h2
   rw[if_pos rfl,aY5 (by omega)]
   have e1:(xs.extract 0 i).size=i:=by rw[E4];omega
   rw[Array.getElem?_push,e1,if_pos rfl]
  ·rw[if_neg h2,Array.getElem?_append_right (by omega),e0,Array.getElem?_extract]
   split
   ·congr 1;omega
   ·rw[getElem?_neg]
    omega
theorem aq6 {α:Type}{xs:Array α}{x:α}(hp:p<=xs.size):(insertAt xs p x).size=xs.size+1:=by
 unfold insertAt
 rw[G3,A7,E4,E4]
 omega
theorem bM3 {α:Type}{xs:Array α}{x:α}(hp:p<=xs.size)(y:α):y∈(insertAt xs p x).toList↔y=x\/y∈xs.toList:=by
 constructor
 ·intro h
  obtain⟨i,hi⟩:=o5.mp h
  rw[d3,get_ins hp]at hi
  split at hi
  ·exact .inr (b9 (by rw[d3];exact hi))
  ·split at hi
   ·cases hi;exact .inl rfl
   ·exact .inr (b9 (by rw[d3];exact hi))
 ·rintro(rfl | h)
  ·exact b9 (i:=p) (by rw[d3,get_ins hp,if_neg (E2 _),if_pos rfl])
  ·obtain⟨i,hi⟩:=o5.mp h
   rw[d3]at hi
   have hi':i<xs.size:=(getElem?_eq_some_iff.mp hi).1
   by_cases q:i<p
   ·exact b9 (i:=i) (by rw[d3,get_ins hp,if_pos q];exact hi)
   ·exact b9 (i:=i+1) (by rw[d3,get_ins hp,if_neg (by omega),if_neg (by omega)];simpa using hi)
structure Tb' (t:SetTable) (es:Array En):Prop where
 dum:t.dummies=#[]
 len:t.place.size=es.size
 asc:Asc t.place
 bnd:∀ (i j:Nat),t.place[i]?=some j->j<=t.mask
 good:Good t.mask
 fil:es.size<=t.mask
 path:∀ (i:Nat) (e:En),es[i]?=some e->∃ n,n<10*turns t.mask/\t.place[i]?=some (it t n (t.probeStart e.1)).j/\∀ k,k<n->∃ i':Nat,t.place[i']?=some (it t k (t.probeStart e.1)).j
theorem Tb'.full {es:Array En}(T:Tb' t es)(h:es.size*5<t.mask*3):Tb t es:=⟨T.dum,T.len,T.asc,T.bnd,T.good,h,T.path⟩
theorem Tb'.fits {es:Array En}(T:Tb' t es):t.fits es.size=true:=by
 unfold SetTable.fits fill
 rw[T.dum,T.len]
 have:=T.fil
 simp
 exact this
theorem Tb'.plain {es:Array En}(T:Tb' t es)(b:Bool):Tb' { t with plain:=b } es:=by
 have e:∀ n (p:Probe),it { t with plain:=b } n p=it t n p:=fun n p=>ay6 (t:=t) (t':={ t with plain:=b }) rfl n p
 refine⟨T.dum,T.len,T.asc,T.bnd,T.good,T.fil,fun i x hx=>?_⟩
 obtain⟨n,h1,h2,h3⟩:=T.path i x hx
 exact⟨n,h1,by rw[e];exact h2,fun k hk=>by rw[e];exact h3 k hk⟩
theorem Tb.put {es:Array En}(T:Tb t es){h:Int}{x:Value}(hn:n<10*turns t.mask)(hfr:∀ i:Nat,t.place[i]?≠some (it t n (t.probeStart h)).j)(hle:(it t n (t.probeStart h)).j<=t.mask)
  (hocc:∀ k,k<n->∃ i':Nat,t.place[i']?=some (it t k (t.probeStart h)).j) :
  (t.put (it t n (t.probeStart h)).j).2<=es.size/\Tb' (t.put (it t n (t.probeStart h)).j).1 (insertAt es (t.put (it t n (t.probeStart h)).j).2 (h,x)):=by
 generalize hj:(it t n (t.probeStart h)).j=j at *
 obtain⟨b1,b2,b3⟩:=aF0 T.asc j
 have hp:(t.put j).2=below t.place j:=rfl
 have hd:has t.dummies j=false:=by rw[T.dum];simp[has]
 have ht:(t.put j).1={ t with place:=insertAt t.place (below t.place j) j }:=by
  unfold SetTable.put
  dsimp only
  rw[if_neg (by rw[hd];exact i6)]
 have hm:(t.put j).1.mask=t.mask:=by rw[ht]
 have hpl:(t.put j).1.place=insertAt t.place (below t.place j) j:=by rw[ht]
 have hsz:=T.nf
 have old:∀ (i a:Nat),t.place[i]?=some a->∃ i':Nat,(insertAt t.place (below t.place j) j)[i']?=some a:=fun i a e=>by
  by_cases q:i<below t.place j
  ·exact⟨i,by rw[get_ins b1,if_pos q];exact e⟩
  ·exact⟨i+1,by rw[get_ins b1,if_neg (by omega),if_neg (by omega)];simpa using e⟩
 have hit:∀ k (p:Probe),it (t.put j).1 k p=it t k p:=fun k p=>ay6 hm k p
 have hst:∀ z:Int,(t.put j).1.probeStart z=t.probeStart z:=fun z=>by rw[ai3,ai3,hm]
 refine⟨by rw[hp,<- T.len];exact b1,?_⟩
 rw[hp]
 refine⟨by rw[ht];exact T.dum,by rw[hpl,aq6 b1,aq6 (by rw[<- T.len];exact b1),T.len],?_,?_,by rw[hm];exact T.good,?_,?_⟩
 ·rw[hpl]
  intro i k a c hik ea ec
  rw[get_ins b1]at ea ec
  split at ea
  ·rename_i hi
   split at ec
   ·exact T.asc i k a c hik ea ec
   ·split at ec
    ·cases ec;exact b2 i a hi ea
    ·exact T.asc i (k - 1) a c (by omega) ea ec
  ·split at ea
   ·rename_i hi1 hi2
    cases ea
    rw[if_neg (by omega),if_neg (by omega)]at ec
    have h1:=b3 (k - 1) c (by omega) ec
    rcases J5 h1 with h2 | h2
    ·exact h2
    ·subst h2;exact absurd ec (hfr (k - 1))
   ·rw[if_neg (by omega),if_neg (by omega)]at ec
    exact T.asc (i - 1) (k - 1) a c (by omega) ea ec
 ·rw[hpl,hm]
  intro i a ea
  rw[get_ins b1]at ea
  split at ea
  ·exact T.bnd i a ea
  ·split at ea
   ·cases ea;exact hle
   ·exact T.bnd _ a ea
 ·rw[hm,aq6 (by rw[<- T.len];exact b1)]
  have:=T.good
  unfold Good at this
  omega
 ·intro i e he
  rw[hpl,hm]
  have b1':below t.place j<=es.size:=by rw[<- T.len];exact b1
  rw[get_ins b1']at he
  have lift:∀ (i0:Nat) (i':Nat),es[i0]?=some e->(∀ a,t.place[i0]?=some a->(insertAt t.place (below t.place j) j)[i']?=some a) ->
    ∃ n,n<10*turns t.mask/\(insertAt t.place (below t.place j) j)[i']?=some (it (t.put j).1 n ((t.put j).1.probeStart e.1)).j/\∀ k,k<n->∃ i':Nat,(insertAt t.place (below t.place j) j)[i']?=some (it (t.put j).1 k ((t.put j).1.probeStart e.1)).j:=fun i0 i' h0 h1=>by
   obtain⟨n',q1,q2,q3⟩:=T.path i0 e h0
   refine⟨n',q1,?_,fun k hk=>?_⟩
   ·rw[hit,hst];exact h1 _ q2
   ·obtain⟨i2,e2⟩:=q3 k hk
    rw[hit,hst]
    exact old i2 _ e2
  split at he
  ·rename_i hi
   exact lift i i he fun a ea=>by rw[get_ins b1,if_pos hi];exact ea
  ·split at he
   ·rename_i hi1 hi2
    cases he
    refine⟨n,hn,?_,fun k hk=>?_⟩
    ·rw[hit,hst,hj,get_ins b1,if_neg hi1,if_pos hi2]
    ·obtain⟨i2,e2⟩:=hocc k hk
     rw[hit,hst]
     exact old i2 _ e2
   ·rename_i hi1 hi2
    exact lift (i - 1) i he fun a ea=>by rw[get_ins b1,if_neg hi1,if_neg hi2];exact ea
theorem aM9:∀ (k n:Nat) (g:Nat->Nat),(∀ i,i<n->g i<k)->(∀ i j,i<n->j<n->g i=g j->i=j)->n<=k
 | 0,n,g,h,_=>by
  rcases Nat.eq_zero_or_pos n with e | e
  ·omega
  ·exact absurd (h 0 e) (aZ0 _)
 | k+1,0,g,_,_=>r9 _
 | k+1,n+1,g,h,inj=>by
  by_cases q:∃ i0,i0<n+1/\g i0=k
  ·obtain⟨i0,h0,e0⟩:=q
   have:=aM9 k n (fun i=>if i=i0 then g n else g i) (fun i hi=>?_) (fun i j hi hj e=>?_)
   ·omega
   ·try dsimp only
    split
    ·rename_i hii
     have h1:=h n (by omega)
     have h2:g n≠k:=fun z=>by have:=inj n i0 (by omega) h0 (by rw[z,e0]);omega
     omega
    ·have h1:=h i (by omega)
     have h2:g i≠k:=fun z=>by have:=inj i i0 (by omega) h0 (by rw[z,e0]);omega
     omega
   ·try dsimp only at e
    split at e
    ·split at e
     ·omega
     ·have:=inj n j (by omega) (by omega) e;omega
    ·split at e
     ·have:=inj i n (by omega) (by omega) e;omega
     ·exact inj i j (by omega) (by omega) e
  ·have:=aM9 k (n+1) g (fun i hi=>?_) inj
   ·omega
   ·have h1:=h i hi
    have h2:g i≠k:=fun z=>q ⟨i,hi,z⟩
    omega
structure LI (t:SetTable) (hs:Array Int) (owner:Array (Option Nat)) (k:Nat):Prop where
 size:owner.size=t.mask+1
 lt:∀ (j i:Nat),owner[j]?=some (some i)->i<k
 inj:∀ (j j' i:Nat),owner[j]?=some (some i)->owner[j']?=some (some i)->j=j'
 has:∀ (i:Nat) (h:Int),i<k->hs[i]?=some h->∃ n,n<10*turns t.mask/\owner[(it t n (t.probeStart h)).j]?=some (some i)/\∀ c,c<n->∃ i':Nat,owner[(it t c (t.probeStart h)).j]?=some (some i')
theorem LI.free {hs:Array Int}{owner:Array (Option Nat)}{k:Nat}(L:LI t hs owner k)(hk:k<=t.mask):∃ b,b<=t.mask/\owner[b]?=some none:=by
 apply Classical.byContradiction
 intro z
 have all:∀ b,b<=t.mask->∃ i,owner[b]?=some (some i):=fun b hb=>by
  have e:=getElem?_pos owner b (by rw[L.size];omega)
  cases q:owner[b]'(by rw[L.size];omega) with
  | none=>rw[q]at e;exact absurd ⟨b,hb,e⟩ z
  | some i=>rw[q]at e;exact⟨i,e⟩
 have:=aM9 k (t.mask+1) (fun b=>match owner[b]? with | some (some i)=>i | _=>0) (fun b hb=>?_) (fun b b' hb hb' e=>?_)
 ·omega
 ·obtain⟨i,e⟩:=all b (by omega)
  try dsimp only
  rw[e]
  exact L.lt b i e
 ·obtain⟨i,e1⟩:=all b (by omega)
  obtain⟨i',e2⟩:=all b' (by omega)
  try dsimp only at e
  rw[e1,e2]at e
  dsimp only at e
  subst e
  exact L.inj b b' i e1 e2
theorem aJ8 (t:SetTable)(owner:Array (Option Nat))(hz:owner.size=t.mask+1):∀ (fuel i pt:Nat),i<=t.mask->(∃ r,r<fuel/\∃ b,b=(rn t.mask i pt r).1/\owner[b]?=some none) ->
  ∃ n,n<10*fuel/\layClean.free t.mask owner fuel i pt=some (it t n (st t.mask i pt)).j/\owner[(it t n (st t.mask i pt)).j]?=some none/\∀ c,c<n->∃ i':Nat,owner[(it t c (st t.mask i pt)).j]?=some (some i')
 | 0,i,pt,_,⟨r,hr,_⟩=>absurd hr (aZ0 _)
 | fuel+1,i,pt,hi,⟨r,hr,b,hb,hbo⟩=>by
  have h9:=au4 t.mask i
  have hm:=aT0 hi
  unfold layClean.free
  have slotOf:∀ k,k<=runEnd t.mask i - i->(it t k (st t.mask i pt)).j=i+k:=fun k hk=>by rw[aN8 t i pt k hk]
  have getS:∀ k,k<=runEnd t.mask i - i->(owner.getD (i+k) (some 0)).isNone=false->∃ i':Nat,owner[i+k]?=some (some i'):=fun k hk e=>by
   have hlt:i+k<owner.size:=by omega
   have e1:=getElem?_pos owner (i+k) hlt
   have e2:owner.getD (i+k) (some 0)=owner[i+k]:=by simp[bS8,hlt]
   rw[e2]at e
   cases q:owner[i+k] with
   | none=>rw[q]at e;cases e
   | some i'=>rw[q]at e1;exact⟨i',e1⟩
  cases hf:(A5 (runEnd t.mask i+1 - i)).find? (fun k=>(owner.getD (i+k) (some 0)).isNone) with
  | some k =>
   dsimp only
   rw[List.find?_eq_some_iff_getElem]at hf
   obtain⟨hp,k',hk',ek,hbef⟩:=hf
   rw[K4]at hk'
   rw[ag9]at ek
   subst ek
   refine⟨k',by omega,by rw[slotOf k' (by omega)],?_,fun c hc=>?_⟩
   ·rw[slotOf k' (by omega)]
    have hlt:i+k'<owner.size:=by omega
    have e2:owner.getD (i+k') (some 0)=owner[i+k']:=by simp[bS8,hlt]
    rw[e2]at hp
    rw[getElem?_pos owner _ hlt]
    cases q:owner[i+k'] with
    | none=>rfl
    | some z=>rw[q]at hp;cases hp
   ·rw[slotOf c (by omega)]
    have:=hbef c hc
    rw[ag9]at this
    exact getS c (by omega) (by simpa using this)
  | none =>
   dsimp only
   rw[List.find?_eq_none]at hf
   have all:∀ c,c<=runEnd t.mask i - i->∃ i':Nat,owner[i+c]?=some (some i'):=fun c hc=>getS c hc (by simpa only [cf3] using hf c (B1.mpr (by omega)))
   have hr0:r≠0:=fun z=>by
    subst z
    obtain⟨i',e⟩:=all 0 (r9 _)
    have hb':b=i:=hb
    rw[hb']at hbo
    rw[aP2,hbo]at e
    cases e
   obtain⟨r',rfl⟩:∃ r',r=r'+1:=⟨r - 1,by omega⟩
   have shift:∀ r,rn t.mask (leap t.mask i pt).1 (leap t.mask i pt).2 r=rn t.mask i pt (r+1):=fun r=>by
    induction r with
    | zero=>rfl
    | succ r ih =>
     show leap t.mask _ _=leap t.mask _ _
     rw[ih]
   obtain⟨n,hn,e1,e2,e3⟩:=aJ8 t owner hz fuel (leap t.mask i pt).1 (leap t.mask i pt).2 (am4 (aK9 _ (ah8 _))) ⟨r',by omega,b,by rw[hb,shift],hbo⟩
   have sh:∀ c,it t (runEnd t.mask i - i+1+c) (st t.mask i pt)=it t c (st t.mask (leap t.mask i pt).1 (leap t.mask i pt).2):=fun c=>by rw[aO0,aN9]
   refine⟨runEnd t.mask i - i+1+n,by omega,by rw[sh];exact e1,by rw[sh];exact e2,fun c hc=>?_⟩
   by_cases q:c<=runEnd t.mask i - i
   ·rw[slotOf c q]
    exact all c q
   ·have:=e3 (c - (runEnd t.mask i - i+1)) (by omega)
    rw[<- sh,show runEnd t.mask i - i+1+(c - (runEnd t.mask i - i+1))=c by omega]at this
    exact this
theorem aV0 (t:SetTable)(g:Good t.mask)(hs:Array Int)(hsz:hs.size<=t.mask):∀ (l:List Int) (k:Nat) (owner:Array (Option Nat)),LI t hs owner k->hs.toList.drop k=l ->
  ∃ owner',(l.foldl (fun acc h=>do
   let (owner,k) <- acc
   let j <- layClean.free t.mask owner (turns t.mask) (bits h % (t.mask+1)) (bits h)
   pure (owner.setIfInBounds j (some k),k+1)) (some (owner,k)))=some (owner',k+l.length)/\LI t hs owner' (k+l.length)
 | [],k,owner,L,_=>⟨owner,rfl,L⟩
 | h::l,k,owner,L,hd=>by
  have hk:k<hs.size:=by
   apply Classical.byContradiction
   intro z
   rw[G1 (by rw[j9];omega)]at hd
   cases hd
  have hget:hs[k]?=some h:=by
   rw[<- d3]
   have:=congrArg (fun l=>l[0]?) hd
   simpa using this
  obtain⟨b,hb,hbo⟩:=L.free (by omega)
  obtain⟨r,hr,er⟩:=bh3 g (ai2 t h) (bk7 h) hb
  obtain⟨n,hn,e1,e2,e3⟩:=aJ8 t owner L.size (turns t.mask) (bits h % (t.mask+1)) (bits h) (ai2 t h) ⟨r,hr,b,er.symm,hbo⟩
  rw[<- ai3]at e1 e2 e3
  have hjs:(it t n (t.probeStart h)).j<owner.size:=(getElem?_eq_some_iff.mp e2).1
  have gs:∀ x,(owner.setIfInBounds (it t n (t.probeStart h)).j (some k))[x]?=if (it t n (t.probeStart h)).j=x then some (some k) else owner[x]?:=fun x=>by
   rw[Array.getElem?_setIfInBounds]
   split
   ·rename_i hx;subst hx;simp[hjs]
   ·rfl
  have occ:∀ (x i:Nat),owner[x]?=some (some i)->∃ i':Nat,(owner.setIfInBounds (it t n (t.probeStart h)).j (some k))[x]?=some (some i'):=fun x i e=>by
   rw[gs];split
   ·exact⟨k,rfl⟩
   ·exact⟨i,e⟩
  have L':LI t hs (owner.setIfInBounds (it t n (t.probeStart h)).j (some k)) (k+1):=by
   refine⟨by rw[bf2];exact L.size,fun j i e=>?_,fun j j' i ea ec=>?_,fun i h' hi hh=>?_⟩
   ·rw[gs]at e
    split at e
    ·cases e;omega
    ·have:=L.lt j i e;omega
   ·rw[gs]at ea ec
    split at ea
    ·rename_i q1
     cases ea
     split at ec
     ·rename_i q2;rw[<- q1,<- q2]
     ·have:=L.lt j' k ec;omega
    ·split at ec
     ·cases ec
      have:=L.lt j k ea;omega
     ·exact L.inj j j' i ea ec
   ·by_cases q:i=k
    ·subst q
     rw[hget]at hh
     cases hh
     refine⟨n,hn,by rw[gs,if_pos rfl],fun c hc=>?_⟩
     obtain⟨i',e⟩:=e3 c hc
     exact occ _ i' e
    ·obtain⟨n',q1,q2,q3⟩:=L.has i h' (by omega) hh
     refine⟨n',q1,?_,fun c hc=>?_⟩
     ·rw[gs]
      split
      ·rename_i q4
       rw[q4]at e2
       rw[e2]at q2
       cases q2
      ·exact q2
     ·obtain⟨i',e⟩:=q3 c hc
      exact occ _ i' e
  obtain⟨owner',f1,f2⟩:=aV0 t g hs hsz l (k+1) _ L' (by
   have e5:hs.toList.drop (k+1)=(hs.toList.drop k).drop 1:=by rw[bf0]
   rw[e5,hd]
   rfl)
  refine⟨owner',?_,?_⟩
  ·rw[ad8]
   have:(do
     let (owner,k) <- some (owner,k)
     let j <- layClean.free t.mask owner (turns t.mask) (bits h % (t.mask+1)) (bits h)
     pure (owner.setIfInBounds j (some k),k+1))=some (owner.setIfInBounds (it t n (t.probeStart h)).j (some k),k+1):=by
    show (layClean.free t.mask owner (turns t.mask) (bits h % (t.mask+1)) (bits h) >>= fun j=>pure (owner.setIfInBounds j (some k),k+1))=_
    rw[e1]
    rfl
   rw[this,f1,i9]
   congr 2
   omega
  ·rw[i9,show k+(l.length+1)=k+1+l.length by omega]
   exact f2
theorem bz9 {M finger moves:Nat}{led plain:Bool}{es:Array En}(g:Good M)(hsz:es.size*5<M*3) :
  ∃ t2 order,laid M finger moves led plain (es.map (·.1))=some (t2,order)/\Tb t2 (order.filterMap (es[·]?))/\(order.filterMap (es[·]?)).toList.Perm es.toList/\order.toList.Perm (A5 es.size)/\t2.led=led/\t2.plain=plain:=by
 let t:SetTable:={ mask:=M,place:=#[],dummies:=#[],finger:=finger,led:=led,moves:=moves,plain:=plain }
 have ht:t.mask=M:=rfl
 have h0:LI t (es.map (·.1)) (Array.replicate (M+1) none) 0:=by
  refine⟨by simp[ht],fun j i e=>?_,fun j j' i e=>?_,fun i h hi=>by omega⟩
  ·rw[bf3]at e;split at e<;>cases e
  ·rw[bf3]at e;split at e<;>cases e
 obtain⟨owner,f1,L⟩:=aV0 t g (es.map (·.1)) (by rw[ag8,ht];omega) (es.map (·.1)).toList 0 _ h0 rfl
 rw[M9,j9,ag8]at f1 L
 have hlay:layClean M (es.map (·.1))=some owner:=by
  unfold layClean
  rw[<- Array.foldl_toList]
  have:(ac3 _ _ (es.map (·.1)).toList)=some (owner,es.size):=f1
  rw[this]
  rfl
 let live:List (Nat × Nat):=(A5 (M+1)).filterMap fun j=>(owner.getD j none).map (j,·)
 have hlive:∀ p:Nat × Nat,p∈live↔owner[p.1]?=some (some p.2):=fun p=>by
  obtain⟨j,i⟩:=p
  have hg:∀ j,owner.getD j none=(owner[j]?).getD none:=fun j=>by simp
  show (j,i)∈List.filterMap _ _↔_
  rw[ag7]
  constructor
  ·rintro⟨j',hj',e⟩
   rw[hg]at e
   cases q:owner[j']? with
   | none=>rw[q]at e;cases e
   | some z =>
    rw[q]at e
    cases z with
    | none=>cases e
    | some i' =>
     have e':(j',i')=(j,i):=Option.some.inj e
     cases e'
     exact q
  ·intro e
   have hj:j<owner.size:=(getElem?_eq_some_iff.mp e).1
   refine⟨j,B1.mpr (by rw[L.size,ht]at hj;exact hj),?_⟩
   rw[hg,e]
   rfl
 have hpw:live.Pairwise (fun a b=>a.1<b.1):=by
  show (List.filterMap _ _).Pairwise _
  rw[List.pairwise_filterMap]
  refine List.Pairwise.imp ?_ br9
  intro a b hab p hp q hq
  cases h1:owner.getD a none with
  | none=>rw[h1]at hp;cases hp
  | some i =>
   cases h2:owner.getD b none with
   | none=>rw[h2]at hq;cases hq
   | some i' =>
    rw[h1]at hp
    rw[h2]at hq
    have e1:(a,i)=p:=Option.some.inj hp
    have e2:(b,i')=q:=Option.some.inj hq
    subst e1 e2
    exact hab
 have hnd:(live.map (·.2)).Nodup:=by
  unfold List.Nodup
  rw[K3]
  refine List.Pairwise.imp_of_mem ?_ hpw
  intro a b ha hb hab e
  have h1:=(hlive a).mp ha
  have h2:=(hlive b).mp hb
  rw[<- e]at h2
  have:=L.inj _ _ _ h1 h2
  omega
 have hord:(live.map (·.2)).Perm (A5 es.size):=by
  refine(List.perm_ext_iff_of_nodup hnd List.nodup_range).mpr fun i=>?_
  rw[B1,k9]
  constructor
  ·rintro⟨p,hp,rfl⟩
   exact L.lt _ _ ((hlive p).mp hp)
  ·intro hi
   obtain⟨n,_,q,_⟩:=L.has i ((es.map (·.1))[i]'(by rw[ag8];exact hi)) hi (getElem?_pos _ _ _)
   exact⟨(_,i),(hlive _).mpr q,rfl⟩
 have hlen:live.length=es.size:=by have:=hord.length_eq;simpa using this
 have hes:∀ i,i∈live.map (·.2)->∃ e,es[i]?=some e:=fun i hi=>by
  have:=hord.mem_iff.mp hi
  rw[B1]at this
  exact⟨es[i],getElem?_pos es i this⟩
 have fm:∀ (l:List Nat),(∀ i∈l,∃ e,es[i]?=some e)->(l.filterMap (es[·]?)).length=l.length/\∀ (p:Nat),(l.filterMap (es[·]?))[p]?=(l[p]?).bind (es[·]?):=fun l=>by
  induction l with
  | nil=>intro _;exact⟨rfl,fun p=>rfl⟩
  | cons a l ih =>
   intro h
   obtain⟨e,he⟩:=h a c7
   obtain⟨i1,i2⟩:=ih fun i hi=>h i (b8 _ hi)
   rw[List.filterMap_cons_some he]
   refine⟨by rw[i9,i1,i9],fun p=>?_⟩
   cases p with
   | zero=>simp[he]
   | succ p=>simpa using i2 p
 obtain⟨fl,fg⟩:=fm _ hes
 have hperm:((live.map (·.2)).filterMap (es[·]?)).Perm es.toList:=by
  refine(hord.filterMap _).trans (List.Perm.of_eq ?_)
  apply S2
  intro p
  obtain⟨_,g2⟩:=fm (A5 es.size) fun i hi=>⟨es[i]'(B1.mp hi),getElem?_pos es i (B1.mp hi)⟩
  rw[g2,show es.toList[p]?=es[p]? from d3 ..]
  by_cases hp:p<es.size
  ·rw[U8 hp];rfl
  ·rw[t8 (by simp;omega),getElem?_neg es p hp];rfl
 let t2:SetTable:={ mask:=M,place:=(live.map (·.1)).toArray,dummies:=#[],finger:=finger,led:=led,moves:=moves,plain:=plain }
 have hes':((live.map (·.2)).toArray.filterMap (es[·]?)).toList=(live.map (·.2)).filterMap (es[·]?):=by simp
 have getE:∀ (p:Nat) (e:En),((live.map (·.2)).toArray.filterMap (es[·]?))[p]?=some e->∃ j i:Nat,live[p]?=some (j,i)/\es[i]?=some e:=fun p e h=>by
  rw[<- d3,hes',fg,o6]at h
  cases q:live[p]? with
  | none=>rw[q]at h;cases h
  | some ji=>rw[q]at h;exact⟨ji.1,ji.2,rfl,h⟩
 have getP:∀ (p:Nat) (j:Nat),t2.place[p]?=some j↔∃ i,live[p]?=some (j,i):=fun p j=>by
  show (live.map (·.1)).toArray[p]?=some j↔_
  rw[List.getElem?_toArray,o6]
  cases q:live[p]? with
  | none=>simp
  | some ji =>
   obtain⟨a,b⟩:=ji
   simp
 have itE:∀ n (p:Probe),it t2 n p=it t n p:=fun n p=>ay6 (t:=t) (t':=t2) rfl n p
 refine⟨t2,(live.map (·.2)).toArray,?_,?_,(by rw[hes'];exact hperm),hord,rfl,rfl⟩
 ·unfold laid
  rw[hlay]
  rfl
 ·refine⟨rfl,?_,?_,?_,g,?_,?_⟩
  ·show (live.map (·.1)).toArray.size=_
   rw[d9,a5,<- j9,hes',fl,a5]
  ·intro i j a b hij ea eb
   obtain⟨_,ea⟩:=(getP i a).mp ea
   obtain⟨_,eb⟩:=(getP j b).mp eb
   obtain⟨h1,e1⟩:=d5.mp ea
   obtain⟨h2,e2⟩:=d5.mp eb
   have:=p7.mp hpw i j h1 h2 hij
   rw[e1,e2]at this
   exact this
  ·intro i j e
   obtain⟨i',e⟩:=(getP i j).mp e
   have:=(hlive _).mp (b9 e)
   have hj:j<owner.size:=(getElem?_eq_some_iff.mp this).1
   rw[L.size]at hj
   show j<=M
   exact am4 hj
  ·rw[<- j9,hes',fl,a5,hlen]
   exact hsz
  ·intro p e he
   obtain⟨j,i,hl,hi⟩:=getE p e he
   have ho:=(hlive _).mp (b9 hl)
   have hi':i<es.size:=(getElem?_eq_some_iff.mp hi).1
   obtain⟨n,q1,q2,q3⟩:=L.has i e.1 hi' (by rw[Array.getElem?_map,hi];rfl)
   have ej:=L.inj _ _ _ ho q2
   refine⟨n,q1,?_,fun c hc=>?_⟩
   ·rw[itE]
    exact(getP p _).mpr ⟨i,by rw[hl];congr 2⟩
   ·obtain⟨i',e'⟩:=q3 c hc
    obtain⟨p',hp'⟩:=o5.mp ((hlive (_,i')).mpr e')
    exact⟨p',by rw[itE];exact(getP p' _).mpr ⟨i',hp'⟩⟩
theorem bM7 {M finger moves:Nat}{led plain:Bool}{es:Array En}(g:Good M)(hsz:es.size*5<M*3) :
  ∃ t2 order,laid M finger moves led plain (es.map (·.1))=some (t2,order)/\Tb t2 (order.filterMap (es[·]?))/\(order.filterMap (es[·]?)).toList.Perm es.toList:=
 let ⟨a,b,c,d,e,_⟩:=bz9 (finger:=finger) (moves:=moves) (led:=led) (plain:=plain) g hsz;⟨a,b,c,d,e⟩
end Sett
namespace Sett
open PySem PySem.SetTable PyProof.Rows
def al8:List Nat->Nat->Bool
 | [],_=>true
 | x::l,acc=>!acc.testBit x && al8 l (acc ||| 2 ^ x)
theorem ar5:∀ (l:List Nat) (acc:Nat),al8 l acc=true->l.Nodup/\∀ x∈l,acc.testBit x=false
 | [],_,_=>⟨List.nodup_nil,(fun _ h=>nomatch h)⟩
 | x::l,acc,h=>by
  unfold al8 at h
  rw[n8]at h
  obtain⟨h1,h2⟩:=h
  obtain⟨n,m⟩:=ar5 l _ h2
  have m':∀ y∈l,acc.testBit y=false/\x≠y:=fun y hy=>by
   have:=m y hy
   rw[Nat.testBit_or,bF1,bS7]at this
   exact⟨this.1,of_decide_eq_false this.2⟩
  refine⟨J0.mpr ⟨fun hx=>(m' x hx).2 rfl,n⟩,fun y hy=>?_⟩
  rcases c5.mp hy with rfl | hy
  ·simpa using h1
  ·exact(m' y hy).1
def hp (n:Nat):Nat:=bits (reduceHash (Builtin.Tuple.tupleHashOf [hashInt ((n / 24:Nat):Int),hashInt ((n % 24:Nat):Int)])) % 3708
set_option maxRecDepth 100000 in
theorem cc2:al8 ((A5 576).map hp) 0=true:=by decide +kernel
theorem cc1 {a b:Nat}(ha:a<576)(hb:b<576)(h:hp a=hp b):a=b:=by
 have:=(ar5 _ _ cc2).1
 unfold List.Nodup at this
 rw[K3]at this
 rw[p7]at this
 rcases Y2 a b with q | q | q
 ·have:=this a b (by simpa using ha) (by simpa using hb) q
  simp only[ag9]at this
  exact absurd h this
 ·exact q
 ·have:=this b a (by simpa using hb) (by simpa using ha) q
  simp only[ag9]at this
  exact absurd h.symm this
def aw9 (ks:List Int):Prop:=∃ i j:Nat,i<24/\j<24/\ks=[(i:Int),(j:Int)]
theorem aV8 {k':List Int}(h1:aw9 k)(h2:aw9 k')(e:u7 (A8 prog w) k=u7 (A8 prog w) k'):k=k':=by
 obtain⟨i,j,hi,hj,rfl⟩:=h1
 obtain⟨i',j',hi',hj',rfl⟩:=h2
 have e2:hp (24*i+j)=hp (24*i'+j'):=by
  unfold hp
  rw[show (24*i+j) / 24=i by omega,show (24*i+j) % 24=j by omega,show (24*i'+j') / 24=i' by omega,show (24*i'+j') % 24=j' by omega]
  exact congrArg (fun z=>bits z % 3708) e
 have:=cc1 (by omega) (by omega) e2
 have h3:i=i':=by omega
 have h4:j=j':=by omega
 rw[h3,h4]
def am8 (prog:Program)(w:World)(h:Heap)(k:List Int)(e:En):Prop:=∃ a,e.2=.ref a/\J9 (A8 prog w) h k a/\e.1=u7 (A8 prog w) k
def ax6 (prog:Program)(w:World)(hk h:Heap)(S:Addr)(ks:List (List Int)):Prop:=
 ∃ o es ep t,h.get? S=some o/\o.ExactSet/\o.data=.set es ep t/\Tb t es/\es.size=ks.length/\ks.Nodup/\(∀ k∈ks,aw9 k)/\(∀ k∈ks,∃ e∈es.toList,am8 prog w hk k e)/\∀ e∈es.toList,∃ k∈ks,am8 prog w hk k e
theorem bA2 (x:J9 (A8 prog w) h k a)(hs:∀ b o,h.get? b=some o->h'.get? b=some o):J9 (A8 prog w) h' k a:=by
 obtain⟨o,items,n,h2,h3⟩:=x
 exact⟨o,items,n,hs a o h2,h3⟩
theorem am8.up {e:En}(x:am8 prog w h k e)(hs:∀ b o,h.get? b=some o->h'.get? b=some o):am8 prog w h' k e:=by
 obtain⟨a,h1,h2,h6⟩:=x
 exact⟨a,h1,bA2 h2 hs,h6⟩
theorem am8.inj {k':List Int}{e:En}(x:am8 prog w h k e)(y:am8 prog w h k' e):k=k':=by
 obtain⟨a,h1,h2,_⟩:=x
 obtain⟨b,h3,h4,_⟩:=y
 rw[h1]at h3
 cases h3
 exact h2.inj h4
theorem be4 (x:Addr)(es:Array En):byScan (.ref x) es=false:=by
 unfold byScan Value.scannable
 rfl
theorem au9 {x:Addr}{Q:Bool->Shared->Prop}(hx:J9 (A8 prog w) s.heap k x)(h:Q true s):v7 (t7 prog w) A (bm0 8 (.ref x)) Q E s:=by
 have hT:=hx.typeIs
 obtain⟨o,items,n,ho,hc,hd,hi⟩:=hx
 unfold bm0
 refine a8 (wpAny_specialOf hT F.slot_tuple_hash.lookup ?_)
 dsimp only
 refine a8 (aG1 ho hd ?_)
 show v7 _ _ (forIn items _ _ >>= _) _ _ s
 rw[<- ag2]
 have hv:∀ v∈items.toList,∃ i t,v=.int i t:=fun v hv=>by
  clear ho hd
  generalize items.toList=l at hi hv
  induction hi with
  | nil=>cases hv
  | cons h1 _ ih =>
   rcases c5.mp hv with rfl | hv
   ·obtain⟨t,e⟩:=Value.isInt_shape h1
    exact⟨_,t,e⟩
   ·exact ih hv
 refine a8 (as9 _ (fun rest r s'=>r.1=none/\s'=s/\∀ v∈rest,∃ i t,v=.int i t) _ ?_ ?_ _ _ ⟨rfl,rfl,hv⟩)
 ·rintro v rest r s' ⟨hr,rfl,hall⟩
  obtain⟨i,t,rfl⟩:=hall v c7
  have e:bm0 7 (.int i t)=pure true:=by unfold bm0;rfl
  rw[e]
  refine a8 (j5 ?_)
  simp only[S3,m5,if_false]
  exact j5 ⟨rfl,rfl,fun u hu'=>hall u (b8 _ hu')⟩
 ·rintro⟨r1,r2⟩ s' ⟨hr,rfl,_⟩
  simp only at hr
  subst hr
  exact j5 h
theorem aH2 {S x:Addr}{o:Obj}{es:Array En}{ep:Nat}{h:Int}{Q:SetFound->Shared->Prop}(ho:s.heap.get? S=some o)(hd:o.data=.set es ep t)(T:Tb t es)(hh:∀ e∈es.toList,e.1≠h)
  (hq:∀ n,n<10*turns t.mask->(∀ i:Nat,t.place[i]?≠some (it t n (t.probeStart h)).j)->(it t n (t.probeStart h)).j<=t.mask->(∀ k,k<n->∃ i':Nat,t.place[i']?=some (it t k (t.probeStart h)).j)->Q (.free (it t n (t.probeStart h)).j false) s) :
  v7 (t7 prog w) A (bT4 S (.ref x) h true) Q E s:=by
 obtain⟨n,h1,h2,h3,h4,h5⟩:=T.absent hh
 unfold bT4 aL3
 refine a8 (T9 ho hd T.fits ?_)
 dsimp only
 rw[T.odd]
 simp only[m5,if_false]
 split
 ·rename_i met hm
  have e:=hm.symm.trans h5
  cases e
  exact j5 (hq n h1 h2 h3 h4)
 ·rename_i hm
  exact absurd h5 (fun z=>hm _ z)
theorem aX5 {x:Addr}{Q:Bool->Shared->Prop}(hx:J9 (A8 prog w) s.heap k x)(h:Q false s):v7 (t7 prog w) A (ao3 8 (.ref x)) Q E s:=by
 have hT:=hx.typeIs
 obtain⟨o,items,n,ho,hc,hd,hi⟩:=hx
 unfold ao3
 refine a8 (wpAny_typeOf hT ?_)
 dsimp only
 rw[if_pos (by decide)]
 refine a8 (j5 ?_)
 simp only[S3,m5,if_false]
 refine a8 (aG1 ho hd ?_)
 dsimp only
 rw[<- ag2]
 have hv:∀ v∈items.toList,∃ i t,v=.int i t:=fun v hv=>by
  clear ho hd
  generalize items.toList=l at hi hv
  induction hi with
  | nil=>cases hv
  | cons h1 _ ih =>
   rcases c5.mp hv with rfl | hv
   ·obtain⟨t,e⟩:=Value.isInt_shape h1
    exact⟨_,t,e⟩
   ·exact ih hv
 refine a8 (as9 _ (fun rest r s'=>r.1=none/\s'=s/\∀ v∈rest,∃ i t,v=.int i t) _ ?_ ?_ _ _ ⟨rfl,rfl,hv⟩)
 ·rintro v rest r s' ⟨hr,rfl,hall⟩
  obtain⟨i,t,rfl⟩:=hall v c7
  have e:ao3 7 (.int i t)=pure false:=by unfold ao3;rfl
  rw[e]
  refine a8 (j5 ?_)
  simp only[m5,if_false]
  exact j5 ⟨rfl,rfl,fun u hu'=>hall u (b8 _ hu')⟩
 ·rintro⟨r1,r2⟩ s' ⟨hr,rfl,_⟩
  simp only at hr
  subst hr
  exact j5 h
theorem bU3 {x:Addr}{l:List Value}{Q:Bool->Shared->Prop}(hx:J9 (A8 prog w) s.heap k x)(hl:∀ v∈l,∃ a k',v=.ref a/\J9 (A8 prog w) s.heap k' a)(h:Q false s) :
  v7 (t7 prog w) A (searchCouldBeSeen (.ref x) l) Q E s:=by
 unfold searchCouldBeSeen
 refine a8 (as9 _ (fun rest r s'=>r.1=none/\s'=s/\∀ v∈rest,∃ a k',v=.ref a/\J9 (A8 prog w) s.heap k' a) _ ?_ ?_ _ _ ⟨rfl,rfl,hl⟩)
 ·rintro v rest r s' ⟨hr,rfl,hall⟩
  obtain⟨a,k',rfl,ha⟩:=hall v c7
  have hrest:∀ v∈rest,∃ a k',v=.ref a/\J9 (A8 prog w) s'.heap k' a:=fun u hu'=>hall u (b8 _ hu')
  dsimp only
  split
  ·exact j5 ⟨rfl,rfl,hrest⟩
  ·refine a8 (bT5 hx ?_)
   simp only[S3,m5,if_false]
   refine a8 (bT5 ha ?_)
   simp only[S3,m5,if_false]
   refine a8 (aX5 hx ?_)
   simp only[m5,if_false]
   refine a8 (aX5 ha ?_)
   simp only[m5,if_false]
   exact j5 ⟨rfl,rfl,hrest⟩
 ·rintro⟨r1,r2⟩ s' ⟨hr,rfl,_⟩
  simp only at hr
  subst hr
  exact j5 h
theorem aA7 {S x:Addr}{o:Obj}{es:Array En}{ep:Nat}{e:En}{Q:SetFound->Shared->Prop}(hu:A.units<ao1)(ho:s.heap.get? S=some o)(hd:o.data=.set es ep t)(T:Tb t es)
  (hx:J9 (A8 prog w) s.heap k x)(he:es[i]?=some e)(hk:am8 prog w s.heap k e)(hall:∀ e∈es.toList,∃ k,am8 prog w s.heap k e)(huq:∀ (c:Nat) (e':En),es[c]?=some e'->e'.1=e.1->c=i)
  (hq:Q (.there none) s):v7 (t7 prog w) A (bT4 S (.ref x) (u7 (A8 prog w) k) true) Q E s:=by
 obtain⟨y,hy1,hy2,hy3⟩:=hk
 obtain⟨j,q,hp⟩:=T.present he huq
 rw[hy3]at hp
 unfold bT4 aL3
 refine a8 (T9 ho hd T.fits ?_)
 dsimp only
 rw[T.odd]
 simp only[m5,if_false]
 have fin:v7 (t7 prog w) A (do
   let some (_,y):=es[i]? | ah2 "internal:set-entry"
   let equal <- aP9 [y] (eqBool y (.ref x))
   let (es',_,t') <- setState S
   if true && equal then return .there none
   let some same:=t'.sameMemory t.moves t.mask | ah2 "set.changed-during-lookup:is-the-new-block-at-the-old-address"
   let still <- match (if same then t'.slot j else .empty) with
    | .live i'=>match es'[i']? with
     | some (_,y')=>do pure (if <- isSame y' y then some i' else none)
     | none=>pure none
    | _=>pure none
   match still with
   | none=>rule "set.search.anew";aL3 S (.ref x) (u7 (A8 prog w) k) true 99999 none
   | some i'=>if equal then return .there (some i') else aL3 S (.ref x) (u7 (A8 prog w) k) true 99999 (some q)) Q E s:=by
  rw[he]
  obtain⟨e1,e2⟩:=e
  have hy1:e2=.ref y:=hy1
  subst hy1
  dsimp only
  refine a8 (F5 (wpAny_eqBool_tuple hu hy2 hx ?_))
  refine a8 (T9 ho hd T.fits ?_)
  dsimp only
  rw[decide_eq_true rfl]
  simp only[Bool.and_self,if_true]
  exact j5 hq
 split
 ·rename_i met hm
  have e9:=hm.symm.trans hp
  cases e9
  dsimp only
  cases hled:t.led with
  | true =>
   simp only[S3,m5,if_false]
   exact fin
  | false =>
   simp only[bf4,if_true]
   refine a8 (bU3 hx (fun v hv=>?_) ?_)
   ·rw[k9]at hv
    obtain⟨e',he',rfl⟩:=hv
    have he'':e'∈es.toList:=by
     have:=Array.mem_filter.mp (at3.mp he')
     exact at3.mpr this.1
    obtain⟨k',a,h1,h2,_⟩:=hall e' he''
    exact⟨a,k',h1,h2⟩
   ·simp only[m5,if_false]
    exact fin
 ·rename_i hm
  exact absurd hp (fun z=>hm _ z)
theorem thr {m:Nat}(g:Good m)(h1:n*5<m*3)(h2:m*3<=(n+1)*5)(h3:n<300):(m=7/\n+1=5)\/(m=31/\n+1=19)\/(m=127/\n+1=77):=by
 rcases g with rfl | rfl | rfl | rfl<;>omega
theorem bd7 {m:Nat}(g:Good m)(h1:n*5<m*3)(h2:m*3<=(n+1)*5)(h3:n<300):Good (sizeAbove (grown (n+1)) - 1)/\(n+1)*5<(sizeAbove (grown (n+1)) - 1)*3/\sizeAbove (grown (n+1))<=4096:=by
 rcases thr g h1 h2 h3 with⟨_,e⟩ | ⟨_,e⟩ | ⟨_,e⟩<;>rw[e]<;>refine⟨?_,by decide +kernel,by decide +kernel⟩
 ·exact .inr (.inl (by decide +kernel))
 ·exact .inr (.inr (.inl (by decide +kernel)))
 ·exact .inr (.inr (.inr (by decide +kernel)))
theorem bG9 {es:Array En}(T:Tb' t es):t.tooFull=decide (t.mask*3<=es.size*5):=by
 unfold tooFull PySem.SetTable.fill
 rw[T.dum,T.len]
 rfl
theorem stored {S:Addr}{o:Obj}{es es':Array En}{ep:Nat}{t':SetTable}(ho:h.get? S=some o)(hd:o.data=.set es ep t) :
  (h.update S (Obj.putSet es' t')).get? S=some { o with data:=.set es' (ep+1) t' }:=by
 have:=Y8 (Obj.putSet es' t') ho (by rw[putSet_of es' t' hd];rfl)
 rw[putSet_of es' t' hd]at this
 exact this
theorem aR8 {S x:Addr}{Q:Bool->Shared->Prop}{hp:Heap}(hup:∀ b o,hp.get? b=some o->s.heap.get? b=some o)(hu:A.units<ao1)(hS:ax6 prog w hp s.heap S ks)(hx0:J9 (A8 prog w) hp k x)(hk:aw9 k)(hn:ks.length<300)
  (hq:∀ (b:Bool) (h':Heap) (tk:Nat),s.toks<=tk->Heap.SameBut S s.heap h'->ax6 prog w hp h' S (if k∈ks then ks else k::ks)->Q b { s with heap:=h',toks:=tk }) :
  v7 (t7 prog w) A (setAdd S (.ref x)) Q E s:=by
 have hx:=bA2 hx0 hup
 unfold setAdd
 refine F5 (a8 (wpAny_pyHash_tuple hu hx ?_))
 obtain⟨o,es,ep,t,ho,hex,hd,T,hsz,hnd,hok,hto,hfrom⟩:=hS
 unfold setAddHashed
 refine F5 ?_
 unfold setAddHashedIn
 refine a8 (T9 (s:={ s with toks:=s.toks+(k.length+1) }) ho hd T.fits ?_)
 dsimp only
 rw[be4]
 simp only[m5,if_false]
 by_cases hmem:k∈ks
 ·-- it is there
  obtain⟨e,he,hek⟩:=hto k hmem
  obtain⟨i,hi⟩:=o5.mp he
  rw[d3]at hi
  have huq:∀ (c:Nat) (e':En),es[c]?=some e'->e'.1=e.1->c=i:=fun c e' hc hh=>by
   apply Classical.byContradiction
   intro hci
   have hkey:∀ (c:Nat),c<es.size->∃ kk,kk∈ks/\∃ e,es[c]?=some e/\am8 prog w hp kk e:=fun c hc=>by
    have e:=getElem?_pos es c hc
    obtain⟨kk,h1,h2⟩:=hfrom es[c] (by simp)
    exact⟨kk,h1,_,e,h2⟩
   have e'k:am8 prog w hp k e':=by
    obtain⟨kk,h1,h2⟩:=hfrom e' (b9 (by rw[d3];exact hc))
    have h3:=h2
    obtain⟨_,_,_,h4⟩:=h2
    have h5:=hek
    obtain⟨_,_,_,h6⟩:=h5
    have:kk=k:=aV8 (prog:=prog) (w:=w) (hok kk h1) hk (by rw[<- h4,hh,h6])
    rw[<- this]
    exact h3
   have hch:∀ n,n<ks.length->∃ c,c<es.size/\∃ e,es[c]?=some e/\∃ kk,ks[n]?=some kk/\am8 prog w hp kk e:=fun n hn'=>by
    obtain⟨e,he,hek⟩:=hto ks[n] (Q1 hn')
    obtain⟨c,hc⟩:=o5.mp he
    rw[d3]at hc
    exact⟨c,(getElem?_eq_some_iff.mp hc).1,e,hc,ks[n],f9 hn',hek⟩
   have:=aM9 (es.size - 1) ks.length (fun n=>if hn':n<ks.length then (let c0:=Classical.choose (hch n hn');let c1:=if c0=c then i else c0;if c1<c then c1 else c1 - 1) else 0) ?_ ?_
   ·have hc':=(getElem?_eq_some_iff.mp hc).1
    omega
   ·intro n hn'
    dsimp only
    rw[dif_pos hn']
    have hp:=Classical.choose_spec (hch n hn')
    generalize Classical.choose (hch n hn')=c0 at hp
    obtain⟨p1,_⟩:=hp
    have hc':=(getElem?_eq_some_iff.mp hc).1
    have hi':=(getElem?_eq_some_iff.mp hi).1
    split<;>split<;>omega
   ·intro n n' hn1 hn2 eqn
    dsimp only at eqn
    rw[dif_pos hn1,dif_pos hn2]at eqn
    have hp:=Classical.choose_spec (hch n hn1)
    have hp':=Classical.choose_spec (hch n' hn2)
    generalize Classical.choose (hch n hn1)=c0 at hp eqn
    generalize Classical.choose (hch n' hn2)=c0' at hp' eqn
    obtain⟨p1,e1,p2,kk,p3,p4⟩:=hp
    obtain⟨p1',e1',p2',kk',p3',p4'⟩:=hp'
    have same:kk=kk':=by
     have r1:am8 prog w hp kk (if c0=c then e else e1):=by
      split
      ·rename_i hcc
       subst hcc
       rw[hc]at p2
       cases p2
       have:=p4.inj e'k
       rw[this]
       exact hek
      ·exact p4
     have r2:am8 prog w hp kk' (if c0'=c then e else e1'):=by
      split
      ·rename_i hcc
       subst hcc
       rw[hc]at p2'
       cases p2'
       have:=p4'.inj e'k
       rw[this]
       exact hek
      ·exact p4'
     have g1:es[if c0=c then i else c0]?=some (if c0=c then e else e1):=by split<;>assumption
     have g2:es[if c0'=c then i else c0']?=some (if c0'=c then e else e1'):=by split<;>assumption
     have ne1:(if c0=c then i else c0)≠c:=by split<;>omega
     have ne2:(if c0'=c then i else c0')≠c:=by split<;>omega
     have eqc:(if c0=c then i else c0)=(if c0'=c then i else c0'):=by
      generalize (if c0=c then i else c0)=u at eqn ne1
      generalize (if c0'=c then i else c0')=v at eqn ne2
      split at eqn<;>split at eqn<;>omega
     rw[eqc,g2]at g1
     rw[<- Option.some.inj g1]at r1
     exact r1.inj r2
    subst same
    obtain⟨q1,q2⟩:=d5.mp p3
    obtain⟨q3,q4⟩:=d5.mp p3'
    rcases Y2 n n' with z | z | z
    ·exact absurd (q2.trans q4.symm) (p7.mp hnd n n' q1 q3 z)
    ·exact z
    ·exact absurd (q4.trans q2.symm) (p7.mp hnd n' n q3 q1 z)
  refine a8 (aA7 (s:={ s with toks:=s.toks+(k.length+1) }) hu ho hd T hx hi (hek.up hup) (fun e he=>?_) huq ?_)
  ·obtain⟨kk,_,h2⟩:=hfrom e he
   exact⟨kk,h2.up hup⟩
  ·refine j5 ?_
   have:=hq false s.heap (s.toks+(k.length+1)) (ap9 _ _) (Heap.SameBut.refl S s.heap)
   rw[if_pos hmem]at this
   exact this ⟨o,es,ep,t,ho,hex,hd,T,hsz,hnd,hok,hto,hfrom⟩
 ·-- it is new
  have hh:∀ e∈es.toList,e.1≠u7 (A8 prog w) k:=fun e he z=>by
   obtain⟨kk,h1,h2⟩:=hfrom e he
   obtain⟨_,_,_,h4⟩:=h2
   have:kk=k:=aV8 (prog:=prog) (w:=w) (hok kk h1) hk (by rw[<- h4,z])
   exact hmem (this ▸ h1)
  refine a8 (aH2 (s:={ s with toks:=s.toks+(k.length+1) }) ho hd T hh fun n hn1 hfr hle hocc=>?_)
  dsimp only
  refine a8 (T9 (s:={ s with toks:=s.toks+(k.length+1) }) ho hd T.fits ?_)
  dsimp only
  obtain⟨hp1,T1⟩:=T.put (h:=u7 (A8 prog w) k) (x:=Value.ref x) hn1 hfr hle hocc
  generalize hpt:t.put (it t n (t.probeStart (u7 (A8 prog w) k))).j=tp at hp1 T1 ⊢
  have hled:tp.1.mask=t.mask:=by
   rw[<- hpt]
   unfold SetTable.put
   rfl
  obtain⟨t1,p⟩:=tp
  dsimp only at hp1 T1 hled ⊢
  have hsz1:(insertAt es p (u7 (A8 prog w) k,Value.ref x)).size=es.size+1:=aq6 hp1
  have fits1:(insertAt es p (u7 (A8 prog w) k,Value.ref x)).size<=d8:=by rw[hsz1,hsz,x6];omega
  have made:∀ (h':Heap) (o':Obj) (es':Array En) (ep':Nat) (t':SetTable),Heap.SameBut S s.heap h'->h'.get? S=some o'->o'.ExactSet->o'.data=.set es' ep' t'->Tb t' es' ->
    es'.toList.Perm (insertAt es p (u7 (A8 prog w) k,Value.ref x)).toList->ax6 prog w hp h' S (k::ks):=fun h' o' es' ep' t' hsb ho' hex' hd' T' hpm=>by
   have hmemE:∀ e,e∈es'.toList↔e=(u7 (A8 prog w) k,Value.ref x)\/e∈es.toList:=fun e=>by rw[hpm.mem_iff];exact bM3 hp1 e
   have hnew:am8 prog w hp k (u7 (A8 prog w) k,Value.ref x):=⟨x,rfl,hx0,rfl⟩
   refine⟨o',es',ep',t',ho',hex',hd',T',?_,J0.mpr ⟨hmem,hnd⟩,fun kk hkk=>?_,fun kk hkk=>?_,fun e he=>?_⟩
   ·have:=hpm.length_eq
    rw[j9,j9,hsz1,hsz]at this
    rw[this,i9]
   ·rcases c5.mp hkk with rfl | hkk
    ·exact hk
    ·exact hok kk hkk
   ·rcases c5.mp hkk with rfl | hkk
    ·exact⟨_,(hmemE _).mpr (.inl rfl),hnew⟩
    ·obtain⟨e,he,hek⟩:=hto kk hkk
     exact⟨e,(hmemE e).mpr (.inr he),hek⟩
   ·rcases(hmemE e).mp he with rfl | he
    ·exact⟨k,c7,hnew⟩
    ·obtain⟨kk,h1,h2⟩:=hfrom e he
     exact⟨kk,b8 _ h1,h2⟩
  have rest:∀ b:Bool,v7 (t7 prog w) A (do
    storeSet S (insertAt es p (u7 (A8 prog w) k,Value.ref x)) (if b=true then t1 else { t1 with plain:=false })
    if (!false && (if b=true then t1 else { t1 with plain:=false }).tooFull)=true then do
     setRelay S (grown (es.size+1))
     pure true
    else pure true) Q E { s with toks:=s.toks+(k.length+1) }:=fun b=>by
   have T2:Tb' (if b=true then t1 else { t1 with plain:=false }) (insertAt es p (u7 (A8 prog w) k,Value.ref x)):=by
    split
    ·exact T1
    ·exact T1.plain false
   have hm2:(if b=true then t1 else { t1 with plain:=false }).mask=t.mask:=by split<;>exact hled
   generalize (if b=true then t1 else { t1 with plain:=false })=t2 at T2 hm2
   refine a8 (wpAny_storeSet_of (s:={ s with toks:=s.toks+(k.length+1) }) ho hd ?_ fits1)
   have ho1:=stored (es':=insertAt es p (u7 (A8 prog w) k,Value.ref x)) (t':=t2) ho hd
   have hsb1:=Heap.SameBut.update s.heap S (Obj.putSet (insertAt es p (u7 (A8 prog w) k,Value.ref x)) t2)
   rw[bG9 T2]
   simp only[bf4,S4,decide_eq_true_eq]
   by_cases hful:t2.mask*3<=(insertAt es p (u7 (A8 prog w) k,Value.ref x)).size*5
   ·rw[if_pos hful]
    rw[hsz1,hm2]at hful
    obtain⟨g1,g2,g3⟩:=bd7 T.good T.nf hful (by rw[hsz];exact hn)
    unfold setRelay
    refine a8 (a8 (T9 (s:={ s with heap:=s.heap.update S (Obj.putSet (insertAt es p (u7 (A8 prog w) k,Value.ref x)) t2),toks:=s.toks+(k.length+1) }) ho1 rfl T2.fits ?_))
    dsimp only
    rw[if_neg (by rw[x6];omega)]
    obtain⟨t3,order,hl3,T3,hpm3⟩:=bM7 (M:=sizeAbove (grown (es.size+1)) - 1) (finger:=t2.finger) (moves:=t2.movedTo (sizeAbove (grown (es.size+1)) - 1)) (led:=t2.led) (plain:=t2.plain) (es:=insertAt es p (u7 (A8 prog w) k,Value.ref x)) g1 (by rw[hsz1];exact g2)
    have hrel:t2.relaid ((insertAt es p (u7 (A8 prog w) k,Value.ref x)).map (·.1)) (grown (es.size+1))=some (t3,order):=by
     unfold relaid
     exact hl3
    rw[hrel]
    have hsz3:(order.filterMap ((insertAt es p (u7 (A8 prog w) k,Value.ref x))[·]?)).size=(insertAt es p (u7 (A8 prog w) k,Value.ref x)).size:=by
     rw[<- j9,hpm3.length_eq,j9]
    refine a8 ?_
    show v7 _ _ (if ((order.filterMap ((insertAt es p (u7 (A8 prog w) k,Value.ref x))[·]?)).size != (insertAt es p (u7 (A8 prog w) k,Value.ref x)).size)=true then _ else _) _ _ _
    rw[if_neg (by rw[hsz3];simp)]
    first | refine j5 ?_ | refine a8 (j5 (j5 ?_))
    dsimp only
    refine wpAny_storeSet_of (s:={ s with heap:=s.heap.update S (Obj.putSet (insertAt es p (u7 (A8 prog w) k,Value.ref x)) t2),toks:=s.toks+(k.length+1) }) ho1 rfl ?_ (by rw[hsz3];exact fits1)
    refine j5 ?_
    have ho2:=stored (es':=order.filterMap ((insertAt es p (u7 (A8 prog w) k,Value.ref x))[·]?)) (t':=t3) ho1 rfl
    have hsb2:=hsb1.trans (Heap.SameBut.update _ S (Obj.putSet (order.filterMap ((insertAt es p (u7 (A8 prog w) k,Value.ref x))[·]?)) t3))
    have:=hq true _ (s.toks+(k.length+1)) (ap9 _ _) hsb2
    rw[if_neg hmem]at this
    exact this (made _ _ _ _ _ hsb2 ho2 hex rfl T3 hpm3)
   ·rw[if_neg hful]
    refine j5 ?_
    have:=hq true _ (s.toks+(k.length+1)) (ap9 _ _) hsb1
    rw[if_neg hmem]at this
    exact this (made _ _ _ _ _ hsb1 ho1 hex rfl (T2.full (by omega)) (List.Perm.refl _))
  cases hpl:t1.plain with
  | true =>
   rw[if_pos rfl]
   refine a8 (au9 (s:={ s with toks:=s.toks+(k.length+1) }) hx ?_)
   exact rest true
  | false =>
   rw[if_neg i6]
   refine a8 (j5 ?_)
   exact rest true
def X4 (ks:List (List Int))(k:List Int):List (List Int):=if k∈ks then ks else k::ks
theorem bB0 (ks:List (List Int))(k:List Int):(X4 ks k).length<=ks.length+1:=by unfold X4;split<;>simp
theorem ay9:∀ (l ks:List (List Int)),(l.foldl X4 ks).length<=ks.length+l.length
 | [],ks=>by simp
 | k::l,ks=>by
  rw[ad8]
  have h1:=ay9 l (X4 ks k)
  have h2:=bB0 ks k
  rw[i9]
  omega
theorem av1:∀ (l ks:List (List Int)),(l.foldl X4 ks).length=ks.length+l.length↔l.Nodup/\∀ x∈l,x∉ks
 | [],ks=>by simp
 | k::l,ks=>by
  rw[ad8,i9,J0]
  by_cases h:k∈ks
  ·have e:X4 ks k=ks:=by unfold X4;rw[if_pos h]
   rw[e]
   have:=ay9 l ks
   constructor
   ·intro q;omega
   ·rintro⟨_,q⟩
    exact absurd h (q k c7)
  ·have e:X4 ks k=k::ks:=by unfold X4;rw[if_neg h]
   rw[e]
   have:=av1 l (k::ks)
   rw[i9]at this
   constructor
   ·intro q
    obtain⟨q1,q2⟩:=this.mp (by omega)
    refine⟨⟨fun hk=>q2 k hk c7,q1⟩,fun x hx=>?_⟩
    rcases c5.mp hx with rfl | hx
    ·exact h
    ·exact fun z=>q2 x hx (b8 _ z)
   ·rintro⟨⟨q1,q2⟩,q3⟩
    have:=this.mpr ⟨q2,fun x hx z=>by
     rcases c5.mp z with rfl | z
     ·exact q1 hx
     ·exact q3 x (b8 _ hx) z⟩
    omega
theorem aQ7 {R:Result->Shared->Prop}{I:Addr}{wr:List Addr}{G:Array bF7->Array bF7->Prop}{P:Nat->Value->Prop}{St:Nat->Shared->Prop}
  (W:WalksS prog w A.in1 I fp wr G n P St)(hu:A.in1.units<ao1)(S:Addr)(hSf:S∉fp)(hp:Heap)(hS0:hp.get? S=none)(hw0:∀ b∈wr,hp.get? b=none)(keys:List (List Int))(hn:keys.length=n)(hb:n<300)
  (hkey:∀ i v,P i v->∃ x k,v=.ref x/\keys[i]?=some k/\aw9 k/\J9 (A8 prog w) hp k x) :
  ∀ (c i:Nat) (s:Shared),n - i=c->i<=n->St i s->(∀ b o,hp.get? b=some o->s.heap.get? b=some o)->ax6 prog w hp s.heap S ((keys.take i).foldl X4 []) ->
   (∀ s',Moved (S::wr) G s s'->ax6 prog w hp s'.heap S (keys.foldl X4 [])->R (.ok (.ret .none)) s') ->
   aG5 (t7 prog w) A (.builtin "set.update.loop" ⟨[.ref S,.ref I],[]⟩) R s:=by
 have hSw:S∉wr:=fun h=>hSf (W.sub _ h)
 have hsub:∀ b∈wr,b∈S::wr:=fun b hb=>b8 _ hb
 have nw:∀ b o,hp.get? b=some o->b∉wr:=fun b o e hm=>by rw[hw0 b hm]at e;cases e
 have nS:∀ b o,hp.get? b=some o->b≠S:=fun b o e hm=>by rw[hm,hS0]at e;cases e
 have setKept:∀ {s s':Shared} {ks:List (List Int)},ax6 prog w hp s.heap S ks->(∀ b o,b∉wr->s.heap.get? b=some o->s'.heap.get? b=some o)->ax6 prog w hp s'.heap S ks:=fun {s s' ks} hS hk=>by
  obtain⟨o,es,ep,t,ho,rest⟩:=hS
  exact⟨o,es,ep,t,hk S o hSw ho,rest⟩
 intro c
 induction c with
 | zero =>
  intro i s hk hi hst hup hS hR
  have hin:i=n:=by omega
  subst hin
  refine ah3 PyProof.Rows.F.entry_set_update_loop ?_
  rw[Around.under_plainId PyProof.Rows.F.plain_set_update_loop _]
  show v7 _ A.in1 (pyNext (.ref I) >>= _) _ _ s
  refine a8 (W.done s _ _ hst fun s' hm=>?_)
  show v7 _ A.in1 (ret Value.none) _ _ s'
  refine j5 (hR s' (hm.mono hsub) ?_)
  have:=setKept hS hm.heap
  rw[k7 (by omega)]at this
  exact this
 | succ c ih =>
  intro i s hk hi hst hup hS hR
  have hlt:i<n:=by omega
  refine ah3 PyProof.Rows.F.entry_set_update_loop ?_
  rw[Around.under_plainId PyProof.Rows.F.plain_set_update_loop _]
  show v7 _ A.in1 (pyNext (.ref I) >>= _) _ _ s
  refine a8 (W.item i s _ _ hlt hst fun v s' hP hst' hm=>?_)
  obtain⟨x,k,rfl,hki,hok,hx⟩:=hkey i v hP
  have hup':∀ b o,hp.get? b=some o->s'.heap.get? b=some o:=fun b o e=>hm.heap b o (nw b o e) (hup b o e)
  have hS':=setKept (s':=s') hS hm.heap
  show v7 _ A.in1 (aP9 [Value.ref x] (setAdd S (.ref x)) >>= _) _ _ s'
  refine a8 (F5 ?_)
  have hlen:((keys.take i).foldl X4 []).length<300:=by
   have:=ay9 (keys.take i) []
   rw[k8]at this
   simp only[ad7]at this
   omega
  refine aR8 hup' hu hS' hx hok hlen fun b h' tk htk hsb hS2=>?_
  have hS3:ax6 prog w hp h' S ((keys.take (i+1)).foldl X4 []):=by
   rw[o7,hki,List.foldl_append]
   exact hS2
  refine j5 ⟨plainId_quiet PyProof.Rows.F.plain_set_update_loop _,ih (i+1) _ (by omega) hlt (W.frame _ s' _ _ hst' htk fun b hb o e=>?_) (fun b o e=>?_) hS3 fun s'' hm'' hS''=>?_⟩
  ·rw[hsb.2 b (fun h:b=S=>hSf (h ▸ hb))];exact e
  ·show h'.get? b=some o
   rw[hsb.2 b (nS b o e)]
   exact hup' b o e
  ·refine hR s'' (Moved.trans W.gtrans ((hm.mono hsub).then_heap htk fun b o hb e=>?_) hm'') hS''
   rw[hsb.2 b (fun h:b=S=>hb (h ▸ c7))];exact e
set_option maxRecDepth 100000 in
set_option maxHeartbeats 3200000 in
theorem aR6 {items:Array Value}{keys:List (List Int)}(hh:A.handled=none)(hu:A.units+8<ao1)(hl:s.heap.IsList l items)(hn:keys.length=items.size)(hb:items.size<300)
  (hkey:∀ (i:Nat) (v:Value),items[i]?=some v->∃ x k,v=.ref x/\keys[i]?=some k/\aw9 k/\J9 (A8 prog w) s.heap k x)
  (h:∀ (h':Heap) (tk:Nat),ax6 prog w s.heap h' s.heap.objs.size (keys.foldl X4 [])->(∀ b o,s.heap.get? b=some o->h'.get? b=some o)->Q (.ref s.heap.objs.size) { s with heap:=h',toks:=tk }) :
  v7 (t7 prog w) A (call (.type "set") [.ref l]) Q E s:=by
 obtain⟨c,tl,hmro⟩:=F.called_set.mro
 have hmade:=F.called_set.made
 have hsub:=F.called_set.sub
 refine bE5 (codeAny_of_tree ?_)
 show v7 _ _ (callAny (.type "set") _) _ _ _
 refine j5 ⟨Code.quiet_builtin _ (by decide +kernel),ah3 F.entry_type_call ?_⟩
 rw[Around.under_plain (weight_type_call_type "set" [.ref l] []) rfl]
 have h1:=F.called_set.notType
 have h2:=F.called_set.canCreate
 have hct:=F.typeCall_set_1 (.ref l)
 repeat (any_goals (first | assumption | wp_step))
 refine ak5 (code_set_new_1 (.ref l) (E:=E) (Q₁:=fun obj s₁=>∃ led:Bool,obj=.ref s.heap.objs.size/\s₁={ s with heap:=s.heap.push { cls:=.type "set",dict:=none,data:=.set #[] 0 (.fresh 0 0 led) } }) fun led=>⟨led,rfl,rfl⟩) fun r s₁ hr=>?_
 cases r with
 | error e=>exact hr
 | ok fl =>
  cases fl with
  | ret obj =>
   obtain⟨led,rfl,rfl⟩:=hr
   have hS:(s.heap.push { cls:=.type "set",dict:=none,data:=.set #[] 0 (.fresh 0 0 led) }).get? s.heap.objs.size=some { cls:=.type "set",dict:=none,data:=.set #[] 0 (.fresh 0 0 led) }:=l5 _ rfl
   have hT:Shared.TypeIs { s with heap:=s.heap.push { cls:=.type "set",dict:=none,data:=.set #[] 0 (.fresh 0 0 led) } } (.ref s.heap.objs.size) "set":=⟨_,hS,rfl⟩
   have hli:=F.called_set.init.lookup
   have hbi:=F.called_set.init.bind (.ref s.heap.objs.size)
   repeat (any_goals (first | assumption | wp_step))
   refine ak5 (codeAny_call_builtin (R:=wants (fun r s₂=>r=.none/\∃ h' tk,s₂={ s with heap:=h',toks:=tk }/\ax6 prog w s.heap h' s.heap.objs.size (keys.foldl X4 [])/\(∀ b o,s.heap.get? b=some o->h'.get? b=some o)) E) F.called_set.init.plain F.entry_set_init (check_set_init_1 hT ?_)) fun r₂ s₂ hr₂=>?_
   ·obtain⟨ol,hol,hcl,nl,hdl⟩:=hl
    obtain⟨ocls,odict,odata,oslots⟩:=ol
    simp only at hcl hdl
    subst hcl;subst hdl
    have hol':(s.heap.push { cls:=.type "set",dict:=none,data:=.set #[] 0 (.fresh 0 0 led) }).get? l=some { cls:=.type "list",dict:=odict,data:=.seq items nl,slots:=oslots }:=a7 _ hol
    have hsls:=F.sub_list_set
    have hslf:=F.sub_list_frozenset
    have hne:(Value.type "list" == Value.type "dict")=false:=by decide
    have hl1:(s.heap.push { cls:=.type "set",dict:=none,data:=.set #[] 0 (.fresh 0 0 led) }).IsList l items:=⟨_,hol',rfl,nl,rfl⟩
    unfold Builtin.«set.__init__» noKeywords Builtin.Frozenset.updateFrom
    generalize hPI:pyIter=PI
    wp_walk
    subst hPI
    refine aQ1 hl1 ?_
    refine a8 (wpAny_runValue ?_)
    have hlS:l<s.heap.objs.size:=i7 hol
    have hh3:A.in1.in1.in1.handled=none:=by simp[hh]
    have hneI:l≠(s.heap.push { cls:=.type "set",dict:=none,data:=.set #[] 0 (.fresh 0 0 led) }).objs.size:=by
     rw[N0];exact m6 (E3 hlS)
    have hSf:s.heap.objs.size∉[(s.heap.push { cls:=.type "set",dict:=none,data:=.set #[] 0 (.fresh 0 0 led) }).objs.size,l]:=by
     rw[N0];simp only[c5,j8,D9,or_false,not_or]
     exact⟨m6 (Nat.lt_succ_self _),V3 hlS⟩
    refine aQ7 ((Walks.list hh3 _ l hneI items).toS) ?hu s.heap.objs.size hSf s.heap ?hn ?hw keys hn hb hkey (items.size - 0) 0 _ (by omega) (r9 _)
     ⟨⟨_,l5 _ rfl,rfl,rfl⟩,(hl1.push _)⟩ (fun b o e=>a7 _ (a7 _ e)) ?hS0 ?hR
    case hu=>show A.units+1+1+1<ao1;omega
    case hn=>exact av9 (c6 _)
    case hw =>
     intro b hb
     have e:b=(s.heap.push { cls:=.type "set",dict:=none,data:=.set #[] 0 (.fresh 0 0 led) }).objs.size:=by simpa using hb
     rw[e]
     exact av9 (by rw[N0];exact Y1 _)
    case hS0 =>
     have hget:((s.heap.push { cls:=.type "set",dict:=none,data:=.set #[] 0 (.fresh 0 0 led) }).push { cls:=.type "list_iterator",data:=.fields #[.ref l,.int 0 0] }).get? s.heap.objs.size
       = some { cls:=.type "set",dict:=none,data:=.set #[] 0 (.fresh 0 0 led) }:=a7 _ hS
     refine⟨_,_,_,_,hget,⟨rfl,rfl,rfl⟩,rfl,⟨rfl,rfl,?_,?_,.inl rfl,by show 0*5<7*3;decide,?_⟩,rfl,List.nodup_nil,(fun _ h=>nomatch h),(fun _ h=>nomatch h),(fun _ h=>nomatch h)⟩
     ·intro i j a b hij ea
      simp[SetTable.fresh]at ea
     ·intro i j ea
      simp[SetTable.fresh]at ea
     ·intro i e ea
      simp at ea
    case hR =>
     intro s' hm hS'
     obtain⟨h',g',d',tk',os'⟩:=s'
     have eg:g'=s.gens:=hm.gens
     have ed:d'=s.drawn:=hm.drawn
     have eo:os'=s.os:=hm.os
     subst eg;subst ed;subst eo
     show v7 _ _ _ _ _ _
     refine j5 ?_
     show v7 _ _ (ret Value.none) _ _ _
     refine j5 ⟨rfl,h',tk',rfl,hS',fun b o e=>?_⟩
     have hlt:=i7 e
     have hb1:b≠s.heap.objs.size:=m6 hlt
     have hb2:b≠(s.heap.push { cls:=.type "set",dict:=none,data:=.set #[] 0 (.fresh 0 0 led) }).objs.size:=by
      rw[N0];exact m6 (E3 hlt)
     exact hm.heap b o (by simp only[c5,j8,D9,or_false,not_or];exact⟨hb1,hb2⟩) (a7 _ (a7 _ e))
   ·cases r₂ with
    | error e=>exact hr₂
    | ok fl₂ =>
     cases fl₂ with
     | ret r =>
      obtain⟨rfl,h',tk,rfl,hS',hk'⟩:=hr₂
      repeat (any_goals (first | assumption | wp_step))
      exact h _ _ hS' hk'
     | _=>exact hr₂.elim
  | _=>exact hr.elim
theorem bd0 {S:Addr}{hp:Heap}(hS:ax6 prog w hp s.heap S ks)(hn:ks.length<300)(h:∀ t tk,Q (.int ks.length t) { s with toks:=tk }) :
  v7 (t7 prog w) A (call (.builtin "len") [.ref S]) Q E s:=by
 obtain⟨o,es,ep,t,ho,hex,hd,T,hsz,_⟩:=hS
 refine call_len_set ho hex hd T.fits (by omega) ?_
 rw[hsz]
 exact h _ _
end Sett
namespace L2
open PySem PySem.Spec PyProof.Rows
def C1 (K:W.Frag)(H:Hp)(ys:List V)(ks:List (List Int)):Prop:=ab5 (fun y k=>∃ a,y=V.ref a/\SqT K H a (k.map V.int)) ys ks
theorem C1.len {K:W.Frag}(t:C1 K H ys ks):ys.length=ks.length:=Paired.length t
theorem C1.get {K:W.Frag}:∀ {ys:List V} {ks:List (List Int)} {i:Nat} {y:V},C1 K H ys ks->ys[i]?=some y->∃ a k,y=V.ref a/\ks[i]?=some k/\SqT K H a (k.map V.int)
 | _,_,_,_,.nil,e=>by simp at e
 | _,_,0,_,.cons r _,e=>by
  simp at e
  subst e
  obtain⟨a,h1,h2⟩:=r
  exact⟨a,_,h1,rfl,h2⟩
 | _,_,i+1,y,.cons _ t,e=>by
  obtain⟨a,k,h1,h2,h3⟩:=C1.get (i:=i) (y:=y) t (by simpa using e)
  exact⟨a,k,h1,by simpa using h2,h3⟩
theorem C1.same {K:W.Frag}(hs:∀ b o,H b=some o->H' b=some o):∀ {ys:List V} {ks:List (List Int)},C1 K H ys ks->C1 K H' ys ks
 | _,_,.nil=>.nil
 | _,_,.cons r t=>by
  obtain⟨a,h1,h2⟩:=r
  refine .cons ⟨a,h1,?_⟩ (C1.same hs t)
  rcases h2 with(h | ⟨o,h⟩) | h
  ·exact .inl (.inl (hs _ _ h))
  ·exact .inl (.inr ⟨o,hs _ _ h⟩)
  ·exact .inr h
theorem C1.append {K:W.Frag}:∀ {ys zs:List V} {ks ls:List (List Int)},C1 K H ys ks->C1 K H zs ls->C1 K H (ys++zs) (ks++ls)
 | _,_,_,_,.nil,s=>s
 | _,_,_,_,.cons r t,s=>.cons r (C1.append t s)
theorem aV4:∀ {k:List Int} {its:List Value},B7 (k.map V.int) its->ItemsAre (A8 prog w) k its
 | [],_,.nil=>.nil
 | i::k,_,.cons r t=>by
  obtain⟨tk,rfl⟩:=r
  exact .cons (by simp[A8,Value.isInt]) (aV4 t)
theorem bG8 (I:Inv X pins σ H s)(h:SqT X.K H a (k.map V.int)):J9 (A8 X.prog X.w) s.heap k a:=by
 obtain⟨its,r,⟨o,ho,hc,n,hd⟩,_⟩:=I.tuple h
 exact⟨o,its.toArray,n,ho,hc,hd,by simpa using aV4 r⟩
theorem ac5 (I:Inv X pins σ H s):∀ {ys:List V} {ks:List (List Int)} {us:List Value},C1 X.K H ys ks->B7 ys us->ab5 (fun u k=>∃ a,u=Value.ref a/\J9 (A8 X.prog X.w) s.heap k a) us ks
 | _,_,_,.nil,.nil=>.nil
 | _,_,_,.cons r t,.cons q v=>by
  obtain⟨a,rfl,h⟩:=r
  cases q
  exact .cons ⟨a,rfl,bG8 I h⟩ (ac5 I t v)
theorem af2 {α β:Type}{R:α->β->Prop}:∀ {l:List α} {m:List β} {i:Nat} {x:α},ab5 R l m->l[i]?=some x->∃ y,m[i]?=some y/\R x y
 | _,_,_,_,.nil,e=>by simp at e
 | _,_,0,_,.cons r _,e=>by simp at e;subst e;exact⟨_,rfl,r⟩
 | _,_,i+1,x,.cons _ t,e=>by
  obtain⟨y,h1,h2⟩:=af2 (i:=i) (x:=x) t (by simpa using e)
  exact⟨y,by simpa using h1,h2⟩
theorem aw4 {α β:Type}{R:α->β->Prop}{l l':List α}(p:l'.Perm l):∀ {m:List β},ab5 R l m->∃ m',m'.Perm m/\ab5 R l' m':=by
 induction p with
 | nil=>intro m h;exact⟨m,List.Perm.refl _,h⟩
 | cons x _ ih =>
  intro m h
  cases h with
  | cons r t =>
   obtain⟨m',p',h'⟩:=ih t
   exact⟨_::m',p'.cons _,.cons r h'⟩
 | swap x y l =>
  intro m h
  cases h with
  | cons r t =>
   cases t with
   | cons r' t'=>exact⟨_::_::_,List.Perm.swap _ _ _,.cons r' (.cons r t')⟩
 | trans _ _ ih1 ih2 =>
  intro m h
  obtain⟨m1,p1,h1⟩:=ih2 h
  obtain⟨m2,p2,h2⟩:=ih1 h1
  exact⟨m2,p2.trans p1,h2⟩
theorem aj2 {α β:Type}{R:α->β->Prop}:∀ {l:List α} {m:List β},ab5 R l m->ab5 (fun b a=>R a b) m l
 | _,_,.nil=>.nil
 | _,_,.cons r t=>.cons r (aj2 t)
theorem aC0 {α β:Type}{R S:α->β->Prop}(f:∀ a b,R a b->S a b):∀ {l:List α} {m:List β},ab5 R l m->ab5 S l m
 | _,_,.nil=>.nil
 | _,_,.cons r t=>.cons (f _ _ r) (aC0 f t)
theorem aw8:S7 X (.builtin "sorted") (fun xs H Q=>∃ p ys ks,xs=[.ref p]/\SqL X.K H p ys/\C1 X.K H ys ks/\(∀ k∈ks,k≠[]) /\
  ∀ l zs ks',H l=none->ks'.Perm ks->ks'.Pairwise (fun a b=>Tim.L9 b a=false)->C1 X.K (upd H l (.lst zs)) zs ks'->Q (.ref l) (upd H l (.lst zs))):=by
 intro pins s σ H xs us Q I r h
 obtain⟨p,ys,ks,rfl,hq,ht,hne,q⟩:=h
 obtain⟨u,rfl,rx⟩:=vals1 r
 cases rx
 obtain⟨its,r',pl,hz⟩:=I.list hq
 have hlen:=r'.length
 have hk:=ac5 I ht r'
 have hv:∀ v∈its,∃ i k,Tim.IsK X.prog X.w s.heap (i::k) v:=fun v hv=>by
  obtain⟨j,hj⟩:=o5.mp hv
  obtain⟨k,h1,a,rfl,h2⟩:=af2 hk hj
  cases k with
  | nil=>exact absurd rfl (hne [] (b9 h1))
  | cons i k=>exact⟨i,k,a,rfl,h2⟩
 refine Tim.aH0 pl.isList (by omega) hv fun out h' n hp hs kp e=>?_
 obtain⟨zs,pz,rz⟩:=aw4 hp (aj2 r')
 have rz':B7 zs out:=aj2 rz
 have hzl:zs.length<=d8:=by rw[pz.length_eq];exact hz
 have hfr:H (s.heap.objs.size+1)=none:=I.hok.fresh (Y1 _)
 have keepS:∀ b o,H b=some o->upd H (s.heap.objs.size+1) (.lst zs) b=some o:=fun b o e=>by rw[x8 (y7 e hfr)];exact e
 refine⟨.ref (s.heap.objs.size+1),upd H (s.heap.objs.size+1) (.lst zs),I.laid (t':=s.toks) kp (Y1 _) (show O0 X.prog X.w _ h' _ (.lst zs) from ⟨hzl,out,n,rz',e⟩),rfl,?_⟩
 obtain⟨ks',pk,hk'⟩:=aw4 pz (show ab5 (fun y k=>∃ a,y=V.ref a/\SqT X.K H a (k.map V.int)) ys ks from ht)
 refine q _ zs ks' hfr pk ?_ (C1.same keepS hk')
 have hko:=ac5 I (show C1 X.K H zs ks' from hk') rz'
 have eq:ks'=out.map (Tim.V0 X.prog X.w s.heap):=by
  clear hs hp rz rz' hk' pk e
  induction hko with
  | nil=>rfl
  | cons r t ih =>
   obtain⟨a,rfl,hka⟩:=r
   rw[n6,Tim.U3 ⟨a,rfl,hka⟩,<- ih]
 rw[eq,K3]
 exact hs
def be6 (P:Program)(w:World)(S:Addr)(n:Nat):HO:=.ext fun h=>∃ hk ks,ks.length=n/\n<300/\Sett.ax6 P w hk h S ks
theorem aX7 (hc:X.calm=true)(hu:X.A.units+8<ao1):S7 X (.type "set") (fun xs H Q=>∃ p ys ks,xs=[.ref p]/\SqL X.K H p ys/\C1 X.K H ys ks/\(∀ k∈ks,Sett.aw9 k)/\ks.length<300 /\
  ∀ S,H S=none->Q (.ref S) (upd H S (be6 X.prog X.w S (ks.foldl Sett.X4 []).length))):=by
 intro pins s σ H xs us Q I r h
 obtain⟨p,ys,ks,rfl,hq,ht,hok,hb,q⟩:=h
 obtain⟨u,rfl,rx⟩:=vals1 r
 cases rx
 obtain⟨its,r',pl,hz⟩:=I.list hq
 have hlen:=r'.length
 have hk:=ac5 I ht r'
 have hkl:=ht.len
 refine Sett.aR6 (keys:=ks) (I.ok.hd hc) hu pl.isList (by simp;omega) (by simp;omega) (fun i v hv=>?_) fun h' tk hS kp=>?_
 ·obtain⟨k,h1,a,rfl,h2⟩:=af2 hk (by simpa using hv)
  exact⟨a,k,rfl,h1,hok k (b9 h1),h2⟩
 ·have hle:=Sett.ay9 ks []
  simp only[ad7]at hle
  refine⟨.ref s.heap.objs.size,_,I.laid (o:=be6 X.prog X.w s.heap.objs.size (ks.foldl Sett.X4 []).length) (t':=tk) kp (c6 _) ?_,rfl,q _ (I.hok.fresh (c6 _))⟩
  refine⟨⟨s.heap,ks.foldl Sett.X4 [],rfl,by omega,hS⟩,?_,fun h1 h2 ⟨hk1,ks1,e1,e2,hS1⟩ hkeep=>⟨hk1,ks1,e1,e2,?_⟩⟩
  ·obtain⟨o,_,_,_,ho,_⟩:=hS
   exact⟨o,ho⟩
  ·obtain⟨o,es,ep,t,ho,rest⟩:=hS1
   exact⟨o,es,ep,t,hkeep o ho,rest⟩
theorem call_len_set:S7 X (.builtin "len") (fun xs H Q=>∃ S n,xs=[.ref S]/\H S=some (be6 X.prog X.w S n)/\Q (.int n) H):=by
 intro pins s σ H xs us Q I r h
 obtain⟨S,n,rfl,hS,q⟩:=h
 obtain⟨u,rfl,rx⟩:=vals1 r
 cases rx
 obtain⟨⟨hk,ks,e1,e2,hS1⟩,_⟩:=I.hok S _ hS
 refine Sett.bd0 hS1 (by omega) fun t tk=>?_
 exact⟨.int n,H,I.tok _,⟨t,by rw[e1]⟩,q⟩
def B3 (X:Cx)(scope:Scope)(cl:List (Str × Addr))(N':List Str)(s₃:Shared)(H₃:Hp)(fp:List Addr)(xe':Value->Shared->Prop):Cx:=
 { X with N:=N',s₀:=s₃,H₀:=H₃,env:=N3 scope cl s₃.heap.objs.size X.env,outer:=X.stack,ex:=fp,fn:=fun _=>false,pn:=[],xe:=xe' }
def av8 (env:Env):List (Str × Addr)->Prop
 | []=>True
 | (x,c)::r=>env.cells.lookup x=some c/\av8 env r
theorem av8.get {env:Env}:∀ {cl:List (Str × Addr)} {x:Str} {c:Addr},av8 env cl->cl.lookup x=some c->env.cells.lookup x=some c
 | [],_,_,_,h=>by cases h
 | (y,d)::r,x,c,⟨h1,h2⟩,h=>by
  rw[cf4]at h
  cases e:x == y with
  | true =>
   rw[e]at h
   cases h
   rw[eq_of_beq e]
   exact h1
  | false =>
   rw[e]at h
   exact av8.get h2 h
def ap7 (names:List (Str × aL2))(cl:List (Str × Addr)):Bool:=names.all fun y=>y.2 != .cell && (y.2 != .free || (cl.lookup y.1).isSome)
theorem Y4 {env:Env}:∀ {names:List (Str × aL2)} {x:Str} {k:aL2},(names.map fun(n,k)=>if (k == NameKind.free && env.scope.kind == .function && env.kindOf n == some .cell) then (n,NameKind.cell) else (n,k)).lookup x=some k ->
  ∃ k',(x,k')∈names/\(k'=k\/(k'=.free/\k=.cell))
 | [],_,_,h=>by cases h
 | (n,k0)::r,x,k,h=>by
  rw[n6]at h
  have hn:∀ k1,(List.lookup x ((n,k1)::r.map fun(n,k)=>if (k == NameKind.free && env.scope.kind == .function && env.kindOf n == some .cell) then (n,NameKind.cell) else (n,k)))=some k->(x=n/\k1=k)\/∃ k',(x,k')∈r/\(k'=k\/(k'=.free/\k=.cell)):=fun k1 h=>by
   rw[cf4]at h
   cases e:x == n with
   | true=>rw[e]at h;cases h;exact .inl ⟨eq_of_beq e,rfl⟩
   | false=>rw[e]at h;exact .inr (Y4 h)
  dsimp only at h
  by_cases hc:(k0 == NameKind.free && env.scope.kind == .function && env.kindOf n == some .cell)=true
  ·rw[if_pos hc]at h
   rcases hn _ h with⟨rfl,rfl⟩ | ⟨k',h1,h2⟩
   ·simp only[n8]at hc
    have e0:k0=.free:=eq_of_beq hc.1.1
    exact⟨k0,c7,.inr ⟨e0,rfl⟩⟩
   ·exact⟨k',b8 _ h1,h2⟩
  ·rw[if_neg hc]at h
   rcases hn _ h with⟨rfl,rfl⟩ | ⟨k',h1,h2⟩
   ·exact⟨k0,c7,.inl rfl⟩
   ·exact⟨k',b8 _ h1,h2⟩
def ac0 (lk:List (Option Nat))(σ:St):St:=lk.map fun o=>o.bind fun j=>(σ[j]?).join
def be9 (X:Cx)(N':List Str)(lk:List (Option Nat))(scope:Scope)(cl:List (Str × Addr)):Prop:=
 lk.length=N'.length/\∀ (i j:Nat) (x:Str),N'[i]?=some x->lk[i]?=some (some j)->X.N[j]?=some x/\(X.env.scope.names.lookup x=some .cell\/X.env.scope.names.lookup x=some .free)/\(cl.lookup x).isSome=true /\
  ((N3 scope cl 0 X.env).kindOf x=some .cell\/(N3 scope cl 0 X.env).kindOf x=some .free)
theorem ap4 {H3:Hp}{s3:Shared}{h1:Heap}{tk:Nat}{xe':Value->Shared->Prop}{m0:Str->Option Value}
  (I:Inv X pins σ H3 s3)(hf:∀ b∈fp,P1 X pins H3 b)(hkind:scope.kind=.function)(hcl:av8 X.env cl)(hfr:ap7 scope.names cl=true)(hlk:be9 X N' lk scope cl)
  (hn:h1.Ns s3.heap.objs.size m0)(hk:∀ b u,s3.heap.get? b=some u->h1.get? b=some u)(hfs:∀ b∈fp,b<s3.heap.objs.size):Inv (B3 X scope cl N' s3 H3 fp xe') [] (ac0 lk σ) H3 { s3 with heap:=h1,toks:=tk }:=by
 have hC:H3 s3.heap.objs.size=none:=I.hok.fresh (c6 _)
 have hmem:∀ y∈scope.names,y.2≠.cell/\(y.2=.free->(cl.lookup y.1).isSome=true):=fun y hy=>by
  unfold ap7 at hfr
  rw[A6]at hfr
  have:=hfr y hy
  rw[n8]at this
  refine⟨by simpa using this.1,fun e=>?_⟩
  have h2:=this.2
  rw[e]at h2
  simpa using h2
 have hcell:∀ x c,cl.lookup x=some c->X.env.cells.lookup x=some c:=fun x c e=>hcl.get e
 have clt:∀ x c,cl.lookup x=some c->c<s3.heap.objs.size:=fun x c e=>by
  obtain⟨v,q⟩:=I.cell x c (hcell x c e)
  exact q.lt
 refine⟨⟨I.ok.mod,hkind,I.ok.glob,I.ok.blt,c6 _,fun x y c e1 e2=>I.ok.inj x y c (hcell x c e1) (hcell y c e2),fun x hx=>?_,(fun x c e=>by cases e),I.ok.hd,I.ok.frames,.inl rfl,fun b hb=>?_,fun b o e=>I.bs b o e,t9 I.ok.bsz I.sz,fun b o e hb=>?_,fun b hb z=>?_,I.stack,I.stkFree⟩,
  rfl,I.bare,Un.kept hk,⟨m0,hn,fun i x v e1 e2 e3=>?_⟩,fun x c e=>?_,hC,fun x c e=>?_,(fun p hp=>nomatch hp),I.hok.kept hk,?_⟩
 ·have hx':(relabel scope X.env).names.lookup x=some .cell\/(relabel scope X.env).names.lookup x=some .free:=hx
  have:∃ k',(x,k')∈scope.names/\k'=.free:=by
   rcases hx' with h | h
   ·obtain⟨k',h1,h2⟩:=Y4 h
    rcases h2 with h2 | h2
    ·exact absurd h2 (hmem _ h1).1
    ·exact⟨k',h1,h2.1⟩
   ·obtain⟨k',h1,h2⟩:=Y4 h
    rcases h2 with h2 | h2
    ·exact⟨k',h1,h2⟩
    ·exact⟨k',h1,h2.1⟩
  obtain⟨k',h1,h2⟩:=this
  exact B8.mp ((hmem _ h1).2 h2)
 ·obtain⟨f0,f1,f2,f3,f4,f5⟩:=hf b hb
  exact⟨m6 (hfs b hb),fun x c e=>f4 x c (hcell x c e)⟩
 ·obtain⟨f0,f1,f2,f3,f4,f5⟩:=hf b hb
  rcases f3 with f3 | f3
  ·exact I.ok.noex b o e f3
  ·exact absurd (o4 (i7 e) (t9 I.ok.bsz f3)) (E2 _)
 ·obtain⟨f0,f1,f2,f3,f4,f5⟩:=hf b hb
  rcases c5.mp (I.stkSub b z) with e | e
  ·exact f1 e
  ·exact f2 e
 ·-- a captured name
  have e2':(ac0 lk σ)[i]?=some (some v):=e2
  unfold ac0 at e2'
  rw[o6]at e2'
  cases hq:lk[i]? with
  | none=>rw[hq]at e2';cases e2'
  | some o =>
   rw[hq]at e2'
   have e2'':(o.bind fun j=>(σ[j]?).join)=some v:=Option.some.inj e2'
   cases o with
   | none=>cases e2''
   | some j =>
    obtain⟨q1,q2,q3,q4⟩:=hlk.2 i j x e1 hq
    have hσ:σ[j]?=some (some v):=by
     have z:(σ[j]?).join=some v:=e2''
     cases hh:σ[j]? with
     | none=>rw[hh]at z;cases z
     | some o=>rw[hh]at z;rw[show o=some v from z]
    obtain⟨m,hnX,hl⟩:=I.loc
    obtain⟨u,r,lo⟩:=hl j x v q1 hσ (q2.elim (fun a=>.inr (.inl a)) (fun a=>.inr (.inr a)))
    refine⟨u,r,.inr ?_⟩
    obtain⟨c,hc⟩:=B8.mp q3
    refine⟨q4,c,hc,?_⟩
    have hcX:=hcell x c hc
    rcases lo with⟨k,_⟩ | ⟨_,c',hc',z⟩
    ·have k':X.env.scope.names.lookup x=some .local:=k
     rw[k']at q2
     rcases q2 with q2 | q2<;>cases q2
    ·rw[hcX]at hc'
     cases hc'
     obtain⟨o,ho,hd⟩:=z
     exact⟨o,hk c o ho,hd⟩
 ·obtain⟨v,o,ho,hd⟩:=I.cell x c (hcell x c e)
  exact⟨v,o,hk c o ho,hd⟩
 ·exact I.freeC x c (hcell x c e)
 ·show (ac0 lk σ).length=N'.length
  unfold ac0
  rw[a5]
  exact hlk.1
def PTs (X:Cx)(ifs:List Expr)(t:TT):Prop:=
 ∀ (pins:List (Addr × Obj)) (s:Shared) (σ:St) (H:Hp) (Q:Bool->Hp->Prop),Inv X pins σ H s->t σ H Q->v7 (t7 X.prog X.w) X.A (forIn ifs true fun c r=>if r=true then do let ok <- isTrue c X.env (eval c X.env);pure (ForInStep.yield ok) else pure (ForInStep.yield r)) (TP X pins σ Q) X.xe s
def bP9:TT:=fun _ H Q=>Q true H
theorem P2:PTs X [] bP9:=fun pins s σ H Q I h=>wpAny_tests_nil ⟨H,I,h⟩
theorem al2 {c:Expr}{t:TT}(h:PT X c t):PTs X [c] t:=fun pins s σ H Q I q=>wpAny_tests_one (h pins s σ H Q I q)
def aR1 (wi:TI)(lk:List (Option Nat))(g:TG)(tt:TT)(te:TE):TE:=fun σ H Q=>wi σ H fun J H1=>∀ D,H1 D=none->∃ W:Nat->Nat->List V->St->Hp->Prop,(∃ m,W 0 m [] (ac0 lk σ) (upd H1 D (.lst [])))/\∀ i m xs σ' H',W i m xs σ' H' ->
 H' D=some (.lst xs)/\((J.stop i H'/\Q (.ref D) H')\/(J.go i H'/\xs.length<d8/\∀ x H'',J.yld i H' x H''->g x σ' H'' fun σ2 H2=>tt σ2 H2 fun b H3 =>
  if b=true then te σ2 H3 fun v H4=>H4 D=some (.lst xs)/\∃ m',m'<m/\W (i+1) m' (xs++[v]) σ2 (upd H4 D (.lst (xs++[v]))) else ∃ m',m'<m/\W (i+1) m' xs σ2 H3))
theorem N4 {elt iter:Expr}{wi:TI}{g:TG}{tt:TT}(hc:X.calm=true)(hi:PI X tg iter wi)(hclos:ao4 scope X.env=pure cl)(hkind:scope.kind=.function)
  (hnames:∀ y∈scope.names,y.2=.local->scope.names.lookup y.1=some .local)(hcl:av8 X.env cl)(hfr:ap7 scope.names cl=true)(hlk:be9 X N' lk scope cl)
  (hg:∀ s3 H3 fp,PG (B3 X scope cl N' s3 H3 fp fun _ _=>False) tg g)(ht:∀ s3 H3 fp,PTs (B3 X scope cl N' s3 H3 fp fun _ _=>False) ifs tt)(he:∀ s3 H3 fp,PE (B3 X scope cl N' s3 H3 fp fun _ _=>False) elt te)
  (hs:∀ x,T7 iter X.env x=pure x:=by intro _;rfl):PE X (.ListComp elt [⟨tg,iter,ifs,0⟩] scope pos) (aR1 wi lk g tt te):=by
 intro pins s σ H Q I h
 rw[eval_ListComp]
 have hcellN:∀ y∈scope.names,y.2≠.cell:=fun y hy=>by
  unfold ap7 at hfr
  rw[A6]at hfr
  have:=hfr y hy
  rw[n8]at this
  simpa using this.1
 refine ao5 (use:=none) rfl hs hclos hkind hnames (thn (hi pins s σ H _ I h) fun v s1 h1=>thn h1 fun itv s2 h2=>?_)
 obtain⟨it,fp,tn,J,H2,e,I2,T,st2,f2,q⟩:=h2
 subst e
 refine T8 ?_ (r9 _)
 have hD:H2 s2.heap.objs.size=none:=I2.hok.fresh (c6 _)
 have I3:=I2.lnew (ys:=[]) (its:=[]) (t':=s2.toks) .nil (r9 _)
 obtain⟨W,⟨m0,w0⟩,turn⟩:=q s2.heap.objs.size hD
 have fpl:∀ b∈fp,b<s2.heap.objs.size:=fun b hb=>by
  obtain⟨o,ho,_⟩:=T.obj 0 s2.heap st2 b hb
  exact i7 ho
 refine ae0 hcellN (by intro y hy;cases hy) (fun h1 hns1 hsb1=>?_) hkind
 dsimp only at hns1 hsb1 ⊢
 have e3:s2.heap.push { cls:=.type "list",dict:=none,data:=.seq ([]:List Value).toArray }=s2.heap.push { cls:=.type "list",data:=.seq ([]:List Value).toArray }:=rfl
 generalize hh3:s2.heap.push { cls:=.type "list",dict:=none,data:=.seq ([]:List Value).toArray }=h3 at *
 have I3':Inv X pins σ (upd H2 s2.heap.objs.size (.lst [])) { s2 with heap:=h3,toks:=s2.toks }:=I3
 have size3:h3.objs.size=s2.heap.objs.size+1:=by rw[<- hh3,N0]
 have f3:∀ b∈fp,P1 X pins (upd H2 s2.heap.objs.size (.lst [])) b:=fun b hb=>by
  obtain⟨f0,fr⟩:=f2 b hb
  exact⟨by rw[x8 (m6 (fpl b hb))];exact f0,fr⟩
 have up:∀ b u,h3.get? b=some u->h1.get? b=some u:=fun b u eb=>by
  rw[hsb1.2 b (m6 (i7 eb))]
  exact a7 _ eb
 have I4:Inv (B3 X scope cl N' { s2 with heap:=h3,toks:=s2.toks } (upd H2 s2.heap.objs.size (.lst [])) fp fun _ _=>False) [] (ac0 lk σ) (upd H2 s2.heap.objs.size (.lst [])) { s2 with heap:=h1,toks:=s2.toks+([]:List (Str × Value)).length }:=
  ap4 (s3:={ s2 with heap:=h3,toks:=s2.toks }) I3' f3 hkind hcl hfr hlk hns1 up fun b hb=>by show b<h3.objs.size;rw[size3];exact E3 (fpl b hb)
 have st4:tn 0 h1:=T.keep 0 s2.heap h1 st2 fun b hb o eb=>up b o (by rw[<- hh3];exact a7 _ eb)
 have hCs:h3.objs.size=(N3 scope cl h3.objs.size X.env).locals:=rfl
 have stat:∀ {H':Hp},(∀ b∈fp,H' b=none)->∀ b∈fp,P1 (B3 X scope cl N' { s2 with heap:=h3,toks:=s2.toks } (upd H2 s2.heap.objs.size (.lst [])) fp fun _ _=>False) [] H' b:=fun {H'} hn b hb=>by
  obtain⟨f0,f1,f2',f3',f4,f5⟩:=f3 b hb
  refine⟨hn b hb,?_,fun z=>?_,.inl hb,fun x c ex=>f4 x c (hcl.get ex),fun p hp=>nomatch hp⟩
  ·show b≠h3.objs.size
   rw[size3]
   exact m6 (E3 (fpl b hb))
  ·rcases c5.mp (I3'.stkSub b z) with q | q
   ·exact f1 q
   ·exact f2' q
 have fin:∀ (s':Shared) (σ':St) (H':Hp),Inv (B3 X scope cl N' { s2 with heap:=h3,toks:=s2.toks } (upd H2 s2.heap.objs.size (.lst [])) fp fun _ _=>False) [] σ' H' s'->Q (.ref s2.heap.objs.size) H' ->
   aq2 (t7 X.prog X.w) X.A X.xe none (EP X pins σ Q) (.ref s2.heap.objs.size) h3.objs.size (.ok .next) s':=fun s' σ' H' I' q'=>by
  obtain⟨m,hm,_⟩:=id I'.loc
  have I5:Inv X pins σ H' s':=I3'.call' (ch:=fp) I'.os I'.base I'.hok I'.bare fun b hb=>by
   obtain⟨f0,f1,f2',f3',f4,f5⟩:=f3 b hb
   exact⟨f3',f1,f4,f5⟩
  refine⟨m,hm,fun h' hsb=>?_⟩
  refine⟨.ref s2.heap.objs.size,H',?_,rfl,q'⟩
  have hfc:H' h3.objs.size=none:=I'.free
  have hcl1:∀ b o,h3.get? b=some o->b≠h3.objs.size:=fun b o eb=>m6 (i7 eb)
  obtain⟨h0',g0,d0,t0,o0⟩:=s'
  refine I5.turned (t':=t0) (it:=h3.objs.size) (fun b o hb eb=>(hsb.2 b hb).trans eb) hfc ?_ (.inr I3'.sz) (fun x c ex z=>?_) (fun p hp z=>?_)
  ·exact V3 I3'.lt
  ·obtain⟨v',q2⟩:=I3'.cell x c ex
   exact absurd q2.lt (by rw[z];exact E2 _)
  ·exact absurd (i7 (I3'.pin p hp).1) (by rw[z];exact E2 _)
 have loop:∀ s5:Shared,s5={ s2 with heap:=h1,toks:=s2.toks+([]:List (Str × Value)).length } ->
   aG5 (t7 X.prog X.w) X.A (.compLoop (.ListComp elt [⟨tg,iter,ifs,0⟩] scope pos) 0 (.ref it) (.ref s2.heap.objs.size) (N3 scope cl h3.objs.size X.env)) (aq2 (t7 X.prog X.w) X.A X.xe none (EP X pins σ Q) (.ref s2.heap.objs.size) h3.objs.size) s5:=by
  rintro s5 rfl
  refine bT6 rfl (fun n s'=>∃ i xs σ' H',Inv (B3 X scope cl N' { s2 with heap:=h3,toks:=s2.toks } (upd H2 s2.heap.objs.size (.lst [])) fp fun _ _=>False) [] σ' H' s'/\tn i s'.heap/\(∀ b∈fp,H' b=none)/\W i n xs σ' H')
   (fun n s6 hI=>?_) m0 ⟨0,[],ac0 lk σ,_,I4,st4,fun b hb=>(f3 b hb).1,w0⟩
  obtain⟨i,xs,σ6,H6,I6,st6,fr6,w6⟩:=hI
  show v7 _ X.A ((compTurn (.ListComp elt [⟨tg,iter,ifs,0⟩] scope pos) 0 (.ref it) (.ref s2.heap.objs.size) (N3 scope cl h3.objs.size X.env)).onRaise (fun x=>do ax1 x (N3 scope cl h3.objs.size X.env);bm1 x)) _ _ s6
  refine cg3 ?_
  rw[bG1]
  refine a8 (W9 (a8 ?_))
  obtain⟨hD6,hw⟩:=turn i n xs σ6 H6 w6
  rcases hw with⟨stop,qn⟩ | ⟨go,hlen,step⟩
  ·refine thn (T.done (B3 X scope cl N' { s2 with heap:=h3,toks:=s2.toks } (upd H2 s2.heap.objs.size (.lst [])) fp fun _ _=>False) rfl rfl rfl hc i [] s6 σ6 H6 _ I6 (stat fr6) st6 stop) fun r s7 ⟨hr,I7⟩=>?_
   subst hr
   exact j5 (fin s7 σ6 H6 I7 qn)
  ·refine thn (T.item (B3 X scope cl N' { s2 with heap:=h3,toks:=s2.toks } (upd H2 s2.heap.objs.size (.lst [])) fp fun _ _=>False) rfl rfl rfl hc i [] s6 σ6 H6 _ I6 (stat fr6) st6 go) fun r s7 ⟨u,hr,h7⟩=>?_
   subst hr
   refine a8 (thn h7 fun _ s8 ⟨x,H8,I8,r8,y8,st8,fr8⟩=>?_)
   have I8':=I8.pinned (stat fr8) (T.obj _ _ st8)
   refine a8 (C6 (hg _ _ _ _ s8 σ6 H8 x u _ I8' r8 (step x H8 y8)) (fun _ s9 ⟨σ9,H9,I9,q9⟩=>?_) (fun _ _ z=>False.elim z))
   refine a8 (C6 (ht _ _ _ _ s9 σ9 H9 _ I9 q9) (fun ok s10 ⟨H10,I10,q10⟩=>?_) (fun _ _ z=>False.elim z))
   have bl3:∀ {σ':St} {H':Hp} {ys:List V} {s':Shared},Inv (B3 X scope cl N' { s2 with heap:=h3,toks:=s2.toks } (upd H2 s2.heap.objs.size (.lst [])) fp fun _ _=>False) ([]++ai9 fp s8.heap) σ' H' s'->(∃ m',m'<n/\W (i+1) m' ys σ' H') ->
     ∃ m',m'<n/\∃ i xs σ' H',Inv (B3 X scope cl N' { s2 with heap:=h3,toks:=s2.toks } (upd H2 s2.heap.objs.size (.lst [])) fp fun _ _=>False) [] σ' H' s'/\tn i s'.heap/\(∀ b∈fp,H' b=none)/\W i m' xs σ' H':=fun {σ' H' ys s'} I' ⟨m',hm,w'⟩=>by
    refine⟨m',hm,i+1,ys,σ',H',I'.unpinned,T.keep _ _ _ st8 fun b hb o eb=>(I'.pin (b,o) (j7 _ (j7 _ (N6 hb eb)))).1,fun b hb=>?_,w'⟩
    obtain⟨o,eb,_⟩:=T.obj _ _ st8 b hb
    exact(I'.pin (b,o) (j7 _ (j7 _ (N6 hb eb)))).2.1
   cases ok with
   | false =>
    have q10':∃ m',m'<n/\W (i+1) m' xs σ9 H10:=by simpa using q10
    exact j5 ⟨rfl,bl3 I10 q10'⟩
   | true =>
    rw[if_pos rfl]at q10
    refine a8 (a8 (C6 (he _ _ _ _ s10 σ9 H10 _ I10 q10) (fun y s11 ⟨v11,H11,I11,r11,hD11,q11⟩=>?_) (fun _ _ z=>False.elim z)))
    refine a8 (C6 (Y0 (X:=B3 X scope cl N' { s2 with heap:=h3,toks:=s2.toks } (upd H2 s2.heap.objs.size (.lst [])) fp fun _ _=>False) _ s11 σ9 H11 (.ref s2.heap.objs.size) [v11] (.ref s2.heap.objs.size) [y] (fun _ H'=>∃ m',m'<n/\W (i+1) m' (xs++[v11]) σ9 H') I11 rfl (.cons r11 .nil) ⟨s2.heap.objs.size,xs,v11,rfl,rfl,hD11,hlen,q11⟩) (fun _ s12 ⟨_,H12,I12,_,q12⟩=>?_) (fun _ _ z=>False.elim z))
    exact j5 (j5 ⟨rfl,bl3 I12 q12⟩)
 exact at7 (loop _ rfl) (T.self X.A 0 _ _ _ st4 (loop _ rfl))
def Itn (K:W.Frag)(a:Addr):It:=
 ⟨fun i H=>∃ xs x,SqL K H a xs/\xs[i]?=some x,fun i H x H'=>∃ t v,H t=none/\x=.ref t/\(∀ xs,SqL K H a xs->xs[i]?=some v)/\H'=upd H t (.tup [.int i,v]),fun i H=>∃ xs,SqL K H a xs/\xs.length<=i⟩
def cm9 (K:W.Frag)(ta:TA):TI:=fun σ H R=>ta σ H fun vs H1=>∃ a,vs=[.ref a]/\(∃ xs,SqL K H1 a xs)/\R (Itn K a) H1
theorem bm7 {K:W.Frag}{elts:List Expr}{x1:Nat}(a it e:Addr)(hne:e≠it):Turn P w K (.Tuple elts x1 pos) (Itn K a) [e,it] e (fun i h=>(∃ old,IsEnum h e it (i:Int) old)/\h.IsListIter it a i) where
 mem:=by simp
 obj:=fun i h st b hb=>by
  obtain⟨⟨old,he⟩,o,ho,hc,hd⟩:=st
  rcases c5.mp hb with rfl | hb
  ·exact⟨_,he,fun v z=>by cases z⟩
  ·have eb:b=it:=by simpa using hb
   subst eb
   exact⟨o,ho,fun v z=>by rw[hd]at z;cases z⟩
 keep:=fun i h h' st k=>by
  obtain⟨⟨old,he⟩,hit⟩:=st
  exact⟨⟨old,k e (by simp) _ he⟩,hit.at fun o q=>k it (by simp) o q⟩
 item:=by
  intro X hP hw hK hc i pins s σ H E I hf st hg
  subst hP hw hK
  obtain⟨xs,x,hq,hx⟩:=hg
  obtain⟨⟨old,he⟩,hit⟩:=st
  obtain⟨its,rv,p,hz⟩:=I.list hq
  obtain⟨u,hu,ru⟩:=rv.get hx
  obtain⟨f0,f1,f2,f3,f4,f5⟩:=hf e (by simp)
  obtain⟨g0,g1,g2,g3,g4,g5⟩:=hf it (by simp)
  refine wpAny_pyNext_enum_item he hit p.isList (x:=u) (by simpa using hu) hne fun h1 heo hit1 ht1 hz1 hk1=>?_
  refine⟨_,rfl,?_⟩
  refine br8 heo fun h2 he2 hs2=>?_
  have hlt:e<s.heap.objs.size:=i7 he
  have hs2':Heap.SameBut e h1 h2:=hs2
  have ht2:h2.get? s.heap.objs.size=some { cls:=.type "tuple",data:=.seq #[.int i s.toks,u] }:=(hs2'.2 _ (V3 hlt)).trans ht1
  have kp:∀ b o,b≠e->b≠it->s.heap.get? b=some o->h2.get? b=some o:=fun b o h1' h2' q=>(hs2'.2 b h1').trans (hk1 b o h1' h2' q)
  have hT:H s.heap.objs.size=none:=I.hok.fresh (c6 _)
  have nH:∀ b,H b≠none->b≠e/\b≠it:=fun b hb=>⟨fun z=>hb (z ▸ f0),fun z=>hb (z ▸ g0)⟩
  have keepH:∀ b o,H b=some o->upd H s.heap.objs.size (.tup [.int i,x]) b=some o:=fun b o q=>by rw[x8 (y7 q hT)];exact q
  have hok2:HOk X.prog X.w (upd H s.heap.objs.size (.tup [.int i,x])) h2:=fun b o eb=>by
   by_cases hb:b=s.heap.objs.size
   ·subst hb
    rw[a9]at eb
    cases eb
    exact⟨by show 2<=d8;decide,[.int i s.toks,u],.cons ⟨_,rfl⟩ (.cons ru .nil),⟨_,ht2,rfl,_,rfl⟩⟩
   ·rw[x8 hb]at eb
    refine(I.hok b o eb).stay (fun c v hcc q=>kp c v ?_ ?_ q) (fun c q=>keepH c _ q) fun c ys q=>keepH c _ q
    ·rcases hcc with z | z
     ·exact(nH c (by rw[z,eb];simp)).1
     ·exact(nH c (by rw[z];simp)).1
    ·rcases hcc with z | z
     ·exact(nH c (by rw[z,eb];simp)).2
     ·exact(nH c (by rw[z];simp)).2
  have I2:Inv X pins σ (upd H s.heap.objs.size (.tup [.int i,x])) { s with heap:=h2,toks:=s.toks+1 }:=by
   refine I.step (g':=s.gens) (d':=s.drawn) (t':=s.toks+1) (ch:=[e,it]) (fun b hb=>?_) (fun b o _ _ hcc q _=>kp b o (fun z=>hcc (by simp[z])) (fun z=>hcc (by simp[z])) q) (fun b o _ _ hcc q _=>⟨o.slots,kp b o (fun z=>hcc (by simp[z])) (fun z=>hcc (by simp[z])) q⟩) (fun b o _ q n=>?_)
    (fun b o hcc q=>⟨o,kp b o (fun z=>hcc (by simp[z])) (fun z=>hcc (by simp[z])) q⟩) (fun b ys q=>keepH b _ q) (fun b o v q=>keepH b _ q) (fun b ps q=>⟨#[],by rw[keepH b _ q];simp⟩) (fun m hm=>?_) hok2 I.bare
   ·rcases c5.mp hb with rfl | hb
    ·exact⟨f3,f1,f4,f5⟩
    ·have eb:b=it:=by simpa using hb
     subst eb
     exact⟨g3,g1,g4,g5⟩
   ·rw[x8 (m6 (i7 q))]
    exact n
   ·obtain⟨o,es,ep,ho,r⟩:=hm
    exact⟨o,es,ep,kp _ o (Ne.symm f1) (Ne.symm g1) ho,r⟩
  have hilt:it<s.heap.objs.size:=by
   obtain⟨o,ho,_⟩:=id hit
   exact i7 ho
  refine⟨.ref s.heap.objs.size,_,I2,rfl,⟨s.heap.objs.size,x,hT,rfl,fun ys hy=>by rw[I.list_inj hy hq];exact hx,rfl⟩,⟨⟨u,?_⟩,?_⟩,fun b hb=>?_⟩
  ·have:=he2
   rw[show ((i:Int)+1)=(((i+1:Nat):Int)) by simp]at this
   exact this
  ·exact hit1.at fun o q=>(hs2'.2 it (Ne.symm hne)).trans q
  ·rcases c5.mp hb with rfl | hb
   ·rw[x8 (m6 hlt)];exact f0
   ·have eb:b=it:=by simpa using hb
    subst eb
    rw[x8 (m6 hilt)]
    exact g0
 done:=by
  intro X hP hw hK hc i pins s σ H E I hf st hg
  subst hP hw hK
  obtain⟨xs,hq,hx⟩:=hg
  obtain⟨⟨old,he⟩,hit⟩:=st
  obtain⟨its,rv,p,hz⟩:=I.list hq
  obtain⟨g0,g1,g2,g3,g4,g5⟩:=hf it (by simp)
  have hl:=rv.length
  exact wpAny_pyNext_enum_end (I.ok.hd hc) he hit p.isList (by simp;omega) fun h' eb=>⟨rfl,I.turned (t':=s.toks) (fun b o hb q=>eb b o hb q) g0 g1 g3 g4 g5⟩
 self:=fun _ _ _ _ _ st h=>by
  obtain⟨⟨old,he⟩,_⟩:=st
  exact ao6 he h
theorem bJ3 {a:Expr}{ta:TA}{elts:List Expr}{x1:Nat}{tpos p:Pos}(hg:Gl X "enumerate")(hm:X.mg "enumerate"=none)(ha:PA X [a] ta)(hv:N1 "enumerate"=some (.type "enumerate"):=by rfl)(hs:B0 [a] X.env=[(false,eval a X.env)]:=by rfl) :
  PI X (.Tuple elts x1 tpos) (.Call (.Name "enumerate" p) [a] [] pos) (cm9 X.K ta):=by
 intro pins s σ H R I h
 refine Call_ (ab8 I hg hm hv (PyProof.Rows.callWith_type1 (thn (ha pos pins s σ H _ I h) fun us s1 ⟨vs,H1,I1,r1,q1⟩=>?_) hs rfl))
 obtain⟨b,e,⟨xs,hq⟩,q⟩:=q1
 subst e
 obtain⟨u,rfl,rx⟩:=vals1 r1
 cases rx
 obtain⟨its,rv,pl,hz⟩:=I1.list hq
 refine call_enumerate_list pl.isList fun h' he hit hsz kp=>?_
 refine ao6 he ?_
 have hne:s1.heap.objs.size+1≠s1.heap.objs.size:=Nat.succ_ne_self _
 refine⟨s1.heap.objs.size+1,[s1.heap.objs.size+1,s1.heap.objs.size],_,_,H1,rfl,I1.kept (t':=s1.toks) kp,bm7 b s1.heap.objs.size (s1.heap.objs.size+1) hne,⟨⟨_,he⟩,hit⟩,fun c hc=>?_,q⟩
 rcases c5.mp hc with rfl | hc
 ·exact I1.fpOk (Y1 _) (I1.hok.fresh (Y1 _))
 ·have e:c=s1.heap.objs.size:=by simpa using hc
  subst e
  exact I1.fpOk (c6 _) (I1.hok.fresh (c6 _))
theorem M3 {K:W.Frag}{D:Addr}{g:TG}{tt:TT}{σ0:St}{H0:Hp}(Pv:Nat->List V->St->Hp->Prop)(h0:Pv 0 [] σ0 H0)(hz:ys.length<=d8)(hl:∀ i xs σ H,i<=ys.length->Pv i xs σ H->SqL K H a ys/\H D=some (.lst xs)/\xs.length<=i)
  (hs:∀ i xs x σ H (N:List V->St->Hp->Prop),(∀ xs' σ' H',Pv (i+1) xs' σ' H'->N xs' σ' H')->ys[i]?=some x->Pv i xs σ H->g x σ H fun σ2 H2=>tt σ2 H2 fun b H3=>if b=true then te σ2 H3 fun v H4=>H4 D=some (.lst xs)/\N (xs++[v]) σ2 (upd H4 D (.lst (xs++[v]))) else N xs σ2 H3)
  (hd:∀ xs σ H,Pv ys.length xs σ H->Qd H) :
  ∃ W:Nat->Nat->List V->St->Hp->Prop,(∃ m,W 0 m [] σ0 H0)/\∀ i m xs σ' H',W i m xs σ' H'->H' D=some (.lst xs)/\(((Itl K a).stop i H'/\Qd H')\/((Itl K a).go i H'/\xs.length<d8/\∀ x H'',(Itl K a).yld i H' x H''->g x σ' H'' fun σ2 H2=>tt σ2 H2 fun b H3 =>
   if b=true then te σ2 H3 fun v H4=>H4 D=some (.lst xs)/\∃ m',m'<m/\W (i+1) m' (xs++[v]) σ2 (upd H4 D (.lst (xs++[v]))) else ∃ m',m'<m/\W (i+1) m' xs σ2 H3)):=by
 refine⟨fun i m xs σ H=>m=ys.length - i/\i<=ys.length/\Pv i xs σ H,⟨ys.length,by simp,r9 _,h0⟩,?_⟩
 rintro i m xs σ H ⟨rfl,hi,p⟩
 obtain⟨q,hD,hx⟩:=hl i xs σ H hi p
 refine⟨hD,?_⟩
 by_cases hlt:i<ys.length
 ·refine .inr ⟨⟨ys,ys[i],q,by simp[hlt]⟩,by omega,fun x H'' y=>?_⟩
  obtain⟨e,y⟩:=y
  subst e
  exact hs i xs x σ _ (fun zs σ' H'=>∃ m',m'<ys.length - i/\m'=ys.length - (i+1)/\i+1<=ys.length/\Pv (i+1) zs σ' H') (fun zs σ' H' r=>⟨_,by omega,rfl,hlt,r⟩) (y ys q) p
 ·have e:i=ys.length:=by omega
  subst e
  exact .inl ⟨⟨ys,q,c6 _⟩,hd xs σ H p⟩
theorem aE5 {K:W.Frag}{D:Addr}{g:TG}{tt:TT}{σ0:St}{H0:Hp}(Pv:Nat->List V->St->Hp->Prop)(h0:Pv 0 [] σ0 H0)(hz:ys.length<=d8)(hl:∀ i xs σ H,i<=ys.length->Pv i xs σ H->SqT K H a ys/\H D=some (.lst xs)/\xs.length<=i)
  (hs:∀ i xs x σ H (N:List V->St->Hp->Prop),(∀ xs' σ' H',Pv (i+1) xs' σ' H'->N xs' σ' H')->ys[i]?=some x->Pv i xs σ H->g x σ H fun σ2 H2=>tt σ2 H2 fun b H3=>if b=true then te σ2 H3 fun v H4=>H4 D=some (.lst xs)/\N (xs++[v]) σ2 (upd H4 D (.lst (xs++[v]))) else N xs σ2 H3)
  (hd:∀ xs σ H,Pv ys.length xs σ H->Qd H) :
  ∃ W:Nat->Nat->List V->St->Hp->Prop,(∃ m,W 0 m [] σ0 H0)/\∀ i m xs σ' H',W i m xs σ' H'->H' D=some (.lst xs)/\(((Itt K a).stop i H'/\Qd H')\/((Itt K a).go i H'/\xs.length<d8/\∀ x H'',(Itt K a).yld i H' x H''->g x σ' H'' fun σ2 H2=>tt σ2 H2 fun b H3 =>
   if b=true then te σ2 H3 fun v H4=>H4 D=some (.lst xs)/\∃ m',m'<m/\W (i+1) m' (xs++[v]) σ2 (upd H4 D (.lst (xs++[v]))) else ∃ m',m'<m/\W (i+1) m' xs σ2 H3)):=by
 refine⟨fun i m xs σ H=>m=ys.length - i/\i<=ys.length/\Pv i xs σ H,⟨ys.length,by simp,r9 _,h0⟩,?_⟩
 rintro i m xs σ H ⟨rfl,hi,p⟩
 obtain⟨q,hD,hx⟩:=hl i xs σ H hi p
 refine⟨hD,?_⟩
 by_cases hlt:i<ys.length
 ·refine .inr ⟨⟨ys,ys[i],q,by simp[hlt]⟩,by omega,fun x H'' y=>?_⟩
  obtain⟨e,y⟩:=y
  subst e
  exact hs i xs x σ _ (fun zs σ' H'=>∃ m',m'<ys.length - i/\m'=ys.length - (i+1)/\i+1<=ys.length/\Pv (i+1) zs σ' H') (fun zs σ' H' r=>⟨_,by omega,rfl,hlt,r⟩) (y ys q) p
 ·have e:i=ys.length:=by omega
  subst e
  exact .inl ⟨⟨ys,q,c6 _⟩,hd xs σ H p⟩
mutual
def Dt (K:W.Frag)(H:Hp):ae1->V->Prop
 | .none,v=>v=.non
 | .bool b,v=>v=.bl b
 | .int i,v=>v=.int i
 | .str x,v=>v=.str x
 | .list ds,v=>∃ a xs,v=.ref a/\SqL K H a xs/\C0 K H ds xs
 | .tuple ds,v=>∃ a xs,v=.ref a/\SqT K H a xs/\C0 K H ds xs
 | .dict _,_=>False
def C0 (K:W.Frag)(H:Hp):List ae1->List V->Prop
 | [],xs=>xs=[]
 | d::ds,xs=>∃ y ys,xs=y::ys/\Dt K H d y/\C0 K H ds ys
end
mutual
theorem Dt.reads (I:Inv X pins σ H s):∀ (d:ae1) (v:V) (u:Value),Dt X.K H d v->RelV v u->∃ as,Reads s.heap u d as
 | .none,v,u,h,r=>by unfold Dt at h;subst h;cases r;exact⟨_,.none⟩
 | .bool b,v,u,h,r=>by unfold Dt at h;subst h;cases r;exact⟨_,.bool b⟩
 | .int i,v,u,h,r=>by unfold Dt at h;subst h;obtain⟨t,rfl⟩:=r;exact⟨_,.int i t⟩
 | .str x,v,u,h,r=>by unfold Dt at h;subst h;obtain⟨t,rfl⟩:=r;exact⟨_,.str x t⟩
 | .list ds,v,u,h,r=>by
  unfold Dt at h
  obtain⟨a,xs,rfl,hq,hd⟩:=h
  cases r
  obtain⟨its,rv,⟨o,n,ho,hc,_,hdd⟩,_⟩:=I.list hq
  obtain⟨as,ra⟩:=C0.reads I ds xs its hd rv
  exact⟨_,.list ho hc hdd (by simpa using ra)⟩
 | .tuple ds,v,u,h,r=>by
  unfold Dt at h
  obtain⟨a,xs,rfl,hq,hd⟩:=h
  cases r
  obtain⟨its,rv,⟨o,ho,hc,n,hdd⟩,_⟩:=I.tuple hq
  obtain⟨as,ra⟩:=C0.reads I ds xs its hd rv
  exact⟨_,.tuple ho hc hdd (by simpa using ra)⟩
 | .dict _,v,u,h,r=>by unfold Dt at h;exact h.elim
theorem C0.reads (I:Inv X pins σ H s):∀ (ds:List ae1) (xs:List V) (us:List Value),C0 X.K H ds xs->B7 xs us->∃ as,bG2 s.heap us ds as
 | [],xs,us,h,r=>by unfold C0 at h;subst h;cases r;exact⟨_,.nil⟩
 | d::ds,xs,us,h,r=>by
  unfold C0 at h
  obtain⟨y,ys,rfl,h1,h2⟩:=h
  cases r with
  | cons q t =>
   obtain⟨as,ra⟩:=Dt.reads I d y _ h1 q
   obtain⟨bs,rb⟩:=C0.reads I ds ys _ h2 t
   exact⟨_,.cons ra rb⟩
end
mutual
theorem Dt.same {K:W.Frag}(hs:∀ b o,H b=some o->H' b=some o):∀ (d:ae1) (v:V),Dt K H d v->Dt K H' d v
 | .none,v,h=>by unfold Dt at h ⊢;exact h
 | .bool b,v,h=>by unfold Dt at h ⊢;exact h
 | .int i,v,h=>by unfold Dt at h ⊢;exact h
 | .str x,v,h=>by unfold Dt at h ⊢;exact h
 | .list ds,v,h=>by
  unfold Dt at h ⊢
  obtain⟨a,xs,rfl,hq,hd⟩:=h
  refine⟨a,xs,rfl,?_,C0.same hs ds xs hd⟩
  rcases hq with(h | ⟨o,h⟩) | h
  ·exact .inl (.inl (hs _ _ h))
  ·exact .inl (.inr ⟨o,hs _ _ h⟩)
  ·exact .inr h
 | .tuple ds,v,h=>by
  unfold Dt at h ⊢
  obtain⟨a,xs,rfl,hq,hd⟩:=h
  refine⟨a,xs,rfl,?_,C0.same hs ds xs hd⟩
  rcases hq with(h | ⟨o,h⟩) | h
  ·exact .inl (.inl (hs _ _ h))
  ·exact .inl (.inr ⟨o,hs _ _ h⟩)
  ·exact .inr h
 | .dict _,v,h=>by unfold Dt at h;exact h.elim
theorem C0.same {K:W.Frag}(hs:∀ b o,H b=some o->H' b=some o):∀ (ds:List ae1) (xs:List V),C0 K H ds xs->C0 K H' ds xs
 | [],xs,h=>by unfold C0 at h ⊢;exact h
 | d::ds,xs,h=>by
  unfold C0 at h ⊢
  obtain⟨y,ys,rfl,h1,h2⟩:=h
  exact⟨y,ys,rfl,Dt.same hs d y h1,C0.same hs ds ys h2⟩
end
def dP (k:List Int):ae1:=.tuple (k.map .int)
theorem C0.ints {K:W.Frag}:∀ (k:List Int),C0 K H (k.map PyData.int) (k.map V.int)
 | []=>by unfold C0;rfl
 | i::k=>by
  rw[n6,n6]
  unfold C0
  exact⟨_,_,rfl,by unfold Dt;rfl,C0.ints k⟩
theorem C0.tups {K:W.Frag}:∀ {ys:List V} {ks:List (List Int)},C1 K H ys ks->C0 K H (ks.map dP) ys
 | _,_,.nil=>by unfold C0;rfl
 | _,_,.cons r t=>by
  obtain⟨a,rfl,h⟩:=r
  rw[n6]
  unfold C0
  refine⟨_,_,rfl,?_,C0.tups t⟩
  unfold dP Dt
  exact⟨a,_,rfl,h,C0.ints _⟩
theorem lay_ints:∀ k:List Int,PyData.canLayAll0 (k.map .int)=true
 | []=>by simp[PyData.canLayAll0]
 | i::k=>by rw[n6];simp[PyData.canLayAll0,PyData.canLay0,lay_ints k]
theorem aJ4:∀ ks:List (List Int),PyData.canLayAll0 (ks.map dP)=true
 | []=>by simp[PyData.canLayAll0]
 | k::ks=>by rw[n6];simp[PyData.canLayAll0,PyData.canLay0,dP,lay_ints k,aJ4 ks]
theorem aE2:∀ k k':List Int,PyData.eqvAll (k.map .int) (k'.map .int)=decide (k=k')
 | [],[]=>by simp[PyData.eqvAll]
 | [],_::_=>by simp[PyData.eqvAll]
 | _::_,[]=>by simp[PyData.eqvAll]
 | i::k,j::k'=>by
  rw[n6,n6]
  simp only[PyData.eqvAll,PyData.eqv,aE2 k k']
  by_cases h:i=j
  ·subst h;simp
  ·simp[h]
theorem aE4:∀ k:List Int,PyData.depthAll (k.map .int)<=1
 | []=>by simp[PyData.depthAll]
 | i::k=>by
  have:=aE4 k
  rw[n6]
  simp only[PyData.depthAll,PyData.depth]
  omega
def cj9 (K:W.Frag)(A:Around)(neg:Bool):R2:=fun x y H Q=>∃ dx dy,Dt K H dx x/\Dt K H dy y/\dx.canLay0=true/\dy.canLay0=true/\A.units+min dx.depth dy.depth<ao1/\Q (.bl (if neg then !PyData.eqv dx dy else PyData.eqv dx dy)) H
theorem by1:OpR X (C4 .NotEq) (cj9 X.K X.A true):=by
 intro pins s σ H x y v u Q I rx ry h
 obtain⟨dx,dy,h1,h2,h3,h4,h5,q⟩:=h
 obtain⟨as,ra⟩:=h1.reads I dx x v rx
 obtain⟨bs,rb⟩:=h2.reads I dy y u ry
 exact SeqAt.compareNe_reads ra rb h3 h4 h5 ⟨.bl _,H,I,rfl,q⟩
def bb7 (K:W.Frag)(A:Around)(neg:Bool):R2:=fun x y H Q=>∃ p xs dx ds,y=.ref p/\(SqL K H p xs\/SqT K H p xs)/\Dt K H dx x/\C0 K H ds xs/\dx.canLay0=true/\PyData.canLayAll0 ds=true/\A.units+1+dx.depth<ao1 /\
 Q (.bl (if neg then !ds.any (fun d=>PyData.eqv d dx) else ds.any (fun d=>PyData.eqv d dx))) H
open Classical in
noncomputable def aO5 (h:Heap)(dx:ae1)(v:Value):Bool:=if q:∃ d as,d.canLay0=true/\Reads h v d as then PyData.eqv (Classical.choose q) dx else false
theorem aO4 {dx d:ae1}{as:List Addr}(hl:d.canLay0=true)(r:Reads h v d as):aO5 h dx v=PyData.eqv d dx:=by
 unfold aO5
 have q:∃ d as,d.canLay0=true/\Reads h v d as:=⟨d,as,hl,r⟩
 rw[dif_pos q]
 obtain⟨as',h1,h2⟩:=Classical.choose_spec q
 rw[SeqAt.Reads.unique _ _ _ _ _ h1 h2 r]
theorem aF2 {dx:ae1}:∀ {ds:List ae1} {us:List Value} {as:List Addr},PyData.canLayAll0 ds=true->bG2 h us ds as->us.any (aO5 h dx)=ds.any (fun d=>PyData.eqv d dx)
 | _,_,_,_,.nil=>rfl
 | d::ds,u::us,_,hl,.cons r t=>by
  have hl':d.canLay0=true/\PyData.canLayAll0 ds=true:=by simpa [PyData.canLayAll0] using hl
  rw[ac2,ac2,aO4 hl'.1 r,aF2 hl'.2 t]
theorem au7:∀ {ds:List ae1} {us:List Value} {as:List Addr} {u:Value},PyData.canLayAll0 ds=true->bG2 h us ds as->u∈us->∃ d as,d.canLay0=true/\Reads h u d as
 | _,_,_,_,_,.nil,hu=>by cases hu
 | d::ds,_::us,_,u,hl,.cons r t,hu=>by
  have hl':d.canLay0=true/\PyData.canLayAll0 ds=true:=by simpa [PyData.canLayAll0] using hl
  rcases c5.mp hu with rfl | hu
  ·exact⟨d,_,hl'.1,r⟩
  ·exact au7 hl'.2 t hu
theorem by2:OpR X (C4 .In) (bb7 X.K X.A false):=by
 intro pins s σ H x y v u Q I rx ry h
 obtain⟨p,xs,dx,ds,rfl,hq,h1,h2,h3,h4,h5,q⟩:=h
 cases ry
 obtain⟨bs,rb⟩:=h1.reads I dx x v rx
 have he:∀ (its:List Value) (as:List Addr),bG2 s.heap its ds as->∀ y,y∈its.toArray->SeqAt.EqAt X.A.in1 s y v (aO5 s.heap dx y):=fun its as ra y hy=>by
  obtain⟨d,cs,hl,rd⟩:=au7 h4 ra (by simpa using hy)
  rw[aO4 hl rd]
  refine SeqAt.eqAt_reads d dx X.A.in1 s y v cs bs rd rb hl h3 ?_
  show X.A.units+1+min d.depth dx.depth<ao1
  omega
 rcases hq with hq | hq
 ·obtain⟨its,rv,pl,hz⟩:=I.list hq
  obtain⟨as,ra⟩:=h2.reads I ds xs its rv
  refine SeqAt.in_listAt (aO5 s.heap dx) pl.isList (he its as ra) ⟨.bl _,H,I,rfl,?_⟩
  rw[an7,aF2 h4 ra]
  exact q
 ·obtain⟨its,rv,pl,hz⟩:=I.tuple hq
  obtain⟨as,ra⟩:=h2.reads I ds xs its rv
  refine SeqAt.in_tupleAt (aO5 s.heap dx) pl (he its as ra) ⟨.bl _,H,I,rfl,?_⟩
  rw[an7,aF2 h4 ra]
  exact q
theorem bo1:OpR X (C4 .NotIn) (bb7 X.K X.A true):=by
 intro pins s σ H x y v u Q I rx ry h
 obtain⟨p,xs,dx,ds,rfl,hq,h1,h2,h3,h4,h5,q⟩:=h
 cases ry
 obtain⟨bs,rb⟩:=h1.reads I dx x v rx
 have he:∀ (its:List Value) (as:List Addr),bG2 s.heap its ds as->∀ y,y∈its.toArray->SeqAt.EqAt X.A.in1 s y v (aO5 s.heap dx y):=fun its as ra y hy=>by
  obtain⟨d,cs,hl,rd⟩:=au7 h4 ra (by simpa using hy)
  rw[aO4 hl rd]
  refine SeqAt.eqAt_reads d dx X.A.in1 s y v cs bs rd rb hl h3 ?_
  show X.A.units+1+min d.depth dx.depth<ao1
  omega
 rcases hq with hq | hq
 ·obtain⟨its,rv,pl,hz⟩:=I.list hq
  obtain⟨as,ra⟩:=h2.reads I ds xs its rv
  refine SeqAt.notIn_listAt (aO5 s.heap dx) pl.isList (he its as ra) ⟨.bl _,H,I,rfl,?_⟩
  rw[an7,aF2 h4 ra]
  exact q
 ·obtain⟨its,rv,pl,hz⟩:=I.tuple hq
  obtain⟨as,ra⟩:=h2.reads I ds xs its rv
  refine SeqAt.notIn_tupleAt (aO5 s.heap dx) pl (he its as ra) ⟨.bl _,H,I,rfl,?_⟩
  rw[an7,aF2 h4 ra]
  exact q
theorem aX8:S7 X (.builtin "isinstance") (fun xs H Q=>∃ x c t b,xs=[x,.ty c]/\as5 X.K H x t/\PySem.W.kitOne X.K t (.type c)=some b/\Q (.bl b) H):=by
 intro pins s σ H xs us Q I r h
 obtain⟨x,c,t,b,rfl,ty,e,q⟩:=h
 obtain⟨u,v,rfl,ru,rv⟩:=r.two
 cases (show v=Value.type c from rv)
 exact bp6 I ru ty e fun tk=>⟨.bl b,H,I.tok _,rfl,q⟩
end L2
namespace L2
open PySem PySem.Spec PyProof.Rows
theorem ad2 (hc:X.calm=true):S7 X (.builtin "sum") (fun xs H Q=>∃ (p:Addr) (ns:List Int),xs=[.ref p]/\SqL X.K H p (ns.map V.int)/\Q (.int ns.sum) H):=by
 intro pins s σ H xs us Q I r h
 obtain⟨p,ns,rfl,hq,q⟩:=h
 obtain⟨u,rfl,rx⟩:=vals1 r
 cases rx
 obtain⟨its,r',pl,hz⟩:=I.list hq
 have hi:G6 its ns:=intsAre_of r'
 obtain⟨ys,e⟩:=hi.allInts.items
 refine sum_intListG (xs:=ys) (I.ok.hd hc) (by rw[<- e];exact pl.isList) fun h' tk t' hk=>⟨.int ns.sum,H,I.kept (t':=tk) hk,⟨t',?_⟩,q⟩
 have e2:numsOf (intItems ys).toList=ns:=by rw[<- e];exact hi.numsOf
 rw[nums_intItems]at e2
 rw[preSum_eq,k7 (by simp),e2]
theorem bB4:cn8 X (bX4 X.K):=by
 intro pins s σ H o i ov iv Q I ro ri h
 obtain⟨p,xs,k,z,rfl,rfl,hq,he,q⟩:=h
 cases ro
 obtain⟨t,rfl⟩:=ri
 obtain⟨its,r,pl,hz⟩:=I.list hq
 obtain⟨j,h1,h2,h3,h4,h5⟩:=az7 he
 obtain⟨w,ew,rw'⟩:=r.get h2
 have hl:=r.length
 have hn:=aj6
 have fin:EP X pins σ Q w s:=⟨z,H,I,rw',q⟩
 by_cases h0:0<=k
 ·have hj:k.toNat=j:=by
   rw[bl5 h0 h5]at h1
   exact Option.some.inj h1
  exact wpAny_getItem_list pl.isList h0 (by omega) (by rw[hj];simpa using ew) fin
 ·have hj:(k+(its.toArray.size:Int)).toNat=j:=by
   rw[aY8 (by omega) h4]at h1
   rw[d9,<- hl]
   exact Option.some.inj h1
  exact bP6 pl.isList (by omega) (by rw[d9];omega) (by omega) (by rw[hj];simpa using ew) fin
def LkL (X:Cx)(scope:Scope)(cl:List (Str × Addr)):List Str->List (Option Nat)->Prop
 | [],[]=>True
 | _::N,none::lk=>LkL X scope cl N lk
 | x::N,some j::lk=>(X.N[j]?=some x/\(X.env.scope.names.lookup x=some .cell\/X.env.scope.names.lookup x=some .free)/\(cl.lookup x).isSome=true /\
  ((N3 scope cl 0 X.env).kindOf x=some .cell\/(N3 scope cl 0 X.env).kindOf x=some .free))/\LkL X scope cl N lk
 | _,_=>False
theorem LkL.len:∀ {N:List Str} {lk:List (Option Nat)},LkL X scope cl N lk->lk.length=N.length
 | [],[],_=>rfl
 | _::N,none::lk,h=>congrArg (·+1) (LkL.len (N:=N) (lk:=lk) h)
 | _::N,some _::lk,h=>congrArg (·+1) (LkL.len (N:=N) (lk:=lk) h.2)
 | [],_::_,h=>h.elim
 | _::_,[],h=>h.elim
theorem LkL.get:∀ {N:List Str} {lk:List (Option Nat)},LkL X scope cl N lk->∀ (i j:Nat) (x:Str),N[i]?=some x->lk[i]?=some (some j) ->
  X.N[j]?=some x/\(X.env.scope.names.lookup x=some .cell\/X.env.scope.names.lookup x=some .free)/\(cl.lookup x).isSome=true/\((N3 scope cl 0 X.env).kindOf x=some .cell\/(N3 scope cl 0 X.env).kindOf x=some .free)
 | [],[],_,i,j,x,h1,_=>by simp at h1
 | _::N,none::lk,h,0,j,x,h1,h2=>by simp at h2
 | _::N,none::lk,h,i+1,j,x,h1,h2=>LkL.get (N:=N) (lk:=lk) h i j x (by simpa using h1) (by simpa using h2)
 | y::N,some k::lk,h,0,j,x,h1,h2=>by
  simp at h1 h2
  subst h1 h2
  exact h.1
 | _::N,some _::lk,h,i+1,j,x,h1,h2=>LkL.get (N:=N) (lk:=lk) h.2 i j x (by simpa using h1) (by simpa using h2)
 | [],_::_,h,_,_,_,_,_=>h.elim
 | _::_,[],h,_,_,_,_,_=>h.elim
theorem LkL.ok (h:LkL X scope cl N lk):be9 X N lk scope cl:=⟨h.len,h.get⟩
theorem K5 {A B:Hp->Prop}(h:A H):bP9 σ H (fun b H3=>if b=true then A H3 else B H3):=by
 show if true=true then A H else B H
 exact E7 h
theorem A2 {v:V}{Q:St->Hp->Prop}(h:Q (σ.set i (some v)) H):aW4 i v σ H Q:=h
theorem SqT.updL {K:W.Frag}{zs:List V}(h:SqT K H a ys)(hl:H l=some (.lst xs)):SqT K (upd H l (.lst zs)) a ys:=by
 rcases h with(h | ⟨o,h⟩) | h
 ·exact .inl (.inl (by rw[x8 (bR8 h hl (by intro z;cases z))];exact h))
 ·exact .inl (.inr ⟨o,by rw[x8 (bR8 h hl (by intro z;cases z))];exact h⟩)
 ·exact .inr h
theorem C1.updL {K:W.Frag}{zs:List V}(hl:H l=some (.lst xs)):∀ {ys:List V} {ks:List (List Int)},C1 K H ys ks->C1 K (upd H l (.lst zs)) ys ks
 | _,_,.nil=>.nil
 | _,_,.cons r t=>by
  obtain⟨a,h1,h2⟩:=r
  exact .cons ⟨a,h1,h2.updL hl⟩ (C1.updL hl t)
theorem C1.one {K:W.Frag}(h:SqT K H a (k.map V.int)):C1 K H [.ref a] [k]:=.cons ⟨a,rfl,h⟩ .nil
theorem p8.seqT {K:W.Frag}(e:p8 H H')(h:SqT K H a xs):SqT K H' a xs:=by
 rcases h with(h | ⟨o,h⟩) | h
 ·exact .inl (.inl (e _ _ h))
 ·exact .inl (.inr ⟨o,e _ _ h⟩)
 ·exact .inr h
theorem p8.tups {K:W.Frag}(e:p8 H H')(h:C1 K H ys ks):C1 K H' ys ks:=C1.same e h
theorem p8.upd {o:HO}(e:p8 H H')(h:H l=none):p8 H (upd H' l o):=fun b u q=>by
 rw[x8 (y7 q h)]
 exact e b u q
end L2
namespace L2
open PySem
theorem av3 (xs:List V)(k:Nat):as1 xs (some (k:Int)) none=xs.drop k:=by
 unfold as1
 rw[HT.bh0,HT.aS7]
 rcases Nat.le_total k xs.length with h | h
 ·rw[aZ1 h]
  exact k7 (by rw[A1];omega)
 ·rw[Nat.min_eq_right h,bs0 h,bs0 (c6 _)]
  simp
theorem bk5 (xs:List V)(k:Nat):as1 xs none (some (k:Int))=xs.take k:=by
 unfold as1
 rw[HT.bh0,HT.aS7,bf1,Nat.sub_zero]
 rcases Nat.le_total k xs.length with h | h
 ·rw[aZ1 h]
 ·rw[Nat.min_eq_right h,k7 h,k7 (c6 _)]
theorem aO7 (K:W.Frag)(hK:X.K=K):S7 X (.builtin "isinstance") (fun xs H Q=>∃ x c t b,xs=[x,.ty c]/\as5 K H x t/\PySem.W.kitOne K t (.type c)=some b/\Q (.bl b) H):=by
 subst hK
 exact aX8
theorem aL6 {u d:Nat}(h:u+64<ao1)(hd:d<=60):u+1+d<ao1:=by omega
theorem bP8 {u d:Nat}(h:u+64<ao1)(hd:d<=64):u+d<ao1:=by omega
theorem Dt.mkInt {K:W.Frag}{i:Int}:Dt K H (.int i) (.int i):=by unfold Dt;rfl
theorem Dt.mkL {K:W.Frag}{ds:List ae1}(h:SqL K H a xs)(d:C0 K H ds xs):Dt K H (.list ds) (.ref a):=by unfold Dt;exact⟨a,xs,rfl,h,d⟩
theorem Dt.mkT {K:W.Frag}{ds:List ae1}(h:SqT K H a xs)(d:C0 K H ds xs):Dt K H (.tuple ds) (.ref a):=by unfold Dt;exact⟨a,xs,rfl,h,d⟩
theorem C0.mkN {K:W.Frag}:C0 K H [] []:=by unfold C0;rfl
theorem C0.mkC {K:W.Frag}{d:ae1}{x:V}{ds:List ae1}(h:Dt K H d x)(t:C0 K H ds xs):C0 K H (d::ds) (x::xs):=by unfold C0;exact⟨x,xs,rfl,h,t⟩
theorem F4 {z:Int}{Q:St->Hp->Prop}(h:∀ c:Int,c=z->aW4 i (.int c) σ H Q):aW4 i (.int z) σ H Q:=h z rfl
theorem int_at {x:V}(h:(ns.map V.int)[i]?=some x):∃ z:Int,x=V.int z:=by
 rw[o6]at h
 cases e:ns[i]? with
 | none=>rw[e]at h;cases h
 | some z=>rw[e]at h;exact⟨z,(Option.some.inj h).symm⟩
theorem bq3 (ns:List Int)(lo hi:Option Int):∃ ms:List Int,as1 (ns.map V.int) lo hi=ms.map V.int/\ms.length<=ns.length:=by
 unfold as1
 rw[<- aF6,<- aF7]
 exact⟨_,rfl,by rw[k8,A1];omega⟩
theorem X2 (h:j<n):ixN n (j:Int)=some j:=by
 unfold ixN
 rw[if_pos (by omega),if_pos (by omega)]
 simp
theorem cc8 (a b:List Int):PyData.eqv (dP a) (dP b)=decide (a=b):=by
 unfold dP
 simp only[PyData.eqv]
 exact aE2 a b
theorem bD6 (k:List Int):∀ ks:List (List Int),(ks.map dP).any (fun d=>PyData.eqv d (dP k))=decide (k∈ks)
 | []=>by simp
 | l::ks=>by
  rw[n6,ac2,cc8,bD6 k ks]
  by_cases h:l=k
  ·subst h;simp
  ·have h':k≠l:=fun e=>h e.symm
   simp[h,h']
theorem bZ9 (k:List Int):(dP k).canLay0=true:=by simp[dP,PyData.canLay0,lay_ints]
theorem cd1 (k:List Int):(dP k).depth<=2:=by
 have:=aE4 k
 simp only[dP,PyData.depth]
 omega
theorem Dt.mkP {K:W.Frag}(h:SqT K H a (k.map V.int)):Dt K H (dP k) (.ref a):=by
 unfold dP
 exact Dt.mkT h (C0.ints k)
theorem bz6 (k:List Int):(PyData.list (k.map .int)).canLay0=true:=by simp[PyData.canLay0,lay_ints]
theorem cd0 (k:List Int):(PyData.list (k.map .int)).depth<=2:=by
 have:=aE4 k
 simp only[PyData.depth]
 omega
theorem cc7 (a b:List Int):PyData.eqv (.list (a.map .int)) (.list (b.map .int))=decide (a=b):=by
 simp only[PyData.eqv]
 exact aE2 a b
theorem Dt.mkLi {K:W.Frag}(h:SqL K H a (k.map V.int)):Dt K H (.list (k.map .int)) (.ref a):=Dt.mkL h (C0.ints k)
theorem C1.dtAll {K:W.Frag}(t:C1 K H ys ks):C0 K H (ks.map dP) ys:=C0.tups t
end L2
namespace Web
open PySem L2
def am6 (i m:Nat):List (List Int):=(A5 m).map fun(d:Nat)=>([(i:Int),(i:Int)+1+(d:Int)]:List Int)
def Y3 (n:Nat):List (List Int):=(A5 n).flatMap fun i=>am6 i (n - (i+1))
def Up (n:Nat)(k:List Int):Prop:=∃ i j:Nat,i<j/\j<n/\k=[(i:Int),(j:Int)]
theorem bp0 (h:k∈Y3 n):Up n k:=by
 unfold Y3 at h
 obtain⟨i,hi,hk⟩:=cf5.mp h
 unfold am6 at hk
 obtain⟨d,hd,rfl⟩:=k9.mp hk
 rw[B1]at hi hd
 exact⟨i,i+1+d,by omega,by omega,by simp⟩
def Asc (ks:List (List Int)):Prop:=ks.Pairwise fun a b=>Tim.L9 a b=true
theorem aJ3:∀ n:Nat,n<=24->(Y3 n).length<=276:=by decide +kernel
theorem aB9 (n i:Nat):((A5 (i+1)).flatMap fun j=>am6 j (n - (j+1)))=((A5 i).flatMap fun j=>am6 j (n - (j+1)))++am6 i (n - (i+1)):=by
 rw[O6,bP0]
 simp
theorem bn3 (i m:Nat):am6 i (m+1)=am6 i m++[[(i:Int),(i:Int)+1+(m:Int)]]:=by
 unfold am6
 rw[O6,g9]
 rfl
theorem bz5 (n:Nat):∀ i:Nat,i<=n->((A5 i).flatMap fun j=>am6 j (n - (j+1))).length<=(Y3 n).length:=by
 intro i hi
 unfold Y3
 obtain⟨d,rfl⟩:=Nat.exists_eq_add_of_le hi
 rw[List.range_add,bP0,j2]
 omega
theorem br2 (h:Asc ks):ks.Nodup:=by
 refine List.Pairwise.imp ?_ h
 intro a b hab e
 subst e
 rw[Tim.ar8]at hab
 cases hab
def up:List Int->List Int
 | [a,b]=>[if b<a then b else a,if b > a then b else a]
 | k=>k
theorem Up.key (h:Up n k)(hn:n<=24):Sett.aw9 k:=by
 obtain⟨i,j,h1,h2,rfl⟩:=h
 exact⟨i,j,by omega,by omega,rfl⟩
theorem Up.len (h:Up n k):k.length=2:=by
 obtain⟨i,j,h1,h2,rfl⟩:=h
 rfl
def an6 (n:Nat)(k:List Int):Prop:=∃ i j:Nat,i<n/\j<n/\i≠j/\k=[(i:Int),(j:Int)]
theorem an6.up (h:an6 n k):Up n (up k):=by
 obtain⟨i,j,h1,h2,h3,rfl⟩:=h
 show Up n [if (j:Int)<i then (j:Int) else i,if (j:Int) > i then (j:Int) else i]
 by_cases h:i<j
 ·rw[if_neg (by omega),if_pos (by omega)]
  exact⟨i,j,h,h2,rfl⟩
 ·rw[if_pos (by omega),if_neg (by omega)]
  exact⟨j,i,by omega,h1,rfl⟩
theorem Up.ends (h:Up n k):an6 n k:=by
 obtain⟨i,j,h1,h2,rfl⟩:=h
 exact⟨i,j,by omega,h2,by omega,rfl⟩
end Web
namespace L2
open PySem
def Y7.around {k:Nat}{A:Around}(_:Y7 k A):Around:=A
theorem bh9 (K:W.Frag)(A:Around)(hK:X.K=K)(hA:X.A=A):OpR X (C4 .In) (bb7 K A false):=by subst hK hA;exact by2
theorem bc1 (K:W.Frag)(A:Around)(hK:X.K=K)(hA:X.A=A):OpR X (C4 .NotIn) (bb7 K A true):=by subst hK hA;exact bo1
end L2
namespace L2
open PySem PySem.Spec PyProof.Rows
section
variable {to:TE} {t:TA} {name:Str} {apos cpos:Pos} {T id:String}
theorem bY0 (K:W.Frag)(hK:X.K=K){te:TE}(h:PE X e (tBM X.K T r to t)):PE X e (tBM K T r to t):=by subst hK;exact h
theorem aE3 (p:Int):∀ k:List Int,(k.map PyData.int).any (fun d=>PyData.eqv d (.int p))=decide (p∈k)
 | []=>by simp
 | i::k=>by
  rw[n6,ac2,aE3 p k]
  by_cases h:i=p
  ·subst h;simp[PyData.eqv]
  ·have h':p≠i:=fun e=>h e.symm
   simp[PyData.eqv,h,h']
end
theorem bj1:∀ {vs:List Value} {n i:Nat},vs.length=n->(∀ j v,vs[j]?=some v->∃ t,v=Value.int (((i+j:Nat):Int)) t)->G6 vs ((am9 i n).map fun k:Nat=>(k:Int))
 | [],n,i,e,_=>by subst e;exact .nil
 | v::vs,0,i,e,_=>by cases e
 | v::vs,n+1,i,e,h=>by
  obtain⟨t,rfl⟩:=h 0 v rfl
  rw[List.range'_succ,n6]
  refine .cons _ t (bj1 (by simpa using e) fun j v hv=>?_)
  obtain⟨t',e'⟩:=h (j+1) v (by simpa using hv)
  exact⟨t',by rw[e'];congr 2;omega⟩
theorem aX4 {r:Addr}{t u v:Tok}{Q:List Value->Shared->Prop}(hh:A.handled=none)(hr:IsRange s.heap r 0 n 1 t u v)(hn:n<=1000)
  (h:∀ h' tk vs,(∀ b o,s.heap.get? b=some o->h'.get? b=some o)->G6 vs ((am9 0 n).map fun k:Nat=>(k:Int))->Q vs { s with heap:=h',toks:=tk }) :
  v7 (t7 prog w) A (collect (.ref r)) Q E s:=by
 unfold collect
 refine a8 (wpAny_runValue (ah3 F.entry_proto_collect ?_))
 rw[Around.under_plainId F.plain_proto_collect _]
 show v7 _ A.in1 (cg4 [] >>= fun l=>bl3 (.builtin "list.__iadd__" ⟨[l,.ref r],[]⟩)) _ _ s
 refine a8 (aQ2 ?_)
 refine j5 ⟨plainId_quiet F.plain_list_iadd _,ah3 F.entry_list_iadd ?_⟩
 rw[Around.under_plainId F.plain_list_iadd _]
 show v7 _ A.in1 (Builtin.List.listExtendWith (.ref s.heap.objs.size) (.ref r) (.ref s.heap.objs.size)) _ _ _
 have hS:(s.heap.push { cls:=.type "list",data:=.seq ([]:List Value).toArray }).get? s.heap.objs.size=some { cls:=.type "list",data:=.seq #[] }:=l5 _ rfl
 have hrs:Builtin.Range.rangeSize 0 n 1=(n:Int):=by rw[rangeSize_one];split<;>omega
 refine wpAny_extend_range (R:=fun rr s'=>match rr with
  | .ok (.ret v)=>v7 (t7 prog w) A (match v with
   | .ref a=>(do
    let o <- load a
    match o.data with
    | .seq xs _=>pure xs.toList
    | _=>ah2 "internal:collect")
   | _=>ah2 "internal:collect") Q E s'
  | .ok _=>False
  | .error e=>E e s') (s:={ s with heap:=s.heap.push { cls:=.type "list",data:=.seq ([]:List Value).toArray } }) (n:=n) hh (a7 _ hr) (small_one (by omega) (by omega) (by omega) (by omega)) hrs (by omega) s.heap.objs.size _ 0 hS fun h' tk acc' c' hk hS' hacc=>?_
 show v7 _ A (load s.heap.objs.size >>= _) _ _ _
 refine a8 (wpAny_load hS' ?_)
 refine j5 (h h' tk _ (fun b o e=>hk b o (m6 (i7 e)) (a7 _ e)) (bj1 (by rw[j9];exact hacc.1) fun j v hj=>?_))
 obtain⟨t',e⟩:=hacc.2 j v (by rw[<- d3];exact hj)
 exact⟨t',by rw[e];congr 1;omega⟩
theorem P1.to {b:Addr}(f:P1 X pins H b)(h:H' b=none):P1 X pins H' b:=⟨h,f.2⟩
theorem Inv.turn {t':Nat}{it:Addr}(I:Inv X pins σ H s)(f:P1 X pins H it)(k:∀ b o,b≠it->s.heap.get? b=some o->h'.get? b=some o):Inv X pins σ H { s with heap:=h',toks:=t' }:=
 I.turned k f.1 f.2.1 f.2.2.2.1 f.2.2.2.2.1 f.2.2.2.2.2
theorem Inv.take {t':Nat}{o:HO}(I:Inv X pins σ H s)(f:P1 X pins H a)(k:∀ b u,b≠a->s.heap.get? b=some u->h'.get? b=some u)(new:O0 X.prog X.w (upd H a o) h' a o):Inv X pins σ (upd H a o) { s with heap:=h',toks:=t' }:=by
 have hn:=f.1
 have ne:∀ b u,H b=some u->b≠a:=fun b u e=>y7 e hn
 have kp:∀ b u,H b=some u->upd H a o b=some u:=fun b u e=>by rw[x8 (ne b u e)];exact e
 refine I.step (g':=s.gens) (d':=s.drawn) (ch:=[a]) (fun b hb=>?_) (fun b u _ _ hc e _=>k b u (fun z=>hc (by simp[z])) e) (fun b u _ _ hc e _=>⟨u.slots,k b u (fun z=>hc (by simp[z])) e⟩) (fun b u hc _ n=>by rw[x8 (fun z=>hc (by simp[z]))];exact n)
  (fun b u hc e=>⟨u,k b u (fun z=>hc (by simp[z])) e⟩) (fun b xs e=>kp b _ e) (fun b u xs e=>kp b _ e) (fun b ps e=>⟨#[],by rw[kp b _ e];simp⟩) (fun m hm=>?_) (fun b u e=>?_) I.bare
 ·have e:b=a:=by simpa using hb
  subst e
  exact⟨f.2.2.2.1,f.2.1,f.2.2.2.2.1,f.2.2.2.2.2⟩
 ·obtain⟨o',es,ep,ho,r⟩:=hm
  exact⟨o',es,ep,k _ o' (Ne.symm f.2.1) ho,r⟩
 ·by_cases hb:b=a
  ·subst hb
   rw[a9]at e
   cases e
   exact new
  ·rw[x8 hb]at e
   refine(I.hok b u e).stay (fun c v hc q=>k c v ?_ q) (fun c q=>?_) fun c xs q=>?_
   ·rcases hc with z | z
    ·rw[z];exact hb
    ·exact ne c _ z
   ·exact kp _ _ q
   ·exact kp _ _ q
abbrev aO9 (X:Cx)(A:Around)(σ:St)(H:Hp)(f:Value)(key:Int->List Int)(z:Int):Prop:=∀ (t:Tok) (pins':List (Addr × Obj)) (s':Shared) (H':Hp),Inv X pins' σ H' s'->p8 H H' ->
 v7 (t7 X.prog X.w) A (call f [.int z t]) (fun u s''=>∃ k H'',u=.ref k/\H'' k=some (.tup ((key z).map V.int))/\Inv X pins' σ H'' s''/\p8 H' H'') (fun _ _=>False) s'
abbrev aP0 (X:Cx)(pins:List (Addr × Obj))(σ:St)(H:Hp)(a:Addr)(zs:List Int)(key:Int->List Int)(P:PySem.Fin->Shared->Prop):Prop:=∀ (H':Hp) (s':Shared) (out:List Value) (zs':List Int) (c:Nat),Inv X pins σ H' s'->p8 H H'->P1 X pins H' a ->
 s'.heap.get? a=some (G2 "list" out.toArray c)->G6 out zs'->zs'.Perm zs->zs'.Pairwise (fun x y=>Tim.L9 (key y) (key x)=false)->P (.done (.ret .none)) s'
theorem aD6 {key:Int->List Int}:∀ {ks vs:List Value} {zs:List Int},ab5 (fun u k=>Tim.IsK prog w h k u) ks (zs.map key)->G6 vs zs ->
  (∀ p∈ks.zip vs,Tim.IsK prog w h (key (numOf p.2)) p.1)/\(ks.zip vs).map (fun p=>numOf p.2)=zs
 | _,_,[],.nil,.nil=>⟨fun p h=>(nomatch h),rfl⟩
 | _,_,z::zs,.cons r t,.cons _ t' q=>by
  obtain⟨h1,h2⟩:=aD6 t q
  refine⟨fun p hp=>?_,by rw[W0,n6,h2];rfl⟩
  rw[W0]at hp
  rcases c5.mp hp with rfl | hp
  ·exact r
  ·exact h1 p hp
theorem aJ7:∀ {vs:List Value} {zs:List Int},G6 vs zs->∀ v∈vs,∃ t,v=.int (numOf v) t
 | _,_,.nil,v,h=>by cases h
 | _,_,.cons z t q,v,h=>by
  rcases c5.mp h with rfl | h
  ·exact⟨t,rfl⟩
  ·exact aJ7 q v h
theorem bj2:∀ {vs:List Value},(∀ v∈vs,∃ t,v=.int (numOf v) t)->G6 vs (vs.map numOf)
 | [],_=>.nil
 | v::vs,h=>by
  obtain⟨t,e⟩:=h v c7
  rw[n6]
  rw[e]
  exact .cons _ t (bj2 fun v hv=>h v (b8 _ hv))
set_option maxHeartbeats 2000000 in
theorem aV2 {kS:Addr}{keys:Array Value}{e e1:Nat}{key:Int->List Int}{P:PySem.Fin->Shared->Prop}{st:SortSt}{H0:Hp}(I:Inv X pins σ H s)(hS:p8 H0 H)(hk:s.heap.get? kS=some (G2 "list" keys e))(ha:s.heap.get? a=some (G2 "list" #[] e1))
  (fk:P1 X pins H kS)(fa:P1 X pins H a)(hka:kS≠a)(hz:vs.length<=1000)(hkl:keys.size=vs.length)(hi:G6 vs zs)
  (hK:ab5 (fun u k=>Tim.IsK X.prog X.w s.heap k u) keys.toList (zs.map key))(hp:(m8 st).Perm (keys.zip vs.toArray))(hf:N2 st=none)
  (hs:(m8 st).toList.Pairwise (Tim.le (Tim.Bf (O:=Tim.bc9) fun p=>Tim.V0 X.prog X.w s.heap p.1)))(h:aP0 X pins σ H0 a zs key P) :
  v7 (t7 X.prog X.w) A (ksk_tail a false e1 (.ref kS) st) P E s:=by
 obtain⟨k1,k2⟩:=aD6 hK hi
 have hl:(m8 st).toList.Perm (keys.toList.zip vs):=by rw[<- ksk_zip];exact L3.mp hp
 have hsz2:(m8 st).size=vs.length:=by rw[hp.size_eq,Array.size_zip,hkl,d9,Nat.min_self]
 have s1:=Heap.SameBut.update s.heap kS (Obj.mapSeq fun _=>(#[]:Array Value))
 have na1:(s.heap.update kS (Obj.mapSeq fun _=>(#[]:Array Value))).get? a=some (G2 "list" #[] e1):=(s1.2 a hka.symm).trans ha
 have hout:((m8 st).map (·.2)).size=vs.length:=by rw[ag8];exact hsz2
 have hmem:∀ v∈(m8 st).toList.map (·.2),∃ t,v=.int (numOf v) t:=fun v hv=>by
  obtain⟨p,hp',rfl⟩:=k9.mp hv
  exact aJ7 hi _ (as6 (hl.mem_iff.mp hp')).2
 unfold ksk_tail
 dsimp only
 refine a8 (ae4 hk rfl ?_ (by rw[hkl,x6];omega) (r9 _))
 refine a8 (wpAny_letGo ?_)
 refine a8 (bl8 na1 rfl ?_)
 refine a8 (ae4 na1 rfl ?_ (r9 _) (t9 (at4 hout) (by rw[x6];omega)))
 rw[hf]
 simp only[bne_self_eq_false,m5,if_false]
 have I1:Inv X pins σ H { s with heap:=s.heap.update kS (Obj.mapSeq fun _=>(#[]:Array Value)),toks:=s.toks }:=I.turn fk fun b o hb q=>(s1.2 b hb).trans q
 have s2:=Heap.SameBut.update (s.heap.update kS (Obj.mapSeq fun _=>(#[]:Array Value))) a (Obj.mapSeq fun _=>(m8 st).map (·.2))
 have I2:Inv X pins σ H { s with heap:=(s.heap.update kS (Obj.mapSeq fun _=>(#[]:Array Value))).update a (Obj.mapSeq fun _=>(m8 st).map (·.2)),toks:=s.toks }:=
  I1.turn (t':=s.toks) fa fun b o hb q=>(s2.2 b hb).trans q
 obtain⟨c2,hc2⟩:∃ c2,((s.heap.update kS (Obj.mapSeq fun _=>(#[]:Array Value))).update a (Obj.mapSeq fun _=>(m8 st).map (·.2))).get? a=some (G2 "list" ((m8 st).map (·.2)) c2):=⟨_,X0 na1 fun _=>(m8 st).map (·.2)⟩
 have eo:((m8 st).toList.map (·.2)).toArray=(m8 st).map (·.2):=by rw[<- ce2,at5]
 refine j5 (h H _ ((m8 st).toList.map (·.2)) (((m8 st).toList.map (·.2)).map numOf) c2 I2 hS fa (by rw[eo];exact hc2) (bj2 hmem) ?_ ?_)
 ·have:=hl.map fun p=>numOf p.2
  rw[k2]at this
  rw[Z0]
  exact this
 ·rw[Z0,K3]
  refine List.Pairwise.imp_of_mem ?_ hs
  intro x y hx hy hxy
  have ex:=Tim.U3 (k1 x (hl.mem_iff.mp hx))
  have ey:=Tim.U3 (k1 y (hl.mem_iff.mp hy))
  have hxy':Tim.L9 (Tim.V0 X.prog X.w s.heap y.1) (Tim.V0 X.prog X.w s.heap x.1)=false:=hxy
  rw[ex,ey]at hxy'
  exact hxy'
theorem bM9 {kS:Addr}{keys:Array Value}{e e1:Nat}{key:Int->List Int}{P:PySem.Fin->Shared->Prop}{H0:Hp}(I:Inv X pins σ H s)(hS:p8 H0 H)(hk:s.heap.get? kS=some (G2 "list" keys e))(ha:s.heap.get? a=some (G2 "list" #[] e1))
  (fk:P1 X pins H kS)(fa:P1 X pins H a)(hka:kS≠a)(hz:vs.length<=1000)(hkl:keys.size=vs.length)(hi:G6 vs zs)
  (hK:ab5 (fun u k=>Tim.IsK X.prog X.w s.heap k u) keys.toList (zs.map key))(hne:∀ z,∃ i k,key z=i::k)(h:aP0 X pins σ H0 a zs key P) :
  v7 (t7 X.prog X.w) A (ksk_end a false vs.toArray e1 (.ref kS) keys) P E s:=by
 obtain⟨k1,k2⟩:=aD6 hK hi
 have hzt:=ksk_zip keys vs
 unfold ksk_end
 dsimp only
 simp only[m5,if_false]
 by_cases h2:vs.toArray.size<2
 ·rw[if_pos h2,if_pos h2]
  refine a8 (j5 ?_)
  rw[StateT.run_pure]
  refine a8 (j5 ?_)
  refine aV2 (st:=SortSt.mk' general' (keys.zip vs.toArray) #[] 7 none) I hS hk ha fk fa hka hz hkl hi hK (Array.Perm.refl _) rfl ?_ h
  show (keys.zip vs.toArray).toList.Pairwise _
  rw[p7]
  intro i j hi hj hij
  rw[j9,Array.size_zip,hkl]at hj
  rw[d9]at h2 hj
  omega
 ·rw[if_neg h2,if_neg h2]
  rw[d9]at h2
  have hmemK:∀ v∈keys.toList,∃ i k,Tim.IsK X.prog X.w s.heap (i::k) v:=fun v hv=>by
   obtain⟨j,hj⟩:=o5.mp hv
   obtain⟨k,q1,q2⟩:=af2 hK hj
   obtain⟨z,_,rfl⟩:=k9.mp (b9 q1)
   obtain⟨i,k',ek⟩:=hne z
   rw[ek]at q2
   exact⟨i,k',q2⟩
  have kk:keyKind' keys=keyKind' keys.toList.toArray:=by rw[at5]
  rw[kk]
  refine a8 (Tim.aD5 (vs:=keys.toList) (by rw[j9,hkl];omega) hmemK ?_)
  refine a8 (C6 (Tim.aw0 (a₀:=keys.zip vs.toArray) (κ:=bG0 true) (O:=Tim.bc9) (f:=fun p=>Tim.V0 X.prog X.w s.heap p.1) (st:=SortSt.mk' (bG0 true) (keys.zip vs.toArray) #[] 7 none)
   (Q:=fun _ st'=>(m8 st').Perm (keys.zip vs.toArray)/\N2 st'=none/\(m8 st').toList.Pairwise (Tim.le (Tim.Bf (O:=Tim.bc9) fun p=>Tim.V0 X.prog X.w s.heap p.1))) ?_ ([]:List Int) (Array.Perm.refl _) rfl rfl rfl fun st' a1 a2 a3=>⟨a1,a2,a3⟩) ?_ fun _ _ e=>e)
  ·intro x y hx hy Q hq
   rw[hzt]at hx hy
   refine Tim.aU7 (k1 x hx) (k1 y hy) ?_
   rw[<- Tim.U3 (k1 x hx),<- Tim.U3 (k1 y hy)]
   exact hq
  ·rintro⟨⟨⟩,st'⟩ s' ⟨rfl,hp,hf,hs⟩
   exact aV2 I hS hk ha fk fa hka hz hkl hi hK hp hf hs h
theorem bB1:∀ {vs:List Value} {zs:List Int} {j:Nat} {x:Value},G6 vs zs->vs[j]?=some x->∃ z t,zs[j]?=some z/\x=.int z t
 | _,_,_,_,.nil,h=>by simp at h
 | _,_,0,_,.cons n t q,h=>by simp at h;exact⟨n,t,rfl,h.symm⟩
 | _,_,j+1,_,.cons n t q,h=>by
  obtain⟨z,t',h1,h2⟩:=bB1 q (by simpa using h)
  exact⟨z,t',by simpa using h1,h2⟩
theorem bB5 {s':Shared}{b:Addr}{o:Obj}(I:Inv X (pins++ai9 fp h) σ H' s')(hb:b∈fp)(e:h.get? b=some o):s'.heap.get? b=some o/\H' b=none:=
 let p:=I.pin (b,o) (j7 _ (j7 _ (N6 hb e)))
 ⟨p.1,p.2.1⟩
theorem bA4 {kS:Addr}{f:Value}{e1:Nat}{key:Int->List Int}{P:PySem.Fin->Shared->Prop}(I:Inv X pins σ H s)(hk:s.heap.get? kS=some (G2 "list" #[] 0))(ha:s.heap.get? a=some (G2 "list" #[] e1))
  (fk:P1 X pins H kS)(fa:P1 X pins H a)(hka:kS≠a)(hz:vs.length<=1000)(hi:G6 vs zs)(hne:∀ z,∃ i k,key z=i::k)(turn:∀ z∈zs,aO9 X A σ H f key z)(h:aP0 X pins σ H a zs key P) :
  v7 (t7 X.prog X.w) A (ksk_rest a f false vs.toArray e1 (.ref kS)) P E s:=by
 have hlen:=hi.length
 unfold ksk_rest
 refine a8 (bE6 ?_)
 first
  | rw[List.forIn_toArray]
  | (rw[<- ag2];simp only[bP1])
  | rw[<- ag2]
 refine a8 (ksk_fold (fun i s'=>∃ (kA:Array Value) (e:Nat) (H':Hp) (ys:List V),Inv X pins σ H' s'/\p8 H H'/\s'.heap.get? kS=some (G2 "list" kA e)/\s'.heap.get? a=some (G2 "list" #[] e1)/\P1 X pins H' kS/\P1 X pins H' a /\
   B7 ys kA.toList/\C1 X.K H' ys ((zs.take i).map key)) vs 0 s ⟨#[],0,H,[],I,p8.refl H,hk,ha,fk,fa,.nil,.nil⟩ ?step ?done)
 case step =>
  rintro j x s' hx ⟨kA,e,H',ys,I',hS,hk',ha',fk',fa',hv,ht⟩
  simp only[M9]at ht ⊢
  have hj:j<vs.length:=(d5.mp hx).1
  obtain⟨z,t,hzj,rfl⟩:=bB1 hi hx
  have hzA:kA.size<=vs.length:=by
   have h1:ys.length=kA.size:=by rw[<- j9];exact hv.length
   have h2:=ht.len
   rw[a5,k8]at h2
   omega
  have Ip:=I'.pinned (fp:=[kS,a]) (fun b hb=>by
   rcases c5.mp hb with rfl | hb
   ·exact fk'
   ·rw[j8.mp hb];exact fa') (fun b hb=>by
   rcases c5.mp hb with rfl | hb
   ·exact⟨_,hk',fun v q=>by cases q⟩
   ·rw[j8.mp hb];exact⟨_,ha',fun v q=>by cases q⟩)
  refine a8 (wpAny_attempt (C6 (turn z (b9 hzj) t _ s' H' Ip hS) (fun v s'' he=>?_) fun _ _ hF=>hF.elim))
  obtain⟨k,H'',rfl,hk'',I'',hS'⟩:=he
  obtain⟨nk,fk0⟩:=bB5 I'' c7 hk'
  obtain⟨na,fa0⟩:=bB5 I'' (b8 _ c7) ha'
  have Iu:=I''.unpinned
  have fk'':P1 X pins H'' kS:=fk'.to fk0
  have fa'':P1 X pins H'' a:=fa'.to fa0
  have s1:=Heap.SameBut.update s''.heap kS (Obj.mapSeq (·.push (.ref k)))
  obtain⟨c2,hc2⟩:∃ c2,(s''.heap.update kS (Obj.mapSeq (·.push (Value.ref k)))).get? kS=some (G2 "list" (kA.push (.ref k)) c2):=⟨_,X0 nk (·.push (.ref k))⟩
  have ea:(kA.push (Value.ref k)).toList=kA.toList++[Value.ref k]:=by simp
  have ek:zs.take (j+1)=zs.take j++[z]:=by rw[o7,hzj];simp
  refine a8 (ae4 nk rfl ?_ (by rw[x6];omega) (t9 (at4 (A7 ..)) (by rw[x6];omega)))
  refine j5 ⟨rfl,kA.push (.ref k),c2,H'',ys++[.ref k],?_,hS.trans hS',hc2,(s1.2 a hka.symm).trans na,fk'',fa'',?_,?_⟩
  ·exact Iu.turn (t':=s''.toks) fk'' fun b o hb q=>(s1.2 b hb).trans q
  ·rw[ea]
   exact hv.append (.cons rfl .nil)
  ·rw[ek,g9]
   exact C1.append (C1.same hS' ht) (.cons ⟨k,rfl,.of hk''⟩ .nil)
 case done =>
  rintro s' ⟨kA,e,H',ys,I',hS,hk',ha',fk',fa',hv,ht⟩
  have e3:zs.take (0+vs.length)=zs:=k7 (by omega)
  rw[e3]at ht
  refine a8 (bT1 hk' rfl ?_)
  have h1:ys.length=kA.size:=by rw[<- j9];exact hv.length
  have h2:=ht.len
  rw[a5]at h2
  have hK:=ac5 I' ht hv
  exact bM9 I' hS hk' ha' fk' fa' hka hz (by omega) hi (aC0 (fun u k q=>q) hK) hne h
theorem bA3 {f:Value}{key:Int->List Int}{P:PySem.Fin->Shared->Prop}(I:Inv X pins σ H s)(ha:s.heap.get? a=some (G2 "list" vs.toArray n))
  (fa:P1 X pins H a)(hz:vs.length<=1000)(hi:G6 vs zs)(hne:∀ z,∃ i k,key z=i::k)(turn:∀ z∈zs,aO9 X A σ H f key z)(h:aP0 X pins σ H a zs key P) :
  v7 (t7 X.prog X.w) A (ksk_tree a f false) P E s:=by
 have hlt:a<s.heap.objs.size:=i7 ha
 have s1:=Heap.SameBut.update s.heap a (Obj.mapSeq fun _=>(#[]:Array Value))
 obtain⟨e1,ho1⟩:∃ e1,(s.heap.update a (Obj.mapSeq fun _=>(#[]:Array Value))).get? a=some (G2 "list" #[] e1):=⟨_,X0 ha fun _=>#[]⟩
 have I1:Inv X pins σ H { s with heap:=s.heap.update a (Obj.mapSeq fun _=>(#[]:Array Value)),toks:=s.toks }:=I.turn fa fun b o hb q=>(s1.2 b hb).trans q
 unfold ksk_tree
 refine a8 (bT1 ha rfl ?_)
 refine a8 (ae4 ha rfl ?_ (by rw[d9,x6];omega) (r9 _))
 refine a8 (bl8 ho1 rfl ?_)
 refine a8 (wpAny_newTuple ?_ (by show vs.length<=_;rw[x6];omega))
 refine a8 (T8 ?_ (r9 _))
 refine F5 ?_
 generalize hh2:(s.heap.update a (Obj.mapSeq fun _=>(#[]:Array Value))).push (G2 "tuple" vs.toArray 0)=h2
 have hsz:h2.objs.size=s.heap.objs.size+1:=by rw[<- hh2,bE8,cf2]
 have I2:Inv X pins σ H { s with heap:=h2,toks:=s.toks }:=I1.kept (t':=s.toks) fun b o q=>by rw[<- hh2];exact a7 _ q
 have I3:Inv X pins σ H { s with heap:=h2.push (G2 "list" #[] 0),toks:=s.toks }:=I2.kept (t':=s.toks) fun b o q=>a7 _ q
 have fk:P1 X pins H h2.objs.size:=I2.fpOk (c6 _) (I2.hok.fresh (c6 _))
 refine bA4 (s:={ s with heap:=h2.push (G2 "list" #[] 0),toks:=s.toks }) (kS:=h2.objs.size) (e1:=e1) I3 (l5 _ rfl) ?_ fk fa (by rw[hsz];exact V3 (E3 hlt)) hz hi hne turn h
 refine a7 _ ?_
 rw[<- hh2]
 exact a7 _ ho1
theorem ba7 {r q:Addr}{key:Int->List Int}(I:Inv X pins σ H s)(hh:A.handled=none)(hr:∃ t u v,IsRange s.heap r 0 n 1 t u v)(hn:n<=1000)(hne:∀ z,∃ i k,key z=i::k)
  (turn:∀ z∈(am9 0 n).map (fun k:Nat=>(k:Int)),aO9 X A.in1.in1 σ H (.ref q) key z)
  (h:∀ (H':Hp) (s':Shared) (D:Addr) (zs:List Int),p8 H H'->H' D=none->zs.Perm ((am9 0 n).map fun k:Nat=>(k:Int))->zs.Pairwise (fun x y=>Tim.L9 (key y) (key x)=false)->Inv X pins σ (upd H' D (.lst (zs.map V.int))) s'->Q (.ref D) s') :
  v7 (t7 X.prog X.w) A (call (.builtin "sorted") [.ref r] [(Str.ofString "key",.ref q)]) Q E s:=by
 obtain⟨t,u,v,hr⟩:=hr
 refine bP7 cg2 bT2 bT3 (ksk_s1 _ _) ?_
 unfold Builtin.«sorted»
 refine a8 (m:=checkCount "sorted" 1 1 _) (j5 ?_)
 refine a8 (aX4 (A:=A.in1) hh hr hn fun h1 tk vs kp hi=>?_)
 have hlen:=hi.length
 rw[a5,aF8]at hlen
 have I1:Inv X pins σ H { s with heap:=h1,toks:=tk }:=I.kept kp
 refine a8 (T8 ?_ (by rw[x6];omega))
 have fD:P1 X pins H h1.objs.size:=I1.fpOk (c6 _) (I1.hok.fresh (c6 _))
 have I2:Inv X pins σ H { s with heap:=h1.push (G2 "list" vs.toArray 0),toks:=tk }:=I1.kept (t':=tk) fun b o q=>a7 _ q
 have hoL:(h1.push (G2 "list" vs.toArray 0)).get? h1.objs.size=some (G2 "list" vs.toArray 0):=l5 _ rfl
 refine a8 (F5 (cg5 bs2 (s:={ s with heap:=h1.push (G2 "list" vs.toArray 0),toks:=tk }) ⟨_,hoL,rfl⟩ bl9 ?body (ksk_l1 _ _)))
 show v7 (t7 X.prog X.w) A.in1.in1 (Builtin.«list.sort» ⟨[.ref h1.objs.size],[(Str.ofString "key",.ref q)]⟩) _ _ _
 rw[ksk_t1]
 refine bA3 I2 hoL fD (by omega) hi hne turn fun H' s' out zs' c I' hS fa' hout hi' hp hs=>⟨_,rfl,?_⟩
 have hl2:zs'.length<=1000:=by rw[hp.length_eq,a5,aF8];exact hn
 refine j5 ⟨_,rfl,h H' s' h1.objs.size zs' hS fa'.1 hp hs ?_⟩
 have:=I'.take (t':=s'.toks) (h':=s'.heap) (o:=.lst (zs'.map V.int)) fa' (fun b u _ q=>q) ⟨by rw[a5,x6];omega,out,c,ak9 hi',hout⟩
 exact this
abbrev bd2 (qual:Str)(scope:Scope)(cl:List (Str × Addr))(f:Addr)(cv:Value)(s:Shared):Env:=PySem.W.envX qual scope s.heap.objs.size f cv cl
def bz8 (X:Cx)(A:Around)(qual:Str)(scope:Scope)(cl:List (Str × Addr))(N':List Str)(f:Addr)(cv:Value)(s:Shared)(H:Hp):Cx:=
 { X with A:=A.deeper (bd2 qual scope cl f cv s),N:=N',s₀:=s,H₀:=H,env:=bd2 qual scope cl f cv s,outer:=X.stack,stack:=List.cons (bd2 qual scope cl f cv s) X.stack,ex:=[],fn:=fun _=>false,calm:=true,pn:=[],xe:=fun _ _=>False }
def aK7 (X:Cx)(N':List Str)(lk:List (Option Nat))(scope:Scope)(cl:List (Str × Addr)):Prop:=
 lk.length=N'.length/\∀ (i j:Nat) (x:Str),N'[i]?=some x->lk[i]?=some (some j)->X.N[j]?=some x/\(X.env.scope.names.lookup x=some .cell\/X.env.scope.names.lookup x=some .free)/\(cl.lookup x).isSome=true /\
  (scope.names.lookup x=some .cell\/scope.names.lookup x=some .free)
theorem bp4 {h1:Heap}{tk:Nat}{p:Str}{cv:Value}{v:V}(I:Inv X pins σ H s)(hA:A.frames=some X.stack)(hh:A.handled=none)(hkind:scope.kind=.function)(hcl:av8 X.env cl)(hfr:ap7 scope.names cl=true)(hlk:aK7 X N' lk scope cl)
  (hp:scope.names.lookup p=some .local)(rv:RelV v u)(hn:h1.Ns s.heap.objs.size (fun y=>[(p,u)].reverse.lookup y))(hk:∀ b o,s.heap.get? b=some o->h1.get? b=some o) :
  Inv (bz8 X A qual scope cl (p::N') f cv s H) [] (some v::ac0 lk σ) H { s with heap:=h1,toks:=tk }:=by
 have hC:H s.heap.objs.size=none:=I.hok.fresh (c6 _)
 have hmem:∀ y∈scope.names,y.2≠.cell/\(y.2=.free->(cl.lookup y.1).isSome=true):=fun y hy=>by
  unfold ap7 at hfr
  rw[A6]at hfr
  have:=hfr y hy
  rw[n8]at this
  refine⟨by simpa using this.1,fun e=>?_⟩
  have h2:=this.2
  rw[e]at h2
  simpa using h2
 have hcell:∀ x c,cl.lookup x=some c->X.env.cells.lookup x=some c:=fun x c e=>hcl.get e
 have noE:∀ b:Addr,b∉([]:List Addr):=fun b z=>nomatch z
 refine⟨⟨I.ok.mod,hkind,rfl,rfl,c6 _,fun x y c e1 e2=>I.ok.inj x y c (hcell x c e1) (hcell y c e2),fun x hx=>?_,(fun x c e=>by cases e),fun _=>hh,Around.frames_deeper hA,.inr ⟨rfl,rfl⟩,fun b z=>absurd z (noE b),fun b o e=>I.bs b o e,t9 I.ok.bsz I.sz,fun b _ _=>noE b,fun b z=>absurd z (noE b),I.stack,I.stkFree⟩,
  rfl,I.bare,Un.kept hk,⟨_,hn,fun i x w e1 e2 e3=>?_⟩,fun x c e=>?_,hC,fun x c e=>I.freeC x c (hcell x c e),(fun q hq=>nomatch hq),I.hok.kept hk,?_⟩
 ·have hx':scope.names.lookup x=some .cell\/scope.names.lookup x=some .free:=hx
  rcases hx' with h | h
  ·exact absurd rfl (hmem _ (PySem.mem_of_lookup h)).1
  ·exact B8.mp ((hmem _ (PySem.mem_of_lookup h)).2 rfl)
 ·cases i with
  | zero =>
   have e1':p=x:=by simpa using (show (p::N')[0]?=some x from e1)
   have e2':v=w:=by simpa using (show (some v::ac0 lk σ)[0]?=some (some w) from e2)
   subst e1' e2'
   refine⟨u,rv,.inl ⟨hp,?_⟩⟩
   show [(p,u)].reverse.lookup p=some u
   simp[List.lookup]
  | succ i =>
   have e1':N'[i]?=some x:=by simpa using (show (p::N')[i+1]?=some x from e1)
   have e2':(ac0 lk σ)[i]?=some (some w):=by simpa using (show (some v::ac0 lk σ)[i+1]?=some (some w) from e2)
   unfold ac0 at e2'
   rw[o6]at e2'
   cases hq:lk[i]? with
   | none=>rw[hq]at e2';cases e2'
   | some o =>
    rw[hq]at e2'
    have e2'':(o.bind fun j=>(σ[j]?).join)=some w:=Option.some.inj e2'
    cases o with
    | none=>cases e2''
    | some j =>
     obtain⟨q1,q2,q3,q4⟩:=hlk.2 i j x e1' hq
     have hσ:σ[j]?=some (some w):=by
      have z:(σ[j]?).join=some w:=e2''
      cases hh:σ[j]? with
      | none=>rw[hh]at z;cases z
      | some o=>rw[hh]at z;rw[show o=some w from z]
     obtain⟨m,hnX,hl⟩:=I.loc
     obtain⟨u',r,lo⟩:=hl j x w q1 hσ (q2.elim (fun a=>.inr (.inl a)) (fun a=>.inr (.inr a)))
     refine⟨u',r,.inr ?_⟩
     obtain⟨c,hc⟩:=B8.mp q3
     refine⟨q4,c,hc,?_⟩
     have hcX:=hcell x c hc
     rcases lo with⟨k,_⟩ | ⟨_,c',hc',z⟩
     ·have k':X.env.scope.names.lookup x=some .local:=k
      rw[k']at q2
      rcases q2 with q2 | q2<;>cases q2
     ·rw[hcX]at hc'
      cases hc'
      obtain⟨o,ho,hd⟩:=z
      exact⟨o,hk c o ho,hd⟩
 ·obtain⟨w,o,ho,hd⟩:=I.cell x c (hcell x c e)
  exact⟨w,o,hk c o ho,hd⟩
 ·show (some v::ac0 lk σ).length=(p::N').length
  unfold ac0
  rw[i9,a5,i9,hlk.1]
theorem bz7 {name p:Str}{body:Expr}{c':Addr}{pm ctv:Value}{v:V}{Q:VK}(I:Inv X pins σ H s)(hA:A.frames=some X.stack)(hh:A.handled=none)(hroom:A.depth<aG0)
  (ho:s.heap.get? f=some (PySem.W.kla_obj name qual params body scope cl pm c' ctv))(hcd:s.heap.CodeRec (.ref c') qual)(hbind:bf6 (PySem.W.kla_fn name qual params body scope cl pm (.ref c') ctv) ⟨[u],[]⟩=pure [(p,u)])
  (hkind:scope.kind=.function)(hco:scope.isCoroutine=false)(hgen:scope.isGenerator=false)(hcl:av8 X.env cl)(hfr:ap7 scope.names cl=true)(hlk:aK7 X N' lk scope cl)(hp:scope.names.lookup p=some .local)(rv:RelV v u)
  (he:PE (bz8 X A qual scope cl (p::N') f (.ref c') s H) body te)(ht:te (some v::ac0 lk σ) H Q) :
  v7 (t7 X.prog X.w) A (call (.ref f) [u]) (fun u' s'=>∃ v' H',Inv X pins σ H' s'/\RelV v' u'/\Q v' H') (fun _ _=>False) s:=by
 have hcellN:∀ y∈scope.names,y.2≠.cell:=fun y hy=>by
  unfold ap7 at hfr
  rw[A6]at hfr
  have:=hfr y hy
  rw[n8]at this
  simpa using this.1
 refine bE5 (PySem.W.kla_callFunE hroom ho rfl hco hgen rfl hcd ?_)
 show v7 _ _ (bf6 (PySem.W.kla_fn name qual params body scope cl pm (.ref c') ctv) ⟨[u],[]⟩) _ _ s
 rw[hbind]
 refine j5 (ae0 hcellN (fun y hy=>by rw[j8.mp hy];exact hp) (fun h1 hns hsb=>?_) hkind)
 have hk₁:∀ b o,s.heap.get? b=some o->h1.get? b=some o:=fun b o e=>hsb.extBut b o (m6 (i7 e)) (a7 _ e)
 refine⟨I.nolimit.keeps hk₁,?_⟩
 show aG5 _ _ (.expr body (PySem.W.envX qual scope s.heap.objs.size f (.ref c') cl)) _ _
 have I1:=bp4 (tk:=s.toks+[(p,u)].length) (qual:=qual) (f:=f) (cv:=.ref c') I hA hh hkind hcl hfr hlk hp rv hns hk₁
 refine PySem.W.kla_codeExpr (C6 (he [] _ _ H Q I1 ht) (fun u' s' hq=>?_) fun _ _ z=>False.elim z)
 obtain⟨v',H',J,r',q⟩:=hq
 exact⟨v',H',I.call' (ch:=[]) J.os J.base J.hok J.bare (fun b z=>nomatch z),r',q⟩
def aY1 (c:Addr)(qual:Str):HO:=.ext fun h=>h.CodeRec (.ref c) qual
def br5 (f:Addr)(o:Obj):HO:=.ext fun h=>h.get? f=some o
def an5 (P:Addr)(pos:Pos)(qual:Str)(H:Hp):Prop:=∃ ps,H P=some (.tbl ps)/\TriplesOk ps.toList/\(bT7 pos ps.toList=none\/∃ c',bT7 pos ps.toList=some (.ref c')/\H c'=some (aY1 c' qual))
def K8 (P:Addr)(H H':Hp):Prop:=∀ b o,b≠P->H b=some o->H' b=some o
theorem K8.refl (P:Addr)(H:Hp):K8 P H H:=fun _ _ _ h=>h
theorem K8.trans {P:Addr}{H1 H2:Hp}(a:K8 P H H1)(b:K8 P H1 H2):K8 P H H2:=fun c o n h=>b c o n (a c o n h)
theorem p8.grow (P:Addr)(h:p8 H H'):K8 P H H':=fun b o _ q=>h b o q
theorem an5.same {P:Addr}(t:an5 P pos qual H)(h:p8 H H'):an5 P pos qual H':=by
 obtain⟨ps,h1,h2,h3⟩:=t
 refine⟨ps,h _ _ h1,h2,?_⟩
 rcases h3 with h3 | ⟨c',h3,h4⟩
 ·exact .inl h3
 ·exact .inr ⟨c',h3,h _ _ h4⟩
structure aF5 (base:Heap) (mg:Str->Option Value) (c P:Addr):Prop where
 hd:PySem.W.CodeHd base c P
 blt:base.BuiltinsAt mg P
 ne:d4≠P
theorem br4 {c:Value}{l:List Value}(h:TriplesOk l)(hn:bT7 pos l=none):bT7 pos (l++[an9 pos.line,an9 pos.col,c])=some c:=codeAmong_snoc l h hn
def ch2 (P:Addr)(pos:Pos)(qual:Str)(params:Arguments)(body:Expr)(scope:Scope)(cl:List (Str × Addr))(pm:Value):TE:=fun σ H Q=>an5 P pos qual H/\∀ f c' ctv H',K8 P H H'->an5 P pos qual H'->H f=none ->
 H' f=some (br5 f (PySem.W.kla_obj "<lambda>" qual params body scope cl pm c' ctv))->H' c'=some (aY1 c' qual)->Q (.ref f) H'
theorem bX9 {body:Expr}{c P:Addr}(B:aF5 X.base X.mg c P)(hcode:X.env.code=.ref c)(hcl:ao4 scope X.env=pure cl)(hdef:defaultsOf params X.env=([],[])) :
  PE X (.Lambda params body scope pos) (ch2 P pos (X.env.qual++"<lambda>") params body scope cl ((X.mg "__name__").getD .none)):=by
 intro pins s σ H Q I h
 obtain⟨⟨ps,hP,ht,hin⟩,q⟩:=h
 have hPh:s.heap.get? P=some (PySem.W.tabObj ps):=I.hok P _ hP
 have C:=B.hd.keeps I.bk
 have hb:s.heap.BuiltinsAt X.mg P:=by
  obtain⟨bm,ob,b1,b2,b3,b4,b5,b6⟩:=B.blt
  exact⟨bm,ob,b1,b2,b3,b4,I.bk _ _ b5,b6⟩
 refine PySem.W.kla_eval hdef ?_
 rcases hin with hnf | ⟨c',hf,hc'⟩
 ·refine PySem.W.kla_makeFunction hcl I.ok.glob (I.mod.glob.keeps I.bk) hcode C hPh ht hnf B.ne hb fun c' ctv h' tk hx hge hlt hrec htb=>?_
  have hPlt:P<s.heap.objs.size:=i7 hPh
  have hsz:s.heap.objs.size<=h'.objs.size:=t9 hge (at1 hlt)
  have cP:P≠c':=m6 (o4 hPlt hge)
  have fP:P≠h'.objs.size:=m6 (o4 hPlt hsz)
  have fc:c'≠h'.objs.size:=m6 hlt
  have hcn:H c'=none:=I.hok.fresh hge
  have hfn:H h'.objs.size=none:=I.hok.fresh hsz
  have hfr:(PySem.W.kla_obj "<lambda>" (X.env.qual++"<lambda>") params body scope cl ((X.mg "__name__").getD .none) c' ctv).isFreed=false:=rfl
  generalize hobj:PySem.W.kla_obj "<lambda>" (X.env.qual++"<lambda>") params body scope cl ((X.mg "__name__").getD .none) c' ctv=ob at *
  generalize hps:ps++#[an9 pos.line,an9 pos.col,.ref c']=ps' at *
  have hps2:ps'.toList=ps.toList++[an9 pos.line,an9 pos.col,.ref c']:=by rw[<- hps];simp
  generalize hH1:upd (upd (upd H P (.tbl ps')) c' (aY1 c' (X.env.qual++"<lambda>"))) h'.objs.size (br5 h'.objs.size ob)=H1
  have v1:H1 h'.objs.size=some (br5 h'.objs.size ob):=by rw[<- hH1];exact a9
  have v2:H1 c'=some (aY1 c' (X.env.qual++"<lambda>")):=by rw[<- hH1,x8 fc];exact a9
  have v3:H1 P=some (.tbl ps'):=by rw[<- hH1,x8 fP,x8 cP];exact a9
  have v4:∀ b,b≠P->b≠c'->b≠h'.objs.size->H1 b=H b:=fun b n1 n2 n3=>by rw[<- hH1,x8 n3,x8 n2,x8 n1]
  have v5:∀ b u,b≠P->H b=some u->H1 b=some u:=fun b u n e=>by rw[v4 b n (y7 e hcn) (y7 e hfn)];exact e
  have k1:∀ b o,b≠P->s.heap.get? b=some o->(h'.push ob).get? b=some o:=fun b o n e=>a7 _ (hx b o n e)
  have neP:∀ b,H b=none->b≠P:=fun b n z=>by rw[z,hP]at n;cases n
  have hPn:(h'.push ob).get? P=some (PySem.W.tabObj ps'):=a7 _ htb
  have un:Un X.fs [] H H1 s.heap (h'.push ob):=by
   refine⟨fun b o e n _ _=>k1 b o (neP b n) e,fun b o e n _ _=>⟨o.slots,k1 b o (neP b n) e⟩,fun b o e n _=>?_,fun b o e _=>?_,fun b xs e=>v5 b _ (fun z=>by rw[z,hP]at e;cases e) e,fun b o u e=>v5 b _ (fun z=>by rw[z,hP]at e;cases e) e,fun b qs e=>?_⟩
   ·rw[v4 b (neP b n) (m6 (o4 (i7 e) hge)) (m6 (o4 (i7 e) hsz))]
    exact n
   ·by_cases hb:b=P
    ·rw[hb];exact⟨_,hPn⟩
    ·exact⟨o,k1 b o hb e⟩
   ·by_cases hb:b=P
    ·rw[hb,hP]at e
     cases e
     rw[hb]
     exact⟨#[an9 pos.line,an9 pos.col,.ref c'],by rw[v3,<- hps]⟩
    ·exact⟨#[],by rw[v5 b _ hb e];simp⟩
  have hok:HOk X.prog X.w H1 (h'.push ob):=by
   intro b u e
   by_cases hb1:b=h'.objs.size
   ·subst hb1
    rw[v1]at e
    cases e
    exact⟨l5 _ hfr,⟨_,l5 _ hfr⟩,fun h1 h2 q z=>z _ q⟩
   ·by_cases hb2:b=c'
    ·subst hb2
     rw[v2]at e
     cases e
     obtain⟨c2,oc,vs,tq,e1,e2,e3,e4⟩:=hrec
     cases e1
     exact⟨⟨_,oc,vs,tq,rfl,a7 _ e2,e3,e4⟩,⟨oc,a7 _ e2⟩,fun h1 h2 ⟨c3,o3,vs3,t3,q1,q2,q3,q4⟩ z=>by cases q1;exact⟨_,o3,vs3,t3,rfl,z _ q2,q3,q4⟩⟩
    ·by_cases hb3:b=P
     ·subst hb3
      rw[v3]at e
      cases e
      exact hPn
     ·rw[v4 b hb3 hb2 hb1]at e
      refine(I.hok b u e).stay (fun d v hd z=>k1 d v ?_ z) (fun d z=>v5 _ _ ?_ z) fun d xs z=>v5 _ _ ?_ z
      ·rcases hd with hd | hd
       ·rw[hd];exact hb3
       ·intro zz;rw[zz,hP]at hd;cases hd
      ·intro zz;rw[zz,hP]at z;cases z
      ·intro zz;rw[zz,hP]at z;cases z
  have I1:Inv X pins σ H1 { s with heap:=h'.push ob,toks:=tk }:=I.un un hok
  refine⟨.ref h'.objs.size,H1,I1,rfl,q _ c' ctv H1 (fun b o n e=>v5 b o n e) ⟨ps',v3,?_,.inr ⟨c',?_,v2⟩⟩ hfn ?_ v2⟩
  ·rw[hps2];exact TriplesOk_snoc _ _ _ _ ht
  ·rw[hps2];exact br4 ht hnf
  ·rw[hobj];exact v1
 ·refine PySem.W.kla_makeFunctionHit hcl I.ok.glob (I.mod.glob.keeps I.bk) hcode C hPh ht hf hb fun ctv h' tk hk hsz=>?_
  have hfn:H h'.objs.size=none:=I.hok.fresh hsz
  have hfr:(PySem.W.kla_obj "<lambda>" (X.env.qual++"<lambda>") params body scope cl ((X.mg "__name__").getD .none) c' ctv).isFreed=false:=rfl
  generalize hobj:PySem.W.kla_obj "<lambda>" (X.env.qual++"<lambda>") params body scope cl ((X.mg "__name__").getD .none) c' ctv=ob at *
  have I1:Inv X pins σ (upd H h'.objs.size (br5 h'.objs.size ob)) { s with heap:=h'.push ob,toks:=tk }:=I.laid (fun b o e=>a7 _ (hk b o e)) hsz ⟨l5 _ hfr,⟨_,l5 _ hfr⟩,fun h1 h2 q z=>z _ q⟩
  have sm:p8 H (upd H h'.objs.size (br5 h'.objs.size ob)):=fun b o e=>by rw[x8 (y7 e hfn)];exact e
  refine⟨.ref h'.objs.size,_,by rw[<- hobj]at I1;rw[<- hobj];exact I1,rfl,q _ c' ctv _ (sm.grow P) (an5.same ⟨ps,hP,ht,.inr ⟨c',hf,hc'⟩⟩ sm) hfn (by rw[hobj];exact a9) (sm _ _ hc')⟩
def cg9 (ta:TA):TE:=fun σ H Q=>ta σ H fun vs H1=>∃ n:Nat,vs=[.int n]/\n<=1000/\∀ r,H1 r=none->Q (.ref r) (upd H1 r (.rng 0 n))
def bV0 (P:Addr)(lpos:Pos)(qual:Str)(lk:List (Option Nat))(te:TE)(tr:TA):TE:=fun σ H Q=>tr σ H fun vs H1=>∃ (r:Addr) (n:Nat) (key:Int->List Int),vs=[.ref r]/\H1 r=some (.rng 0 n)/\n<=1000/\(∀ z,∃ i k,key z=i::k)/\an5 P lpos qual H1 /\
 ∀ H2,K8 P H1 H2->an5 P lpos qual H2->(∀ (H3:Hp) (z:Nat),p8 H2 H3->z<n->te (some (.int z)::ac0 lk σ) H3 fun v H4=>∃ k,v=.ref k/\H4 k=some (.tup ((key z).map V.int))/\p8 H3 H4) /\
  ∀ (H':Hp) (D:Addr) (zs:List Int),p8 H2 H'->H' D=none->zs.Perm ((am9 0 n).map fun k:Nat=>(k:Int))->zs.Pairwise (fun x y=>Tim.L9 (key y) (key x)=false)->Q (.ref D) (upd H' D (.lst (zs.map V.int)))
theorem bJ4 {a:Expr}{ta:TA}{p:Pos}(hg:Gl X "range")(hm:X.mg "range"=none)(ha:PA X [a] ta)(hs:B0 [a] X.env=[(false,eval a X.env)]:=by rfl):PE X (.Call (.Name "range" p) [a] [] pos) (cg9 ta):=by
 intro pins s σ H Q I h
 refine Call_ (ab8 I hg hm boot_range (PyProof.Rows.callWith_type1 (thn (ha pos pins s σ H _ I h) fun us s1 ⟨vs,H1,I1,r1,q1⟩=>?_) hs rfl))
 obtain⟨n,e,hn,q⟩:=q1
 subst e
 cases r1 with
 | cons r rr =>
  cases rr
  obtain⟨t,rfl⟩:=r
  refine call_range_1 ?_
  have hf:H1 s1.heap.objs.size=none:=I1.hok.fresh (c6 _)
  exact⟨.ref s1.heap.objs.size,upd H1 s1.heap.objs.size (.rng 0 n),I1.laid (fun b o e=>a7 _ e) (c6 _) ⟨_,_,_,l5 _ rfl⟩,rfl,q _ hf⟩
theorem bx9 {body:Expr}{p:Str}{np lpos kpos:Pos}{c P:Addr}{tr:TA}(hc:X.calm=true)(hd:X.A.depth<aG0)(hg:Gl X "sorted")(hm:X.mg "sorted"=none)(ha:PA X [e] tr)
  (B:aF5 X.base X.mg c P)(hcode:X.env.code=.ref c)(hcl:ao4 scope X.env=pure cl)(hdef:defaultsOf params X.env=([],[]))(hkind:scope.kind=.function)(hco:scope.isCoroutine=false)(hgen:scope.isGenerator=false)(hclo:av8 X.env cl)(hfr:ap7 scope.names cl=true)(hlk:aK7 X N' lk scope cl)
  (hp:scope.names.lookup p=some .local)(hbind:∀ (pm ctv u:Value) (c':Addr),bf6 (PySem.W.kla_fn "<lambda>" (X.env.qual++"<lambda>") params body scope cl pm (.ref c') ctv) ⟨[u],[]⟩=pure [(p,u)])
  (he:∀ f c' s3 H3,PE (bz8 X X.A.in1.in1 (X.env.qual++"<lambda>") scope cl (p::N') f (.ref c') s3 H3) body te)
  (hs:Z1 pos (B0 [e] X.env)=(false,eval e X.env)::Z1 pos (B0 [] X.env):=by rfl)
  (hpl:(Z1 pos (B0 [e] X.env)).any (·.1)=false:=by rfl) :
  PE X (.Call (.Name "sorted" np) [e] [⟨some "key",.Lambda params body scope lpos,kpos⟩] pos) (bV0 P lpos (X.env.qual++"<lambda>") lk te tr):=by
 intro pins s σ H Q I h
 refine R3 (ab8 I hg hm (show N1 "sorted"=some (.builtin "sorted") from rfl) ?_ (by decide) (by decide))
 refine callWith_kw (thn (ha pos pins s σ H _ I h) fun us s1 ⟨vs,H1,I1,r1,q1⟩=>?_) hs hpl rfl rfl
 obtain⟨r,n,key,rfl,hr,hn,hne,tb,q⟩:=q1
 have hk:PK X [⟨some "key",.Lambda params body scope lpos,kpos⟩] (bg3 (ch2 P lpos (X.env.qual++"<lambda>") params body scope cl ((X.mg "__name__").getD .none)) bH6):=bh4 (bX9 B hcode hcl hdef) bx3
 refine thn (hk pos pins s1 σ H1 (fun zs H2=>∃ f c' ctv,zs=[.ref f]/\K8 P H1 H2/\an5 P lpos (X.env.qual++"<lambda>") H2/\H2 f=some (br5 f (PySem.W.kla_obj "<lambda>" (X.env.qual++"<lambda>") params body scope cl ((X.mg "__name__").getD .none) c' ctv))/\H2 c'=some (aY1 c' (X.env.qual++"<lambda>"))) I1
  ⟨tb,fun f c' ctv H2 g1 g2 g3 g4 g5=>⟨f,c',ctv,rfl,g1,g2,g4,g5⟩⟩) fun ws s2 ⟨zs,H2,I2,r2,f,c',ctv,ez,g1,g2,g4,g5⟩=>?_
 subst ez
 obtain⟨w,rfl,rw⟩:=vals1 r2
 obtain⟨u,rfl,ru⟩:=vals1 r1
 cases rw
 cases ru
 obtain⟨wish,fin⟩:=q H2 g1 g2
 have rP:r≠P:=fun z=>by
  obtain⟨ps,hP,_⟩:=tb
  rw[z,hP]at hr
  cases hr
 have hr2:H2 r=some (.rng 0 n):=g1 r _ rP hr
 obtain⟨t1,t2,t3,hro⟩:=I2.hok r _ hr2
 have hh:X.A.handled=none:=I.ok.hd hc
 refine ba7 (n:=n) (key:=key) I2 hh ⟨t1,t2,t3,hro⟩ hn hne (fun z hz=>?_) fun H' s' D zs' a1 a2 a3 a4 I'=>⟨.ref D,_,I',rfl,fin H' D zs' a1 a2 a3 a4⟩
 obtain⟨k,hk',rfl⟩:=k9.mp hz
 have hkn:k<n:=by
  have:=aI0.mp hk'
  omega
 intro t pins' s3 H3 I3 sm
 have ho:s3.heap.get? f=some (PySem.W.kla_obj "<lambda>" (X.env.qual++"<lambda>") params body scope cl ((X.mg "__name__").getD .none) c' ctv):=(I3.hok f _ (sm _ _ g4)).1
 have hcd:s3.heap.CodeRec (.ref c') (X.env.qual++"<lambda>"):=(I3.hok c' _ (sm _ _ g5)).1
 refine C6 (bz7 (A:=X.A.in1.in1) (v:=.int k) (u:=.int k t) I3 I3.ok.frames hh hd ho hcd (hbind _ _ _ _) hkind hco hgen hclo hfr hlk hp ⟨t,rfl⟩ (he f c' s3 H3) (wish H3 k sm hkn)) (fun u' s' hq=>?_) fun _ _ z=>z
 obtain⟨v',H',J,r',kk,rfl,hkk,sm'⟩:=hq
 cases r'
 exact⟨kk,H',rfl,hkk,J,sm'⟩
theorem O0.there {o:HO}(x:O0 P w H h a o):∃ ob,h.get? a=some ob:=by
 cases o with
 | lst xs=>obtain⟨_,_,_,_,e⟩:=x;exact⟨_,e⟩
 | tup xs=>obtain⟨_,_,_,ob,e,_⟩:=x;exact⟨_,e⟩
 | dK kvs=>obtain⟨_,_,_,_,o,_,_,e,_⟩:=x;exact⟨_,e⟩
 | dT kvs=>obtain⟨_,_,_,_,o,_,_,e,_⟩:=x;exact⟨_,e⟩
 | set S n=>obtain⟨o,_,_,_,e,_⟩:=x;exact⟨_,e⟩
 | ins C dx fs=>obtain⟨_,_,_,e,_⟩:=x;exact⟨_,e⟩
 | own y=>obtain⟨ob,e⟩:=x;exact⟨ob,e⟩
 | xd fs=>obtain⟨_,⟨_,_,_,e,_⟩,_⟩:=x;exact⟨_,e⟩
 | rng lo hi=>obtain⟨_,_,_,e⟩:=x;exact⟨_,e⟩
 | frz ob u=>obtain⟨e,_⟩:=x;exact⟨_,e⟩
 | tbl ps=>exact⟨_,(show h.get? a=some _ from x)⟩
 | met f y=>exact⟨_,(show h.get? a=some _ from x)⟩
 | ext φ=>obtain⟨_,⟨ob,e⟩,_⟩:=x;exact⟨ob,e⟩
theorem HOk.stays (ok:HOk P w H h) (k:∀ b o,h.get? b=some o->H b≠none->h'.get? b=some o):HOk P w H h':=fun a o e =>
 (ok a o e).stay (fun b u hb q => k b u q (by
  rcases hb with z | z
  ·rw[z,e];simp
  ·rw[z];simp)) (fun _ q=>q) fun _ _ q=>q
def cn9 (outer:List Env)(x:Addr)(cls:Value)(h0:Heap)(H':Hp)(h':Heap):Prop:=
 ∃ (B:Heap) (a0:Value),Heap.FlyingW B outer x cls a0 h'/\∀ b o,h'.get? b=some o->(H' b≠none\/h0.get? b≠none)->b∉frs outer->B.get? b=some o
def CXE (P:Program)(w:World):CXT:=fun outer H s E e s' =>
 ∃ (x:Addr) (cls:Value) (H':Hp),e=.ref x/\s'.os=s.os/\aq1 s'.gens/\Un (frs outer) [] H H' s.heap s'.heap/\HOk P w H' s'.heap/\s.heap.get? x=none/\H' x=none/\cn9 outer x cls s.heap H' s'.heap/\E cls none H'
theorem Un.onto {fs:List Addr}{h'':Heap}(u:Un fs [] H H' h h')(stay:∀ b o,h'.get? b=some o->h.get? b≠none->b∉fs->h''.get? b=some o)
  (slots:∀ b o,h'.get? b=some o->h.get? b≠none->b∈fs->∃ sl,h''.get? b=some { o with slots:=sl }):Un fs [] H H' h h'' where
 keep:=fun b o e n hb hx=>stay b o (u.keep b o e n hb hx) (by rw[e];simp) hb
 slot:=fun b o e n hb hx=>by
  obtain⟨sl,e1⟩:=u.slot b o e n hb hx
  obtain⟨sl2,e2⟩:=slots b _ e1 (by rw[e];simp) hb
  exact⟨sl2,e2⟩
 free:=u.free
 there:=fun b o e hx=>by
  obtain⟨o',e1⟩:=u.there b o e hx
  by_cases hb:b∈fs
  ·obtain⟨sl,e2⟩:=slots b o' e1 (by rw[e];simp) hb
   exact⟨_,e2⟩
  ·exact⟨o',stay b o' e1 (by rw[e];simp) hb⟩
 tups:=u.tups
 frzs:=u.frzs
 tbls:=u.tbls
theorem J6 {α:Type}{o:Option α}(h:o≠none):∃ x,o=some x:=by
 cases o with
 | none=>exact absurd rfl h
 | some x=>exact⟨x,rfl⟩
theorem aE0 {env:Env}{L:Addr}(h:env.frame=some L):frs (env::outer)=L::frs outer:=by
 unfold frs
 rw[P5,h]
section
variable {K:W.Frag} {mg:Str->Option Value} {base:Heap} {cd:Value} {E:XK} {H1:Hp} {s1:Shared}
theorem bG4 {e:Addr}{cls:Value}{h2:Heap}(I:Inv (X6 (CXE P w) P w K mg base N qual scope f cd A outer s H E) pins σ H1 s1)(hx:Heap.MadeExcOf s1.heap h2 e cls vs)(hE:E cls none H1) :
  (X6 (CXE P w) P w K mg base N qual scope f cd A outer s H E).xe (.ref e) { s1 with heap:=h2 }:=by
 have hst:=I.stack
 have hfr:=I.ok.frames
 have hlt:=I.lt
 have hL:=I.free
 have hab:=I.ok.above
 have hbs:Un (frs outer) [] H H1 s.heap s1.heap:=I.base
 change s1.heap.FunFrames base (F6 qual scope s.heap.objs.size f cd::outer) at hst
 change (A.deeper (F6 qual scope s.heap.objs.size f cd)).frames=some (F6 qual scope s.heap.objs.size f cd::outer) at hfr
 change H1 s.heap.objs.size=none at hL
 have hff:frs (F6 qual scope s.heap.objs.size f cd::outer)=s.heap.objs.size::frs outer:=aE0 rfl
 have hin:∀ env∈(F6 qual scope s.heap.objs.size f cd::outer),∀ b,env.frame=some b->b∈frs (F6 qual scope s.heap.objs.size f cd::outer):=fun env he b hb=>ag7.mpr ⟨env,he,hb⟩
 have old:∀ b,(H1 b≠none\/s.heap.get? b≠none)->b∉frs outer->∃ o,s1.heap.get? b=some o/\b∉frs (F6 qual scope s.heap.objs.size f cd::outer):=fun b hb hno=>by
  have hne:b≠s.heap.objs.size:=by
   rcases hb with z | z
   ·intro q;rw[q]at z;exact z hL
   ·obtain⟨o,z⟩:=J6 z
    exact m6 (i7 z)
  have hex:∃ o,s1.heap.get? b=some o:=by
   rcases hb with z | z
   ·obtain⟨o,z⟩:=J6 z
    exact(I.hok b o z).there
   ·obtain⟨o,z⟩:=J6 z
    exact hbs.there b o z (by simp)
  obtain⟨o,ho⟩:=hex
  refine⟨o,ho,?_⟩
  rw[hff]
  intro hm
  rcases c5.mp hm with q | q
  ·exact hne q
  ·exact hno q
 have eNew:s.heap.get? e=none:=by
  cases q:s.heap.get? e with
  | none=>rfl
  | some o =>
   obtain⟨o',z⟩:=hbs.there e o q (by simp)
   rw[hx.new]at z
   cases z
 have eFree:H1 e=none:=by
  cases q:H1 e with
  | none=>rfl
  | some o =>
   obtain⟨o',z⟩:=(I.hok e o q).there
   rw[hx.new]at z
   cases z
 refine wpAny_leaves_madeW (base:=PySem.W.hideAll s1.heap (frs (F6 qual scope s.heap.objs.size f cd::outer))) hfr rfl (fun b o q=>PySem.W.of_hideAll _ q) (PySem.W.funFrames_hide hst hin) hx fun h' t x1 x2 x3 x4=>?_
 have stay:∀ b o,s1.heap.get? b=some o->(H1 b≠none\/s.heap.get? b≠none)->b∉frs outer->h'.get? b=some o:=fun b o ho hb hno=>by
  obtain⟨o',ho',hm⟩:=old b hb hno
  rw[ho]at ho'
  cases ho'
  exact x1.1 b o (PySem.W.hideAll_get _ ho hm)
 have frNone:∀ b∈frs outer,H1 b=none:=fun b hb=>I.stkFree b (by
  show b∈frs (F6 qual scope s.heap.objs.size f cd::outer)
  rw[hff]
  exact b8 _ hb)
 refine⟨e,cls,H1,rfl,I.os,I.bare,hbs.onto (fun b o ho hh hno=>stay b o ho (.inr hh) hno) (fun b o ho hh hm=>?_),I.hok.stays fun b o ho hh=>stay b o ho (.inl hh) fun hm=>hh (frNone b hm),eNew,eFree,⟨_,_,x1,fun b o ho hb hno=>?_⟩,hE⟩
 ·obtain⟨_,o',ho',hd⟩:=hst.mem (b:=b) (by
   show b∈frs (F6 qual scope s.heap.objs.size f cd::outer)
   rw[hff]
   exact b8 _ hm)
  rw[ho]at ho'
  cases ho'
  exact x4 b o (hx.keeps b o ho) hd
 ·obtain⟨o',ho',hm⟩:=old b hb hno
  have:=stay b o' ho' hb hno
  rw[ho]at this
  cases this
  exact PySem.W.hideAll_get _ ho' hm
theorem aj1:ap6 (CXE P w) (X6 (CXE P w) P w K mg base N qual scope f cd A outer s H E) E:=by
 intro pins σ H1 s1 e s2 I hc
 obtain⟨x,cls,H2,rfl,hos,hb2,u,hok,new,hxn,⟨B,a0,fl,st⟩,hE⟩:=hc
 have hst:=I.stack
 have hfr:=I.ok.frames
 have hL:=I.free
 have hbs:Un (frs outer) [] H H1 s.heap s1.heap:=I.base
 change s1.heap.FunFrames base (F6 qual scope s.heap.objs.size f cd::outer) at hst
 change (A.deeper (F6 qual scope s.heap.objs.size f cd)).frames=some (F6 qual scope s.heap.objs.size f cd::outer) at hfr
 change H1 s.heap.objs.size=none at hL
 change Un (frs (F6 qual scope s.heap.objs.size f cd::outer)) [] H1 H2 s1.heap s2.heap at u
 change Heap.FlyingW B (F6 qual scope s.heap.objs.size f cd::outer) x cls a0 s2.heap at fl
 have hff:frs (F6 qual scope s.heap.objs.size f cd::outer)=s.heap.objs.size::frs outer:=aE0 rfl
 have st':∀ b o,s2.heap.get? b=some o->(H2 b≠none\/s1.heap.get? b≠none)->b∉frs (F6 qual scope s.heap.objs.size f cd::outer)->B.get? b=some o:=st
 rw[hff]at u st'
 have hLo:∃ o,s1.heap.get? s.heap.objs.size=some o:=by
  obtain⟨m,⟨o,_,_,ho,_⟩,_⟩:=I.loc
  exact⟨o,ho⟩
 have hL2:H2 s.heap.objs.size=none:=by
  obtain⟨o,ho⟩:=hLo
  exact u.free _ o ho hL (by simp)
 have old:∀ b,(H2 b≠none\/s.heap.get? b≠none)->b∉frs outer->∃ o,s2.heap.get? b=some o/\B.get? b=some o:=fun b hb hno=>by
  have hne:b≠s.heap.objs.size:=by
   rcases hb with z | z
   ·intro q;rw[q]at z;exact z hL2
   ·obtain⟨o,z⟩:=J6 z
    exact m6 (i7 z)
  have hm:b∉s.heap.objs.size::frs outer:=fun hm=>by
   rcases c5.mp hm with q | q
   ·exact hne q
   ·exact hno q
  rcases hb with z | z
  ·obtain⟨o,z'⟩:=J6 z
   obtain⟨o',ho⟩:=(hok b o z').there
   exact⟨o',ho,st' b o' ho (.inl z) hm⟩
  ·obtain⟨o,z⟩:=J6 z
   obtain⟨o1,h1⟩:=hbs.there b o z (by simp)
   obtain⟨o2,h2⟩:=u.there b o1 h1 (by simp)
   exact⟨o2,h2,st' b o2 h2 (.inr (by rw[h1];simp)) hm⟩
 have u2:Un (frs outer) [] H H2 s.heap s2.heap:=by
  refine⟨fun b o e n hb hx=>?_,fun b o e n hb hx=>?_,fun b o e n hx=>?_,fun b o e hx=>?_,fun b xs e=>u.tups b xs (hbs.tups b xs e),fun b o v e=>u.frzs b o v (hbs.frzs b o v e),fun b ps e=>?_⟩
  ·refine u.keep b o (hbs.keep b o e n hb hx) (hbs.free b o e n hx) (fun hm=>?_) hx
   rcases c5.mp hm with q | q
   ·exact m6 (i7 e) q
   ·exact hb q
  ·obtain⟨sl,e1⟩:=hbs.slot b o e n hb hx
   obtain⟨sl2,e2⟩:=u.slot b _ e1 (hbs.free b o e n hx) (b8 _ hb) hx
   exact⟨sl2,e2⟩
  ·obtain⟨o',e1⟩:=hbs.there b o e hx
   exact u.free b o' e1 (hbs.free b o e n hx) hx
  ·obtain⟨o',e1⟩:=hbs.there b o e hx
   exact u.there b o' e1 hx
  ·obtain⟨m1,e1⟩:=hbs.tbls b ps e
   obtain⟨m2,e2⟩:=u.tbls b _ e1
   exact⟨m1++m2,by rw[e2,aA1]⟩
 have frNone:∀ b∈frs outer,H2 b=none:=fun b hb=>by
  have h1:=I.stkFree b (by
   show b∈frs (F6 qual scope s.heap.objs.size f cd::outer)
   rw[hff]
   exact b8 _ hb)
  obtain⟨_,o,ho,_⟩:=hst.mem (b:=b) (by
   show b∈frs (F6 qual scope s.heap.objs.size f cd::outer)
   rw[hff]
   exact b8 _ hb)
  exact u.free b o ho h1 (by simp)
 refine wpAny_leaves_onW hfr rfl fl fun h' x1 x2=>?_
 have stay:∀ b o,s2.heap.get? b=some o->(H2 b≠none\/s.heap.get? b≠none)->b∉frs outer->h'.get? b=some o:=fun b o ho hb hno=>by
  obtain⟨o',ho',hB⟩:=old b hb hno
  rw[ho]at ho'
  cases ho'
  exact x1.1 b o hB
 refine⟨x,cls,H2,rfl,hos.trans I.os,hb2,u2.onto (fun b o ho hh hno=>stay b o ho (.inr hh) hno) (fun b o ho hh hm=>?_),hok.stays fun b o ho hh=>stay b o ho (.inl hh) fun hm=>hh (frNone b hm),?_,hxn,⟨B,a0,x1,fun b o ho hb hno=>?_⟩,hE⟩
 ·obtain⟨_,o',ho',hd⟩:=fl.2.2.1.mem (b:=b) (by
   show b∈frs (F6 qual scope s.heap.objs.size f cd::outer)
   rw[hff]
   exact b8 _ hm)
  rw[ho]at ho'
  cases ho'
  exact x2 b o ho hd
 ·cases q:s.heap.get? x with
  | none=>rfl
  | some o =>
   obtain⟨o',z⟩:=hbs.there x o q (by simp)
   rw[new]at z
   cases z
 ·obtain⟨o',ho',hB⟩:=old b hb hno
  have:=stay b o' ho' hb hno
  rw[ho]at this
  cases this
  exact hB
end
theorem Fun.okX {K:W.Frag} {mg:Str->Option Value} {base:Heap} {st:Stmt} {k:Nat} {sp:Sp} (F:Fun K x qual st f fd) (S:p9 N ps (m9 st))
  (hbody : ∀ (cdv : Value) (A : Around) (outer : List Env) (s : Shared) (H : Hp) (vs : List V) (Q : VK) (E : XK), Y7 k (A.deeper (F6 qual (m9 st) s.heap.objs.size f cdv)) -> sp vs H Q E ->
   ∃ t,PSs (X6 (CXE P w) P w K mg base N qual (m9 st) f cdv A outer s H E) (V7 st) t/\t { nx:=fun _ H'=>Q .non H',rt:=Q } (start N vs) H) (len:∀ vs H Q E,sp vs H Q E->vs.length=ps.length:=by intro _ _ _ _ h;repeat first | (obtain⟨rfl,_⟩:=h;rfl) | obtain⟨_,h⟩:=h):p0 P w K mg base (CXE P w) (k+1) f fd ps sp:=by
 obtain⟨oc,od,kV,doc,pm,an,cdv,ct,osl,rfl,lk,hcd⟩:=F.ex
 exact bB6 lk hcd S len fun A outer s H vs Q E hr hsp=>hbody cdv A outer s H vs Q E hr hsp
theorem bx2 {K:W.Frag}{mg:Str->Option Value}{base:Heap}{cd:Value}{E:XK} :
  PassesOwn (t7 P w) (X6 (CXE P w) P w K mg base N qual scope f cd A outer s H E).A (X6 (CXE P w) P w K mg base N qual scope f cd A outer s H E).env (X6 (CXE P w) P w K mg base N qual scope f cd A outer s H E).xe:=PassesOwn.leaving
structure ag1 (K:W.Frag) (C:Addr):Prop where
 q:PySem.W.excIn K C [.type "ValueError",.type "Exception",.type "BaseException",.type "object"] "ValueError.__new__"=true
abbrev bmV:List Value:=[.type "ValueError",.type "Exception",.type "BaseException",.type "object"]
theorem cc6 {K:W.Frag}(KI:K.In h)(c:ag1 K C):∃ bm N nm q bs hd sn sub ab col dd k0 k1 k2 k3 k5 mN,h.get? C=some (excClassObj nm q C N bs bm hd sn sub ab col dd k0 k1 k2 k3 k5 "ValueError.__new__") /\
  h.Ns N mN/\mN "__init__"=none/\OwnTail h bmV bm:=by
 have z:=c.q
 revert z
 unfold PySem.W.excIn
 split
 ·rename_i d1 c1 s1 hl
  split
  ·rename_i D bm y0 y1 y2 y3 nn y5 e1 e2
   intro z
   rw[n8,n8,n8,n8,n8]at z
   obtain⟨⟨⟨⟨⟨z1,z2⟩,z3⟩,z4⟩,z5⟩,z6⟩:=z
   have z1':D=C:=beq_iff_eq.mp z1
   have z2':nn="ValueError.__new__":=beq_iff_eq.mp z2
   have z6':=beq_iff_eq.mp z6
   subst z1' z2'
   obtain⟨w1,w2,w3,w4,w5,w6,w7,w8,w9,w10,w11⟩:=c1
   dsimp only at e1 z3 z5 z6'
   subst e1
   have z3':w11=false:=by simpa using z3
   subst z3'
   have e3:s1=#[y0,y1,y2,y3,some (.builtin "ValueError.__new__"),y5]:=by
    obtain⟨l1⟩:=s1
    exact congrArg Array.mk e2
   subst e3
   exact⟨bm,w4,w1,w5,w2,w6,w7,w8,w9,w10,d1,y0,y1,y2,y3,y5,_,KI _ _ hl,.of_isNs (PySem.W.isNs_of_in KI z5),PySem.W.nsMap_none_of_in KI z5 z6',PySem.W.tail_of_in KI z4⟩
  ·intro z;cases z
 ·intro z;cases z
section
variable {K:W.Frag} {mg:Str->Option Value} {base:Heap} {cd:Value} {E:XK}
def bV1 (E:XK)(C:Addr):TS:=fun _ _ H=>E (.ref C) none H
theorem ac6 {txt:Str}{np cp ep:Pos}(hg:Gl (X6 (CXE P w) P w K mg base N qual scope f cd A outer s H E) x)(hm:mg x=some (.ref C))(c:ag1 K C)(hd:(x == ("__debug__":Str))=false:=by decide) :
  PS (X6 (CXE P w) P w K mg base N qual scope f cd A outer s H E) (.Raise (some (.Call (.Name x np) [.Constant (.str txt) j cp] [] ep)) none pos) (bV1 E C):=by
 intro pins s1 σ H1 D I hE
 have hh:(X6 (CXE P w) P w K mg base N qual scope f cd A outer s H E).A.handled=none:=I.ok.hd rfl
 obtain⟨bm,N',nm,q,bs,hdc,sn,sub,ab,col,dd,k0,k1,k2,k3,k5,mN,hC,hN,hni,T⟩:=cc6 I.kIn c
 refine wpAny_Raise_call_subT (C:=C) (nm:=nm) (q:=q) (N:=N') (bs:=bs) (bm:=bm) (hdct:=hdc) (sn:=sn) (sub:=sub) (ab:=ab) (col:=col) (dd:=dd) (k0:=k0) (k1:=k1) (k2:=k2) (k3:=k3) (k5:=k5)
  PySem.F.excBase_ValueError (mN:=mN) (T.hasType (by decide +kernel)) hh rfl hni (ar9 I hg hm ⟨rfl,?_⟩ hd)
 refine Calls.evalArgs_plain ?_
 refine PyProof.Rows.spliced_more (Calls.Constant_str ?_)
 refine PyProof.Rows.spliced_none ⟨rfl,by show 1<=d8;decide,hC,hN,T,fun h' e hx=>?_⟩
 exact bG4 (I.tok _) hx hE
end
def bg1 (X:Cx)(pins:List (Addr × Obj))(E:St->XK):Cx:={ X with pn:=X.pn++pins,xe:=fun e s'=>∃ σ H s,Inv X pins σ H s/\CXE X.prog X.w X.stack H s (E σ) e s' }
def cc3 (X:Cx)(v:Value):Cx:={ X with A:=X.A.mark (some v),calm:=false,xe:=fun _ _=>False }
section
variable {pins':List (Addr × Obj)} {E:St->XK}
theorem Inv.toTry (I:Inv X pins σ H s):Inv (bg1 X pins E) [] σ H s:=
  ⟨⟨I.ok.mod, I.ok.kind, I.ok.glob, I.ok.blt, I.ok.above, I.ok.inj, I.ok.has, I.ok.cab, I.ok.hd, I.ok.frames, I.ok.stk, I.ok.exf, I.ok.bs, I.ok.bsz, I.ok.noex, I.ok.exfs, I.ok.funs, I.ok.frf⟩,
    I.os,I.bare,I.base,I.loc,I.cell,I.free,I.freeC,fun p hp=>I.pin p (by
      rcases m7.mp hp with z | z
      · exact z
      · cases z),I.hok,I.len⟩
theorem Inv.ofTry (I:Inv (bg1 X pins E) pins' σ H s):Inv X pins σ H s:=
  ⟨⟨I.ok.mod, I.ok.kind, I.ok.glob, I.ok.blt, I.ok.above, I.ok.inj, I.ok.has, I.ok.cab, I.ok.hd, I.ok.frames, I.ok.stk, I.ok.exf, I.ok.bs, I.ok.bsz, I.ok.noex, I.ok.exfs, I.ok.funs, I.ok.frf⟩,
    I.os,I.bare,I.base,I.loc,I.cell,I.free,I.freeC,fun p hp=>I.pin p (F1 _ hp),I.hok,I.len⟩
theorem Inv.toHd (I:Inv X pins σ H s) (v:Value):Inv (cc3 X v) pins σ H s:=
  ⟨⟨I.ok.mod, I.ok.kind, I.ok.glob, I.ok.blt, I.ok.above, I.ok.inj, I.ok.has, I.ok.cab, (fun z => by cases z), I.ok.frames, I.ok.stk, I.ok.exf, I.ok.bs, I.ok.bsz, I.ok.noex, I.ok.exfs, I.ok.funs, I.ok.frf⟩,
    I.os,I.bare,I.base,I.loc,I.cell,I.free,I.freeC,I.pin,I.hok,I.len⟩
theorem Inv.ofHd (I:Inv (cc3 X v) pins σ H s) (hd:X.calm=true->X.A.handled=none):Inv X pins σ H s:=
  ⟨⟨I.ok.mod, I.ok.kind, I.ok.glob, I.ok.blt, I.ok.above, I.ok.inj, I.ok.has, I.ok.cab, hd, I.ok.frames, I.ok.stk, I.ok.exf, I.ok.bs, I.ok.bsz, I.ok.noex, I.ok.exfs, I.ok.funs, I.ok.frf⟩,
    I.os,I.bare,I.base,I.loc,I.cell,I.free,I.freeC,I.pin,I.hok,I.len⟩
end
def bl0 (CX:CXT)(X:Cx)(E:St->XK):Prop:=∀ (pins:List (Addr × Obj)) (σ:St) (H:Hp) (s:Shared) (e:Value) (s':Shared),Inv X pins σ H s->CX X.stack H s (E σ) e s'->X.xe e s'
theorem bh7 {E:St->XK}:bl0 (CXE X.prog X.w) (bg1 X pins E) E:=fun _ σ H s _ _ I h=>⟨σ,H,s,I.ofTry,h⟩
def bV3 (sp:Sp)(E:St->XK)(t:TA):TE:=fun σ H Q=>t σ H fun vs H1=>sp (vs++[]) H1 Q (E σ)
section
variable {CX:CXT} {k:Nat} {sp:Sp} {E:St->XK} {p:Pos} {t:TA}
theorem aT6 (F:p0 X.prog X.w X.K X.mg X.base CX k f fd ps sp)(hr:Y7 k X.A)(hg:Gl X x)(hm:X.mg x=some (.ref f))(hk:W5 X.K (.ref f)=true)(hb:Binds X.K fd ps [])(hx:bl0 CX X E)
  (ha:PA X (e::es) t)(hdb:(x == ("__debug__":Str))=false:=by decide)(he:B0 (e::es) X.env=(false,eval e X.env)::B0 es X.env:=by rfl)(hpl:(Z1 pos (B0 es X.env)).any (·.1)=false:=by rfl) :
  PE X (.Call (.Name x p) (e::es) [] pos) (bV3 sp E t):=by
 intro pins s σ H Q I h
 refine R3 (ar9 I hg hm ?_ hdb)
 refine PySem.W.callWith_K (h₀:=X.base) I.ok.mod.kin hk (thn (ha pos pins s σ H _ I h) fun us s1 ⟨vs,H1,I1,r,q⟩=>⟨I1.kIn,?_⟩) he hpl
 have r2:B7 (vs++[]) (us++[]):=r.append .nil
 have hl:(us++[]).length=ps.length:=by rw[<- r2.length];exact F.len _ _ _ _ q
 refine bE5 (ak5 (F.run X.A X.stack s1 H1 ⟨us,[]⟩ (us++[]) (vs++[]) Q (E σ) hr I1.env0 (hb s1 us I1.kIn hl) r2 q) fun r s' hq=>?_)
 cases r with
 | error e=>exact hx pins σ H1 s1 e s' I1 hq
 | ok fl =>
  cases fl with
  | ret u=>exact I1.after hq
  | next=>exact False.elim hq
  | brk=>exact False.elim hq
  | cont=>exact False.elim hq
end
end L2
set_option maxRecDepth 100000
namespace L2
open PySem PySem.Spec PyProof.Rows PySem.W
structure cr9 (K:W.Frag) (C:Addr):Prop where
 ga:findIn K (.ref C) "__getattribute__"=some (some (.builtin "BaseException.__getattribute__"))
 na:findIn K (.ref C) "__getattr__"=some none
 cl:findIn K (.ref C) "__class__"=some (some (.builtin "object.__class__"))
 sb:subIn K (.ref C) (.type "BaseException")=some true
 so:subIn K (.ref C) (.type "object")=some true
 cs:(clsIn K C).isSome=true
section
variable {g:Array bF7} {d:Drawn} {t:Nat} {os:OsState} {o:Obj} {K:W.Frag}
end
end L2
namespace L2
open PySem PySem.Spec PyProof.Rows
theorem Fun.okXC {K:W.Frag} {mg:Str->Option Value} {base:Heap} {st:Stmt} {c:Addr} {k:Nat} {sp:Sp} (F:Fun K x qual st f fd) (hc:fd.code=.ref c) (S:p9 N ps (m9 st))
  (hbody : ∀ (A : Around) (outer : List Env) (s : Shared) (H : Hp) (vs : List V) (Q : VK) (E : XK), Y7 k (A.deeper (F6 qual (m9 st) s.heap.objs.size f (.ref c))) -> sp vs H Q E ->
   ∃ t,PSs (X6 (CXE P w) P w K mg base N qual (m9 st) f (.ref c) A outer s H E) (V7 st) t/\t { nx:=fun _ H'=>Q .non H',rt:=Q } (start N vs) H) (len:∀ vs H Q E,sp vs H Q E->vs.length=ps.length:=by intro _ _ _ _ h;repeat first | (obtain⟨rfl,_⟩:=h;rfl) | obtain⟨_,h⟩:=h):p0 P w K mg base (CXE P w) (k+1) f fd ps sp:=by
 obtain⟨oc,od,kV,doc,pm,an,cdv,ct,osl,rfl,lk,hcd⟩:=F.ex
 have hc':cdv=.ref c:=hc
 subst hc'
 exact bB6 lk hcd S len fun A outer s H vs Q E hr hsp=>hbody A outer s H vs Q E hr hsp
theorem bt6 {K:W.Frag}{c P:Addr}{oc:Value}{od:Option Addr}{sl:Array (Option Value)}(ht:PySem.W.tabIn K x=some (c,P))(hn:d7 K d4 x=some (some (.ref f)))(hl:K.lookup f=some ⟨oc,od,.func fd,sl⟩):fd.code=.ref c:=by
 unfold PySem.W.tabIn at ht
 rw[hn]at ht
 dsimp only at ht
 rw[hl]at ht
 dsimp only at ht
 split at ht
 ·rename_i c₂ hc
  split at ht
  ·split at ht
   ·cases ht;exact hc
   ·cases ht
  ·cases ht
 ·cases ht
theorem bp3 {K:W.Frag}{mg mb:Str->Option Value}{CX:CXT}{k:Nat}{fa:Addr}{sp:Sp}{s₁:Shared}{ts:List (Addr × Addr)}(hT:PySem.W.TabsAt ts s₁.heap)(hK0:PySem.W.noTabs K=true)
  (hbm:∃ bm ob,mg "__builtins__"=some (.ref bm)/\bm≠aP8/\s₁.heap.get? bm=some ob/\ob.cls=.type "module"/\ob.dict=some aP8/\ob.data=.plain)
  (KX:K.In s₁.heap)(hns:s₁.heap.Ns d4 mg)(hb:s₁.heap.Ns aP8 mb)(hbb:∀ x:Str,x≠"__name__"->mb x=N1 x)(hlim:s₁.heap.NoLimit)(hg:s₁.gens=#[])
  (ha:s₁.heap.get? a=some { cls:=.type "list",data:=.seq vs.toArray })(hi:G6 vs ns)(hl:ns.length<=d8)(hr:Y7 k bl6)
  (F:∀ base:Heap,K.In base->base.Ns d4 mg->(∀ q∈ts,aF5 base mg q.1 q.2)->p0 P w K mg base CX k fa fd [x] sp)(hbind:∀ (s:Shared) (u:Value),bl4 s fd ⟨[u],[]⟩ [(x,u)])
  (hsp:∀ H:Hp,(∀ q∈ts,H q.2=some (.tbl #[]))->SqL K H a (ns.map V.int)->sp [.ref a] H (fun v _=>v=.bl true) fun _ _ _=>False)
  (hCX:∀ H e s',CX [] H s₁ (fun _ _ _=>False) e s'->False) :
  aG5 (t7 P w) bl6 (.call (.ref fa) ⟨[.ref a],[]⟩) (fun r s'=>r=.ok (.ret (.bool true))/\OldK s₁.heap s'.heap/\s'.os=s₁.os/\aq1 s'.gens) s₁:=by
 have rv:=ak9 hi
 have lenV:=hi.length
 have tabO:∀ b,b∈ts.map (·.2)->s₁.heap.get? b=some (PySem.W.tabObj #[]):=fun b hb=>by
  obtain⟨q,hq,rfl⟩:=k9.mp hb
  exact(hT q hq).2
 have aT:a∉ts.map (·.2):=fun z=>by
  have e:=tabO a z
  rw[ha]at e
  cases e
 have core:∀ H:Hp,(∀ b,b∈ts.map (·.2)->H b=some (.tbl #[]))->(∀ b,b∉ts.map (·.2)->H b=none\/∃ o xs,H b=some (.frz o (.lst xs)))->SqL K H a (ns.map V.int)->HOk P w H s₁.heap->(∀ b,H b≠none->b=a\/b∈ts.map (·.2))->(H a≠none->K.lookup a=none) ->
   aG5 (t7 P w) bl6 (.call (.ref fa) ⟨[.ref a],[]⟩) (fun r s'=>r=.ok (.ret (.bool true))/\OldK s₁.heap s'.heap/\s'.os=s₁.os/\aq1 s'.gens) s₁:=by
  intro H hHt hO hS hok hA hK
  have base_of:∀ {b:Addr} {o:Obj},s₁.heap.get? b=some o->H b=none->(aH7 s₁.heap H).get? b=some o:=fun e n=>bB2 e n
  have free_of:∀ {b:Addr} {o:Obj},s₁.heap.get? b=some o->(∀ xs n,o≠{ cls:=.type "list",data:=.seq xs n })->o≠PySem.W.tabObj #[]->H b=none:=fun {b o} e n1 n2=>by
   cases q:H b with
   | none=>rfl
   | some u =>
    rcases hA b (by rw[q];simp) with e' | e'
    ·subst e'
     rw[ha]at e;cases e
     exact absurd rfl (n1 _ _)
    ·rw[tabO b e']at e;cases e
     exact absurd rfl n2
  have noA:∀ {b:Addr} {o:Obj} {es:Array DictEntry} {ep:Nat},s₁.heap.get? b=some o->o.data=.dict es ep->H b=none:=fun {b o es ep} e d=>free_of e (fun xs n z=>by subst z;cases d) (fun z=>by subst z;cases d)
  have nsK:∀ {b:Addr} {m:Str->Option Value},s₁.heap.Ns b m->(aH7 s₁.heap H).Ns b m:=fun {b m} ⟨o,es,ep,e,d,r⟩=>⟨o,es,ep,base_of e (noA e d),d,r⟩
  have hKb:K.In (aH7 s₁.heap H):=fun b o e=>base_of (KX b o e) (by
   cases q:H b with
   | none=>rfl
   | some u =>
    rcases hA b (by rw[q];simp) with e' | e'
    ·subst e'
     rw[hK (by rw[q];simp)]at e;cases e
    ·have e1:=KX b o e
     rw[tabO b e']at e1
     cases e1
     have h2:=A6.mp hK0 _ (PySem.W.mem_of_lookupK e)
     exact absurd (show false=true from h2) i6)
  have hM:Mod K mg (aH7 s₁.heap H):=⟨hKb,nsK hns,⟨mb,nsK hb,hbb⟩,let ⟨mc,h1,h2⟩:=hlim;⟨mc,nsK h1,h2⟩⟩
  have hLB:∀ q∈ts,aF5 (aH7 s₁.heap H) mg q.1 q.2:=fun q hq=>by
   obtain⟨C,eP⟩:=hT q hq
   refine⟨?_,?_,?_⟩
   ·obtain⟨o,vs,file,tf,flags,tg,inF,text,tt,e1,r1,r2⟩:=C
    exact⟨o,vs,file,tf,flags,tg,inF,text,tt,base_of e1 (free_of e1 (fun xs n z=>by subst z;exact absurd (show Value.type "list"=Value.type "code" from r1) (by decide)) (fun z=>by subst z;cases r1)),r1,r2⟩
   ·obtain⟨bm,ob,b1,b2,b3,b4,b5,b6⟩:=hbm
    refine⟨bm,ob,b1,b2,fun z=>?_,fun z=>?_,base_of b3 (free_of b3 (fun xs n z=>by subst z;exact absurd (show Value.type "list"=Value.type "module" from b4) (by decide)) (fun z=>by subst z;cases b4)),b4,b5,b6⟩
    ·obtain⟨o,es,ep,e,d,_⟩:=hns
     rw[z,e]at b3;cases b3;rw[d]at b6;cases b6
    ·rw[z,eP]at b3;cases b3;cases b4
   ·intro z
    obtain⟨o,es,ep,e,d,_⟩:=hns
    rw[z,eP]at e;cases e;cases d
  have e0:bO6 P w K mg (aH7 s₁.heap H) bl6 [] s₁ H:=⟨rfl,hM,fun b o e=>bL9 e,at4 (bp9 _ _),trivial,fun b hb=>absurd (show b∈([]:List Addr) from hb) (by simp),hok,.of_eq hg⟩
  refine ak5 ((F _ hKb (nsK hns) hLB).run bl6 [] s₁ H ⟨[.ref a],[]⟩ [.ref a] [.ref a] _ _ hr e0 (hbind s₁ (.ref a)) (.cons rfl .nil) (hsp H (fun q hq=>hHt _ (List.mem_map_of_mem hq)) hS)) fun r s' h=>?_
  cases r with
  | error e=>exact(hCX H e s' h).elim
  | ok fl =>
   cases fl with
   | next=>exact False.elim h
   | brk=>exact False.elim h
   | cont=>exact False.elim h
   | ret u =>
    obtain⟨v,H',os,bare,un,hok',r',q⟩:=h
    have q':v=.bl true:=q
    subst q'
    obtain rfl:u=Value.bool true:=r'
    have keep:∀ b o,b∉ts.map (·.2)->s₁.heap.get? b=some o->s'.heap.get? b=some o:=fun b o hb e=>by
     rcases hO b hb with z | ⟨ob,xs,z⟩
     ·exact un.keep b o e z (by intro z;exact absurd (show b∈([]:List Addr) from z) (by simp)) (by simp)
     ·have z2:=un.frzs b ob _ z
      obtain⟨e1,_⟩:=hok b _ z
      obtain⟨e2,_⟩:=hok' b _ z2
      rw[e]at e1;cases e1
      exact e2
    have grown:∀ b o,b∈ts.map (·.2)->s₁.heap.get? b=some o->isCodeTable s₁.heap b/\o=PySem.W.tabObj #[]/\∃ ps,s'.heap.get? b=some (PySem.W.tabObj ps):=fun b o hb e=>by
     obtain⟨ps,hp⟩:=un.tbls b #[] (hHt b hb)
     have e2:=tabO b hb
     rw[e]at e2
     obtain⟨q,hq,eq⟩:=k9.mp hb
     have e3:s'.heap.get? b=some (PySem.W.tabObj (#[]++ps)):=hok' b _ hp
     refine⟨?_,Option.some.inj e2,_,e3⟩
     rw[<- eq]
     exact((hT q hq).1.tab (hT q hq).2).isCodeTable
    refine⟨rfl,⟨fun b o e=>?_,fun b o e=>?_⟩,os,bare⟩
    ·by_cases hb:b∈ts.map (·.2)
     ·obtain⟨ht,rfl,ps,hP⟩:=grown b o hb e
      exact .inr (.inl ⟨ht,rfl,#[],ps,rfl,by rw[Array.empty_append];exact hP⟩)
     ·exact .inl (keep b o hb e)
    ·by_cases hb:b∈ts.map (·.2)
     ·obtain⟨_,_,ps,hP⟩:=grown b o hb e
      exact⟨_,hP⟩
     ·exact⟨o,keep b o hb e⟩
 cases hk:K.lookup a with
 | some o =>
  have e:=KX a o hk
  rw[ha]at e
  cases e
  refine core (fun b=>if b∈ts.map (·.2) then some (.tbl #[]) else none) (fun b hb=>if_pos hb) (fun b hb=>.inl (if_neg hb)) (.inr ⟨_,vs.toArray,_,hk,rfl,rfl,rfl,by rw[d9,lenV];exact hl,by simpa using rv⟩) (fun b u z=>?_) (fun b z=>?_) fun z=>absurd (if_neg aT) z
  ·by_cases hb:b∈ts.map (·.2)
   ·have z':=(if_pos hb).symm.trans z
    cases z'
    exact tabO b hb
   ·have z':=(if_neg hb).symm.trans z
    cases z'
  ·by_cases hb:b∈ts.map (·.2)
   ·exact .inr hb
   ·exact absurd (if_neg hb) z
 | none =>
  have e1:∀ b,b∈ts.map (·.2)->(if b∈ts.map (·.2) then some (HO.tbl #[]) else if b=a then some (.frz { cls:=.type "list",data:=.seq vs.toArray } (.lst (ns.map V.int))) else none)=some (HO.tbl #[]):=fun b hb=>if_pos hb
  have e2:∀ b,b∉ts.map (·.2)->(if b∈ts.map (·.2) then some (HO.tbl #[]) else if b=a then some (.frz { cls:=.type "list",data:=.seq vs.toArray } (.lst (ns.map V.int))) else none)=(if b=a then some (.frz { cls:=.type "list",data:=.seq vs.toArray } (.lst (ns.map V.int))) else none):=fun b hb=>if_neg hb
  refine core (fun b=>if b∈ts.map (·.2) then some (HO.tbl #[]) else if b=a then some (.frz { cls:=.type "list",data:=.seq vs.toArray } (.lst (ns.map V.int))) else none) e1 (fun b hb=>?_) (.inl (.inr ⟨{ cls:=.type "list",data:=.seq vs.toArray },(e2 a aT).trans (if_pos rfl)⟩)) (fun b u z=>?_) (fun b z=>?_) fun _=>hk
  ·rw[e2 b hb]
   by_cases hba:b=a
   ·exact .inr ⟨_,_,if_pos hba⟩
   ·exact .inl (if_neg hba)
  ·by_cases hb:b∈ts.map (·.2)
   ·have z':=(e1 b hb).symm.trans z
    cases z'
    exact tabO b hb
   ·have z1:=(e2 b hb).symm.trans z
    by_cases hba:b=a
    ·have z':=(if_pos hba).symm.trans z1
     cases z'
     subst hba
     exact⟨ha,by rw[a5];exact hl,vs,_,rv,ha⟩
    ·have z':=(if_neg hba).symm.trans z1
     cases z'
  ·by_cases hb:b∈ts.map (·.2)
   ·exact .inr hb
   ·by_cases hba:b=a
    ·exact .inl hba
    ·exact absurd ((e2 b hb).trans (if_neg hba)) z
theorem walk_ofT {l:PySem.W.OpenLaw} {k:Nat} {q:Program} {loose:List Str} {d:DefRec} {K:Params->PySem.W.Frag} {CX:World->CXT} {sp:World->List (Addr × Addr)->Sp} {ts:World->List (Addr × Addr)}
  (hn:l.most=some n) (hn2:n<=d8) (hdf:d.params.defaults=[]) (hr:Y7 k bl6)
  (hY:∀ (w:World) (h:Heap),YP w h->(K w.params).In h) (hK0:∀ w:World,PySem.W.noTabs (K w.params)=true)
  (hts:∀ (w:World) (loose:List Str) (mean:ExcName->Option Value) (mg mb:Str->Option Value) (h:Heap),Top q loose mean mg mb h->(K w.params).In h->PySem.W.TabsAt (ts w) h)
  (F : ∀ (w : World) (mg : Str -> Option Value) (fa : Addr) (h : Heap), (K w.params).In h -> h.Ns d4 mg -> mg d.name = some (.ref fa) ->
   ∃ fd:FuncData,(∀ (s:Shared) (u:Value),bl4 s fd ⟨[u],[]⟩ [(x,u)]) /\
    ∀ base:Heap,(K w.params).In base->base.Ns d4 mg->(∀ q∈ts w,aF5 base mg q.1 q.2)->p0 l.prog w (K w.params) mg base (CX w) k fa fd [x] (sp w (ts w)))
  (hsp:∀ (w:World) (H:Hp) (a:Addr) (ns:List Int),ns.length<=n->(∀ q∈ts w,H q.2=some (.tbl #[]))->SqL (K w.params) H a (ns.map V.int)->sp w (ts w) [.ref a] H (fun v _=>v=.bl true) fun _ _ _=>False)
  (hCX:∀ (w:World) (H:Hp) (s:Shared) (e:Value) (s':Shared),CX w [] H s (fun _ _ _=>False) e s'->False) :
  PySem.W.WalkO q loose XP YP l.row.toRowW d [] (fun f vs=>PySem.call f vs):=by
 refine Att.attach_call hn hdf fun w s₀ s₁ mg mb fa o pm cd doc a vs ns G Y ho hd hcd hmg hobj hints hlen hg=>?_
 have KX:=hY w _ Y
 obtain⟨fd,hb,hF⟩:=F w mg fa _ KX G.T.g hmg
 exact bp3 (hts w _ _ _ _ _ G.T KX) (hK0 w) G.T.bmain KX G.T.g G.T.b G.T.builtins G.T.nolimit hg hobj hints (t9 hlen hn2) hr hF hb (fun H hO hS=>hsp w H a ns hlen hO hS) fun H e s'=>hCX w H s₁ e s'
theorem bD0 {items:Array Value}{x:Int}{t:Tok}(e:s.heap.get? l=some { cls:=.type "list",data:=.seq items n })(hsz:items.size<=d8)(h0:-(2 ^ 63)<=x)(h1:x<2 ^ 63)
  (h:Q .none { s with heap:=s.heap.update l (Obj.mapSeq fun xs=>have k:=if x<0 then (x+(xs.size:Int)).toNat else min x.toNat xs.size;(xs.extract 0 k).push u++xs.extract k),toks:=s.toks }) :
  v7 (t7 prog w) A (call (.builtin "list.insert") [.ref l,.int x t,u]) Q E s :=
 ag4 F.slot_list_insert ⟨_,e,rfl⟩ F.entry_list_insert (F.args_list_insert_3 _ _ _) (PySem.AutoSeq1.list_insert_list_int_val_1 l items n x t u (by rw[show Builtin.List.listFitsIndex x=true from fitsIndex_both h0 h1];decide) hsz) ⟨e,h⟩
def bI8:V->List V->Hp->VK->Prop:=fun x vs H Q=>∃ l xs y,∃ i:Nat,x=.ref l/\vs=[.int i,y]/\H l=some (.lst xs)/\i<=xs.length/\xs.length<1000/\Q .non (upd H l (.lst (xs.take i++[y]++xs.drop i)))
theorem bo9:MtM X "list.insert" bI8:=by
 intro pins s σ H x vs v us Q I rx rv h
 obtain⟨l,xs,y,i,rfl,rfl,hH,hi,hz0,q⟩:=h
 cases rx
 cases rv with
 | cons r1 rr =>
  cases rr with
  | cons ru rr =>
   cases rr
   obtain⟨t,rfl⟩:=r1
   rename_i u
   obtain⟨z,its,n,r,hl,e⟩:=I.lstM hH
   have hsl:1000<d8:=by decide
   have hsz:its.toArray.size<=d8:=by rw[d9];omega
   refine bD0 (x:=(i:Int)) e hsz (Int.le_trans (show (-(2 ^ 63):Int)<=0 by decide) (ce3 i)) (Int.lt_trans (show (i:Int)<1000 by omega) (by decide)) ?_
   refine⟨.non,_,I.lset (its':=its.take i++[u]++its.drop i) hH e ?_ ((r.take i).append (.cons ru .nil) |>.append (r.drop i)) ?_,rfl,q⟩
   ·have hk:(if (i:Int)<0 then ((i:Int)+(its.toArray.size:Int)).toNat else min (i:Int).toNat its.toArray.size)=i:=by
     rw[if_neg (by omega),d9,j6]
     omega
    show ((its.toArray.extract 0 (if (i:Int)<0 then ((i:Int)+(its.toArray.size:Int)).toNat else min (i:Int).toNat its.toArray.size)).push u++its.toArray.extract (if (i:Int)<0 then ((i:Int)+(its.toArray.size:Int)).toNat else min (i:Int).toNat its.toArray.size))=_
    rw[hk]
    apply ce4.mp
    simp
    exact k7 (by rw[A1];omega)
   ·rw[j2,j2,k8,A1,M4]
    omega
def bo4 (ns:List Int)(z:Int):List Int:=[-(ns.getD z.toNat 0),z]
theorem bK2 (ns:List Int)(z:Int):∃ i k,bo4 ns z=i::k:=⟨_,_,rfl⟩
def ole (ns:List Int)(x y:Int):Prop:=Tim.L9 (bo4 ns y) (bo4 ns x)=false
theorem R5 {x y:Int}:ole ns x y↔(ns.getD y.toNat 0<ns.getD x.toNat 0\/(ns.getD x.toNat 0=ns.getD y.toNat 0/\x<=y)):=by
 unfold ole bo4 Tim.L9
 by_cases h:-(ns.getD y.toNat 0) = -(ns.getD x.toNat 0)
 ·rw[if_pos h]
  unfold Tim.L9
  by_cases h2:y=x
  ·rw[if_pos h2]
   simp only[Tim.L9,true_iff]
   exact .inr ⟨by omega,by omega⟩
  ·rw[if_neg h2,decide_eq_false_iff_not]
   constructor
   ·intro h3;exact .inr ⟨by omega,by omega⟩
   ·intro h3 h4;omega
 ·rw[if_neg h,decide_eq_false_iff_not]
  constructor
  ·intro h3;exact .inl (by omega)
  ·intro h3 h4;omega
theorem aT9 {x y:Int}(h1:ole ns x y)(h2:ole ns y x):x=y:=by
 rw[R5]at h1 h2
 omega
theorem aC4 {zs' l:List Int}(p1:zs.Perm l)(p2:zs'.Perm l)(s1:zs.Pairwise (ole ns))(s2:zs'.Pairwise (ole ns)):zs=zs':=
 (p1.trans p2.symm).eq_of_pairwise (fun x y _ _ h1 h2=>aT9 h1 h2) s1 s2
theorem bK1 {at_:Nat}(hs:zs.Pairwise (ole ns))(hlt:∀ x∈zs,0<=x/\x<i)(hl:at_<=zs.length)(hge:∀ j x,j<at_->zs[j]?=some x->ns.getD i 0<=ns.getD x.toNat 0)
  (hstop:∀ x,zs[at_]?=some x->ns.getD x.toNat 0<ns.getD i 0):(zs.take at_++[(i:Int)]++zs.drop at_).Pairwise (ole ns):=by
 rw[v9,q8]
 have hi:(i:Int).toNat=i:=j6 i
 have hdrop:∀ y∈zs.drop at_,ns.getD y.toNat 0<ns.getD i 0:=fun y hy=>by
  cases e:zs.drop at_ with
  | nil=>rw[e]at hy;cases hy
  | cons x r =>
   have hx:zs[at_]?=some x:=by
    have:=M5 (xs:=zs) (i:=at_) (j:=0)
    rw[e]at this
    simpa using this.symm
   have h1:=hstop x hx
   rw[e]at hy
   rcases c5.mp hy with rfl | hy
   ·exact h1
   ·have hp:(zs.drop at_).Pairwise (ole ns):=hs.sublist (S1 _ _)
    rw[e]at hp
    have:=R5.mp ((E9.mp hp).1 y hy)
    omega
 refine⟨hs.sublist (E1 _ _),?_,fun x hx y hy=>?_⟩
 ·rw[bE4,E9]
  refine⟨fun y hy=>?_,hs.sublist (S1 _ _)⟩
  rw[R5,hi]
  exact .inl (hdrop y hy)
 ·obtain⟨j,hj⟩:=o5.mp hx
  have hj2:j<at_:=by
   have:=(d5.mp hj).1
   rw[k8]at this
   omega
  have hj3:zs[j]?=some x:=by rw[O3 hj2]at hj;exact hj
  have h1:=hge j x hj2 hj3
  have h2:=hlt x (b9 hj3)
  rw[bE4]at hy
  rcases c5.mp hy with rfl | hy
  ·rw[R5,hi]
   omega
  ·have h3:=hdrop y hy
   rw[R5]
   omega
theorem bA9 {l:List Int}{at_:Nat}{i:Int}(p:zs.Perm l):(zs.take at_++[i]++zs.drop at_).Perm (l++[i]):=by
 have h1:(zs.take at_++[i]++zs.drop at_).Perm (zs.take at_++zs.drop at_++[i]):=by
  rw[v9,v9]
  exact(as7).append_left _
 rw[A0]at h1
 exact h1.trans (p.append_right _)
end L2
namespace Web
open PySem L2
def W4 (ks:List (List Int))(p:Nat):Nat:=ks.countP fun k=>decide ((p:Int)∈k)
def tal (n:Nat)(ks:List (List Int)):List Int:=(A5 n).map fun p=>(W4 ks p:Int)
theorem Z9 (n:Nat)(ks:List (List Int)):(tal n ks).length=n:=by simp[tal]
theorem ae6 (h:p<n):(tal n ks)[p]?=some (W4 ks p:Int):=by
 unfold tal
 rw[o6,U8 h]
 rfl
theorem bq5 {ls:List (List Int)}(h:ks.Perm ls)(p:Nat):W4 ks p=W4 ls p:=h.countP_eq _
theorem bt4 {ls:List (List Int)}(h:ks.Perm ls)(n:Nat):tal n ks=tal n ls:=by
 unfold tal
 exact U9 fun p _=>by rw[bq5 h]
theorem aE8 (ks ls:List (List Int))(p:Nat):W4 (ks++ls) p=W4 ks p+W4 ls p:=List.countP_append
theorem bC8 (i j p:Nat):W4 [[(i:Int),(j:Int)]] p=if p=i\/p=j then 1 else 0:=by
 unfold W4
 rw[List.countP_singleton]
 by_cases h:p=i\/p=j
 ·rw[if_pos h,if_pos]
  simp only[decide_eq_true_eq,c5,D9,or_false]
  omega
 ·rw[if_neg h,if_neg]
  simp only[decide_eq_true_eq,c5,D9,or_false]
  omega
theorem bH4 (n:Nat):tal n []=C5 n 0:=by
 unfold tal W4
 rw[List.eq_replicate_iff]
 simp
theorem bH3 (hi:i<n)(hj:j<n)(h:i≠j)(ks:List (List Int))(z1 z2:Int)(e1:z1=W4 ks i)(e2:z2=W4 ks j) :
  ((tal n ks).set i (z1+1)).set j (z2+1)=tal n (ks++[[(i:Int),(j:Int)]]):=by
 subst e1 e2
 refine S2 fun p=>?_
 by_cases hp:p<n
 ·rw[ae6 hp,aE8,bC8,X9,X9,A3,Z9,ae6 hp]
  by_cases q1:j=p
  ·subst q1
   rw[if_pos rfl,if_pos hj,if_pos (.inr rfl)]
   simp
  ·rw[if_neg q1]
   by_cases q2:i=p
   ·subst q2
    rw[if_pos rfl,if_pos hi,if_pos (.inl rfl)]
    simp
   ·rw[if_neg q2,if_neg (by omega)]
    simp
 ·rw[t8 (by simp[Z9];omega),t8 (by rw[Z9];omega)]
end Web
namespace HT
open PySem PyProof.Rows
end HT
namespace L2
open PySem PySem.Spec PyProof.Rows
section
variable {st:Expr} {ts:TE} {p2:Pos}
def co9 (t u:TS):TS:=fun D σ H=>∃ Mid:St->Hp->Prop,t { D with nx:=Mid } σ H/\∀ σ' H',Mid σ' H'->u D σ' H'
theorem al3 {stm:Stmt}{rest:List Stmt}{t u:TS}(h1:PS X stm t)(h2:PSs X rest u):PSs X (stm::rest) (co9 t u):=by
 intro pins s σ H D I ⟨Mid,h,k⟩
 refine aZ4 (thn (h1 pins s σ H { D with nx:=Mid } I h) fun f s1 q=>?_)
 cases f with
 | next =>
  obtain⟨σ',H',I',q⟩:=q
  exact h2 pins s1 σ' H' D I' (k _ _ q)
 | ret v=>exact q
 | brk=>exact q
 | cont=>exact q
end
theorem bI0 (I:Inv X pins σ H s){p:Addr}(hq:SqL X.K H p (ns.map V.int)\/SqT X.K H p (ns.map V.int)):∃ (vs:List Value) (T:String) (o:Obj) (c:Nat),(T="list"\/T="tuple")/\s.heap.get? p=some o/\o.cls=.type T/\o.data=.seq vs.toArray c/\G6 vs ns:=by
 rcases hq with hq | hq
 ·obtain⟨its,r',pl,hz⟩:=I.list hq
  obtain⟨o,ho,hc,n,hd⟩:=pl.isList
  exact⟨its,"list",o,n,.inl rfl,ho,hc,hd,intsAre_of r'⟩
 ·obtain⟨its,r',pl,hz⟩:=I.tuple hq
  obtain⟨o,ho,hc,n,hd⟩:=pl
  exact⟨its,"tuple",o,n,.inr rfl,ho,hc,hd,intsAre_of r'⟩
theorem ba8 (I:Inv X pins σ H s){h1:Heap}{out:Array Value}(kp:∀ b o',s.heap.get? b=some o'->h1.get? b=some o')(hi:G6 out.toList zs)(hz:zs.length<=1000) :
  H h1.objs.size=none/\Inv X pins σ (upd H h1.objs.size (.lst (zs.map V.int))) { s with heap:=ao2 (h1.push (G2 "list" vs.toArray 0)) h1.objs.size vs out }:=by
 have I1:Inv X pins σ H { s with heap:=h1,toks:=s.toks }:=I.kept kp
 refine⟨I1.hok.fresh (c6 _),?_⟩
 have hoL:(h1.push (G2 "list" vs.toArray 0)).get? h1.objs.size=some (G2 "list" vs.toArray 0):=l5 _ rfl
 obtain⟨e,he⟩:=sortedHeap_at (out:=out) hoL
 refine I1.laid (t':=s.toks) (fun b o q=>?_) (c6 _) ⟨by rw[a5,x6];omega,out.toList,e,ak9 hi,by rw[at5];exact he⟩
 have hb:b<h1.objs.size:=i7 q
 rw[sortedHeap_old (m6 hb) (by rw[bE8];exact E3 hb)]
 exact a7 _ q
theorem aA5 {p:Addr}{b:Bool}(I:Inv X pins σ H s)(hq:SqL X.K H p (ns.map V.int)\/SqT X.K H p (ns.map V.int))(h64:ns.length<64)
  (h:∀ (s':Shared) (D:Addr) (zs:List Int),H D=none->zs.Perm ns->Ordered b zs->Inv X pins σ (upd H D (.lst (zs.map V.int))) s'->Q (.ref D) s') :
  v7 (t7 X.prog X.w) A (call (.builtin "sorted") [.ref p] [(Str.ofString "reverse",.bool b)]) Q E s:=by
 obtain⟨vs,T,o,c,hT,ho,hc,hd,hI⟩:=bI0 I hq
 have hlen:=hI.length
 refine bP7 cg2 bT2 bT3 (args_sorted_rev _ _) ?_
 unfold Builtin.«sorted»
 refine a8 (m:=checkCount "sorted" 1 1 _) (j5 ?_)
 refine a8 (wpAny_collect_seq p hT ho hc hd (fun h1 kp=>?_) (by rw[d9,x6];omega))
 rw[bP1]
 refine a8 (T8 ?_ (by rw[x6];omega))
 have hoL:(h1.push (G2 "list" vs.toArray 0)).get? h1.objs.size=some (G2 "list" vs.toArray 0):=l5 _ rfl
 refine a8 (F5 (cg5 bs2 (s:={ s with heap:=h1.push (G2 "list" vs.toArray 0) }) ⟨_,hoL,rfl⟩ bl9 (list_sort_tree_rev (s:={ s with heap:=h1.push (G2 "list" vs.toArray 0) }) hoL hI (by omega) fun out ns' a1 a2 a3=>⟨_,rfl,?_⟩) (args_list_sort_rev _ _)))
 obtain⟨e1,e2⟩:=ba8 (vs:=vs) I kp a1 (by rw[a2.length_eq];omega)
 exact j5 ⟨_,rfl,h _ _ ns' e1 a2 a3 e2⟩
def bU9 (K:W.Frag)(tr:TA):TE:=fun σ H Q=>tr σ H fun vs H1=>∃ (p:Addr) (ns:List Int),vs=[.ref p]/\(SqL K H1 p (ns.map V.int)\/SqT K H1 p (ns.map V.int))/\ns.length<64 /\
 ∀ (l:Addr) (zs:List Int),H1 l=none->zs.Perm ns->zs.Pairwise (·≥·)->Q (.ref l) (upd H1 l (.lst (zs.map V.int)))
theorem bx8 {np bpos kpos:Pos}{tr:TA}(K:W.Frag)(hK:X.K=K)(hg:Gl X "sorted")(hm:X.mg "sorted"=none)(ha:PA X [e] tr)
  (hs:Z1 pos (B0 [e] X.env)=(false,eval e X.env)::Z1 pos (B0 [] X.env):=by rfl)
  (hpl:(Z1 pos (B0 [e] X.env)).any (·.1)=false:=by rfl) :
  PE X (.Call (.Name "sorted" np) [e] [⟨some "reverse",.Constant (.bool true) j bpos,kpos⟩] pos) (bU9 K tr):=by
 subst hK
 intro pins s σ H Q I h
 refine R3 (ab8 I hg hm (show N1 "sorted"=some (.builtin "sorted") from rfl) ?_ (by decide) (by decide))
 refine callWith_kw (thn (ha pos pins s σ H _ I h) fun us s1 ⟨vs,H1,I1,r1,q1⟩=>?_) hs hpl rfl rfl
 obtain⟨p,ns,rfl,hq,h64,q⟩:=q1
 have hk:PK X [⟨some "reverse",.Constant (.bool true) j bpos,kpos⟩] (bg3 (tC (.bl true)) bH6):=bh4 bh6 bx3
 refine thn (hk pos pins s1 σ H1 (fun zs H2=>zs=[.bl true]/\H2=H1) I1 ⟨rfl,rfl⟩) fun ws s2 ⟨zs,H2,I2,r2,ez,eH⟩=>?_
 subst ez eH
 obtain⟨w,rfl,rw⟩:=vals1 r2
 obtain⟨u,rfl,ru⟩:=vals1 r1
 cases rw
 cases ru
 exact aA5 (b:=true) I2 hq h64 fun s' D zs a1 a2 a3 I'=>⟨.ref D,_,I',rfl,q D zs a1 a2 a3⟩
theorem ax4 {ip tp:Addr}{ys:Array Value}{x:Value}(hi:s.heap.IsTupleIter ip tp i)(ht:s.heap.IsTuple tp ys)(hx:ys[i]?=some x)
  (q:∀ h',h'.IsTupleIter ip tp (i+1)->Heap.SameBut ip s.heap h'->Q x { s with heap:=h' }):v7 (t7 prog w) A (Builtin.SmallTypes.nextOf (.ref ip)) Q E s:=by
 obtain⟨u,hu,cu,du⟩:=id hi
 obtain⟨v,hv,_,nv,dv⟩:=ht
 unfold Builtin.SmallTypes.nextOf
 refine a8 (bG3 (name:=Str.ofString "__next__") hi.typeIs F.slot_tuple_iterator_next (aZ5 F.slot_tuple_iterator_next hi.typeIs F.entry_tuple_iterator_next ?_ (F.args_tuple_iterator_next_1 _)))
 show v7 _ _ (field (.ref ip) 0 >>= _) _ _ s;refine a8 (Z2 hu du (x:=.ref tp) rfl ?_)
 show v7 _ _ (if (Value.ref tp == Value.none)=true then _ else _) _ _ s;rw[if_neg (show ¬ ((Value.ref tp == Value.none)=true) from i6)]
 show v7 _ _ (field (.ref ip) 1 >>= _) _ _ s;refine a8 (Z2 hu du (x:=.int i 0) rfl ?_)
 show v7 _ _ (seqItems? (.ref tp) >>= _) _ _ s;refine a8 (aG1 hv dv ?_)
 simp only[j6,hx]
 refine a8 (aG2 hu du (by simp) (j5 ⟨x,rfl,j5 (q _ ?_ (Heap.SameBut.update ..))⟩))
 exact⟨_,Y8 _ hu (Obj.isFreed_of_fields (Obj.data_mapFields du _)),(Obj.cls_mapFields ..).trans cu,by rw[Obj.data_mapFields du];simp[an9]⟩
theorem aC8 {ip tp:Addr}{ys:Array Value}(hh:A.handled=none)(hi:s.heap.IsTupleIter ip tp i)(ht:s.heap.IsTuple tp ys)(hx:ys[i]?=none)
  (q:∀ h' e,Heap.ExtBut ip s.heap h'->(∃ o,h'.get? e=some o/\o.cls=.type "StopIteration")->E (.ref e) { s with heap:=h' }):v7 (t7 prog w) A (Builtin.SmallTypes.nextOf (.ref ip)) Q E s:=by
 obtain⟨u,hu,cu,du⟩:=id hi
 obtain⟨v,hv,_,nv,dv⟩:=ht
 unfold Builtin.SmallTypes.nextOf
 refine a8 (bG3 (name:=Str.ofString "__next__") hi.typeIs F.slot_tuple_iterator_next (aZ5 F.slot_tuple_iterator_next hi.typeIs F.entry_tuple_iterator_next ?_ (F.args_tuple_iterator_next_1 _)))
 show v7 _ _ (field (.ref ip) 0 >>= _) _ _ s;refine a8 (Z2 hu du (x:=.ref tp) rfl ?_)
 show v7 _ _ (if (Value.ref tp == Value.none)=true then _ else _) _ _ s;rw[if_neg (show ¬ ((Value.ref tp == Value.none)=true) from i6)]
 show v7 _ _ (field (.ref ip) 1 >>= _) _ _ s;refine a8 (Z2 hu du (x:=.int i 0) rfl ?_)
 show v7 _ _ (seqItems? (.ref tp) >>= _) _ _ s;refine a8 (aG1 hv dv ?_)
 simp only[j6,hx]
 refine a8 (bE6 (a8 (aG2 hu du (by simp) ?_)))
 show v7 _ _ (newExc (.type "StopIteration") [] >>= _) _ _ _;refine a8 ?_;simp only[newExc,newTuple]
 refine a8 (aQ2 ?_ (by size_fits));refine a8 (m:=firstArgMember _ _) (cg6 (a:=Value.none) (by first | rfl | (simp only[firstArgMember];rfl)) ?_)
 refine aQ2 ?_ (by size_fits);simp only[raiseNew]
 refine a8 (wpAny_handled ?_);first | rw[show A.in1.handled=none from hh] | rw[hh]
 refine a8 (j5 (wpAny_throw ?_));exact q _ _ (((Heap.SameBut.update ..).extBut.push _).push _) ⟨_,l5 _ rfl,rfl⟩
theorem aJ9 (hh:A.handled=none)(ip tp:Addr)(hne:tp≠ip)(ys:Array Value):Draws prog w A ip [ip,tp] ys.size (fun i v=>ys[i]?=some v) (fun i h=>h.IsTupleIter ip tp i/\h.IsTuple tp ys) where
 live:=fun _ _ z=>let ⟨o,ho,_⟩:=z.1;⟨o,ho⟩
 frame:=fun _ _ _ z k=>⟨z.1.at fun o e=>k ip (by simp) o e,z.2.at fun o e=>k tp (by simp) o e⟩
 item:=fun i s Q E hi z q=>ax4 z.1 z.2 (x:=ys[i]) (by simp[hi]) fun h' a b=>q _ h' s.toks (by simp[hi]) ⟨a,z.2.extBut b.extBut hne⟩ b
 done:=fun s Q E z q=>aC8 hh z.1 z.2 (by simp) q
open AutoSeq1 (wpAny_loadPart') in
set_option maxRecDepth 100000 in
theorem aD1 (tp:Addr)(ys:Array Value)(n:Nat)(dd:Option Addr)(ss:Array (Option Value)) :
  Meets (Builtin.«enumerate.__new__» ⟨[.type "enumerate",.ref tp],[]⟩) (fun _ R s=>s.heap.get? tp=some { cls:=.type "tuple",dict:=dd,data:=.seq ys n,slots:=ss } /\
   R (.ok (.ret (.ref (s.heap.push { cls:=.type "tuple_iterator",data:=.fields #[.ref tp,.int 0 0] }).objs.size)))
    { s with heap:=(s.heap.push { cls:=.type "tuple_iterator",data:=.fields #[.ref tp,.int 0 0] }).push { cls:=.type "enumerate",data:=.fields #[.none,.bool false,.ref s.heap.objs.size,an9 0,.none,.none] } }) :=
 .of_wp fun prog w A R s h=>by
  obtain⟨hp,g,d,tk,os⟩:=s;obtain⟨hl,h⟩:=h
  have hsub:=sub_enumerate
  have hT:Heap.IsTuple (Shared.heap ⟨hp,g,d,tk,os⟩) tp ys:=⟨_,hl,rfl,n,rfl⟩
  wp_walk using wpAny_loadPart' hl
  refine wpAny_stack_any fun st=>j5 ?_
  split
  ·rename_i c _ _ _ _ _
   cases (c == Value.type "enumerate")
   ·wp_walk using wpAny_loadPart' hl,ak4 hT;exact⟨_,rfl,h⟩
   ·wp_walk using wpAny_loadPart' hl,ak4 hT;exact⟨_,rfl,h⟩
  ·wp_walk using wpAny_loadPart' hl,ak4 hT;exact⟨_,rfl,h⟩
theorem aH8 {tp:Addr}{ys:Array Value}(hT:s.heap.IsTuple tp ys)
  (q:∀ h',IsEnum h' (s.heap.objs.size+1) s.heap.objs.size 0 .none->h'.IsTupleIter s.heap.objs.size tp 0->h'.objs.size=s.heap.objs.size+2->(∀ b o,s.heap.get? b=some o->h'.get? b=some o)->Q (.ref (s.heap.objs.size+1)) { s with heap:=h' }) :
  v7 (t7 prog w) A (call (.type "enumerate") [.ref tp]) Q E s:=by
 obtain⟨⟨c,dd,dt,ss⟩,hl,hc,n,hd⟩:=hT
 replace hc:c=.type "tuple":=hc
 replace hd:dt=.seq ys n:=hd
 subst hc hd
 refine callType_new F.called_enumerate (by decide) (F.typeCall_enumerate_1 _) (F.newCall_enumerate_1 _) (fun obj=>F.args_object_init_2 obj _) F.entry_enumerate_new (aD1 tp ys n dd ss) ⟨hl,?_⟩
 have hz:(s.heap.push { cls:=.type "tuple_iterator",data:=.fields #[.ref tp,.int 0 0] }).objs.size=s.heap.objs.size+1:=N0 ..
 show _/\_
 rw[hz]
 have he:IsEnum ((s.heap.push { cls:=.type "tuple_iterator",data:=.fields #[.ref tp,.int 0 0] }).push { cls:=.type "enumerate",data:=.fields #[.none,.bool false,.ref s.heap.objs.size,an9 0,.none,.none] }) (s.heap.objs.size+1) s.heap.objs.size 0 .none:=by
  have:=l5 (s.heap.push { cls:=.type "tuple_iterator",data:=.fields #[.ref tp,.int 0 0] }) (o:={ cls:=.type "enumerate",data:=.fields #[.none,.bool false,.ref s.heap.objs.size,an9 0,.none,.none] }) rfl
  rw[hz]at this;exact this
 exact⟨⟨_,he,rfl⟩,q _ he ⟨_,a7 _ (l5 _ rfl),rfl,rfl⟩ (by rw[N0,hz]) fun b o x=>a7 _ (a7 _ x)⟩
def Itm (K:W.Frag)(a:Addr):It:=
 ⟨fun i H=>∃ xs x,SqT K H a xs/\xs[i]?=some x,fun i H x H'=>∃ t v,H t=none/\x=.ref t/\(∀ xs,SqT K H a xs->xs[i]?=some v)/\H'=upd H t (.tup [.int i,v]),fun i H=>∃ xs,SqT K H a xs/\xs.length=i⟩
def cc0 (K:W.Frag)(ta:TA):TI:=fun σ H R=>ta σ H fun vs H1=>∃ a,vs=[.ref a]/\(∃ xs,SqT K H1 a xs)/\R (Itm K a) H1
theorem ba1 {K:W.Frag}{elts:List Expr}{x1:Nat}(a ip e:Addr)(hne:e≠ip):Turn P w K (.Tuple elts x1 pos) (Itm K a) [e,ip] e (fun i h=>(∃ old,IsEnum h e ip (i:Int) old)/\h.IsTupleIter ip a i) where
 mem:=by simp
 obj:=fun i h st b hb=>by
  obtain⟨⟨old,he⟩,o,ho,hc,hd⟩:=st
  rcases c5.mp hb with rfl | hb
  ·exact⟨_,he,fun v z=>by cases z⟩
  ·obtain rfl:b=ip:=by simpa using hb
   exact⟨o,ho,fun v z=>by rw[hd]at z;cases z⟩
 keep:=fun i h h' st k=>⟨let ⟨old,he⟩:=st.1;⟨old,k e (by simp) _ he⟩,st.2.at fun o q=>k ip (by simp) o q⟩
 item:=by
  intro X hP hw hK hc i pins s σ H E I hf st hg
  subst hP hw hK
  obtain⟨xs,x,hq,hx⟩:=hg
  obtain⟨⟨old,he⟩,hit⟩:=st
  obtain⟨its,rv,p,hz⟩:=I.tuple hq
  obtain⟨u,hu,ru⟩:=rv.get hx
  obtain⟨f0,f1,f2,f3,f4,f5⟩:=hf e (by simp)
  obtain⟨g0,g1,g2,g3,g4,g5⟩:=hf ip (by simp)
  have pT:s.heap.IsTuple a its.toArray:=p
  have nai:a≠ip:=fun z=>by
   obtain⟨o1,h1,c1,_⟩:=id pT
   obtain⟨o2,h2,c2,_⟩:=id hit
   rw[z,h2]at h1;cases h1;rw[c2]at c1;injection c1 with c1;exact absurd c1 (by decide)
  have nae:a≠e:=fun z=>by
   obtain⟨o1,h1,c1,_⟩:=id pT
   rw[z,show s.heap.get? e=_ from he]at h1;cases h1;injection c1 with c1;exact absurd c1 (by decide)
  have ui:its.toArray[i]?=some u:=by simpa using hu
  have hlt':i<its.toArray.size:=by
   rcases D8 i its.toArray.size with h | h
   ·exact h
   ·rw[Array.getElem?_eq_none h]at ui;cases ui
  refine wpAny_pyNext_enum_itemD (aJ9 (A:=X.A.in1) (I.ok.hd hc) ip a nai its.toArray) he ⟨hit,pT⟩ hlt' hne (by simp[hne,Ne.symm nae]) fun v h1 tk hv heo st1 ht1 hz1 hk1=>?_
  have ev:v=u:=by have:=hv.symm.trans ui;cases this;rfl
  subst ev
  have hit1:=st1.1
  refine⟨_,rfl,?_⟩
  refine br8 heo fun h2 he2 hs2=>?_
  have hlt:e<s.heap.objs.size:=i7 he
  have hs2':Heap.SameBut e h1 h2:=hs2
  have ht2:h2.get? s.heap.objs.size=some { cls:=.type "tuple",data:=.seq #[.int i tk,v] }:=(hs2'.2 _ (V3 hlt)).trans ht1
  have kp:∀ b o,b≠e->b≠ip->s.heap.get? b=some o->h2.get? b=some o:=fun b o h1' h2' q=>(hs2'.2 b h1').trans (hk1 b o h1' h2' q)
  have hT:H s.heap.objs.size=none:=I.hok.fresh (c6 _)
  have nH:∀ b,H b≠none->b≠e/\b≠ip:=fun b hb=>⟨fun z=>hb (z ▸ f0),fun z=>hb (z ▸ g0)⟩
  have keepH:∀ b o,H b=some o->upd H s.heap.objs.size (.tup [.int i,x]) b=some o:=fun b o q=>by rw[x8 (y7 q hT)];exact q
  have hok2:HOk X.prog X.w (upd H s.heap.objs.size (.tup [.int i,x])) h2:=fun b o eb=>by
   by_cases hb:b=s.heap.objs.size
   ·subst hb
    rw[a9]at eb
    cases eb
    exact⟨by show 2<=d8;decide,[.int i tk,v],.cons ⟨_,rfl⟩ (.cons ru .nil),⟨_,ht2,rfl,_,rfl⟩⟩
   ·rw[x8 hb]at eb
    refine(I.hok b o eb).stay (fun c v hcc q=>kp c v ?_ ?_ q) (fun c q=>keepH c _ q) fun c ys q=>keepH c _ q
    ·rcases hcc with z | z
     ·exact(nH c (by rw[z,eb];simp)).1
     ·exact(nH c (by rw[z];simp)).1
    ·rcases hcc with z | z
     ·exact(nH c (by rw[z,eb];simp)).2
     ·exact(nH c (by rw[z];simp)).2
  have I2:Inv X pins σ (upd H s.heap.objs.size (.tup [.int i,x])) { s with heap:=h2,toks:=tk+1 }:=by
   refine I.step (g':=s.gens) (d':=s.drawn) (t':=tk+1) (ch:=[e,ip]) (fun b hb=>?_) (fun b o _ _ hcc q _=>kp b o (fun z=>hcc (by simp[z])) (fun z=>hcc (by simp[z])) q) (fun b o _ _ hcc q _=>⟨o.slots,kp b o (fun z=>hcc (by simp[z])) (fun z=>hcc (by simp[z])) q⟩) (fun b o _ q n=>?_)
    (fun b o hcc q=>⟨o,kp b o (fun z=>hcc (by simp[z])) (fun z=>hcc (by simp[z])) q⟩) (fun b ys q=>keepH b _ q) (fun b o v q=>keepH b _ q) (fun b ps q=>⟨#[],by rw[keepH b _ q];simp⟩) (fun m hm=>?_) hok2 I.bare
   ·rcases c5.mp hb with rfl | hb
    ·exact⟨f3,f1,f4,f5⟩
    ·obtain rfl:b=ip:=by simpa using hb
     exact⟨g3,g1,g4,g5⟩
   ·rw[x8 (m6 (i7 q))]
    exact n
   ·obtain⟨o,es,ep,ho,r⟩:=hm
    exact⟨o,es,ep,kp _ o (Ne.symm f1) (Ne.symm g1) ho,r⟩
  have hilt:ip<s.heap.objs.size:=by
   obtain⟨o,ho,_⟩:=id hit
   exact i7 ho
  refine⟨.ref s.heap.objs.size,_,I2,rfl,⟨s.heap.objs.size,x,hT,rfl,fun ys hy=>by rw[I.tuple_inj hy hq];exact hx,rfl⟩,⟨⟨v,?_⟩,?_⟩,fun b hb=>?_⟩
  ·have:=he2
   rw[show ((i:Int)+1)=(((i+1:Nat):Int)) by simp]at this
   exact this
  ·exact hit1.at fun o q=>(hs2'.2 ip (Ne.symm hne)).trans q
  ·rcases c5.mp hb with rfl | hb
   ·rw[x8 (m6 hlt)];exact f0
   ·obtain rfl:b=ip:=by simpa using hb
    rw[x8 (m6 hilt)]
    exact g0
 done:=by
  intro X hP hw hK hc i pins s σ H E I hf st hg
  subst hP hw hK
  obtain⟨xs,hq,hx⟩:=hg
  obtain⟨⟨old,he⟩,hit⟩:=st
  obtain⟨its,rv,p,hz⟩:=I.tuple hq
  obtain⟨g0,g1,g2,g3,g4,g5⟩:=hf ip (by simp)
  have hl:=rv.length
  have pT:s.heap.IsTuple a its.toArray:=p
  have nai:a≠ip:=fun z=>by
   obtain⟨o1,h1,c1,_⟩:=id pT
   obtain⟨o2,h2,c2,_⟩:=id hit
   rw[z,h2]at h1;cases h1;rw[c2]at c1;injection c1 with c1;exact absurd c1 (by decide)
  have ei:i=its.toArray.size:=by rw[d9];omega
  refine wpAny_pyNext_enum_endD (aJ9 (A:=X.A.in1) (I.ok.hd hc) ip a nai its.toArray) he ⟨by rw[<- ei];exact hit,pT⟩ fun h' eb=>⟨rfl,I.turned (t':=s.toks) (fun b o hb q=>eb b o hb q) g0 g1 g3 g4 g5⟩
 self:=fun _ _ _ _ _ st h=>let ⟨⟨old,he⟩,_⟩:=st;ao6 he h
theorem bx5 {a:Expr}{ta:TA}{elts:List Expr}{x1:Nat}{tpos p:Pos}(hg:Gl X "enumerate")(hm:X.mg "enumerate"=none)(ha:PA X [a] ta)(hv:N1 "enumerate"=some (.type "enumerate"):=by rfl)(hs:B0 [a] X.env=[(false,eval a X.env)]:=by rfl) :
  PI X (.Tuple elts x1 tpos) (.Call (.Name "enumerate" p) [a] [] pos) (cc0 X.K ta):=by
 intro pins s σ H R I h
 refine Call_ (ab8 I hg hm hv (PyProof.Rows.callWith_type1 (thn (ha pos pins s σ H _ I h) fun us s1 ⟨vs,H1,I1,r1,q1⟩=>?_) hs rfl))
 obtain⟨b,e,⟨xs,hq⟩,q⟩:=q1
 subst e
 obtain⟨u,rfl,rx⟩:=vals1 r1
 cases rx
 obtain⟨its,rv,pl,hz⟩:=I1.tuple hq
 refine aH8 (show s1.heap.IsTuple b its.toArray from pl) fun h' he hit hsz kp=>?_
 refine ao6 he ?_
 have hne:s1.heap.objs.size+1≠s1.heap.objs.size:=Nat.succ_ne_self _
 refine⟨s1.heap.objs.size+1,[s1.heap.objs.size+1,s1.heap.objs.size],_,_,H1,rfl,I1.kept (t':=s1.toks) kp,ba1 b s1.heap.objs.size (s1.heap.objs.size+1) hne,⟨⟨_,he⟩,hit⟩,fun c hc=>?_,q⟩
 rcases c5.mp hc with rfl | hc
 ·exact I1.fpOk (Y1 _) (I1.hok.fresh (Y1 _))
 ·obtain rfl:c=s1.heap.objs.size:=by simpa using hc
  exact I1.fpOk (c6 _) (I1.hok.fresh (c6 _))
theorem bq6 (hc:X.calm=true):S7 X (.builtin "sum") (fun xs H Q=>∃ (p:Addr) (ns:List Int),xs=[.ref p]/\SqT X.K H p (ns.map V.int)/\Q (.int ns.sum) H):=by
 intro pins s σ H xs us Q I r h
 obtain⟨p,ns,rfl,hq,q⟩:=h
 obtain⟨u,rfl,rx⟩:=vals1 r
 cases rx
 obtain⟨its,r',pl,hz⟩:=I.tuple hq
 have hi:G6 its ns:=intsAre_of r'
 obtain⟨ys,e⟩:=hi.allInts.items
 refine PySem.W.ktm_sumG (xs:=ys) (I.ok.hd hc) (by rw[<- e];exact pl) fun h' tk t' hk=>⟨.int ns.sum,H,I.kept (t':=tk) hk,⟨t',?_⟩,q⟩
 have e2:numsOf (intItems ys).toList=ns:=by rw[<- e];exact hi.numsOf
 rw[nums_intItems]at e2
 rw[preSum_eq,k7 (by simp),e2]
end L2
namespace L2
open PySem PySem.Spec PyProof.Rows
section
variable {Er:Value->Shared->Prop}
theorem bd1 {B:Heap}{env:Env}{L e:Addr}{cls a0 fl:Value}{Q:Unit->Shared->Prop}(hfr:A.frames=some (env::outer))(hf:env.frame=some L)(h1:B.StaysIn s.heap)(h2:B.get? e=none)(h3:s.heap.FunFrames B (env::outer))(h4:s.heap.TracedAtW B e cls a0 fl)
  (hQ:∀ h',Heap.FlyingW B outer e cls a0 h'->s.heap.UpToSlots h'->Q () { s with heap:=h' }):v7 M A (leaving env (.ref e)) Q Er s:=by
 by_cases hfl:fl=an9 L
 ·subst hfl
  unfold leaving
  refine a8 (wpAny_noteFrame_againW hf h4 (wpAny_landsW (L:=L) ⟨h1,h2,h3,h4⟩ fun h' x1 x2=>hQ h' ⟨x1.1,x1.2.1,x1.2.2.1.2.2,x1.2.2.2⟩ x2))
 ·obtain⟨oe,vs,T,oT,ts,he,⟨hcl,h0⟩,hd,e1,nT,Te,hT,dT,e3⟩:=h4
  subst hcl
  have oth:∀ b,b≠T->(s.heap.update T (Obj.mapFields (·.setIfInBounds 3 Value.none))).get? b=s.heap.get? b:=fun b z=>E5 _ _ (Ne.symm z)
  have noT:∀ b o,s.heap.get? b=some o->(∀ vs,o.data≠.fields vs)->b≠T:=fun b o q n z=>by
   rw[z,hT]at q
   cases q
   exact n ts dT
  unfold leaving ax1
  rw[hf]
  refine a8 (a8 (Z2 he hd e1 ?_))
  rw[if_pos (by simp:(Value.ref T != Value.none)=true)]
  refine a8 (Z2 hT dT e3 ?_)
  rw[if_neg (by simpa using hfl)]
  refine a8 (aG2 hT dT (ae2.mp e3).1 ?_)
  refine wpAny_newEntryW hfr (h3.of_keeps fun b o q n=>⟨o,by rw[oth b (noT b o q n)];exact q,rfl⟩) hf (by rw[oth e (Ne.symm Te)];exact he) (fun b o q=>?_) h2 hd (ae2.mp e1).1 h0 fun h' y=>?_
  ·rw[oth b (fun z=>by rw[z,nT]at q;cases q)]
   exact h1 b o q
  ·obtain⟨y1,y2,y3,y4⟩:=y
   exact hQ h' ⟨y1,h2,y2.2.2,y3⟩ fun b o q n=>y4 b o (by show (s.heap.update T _).get? b=_;rw[oth b (noT b o q n)];exact q) n
end
theorem aw6 {B B':Heap}:∀ {l:List Env},(∀ b∈frs l,B.get? b=none->B'.get? b=none)->(∀ b∈frs l,∀ o,h.get? b=some o->(∀ vs,o.data≠.fields vs)->∃ o',h'.get? b=some o'/\∀ vs,o'.data≠.fields vs)->h.FunFrames B l->h'.FunFrames B' l
 | [],_,_,_=>trivial
 | env::r,k1,k2,⟨hk,⟨L,o,hf,hn,ho,hd⟩,hr⟩=>by
  have hL:L∈frs (env::r):=by unfold frs;rw[P5,hf];exact c7
  obtain⟨o',ho',hd'⟩:=k2 L hL o ho hd
  have up:∀ b∈frs r,b∈frs (env::r):=fun b hb=>by unfold frs;rw[P5,hf];exact b8 _ hb
  exact⟨hk,⟨L,o',hf,k1 L hL hn,ho',hd'⟩,aw6 (fun b hb=>k1 b (up b hb)) (fun b hb=>k2 b (up b hb)) hr⟩
def CXA (P:Program)(w:World)(stack:List Env)(H:Hp)(s:Shared)(E:XK)(e:Value)(s':Shared):Prop:=
 ∃ x cls H2 fl,e=.ref x/\s'.os=s.os/\aq1 s'.gens/\Un (frs stack) [] H H2 s.heap s'.heap/\HOk P w H2 s'.heap/\s.heap.get? x=none/\H2 x=none /\
  (∃ B a0,(B.StaysIn s'.heap/\B.get? x=none/\s'.heap.FunFrames B stack/\s'.heap.TracedAtW B x cls a0 fl)/\∀ b o,s'.heap.get? b=some o->(H2 b≠none\/s.heap.get? b≠none)->b∉frs stack->B.get? b=some o)/\E cls none H2
section
variable {K:W.Frag} {mg:Str->Option Value} {base:Heap} {cd:Value} {E:XK} {H1:Hp} {s1:Shared}
theorem ck4 {e:Value}{s2:Shared}(I:Inv (X6 (CXE P w) P w K mg base N qual scope f cd A outer s H E) pins σ H1 s1)(hc:CXA P w (X6 (CXE P w) P w K mg base N qual scope f cd A outer s H E).stack H1 s1 E e s2):(X6 (CXE P w) P w K mg base N qual scope f cd A outer s H E).xe e s2:=by
 obtain⟨x,cls,H2,fly,rfl,hos,hb2,u,hok,new,hxn,⟨B,a0,⟨k1,k2,k3,k4⟩,st⟩,hE⟩:=hc
 have hst:=I.stack
 have hfr:=I.ok.frames
 have hL:=I.free
 have hbs:Un (frs outer) [] H H1 s.heap s1.heap:=I.base
 change s1.heap.FunFrames base (F6 qual scope s.heap.objs.size f cd::outer) at hst
 change (A.deeper (F6 qual scope s.heap.objs.size f cd)).frames=some (F6 qual scope s.heap.objs.size f cd::outer) at hfr
 change H1 s.heap.objs.size=none at hL
 change Un (frs (F6 qual scope s.heap.objs.size f cd::outer)) [] H1 H2 s1.heap s2.heap at u
 change s2.heap.FunFrames B (F6 qual scope s.heap.objs.size f cd::outer) at k3
 have hff:frs (F6 qual scope s.heap.objs.size f cd::outer)=s.heap.objs.size::frs outer:=aE0 rfl
 have st':∀ b o,s2.heap.get? b=some o->(H2 b≠none\/s1.heap.get? b≠none)->b∉frs (F6 qual scope s.heap.objs.size f cd::outer)->B.get? b=some o:=st
 rw[hff]at u st'
 have hLo:∃ o,s1.heap.get? s.heap.objs.size=some o:=by
  obtain⟨m,⟨o,_,_,ho,_⟩,_⟩:=I.loc
  exact⟨o,ho⟩
 have hL2:H2 s.heap.objs.size=none:=by
  obtain⟨o,ho⟩:=hLo
  exact u.free _ o ho hL (by simp)
 have old:∀ b,(H2 b≠none\/s.heap.get? b≠none)->b∉frs outer->∃ o,s2.heap.get? b=some o/\B.get? b=some o:=fun b hb hno=>by
  have hne:b≠s.heap.objs.size:=by
   rcases hb with z | z
   ·intro q;rw[q]at z;exact z hL2
   ·obtain⟨o,z⟩:=J6 z
    exact m6 (i7 z)
  have hm:b∉s.heap.objs.size::frs outer:=fun hm=>by
   rcases c5.mp hm with q | q
   ·exact hne q
   ·exact hno q
  rcases hb with z | z
  ·obtain⟨o,z'⟩:=J6 z
   obtain⟨o',ho⟩:=(hok b o z').there
   exact⟨o',ho,st' b o' ho (.inl z) hm⟩
  ·obtain⟨o,z⟩:=J6 z
   obtain⟨o1,h1⟩:=hbs.there b o z (by simp)
   obtain⟨o2,h2⟩:=u.there b o1 h1 (by simp)
   exact⟨o2,h2,st' b o2 h2 (.inr (by rw[h1];simp)) hm⟩
 have u2:Un (frs outer) [] H H2 s.heap s2.heap:=by
  refine⟨fun b o e n hb hx=>?_,fun b o e n hb hx=>?_,fun b o e n hx=>?_,fun b o e hx=>?_,fun b xs e=>u.tups b xs (hbs.tups b xs e),fun b o v e=>u.frzs b o v (hbs.frzs b o v e),fun b ps e=>?_⟩
  ·refine u.keep b o (hbs.keep b o e n hb hx) (hbs.free b o e n hx) (fun hm=>?_) hx
   rcases c5.mp hm with q | q
   ·exact m6 (i7 e) q
   ·exact hb q
  ·obtain⟨sl,e1⟩:=hbs.slot b o e n hb hx
   obtain⟨sl2,e2⟩:=u.slot b _ e1 (hbs.free b o e n hx) (b8 _ hb) hx
   exact⟨sl2,e2⟩
  ·obtain⟨o',e1⟩:=hbs.there b o e hx
   exact u.free b o' e1 (hbs.free b o e n hx) hx
  ·obtain⟨o',e1⟩:=hbs.there b o e hx
   exact u.there b o' e1 hx
  ·obtain⟨m1,e1⟩:=hbs.tbls b ps e
   obtain⟨m2,e2⟩:=u.tbls b _ e1
   exact⟨m1++m2,by rw[e2,aA1]⟩
 have frNone:∀ b∈frs outer,H2 b=none:=fun b hb=>by
  have h1:=I.stkFree b (by
   show b∈frs (F6 qual scope s.heap.objs.size f cd::outer)
   rw[hff]
   exact b8 _ hb)
  obtain⟨_,o,ho,_⟩:=hst.mem (b:=b) (by
   show b∈frs (F6 qual scope s.heap.objs.size f cd::outer)
   rw[hff]
   exact b8 _ hb)
  exact u.free b o ho h1 (by simp)
 refine bd1 hfr rfl k1 k2 k3 k4 fun h' x1 x2=>?_
 have stay:∀ b o,s2.heap.get? b=some o->(H2 b≠none\/s.heap.get? b≠none)->b∉frs outer->h'.get? b=some o:=fun b o ho hb hno=>by
  obtain⟨o',ho',hB⟩:=old b hb hno
  rw[ho]at ho'
  cases ho'
  exact x1.1 b o hB
 refine⟨x,cls,H2,rfl,hos.trans I.os,hb2,u2.onto (fun b o ho hh hno=>stay b o ho (.inr hh) hno) (fun b o ho hh hm=>?_),hok.stays fun b o ho hh=>stay b o ho (.inl hh) fun hm=>hh (frNone b hm),?_,hxn,⟨B,a0,x1,fun b o ho hb hno=>?_⟩,hE⟩
 ·obtain⟨_,o',ho',hd⟩:=k3.mem (b:=b) (by
   show b∈frs (F6 qual scope s.heap.objs.size f cd::outer)
   rw[hff]
   exact b8 _ hm)
  rw[ho]at ho'
  cases ho'
  exact x2 b o ho hd
 ·cases q:s.heap.get? x with
  | none=>rfl
  | some o =>
   obtain⟨o',z⟩:=hbs.there x o q (by simp)
   rw[new]at z
   cases z
 ·obtain⟨o',ho',hB⟩:=old b hb hno
  have:=stay b o' ho' hb hno
  rw[ho]at this
  cases this
  exact hB
end
theorem bo7 {e:Value}{env env':Env}(h:env.frame=env'.frame):ax1 e env=ax1 e env':=by
 unfold ax1 PySem.frameOf
 rw[h]
def XeC (X:Cx)(E:XK)(pins:List (Addr × Obj))(σ:St)(C:Addr)(e:Value)(s':Shared):Prop:=
 ∃ s1 H1 m,Inv X pins σ H1 s1/\P1 X pins H1 C/\s1.heap.Ns C m/\CXE X.prog X.w X.stack H1 s1 E e s'
section
variable {K:W.Frag} {mg:Str->Option Value} {base:Heap} {cd:Value} {E:XK}
theorem as2 (eX:X=X6 (CXE P w) P w K mg base N qual scope f cd A outer s H E){cenv:Env}(hcf:cenv.frame=X.env.frame){e:Value}{s':Shared}{acc:Value}(h:XeC X E pins σ C e s') :
  notedBy (t7 X.prog X.w) X.A cenv (fun x s''=>aq2 (t7 X.prog X.w) X.A X.xe none Q acc C (.error x) s'') e s':=by
 obtain⟨s1,H1,m,I1,fC,hn,x,cls,H2,rfl,hos,hb2,u,hok,new,hxn,⟨B,a0,fl,st⟩,hE⟩:=h
 have hstk:X.stack=X.env::X.outer:=by rw[eX];rfl
 have hf:X.env.frame=some X.env.locals:=by rw[eX];rfl
 have hfr:X.A.frames=some (X.env::X.outer):=by rw[<- hstk];exact I1.ok.frames
 rw[hstk]at fl
 have nC:C∉frs X.stack:=fun z=>by
  rcases c5.mp (I1.stkSub C z) with q | q
  ·exact fC.2.1 q
  ·exact fC.2.2.1 q
 obtain⟨oC,es,ep,hC,dC,rC⟩:=hn
 have hC':s'.heap.get? C=some oC:=u.keep C oC hC fC.1 nC (by simp)
 have hC2:H2 C=none:=u.free C oC hC fC.1 (by simp)
 have frN:∀ b∈frs X.stack,H2 b=none:=fun b hb=>by
  obtain⟨_,o,ho,_⟩:=I1.stack.mem hb
  exact u.free b o ho (I1.stkFree b hb) (by simp)
 unfold notedBy
 rw[bo7 hcf]
 refine wpAny_looks_onW hfr hf fl fun h4 held up=>?_
 obtain⟨k1,k2,k3,oe,vs,T,oT,ts,he,hcl,hd,e1,nT,Te,hT,dT,e3⟩:=held
 have hsz3:3<ts.size:=(ae2.mp e3).1
 have hn4:h4.Ns C m:=up.ns ⟨oC,es,ep,hC',dC,rC⟩
 obtain⟨oC4,es4,ep4,hC4,dC4,_⟩:=id hn4
 have xC:x≠C:=fun z=>by
  rw[z,hC4]at he
  cases he
  rw[dC4]at hd
  cases hd
 have TC:T≠C:=fun z=>by
  rw[z,hC4]at hT
  cases hT
  rw[dC4]at dT
  cases dT
 refine⟨m,hn4,fun h5 hsb cenv' _=>?_⟩
 have g5:∀ b,b≠C->h5.get? b=h4.get? b:=fun b hb=>hsb.2 b hb
 have he5:=(g5 x xC).trans he
 have hT5:=(g5 T TC).trans hT
 unfold PySem.passOn
 refine a8 (Z2 he5 hd e1 ?_)
 rw[if_neg (by simp:¬ ((Value.ref T == Value.none)=true))]
 refine a8 ?_
 unfold setFlight
 refine a8 (Z2 he5 hd e1 ?_)
 rw[if_pos (by simp:(Value.ref T != Value.none)=true)]
 refine aG2 hT5 dT hsz3 (wpAny_throw ?_)
 generalize hfv:(cenv'.frame.elim Value.none fun f=>an9 f)=fv
 have oth:∀ b,b≠T->(h5.update T (Obj.mapFields (·.setIfInBounds 3 fv))).get? b=h5.get? b:=fun b z=>E5 _ _ (Ne.symm z)
 have inB:∀ b o,B.get? b=some o->b≠C->(h5.update T (Obj.mapFields (·.setIfInBounds 3 fv))).get? b=some o:=fun b o q z=>by
  rw[oth b (fun z'=>by rw[z',nT]at q;cases q),g5 b z]
  exact k1 b o q
 have frO:∀ b∈frs X.stack,∀ o,s'.heap.get? b=some o->∃ sl,(h5.update T (Obj.mapFields (·.setIfInBounds 3 fv))).get? b=some { o with slots:=sl }:=fun b hb o q=>by
  obtain⟨_,o',q',nf⟩:=fl.2.2.1.mem (b:=b) (by rw[hstk]at hb;exact hb)
  rw[q]at q'
  cases q'
  obtain⟨sl,q4⟩:=up b o q nf
  refine⟨sl,?_⟩
  rw[oth b (fun z=>by rw[z,hT]at q4;cases q4;exact nf _ dT),g5 b (fun z=>nC (by rw[<- z];exact hb))]
  exact q4
 generalize hh6:h5.update T (Obj.mapFields (·.setIfInBounds 3 fv))=h6 at oth inB frO
 have I1':Inv X pins σ H1 { s1 with heap:=PySem.W.hideAll s1.heap [C],toks:=s1.toks }:=I1.turn fC fun b o hb q=>PySem.W.hideAll_get _ q (by simpa using hb)
 have nh:∀ {g:Heap} {b:Addr} {o:Obj},(PySem.W.hideAll g [C]).get? b=some o->b≠C:=fun {g b o} q z=>by
  rw[z,PySem.W.hideAll_none _ (j8.mpr rfl)]at q
  cases q
 subst eX
 refine ck4 (s1:={ s1 with heap:=PySem.W.hideAll s1.heap [C],toks:=s1.toks }) I1' ⟨x,cls,H2,fv,rfl,hos,hb2,?_,?_,?_,hxn,⟨PySem.W.hideAll B [C],a0,⟨?_,?_,?_,?_⟩,?_⟩,hE⟩
 ·refine⟨fun b o q n hb hx=>?_,fun b o q n hb hx=>?_,fun b o q n hx=>u.free b o (PySem.W.of_hideAll _ q) n hx,fun b o q hx=>?_,u.tups,u.frzs,u.tbls⟩
  ·have q1:=PySem.W.of_hideAll _ q
   exact inB b o (st b o (u.keep b o q1 n hb hx) (.inr (by rw[q1];simp)) hb) (nh q)
  ·obtain⟨sl,q1⟩:=u.slot b o (PySem.W.of_hideAll _ q) n hb hx
   obtain⟨sl',q2⟩:=frO b hb _ q1
   exact⟨sl',q2⟩
  ·have q1:=PySem.W.of_hideAll _ q
   obtain⟨o',q2⟩:=u.there b o q1 hx
   by_cases hb:b∈frs (X6 (CXE P w) P w K mg base N qual scope f cd A outer s H E).stack
   ·obtain⟨sl,q3⟩:=frO b hb _ q2
    exact⟨_,q3⟩
   ·exact⟨o',inB b o' (st b o' q2 (.inr (by rw[q1];simp)) hb) (nh q)⟩
 ·refine hok.stays fun b o q hh=>inB b o (st b o q (.inl hh) fun z=>hh (frN b z)) fun z=>hh (by rw[z];exact hC2)
 ·cases q:(PySem.W.hideAll s1.heap [C]).get? x with
  | none=>rfl
  | some o =>
   rw[PySem.W.of_hideAll _ q]at new
   cases new
 ·exact fun b o q=>inB b o (PySem.W.of_hideAll _ q) (nh q)
 ·cases q:(PySem.W.hideAll B [C]).get? x with
  | none=>rfl
  | some o =>
   rw[PySem.W.of_hideAll _ q]at k2
   cases k2
 ·refine aw6 (fun b hb n=>?_) (fun b hb o q nf=>?_) fl.2.2.1
  ·cases q:(PySem.W.hideAll B [C]).get? b with
   | none=>rfl
   | some o =>
    rw[PySem.W.of_hideAll _ q]at n
    cases n
  ·obtain⟨sl,q2⟩:=frO b hb o q
   exact⟨_,q2,nf⟩
 ·refine⟨oe,vs,T,_,_,(oth x (Ne.symm Te)).trans he5,hcl,hd,e1,?_,Te,by rw[<- hh6];exact Y8 _ hT5 (Obj.isFreed_of_fields (Obj.data_mapFields dT _)),Obj.data_mapFields dT _,by simp[hsz3]⟩
  cases q:(PySem.W.hideAll B [C]).get? T with
  | none=>rfl
  | some o =>
   rw[PySem.W.of_hideAll _ q]at nT
   cases nT
 ·intro b o q hh hb
  have bC:b≠C:=fun z=>by
   rcases hh with z' | z'
   ·exact z' (by rw[z];exact hC2)
   ·exact z' (by rw[z];exact PySem.W.hideAll_none _ (j8.mpr rfl))
  have hin:∃ o',s'.heap.get? b=some o'/\B.get? b=some o':=by
   rcases hh with z' | z'
   ·obtain⟨ho,q'⟩:=J6 z'
    obtain⟨o',q2⟩:=(hok b ho q').there
    exact⟨o',q2,st b o' q2 (.inl z') hb⟩
   ·obtain⟨o1,q'⟩:=J6 z'
    have q1:=PySem.W.of_hideAll _ q'
    obtain⟨o',q2⟩:=u.there b o1 q1 (by simp)
    exact⟨o',q2,st b o' q2 (.inr (by rw[q1];simp)) hb⟩
  obtain⟨o',q2,qB⟩:=hin
  have:=inB b o' qB bC
  have q':h6.get? b=some o:=q
  rw[this]at q'
  cases q'
  exact PySem.W.hideAll_get _ qB (by simpa using bC)
end
theorem ck3 {E:XK}{s3:Shared}{H3:Hp}(I3:Inv X pins σ H3 s3)(f3:∀ b∈fp,P1 X pins H3 b) :
  ap6 (CXE X.prog X.w) (B3 X scope cl N' s3 H3 fp (XeC X E pins σ s3.heap.objs.size)) E:=by
 intro pins' σ' H1 s1 e s' I' hc
 obtain⟨m,hm,_⟩:=I'.loc
 refine⟨s1,H1,m,I3.call' (ch:=fp) I'.os I'.base I'.hok I'.bare fun b hb=>?_,I3.fpOk (c6 _) I'.free,hm,hc⟩
 obtain⟨f0,f1,f2',f3',f4,f5⟩:=f3 b hb
 exact⟨f3',f1,f4,f5⟩
section
variable {K:W.Frag} {mg:Str->Option Value} {base:Heap} {scope0:Scope} {cd:Value} {s0:Shared} {H0:Hp} {E:XK}
end
def cg8 (K:W.Frag)(CT:Addr)(tb:(St->XK)->TS)(th:TS):TS:=fun D σ H=>∃ E:St->XK,tb E D σ H/\∀ σ' cls H',E σ' cls none H'->PySem.W.exmOne K cls (.ref CT)=some true/\th D σ' H'
theorem bJ1 {body suite:List Stmt}{b0:Stmt}{tn:Str}{np hpos:Pos}{CT:Addr}{tb:(St->XK)->TS}{th:TS}
  (hg:Gl X tn)(hm:X.mg tn=some (.ref CT))(hst:X.stack=X.env::X.outer)(hfr:X.env.frame=some X.env.locals)(hbody:∀ pins E,PSs (bg1 X pins E) body (tb E))(hh:∀ v,PSs (cc3 X v) (b0::suite) th)
  (hd:(tn == ("__debug__":Str))=false:=by decide) :
  PS X (.Try body [.ExceptHandler (some (.Name tn np)) none (b0::suite) hpos] [] [] pos) (cg8 X.K CT tb th):=by
 intro pins s σ H D I hw
 obtain⟨E,hb,hcatch⟩:=hw
 refine wpAny_Try_except (C6 (hbody pins E [] s σ H D I.toTry hb) (fun fl s1 q=>?_) fun e s1 hx=>?_)
 ·cases fl with
  | next =>
   obtain⟨σ',H',I',q⟩:=q
   exact ah0 ⟨σ',H',I'.ofTry,q⟩
  | brk=>obtain⟨σ',H',I',q⟩:=q;exact⟨σ',H',I'.ofTry,q⟩
  | cont=>obtain⟨σ',H',I',q⟩:=q;exact⟨σ',H',I'.ofTry,q⟩
  | ret u=>obtain⟨v,σ',H',I',r,q⟩:=q;exact⟨v,σ',H',I'.ofTry,r,q⟩
 ·obtain⟨σ1,H1,s0,I1,x,cls,H2,rfl,hos,hbare,u,hok,new,hxn,⟨B,a0,fl,st⟩,hE⟩:=hx
  obtain⟨hmat,hth⟩:=hcatch σ1 cls H2 hE
  have hfl:Heap.FlyingW B (X.env::X.outer) x cls a0 s1.heap:=by rw[hst]at fl;exact fl
  have frNone:∀ b∈frs X.stack,H2 b=none:=fun b hb=>by
   obtain⟨_,o,ho,_⟩:=I1.stack.mem hb
   exact u.free b o ho (I1.stkFree b hb) (by simp)
  have step:∀ h',B.StaysIn h'->s1.heap.UpToSlots h'->Un (frs X.stack) [] H1 H2 s0.heap h'/\HOk X.prog X.w H2 h':=fun h' hB hu=>by
   refine⟨u.onto (fun b o ho hh hno=>hB b o (st b o ho (.inr hh) hno)) fun b o ho hh hm'=>?_,hok.stays fun b o ho hh=>hB b o (st b o ho (.inl hh) fun hm'=>hh (frNone b hm'))⟩
   obtain⟨_,o',ho',hdd⟩:=hfl.2.2.1.mem (b:=b) (by rw[hst]at hm';exact hm')
   rw[ho]at ho'
   cases ho'
   exact hu b o ho hdd
  have inv:∀ h',B.StaysIn h'->s1.heap.UpToSlots h'->Inv X pins σ1 H2 { s1 with heap:=h' }:=fun h' hB hu=>by
   obtain⟨un,ok⟩:=step h' hB hu
   exact I1.call' (s':={ s1 with heap:=h' }) (ch:=[]) hos un ok hbare fun b hb=>by cases hb
  have hfrm:X.A.frames=some (X.env::X.outer):=by rw[<- hst];exact I1.ok.frames
  refine wpAny_looks_onW hfrm hfr hfl fun h4 held4 up4=>?_
  refine wpAny_landsW held4 fun h5 fl5 up5=>?_
  have up15:=up4.trans up5
  have I5:=inv h5 fl5.1 up15
  refine wpAny_handleBy_cons (codeAny_handlers_test ?_) (by intro q;cases q)
  refine ar9 (I5.toHd (.ref x)) hg hm ?_ hd
  have LT:PySem.W.Looks (t7 X.prog X.w) h5 (typeOf (.ref x)) cls:=by
   obtain⟨ob,hob,hc⟩:=fl5.there
   subst hc
   exact(PySem.W.Looks.ld hob).andThen .now
  refine(PySem.W.exm_one (M:=t7 X.prog X.w) I5.kIn LT hmat).here ?_
  refine codeAny_handlers_suite ?_
  refine lands_againW fl5 fun h6 fl6 up6=>?_
  have up16:=up15.trans up6
  have I7:=inv h6 fl6.1 up16
  refine C6 (hh (.ref x) pins { s1 with heap:=h6 } σ1 H2 D (I7.toHd _) hth) (fun fl' s9 q=>?_) (fun _ _ z=>False.elim z)
  have hdX:=I.ok.hd
  cases fl' with
  | next =>
   obtain⟨σ',H',I',q⟩:=q
   exact⟨σ',H',I'.ofHd hdX,q⟩
  | brk =>
   obtain⟨σ',H',I',q⟩:=q
   exact⟨σ',H',I'.ofHd hdX,q⟩
  | cont =>
   obtain⟨σ',H',I',q⟩:=q
   exact⟨σ',H',I'.ofHd hdX,q⟩
  | ret u' =>
   obtain⟨v,σ',H',I',r,q⟩:=q
   exact⟨v,σ',H',I'.ofHd hdX,r,q⟩
theorem bq4 {elt iter:Expr} {ipos:Pos} {wi:TI} {g:TG} {tt:TT} {R:Value->Shared->Prop} {Q:VK}
  (hc:X.calm=true) (hi:PI X tg iter wi) (hclos:ao4 scope X.env=pure cl) (hkind:scope.kind=.function)
  (hnames:∀ y∈scope.names,y.2=.local->scope.names.lookup y.1=some .local) (hcl:av8 X.env cl) (hfr:ap7 scope.names cl=true) (hlk:be9 X N' lk scope cl)
  (hg:∀ s3 H3 fp,PG (B3 X scope cl N' s3 H3 fp fun _ _=>False) tg g) (ht:∀ s3 H3 fp,PTs (B3 X scope cl N' s3 H3 fp fun _ _=>False) ifs tt) (he:∀ s3 H3 fp,PE (B3 X scope cl N' s3 H3 fp fun _ _=>False) elt te)
  (hs:∀ x,T7 iter X.env x=pure x) (I:Inv X pins σ H s) (h:aR1 wi lk g tt te σ H Q)
  (hend : ∀ (C D : Addr) (s' : Shared) (H' : Hp), Inv X pins σ H' s' -> Q (.ref D) H' -> H' C = none -> C ≠ X.env.locals -> X.s₀.heap.objs.size <= C -> (∀ x c, X.env.cells.lookup x = some c -> c ≠ C) -> (∀ p ∈ X.pn ++ pins, p.1 ≠ C) -> (∃ m, s'.heap.Ns C m) ->
   aq2 (t7 X.prog X.w) X.A X.xe use R (.ref D) C (.ok .next) s') :
  v7 (t7 X.prog X.w) X.A (aL4 (.ListComp elt [⟨tg,iter,ifs,0⟩] scope pos) scope X.env ipos (cg4 []) false (eval iter X.env) use) R X.xe s:=by
 have hcellN:∀ y∈scope.names,y.2≠.cell:=fun y hy=>by
  unfold ap7 at hfr
  rw[A6]at hfr
  have:=hfr y hy
  rw[n8]at this
  simpa using this.1
 refine ao5 (use:=use) rfl hs hclos hkind hnames (thn (hi pins s σ H _ I h) fun v s1 h1=>thn h1 fun itv s2 h2=>?_)
 obtain⟨it,fp,tn,J,H2,e,I2,T,st2,f2,q⟩:=h2
 subst e
 refine T8 ?_ (r9 _)
 have hD:H2 s2.heap.objs.size=none:=I2.hok.fresh (c6 _)
 have I3:=I2.lnew (ys:=[]) (its:=[]) (t':=s2.toks) .nil (r9 _)
 obtain⟨W,⟨m0,w0⟩,turn⟩:=q s2.heap.objs.size hD
 have fpl:∀ b∈fp,b<s2.heap.objs.size:=fun b hb=>by
  obtain⟨o,ho,_⟩:=T.obj 0 s2.heap st2 b hb
  exact i7 ho
 refine ae0 hcellN (by intro y hy;cases hy) (fun h1 hns1 hsb1=>?_) hkind
 dsimp only at hns1 hsb1 ⊢
 have e3:s2.heap.push { cls:=.type "list",dict:=none,data:=.seq ([]:List Value).toArray }=s2.heap.push { cls:=.type "list",data:=.seq ([]:List Value).toArray }:=rfl
 generalize hh3:s2.heap.push { cls:=.type "list",dict:=none,data:=.seq ([]:List Value).toArray }=h3 at *
 have I3':Inv X pins σ (upd H2 s2.heap.objs.size (.lst [])) { s2 with heap:=h3,toks:=s2.toks }:=I3
 have size3:h3.objs.size=s2.heap.objs.size+1:=by rw[<- hh3,N0]
 have f3:∀ b∈fp,P1 X pins (upd H2 s2.heap.objs.size (.lst [])) b:=fun b hb=>by
  obtain⟨f0,fr⟩:=f2 b hb
  exact⟨by rw[x8 (m6 (fpl b hb))];exact f0,fr⟩
 have up:∀ b u,h3.get? b=some u->h1.get? b=some u:=fun b u eb=>by
  rw[hsb1.2 b (m6 (i7 eb))]
  exact a7 _ eb
 have I4:Inv (B3 X scope cl N' { s2 with heap:=h3,toks:=s2.toks } (upd H2 s2.heap.objs.size (.lst [])) fp fun _ _=>False) [] (ac0 lk σ) (upd H2 s2.heap.objs.size (.lst [])) { s2 with heap:=h1,toks:=s2.toks+([]:List (Str × Value)).length }:=
  ap4 (s3:={ s2 with heap:=h3,toks:=s2.toks }) I3' f3 hkind hcl hfr hlk hns1 up fun b hb=>by show b<h3.objs.size;rw[size3];exact E3 (fpl b hb)
 have st4:tn 0 h1:=T.keep 0 s2.heap h1 st2 fun b hb o eb=>up b o (by rw[<- hh3];exact a7 _ eb)
 have hCs:h3.objs.size=(N3 scope cl h3.objs.size X.env).locals:=rfl
 have stat:∀ {H':Hp},(∀ b∈fp,H' b=none)->∀ b∈fp,P1 (B3 X scope cl N' { s2 with heap:=h3,toks:=s2.toks } (upd H2 s2.heap.objs.size (.lst [])) fp fun _ _=>False) [] H' b:=fun {H'} hn b hb=>by
  obtain⟨f0,f1,f2',f3',f4,f5⟩:=f3 b hb
  refine⟨hn b hb,?_,fun z=>?_,.inl hb,fun x c ex=>f4 x c (hcl.get ex),fun p hp=>nomatch hp⟩
  ·show b≠h3.objs.size
   rw[size3]
   exact m6 (E3 (fpl b hb))
  ·rcases c5.mp (I3'.stkSub b z) with q | q
   ·exact f1 q
   ·exact f2' q
 have fin:∀ (s':Shared) (σ':St) (H':Hp),Inv (B3 X scope cl N' { s2 with heap:=h3,toks:=s2.toks } (upd H2 s2.heap.objs.size (.lst [])) fp fun _ _=>False) [] σ' H' s'->Q (.ref s2.heap.objs.size) H' ->
   aq2 (t7 X.prog X.w) X.A X.xe use R (.ref s2.heap.objs.size) h3.objs.size (.ok .next) s':=fun s' σ' H' I' q'=>by
  obtain⟨m,hm,_⟩:=id I'.loc
  have I5:Inv X pins σ H' s':=I3'.call' (ch:=fp) I'.os I'.base I'.hok I'.bare fun b hb=>by
   obtain⟨f0,f1,f2',f3',f4,f5⟩:=f3 b hb
   exact⟨f3',f1,f4,f5⟩
  exact hend h3.objs.size s2.heap.objs.size s' H' I5 q' I'.free (V3 I3'.lt) I3'.sz (fun x c ex z=>by
   obtain⟨v',q2⟩:=I3'.cell x c ex
   exact absurd q2.lt (by rw[z];exact E2 _)) (fun p hp z=>absurd (i7 (I3'.pin p hp).1) (by rw[z];exact E2 _)) ⟨m,hm⟩
 have loop:∀ s5:Shared,s5={ s2 with heap:=h1,toks:=s2.toks+([]:List (Str × Value)).length } ->
   aG5 (t7 X.prog X.w) X.A (.compLoop (.ListComp elt [⟨tg,iter,ifs,0⟩] scope pos) 0 (.ref it) (.ref s2.heap.objs.size) (N3 scope cl h3.objs.size X.env)) (aq2 (t7 X.prog X.w) X.A X.xe use R (.ref s2.heap.objs.size) h3.objs.size) s5:=by
  rintro s5 rfl
  refine bT6 rfl (fun n s'=>∃ i xs σ' H',Inv (B3 X scope cl N' { s2 with heap:=h3,toks:=s2.toks } (upd H2 s2.heap.objs.size (.lst [])) fp fun _ _=>False) [] σ' H' s'/\tn i s'.heap/\(∀ b∈fp,H' b=none)/\W i n xs σ' H')
   (fun n s6 hI=>?_) m0 ⟨0,[],ac0 lk σ,_,I4,st4,fun b hb=>(f3 b hb).1,w0⟩
  obtain⟨i,xs,σ6,H6,I6,st6,fr6,w6⟩:=hI
  show v7 _ X.A ((compTurn (.ListComp elt [⟨tg,iter,ifs,0⟩] scope pos) 0 (.ref it) (.ref s2.heap.objs.size) (N3 scope cl h3.objs.size X.env)).onRaise (fun x=>do ax1 x (N3 scope cl h3.objs.size X.env);bm1 x)) _ _ s6
  refine cg3 ?_
  rw[bG1]
  refine a8 (W9 (a8 ?_))
  obtain⟨hD6,hw⟩:=turn i n xs σ6 H6 w6
  rcases hw with⟨stop,qn⟩ | ⟨go,hlen,step⟩
  ·refine thn (T.done (B3 X scope cl N' { s2 with heap:=h3,toks:=s2.toks } (upd H2 s2.heap.objs.size (.lst [])) fp fun _ _=>False) rfl rfl rfl hc i [] s6 σ6 H6 _ I6 (stat fr6) st6 stop) fun r s7 ⟨hr,I7⟩=>?_
   subst hr
   exact j5 (fin s7 σ6 H6 I7 qn)
  ·refine thn (T.item (B3 X scope cl N' { s2 with heap:=h3,toks:=s2.toks } (upd H2 s2.heap.objs.size (.lst [])) fp fun _ _=>False) rfl rfl rfl hc i [] s6 σ6 H6 _ I6 (stat fr6) st6 go) fun r s7 ⟨u,hr,h7⟩=>?_
   subst hr
   refine a8 (thn h7 fun _ s8 ⟨x,H8,I8,r8,y8,st8,fr8⟩=>?_)
   have I8':=I8.pinned (stat fr8) (T.obj _ _ st8)
   refine a8 (C6 (hg _ _ _ _ s8 σ6 H8 x u _ I8' r8 (step x H8 y8)) (fun _ s9 ⟨σ9,H9,I9,q9⟩=>?_) (fun _ _ z=>False.elim z))
   refine a8 (C6 (ht _ _ _ _ s9 σ9 H9 _ I9 q9) (fun ok s10 ⟨H10,I10,q10⟩=>?_) (fun _ _ z=>False.elim z))
   have bl3:∀ {σ':St} {H':Hp} {ys:List V} {s':Shared},Inv (B3 X scope cl N' { s2 with heap:=h3,toks:=s2.toks } (upd H2 s2.heap.objs.size (.lst [])) fp fun _ _=>False) ([]++ai9 fp s8.heap) σ' H' s'->(∃ m',m'<n/\W (i+1) m' ys σ' H') ->
     ∃ m',m'<n/\∃ i xs σ' H',Inv (B3 X scope cl N' { s2 with heap:=h3,toks:=s2.toks } (upd H2 s2.heap.objs.size (.lst [])) fp fun _ _=>False) [] σ' H' s'/\tn i s'.heap/\(∀ b∈fp,H' b=none)/\W i m' xs σ' H':=fun {σ' H' ys s'} I' ⟨m',hm,w'⟩=>by
    refine⟨m',hm,i+1,ys,σ',H',I'.unpinned,T.keep _ _ _ st8 fun b hb o eb=>(I'.pin (b,o) (j7 _ (j7 _ (N6 hb eb)))).1,fun b hb=>?_,w'⟩
    obtain⟨o,eb,_⟩:=T.obj _ _ st8 b hb
    exact(I'.pin (b,o) (j7 _ (j7 _ (N6 hb eb)))).2.1
   cases ok with
   | false =>
    have q10':∃ m',m'<n/\W (i+1) m' xs σ9 H10:=by simpa using q10
    exact j5 ⟨rfl,bl3 I10 q10'⟩
   | true =>
    rw[if_pos rfl]at q10
    refine a8 (a8 (C6 (he _ _ _ _ s10 σ9 H10 _ I10 q10) (fun y s11 ⟨v11,H11,I11,r11,hD11,q11⟩=>?_) (fun _ _ z=>False.elim z)))
    refine a8 (C6 (Y0 (X:=B3 X scope cl N' { s2 with heap:=h3,toks:=s2.toks } (upd H2 s2.heap.objs.size (.lst [])) fp fun _ _=>False) _ s11 σ9 H11 (.ref s2.heap.objs.size) [v11] (.ref s2.heap.objs.size) [y] (fun _ H'=>∃ m',m'<n/\W (i+1) m' (xs++[v11]) σ9 H') I11 rfl (.cons r11 .nil) ⟨s2.heap.objs.size,xs,v11,rfl,rfl,hD11,hlen,q11⟩) (fun _ s12 ⟨_,H12,I12,_,q12⟩=>?_) (fun _ _ z=>False.elim z))
    exact j5 (j5 ⟨rfl,bl3 I12 q12⟩)
 exact at7 (loop _ rfl) (T.self X.A 0 _ _ _ st4 (loop _ rfl))
def bQ1 (i:Nat)(t:TE):TS:=fun D σ H=>t σ H fun v H1=>D.nx (σ.set i (some v)) H1
theorem ay2 {y:Str}{py:Pos}{elt iter:Expr}{spos:Pos}{wi:TI}{g:TG}{tt:TT}
  (hN:X.N.Nodup)(hy:X.N[i]?=some y)(hyl:X.env.scope.names.lookup y=some .local)
  (hsw:bT0 (.ListComp elt [⟨tg,iter,ifs,0⟩] scope pos) (some (.Name y py)) spos.line X.env=pure true)
  (hc:X.calm=true)(hi:PI X tg iter wi)(hclos:ao4 scope X.env=pure cl)(hkind:scope.kind=.function)
  (hnames:∀ y∈scope.names,y.2=.local->scope.names.lookup y.1=some .local)(hcl:av8 X.env cl)(hfr:ap7 scope.names cl=true)(hlk:be9 X N' lk scope cl)
  (hg:∀ s3 H3 fp,PG (B3 X scope cl N' s3 H3 fp fun _ _=>False) tg g)(ht:∀ s3 H3 fp,PTs (B3 X scope cl N' s3 H3 fp fun _ _=>False) ifs tt)(he:∀ s3 H3 fp,PE (B3 X scope cl N' s3 H3 fp fun _ _=>False) elt te)
  (hs:∀ x,T7 iter X.env x=pure x:=by intro _;rfl):PS X (.Assign [.Name y py] (.ListComp elt [⟨tg,iter,ifs,0⟩] scope pos) spos) (bQ1 i (aR1 wi lk g tt te)):=by
 intro pins s σ H D I h
 rw[bT8 _ _ _ _ hsw]
 refine a8 (W9 (a8 ?_))
 show v7 _ X.A (do let _ <- aL4 (.ListComp elt [⟨tg,iter,ifs,0⟩] scope pos) scope X.env _ (cg4 []) false (eval iter X.env) (some (aY7 (.Name y py) X.env))) _ _ s
 refine a8 (thn (bq4 (use:=some (aY7 (.Name y py) X.env)) (R:=fun _ s'=>SP X pins D .next s') hc hi hclos hkind hnames hcl hfr hlk hg ht he hs I h
  fun C Dd s' H' I' q' hC hCL hCs hCc hCp ⟨m,hm⟩=>?_) fun _ s' hq=>j5 (j5 hq))
 show v7 _ X.A (aY7 (.Name y py) X.env (.ref Dd)) _ _ s'
 refine aQ0 (at8 (v:=.ref Dd) I' hN hy (.inl hyl) rfl (fun s2 I2 ⟨a,hsb,ha⟩=>?_) (.inr hyl))
 have hCa:C≠a:=by
  rcases ha with z | z
  ·rw[z];exact hCL
  ·exact(hCc y a z).symm
 refine⟨m,hm.sameBut hsb hCa,fun h' hs'=>?_⟩
 obtain⟨h0,g0,d0,t0,o0⟩:=s2
 exact⟨_,H',I2.turned (t':=t0) (it:=C) (fun b o hb eb=>(hs'.2 b hb).trans eb) hC hCL (.inr hCs) hCc hCp,q'⟩
end L2
namespace Grf
def S:Nat->(Nat->Int)->Int
 | 0,_=>0
 | n+1,f=>S n f+f n
theorem C2 {f g:Nat->Int}:∀ {n:Nat},(∀ i,i<n->f i=g i)->S n f=S n g
 | 0,_=>rfl
 | n+1,h=>by
  show S n f+f n=S n g+g n
  rw[C2 fun i hi=>h i (by omega),h n (by omega)]
theorem av6 {f g:Nat->Int}:∀ {n:Nat},(∀ i,i<n->f i<=g i)->S n f<=S n g
 | 0,_=>L0 _
 | n+1,h=>by
  have h1:=av6 (n:=n) fun i hi=>h i (by omega)
  have h2:=h n (by omega)
  show S n f+f n<=S n g+g n
  omega
theorem ab4 (f g:Nat->Int):∀ n:Nat,S n (fun i=>f i+g i)=S n f+S n g
 | 0=>rfl
 | n+1=>by
  show S n (fun i=>f i+g i)+(f n+g n)=S n f+f n+(S n g+g n)
  rw[ab4 f g n]
  omega
theorem W7 (f g:Nat->Int):∀ n:Nat,S n (fun i=>f i - g i)=S n f - S n g
 | 0=>rfl
 | n+1=>by
  show S n (fun i=>f i - g i)+(f n - g n)=S n f+f n - (S n g+g n)
  rw[W7 f g n]
  omega
theorem Q6:∀ n:Nat,S n (fun _=>0)=0
 | 0=>rfl
 | n+1=>by
  show S n (fun _=>0)+0=0
  rw[Q6 n];rfl
theorem am2 (c:Int):∀ n:Nat,S n (fun _=>c)=(n:Int)*c
 | 0=>by simp[S]
 | n+1=>by
  show S n (fun _=>c)+c=((n+1:Nat):Int)*c
  rw[am2 c n,show ((n+1:Nat):Int)=(n:Int)+1 by omega,Int.add_mul,bS9]
theorem aF4 (c:Int)(f:Nat->Int):∀ n:Nat,S n (fun i=>c*f i)=c*S n f
 | 0=>by simp[S]
 | n+1=>by
  show S n (fun i=>c*f i)+c*f n=c*(S n f+f n)
  rw[aF4 c f n,Int.mul_add]
theorem P9 {f:Nat->Int}(h:∀ i,i<n->0<=f i):0<=S n f:=by
 have:=av6 (f:=fun _=>0) (g:=f) (n:=n) h
 rw[Q6]at this
 exact this
theorem bD8 (f:Nat->Nat->Int)(m:Nat):∀ n:Nat,S n (fun i=>S m (fun j=>f i j))=S m (fun j=>S n (fun i=>f i j))
 | 0=>(Q6 m).symm
 | n+1=>by
  show S n (fun i=>S m (fun j=>f i j))+S m (fun j=>f n j)=S m (fun j=>S n (fun i=>f i j)+f n j)
  rw[bD8 f m n,<- ab4]
theorem aj9 (c:Int)(h:j<n):S n (fun i=>if i=j then c else 0)=c:=by
 induction n with
 | zero=>omega
 | succ n ih =>
  show S n (fun i=>if i=j then c else 0)+(if n=j then c else 0)=c
  by_cases e:n=j
  ·rw[if_pos e,C2 (g:=fun _=>0) fun i hi=>if_neg (by omega),Q6];omega
  ·rw[if_neg e,ih (by omega)];omega
theorem S0 {f g:Nat->Int}(h:j<n)(hf:∀ i,i<n->i≠j->f i=g i):S n f=S n g+(f j - g j):=by
 have:S n f=S n (fun i=>g i+(if i=j then f j - g j else 0)):=C2 fun i hi=>by
  by_cases e:i=j
  ·rw[if_pos e,e];omega
  ·rw[if_neg e,hf i hi e];omega
 rw[this,ab4,aj9 _ h]
theorem am7 {f:Nat->Int}(h:j<n)(hf:∀ i,i<n->0<=f i):f j<=S n f:=by
 have h1:=S0 (f:=f) (g:=fun i=>if i=j then 0 else f i) h (fun i _ e=>by rw[if_neg e])
 have h2:0<=S n (fun i=>if i=j then 0 else f i):=P9 fun i hi=>by
  by_cases e:i=j
  ·rw[if_pos e];exact L0 _
  ·rw[if_neg e];exact hf i hi
 rw[if_pos rfl]at h1
 omega
theorem bD9 {f g:Nat->Int}(h:S n f<S n g):∃ i,i<n/\f i<g i:=by
 induction n with
 | zero=>exact absurd h (aG3 _)
 | succ n ih =>
  by_cases e:f n<g n
  ·exact⟨n,by omega,e⟩
  ·have h':S n f+f n<S n g+g n:=h
   obtain⟨i,hi,h2⟩:=ih (by omega)
   exact⟨i,by omega,h2⟩
def b2 (b:Bool):Int:=if b then 1 else 0
theorem V9:b2 true=1:=rfl
theorem Q4:b2 false=0:=rfl
theorem B4 (b:Bool):0<=b2 b:=by cases b<;>decide
theorem aK6 (b:Bool):b2 b<=1:=by cases b<;>decide
structure Gph (g:Nat->Nat->Bool):Prop where
 sym:∀ i j,g i j=g j i
 irr:∀ i,g i i=false
def deg (n:Nat)(g:Nat->Nat->Bool)(i:Nat):Int:=S n fun j=>b2 (g i j)
def Q7 (g:Nat->Nat->Bool)(a b:Nat)(v:Bool):Nat->Nat->Bool:=fun i j=>if (i=a/\j=b)\/(i=b/\j=a) then v else g i j
theorem K6 {a b:Nat}{v:Bool}(h:Gph g)(hab:a≠b):Gph (Q7 g a b v) where
 sym:=fun i j=>by
  unfold Q7
  by_cases e:(i=a/\j=b)\/(i=b/\j=a)
  ·rw[if_pos e,if_pos (by omega)]
  ·rw[if_neg e,if_neg (by omega)];exact h.sym i j
 irr:=fun i=>by
  unfold Q7
  rw[if_neg (by omega)];exact h.irr i
theorem L4 {a b:Nat}{v:Bool}(e:¬ ((i=a/\j=b)\/(i=b/\j=a))):Q7 g a b v i j=g i j:=if_neg e
theorem aq7 {a b:Nat}{v:Bool}:Q7 g a b v a b=v:=if_pos (.inl ⟨rfl,rfl⟩)
theorem R0 {a b:Nat}{v:Bool}(h:Gph g)(hab:a≠b)(ha:a<n)(hb:b<n)(i:Nat):deg n (Q7 g a b v) i=deg n g i+(if i=a\/i=b then b2 v - b2 (g a b) else 0):=by
 unfold deg
 by_cases e1:i=a
 ·subst e1
  rw[if_pos (.inl rfl),S0 (g:=fun j=>b2 (g i j)) hb (fun j _ hj=>by show b2 _=_;rw[L4 (by omega)])]
  show _+(b2 (Q7 g i b v i b) - _)=_
  rw[aq7]
 ·by_cases e2:i=b
  ·subst e2
   rw[if_pos (.inr rfl),S0 (g:=fun j=>b2 (g i j)) ha (fun j _ hj=>by show b2 _=_;rw[L4 (by omega)])]
   show _+(b2 (Q7 g a i v i a) - _)=_
   have:Q7 g a i v i a=v:=if_pos (.inr ⟨rfl,rfl⟩)
   rw[this,h.sym i a]
  ·rw[if_neg (by omega),C2 (g:=fun j=>b2 (g i j)) fun j _=>by show b2 _=_;rw[L4 (by omega)]]
   omega
end Grf
namespace Grf
theorem az4 {x y:Nat}(h:Gph g)(hy:y<n)(hxy:x≠y):S n (fun z=>if z=x\/z=y then 0 else b2 (g x z))=deg n g x - b2 (g x y):=by
 unfold deg
 rw[S0 (f:=fun z=>if z=x\/z=y then 0 else b2 (g x z)) (g:=fun z=>b2 (g x z)) hy (fun i _ hi=>?_)]
 ·show _+((if y=x\/y=y then (0:Int) else _) - _)=_
  rw[if_pos (.inr rfl)];omega
 ·show (if i=x\/i=y then (0:Int) else _)=_
  by_cases e:i=x
  ·rw[if_pos (.inl e),e,h.irr];rfl
  ·rw[if_neg (by omega)]
theorem cn3 {x y:Nat}(h:Gph g)(hx:x<n)(hy:y<n)(hxy:x≠y)(hd:deg n g y<deg n g x):∃ z,z<n/\z≠x/\z≠y/\g x z=true/\g y z=false:=by
 have h1:=az4 h hy hxy
 have h2:=az4 h hx (Ne.symm hxy)
 have h3:S n (fun z=>if z=y\/z=x then 0 else b2 (g y z))<S n (fun z=>if z=x\/z=y then 0 else b2 (g x z)):=by
  rw[h1,h2,h.sym y x];omega
 obtain⟨z,hz,hlt⟩:=bD9 h3
 by_cases e:z=x\/z=y
 ·rw[if_pos (show z=y\/z=x by omega),if_pos e]at hlt
  exact absurd hlt (aG3 _)
 ·rw[if_neg (show ¬ (z=y\/z=x) by omega),if_neg e]at hlt
  refine⟨z,hz,by omega,by omega,?_⟩
  cases h4:g x z<;>cases h5:g y z<;>rw[h4,h5]at hlt<;>simp_all [b2]
theorem find3 {x y v:Nat}(h:Gph g)(hx:x<n)(hy:y<n)(hv:v<n)(hxy:x≠y)(hxv:x≠v)(hyv:y≠v)(hd:deg n g y<=deg n g x)(h1:g y v=true)(h2:g x v=false) :
  ∃ z,z<n/\z≠x/\z≠y/\z≠v/\g x z=true/\g y z=false:=by
 have e1:=az4 h hy hxy
 have e2:=az4 h hx (Ne.symm hxy)
 have f1:=S0 (f:=fun z=>if z=v then 0 else (if z=x\/z=y then 0 else b2 (g x z))) (g:=fun z=>if z=x\/z=y then 0 else b2 (g x z)) hv (fun i _ hi=>by show (if i=v then (0:Int) else _)=_;rw[if_neg hi])
 have f2:=S0 (f:=fun z=>if z=v then 0 else (if z=y\/z=x then 0 else b2 (g y z))) (g:=fun z=>if z=y\/z=x then 0 else b2 (g y z)) hv (fun i _ hi=>by show (if i=v then (0:Int) else _)=_;rw[if_neg hi])
 have g1:(if v=v then (0:Int) else (if v=x\/v=y then 0 else b2 (g x v))) - (if v=x\/v=y then 0 else b2 (g x v))=0:=by
  rw[if_pos rfl,if_neg (by omega),h2];rfl
 have g2:(if v=v then (0:Int) else (if v=y\/v=x then 0 else b2 (g y v))) - (if v=y\/v=x then 0 else b2 (g y v)) = -1:=by
  rw[if_pos rfl,if_neg (by omega),h1];rfl
 rw[g1,e1]at f1
 rw[g2,e2,h.sym y x]at f2
 have h3:S n (fun z=>if z=v then 0 else (if z=y\/z=x then 0 else b2 (g y z)))<S n (fun z=>if z=v then 0 else (if z=x\/z=y then 0 else b2 (g x z))):=by
  rw[f1,f2];omega
 obtain⟨z,hz,hlt⟩:=bD9 h3
 by_cases ev:z=v
 ·rw[if_pos ev,if_pos ev]at hlt
  exact absurd hlt (aG3 _)
 ·rw[if_neg ev,if_neg ev]at hlt
  by_cases e:z=x\/z=y
  ·rw[if_pos (show z=y\/z=x by omega),if_pos e]at hlt
   exact absurd hlt (aG3 _)
  ·rw[if_neg (show ¬ (z=y\/z=x) by omega),if_neg e]at hlt
   refine⟨z,hz,by omega,by omega,ev,?_⟩
   cases h4:g x z<;>cases h5:g y z<;>rw[h4,h5]at hlt<;>simp_all [b2]
def ap2 (g:Nat->Nat->Bool)(a b c d:Nat):Nat->Nat->Bool:=Q7 (Q7 (Q7 (Q7 g a b false) c d false) a d true) c b true
structure Ex (g:Nat->Nat->Bool) (a b c d:Nat):Prop where
 ab:a≠b
 ac:a≠c
 ad:a≠d
 bc:b≠c
 bd:b≠d
 cd:c≠d
 t1:g a b=true
 t2:g c d=true
 n1:g a d=false
 n2:g c b=false
theorem aX0 {a b c d:Nat}(h:Gph g)(x:Ex g a b c d):Gph (ap2 g a b c d):=
 K6 (K6 (K6 (K6 h x.ab) x.cd) x.ad) (Ne.symm x.bc)
theorem aX1 {a b c d:Nat}(h:Gph g)(x:Ex g a b c d)(ha:a<n)(hb:b<n)(hc:c<n)(hd:d<n)(i:Nat):deg n (ap2 g a b c d) i=deg n g i:=by
 obtain⟨ab,ac,ad,bc,bd,cd,t1,t2,n1,n2⟩:=x
 unfold ap2
 have h1:=K6 (v:=false) h ab
 have h2:=K6 (v:=false) h1 cd
 have h3:=K6 (v:=true) h2 ad
 rw[R0 h3 (Ne.symm bc) hc hb,R0 h2 ad ha hd,R0 h1 cd hc hd,R0 h ab ha hb]
 have v1:Q7 g a b false c d=true:=by rw[L4 (by omega)];exact t2
 have v2:Q7 (Q7 g a b false) c d false a d=false:=by rw[L4 (by omega),L4 (by omega)];exact n1
 have v3:Q7 (Q7 (Q7 g a b false) c d false) a d true c b=false:=by rw[L4 (by omega),L4 (by omega),L4 (by omega)];exact n2
 rw[t1,v1,v2,v3,V9,Q4]
 by_cases ea:i=a
 ·subst ea
  rw[if_pos (.inl rfl),if_neg (by omega),if_pos (.inl rfl),if_neg (by omega)];omega
 ·by_cases eb:i=b
  ·subst eb
   rw[if_pos (.inr rfl),if_neg (by omega),if_neg (by omega),if_pos (.inr rfl)];omega
  ·by_cases ec:i=c
   ·subst ec
    rw[if_neg (by omega),if_pos (.inl rfl),if_neg (by omega),if_pos (.inl rfl)];omega
   ·by_cases ed:i=d
    ·subst ed
     rw[if_neg (by omega),if_pos (.inr rfl),if_pos (.inr rfl),if_neg (by omega)];omega
    ·rw[if_neg (by omega),if_neg (by omega),if_neg (by omega),if_neg (by omega)];omega
theorem aj7 {a b c d:Nat}(x:Ex g a b c d)(j:Nat):ap2 g a b c d a j=if j=b then false else if j=d then true else g a j:=by
 obtain⟨ab,ac,ad,bc,bd,cd,t1,t2,n1,n2⟩:=x
 unfold ap2
 rw[L4 (by omega)]
 by_cases e:j=d
 ·subst e
  rw[aq7,if_neg (by omega),if_pos rfl]
 ·rw[L4 (by omega),L4 (by omega),if_neg e]
  by_cases e2:j=b
  ·subst e2
   rw[aq7,if_pos rfl]
  ·rw[L4 (by omega),if_neg e2]
theorem cn0 {v:Nat}{N:Nat->Bool}(hv:v<n)(hNv:N v=false):∀ (m:Nat) (g:Nat->Nat->Bool),Gph g->S n (fun j=>b2 (N j))=deg n g v ->
  (∀ x y,x<n->y<n->N x=true->N y=false->y≠v->deg n g y<=deg n g x)->S n (fun j=>b2 (N j && !g v j))=(m:Int) ->
  ∃ g',Gph g'/\(∀ i,i<n->deg n g' i=deg n g i)/\∀ j,j<n->g' v j=N j:=by
 intro m
 induction m with
 | zero =>
  intro g h hs hd hm
  refine⟨g,h,fun _ _=>rfl,fun j hj=>?_⟩
  have all:∀ j,j<n->N j=true->g v j=true:=fun j hj hN=>by
   have:=am7 (f:=fun j=>b2 (N j && !g v j)) hj (fun i _=>B4 _)
   rw[hm]at this
   cases hg:g v j with
   | true=>rfl
   | false =>
    have e:b2 (N j && !g v j)=1:=by rw[hN,hg];rfl
    have t:b2 (N j && !g v j)<=0:=this
    omega
  have dif:S n (fun j=>b2 (g v j) - b2 (N j))=0:=by rw[W7];unfold deg at hs;omega
  have pos:∀ i,i<n->0<=b2 (g v i) - b2 (N i):=fun i hi=>by
   cases hN:N i with
   | true=>rw[all i hi hN];decide
   | false=>have:=B4 (g v i);rw[Q4];omega
  have:=am7 (f:=fun j=>b2 (g v j) - b2 (N j)) hj pos
  rw[dif]at this
  have p:=pos j hj
  cases hN:N j with
  | true=>exact all j hj hN
  | false =>
   cases hg:g v j with
   | false=>rfl
   | true =>
    have t:b2 (g v j) - b2 (N j)<=0:=this
    rw[hN,hg,V9,Q4]at t
    omega
 | succ m ih =>
  intro g h hs hd hm
  obtain⟨x,hx,hlt⟩:∃ x,x<n/\(fun _=>(0:Int)) x<b2 (N x && !g v x):=bD9 (f:=fun _=>0) (g:=fun j=>b2 (N j && !g v j)) (by rw[Q6,hm];omega)
  have hNx:N x=true/\g v x=false:=by
   cases h1:N x<;>cases h2:g v x<;>rw[h1,h2]at hlt<;>simp_all [b2]
  obtain⟨y,hy,hlt2⟩:∃ y,y<n/\b2 (N y)<b2 (g v y):=by
   by_cases hc:∃ y,y<n/\b2 (N y)<b2 (g v y)
   ·exact hc
   ·have pos:∀ i,i<n->0<=b2 (N i) - b2 (g v i):=fun i hi=>by
     have:¬ b2 (N i)<b2 (g v i):=fun z=>hc ⟨i,hi,z⟩
     omega
    have t:=am7 (f:=fun j=>b2 (N j) - b2 (g v j)) hx pos
    have e:S n (fun j=>b2 (N j) - b2 (g v j))=0:=by rw[W7];unfold deg at hs;omega
    rw[e,show b2 (N x) - b2 (g v x)=1 by rw[hNx.1,hNx.2];rfl]at t
    omega
  have hNy:N y=false/\g v y=true:=by
   cases h1:N y<;>cases h2:g v y<;>rw[h1,h2]at hlt2<;>simp_all [b2]
  have xv:x≠v:=fun e=>by rw[e,hNv]at hNx;exact absurd hNx.1 (by decide)
  have yv:y≠v:=fun e=>by rw[e,h.irr]at hNy;exact absurd hNy.2 (by decide)
  have xy:x≠y:=fun e=>by rw[e,hNy.1]at hNx;exact absurd hNx.1 (by decide)
  obtain⟨z,hz,zx,zy,zv,h1,h2⟩:=find3 h hx hy hv xy xv yv (hd x y hx hy hNx.1 hNy.1 yv) (by rw[h.sym];exact hNy.2) (by rw[h.sym];exact hNx.2)
  have ex:Ex g v y z x:=⟨Ne.symm yv,Ne.symm zv,Ne.symm xv,Ne.symm zy,Ne.symm xy,zx,hNy.2,by rw[h.sym];exact h1,hNx.2,by rw[h.sym];exact h2⟩
  have dg:=aX1 h ex hv hy hz hx
  obtain⟨g',k1,k2,k3⟩:=ih (ap2 g v y z x) (aX0 h ex) (by rw[dg];exact hs) (fun a b ha hb n1 n2 n3=>by rw[dg,dg];exact hd a b ha hb n1 n2 n3) (by
   have:=S0 (f:=fun j=>b2 (N j && !ap2 g v y z x v j)) (g:=fun j=>b2 (N j && !g v j)) hx (fun j _ hj=>by
    show b2 (N j && !ap2 g v y z x v j)=_
    rw[aj7 ex]
    by_cases e:j=y
    ·rw[if_pos e,e,hNy.1];rfl
    ·rw[if_neg e,if_neg hj])
   rw[this,hm]
   have e1:ap2 g v y z x v x=true:=by rw[aj7 ex,if_neg xy,if_pos rfl]
   show _+(b2 (N x && !ap2 g v y z x v x) - b2 (N x && !g v x))=_
   rw[e1,hNx.1,hNx.2]
   show ((m+1:Nat):Int)+(0 - 1)=_
   omega)
  exact⟨g',k1,fun i hi=>by rw[k2 i hi,dg],k3⟩
end Grf
namespace Grf
def cnt (n:Nat)(a:Nat->Bool):Int:=S n fun i=>b2 (a i)
def sm (n:Nat)(a:Nat->Bool)(d:Nat->Int):Int:=S n fun i=>if a i=true then d i else 0
def put (a:Nat->Bool)(j:Nat)(v:Bool):Nat->Bool:=fun i=>if i=j then v else a i
theorem ae9 {a:Nat->Bool}{v:Bool}:put a j v j=v:=if_pos rfl
theorem R8 {a:Nat->Bool}{v:Bool}(h:i≠j):put a j v i=a i:=if_neg h
theorem R6 {a:Nat->Bool}{v:Bool}(h:j<n):cnt n (put a j v)=cnt n a+(b2 v - b2 (a j)):=by
 unfold cnt
 rw[S0 (g:=fun i=>b2 (a i)) h (fun i _ hi=>by show b2 (put a j v i)=_;rw[R8 hi])]
 show _+(b2 (put a j v j) - _)=_
 rw[ae9]
theorem W1 {a:Nat->Bool}{v:Bool}(h:j<n):sm n (put a j v) d=sm n a d+((if v=true then d j else 0) - (if a j=true then d j else 0)):=by
 unfold sm
 rw[S0 (g:=fun i=>if a i=true then d i else 0) h (fun i _ hi=>by show (if put a j v i=true then d i else 0)=_;rw[R8 hi])]
 show _+((if put a j v j=true then d j else 0) - _)=_
 rw[ae9]
theorem af6 (n:Nat)(a:Nat->Bool):0<=cnt n a:=P9 fun i _=>B4 _
theorem az5 {a b:Nat->Bool}(h:∀ i,a i=true->b i=false):cnt n a+cnt n b<=n:=by
 unfold cnt
 rw[<- ab4]
 have:=av6 (f:=fun i=>b2 (a i)+b2 (b i)) (g:=fun _=>1) (n:=n) (fun i _=>by
  show b2 (a i)+b2 (b i)<=1
  cases ha:a i with
  | true=>rw[h i ha];decide
  | false=>have:=aK6 (b i);rw[Q4];omega)
 rw[am2]at this
 omega
theorem aO6 {a b:Nat->Bool}(h:∀ i,a i=true->b i=false)(hj:j<n)(ha:a j=false)(hb:b j=false):cnt n a+cnt n b+1<=n:=by
 have:=az5 (n:=n) (a:=put a j true) (b:=b) (fun i hi=>by
  by_cases e:i=j
  ·rw[e];exact hb
  ·rw[R8 e]at hi;exact h i hi)
 rw[R6 hj,ha,V9,Q4]at this
 omega
theorem bC6 {a:Nat->Bool}(h:∀ i,i<n->a i=false):cnt n a=0:=by
 unfold cnt
 rw[C2 (g:=fun _=>0) fun i hi=>by rw[h i hi];rfl]
 exact Q6 n
theorem ay0 {a:Nat->Bool}(h:∀ i,i<n->a i=false):sm n a d=0:=by
 unfold sm
 rw[C2 (g:=fun _=>0) fun i hi=>by rw[h i hi];rfl]
 exact Q6 n
theorem bv4 {a:Nat->Bool}(hd:∀ i,i<n->0<=d i)(hj:j<n)(ha:a j=true):d j<=sm n a d:=by
 have:=am7 (f:=fun i=>if a i=true then d i else 0) hj (fun i hi=>by
  cases a i with
  | true=>exact hd i hi
  | false=>exact L0 _)
 have e:(if a j=true then d j else 0)=d j:=if_pos ha
 unfold sm
 show d j<=_
 rw[<- e]
 exact this
theorem aI5 {a:Nat->Bool}(hd:∀ i,i<n->0<=d i):0<=sm n a d:=P9 fun i hi=>by
 cases a i with
 | true=>exact hd i hi
 | false=>exact L0 _
theorem bW1 {a:Nat->Bool}(hd:∀ i,i<n->0<=d i)(hi:i<n)(hj:j<n)(hij:i≠j)(h1:a i=true)(h2:a j=true):d i+d j<=sm n a d:=by
 have e:=W1 (d:=d) (a:=a) (v:=false) hi
 rw[h1,if_pos rfl,if_neg (by decide)]at e
 have:=bv4 (a:=put a i false) hd hj (by rw[R8 (Ne.symm hij)];exact h2)
 omega
theorem ci3 {a:Nat->Bool}{m:Int}(h:∀ i,i<n->a i=true->d i<=m):sm n a d<=cnt n a*m:=by
 have e:cnt n a*m=S n (fun i=>m*b2 (a i)):=by rw[aF4,bF2];rfl
 rw[e]
 refine av6 fun i hi=>?_
 cases ha:a i with
 | true=>rw[if_pos rfl,V9,R7];exact h i hi ha
 | false=>rw[if_neg (by decide),Q4,at6];exact L0 _
theorem ci4 {a:Nat->Bool}{m:Int}(h:∀ i,i<n->a i=true->d i=m):sm n a d=cnt n a*m:=by
 have e:cnt n a*m=S n (fun i=>m*b2 (a i)):=by rw[aF4,bF2];rfl
 rw[e]
 refine C2 fun i hi=>?_
 cases ha:a i with
 | true=>rw[if_pos rfl,V9,R7];exact h i hi ha
 | false=>rw[if_neg (by decide),Q4,at6]
theorem az6 {a:Nat->Bool}(h:cnt n a≠0):∃ i,i<n/\a i=true:=by
 by_cases hc:∃ i,i<n/\a i=true
 ·exact hc
 ·exact absurd (bC6 fun i hi=>by
   cases ha:a i with
   | false=>rfl
   | true=>exact absurd ⟨i,hi,ha⟩ hc) h
theorem cover {a b:Nat->Bool}(h:∀ i,a i=true->b i=false)(hc:cnt n a+cnt n b=n):sm n a d+sm n b d=S n d:=by
 unfold sm
 rw[<- ab4]
 refine C2 fun i hi=>?_
 cases ha:a i with
 | true=>rw[h i ha,if_pos rfl,if_neg (by decide)];omega
 | false =>
  cases hb:b i with
  | true=>rw[if_neg (by decide),if_pos rfl];omega
  | false=>have:=aO6 h hi ha hb;omega
def ak1 (n:Nat)(d:Nat->Int):Prop:=∀ a b:Nat->Bool,(∀ i,a i=true->b i=false)->sm n a d<=cnt n a*((n:Int) - 1 - cnt n b)+sm n b d
theorem bj9 (k:Int):∃ q,k*(k - 1)=2*q:=by
 rcases Int.emod_two_eq k with h | h
 ·exact⟨(k / 2)*(k - 1),by
   have:k=2*(k / 2):=by omega
   rw[<- Int.mul_assoc,<- this]⟩
 ·exact⟨k*((k - 1) / 2),by
   have:k - 1=2*((k - 1) / 2):=by omega
   rw[Int.mul_left_comm,<- this]⟩
theorem bC1 {a b:Nat->Bool}(h:∀ i,a i=true->b i=false)(x y:Nat):∀ i,put a x false i=true->put b y false i=false:=fun i hi=>by
 by_cases e:i=x
 ·rw[e,ae9]at hi;cases hi
 ·rw[R8 e]at hi
  by_cases e2:i=y
  ·rw[e2,ae9]
  ·rw[R8 e2];exact h i hi
theorem bA1 {t u:Nat}(K:ak1 n d)(hd:∀ i,i<n->0<=d i)(ev:∃ q,S n d=2*q)(ht:t<n)(hu:u<n)(htu:t≠u)(hup:0<d u)(hmax:∀ i,i<n->d i<=d t)(hmin:∀ i,i<n->0<d i->d u<=d i) :
  ak1 n (fun i=>d i - (if i=t then 1 else 0) - (if i=u then 1 else 0)):=by
 intro a b hab
 have hdt:d u<=d t:=hmax u hu
 have lower:∀ c:Nat->Bool,sm n c (fun i=>d i - (if i=t then 1 else 0) - (if i=u then 1 else 0))=sm n c d - b2 (c t) - b2 (c u):=fun c=>by
  have e:sm n c (fun i=>d i - (if i=t then 1 else 0) - (if i=u then 1 else 0))=S n (fun i=>(if c i=true then d i else 0) - (if i=t then b2 (c t) else 0) - (if i=u then b2 (c u) else 0)):=C2 fun i hi=>by
   show (if c i=true then (d i - (if i=t then 1 else 0) - (if i=u then 1 else 0)) else 0)=_
   by_cases e1:i=t
   ·subst e1
    rw[if_pos rfl,if_pos rfl,if_neg htu,if_neg htu]
    cases c i with
    | true=>rfl
    | false=>rfl
   ·rw[if_neg e1,if_neg e1]
    by_cases e2:i=u
    ·subst e2
     rw[if_pos rfl,if_pos rfl]
     cases c i with
     | true=>rfl
     | false=>rfl
    ·rw[if_neg e2,if_neg e2]
     cases c i with
     | true=>rw[if_pos rfl,if_pos rfl]
     | false=>rw[if_neg (by decide),if_neg (by decide)];omega
  rw[e,W7,W7,aj9 _ ht,aj9 _ hu]
  rfl
 rw[lower a,lower b]
 have K0:=K a b hab
 have ka:=af6 n a
 have kb:=af6 n b
 have kr:=az5 (n:=n) hab
 have sb:=aI5 (a:=b) hd
 have ba:=fun x=>B4 (a x)
 have ab:=fun x=>aK6 (a x)
 generalize hk:cnt n a=k at *
 generalize hl:cnt n b=l at *
 have pq:k*((n:Int) - 1 - l)=k*(n:Int) - k - k*l:=by rw[Int.mul_sub,Int.mul_sub,R7]
 have rem:∀ s,s<n->a s=true->b t=true->sm n a d+((n:Int) - k - l)+d t - d s<=k*((n:Int) - 1 - l)+sm n b d:=fun s hs has hbt=>by
  have:=K (put a s false) (put b t false) (bC1 hab s t)
  rw[W1 hs,W1 ht,R6 hs,R6 ht,has,hbt,hk,hl]at this
  simp only[if_true,V9,Q4,m5,if_false]at this
  have e:(k+(0 - 1))*((n:Int) - 1 - (l+(0 - 1)))=k*((n:Int) - 1 - l)+k - (n:Int)+l:=by grind
  rw[e]at this
  omega
 have mov:b t=true->a t=false->sm n a d+d t<=(k+1)*((n:Int) - l)+sm n b d - d t:=fun hbt hat=>by
  have dj:∀ i,put a t true i=true->put b t false i=false:=fun i hi=>by
   by_cases e:i=t
   ·rw[e,ae9]
   ·rw[R8 e]at hi;rw[R8 e];exact hab i hi
  have:=K (put a t true) (put b t false) dj
  rw[W1 ht,W1 ht,R6 ht,R6 ht,hat,hbt,hk,hl]at this
  simp only[if_true,V9,Q4,m5,if_false]at this
  have e:(k+(1 - 0))*((n:Int) - 1 - (l+(0 - 1)))=(k+1)*((n:Int) - l):=by grind
  rw[e]at this
  omega
 have nota:∀ i,b i=true->a i=false:=fun i hi=>by
  cases h:a i with
  | false=>rfl
  | true=>rw[hab i h]at hi;cases hi
 have empty:k=0->sm n a d=0:=fun hk0=>ay0 fun i hi=>by
  cases h:a i with
  | false=>rfl
  | true =>
   have:=am7 (f:=fun i=>b2 (a i)) hi (fun i _=>B4 _)
   have e:b2 (a i)=1:=by rw[h];rfl
   unfold cnt at hk
   have t:b2 (a i)<=S n (fun i=>b2 (a i)):=this
   omega
 cases hbt:b t with
 | false =>
  cases hbu:b u with
  | false=>have h1:=ba t;have h2:=ba u;rw[Q4];omega
  | true =>
   rw[V9,Q4]
   cases hat:a t with
   | true=>have h2:=ba u;rw[V9];omega
   | false =>
    rw[nota u hbu,Q4]
    have dub:=bv4 hd hu hbu
    have out:=aO6 hab ht hat hbt
    rw[hk,hl]at out
    by_cases c1:k+1<=d u
    ·have:=K a (put b u false) (fun i hi=>by
      by_cases e:i=u
      ·rw[e,ae9]
      ·rw[R8 e];exact hab i hi)
     rw[W1 hu,R6 hu,hbu,hk,hl]at this
     simp only[if_true,V9,Q4,m5,if_false]at this
     have e:k*((n:Int) - 1 - (l+(0 - 1)))=k*((n:Int) - 1 - l)+k:=by grind
     rw[e]at this
     omega
    ·by_cases c2:(n:Int) - l<=d t
     ·have:=K (put a t true) b (fun i hi=>by
       by_cases e:i=t
       ·rw[e];exact hbt
       ·rw[R8 e]at hi;exact hab i hi)
      rw[W1 ht,R6 ht,hat,hk,hl]at this
      simp only[if_true,V9,Q4,m5,if_false]at this
      have e:(k+(1 - 0))*((n:Int) - 1 - l)=k*((n:Int) - 1 - l)+((n:Int) - 1 - l):=by grind
      rw[e]at this
      omega
     ·have h1:=ci3 (a:=a) (d:=d) (m:=(n:Int) - 1 - l) (n:=n) (fun i hi _=>by have:=hmax i hi;omega)
      rw[hk]at h1
      omega
 | true =>
  have hat:=nota t hbt
  rw[hat,V9,Q4]
  cases hbu:b u with
  | false =>
   rw[Q4]
   cases hau:a u with
   | true=>rw[V9];omega
   | false =>
    rw[Q4]
    have out:=aO6 hab hu hau hbu
    rw[hk,hl]at out
    by_cases k0:k=0
    ·have h1:=empty k0
     have h2:=bv4 hd ht hbt
     rw[h1,k0,bF3]
     omega
    ·obtain⟨s,hs,has⟩:=az6 (n:=n) (a:=a) (by rw[hk];exact k0)
     have h1:=rem s hs has hbt
     have h2:=hmax s hs
     omega
  | true =>
   rw[nota u hbu,V9,Q4]
   have two:=bW1 hd ht hu htu hbt hbu
   by_cases k0:k=0
   ·have h1:=empty k0
    rw[h1,k0,bF3]
    omega
   ·-- slack even where there is no place besides
    have par:(n:Int) - k - l=0->sm n a d<k*((n:Int) - 1 - l)+sm n b d->sm n a d+2<=k*((n:Int) - 1 - l)+sm n b d:=fun r0 hlt=>by
     obtain⟨q,hq⟩:=ev
     have cv:=cover (d:=d) hab (by rw[hk,hl];omega)
     obtain⟨q2,hq2⟩:=bj9 k
     have e:k*((n:Int) - 1 - l)=k*(k - 1):=by rw[show (n:Int) - 1 - l=k - 1 by omega]
     rw[e]at hlt ⊢
     omega
    by_cases hex:∃ s,s<n/\a s=true/\d s<d t
    ·obtain⟨s,hs,has,hlt⟩:=hex
     have h1:=rem s hs has hbt
     by_cases r0:(n:Int) - k - l=0
     ·have:=par r0 (by omega);omega
     ·omega
    ·have all:∀ i,i<n->a i=true->d i=d t:=fun i hi hai=>by
      have h1:=hmax i hi
      have h2:¬ d i<d t:=fun z=>hex ⟨i,hi,hai,z⟩
      omega
     obtain⟨s,hs,has⟩:=az6 (n:=n) (a:=a) (by rw[hk];exact k0)
     have h1:=rem s hs has hbt
     have h2:=all s hs has
     have mv:=mov hbt hat
     have sa:=ci4 (a:=a) (d:=d) (n:=n) all
     rw[hk]at sa
     generalize d t=m at *
     by_cases r2:2<=(n:Int) - k - l
     ·omega
     ·by_cases r1:(n:Int) - k - l=1
      ·have e1:(n:Int) - 1 - l=k:=by omega
       have e2:(n:Int) - l=k+1:=by omega
       rw[e1]
       rw[e2,sa]at mv
       rw[sa]
       have x1:(k+1)*(k+1)=k*k+2*k+1:=by grind
       rw[x1]at mv
       by_cases c1:m<=k
       ·have:=aP5 c1 ka
        omega
       ·by_cases c2:m=k+1
        ·rw[c2,Int.mul_add,R7];omega
        ·omega
      ·have r0:(n:Int) - k - l=0:=by omega
       have e1:(n:Int) - 1 - l=k - 1:=by omega
       have e2:(n:Int) - l=k:=by omega
       have pr:=par r0
       rw[e1]at pr ⊢
       rw[e2,sa]at mv
       rw[sa]at pr ⊢
       have x1:(k+1)*k=k*k+k:=by grind
       have x2:k*(k - 1)=k*k - k:=by grind
       rw[x1]at mv
       rw[x2]at pr ⊢
       by_cases c1:m<=k - 1
       ·have:=aP5 c1 ka
        rw[x2]at this
        omega
       ·by_cases c2:m=k
        ·subst c2
         have:=pr (by omega)
         omega
        ·omega
end Grf
namespace Grf
theorem be5 {p:Nat->Prop}{f:Nat->Int}:∀ {n:Nat},(∃ i,i<n/\p i)->∃ u,u<n/\p u/\∀ i,i<n->p i->f u<=f i:=by
 intro n
 induction n with
 | zero=>rintro⟨i,h,_⟩;omega
 | succ n ih =>
  rintro⟨i,hi,pi⟩
  by_cases h:∃ i,i<n/\p i
  ·obtain⟨u,hu,pu,hm⟩:=ih h
   by_cases c:p n/\f n<f u
   ·refine⟨n,by omega,c.1,fun j hj pj=>?_⟩
    by_cases e:j=n
    ·rw[e];exact L0 _
    ·have:=hm j (by omega) pj;have:=c.2;omega
   ·refine⟨u,by omega,pu,fun j hj pj=>?_⟩
    by_cases e:j=n
    ·subst e
     have:¬ f j<f u:=fun z=>c ⟨pj,z⟩
     omega
    ·exact hm j (by omega) pj
  ·have e:i=n:=by
    by_cases e:i=n
    ·exact e
    ·exact absurd ⟨i,by omega,pi⟩ h
   subst e
   refine⟨i,by omega,pi,fun j hj pj=>?_⟩
   by_cases e:j=i
   ·rw[e];exact L0 _
   ·exact absurd ⟨j,by omega,pj⟩ h
theorem cd6 {p:Nat->Prop}{f:Nat->Int}(h:∃ i,i<n/\p i):∃ u,u<n/\p u/\∀ i,i<n->p i->f i<=f u:=by
 obtain⟨u,h1,h2,h3⟩:=be5 (f:=fun i=>-f i) h
 exact⟨u,h1,h2,fun i hi pi=>by have:=h3 i hi pi;omega⟩
theorem aV9:∀ (m n:Nat) (d:Nat->Int),(∀ i,i<n->0<=d i)->ak1 n d->S n d=2*(m:Int)->∃ g,Gph g/\∀ i,i<n->deg n g i=d i:=by
 intro m
 induction m with
 | zero =>
  intro n d hd K hs
  refine⟨fun _ _=>false,⟨fun _ _=>rfl,fun _=>rfl⟩,fun i hi=>?_⟩
  have h1:=am7 hi hd
  have h2:=hd i hi
  have h3:deg n (fun _ _=>false) i=0:=Q6 n
  rw[h3]
  have:S n d=0:=by rw[hs];rfl
  omega
 | succ m ih =>
  intro n d hd K hs
  have hpos:∃ i,i<n/\0<d i:=by
   have:=bD9 (f:=fun _=>0) (g:=d) (n:=n) (by rw[Q6,hs];omega)
   exact this
  obtain⟨t,ht,htp,hmax0⟩:=cd6 (p:=fun i=>0<d i) (f:=d) hpos
  have hmax:∀ i,i<n->d i<=d t:=fun i hi=>by
   by_cases c:0<d i
   ·exact hmax0 i hi c
   ·omega
  have cb:cnt n (fun i=>decide (i≠t/\d i<=0))+cnt n (fun i=>decide (i≠t/\0<d i))+1=n:=by
   unfold cnt
   have e:=aj9 (n:=n) (j:=t) 1 ht
   rw[<- ab4]
   have:S n (fun i=>(b2 (decide (i≠t/\d i<=0))+b2 (decide (i≠t/\0<d i)))+(if i=t then 1 else 0))=(n:Int)*1:=by
    rw[<- am2]
    refine C2 fun i hi=>?_
    by_cases e1:i=t
    ·subst e1;simp[b2]
    ·by_cases c:0<d i
     ·have c':¬ d i<=0:=by omega
      simp[b2,e1,c,c']
     ·have c':d i<=0:=by omega
      simp[b2,e1,c,c']
   rw[ab4,e]at this
   show S n (fun i=>b2 (decide (i≠t/\d i<=0))+b2 (decide (i≠t/\0<d i)))+1=_
   omega
  have ca:cnt n (fun i=>decide (i=t))=1:=by
   unfold cnt
   rw[C2 (g:=fun i=>if i=t then 1 else 0) fun i _=>by by_cases e:i=t<;>simp[b2,e]]
   exact aj9 1 ht
  have sa:sm n (fun i=>decide (i=t)) d=d t:=by
   unfold sm
   rw[C2 (g:=fun i=>if i=t then d t else 0) fun i _=>by by_cases e:i=t<;>simp[e]]
   exact aj9 _ ht
  have sb:sm n (fun i=>decide (i≠t/\d i<=0)) d=0:=by
   unfold sm
   rw[C2 (g:=fun _=>0) fun i hi=>by
    by_cases e:i≠t/\d i<=0
    ·have:=hd i hi
     rw[if_pos (decide_eq_true e)]
     have:=e.2
     omega
    ·rw[if_neg (show ¬ decide (i≠t/\d i<=0)=true by rw[decide_eq_false e];decide)]]
   exact Q6 n
  have kt:=K (fun i=>decide (i=t)) (fun i=>decide (i≠t/\d i<=0)) (fun i hi=>by
   have:i=t:=of_decide_eq_true hi
   exact decide_eq_false fun z=>z.1 this)
  rw[ca,sa,sb,bS9]at kt
  have hoth:∃ i,i<n/\(i≠t/\0<d i):=by
   obtain⟨i,hi,h⟩:=az6 (n:=n) (a:=fun i=>decide (i≠t/\0<d i)) (by omega)
   exact⟨i,hi,of_decide_eq_true h⟩
  obtain⟨u,hu,⟨hut,hup⟩,hmin0⟩:=be5 (p:=fun i=>i≠t/\0<d i) (f:=d) hoth
  have hmin:∀ i,i<n->0<d i->d u<=d i:=fun i hi hp=>by
   by_cases e:i=t
   ·rw[e];exact hmax u hu
   ·exact hmin0 i hi ⟨e,hp⟩
  have htu:t≠u:=Ne.symm hut
  have K':=bA1 K hd ⟨_,hs⟩ ht hu htu hup hmax hmin
  obtain⟨g,hg,dg⟩:=ih n _ (fun i hi=>by
   show 0<=d i - (if i=t then 1 else 0) - (if i=u then 1 else 0)
   by_cases e1:i=t
   ·subst e1;rw[if_pos rfl,if_neg htu];omega
   ·by_cases e2:i=u
    ·subst e2;rw[if_neg e1,if_pos rfl];omega
    ·rw[if_neg e1,if_neg e2];have:=hd i hi;omega) K' (by
   rw[W7,W7,aj9 _ ht,aj9 _ hu,hs];omega)
  cases hgu:g t u with
  | false =>
   refine⟨Q7 g t u true,K6 hg htu,fun i hi=>?_⟩
   rw[R0 hg htu ht hu,dg i hi,hgu,V9,Q4]
   show d i - (if i=t then 1 else 0) - (if i=u then 1 else 0)+_=_
   by_cases e1:i=t
   ·subst e1;rw[if_pos rfl,if_neg htu,if_pos (.inl rfl)];omega
   ·by_cases e2:i=u
    ·subst e2;rw[if_neg e1,if_pos rfl,if_pos (.inr rfl)];omega
    ·rw[if_neg e1,if_neg e2,if_neg (by omega)];omega
  | true =>
   obtain⟨s,hs1,hst,hsp,hgs⟩:∃ s,s<n/\s≠t/\0<d s/\g t s=false:=by
    by_cases hc:∃ s,s<n/\s≠t/\0<d s/\g t s=false
    ·exact hc
    ·have le:cnt n (fun i=>decide (i≠t/\0<d i))<=deg n g t:=av6 fun i hi=>by
      show b2 (decide (i≠t/\0<d i))<=b2 (g t i)
      by_cases e:i≠t/\0<d i
      ·have:g t i=true:=by
        cases h:g t i with
        | true=>rfl
        | false=>exact absurd ⟨i,hi,e.1,e.2,h⟩ hc
       rw[this,decide_eq_true e];exact L0 _
      ·rw[decide_eq_false e];exact B4 _
     have dt:=dg t ht
     have dt':deg n g t=d t - 1 - 0:=by
      rw[dt]
      show d t - (if t=t then 1 else 0) - (if t=u then 1 else 0)=_
      rw[if_pos rfl,if_neg htu]
     omega
   have su:s≠u:=fun e=>by rw[e,hgu]at hgs;cases hgs
   have ds:deg n g s=d s:=by
    rw[dg s hs1]
    show d s - (if s=t then 1 else 0) - (if s=u then 1 else 0)=_
    rw[if_neg hst,if_neg su];omega
   have du:deg n g u=d u - 1:=by
    rw[dg u hu]
    show d u - (if u=t then 1 else 0) - (if u=u then 1 else 0)=_
    rw[if_neg hut,if_pos rfl];omega
   obtain⟨z,hz,zs,zu,h1,h2⟩:=cn3 hg hs1 hu su (by have:=hmin s hs1 hsp;omega)
   have zt:z≠t:=fun e=>by rw[e,hg.sym,hgs]at h1;cases h1
   have g1:=K6 (v:=false) hg (Ne.symm zs)
   have g2:=K6 (v:=true) g1 (Ne.symm hst)
   refine⟨Q7 (Q7 (Q7 g s z false) t s true) u z true,K6 g2 (Ne.symm zu),fun i hi=>?_⟩
   rw[R0 g2 (Ne.symm zu) hu hz,R0 g1 (Ne.symm hst) ht hs1,R0 hg (Ne.symm zs) hs1 hz,dg i hi]
   have v1:Q7 g s z false t s=false:=by rw[L4 (by omega)];exact hgs
   have v2:Q7 (Q7 g s z false) t s true u z=false:=by rw[L4 (by omega),L4 (by omega)];exact h2
   rw[h1,v1,v2,V9,Q4]
   show d i - (if i=t then 1 else 0) - (if i=u then 1 else 0)+_+_+_=_
   by_cases e1:i=t
   ·subst e1;rw[if_pos rfl,if_neg htu,if_neg (by omega),if_pos (.inl rfl),if_neg (by omega)];omega
   ·by_cases e2:i=u
    ·subst e2;rw[if_neg e1,if_pos rfl,if_neg (by omega),if_neg (by omega),if_pos (.inl rfl)];omega
    ·rw[if_neg e1,if_neg e2]
     by_cases e3:i=s
     ·subst e3;rw[if_pos (.inl rfl),if_pos (.inr rfl),if_neg (by omega)];omega
     ·by_cases e4:i=z
      ·subst e4;rw[if_pos (.inr rfl),if_neg (by omega),if_pos (.inr rfl)];omega
      ·rw[if_neg (by omega),if_neg (by omega),if_neg (by omega)];omega
theorem aV1 (hg:Gph g)(dg:∀ i,i<n->deg n g i=d i):ak1 n d:=by
 intro a b hab
 have e1:sm n a d=S n (fun i=>S n (fun j=>if a i=true then (if b j=true then b2 (g i j) else 0) else 0))+S n (fun i=>S n (fun j=>if a i=true then (if b j=true then 0 else b2 (g i j)) else 0)):=by
  rw[<- ab4]
  refine C2 fun i hi=>?_
  rw[<- ab4]
  cases a i with
  | true =>
   rw[if_pos rfl,<- dg i hi]
   refine C2 fun j _=>?_
   cases b j with
   | true=>simp
   | false=>simp
  | false =>
   rw[if_neg (by decide),C2 (g:=fun _=>0) fun j _=>by simp,Q6]
 have e2:S n (fun i=>S n (fun j=>if a i=true then (if b j=true then b2 (g i j) else 0) else 0))<=sm n b d:=by
  rw[bD8]
  refine av6 fun j hj=>?_
  cases hb:b j with
  | true =>
   rw[if_pos rfl,<- dg j hj]
   refine av6 fun i _=>?_
   show (if a i=true then (if true=true then b2 (g i j) else 0) else 0)<=b2 (g j i)
   rw[if_pos rfl,hg.sym j i]
   cases a i with
   | true=>rw[if_pos rfl];exact L0 _
   | false=>rw[if_neg (by decide)];exact B4 _
  | false =>
   rw[if_neg (by decide)]
   have:S n (fun i=>if a i=true then (if false=true then b2 (g i j) else 0) else 0)=0:=by
    rw[C2 (g:=fun _=>0) fun i _=>by simp]
    exact Q6 n
   rw[this]
   exact L0 _
 have e3:S n (fun i=>S n (fun j=>if a i=true then (if b j=true then 0 else b2 (g i j)) else 0))<=cnt n a*((n:Int) - 1 - cnt n b):=by
  have:cnt n a*((n:Int) - 1 - cnt n b)=S n (fun i=>((n:Int) - 1 - cnt n b)*b2 (a i)):=by rw[aF4,bF2];rfl
  rw[this]
  refine av6 fun i hi=>?_
  cases ha:a i with
  | true =>
   rw[V9,R7]
   have hbi:=hab i ha
   have t:S n (fun j=>if true=true then (if b j=true then 0 else b2 (g i j)) else 0)<=S n (fun j=>(1 - b2 (b j)) - (if j=i then 1 else 0)):=av6 fun j hj=>by
    show (if true=true then (if b j=true then 0 else b2 (g i j)) else 0)<=_
    rw[if_pos rfl]
    by_cases e:j=i
    ·subst e
     rw[hbi,if_neg (by decide),hg.irr,if_pos rfl];decide
    ·rw[if_neg e]
     cases b j with
     | true=>rw[if_pos rfl];decide
     | false=>rw[if_neg (by decide)];have:=aK6 (g i j);rw[Q4];omega
   rw[W7,W7,aj9 _ hi,am2,R7]at t
   unfold cnt
   omega
  | false =>
   rw[Q4,at6,C2 (g:=fun _=>0) fun j _=>by simp,Q6]
   exact L0 _
 omega
end Grf
namespace Grf
def mnf (r x:Int):Int:=if r<x then r else x
theorem bM2 (r x:Int):mnf r x<=x:=by unfold mnf;split<;>omega
theorem bM1 (r x:Int):mnf r x<=r:=by unfold mnf;split<;>omega
theorem bz4 {r x y:Int}(h:x<=y):mnf r x<=mnf r y:=by unfold mnf;split<;>split<;>omega
def roomF (n:Nat)(d:Nat->Int)(A:Nat->Bool):Int:=cnt n A*(cnt n A - 1)+S n (fun i=>if A i=true then 0 else mnf (cnt n A) (d i)) - sm n A d
def Top (n:Nat)(d:Nat->Int)(A:Nat->Bool):Prop:=∀ i j,i<n->j<n->A i=true->A j=false->d j<=d i
theorem bt0 {A a:Nat->Bool}{φ:Int->Int}(hφ:∀ x y,x<=y->φ x<=φ y)(ht:Top n d A)(hc:cnt n a=cnt n A):sm n a (fun i=>φ (d i))<=sm n A (fun i=>φ (d i)):=by
 by_cases h0:cnt n A=0
 ·have za:∀ i,i<n->a i=false:=fun i hi=>by
   cases h:a i with
   | false=>rfl
   | true =>
    have:=am7 (f:=fun i=>b2 (a i)) hi (fun i _=>B4 _)
    have e:b2 (a i)=1:=by rw[h];rfl
    have t:b2 (a i)<=cnt n a:=this
    omega
  have zA:∀ i,i<n->A i=false:=fun i hi=>by
   cases h:A i with
   | false=>rfl
   | true =>
    have:=am7 (f:=fun i=>b2 (A i)) hi (fun i _=>B4 _)
    have e:b2 (A i)=1:=by rw[h];rfl
    have t:b2 (A i)<=cnt n A:=this
    omega
  rw[ay0 za,ay0 zA]
  exact L0 _
 ·obtain⟨m,hm,hAm,hmin⟩:=be5 (p:=fun i=>A i=true) (f:=d) (az6 h0)
  have key:S n (fun i=>(if a i=true then φ (d i) else 0) - (if A i=true then φ (d i) else 0))<=S n (fun i=>φ (d m)*b2 (a i) - φ (d m)*b2 (A i)):=av6 fun i hi=>by
   cases ha:a i with
   | true =>
    cases hA:A i with
    | true=>rw[if_pos rfl];omega
    | false =>
     rw[if_pos rfl,if_neg (by decide),V9,Q4,R7,at6]
     have:=hφ _ _ (ht m i hm hi hAm hA)
     omega
   | false =>
    cases hA:A i with
    | true =>
     rw[if_pos rfl,if_neg (by decide),V9,Q4,R7,at6]
     have:=hφ _ _ (hmin i hi hA)
     omega
    | false=>rw[if_neg (by decide)];omega
  rw[W7,W7,aF4,aF4]at key
  have e:φ (d m)*S n (fun i=>b2 (a i))=φ (d m)*S n (fun i=>b2 (A i)):=by
   show φ (d m)*cnt n a=φ (d m)*cnt n A
   rw[hc]
  show S n (fun i=>if a i=true then φ (d i) else 0)<=S n (fun i=>if A i=true then φ (d i) else 0)
  omega
theorem bd3 (hd:∀ i,i<n->0<=d i)(h:∀ r:Nat,1<=r->r<=n->∃ A,cnt n A=r/\Top n d A/\0<=roomF n d A):ak1 n d:=by
 intro a b hab
 have k0:=af6 n a
 have kr:=az5 (n:=n) hab
 have kb:=af6 n b
 by_cases hz:cnt n a=0
 ·have za:∀ i,i<n->a i=false:=fun i hi=>by
   cases h:a i with
   | false=>rfl
   | true =>
    have:=am7 (f:=fun i=>b2 (a i)) hi (fun i _=>B4 _)
    have e:b2 (a i)=1:=by rw[h];rfl
    have t:b2 (a i)<=cnt n a:=this
    omega
  have:=aI5 (a:=b) hd
  rw[ay0 za,hz,bF3]
  omega
 ·obtain⟨A,hc,ht,r1⟩:=h (cnt n a).toNat (by omega) (by omega)
  have hcA:cnt n A=cnt n a:=by omega
  have r2:=bt0 (φ:=fun x=>x+mnf (cnt n a) x) (fun x y hxy=>by have:=bz4 (r:=cnt n a) hxy;omega) ht hcA.symm
  have sp:∀ c:Nat->Bool,sm n c (fun i=>d i+mnf (cnt n a) (d i))=sm n c d+S n (fun i=>mnf (cnt n a) (d i)) - S n (fun i=>if c i=true then 0 else mnf (cnt n a) (d i)):=fun c=>by
   unfold sm
   rw[<- ab4,<- W7]
   refine C2 fun i _=>?_
   show (if c i=true then d i+mnf (cnt n a) (d i) else 0)=(if c i=true then d i else 0)+mnf (cnt n a) (d i) - (if c i=true then 0 else mnf (cnt n a) (d i))
   cases c i with
   | true=>rw[if_pos rfl,if_pos rfl,if_pos rfl];omega
   | false=>rw[if_neg (by decide),if_neg (by decide),if_neg (by decide)];omega
  rw[sp a,sp A]at r2
  unfold roomF at r1
  rw[hcA]at r1
  have low:S n (fun i=>if a i=true then 0 else mnf (cnt n a) (d i))<=sm n b d+cnt n a*((n:Int) - cnt n a - cnt n b):=by
   have e:cnt n a*((n:Int) - cnt n a - cnt n b)=S n (fun i=>cnt n a*(1 - b2 (a i) - b2 (b i))):=by
    rw[aF4,W7,W7,am2,R7];rfl
   rw[e]
   unfold sm
   rw[<- ab4]
   refine av6 fun i hi=>?_
   cases ha:a i with
   | true =>
    have hb:=hab i ha
    rw[if_pos rfl,hb,if_neg (by decide),V9,Q4]
    simp
   | false =>
    rw[if_neg (by decide),Q4]
    cases b i with
    | true =>
     rw[if_pos rfl,V9]
     have:=bM2 (cnt n a) (d i)
     simp
     exact this
    | false =>
     rw[if_neg (by decide),Q4]
     have:=bM1 (cnt n a) (d i)
     simp
     exact this
  have x:cnt n a*((n:Int) - 1 - cnt n b)=cnt n a*(cnt n a - 1)+cnt n a*((n:Int) - cnt n a - cnt n b):=by grind
  rw[x]
  omega
theorem bC3 (hg:Gph g):∀ n:Nat,∃ q,S n (deg n g)=2*q:=by
 intro n
 induction n with
 | zero=>exact⟨0,rfl⟩
 | succ n ih =>
  obtain⟨q,hq⟩:=ih
  refine⟨q+S n (fun i=>b2 (g i n)),?_⟩
  show S n (deg (n+1) g)+deg (n+1) g n=_
  have e1:S n (deg (n+1) g)=S n (deg n g)+S n (fun i=>b2 (g i n)):=by rw[<- ab4];rfl
  have e2:deg (n+1) g n=S n (fun i=>b2 (g i n)):=by
   show S n (fun j=>b2 (g n j))+b2 (g n n)=_
   rw[hg.irr,Q4,C2 (g:=fun i=>b2 (g i n)) fun i _=>by rw[hg.sym]]
   omega
  rw[e1,e2,hq]
  omega
end Grf
namespace Web
def mn (r x:Int):Int:=if r<x then r else x
theorem aL7:∀ a b:List Int,(a++b).sum=a.sum+b.sum
 | [],b=>by simp
 | x::a,b=>by rw[cf0,M6,M6,aL7 a b,Int.add_assoc]
theorem aq5:∀ a:List Int,a.reverse.sum=a.sum
 | []=>rfl
 | x::a=>by rw[List.reverse_cons,aL7,aq5 a,M6,M6,List.sum_nil];omega
def up2 (ns:List Int):List Int:=PySem.W.sortI ns
theorem aq4 (ns:List Int):(up2 ns).length=ns.length:=(PySem.W.sortI_perm ns).length_eq
theorem bj6 (hp:zs.Perm ns)(hs:zs.Pairwise (·≥·)):zs=(up2 ns).reverse:=by
 have h:zs.reverse=up2 ns:=PySem.W.eq_sortI ((X8 zs).trans hp) (by rw[Y9];exact hs)
 rw[<- h,List.reverse_reverse]
def part (m:Nat)(r:Int)(g:List Int):Int:=((g.take m).map (mn r)).sum - (g.drop m).sum
def ai5 (ns:List Int)(r:Nat):Int:=(r:Int)*((r:Int) - 1)+part (ns.length - r) r (up2 ns)
theorem aB6 {r:Nat}(e:zs=(up2 ns).reverse):(r:Int)*((r:Int) - 1)+((zs.drop r).map (mn r)).sum - (zs.take r).sum=ai5 ns r:=by
 unfold ai5 part
 rw[e,ce5,ce6,cf6,aq5,aq5,aq4]
 omega
end Web
namespace Web
inductive Wl where
 | below (p:Nat) | odd | wall (r:Nat) | free
 deriving DecidableEq
def AllP (ns:List Int):Prop:=∀ (j:Nat) (x:Int),ns[j]?=some x->0<=x
def O2 (ns:List Int):Wl->Prop
 | .below p=>(∃ x,ns[p]?=some x/\x<0)/\∀ (j:Nat) (x:Int),j<p->ns[j]?=some x->0<=x
 | .odd=>AllP ns/\ns.sum % 2=1
 | .wall r=>AllP ns/\¬ ns.sum % 2=1/\1<=r/\r<=ns.length/\ai5 ns r<0/\∀ k,1<=k->k<r->0<=ai5 ns k
 | .free=>AllP ns/\¬ ns.sum % 2=1/\∀ k,1<=k->k<=ns.length->0<=ai5 ns k
theorem bf8 {w u:Wl}(h:O2 ns w)(g:O2 ns u):w=u:=by
 cases w with
 | below p =>
  obtain⟨⟨x,hx,hx0⟩,hp⟩:=h
  have no:¬ AllP ns:=fun a=>by have:=a p x hx;omega
  cases u with
  | below q =>
   obtain⟨⟨y,hy,hy0⟩,hq⟩:=g
   rcases Y2 p q with l | l | l
   ·have:=hq p x l hx;omega
   ·rw[l]
   ·have:=hp q y l hy;omega
  | odd=>exact absurd g.1 no
  | wall r=>exact absurd g.1 no
  | free=>exact absurd g.1 no
 | odd =>
  cases u with
  | below q =>
   obtain⟨⟨y,hy,hy0⟩,hq⟩:=g
   have:=h.1 q y hy;omega
  | odd=>rfl
  | wall r=>exact absurd h.2 g.2.1
  | free=>exact absurd h.2 g.2.1
 | wall r =>
  obtain⟨a,b,r1,r2,r3,r4⟩:=h
  cases u with
  | below q =>
   obtain⟨⟨y,hy,hy0⟩,hq⟩:=g
   have:=a q y hy;omega
  | odd=>exact absurd g.2 b
  | wall s =>
   obtain⟨_,_,s1,s2,s3,s4⟩:=g
   rcases Y2 r s with l | l | l
   ·have:=s4 r r1 l;omega
   ·rw[l]
   ·have:=r4 s s1 l;omega
  | free=>have:=g.2.2 r r1 r2;omega
 | free =>
  cases u with
  | below q =>
   obtain⟨⟨y,hy,hy0⟩,hq⟩:=g
   have:=h.1 q y hy;omega
  | odd=>exact absurd g.2 h.2.1
  | wall s =>
   obtain⟨_,_,s1,s2,s3,s4⟩:=g
   have:=h.2.2 s s1 s2;omega
  | free=>rfl
end Web
namespace Web
open L2
def rng (n:Nat):List Int:=(am9 0 n).map fun k:Nat=>(k:Int)
theorem L5 {x:Int}:x∈rng n↔0<=x/\x<n:=by
 unfold rng
 constructor
 ·intro h
  obtain⟨k,hk,rfl⟩:=k9.mp h
  have:=aI0.mp hk
  omega
 ·intro h
  exact k9.mpr ⟨x.toNat,aI0.mpr ⟨by omega,by omega⟩,by omega⟩
theorem V5 (n:Nat):(rng n).length=n:=by unfold rng;rw[a5,aF8]
theorem Q2 (n:Nat):(rng n).Nodup:=by
 unfold rng
 refine List.Pairwise.map _ (fun a b h=>?_) (List.nodup_range' (step:=1) (by decide))
 intro e
 exact h (by omega)
def rest (zs:List Int)(p:Int):List Int:=zs.filter fun x=>decide (x≠p)
theorem ar1 {p x:Int}:x∈rest zs p↔x∈zs/\x≠p:=by unfold rest;rw[G7,decide_eq_true_iff]
theorem aB7 {p:Int}(hp:zs.Perm (rng n))(h0:0<=p)(h1:p<n):(rest zs p).length=n - 1:=by
 have nd:zs.Nodup:=hp.nodup_iff.mpr (Q2 n)
 have hm:p∈zs:=hp.mem_iff.mpr (L5.mpr ⟨h0,h1⟩)
 have e:rest zs p=zs.erase p:=by
  unfold rest
  rw[nd.erase_eq_filter]
  congr 1
  funext x
  by_cases h:x=p<;>simp[h]
 rw[e,bl1 hm,hp.length_eq,V5]
def Y5 (ns es:List Int)(i:Nat):Int:=if (i:Int)∈es then ns.getD i 0 - 1 else ns.getD i 0
def Q9 (ns:List Int)(p:Nat)(es:List Int):List Int:=((A5 ns.length).filter fun i=>decide (i≠p)).map (Y5 ns es)
open Grf (S b2 Gph deg cnt sm Top roomF)
theorem bk9 (f:Nat->Int):∀ n:Nat,S n f=((A5 n).map f).sum
 | 0=>rfl
 | n+1=>by
  rw[O6,g9,aL7,<- bk9 f n]
  show S n f+f n=_+(f n+0)
  omega
theorem map_getD (φ:Int->Int)(xs:List Int):(A5 xs.length).map (fun i=>φ (xs.getD i 0))=xs.map φ:=by
 refine S2 fun i=>?_
 rw[o6,o6]
 rcases D8 i xs.length with h | h
 ·rw[U8 h,f9 h]
  show some (φ (xs.getD i 0))=some (φ xs[i])
  rw[i8,f9 h]
  rfl
 ·rw[t8 h,t8 (by rw[K4];exact h)]
  rfl
theorem cd7 (φ:Int->Int)(xs:List Int):S xs.length (fun i=>φ (xs.getD i 0))=(xs.map φ).sum:=by rw[bk9,map_getD]
theorem bS3 (xs:List Int):S xs.length (fun i=>xs.getD i 0)=xs.sum:=by
 have:=cd7 (fun x=>x) xs
 rw[List.map_id']at this
 exact this
theorem be7 {f:Nat->Int}:∀ {L:List Int},L.Nodup->(∀ z∈L,0<=z/\z<n)->S n (fun i=>if (i:Int)∈L then f i else 0)=(L.map fun z=>f z.toNat).sum
 | [],_,_=>by
  rw[Grf.C2 (g:=fun _=>0) fun i _=>by simp]
  exact Grf.Q6 n
 | z::L,nd,h=>by
  obtain⟨h1,h2⟩:=J0.mp nd
  obtain⟨z0,z1⟩:=h z c7
  rw[n6,M6,<- be7 h2 fun y hy=>h y (b8 _ hy)]
  rw[Grf.S0 (j:=z.toNat) (f:=fun i=>if (i:Int)∈z::L then f i else 0) (g:=fun i=>if (i:Int)∈L then f i else 0) (by omega) (fun i _ hi=>by
   show (if (i:Int)∈z::L then f i else 0)=if (i:Int)∈L then f i else 0
   by_cases e:(i:Int)∈L
   ·rw[if_pos e,if_pos (b8 _ e)]
   ·rw[if_neg e,if_neg (fun c=>by
     rcases c5.mp c with c | c
     ·exact hi (by omega)
     ·exact e c)])]
  show _+((if ((z.toNat:Nat):Int)∈z::L then f z.toNat else 0) - (if ((z.toNat:Nat):Int)∈L then f z.toNat else 0))=_
  have ez:((z.toNat:Nat):Int)=z:=by omega
  rw[ez,if_pos c7,if_neg h1]
  omega
theorem bI6 (ns:List Int):(rng ns.length).map (fun z=>ns.getD z.toNat 0)=ns:=by
 unfold rng
 rw[Z0,<- bF4]
 have:=map_getD (fun x=>x) ns
 rw[List.map_id']at this
 exact this
theorem aC1 (hp:zs.Perm (rng ns.length))(hs:zs.Pairwise (ole ns)):zs.map (fun z=>ns.getD z.toNat 0)=(up2 ns).reverse:=by
 refine bj6 ?_ ?_
 ·have:=hp.map (fun z:Int=>ns.getD z.toNat 0)
  rw[bI6]at this
  exact this
 ·refine List.Pairwise.map _ (fun a b h=>?_) hs
  have:=R5.mp h
  show ns.getD b.toNat 0<=ns.getD a.toNat 0
  omega
theorem bn9 (hp:zs.Perm (rng ns.length))(hs:zs.Pairwise (ole ns)){r:Nat}(hr:r<=ns.length) :
  cnt ns.length (fun i=>decide ((i:Int)∈zs.take r))=r/\Top ns.length (fun i=>ns.getD i 0) (fun i=>decide ((i:Int)∈zs.take r))/\roomF ns.length (fun i=>ns.getD i 0) (fun i=>decide ((i:Int)∈zs.take r))=ai5 ns r:=by
 have nd:zs.Nodup:=hp.nodup_iff.mpr (Q2 _)
 have hzl:zs.length=ns.length:=by rw[hp.length_eq,V5]
 have hin:∀ z∈zs,0<=z/\z<(ns.length:Int):=fun z hz=>L5.mp (hp.mem_iff.mp hz)
 have ndA:(zs.take r).Nodup:=nd.sublist (E1 r zs)
 have ndB:(zs.drop r).Nodup:=nd.sublist (S1 r zs)
 have inA:∀ z∈zs.take r,0<=z/\z<(ns.length:Int):=fun z hz=>hin z (A4 hz)
 have inB:∀ z∈zs.drop r,0<=z/\z<(ns.length:Int):=fun z hz=>hin z (N7 hz)
 have app:=nd
 rw[<- A0 r zs]at app
 have cross:=(ak3.mp app).2.2
 have mem_or:∀ i:Nat,i<ns.length->(i:Int)∈zs.take r\/(i:Int)∈zs.drop r:=fun i hi=>by
  have:(i:Int)∈zs:=hp.mem_iff.mpr (L5.mpr ⟨by omega,by omega⟩)
  rw[<- A0 r zs]at this
  exact m7.mp this
 have hc:cnt ns.length (fun i=>decide ((i:Int)∈zs.take r))=r:=by
  have:=be7 (n:=ns.length) (f:=fun _=>1) ndA inA
  have e:cnt ns.length (fun i=>decide ((i:Int)∈zs.take r))=S ns.length (fun i=>if (i:Int)∈zs.take r then 1 else 0):=Grf.C2 fun i _=>by
   by_cases c:(i:Int)∈zs.take r
   ·rw[if_pos c];simp[b2,c]
   ·rw[if_neg c];simp[b2,c]
  rw[e,this]
  have l:(zs.take r).length=r:=by rw[k8];omega
  have:∀ L:List Int,(L.map fun _=>(1:Int)).sum=L.length:=fun L=>by
   induction L with
   | nil=>rfl
   | cons a L ih=>rw[n6,M6,ih,i9];omega
  rw[this,l]
 refine⟨hc,fun i j hi hj h1 h2=>?_,?_⟩
 ·have a1:(i:Int)∈zs.take r:=of_decide_eq_true h1
  have a2:(j:Int)∈zs.drop r:=(mem_or j hj).resolve_left (of_decide_eq_false h2)
  have pw:=hs
  rw[<- A0 r zs]at pw
  have:=R5.mp ((q8.mp pw).2.2 _ a1 _ a2)
  rw[j6,j6]at this
  show ns.getD j 0<=ns.getD i 0
  omega
 ·have of:=aC1 hp hs
  have rm:=aB6 (ns:=ns) (r:=r) of
  unfold roomF
  rw[hc,<- rm,<- aF6,<- aF7,Z0]
  have s1:sm ns.length (fun i=>decide ((i:Int)∈zs.take r)) (fun i=>ns.getD i 0)=((zs.take r).map fun z=>ns.getD z.toNat 0).sum:=by
   rw[<- be7 (n:=ns.length) (f:=fun i=>ns.getD i 0) ndA inA]
   refine Grf.C2 fun i _=>?_
   show (if decide ((i:Int)∈zs.take r)=true then ns.getD i 0 else 0)=_
   by_cases c:(i:Int)∈zs.take r
   ·rw[if_pos c,decide_eq_true c,if_pos rfl]
   ·rw[if_neg c,decide_eq_false c,if_neg (by decide)]
  have s2:S ns.length (fun i=>if decide ((i:Int)∈zs.take r)=true then 0 else Grf.mnf r (ns.getD i 0))=((zs.drop r).map (mn r ∘ fun z=>ns.getD z.toNat 0)).sum:=by
   have:=be7 (n:=ns.length) (f:=fun i=>mn r (ns.getD i 0)) ndB inB
   show _=((zs.drop r).map fun z=>mn r (ns.getD z.toNat 0)).sum
   rw[<- this]
   refine Grf.C2 fun i hi=>?_
   by_cases c:(i:Int)∈zs.take r
   ·rw[decide_eq_true c,if_pos rfl,if_neg (fun z=>cross _ c _ z rfl)]
   ·rw[decide_eq_false c,if_neg (by decide),if_pos ((mem_or i hi).resolve_left c)]
    rfl
  rw[s1,s2]
theorem aC2 (ns:List Int):∃ zs:List Int,zs.Perm (rng ns.length)/\zs.Pairwise (ole ns):=by
 let le:Int->Int->Bool:=fun x y=>decide (ns.getD y.toNat 0<ns.getD x.toNat 0\/(ns.getD x.toNat 0=ns.getD y.toNat 0/\x<=y))
 refine⟨(rng ns.length).mergeSort le,List.mergeSort_perm _ _,?_⟩
 have:=List.pairwise_mergeSort (le:=le) (fun a b c h1 h2=>?_) (fun a b=>?_) (rng ns.length)
 ·exact this.imp fun h=>R5.mpr (of_decide_eq_true h)
 ·have g1:=of_decide_eq_true h1
  have g2:=of_decide_eq_true h2
  exact decide_eq_true (by omega)
 ·rw[aY4]
  by_cases h:ns.getD b.toNat 0<ns.getD a.toNat 0\/(ns.getD a.toNat 0=ns.getD b.toNat 0/\a<=b)
  ·exact .inl (decide_eq_true h)
  ·exact .inr (decide_eq_true (by omega))
def Gr (ns:List Int):Prop:=∃ g,Gph g/\∀ i,i<ns.length->deg ns.length g i=ns.getD i 0
theorem ad5 (h:AllP ns)(hi:i<ns.length):0<=ns.getD i 0:=by
 rw[i8,f9 hi]
 exact h i _ (f9 hi)
theorem aO2 (h:O2 ns .free):Gr ns:=by
 obtain⟨h1,h2,h3⟩:=h
 obtain⟨zs,hp,hs⟩:=aC2 ns
 have hd:∀ i,i<ns.length->0<=ns.getD i 0:=fun i hi=>ad5 h1 hi
 have K:=Grf.bd3 (d:=fun i=>ns.getD i 0) hd fun r r1 r2=>by
  obtain⟨a1,a2,a3⟩:=bn9 hp hs r2
  exact⟨_,a1,a2,by rw[a3];exact h3 r r1 r2⟩
 have s0:0<=ns.sum:=by rw[<- bS3];exact Grf.P9 hd
 obtain⟨g,hg,dg⟩:=Grf.aV9 (ns.sum / 2).toNat ns.length (fun i=>ns.getD i 0) hd K (by rw[bS3];omega)
 exact⟨g,hg,dg⟩
theorem aD8 (h:Gr ns):AllP ns:=by
 obtain⟨g,hg,dg⟩:=h
 intro j x hx
 have hj:j<ns.length:=by
  rcases D8 j ns.length with h | h
  ·exact h
  ·rw[t8 h]at hx;cases hx
 have:=dg j hj
 rw[i8,hx]at this
 have e:deg ns.length g j=x:=this
 rw[<- e]
 exact Grf.P9 fun i _=>Grf.B4 _
end Web
namespace Web
open L2
open Grf (S b2 Gph deg Q7)
theorem bt5 (h:i<n):(tal n ks).getD i 0=(W4 ks i:Int):=by
 rw[i8,ae6 h];rfl
theorem bJ7 (h1:i<j)(h2:j<n):[(i:Int),(j:Int)]∈Y3 n:=by
 unfold Y3
 refine cf5.mpr ⟨i,B1.mpr (by omega),?_⟩
 unfold am6
 exact k9.mpr ⟨j - (i+1),B1.mpr (by omega),by
  rw[show ((j - (i+1):Nat):Int)=(j:Int) - ((i:Int)+1) by omega]
  rw[show (i:Int)+1+((j:Int) - ((i:Int)+1))=(j:Int) by omega]⟩
end Web
namespace Web
open L2
open Grf (S b2 Gph deg cnt sm Top roomF)
def sk (p i:Nat):Nat:=if i<p then i else i+1
theorem bR0 (p i:Nat):sk p i≠p:=by unfold sk;split<;>omega
theorem bv5 (h:i<n - 1)(hp:p<n):sk p i<n:=by unfold sk;split<;>omega
theorem aO8 (f:Nat->Int):∀ {n:Nat},p<n->S n f=S (n - 1) (fun j=>f (sk p j))+f p
 | n+1,h=>by
  show S n f+f n=S n (fun j=>f (sk p j))+f p
  by_cases e:p=n
  ·subst e
   rw[Grf.C2 (g:=fun j=>f (sk p j)) fun i hi=>by show f i=f (sk p i);unfold sk;rw[if_pos hi]]
  ·have hp:p<n:=by omega
   rw[aO8 f hp]
   obtain⟨m,rfl⟩:∃ m,n=m+1:=⟨n - 1,by omega⟩
   have e1:sk p m=m+1:=by unfold sk;rw[if_neg (by omega)]
   show S m (fun j=>f (sk p j))+f p+f (m+1)=S m (fun j=>f (sk p j))+f (sk p m)+f p
   rw[e1]
   omega
theorem ab2:∀ {n:Nat},p<n->(A5 n).filter (fun i=>decide (i≠p))=(A5 (n - 1)).map (sk p)
 | n+1,h=>by
  rw[O6,M7,ah7]
  by_cases e:p=n
  ·subst e
   have e1:[p].filter (fun i=>decide (i≠p))=[]:=by simp
   rw[e1,G9,List.filter_eq_self.mpr fun a ha=>decide_eq_true (by have:=B1.mp ha;omega)]
   conv=>lhs;rw[<- List.map_id (A5 p)]
   exact U9 fun a ha=>by
    show a=sk p a
    unfold sk;rw[if_pos (B1.mp ha)]
  ·have hp:p<n:=by omega
   have e1:[n].filter (fun i=>decide (i≠p))=[n]:=by
    rw[List.filter_cons,if_pos (decide_eq_true (Ne.symm e))];rfl
   rw[e1,ab2 hp]
   obtain⟨m,rfl⟩:∃ m,n=m+1:=⟨n - 1,by omega⟩
   have e2:sk p m=m+1:=by unfold sk;rw[if_neg (by omega)]
   rw[ah7,O6 (n:=m),g9,List.map_singleton,e2]
theorem aU9 {es:List Int}(h:p<ns.length):Q9 ns p es=(A5 (ns.length - 1)).map fun i=>Y5 ns es (sk p i):=by
 unfold Q9
 rw[ab2 h,Z0]
 rfl
theorem ad1 {es:List Int}(h:p<ns.length):(Q9 ns p es).length=ns.length - 1:=by rw[aU9 h,a5,K4]
theorem au8 {es:List Int}(h:p<ns.length)(hi:i<ns.length - 1):(Q9 ns p es).getD i 0=Y5 ns es (sk p i):=by
 rw[aU9 h,i8,o6,U8 hi]
 rfl
theorem aD9 (h:Gr ns)(hi:i<ns.length):ns.getD i 0<ns.length:=by
 obtain⟨g,hg,hd⟩:=h
 rw[<- hd i hi]
 unfold deg
 rw[aO8 (p:=i) _ hi,hg.irr]
 have h1:S (ns.length - 1) (fun j=>b2 (g i (sk i j)))<=S (ns.length - 1) (fun _=>1):=Grf.av6 fun j _=>Grf.aK6 _
 rw[Grf.am2]at h1
 have:b2 false=0:=rfl
 omega
theorem bN6 {es:List Int} (h:Gr ns) (hp:p<ns.length) (nd:es.Nodup) (he:∀ z∈es,0<=z/\z<ns.length/\z≠p) (hl:(es.length:Int)=ns.getD p 0)
  (ht:∀ x∈es,∀ y:Nat,y<ns.length->(y:Int)∉es->y≠p->ns.getD y 0<=ns.getD x.toNat 0):Gr (Q9 ns p es):=by
 obtain⟨g,hg,hd⟩:=h
 have hs:S ns.length (fun j=>b2 (decide ((j:Int)∈es)))=(es.length:Int):=by
  rw[Grf.C2 (g:=fun i=>if (i:Int)∈es then 1 else 0) fun i _=>by
   by_cases e:(i:Int)∈es
   ·rw[decide_eq_true e,if_pos e];rfl
   ·rw[decide_eq_false e,if_neg e];rfl]
  rw[be7 (f:=fun _=>1) nd fun z hz=>⟨(he z hz).1,(he z hz).2.1⟩]
  clear he hl ht nd
  induction es with
  | nil=>rfl
  | cons a es ih=>rw[n6,M6,ih,i9];omega
 have hNp:decide ((p:Int)∈es)=false:=decide_eq_false fun m=>(he _ m).2.2 rfl
 have hm:0<=S ns.length (fun j=>b2 (decide ((j:Int)∈es) && !g p j)):=Grf.P9 fun i _=>Grf.B4 _
 obtain⟨g',k1,k2,k3⟩:=Grf.cn0 (N:=fun j=>decide ((j:Int)∈es)) hp hNp (S ns.length (fun j=>b2 (decide ((j:Int)∈es) && !g p j))).toNat g hg (by rw[hs,hl,hd p hp])
  (fun x y hx hy hNx hNy hyp => by
   rw[hd x hx,hd y hy]
   have:=ht x (of_decide_eq_true hNx) y hy (of_decide_eq_false hNy) hyp
   rw[j6]at this
   exact this) (by omega)
 refine⟨fun i j=>g' (sk p i) (sk p j),⟨fun i j=>k1.sym _ _,fun i=>k1.irr _⟩,fun i hi=>?_⟩
 rw[ad1 hp]at hi ⊢
 rw[au8 hp hi]
 have hsk:=bv5 (p:=p) hi hp
 have e1:=k2 _ hsk
 rw[hd _ hsk]at e1
 have e2:deg ns.length g' (sk p i)=S (ns.length - 1) (fun j=>b2 (g' (sk p i) (sk p j)))+b2 (g' (sk p i) p):=aO8 (p:=p) _ hp
 rw[e2,k1.sym (sk p i) p,k3 _ hsk]at e1
 show S (ns.length - 1) (fun j=>b2 (g' (sk p i) (sk p j)))=_
 generalize S (ns.length - 1) (fun j=>b2 (g' (sk p i) (sk p j)))=q at e1
 unfold Y5
 by_cases e:((sk p i:Nat):Int)∈es
 ·rw[decide_eq_true e]at e1
  rw[if_pos e]
  have:b2 true=1:=rfl
  omega
 ·rw[decide_eq_false e]at e1
  rw[if_neg e]
  have:b2 false=0:=rfl
  omega
theorem bB3 (h:Gr ns)(hp:p<ns.length)(hz:zs.Perm (rng ns.length))(hs:zs.Pairwise (ole ns)):Gr (Q9 ns p ((rest zs p).take (ns.getD p 0).toNat)):=by
 have nz:(rest zs p).Nodup:=(hz.nodup_iff.mpr (Q2 ns.length)).filter _
 have srt:(rest zs p).Pairwise (ole ns):=hs.filter _
 have h1:=aD9 h hp
 have h0:=ad5 (aD8 h) hp
 have hl:=aB7 hz (p:=p) (by omega) (by omega)
 refine bN6 h hp (nz.sublist (E1 _ _)) (fun z m=>?_) ?_ (fun x hx y hy hny hyp=>?_)
 ·obtain⟨m1,m2⟩:=ar1.mp (A4 m)
  obtain⟨c0,c1⟩:=L5.mp (hz.mem_iff.mp m1)
  exact⟨c0,c1,m2⟩
 ·rw[k8]
  omega
 ·have hyr:(y:Int)∈rest zs p:=ar1.mpr ⟨hz.mem_iff.mpr (L5.mpr ⟨by omega,by omega⟩),by omega⟩
  have e:=A0 (ns.getD p 0).toNat (rest zs p)
  rw[<- e]at hyr srt
  rcases m7.mp hyr with m | m
  ·exact absurd m hny
  ·have:=(q8.mp srt).2.2 x hx y m
   rcases R5.mp this with t | t
   ·rw[j6]at t;omega
   ·rw[j6]at t;omega
end Web
namespace Web
open L2
theorem up_eq {a b c d:Int}(h:up [a,b]=up [c,d]):(a=c/\b=d)\/(a=d/\b=c):=by
 unfold up at h
 injection h with h1 h2
 injection h2 with h2 _
 split at h1<;>split at h1<;>split at h2<;>split at h2<;>omega
def star (a:Int)(bs:List Int):List (List Int):=bs.map fun b=>[a,b]
theorem aE7 {a:Int}{q:Nat}:∀ {bs:List Int},a∉bs->W4 (star a bs) q=if (q:Int)=a then bs.length else bs.count (q:Int)
 | [],_=>by
  split<;>rfl
 | b::bs,h=>by
  have hb:a≠b:=fun e=>h (e ▸ c7)
  have hbs:a∉bs:=fun m=>h (b8 _ m)
  have ih:=aE7 (q:=q) hbs
  unfold star W4 at ih ⊢
  rw[n6,aP4,ih,List.count_cons,i9]
  by_cases e:(q:Int)=a
  ·rw[if_pos e,if_pos e,if_pos (decide_eq_true (by rw[e];exact c7))]
  ·rw[if_neg e,if_neg e]
   by_cases e2:(q:Int)=b
   ·rw[if_pos (decide_eq_true (by rw[e2];exact b8 _ c7)),if_pos (by rw[e2];exact beq_self_eq_true b)]
   ·rw[if_neg (by
     intro z
     have:=of_decide_eq_true z
     rcases c5.mp this with t | t
     ·exact e t
     ·exact e2 (j8.mp t)),if_neg (by rw[beq_iff_eq];exact fun z=>e2 z.symm)]
theorem av4 {q:Int}:∀ {bs:List Int},bs.Nodup->bs.count q=if q∈bs then 1 else 0
 | [],_=>by rw[if_neg (by simp)];rfl
 | b::bs,nd=>by
  obtain⟨h1,h2⟩:=J0.mp nd
  rw[List.count_cons,av4 h2]
  by_cases e:b=q
  ·subst e
   rw[if_neg h1,if_pos c7,if_pos (beq_self_eq_true b)]
  ·rw[show (b == q)=false from beq_eq_false_iff_ne.mpr e]
   by_cases m:q∈bs
   ·rw[if_pos m,if_pos (b8 _ m)];rfl
   ·have m2:¬ q∈b::bs:=fun z=>by
     rcases c5.mp z with t | t
     ·exact e t.symm
     ·exact m t
    rw[if_neg m,if_neg m2];rfl
structure ak0 (ns ps left:List Int) (ks:List (List Int)):Prop where
 len:left.length=ps.length
 nd:ps.Nodup
 inn:∀ q∈ps,0<=q/\q<ns.length
 ends:∀ k∈ks,an6 ns.length k
 nodup:(ks.map up).Nodup
 out:∀ a b:Int,[a,b]∈ks->¬ (a∈ps/\b∈ps)
 cnt:∀ i q:Nat,ps[i]?=some (q:Int)->(W4 ks q:Int)+left.getD i 0=ns.getD q 0
 done:∀ q:Nat,q<ns.length->(q:Int)∉ps->(W4 ks q:Int)=ns.getD q 0
theorem aU3 {ps:List Int}(nd:ps.Nodup){a:Int}(h1:ps[i]?=some a)(h2:ps[j]?=some a):i=j:=by
 have hi:i<ps.length:=by
  rcases D8 i ps.length with h | h
  ·exact h
  ·rw[t8 h]at h1;cases h1
 exact(ce7 hi nd).mp (h1.trans h2.symm)
theorem bj4 {ps:List Int}{a:Int}(h:ps[i]?=some a):ps.getD i 0=a:=by rw[i8,h];rfl
theorem bd9 {ps:List Int}(h:i<ps.length):ps[i]?=some (ps.getD i 0):=by
 rw[i8,f9 h];rfl
theorem ak0.step {ps left ps' es:List Int}{a:Int}(h:ak0 ns ps left ks)(hj:ps[j]?=some a)(sub:ps'.Sublist ps)(hl:ps'.length=ps.length - 1)(hix:∀ i,i<ps.length - 1->ps'[i]?=ps[sk j i]?)
  (ne:es.Nodup)(he:∀ z∈es,0<=z/\z<ps.length/\z≠j)(hn:(es.length:Int)=left.getD j 0) :
  ak0 ns ps' (Q9 left j es) (ks++star a (es.map fun z=>ps.getD z.toNat 0)):=by
 have hjl:j<ps.length:=by
  rcases D8 j ps.length with h | h
  ·exact h
  ·rw[t8 h]at hj;cases hj
 have hjl':j<left.length:=by rw[h.len];exact hjl
 have haps:a∈ps:=b9 hj
 have bget:∀ z∈es,ps[z.toNat]?=some (ps.getD z.toNat 0):=fun z hz=>bd9 (by have:=he z hz;omega)
 have bmem:∀ b∈es.map (fun z=>ps.getD z.toNat 0),b∈ps:=fun b hb=>by
  obtain⟨z,hz,rfl⟩:=k9.mp hb
  exact b9 (bget z hz)
 have anb:a∉es.map (fun z=>ps.getD z.toNat 0):=fun m=>by
  obtain⟨z,hz,e⟩:=k9.mp m
  have h1:=bget z hz
  rw[e]at h1
  have:=aU3 h.nd h1 hj
  have:=he z hz
  omega
 have ndb:(es.map (fun z=>ps.getD z.toNat 0)).Nodup:=by
  refine S9.mpr ?_
  rw[K3]
  refine List.Pairwise.imp_of_mem ?_ (S9.mp ne)
  intro x y hx hy hxy e
  have h1:=bget x hx
  rw[e]at h1
  have:=aU3 h.nd h1 (bget y hy)
  have:=he x hx
  have:=he y hy
  exact hxy (by omega)
 have ap:a∉ps':=fun m=>by
  obtain⟨i,hi⟩:=o5.mp m
  have hil:i<ps.length - 1:=by
   rcases D8 i ps'.length with h | h
   ·omega
   ·rw[t8 h]at hi;cases hi
  rw[hix i hil]at hi
  exact bR0 j i (aU3 h.nd hi hj)
 have bin:∀ (i q:Nat),ps[i]?=some (q:Int)->((q:Int)∈es.map (fun z=>ps.getD z.toNat 0)↔(i:Int)∈es):=fun i q hi=>by
  constructor
  ·intro m
   obtain⟨z,hz,e⟩:=k9.mp m
   have h1:=bget z hz
   rw[e]at h1
   have:=aU3 h.nd h1 hi
   have:=he z hz
   rwa [show (i:Int)=z by omega]
  ·intro m
   refine k9.mpr ⟨i,m,?_⟩
   rw[j6]
   exact bj4 hi
 refine⟨by rw[ad1 hjl',hl,h.len],h.nd.sublist sub,fun q hq=>h.inn q (sub.subset hq),fun k hk=>?_,?_,fun c d hk=>?_,fun i q hi=>?_,fun q hq hnq=>?_⟩
 ·rcases m7.mp hk with hk | hk
  ·exact h.ends k hk
  ·obtain⟨b,hb,rfl⟩:=k9.mp hk
   have h1:=h.inn a haps
   have h2:=h.inn b (bmem b hb)
   have h3:a≠b:=fun e=>anb (e ▸ hb)
   exact⟨a.toNat,b.toNat,by omega,by omega,by omega,by rw[ae3 h1.1,ae3 h2.1]⟩
 ·rw[g9,ak3]
  refine⟨h.nodup,?_,fun x hx y hy e=>?_⟩
  ·unfold star
   rw[Z0]
   refine S9.mpr ?_
   rw[K3]
   refine List.Pairwise.imp_of_mem ?_ (S9.mp ndb)
   intro x y hx hy hxy e
   rcases up_eq e with t | t
   ·exact hxy t.2
   ·exact anb (t.1 ▸ hy)
  ·obtain⟨k,hk,rfl⟩:=k9.mp hx
   obtain⟨k2,hk2,rfl⟩:=k9.mp hy
   obtain⟨b,hb,rfl⟩:=k9.mp hk2
   obtain⟨u,v,_,_,_,rfl⟩:=h.ends k hk
   refine h.out _ _ hk ?_
   rcases up_eq e with t | t
   ·rw[t.1,t.2];exact⟨haps,bmem b hb⟩
   ·rw[t.1,t.2];exact⟨bmem b hb,haps⟩
 ·rcases m7.mp hk with hk | hk
  ·exact fun z=>h.out c d hk ⟨sub.subset z.1,sub.subset z.2⟩
  ·obtain⟨b,hb,e⟩:=k9.mp hk
   injection e with e1 _
   intro z
   exact ap (e1 ▸ z.1)
 ·have hil:i<ps.length - 1:=by
   rcases D8 i ps'.length with h | h
   ·omega
   ·rw[t8 h]at hi;cases hi
  rw[hix i hil]at hi
  have hc:=h.cnt _ q hi
  have hqa:¬ (q:Int)=a:=fun e=>by
   rw[e]at hi
   exact bR0 j i (aU3 h.nd hi hj)
  rw[au8 hjl' (by rw[h.len];exact hil),aE8,aE7 anb,if_neg hqa,av4 ndb]
  unfold Y5
  by_cases m:((sk j i:Nat):Int)∈es
  ·rw[if_pos ((bin _ q hi).mpr m),if_pos m];omega
  ·rw[if_neg (fun z=>m ((bin _ q hi).mp z)),if_neg m];omega
 ·rw[aE8,aE7 anb]
  by_cases e:(q:Int)=a
  ·have hc:=h.cnt j q (by rw[e];exact hj)
   rw[if_pos e,a5]
   omega
  ·rw[if_neg e,av4 ndb]
   have hq':(q:Int)∉ps:=fun m=>by
    obtain⟨m',hm'⟩:=o5.mp m
    have hml:m'<ps.length:=by
     rcases D8 m' ps.length with h | h
     ·exact h
     ·rw[t8 h]at hm';cases hm'
    have hmj:m'≠j:=fun z=>by rw[z,hj]at hm';injection hm' with hm';exact e hm'.symm
    obtain⟨i,hi,hik⟩:∃ i,i<ps.length - 1/\sk j i=m':=by
     rcases D8 m' j with t | t
     ·exact⟨m',by omega,by unfold sk;rw[if_pos t]⟩
     ·exact⟨m' - 1,by omega,by unfold sk;rw[if_neg (by omega)];omega⟩
    have:=hix i hi
    rw[hik,hm']at this
    exact hnq (b9 this)
   rw[if_neg (fun m=>hq' (bmem _ m)),h.done q hq hq' |>.symm]
   omega
theorem ak0.last {left:List Int}(h:ak0 ns [] left ks):tal ns.length ks=ns:=by
 apply S2
 intro i
 rcases D8 i ns.length with hi | hi
 ·rw[ae6 hi,h.done i hi (by simp),bd9 hi]
 ·rw[t8 (by rw[Z9];exact hi),t8 hi]
theorem aM6 (h:i<n):(rng n)[i]?=some (i:Int):=by
 unfold rng
 rw[o6,List.getElem?_range' h]
 simp
theorem ak0.first (ns:List Int):ak0 ns (rng ns.length) ns [] where
 len:=(V5 _).symm
 nd:=Q2 _
 inn:=fun q hq=>L5.mp hq
 ends:=fun k hk=>absurd hk (by simp)
 nodup:=by simp
 out:=fun a b hk=>absurd hk (by simp)
 cnt:=fun i q hi=>by
  have hil:i<ns.length:=by
   rcases D8 i (rng ns.length).length with h | h
   ·rw[V5]at h;exact h
   ·rw[t8 h]at hi;cases hi
  rw[aM6 hil]at hi
  injection hi with hi
  rw[show q=i by omega]
  show (0:Int)+_=_
  omega
 done:=fun q hq hn=>absurd (L5.mpr ⟨by omega,by omega⟩) hn
theorem aC4:∀ {xs ys:List Int},xs.Perm ys->xs.Pairwise (ole ns)->ys.Pairwise (ole ns)->xs=ys
 | [],ys,p,_,_=>p.symm.eq_nil.symm
 | x::xs,[],p,_,_=>by
  have:=p.length_eq
  simp at this
 | x::xs,y::ys,p,h,q=>by
  have hxy:x=y:=by
   have h1:x∈y::ys:=p.mem_iff.mp c7
   have h2:y∈x::xs:=p.mem_iff.mpr c7
   rcases c5.mp h1 with e | e
   ·exact e
   ·rcases c5.mp h2 with e2 | e2
    ·exact e2.symm
    ·exact aT9 ((E9.mp h).1 y e2) ((E9.mp q).1 x e)
  subst hxy
  rw[aC4 ((List.perm_cons x).mp p) (E9.mp h).2 (E9.mp q).2]
theorem aC7:∀ {l m:List (List Int)},l.Nodup->(∀ x∈l,x∈m)->l.length<=m.length
 | [],m,_,_=>r9 _
 | x::l,m,nd,h=>by
  have h1:=J0.mp nd
  have hm:=h x c7
  have h2:∀ y∈l,y∈m.erase x:=fun y hy=>by
   have hne:y≠x:=fun e=>h1.1 (e ▸ hy)
   exact(List.mem_erase_of_ne hne).mpr (h y (b8 _ hy))
  have h3:=aC7 h1.2 h2
  rw[bl1 hm]at h3
  have h4:0<m.length:=List.length_pos_of_mem hm
  simp only[i9]
  omega
theorem ao7 (hn:n<=24)(nd:ks.Nodup)(h:∀ k∈ks,Up n k):ks.length<=276:=
 t9 (aC7 nd fun k hk=>by
  obtain⟨i,j,h1,h2,rfl⟩:=h k hk
  exact bJ7 h1 h2) (aJ3 n hn)
theorem ak0.len_le {ps left:List Int}(h:ak0 ns ps left ks)(hn:ns.length<=24):ks.length<=276:=by
 have:=ao7 hn h.nodup fun k hk=>by
  obtain⟨k',hk',rfl⟩:=k9.mp hk
  exact(h.ends k' hk').up
 rw[a5]at this
 exact this
theorem bC7 {q:Nat}:∀ {ks:List (List Int)},(∀ k∈ks,an6 n k)->W4 (ks.map up) q=W4 ks q
 | [],_=>rfl
 | k::ks,h=>by
  have ih:=bC7 (q:=q) fun k hk=>h k (b8 _ hk)
  unfold W4 at ih ⊢
  rw[n6,aP4,aP4,ih]
  congr 1
  obtain⟨i,j,_,_,_,rfl⟩:=h k c7
  have e:((q:Int)∈up [(i:Int),(j:Int)])↔(q:Int)∈[(i:Int),(j:Int)]:=by
   unfold up
   simp only[c5,D9,or_false]
   split<;>split<;>omega
  by_cases z:(q:Int)∈[(i:Int),(j:Int)]
  ·rw[decide_eq_true z,decide_eq_true (e.mpr z)]
  ·rw[decide_eq_false z,decide_eq_false (fun t=>z (e.mp t))]
theorem bU6 (h:∀ k∈ks,an6 n k):tal n (ks.map up)=tal n ks:=by
 unfold tal
 refine U9 fun p _=>?_
 rw[bC7 h]
noncomputable def bo0 (ns:List Int):List Int:=Classical.choose (aC2 ns)
theorem ad0 (ns:List Int):(bo0 ns).Perm (rng ns.length):=(Classical.choose_spec (aC2 ns)).1
theorem aJ1 (ns:List Int):(bo0 ns).Pairwise (ole ns):=(Classical.choose_spec (aC2 ns)).2
theorem aN3 (hp:zs.Perm (rng ns.length))(hs:zs.Pairwise (ole ns)):zs=bo0 ns:=aC4 (hp.trans (ad0 ns).symm) hs (aJ1 ns)
noncomputable def chF (ns:List Int)(p:Nat):List Int:=(rest (bo0 ns) p).take (ns.getD p 0).toNat
theorem cd2 (ns:List Int)(p:Nat):(chF ns p).Nodup:=(((ad0 ns).nodup_iff.mpr (Q2 ns.length)).filter _).sublist (E1 _ _)
theorem bC9 {z:Int}(h:z∈chF ns p):0<=z/\z<ns.length/\z≠p:=by
 obtain⟨m1,m2⟩:=ar1.mp (A4 h)
 obtain⟨c0,c1⟩:=L5.mp ((ad0 ns).mem_iff.mp m1)
 exact⟨c0,c1,m2⟩
theorem bk6 (h:Gr ns)(hp:p<ns.length):((chF ns p).length:Int)=ns.getD p 0:=by
 have h1:=aD9 h hp
 have h0:=ad5 (aD8 h) hp
 have hl:=aB7 (ad0 ns) (p:=(p:Int)) (by omega) (by omega)
 unfold chF
 rw[k8]
 omega
theorem cd3 (h:Gr ns)(hp:p<ns.length):Gr (Q9 ns p (chF ns p)):=bB3 h hp (ad0 ns) (aJ1 ns)
noncomputable def bA0:Nat->List Int->List Int->List (List Int)
 | 0,_,_=>[]
 | m+1,left,ps=>star (ps.getD 0 0) ((chF left 0).map fun z=>ps.getD z.toNat 0)++bA0 m (Q9 left 0 (chF left 0)) (ps.drop 1)
theorem ak0.go {ps left:List Int}(h:ak0 ns ps left ks)(hg:Gr left)(h0:0<left.length) :
  ak0 ns (ps.drop 1) (Q9 left 0 (chF left 0)) (ks++star (ps.getD 0 0) ((chF left 0).map fun z=>ps.getD z.toNat 0)):=by
 have hl:=h.len
 refine h.step (bd9 (by omega)) (S1 1 ps) (by rw[A1]) (fun i hi=>?_) (cd2 left 0) (fun z hz=>?_) (bk6 hg h0)
 ·rw[M5]
  congr 1
  unfold sk
  rw[if_neg (by omega)]
  omega
 ·have:=bC9 hz
  omega
def M0 (n p:Nat):List Int:=((A5 n).filter fun i=>decide (i≠p)).map fun i:Nat=>(i:Int)
theorem ak0.start {es:List Int}(hp:p<ns.length)(ne:es.Nodup)(he:∀ z∈es,0<=z/\z<ns.length/\z≠p)(hn:(es.length:Int)=ns.getD p 0):ak0 ns (M0 ns.length p) (Q9 ns p es) (star p es):=by
 have:=(ak0.first ns).step (j:=p) (a:=(p:Int)) (ps':=M0 ns.length p) (es:=es) (aM6 hp) ?_ ?_ ?_ ne (fun z hz=>by rw[V5];exact he z hz) hn
 ·have e:es.map (fun z=>(rng ns.length).getD z.toNat 0)=es:=by
   conv=>rhs;rw[<- List.map_id es]
   refine U9 fun z hz=>?_
   have:=he z hz
   rw[bj4 (aM6 (n:=ns.length) (i:=z.toNat) (by omega))]
   show ((z.toNat:Nat):Int)=z
   omega
  rw[e,O5]at this
  exact this
 ·unfold M0 rng
  rw[<- bF4]
  exact List.Sublist.map _ List.filter_sublist
 ·unfold M0
  rw[ab2 hp,a5,a5,K4,V5]
 ·intro i hi
  rw[V5]at hi
  unfold M0
  rw[ab2 hp,o6,o6,U8 hi,aM6 (bv5 hi hp)]
  rfl
end Web
namespace Web
def an3 (ns:List Int)(M r:Nat):Int:=(M:Int)*(r:Int)*((r:Int) - 1)+part (ns.length - r) ((M:Int)*(r:Int)) (up2 ns)
theorem au5 (ns:List Int)(r:Nat):an3 ns 1 r=ai5 ns r:=by
 unfold an3 ai5
 rw[Int.natCast_one,bS9]
theorem aT1 {M r:Nat}(e:zs=(up2 ns).reverse):(M:Int)*(r:Int)*((r:Int) - 1)+((zs.drop r).map (mn ((M:Int)*(r:Int)))).sum - (zs.take r).sum=an3 ns M r:=by
 unfold an3 part
 rw[e,ce5,ce6,cf6,aq5,aq5,aq4]
 omega
end Web
namespace Web
def av5 (ns:List Int)(i:Nat):List Nat:=(A5 i).filter fun j=>decide (ns.getD j 0<0)
def cn5 (ns:List Int):List Int:=(av5 ns ns.length).map Int.ofNat
theorem br1 (ns:List Int)(i:Nat):av5 ns (i+1)=av5 ns i++(if ns.getD i 0<0 then [i] else []):=by
 unfold av5
 rw[O6,M7]
 congr 1
 by_cases h:ns.getD i 0<0
 ·rw[if_pos h,an0 (by simpa using h),as8]
 ·rw[if_neg h,an1 (by simpa using h),as8]
theorem bD2 (ns:List Int)(i:Nat):(av5 ns i).length<=i:=by
 unfold av5
 exact t9 (M8 ..) (by rw[K4];exact c6 _)
theorem as3 {x:Int}(h:ns[j]?=some x):ns.getD j 0=x:=by rw[i8,h];rfl
theorem bO2 (h:av5 ns ns.length=[]):∀ (j:Nat) (x:Int),ns[j]?=some x->0<=x:=fun j x e=>by
 have hj:j<ns.length:=by
  rcases D8 j ns.length with l | l
  ·exact l
  ·rw[t8 l]at e;cases e
 have:=aq0.mp h j (B1.mpr hj)
 rw[as3 e]at this
 have h2:¬ x<0:=fun q=>this (decide_eq_true q)
 omega
theorem bD1 {t:List Nat}(h:av5 ns ns.length=p::t):(∃ x,ns[p]?=some x/\x<0)/\∀ (j:Nat) (x:Int),j<p->ns[j]?=some x->0<=x:=by
 have hm:p∈av5 ns ns.length:=by rw[h];exact c7
 have hp:=G7.mp hm
 have hl:=B1.mp hp.1
 have h0:=of_decide_eq_true hp.2
 refine⟨⟨_,f9 hl,by rw[as3 (f9 hl)]at h0;exact h0⟩,fun j x hj e=>?_⟩
 rcases Int.lt_or_le x 0 with q | q
 ·have hjm:j∈av5 ns ns.length:=G7.mpr ⟨B1.mpr (by omega),by rw[as3 e];exact decide_eq_true q⟩
  have hs:(av5 ns ns.length).Pairwise (·<·):=List.Pairwise.filter _ br9
  rw[h]at hs hjm
  rcases c5.mp hjm with r | r
  ·omega
  ·have:=(E9.mp hs).1 j r
   omega
 ·exact q
def bS5 (ns:List Int)(M:Nat):Wl->Prop
 | .below p=>(∃ x,ns[p]?=some x/\x<0)/\∀ (j:Nat) (x:Int),j<p->ns[j]?=some x->0<=x
 | .odd=>AllP ns/\ns.sum % 2=1
 | .wall r=>AllP ns/\¬ ns.sum % 2=1/\1<=r/\r<=ns.length/\an3 ns M r<0/\∀ k,1<=k->k<r->0<=an3 ns M k
 | .free=>AllP ns/\¬ ns.sum % 2=1/\∀ k,1<=k->k<=ns.length->0<=an3 ns M k
theorem bG6 {x:Wl}(h:bS5 ns 1 x):O2 ns x:=by
 cases x with
 | below p=>exact h
 | odd=>exact h
 | wall r=>exact⟨h.1,h.2.1,h.2.2.1,h.2.2.2.1,by rw[<- au5];exact h.2.2.2.2.1,fun k k1 k2=>by rw[<- au5];exact h.2.2.2.2.2 k k1 k2⟩
 | free=>exact⟨h.1,h.2.1,fun k k1 k2=>by rw[<- au5];exact h.2.2 k k1 k2⟩
end Web
namespace L2
open PySem PySem.Spec PyProof.Rows
theorem ck1 {it:Expr}{w1 w2:TI}(h1:PI X tg it w1)(h2:PI X tg it w2):PI X tg it (fun σ H R=>w1 σ H R\/w2 σ H R):=
 fun pins s σ H R I h=>h.elim (h1 pins s σ H R I) (h2 pins s σ H R I)
theorem bq7 (hc:X.calm=true):S7 X (.builtin "sum") (fun xs H Q=>∃ (p:Addr) (ns:List Int),xs=[.ref p]/\(SqL X.K H p (ns.map V.int)\/SqT X.K H p (ns.map V.int))/\Q (.int ns.sum) H) :=
 fun pins s σ H xs us Q I r ⟨p,ns,e,hq,q⟩=>hq.elim (fun h=>ad2 hc pins s σ H xs us Q I r ⟨p,ns,e,h,q⟩) fun h=>bq6 hc pins s σ H xs us Q I r ⟨p,ns,e,h,q⟩
theorem aE6 {D:Addr}{J:It}{S:Hp->Prop}{g:TG}{tt:TT}{σ0:St}{H0:Hp}
  (hst:∀ i H,S H->ys.length=i->J.stop i H)(hgo:∀ i H,S H->i<ys.length->J.go i H)(hy:∀ i H x H'',S H->J.yld i H x H''->∃ (t:Addr) (v:V),H t=none/\x=.ref t/\ys[i]?=some v/\H''=upd H t (.tup [.int i,v]))
  (Pv:Nat->List V->St->Hp->Prop)(h0:Pv 0 [] σ0 H0)(hz:ys.length<=d8)(hl:∀ i xs σ H,i<=ys.length->Pv i xs σ H->S H/\H D=some (.lst xs)/\xs.length<=i)
  (hs:∀ i xs x t σ H (N:List V->St->Hp->Prop),(∀ xs' σ' H',Pv (i+1) xs' σ' H'->N xs' σ' H')->ys[i]?=some x->Pv i xs σ H->H t=none->g (.ref t) σ (upd H t (.tup [.int i,x])) fun σ2 H2=>tt σ2 H2 fun b H3=>if b=true then te σ2 H3 fun v H4=>H4 D=some (.lst xs)/\N (xs++[v]) σ2 (upd H4 D (.lst (xs++[v]))) else N xs σ2 H3)
  (hd:∀ xs σ H,Pv ys.length xs σ H->Qd H) :
  ∃ W:Nat->Nat->List V->St->Hp->Prop,(∃ m,W 0 m [] σ0 H0)/\∀ i m xs σ' H',W i m xs σ' H'->H' D=some (.lst xs)/\((J.stop i H'/\Qd H')\/(J.go i H'/\xs.length<d8/\∀ x H'',J.yld i H' x H''->g x σ' H'' fun σ2 H2=>tt σ2 H2 fun b H3 =>
   if b=true then te σ2 H3 fun v H4=>H4 D=some (.lst xs)/\∃ m',m'<m/\W (i+1) m' (xs++[v]) σ2 (upd H4 D (.lst (xs++[v]))) else ∃ m',m'<m/\W (i+1) m' xs σ2 H3)):=by
 refine⟨fun i m xs σ H=>m=ys.length - i/\i<=ys.length/\Pv i xs σ H,⟨ys.length,by simp,r9 _,h0⟩,?_⟩
 rintro i m xs σ H ⟨rfl,hi,p⟩
 obtain⟨q,hD,hx⟩:=hl i xs σ H hi p
 refine⟨hD,?_⟩
 by_cases hlt:i<ys.length
 ·refine .inr ⟨hgo i H q hlt,by omega,fun x H'' y=>?_⟩
  obtain⟨t,v,ht,e,hv,e'⟩:=hy i H x H'' q y
  subst e e'
  exact hs i xs v t σ _ (fun zs σ' H'=>∃ m',m'<ys.length - i/\m'=ys.length - (i+1)/\i+1<=ys.length/\Pv (i+1) zs σ' H') (fun zs σ' H' r=>⟨_,by omega,rfl,hlt,r⟩) hv p ht
 ·have e:i=ys.length:=by omega
  subst e
  exact .inl ⟨hst _ H q rfl,hd xs σ H p⟩
theorem cb3 {K:W.Frag}(i:Nat)(H:Hp)(q:SqL K H a ys)(h:ys.length=i):(Itn K a).stop i H:=⟨ys,q,at4 h⟩
theorem cb4 {K:W.Frag}(i:Nat)(H:Hp)(q:SqL K H a ys)(h:i<ys.length):(Itn K a).go i H:=⟨ys,ys[i],q,by simp[h]⟩
theorem cm3 {K:W.Frag}(i:Nat)(H:Hp)(x:V)(H'':Hp)(q:SqL K H a ys)(y:(Itn K a).yld i H x H''):∃ (t:Addr) (v:V),H t=none/\x=.ref t/\ys[i]?=some v/\H''=upd H t (.tup [.int i,v]):=by
 obtain⟨t,v,ht,e,hv,e'⟩:=y
 exact⟨t,v,ht,e,hv ys q,e'⟩
theorem cb5 {K:W.Frag}(i:Nat)(H:Hp)(q:SqT K H a ys)(h:ys.length=i):(Itm K a).stop i H:=⟨ys,q,h⟩
theorem cb6 {K:W.Frag}(i:Nat)(H:Hp)(q:SqT K H a ys)(h:i<ys.length):(Itm K a).go i H:=⟨ys,ys[i],q,by simp[h]⟩
theorem cm4 {K:W.Frag}(i:Nat)(H:Hp)(x:V)(H'':Hp)(q:SqT K H a ys)(y:(Itm K a).yld i H x H''):∃ (t:Addr) (v:V),H t=none/\x=.ref t/\ys[i]?=some v/\H''=upd H t (.tup [.int i,v]):=by
 obtain⟨t,v,ht,e,hv,e'⟩:=y
 exact⟨t,v,ht,e,hv ys q,e'⟩
theorem be2 {K:W.Frag} {g:TG} {tt:TT} {Qd:Addr->Hp->Prop} {σ0:St} (hS:SqL K H a ys\/SqT K H a ys) (hz:ys.length<=d8)
  (Pv:Addr->Nat->List V->St->Hp->Prop) (h0:∀ D,H D=none->Pv D 0 [] σ0 (upd H D (.lst []))) (hl:∀ D i xs σ H',H D=none->i<=ys.length->Pv D i xs σ H'->p8 H H'/\H' D=some (.lst xs)/\xs.length<=i)
  (hs:∀ D i xs x t σ H' (N:List V->St->Hp->Prop),H D=none->(∀ xs' σ' H'',Pv D (i+1) xs' σ' H''->N xs' σ' H'')->ys[i]?=some x->Pv D i xs σ H'->H' t=none->g (.ref t) σ (upd H' t (.tup [.int i,x])) fun σ2 H2=>tt σ2 H2 fun b H3=>if b=true then te σ2 H3 fun v H4=>H4 D=some (.lst xs)/\N (xs++[v]) σ2 (upd H4 D (.lst (xs++[v]))) else N xs σ2 H3)
  (hd:∀ D xs σ H',H D=none->Pv D ys.length xs σ H'->Qd D H') :
  (∃ b, [V.ref a] = [V.ref b] /\ (∃ xs, SqL K H b xs) /\ ∀ D, H D = none -> ∃ W : Nat -> Nat -> List V -> St -> Hp -> Prop, (∃ m, W 0 m [] σ0 (upd H D (.lst []))) /\ ∀ i m xs σ' H', W i m xs σ' H' -> H' D = some (.lst xs) /\ (((Itn K b).stop i H' /\ Qd D H') \/ ((Itn K b).go i H' /\ xs.length < d8 /\ ∀ x H'', (Itn K b).yld i H' x H'' -> g x σ' H'' fun σ2 H2 => tt σ2 H2 fun b H3 =>
   if b=true then te σ2 H3 fun v H4=>H4 D=some (.lst xs)/\∃ m',m'<m/\W (i+1) m' (xs++[v]) σ2 (upd H4 D (.lst (xs++[v]))) else ∃ m',m'<m/\W (i+1) m' xs σ2 H3))) \/
  (∃ b, [V.ref a] = [V.ref b] /\ (∃ xs, SqT K H b xs) /\ ∀ D, H D = none -> ∃ W : Nat -> Nat -> List V -> St -> Hp -> Prop, (∃ m, W 0 m [] σ0 (upd H D (.lst []))) /\ ∀ i m xs σ' H', W i m xs σ' H' -> H' D = some (.lst xs) /\ (((Itm K b).stop i H' /\ Qd D H') \/ ((Itm K b).go i H' /\ xs.length < d8 /\ ∀ x H'', (Itm K b).yld i H' x H'' -> g x σ' H'' fun σ2 H2 => tt σ2 H2 fun b H3 =>
   if b=true then te σ2 H3 fun v H4=>H4 D=some (.lst xs)/\∃ m',m'<m/\W (i+1) m' (xs++[v]) σ2 (upd H4 D (.lst (xs++[v]))) else ∃ m',m'<m/\W (i+1) m' xs σ2 H3))):=by
 rcases hS with hS | hS
 ·exact .inl ⟨a,rfl,⟨_,hS⟩,fun D hD=>aE6 (S:=fun H'=>SqL K H' a ys) cb3 cb4 cm3 (Pv D) (h0 D hD) hz (fun i xs σ H' hi p=>let ⟨s,g,l⟩:=hl D i xs σ H' hD hi p;⟨s.seq hS,g,l⟩) (fun i xs x t σ H' N kN hx p ht=>hs D i xs x t σ H' N hD kN hx p ht) (fun xs σ H' p=>hd D xs σ H' hD p)⟩
 ·exact .inr ⟨a,rfl,⟨_,hS⟩,fun D hD=>aE6 (S:=fun H'=>SqT K H' a ys) cb5 cb6 cm4 (Pv D) (h0 D hD) hz (fun i xs σ H' hi p=>let ⟨s,g,l⟩:=hl D i xs σ H' hD hi p;⟨s.seqT hS,g,l⟩) (fun i xs x t σ H' N kN hx p ht=>hs D i xs x t σ H' N hD kN hx p ht) (fun xs σ H' p=>hd D xs σ H' hD p)⟩
theorem bh5 (K:W.Frag)(hK:X.K=K){k:Nat}{t:TGs}(hc:X.calm=true)(h:PGs X es t)
  (hn:(ag3 es X.env).length=n:=by rfl)(hst:(ag3 es X.env).findIdx? (·.1)=none:=by rfl):PG X (.Tuple es k pos) (cn1 K n t):=by
 subst hK
 exact bx6 hc h hn hst
theorem ap5 {lo:Int}{D:Addr}{g:TG}{tt:TT}{σ0:St}{H0:Hp}(Pv:Nat->List V->St->Hp->Prop)(h0:Pv 0 [] σ0 H0)(hz:n<=d8)(hl:∀ i xs σ H,i<=n->Pv i xs σ H->H D=some (.lst xs)/\xs.length<=i)
  (hs:∀ i xs σ H (N:List V->St->Hp->Prop),(∀ xs' σ' H',Pv (i+1) xs' σ' H'->N xs' σ' H')->i<n->Pv i xs σ H->g (.int (lo+i)) σ H fun σ2 H2=>tt σ2 H2 fun b H3=>if b=true then te σ2 H3 fun v H4=>H4 D=some (.lst xs)/\N (xs++[v]) σ2 (upd H4 D (.lst (xs++[v]))) else N xs σ2 H3)
  (hd:∀ xs σ H,Pv n xs σ H->Qd H) :
  ∃ W:Nat->Nat->List V->St->Hp->Prop,(∃ m,W 0 m [] σ0 H0)/\∀ i m xs σ' H',W i m xs σ' H'->H' D=some (.lst xs)/\(((Itr lo n).stop i H'/\Qd H')\/((Itr lo n).go i H'/\xs.length<d8/\∀ x H'',(Itr lo n).yld i H' x H''->g x σ' H'' fun σ2 H2=>tt σ2 H2 fun b H3 =>
   if b=true then te σ2 H3 fun v H4=>H4 D=some (.lst xs)/\∃ m',m'<m/\W (i+1) m' (xs++[v]) σ2 (upd H4 D (.lst (xs++[v]))) else ∃ m',m'<m/\W (i+1) m' xs σ2 H3)):=by
 refine⟨fun i m xs σ H=>m=n - i/\i<=n/\Pv i xs σ H,⟨n,by simp,r9 _,h0⟩,?_⟩
 rintro i m xs σ H ⟨rfl,hi,p⟩
 obtain⟨hD,hx⟩:=hl i xs σ H hi p
 refine⟨hD,?_⟩
 by_cases hlt:i<n
 ·refine .inr ⟨hlt,by omega,fun x H'' y=>?_⟩
  obtain⟨e,y⟩:=y
  subst e y
  exact hs i xs σ _ (fun zs σ' H'=>∃ m',m'<n - i/\m'=n - (i+1)/\i+1<=n/\Pv (i+1) zs σ' H') (fun zs σ' H' r=>⟨_,by omega,rfl,hlt,r⟩) hlt p
 ·obtain rfl:i=n:=by omega
  exact .inl ⟨c6 _,hd xs σ H p⟩
end L2
namespace L2
open PySem PySem.Spec PyProof.Rows PySem.SeqAt
theorem bg0:∀ {bs:List Bool} {its:List Value},B7 (bs.map V.bl) its->its=bs.map Value.bool
 | [],_,.nil=>rfl
 | b::bs,_,.cons r t=>by rw[bg0 t,show _=Value.bool b from r];rfl
theorem aN2 {a b:Expr}{tb:TE}(K:W.Frag)(hK:X.K=K)(ha:PE X a ta)(hb:PE X b tb)(hs:az9 b):PE X (.Subscript a b pos) (tOp (bX3 K) ta tb):=by
 cases hK
 exact B9 J8 ha hb hs
theorem af0 {a b:Expr}{tb:TE}(K:W.Frag)(hK:X.K=K)(ha:PE X a ta)(hb:PE X b tb)(hs:az9 b):PE X (.Subscript a b pos) (tOp (rIx K) ta tb):=by
 cases hK
 exact B9 bA7 ha hb hs
end L2
namespace L2
open PySem PySem.Spec PyProof.Rows
def cj8:R2:=fun x y H Q=>∃ l b xs zs,x=.ref l/\y=.ref b/\H l=some (.lst xs)/\H b=some (.lst zs)/\xs.length+zs.length<=1000/\Q (.ref l) (upd H l (.lst (xs++zs)))
theorem bd5:fillsInplaceSlot (.type "list") "add" true=pure false:=by
 unfold fillsInplaceSlot
 show (typeLookup (.type "list") (dunderI "add") >>= fun fi=>pure (fi.isSome && !isSeqSlot fi))=pure false
 rw[F.slot_list_iadd.lookup]
 rw[pure_bind]
 congr 1
theorem bp7:seqSlot? (.type "list") (dunderI "add")=pure (some (.builtin "list.__iadd__")):=by
 unfold seqSlot?
 rw[F.slot_list_iadd.lookup]
 rfl
theorem cb7:PIp X .Add cj8:=by
 intro pins s σ H x y v u Q I rx ry h
 obtain⟨l,b,xs,zs,rfl,rfl,hH,hB,hz,q⟩:=h
 cases rx
 cases ry
 obtain⟨z,its,n,r,hl,e⟩:=I.lstM hH
 obtain⟨z2,its2,n2,r2,hl2,e2⟩:=I.lstM hB
 have hln:=r.length
 have hln2:=r2.length
 unfold inplaceOp
 refine F5 ?_
 refine a8 (wpAny_typeOf (T:="list") ⟨_,e,rfl⟩ (a8 (cg6 bd5 ?_)))
 show v7 _ _ (if false=true then _ else _) _ _ s
 rw[if_neg i6]
 refine a8 (wpAny_binaryOp1_none (a:=.ref l) (b:=.ref b) (s:=s) (nm:="add") (T:="list") ⟨_,e,rfl⟩ ⟨_,e2,rfl⟩ noFill_list_add ?_)
 refine a8 (cg6 bp7 ?_)
 refine a8 (bE6 ?_)
 have hd:¬(!its.toArray.isEmpty && Builtin.List.listTooLong (its.toArray.size+its2.toArray.size))=true:=extend_door (by rw[d9,d9,x6];omega)
 refine ag4 F.slot_list_iadd ⟨_,e,rfl⟩ F.entry_list_iadd (F.args_list_iadd_2 _ _) (PySem.AutoSeq1.list___iadd___list_list_0 l its.toArray n b its2.toArray n2 hd (by rw[d9,x6];omega) (by rw[d9,d9,x6];omega)) ⟨e,e2,?_⟩
 refine⟨.ref l,_,I.lset (its':=its++its2) hH e ?_ (r.append r2) ?_,rfl,q⟩
 ·show its.toArray++its2.toArray=_
  simp
 ·rw[j2,x6];omega
end L2
namespace Grf
theorem bd6 {v q:Nat}{N:Nat->Bool}(hv:v<n)(hNv:N v=false):∀ (m:Nat) (g:Nat->Nat->Bool),Gph g->S n (fun j=>b2 (N j))=deg n g v->N q=g v q ->
  (∀ x y,x<n->y<n->N x=true->N y=false->y≠v->x≠q->y≠q->deg n g y<=deg n g x)->S n (fun j=>b2 (N j && !g v j))=(m:Int) ->
  ∃ g',Gph g'/\(∀ i,i<n->deg n g' i=deg n g i)/\∀ j,j<n->g' v j=N j:=by
 intro m
 induction m with
 | zero =>
  intro g h hs _ hd hm
  refine⟨g,h,fun _ _=>rfl,fun j hj=>?_⟩
  have all:∀ j,j<n->N j=true->g v j=true:=fun j hj hN=>by
   have:=am7 (f:=fun j=>b2 (N j && !g v j)) hj (fun i _=>B4 _)
   rw[hm]at this
   cases hg:g v j with
   | true=>rfl
   | false =>
    have e:b2 (N j && !g v j)=1:=by rw[hN,hg];rfl
    have t:b2 (N j && !g v j)<=0:=this
    omega
  have dif:S n (fun j=>b2 (g v j) - b2 (N j))=0:=by rw[W7];unfold deg at hs;omega
  have pos:∀ i,i<n->0<=b2 (g v i) - b2 (N i):=fun i hi=>by
   cases hN:N i with
   | true=>rw[all i hi hN];decide
   | false=>have:=B4 (g v i);rw[Q4];omega
  have:=am7 (f:=fun j=>b2 (g v j) - b2 (N j)) hj pos
  rw[dif]at this
  have p:=pos j hj
  cases hN:N j with
  | true=>exact all j hj hN
  | false =>
   cases hg:g v j with
   | false=>rfl
   | true =>
    have t:b2 (g v j) - b2 (N j)<=0:=this
    rw[hN,hg,V9,Q4]at t
    omega
 | succ m ih =>
  intro g h hs hq hd hm
  obtain⟨x,hx,hlt⟩:∃ x,x<n/\(fun _=>(0:Int)) x<b2 (N x && !g v x):=bD9 (f:=fun _=>0) (g:=fun j=>b2 (N j && !g v j)) (by rw[Q6,hm];omega)
  have hNx:N x=true/\g v x=false:=by
   cases h1:N x<;>cases h2:g v x<;>rw[h1,h2]at hlt<;>simp_all [b2]
  obtain⟨y,hy,hlt2⟩:∃ y,y<n/\b2 (N y)<b2 (g v y):=by
   by_cases hc:∃ y,y<n/\b2 (N y)<b2 (g v y)
   ·exact hc
   ·have pos:∀ i,i<n->0<=b2 (N i) - b2 (g v i):=fun i hi=>by
     have:¬ b2 (N i)<b2 (g v i):=fun z=>hc ⟨i,hi,z⟩
     omega
    have t:=am7 (f:=fun j=>b2 (N j) - b2 (g v j)) hx pos
    have e:S n (fun j=>b2 (N j) - b2 (g v j))=0:=by rw[W7];unfold deg at hs;omega
    rw[e,show b2 (N x) - b2 (g v x)=1 by rw[hNx.1,hNx.2];rfl]at t
    omega
  have hNy:N y=false/\g v y=true:=by
   cases h1:N y<;>cases h2:g v y<;>rw[h1,h2]at hlt2<;>simp_all [b2]
  have xv:x≠v:=fun e=>by rw[e,hNv]at hNx;exact absurd hNx.1 (by decide)
  have yv:y≠v:=fun e=>by rw[e,h.irr]at hNy;exact absurd hNy.2 (by decide)
  have xy:x≠y:=fun e=>by rw[e,hNy.1]at hNx;exact absurd hNx.1 (by decide)
  have xq:x≠q:=fun e=>by rw[e,hq]at hNx;rw[hNx.1]at hNx;exact absurd hNx.2 (by decide)
  have yq:y≠q:=fun e=>by rw[e,hq]at hNy;rw[hNy.1]at hNy;exact absurd hNy.2 (by decide)
  obtain⟨z,hz,zx,zy,zv,h1,h2⟩:=find3 h hx hy hv xy xv yv (hd x y hx hy hNx.1 hNy.1 yv xq yq) (by rw[h.sym];exact hNy.2) (by rw[h.sym];exact hNx.2)
  have ex:Ex g v y z x:=⟨Ne.symm yv,Ne.symm zv,Ne.symm xv,Ne.symm zy,Ne.symm xy,zx,hNy.2,by rw[h.sym];exact h1,hNx.2,by rw[h.sym];exact h2⟩
  have dg:=aX1 h ex hv hy hz hx
  obtain⟨g',k1,k2,k3⟩:=ih (ap2 g v y z x) (aX0 h ex) (by rw[dg];exact hs) (by rw[aj7 ex,if_neg (Ne.symm yq),if_neg (Ne.symm xq)];exact hq) (fun a b ha hb n1 n2 n3 n4 n5=>by rw[dg,dg];exact hd a b ha hb n1 n2 n3 n4 n5) (by
   have:=S0 (f:=fun j=>b2 (N j && !ap2 g v y z x v j)) (g:=fun j=>b2 (N j && !g v j)) hx (fun j _ hj=>by
    show b2 (N j && !ap2 g v y z x v j)=_
    rw[aj7 ex]
    by_cases e:j=y
    ·rw[if_pos e,e,hNy.1];rfl
    ·rw[if_neg e,if_neg hj])
   rw[this,hm]
   have e1:ap2 g v y z x v x=true:=by rw[aj7 ex,if_neg xy,if_pos rfl]
   show _+(b2 (N x && !ap2 g v y z x v x) - b2 (N x && !g v x))=_
   rw[e1,hNx.1,hNx.2]
   show ((m+1:Nat):Int)+(0 - 1)=_
   omega)
  exact⟨g',k1,fun i hi=>by rw[k2 i hi,dg],k3⟩
theorem aM1 {t:Nat}{e:Nat->Int}{c:Nat->Bool}{u:Int}(ht:t<n)(h:∀ i,i<n->e i=d i+(if i=t then u else 0)):sm n c e=sm n c d+u*b2 (c t):=by
 unfold sm
 rw[S0 (f:=fun i=>if c i=true then e i else 0) (g:=fun i=>if c i=true then d i else 0) ht fun i hi hne=>by
  show (if c i=true then e i else 0)=if c i=true then d i else 0
  rw[h i hi,if_neg hne,Int.add_zero]]
 show S n (fun i=>if c i=true then d i else 0)+((if c t=true then e t else 0) - (if c t=true then d t else 0))=_
 rw[h t ht,if_pos rfl]
 cases c t with
 | true=>rw[if_pos rfl,if_pos rfl,V9];omega
 | false=>rw[if_neg (by decide),if_neg (by decide),Q4];omega
theorem bM8 {x y:Nat}{g h r:Nat->Int}(Kg:ak1 n g)(Kh:ak1 n h)(hj:j<n)(hx:x<n)(hy:y<n)(hxy:x≠y)(hjy:j≠y)(hjx:j≠x)
  (hr1:∀ i,i<n->r i=g i+(if i=j then 1 else 0)+(if i=x then -1 else 0))(hr2:∀ i,i<n->r i=h i+(if i=j then -1 else 0)+(if i=y then 1 else 0))
  (hd:h y+1<=g x)(ev:∃ q,S n r=2*q):ak1 n r:=by
 intro a b hab
 have sg:∀ c,sm n c r=sm n c g+b2 (c j) - b2 (c x):=fun c=>by
  have e1:=aM1 (c:=c) (d:=g) (e:=fun i=>g i+(if i=j then 1 else 0)) (u:=1) hj fun i _=>rfl
  have e2:=aM1 (c:=c) (d:=fun i=>g i+(if i=j then 1 else 0)) (e:=r) (u:=-1) hx hr1
  omega
 have sh:∀ c,sm n c r=sm n c h - b2 (c j)+b2 (c y):=fun c=>by
  have e1:=aM1 (c:=c) (d:=h) (e:=fun i=>h i+(if i=j then -1 else 0)) (u:=-1) hj fun i _=>rfl
  have e2:=aM1 (c:=c) (d:=fun i=>h i+(if i=j then -1 else 0)) (e:=r) (u:=1) hy hr2
  omega
 apply Classical.byContradiction
 intro hn
 have k1:=Kg a b hab
 have k2:=Kh a b hab
 have ga:=sg a
 have gb:=sg b
 have ha:=sh a
 have hb:=sh b
 have B:∀ c:Bool,0<=b2 c/\b2 c<=1:=fun c=>⟨B4 c,aK6 c⟩
 have b1:=B (a j);have b2':=B (a x);have b3:=B (a y);have b4:=B (b j);have b5:=B (b x);have b6:=B (b y)
 generalize hP:cnt n a*((n:Int) - 1 - cnt n b)=PP at *
 have tr:∀ c:Bool,b2 c=1->c=true:=fun c h=>by cases c with | true=>rfl | false=>exact absurd h (by decide)
 have hbx:b x=true:=tr _ (by omega)
 have hay:a y=true:=tr _ (by omega)
 have hax:a x=false:=by
  cases e:a x with
  | false=>rfl
  | true=>rw[hab x e]at hbx;exact absurd hbx (by decide)
 have hby:b y=false:=hab y hay
 have Fg:sm n a g - sm n b g=PP:=by omega
 have Fh:sm n a h - sm n b h=PP:=by omega
 have Fr:sm n a r - sm n b r=PP+1:=by omega
 have kt:=az5 (n:=n) hab
 generalize hp:cnt n a=p at *
 generalize hl:cnt n b=l at *
 have m1:2*g x<=p+((n:Int) - 1 - l)+1:=by
  have dj:∀ i,put a x true i=true->put b x false i=false:=fun i hi=>by
   by_cases e:i=x
   ·rw[e,ae9]
   ·rw[R8 e]at hi;rw[R8 e];exact hab i hi
  have:=Kg (put a x true) (put b x false) dj
  rw[W1 hx,W1 hx,R6 hx,R6 hx,hax,hbx,hp,hl]at this
  simp only[if_true,V9,Q4,m5,if_false]at this
  have e:(p+(1 - 0))*((n:Int) - 1 - (l+(0 - 1)))=p*((n:Int) - 1 - l)+p+((n:Int) - 1 - l)+1:=by grind
  rw[e]at this
  omega
 have m2:p+((n:Int) - 1 - l) - 1<=2*h y:=by
  have dj:∀ i,put a y false i=true->put b y true i=false:=fun i hi=>by
   by_cases e:i=y
   ·rw[e,ae9]at hi;cases hi
   ·rw[R8 e]at hi;rw[R8 e];exact hab i hi
  have:=Kh (put a y false) (put b y true) dj
  rw[W1 hy,W1 hy,R6 hy,R6 hy,hay,hby,hp,hl]at this
  simp only[if_true,V9,Q4,m5,if_false]at this
  have e:(p+(0 - 1))*((n:Int) - 1 - (l+(1 - 0)))=p*((n:Int) - 1 - l) - p - ((n:Int) - 1 - l)+1:=by grind
  rw[e]at this
  omega
 have m3:(n:Int) - 1 - l<=h y:=by
  have dj:∀ i,put a y false i=true->b i=false:=fun i hi=>by
   by_cases e:i=y
   ·rw[e,ae9]at hi;cases hi
   ·rw[R8 e]at hi;exact hab i hi
  have:=Kh (put a y false) b dj
  rw[W1 hy,R6 hy,hay,hp,hl]at this
  simp only[if_true,V9,Q4,m5,if_false]at this
  have e:(p+(0 - 1))*((n:Int) - 1 - l)=p*((n:Int) - 1 - l) - ((n:Int) - 1 - l):=by grind
  rw[e]at this
  omega
 have hpl:p+l=n:=by omega
 have hcv:=cover (n:=n) (a:=a) (b:=b) (d:=r) hab (by rw[hp,hl];exact hpl)
 obtain⟨q,hq⟩:=ev
 obtain⟨q2,hq2⟩:=bj9 p
 have e3:p*((n:Int) - 1 - l)=p*(p - 1):=by rw[show (n:Int) - 1 - l=p - 1 by omega]
 rw[e3]at hP
 omega
end Grf
namespace Web
open L2
open Grf (S b2 Gph deg cnt sm ak1)
def iso (g:Nat->Nat->Bool)(p:Nat):Nat->Nat->Bool:=fun u v=>g u v && decide (u≠p) && decide (v≠p)
theorem bi9 (h:Gph g)(p:Nat):Gph (iso g p):=⟨fun i j=>by unfold iso;rw[h.sym i j];cases g j i<;>simp[Bool.and_comm],fun i=>by unfold iso;rw[h.irr];rfl⟩
theorem bj0 (h:Gph g)(hp:p<n)(v:Nat):deg n (iso g p) v=if v=p then 0 else deg n g v - b2 (g p v):=by
 unfold deg
 by_cases e:v=p
 ·rw[if_pos e]
  refine Eq.trans (Grf.C2 (g:=fun _=>0) fun j _=>?_) (Grf.Q6 n)
  show b2 (g v j && decide (v≠p) && decide (j≠p))=0
  rw[decide_eq_false (show ¬ v≠p from fun z=>z e),ah9];rfl
 ·rw[if_neg e,Grf.S0 (f:=fun j=>b2 (iso g p v j)) (g:=fun j=>b2 (g v j)) hp fun j _ hj=>by
   show b2 (g v j && decide (v≠p) && decide (j≠p))=b2 (g v j)
   rw[decide_eq_true e,decide_eq_true hj,br6,br6]]
  show _+(b2 (g v p && decide (v≠p) && decide (p≠p)) - b2 (g v p))=_
  rw[decide_eq_false (show ¬ p≠p from fun z=>z rfl),ah9,h.sym v p]
  have:b2 false=0:=rfl
  omega
theorem bS4 {es:List Int}(nd:es.Nodup)(he:∀ z∈es,0<=z/\z<n):S n (fun j=>b2 (decide ((j:Int)∈es)))=(es.length:Int):=by
 rw[Grf.C2 (g:=fun i=>if (i:Int)∈es then 1 else 0) fun i _=>by
  by_cases e:(i:Int)∈es
  ·rw[decide_eq_true e,if_pos e];rfl
  ·rw[decide_eq_false e,if_neg e];rfl]
 rw[be7 (f:=fun _=>1) nd he]
 clear he nd
 induction es with
 | nil=>rfl
 | cons a es ih=>rw[n6,M6,ih,i9];omega
theorem aW1 (hi:i<ns.length) (hj:j<ns.length) (hij:i≠j) {h:Nat->Nat->Bool} (hg:Gph g) (dg:∀ v,v<ns.length->deg ns.length g v=ns.getD v 0)
  (hh:Gph h) (dh:∀ v,v<ns.length->deg ns.length h v=ns.getD v 0+(if v=i then 1 else 0)+(if v=j then 1 else 0)) :
  ∃ f,Gph f/\(∀ v,v<ns.length->deg ns.length f v=ns.getD v 0)/\f i j=false:=by
 cases hgij:g i j with
 | false=>exact⟨g,hg,dg,hgij⟩
 | true =>
 cases hhij:h i j with
 | true =>
  refine⟨Grf.Q7 h i j false,Grf.K6 hh hij,fun v hv=>?_,Grf.aq7⟩
  rw[Grf.R0 hh hij hi hj,dh v hv,hhij]
  have e1:b2 false=0:=rfl
  have e2:b2 true=1:=rfl
  by_cases c1:v=i
  ·rw[if_pos (show v=i\/v=j from .inl c1),if_pos c1,if_neg (show ¬ v=j by omega)];omega
  ·by_cases c2:v=j
   ·rw[if_pos (show v=i\/v=j from .inr c2),if_neg c1,if_pos c2];omega
   ·rw[if_neg (show ¬ (v=i\/v=j) from fun z=>z.elim c1 c2),if_neg c1,if_neg c2];omega
 | false =>
 generalize hn:ns.length=n at *
 obtain⟨zs,hz,hs⟩:=aC2 ns
 rw[hn]at hz
 have hLm:∀ z:Int,z∈zs.filter (fun z=>decide (z≠(i:Int)/\z≠(j:Int)))↔(0<=z/\z<n)/\z≠i/\z≠j:=fun z=>by
  rw[G7,hz.mem_iff,L5]
  simp
 have hLn:(zs.filter (fun z=>decide (z≠(i:Int)/\z≠(j:Int)))).Nodup:=(hz.nodup_iff.mpr (Q2 n)).filter _
 have hLs:(zs.filter (fun z=>decide (z≠(i:Int)/\z≠(j:Int)))).Pairwise (ole ns):=hs.filter _
 generalize zs.filter (fun z=>decide (z≠(i:Int)/\z≠(j:Int)))=L at hLm hLn hLs
 have B:∀ c:Bool,0<=b2 c/\b2 c<=1:=fun c=>⟨Grf.B4 c,Grf.aK6 c⟩
 have d1:1<=ns.getD i 0:=by
  rw[<- dg i hi]
  have:=Grf.am7 (f:=fun v=>b2 (g i v)) hj fun v _=>Grf.B4 _
  rw[hgij]at this
  exact this
 obtain⟨k,hk⟩:∃ k:Nat,ns.getD i 0=(k:Int)+1:=⟨(ns.getD i 0 - 1).toNat,by omega⟩
 have hLl:k+2<=L.length:=by
  have a1:deg n h i<=S n (fun v=>b2 (decide ((v:Int)∈L))):=Grf.av6 fun v hv=>by
   cases e:h i v with
   | false=>exact(B _).1
   | true =>
    rw[decide_eq_true ((hLm v).mpr ⟨⟨by omega,by omega⟩,fun z=>?_,fun z=>?_⟩)]
    ·exact L0 _
    ·rw[show v=i by omega,hh.irr]at e;cases e
    ·rw[show v=j by omega,hhij]at e;cases e
  rw[bS4 hLn fun z hz=>((hLm z).mp hz).1,dh i hi,if_pos rfl,if_neg hij,hk]at a1
  omega
 have hx':k<L.length:=by omega
 have hy':k+1<L.length:=by omega
 have mL:∀ (a:Nat) (ha:a<L.length),∃ v:Nat,L[a]=(v:Int)/\v<n/\v≠i/\v≠j:=fun a ha=>by
  obtain⟨⟨c1,c2⟩,c3,c4⟩:=(hLm _).mp (Q1 ha)
  exact⟨L[a].toNat,by omega,by omega,by omega,by omega⟩
 obtain⟨x,ex,hx,hxi,hxj⟩:=mL k hx'
 obtain⟨y,ey,hy,hyi,hyj⟩:=mL (k+1) hy'
 have inL:∀ v,v<n->v≠i->v≠j->(v:Int)∈L:=fun v h1 h2 h3=>(hLm v).mpr ⟨⟨by omega,by omega⟩,by omega,by omega⟩
 have tk1:∀ v:Nat,((v:Int)∈L.take (k+1))↔((v:Int)∈L.take k\/v=x):=fun v=>by
  rw[o7,f9 hx']
  show (v:Int)∈L.take k++[L[k]]↔_
  rw[m7,j8,ex]
  exact or_congr Iff.rfl ⟨fun z=>by omega,fun z=>by omega⟩
 have tk2:∀ v:Nat,((v:Int)∈L.take (k+2))↔((v:Int)∈L.take (k+1)\/v=y):=fun v=>by
  rw[o7,f9 hy']
  show (v:Int)∈L.take (k+1)++[L[k+1]]↔_
  rw[m7,j8,ey]
  exact or_congr Iff.rfl ⟨fun z=>by omega,fun z=>by omega⟩
 have notk:∀ (a b:Nat) (hb:b<L.length),a<=b->L[b]∉L.take a:=fun a b hb hab hm=>by
  obtain⟨c,hc,e⟩:=bF5.mp hm
  rw[k8]at hc
  rw[List.getElem_take]at e
  have e2:L[c]?=L[b]?:=by rw[f9 (show c<L.length by omega),f9 hb,e]
  have e3:c=b:=(ce7 (show c<L.length by omega) hLn).mp e2
  have:c<a:=by omega
  omega
 have x1:(x:Int)∉L.take k:=by rw[<- ex];exact notk k k hx' (c6 _)
 have y1:(y:Int)∉L.take (k+1):=by rw[<- ey];exact notk (k+1) (k+1) hy' (c6 _)
 have nij:∀ a:Nat,(i:Int)∉L.take a/\(j:Int)∉L.take a:=fun a=>⟨fun m=>((hLm _).mp (A4 m)).2.1 rfl,fun m=>((hLm _).mp (A4 m)).2.2 rfl⟩
 have topL:∀ (a:Nat) (u v:Nat),(u:Int)∈L.take a->v<n->v≠i->v≠j->(v:Int)∉L.take a->ns.getD v 0<=ns.getD u 0:=fun a u v hu hv h1 h2 hnv=>by
  have e:=A0 a L
  have hvL:=inL v hv h1 h2
  rw[<- e]at hvL hLs
  rcases m7.mp hvL with m | m
  ·exact absurd m hnv
  ·have:=(q8.mp hLs).2.2 _ hu _ m
   rcases R5.mp this with t | t<;>rw[j6,j6]at t<;>omega
 have lenT:∀ a:Nat,a<=L.length->S n (fun v=>b2 (decide ((v:Int)∈L.take a)))=(a:Int):=fun a ha=>by
  rw[bS4 (hLn.sublist (E1 _ _)) fun z hz=>((hLm z).mp (A4 hz)).1,k8,aZ1 ha]
 obtain⟨h1,hh1,dh1,rh1⟩:=Grf.bd6 (N:=fun v=>decide ((v:Int)∈L.take (k+2))) (q:=j) hi (decide_eq_false (nij _).1) (S n (fun v=>b2 (decide ((v:Int)∈L.take (k+2)) && !h i v))).toNat h hh (by rw[lenT _ hLl,dh i hi,if_pos rfl,if_neg hij,hk];omega) (by rw[hhij];exact decide_eq_false (nij _).2)
  (fun u v hu hv n1 n2 n3 n4 n5 => by
   have ui:u≠i:=fun z=>by rw[z]at n1;exact(nij _).1 (of_decide_eq_true n1)
   rw[dh u hu,dh v hv,if_neg ui,if_neg n4,if_neg n3,if_neg n5]
   have:=topL (k+2) u v (of_decide_eq_true n1) hv n3 n5 (of_decide_eq_false n2)
   omega) (by rw[ae3 (Grf.P9 fun v _=>Grf.B4 _)])
 obtain⟨g1,hg1,dg1,rg1⟩:=Grf.bd6 (N:=fun v=>decide ((v:Int)∈L.take k) || decide (v=j)) (q:=j) hi (by rw[decide_eq_false (nij _).1,decide_eq_false hij];rfl) (S n (fun v=>b2 ((decide ((v:Int)∈L.take k) || decide (v=j)) && !g i v))).toNat g hg (by
   rw[Grf.S0 (f:=fun v=>b2 (decide ((v:Int)∈L.take k) || decide (v=j))) (g:=fun v=>b2 (decide ((v:Int)∈L.take k))) hj fun v _ hv=>by
    show b2 (decide ((v:Int)∈L.take k) || decide (v=j))=_
    rw[decide_eq_false hv,ac1]]
   rw[lenT k (by omega),dg i hi,hk,decide_eq_false (nij k).2,decide_eq_true rfl]
   rfl) (by rw[hgij,decide_eq_true rfl,aL0])
  (fun u v hu hv n1 n2 n3 n4 n5 => by
   rw[decide_eq_false n4,ac1]at n1
   rw[decide_eq_false n5,ac1]at n2
   rw[dg u hu,dg v hv]
   exact topL k u v (of_decide_eq_true n1) hv n3 n5 (of_decide_eq_false n2)) (by rw[ae3 (Grf.P9 fun v _=>Grf.B4 _)])
 have ig:=bi9 hg1 i
 have ih:=bi9 hh1 i
 have kg:=Grf.aV1 (d:=deg n (iso g1 i)) ig fun _ _=>rfl
 have kh:=Grf.aV1 (d:=deg n (iso h1 i)) ih fun _ _=>rfl
 have vg:∀ v,v<n->deg n (iso g1 i) v=if v=i then 0 else ns.getD v 0 - b2 (decide ((v:Int)∈L.take k) || decide (v=j)):=fun v hv=>by
  rw[bj0 hg1 hi,dg1 v hv,dg v hv,rg1 v hv]
 have vh:∀ v,v<n->deg n (iso h1 i) v=if v=i then 0 else ns.getD v 0+(if v=j then 1 else 0) - b2 (decide ((v:Int)∈L.take (k+2))):=fun v hv=>by
  rw[bj0 hh1 hi,dh1 v hv,dh v hv,rh1 v hv]
  by_cases e:v=i
  ·rw[if_pos e,if_pos e]
  ·rw[if_neg e,if_neg e,if_neg e,Int.add_zero]
 have T1:b2 true=1:=rfl
 have T0:b2 false=0:=rfl
 have xy:x≠y:=fun z=>y1 ((tk1 y).mpr (.inr z.symm))
 have hr1:∀ v,v<n->(if v=i then 0 else ns.getD v 0 - b2 (decide ((v:Int)∈L.take (k+1))))=deg n (iso g1 i) v+(if v=j then 1 else 0)+(if v=x then -1 else 0):=fun v hv=>by
  rw[vg v hv]
  by_cases e:v=i
  ·rw[if_pos e,if_pos e,if_neg (by omega),if_neg (by omega)];rfl
  ·rw[if_neg e,if_neg e]
   by_cases e2:v=j
   ·rw[if_pos e2,if_neg (by omega),e2,decide_eq_false (nij _).2,decide_eq_false (nij k).2,decide_eq_true rfl,aF9];omega
   ·rw[if_neg e2,decide_eq_false e2,ac1]
    by_cases e3:v=x
    ·rw[if_pos e3,e3,decide_eq_true ((tk1 x).mpr (.inr rfl)),decide_eq_false x1];omega
    ·rw[if_neg e3]
     have:decide ((v:Int)∈L.take (k+1))=decide ((v:Int)∈L.take k):=decide_eq_decide.mpr ((tk1 v).trans ⟨fun z=>z.resolve_right e3,.inl⟩)
     rw[this];omega
 have hr2:∀ v,v<n->(if v=i then 0 else ns.getD v 0 - b2 (decide ((v:Int)∈L.take (k+1))))=deg n (iso h1 i) v+(if v=j then -1 else 0)+(if v=y then 1 else 0):=fun v hv=>by
  rw[vh v hv]
  by_cases e:v=i
  ·rw[if_pos e,if_pos e,if_neg (by omega),if_neg (by omega)];rfl
  ·rw[if_neg e,if_neg e]
   by_cases e2:v=j
   ·rw[if_pos e2,if_pos e2,if_neg (by omega),e2,decide_eq_false (nij _).2,decide_eq_false (nij (k+2)).2];omega
   ·rw[if_neg e2,if_neg e2]
    by_cases e3:v=y
    ·rw[if_pos e3,e3,decide_eq_true ((tk2 y).mpr (.inr rfl)),decide_eq_false y1];omega
    ·rw[if_neg e3]
     have:decide ((v:Int)∈L.take (k+2))=decide ((v:Int)∈L.take (k+1)):=decide_eq_decide.mpr ((tk2 v).trans ⟨fun z=>z.resolve_right e3,.inl⟩)
     rw[this];omega
 have gx:deg n (iso g1 i) x=ns.getD x 0:=by
  rw[vg x hx,if_neg hxi,decide_eq_false x1,decide_eq_false hxj,aF9];omega
 have hyv:deg n (iso h1 i) y=ns.getD y 0 - 1:=by
  rw[vh y hy,if_neg hyi,if_neg hyj,decide_eq_true ((tk2 y).mpr (.inr rfl))];omega
 have hdxy:ns.getD y 0<=ns.getD x 0:=topL (k+1) x y ((tk1 x).mpr (.inr rfl)) hy hyi hyj y1
 have ev:∃ q,S n (fun v=>if v=i then 0 else ns.getD v 0 - b2 (decide ((v:Int)∈L.take (k+1))))=2*q:=by
  obtain⟨q,hq⟩:=Grf.bC3 ig n
  refine⟨q,?_⟩
  rw[Grf.C2 hr1,Grf.ab4,Grf.ab4,hq,Grf.aj9 1 hj,Grf.aj9 (-1) hx]
  omega
 have kr:=Grf.bM8 kg kh hj hx hy xy (Ne.symm hyj) (Ne.symm hxj) hr1 hr2 (by omega) ev
 have ge0:∀ (f:Nat->Nat->Bool) (v:Nat),0<=deg n f v:=fun f v=>Grf.P9 fun _ _=>Grf.B4 _
 have nnr:∀ v,v<n->0<=(if v=i then 0 else ns.getD v 0 - b2 (decide ((v:Int)∈L.take (k+1)))):=fun v hv=>by
  by_cases e3:v=x
  ·rw[hr2 v hv]
   have:=ge0 (iso h1 i) v
   rw[if_neg (by omega),if_neg (by omega)];omega
  ·rw[hr1 v hv,if_neg e3]
   have:=ge0 (iso g1 i) v
   split<;>omega
 obtain⟨q,hq⟩:=ev
 have q0:0<=q:=by
  have:=Grf.P9 nnr
  omega
 obtain⟨R,hR,dR⟩:=Grf.aV9 q.toNat n _ nnr kr (by rw[hq];omega)
 have Ri:∀ v,v<n->R i v=false:=fun v hv=>by
  have a:=Grf.am7 (f:=fun v=>b2 (R i v)) hv fun _ _=>Grf.B4 _
  have b:=dR i hi
  rw[if_pos rfl]at b
  have c:b2 (R i v)<=deg n R i:=a
  cases e:R i v with
  | false=>rfl
  | true=>rw[e]at c;omega
 refine⟨fun u v=>if u=i then decide ((v:Int)∈L.take (k+1)) else if v=i then decide ((u:Int)∈L.take (k+1)) else R u v,⟨fun u v=>?_,fun u=>?_⟩,fun v hv=>?_,?_⟩
 ·by_cases c1:u=i
  ·by_cases c2:v=i
   ·rw[c1,c2]
   ·rw[if_pos c1,if_neg c2,if_pos c1]
  ·by_cases c2:v=i
   ·rw[if_neg c1,if_pos c2,if_pos c2]
   ·rw[if_neg c1,if_neg c2,if_neg c2,if_neg c1];exact hR.sym u v
 ·by_cases c1:u=i
  ·rw[if_pos c1,c1];exact decide_eq_false (nij _).1
  ·rw[if_neg c1,if_neg c1];exact hR.irr u
 ·by_cases c1:v=i
  ·subst c1
   have e:deg n (fun u w=>if u=v then decide ((w:Int)∈L.take (k+1)) else if w=v then decide ((u:Int)∈L.take (k+1)) else R u w) v=S n (fun w=>b2 (decide ((w:Int)∈L.take (k+1)))):=Grf.C2 fun w _=>by
    show b2 (if v=v then _ else _)=_
    rw[if_pos rfl]
   rw[e,lenT _ (by omega),hk];omega
  ·have e:deg n (fun u w=>if u=i then decide ((w:Int)∈L.take (k+1)) else if w=i then decide ((u:Int)∈L.take (k+1)) else R u w) v=deg n R v+(b2 (decide ((v:Int)∈L.take (k+1))) - b2 (R v i)):=by
    have:=Grf.S0 (n:=n) (j:=i) (f:=fun w=>b2 (if v=i then decide ((w:Int)∈L.take (k+1)) else if w=i then decide ((v:Int)∈L.take (k+1)) else R v w)) (g:=fun w=>b2 (R v w)) hi fun w _ hw=>by
     show b2 (if v=i then _ else if w=i then _ else R v w)=_
     rw[if_neg c1,if_neg hw]
    rw[if_neg c1,if_pos rfl]at this
    exact this
   rw[e,dR v hv,if_neg c1,hR.sym v i,Ri v hv]
   omega
 ·show (if i=i then decide ((j:Int)∈L.take (k+1)) else _)=false
  rw[if_pos rfl]
  exact decide_eq_false (nij _).2
end Web
namespace Web
open L2
open Grf (S b2 Gph deg cnt sm ak1 Q7)
def Mvd (ts us:List Int)(i j:Nat)(m:Int):Prop:=us.length=ts.length/\∀ v,v<ts.length->us.getD v 0=ts.getD v 0+(if v=i then m else 0)+(if v=j then m else 0)
theorem aR5 {ts us:List Int}{m:Int}(hm:Mvd ts us i j m)(hij:i≠j)(hi:i<ts.length)(hj:j<ts.length)(hg:Gph g)(dg:∀ v,v<ts.length->deg ts.length g v=ts.getD v 0){b:Bool}(hb:b2 b - b2 (g i j)=m) :
  ∀ v,v<us.length->deg us.length (Q7 g i j b) v=us.getD v 0:=fun v hv=>by
 rw[hm.1]at hv ⊢
 rw[Grf.R0 hg hij hi hj,dg v hv,hm.2 v hv,hb]
 by_cases e1:v=i
 ·have e2:v≠j:=fun z=>hij (e1.symm.trans z)
  rw[if_pos (.inl e1),if_pos e1,if_neg e2];omega
 ·by_cases e2:v=j
  ·rw[if_pos (.inr e2),if_neg e1,if_pos e2];omega
  ·rw[if_neg (fun z=>z.elim e1 e2),if_neg e1,if_neg e2];omega
end Web
namespace Web
open L2
open Grf (S b2 Gph deg cnt sm ak1)
theorem aW0 {es:List Int} {q:Nat} (hg:Gph g) (hd:∀ v,v<ns.length->deg ns.length g v=ns.getD v 0) (hq:decide ((q:Int)∈es)=g p q) (hp:p<ns.length) (nd:es.Nodup) (he:∀ z∈es,0<=z/\z<ns.length/\z≠p) (hl:(es.length:Int)=ns.getD p 0)
  (ht:∀ x∈es,∀ y:Nat,y<ns.length->(y:Int)∉es->y≠p->x≠q->y≠q->ns.getD y 0<=ns.getD x.toNat 0):Gr (Q9 ns p es):=by
 have hs:S ns.length (fun j=>b2 (decide ((j:Int)∈es)))=(es.length:Int):=by
  rw[Grf.C2 (g:=fun i=>if (i:Int)∈es then 1 else 0) fun i _=>by
   by_cases e:(i:Int)∈es
   ·rw[decide_eq_true e,if_pos e];rfl
   ·rw[decide_eq_false e,if_neg e];rfl]
  rw[be7 (f:=fun _=>1) nd fun z hz=>⟨(he z hz).1,(he z hz).2.1⟩]
  clear he hl ht nd hq
  induction es with
  | nil=>rfl
  | cons a es ih=>rw[n6,M6,ih,i9];omega
 have hNp:decide ((p:Int)∈es)=false:=decide_eq_false fun m=>(he _ m).2.2 rfl
 have hm:0<=S ns.length (fun j=>b2 (decide ((j:Int)∈es) && !g p j)):=Grf.P9 fun i _=>Grf.B4 _
 obtain⟨g',k1,k2,k3⟩:=Grf.bd6 (q:=q) (N:=fun j=>decide ((j:Int)∈es)) hp hNp (S ns.length (fun j=>b2 (decide ((j:Int)∈es) && !g p j))).toNat g hg (by rw[hs,hl,hd p hp]) hq
  (fun x y hx hy hNx hNy hyp hxq hyq => by
   rw[hd x hx,hd y hy]
   have:=ht x (of_decide_eq_true hNx) y hy (of_decide_eq_false hNy) hyp (by omega) hyq
   rw[j6]at this
   exact this) (by omega)
 refine⟨fun i j=>g' (sk p i) (sk p j),⟨fun i j=>k1.sym _ _,fun i=>k1.irr _⟩,fun i hi=>?_⟩
 rw[ad1 hp]at hi ⊢
 rw[au8 hp hi]
 have hsk:=bv5 (p:=p) hi hp
 have e1:=k2 _ hsk
 rw[hd _ hsk]at e1
 have e2:deg ns.length g' (sk p i)=S (ns.length - 1) (fun j=>b2 (g' (sk p i) (sk p j)))+b2 (g' (sk p i) p):=aO8 (p:=p) _ hp
 rw[e2,k1.sym (sk p i) p,k3 _ hsk]at e1
 show S (ns.length - 1) (fun j=>b2 (g' (sk p i) (sk p j)))=_
 generalize S (ns.length - 1) (fun j=>b2 (g' (sk p i) (sk p j)))=q0 at e1
 unfold Y5
 by_cases e:((sk p i:Nat):Int)∈es
 ·rw[decide_eq_true e]at e1
  rw[if_pos e]
  have:b2 true=1:=rfl
  omega
 ·rw[decide_eq_false e]at e1
  rw[if_neg e]
  have:b2 false=0:=rfl
  omega
def K2 (zs:List Int)(p q:Nat):List Int:=zs.filter fun x=>!decide (x∈[(p:Int),(q:Int)])
theorem ar3 {q:Nat}{z:Int}:z∈K2 zs p q↔z∈zs/\z≠p/\z≠q:=by
 unfold K2
 rw[G7]
 refine and_congr_right fun _=>?_
 rw[aH9,decide_eq_false_iff_not,c5,j8]
 exact⟨fun h=>⟨fun e=>h (.inl e),fun e=>h (.inr e)⟩,fun h e=>e.elim h.1 h.2⟩
theorem bn8 (zs:List Int)(p q:Nat):K2 zs p q=rest (rest zs p) q:=by
 unfold K2 rest
 rw[List.filter_filter]
 refine List.filter_congr fun x _=>?_
 by_cases e1:x=(p:Int)
 ·by_cases e2:x=(q:Int)<;>simp[e1,e2]
 ·by_cases e2:x=(q:Int)<;>simp[e1,e2]
theorem aT7 {q:Nat}(hz:zs.Perm (rng ns.length))(hp:p<ns.length)(hq:q<ns.length)(hpq:p≠q):(K2 zs p q).length+2=ns.length:=by
 have h1:=aB7 hz (p:=p) (by omega) (by omega)
 have nz:(rest zs p).Nodup:=(hz.nodup_iff.mpr (Q2 ns.length)).filter _
 have hm:(q:Int)∈rest zs p:=ar1.mpr ⟨hz.mem_iff.mpr (L5.mpr ⟨by omega,by omega⟩),by omega⟩
 have e:=List.length_eq_countP_add_countP (fun x=>decide (x≠(q:Int))) (l:=rest zs p)
 have e2:bP2 (fun x=>decide ¬(decide (x≠(q:Int)))=true) (rest zs p)=1:=by
  have:bP2 (fun x=>decide ¬(decide (x≠(q:Int)))=true) (rest zs p)=(rest zs p).count (q:Int):=by
   rw[List.count]
   refine List.countP_congr fun x _=>?_
   by_cases h:x=(q:Int)<;>simp[h]
  rw[this,nz.count,if_pos hm]
 rw[e2,aP6]at e
 rw[bn8]
 show ((rest zs p).filter fun x=>decide (x≠(q:Int))).length+2=_
 omega
theorem bN5 {q:Nat}(hg:Gph g)(hd:∀ v,v<ns.length->deg ns.length g v=ns.getD v 0)(ht:g p q=true)(hp:p<ns.length)(hq:q<ns.length)(hpq:p≠q)(hz:zs.Perm (rng ns.length))(hs:zs.Pairwise (ole ns)) :
  1<=ns.getD p 0/\∀ es,es=(K2 zs p q).take (ns.getD p 0 - 1).toNat++[(q:Int)]->es.Nodup/\(∀ z∈es,0<=z/\z<ns.length/\z≠p)/\(es.length:Int)=ns.getD p 0/\Gr (Q9 ns p es):=by
 have hG:Gr ns:=⟨g,hg,hd⟩
 have h1:=aD9 hG hp
 have h0:1<=ns.getD p 0:=by
  rw[<- hd p hp]
  have:=Grf.am7 (f:=fun j=>b2 (g p j)) hq (fun i _=>Grf.B4 _)
  have e:b2 (g p q)=1:=by rw[ht];rfl
  have t:b2 (g p q)<=deg ns.length g p:=this
  omega
 have hl:=aT7 hz hp hq hpq
 have nz:(K2 zs p q).Nodup:=(hz.nodup_iff.mpr (Q2 ns.length)).filter _
 have srt:(K2 zs p q).Pairwise (ole ns):=hs.filter _
 refine⟨h0,fun es ees=>?_⟩
 have hin:∀ z∈K2 zs p q,0<=z/\z<ns.length/\z≠p/\z≠q:=fun z m=>by
  obtain⟨m1,m2,m3⟩:=ar3.mp m
  obtain⟨c0,c1⟩:=L5.mp (hz.mem_iff.mp m1)
  exact⟨c0,c1,m2,m3⟩
 have nd:es.Nodup:=by
  rw[ees]
  refine ak3.mpr ⟨nz.sublist (E1 _ _),by simp,fun a ha b hb e=>?_⟩
  rw[j8.mp hb]at e
  exact(hin a (A4 ha)).2.2.2 e
 have he:∀ z∈es,0<=z/\z<ns.length/\z≠p:=fun z m=>by
  rw[ees]at m
  rcases m7.mp m with m | m
  ·obtain⟨a,b,c,_⟩:=hin z (A4 m)
   exact⟨a,b,c⟩
  ·rw[j8.mp m]
   exact⟨by omega,by omega,by omega⟩
 have hlen:(es.length:Int)=ns.getD p 0:=by
  rw[ees,j2,k8,M4]
  omega
 refine⟨nd,he,hlen,aW0 (q:=q) hg hd ?_ hp nd he hlen fun x hx y hy hny hyp hxq hyq=>?_⟩
 ·rw[ht,ees]
  exact decide_eq_true (m7.mpr (.inr (j8.mpr rfl)))
 ·rw[ees]at hx hny
  have hxm:x∈(K2 zs p q).take (ns.getD p 0 - 1).toNat:=by
   rcases m7.mp hx with m | m
   ·exact m
   ·exact absurd (j8.mp m) hxq
  have hyr:(y:Int)∈K2 zs p q:=ar3.mpr ⟨hz.mem_iff.mpr (L5.mpr ⟨by omega,by omega⟩),by omega,by omega⟩
  rw[<- A0 (ns.getD p 0 - 1).toNat (K2 zs p q)]at hyr srt
  rcases m7.mp hyr with m | m
  ·exact absurd (m7.mpr (.inl m)) hny
  ·have:=(q8.mp srt).2.2 x hxm y m
   rcases R5.mp this with t | t
   ·rw[j6]at t;omega
   ·rw[j6]at t;omega
theorem bd8 {q:Nat}(hg:Gph g)(hd:∀ v,v<ns.length->deg ns.length g v=ns.getD v 0)(ht:g p q=false)(hp:p<ns.length)(hq:q<ns.length)(hpq:p≠q)(hz:zs.Perm (rng ns.length))(hs:zs.Pairwise (ole ns)) :
  ∀ es,es=(K2 zs p q).take (ns.getD p 0).toNat->es.Nodup/\(∀ z∈es,0<=z/\z<ns.length/\z≠p)/\(es.length:Int)=ns.getD p 0/\(q:Int)∉es/\Gr (Q9 ns p es):=by
 have hG:Gr ns:=⟨g,hg,hd⟩
 have h0:=ad5 (aD8 hG) hp
 have hl:=aT7 hz hp hq hpq
 have h1:ns.getD p 0+2<=ns.length:=by
  have:=aD9 ⟨Grf.Q7 g p q true,Grf.K6 hg hpq,aR5 (us:=(ns.set p (ns.getD p 0+1)).set q (ns.getD q 0+1)) (m:=1) ⟨by rw[A3,A3],fun v hv=>?_⟩ hpq hp hq hg hd (by rw[ht];rfl)⟩ (i:=p) (by rw[A3,A3];exact hp)
  ·rw[A3,A3,i8,T6 (Ne.symm hpq),ap8 hp]at this
   have t:ns.getD p 0+1<ns.length:=this
   omega
  ·rw[i8,X9,X9,A3]
   by_cases c1:q=v
   ·subst c1
    rw[if_pos rfl,if_pos hq,if_neg (Ne.symm hpq),if_pos rfl]
    show ns.getD q 0+1=_
    omega
   ·rw[if_neg c1,if_neg (Ne.symm c1)]
    by_cases c2:p=v
    ·subst c2
     rw[if_pos rfl,if_pos hp,if_pos rfl]
     show ns.getD p 0+1=_
     omega
    ·rw[if_neg c2,if_neg (Ne.symm c2),<- i8]
     omega
 have nz:(K2 zs p q).Nodup:=(hz.nodup_iff.mpr (Q2 ns.length)).filter _
 have srt:(K2 zs p q).Pairwise (ole ns):=hs.filter _
 intro es ees
 have hin:∀ z∈K2 zs p q,0<=z/\z<ns.length/\z≠p/\z≠q:=fun z m=>by
  obtain⟨m1,m2,m3⟩:=ar3.mp m
  obtain⟨c0,c1⟩:=L5.mp (hz.mem_iff.mp m1)
  exact⟨c0,c1,m2,m3⟩
 have nd:es.Nodup:=by rw[ees];exact nz.sublist (E1 _ _)
 have he:∀ z∈es,0<=z/\z<ns.length/\z≠p:=fun z m=>by
  rw[ees]at m
  obtain⟨a,b,c,_⟩:=hin z (A4 m)
  exact⟨a,b,c⟩
 have hqe:(q:Int)∉es:=fun m=>by
  rw[ees]at m
  exact(hin q (A4 m)).2.2.2 rfl
 have hlen:(es.length:Int)=ns.getD p 0:=by
  rw[ees,k8]
  omega
 refine⟨nd,he,hlen,hqe,aW0 (q:=q) hg hd ?_ hp nd he hlen fun x hx y hy hny hyp hxq hyq=>?_⟩
 ·rw[ht]
  exact decide_eq_false hqe
 ·rw[ees]at hx hny
  have hyr:(y:Int)∈K2 zs p q:=ar3.mpr ⟨hz.mem_iff.mpr (L5.mpr ⟨by omega,by omega⟩),by omega,by omega⟩
  rw[<- A0 (ns.getD p 0).toNat (K2 zs p q)]at hyr srt
  rcases m7.mp hyr with m | m
  ·exact absurd m hny
  ·have:=(q8.mp srt).2.2 x hx y m
   rcases R5.mp this with t | t
   ·rw[j6]at t;omega
   ·rw[j6]at t;omega
end Web
namespace Web
open PySem L2
def top (i:Nat):Stmt:=PySem.Challenge.pw_tallyweb_k63_pair_answers.main.body.getD i (.Pass ⟨0,0,0,0⟩)
abbrev aH3:Stmt:=top 11
abbrev sUp:Stmt:=top 13
abbrev aS5:Stmt:=top 14
abbrev aH4:Stmt:=top 18
abbrev bb5:Stmt:=top 19
abbrev aI9:Stmt:=top 22
abbrev au3:Stmt:=top 23
abbrev au2:Stmt:=top 26
abbrev aA9:Stmt:=top 27
abbrev aI6:Stmt:=top 28
abbrev ap0:Stmt:=top 31
abbrev aS6:Stmt:=top 32
abbrev aI7:Stmt:=top 33
abbrev bb4:Stmt:=top 76
abbrev aS2:Stmt:=top 77
abbrev bv9:Stmt:=top 79
abbrev bw4:Stmt:=top 61
abbrev sNW:Stmt:=top 62
abbrev aS1:Stmt:=top 63
abbrev aS3:Stmt:=top 64
abbrev aB5:Stmt:=top 69
abbrev aB0:Stmt:=top 72
abbrev ar0:Stmt:=top 73
abbrev aS8:Stmt:=top 75
abbrev al1:Stmt:=top 78
abbrev bw6:Stmt:=top 80
abbrev bw0:Stmt:=top 81
abbrev au1:Stmt:=top 82
abbrev aI8:Stmt:=top 83
abbrev aB3:Stmt:=top 84
abbrev aB4:Stmt:=top 85
abbrev aS4:Stmt:=top 86
abbrev aq9:Stmt:=top 87
abbrev aS9:Stmt:=top 88
abbrev bn2:Stmt:=top 12
abbrev bw3:Stmt:=top 20
abbrev bw5:Stmt:=top 29
abbrev bw7:Stmt:=top 44
abbrev bw2:Stmt:=top 45
abbrev aS0:Stmt:=top 46
abbrev aR9:Stmt:=top 47
abbrev sPT:Stmt:=top 48
abbrev aB2:Stmt:=top 71
abbrev bw1:Stmt:=top 89
abbrev aB1:Stmt:=top 90
abbrev bb6:Stmt:=top 91
structure Bn (mg:Str->Option Value):Prop where
 len:mg "len"=none
 range:mg "range"=none
 enum:mg "enumerate"=none
 list:mg "list"=none
 tuple:mg "tuple"=none
 sorted:mg "sorted"=none
 set:mg "set"=none
 isin:mg "isinstance"=none
 int:mg "int"=none
 bool:mg "bool"=none
 min:mg "min"=none
 max:mg "max"=none
 sum:mg "sum"=none
 str:mg "str"=none
 ve:mg "ValueError"=none
 rev:mg "reversed"=none
 all:mg "all"=none
theorem L1:5000<=d8:=by decide
theorem c8 {o:HO}(h:H l=none):p8 H (upd H l o):=fun b u e=>by
 rw[x8 (y7 e h)]
 exact e
section
variable {K:W.Frag} {mg:Str->Option Value} {base:Heap}
def bu9:Sp:=fun vs H Q _=>∃ a b:Int,vs=[.int a,.int b]/\Q (.bl (decide (0<=b) && decide (b<a))) H
theorem ci9:p9 ["places","number"] ["places","number"] (m9 aH3):=.mk'
theorem by7 (F:Fun K "is_place" "is_place" aH3 f fd):p0 P w K mg base CX0 1 f fd ["places","number"] bu9:=by
 refine F.ok ci9 (fun cdv A outer s H vs Q E hr h=>?_)
 obtain⟨a,b,rfl,k⟩:=h
 refine⟨_,j3 (r6 (by0 aj4 ag6 d6 (pv 1) (pv 0))),?_⟩
 refine⟨_,rfl,_,_,rfl,rfl,_,rfl,?_⟩
 cases e:decide ((0:Int)<=b) with
 | true =>
  refine E7 ⟨_,rfl,_,_,rfl,rfl,?_⟩
  rw[e,S4]at k
  exact k
 | false =>
  refine E8 ?_
  rw[e,D7]at k
  exact k
def ch7 (K:W.Frag):Sp:=fun vs H Q _=>∃ (n:Nat) (a:Addr) (k:List Int),vs=[.int n,.ref a]/\SqT K H a (k.map V.int)/\an6 n k /\
 ∀ p,H p=none->Q (.ref p) (upd H p (.tup ((up k).map V.int)))
theorem cp3:p9 ["places","tie"] ["places","tie"] (m9 sUp):=.mk'
theorem ck8 {fI:Addr} (F:Fun K "turned_up" "turned_up" sUp f fd) (B:Bn mg) (FI:Fq K mg "is_place" aH3 fI fdI ["places","number"]) :
  p0 P w K mg base CX0 2 f fd ["places","tie"] (ch7 K):=by
 have GI:p0 P w K mg base CX0 1 fI fdI ["places","number"] bu9:=by7 FI.F
 refine F.ok cp3 (fun cdv A outer s H vs Q E hr h=>?_)
 obtain⟨n,a,k,rfl,hS,⟨i,j,h1,h2,h3,rfl⟩,q⟩:=h
 refine⟨_,c9 (D6 (PW.pt (ag5 (U1 (ai6 (al4 GI hr rfl FI.m FI.F.kp FI.b .nil D0 (a6 (pv 0) (a6 (B9 J8 (pv 1) d6 (fun _ _=>rfl)) b7)))))
    (ab6 (U1 (ai6 (al4 GI hr rfl FI.m FI.F.kp FI.b .nil D0 (a6 (pv 0) (a6 (B9 J8 (pv 1) d6 (fun _ _=>rfl)) b7)))))))) J4 x9)
  (c9 (D6 (p5 Q8 (B9 J8 (pv 1) d6 (fun _ _=>rfl)) (B9 J8 (pv 1) d6 (fun _ _=>rfl)) (y9 _)) J4 x9)
  (j3 (r6 (J7 (a6 (n9 (ad3 rfl) (by rfl) B.min (by rfl) (a6 (B9 J8 (pv 1) d6 (fun _ _ => rfl)) (a6 (B9 J8 (pv 1) d6 (fun _ _ => rfl)) b7)))
   (a6 (n9 (ad4 rfl) (by rfl) B.max (by rfl) (a6 (B9 J8 (pv 1) d6 (fun _ _=>rfl)) (a6 (B9 J8 (pv 1) d6 (fun _ _=>rfl)) b7))) b7)))))),?_⟩
 have a0:atI (([(i:Int),(j:Int)]:List Int).map V.int) 0=some (.int i):=p6 (j:=0) rfl
 have a1:atI (([(i:Int),(j:Int)]:List Int).map V.int) 1=some (.int j):=p6 (j:=1) rfl
 refine⟨_,rfl,_,rfl,a,_,_,_,rfl,rfl,hS,a0,_,_,rfl,?_⟩
 rw[decide_eq_true (show (0:Int)<=i by omega),decide_eq_true (show (i:Int)<n by omega)]
 refine⟨_,rfl,E8 ?_⟩
 refine⟨_,rfl,_,rfl,a,_,_,_,rfl,rfl,hS,a1,_,_,rfl,?_⟩
 rw[decide_eq_true (show (0:Int)<=j by omega),decide_eq_true (show (j:Int)<n by omega)]
 refine⟨_,rfl,E8 ?_⟩
 refine⟨_,rfl,a,_,_,_,rfl,rfl,hS,a0,_,rfl,a,_,_,_,rfl,rfl,hS,a1,rfl,_,rfl,?_⟩
 rw[decide_eq_false (show ¬ V.int (i:Int)=V.int (j:Int) by intro z;injection z;omega)]
 refine E8 ?_
 refine⟨_,rfl,a,_,_,_,rfl,rfl,hS,a0,_,rfl,a,_,_,_,rfl,rfl,hS,a1,_,_,rfl,?_⟩
 refine⟨_,rfl,a,_,_,_,rfl,rfl,hS,a0,_,rfl,a,_,_,_,rfl,rfl,hS,a1,_,_,rfl,(by show 2<=d8;decide),fun p hp=>?_⟩
 exact q p hp
def R9 (ns:List Int):Prop:=1<=ns.length/\ns.length<=24
def Sq (K:W.Frag)(H:Hp)(a:Addr)(ns:List Int):Prop:=SqL K H a (ns.map V.int)\/SqT K H a (ns.map V.int)
theorem Sq.same (h:Sq K H a ns)(s:p8 H H'):Sq K H' a ns:=h.elim (fun h=>.inl (s.seq h)) fun h=>.inr (s.seqT h)
def bg5 (K:W.Frag)(CB:Addr):Sp:=fun vs H Q E=>∃ (a:Addr) (ns:List Int),vs=[.ref a]/\Sq K H a ns/\(R9 ns->Q .non H)/\(¬ R9 ns->E (.ref CB) none H)
theorem cj3:p9 ["tally"] ["tally"] (m9 aH4):=.mk'
theorem bc3 {tk:Tok}(F:Fun K "check_tally" "check_tally" aH4 f fd)(B:Bn mg)(mM:mg "MOST_PLACES"=some (.int 24 tk))(mB:mg "BadTally"=some (.ref CB))(cB:ag1 K CB):p0 P w K mg base (CXE P w) 1 f fd ["tally"] (bg5 K CB):=by
 refine F.okX cj3 (fun cdv A outer s H vs Q E hr h=>?_)
 obtain⟨a,ns,rfl,hS,h1,h2⟩:=h
 refine⟨_,j3 (D6 (U1 (ai7 aj4 aj4 d6 (n9 o9 (by rfl) B.len PySem.boot_len (a6 (pv 0) b7)) (af1 (v:=.int 24) (by rfl) mM ⟨tk,rfl⟩))) (j3 (ac6 (by rfl) mB cB)) x9),?_⟩
 refine⟨_,rfl,a,_,rfl,hS,_,_,rfl,rfl,_,rfl,?_⟩
 rw[a5]
 by_cases hp:(1:Int)<=(ns.length:Int)
 ·rw[decide_eq_true hp]
  refine E7 ⟨_,_,rfl,rfl,_,rfl,?_⟩
  by_cases hp':(ns.length:Int)<=24
  ·rw[decide_eq_true hp']
   exact E8 (h1 ⟨by omega,by omega⟩)
  ·rw[decide_eq_false hp']
   exact E7 (h2 fun z=>hp' (by have:=z.2;omega))
 ·rw[decide_eq_false hp]
  exact E8 ⟨_,rfl,E7 (h2 fun z=>hp (by have:=z.1;omega))⟩
end
section
variable {K:W.Frag} {mg:Str->Option Value} {base:Heap}
def bu6 (K:W.Frag):Sp:=fun vs H Q _=>∃ (n:Nat) (a:Addr) (ys:List V) (hs:List (List Int)),vs=[.int n,.ref a]/\1<=n/\n<=24/\(SqL K H a ys\/SqT K H a ys)/\C1 K H ys hs/\(∀ k∈hs,an6 n k)/\(hs.map up).Nodup/\hs.length<300 /\
 ∀ p t zs ks H',p8 H H'->H p=none->H t=none->H' p=some (.tup [.int n,.ref t])->H' t=some (.tup zs)->C1 K H' zs ks->ks.Perm (hs.map up)->ks.Pairwise (fun a b=>Tim.L9 b a=false)->Q (.ref p) H'
theorem bb2:p9 ["places","ties","ascending"] ["places","ties"] (m9 aS5):=.mk'
theorem bK8 {fI fU:Addr} {fdU:FuncData} {tk:Tok} (F:Fun K "made" "made" aS5 f fd) (B:Bn mg) (FI:Fq K mg "is_place" aH3 fI fdI ["places","number"])
  (FU:Fq K mg "turned_up" sUp fU fdU ["places","tie"]) (mM:mg "MOST_PLACES"=some (.int 24 tk)) :
  p0 P w K mg base CX0 3 f fd ["places","ties"] (bu6 K):=by
 have GU:p0 P w K mg base CX0 2 fU fdU ["places","tie"] (ch7 K):=ck8 FU.F B FI
 refine F.ok bb2 (fun cdv A outer s H vs Q E hr h=>?_)
 obtain⟨n,a,ys,hs,rfl,n1,n2,hS,hT,hE,hN,hL,q⟩:=h
 have hu8:=aG4 (V1 (by decide:8<=64) _) hr.units
 have hyl:=hT.len
 have nd2:(["tie","places"]:List Str).Nodup:=by decide +kernel
 have step:∀ (D:Addr),H D=none->∀ (i:Nat) (xs:List V) (H':Hp) (x:V) (N:List V->Hp->Prop),p8 H H'->H' D=some (.lst xs)->C1 K H' xs ((hs.take i).map up)->ys[i]?=some x ->
   (∀ xs' H'',p8 H H''->H'' D=some (.lst xs')->C1 K H'' xs' ((hs.take (i+1)).map up)->N xs' H'') ->
   ∃ (m:Nat) (b:Addr) (k:List Int),[V.int n,x]=[.int m,.ref b]/\SqT K H' b (k.map V.int)/\an6 m k/\∀ p,H' p=none->(upd H' p (.tup ((up k).map V.int))) D=some (.lst xs)/\N (xs++[.ref p]) (upd (upd H' p (.tup ((up k).map V.int))) D (.lst (xs++[.ref p]))):=by
  intro D hD i xs H' x N s1 hd ht hx k
  obtain⟨b,kk,rfl,hk,hq⟩:=hT.get hx
  refine⟨n,b,kk,rfl,s1.seqT hq,hE kk (b9 hk),fun p hp=>?_⟩
  have npd:D≠p:=y7 hd hp
  have hd':(upd H' p (.tup ((up kk).map V.int))) D=some (.lst xs):=by rw[x8 npd];exact hd
  refine⟨hd',k _ _ ((s1.trans (c8 hp)).upd hD) a9 ?_⟩
  have e:(hs.take (i+1)).map up=(hs.take i).map up++[up kk]:=by
   rw[o7,hk,g9]
   rfl
  rw[e]
  refine C1.updL hd' (C1.append (p8.tups (c8 hp) ht) (C1.one (SqT.of a9)))
 rcases hS with hS | hS
 ·refine⟨_,c9 (D6 (U1 (ai7 aj4 aj4 d6 (pv 0) (af1 (v:=.int 24) rfl mM ⟨_,rfl⟩))) J4 x9)
   (c9 (v8 (i := 2) bb2.nd rfl (Or.inl rfl) (n9 aw8 (by rfl) B.sorted (by rfl) (a6
    (N4 (N' := ["tie", "places"]) (lk := [none, some 0]) rfl (P3 (pv 1)) (by rfl) rfl (by decide +kernel) (by exact ⟨rfl, trivial⟩) (by rfl) (by exact LkL.ok ⟨⟨rfl, Or.inl rfl, rfl, Or.inl rfl⟩, trivial⟩)
     (fun _ _ _=>B2 (i:=0) nd2 rfl (Or.inl rfl)) (fun _ _ _=>P2) (fun _ _ _=>A9 GU hr (by rfl) FU D0 (a6 (pv 1) (a6 (pv 0) b7)))) b7)))
   (c9 (D6 (p5 ag6 (n9 call_len_set (by rfl) B.len PySem.boot_len (a6 (F3 (aX7 rfl hu8) (by rfl) B.set (by rfl) (a6 (pv 2) b7)) b7)) (n9 o9 (by rfl) B.len PySem.boot_len (a6 (pv 2) b7)) (y9 _)) J4 x9)
   (j3 (r6 (J7 (a6 (pv 0) (a6 (F3 V8 (by rfl) B.tuple (by rfl) (a6 (pv 2) b7)) b7))))))),?_⟩
  refine⟨_,rfl,_,_,rfl,rfl,_,rfl,?_⟩
  rw[decide_eq_true (show (1:Int)<=n by omega)]
  refine E7 ⟨_,_,rfl,rfl,_,rfl,?_⟩
  rw[decide_eq_true (show (n:Int)<=24 by omega)]
  refine E8 ?_
  refine⟨_,rfl,a,rfl,⟨_,hS⟩,fun D hD=>M3 (K:=K) (a:=a) (D:=D) (ys:=ys) (fun i xs σ' H'=>∃ v,σ'=[v,some (.int n)]/\p8 H H'/\H' D=some (.lst xs)/\C1 K H' xs ((hs.take i).map up)) ⟨none,rfl,c8 hD,a9,.nil⟩ (by have:=L1;omega)
   (fun i xs σ' H' hi ⟨_,_,s1,h1,h2⟩=>⟨s1.seq hS,h1,by have:=h2.len;simp at this;omega⟩) ?_ ?_⟩
  ·rintro i xs x σ' H' N kN hx ⟨v,rfl,s1,h1,h2⟩
   refine A2 ?_
   refine K5 ?_
   refine⟨_,rfl,_,rfl,?_⟩
   exact step D hD i xs H' x (fun xs' H''=>N xs' _ H'') s1 h1 h2 hx fun xs' H'' a1 a2 a3=>kN _ _ _ ⟨_,rfl,a1,a2,a3⟩
  ·rintro xs σ' H1 ⟨v,rfl,s1,h1,h2⟩
   rw[k7 (by omega)]at h2
   have hup:∀ k∈hs.map up,Up n k:=fun k hk=>by
    obtain⟨k0,h0,rfl⟩:=k9.mp hk
    exact(hE k0 h0).up
   refine⟨D,xs,_,rfl,SqL.of h1,h2,(fun k hk z=>by have:=(hup k hk).len;rw[z]at this;cases this),fun l zs ks hl pk hs1 ht1=>?_⟩
   have hkl:ks.length=hs.length:=by rw[pk.length_eq,a5]
   have hzl:=ht1.len
   have s2:p8 H (upd H1 l (.lst zs)):=s1.trans (c8 hl)
   refine⟨_,rfl,l,zs,ks,rfl,SqL.of a9,ht1,(fun k hk=>(hup k (pk.mem_iff.mp hk)).key n2),by omega,fun S hSn=>?_⟩
   have hlS:l≠S:=y7 a9 hSn
   have s3:=s2.trans (c8 (o:=be6 P w S (ks.foldl Sett.X4 []).length) hSn)
   have l3:(upd (upd H1 l (.lst zs)) S (be6 P w S (ks.foldl Sett.X4 []).length)) l=some (.lst zs):=by rw[x8 hlS,a9]
   refine⟨S,_,rfl,a9,_,rfl,l,zs,rfl,.inl (SqL.of l3),_,_,rfl,rfl,_,rfl,?_⟩
   have hfold:(ks.foldl Sett.X4 []).length=zs.length:=by
    have:=(Sett.av1 ks []).mpr ⟨(pk.nodup_iff).mpr hN,fun x _=>by simp⟩
    simp at this
    omega
   rw[hfold,decide_eq_false (by omega)]
   refine E8 ?_
   refine⟨_,rfl,_,rfl,l,zs,rfl,.inl ⟨SqL.of (by rw[hfold]at l3;exact l3),fun t ht=>⟨(by show 2<=d8;decide),fun p hp=>?_⟩⟩⟩
   rw[hfold]at s3
   have s4:=(s3.trans (c8 (o:=.tup zs) ht)).trans (c8 (o:=.tup [.int n,.ref t]) hp)
   refine q p t zs ks _ s4 ((s3.trans (c8 ht)).free hp) (s3.free ht) a9 ?_ ?_ pk hs1
   ·rw[x8 (y7 a9 hp),a9]
   ·exact p8.tups (((c8 hSn).trans (c8 ht)).trans (c8 hp)) ht1
 ·refine⟨_,c9 (D6 (U1 (ai7 aj4 aj4 d6 (pv 0) (af1 (v:=.int 24) rfl mM ⟨_,rfl⟩))) J4 x9)
   (c9 (v8 (i := 2) bb2.nd rfl (Or.inl rfl) (n9 aw8 (by rfl) B.sorted (by rfl) (a6
    (N4 (N' := ["tie", "places"]) (lk := [none, some 0]) rfl (aN0 (pv 1)) (by rfl) rfl (by decide +kernel) (by exact ⟨rfl, trivial⟩) (by rfl) (by exact LkL.ok ⟨⟨rfl, Or.inl rfl, rfl, Or.inl rfl⟩, trivial⟩)
     (fun _ _ _=>B2 (i:=0) nd2 rfl (Or.inl rfl)) (fun _ _ _=>P2) (fun _ _ _=>A9 GU hr (by rfl) FU D0 (a6 (pv 1) (a6 (pv 0) b7)))) b7)))
   (c9 (D6 (p5 ag6 (n9 call_len_set (by rfl) B.len PySem.boot_len (a6 (F3 (aX7 rfl hu8) (by rfl) B.set (by rfl) (a6 (pv 2) b7)) b7)) (n9 o9 (by rfl) B.len PySem.boot_len (a6 (pv 2) b7)) (y9 _)) J4 x9)
   (j3 (r6 (J7 (a6 (pv 0) (a6 (F3 V8 (by rfl) B.tuple (by rfl) (a6 (pv 2) b7)) b7))))))),?_⟩
  refine⟨_,rfl,_,_,rfl,rfl,_,rfl,?_⟩
  rw[decide_eq_true (show (1:Int)<=n by omega)]
  refine E7 ⟨_,_,rfl,rfl,_,rfl,?_⟩
  rw[decide_eq_true (show (n:Int)<=24 by omega)]
  refine E8 ?_
  refine⟨_,rfl,a,rfl,⟨_,hS⟩,fun D hD=>aE5 (K:=K) (a:=a) (D:=D) (ys:=ys) (fun i xs σ' H'=>∃ v,σ'=[v,some (.int n)]/\p8 H H'/\H' D=some (.lst xs)/\C1 K H' xs ((hs.take i).map up)) ⟨none,rfl,c8 hD,a9,.nil⟩ (by have:=L1;omega)
   (fun i xs σ' H' hi ⟨_,_,s1,h1,h2⟩=>⟨s1.seqT hS,h1,by have:=h2.len;simp at this;omega⟩) ?_ ?_⟩
  ·rintro i xs x σ' H' N kN hx ⟨v,rfl,s1,h1,h2⟩
   refine A2 ?_
   refine K5 ?_
   refine⟨_,rfl,_,rfl,?_⟩
   exact step D hD i xs H' x (fun xs' H''=>N xs' _ H'') s1 h1 h2 hx fun xs' H'' a1 a2 a3=>kN _ _ _ ⟨_,rfl,a1,a2,a3⟩
  ·rintro xs σ' H1 ⟨v,rfl,s1,h1,h2⟩
   rw[k7 (by omega)]at h2
   have hup:∀ k∈hs.map up,Up n k:=fun k hk=>by
    obtain⟨k0,h0,rfl⟩:=k9.mp hk
    exact(hE k0 h0).up
   refine⟨D,xs,_,rfl,SqL.of h1,h2,(fun k hk z=>by have:=(hup k hk).len;rw[z]at this;cases this),fun l zs ks hl pk hs1 ht1=>?_⟩
   have hkl:ks.length=hs.length:=by rw[pk.length_eq,a5]
   have hzl:=ht1.len
   have s2:p8 H (upd H1 l (.lst zs)):=s1.trans (c8 hl)
   refine⟨_,rfl,l,zs,ks,rfl,SqL.of a9,ht1,(fun k hk=>(hup k (pk.mem_iff.mp hk)).key n2),by omega,fun S hSn=>?_⟩
   have hlS:l≠S:=y7 a9 hSn
   have s3:=s2.trans (c8 (o:=be6 P w S (ks.foldl Sett.X4 []).length) hSn)
   have l3:(upd (upd H1 l (.lst zs)) S (be6 P w S (ks.foldl Sett.X4 []).length)) l=some (.lst zs):=by rw[x8 hlS,a9]
   refine⟨S,_,rfl,a9,_,rfl,l,zs,rfl,.inl (SqL.of l3),_,_,rfl,rfl,_,rfl,?_⟩
   have hfold:(ks.foldl Sett.X4 []).length=zs.length:=by
    have:=(Sett.av1 ks []).mpr ⟨(pk.nodup_iff).mpr hN,fun x _=>by simp⟩
    simp at this
    omega
   rw[hfold,decide_eq_false (by omega)]
   refine E8 ?_
   refine⟨_,rfl,_,rfl,l,zs,rfl,.inl ⟨SqL.of (by rw[hfold]at l3;exact l3),fun t ht=>⟨(by show 2<=d8;decide),fun p hp=>?_⟩⟩⟩
   rw[hfold]at s3
   have s4:=(s3.trans (c8 (o:=.tup zs) ht)).trans (c8 (o:=.tup [.int n,.ref t]) hp)
   refine q p t zs ks _ s4 ((s3.trans (c8 ht)).free hp) (s3.free ht) a9 ?_ ?_ pk hs1
   ·rw[x8 (y7 a9 hp),a9]
   ·exact p8.tups (((c8 hSn).trans (c8 ht)).trans (c8 hp)) ht1
end
def cm2 (st:Stmt):Pos:=match (V7 st).getD 1 (.Pass ⟨0,0,0,0⟩) with
 | .Return (some (.Call _ _ [⟨_,.Lambda _ _ _ p,_⟩] _)) _=>p
 | _=>⟨0,0,0,0⟩
def cq4:Str:=(("order_of":Str)++(".<locals>.":Str))++("<lambda>":Str)
abbrev Tb (P:Addr)(H:Hp):Prop:=an5 P (cm2 bb5) cq4 H
theorem K8.sqL {K:W.Frag}{P:Addr}(g:K8 P H H')(t:Tb P H)(h:SqL K H a xs):SqL K H' a xs:=by
 obtain⟨ps,hP,_⟩:=t
 rcases h with(h | ⟨o,h⟩) | h
 ·exact .inl (.inl (g a _ (fun z=>by rw[z,hP]at h;cases h) h))
 ·exact .inl (.inr ⟨o,g a _ (fun z=>by rw[z,hP]at h;cases h) h⟩)
 ·exact .inr h
theorem K8.sqT {K:W.Frag}{P:Addr}(g:K8 P H H')(t:Tb P H)(h:SqT K H a xs):SqT K H' a xs:=by
 obtain⟨ps,hP,_⟩:=t
 rcases h with(h | ⟨o,h⟩) | h
 ·exact .inl (.inl (g a _ (fun z=>by rw[z,hP]at h;cases h) h))
 ·exact .inl (.inr ⟨o,g a _ (fun z=>by rw[z,hP]at h;cases h) h⟩)
 ·exact .inr h
theorem Sq.grow {K:W.Frag}{P:Addr}(h:Sq K H a ns)(g:K8 P H H')(t:Tb P H):Sq K H' a ns:=h.elim (fun h=>.inl (K8.sqL g t h)) fun h=>.inr (K8.sqT g t h)
theorem aK7.one (h:X.N[j]?=some x/\(X.env.scope.names.lookup x=some .cell\/X.env.scope.names.lookup x=some .free)/\(cl.lookup x).isSome=true/\(scope.names.lookup x=some .cell\/scope.names.lookup x=some .free)) :
  aK7 X [x] [some j] scope cl:=⟨rfl,fun i j' y e1 e2=>by
 cases i with
 | zero =>
  have e1':x=y:=by simpa using e1
  have e2':j=j':=by simpa using e2
  subst e1' e2'
  exact h
 | succ i=>simp at e1⟩
theorem bc0 {a b:Expr}{tb:TE}(K:W.Frag)(hK:X.K=K)(ha:PE X a ta)(hb:PE X b tb)(hs:az9 b):PE X (.Subscript a b pos) (tOp (rIx K) ta tb):=by
 cases hK
 exact B9 bA7 ha hb hs
section
variable {K:W.Frag} {mg:Str->Option Value} {base:Heap}
def bQ5 (K:W.Frag)(CB PT:Addr):Sp:=fun vs H Q E=>∃ (a:Addr) (ns:List Int),vs=[.ref a]/\Sq K H a ns /\
 (R9 ns->Tb PT H/\∀ (zs:List Int) (D:Addr) (H':Hp),K8 PT H H'->Tb PT H'->H' D=some (.lst (zs.map V.int))->zs.Perm (rng ns.length)->zs.Pairwise (ole ns)->Q (.ref D) H')/\(¬ R9 ns->E (.ref CB) none H)
theorem ci6:p9 ["tally"] ["tally"] (m9 bb5):=.mk'
theorem bY6 {c PT:Addr} {tk:Tok} (F:Fun K "order_of" "order_of" bb5 f fd) (hc:fd.code=.ref c) (LB:aF5 base mg c PT) (B:Bn mg) (FT:Fq K mg "check_tally" aH4 fT fdT ["tally"])
  (mM:mg "MOST_PLACES"=some (.int 24 tk)) (mB:mg "BadTally"=some (.ref CB)) (cB:ag1 K CB):p0 P w K mg base (CXE P w) 2 f fd ["tally"] (bQ5 K CB PT):=by
 have GT:p0 P w K mg base (CXE P w) 1 fT fdT ["tally"] (bg5 K CB):=bc3 FT.F B mM mB cB
 refine F.okXC hc ci6 (fun A outer s H vs Q E hr h=>?_)
 obtain⟨a,ns,rfl,hS,h1,h2⟩:=h
 have hsl:=L1
 refine⟨_,c9 (R4 (A9 GT hr (by rfl) FT aj1 (a6 (pv 0) b7)))
  (j3 (r6 (bx9 (p := "place") (N' := ["tally"]) (lk := [some 0]) rfl hr.depth (by rfl) B.sorted (a6 (bJ4 (by rfl) B.range (a6 (n9 o9 (by rfl) B.len PySem.boot_len (a6 (pv 0) b7)) b7)) b7)
   LB rfl (by rfl) (by rfl) rfl rfl rfl (by exact⟨rfl,trivial⟩) (by rfl) (by exact aK7.one ⟨rfl,Or.inl rfl,rfl,Or.inr rfl⟩) rfl (fun _ _ _ _=>rfl)
   (fun _ _ _ _=>J7 (a6 (bx7 aZ8 (bc0 K rfl (pv 1) (pv 0) (fun _ _=>rfl))) (a6 (pv 0) b7)))))),?_⟩
 refine⟨_,rfl,a,ns,rfl,hS,fun ht=>?_,h2⟩
 obtain⟨tb,q⟩:=h1 ht
 refine⟨_,rfl,a,_,rfl,hS,(ns.map V.int).length,rfl,by rw[a5];have:=ht.2;omega,fun r hr0=>?_⟩
 have s0:=c8 (o:=.rng 0 ((ns.map V.int).length:Int)) hr0
 have tb1:Tb PT (upd H r (.rng 0 ((ns.map V.int).length:Int))):=tb.same s0
 refine⟨r,(ns.map V.int).length,bo4 ns,rfl,a9,by rw[a5];have:=ht.2;omega,bK2 ns,tb1,fun H2 g2 tb2=>⟨fun H3 z sm hz=>?_,fun H' D zs sm hD hp hs=>?_⟩⟩
 ·have hS3:Sq K H3 a ns:=((hS.same s0).grow g2 tb1).same sm
  rw[a5]at hz
  have hat:atI (ns.map V.int) (z:Int)=some (.int (ns.getD z 0)):=p6 (j:=z) (by simp[hz])
  have fin:∀ k,H3 k=none->(∃ k',(V.ref k:V)=.ref k'/\(upd H3 k (.tup [.int (-(ns.getD z 0)),.int z])) k'=some (.tup ((bo4 ns z).map V.int))/\p8 H3 (upd H3 k (.tup [.int (-(ns.getD z 0)),.int z]))):=fun k hk=>⟨k,rfl,a9,c8 hk⟩
  rcases hS3 with h3 | h3
  ·exact⟨_,rfl,_,rfl,.inl ⟨a,_,_,_,rfl,rfl,h3,hat,_,rfl,_,rfl,(by show 2<=d8;decide),fin⟩⟩
  ·exact⟨_,rfl,_,rfl,.inr (.inl ⟨a,_,_,_,rfl,rfl,h3,hat,_,rfl,_,rfl,(by show 2<=d8;decide),fin⟩)⟩
 ·have sD:=c8 (o:=.lst (zs.map V.int)) hD
  rw[a5]at hp
  exact q zs D _ (((s0.grow PT).trans g2).trans ((sm.trans sD).grow PT)) (tb2.same (sm.trans sD)) a9 hp hs
end
theorem ab9 (ns:List Int)(k:Nat):as1 (ns.map V.int) (some (k:Int)) none=(ns.drop k).map V.int:=by rw[av3,aF6]
theorem aj8 (ns:List Int)(k:Nat):as1 (ns.map V.int) none (some (k:Int))=(ns.take k).map V.int:=by rw[bk5,aF7]
theorem X3 {x:V}(h:(ns.map V.int)[i]?=some x):∃ z:Int,ns[i]?=some z/\x=V.int z:=by
 rw[o6]at h
 cases e:ns[i]? with
 | none=>rw[e]at h;cases h
 | some z=>rw[e]at h;cases h;exact⟨z,rfl,rfl⟩
theorem af9 (h:j<ns.length):atI (ns.map V.int) (j:Int)=some (.int (ns.getD j 0)):=p6 (j:=j) (by simp[h])
theorem aJ6 {K:W.Frag}{Q:VK}(h:Sq K H a ns)(hj:j<ns.length)(q:Q (.int (ns.getD j 0)) H):rIx K (.ref a) (.int j) H Q:=
 h.elim (fun h=>.inl ⟨a,_,_,_,rfl,rfl,h,af9 hj,q⟩) fun h=>.inr (.inl ⟨a,_,_,_,rfl,rfl,h,af9 hj,q⟩)
theorem aw3:ap6 (CXE P w) X E0:=fun _ _ _ _ _ _ _ h=>by
 obtain⟨_,_,_,_,_,_,_,_,_,_,_,hE⟩:=h
 exact hE.elim
theorem bi7 (z:Int):(PyData.int z).canLay0=true:=by simp[PyData.canLay0]
theorem bk1 (z:Int):(PyData.int z).depth<=8:=by simp[PyData.depth]
theorem bN4 {K:W.Frag}{Q:VK}{es:List Int}{z:Int}(hun:A.units+64<ao1)(hl:SqL K H l (es.map V.int))(q:Q (.bl (decide (z∈es))) H):bb7 K A false (.int z) (.ref l) H Q:=by
 refine⟨l,_,.int z,es.map .int,rfl,.inl hl,Dt.mkInt,C0.ints es,bi7 z,lay_ints es,aL6 hun (t9 (bk1 z) (by decide)),?_⟩
 rw[aE3,if_neg i6]
 exact q
theorem bc6 {K:W.Frag}{Q:VK}{es:List Int}{z:Int}(hun:A.units+64<ao1)(hl:SqL K H l (es.map V.int))(q:Q (.bl (!decide (z∈es))) H):bb7 K A true (.int z) (.ref l) H Q:=by
 refine⟨l,_,.int z,es.map .int,rfl,.inl hl,Dt.mkInt,C0.ints es,bi7 z,lay_ints es,aL6 hun (t9 (bk1 z) (by decide)),?_⟩
 rw[aE3,if_pos rfl]
 exact q
def W6 (ps zs:List Int):List Int:=zs.filter fun x=>!decide (x∈ps)
theorem bn7 (p:Int)(zs:List Int):W6 [p] zs=rest zs p:=by
 unfold W6 rest
 congr 1
 funext x
 by_cases h:x=p<;>simp[h]
theorem bq0 {PT:Addr}(g:K8 PT H H')(t:Tb PT H')(h:H' l=none):H l=none:=by
 cases e:H l with
 | none=>rfl
 | some o =>
  by_cases z:l=PT
  ·obtain⟨ps,hP,_⟩:=t
   rw[z,hP]at h
   cases h
  ·rw[g l o z e]at h
   cases h
section
variable {K:W.Frag} {mg:Str->Option Value} {base:Heap}
def ae8 (K:W.Frag)(PT:Addr):Sp:=fun vs H Q _=>∃ (a pa:Addr) (ns ps:List Int) (k:Nat),vs=[.ref a,.int k,.ref pa]/\Sq K H a ns/\R9 ns/\SqL K H pa (ps.map V.int)/\Tb PT H /\
 ∀ (zs:List Int) (D:Addr) (H':Hp),K8 PT H H'->Tb PT H'->H D=none->zs.Perm (rng ns.length)->zs.Pairwise (ole ns)->H' D=some (.lst (((W6 ps zs).take k).map V.int))->Q (.ref D) H'
theorem bI3:p9 ["tally","many","passed_over"] ["tally","many","passed_over"] (m9 ap0):=.mk'
theorem aU0 {fO c PT:Addr} {tk:Tok} (F:Fun K "first_of_order" "first_of_order" ap0 f fd) (B:Bn mg) (FO:Fq K mg "order_of" bb5 fO fdO ["tally"]) (hc:fdO.code=.ref c) (LB:aF5 base mg c PT)
  (FT:Fq K mg "check_tally" aH4 fT fdT ["tally"]) (mM:mg "MOST_PLACES"=some (.int 24 tk)) (mB:mg "BadTally"=some (.ref CB)) (cB:ag1 K CB):p0 P w K mg base (CXE P w) 3 f fd ["tally","many","passed_over"] (ae8 K PT):=by
 have GO:p0 P w K mg base (CXE P w) 2 fO fdO ["tally"] (bQ5 K CB PT):=bY6 FO.F hc LB B FT mM mB cB
 refine F.okX bI3 (fun cdv A outer s H vs Q E hr h=>?_)
 obtain⟨a,pa,ns,ps,k,rfl,hS,ht,hpa,tb,q⟩:=h
 have hsl:=L1
 have hun:=hr.units
 have t2:=ht.2
 have nd2:(["place","passed_over"]:List Str).Nodup:=by decide +kernel
 refine⟨_,j3 (r6 (N8 U0 (N4 (N':=["place","passed_over"]) (lk:=[none,some 2]) rfl (P3 (A9 GO hr (by rfl) FO (aw3 (P:=P) (w:=w)) (a6 (pv 0) b7))) (by rfl) rfl (by decide +kernel) (by exact⟨rfl,trivial⟩) (by rfl) (by exact LkL.ok ⟨⟨rfl,Or.inl rfl,rfl,Or.inl rfl⟩,trivial⟩)
  (fun _ _ _=>B2 (i:=0) nd2 rfl (Or.inl rfl)) (fun _ _ _=>al2 (p5 (bc1 K hr.around rfl rfl) (pv 0) (pv 1) (by rfl))) (fun _ _ _=>pv 0)) U2 (Q3 (pv 1)))),?_⟩
 refine⟨_,rfl,a,ns,rfl,hS,fun _=>⟨tb,fun zs D1 H1 g1 tb1 gD hp hs=>⟨D1,rfl,⟨_,SqL.of gD⟩,fun D hD=>?_⟩⟩,fun h=>absurd ht h⟩
 have hzl:zs.length=ns.length:=by rw[hp.length_eq,V5]
 have hpa1:=K8.sqL g1 tb hpa
 refine M3 (K:=K) (a:=D1) (D:=D) (ys:=zs.map V.int) (fun i xs σ' H'=>(∃ v,σ'=[v,some (.ref pa)])/\p8 H1 H'/\H' D=some (.lst xs)/\xs=(W6 ps (zs.take i)).map V.int) ⟨⟨none,rfl⟩,c8 hD,a9,rfl⟩ (by rw[a5];omega)
  (fun i xs σ' H' hi ⟨_, s6, h6, e6⟩ => ⟨SqL.of (s6 _ _ gD), h6, by
   rw[e6,a5]
   have:=M8 (fun x=>!decide (x∈ps)) (zs.take i)
   rw[k8]at this
   unfold W6
   omega⟩) ?_ ?_
 ·rintro i xs x σ' H' N kN hx ⟨⟨v,rfl⟩,s6,h6,rfl⟩
  obtain⟨z,hz,rfl⟩:=X3 hx
  refine A2 ?_
  refine⟨_,rfl,_,rfl,bc6 hun (s6.seq hpa1) ⟨_,rfl,?_⟩⟩
  have et:W6 ps (zs.take (i+1))=W6 ps (zs.take i)++W6 ps [z]:=by
   unfold W6
   rw[o7,hz,bF6,M7]
  by_cases hm:z∈ps
  ·rw[decide_eq_true hm]
   refine E8 ?_
   refine kN _ _ _ ⟨⟨_,rfl⟩,s6,h6,?_⟩
   have e0:W6 ps [z]=[]:=by unfold W6;rw[an1 (by rw[decide_eq_true hm];decide)];rfl
   rw[et,e0,G9]
  ·rw[decide_eq_false hm]
   refine E7 ?_
   refine⟨_,rfl,h6,kN _ _ _ ⟨⟨_,rfl⟩,s6.upd hD,a9,?_⟩⟩
   have e0:W6 ps [z]=[z]:=by unfold W6;rw[an0 (by rw[decide_eq_false hm];decide)];rfl
   rw[et,e0,g9]
   rfl
 ·rintro xs σ' H3 ⟨⟨v,rfl⟩,s6,h6,rfl⟩
  rw[k7 (by rw[a5];exact c6 _)]at h6
  refine⟨_,rfl,_,rfl,D,_,rfl,SqL.of h6,fun l hl=>?_⟩
  rw[aj8]
  have s7:=s6.trans (c8 (o:=.lst (((W6 ps zs).take k).map V.int)) hl)
  exact q zs l _ (g1.trans (s7.grow PT)) (tb1.same s7) (bq0 (g1.trans (s6.grow PT)) (tb1.same s6) hl) hp hs a9
def bu7 (K:W.Frag):Sp:=fun vs H Q _=>∃ (a ea:Addr) (ns es:List Int) (p:Nat),vs=[.ref a,.int p,.ref ea]/\Sq K H a ns/\ns.length<=24/\SqL K H ea (es.map V.int) /\
 ∀ (l:Addr) (H':Hp),p8 H H'->H l=none->H' l=some (.lst ((Q9 ns p es).map V.int))->Q (.ref l) H'
theorem bv7:p9 ["tally","place","ends","others"] ["tally","place","ends"] (m9 aS6):=.mk'
theorem bA5 {z:Int}(h:z∈M0 n p):∃ j:Nat,z=(j:Int)/\j<n:=by
 obtain⟨j,hj,rfl⟩:=k9.mp h
 exact⟨j,rfl,B1.mp (G7.mp hj).1⟩
theorem bp5 (ns es:List Int)(p:Nat):(M0 ns.length p).map (fun z=>Y5 ns es z.toNat)=Q9 ns p es:=by
 unfold M0 Q9
 rw[Z0]
 refine U9 fun j _=>?_
 show Y5 ns es (j:Int).toNat=_
 rw[j6]
set_option maxHeartbeats 1000000 in
theorem bL1 (F:Fun K "left_of_others" "left_of_others" aS6 f fd) (B:Bn mg):p0 P w K mg base CX0 1 f fd ["tally","place","ends"] (bu7 K):=by
 refine F.ok bv7 (fun cdv A outer s H vs Q E hr h=>?_)
 obtain⟨a,ea,ns,es,p,rfl,hS,hn,hea,q⟩:=h
 have hsl:=L1
 have hun:=hr.units
 have nd2:(["one","place"]:List Str).Nodup:=by decide +kernel
 have nd3:(["one","tally","ends"]:List Str).Nodup:=by decide +kernel
 refine⟨_,c9 (ay2 (i:=3) bv7.nd rfl rfl (by rfl) (N':=["one","place"]) (lk:=[none,some 1]) rfl (S5 rfl B.range (a6 (n9 o9 (by rfl) B.len PySem.boot_len (a6 (pv 0) b7)) b7)) (by rfl) rfl (by decide +kernel) (by exact⟨rfl,trivial⟩) (by rfl) (by exact LkL.ok ⟨⟨rfl,Or.inl rfl,rfl,Or.inl rfl⟩,trivial⟩)
    (fun _ _ _=>B2 (i:=0) nd2 rfl (Or.inl rfl)) (fun _ _ _=>al2 (p5 aw5 (pv 0) (pv 1) (y9 _))) (fun _ _ _=>pv 0))
  (j3 (r6 (N4 (N':=["one","tally","ends"]) (lk:=[none,some 0,some 2]) rfl (P3 (pv 3)) (by rfl) rfl (by decide +kernel) (by exact⟨rfl,rfl,trivial⟩) (by rfl) (by exact LkL.ok ⟨⟨rfl,Or.inl rfl,rfl,Or.inl rfl⟩,⟨rfl,Or.inl rfl,rfl,Or.inl rfl⟩,trivial⟩)
    (fun _ _ _=>B2 (i:=0) nd3 rfl (Or.inl rfl)) (fun _ _ _=>P2) (fun _ _ _=>aB8 (p5 (bh9 K hr.around rfl rfl) (pv 0) (pv 2) (by rfl)) (o8 ab7 (af0 K rfl (pv 1) (pv 0) (fun _ _=>rfl)) d6) (af0 K rfl (pv 1) (pv 0) (fun _ _=>rfl)))))),?_⟩
 refine⟨_,rfl,a,_,rfl,hS,(ns.length:Int),congrArg (fun z:Nat=>[V.int (z:Int)]) (a5 ..),by omega,by omega,fun D hD=>?_⟩
 rw[j6]
 refine ap5 (lo:=0) (n:=ns.length) (D:=D) (fun i xs σ' H'=>(∃ v,σ'=[v,some (.int p)])/\p8 H H'/\H' D=some (.lst xs)/\xs=(M0 i p).map V.int) ⟨⟨none,rfl⟩,c8 hD,a9,rfl⟩ (by omega)
  (fun i xs σ' H' hi ⟨_, s6, h6, e6⟩ => ⟨h6, by
   rw[e6,a5]
   unfold M0
   rw[a5]
   have:=M8 (fun j=>decide (j≠p)) (A5 i)
   rw[K4]at this
   exact this⟩) ?_ ?_
 ·rintro i xs σ' H' N kN hi ⟨⟨v,rfl⟩,s6,h6,rfl⟩
  have e0:((0:Int)+(i:Int))=(i:Int):=by omega
  rw[e0]
  refine A2 ?_
  refine⟨_,rfl,_,rfl,rfl,_,rfl,?_⟩
  have et:M0 (i+1) p=M0 i p++(if i=p then [] else [(i:Int)]):=by
   unfold M0
   rw[O6,M7,g9]
   congr 1
   by_cases h:i=p<;>simp[h]
  by_cases hm:i=p
  ·refine aV5 (by rw[hm]) ?_
   refine kN _ _ _ ⟨⟨_,rfl⟩,s6,h6,?_⟩
   rw[et,if_pos hm,G9]
  ·rw[decide_eq_false (show ¬ (V.int (i:Int)=V.int (p:Int)) from fun z=>hm (by injection z;omega))]
   refine E7 ?_
   refine⟨_,rfl,h6,kN _ _ _ ⟨⟨_,rfl⟩,s6.upd hD,a9,?_⟩⟩
   rw[et,if_neg hm,g9]
   rfl
 ·rintro xs σ' H3 ⟨⟨v,rfl⟩,s6,h6,rfl⟩
  have hkl:(M0 ns.length p).length<=24:=by
   unfold M0
   rw[a5]
   have:=M8 (fun j=>decide (j≠p)) (A5 ns.length)
   rw[K4]at this
   omega
  refine⟨_,rfl,D,rfl,⟨_,SqL.of h6⟩,fun D2 hD2=>?_⟩
  have hS3:=hS.same s6
  have hea3:=s6.seq hea
  refine M3 (K:=K) (a:=D) (D:=D2) (ys:=(M0 ns.length p).map V.int) (fun i xs σ' H'=>(∃ v,σ'=[v,some (.ref a),some (.ref ea)])/\p8 H3 H'/\H' D2=some (.lst xs)/\xs=(((M0 ns.length p).take i).map fun z=>Y5 ns es z.toNat).map V.int) ⟨⟨none,rfl⟩,c8 hD2,a9,rfl⟩ (by rw[a5];omega)
   (fun i xs σ' H' hi ⟨_,s8,h8,e8⟩=>⟨SqL.of (s8 _ _ h6),h8,by rw[e8,a5,a5,k8];omega⟩) ?_ ?_
  ·rintro i xs x σ' H' N kN hx ⟨⟨v,rfl⟩,s8,h8,rfl⟩
   obtain⟨z,hz,rfl⟩:=X3 hx
   obtain⟨j,rfl,hj⟩:=bA5 (b9 hz)
   refine A2 (K5 ?_)
   have fin:∀ y:Int,y=Y5 ns es j->(H' D2=some (.lst ((((M0 ns.length p).take i).map fun z=>Y5 ns es z.toNat).map V.int))/\N ((((M0 ns.length p).take i).map fun z=>Y5 ns es z.toNat).map V.int++[.int y]) [some (.int j),some (.ref a),some (.ref ea)] (upd H' D2 (.lst ((((M0 ns.length p).take i).map fun z=>Y5 ns es z.toNat).map V.int++[.int y])))):=fun y ey=>by
    refine⟨h8,kN _ _ _ ⟨⟨_,rfl⟩,s8.upd hD2,a9,?_⟩⟩
    rw[o7,hz,g9,g9,ey]
    rfl
   refine⟨_,rfl,_,rfl,bN4 hun (s8.seq hea3) ⟨_,rfl,?_⟩⟩
   by_cases hm:(j:Int)∈es
   ·rw[decide_eq_true hm]
    refine E7 ⟨_,rfl,_,rfl,aJ6 (hS3.same s8) hj ⟨_,_,rfl,rfl,fin _ ?_⟩⟩
    unfold Y5
    rw[if_pos hm]
   ·rw[decide_eq_false hm]
    refine E8 ⟨_,rfl,_,rfl,aJ6 (hS3.same s8) hj (fin _ ?_)⟩
    unfold Y5
    rw[if_neg hm]
  ·rintro xs σ' H4 ⟨⟨v,rfl⟩,s8,h8,rfl⟩
   rw[k7 (by rw[a5];exact c6 _),bp5]at h8
   exact q D2 H4 (s6.trans s8) (s6.free hD2) h8
end
theorem aR7 (ns:List Int)(j:Nat)(v:Int):(ns.map V.int).set j (.int v)=(ns.set j v).map V.int:=by rw[R1]
theorem rep0 (n:Nat):(C5 n [V.int 0]).flatten=(tal n []).map V.int:=by
 rw[bH4,List.map_replicate]
 induction n with
 | zero=>rfl
 | succ n ih=>rw[K9,O4,ih,K9];rfl
theorem bi4 (c:Int)(h:0<n):∃ j:Nat,c % (n:Int)=(j:Int)/\j<n:=by
 have h1:=F2 c (show (n:Int)≠0 by omega)
 have h2:=C9 c (show (0:Int)<(n:Int) by omega)
 exact⟨(c % (n:Int)).toNat,by omega,by omega⟩
section
variable {K:W.Frag} {mg:Str->Option Value} {base:Heap}
end
section
variable {K:W.Frag} {mg:Str->Option Value} {base:Heap}
def bv1 (K:W.Frag):Sp:=fun vs H Q _=>∃ (a:Addr) (ns:List Int),vs=[.ref a]/\Sq K H a ns/\ns.length<64/\∀ (l:Addr) (H':Hp),p8 H H'->H l=none->H' l=some (.lst ((up2 ns).reverse.map V.int))->Q (.ref l) H'
theorem bW8:p9 ["tally"] ["tally"] (m9 aI9):=.mk'
theorem bL4 (F:Fun K "falling" "falling" aI9 f fd)(B:Bn mg):p0 P w K mg base CX0 1 f fd ["tally"] (bv1 K):=by
 refine F.ok bW8 (fun cdv A outer s H vs Q E hr h=>?_)
 obtain⟨a,ns,rfl,hS,h64,q⟩:=h
 refine⟨_,j3 (r6 (bx8 K rfl (by rfl) B.sorted (a6 (pv 0) b7))),?_⟩
 refine⟨_,rfl,a,ns,rfl,hS,h64,fun l zs hl hp hs=>?_⟩
 rw[bj6 hp hs]
 exact q l _ (c8 hl) hl a9
def bg7 (K:W.Frag):Sp:=fun vs H Q _=>∃ (a:Addr) (ns:List Int) (M r:Nat),vs=[.ref a,.int M,.int r]/\SqL K H a ((up2 ns).reverse.map V.int)/\M<=1000000/\r<=100/\ns.length<64/\∀ (H':Hp),p8 H H'->Q (.int (an3 ns M r)) H'
theorem bg9:p9 ["numbers","most","r","from_others"] ["numbers","most","r"] (m9 au3):=.mk'
theorem by9 (F:Fun K "room_among" "room_among" au3 f fd) (B:Bn mg):p0 P w K mg base CX0 1 f fd ["numbers","most","r"] (bg7 K):=by
 refine F.ok bg9 (fun cdv A outer s H vs Q E hr h=>?_)
 obtain⟨a,ns,M,r,rfl,hS,hM,hr1,h64,q⟩:=h
 have hsl:=L1
 have nd2:(["number","most","r"]:List Str).Nodup:=by decide +kernel
 have hlen:(up2 ns).reverse.length=ns.length:=by rw[ax7,aq4]
 generalize hz:(up2 ns).reverse=zs at hS hlen
 refine⟨_,c9 (v8 (i:=3) bg9.nd rfl (Or.inl rfl) (n9 (ad2 rfl) (by rfl) B.sum (by rfl) (a6
   (N4 (N' := ["number", "most", "r"]) (lk := [none, some 1, some 2]) rfl (P3 (N8 U0 (pv 0) (Q3 (pv 2)) U2)) (by rfl) rfl (by decide +kernel) (by exact ⟨rfl, rfl, trivial⟩) (by rfl) (by exact LkL.ok ⟨⟨rfl, Or.inl rfl, rfl, Or.inl rfl⟩, ⟨rfl, Or.inl rfl, rfl, Or.inl rfl⟩, trivial⟩)
    (fun _ _ _=>B2 (i:=0) nd2 rfl (Or.inl rfl)) (fun _ _ _=>P2) (fun _ _ _=>n9 (ad3 rfl) (by rfl) B.min (by rfl) (a6 (pv 0) (a6 (o8 af3 (pv 1) (pv 2)) b7)))) b7)))
  (j3 (r6 (o8 ab7 (o8 L8 (o8 af3 (o8 af3 (pv 1) (pv 2)) (o8 ab7 (pv 2) d6)) (pv 3)) (n9 (ad2 rfl) (by rfl) B.sum (by rfl) (a6 (N8 U0 (pv 0) U2 (Q3 (pv 2))) b7))))),?_⟩
 refine⟨_,rfl,_,rfl,_,rfl,a,_,rfl,hS,fun c hc=>?_⟩
 rw[ab9]
 have s1:=c8 (o:=.lst ((zs.drop r).map V.int)) hc
 refine⟨c,rfl,⟨_,SqL.of a9⟩,fun D hD=>M3 (K:=K) (a:=c) (D:=D) (ys:=(zs.drop r).map V.int) (fun i xs σ' H'=>∃ v,σ'=[v,some (.int M),some (.int r)]/\p8 H H'/\H' c=some (.lst ((zs.drop r).map V.int))/\xs=(((zs.drop r).take i).map (mn ((M:Int)*(r:Int)))).map V.int/\H' D=some (.lst xs))
   ⟨none,rfl,s1.trans (c8 hD),c8 hD _ _ a9,by simp,a9⟩ (by rw[a5,A1];omega) (fun i xs σ' H' hi ⟨_,_,s3,g3,e3,h3⟩=>⟨SqL.of g3,h3,by rw[e3,a5,a5,k8,A1];omega⟩) ?_ ?_⟩
 ·rintro i xs x σ' H' N kN hx ⟨v,rfl,s3,g3,rfl,h3⟩
  obtain⟨z,hz',rfl⟩:=X3 hx
  refine A2 (K5 ?_)
  refine⟨_,rfl,_,rfl,_,rfl,_,_,rfl,rfl,.inl ⟨by omega,by omega⟩,_,_,rfl,?_⟩
  refine⟨h3,kN _ _ _ ⟨_,rfl,s3.upd (s1.free hD),?_,?_,a9⟩⟩
  ·rw[x8 (y7 a9 hD)];exact g3
  ·rw[o7,hz',g9,g9];rfl
 ·rintro xs σ' H3 ⟨v,rfl,s3,g3,rfl,h3⟩
  rw[k7 (by rw[a5];exact c6 _)]at h3
  refine⟨D,_,rfl,SqL.of h3,?_⟩
  refine⟨_,rfl,_,rfl,_,_,rfl,rfl,.inl ⟨by omega,by omega⟩,_,rfl,_,_,rfl,rfl,_,_,rfl,rfl,.inr ⟨by omega,by omega⟩,_,rfl,_,_,rfl,rfl,?_⟩
  refine⟨_,rfl,_,rfl,_,rfl,a,_,rfl,s3.seq hS,fun c2 hc2=>?_⟩
  rw[aj8]
  refine⟨c2,_,rfl,SqL.of a9,_,_,rfl,rfl,?_⟩
  have fin:=q _ (s3.trans (c8 (o:=.lst ((zs.take r).map V.int)) hc2))
  rw[<- aT1 (M:=M) (r:=r) hz.symm]at fin
  exact fin
end
def wlT:Wl->List V
 | .below p=>[.str "below",.int p]
 | .odd=>[.str "odd"]
 | .wall r=>[.str "wall",.int r]
 | .free=>[]
def cn6 (H:Hp)(v:V)(x:Wl):Prop:=(x=.free/\v=.non)\/(x≠.free/\∃ a,v=.ref a/\H a=some (.tup (wlT x)))
theorem bN2 {a b:Int}(h:decide (V.int a=V.int b)=true):a=b:=by
 have:=of_decide_eq_true h
 injection this
theorem bA8 {a b:Int}(h:¬ decide (V.int a=V.int b)=true):¬ a=b:=fun e=>h (by rw[e];exact decide_eq_true rfl)
section
variable {K:W.Frag} {mg:Str->Option Value} {base:Heap}
def bg6 (K:W.Frag):Sp:=fun vs H Q _=>∃ (a:Addr) (ns:List Int),vs=[.ref a]/\Sq K H a ns/\ns.length<=100/\∀ (l:Addr) (H':Hp),p8 H H'->H l=none->H' l=some (.lst ((cn5 ns).map V.int))->Q (.ref l) H'
theorem bI4:p9 ["numbers"] ["numbers"] (m9 au2):=.mk'
theorem by8 (F:Fun K "places_below" "places_below" au2 f fd)(B:Bn mg):p0 P w K mg base CX0 1 f fd ["numbers"] (bg6 K):=by
 refine F.ok bI4 (fun cdv A outer s H vs Q E hr h=>?_)
 obtain⟨a,ns,rfl,hS,hn,q⟩:=h
 have hsl:=L1
 have nd2:(["place","number"]:List Str).Nodup:=by decide +kernel
 refine⟨_,j3 (r6 (N4 (N':=["place","number"]) (lk:=[none,none]) rfl (ck1 (bJ3 (by rfl) B.enum (a6 (pv 0) b7)) (bx5 (by rfl) B.enum (a6 (pv 0) b7))) (by rfl) rfl (by decide +kernel) (by exact trivial) (by rfl) (by exact LkL.ok trivial)
    (fun _ _ _=>bh5 (n:=2) K rfl rfl (ac7 (B2 (i:=0) nd2 rfl (Or.inl rfl)) (ac7 (B2 (i:=1) nd2 rfl (Or.inl rfl)) aN1))) (fun _ _ _=>al2 (p5 ag6 (pv 1) d6 (y9 _))) (fun _ _ _=>pv 0))),?_⟩
 refine Or.imp (fun h=>⟨_,rfl,h⟩) (fun h=>⟨_,rfl,h⟩) (be2 (K:=K) (a:=a) (ys:=ns.map V.int) hS (by rw[a5];omega)
  (fun D i xs σ' H'=>(∃ v u,σ'=[v,u])/\p8 H H'/\H' D=some (.lst xs)/\xs=((av5 ns i).map Int.ofNat).map V.int) (fun D hD=>⟨⟨none,none,rfl⟩,c8 hD,a9,rfl⟩)
  (fun D i xs σ' H' hD hi ⟨_,s1,h1,e1⟩=>⟨s1,h1,by rw[e1,a5,a5];exact bD2 ns i⟩) ?_ ?_)
 ·rintro D i xs x t σ' H' N hD kN hx ⟨⟨v,u,rfl⟩,s1,h1,rfl⟩ ht
  obtain⟨z,hz,rfl⟩:=X3 hx
  have s2:=c8 (o:=.tup [.int i,.int z]) ht
  refine⟨t,_,rfl,SqT.of a9,rfl,_,_,rfl,_,_,rfl,rfl,?_⟩
  refine⟨_,rfl,_,_,rfl,rfl,_,rfl,?_⟩
  have e3:=br1 ns i
  rw[as3 hz]at e3
  by_cases hb:z<0
  ·rw[decide_eq_true hb]
   refine E7 ⟨_,rfl,s2 _ _ h1,kN _ _ _ ⟨⟨_,_,rfl⟩,(s1.trans s2).upd hD,a9,?_⟩⟩
   rw[e3,if_pos hb,g9,g9]
   rfl
  ·rw[decide_eq_false hb]
   refine E8 (kN _ _ _ ⟨⟨_,_,rfl⟩,s1.trans s2,s2 _ _ h1,?_⟩)
   rw[e3,if_neg hb,G9]
 ·rintro D xs σ' H' hD ⟨⟨v,u,rfl⟩,s1,h1,rfl⟩
  rw[a5]at h1
  exact q D H' s1 hD h1
def bg4 (K:W.Frag)(CB:Addr):Sp:=fun vs H Q E=>∃ (a:Addr) (ns:List Int) (M:Nat),vs=[.ref a,.int M]/\Sq K H a ns/\M<=1000000/\(R9 ns->∀ (v:V) (x:Wl) (H':Hp),p8 H H'->bS5 ns M x->cn6 H' v x->Q v H')/\(¬ R9 ns->E (.ref CB) none H)
theorem ay1:p9 ["tally","most","below","numbers","r"] ["tally","most"] (m9 aA9):=.mk'
set_option maxHeartbeats 1000000 in
theorem by6 {fF fA fβ:Addr} {fdβ:FuncData} {tk:Tok} (F:Fun K "wall_with" "wall_with" aA9 f fd) (B:Bn mg) (FT:Fq K mg "check_tally" aH4 fT fdT ["tally"])
  (FF:Fq K mg "falling" aI9 fF fdF ["tally"]) (FA:Fq K mg "room_among" au3 fA fdA ["numbers","most","r"])
  (Fβ:Fq K mg "places_below" au2 fβ fdβ ["numbers"])
  (mM:mg "MOST_PLACES"=some (.int 24 tk)) (mB:mg "BadTally"=some (.ref CB)) (cB:ag1 K CB):p0 P w K mg base (CXE P w) 2 f fd ["tally","most"] (bg4 K CB):=by
 have GT:p0 P w K mg base (CXE P w) 1 fT fdT ["tally"] (bg5 K CB):=bc3 FT.F B mM mB cB
 have GF:p0 P w K mg base CX0 1 fF fdF ["tally"] (bv1 K):=bL4 FF.F B
 have GA:p0 P w K mg base CX0 1 fA fdA ["numbers","most","r"] (bg7 K):=by9 FA.F B
 have GL:p0 P w K mg base CX0 1 fβ fdβ ["numbers"] (bg6 K):=by8 Fβ.F B
 refine F.okX ay1 (fun cdv A outer s H vs Q E hr h=>?_)
 obtain⟨a,ns,M,rfl,hS,hM,h1,h2⟩:=h
 have hsl:=L1
 refine⟨_,c9 (R4 (A9 GT hr (by rfl) FT aj1 (a6 (pv 0) b7)))
   (c9 (v8 (i:=2) ay1.nd rfl (Or.inl rfl) (A9 GL hr (by rfl) Fβ D0 (a6 (pv 0) b7)))
   (c9 (D6 (aT3 (pv 2) (fun _=>rfl)) (j3 (r6 (J7 (a6 C8 (a6 (B9 C3 (pv 2) d6 (fun _ _=>rfl)) b7))))) x9)
   (c9 (D6 (p5 Q8 (o8 G0 (n9 (bq7 rfl) (by rfl) B.sum (by rfl) (a6 (pv 0) b7)) d6) d6 (y9 _)) (j3 (r6 (J7 (a6 C8 b7)))) x9)
   (c9 (v8 (i:=3) ay1.nd rfl (Or.inl rfl) (A9 GF hr (by rfl) FF D0 (a6 (pv 0) b7)))
   (c9 (W2 bx2 rfl (au6 rfl B.range (a6 d6 (a6 (o8 L8 (n9 o9 (by rfl) B.len PySem.boot_len (a6 (pv 3) b7)) d6) b7))) (B2 (i := 4) ay1.nd rfl (Or.inl rfl))
    (j3 (D6 (p5 ag6 (A9 GA hr (by rfl) FA D0 (a6 (pv 3) (a6 (pv 1) (a6 (pv 4) b7)))) d6 (y9 _)) (j3 (r6 (J7 (a6 C8 (a6 (pv 4) b7))))) x9)))
   (j3 (r6 P8))))))),?_⟩
 refine⟨_,rfl,a,ns,rfl,hS,fun ht=>?_,h2⟩
 have t2:=ht.2
 refine⟨_,rfl,a,ns,rfl,hS,by omega,fun bl H1 s1 hbl g1=>?_⟩
 refine⟨_,rfl,_,.inl ⟨_,SqL.of g1,rfl⟩,?_⟩
 unfold cn5 at g1 ⊢
 cases hb:av5 ns ns.length with
 | cons p ps =>
  rw[hb]at g1
  refine E7 ⟨_,rfl,bl,_,_,_,rfl,rfl,SqL.of g1,p6 (j:=0) rfl,(by show 2<=d8;decide),fun q hq=>?_⟩
  exact h1 ht _ (.below p) _ (s1.trans (c8 hq)) (bD1 hb) (.inr ⟨by simp,q,rfl,a9⟩)
 | nil =>
  have hall:AllP ns:=bO2 hb
  refine E8 ?_
  refine⟨_,rfl,a,ns,rfl,hS.same s1,_,_,rfl,rfl,(by show (0:Int)<2;decide),rfl,_,rfl,?_⟩
  refine ah4 (fun h=>?_) (fun h=>?_)
  ·exact⟨(by show 1<=d8;decide),fun p hp=>h1 ht _ .odd _ (s1.trans (c8 hp)) ⟨hall,bN2 h⟩ (.inr ⟨by simp,p,rfl,a9⟩)⟩
  ·have hev:=bA8 h
   refine⟨_,rfl,a,ns,rfl,hS.same s1,by omega,fun l H2 s2 hl g2=>?_⟩
   refine⟨_,rfl,l,_,rfl,.inl (SqL.of g2),_,_,rfl,rfl,1,((ns.length:Int)+1),by rw[a5,ax7,aq4],⟨by omega,by omega,by omega,by omega⟩,?_⟩
   rw[show ((ns.length:Int)+1 - 1).toNat=ns.length by omega]
   refine S6 (lo:=1) (n:=ns.length) (fun i σ H3=>∃ e4,σ=[some (.ref a),some (.int M),some (.ref bl),some (.ref l),e4]/\p8 H2 H3/\∀ k,1<=k->k<i+1->0<=an3 ns M k) ⟨none,rfl,p8.refl H2,fun k k1 k2=>by omega⟩ ?_ ?_
   ·rintro i σ H3 hi ⟨e4,rfl,s3,hrm⟩
    have e0:((1:Int)+(i:Int))=((i+1:Nat):Int):=by omega
    rw[e0]
    refine A2 ?_
    refine⟨_,rfl,_,rfl,_,rfl,l,ns,M,i+1,rfl,SqL.of (s3 _ _ g2),hM,by omega,by omega,fun H4 s4=>⟨_,_,rfl,rfl,_,rfl,?_⟩⟩
    refine ah4 (fun h=>?_) (fun h=>?_)
    ·refine⟨_,rfl,(by show 2<=d8;decide),fun p hp=>?_⟩
     exact h1 ht _ (.wall (i+1)) _ ((((s1.trans s2).trans s3).trans s4).trans (c8 hp)) ⟨hall,hev,by omega,by omega,of_decide_eq_true h,hrm⟩ (.inr ⟨by simp,p,rfl,a9⟩)
    ·have h':¬ an3 ns M (i+1)<0:=fun q=>h (decide_eq_true q)
     refine⟨_,rfl,s3.trans s4,fun k k1 k2=>?_⟩
     rcases D8 k (i+1) with l1 | l1
     ·exact hrm k k1 l1
     ·rw[show k=i+1 by omega];omega
   ·rintro σ H3 ⟨e4,rfl,s3,hrm⟩
    exact h1 ht _ .free _ ((s1.trans s2).trans s3) ⟨hall,hev,fun k k1 k2=>hrm k k1 (by omega)⟩ (.inl ⟨rfl,rfl⟩)
def aL9 (K:W.Frag)(CB:Addr):Sp:=fun vs H Q E=>∃ (a:Addr) (ns:List Int),vs=[.ref a]/\Sq K H a ns/\(R9 ns->∀ (v:V) (x:Wl) (H':Hp),p8 H H'->O2 ns x->cn6 H' v x->Q v H')/\(¬ R9 ns->E (.ref CB) none H)
theorem bW4:p9 ["tally"] ["tally"] (m9 aI6):=.mk'
theorem bK5 {fω fF fA fβ:Addr}{fdω fdβ:FuncData}{tk:Tok}(F:Fun K "wall_of" "wall_of" aI6 f fd)(B:Bn mg)(FT:Fq K mg "check_tally" aH4 fT fdT ["tally"])
  (FF:Fq K mg "falling" aI9 fF fdF ["tally"])(FA:Fq K mg "room_among" au3 fA fdA ["numbers","most","r"])
  (Fβ:Fq K mg "places_below" au2 fβ fdβ ["numbers"])(Fω:Fq K mg "wall_with" aA9 fω fdω ["tally","most"])
  (mM:mg "MOST_PLACES"=some (.int 24 tk))(mB:mg "BadTally"=some (.ref CB))(cB:ag1 K CB):p0 P w K mg base (CXE P w) 3 f fd ["tally"] (aL9 K CB):=by
 have GW:p0 P w K mg base (CXE P w) 2 fω fdω ["tally","most"] (bg4 K CB):=by6 Fω.F B FT FF FA Fβ mM mB cB
 refine F.okX bW4 (fun cdv A outer s H vs Q E hr h=>?_)
 obtain⟨a,ns,rfl,hS,h1,h2⟩:=h
 refine⟨_,j3 (r6 (A9 GW hr (by rfl) Fω aj1 (a6 (pv 0) (a6 d6 b7)))),?_⟩
 exact⟨_,rfl,a,ns,1,rfl,hS,by decide,fun ht v x H' s' hx hv=>h1 ht v x H' s' (bG6 hx) hv,h2⟩
end
theorem Y6 {PT:Addr}(g:K8 PT H H')(t:Tb PT H)(h:H l=some (.lst xs)):H' l=some (.lst xs):=by
 obtain⟨ps,hP,_⟩:=t
 exact g l _ (fun z=>by rw[z,hP]at h;cases h) h
theorem av0 {K:W.Frag}{PT:Addr}(g:K8 PT H H')(t:Tb PT H):∀ {zs:List V} {ks:List (List Int)},C1 K H zs ks->C1 K H' zs ks
 | _,_,.nil=>.nil
 | _,_,.cons ⟨a,e,h⟩ r=>.cons ⟨a,e,K8.sqT g t h⟩ (av0 g t r)
section
variable {K:W.Frag} {mg:Str->Option Value} {base:Heap}
noncomputable def aW5 (ns:List Int)(p:Nat)(es:List Int):List (List Int):=star p es++bA0 (ns.length - 1) (Q9 ns p es) (M0 ns.length p)
def aM0 (K:W.Frag)(PT:Addr):Sp:=fun vs H Q _=>∃ (a ea:Addr) (ns es:List Int) (p:Nat),vs=[.ref a,.int p,.ref ea]/\Sq K H a ns/\R9 ns/\p<ns.length/\SqL K H ea (es.map V.int)/\es.Nodup/\es.length<=24/\(∀ z∈es,0<=z/\z<ns.length/\z≠p)/\(es.length:Int)=ns.getD p 0/\Gr (Q9 ns p es)/\Tb PT H /\
 ∀ (r t:Addr) (zs:List V) (ks:List (List Int)) (H':Hp),K8 PT H H'->Tb PT H'->H' r=some (.tup [.int ns.length,.ref t])->H' t=some (.tup zs)->C1 K H' zs ks->ks.Perm ((aW5 ns p es).map up)->ks.Pairwise (fun a b=>Tim.L9 b a=false)->tal ns.length ks=ns->(∀ k∈ks,Up ns.length k)->ks.Nodup->Q (.ref r) H'
theorem ai4:p9 ["tally","place","ends","ties","places","left","chosen"] ["tally","place","ends"] (m9 aI7):=.mk'
set_option maxHeartbeats 2000000 in
theorem bL3 {fI fU fV fO fF fL c PT:Addr} {fdU fdV fdL:FuncData} {tk:Tok} (F:Fun K "laid_around" "laid_around" aI7 f fd) (B:Bn mg) (FI:Fq K mg "is_place" aH3 fI fdI ["places","number"])
    (FU:Fq K mg "turned_up" sUp fU fdU ["places","tie"]) (FV:Fq K mg "made" aS5 fV fdV ["places","ties"])
    (FO:Fq K mg "order_of" bb5 fO fdO ["tally"]) (hc:fdO.code=.ref c) (LB:aF5 base mg c PT)
    (FT:Fq K mg "check_tally" aH4 fT fdT ["tally"]) (FF:Fq K mg "first_of_order" ap0 fF fdF ["tally","many","passed_over"])
    (FL:Fq K mg "left_of_others" aS6 fL fdL ["tally","place","ends"])
    (mM:mg "MOST_PLACES"=some (.int 24 tk)) (mB:mg "BadTally"=some (.ref CB)) (cB:ag1 K CB):p0 P w K mg base CX0 4 f fd ["tally","place","ends"] (aM0 K PT):=by
  have GF:p0 P w K mg base (CXE P w) 3 fF fdF ["tally","many","passed_over"] (ae8 K PT):=aU0 FF.F B FO hc LB FT mM mB cB
  have GL:p0 P w K mg base CX0 3 fL fdL ["tally","place","ends"] (bu7 K):=(bL1 FL.F B).mono (by decide)
  have GV:p0 P w K mg base CX0 3 fV fdV ["places","ties"] (bu6 K):=bK8 FV.F B FI FU mM
  refine F.ok ai4 (fun cdv A outer s H vs Q E hr h=>?_)
  obtain⟨a,ea,ns,es,p,rfl,hS,ht,hp,hea,ne,hel,he,hn,hg,tb,q⟩:=h
  have hsl:=L1
  have t2:=ht.2
  have nd1:(["end","place"]:List Str).Nodup:=by decide +kernel
  have nd2:(["one","place"]:List Str).Nodup:=by decide +kernel
  have nd3:(["one","places"]:List Str).Nodup:=by decide +kernel
  refine⟨_,c9 (ay2 (i:=3) ai4.nd rfl rfl (by rfl) (N':=["end","place"]) (lk:=[none,some 1]) rfl (P3 (pv 2)) (by rfl) rfl (by decide +kernel) (by exact⟨rfl,trivial⟩) (by rfl) (by exact LkL.ok ⟨⟨rfl,Or.inl rfl,rfl,Or.inl rfl⟩,trivial⟩)
        (fun _ _ _=>B2 (i:=0) nd1 rfl (Or.inl rfl)) (fun _ _ _=>P2) (fun _ _ _=>J7 (a6 (pv 1) (a6 (pv 0) b7))))
    (c9 (v8 (i:=4) ai4.nd rfl (Or.inr rfl) (N4 (N':=["one","place"]) (lk:=[none,some 1]) rfl (S5 rfl B.range (a6 (n9 o9 (by rfl) B.len PySem.boot_len (a6 (pv 0) b7)) b7)) (by rfl) rfl (by decide +kernel) (by exact⟨rfl,trivial⟩) (by rfl) (by exact LkL.ok ⟨⟨rfl,Or.inl rfl,rfl,Or.inl rfl⟩,trivial⟩)
        (fun _ _ _=>B2 (i:=0) nd2 rfl (Or.inl rfl)) (fun _ _ _=>al2 (p5 aw5 (pv 0) (pv 1) (y9 _))) (fun _ _ _=>pv 0)))
    (c9 (v8 (i:=5) ai4.nd rfl (Or.inl rfl) (A9 GL hr (by rfl) FL D0 (a6 (pv 0) (a6 (pv 1) (a6 (pv 2) b7)))))
    (c9 (aT4 PassesOwn.never (aT3 (pv 5) (fun _=>rfl))
      (c9 (v8 (i:=6) ai4.nd rfl (Or.inl rfl) (A9 GF hr (by rfl) FF (aw3 (P:=P) (w:=w)) (a6 (pv 5) (a6 (B9 C3 (pv 5) d6 (fun _ _=>rfl)) (a6 (P0 (a6 d6 b7)) b7)))))
      (c9 (bX5 (i:=3) ai4.nd rfl (Or.inl rfl) (N4 (N':=["one","places"]) (lk:=[none,some 4]) rfl (P3 (pv 6)) (by rfl) rfl (by decide +kernel) (by exact⟨rfl,trivial⟩) (by rfl) (by exact LkL.ok ⟨⟨rfl,Or.inl rfl,rfl,Or.inl rfl⟩,trivial⟩)
          (fun _ _ _=>B2 (i:=0) nd3 rfl (Or.inl rfl)) (fun _ _ _=>P2) (fun _ _ _=>J7 (a6 (af0 K rfl (pv 1) d6 (fun _ _=>rfl)) (a6 (af0 K rfl (pv 1) (pv 0) (fun _ _=>rfl)) b7)))) cb7)
      (c9 (v8 (i:=5) ai4.nd rfl (Or.inl rfl) (A9 GL hr (by rfl) FL D0 (a6 (pv 5) (a6 d6 (a6 (pv 6) b7)))))
      (j3 (v8 (i:=4) ai4.nd rfl (Or.inr rfl) (N8 U0 (pv 4) (Q3 d6) U2)))))))
    (j3 (r6 (A9 GV hr (by rfl) FV D0 (a6 (n9 o9 (by rfl) B.len PySem.boot_len (a6 (pv 0) b7)) (a6 (pv 3) b7)))))))),?_⟩
  have hun:=hr.units
  refine⟨_,rfl,ea,rfl,⟨_,hea⟩,fun D hD=>M3 (K:=K) (a:=ea) (D:=D) (ys:=es.map V.int) (fun i xs σ' H'=>(∃ v,σ'=[v,some (.int p)])/\p8 H H'/\H' D=some (.lst xs)/\C1 K H' xs (star p (es.take i)))
    ⟨⟨none, rfl⟩, c8 hD, a9, .nil⟩ (by rw [a5]; omega) (fun i xs σ' H' hi ⟨_, s6, h6, t6⟩ => ⟨s6.seq hea, h6, by
      have h7:=t6.len
      unfold star at h7
      rw[a5,k8]at h7
      omega⟩) ?_ ?_⟩
  · rintro i xs x σ' H' N kN hx ⟨⟨v,rfl⟩,s6,h6,t6⟩
    obtain⟨z,hz,rfl⟩:=X3 hx
    refine A2 (K5 ?_)
    refine⟨_,rfl,_,rfl,(by show 2<=d8;decide),fun t ft=>?_⟩
    have st:=c8 (o:=.tup [.int (p:Int),.int z]) ft
    have h6':=st _ _ h6
    refine⟨h6',kN _ _ _ ⟨⟨_,rfl⟩,(s6.trans st).upd hD,a9,?_⟩⟩
    have et:star p (es.take (i+1))=star p (es.take i)++[[(p:Int),z]]:=by
      unfold star
      rw[o7,hz,g9]
      rfl
    rw[et]
    refine C1.updL h6' (C1.append (st.tups t6) (C1.one (SqT.of ?_)))
    exact a9
  · rintro xs σ' H1 ⟨⟨v,rfl⟩,s1,h1,t1⟩
    rw[k7 (by rw[a5];exact c6 _)]at t1
    have hS1:=hS.same s1
    refine⟨_,rfl,a,_,rfl,hS1,(ns.length:Int),congrArg (fun z:Nat=>[V.int (z:Int)]) (a5 ..),by omega,by omega,fun D2 hD2=>?_⟩
    rw[j6]
    refine ap5 (lo:=0) (n:=ns.length) (D:=D2) (fun i xs σ' H'=>(∃ v,σ'=[v,some (.int p)])/\p8 H1 H'/\H' D2=some (.lst xs)/\xs=(M0 i p).map V.int) ⟨⟨none,rfl⟩,c8 hD2,a9,rfl⟩ (by omega)
      (fun i xs σ' H' hi ⟨_,s6,h6,e6⟩=>⟨h6,by
        rw[e6,a5]
        unfold M0
        rw[a5]
        have:=M8 (fun j=>decide (j≠p)) (A5 i)
        rw[K4]at this
        exact this⟩) ?_ ?_
    · rintro i xs σ' H' N kN hi ⟨⟨v,rfl⟩,s6,h6,rfl⟩
      have e0:((0:Int)+(i:Int))=(i:Int):=by omega
      rw[e0]
      refine A2 ?_
      refine⟨_,rfl,_,rfl,rfl,_,rfl,?_⟩
      have et:M0 (i+1) p=M0 i p++(if i=p then [] else [(i:Int)]):=by
        unfold M0
        rw[O6,M7,g9]
        congr 1
        by_cases h:i=p<;>simp[h]
      by_cases hm:i=p
      · refine aV5 (by rw[hm]) ?_
        refine kN _ _ _ ⟨⟨_,rfl⟩,s6,h6,?_⟩
        rw[et,if_pos hm,G9]
      · rw[decide_eq_false (show ¬ (V.int (i:Int)=V.int (p:Int)) from fun z=>hm (by injection z;omega))]
        refine E7 ?_
        refine⟨_,rfl,h6,kN _ _ _ ⟨⟨_,rfl⟩,s6.upd hD2,a9,?_⟩⟩
        rw[et,if_neg hm,g9]
        rfl
    · rintro xs2 σ' H2 ⟨⟨v2,rfl⟩,s2,h2,rfl⟩
      have s12:=s1.trans s2
      refine⟨_,rfl,_,rfl,_,rfl,a,ea,ns,es,p,rfl,hS.same s12,t2,s12.seq hea,fun l3 H3 s3 f3 g3=>?_⟩
      have s23:=s2.trans s3
      refine⟨fun m σ Ha=>∃ (ks:List (List Int)) (ps left:List Int) (zs:List V) (pa la:Addr) (e6:Option V),σ=[some (.ref a),some (.int p),some (.ref ea),some (.ref D),some (.ref pa),some (.ref la),e6]/\left.length=m/\m<24/\ak0 ns ps left ks/\Gr left/\ks++bA0 m left ps=aW5 ns p es/\Ha D=some (.lst zs)/\C1 K Ha zs ks /\
          Ha pa=some (.lst (ps.map V.int))/\pa≠D/\Ha la=some (.lst (left.map V.int))/\la≠D/\K8 PT H Ha/\Tb PT Ha,
        ⟨ns.length - 1,star p es,M0 ns.length p,Q9 ns p es,xs,D2,l3,none,rfl,ad1 hp,by omega,ak0.start hp ne he hn,hg,rfl,s23 _ _ h1,s23.tups t1,s3 _ _ h2,(y7 h1 hD2).symm,g3,(y7 (s2 _ _ h1) f3).symm,(s12.trans s3).grow PT,tb.same (s12.trans s3)⟩,?_⟩
      rintro m σ Ha ⟨ks,ps,left,zs,pa,la,e6,rfl,hm,hm2,hI,hG,hF,gD,tD,gp,np,gl,nl,gr,tbA⟩
      have hpl:=hI.len
      refine⟨_,rfl,!(left.map V.int).isEmpty,.inl ⟨_,SqL.of gl,rfl⟩,?_⟩
      cases m with
      | zero =>
        obtain rfl:left=[]:=br7.mp hm
        obtain rfl:ps=[]:=br7.mp hpl.symm
        have hF:ks=aW5 ns p es:=by
          have:ks++[]=aW5 ns p es:=hF
          rw[G9]at this
          exact this
        have hle:=hI.len_le t2
        refine E8 ?_
        refine⟨_,rfl,a,_,rfl,hS.grow gr tb,_,rfl,ns.length,D,zs,ks,by rw[a5];rfl,ht.1,t2,.inl (SqL.of gD),tD,hI.ends,hI.nodup,by omega,fun r t zs2 ks2 H' s' _ _ k1 k2 tt pm so=>?_⟩
        refine q r t zs2 ks2 H' (gr.trans (s'.grow PT)) (tbA.same s') k1 k2 tt (by rw[<- hF];exact pm) so ?_ (fun k hk=>?_) (pm.nodup_iff.mpr hI.nodup)
        · rw[bt4 pm,bU6 hI.ends]
          exact hI.last
        · obtain⟨k',hk',rfl⟩:=k9.mp (pm.mem_iff.mp hk)
          exact(hI.ends k' hk').up
      | succ m =>
        have h0:0<left.length:=by omega
        have hnn:=ad5 (aD8 hG) h0
        obtain⟨k,hk⟩:∃ k:Nat,left.getD 0 0=(k:Int):=⟨(left.getD 0 0).toNat,by omega⟩
        have at0:atI (left.map V.int) 0=some (.int (k:Int)):=by
          rw[<- hk]
          exact af9 (j:=0) h0
        have hne:(left.map V.int).isEmpty=false:=by
          cases left with
          | nil=>exact absurd h0 (E2 _)
          | cons _ _=>rfl
        rw[hne]
        refine E7 ⟨_,fun σ' H' h=>⟨m,Nat.lt_succ_self m,h⟩,?_⟩
        refine⟨_,rfl,_,rfl,la,_,_,_,rfl,rfl,SqL.of gl,at0,(by show 1<=d8;decide),fun lz fz=>?_⟩
        have sz:=c8 (o:=.lst [.int 0]) fz
        refine⟨la,lz,left,[0],k,rfl,.inl (SqL.of (sz _ _ gl)),⟨by omega,by omega⟩,SqL.of a9,tbA.same sz,fun os D4 Hc gc tbC f4 hp4 hs4 g4=>?_⟩
        have ech:(W6 [0] os).take k=chF left 0:=by
          rw[bn7,aN3 hp4 hs4]
          unfold chF
          rw[hk,j6]
          rfl
        rw[ech]at g4
        have tbz:=tbA.same sz
        have gDc:=Y6 gc tbz (sz _ _ gD)
        have gpc:=Y6 gc tbz (sz _ _ gp)
        have glc:=Y6 gc tbz (sz _ _ gl)
        have tDc:=av0 gc tbz (sz.tups tD)
        have grc:=gr.trans ((sz.grow PT).trans gc)
        have n4:D4≠D:=(y7 (sz _ _ gD) f4).symm
        have hcl:(chF left 0).length<=24:=by
          have h1:=bk6 hG h0
          have h2:=aD9 hG h0
          omega
        have hgo:=hI.go hG h0
        have hle:=hgo.len_le t2
        generalize upd Ha lz (.lst [.int 0])=Hz at gc f4
        refine⟨_,rfl,_,rfl,D4,rfl,⟨_,SqL.of g4⟩,fun D5 hD5=>M3 (K:=K) (a:=D4) (D:=D5) (ys:=(chF left 0).map V.int) (fun i xs σ' H'=>(∃ v,σ'=[v,some (.ref pa)])/\p8 Hc H'/\H' D5=some (.lst xs)/\C1 K H' xs (star (ps.getD 0 0) (((chF left 0).take i).map fun z=>ps.getD z.toNat 0)))
          ⟨⟨none, rfl⟩, c8 hD5, a9, .nil⟩ (by rw [a5]; omega) (fun i xs σ' H' hi ⟨_, s6, h6, t6⟩ => ⟨SqL.of (s6 _ _ g4), h6, by
            have h7:=t6.len
            unfold star at h7
            rw[a5,a5,k8]at h7
            omega⟩) ?_ ?_⟩
        · rintro i xs x σ' H' N kN hx ⟨⟨v,rfl⟩,s6,h6,t6⟩
          obtain⟨z,hz,rfl⟩:=X3 hx
          have hz2:=bC9 (b9 hz)
          obtain⟨j,rfl⟩:∃ j:Nat,z=(j:Int):=⟨z.toNat,by omega⟩
          refine A2 (K5 ?_)
          have hpa6:Sq K H' pa ps:=.inl (SqL.of (s6 _ _ gpc))
          refine⟨_,rfl,aJ6 (j:=0) hpa6 (by omega) ⟨_,rfl,_,rfl,aJ6 hpa6 (j:=j) (by omega) ⟨(by show 2<=d8;decide),fun t ft=>?_⟩⟩⟩
          have st:=c8 (o:=.tup [.int (ps.getD 0 0),.int (ps.getD j 0)]) ft
          have h6':=st _ _ h6
          refine⟨h6',kN _ _ _ ⟨⟨_,rfl⟩,(s6.trans st).upd hD5,a9,?_⟩⟩
          have et:star (ps.getD 0 0) (((chF left 0).take (i+1)).map fun z=>ps.getD z.toNat 0)=star (ps.getD 0 0) (((chF left 0).take i).map fun z=>ps.getD z.toNat 0)++[[ps.getD 0 0,ps.getD j 0]]:=by
            unfold star
            rw[o7,hz,g9,g9]
            rfl
          rw[et]
          refine C1.updL h6' (C1.append (st.tups t6) (C1.one (SqT.of ?_)))
          exact a9
        · rintro xs5 σ' H5 ⟨⟨v5,rfl⟩,s5,h5,t5⟩
          rw[k7 (by rw[a5];exact c6 _)]at t5
          have gD5:=s5 _ _ gDc
          have hl5:=t5.len
          have hlD:=tDc.len
          rw[j2]at hle
          refine⟨D,D5,zs,xs5,rfl,rfl,gD5,h5,by omega,?_⟩
          have fD:H D=none:=hD
          have gu:K8 PT H (upd H5 D (.lst (zs++xs5))):=by
            intro b o nb hb
            rw[x8 (y7 hb fD)]
            exact(grc.trans (s5.grow PT)) b o nb hb
          have tb6:Tb PT (upd H5 D (.lst (zs++xs5))):=by
            obtain⟨ps',hP,hx⟩:=tbC.same s5
            refine⟨ps',?_,hx.1,hx.2.imp id fun⟨c',e,h⟩=>⟨c',e,by rw[x8 (fun z=>by rw[z,gD5]at h;cases h)];exact h⟩⟩
            rw[x8 (fun z=>by rw[z,gD5]at hP;cases hP)]
            exact hP
          have gl6:(upd H5 D (.lst (zs++xs5))) la=some (.lst (left.map V.int)):=by rw[x8 nl];exact s5 _ _ glc
          have gp6:(upd H5 D (.lst (zs++xs5))) pa=some (.lst (ps.map V.int)):=by rw[x8 np];exact s5 _ _ gpc
          have g46:(upd H5 D (.lst (zs++xs5))) D4=some (.lst ((chF left 0).map V.int)):=by rw[x8 n4];exact s5 _ _ g4
          have gD6:(upd H5 D (.lst (zs++xs5))) D=some (.lst (zs++xs5)):=a9
          have t6:C1 K (upd H5 D (.lst (zs++xs5))) (zs++xs5) (ks++star (ps.getD 0 0) ((chF left 0).map fun z=>ps.getD z.toNat 0)):=C1.updL gD5 (C1.append (s5.tups tDc) t5)
          generalize upd H5 D (.lst (zs++xs5))=H6 at gu tb6 gl6 gp6 g46 gD6 t6 ⊢
          refine⟨_,rfl,_,rfl,la,D4,left,chF left 0,0,rfl,.inl (SqL.of gl6),by omega,SqL.of g46,fun l7 H7 s7 f7 g7=>?_⟩
          refine⟨_,rfl,_,rfl,pa,ps.map V.int,rfl,SqL.of (s7 _ _ gp6),fun l8 f8=>?_⟩
          have ec:as1 (ps.map V.int) (some 1) none=(ps.drop 1).map V.int:=ab9 ps 1
          rw[ec]
          have s8:=c8 (o:=.lst ((ps.drop 1).map V.int)) f8
          have s78:=s7.trans s8
          refine⟨_,ps.drop 1,Q9 left 0 (chF left 0),zs++xs5,l8,l7,_,rfl,by rw[ad1 h0];omega,by omega,hgo,cd3 hG h0,?_,s78 _ _ gD6,s78.tups t6,a9,(y7 (s7 _ _ gD6) f8).symm,s8 _ _ g7,(y7 gD6 f7).symm,gu.trans (s78.grow PT),tb6.same s78⟩
          rw[v9]
          exact hF
end
end Web
namespace L2
open PySem PySem.Spec PyProof.Rows
def sgn (x:Str):List V:=x.cps.toList.map fun c=>V.str ⟨#[c]⟩
theorem F8 (x:Str):x.cps.toList.length=x.length:=j9
def Its (x:Str):It:=⟨fun i _=>i<x.length,fun i H y H'=>H'=H/\(sgn x)[i]?=some y,fun i _=>x.length<=i⟩
theorem bb0 (h:i<x.length):x.cps[i]?=some (x.cps.toList.getD i 0)/\(sgn x)[i]?=some (.str ⟨#[x.cps.toList.getD i 0]⟩):=by
 have hl:i<x.cps.toList.length:=by rw[F8];exact h
 have e:x.cps.toList[i]?=some (x.cps.toList.getD i 0):=by rw[i8,f9 hl];rfl
 refine⟨by rw[<- d3];exact e,?_⟩
 unfold sgn
 rw[o6,e]
 rfl
theorem bm5 {K:W.Frag}(x:Str)(t:Tok)(it:Addr):Turn P w K tg (Its x) [it] it (fun i h=>h.IsStrIter it "str_ascii_iterator" x t i) where
 mem:=by simp
 obj:=fun i h st b hb=>by
  have e:b=it:=by simpa using hb
  subst e
  obtain⟨o,e,c,d⟩:=st
  exact⟨o,e,fun v z=>by rw[d]at z;cases z⟩
 keep:=fun i h h' st k=>let ⟨o,ho,r⟩:=st;⟨o,k it (by simp) o ho,r⟩
 item:=by
  intro X hP hw hK hc i pins s σ H E I hf st hg
  subst hP hw hK
  obtain⟨f0,f1,f2,f3,f4,f5⟩:=hf it (by simp)
  obtain⟨e1,e2⟩:=bb0 (show i<x.length from hg)
  refine wpAny_pyNext_ascii_item st e1 fun h' st' sb=>?_
  have I1:Inv X pins σ H { s with heap:=h',toks:=s.toks+1 }:=I.turned (fun b o hb e=>sb.extBut b o hb e) f0 f1 f3 f4 f5
  obtain⟨o,e,c,d⟩:=id st'
  exact⟨_,rfl,aW2 (s:={ s with heap:=h',toks:=s.toks+1 }) e c d (by decide) ⟨.str ⟨#[x.cps.toList.getD i 0]⟩,H,I1,⟨_,rfl⟩,⟨rfl,e2⟩,st',fun b hb=>(hf b hb).1⟩⟩
 done:=by
  intro X hP hw hK hc i pins s σ H E I hf st hg
  subst hP hw hK
  obtain⟨f0,f1,f2,f3,f4,f5⟩:=hf it (by simp)
  have hg':x.cps.size<=i:=hg
  exact wpAny_pyNext_ascii_end (I.ok.hd hc) st (by simpa using hg') fun h' eb=>⟨rfl,I.turned (t':=s.toks) (fun b o hb e=>eb b o hb e) f0 f1 f3 f4 f5⟩
 self:=fun _ _ _ _ _ st h=>wpAny_pyIter_striter_ascii st h
theorem bm4 {K:W.Frag}(x:Str)(t:Tok)(it:Addr):Turn P w K tg (Its x) [it] it (fun i h=>h.IsStrIter it "str_iterator" x t i) where
 mem:=by simp
 obj:=fun i h st b hb=>by
  have e:b=it:=by simpa using hb
  subst e
  obtain⟨o,e,c,d⟩:=st
  exact⟨o,e,fun v z=>by rw[d]at z;cases z⟩
 keep:=fun i h h' st k=>let ⟨o,ho,r⟩:=st;⟨o,k it (by simp) o ho,r⟩
 item:=by
  intro X hP hw hK hc i pins s σ H E I hf st hg
  subst hP hw hK
  obtain⟨f0,f1,f2,f3,f4,f5⟩:=hf it (by simp)
  obtain⟨e1,e2⟩:=bb0 (show i<x.length from hg)
  refine wpAny_pyNext_wide_item st e1 fun h' st' sb=>?_
  have I1:Inv X pins σ H { s with heap:=h',toks:=s.toks+1 }:=I.turned (fun b o hb e=>sb.extBut b o hb e) f0 f1 f3 f4 f5
  obtain⟨o,e,c,d⟩:=id st'
  exact⟨_,rfl,aW2 (s:={ s with heap:=h',toks:=s.toks+1 }) e c d (by decide) ⟨.str ⟨#[x.cps.toList.getD i 0]⟩,H,I1,⟨_,rfl⟩,⟨rfl,e2⟩,st',fun b hb=>(hf b hb).1⟩⟩
 done:=by
  intro X hP hw hK hc i pins s σ H E I hf st hg
  subst hP hw hK
  obtain⟨f0,f1,f2,f3,f4,f5⟩:=hf it (by simp)
  have hg':x.cps.size<=i:=hg
  exact wpAny_pyNext_wide_end (I.ok.hd hc) st (by simpa using hg') fun h' eb=>⟨rfl,I.turned (t':=s.toks) (fun b o hb e=>eb b o hb e) f0 f1 f3 f4 f5⟩
 self:=fun _ _ _ _ _ st h=>wpAny_pyIter_striter_wide st h
def cq7 (tl:TE):TI:=fun σ H R=>tl σ H fun x H1=>∃ z,x=.str z/\R (Its z) H1
theorem bx4 {l:Expr}{tl:TE}(hl:PE X l tl):PI X tg l (cq7 tl):=by
 intro pins s σ H R I h
 refine thn (hl pins s σ H _ I h) fun v s1 ⟨x,H1,I1,r1,q1⟩=>?_
 obtain⟨z,rfl,q⟩:=q1
 obtain⟨t,rfl⟩:=r1
 have fp:∀ b∈[s1.heap.objs.size],P1 X pins H1 b:=fun b hb=>by
  have e:b=s1.heap.objs.size:=by simpa using hb
  subst e
  exact I1.fpOk (c6 _) (I1.hok.fresh (c6 _))
 cases ha:z.cps.all (·<128)
 ·exact wpAny_pyIter_wide ha ⟨s1.heap.objs.size,[s1.heap.objs.size],_,_,H1,rfl,I1.kept (t':=s1.toks) fun b o e=>a7 _ e,bm4 z t _,⟨_,l5 _ rfl,rfl,rfl⟩,fp,q⟩
 ·exact wpAny_pyIter_ascii ha ⟨s1.heap.objs.size,[s1.heap.objs.size],_,_,H1,rfl,I1.kept (t':=s1.toks) fun b o e=>a7 _ e,bm5 z t _,⟨_,l5 _ rfl,rfl,rfl⟩,fp,q⟩
def cp8:V->Option Int->Option Int->Hp->VK->Prop:=fun v lo hi H Q=>∃ x,v=.str x/\x.length<=d8/\Q (.str (Txt.slice x lo hi)) H
theorem bW2:SlR X cp8:=by
 intro pins s σ H x v vl vu lo hi sl Q I rx hs pl pu h
 obtain⟨z,rfl,hz,q⟩:=h
 obtain⟨t,rfl⟩:=rx
 refine⟨"str",_,F.slot_str_getitem.lookup,ao0 _ _ _,?_⟩
 have fin:∀ t' k,EP X pins σ Q (.str (Txt.slice z lo hi) t') { s with toks:=k }:=fun t' k=>⟨.str _,H,I.tok _,⟨_,rfl⟩,q⟩
 have hl:(Txt.slice z lo hi).length<=d8:=t9 (Txt.slice_le z _ _) hz
 cases pl with
 | none =>
  cases pu with
  | none=>exact X1 (l:=none) (u:=none) (st:=none) hs rfl (ax2 ⟨hl,fin⟩)
  | int j uj=>exact X1 (l:=none) (u:=some (j,uj)) (st:=none) hs rfl (ax2 ⟨hl,fin⟩)
 | int i ui =>
  cases pu with
  | none=>exact X1 (l:=some (i,ui)) (u:=none) (st:=none) hs rfl (ax2 ⟨hl,fin⟩)
  | int j uj=>exact X1 (l:=some (i,ui)) (u:=some (j,uj)) (st:=none) hs rfl (ax2 ⟨hl,fin⟩)
def bI7:V->List V->Hp->VK->Prop:=fun x vs H Q=>∃ a b,x=.str a/\vs=[.str b]/\Q (.bl (Txt.startswith a b)) H
theorem bo8:MtR X "str.startswith" bI7:=by
 intro pins s σ H x vs v us Q I rx rv h
 obtain⟨a,b,rfl,rfl,q⟩:=h
 obtain⟨t,rfl⟩:=rx
 obtain⟨u,rfl,t',rfl⟩:=B7.one rv
 exact SC.startswith ⟨.bl _,H,I,rfl,q⟩
theorem an4:S7 X (.type "int") (fun xs H Q=>∃ x n,xs=[.str x]/\PySem.intText? x=some n/\x.length<=640/\Q (.int n) H):=by
 intro pins s σ H xs us Q I r h
 obtain⟨x,n,rfl,hn,hl,q⟩:=h
 obtain⟨u,rfl,t,rfl⟩:=vals1 r
 exact PySem.W.KIN.call_text hn hl ⟨.int n,H,I.tok _,⟨_,rfl⟩,q⟩
theorem aX3 {D:Addr}{g:TG}{tt:TT}{σ0:St}{H0:Hp}(Pv:Nat->List V->St->Hp->Prop)(h0:Pv 0 [] σ0 H0)(hz:x.length<=d8)(hl:∀ i xs σ H,i<=x.length->Pv i xs σ H->H D=some (.lst xs)/\xs.length<=i)
  (hs:∀ i xs c σ H (N:List V->St->Hp->Prop),(∀ xs' σ' H',Pv (i+1) xs' σ' H'->N xs' σ' H')->x.cps.toList[i]?=some c->Pv i xs σ H->g (.str ⟨#[c]⟩) σ H fun σ2 H2=>tt σ2 H2 fun b H3=>if b=true then te σ2 H3 fun v H4=>H4 D=some (.lst xs)/\N (xs++[v]) σ2 (upd H4 D (.lst (xs++[v]))) else N xs σ2 H3)
  (hd:∀ xs σ H,Pv x.length xs σ H->Qd H) :
  ∃ W:Nat->Nat->List V->St->Hp->Prop,(∃ m,W 0 m [] σ0 H0)/\∀ i m xs σ' H',W i m xs σ' H'->H' D=some (.lst xs)/\(((Its x).stop i H'/\Qd H')\/((Its x).go i H'/\xs.length<d8/\∀ y H'',(Its x).yld i H' y H''->g y σ' H'' fun σ2 H2=>tt σ2 H2 fun b H3 =>
   if b=true then te σ2 H3 fun v H4=>H4 D=some (.lst xs)/\∃ m',m'<m/\W (i+1) m' (xs++[v]) σ2 (upd H4 D (.lst (xs++[v]))) else ∃ m',m'<m/\W (i+1) m' xs σ2 H3)):=by
 refine⟨fun i m xs σ H=>m=x.length - i/\i<=x.length/\Pv i xs σ H,⟨x.length,by simp,r9 _,h0⟩,?_⟩
 rintro i m xs σ H ⟨rfl,hi,p⟩
 obtain⟨hD,hx⟩:=hl i xs σ H hi p
 refine⟨hD,?_⟩
 by_cases hlt:i<x.length
 ·refine .inr ⟨hlt,by omega,fun y H'' hy=>?_⟩
  obtain⟨e,hy⟩:=hy
  subst e
  obtain⟨e1,e2⟩:=bb0 hlt
  rw[e2]at hy
  cases hy
  exact hs i xs _ σ _ (fun zs σ' H'=>∃ m',m'<x.length - i/\m'=x.length - (i+1)/\i+1<=x.length/\Pv (i+1) zs σ' H') (fun zs σ' H' r=>⟨_,by omega,rfl,hlt,r⟩) (by rw[d3];exact e1) p
 ·have e:i=x.length:=by omega
  subst e
  exact .inl ⟨c6 _,hd xs σ H p⟩
theorem aR4 (x:Str):(Txt.slice x (some 1) none).cps.toList=x.cps.toList.drop 1:=by
 by_cases h:1<=x.length
 ·rw[PyProof.Rows.slice_from_eq (x:=x) (i:=1) (b:=(x.length:Int)) (by decide) (by omega) rfl]
  show ((x.cps.toList.drop 1).take ((x.length:Int) - 1).toNat)=_
  rw[k7]
  rw[A1,F8]
  omega
 ·have e:x.cps.toList=[]:=Q0 (by rw[F8];omega)
  have l:(Txt.slice x (some 1) none).length<=x.length:=Txt.slice_le x _ _
  rw[e]
  exact Q0 (by rw[F8];omega)
theorem ao8 (a b:Str):a=b↔a.cps.toList=b.cps.toList:=⟨fun e=>by rw[e],PyProof.Rows.ext_toList⟩
theorem ba2 (x:Str)(c:Nat):Txt.startswith x ⟨#[c]⟩=decide (x.cps.toList.head?=some c):=by
 unfold Txt.startswith Builtin.Str.subAt
 have hb:(x.cps.extract 0 (0+(⟨#[c]⟩:Str).length) == (⟨#[c]⟩:Str).cps)=decide (x.cps.toList.take 1=[c]):=by
  rw[G8,beq_iff_eq,decide_eq_true_iff]
  have:(x.cps.extract 0 1).toList=x.cps.toList.take 1:=by simp
  show x.cps.extract 0 1=#[c]↔_
  rw[<- this]
  constructor
  ·intro e;rw[e]
  ·intro e;exact ce4.mp e
 rw[hb]
 have hl:(⟨#[c]⟩:Str).length=1:=rfl
 rw[hl]
 have e:=F8 x
 cases h:x.cps.toList with
 | nil =>
  rw[h]at e
  have:x.length=0:=e.symm
  rw[this];rfl
 | cons a l =>
  rw[h]at e
  have:0+1<=x.length:=by rw[<- e];simp
  rw[decide_eq_true this,S4]
  simp
def U7 (x:Str):Prop:=∀ c∈x.cps.toList,c<128
theorem az8 {a b:Str}(ha:U7 a)(hb:U7 b):U7 (a++b):=by
 intro c hc
 rw[PySem.W.KT.app_list,m7]at hc
 exact hc.elim (ha c) (hb c)
theorem bk8 {n:Int}(h0:0<=n):U7 (Str.ofString (toString n)):=by
 obtain⟨m,rfl⟩:=bs1 h0
 intro c hc
 rw[PySem.W.KIN.signs_num]at hc
 obtain⟨ch,hch,e⟩:=k9.mp hc
 have r:=digit_range (aZ2 (by decide) (by decide) hch)
 rw[<- e]
 omega
theorem cd5 (h:U7 x):PyData.strOk x=true:=by
 unfold PyData.strOk
 rw[Array.all_eq_true_iff_forall_mem]
 intro c hc
 have:=h c (by simpa using hc)
 exact decide_eq_true (by omega)
theorem len_app (a b:Str):(a++b).length=a.length+b.length:=by
 rw[<- F8,<- F8 a,<- F8 b,PySem.W.KT.app_list,j2]
def cc5:List Nat:=[48,49,50,51,52,53,54,55,56,57]
theorem cc4:("0123456789":Str).cps.toList=cc5:=by decide +kernel
def isD (c:Nat):Bool:=decide (c∈cc5)
theorem ay7 (c:Nat):isD c=true↔48<=c/\c<=57:=by
 unfold isD cc5
 rw[decide_eq_true_iff]
 simp only[c5,D9,or_false]
 omega
theorem bB7 (c:Nat):(!(Builtin.Str.occurrences ("0123456789":Str) ⟨#[c]⟩ 0 ("0123456789":Str).length 1).isEmpty)=isD c:=by
 rw[PySem.StrLaws.found_one,cc4]
 rfl
def fgL (L:List Nat):List Nat:=if L.head?=some 45 then L.drop 1 else L
def okW (m:Int)(L:List Nat):Bool:=(decide (1<=((fgL L).length:Int)) && decide (((fgL L).length:Int)<=m)) && (fgL L).all isD && (decide (L=[48]) || !decide ((fgL L).head?=some 48))
theorem bL7 {m:Int}(hm:m<=100)(h:okW m x.cps.toList=true):∃ n,PySem.intText? x=some n:=by
 unfold okW at h
 rw[n8,n8,n8,decide_eq_true_iff,decide_eq_true_iff]at h
 obtain⟨⟨⟨h1,h2⟩,h3⟩,_⟩:=h
 have hd:∀ cs:List Nat,cs.all isD=true->PySem.NumText.AllDigits cs:=fun cs h c hc=>(ay7 c).mp (A6.mp h c hc)
 unfold fgL at h1 h2 h3
 by_cases hh:x.cps.toList.head?=some 45
 ·rw[if_pos hh]at h1 h2 h3
  obtain⟨cs,hx⟩:∃ cs,x.cps.toList=45::cs:=by
   cases e:x.cps.toList with
   | nil=>rw[e]at hh;cases hh
   | cons a l=>rw[e]at hh;cases hh;exact⟨l,rfl⟩
  have hl:=F8 x
  rw[hx]at h1 h2 h3 hl
  refine⟨_,PySem.intText_neg hx (hd _ h3) (fun z=>?_) ?_⟩
  ·rw[z]at h1;simp at h1
  ·have:(bE2 1 (45::cs)).length=cs.length:=rfl
   rw[this]at h2
   rw[i9]at hl
   omega
 ·rw[if_neg hh]at h1 h2 h3
  refine⟨_,PySem.intText_digits (hd _ h3) (fun z=>?_) ?_⟩
  ·rw[z]at h1;simp at h1
  ·rw[F8]at h2;omega
theorem fgS (x:Str):(if Txt.startswith x ⟨#[45]⟩=true then Txt.slice x (some 1) none else x).cps.toList=fgL x.cps.toList:=by
 rw[ba2]
 unfold fgL
 by_cases h:x.cps.toList.head?=some 45
 ·rw[if_pos h,if_pos (decide_eq_true h),aR4]
 ·rw[if_neg h,if_neg (by rw[decide_eq_false h];exact i6)]
theorem dtS {K:W.Frag}{cs:List Nat}(h:SqL K H a (cs.map fun c=>V.str ⟨#[c]⟩)):Dt K H (.list (cs.map fun c=>.str ⟨#[c]⟩)) (.ref a):=by
 refine Dt.mkL h ?_
 clear h
 induction cs with
 | nil=>exact .mkN
 | cons c cs ih=>unfold C0;exact⟨_,_,rfl,by unfold Dt;rfl,ih⟩
theorem cq3 {cs:List Nat}(h:∀ c∈cs,c<128):(PyData.list (cs.map fun c=>.str ⟨#[c]⟩)).canLay0=true:=by
 show PyData.canLayAll0 _=true
 induction cs with
 | nil=>rfl
 | cons c cs ih =>
  show (PyData.canLay0 (.str ⟨#[c]⟩) && PyData.canLayAll0 _)=true
  rw[ih fun d hd=>h d (b8 _ hd),br6]
  exact cd5 (x:=⟨#[c]⟩) fun d hd=>by
   have:d∈[c]:=hd
   rw[j8.mp this]
   exact h c c7
theorem cr0 (cs:List Nat):PyData.eqv (.list (cs.map fun c=>.str ⟨#[c]⟩)) (.list [])=cs.isEmpty:=by
 cases cs with
 | nil=>simp[PyData.eqv,PyData.eqvAll]
 | cons c cs=>simp[PyData.eqv,PyData.eqvAll]
theorem cr1 (cs:List Nat):(PyData.list (cs.map fun c=>.str ⟨#[c]⟩)).depth<=1:=by
 show PyData.depthAll _+1<=1
 have:PyData.depthAll (cs.map fun c=>PyData.str ⟨#[c]⟩)=0:=by
  induction cs with
  | nil=>rfl
  | cons c cs ih=>show max 0 _=0;rw[ih];rfl
 rw[this]
 exact c6 _
end L2
set_option Elab.async false
set_option maxRecDepth 100000
namespace L2
open PySem PySem.Spec PyProof.Rows
section
variable (P:Program) (w:World)
end
section
variable {o:HO}
end
section
variable {x e:Addr} {o':HO}
end
section
variable {fs fs' ex ex':List Addr} {H1 H2:Hp} {h1 h2:Heap} {x e:Addr} {o:HO}
end
section
variable {σ:List (Option V)}
end
section
variable {a b:Expr} {tb:TE}
variable {tA tB':TT} {rest:List Expr}
end
section
variable {st:Stmt} {rest:List Stmt} {t u:TS}
end
section
variable {a b c:Expr} {tb tc:TE}
end
section
variable {a b c:Expr} {tb tc:TE}
end
section
variable {K:W.Frag} {x dx:Addr} {name:Str}
end
section
variable {dx:Addr} {fs fs':List (Str × V)}
end
section
variable {dx:Addr} {fs:List (Str × V)} {f:Str} {v:V}
end
section
variable {value:Expr} {f:Str} {pos' tpos:Pos} {tv:TE}
end
section
variable {c:Value} {b:Bool}
end
section
variable {t:TA}
end
section
variable {s':Shared}
end
section
variable {CX:CXT} {k:Nat} {sp:Sp} {dvs:List V} {ds:List Value} {E:XK} {m:Str} {p apos:Pos} {t:TA}
end
section
variable {CX:CXT} {k:Nat} {ks:List Str} {sp:Sp} {E:XK} {m:Str} {p apos kpos:Pos} {kws:List aG6} {t tk:TA} {nm:Option Str}
variable {g:List Value->List Value->List Value}
end
section
variable {p:Pos} {t:TA} {id T:String} {r:List V->Hp->VK->Prop}
end
section
variable {κ:Type} [DecidableEq κ]
end
abbrev KT (H:Hp):List (List Key × V)->List (List Key × Addr × Value)->Prop:=ab5 fun p q=>p.1=q.1/\H q.2.1=some (.tup (p.1.map kV))/\RelV p.2 q.2.2
section
variable {y v:V} {r:Value} {o:Option V}
end
section
variable {kvs:List (Key × V)} {k:Key}
end
section
variable {i value:Expr} {pos' tpos:Pos} {td ty tv:TE}
end
structure M1 (X:Cx) (o:Expr) (m:Str) (apos:Pos) (e:Expr) (cpos:Pos):Prop where
 base:bF9 o m X.env (eval o X.env)=eval o X.env
 few:((Z1 cpos (B0 [e] X.env)).all (fun x=>!x.1) && (bF8 cpos (aG7 [] X.env)).all (fun x=>x.1.isSome)
  && decide (([e]:List Expr).length+([]:List aG6).length+(if ([]:List aG6).isEmpty then 0 else 1)<30))=true
 line:(apos.endLine == cpos.line)=true
 trees:Z1 cpos (B0 [e] X.env)=[(false,eval e X.env)]
structure M2 (X:Cx) (o:Expr) (m:Str) (apos:Pos) (e f:Expr) (cpos:Pos):Prop where
 base:bF9 o m X.env (eval o X.env)=eval o X.env
 few:((Z1 cpos (B0 [e,f] X.env)).all (fun x=>!x.1) && (bF8 cpos (aG7 [] X.env)).all (fun x=>x.1.isSome)
  && decide (([e,f]:List Expr).length+([]:List aG6).length+(if ([]:List aG6).isEmpty then 0 else 1)<30))=true
 line:(apos.endLine == cpos.line)=true
 trees:Z1 cpos (B0 [e,f] X.env)=[(false,eval e X.env),(false,eval f X.env)]
section
variable {y d:V} {r:Value} {o:Option V}
end
section
variable {f:Expr} {apos cpos:Pos} {td ty tx:TE}
end
section
variable {kvs:List (Key × V)}
end
section
variable {y:V}
end
end L2
namespace Att
open PySem PySem.W PySem.Calls PyProof.Rows
section
variable {K:Frag}
end
end Att
namespace L2
open PySem PySem.Spec PyProof.Rows
section
variable {K:W.Frag} {mg:Str->Option Value} {base:Heap}
end
section
variable {κ:Type} [DecidableEq κ]
end
end L2
namespace L2
open PySem PySem.Spec PyProof.Rows PySem.Builtin PySem.Builtin.Str
theorem aI2:∀ l:List (Str × Tok),B7 ((l.map (·.1)).map V.str) (bT9 l)
 | []=>.nil
 | (x,t)::l=>.cons ⟨t,rfl⟩ (aI2 l)
theorem aI3:∀ {xs:List Str} {vs:List Value},B7 (xs.map V.str) vs->∃ l:List (Str × Tok),l.map (·.1)=xs/\bT9 l=vs
 | [],_,.nil=>⟨[],rfl,rfl⟩
 | x::xs,_,.cons ⟨t,rfl⟩ r=>let ⟨l,h1,h2⟩:=aI3 r;⟨(x,t)::l,by rw[n6,h1],by rw[<- h2];rfl⟩
def bX2:V->List V->Hp->VK->Prop:=fun v vs H Q=>∃ a b,v=.str a/\vs=[.str b]/\(b.length == 0)=false/\a.length<=100000/\(Txt.split a b).length<=d8/\∀ l,H l=none->Q (.ref l) (upd H l (.lst ((Txt.split a b).map V.str)))
theorem ar6:MtR X "str.split" bX2:=by
 intro pins s σ H v vs u us Q I rx rv h
 obtain⟨x,y,rfl,rfl,hy,hx,hn,q⟩:=h
 obtain⟨t,rfl⟩:=rx
 obtain⟨_,rfl,t',rfl⟩:=B7.one rv
 have hsz:x.length<=d8:=by rw[x6];omega
 have fin:∀ (l:List (Str × Tok)) (k:Nat),l.map (·.1)=Txt.split x y->EP X pins σ Q (.ref s.heap.objs.size) { s with heap:=s.heap.push { cls:=.type "list",data:=.seq (bT9 l).toArray },toks:=k }:=fun l k e=>by
  have hv:=aI2 l
  rw[e]at hv
  exact⟨.ref s.heap.objs.size,_,I.laid (t':=k) (fun b o e=>a7 _ e) (c6 _) (show O0 X.prog X.w _ _ _ (.lst ((Txt.split x y).map V.str)) from ⟨by rw[a5];exact hn,bT9 l,0,hv,l5 _ rfl⟩),rfl,q _ (I.hok.fresh (c6 _))⟩
 cases h1:(decide (x.length<y.length) || decide (strKind x<strKind y))
 ·cases hf:(occurrences x y 0 x.length (x.length+1)).isEmpty
  ·have es:Txt.split x y=partsBetween x (occurrences x y 0 x.length (x.length+1)) y.length:=(if_neg (ne_true_of_eq_false h1)).trans (if_neg (ne_true_of_eq_false hf))
   refine ag4 F.slot_str_split (ao0 _ _ _) F.entry_str_split (F.args_str_split_2 _ _) (meets_str_split_sep x y t t' h1 hy hf hsz (by rw[<- es];exact hn)) ?_
   show wants _ X.xe _ { s with toks:=_,heap:=s.heap.push { cls:=.type "list",data:=.seq (strsFrom s.toks (partsBetween x (occurrences x y 0 x.length (x.length+1)) y.length)).toArray } }
   rw[strsFrom_eq]
   exact fin (numbered s.toks _) _ ((numbered_texts _ _).trans es.symm)
  ·exact ag4 F.slot_str_split (ao0 _ _ _) F.entry_str_split (F.args_str_split_2 _ _) (meets_str_split_not_found x y t t' h1 hy hf) (fin [(x,t)] s.toks ((if_neg (ne_true_of_eq_false h1)).trans (if_pos hf)).symm)
 ·exact ag4 F.slot_str_split (ao0 _ _ _) F.entry_str_split (F.args_str_split_2 _ _) (meets_str_split_cannot_occur x y t t' h1) (fin [(x,t)] s.toks (if_pos h1).symm)
def rJoin (K:W.Frag):V->List V->Hp->VK->Prop:=fun v vs H Q=>∃ (x:Str) (l:Addr) (xs:List Str),v=.str x/\vs=[.ref l]/\SqL K H l (xs.map V.str)/\JoinOk x xs=true/\Q (.str (Txt.join x xs)) H
theorem ay5:MtR X "str.join" (rJoin X.K):=by
 intro pins s σ H v vs u us Q I rx rv h
 obtain⟨x,l,xs,rfl,rfl,hq,hok,q⟩:=h
 obtain⟨t,rfl⟩:=rx
 obtain⟨_,rfl,e⟩:=B7.one rv
 cases e
 obtain⟨its,r,pl,hz⟩:=I.list hq
 obtain⟨ls,e1,e2⟩:=aI3 r
 subst e2
 exact SC.join pl.isList e1 hok fun t' k=>⟨.str _,H,I.tok k,⟨_,rfl⟩,q⟩
theorem sub_len (x:Str)(i j:Nat):(strSub x i j).length<=x.length:=by
 show (x.cps.extract i j).size<=x.cps.size
 rw[E4]
 omega
theorem bH7 (h:U7 x)(i j:Nat):U7 (strSub x i j):=fun c hc=>h c (by
 have hc':c∈(x.cps.extract i j).toList:=hc
 rw[S8]at hc'
 exact N7 (A4 hc'))
theorem al0 {y p:Str}(h:p∈Txt.split x y):p.length<=x.length/\(U7 x->U7 p):=by
 unfold Txt.split at h
 split at h
 ·rw[j8.mp h];exact⟨c6 _,id⟩
 ·split at h
  ·rw[j8.mp h];exact⟨c6 _,id⟩
  ·obtain⟨⟨i,j⟩,_,rfl⟩:=k9.mp h
   exact⟨sub_len x i j,fun a=>bH7 a i j⟩
theorem split_len (x y:Str):1<=(Txt.split x y).length/\(Txt.split x y).length<=x.length+2:=by
 unfold Txt.split
 split
 ·exact⟨c6 _,Nat.le_add_left _ _⟩
 ·split
  ·exact⟨c6 _,Nat.le_add_left _ _⟩
  ·rw[PyProof.Rows.len_partsBetween]
   have:=PySem.StrLaws.occ_length_le x y 0 x.length (x.length+1)
   omega
theorem bt8 {m:Nat}:∀ {xs:List Str},(∀ x∈xs,x.length<=m)->(xs.map (·.length)).sum<=xs.length*m
 | [],_=>r9 _
 | x::xs,h=>by
  have h1:=bt8 (xs:=xs) fun y hy=>h y (b8 _ hy)
  have h2:=h x c7
  rw[n6,M6,i9,Nat.succ_mul]
  omega
theorem ab0 {y:Str}{xs:List Str}{m:Nat}(h:∀ x∈xs,x.length<=m)(hn:xs.length<=n)(hb:n*m+n*y.length<=100000):JoinOk y xs=true/\(Txt.join y xs).length<=n*m+n*y.length:=by
 have h1:=bt8 h
 have h2:xs.length*m<=n*m:=bP3 _ hn
 have h3:xs.length*y.length<=n*y.length:=bP3 _ hn
 refine⟨?_,?_⟩
 ·unfold JoinOk
  rw[StrLaws.joinTotal]
  have:tooLong ((xs.map (·.length)).sum+xs.length*y.length)=false:=by
   unfold tooLong
   rw[decide_eq_false_iff_not,x6]
   omega
  rw[this];rfl
 ·show (glued y xs).length<=_
  rw[StrLaws.glued_eq_join]
  exact t9 (StrLaws.join_length_le y xs) (by omega)
theorem bA6 {y:Str}(hy:U7 y){xs:List Str}(h:∀ x∈xs,U7 x):U7 (Txt.join y xs):=by
 show U7 (glued y xs)
 rw[StrLaws.glued_eq_join]
 induction xs with
 | nil=>intro c hc;cases hc
 | cons x xs ih =>
  cases xs with
  | nil=>exact h x c7
  | cons z r=>exact az8 (az8 (h x c7) hy) (ih fun u hu=>h u (b8 _ hu))
theorem aL8 (a b:Str):(a++b).cps.toList=a.cps.toList++b.cps.toList:=PySem.W.KT.app_list a b
theorem as0 (c:Nat)(a:Str):∀ r:List Str,r≠[]->(Str.join ⟨#[c]⟩ (a::r)).cps.toList=a.cps.toList++c::(Str.join ⟨#[c]⟩ r).cps.toList
 | [],h=>absurd rfl h
 | b::r,_=>by
  show (a++⟨#[c]⟩++Str.join ⟨#[c]⟩ (b::r)).cps.toList=_
  rw[aL8,aL8,v9]
  rfl
def Z4 (m:Nat)(L:List Nat):Bool:=(decide (1<=L.length) && decide (L.length<=m)) && L.all isD && (!decide (L.head?=some 48) || decide (L.length=1))
theorem bB8 {L:List Nat}(h:45∉L):fgL L=L:=by
 unfold fgL
 refine if_neg fun z=>h ?_
 cases L with
 | nil=>cases z
 | cons a l=>cases z;exact c7
theorem bL8 {m:Nat}{L:List Nat}(h:45∉L):okW (m:Int) L=Z4 m L:=by
 unfold okW Z4
 rw[bB8 h]
 have e1:decide ((1:Int)<=(L.length:Int))=decide (1<=L.length):=decide_eq_decide.mpr (by omega)
 have e2:decide ((L.length:Int)<=(m:Int))=decide (L.length<=m):=decide_eq_decide.mpr (by omega)
 rw[e1,e2]
 congr 1
 cases L with
 | nil=>rfl
 | cons a l =>
  cases l with
  | nil =>
   show (decide ([a]=[48]) || !decide (some a=some 48))=(!decide (some a=some 48) || true)
   rw[aL0]
   by_cases e:a=48
   ·subst e;rfl
   ·have h1:decide (some a=some 48)=false:=decide_eq_false (fun z=>e (Option.some.inj z))
    rw[h1,bf4,aL0]
  | cons b l =>
   have h1:decide (a::b::l=[48])=false:=decide_eq_false (fun z=>by cases z)
   have h2:decide ((a::b::l).length=1)=false:=decide_eq_false (fun z=>by simp at z)
   rw[h1,h2,aF9,ac1]
theorem az0 {m:Nat}{L:List Nat}(h:Z4 m L=true):1<=L.length/\L.length<=m/\PySem.NumText.AllDigits L:=by
 unfold Z4 at h
 rw[n8,n8,n8,decide_eq_true_iff,decide_eq_true_iff]at h
 exact⟨h.1.1.1,h.1.1.2,fun c hc=>(ay7 c).mp (A6.mp h.1.2 c hc)⟩
def W3 (L:List Nat):Nat:=PySem.NumText.digitsVal L
theorem bj5 {m:Nat}(h:Z4 m x.cps.toList=true)(hm:m<=100):PySem.intText? x=some (W3 x.cps.toList:Int):=by
 obtain⟨h1,h2,h3⟩:=az0 h
 exact PySem.intText_digits h3 (fun z=>by rw[z]at h1;exact absurd h1 (by decide)) (by rw[<- F8];omega)
theorem dash:("-":Str)=⟨#[45]⟩:=by decide +kernel
def Z3 (x:Str):Option (Nat × Nat):=match Txt.split x "-" with
 | [a,b]=>if (Z4 2 a.cps.toList && Z4 2 b.cps.toList && decide (W3 a.cps.toList<W3 b.cps.toList))=true then some (W3 a.cps.toList,W3 b.cps.toList) else none
 | _=>none
theorem aY0 {c:Nat}:∀ {a b u v:List Nat},c∉a->c∉b->a++c::u=b++c::v->a=b/\u=v
 | [],[],u,v,_,_,h=>⟨rfl,by injection h⟩
 | [],y::b,u,v,_,hb,h=>by injection h with h1 _;exact absurd (by rw[h1];exact c7) hb
 | x::a,[],u,v,ha,_,h=>by injection h with h1 _;exact absurd (by rw[<- h1];exact c7) ha
 | x::a,y::b,u,v,ha,hb,h=>by
  injection h with h1 h2
  obtain⟨e1,e2⟩:=aY0 (fun z=>ha (b8 _ z)) (fun z=>hb (b8 _ z)) h2
  exact⟨by rw[h1,e1],e2⟩
theorem aV3 {c:Nat}:∀ (a b:Str) (r s:List Str),(∀ u∈a::r,c∉u.cps.toList)->(∀ u∈b::s,c∉u.cps.toList)->(Str.join ⟨#[c]⟩ (a::r)).cps.toList=(Str.join ⟨#[c]⟩ (b::s)).cps.toList->a::r=b::s
 | a,b,[],[],_,_,h=>by rw[(ao8 a b).mpr h]
 | a,b,[],y::s,ha,hb,h=>by
  rw[as0 c b (y::s) (by simp)]at h
  have h:a.cps.toList=b.cps.toList++c::(Str.join ⟨#[c]⟩ (y::s)).cps.toList:=h
  exact absurd (by rw[h];simp) (ha a c7)
 | a,b,x::r,[],ha,hb,h=>by
  rw[as0 c a (x::r) (by simp)]at h
  have h:a.cps.toList++c::(Str.join ⟨#[c]⟩ (x::r)).cps.toList=b.cps.toList:=h
  exact absurd (by rw[<- h];simp) (hb b c7)
 | a,b,x::r,y::s,ha,hb,h=>by
  rw[as0 c a (x::r) (by simp),as0 c b (y::s) (by simp)]at h
  obtain⟨e1,e2⟩:=aY0 (ha a c7) (hb b c7) h
  rw[(ao8 a b).mpr e1,aV3 x y r s (fun u hu=>ha u (b8 _ hu)) (fun u hu=>hb u (b8 _ hu)) e2]
theorem ae7 {c:Nat}(a:Str)(r:List Str)(h:∀ u∈a::r,c∉u.cps.toList):Txt.split (Str.join ⟨#[c]⟩ (a::r)) ⟨#[c]⟩=a::r:=by
 have hf:=StrLaws.split_free (Str.join ⟨#[c]⟩ (a::r)) c
 have hj:=StrLaws.join_split (Str.join ⟨#[c]⟩ (a::r)) ⟨#[c]⟩
 cases e:Txt.split (Str.join ⟨#[c]⟩ (a::r)) ⟨#[c]⟩ with
 | nil=>exact absurd (split_len (Str.join ⟨#[c]⟩ (a::r)) ⟨#[c]⟩).1 (by rw[e];decide)
 | cons b s =>
  rw[e]at hf hj
  exact aV3 b a s r hf h (by rw[hj])
theorem al7 (m:Nat):(Str.ofString (toString (m:Int))).cps.toList=(P6 10 m).map Char.toNat:=PySem.W.KIN.signs_num m
theorem aC5 (m:Nat):PySem.NumText.AllDigits (Str.ofString (toString (m:Int))).cps.toList:=by
 intro c hc
 rw[al7]at hc
 obtain⟨ch,hch,e⟩:=k9.mp hc
 have r:=digit_range (aZ2 (by decide) (by decide) hch)
 omega
theorem ay3 (m:Nat):W3 (Str.ofString (toString (m:Int))).cps.toList=m:=by
 unfold W3
 rw[al7]
 exact PySem.W.KIN.val_back m
theorem bk0 (m:Nat):P6 10 m≠[]:=by
 by_cases h:m<10
 ·rw[an8 h];simp
 ·have hm:m % 10<10:=aK9 m (by decide)
  have t:P6 10 (m / 10)++P6 10 (m % 10)=P6 10 (10*(m / 10)+m % 10):=aY6 (by decide) (by omega) hm
  rw[Nat.div_add_mod]at t
  rw[<- t,an8 hm]
  simp
theorem bC2:∀ d:Nat,d<10->1<=d->(Nat.digitChar d).toNat≠48:=by decide
theorem aK0 (m:Nat)(h1:1<=m):((P6 10 m).map Char.toNat).head?≠some 48:=by
 induction m using Nat.strongRecOn with
 | _ m ih =>
  by_cases h:m<10
  ·rw[an8 h]
   intro z
   exact bC2 m h h1 (Option.some.inj z)
  ·have hm:m % 10<10:=aK9 m (by decide)
   have t:P6 10 (m / 10)++P6 10 (m % 10)=P6 10 (10*(m / 10)+m % 10):=aY6 (by decide) (by omega) hm
   rw[Nat.div_add_mod]at t
   have ih':=ih (m / 10) (by omega) (by omega)
   have hne:=bk0 (m / 10)
   rw[<- t,g9]
   cases e:P6 10 (m / 10) with
   | nil=>exact absurd e hne
   | cons c l=>rw[e]at ih';exact ih'
theorem al6 {m k:Nat}(hk:1<=k)(h:m<10 ^ k):Z4 k (Str.ofString (toString (m:Int))).cps.toList=true:=by
 have hl:(Str.ofString (toString (m:Int))).length<=k:=PyProof.Rows.toString_length_le (by omega) hk (by exact_mod_cast h)
 have hl1:1<=(Str.ofString (toString (m:Int))).cps.toList.length:=by
  rw[al7,a5]
  exact ad9.mpr (bk0 m)
 unfold Z4
 rw[decide_eq_true hl1,decide_eq_true (by rw[F8];exact hl),S4,S4,n8]
 refine⟨A6.mpr fun c hc=>(ay7 c).mpr (aC5 m c hc),?_⟩
 by_cases h0:m=0
 ·subst h0
  decide +kernel
 ·rw[al7,decide_eq_false (aK0 m (by omega))]
  rfl
theorem ap1 (m:Nat):45∉(Str.ofString (toString (m:Int))).cps.toList:=fun h=>by
 have:=aC5 m 45 h
 omega
theorem bt1 (hij:i<j)(hj:j<100):Z3 (Str.ofString (toString (i:Int))++"-"++Str.ofString (toString (j:Int)))=some (i,j):=by
 have e:Txt.split (Str.ofString (toString (i:Int))++"-"++Str.ofString (toString (j:Int))) "-"=[Str.ofString (toString (i:Int)),Str.ofString (toString (j:Int))]:=by
  rw[dash]
  exact ae7 (c:=45) _ [Str.ofString (toString (j:Int))] fun u hu=>by
   simp only[c5,D9,or_false]at hu
   rcases hu with rfl | rfl
   ·exact ap1 i
   ·exact ap1 j
 unfold Z3
 rw[e]
 show (if _ then _ else _)=_
 rw[ay3,ay3,al6 (k:=2) (by decide) (by omega),al6 (k:=2) (by decide) (by omega),decide_eq_true hij]
 rfl
theorem aN6 (m:Nat):(Str.ofString (toString (-((m+1:Nat):Int)))).cps.toList=45::(Str.ofString (toString ((m+1:Nat):Int))).cps.toList:=by
 have e:toString (-((m+1:Nat):Int))="-"++toString (m+1:Nat):=rfl
 rw[al7,e,PyProof.Rows.signs_ofString,String.toList_append,g9]
 show 45::_=_
 congr 1
 show ((Nat.repr (m+1)).toList).map Char.toNat=_
 rw[Nat.toList_repr]
theorem bc5 {z:Int}{k:Nat}(hk:1<=k)(hz:z.natAbs<10 ^ k)(hk2:k<=100):okW (k:Int) (Str.ofString (toString z)).cps.toList=true/\PySem.intText? (Str.ofString (toString z))=some z:=by
 cases z with
 | ofNat m =>
  have hf:=al6 (m:=m) hk hz
  refine⟨?_,?_⟩
  ·show okW (k:Int) (Str.ofString (toString (m:Int))).cps.toList=true
   rw[bL8 (ap1 m)]
   exact hf
  ·show PySem.intText? (Str.ofString (toString (m:Int)))=some (m:Int)
   rw[bj5 hf hk2,ay3]
 | negSucc m =>
  have hf:=al6 (m:=m+1) hk hz
  have hc:=aN6 m
  have hc':(Str.ofString (toString (Int.negSucc m))).cps.toList=45::(Str.ofString (toString ((m+1:Nat):Int))).cps.toList:=hc
  obtain⟨f1,f2,f3⟩:=az0 hf
  refine⟨?_,?_⟩
  ·unfold okW
   have ef:fgL (Str.ofString (toString (Int.negSucc m))).cps.toList=(Str.ofString (toString ((m+1:Nat):Int))).cps.toList:=by
    rw[hc']
    rfl
   rw[ef,decide_eq_true (show (1:Int)<=_ by omega),decide_eq_true (show _<=(k:Int) by omega),S4,S4,n8,aY4]
   refine⟨A6.mpr fun c h=>(ay7 c).mpr (f3 c h),.inr ?_⟩
   rw[al7,decide_eq_false (aK0 (m+1) (by omega))]
   rfl
  ·have:=PySem.intText_neg hc' f3 (fun e=>by rw[e]at f1;exact absurd f1 (by decide)) (by rw[<- F8,hc',i9];omega)
   rw[this]
   have:=ay3 (m+1)
   unfold W3 at this
   rw[this]
   rfl
def co8 (c:Str)(ta tb:TE):TE:=fun σ H Q=>ta σ H fun x H1=>∃ i:Int,x=.int i/\i.natAbs.log2<1920/\(Str.ofString (toString i)).length<=1000/\tb σ H1 fun y H2=>∃ j:Int,y=.int j/\j.natAbs.log2<1920/\(Str.ofString (toString j)).length<=1000/\Q (.str (Str.ofString (toString i)++c++Str.ofString (toString j))) H2
theorem bN9 (x:Str):Str.empty++x=x:=PyProof.Rows.ext_toList (by rw[PySem.W.KT.app_list];rfl)
theorem bJ5 {a b:Expr}{tb:TE}{c:Str}{k:Nat}{p1 p2 p3:Pos}(ha:PE X a ta)(hb:PE X b tb)(hc:c.length<=1000):PE X (.JoinedStr [.FormattedValue a (-1) none p1,.Constant (.str c) k p2,.FormattedValue b (-1) none p3] pos) (co8 c ta tb):=by
 intro pins s σ H Q I h
 have hsl:d8=16777216:=x6
 refine JoinedStr_many (bs3 (ce9 (thn (ha pins s σ H _ I h) fun v s1 ⟨x,H1,I1,r1,q1⟩=>?_)))
 obtain⟨i,rfl,hd,hl,q1⟩:=q1
 obtain⟨t,rfl⟩:=r1
 refine bU0 hd ?_
 show (Str.empty++Str.ofString (toString i)).length<=d8/\_
 rw[bN9]
 refine⟨by omega,bs3 (thn (C8 (X:=X) (x:=c) (j:=k) (pos:=p2) pins _ σ H1 (fun v H2=>v=.str c/\H2=H1) (I1.tok _) ⟨rfl,rfl⟩) fun v2 s2 ⟨x2,H2,I2,r2,e2,e3⟩=>?_)⟩
 subst e2 e3
 obtain⟨t2,rfl⟩:=r2
 refine⟨by rw[len_app];omega,?_⟩
 refine bs3 (ce9 (thn (hb pins s2 σ H2 _ I2 q1) fun v3 s3 ⟨y,H3,I3,r3,q3⟩=>?_))
 obtain⟨j,rfl,hd2,hl2,q3⟩:=q3
 obtain⟨t3,rfl⟩:=r3
 refine bU0 hd2 ?_
 show (Str.ofString (toString i)++c++Str.ofString (toString j)).length<=d8/\_
 have hz:(Str.ofString (toString i)++c++Str.ofString (toString j)).length<=d8:=by rw[len_app,len_app];omega
 refine⟨hz,joinParts_nil ?_ hz⟩
 exact⟨.str _,H3,I3.tok _,⟨_,rfl⟩,q3⟩
end L2
namespace L2
open PySem PySem.Spec PyProof.Rows
end L2
namespace L2
open PySem PySem.Spec PyProof.Rows PySem.SeqAt
theorem br0 {bs:List Bool}(h:(bs.map Value.bool)[i]?=some v):v=.bool (bs.getD i false):=by
 rw[o6]at h
 cases e:bs[i]? with
 | none=>rw[e]at h;cases h
 | some b=>rw[e]at h;cases h;rw[i8,e];rfl
theorem all_range (bs:List Bool):((A5 bs.length).all fun i=>bs.getD i false)=bs.all id:=by
 rw[G8,A6,A6]
 constructor
 ·intro h b hb
  obtain⟨i,hi,rfl⟩:=bF5.mp hb
  have:=h i (B1.mpr hi)
  rw[i8,f9 hi]at this
  exact this
 ·intro h i hi
  have hi:=B1.mp hi
  rw[i8,f9 hi]
  exact h _ (Q1 hi)
theorem boot_all:N1 "all"=some (.builtin "all"):=by decide +kernel
theorem bq9 (hc:X.calm=true):S7 X (.builtin "all") (fun xs H Q=>∃ (l:Addr) (bs:List Bool),xs=[.ref l]/\H l=some (.lst (bs.map V.bl))/\Q (.bl (bs.all id)) H):=by
 intro pins s σ H xs us Q I r h
 obtain⟨l,bs,rfl,hH,q⟩:=h
 obtain⟨u,rfl,rx⟩:=vals1 r
 cases rx
 obtain⟨z,its,n,r,hl,e⟩:=I.lstM hH
 obtain rfl:=bg0 r
 have hl1:s.heap.IsList l (bs.map Value.bool).toArray:=⟨_,e,rfl,_,rfl⟩
 refine call_all_walkS (aQ1 hl1 ?_)
 have hlt:l<s.heap.objs.size:=i7 e
 have hh:X.A.in1.handled=none:=by simp[I.ok.hd hc]
 refine⟨_,_,_,_,_,_,_,fun i=>bs.getD i false,rfl,(Walks.list hh _ l (m6 hlt) (bs.map Value.bool).toArray).toS,⟨⟨_,l5 _ rfl,rfl,rfl⟩,hl1.push _⟩,?_,fun s' hm=>?_⟩
 ·intro i v s Q E hv hq
  have:=br0 (bs:=bs) (i:=i) (v:=v) (by simpa using hv)
  subst this
  exact j5 hq
 ·refine⟨.bl (bs.all id),H,?_,?_,q⟩
  ·rw[Moved.eq_with hm]
   exact I.kept (t':=s'.toks) fun b o eo=>hm.heap b o (fun hb=>absurd (i7 eo) (by rw[j8.mp hb];exact E2 _)) (a7 _ eo)
  ·show _=Value.bool (bs.all id)
   rw[<- all_range]
   simp
end L2
namespace L2
open PySem PySem.Spec PyProof.Rows
section
variable {K:W.Frag} {mg:Str->Option Value} {base:Heap} {scope0:Scope} {cd:Value} {s0:Shared} {H0:Hp} {E:XK}
theorem be3 (eX:X=X6 (CXE P w) P w K mg base N qual scope0 f cd A outer s0 H0 E) {elt iter:Expr} {ipos:Pos} {wi:TI} {g:TG} {tt:TT} {R:Value->Shared->Prop} {Q:VK}
  (hc:X.calm=true) (hi:PI X tg iter wi) (hclos:ao4 scope X.env=pure cl) (hkind:scope.kind=.function)
  (hnames:∀ y∈scope.names,y.2=.local->scope.names.lookup y.1=some .local) (hcl:av8 X.env cl) (hfr:ap7 scope.names cl=true) (hlk:be9 X N' lk scope cl)
  (hg:∀ pins σ s3 H3 fp,PG (B3 X scope cl N' s3 H3 fp (XeC X E pins σ s3.heap.objs.size)) tg g) (ht:∀ pins σ s3 H3 fp,PTs (B3 X scope cl N' s3 H3 fp (XeC X E pins σ s3.heap.objs.size)) ifs tt) (he:∀ pins σ s3 H3 fp,Inv X pins σ H3 s3->(∀ b∈fp,P1 X pins H3 b)->PE (B3 X scope cl N' s3 H3 fp (XeC X E pins σ s3.heap.objs.size)) elt te)
  (hs:∀ x,T7 iter X.env x=pure x) (I:Inv X pins σ H s) (h:aR1 wi lk g tt te σ H Q)
  (hend : ∀ (C D : Addr) (s' : Shared) (H' : Hp), Inv X pins σ H' s' -> Q (.ref D) H' -> H' C = none -> C ≠ X.env.locals -> X.s₀.heap.objs.size <= C -> (∀ x c, X.env.cells.lookup x = some c -> c ≠ C) -> (∀ p ∈ X.pn ++ pins, p.1 ≠ C) -> (∃ m, s'.heap.Ns C m) ->
   aq2 (t7 X.prog X.w) X.A X.xe use R (.ref D) C (.ok .next) s') :
  v7 (t7 X.prog X.w) X.A (aL4 (.ListComp elt [⟨tg,iter,ifs,0⟩] scope pos) scope X.env ipos (cg4 []) false (eval iter X.env) use) R X.xe s:=by
 have hcellN:∀ y∈scope.names,y.2≠.cell:=fun y hy=>by
  unfold ap7 at hfr
  rw[A6]at hfr
  have:=hfr y hy
  rw[n8]at this
  simpa using this.1
 refine ao5 (use:=use) rfl hs hclos hkind hnames (thn (hi pins s σ H _ I h) fun v s1 h1=>thn h1 fun itv s2 h2=>?_)
 obtain⟨it,fp,tn,J,H2,e,I2,T,st2,f2,q⟩:=h2
 subst e
 refine T8 ?_ (r9 _)
 have hD:H2 s2.heap.objs.size=none:=I2.hok.fresh (c6 _)
 have I3:=I2.lnew (ys:=[]) (its:=[]) (t':=s2.toks) .nil (r9 _)
 obtain⟨W,⟨m0,w0⟩,turn⟩:=q s2.heap.objs.size hD
 have fpl:∀ b∈fp,b<s2.heap.objs.size:=fun b hb=>by
  obtain⟨o,ho,_⟩:=T.obj 0 s2.heap st2 b hb
  exact i7 ho
 refine ae0 hcellN (by intro y hy;cases hy) (fun h1 hns1 hsb1=>?_) hkind
 dsimp only at hns1 hsb1 ⊢
 have e3:s2.heap.push { cls:=.type "list",dict:=none,data:=.seq ([]:List Value).toArray }=s2.heap.push { cls:=.type "list",data:=.seq ([]:List Value).toArray }:=rfl
 generalize hh3:s2.heap.push { cls:=.type "list",dict:=none,data:=.seq ([]:List Value).toArray }=h3 at *
 have I3':Inv X pins σ (upd H2 s2.heap.objs.size (.lst [])) { s2 with heap:=h3,toks:=s2.toks }:=I3
 have size3:h3.objs.size=s2.heap.objs.size+1:=by rw[<- hh3,N0]
 have f3:∀ b∈fp,P1 X pins (upd H2 s2.heap.objs.size (.lst [])) b:=fun b hb=>by
  obtain⟨f0,fr⟩:=f2 b hb
  exact⟨by rw[x8 (m6 (fpl b hb))];exact f0,fr⟩
 have up:∀ b u,h3.get? b=some u->h1.get? b=some u:=fun b u eb=>by
  rw[hsb1.2 b (m6 (i7 eb))]
  exact a7 _ eb
 have I4:Inv (B3 X scope cl N' { s2 with heap:=h3,toks:=s2.toks } (upd H2 s2.heap.objs.size (.lst [])) fp (XeC X E pins σ h3.objs.size)) [] (ac0 lk σ) (upd H2 s2.heap.objs.size (.lst [])) { s2 with heap:=h1,toks:=s2.toks+([]:List (Str × Value)).length }:=
  ap4 (s3:={ s2 with heap:=h3,toks:=s2.toks }) I3' f3 hkind hcl hfr hlk hns1 up fun b hb=>by show b<h3.objs.size;rw[size3];exact E3 (fpl b hb)
 have st4:tn 0 h1:=T.keep 0 s2.heap h1 st2 fun b hb o eb=>up b o (by rw[<- hh3];exact a7 _ eb)
 have hCs:h3.objs.size=(N3 scope cl h3.objs.size X.env).locals:=rfl
 have stat:∀ {H':Hp},(∀ b∈fp,H' b=none)->∀ b∈fp,P1 (B3 X scope cl N' { s2 with heap:=h3,toks:=s2.toks } (upd H2 s2.heap.objs.size (.lst [])) fp (XeC X E pins σ h3.objs.size)) [] H' b:=fun {H'} hn b hb=>by
  obtain⟨f0,f1,f2',f3',f4,f5⟩:=f3 b hb
  refine⟨hn b hb,?_,fun z=>?_,.inl hb,fun x c ex=>f4 x c (hcl.get ex),fun p hp=>nomatch hp⟩
  ·show b≠h3.objs.size
   rw[size3]
   exact m6 (E3 (fpl b hb))
  ·rcases c5.mp (I3'.stkSub b z) with q | q
   ·exact f1 q
   ·exact f2' q
 have fin:∀ (s':Shared) (σ':St) (H':Hp),Inv (B3 X scope cl N' { s2 with heap:=h3,toks:=s2.toks } (upd H2 s2.heap.objs.size (.lst [])) fp (XeC X E pins σ h3.objs.size)) [] σ' H' s'->Q (.ref s2.heap.objs.size) H' ->
   aq2 (t7 X.prog X.w) X.A X.xe use R (.ref s2.heap.objs.size) h3.objs.size (.ok .next) s':=fun s' σ' H' I' q'=>by
  obtain⟨m,hm,_⟩:=id I'.loc
  have I5:Inv X pins σ H' s':=I3'.call' (ch:=fp) I'.os I'.base I'.hok I'.bare fun b hb=>by
   obtain⟨f0,f1,f2',f3',f4,f5⟩:=f3 b hb
   exact⟨f3',f1,f4,f5⟩
  exact hend h3.objs.size s2.heap.objs.size s' H' I5 q' I'.free (V3 I3'.lt) I3'.sz (fun x c ex z=>by
   obtain⟨v',q2⟩:=I3'.cell x c ex
   exact absurd q2.lt (by rw[z];exact E2 _)) (fun p hp z=>absurd (i7 (I3'.pin p hp).1) (by rw[z];exact E2 _)) ⟨m,hm⟩
 have loop:∀ s5:Shared,s5={ s2 with heap:=h1,toks:=s2.toks+([]:List (Str × Value)).length } ->
   aG5 (t7 X.prog X.w) X.A (.compLoop (.ListComp elt [⟨tg,iter,ifs,0⟩] scope pos) 0 (.ref it) (.ref s2.heap.objs.size) (N3 scope cl h3.objs.size X.env)) (aq2 (t7 X.prog X.w) X.A X.xe use R (.ref s2.heap.objs.size) h3.objs.size) s5:=by
  rintro s5 rfl
  refine bT6 rfl (fun n s'=>∃ i xs σ' H',Inv (B3 X scope cl N' { s2 with heap:=h3,toks:=s2.toks } (upd H2 s2.heap.objs.size (.lst [])) fp (XeC X E pins σ h3.objs.size)) [] σ' H' s'/\tn i s'.heap/\(∀ b∈fp,H' b=none)/\W i n xs σ' H')
   (fun n s6 hI=>?_) m0 ⟨0,[],ac0 lk σ,_,I4,st4,fun b hb=>(f3 b hb).1,w0⟩
  obtain⟨i,xs,σ6,H6,I6,st6,fr6,w6⟩:=hI
  show v7 _ X.A ((compTurn (.ListComp elt [⟨tg,iter,ifs,0⟩] scope pos) 0 (.ref it) (.ref s2.heap.objs.size) (N3 scope cl h3.objs.size X.env)).onRaise (fun x=>do ax1 x (N3 scope cl h3.objs.size X.env);bm1 x)) _ _ s6
  refine cg3 ?_
  rw[bG1]
  refine a8 (W9 (a8 ?_))
  obtain⟨hD6,hw⟩:=turn i n xs σ6 H6 w6
  rcases hw with⟨stop,qn⟩ | ⟨go,hlen,step⟩
  ·refine thn (T.done (B3 X scope cl N' { s2 with heap:=h3,toks:=s2.toks } (upd H2 s2.heap.objs.size (.lst [])) fp (XeC X E pins σ h3.objs.size)) rfl rfl rfl hc i [] s6 σ6 H6 _ I6 (stat fr6) st6 stop) fun r s7 ⟨hr,I7⟩=>?_
   subst hr
   exact j5 (fin s7 σ6 H6 I7 qn)
  ·refine thn (T.item (B3 X scope cl N' { s2 with heap:=h3,toks:=s2.toks } (upd H2 s2.heap.objs.size (.lst [])) fp (XeC X E pins σ h3.objs.size)) rfl rfl rfl hc i [] s6 σ6 H6 _ I6 (stat fr6) st6 go) fun r s7 ⟨u,hr,h7⟩=>?_
   subst hr
   refine a8 (thn h7 fun _ s8 ⟨x,H8,I8,r8,y8,st8,fr8⟩=>?_)
   have I8':=I8.pinned (stat fr8) (T.obj _ _ st8)
   refine a8 (C6 (hg pins σ _ _ _ _ s8 σ6 H8 x u _ I8' r8 (step x H8 y8)) (fun _ s9 ⟨σ9,H9,I9,q9⟩=>?_) (fun _ _ z=>as2 (Q:=R) (acc:=.none) eX rfl z))
   refine a8 (C6 (ht pins σ _ _ _ _ s9 σ9 H9 _ I9 q9) (fun ok s10 ⟨H10,I10,q10⟩=>?_) (fun _ _ z=>as2 (Q:=R) (acc:=.none) eX rfl z))
   have bl3:∀ {σ':St} {H':Hp} {ys:List V} {s':Shared},Inv (B3 X scope cl N' { s2 with heap:=h3,toks:=s2.toks } (upd H2 s2.heap.objs.size (.lst [])) fp (XeC X E pins σ h3.objs.size)) ([]++ai9 fp s8.heap) σ' H' s'->(∃ m',m'<n/\W (i+1) m' ys σ' H') ->
     ∃ m',m'<n/\∃ i xs σ' H',Inv (B3 X scope cl N' { s2 with heap:=h3,toks:=s2.toks } (upd H2 s2.heap.objs.size (.lst [])) fp (XeC X E pins σ h3.objs.size)) [] σ' H' s'/\tn i s'.heap/\(∀ b∈fp,H' b=none)/\W i m' xs σ' H':=fun {σ' H' ys s'} I' ⟨m',hm,w'⟩=>by
    refine⟨m',hm,i+1,ys,σ',H',I'.unpinned,T.keep _ _ _ st8 fun b hb o eb=>(I'.pin (b,o) (j7 _ (j7 _ (N6 hb eb)))).1,fun b hb=>?_,w'⟩
    obtain⟨o,eb,_⟩:=T.obj _ _ st8 b hb
    exact(I'.pin (b,o) (j7 _ (j7 _ (N6 hb eb)))).2.1
   cases ok with
   | false =>
    have q10':∃ m',m'<n/\W (i+1) m' xs σ9 H10:=by simpa using q10
    exact j5 ⟨rfl,bl3 I10 q10'⟩
   | true =>
    rw[if_pos rfl]at q10
    refine a8 (a8 (C6 (he pins σ _ _ _ I3' f3 _ s10 σ9 H10 _ I10 q10) (fun y s11 ⟨v11,H11,I11,r11,hD11,q11⟩=>?_) (fun _ _ z=>as2 (Q:=R) (acc:=.none) eX rfl z)))
    refine a8 (C6 (Y0 (X:=B3 X scope cl N' { s2 with heap:=h3,toks:=s2.toks } (upd H2 s2.heap.objs.size (.lst [])) fp (XeC X E pins σ h3.objs.size)) _ s11 σ9 H11 (.ref s2.heap.objs.size) [v11] (.ref s2.heap.objs.size) [y] (fun _ H'=>∃ m',m'<n/\W (i+1) m' (xs++[v11]) σ9 H') I11 rfl (.cons r11 .nil) ⟨s2.heap.objs.size,xs,v11,rfl,rfl,hD11,hlen,q11⟩) (fun _ s12 ⟨_,H12,I12,_,q12⟩=>?_) (fun _ _ z=>as2 (Q:=R) (acc:=.none) eX rfl z))
    exact j5 (j5 ⟨rfl,bl3 I12 q12⟩)
 exact at7 (loop _ rfl) (T.self X.A 0 _ _ _ st4 (loop _ rfl))
theorem bx1 (eX:X=X6 (CXE P w) P w K mg base N qual scope0 f cd A outer s0 H0 E){y:Str}{py:Pos}{elt iter:Expr}{spos:Pos}{wi:TI}{g:TG}{tt:TT}
  (hN:X.N.Nodup)(hy:X.N[i]?=some y)(hyl:X.env.scope.names.lookup y=some .local)
  (hsw:bT0 (.ListComp elt [⟨tg,iter,ifs,0⟩] scope pos) (some (.Name y py)) spos.line X.env=pure true)
  (hc:X.calm=true)(hi:PI X tg iter wi)(hclos:ao4 scope X.env=pure cl)(hkind:scope.kind=.function)
  (hnames:∀ y∈scope.names,y.2=.local->scope.names.lookup y.1=some .local)(hcl:av8 X.env cl)(hfr:ap7 scope.names cl=true)(hlk:be9 X N' lk scope cl)
  (hg:∀ pins σ s3 H3 fp,PG (B3 X scope cl N' s3 H3 fp (XeC X E pins σ s3.heap.objs.size)) tg g)(ht:∀ pins σ s3 H3 fp,PTs (B3 X scope cl N' s3 H3 fp (XeC X E pins σ s3.heap.objs.size)) ifs tt)(he:∀ pins σ s3 H3 fp,Inv X pins σ H3 s3->(∀ b∈fp,P1 X pins H3 b)->PE (B3 X scope cl N' s3 H3 fp (XeC X E pins σ s3.heap.objs.size)) elt te)
  (hs:∀ x,T7 iter X.env x=pure x:=by intro _;rfl):PS X (.Assign [.Name y py] (.ListComp elt [⟨tg,iter,ifs,0⟩] scope pos) spos) (bQ1 i (aR1 wi lk g tt te)):=by
 intro pins s σ H D I h
 rw[bT8 _ _ _ _ hsw]
 refine a8 (W9 (a8 ?_))
 show v7 _ X.A (do let _ <- aL4 (.ListComp elt [⟨tg,iter,ifs,0⟩] scope pos) scope X.env _ (cg4 []) false (eval iter X.env) (some (aY7 (.Name y py) X.env))) _ _ s
 refine a8 (thn (be3 eX (use:=some (aY7 (.Name y py) X.env)) (R:=fun _ s'=>SP X pins D .next s') hc hi hclos hkind hnames hcl hfr hlk hg ht he hs I h
  fun C Dd s' H' I' q' hC hCL hCs hCc hCp ⟨m,hm⟩=>?_) fun _ s' hq=>j5 (j5 hq))
 show v7 _ X.A (aY7 (.Name y py) X.env (.ref Dd)) _ _ s'
 refine aQ0 (at8 (v:=.ref Dd) I' hN hy (.inl hyl) rfl (fun s2 I2 ⟨a,hsb,ha⟩=>?_) (.inr hyl))
 have hCa:C≠a:=by
  rcases ha with z | z
  ·rw[z];exact hCL
  ·exact(hCc y a z).symm
 refine⟨m,hm.sameBut hsb hCa,fun h' hs'=>?_⟩
 obtain⟨h0,g0,d0,t0,o0⟩:=s2
 exact⟨_,H',I2.turned (t':=t0) (it:=C) (fun b o hb eb=>(hs'.2 b hb).trans eb) hC hCL (.inr hCs) hCc hCp,q'⟩
end
end L2
namespace Web
open PySem L2
section
variable {K:W.Frag} {mg:Str->Option Value} {base:Heap}
def bQ7:Sp:=fun vs H Q _=>∃ (x:Str) (m:Int),vs=[.str x,.int m]/\x.length<=5000/\∀ H',p8 H H'->Q (.bl (okW m x.cps.toList)) H'
theorem bR3:p9 ["word","most","figures"] ["word","most"] (m9 bw4):=.mk'
theorem zero_eq (x:Str):decide ((V.str x:V)=.str "0")=decide (x.cps.toList=[48]):=by
 rw[G8,decide_eq_true_iff,decide_eq_true_iff,V.str.injEq,ao8]
 rfl
theorem aT8 (c:Nat):decide ((V.str ⟨#[c]⟩:V)=.str "0")=decide (c=48):=by
 rw[zero_eq,G8,decide_eq_true_iff,decide_eq_true_iff]
 show [c]=[48]↔_
 simp
theorem bZ1 {tF:Tok} (F:Fun K "is_number" "is_number" bw4 f fd) (B:Bn mg) (mF:mg "FIGURES"=some (.str "0123456789" tF)):p0 P w K mg base CX0 1 f fd ["word","most"] bQ7:=by
 refine F.ok bR3 (fun cdv A outer s H vs Q E hr h=>?_)
 obtain⟨x,m,rfl,hx,q⟩:=h
 have hsl:=L1
 have nd1:(["sign"]:List Str).Nodup:=by decide +kernel
 refine⟨_,al3 (v8 (i:=2) bR3.nd rfl (Or.inl rfl) (aB8 (ai6 (ac8 PySem.F.plainAttrs_str PySem.F.slot_str_startswith PySem.F.type_str_startswith bo8 (pv 0) (a6 C8 b7))) (N8 bW2 (pv 0) (Q3 d6) U2) (pv 0)))
  (c9 (D6 (PW.pt (ag5 (U1 (ai7 aj4 aj4 d6 (n9 aE9 (by rfl) B.len PySem.boot_len (a6 (pv 2) b7)) (pv 1)))
    (ab6 (U1 (ai6 (n9 (bq9 rfl) (by rfl) B.all boot_all (a6
     (N4 (N' := ["sign"]) (lk := [none]) rfl (bx4 (pv 2)) (by rfl) rfl (by decide +kernel) (by exact trivial) (by rfl) (by exact LkL.ok trivial)
      (fun _ _ _=>B2 (i:=0) nd1 rfl (Or.inl rfl)) (fun _ _ _=>P2) (fun _ _ _=>aa0 bo2 (pv 0) (af1 (v:=.str "0123456789") (by rfl) mF ⟨tF,rfl⟩) (by rfl))) b7))))))) (j3 (r6 bh6)) x9)
  (j3 (r6 (ck2 (aa0 Q8 (pv 0) C8 (y9 _)) (bX8 (aa0 aw5 (aw2 (pv 2) d6 (fun _ _=>rfl)) C8 (y9 _))))))),?_⟩
 have hF:=fgS x
 refine⟨fun σ H2=>∃ y:Str,σ=[some (.str x),some (.int m),some (.str y)]/\H=H2/\y.length<=x.length/\y.cps.toList=fgL x.cps.toList,?_,?_⟩
 ·refine⟨_,rfl,rfl,x,⟨#[45]⟩,rfl,rfl,_,rfl,?_⟩
  by_cases hs:Txt.startswith x ⟨#[45]⟩=true
  ·rw[if_pos hs]at hF
   rw[hs]
   exact E7 ⟨_,rfl,_,rfl,x,rfl,by omega,_,rfl,rfl,Txt.slice_le x _ _,hF⟩
  ·rw[if_neg hs]at hF
   rw[cf3]at hs
   rw[hs]
   exact E8 ⟨_,rfl,_,rfl,rfl,c6 _,hF⟩
 rintro σ H2 ⟨y,rfl,rfl,hy,eY⟩
 have lY:y.length=(fgL x.cps.toList).length:=by rw[<- F8,eY]
 have fin:∀ b:Bool,okW m x.cps.toList=b->∀ H',p8 H H'->Q (.bl b) H':=fun b e H' s'=>by
  rw[<- e]
  exact q H' s'
 refine⟨_,rfl,_,_,rfl,⟨by omega,rfl⟩,_,_,rfl,rfl,_,rfl,?_⟩
 by_cases h1:(1:Int)<=(y.length:Int)
 ·rw[decide_eq_true h1]
  refine E7 ⟨_,rfl,_,_,rfl,rfl,_,rfl,?_⟩
  by_cases h2:(y.length:Int)<=m
  ·rw[decide_eq_true h2]
   refine E8 ⟨_,rfl,y,rfl,fun D hD=>aX3 (x:=y) (D:=D) (fun i xs σ' H'=>(∃ v,σ'=[v])/\p8 H H'/\H' D=some (.lst xs)/\xs=((y.cps.toList.take i).map isD).map V.bl)
    ⟨⟨none,rfl⟩,c8 hD,a9,by rw[K1];rfl⟩ (by omega) (fun i xs σ' H' hi ⟨_,s2,g2,e2⟩=>⟨g2,by rw[e2,a5,a5,k8];omega⟩) ?_ ?_⟩
   ·rintro i xs c σ' H' N kN hc ⟨⟨v,rfl⟩,s2,g2,rfl⟩
    refine A2 (K5 ?_)
    refine⟨_,rfl,_,_,rfl,rfl,?_⟩
    refine⟨g2,kN _ _ _ ⟨⟨_,rfl⟩,s2.upd hD,a9,?_⟩⟩
    rw[bB7,o7,hc,g9,g9]
    rfl
   ·rintro xs σ' H1 ⟨⟨v,rfl⟩,s1,g1,rfl⟩
    rw[<- F8,L6]at g1
    refine⟨D,_,rfl,g1,_,rfl,?_⟩
    have ea:((y.cps.toList.map isD).all id)=(fgL x.cps.toList).all isD:=by rw[List.all_map,eY];rfl
    rw[ea]
    cases e3:(fgL x.cps.toList).all isD with
    | false =>
     refine E7 (fin false ?_ H1 s1)
     unfold okW
     rw[e3,ah9,D7]
    | true =>
     refine E8 ⟨_,rfl,rfl,_,rfl,?_⟩
     rw[zero_eq]
     have e12:okW m x.cps.toList=(decide (x.cps.toList=[48]) || !decide ((fgL x.cps.toList).head?=some 48)):=by
      unfold okW
      rw[e3,<- lY,decide_eq_true h1,decide_eq_true h2]
      rfl
     cases e4:decide (x.cps.toList=[48]) with
     | true =>
      refine E7 (fin true ?_ H1 s1)
      rw[e12,e4,Bool.true_or]
     | false =>
      have hl:0<y.cps.toList.length:=by rw[F8];omega
      obtain⟨c,l,ec⟩:∃ c l,y.cps.toList=c::l:=by
       cases e:y.cps.toList with
       | nil=>rw[e]at hl;exact absurd hl (by decide)
       | cons c l=>exact⟨c,l,rfl⟩
      refine E8 ⟨_,rfl,y,0,c,rfl,rfl,by decide,by decide,(by show (0:Int)<(y.length:Int);omega),?_,rfl,?_⟩
      ·rw[<- d3,ec];rfl
      ·rw[aT8]
       refine fin _ ?_ H1 s1
       rw[e12,e4,aF9,<- eY,ec]
       show (!decide (some c=some 48))=_
       congr 1
       rw[G8,decide_eq_true_iff,decide_eq_true_iff,Option.some.injEq]
  ·rw[decide_eq_false h2]
   refine E7 (fin false ?_ H (p8.refl H))
   unfold okW
   rw[<- lY,decide_eq_false h2,ah9,D7,D7]
 ·rw[decide_eq_false h1]
  refine E8 ⟨_,rfl,E7 (fin false ?_ H (p8.refl H))⟩
  unfold okW
  rw[<- lY,decide_eq_false h1,D7,D7,D7]
def bV8 (CN:Addr):Sp:=fun vs H Q E=>∃ (x:Str) (m:Int),vs=[.str x,.int m]/\x.length<=5000/\m<=100/\(okW m x.cps.toList=true->∀ n H',p8 H H'->PySem.intText? x=some n->Q (.int n) H')/\(okW m x.cps.toList=false->∀ H',p8 H H'->E (.ref CN) none H')
theorem cp7:p9 ["word","most"] ["word","most"] (m9 sNW):=.mk'
theorem bo5 {m:Int}(hm:m<=100)(h:okW m x.cps.toList=true):x.length<=640:=by
 unfold okW at h
 rw[n8,n8,n8,decide_eq_true_iff,decide_eq_true_iff]at h
 obtain⟨⟨⟨h1,h2⟩,h3⟩,_⟩:=h
 rw[<- F8]
 unfold fgL at h2
 split at h2
 ·rw[A1]at h2;omega
 ·omega
theorem cl5 {fI CN:Addr}{tF:Tok}(F:Fun K "number_within" "number_within" sNW f fd)(B:Bn mg)(FI:Fq K mg "is_number" bw4 fI fdI ["word","most"])(mF:mg "FIGURES"=some (.str "0123456789" tF))
  (mN:mg "NoText"=some (.ref CN))(cN:ag1 K CN):p0 P w K mg base (CXE P w) 2 f fd ["word","most"] (bV8 CN):=by
 have GI:p0 P w K mg base CX0 1 fI fdI ["word","most"] bQ7:=bZ1 FI.F B mF
 refine F.okX cp7 (fun cdv A outer s H vs Q E hr h=>?_)
 obtain⟨x,m,rfl,hx,hm,h1,h2⟩:=h
 refine⟨_,c9 (D6 (U1 (ai6 (al4 GI hr rfl FI.m FI.F.kp FI.b .nil D0 (a6 (pv 0) (a6 (pv 1) b7))))) (j3 (ac6 (by rfl) mN cN)) x9)
  (j3 (r6 (F3 an4 (by rfl) B.int (by rfl) (a6 (pv 0) b7)))),?_⟩
 refine⟨_,rfl,_,rfl,x,m,rfl,hx,fun H1 s1=>⟨_,rfl,?_⟩⟩
 cases e:okW m x.cps.toList with
 | false=>exact E7 (h2 e H1 s1)
 | true =>
  obtain⟨n,hn⟩:=bL7 hm e
  exact E8 ⟨_,rfl,x,n,rfl,hn,bo5 hm e,h1 e n H1 s1 hn⟩
end
theorem p60:(0:Int)<10 ^ (J1 60):=aZ3 (by decide)
theorem p50:(0:Int)<10 ^ (J1 50):=aZ3 (by decide)
section
variable {K:W.Frag} {mg:Str->Option Value} {base:Heap}
def bv3 (K:W.Frag):Sp:=fun vs H Q _=>∃ (a:Addr) (ns:List Int) (k:Nat),vs=[.ref a,.int k]/\SqL K H a (ns.map V.int)/\∀ r:Int,Q (.int r) H
theorem bW9:p9 ["script","k"] ["script","k"] (m9 aS8):=.mk'
theorem bL5 (F:Fun K "_law_cell_at" "_law_cell_at" aS8 f fd)(B:Bn mg):p0 P w K mg base CX0 1 f fd ["script","k"] (bv3 K):=by
 refine F.ok bW9 (fun cdv A outer s H vs Q E hr h=>?_)
 obtain⟨a,ns,k,rfl,hS,q⟩:=h
 refine⟨_,c9 (D6 (p5 ag6 (pv 1) (n9 o9 (by rfl) B.len PySem.boot_len (a6 (pv 0) b7)) (y9 _)) (j3 (r6 (B9 C3 (pv 0) (pv 1) (fun _ _=>rfl)))) x9)
  (j3 (r6 d6)),?_⟩
 refine⟨_,rfl,_,rfl,a,_,rfl,.inl hS,_,_,rfl,rfl,_,rfl,?_⟩
 refine ah4 (fun h=>?_) (fun h=>?_)
 ·have hl:k<ns.length:=by
   have:=of_decide_eq_true h
   rw[a5]at this
   omega
  refine⟨_,rfl,_,rfl,a,_,_,_,rfl,rfl,hS,p6 (j:=k) (v:=.int ns[k]) (by simp[hl]),?_⟩
  exact q _
 ·exact q _
def bQ4 (K:W.Frag):Sp:=fun vs H Q _=>∃ (c:Int) (m z:Nat),vs=[.int c,.int m,.int z]/\m<=300/\1<=z/\z<=100000000/\∀ (l:Addr) (ts:List Int) (H':Hp),ts.length=m->p8 H H'->H l=none->H' l=some (.lst (ts.map V.int))->Q (.ref l) H'
theorem an2:p9 ["cell","many","size","rest","stir","row","k"] ["cell","many","size"] (m9 bb4):=.mk'
theorem bi5 {ts:List Int}{z:Int}(hz:0<z)(hb:∀ t∈ts,0<=t/\t<z)(x:Int):∀ t∈ts++[x % z],0<=t/\t<z:=fun t ht=>by
 rcases m7.mp ht with h | h
 ·exact hb t h
 ·rw[j8.mp h]
  exact⟨F2 _ (by omega),C9 _ hz⟩
def bu2 (K:W.Frag):Sp:=fun vs H Q _=>∃ (c:Int) (m z:Nat),vs=[.int c,.int m,.int z]/\m<=300/\1<=z/\z<=100000000/\∀ (l:Addr) (ts:List Int) (H':Hp),ts.length=m->(∀ t∈ts,0<=t/\t<(z:Int))->p8 H H'->H l=none->H' l=some (.lst (ts.map V.int))->Q (.ref l) H'
theorem bi1 (F:Fun K "_law_row" "_law_row" bb4 f fd) (B:Bn mg):p0 P w K mg base CX0 1 f fd ["cell","many","size"] (bu2 K):=by
 refine F.ok an2 (fun cdv A outer s H vs Q E hr h=>?_)
 obtain⟨c,m,z,rfl,hm,hz1,hz2,q⟩:=h
 have hsl:=L1
 have hz0:(0:Int)<(z:Int):=by omega
 refine⟨_,c9 (v8 (i:=0) an2.nd rfl (Or.inl rfl) (o8 G0 (pv 0) (o8 aj3 d6 d6)))
  (c9 (v8 (i:=3) an2.nd rfl (Or.inl rfl) (o8 N5 (pv 0) d6))
  (c9 (v8 (i:=4) an2.nd rfl (Or.inl rfl) (pv 0))
  (c9 (v8 (i:=5) an2.nd rfl (Or.inl rfl) (P0 b7))
  (c9 (W2 PassesOwn.never rfl (S5 rfl B.range (a6 (pv 1) b7)) (B2 (i := 6) an2.nd rfl (Or.inl rfl))
   (j3 (D6 (p5 Q8 (o8 G0 (pv 0) d6) d6 (y9 _))
    (c9 (R4 (ac8 PySem.F.plainAttrs_list PySem.F.slot_list_append PySem.F.type_list_append Y0 (pv 5) (a6 (o8 G0 (pv 3) (pv 2)) b7)))
    (j3 (v8 (i:=3) an2.nd rfl (Or.inl rfl) (o8 N5 (pv 3) (pv 2)))))
    (c9 (v8 (i:=4) an2.nd rfl (Or.inl rfl) (o8 G0 (o8 L8 (o8 G0 (pv 4) d6) (o8 af3 d6 (o8 L8 (pv 6) d6))) d6))
    (c9 (v8 (i:=4) an2.nd rfl (Or.inl rfl) (o8 G0 (o8 af3 (pv 4) (pv 4)) d6))
    (c9 (v8 (i:=4) an2.nd rfl (Or.inl rfl) (o8 G0 (o8 af3 (pv 4) d6) d6))
    (j3 (R4 (ac8 PySem.F.plainAttrs_list PySem.F.slot_list_append PySem.F.type_list_append Y0 (pv 5) (a6 (o8 G0 (o8 N5 (pv 4) d6) (pv 2)) b7))))))))))
  (j3 (r6 (pv 5))))))),?_⟩
 refine⟨_,rfl,_,_,rfl,rfl,⟨by decide,by decide,by decide⟩,_,_,rfl,rfl,p60,?_⟩
 refine F4 fun c1 _=>?_
 refine⟨_,rfl,_,_,rfl,rfl,⟨by decide,by decide⟩,?_⟩
 refine F4 fun r0 _=>?_
 refine⟨_,rfl,?_⟩
 refine⟨by show 0<=d8;omega,fun l hl=>?_⟩
 have s0:=c8 (o:=.lst []) hl
 refine⟨_,rfl,m,rfl,by omega,by omega,S6 (lo:=0) (n:=m) (fun i σ H1=>∃ (ts:List Int) (r st:Int) (e6:Option V),σ=[some (.int c1),some (.int m),some (.int z),some (.int r),some (.int st),some (.ref l),e6]/\p8 H H1/\H1 l=some (.lst (ts.map V.int))/\ts.length=i/\∀ t∈ts,0<=t/\t<(z:Int))
  ⟨[],r0,c1,none,rfl,s0,a9,rfl,fun t h=>by cases h⟩ ?_ ?_⟩
 ·rintro i σ H1 hi ⟨ts,r,st,e6,rfl,s1,g1,hl1,hba⟩
  have e0:((0:Int)+(i:Int))=(i:Int):=by omega
  rw[e0]
  refine A2 ?_
  refine⟨_,rfl,_,_,rfl,rfl,(by show (0:Int)<2;decide),rfl,_,rfl,?_⟩
  refine ah4 (fun h=>?_) (fun h=>?_)
  ·refine⟨_,rfl,.inl ⟨rfl,_,SqL.of g1⟩,_,rfl,_,rfl,_,_,rfl,rfl,hz0,l,_,_,rfl,rfl,g1,by rw[a5];omega,?_⟩
   refine⟨_,rfl,_,rfl,_,_,rfl,rfl,⟨hz0,by omega⟩,?_⟩
   exact⟨ts++[r % (z:Int)],_,_,_,rfl,s1.upd hl,by rw[a9,g9];rfl,by rw[j2,hl1];rfl,bi5 hz0 hba _⟩
  ·refine⟨_,rfl,_,_,rfl,rfl,(by show (0:Int)<998244353;decide),_,rfl,_,_,rfl,rfl,_,_,rfl,rfl,.inl ⟨by decide,by decide⟩,_,_,rfl,rfl,_,_,rfl,rfl,(by show (0:Int)<2147483647;decide),?_⟩
   refine F4 fun k1 hk1=>?_
   have k10:0<=k1:=by rw[hk1];exact F2 _ (by decide)
   have k11:k1<2147483647:=by rw[hk1];exact C9 _ (by decide)
   clear hk1
   refine⟨_,rfl,_,rfl,_,_,rfl,rfl,.inl ⟨by omega,by omega⟩,_,_,rfl,rfl,(by show (0:Int)<2147483629;decide),?_⟩
   refine F4 fun k2 _=>?_
   refine⟨_,rfl,_,_,rfl,rfl,.inr ⟨by decide,by decide⟩,_,_,rfl,rfl,(by show (0:Int)<2147483647;decide),?_⟩
   refine F4 fun k3 _=>?_
   refine⟨_,rfl,.inl ⟨rfl,_,SqL.of g1⟩,_,rfl,_,_,rfl,rfl,⟨by decide,by decide⟩,_,rfl,_,_,rfl,rfl,hz0,l,_,_,rfl,rfl,g1,by rw[a5];omega,?_⟩
   exact⟨ts++[k3 / 7 % (z:Int)],_,_,_,rfl,s1.upd hl,by rw[a9,g9];rfl,by rw[j2,hl1];rfl,bi5 hz0 hba _⟩
 ·rintro σ H1 ⟨ts,r,st,e6,rfl,s1,g1,hl1,hba⟩
  exact⟨_,rfl,q l ts H1 hl1 hba s1 hl g1⟩
theorem bY5 (F:Fun K "_law_row" "_law_row" bb4 f fd)(B:Bn mg):p0 P w K mg base CX0 1 f fd ["cell","many","size"] (bQ4 K) :=
 (bi1 F B).imp fun vs H Q E ⟨c,m,z,e,h1,h2,h3,q⟩=>⟨c,m,z,e,h1,h2,h3,fun l ts H' a _=>q l ts H' a⟩
end
theorem bH2 (z:Int)(h:0<=z/\z<4):∃ v:Nat,atI ([.int 2,.int 2,.int 3,.int 5]:List V) z=some (.int (v:Int))/\1<=v/\v<=5:=by
 have:z=0\/z=1\/z=2\/z=3:=by omega
 rcases this with h | h | h | h<;>rw[h]
 ·exact⟨2,p6 (j:=0) rfl,by decide,by decide⟩
 ·exact⟨2,p6 (j:=1) rfl,by decide,by decide⟩
 ·exact⟨3,p6 (j:=2) rfl,by decide,by decide⟩
 ·exact⟨5,p6 (j:=3) rfl,by decide,by decide⟩
theorem sub_snoc {α:Type}{l m:List α}{x:α}(h:l.Sublist (m.take i))(hx:m[i]?=some x):(l++[x]).Sublist (m.take (i+1)):=by
 rw[o7,hx]
 exact List.Sublist.append h (List.Sublist.refl _)
theorem bt9 {α:Type}{l m:List α}(h:l.Sublist (m.take i)):l.Sublist (m.take (i+1)):=by
 rw[o7]
 exact h.trans (List.sublist_append_left _ _)
section
variable {K:W.Frag} {mg:Str->Option Value} {base:Heap}
def bu1 (K:W.Frag):Sp:=fun vs H Q _=>∃ (c:Int) (n:Nat),vs=[.int c,.int n]/\n<=24/\∀ (l:Addr) (zs:List V) (ks:List (List Int)) (H':Hp),p8 H H'->H l=none->H' l=some (.tup zs)->C1 K H' zs ks->ks.Sublist (Y3 n)->Q (.ref l) H'
theorem ao9:p9 ["cell","places","thin","pairs","one","other","row"] ["cell","places"] (m9 aS2):=.mk'
set_option maxHeartbeats 1000000 in
theorem bK6 {fR:Addr} (F:Fun K "_law_ties" "_law_ties" aS2 f fd) (B:Bn mg) (FR:Fq K mg "_law_row" bb4 fR fdR ["cell","many","size"]):p0 P w K mg base CX0 2 f fd ["cell","places"] (bu1 K):=by
 have GR:p0 P w K mg base CX0 1 fR fdR ["cell","many","size"] (bQ4 K):=bY5 FR.F B
 refine F.ok ao9 (fun cdv A outer s H vs Q E hr h=>?_)
 obtain⟨c,n,rfl,hn,q⟩:=h
 have hsl:=L1
 have hlen:=aJ3 n hn
 have nd3:(["k","pairs","row"]:List Str).Nodup:=by decide +kernel
 refine⟨_,c9 (v8 (i:=0) ao9.nd rfl (Or.inl rfl) (o8 G0 (pv 0) (o8 aj3 d6 d6)))
  (c9 (v8 (i:=2) ao9.nd rfl (Or.inl rfl) (B9 C3 (P0 (a6 d6 (a6 d6 (a6 d6 (a6 d6 b7))))) (o8 G0 (pv 0) d6) (fun _ _=>rfl)))
  (c9 (v8 (i:=3) ao9.nd rfl (Or.inr rfl) (P0 b7))
  (c9 (W2 PassesOwn.never rfl (S5 rfl B.range (a6 (pv 1) b7)) (B2 (i := 4) ao9.nd rfl (Or.inl rfl))
   (j3 (W2 PassesOwn.never rfl (au6 rfl B.range (a6 (o8 L8 (pv 4) d6) (a6 (pv 1) b7))) (B2 (i := 5) ao9.nd rfl (Or.inl rfl))
    (j3 (R4 (ac8 PySem.F.plainAttrs_list PySem.F.slot_list_append PySem.F.type_list_append Y0 (pv 3) (a6 (J7 (a6 (pv 4) (a6 (pv 5) b7))) b7)))))))
  (c9 (v8 (i:=6) ao9.nd rfl (Or.inr rfl) (A9 GR hr (by rfl) FR D0 (a6 (o8 N5 (pv 0) d6) (a6 (n9 o9 (by rfl) B.len PySem.boot_len (a6 (pv 3) b7)) (a6 (pv 2) b7)))))
  (j3 (r6 (F3 V8 (by rfl) B.tuple (by rfl) (a6 (N4 (N':=["k","pairs","row"]) (lk:=[none,some 3,some 6]) rfl (S5 rfl B.range (a6 (n9 o9 (by rfl) B.len PySem.boot_len (a6 (pv 3) b7)) b7)) (by rfl) rfl (by decide +kernel) (by exact⟨rfl,rfl,trivial⟩) (by rfl) (by exact LkL.ok ⟨⟨rfl,Or.inl rfl,rfl,Or.inl rfl⟩,⟨rfl,Or.inl rfl,rfl,Or.inl rfl⟩,trivial⟩)
    (fun _ _ _=>B2 (i:=0) nd3 rfl (Or.inl rfl)) (fun _ _ _=>al2 (p5 Q8 (af0 K rfl (pv 2) (pv 0) (fun _ _=>rfl)) d6 (y9 _))) (fun _ _ _=>af0 K rfl (pv 1) (pv 0) (fun _ _=>rfl))) b7)))))))),?_⟩
 refine⟨_,rfl,_,_,rfl,rfl,⟨by decide,by decide,by decide⟩,_,_,rfl,rfl,p60,?_⟩
 refine F4 fun c1 _=>?_
 obtain⟨v,hv,hv1,hv2⟩:=bH2 (c1 % 4) ⟨F2 _ (by decide),C9 _ (by decide)⟩
 refine⟨(by show 4<=d8;decide),fun l3 f3=>?_⟩
 have s3:=c8 (o:=.lst [.int 2,.int 2,.int 3,.int 5]) f3
 refine⟨_,rfl,_,_,rfl,rfl,(by show (0:Int)<4;decide),l3,_,_,_,rfl,rfl,SqL.of a9,hv,?_⟩
 refine⟨by show 0<=d8;omega,fun l hl'=>?_⟩
 have hl:H l=none:=s3.free hl'
 have s03:=s3.trans (c8 (o:=.lst []) hl')
 have gl0:(upd (upd H l3 (.lst [.int 2,.int 2,.int 3,.int 5])) l (.lst [])) l=some (.lst []):=a9
 generalize upd (upd H l3 (.lst [.int 2,.int 2,.int 3,.int 5])) l (.lst [])=H0 at s03 gl0
 refine⟨_,rfl,n,rfl,by omega,by omega,S6 (lo:=0) (n:=n) (fun i σ H1=>∃ a b zs,σ=[some (.int c1),some (.int n),some (.int v),some (.ref l),a,b,none]/\p8 H H1/\H1 l=some (.lst zs)/\C1 K H1 zs ((A5 i).flatMap fun j=>am6 j (n - (j+1))))
  ⟨none,none,[],rfl,s03,gl0,.nil⟩ ?_ ?_⟩
 ·rintro i σ H1 hi ⟨a,b,zs,rfl,s1,h1,t1⟩
  refine⟨_,rfl,_,_,rfl,rfl,_,rfl,_,_,rfl,⟨by omega,by omega,by omega,by omega⟩,S6 (lo:=0+(i:Int)+1) (fun d σ H2=>∃ b zs,σ=[some (.int c1),some (.int n),some (.int v),some (.ref l),some (.int (0+i)),b,none]/\p8 H H2/\H2 l=some (.lst zs)/\C1 K H2 zs (((A5 i).flatMap fun j=>am6 j (n - (j+1)))++am6 i d))
   ⟨b,zs,rfl,s1,h1,by simpa [am6] using t1⟩ ?_ ?_⟩
  ·rintro d σ H2 hd ⟨b,zs,rfl,s2,h2,t2⟩
   have hlz:=t2.len
   have hpart:=bz5 n (i+1) (by omega)
   rw[aB9,j2]at hpart
   have hrow:∀ m,(am6 i m).length=m:=fun m=>by simp[am6]
   rw[j2,hrow]at hlz
   rw[hrow]at hpart
   refine⟨_,rfl,.inl ⟨rfl,_,SqL.of h2⟩,_,rfl,_,rfl,(by show 2<=d8;decide),fun p hp=>?_⟩
   have hlp:l≠p:=y7 h2 hp
   have h2':(upd H2 p (.tup [.int (0+(i:Int)),.int (0+(i:Int)+1+(d:Int))])) l=some (.lst zs):=by rw[x8 hlp];exact h2
   refine⟨l,zs,_,rfl,rfl,h2',by omega,?_⟩
   refine⟨_,_,rfl,(s2.trans (c8 hp)).upd hl,a9,?_⟩
   rw[bn3,<- v9]
   refine C1.updL h2' (C1.append (p8.tups (c8 hp) t2) (C1.one (SqT.of ?_)))
   rw[a9]
   simp
  ·rintro σ H2 ⟨b,zs,rfl,s2,h2,t2⟩
   refine⟨_,_,zs,rfl,s2,h2,?_⟩
   rw[aB9]
   have e:((n:Int) - (0+(i:Int)+1)).toNat=n - (i+1):=by omega
   rw[e]at t2
   exact t2
 ·rintro σ H1 ⟨a,b,zs,rfl,s1,h1,t1⟩
  replace t1:C1 K H1 zs (Y3 n):=t1
  have hzl:=t1.len
  refine⟨_,rfl,_,_,rfl,rfl,⟨by decide,by decide⟩,_,rfl,l,_,rfl,.inl (SqL.of h1),_,rfl,c1 / 4,zs.length,v,rfl,by omega,hv1,by omega,fun rl ts H4 htl s4 fr g4=>?_⟩
  have t4:=s4.tups t1
  have g4l:=s4 _ _ h1
  have s04:=s1.trans s4
  refine⟨_,rfl,l,_,rfl,.inl (SqL.of g4l),(zs.length:Int),rfl,by omega,by omega,fun D hD=>?_⟩
  rw[j6]
  refine ap5 (lo:=0) (n:=zs.length) (D:=D) (fun i xs σ' H'=>(∃ v,σ'=[v,some (.ref l),some (.ref rl)])/\p8 H4 H'/\H' D=some (.lst xs)/\xs.length<=i/\∃ ks,C1 K H' xs ks/\ks.Sublist ((Y3 n).take i))
   ⟨⟨none,rfl⟩,c8 hD,a9,c6 _,[],.nil,List.nil_sublist _⟩ (by omega) (fun i xs σ' H' hi ⟨_,_,g,l',_⟩=>⟨g,l'⟩) ?_ ?_
  ·rintro i xs σ' H' N kN hi ⟨⟨v',rfl⟩,s6,h6,hxl,ks,t6,sb⟩
   have e0:((0:Int)+(i:Int))=(i:Int):=by omega
   rw[e0]
   refine A2 ?_
   have hti:i<ts.length:=by omega
   refine⟨_,rfl,_,rfl,.inl ⟨rl,_,_,_,rfl,rfl,SqL.of (s6 _ _ g4),af9 hti,rfl,_,rfl,?_⟩⟩
   refine ah4 (fun h=>?_) (fun h=>?_)
   ·obtain⟨y,hy⟩:∃ y,zs[i]?=some y:=⟨_,f9 hi⟩
    obtain⟨pa,pk,rfl,hk',hq⟩:=t4.get hy
    refine⟨_,rfl,_,rfl,.inl ⟨l,_,_,_,rfl,rfl,SqL.of (s6 _ _ g4l),p6 hy,h6,kN _ _ _ ⟨⟨_,rfl⟩,s6.upd hD,a9,by rw[j2,M4];omega,ks++[pk],C1.updL h6 (C1.append t6 (C1.one (s6.seqT hq))),sub_snoc sb hk'⟩⟩⟩
   ·exact kN _ _ _ ⟨⟨_,rfl⟩,s6,h6,by omega,ks,t6,bt9 sb⟩
  ·rintro xs σ' H5 ⟨⟨v',rfl⟩,s6,h6,hxl,ks,t6,sb⟩
   refine⟨D,_,rfl,.inl ⟨SqL.of h6,fun tl ft=>?_⟩⟩
   have s7:=c8 (o:=.tup xs) ft
   exact q tl xs ks _ ((s04.trans s6).trans s7) ((s04.trans s6).free ft) a9 (s7.tups t6) (sb.trans (E1 _ _))
end
structure Tld (n:Nat) (ks:List (List Int)):Prop where
 ups:∀ k∈ks,Up n k
 nd:ks.Nodup
 srt:ks.Pairwise (fun a b=>Tim.L9 b a=false)
structure Tl (z:Int) (n:Nat) (ks:List (List Int)):Prop where
 z:z=n
 n1:1<=n
 n2:n<=24
 t:Tld n ks
theorem aK1:((" ":Str).length == 0)=false:=by decide +kernel
theorem bC5:(("-":Str).length == 0)=false:=by decide +kernel
theorem aZ7 (x y:Str):∃ v r,Txt.split x y=v::r:=by
 have:=(split_len x y).1
 cases e:Txt.split x y with
 | nil=>rw[e]at this;exact absurd this (by decide)
 | cons v r=>exact⟨v,r,rfl⟩
theorem bm3 {y v:Str}{r:List Str}(e:Txt.split x y=v::r)(hx:x.length<=5000):v.length<=5000/\(∀ u∈r,u.length<=5000)/\r.length<=5001:=by
 have h:∀ u∈v::r,u.length<=5000:=fun u hu=>t9 (al0 (x:=x) (y:=y) (by rw[e];exact hu)).1 hx
 have h2:=(split_len x y).2
 rw[e,i9]at h2
 exact⟨h v c7,fun u hu=>h u (b8 _ hu),by omega⟩
theorem bu0 {ws:List Str}{x:V}(h:(ws.map V.str)[i]?=some x):∃ u∈ws,ws[i]?=some u/\x=.str u:=by
 rw[o6]at h
 cases e:ws[i]? with
 | none=>rw[e]at h;cases h
 | some u=>rw[e]at h;cases h;exact⟨u,b9 e,rfl,rfl⟩
theorem cn4 (v:Str)(r:List Str):as1 ((v::r).map V.str) (some 1) none=r.map V.str:=av3 ((v::r).map V.str) 1
theorem bH8 {a b:Str}{c:Bool}(h:decide ((V.str a:V)=.str b)=c):(c=true↔a=b):=by
 rw[<- h,decide_eq_true_iff,V.str.injEq]
def bm8 (q:Nat × Nat):List Int:=[(q.1:Int),(q.2:Int)]
def ab3 (r:List Str)(ks:List (List Int)):Prop:=∃ qs:List (Nat × Nat),r.map Z3=qs.map some/\ks=qs.map bm8
theorem ab3.len {r:List Str}(h:ab3 r ks):ks.length=r.length:=by
 obtain⟨qs,h1,rfl⟩:=h
 have:=congrArg ad6 h1
 rw[a5,a5]at this
 rw[a5,this]
theorem ab3.nil:ab3 [] []:=⟨[],rfl,rfl⟩
theorem ab3.uniq {r:List Str}{js:List (List Int)}(h:ab3 r ks)(g:ab3 r js):ks=js:=by
 obtain⟨qs,h1,rfl⟩:=h
 obtain⟨ps,g1,rfl⟩:=g
 rw[h1]at g1
 have:qs=ps:=by
  clear h1
  induction qs generalizing ps with
  | nil=>cases ps with
   | nil=>rfl
   | cons p ps=>cases g1
  | cons q qs ih=>cases ps with
   | nil=>cases g1
   | cons p ps =>
    rw[n6,n6]at g1
    injection g1 with e1 e2
    injection e1 with e1
    rw[e1,ih ps e2]
 rw[this]
theorem ab3.none {r:List Str}{u:Str}(h:ab3 r ks)(hu:u∈r)(e:Z3 u=none):False:=by
 obtain⟨qs,h1,_⟩:=h
 have:Z3 u∈r.map Z3:=k9.mpr ⟨u,hu,rfl⟩
 rw[h1,e]at this
 obtain⟨q,_,z⟩:=k9.mp this
 cases z
def bO5 (x:Str)(n:Nat)(ks:List (List Int)):Prop:=∃ r,Txt.split x " "=("web":Str)::r/\ab3 r ks/\Tl n n ks
def N9 (z:Int):Str:=Str.ofString (toString z)
def am5:List Int->Str
 | [a,b]=>N9 a++"-"++N9 b
 | _=>Str.empty
def L7 (ks:List (List Int)):Str:=Str.join " " (("web":Str)::ks.map am5)
theorem aC6 {z:Int}(h:0<=z/\z<100):z.natAbs.log2<1920/\(N9 z).length<=2/\U7 (N9 z):=by
 refine⟨?_,PyProof.Rows.toString_length_le h.1 (by decide) (by show z<10 ^ 2;omega),bk8 h.1⟩
 by_cases h0:z.natAbs=0
 ·rw[h0];decide
 ·exact(Nat.log2_lt h0).mpr (o4 (m:=128) (by omega) (by decide +kernel))
theorem aU8:("-":Str).length=1:=by decide +kernel
theorem O9:(" ":Str).length=1:=by decide +kernel
theorem bi6:("web":Str).length=3:=by decide +kernel
theorem bD5 {s:Str}(h:(s.cps.toList.all fun c=>decide (c<128))=true):U7 s:=fun c hc=>of_decide_eq_true (A6.mp h c hc)
theorem br3:U7 (" ":Str):=bD5 (by decide +kernel)
theorem bD4:U7 ("-":Str):=bD5 (by decide +kernel)
theorem bO3:U7 ("web":Str):=bD5 (by decide +kernel)
def SmK (ks:List (List Int)):Prop:=∀ k∈ks,∃ a b:Int,k=[a,b]/\(0<=a/\a<100)/\0<=b/\b<100
theorem bg2 (h:∃ a b:Int,k=[a,b]/\(0<=a/\a<100)/\0<=b/\b<100):(am5 k).length<=5/\U7 (am5 k):=by
 obtain⟨a,b,rfl,ha,hb⟩:=h
 obtain⟨_,a1,a2⟩:=aC6 ha
 obtain⟨_,b1,b2⟩:=aC6 hb
 refine⟨?_,az8 (az8 a2 bD4) b2⟩
 show (N9 a++"-"++N9 b).length<=5
 rw[len_app,len_app,aU8]
 omega
theorem aM5 (h:SmK ks)(hl:ks.length<=300):(L7 ks).length<=2000/\U7 (L7 ks):=by
 have hall:∀ u∈(("web":Str)::ks.map am5),u.length<=5/\U7 u:=fun u hu=>by
  rcases c5.mp hu with e | e
  ·rw[e];exact⟨by rw[bi6];decide,bO3⟩
  ·obtain⟨k,hk,rfl⟩:=k9.mp e
   exact bg2 (h k hk)
 have h1:=ab0 (y:=" ") (xs:=("web":Str)::ks.map am5) (m:=5) (n:=301) (fun u hu=>(hall u hu).1) (by rw[i9,a5];omega) (by rw[O9];decide)
 have e:Txt.join " " (("web":Str)::ks.map am5)=L7 ks:=PySem.StrLaws.glued_eq_join _ _
 rw[O9,e]at h1
 refine⟨by have:=h1.2;omega,?_⟩
 rw[<- e]
 exact bA6 br3 fun u hu=>(hall u hu).2
seal L2.PE L2.PA L2.PS L2.PSs L2.PT
section
variable {K:W.Frag} {mg:Str->Option Value} {base:Heap}
def ch6 (K:W.Frag):Sp:=fun vs H Q _=>∃ (p t:Addr) (n:Int) (zs:List V) (ks:List (List Int)),vs=[.ref p]/\H p=some (.tup [.int n,.ref t])/\H t=some (.tup zs)/\C1 K H zs ks/\SmK ks/\ks.length<=300/\∀ H',p8 H H'->Q (.str (L7 ks)) H'
theorem cp2:p9 ["web"] ["web"] (m9 aS1):=.mk'
theorem ck6 (F:Fun K "web_text" "web_text" aS1 f fd) (B:Bn mg):p0 P w K mg base CX0 1 f fd ["web"] (ch6 K):=by
 refine F.ok cp2 (fun cdv A outer s H vs Q E hr h=>?_)
 obtain⟨p,t,n,zs,ks,rfl,gp,gt,tt,hs,hl,q⟩:=h
 have hsl:d8=16777216:=x6
 have nd2:(["one","other"]:List Str).Nodup:=by decide +kernel
 have hzl:=tt.len
 refine⟨_,j3 (r6 (ac8 PySem.F.plainAttrs_str PySem.F.slot_str_join PySem.F.type_str_join ay5 C8 (a6 (o8 aC3 (P0 (a6 C8 b7))
   (N4 (N' := ["one", "other"]) (lk := [none, none]) rfl (aN0 (B9 J8 (pv 0) d6 (fun _ _ => rfl))) (by rfl) rfl (by decide +kernel) (by exact trivial) (by rfl) (by exact LkL.ok trivial)
    (fun _ _ _=>bh5 (n:=2) K rfl rfl (ac7 (B2 (i:=0) nd2 rfl (Or.inl rfl)) (ac7 (B2 (i:=1) nd2 rfl (Or.inl rfl)) aN1))) (fun _ _ _=>P2) (fun _ _ _=>bJ5 (pv 0) (pv 1) (by rw[aU8];decide)))) b7))),?_⟩
 refine⟨rfl,(by show 1<=d8;decide),fun l2 f2=>?_⟩
 have s2:=c8 (o:=.lst [.str "web"]) f2
 have g2:(upd H l2 (.lst [.str "web"])) l2=some (.lst [.str "web"]):=a9
 generalize upd H l2 (.lst [.str "web"])=H2 at s2 g2
 have gt2:=s2 _ _ gt
 have tt2:=s2.tups tt
 refine⟨_,rfl,p,_,_,_,rfl,rfl,SqT.of (s2 _ _ gp),p6 (j:=1) rfl,t,rfl,⟨_,SqT.of gt2⟩,fun D hD=>aE5 (K:=K) (a:=t) (D:=D) (ys:=zs) (fun i xs σ' H'=>(∃ v u,σ'=[v,u])/\p8 H2 H'/\H' D=some (.lst xs)/\xs=((ks.take i).map am5).map V.str) ⟨⟨none,none,rfl⟩,c8 hD,a9,by rw[K1];rfl⟩ (by omega)
  (fun i xs σ' H' hi ⟨_,s3,g3,e3⟩=>⟨SqT.of (s3 _ _ gt2),g3,by rw[e3,a5,a5,k8];omega⟩) ?_ ?_⟩
 ·rintro i xs y σ' H' N kN hy ⟨⟨_,_,rfl⟩,s3,g3,rfl⟩
  obtain⟨a,k,rfl,hk,hq⟩:=tt2.get hy
  obtain⟨u,v,rfl,hu,hv⟩:=hs k (b9 hk)
  obtain⟨u1,u2,_⟩:=aC6 hu
  obtain⟨v1,v2,_⟩:=aC6 hv
  have u3:(Str.ofString (toString u)).length<=2:=u2
  have v3:(Str.ofString (toString v)).length<=2:=v2
  refine⟨a,_,rfl,s3.seqT hq,rfl,_,_,rfl,_,_,rfl,rfl,K5 ?_⟩
  refine⟨_,rfl,u,rfl,u1,by omega,_,rfl,v,rfl,v1,by omega,g3,kN _ _ _ ⟨⟨_,_,rfl⟩,s3.upd hD,a9,?_⟩⟩
  rw[o7,hk,g9,g9]
  rfl
 ·rintro xs σ' H3 ⟨⟨_,_,rfl⟩,s3,g3,rfl⟩
  rw[k7 (by omega)]at g3
  refine⟨l2,D,_,_,rfl,rfl,s3 _ _ g2,g3,by rw[a5,a5];show 1+ks.length<=d8;omega,fun l4 f4=>?_⟩
  have s4:=c8 (o:=.lst ([.str "web"]++(ks.map am5).map V.str)) f4
  have h1:=ab0 (y:=" ") (xs:=("web":Str)::ks.map am5) (m:=5) (n:=301) (fun u hu=>by
   rcases c5.mp hu with e | e
   ·rw[e,bi6];decide
   ·obtain⟨k,hk,rfl⟩:=k9.mp e
    exact(bg2 (hs k hk)).1) (by rw[i9,a5];omega) (by rw[O9];decide)
  refine⟨" ",l4,("web":Str)::ks.map am5,rfl,rfl,SqL.of (by rw[a9];rfl),h1.1,?_⟩
  rw[show Txt.join " " (("web":Str)::ks.map am5)=L7 ks from PySem.StrLaws.glued_eq_join _ _]
  exact q _ ((s2.trans s3).trans s4)
end
end Web
namespace Web
open PySem L2
theorem bM4 {a b c d:Int}(h:Tim.L9 [c,d] [a,b]=false)(hne:([a,b]:List Int)≠[c,d]):HT.lexLt [a,b] [c,d]=true:=by
 unfold Tim.L9 Tim.L9 at h
 rw[HT.af5]
 by_cases e1:c=a
 ·rw[if_pos e1]at h
  rw[if_pos e1.symm,HT.af5]
  by_cases e2:d=b
  ·exact absurd (by rw[e1,e2]) hne
  ·rw[if_neg e2]at h
   rw[if_neg (Ne.symm e2)]
   have:=of_decide_eq_false h
   exact decide_eq_true (by omega)
 ·rw[if_neg e1]at h
  rw[if_neg (Ne.symm e1)]
  have:=of_decide_eq_false h
  exact decide_eq_true (by omega)
theorem bp2 {c d:Int}(h:0<=c):HT.lexLt [-1,-1] [c,d]=true:=by
 rw[HT.af5,if_neg (by omega)]
 exact decide_eq_true (by omega)
def aJ5 (ks:List (List Int)):Nat->List Int
 | 0=>[-1,-1]
 | i+1=>ks.getD i []
theorem bM6 (T:Tld n ks)(h:ks[i]?=some k):HT.lexLt (aJ5 ks i) k=true/\(aJ5 ks i).length=2:=by
 obtain⟨u,v,_,_,rfl⟩:=T.ups k (b9 h)
 cases i with
 | zero=>exact⟨bp2 (by omega),rfl⟩
 | succ i =>
  have hil:i+1<ks.length:=(d5.mp h).1
  have e1:ks[i]?=some ks[i]:=f9 (by omega)
  have el:aJ5 ks (i+1)=ks[i]:=by show ks.getD i []=_;rw[i8,e1];rfl
  have e2:ks[i+1]=[(u:Int),(v:Int)]:=by
   have:=f9 hil
   rw[h]at this
   exact(Option.some.inj this).symm
  have p1:=p7.mp T.srt i (i+1) (by omega) hil (by omega)
  have p2:=p7.mp T.nd i (i+1) (by omega) hil (by omega)
  obtain⟨a,b,_,_,e3⟩:=T.ups ks[i] (Q1 _)
  rw[el]
  rw[e2]at p1 p2
  rw[e3]at p1 p2 ⊢
  exact⟨bM4 p1 p2,rfl⟩
theorem cm1 (a b c d:Int):HT.lexLt [a,b] [c,d]=Tim.L9 [a,b] [c,d]:=by
 unfold HT.lexLt Tim.L9 HT.lexLt Tim.L9
 by_cases h:a=c
 ·rw[if_pos h,if_pos h]
  by_cases g:b=d
  ·rw[if_pos g,if_pos g]
   rfl
  ·rw[if_neg g,if_neg g]
 ·rw[if_neg h,if_neg h]
theorem bx0 {α:Type}{R:α->α->Prop}(tr:∀ a b c,R a b->R b c->R a c):∀ l:List α,(∀ (m:Nat) (a b:α),l[m]?=some a->l[m+1]?=some b->R a b)->l.Pairwise R
 | [],_=>.nil
 | x::l,h=>by
  have ih:=bx0 tr l fun m a b e1 e2=>h (m+1) a b (by simpa using e1) (by simpa using e2)
  refine E9.mpr ⟨?_,ih⟩
  cases l with
  | nil=>intro y hy;cases hy
  | cons y l =>
   have hxy:=h 0 x y rfl rfl
   intro z hz
   rcases c5.mp hz with e | e
   ·rw[e];exact hxy
   ·exact tr _ _ _ hxy ((E9.mp ih).1 z e)
theorem bH0 (hu:∀ k∈ks,Up n k)(h:∀ (m:Nat) (a b:List Int),ks[m]?=some a->ks[m+1]?=some b->HT.lexLt a b=true):Tld n ks:=by
 have hA:Asc ks:=bx0 (fun a b c=>Tim.ar7 a b c) ks fun m a b e1 e2=>by
  have hl:=h m a b e1 e2
  obtain⟨i,j,_,_,rfl⟩:=hu a (b9 e1)
  obtain⟨u,v,_,_,rfl⟩:=hu b (b9 e2)
  rw[cm1]at hl
  exact hl
 refine⟨hu,br2 hA,List.Pairwise.imp (fun {a b} e=>?_) hA⟩
 cases g:Tim.L9 b a with
 | false=>rfl
 | true =>
  have:=Tim.ar7 _ _ _ e g
  rw[Tim.ar8]at this
  cases this
theorem bH1 {q:Nat × Nat}(h:Z3 x=some q):q.1<q.2:=by
 unfold Z3 at h
 split at h
 ·split at h
  ·next e =>
   cases h
   rw[n8,decide_eq_true_iff]at e
   exact e.2
  ·cases h
 ·cases h
theorem bt2 {a b:Str}(e:Txt.split x "-"=[a,b]):Z3 x=if (Z4 2 a.cps.toList && Z4 2 b.cps.toList && decide (W3 a.cps.toList<W3 b.cps.toList))=true then some (W3 a.cps.toList,W3 b.cps.toList) else none:=by
 unfold Z3
 rw[e]
theorem bt3 (e:(Txt.split x "-").length≠2):Z3 x=none:=by
 unfold Z3
 split
 ·next e'=>rw[e']at e;exact absurd rfl e
 ·rfl
theorem ab3.lt {r:List Str}(h:ab3 r ks):∀ k∈ks,∃ i j:Nat,i<j/\k=[(i:Int),(j:Int)]:=by
 obtain⟨qs,h1,rfl⟩:=h
 intro k hk
 obtain⟨q,hq,rfl⟩:=k9.mp hk
 have:some q∈r.map Z3:=by rw[h1];exact k9.mpr ⟨q,hq,rfl⟩
 obtain⟨u,_,e⟩:=k9.mp this
 exact⟨q.1,q.2,bH1 e,rfl⟩
inductive OTs (K:W.Frag) (H:Hp):List V->List (Option (Nat × Nat))->Prop
 | nil:OTs K H [] []
 | no {zs os}:OTs K H zs os->OTs K H (zs++[.non]) (os++[none])
 | yes {zs os a q}:OTs K H zs os->SqT K H a ((bm8 q).map V.int)->OTs K H (zs++[.ref a]) (os++[some q])
theorem OTs.same {K:W.Frag}{zs:List V}{os:List (Option (Nat × Nat))}(h:OTs K H zs os)(s:p8 H H'):OTs K H' zs os:=by
 induction h with
 | nil=>exact .nil
 | no _ ih=>exact .no ih
 | yes _ hq ih=>exact .yes ih (s.seqT hq)
theorem OTs.len {K:W.Frag}{zs:List V}{os:List (Option (Nat × Nat))}(h:OTs K H zs os):zs.length=os.length:=by
 induction h with
 | nil=>rfl
 | no _ ih=>rw[j2,j2,ih];rfl
 | yes _ _ ih=>rw[j2,j2,ih];rfl
def oD:Option (Nat × Nat)->ae1
 | none=>.none
 | some q=>.tuple [.int (q.1:Int),.int (q.2:Int)]
theorem av2 {K:W.Frag}:∀ {ds es:List ae1} {zs ys:List V},C0 K H ds zs->C0 K H es ys->C0 K H (ds++es) (zs++ys)
 | [],es,zs,ys,h,g=>by
  have:zs=[]:=by simpa [C0] using h
  subst this
  exact g
 | d::ds,es,zs,ys,h,g=>by
  unfold C0 at h
  obtain⟨z,zs',rfl,hz,hr⟩:=h
  show C0 K H (d::(ds++es)) (z::(zs'++ys))
  exact .mkC hz (av2 hr g)
theorem OTs.dt {K:W.Frag}{zs:List V}{os:List (Option (Nat × Nat))}(h:OTs K H zs os):C0 K H (os.map oD) zs:=by
 induction h with
 | nil=>exact .mkN
 | no _ ih=>rw[g9];exact av2 ih (.mkC (by unfold Dt;rfl) .mkN)
 | yes _ hq ih=>rw[g9];exact av2 ih (.mkC (Dt.mkT hq (.mkC .mkInt (.mkC .mkInt .mkN))) .mkN)
theorem bc4:∀ os:List (Option (Nat × Nat)),PyData.canLayAll0 (os.map oD)=true
 | []=>by simp[PyData.canLayAll0]
 | none::os=>by simp[PyData.canLayAll0,oD,PyData.canLay0,bc4 os]
 | some q::os=>by simp[PyData.canLayAll0,oD,PyData.canLay0,bc4 os]
theorem bZ6 (os:List (Option (Nat × Nat))):((os.map oD).any fun d=>PyData.eqv d .none)=os.any bf5:=by
 rw[List.any_map]
 congr 1
 funext o
 cases o with
 | none=>simp[oD,PyData.eqv]
 | some q=>simp[oD,PyData.eqv]
theorem OTs.ties {K:W.Frag}{zs:List V}{os:List (Option (Nat × Nat))}(h:OTs K H zs os)(hn:os.any bf5=false):∃ qs:List (Nat × Nat),os=qs.map some/\C1 K H zs (qs.map bm8):=by
 induction h with
 | nil=>exact⟨[],rfl,.nil⟩
 | no _ _=>rw[List.any_append]at hn;simp at hn
 | @yes zs os a q _ hq ih =>
  rw[List.any_append,bF1]at hn
  obtain⟨qs,rfl,ht⟩:=ih hn.1
  refine⟨qs++[q],by rw[g9];rfl,?_⟩
  rw[g9]
  exact C1.append ht (C1.one hq)
seal L2.PE L2.PA L2.PS L2.PSs L2.PT
section
variable {K:W.Frag} {mg:Str->Option Value} {base:Heap}
def bQ8:Sp:=fun vs H Q _=>∃ (x:Str),vs=[.str x,.int 2]/\x.length<=5000/\U7 x/\(Z4 2 x.cps.toList=true->∀ H',p8 H H'->Q (.int (W3 x.cps.toList:Int)) H')/\(Z4 2 x.cps.toList=false->∀ H',p8 H H'->Q .non H')
theorem cj1:p9 ["word","most"] ["word","most"] (m9 bw6):=.mk'
set_option maxHeartbeats 1000000 in
theorem bZ3 (F:Fun K "_law_figures" "_law_figures" bw6 f fd)(B:Bn mg):p0 P w K mg base CX0 1 f fd ["word","most"] bQ8:=by
 refine F.ok cj1 (fun cdv A outer s H vs Q E hr h=>?_)
 obtain⟨y,rfl,hx,aY,q1,q2⟩:=h
 have hsl:d8=16777216:=x6
 have hun:=hr.units
 have nd1:(["sign"]:List Str).Nodup:=by decide +kernel
 refine⟨_,c9 (D6 (PW.pt (ag5 (U1 (ai7 aj4 aj4 d6 (n9 aE9 (by rfl) B.len PySem.boot_len (a6 (pv 0) b7)) (pv 1)))
    (ab6 (p5 by1 (N4 (N':=["sign"]) (lk:=[none]) rfl (bx4 (pv 0)) (by rfl) rfl (by decide +kernel) (by exact trivial) (by rfl) (by exact LkL.ok trivial)
      (fun _ _ _=>B2 (i:=0) nd1 rfl (Or.inl rfl)) (fun _ _ _=>al2 (p5 aN4 (pv 0) C8 (by rfl))) (fun _ _ _=>pv 0)) (P0 b7) (y9 _))))) (j3 (r6 P8)) x9)
  (c9 (D6 (PW.pt (bb8 (p5 Q8 (aw2 (pv 0) d6 (fun _ _=>rfl)) C8 (y9 _)) (aM7 (p5 by3 (n9 aE9 (by rfl) B.len PySem.boot_len (a6 (pv 0) b7)) d6 (y9 _))))) (j3 (r6 P8)) x9)
  (j3 (r6 (F3 an4 (by rfl) B.int (by rfl) (a6 (pv 0) b7))))),?_⟩
 have lY:=F8 y
 refine⟨_,rfl,_,_,rfl,⟨by omega,rfl⟩,_,_,rfl,rfl,_,rfl,?_⟩
 by_cases h1:(1:Int)<=(y.length:Int)
 ·rw[decide_eq_true h1]
  refine E7 ⟨_,rfl,_,_,rfl,rfl,_,rfl,?_⟩
  by_cases h2:(y.length:Int)<=2
  ·rw[decide_eq_true h2]
   refine E8 ⟨_,rfl,y,rfl,fun D hD=>aX3 (x:=y) (D:=D) (fun i xs σ' H'=>(∃ v,σ'=[v])/\p8 H H'/\H' D=some (.lst xs)/\xs=((y.cps.toList.take i).filter fun c=>!isD c).map fun c=>V.str ⟨#[c]⟩)
    ⟨⟨none,rfl⟩,c8 hD,a9,by rw[K1];rfl⟩ (by omega) (fun i xs σ' H' hi ⟨_,s2,g2,e2⟩=>⟨g2,by rw[e2,a5];exact t9 (M8 ..) (by rw[k8];omega)⟩) ?_ ?_⟩
   ·rintro i xs c σ' H' N kN hc ⟨⟨v,rfl⟩,s2,g2,rfl⟩
    refine⟨_,rfl,_,_,rfl,rfl,_,rfl,?_⟩
    have e5:(y.cps.toList.take (i+1))=y.cps.toList.take i++[c]:=by rw[o7,hc];rfl
    have e6:(!(!(Builtin.Str.occurrences ("0123456789":Str) ⟨#[c]⟩ 0 ("0123456789":Str).length 1).isEmpty))=!isD c:=by rw[bB7]
    rw[e6]
    cases e:isD c with
    | true =>
     refine E8 (kN _ _ _ ⟨⟨_,rfl⟩,s2,g2,?_⟩)
     rw[e5,M7,an1 (by rw[e];decide),as8,G9]
    | false =>
     refine E7 ⟨_,rfl,g2,kN _ _ _ ⟨⟨_,rfl⟩,s2.upd hD,a9,?_⟩⟩
     rw[e5,M7,an0 (by rw[e];rfl),as8,g9]
     rfl
   ·rintro xs σ' H1 ⟨⟨v,rfl⟩,s1,g1,rfl⟩
    rw[<- F8,L6]at g1
    refine⟨by show 0<=d8;omega,fun l4 f4=>?_⟩
    have s4:=c8 (o:=.lst []) f4
    refine⟨_,.list [],dtS (SqL.of (s4 _ _ g1)),Dt.mkL (SqL.of a9) .mkN,cq3 (fun c hc=>aY c ((G7.mp hc).1)),by simp[PyData.canLay0,PyData.canLayAll0],?_,_,rfl,?_⟩
    ·exact bP8 hun (t9 (Nat.min_le_left _ _) (t9 (cr1 _) (by decide)))
    have s14:=s1.trans s4
    show if (!PyData.eqv _ _)=true then _ else _
    rw[cr0]
    have e0:Z4 2 y.cps.toList=(y.cps.toList.all isD && (!decide (y.cps.toList.head?=some 48) || decide (y.cps.toList.length=1))):=by
     unfold Z4
     rw[decide_eq_true (show 1<=y.cps.toList.length by omega),decide_eq_true (show y.cps.toList.length<=2 by omega)]
     rfl
    by_cases e3:y.cps.toList.all isD=true
    ·have ef:(y.cps.toList.filter fun c=>!isD c)=[]:=by
      rw[aq0]
      intro c hc
      rw[A6.mp e3 c hc]
      decide
     rw[ef]
     refine E8 ?_
     rw[e3,S4]at e0
     have hl:0<y.cps.toList.length:=by omega
     obtain⟨c,l',ec⟩:∃ c l,y.cps.toList=c::l:=by
      cases e:y.cps.toList with
      | nil=>rw[e]at hl;exact absurd hl (by decide)
      | cons c l=>exact⟨c,l,rfl⟩
     have fin:Z4 2 y.cps.toList=true->∃ n,PySem.intText? y=some n/\y.length<=640/\Q (.int n) (upd H1 l4 (.lst [])):=fun e=>⟨_,bj5 e (by decide),by omega,q1 e _ s14⟩
     refine⟨_,rfl,y,0,c,rfl,rfl,by decide,by decide,(by show (0:Int)<(y.length:Int);omega),(by rw[<- d3,ec];rfl),rfl,_,rfl,?_⟩
     rw[aT8]
     have eh:decide (y.cps.toList.head?=some 48)=decide (c=48):=by
      rw[ec,G8,decide_eq_true_iff,decide_eq_true_iff]
      exact Option.some.injEq ..  |>.to_iff
     rw[eh]at e0
     by_cases h48:c=48
     ·rw[decide_eq_true h48]at e0 ⊢
      refine E7 ⟨_,rfl,_,_,rfl,⟨by omega,rfl⟩,_,_,rfl,rfl,_,rfl,?_⟩
      by_cases h3:(1:Int)<(y.length:Int)
      ·rw[decide_eq_true h3]
       refine E7 (q2 ?_ _ s14)
       rw[e0,decide_eq_false (show ¬ y.cps.toList.length=1 by omega)]
       rfl
      ·rw[decide_eq_false h3]
       obtain⟨n,hn,hl,hq⟩:=fin (by rw[e0,decide_eq_true (show y.cps.toList.length=1 by omega),aL0])
       exact E8 ⟨_,rfl,y,n,rfl,hn,hl,hq⟩
     ·rw[decide_eq_false h48]at e0 ⊢
      obtain⟨n,hn,hl,hq⟩:=fin (by rw[e0];rfl)
      exact E8 (E8 ⟨_,rfl,y,n,rfl,hn,hl,hq⟩)
    ·have ef:(y.cps.toList.filter fun c=>!isD c).isEmpty=false:=by
      rw[List.isEmpty_eq_false_iff]
      intro z
      refine e3 (A6.mpr fun c hc=>?_)
      rw[aq0]at z
      have:=z c hc
      revert this
      cases isD c<;>simp
     rw[ef]
     refine E7 (q2 ?_ _ s14)
     rw[e0,Bool.eq_false_iff.mpr e3,D7]
  ·rw[decide_eq_false h2]
   refine E7 (q2 ?_ H (p8.refl H))
   unfold Z4
   rw[decide_eq_false (show ¬ y.cps.toList.length<=2 by omega),ah9,D7,D7]
 ·rw[decide_eq_false h1]
  refine E8 ⟨_,rfl,E7 (q2 ?_ H (p8.refl H))⟩
  unfold Z4
  rw[decide_eq_false (show ¬ 1<=y.cps.toList.length by omega),D7,D7,D7]
end
theorem bc2 (K:W.Frag)(hK:X.K=K):OpR X (C4 .In) (rIn K false):=by subst hK;exact bo3
section
variable {K:W.Frag} {mg:Str->Option Value} {base:Heap}
def ba4:Sp:=fun vs H Q _=>∃ (x:Str),vs=[.str x]/\x.length<=5000/\U7 x/\(∀ q,Z3 x=some q->∀ (t:Addr) (H':Hp),p8 H H'->H' t=some (.tup ((bm8 q).map V.int))->Q (.ref t) H')/\(Z3 x=none->∀ H',p8 H H'->Q .non H')
theorem bb3:p9 ["word","parts","ends"] ["word"] (m9 bw0):=.mk'
theorem bK9 {fG:Addr}{fdG:FuncData}(F:Fun K "_law_tie" "_law_tie" bw0 f fd)(B:Bn mg)(FG:Fq K mg "_law_figures" bw6 fG fdG ["word","most"]):p0 P w K mg base CX0 2 f fd ["word"] ba4:=by
 have GG:p0 P w K mg base CX0 1 fG fdG ["word","most"] bQ8:=bZ3 FG.F B
 refine F.ok bb3 (fun cdv A outer s H vs Q E hr h=>?_)
 obtain⟨x,rfl,hx,hA,q1,q2⟩:=h
 have hsl:d8=16777216:=x6
 refine⟨_,c9 (v8 (i:=1) bb3.nd rfl (Or.inl rfl) (ac8 PySem.F.plainAttrs_str PySem.F.slot_str_split PySem.F.type_str_split ar6 (pv 0) (a6 C8 b7)))
  (c9 (D6 (p5 aw5 (n9 o9 (by rfl) B.len PySem.boot_len (a6 (pv 1) b7)) d6 (y9 _)) (j3 (r6 P8)) x9)
  (c9 (v8 (i:=2) bb3.nd rfl (Or.inl rfl) (J7 (a6 (A9 GG hr (by rfl) FG D0 (a6 (B9 C3 (pv 1) d6 (fun _ _=>rfl)) (a6 d6 b7))) (a6 (A9 GG hr (by rfl) FG D0 (a6 (B9 C3 (pv 1) d6 (fun _ _=>rfl)) (a6 d6 b7))) b7))))
  (c9 (D6 (PW.pt (ag5 (p5 (bc2 K rfl) P8 (pv 2) (by rfl)) (ab6 (U1 (p5 ag6 (B9 J8 (pv 2) d6 (fun _ _=>rfl)) (B9 J8 (pv 2) d6 (fun _ _=>rfl)) (y9 _)))))) (j3 (r6 P8)) x9)
  (j3 (r6 (pv 2)))))),?_⟩
 have h2:=split_len x "-"
 refine⟨_,rfl,rfl,x,_,rfl,rfl,bC5,by omega,by omega,fun l fl=>?_⟩
 have s1:=c8 (o:=.lst ((Txt.split x "-").map V.str)) fl
 have g1:(upd H l (.lst ((Txt.split x "-").map V.str))) l=some (.lst ((Txt.split x "-").map V.str)):=a9
 generalize upd H l (.lst ((Txt.split x "-").map V.str))=H1 at s1 g1
 refine⟨_,rfl,l,_,rfl,.inl (SqL.of g1),rfl,_,rfl,?_⟩
 by_cases e2:(Txt.split x "-").length=2
 ·have hd:decide ((V.int (((Txt.split x "-").map V.str).length:Nat):V)=.int 2)=true:=by rw[decide_eq_true_iff,a5,e2];rfl
  rw[hd]
  refine E8 ?_
  obtain⟨a,b,eab⟩:∃ a b,Txt.split x "-"=[a,b]:=by
   match h:Txt.split x "-",e2 with
   | [a,b],_=>exact⟨a,b,rfl⟩
  have ha:=al0 (x:=x) (y:="-") (p:=a) (by rw[eab];simp)
  have hb:=al0 (x:=x) (y:="-") (p:=b) (by rw[eab];simp)
  have eW:=bt2 eab
  rw[eab]at g1
  have no:(Z4 2 a.cps.toList && Z4 2 b.cps.toList && decide (W3 a.cps.toList<W3 b.cps.toList))≠true->∀ H',p8 H1 H'->Q .non H':=fun h H' s'=>q2 (by rw[eW,if_neg h]) H' (s1.trans s')
  have n2:(2:Nat)<=d8:=by omega
  have no1:Z4 2 a.cps.toList=false->∀ H',p8 H1 H'->Q .non H':=fun f H' s'=>no (by rw[f];simp) H' s'
  have no2:Z4 2 b.cps.toList=false->∀ H',p8 H1 H'->Q .non H':=fun f H' s'=>no (by rw[f];simp) H' s'
  have hb':b.length<=5000:=by omega
  refine⟨_,rfl,l,_,_,_,rfl,rfl,SqL.of g1,p6 (j:=0) rfl,a,rfl,by omega,ha.2 hA,fun fa H2 s2=>?_,fun fa H2 s2=>?_⟩
  ·refine⟨_,rfl,l,_,_,_,rfl,rfl,SqL.of (s2 _ _ g1),p6 (j:=1) rfl,b,rfl,hb',hb.2 hA,fun fb H3 s3=>⟨n2,fun t ft=>?_⟩,fun fb H3 s3=>⟨n2,fun t ft=>?_⟩⟩
   ·have s4:=c8 (o:=.tup [.int (W3 a.cps.toList:Int),.int (W3 b.cps.toList:Int)]) ft
    have s14:=(s2.trans s3).trans s4
    refine⟨_,rfl,t,_,rfl,.inr (SqT.of a9),rfl,rfl,_,rfl,E8 ?_⟩
    refine⟨_,rfl,t,_,_,_,rfl,rfl,SqT.of a9,p6 (j:=0) rfl,_,rfl,t,_,_,_,rfl,rfl,SqT.of a9,p6 (j:=1) rfl,_,_,rfl,rfl,_,rfl,?_⟩
    by_cases hlt:W3 a.cps.toList<W3 b.cps.toList
    ·rw[decide_eq_true (show (W3 a.cps.toList:Int)<(W3 b.cps.toList:Int) by omega)]
     exact E8 ⟨_,rfl,q1 (W3 a.cps.toList,W3 b.cps.toList) (by rw[eW,if_pos (by rw[fa,fb,decide_eq_true hlt];rfl)]) t _ (s1.trans s14) a9⟩
    ·rw[decide_eq_false (show ¬ (W3 a.cps.toList:Int)<(W3 b.cps.toList:Int) by omega)]
     exact E7 (no (by rw[decide_eq_false hlt];simp) _ s14)
   ·exact⟨_,rfl,t,_,rfl,.inr (SqT.of a9),rfl,rfl,_,rfl,E7 (E7 (no2 fb _ ((s2.trans s3).trans (c8 ft))))⟩
  ·refine⟨_,rfl,l,_,_,_,rfl,rfl,SqL.of (s2 _ _ g1),p6 (j:=1) rfl,b,rfl,hb',hb.2 hA,fun fb H3 s3=>⟨n2,fun t ft=>?_⟩,fun fb H3 s3=>⟨n2,fun t ft=>?_⟩⟩
   ·exact⟨_,rfl,t,_,rfl,.inr (SqT.of a9),rfl,rfl,_,rfl,E7 (E7 (no1 fa _ ((s2.trans s3).trans (c8 ft))))⟩
   ·exact⟨_,rfl,t,_,rfl,.inr (SqT.of a9),rfl,rfl,_,rfl,E7 (E7 (no1 fa _ ((s2.trans s3).trans (c8 ft))))⟩
 ·have hd:decide ((V.int (((Txt.split x "-").map V.str).length:Nat):V)=.int 2)=false:=by
   rw[decide_eq_false_iff_not,a5]
   intro z
   rw[V.int.injEq]at z
   omega
  rw[hd]
  exact E7 (q2 (bt3 e2) _ s1)
end
theorem OTs.updL {K:W.Frag}{D:Addr}{ws zs:List V}{os:List (Option (Nat × Nat))}(h:OTs K H zs os)(g:H D=some (.lst ws)):OTs K (upd H D (.lst ys)) zs os:=by
 induction h with
 | nil=>exact .nil
 | no _ ih=>exact .no ih
 | yes _ hq ih=>exact .yes ih (hq.updL g)
section
variable {K:W.Frag} {mg:Str->Option Value} {base:Heap}
def bH9 (K:W.Frag):Sp:=fun vs H Q _=>∃ (x:Str) (n:Nat),vs=[.str x,.int n]/\1<=n/\n<=24/\x.length<=5000/\U7 x/\(∀ ks,bO5 x n ks->∀ (p t:Addr) (zs:List V) (H':Hp),p8 H H'->H' p=some (.tup [.int n,.ref t])->H' t=some (.tup zs)->C1 K H' zs ks->Q (.ref p) H')/\((¬ ∃ ks,bO5 x n ks)->∀ H',p8 H H'->Q .non H')
theorem bI1:p9 ["row","places","words","ties","k"] ["row","places"] (m9 au1):=.mk'
set_option maxHeartbeats 1000000 in
theorem ck7 (F:Fun K "_law_web_of" "_law_web_of" au1 f fd) (B:Bn mg) (FT:Fq K mg "_law_tie" bw0 fT fdT ["word"]) (GT:p0 P w K mg base CX0 2 fT fdT ["word"] ba4):p0 P w K mg base CX0 3 f fd ["row","places"] (bH9 K):=by
 refine F.ok bI1 (fun cdv A outer s H vs Q E hr h=>?_)
 obtain⟨x,n,rfl,n1,n2,hx,hA,q,qn⟩:=h
 have hsl:d8=16777216:=x6
 have hun:=hr.units
 have hu8:=aG4 (ap9 _ 64) hr.units
 have nd1:(["word"]:List Str).Nodup:=by decide +kernel
 refine⟨_,c9 (v8 (i:=2) bI1.nd rfl (Or.inl rfl) (ac8 PySem.F.plainAttrs_str PySem.F.slot_str_split PySem.F.type_str_split ar6 (pv 0) (a6 C8 b7)))
  (c9 (ay2 (i := 3) bI1.nd rfl rfl (by rfl) (N' := ["word"]) (lk := [none]) rfl (P3 (N8 U0 (pv 2) (Q3 d6) U2)) (by rfl) rfl (by decide +kernel) (by exact trivial) (by rfl) (by exact LkL.ok trivial)
   (fun _ _ _=>B2 (i:=0) nd1 rfl (Or.inl rfl)) (fun _ _ _=>P2) (fun _ _ _=>A9 GT hr (by rfl) FT D0 (a6 (pv 0) b7)))
  (c9 (D6 (PW.pt (ag5 (p5 aw5 (B9 C3 (pv 2) d6 (fun _ _=>rfl)) C8 (y9 _)) (ab6 (p5 (bh9 K hr.around rfl rfl) P8 (pv 3) (by rfl))))) (j3 (r6 P8)) x9)
  (c9 (W2 PassesOwn.never rfl (S5 rfl B.range (a6 (n9 o9 (by rfl) B.len PySem.boot_len (a6 (pv 3) b7)) b7)) (B2 (i := 4) bI1.nd rfl (Or.inl rfl))
   (j3 (D6 (PW.pt (ag5 (p5 by5 (B9 J8 (B9 C3 (pv 3) (pv 4) (fun _ _=>rfl)) d6 (fun _ _=>rfl)) (pv 1) (y9 _)) (ab6 (PW.pt (bb8 (p5 by3 (pv 4) d6 (y9 _)) (aM7 (U1 (p5 (bY3 hu8) (B9 C3 (pv 3) (o8 ab7 (pv 4) d6) (fun _ _=>rfl)) (B9 C3 (pv 3) (pv 4) (fun _ _=>rfl)) (y9 _))))))))) (j3 (r6 P8)) x9)))
  (j3 (r6 (J7 (a6 (pv 1) (a6 (F3 V8 (by rfl) B.tuple (by rfl) (a6 (pv 3) b7)) b7)))))))),?_⟩
 obtain⟨v,r,ew⟩:=aZ7 x " "
 obtain⟨hv,hr',hrl⟩:=bm3 ew hx
 have hrA:∀ u∈r,U7 u:=fun u hu=>(al0 (x:=x) (y:=" ") (by rw[ew];exact b8 _ hu)).2 hA
 refine⟨_,rfl,rfl,x,_,rfl,rfl,aK1,by omega,by rw[ew,i9];omega,fun l fl=>?_⟩
 rw[ew]
 have s1:=c8 (o:=.lst ((v::r).map V.str)) fl
 have g1:(upd H l (.lst ((v::r).map V.str))) l=some (.lst ((v::r).map V.str)):=a9
 generalize upd H l (.lst ((v::r).map V.str))=H1 at s1 g1
 have a0:atI ((v::r).map V.str) 0=some (.str v):=p6 (j:=0) rfl
 refine⟨_,rfl,_,rfl,l,_,rfl,SqL.of g1,fun l2 f2=>?_⟩
 rw[cn4]
 have s2:=c8 (o:=.lst (r.map V.str)) f2
 have g2:(upd H1 l2 (.lst (r.map V.str))) l2=some (.lst (r.map V.str)):=a9
 generalize upd H1 l2 (.lst (r.map V.str))=H2 at s2 g2
 refine⟨l2,rfl,⟨_,SqL.of g2⟩,fun D hD=>M3 (K:=K) (a:=l2) (D:=D) (ys:=r.map V.str) (fun i xs σ' H'=>(∃ v,σ'=[v])/\p8 H2 H'/\H' D=some (.lst xs)/\OTs K H' xs ((r.take i).map Z3)) ⟨⟨none,rfl⟩,c8 hD,a9,by rw[K1];exact .nil⟩ (by rw[a5];omega)
  (fun i xs σ' H' hi ⟨_,s3,g3,t3⟩=>⟨SqL.of (s3 _ _ g2),g3,by have:=t3.len;rw[a5,k8]at this;omega⟩) ?_ ?_⟩
 ·rintro i xs y σ' H' N kN hy ⟨⟨_,rfl⟩,s3,g3,t3⟩
  obtain⟨u,hu,eu,rfl⟩:=bu0 hy
  have htk:(r.take (i+1)).map Z3=(r.take i).map Z3++[Z3 u]:=by rw[o7,eu,g9];rfl
  refine A2 (K5 ?_)
  refine⟨_,rfl,u,rfl,hr' u hu,hrA u hu,fun qq eq t H4 s4 gt=>?_,fun en H4 s4=>?_⟩
  ·have g4:=s4 _ _ g3
   refine⟨g4,kN _ _ _ ⟨⟨_,rfl⟩,(s3.trans s4).upd hD,a9,?_⟩⟩
   rw[htk,eq]
   have hDt:D≠t:=fun z=>by rw[z,gt]at g4;cases g4
   have t4:=t3.same s4
   exact .yes (t4.updL g4) (SqT.of (by rw[x8 (Ne.symm hDt)];exact gt))
  ·have g4:=s4 _ _ g3
   refine⟨g4,kN _ _ _ ⟨⟨_,rfl⟩,(s3.trans s4).upd hD,a9,?_⟩⟩
   rw[htk,en]
   exact .no ((t3.same s4).updL g4)
 ·rintro xs σ' H3 ⟨⟨_,rfl⟩,s3,g3,t3⟩
  rw[a5,L6]at t3
  have s13:=(s1.trans s2).trans s3
  have g1':=(s2.trans s3) _ _ g1
  refine⟨_,rfl,l,_,_,_,rfl,rfl,SqL.of g1',a0,rfl,_,rfl,ah4 (fun hc=>?_) (fun hc=>?_)⟩
  ·refine E7 (qn (fun⟨ks,r',e',_⟩=>?_) _ s13)
   rw[ew]at e'
   cases e'
   exact absurd hc (by decide +kernel)
  have hvw:v="web":=by
   cases e:decide ((V.str v:V)=.str "web") with
   | true=>exact(bH8 e).mp rfl
   | false=>rw[e]at hc;exact absurd rfl hc
  subst hvw
  refine⟨_,rfl,D,_,.none,_,rfl,.inl (SqL.of g3),by unfold Dt;rfl,t3.dt,by simp[PyData.canLay0],bc4 _,aL6 hun (by simp[PyData.depth]),_,rfl,?_⟩
  show if (((r.map Z3).map oD).any fun d=>PyData.eqv d .none)=true then _ else _
  rw[bZ6]
  cases eN:(r.map Z3).any bf5 with
  | true =>
   refine E7 (qn (fun⟨ks,r',e',hR,_⟩=>?_) _ s13)
   rw[ew]at e'
   cases e'
   obtain⟨o,ho,eo⟩:=List.any_eq_true.mp eN
   obtain⟨u,hu,rfl⟩:=k9.mp ho
   exact hR.none hu (Option.isNone_iff_eq_none.mp eo)
  | false =>
   obtain⟨qs,eqs,tt⟩:=t3.ties eN
   have hR:ab3 r (qs.map bm8):=⟨qs,eqs,rfl⟩
   generalize qs.map bm8=ks at tt hR
   have hlt:=hR.lt
   have hkl:=tt.len
   have hno:(¬ Tl n n ks)->∀ H',p8 H3 H'->Q .non H':=fun hT H' s'=>qn (fun⟨ks',r',e',hR',hT'⟩=>by
    rw[ew]at e'
    cases e'
    rw[hR'.uniq hR]at hT'
    exact hT hT') H' (s13.trans s')
   refine E8 ⟨_,rfl,D,_,rfl,.inl (SqL.of g3),ks.length,by rw[hkl],by omega,by have:=hR.len;omega,S6 (lo:=0) (n:=ks.length) (fun i σ H2=>∃ e4,σ=[some (.str x),some (.int n),some (.ref l),some (.ref D),e4]/\H2=H3/\∀ (m:Nat) (k:List Int),m<i->ks[m]?=some k->Up n k/\(0<m->HT.lexLt (aJ5 ks m) k=true)) ⟨none,rfl,rfl,fun m k h=>absurd h (by omega)⟩ ?_ ?_⟩
   ·rintro i σ H4 hi ⟨e4,rfl,rfl,hm⟩
    have e0:((0:Int)+(i:Int))=(i:Int):=by omega
    rw[e0]
    refine A2 ?_
    have ek:ks[i]?=some ks[i]:=f9 hi
    obtain⟨b,kk,hb1,hb2,hb3⟩:∃ b kk,xs[i]?=some (.ref b)/\ks[i]?=some kk/\SqT K H4 b (kk.map V.int):=by
     have hxi:xs[i]?=some xs[i]:=f9 (by omega)
     obtain⟨b,kk,e1,e2,e3⟩:=tt.get hxi
     exact⟨b,kk,by rw[hxi,e1],e2,e3⟩
    rw[ek]at hb2
    obtain⟨p,j,hpj,ekk⟩:=hlt _ (Q1 hi)
    have hb2:kk=[(p:Int),(j:Int)]:=by rw[<- ekk];exact(Option.some.inj hb2).symm
    subst hb2
    have ek':ks[i]?=some [(p:Int),(j:Int)]:=by rw[ek,ekk]
    refine⟨_,rfl,_,rfl,D,_,_,_,rfl,rfl,SqL.of g3,p6 hb1,b,_,_,_,rfl,rfl,hb3,p6 (j:=1) rfl,_,rfl,_,_,rfl,rfl,_,rfl,?_⟩
    by_cases hjn:(n:Int)<=(j:Int)
    ·rw[decide_eq_true hjn]
     refine E7 (E7 (hno (fun hT=>?_) _ (p8.refl _)))
     obtain⟨i',j',_,hj',e⟩:=hT.t.ups _ (b9 ek')
     injection e with _ e
     injection e with e _
     omega
    ·rw[decide_eq_false hjn]
     have hUp:Up n [(p:Int),(j:Int)]:=⟨p,j,hpj,by omega,rfl⟩
     refine E8 ⟨_,rfl,_,_,rfl,rfl,_,rfl,?_⟩
     by_cases hi0:(0:Int)<(i:Int)
     ·rw[decide_eq_true hi0]
      obtain⟨c,mm,hc1,hc2,hc3⟩:∃ c mm,xs[i - 1]?=some (.ref c)/\ks[i - 1]?=some mm/\SqT K H4 c (mm.map V.int):=by
       have hxi:xs[i - 1]?=some xs[i - 1]:=f9 (by omega)
       obtain⟨b,kk,e1,e2,e3⟩:=tt.get hxi
       exact⟨b,kk,by rw[hxi,e1],e2,e3⟩
      have el:aJ5 ks i=mm:=by
       obtain⟨i',rfl⟩:∃ i',i=i'+1:=⟨i - 1,by omega⟩
       show ks.getD i' []=mm
       rw[i8,show ks[i']?=some mm from hc2]
       rfl
      have e9:((i:Int) - 1)=((i - 1:Nat):Int):=by omega
      refine E7 ⟨_,rfl,_,rfl,_,_,rfl,rfl,D,_,_,_,rfl,rfl,SqL.of g3,by rw[e9];exact p6 hc1,_,rfl,_,rfl,D,_,_,_,rfl,rfl,SqL.of g3,p6 hb1,c,b,_,_,rfl,rfl,hc3,hb3,_,rfl,?_⟩
      cases hL:HT.lexLt mm [(p:Int),(j:Int)] with
      | true =>
       refine E8 ⟨_,rfl,rfl,fun m k hmi hk=>?_⟩
       rcases D8 m i with z | z
       ·exact hm m k z hk
       ·have:m=i:=by omega
        subst this
        rw[ek']at hk
        cases hk
        exact⟨hUp,fun _=>by rw[el];exact hL⟩
      | false =>
       refine E7 (hno (fun hT=>?_) _ (p8.refl _))
       have:=(bM6 hT.t ek').1
       rw[el,hL]at this
       cases this
     ·rw[decide_eq_false hi0]
      refine E8 (E8 ⟨_,rfl,rfl,fun m k hmi hk=>?_⟩)
      have hm0:m=0:=by omega
      have hii:i=0:=by omega
      subst hm0
      subst hii
      rw[ek']at hk
      cases hk
      exact⟨hUp,fun h=>absurd h (by omega)⟩
   ·rintro σ H4 ⟨e4,rfl,rfl,hm⟩
    have hUps:∀ k∈ks,Up n k:=fun k hk=>by
     obtain⟨m,hm',e⟩:=bP4 hk
     exact(hm m k hm' (by rw[f9 hm',e])).1
    have hT:Tl n n ks:=⟨rfl,n1,n2,bH0 hUps fun m a b ea eb=>by
     have h:=(hm (m+1) b (d5.mp eb).1 eb).2 (by omega)
     have:aJ5 ks (m+1)=a:=by show ks.getD m []=a;rw[i8,ea];rfl
     rw[this]at h
     exact h⟩
    refine⟨_,rfl,_,rfl,D,_,rfl,.inl ⟨SqL.of g3,fun t ft=>⟨by show 2<=d8;omega,fun p fp=>?_⟩⟩⟩
    have s4:=c8 (o:=.tup xs) ft
    have s5:=c8 (o:=.tup [.int n,.ref t]) fp
    exact q ks ⟨r,ew,hR,hT⟩ p t xs _ ((s13.trans s4).trans s5) a9 (s5 _ _ a9) (s5.tups (s4.tups tt))
end
end Web
namespace L2
open PySem PySem.Spec PyProof.Rows PySem.Builtin PySem.Builtin.Str
theorem bq8:S7 X (.type "str") (fun xs H Q=>(∃ i,xs=[.int i]/\i.natAbs.log2<1920/\Q (.str (toString i)) H)\/∃ x,xs=[.str x]/\Q (.str x) H):=by
 intro pins s σ H xs us Q I r h
 rcases h with h | ⟨x,rfl,q⟩
 ·exact X7 pins s σ H xs us Q I r h
 ·obtain⟨u,rfl,t,rfl⟩:=vals1 r
  exact PySem.P.str_of_str ⟨.str x,H,I,⟨t,rfl⟩,q⟩
end L2
namespace Web
open PySem L2
def vT:V->Str
 | .str x=>x
 | .int i=>N9 i
 | _=>Str.empty
def bE0 (v:V):Prop:=(∃ x,v=.str x/\x.length<=100)\/∃ i:Int,v=.int i/\i.natAbs.log2<1920/\(N9 i).length<=100
theorem aM8 {v:V}(h:bE0 v):(vT v).length<=100:=by
 rcases h with⟨x,rfl,h⟩ | ⟨i,rfl,_,h⟩<;>exact h
seal L2.PE L2.PA L2.PS L2.PSs L2.PT
section
variable {K:W.Frag} {mg:Str->Option Value} {base:Heap}
def ch9 (K:W.Frag):Sp:=fun vs H Q _=>∃ (p:Addr) (xs:List V),vs=[.ref p]/\SqT K H p xs/\(∀ v∈xs,bE0 v)/\xs.length<=30/\∀ H',p8 H H'->Q (.str (Str.join " " (xs.map vT))) H'
theorem cp4:p9 ["parts"] ["parts"] (m9 aS3):=.mk'
theorem cl0 (F:Fun K "row_text" "row_text" aS3 f fd) (B:Bn mg):p0 P w K mg base CX0 1 f fd ["parts"] (ch9 K):=by
 refine F.ok cp4 (fun cdv A outer s H vs Q E hr h=>?_)
 obtain⟨p,ys,rfl,hS,hp,hl,q⟩:=h
 have hsl:d8=16777216:=x6
 have nd1:(["part"]:List Str).Nodup:=by decide +kernel
 refine⟨_,j3 (r6 (ac8 PySem.F.plainAttrs_str PySem.F.slot_str_join PySem.F.type_str_join ay5 C8 (a6
   (N4 (N' := ["part"]) (lk := [none]) rfl (aN0 (pv 0)) (by rfl) rfl (by decide +kernel) (by exact trivial) (by rfl) (by exact LkL.ok trivial)
    (fun _ _ _=>B2 (i:=0) nd1 rfl (Or.inl rfl)) (fun _ _ _=>P2) (fun _ _ _=>F3 bq8 (by rfl) B.str (by rfl) (a6 (pv 0) b7))) b7))),?_⟩
 refine⟨rfl,_,rfl,p,rfl,⟨_,hS⟩,fun D hD=>aE5 (K:=K) (a:=p) (D:=D) (ys:=ys) (fun i xs σ' H'=>(∃ v,σ'=[v])/\p8 H H'/\H' D=some (.lst xs)/\xs=((ys.take i).map vT).map V.str) ⟨⟨none,rfl⟩,c8 hD,a9,by rw[K1];rfl⟩ (by omega)
  (fun i xs σ' H' hi ⟨_,s3,g3,e3⟩=>⟨s3.seqT hS,g3,by rw[e3,a5,a5,k8];omega⟩) ?_ ?_⟩
 ·rintro i xs y σ' H' N kN hy ⟨⟨_,rfl⟩,s3,g3,rfl⟩
  have hm:=b9 hy
  have ek:(ys.take (i+1)).map vT=(ys.take i).map vT++[vT y]:=by rw[o7,hy,g9];rfl
  refine A2 (K5 ?_)
  rcases hp y hm with⟨x,rfl,_⟩ | ⟨z,rfl,hz,_⟩
  ·exact⟨_,rfl,.inr ⟨x,rfl,g3,kN _ _ _ ⟨⟨_,rfl⟩,s3.upd hD,a9,by rw[ek,g9];rfl⟩⟩⟩
  ·exact⟨_,rfl,.inl ⟨z,rfl,hz,g3,kN _ _ _ ⟨⟨_,rfl⟩,s3.upd hD,a9,by rw[ek,g9];rfl⟩⟩⟩
 ·rintro xs σ' H3 ⟨⟨_,rfl⟩,s3,g3,rfl⟩
  rw[L6]at g3
  have h1:=ab0 (y:=" ") (xs:=ys.map vT) (m:=100) (n:=30) (fun u hu=>by
   obtain⟨v,hv,rfl⟩:=k9.mp hu
   exact aM8 (hp v hv)) (by rw[a5];exact hl) (by rw[O9];decide)
  refine⟨" ",D,ys.map vT,rfl,rfl,SqL.of g3,h1.1,?_⟩
  rw[show Txt.join " " (ys.map vT)=Str.join " " (ys.map vT) from StrLaws.glued_eq_join _ _]
  exact q _ s3
end
end Web
namespace Web
open PySem L2
def qT (w:Str)(ns:List Int):Str:=Str.join " " (w::ns.map N9)
def Nm (z:Int):Prop:=z.natAbs<10 ^ 51
theorem bi3 {z:Int}(h:Nm z):z.natAbs.log2<1920/\(N9 z).length<=52/\U7 (N9 z)/\32∉(N9 z).cps.toList:=by
 refine⟨?_,?_,?_,fun hc=>(PyProof.Rows.intText_free_32 z).mp hc⟩
 ·by_cases h0:z.natAbs=0
  ·rw[h0];decide
  ·exact(Nat.log2_lt h0).mpr (o4 h (by decide +kernel))
 ·cases z with
  | ofNat m =>
   have:=al6 (m:=m) (k:=51) (by decide) h
   have:=(az0 this).2.1
   show (Str.ofString (toString (m:Int))).length<=52
   rw[<- F8]
   omega
  | negSucc m =>
   have:=al6 (m:=m+1) (k:=51) (by decide) h
   have:=(az0 this).2.1
   show (Str.ofString (toString (-((m+1:Nat):Int)))).length<=52
   rw[<- F8,aN6,i9]
   omega
 ·cases z with
  | ofNat m=>exact bk8 (by exact ce3 m)
  | negSucc m =>
   intro c hc
   have hc':c∈(Str.ofString (toString (-((m+1:Nat):Int)))).cps.toList:=hc
   rw[aN6]at hc'
   rcases c5.mp hc' with e | e
   ·omega
   ·have:=aC5 (m+1) c e
    omega
theorem bQ3:(" ":Str)=⟨#[32]⟩:=by decide +kernel
theorem bJ0 {w:Str}(hw:32∉w.cps.toList)(h:∀ z∈ns,Nm z):Txt.split (qT w ns) " "=w::ns.map N9:=by
 unfold qT
 rw[bQ3]
 exact ae7 (c:=32) w (ns.map N9) fun u hu=>by
  rcases c5.mp hu with e | e
  ·rw[e];exact hw
  ·obtain⟨z,hz,rfl⟩:=k9.mp e
   exact(bi3 (h z hz)).2.2.2
theorem bR7 {w:Str}(hw:w.length<=52)(h:∀ z∈ns,Nm z)(hl:ns.length<=26):JoinOk " " (w::ns.map N9)=true/\(qT w ns).length<=2000:=by
 have h1:=ab0 (y:=" ") (xs:=w::ns.map N9) (m:=52) (n:=27) (fun u hu=>by
  rcases c5.mp hu with e | e
  ·rw[e];exact hw
  ·obtain⟨z,hz,rfl⟩:=k9.mp e
   exact(bi3 (h z hz)).2.1) (by rw[i9,a5];omega) (by rw[O9];decide)
 refine⟨h1.1,?_⟩
 have:=h1.2
 rw[O9,show Txt.join " " (w::ns.map N9)=qT w ns from StrLaws.glued_eq_join _ _]at this
 omega
seal L2.PE L2.PA L2.PS L2.PSs L2.PT
section
variable {K:W.Frag} {mg:Str->Option Value} {base:Heap}
def bu3 (K:W.Frag):Sp:=fun vs H Q _=>∃ (v:Str) (a:Addr) (ns:List Int),vs=[.str v,.ref a]/\v.length<=52/\SqL K H a (ns.map V.int)/\(∀ z∈ns,Nm z)/\ns.length<=26/\∀ H',p8 H H'->Q (.str (qT v ns)) H'
theorem bW6:p9 ["word","numbers"] ["word","numbers"] (m9 aS4):=.mk'
theorem bK7 (F:Fun K "_law_numbers" "_law_numbers" aS4 f fd) (B:Bn mg):p0 P w K mg base CX0 1 f fd ["word","numbers"] (bu3 K):=by
 refine F.ok bW6 (fun cdv A outer s H vs Q E hr h=>?_)
 obtain⟨v,a,ns,rfl,hv,hS,hn,hl,q⟩:=h
 have hsl:d8=16777216:=x6
 have nd1:(["number"]:List Str).Nodup:=by decide +kernel
 refine⟨_,j3 (r6 (ac8 PySem.F.plainAttrs_str PySem.F.slot_str_join PySem.F.type_str_join ay5 C8 (a6 (o8 aC3 (P0 (a6 (pv 0) b7))
   (N4 (N' := ["number"]) (lk := [none]) rfl (P3 (pv 1)) (by rfl) rfl (by decide +kernel) (by exact trivial) (by rfl) (by exact LkL.ok trivial)
    (fun _ _ _=>B2 (i:=0) nd1 rfl (Or.inl rfl)) (fun _ _ _=>P2) (fun _ _ _=>F3 X7 (by rfl) B.str (by rfl) (a6 (pv 0) b7)))) b7))),?_⟩
 refine⟨rfl,_,rfl,(by show 1<=d8;decide),fun l2 f2=>?_⟩
 have s2:=c8 (o:=.lst [.str v]) f2
 have g2:(upd H l2 (.lst [.str v])) l2=some (.lst [.str v]):=a9
 have hS2:=s2.seq hS
 generalize upd H l2 (.lst [.str v])=H2 at s2 g2 hS2
 refine⟨_,rfl,a,rfl,⟨_,hS2⟩,fun D hD=>M3 (K:=K) (a:=a) (D:=D) (ys:=ns.map V.int) (fun i xs σ' H'=>(∃ v,σ'=[v])/\p8 H2 H'/\H' D=some (.lst xs)/\xs=((ns.take i).map N9).map V.str) ⟨⟨none,rfl⟩,c8 hD,a9,by rw[K1];rfl⟩ (by rw[a5];omega)
  (fun i xs σ' H' hi ⟨_,s3,g3,e3⟩=>⟨s3.seq hS2,g3,by rw[e3,a5,a5,k8];omega⟩) ?_ ?_⟩
 ·rintro i xs y σ' H' N kN hy ⟨⟨_,rfl⟩,s3,g3,rfl⟩
  obtain⟨z,ez,rfl⟩:=X3 hy
  refine A2 (K5 ?_)
  refine⟨_,rfl,_,rfl,(bi3 (hn z (b9 ez))).1,g3,kN _ _ _ ⟨⟨_,rfl⟩,s3.upd hD,a9,?_⟩⟩
  rw[o7,ez,g9,g9]
  rfl
 ·rintro xs σ' H3 ⟨⟨_,rfl⟩,s3,g3,rfl⟩
  rw[a5,L6]at g3
  refine⟨l2,D,_,_,rfl,rfl,s3 _ _ g2,g3,by rw[a5,a5];show 1+ns.length<=d8;omega,fun l4 f4=>?_⟩
  have s4:=c8 (o:=.lst ([.str v]++(ns.map N9).map V.str)) f4
  have hq:=bR7 hv hn hl
  refine⟨" ",l4,v::ns.map N9,rfl,rfl,SqL.of (by rw[a9];rfl),hq.1,?_⟩
  rw[show Txt.join " " (v::ns.map N9)=qT v ns from StrLaws.glued_eq_join _ _]
  exact q _ ((s2.trans s3).trans s4)
end
end Web
namespace Web
open PySem L2
theorem bS1 (a b:Int):decide (V.int a=V.int b)=decide (a=b):=by
 by_cases h:a=b
 ·rw[decide_eq_true h,decide_eq_true (by rw[h])]
 ·rw[decide_eq_false h,decide_eq_false (fun z=>h (V.int.inj z))]
section
variable {K:W.Frag} {mg:Str->Option Value} {base:Heap}
theorem cj2:p9 ["places","number"] ["places","number"] (m9 bn2):=.mk'
def aV7 (n:Nat)(a:Int):Prop:=0<=a/\a<n
def ba5 (CN:Addr):Sp:=fun vs H Q E=>∃ (n:Nat) (a:Int),vs=[.int n,.int a]/\(aV7 n a->Q .non H)/\(¬ aV7 n a->E (.ref CN) none H)
theorem bi2 {fI CN:Addr}(F:Fun K "check_place" "check_place" bn2 f fd)(FI:Fq K mg "is_place" aH3 fI fdI ["places","number"])
  (mN:mg "NoPlace"=some (.ref CN))(cN:ag1 K CN):p0 P w K mg base (CXE P w) 2 f fd ["places","number"] (ba5 CN):=by
 have GI:p0 P w K mg base CX0 1 fI fdI ["places","number"] bu9:=by7 FI.F
 refine F.okX cj2 (fun cdv A outer s H vs Q E hr h=>?_)
 obtain⟨n,a,rfl,h1,h2⟩:=h
 refine⟨_,j3 (D6 (U1 (ai6 (al4 GI hr rfl FI.m FI.F.kp FI.b .nil D0 (a6 (pv 0) (a6 (pv 1) b7))))) (j3 (ac6 (by rfl) mN cN)) x9),?_⟩
 refine⟨_,rfl,_,rfl,_,_,rfl,_,rfl,?_⟩
 by_cases hp:aV7 n a
 ·rw[decide_eq_true hp.1,decide_eq_true hp.2]
  exact E8 (h1 hp)
 ·have e:(decide ((0:Int)<=a) && decide (a<(n:Int)))=false:=by
   rw[Bool.and_eq_false_iff]
   by_cases z:(0:Int)<=a
   ·exact .inr (decide_eq_false fun z'=>hp ⟨z,z'⟩)
   ·exact .inl (decide_eq_false z)
  rw[e]
  exact E7 (h2 hp)
def mvd (ns:List Int)(p m:Int):List Int:=ns.set p.toNat (ns.getD p.toNat 0+m)
def bu5 (K:W.Frag)(CB CN:Addr):Sp:=fun vs H Q E=>∃ (a:Addr) (p m:Int) (ns:List Int),vs=[.ref a,.int p,.int m]/\Sq K H a ns /\
 (R9 ns->aV7 ns.length p->∀ (l:Addr) (H':Hp),p8 H H'->H l=none->H' l=some (.lst ((mvd ns p m).map V.int))->Q (.ref l) H')/\(¬ R9 ns->E (.ref CB) none H)/\(R9 ns->¬ aV7 ns.length p->E (.ref CN) none H)
theorem bR1:p9 ["tally","place","more","changed"] ["tally","place","more"] (m9 bw3):=.mk'
theorem bY8 {fC fI CN:Addr}{tk:Tok}(F:Fun K "moved" "moved" bw3 f fd)(B:Bn mg)(FT:Fq K mg "check_tally" aH4 fT fdT ["tally"])
  (FC:Fq K mg "check_place" bn2 fC fdC ["places","number"])(FI:Fq K mg "is_place" aH3 fI fdI ["places","number"])
  (mM:mg "MOST_PLACES"=some (.int 24 tk))(mB:mg "BadTally"=some (.ref CB))(cB:ag1 K CB)(mN:mg "NoPlace"=some (.ref CN))(cN:ag1 K CN):p0 P w K mg base (CXE P w) 3 f fd ["tally","place","more"] (bu5 K CB CN):=by
 have GT:p0 P w K mg base (CXE P w) 2 fT fdT ["tally"] (bg5 K CB):=(bc3 FT.F B mM mB cB).mono (by decide)
 have GC:p0 P w K mg base (CXE P w) 2 fC fdC ["places","number"] (ba5 CN):=bi2 FC.F FI mN cN
 refine F.okX bR1 (fun cdv A outer s H vs Q E hr h=>?_)
 obtain⟨a,p,m,ns,rfl,hS,h1,h2,h3⟩:=h
 refine⟨_,c9 (R4 (A9 GT hr (by rfl) FT aj1 (a6 (pv 0) b7)))
  (c9 (R4 (A9 GC hr (by rfl) FC aj1 (a6 (n9 o9 (by rfl) B.len PySem.boot_len (a6 (pv 0) b7)) (a6 (pv 1) b7))))
  (c9 (v8 (i:=3) bR1.nd rfl (Or.inl rfl) (F3 af7 (by rfl) B.list (by rfl) (a6 (pv 0) b7)))
  (c9 (bJ2 (pv 3) (pv 1) bB4 (pv 2) cb8 set_list)
  (j3 (r6 (pv 3)))))),?_⟩
 refine⟨_,rfl,a,ns,rfl,hS,fun ht=>?_,h2⟩
 refine⟨_,rfl,a,_,rfl,hS,_,rfl,(ns.map V.int).length,p,rfl,fun hp=>?_,fun hp=>h3 ht (by rw[a5]at hp;exact hp)⟩
 rw[a5]at hp
 refine⟨_,rfl,a,_,rfl,hS,fun l hl=>?_⟩
 obtain⟨j,rfl⟩:∃ j:Nat,p=(j:Int):=⟨p.toNat,by have:=hp.1;omega⟩
 have hj:j<ns.length:=by have:=hp.2;omega
 have hat:atI (ns.map V.int) (j:Int)=some (.int (ns.getD j 0)):=p6 (j:=j) (by simp[hj])
 refine⟨_,rfl,_,rfl,l,_,_,_,rfl,rfl,SqL.of a9,hat,_,rfl,_,_,rfl,rfl,l,_,_,j,rfl,rfl,a9,X2 (by rw[a5];exact hj),?_⟩
 refine⟨_,rfl,h1 ht hp l _ ?_ hl ?_⟩
 ·rw[ax9];exact c8 hl
 ·rw[a9,aR7];rfl
end
theorem O8 {x:Wl}(h:O2 ns x)(hx:x≠.free):¬ O2 ns .free:=fun f=>by
 cases x with
 | below p =>
  obtain⟨⟨y,h1,h2⟩,_⟩:=h
  have:=f.1 p y h1
  omega
 | odd=>exact f.2.1 h.2
 | wall r =>
  have:=f.2.2 r h.2.2.1 h.2.2.2.1
  have:=h.2.2.2.2.1
  omega
 | free=>exact hx rfl
def mv2 (ns:List Int)(m:Int)(k:List Int):List Int:=mvd (mvd ns (k.getD 0 0) m) (k.getD 1 0) m
theorem ay4 (ns:List Int)(p m:Int):(mvd ns p m).length=ns.length:=by unfold mvd;rw[A3]
seal L2.PE L2.PA L2.PS L2.PSs L2.PT
section
variable {K:W.Frag} {mg:Str->Option Value} {base:Heap}
def bv0 (K:W.Frag)(CB CW:Addr):Sp:=fun vs H Q E=>∃ (a:Addr) (ns:List Int),vs=[.ref a]/\Sq K H a ns/\(R9 ns->O2 ns .free->∀ H':Hp,p8 H H'->Q .non H')/\(¬ R9 ns->E (.ref CB) none H)/\(R9 ns->¬ O2 ns .free->∀ H':Hp,p8 H H'->E (.ref CW) none H')
theorem cj0:p9 ["tally"] ["tally"] (m9 bw5):=.mk'
theorem bZ2 {fW CW:Addr}{fdW:FuncData}(F:Fun K "check_has_web" "check_has_web" bw5 f fd)(FW:Fq K mg "wall_of" aI6 fW fdW ["tally"])(GW:p0 P w K mg base (CXE P w) 3 fW fdW ["tally"] (aL9 K CB))
  (mX:mg "NoWeb"=some (.ref CW))(cX:ag1 K CW):p0 P w K mg base (CXE P w) 4 f fd ["tally"] (bv0 K CB CW):=by
 refine F.okX cj0 (fun cdv A outer s H vs Q E hr h=>?_)
 obtain⟨a,ns,rfl,hS,q,qb,e⟩:=h
 refine⟨_,j3 (D6 (p5 al5 (A9 GW hr (by rfl) FW aj1 (a6 (pv 0) b7)) P8 (by rfl)) (j3 (ac6 (by rfl) mX cX)) x9),?_⟩
 refine⟨_,rfl,a,ns,rfl,hS,fun ht v x H' s' hx hv=>?_,qb⟩
 rcases hv with⟨rfl,rfl⟩ | ⟨h,p,rfl,_⟩
 ·exact⟨rfl,_,rfl,E8 (q ht hx H' s')⟩
 ·exact⟨rfl,_,rfl,E7 (e ht (O8 hx h) H' s')⟩
def bu4 (K:W.Frag):Sp:=fun vs H Q _=>∃ (a:Addr) (i j:Nat) (m:Int) (ns:List Int),vs=[.ref a,.int i,.int j,.int m]/\Sq K H a ns/\R9 ns/\i<ns.length/\j<ns.length /\
 ∀ (l:Addr) (H':Hp),p8 H H'->H l=none->H' l=some (.lst ((mv2 ns m [(i:Int),(j:Int)]).map V.int))->Q (.ref l) H'
theorem ci7:p9 ["tally","one","other","more"] ["tally","one","other","more"] (m9 bw2):=.mk'
theorem bY7 {fM CN:Addr}{fdM:FuncData}(F:Fun K "moved_both" "moved_both" bw2 f fd)(FM:Fq K mg "moved" bw3 fM fdM ["tally","place","more"])(GM:p0 P w K mg base (CXE P w) 3 fM fdM ["tally","place","more"] (bu5 K CB CN)):p0 P w K mg base CX0 4 f fd ["tally","one","other","more"] (bu4 K):=by
 refine F.ok ci7 (fun cdv A outer s H vs Q E hr h=>?_)
 obtain⟨a,i,j,m,ns,rfl,hS,ht,hi,hj,q⟩:=h
 refine⟨_,j3 (r6 (A9 GM hr (by rfl) FM (aw3 (P:=P) (w:=w)) (a6 (A9 GM hr (by rfl) FM (aw3 (P:=P) (w:=w)) (a6 (pv 0) (a6 (pv 1) (a6 (pv 3) b7)))) (a6 (pv 2) (a6 (pv 3) b7))))),?_⟩
 refine⟨_,rfl,_,rfl,_,rfl,a,(i:Int),m,ns,rfl,hS,fun _ _ l1 H1 s1 f1 g1=>?_,fun h=>absurd ht h,fun _ h=>absurd ⟨by omega,by omega⟩ h⟩
 have e:=ay4 ns i m
 have ht1:R9 (mvd ns i m):=⟨by rw[e];exact ht.1,by rw[e];exact ht.2⟩
 refine⟨_,rfl,_,rfl,l1,(j:Int),m,mvd ns i m,rfl,.inl (SqL.of g1),fun _ _ l2 H2 s2 f2 g2=>?_,fun h=>absurd ht1 h,fun _ h=>absurd ⟨by omega,by rw[e];omega⟩ h⟩
 exact q l2 H2 (s1.trans s2) (s1.free f2) g2
end
end Web
namespace Web
open PySem L2
open Grf (Gph deg)
theorem bU2 (p z:Int):p∈up [p,z]:=by
 show p∈[if z<p then z else p,if z > p then z else p]
 by_cases h:z<p
 ·rw[if_pos h,if_neg (by omega)];simp
 ·rw[if_neg h];simp
theorem bZ7 {q:Nat}{es:List Int}(nd:es.Nodup)(hq:(q:Int)∉es)(hsub:∀ z∈es,up [(p:Int),z]∈ks)(hc:W4 ks p=es.length):up [(p:Int),(q:Int)]∉ks:=fun hm=>by
 have nd2:(es++[(q:Int)]).Nodup:=ak3.mpr ⟨nd,by simp,fun a ha b hb e=>hq (by rw[<- j8.mp hb,<- e];exact ha)⟩
 have l1:((es++[(q:Int)]).map fun z=>up [(p:Int),z]).Nodup:=K3.mpr (nd2.imp fun h e=>h (by
  rcases up_eq e with z | z
  ·exact z.2
  ·exact z.2.trans z.1))
 have:=aC7 l1 (m:=ks.filter fun k=>decide ((p:Int)∈k)) fun x hx=>by
  obtain⟨z,hz,rfl⟩:=k9.mp hx
  refine G7.mpr ⟨?_,decide_eq_true (bU2 _ _)⟩
  rcases m7.mp hz with m | m
  ·exact hsub z m
  ·rw[j8.mp m];exact hm
 rw[a5,j2,M4,<- aP6]at this
 have e:bP2 (fun k=>decide ((p:Int)∈k)) ks=es.length:=hc
 omega
theorem aJ0 (zs:List Int)(p q:Nat):W6 [(p:Int),(q:Int)] zs=K2 zs p q:=rfl
structure aF3 (K:W.Frag) (H:Hp) (r:Addr) (ns:List Int) (ks:List (List Int)):Prop where
 at_:∃ t zs,H r=some (.tup [.int ns.length,.ref t])/\H t=some (.tup zs)/\C1 K H zs ks
 told:Tld ns.length ks
 tal:tal ns.length ks=ns
theorem aF3.grow {K:W.Frag}{PT r:Addr}(h:aF3 K H r ns ks)(g:K8 PT H H')(t:Tb PT H):aF3 K H' r ns ks:=by
 obtain⟨u,zs,h1,h2,h3⟩:=h.at_
 obtain⟨ps,hP,hx⟩:=id t
 exact⟨⟨u,zs,g _ _ (fun z=>by rw[z,hP]at h1;cases h1) h1,g _ _ (fun z=>by rw[z,hP]at h2;cases h2) h2,av0 g t h3⟩,h.told,h.tal⟩
theorem aF3.same {K:W.Frag}{r:Addr}(h:aF3 K H r ns ks)(s:p8 H H'):aF3 K H' r ns ks:=by
 obtain⟨u,zs,h1,h2,h3⟩:=h.at_
 exact⟨⟨u,zs,s _ _ h1,s _ _ h2,s.tups h3⟩,h.told,h.tal⟩
noncomputable def lwE (ns:List Int)(i j:Nat):Bool->List Int
 | true=>(K2 (bo0 ns) i j).take (ns.getD i 0 - 1).toNat++[(j:Int)]
 | false=>(K2 (bo0 ns) i j).take (ns.getD i 0).toNat
def be8 (ns:List Int)(i j:Nat)(b:Bool)(ks:List (List Int)):Prop:=ks.Perm ((aW5 ns i (lwE ns i j b)).map up)
section
variable {K:W.Frag} {mg:Str->Option Value} {base:Heap}
def aO1 (n:Nat)(a b:Int):Prop:=aV7 n a/\aV7 n b/\a≠b
def bv2 (CN:Addr):Sp:=fun vs H Q E=>∃ (n:Nat) (a b:Int),vs=[.int n,.int a,.int b]/\(aO1 n a b->Q .non H)/\(¬ aO1 n a b->E (.ref CN) none H)
theorem cj4:p9 ["places","one","other"] ["places","one","other"] (m9 bw7):=.mk'
theorem bZ4 {fC fI CN:Addr}(F:Fun K "check_pair" "check_pair" bw7 f fd)(FC:Fq K mg "check_place" bn2 fC fdC ["places","number"])(FI:Fq K mg "is_place" aH3 fI fdI ["places","number"])
  (mN:mg "NoPlace"=some (.ref CN))(cN:ag1 K CN):p0 P w K mg base (CXE P w) 3 f fd ["places","one","other"] (bv2 CN):=by
 have GC:p0 P w K mg base (CXE P w) 2 fC fdC ["places","number"] (ba5 CN):=bi2 FC.F FI mN cN
 refine F.okX cj4 (fun cdv A outer s H vs Q E hr h=>?_)
 obtain⟨n,a,b,rfl,q,qe⟩:=h
 refine⟨_,c9 (R4 (A9 GC hr (by rfl) FC aj1 (a6 (pv 0) (a6 (pv 1) b7))))
  (c9 (R4 (A9 GC hr (by rfl) FC aj1 (a6 (pv 0) (a6 (pv 2) b7))))
  (j3 (D6 (p5 Q8 (pv 1) (pv 2) (y9 _)) (j3 (ac6 (by rfl) mN cN)) x9))),?_⟩
 refine⟨_,rfl,_,rfl,n,a,rfl,fun h1=>?_,fun h=>qe fun z=>h z.1⟩
 refine⟨_,rfl,_,rfl,n,b,rfl,fun h2=>?_,fun h=>qe fun z=>h z.2.1⟩
 refine⟨_,rfl,_,rfl,rfl,_,rfl,?_⟩
 rw[bS1]
 by_cases e:a=b
 ·rw[decide_eq_true e]
  exact E7 (qe fun z=>z.2.2 e)
 ·rw[decide_eq_false e]
  exact E8 (q ⟨h1,h2,e⟩)
def bm9 (K:W.Frag)(PT:Addr)(b:Bool):Sp:=fun vs H Q _=>∃ (a:Addr) (ns:List Int) (i j:Nat) (g:Nat->Nat->Bool),vs=[.ref a,.int i,.int j]/\Sq K H a ns/\R9 ns/\i<ns.length/\j<ns.length/\i≠j/\Gph g/\(∀ v,v<ns.length->deg ns.length g v=ns.getD v 0)/\g i j=b/\Tb PT H /\
 ∀ (r:Addr) (ks:List (List Int)) (H':Hp),K8 PT H H'->Tb PT H'->aF3 K H' r ns ks->decide (up [(i:Int),(j:Int)]∈ks)=b->be8 ns i j b ks->Q (.ref r) H'
theorem bv6:p9 ["tally","one","other","ends"] ["tally","one","other"] (m9 aS0):=.mk'
theorem bW3:p9 ["tally","one","other"] ["tally","one","other"] (m9 aR9):=.mk'
set_option maxHeartbeats 1000000 in
theorem bK4 {fF fY PT:Addr}{fdY:FuncData}(F:Fun K "laid_with" "laid_with" aS0 f fd)(FF:Fq K mg "first_of_order" ap0 fF fdF ["tally","many","passed_over"])(GF:p0 P w K mg base (CXE P w) 3 fF fdF ["tally","many","passed_over"] (ae8 K PT))
  (FY:Fq K mg "laid_around" aI7 fY fdY ["tally","place","ends"])(GY:p0 P w K mg base CX0 4 fY fdY ["tally","place","ends"] (aM0 K PT)):p0 P w K mg base CX0 5 f fd ["tally","one","other"] (bm9 K PT true):=by
 have GF':p0 P w K mg base (CXE P w) 4 fF fdF ["tally","many","passed_over"] (ae8 K PT):=GF.mono (by decide)
 refine F.ok bv6 (fun cdv A outer s H vs Q E hr h=>?_)
 obtain⟨a,ns,i,j,g,rfl,hS,ht,hi,hj,hij,hg,hd,hb,tb,q⟩:=h
 have hsl:=L1
 refine⟨_,c9 (v8 (i:=3) bv6.nd rfl (Or.inl rfl) (A9 GF' hr (by rfl) FF (aw3 (P:=P) (w:=w)) (a6 (pv 0) (a6 (o8 ab7 (bc0 K rfl (pv 0) (pv 1) (fun _ _=>rfl)) d6) (a6 (P0 (a6 (pv 1) (a6 (pv 2) b7))) b7)))))
  (j3 (r6 (A9 GY hr (by rfl) FY D0 (a6 (pv 0) (a6 (pv 1) (a6 (o8 aC3 (pv 3) (P0 (a6 (pv 2) b7))) b7)))))),?_⟩
 refine⟨_,rfl,_,rfl,_,rfl,aJ6 hS hi ⟨_,_,rfl,rfl,_,rfl,_,rfl,(by show 2<=d8;decide),fun pl fpl=>?_⟩⟩
 have s1:=c8 (o:=.lst [.int (i:Int),.int (j:Int)]) fpl
 have tb1:=tb.same s1
 have h0:1<=ns.getD i 0:=by
  rw[<- hd i hi]
  have:=Grf.am7 (f:=fun v=>Grf.b2 (g i v)) hj (fun i _=>Grf.B4 _)
  have e:Grf.b2 (g i j)=1:=by rw[hb];rfl
  have t:Grf.b2 (g i j)<=deg ns.length g i:=this
  omega
 obtain⟨k,hk⟩:∃ k:Nat,ns.getD i 0 - 1=(k:Int):=⟨(ns.getD i 0 - 1).toNat,by omega⟩
 refine⟨a,pl,ns,[(i:Int),(j:Int)],k,by show [V.ref a,V.int (ns.getD i 0 - 1),V.ref pl]=_;rw[hk],hS.same s1,ht,SqL.of a9,tb1,fun zs D H2 g2 tb2 fD hp hs gD=>?_⟩
 rw[aJ0]at gD
 obtain⟨_,hw⟩:=bN5 hg hd hb hi hj hij hp hs
 rw[hk,j6]at hw
 obtain⟨nd,he,hlen,hgr⟩:=hw _ rfl
 have hel:((K2 zs i j).take k++[(j:Int)]).length<=24:=by
  have h1:=aD9 ⟨g,hg,hd⟩ hi
  have:=ht.2
  omega
 refine⟨_,rfl,_,rfl,_,rfl,_,rfl,(by show 1<=d8;decide),fun l1 f1=>?_⟩
 have s3:=c8 (o:=.lst [.int (j:Int)]) f1
 refine⟨D,l1,_,_,rfl,rfl,s3 _ _ gD,a9,by rw[a5,M4];rw[j2]at hel;show _<=d8;simp at hel ⊢;omega,fun l2 f2=>?_⟩
 have s4:=c8 (o:=.lst (((K2 zs i j).take k).map V.int++[.int (j:Int)])) f2
 have e4:((K2 zs i j).take k).map V.int++[V.int (j:Int)]=((K2 zs i j).take k++[(j:Int)]).map V.int:=by rw[g9];rfl
 have s34:=s3.trans s4
 have g24:K8 PT H _:=((s1.grow PT).trans g2).trans (s34.grow PT)
 refine⟨a,l2,ns,(K2 zs i j).take k++[(j:Int)],i,rfl,hS.grow g24 tb,ht,hi,by rw[<- e4];exact SqL.of a9,nd,hel,he,hlen,hgr,tb2.same s34,fun r t zs' ks H' gr' tb' k1 k2 tt pm so ta ups nd'=>?_⟩
 refine q r ks H' (g24.trans gr') tb' ⟨⟨t,zs',k1,k2,tt⟩,⟨ups,nd',so⟩,ta⟩ (decide_eq_true (pm.mem_iff.mpr ?_)) (by unfold be8 lwE;rw[<- aN3 hp hs,hk,j6];exact pm)
 refine k9.mpr ⟨[(i:Int),(j:Int)],m7.mpr (.inl ?_),rfl⟩
 exact k9.mpr ⟨(j:Int),m7.mpr (.inr (j8.mpr rfl)),rfl⟩
set_option maxHeartbeats 1000000 in
theorem bK3 {fF fY PT:Addr}{fdY:FuncData}(F:Fun K "laid_without" "laid_without" aR9 f fd)(FF:Fq K mg "first_of_order" ap0 fF fdF ["tally","many","passed_over"])(GF:p0 P w K mg base (CXE P w) 3 fF fdF ["tally","many","passed_over"] (ae8 K PT))
  (FY:Fq K mg "laid_around" aI7 fY fdY ["tally","place","ends"])(GY:p0 P w K mg base CX0 4 fY fdY ["tally","place","ends"] (aM0 K PT)):p0 P w K mg base CX0 5 f fd ["tally","one","other"] (bm9 K PT false):=by
 have GF':p0 P w K mg base (CXE P w) 4 fF fdF ["tally","many","passed_over"] (ae8 K PT):=GF.mono (by decide)
 refine F.ok bW3 (fun cdv A outer s H vs Q E hr h=>?_)
 obtain⟨a,ns,i,j,g,rfl,hS,ht,hi,hj,hij,hg,hd,hb,tb,q⟩:=h
 have hsl:=L1
 refine⟨_,j3 (r6 (A9 GY hr (by rfl) FY D0 (a6 (pv 0) (a6 (pv 1) (a6 (A9 GF' hr (by rfl) FF (aw3 (P:=P) (w:=w)) (a6 (pv 0) (a6 (bc0 K rfl (pv 0) (pv 1) (fun _ _=>rfl)) (a6 (P0 (a6 (pv 1) (a6 (pv 2) b7))) b7)))) b7))))),?_⟩
 refine⟨_,rfl,_,rfl,_,rfl,_,rfl,_,rfl,aJ6 hS hi ⟨_,rfl,_,rfl,(by show 2<=d8;decide),fun pl fpl=>?_⟩⟩
 have s1:=c8 (o:=.lst [.int (i:Int),.int (j:Int)]) fpl
 have tb1:=tb.same s1
 have h0:=ad5 (aD8 ⟨g,hg,hd⟩) hi
 obtain⟨k,hk⟩:∃ k:Nat,ns.getD i 0=(k:Int):=⟨(ns.getD i 0).toNat,by omega⟩
 refine⟨a,pl,ns,[(i:Int),(j:Int)],k,by rw[hk];rfl,hS.same s1,ht,SqL.of a9,tb1,fun zs D H2 g2 tb2 fD hp hs gD=>?_⟩
 rw[aJ0]at gD
 have hw:=bd8 hg hd hb hi hj hij hp hs
 rw[hk,j6]at hw
 obtain⟨nd,he,hlen,hqe,hgr⟩:=hw _ rfl
 have hlen':(((K2 zs i j).take k).length:Int)=ns.getD i 0:=by rw[hk];exact hlen
 have hel:((K2 zs i j).take k).length<=24:=by
  have h1:=aD9 ⟨g,hg,hd⟩ hi
  have:=ht.2
  omega
 have g12:K8 PT H H2:=(s1.grow PT).trans g2
 refine⟨a,D,ns,(K2 zs i j).take k,i,rfl,hS.grow g12 tb,ht,hi,SqL.of gD,nd,hel,he,hlen',hgr,tb2,fun r t zs' ks H' gr' tb' k1 k2 tt pm so ta ups nd'=>?_⟩
 refine q r ks H' (g12.trans gr') tb' ⟨⟨t,zs',k1,k2,tt⟩,⟨ups,nd',so⟩,ta⟩ (decide_eq_false (bZ7 nd hqe (fun z hz=>pm.mem_iff.mpr (k9.mpr ⟨[(i:Int),z],m7.mpr (.inl (k9.mpr ⟨z,hz,rfl⟩)),rfl⟩)) ?_)) (by unfold be8 lwE;rw[<- aN3 hp hs,hk,j6];exact pm)
 have e:=bt5 (n:=ns.length) (i:=i) (ks:=ks) hi
 rw[ta]at e
 omega
end
end Web
namespace Web
open PySem L2
open Grf (Gph deg)
theorem bz2 {ts:List Int}(hij:i≠j)(hi:i<ts.length)(hj:j<ts.length)(m:Int):Mvd ts (mv2 ts m [(i:Int),(j:Int)]) i j m:=by
 have e0:([(i:Int),(j:Int)]:List Int).getD 0 0=(i:Int):=rfl
 have e1:([(i:Int),(j:Int)]:List Int).getD 1 0=(j:Int):=rfl
 unfold mv2 mvd
 rw[e0,e1,j6,j6]
 refine⟨by rw[A3,A3],fun v hv=>?_⟩
 have g:∀ (xs:List Int) (k:Nat) (x:Int),k<xs.length->(xs.set k x).getD v 0=if v=k then x else xs.getD v 0:=fun xs k x hk=>by
  rw[i8,i8,X9]
  by_cases e:k=v
  ·rw[if_pos e,if_pos e.symm,if_pos hk];rfl
  ·rw[if_neg e,if_neg (Ne.symm e)]
 have g2:(ts.set i (ts.getD i 0+m)).getD j 0=ts.getD j 0:=by
  rw[i8,T6 (by omega),<- i8]
 rw[g _ _ _ (by rw[A3];exact hj),g2,g _ _ _ hi]
 by_cases c1:v=j
 ·rw[if_pos c1,if_neg (show ¬ v=i by omega),if_pos c1,c1];omega
 ·rw[if_neg c1,if_neg c1]
  by_cases c2:v=i
  ·rw[if_pos c2,if_pos c2,c2];omega
  ·rw[if_neg c2,if_neg c2];omega
theorem al9 (ns:List Int)(m:Int)(k:List Int):(mv2 ns m k).length=ns.length:=by unfold mv2;rw[ay4,ay4]
theorem has_both (hij:i≠j)(hi:i<ns.length)(hj:j<ns.length)(h0:Gr ns) :
  (Gr (mv2 ns 1 [(i:Int),(j:Int)])->∃ g,Gph g/\(∀ v,v<ns.length->deg ns.length g v=ns.getD v 0)/\g i j=false)/\(Gr (mv2 ns (-1) [(i:Int),(j:Int)])->∃ g,Gph g/\(∀ v,v<ns.length->deg ns.length g v=ns.getD v 0)/\g i j=true):=by
 obtain⟨g,hg,dg⟩:=h0
 refine⟨fun⟨h,hh,dh⟩=>?_,fun⟨h,hh,dh⟩=>?_⟩
 ·have hm:=bz2 hij hi hj 1
  rw[hm.1]at dh
  exact aW1 hi hj hij hg dg hh fun v hv=>by rw[dh v hv];exact hm.2 v hv
 ·have hm:=bz2 hij hi hj (-1)
  have hl:=hm.1
  have hm':Mvd (mv2 ns (-1) [(i:Int),(j:Int)]) ns i j 1:=⟨hl.symm,fun v hv=>by
   rw[hl]at hv
   rw[hm.2 v hv]
   split<;>split<;>omega⟩
  obtain⟨f,hf,df,fij⟩:=aW1 (ns:=mv2 ns (-1) [(i:Int),(j:Int)]) (i:=i) (j:=j) (by omega) (by omega) hij hh dh hg fun v hv=>by rw[hl]at hv ⊢;rw[dg v hv];exact hm'.2 v (by omega)
  exact⟨Grf.Q7 f i j true,Grf.K6 hf hij,aR5 hm' hij (by omega) (by omega) hf df (by rw[fij];rfl),Grf.aq7⟩
seal L2.PE L2.PA L2.PS L2.PSs L2.PT
section
variable {K:W.Frag} {mg:Str->Option Value} {base:Heap}
def PTk (K:W.Frag)(PT:Addr)(ns:List Int)(i j:Nat)(H:Hp)(Q:VK):Prop:=
 (∀ (m:Int) (x:Str),(m=1/\x="all")\/(m = -1/\x="none"/\O2 (mv2 ns 1 [(i:Int),(j:Int)]) .free)->¬ O2 (mv2 ns m [(i:Int),(j:Int)]) .free->∀ (r p:Addr) (y:Wl) (H':Hp),K8 PT H H'->Tb PT H'->O2 (mv2 ns m [(i:Int),(j:Int)]) y->y≠.free->H' r=some (.tup [.str x,.ref p])->H' p=some (.tup (wlT y))->Q (.ref r) H') /\
 (O2 (mv2 ns 1 [(i:Int),(j:Int)]) .free->O2 (mv2 ns (-1) [(i:Int),(j:Int)]) .free->∀ (r w1 w2:Addr) (k1 k2:List (List Int)) (H':Hp),K8 PT H H'->Tb PT H'->aF3 K H' w1 ns k1->aF3 K H' w2 ns k2->up [(i:Int),(j:Int)]∈k1->up [(i:Int),(j:Int)]∉k2->be8 ns i j true k1->be8 ns i j false k2->H' r=some (.tup [.str "some",.ref w1,.ref w2])->Q (.ref r) H')
def bV6 (K:W.Frag)(PT CB CW CN:Addr):Sp:=fun vs H Q E=>∃ (a:Addr) (ns:List Int) (x y:Int),vs=[.ref a,.int x,.int y]/\Sq K H a ns/\Tb PT H/\(¬ R9 ns->E (.ref CB) none H)/\(R9 ns->¬ O2 ns .free->∀ H',p8 H H'->E (.ref CW) none H')/\(R9 ns->O2 ns .free->¬ aO1 ns.length x y->∀ H',p8 H H'->E (.ref CN) none H')/\(R9 ns->O2 ns .free->∀ i j:Nat,x=i->y=j->i<ns.length->j<ns.length->i≠j->PTk K PT ns i j H Q)
theorem bW5:p9 ["tally","one","other","wall"] ["tally","one","other"] (m9 sPT):=.mk'
set_option maxHeartbeats 2000000 in
theorem cl3 {fH fP fW fM fL fO CW CN PT:Addr}{fdH fdP fdW fdM fdL:FuncData}(F:Fun K "pair_told" "pair_told" sPT f fd)(B:Bn mg)(FH:Fq K mg "check_has_web" bw5 fH fdH ["tally"])(GH:p0 P w K mg base (CXE P w) 5 fH fdH ["tally"] (bv0 K CB CW))
  (FP:Fq K mg "check_pair" bw7 fP fdP ["places","one","other"])(GP:p0 P w K mg base (CXE P w) 5 fP fdP ["places","one","other"] (bv2 CN))
  (FW:Fq K mg "wall_of" aI6 fW fdW ["tally"])(GW:p0 P w K mg base (CXE P w) 5 fW fdW ["tally"] (aL9 K CB))
  (FM:Fq K mg "moved_both" bw2 fM fdM ["tally","one","other","more"])(GM:p0 P w K mg base CX0 5 fM fdM ["tally","one","other","more"] (bu4 K))
  (FL:Fq K mg "laid_with" aS0 fL fdL ["tally","one","other"])(GL:p0 P w K mg base CX0 5 fL fdL ["tally","one","other"] (bm9 K PT true))
  (FO:Fq K mg "laid_without" aR9 fO fdO ["tally","one","other"])(GO:p0 P w K mg base CX0 5 fO fdO ["tally","one","other"] (bm9 K PT false)):p0 P w K mg base (CXE P w) 6 f fd ["tally","one","other"] (bV6 K PT CB CW CN):=by
 refine F.okX bW5 (fun cdv A outer s H vs Q E hr h=>?_)
 obtain⟨a,ns,x0,y0,rfl,hS,tb,qb,qw0,qn,q⟩:=h
 have hsl:=L1
 refine⟨_,c9 (R4 (A9 GH hr (by rfl) FH aj1 (a6 (pv 0) b7)))
  (c9 (R4 (A9 GP hr (by rfl) FP aj1 (a6 (n9 o9 (by rfl) B.len PySem.boot_len (a6 (pv 0) b7)) (a6 (pv 1) (a6 (pv 2) b7)))))
  (c9 (v8 (i:=3) bW5.nd rfl (Or.inl rfl) (A9 GW hr (by rfl) FW (aw3 (P:=P) (w:=w)) (a6 (A9 GM hr (by rfl) FM D0 (a6 (pv 0) (a6 (pv 1) (a6 (pv 2) (a6 d6 b7))))) b7)))
  (c9 (D6 (p5 al5 (pv 3) P8 (by rfl)) (j3 (r6 (J7 (a6 C8 (a6 (pv 3) b7))))) x9)
  (c9 (v8 (i:=3) bW5.nd rfl (Or.inl rfl) (A9 GW hr (by rfl) FW (aw3 (P:=P) (w:=w)) (a6 (A9 GM hr (by rfl) FM D0 (a6 (pv 0) (a6 (pv 1) (a6 (pv 2) (a6 (bx7 aZ8 d6) b7))))) b7)))
  (c9 (D6 (p5 al5 (pv 3) P8 (by rfl)) (j3 (r6 (J7 (a6 C8 (a6 (pv 3) b7))))) x9)
  (j3 (r6 (J7 (a6 C8 (a6 (A9 GL hr (by rfl) FL D0 (a6 (pv 0) (a6 (pv 1) (a6 (pv 2) b7)))) (a6 (A9 GO hr (by rfl) FO D0 (a6 (pv 0) (a6 (pv 1) (a6 (pv 2) b7)))) b7))))))))))),?_⟩
 refine⟨_,rfl,a,ns,rfl,hS,fun ht hf H1 s1=>?_,qb,fun ht hn H1 s1=>qw0 ht hn H1 s1⟩
 have hS1:=hS.same s1
 refine⟨_,rfl,a,_,rfl,hS1,_,rfl,_,rfl,ns.length,x0,y0,by rw[a5];rfl,fun hpr=>?_,fun hpr=>qn ht hf hpr H1 s1⟩
 obtain⟨⟨i0,i1⟩,⟨j0,j1⟩,hxy⟩:=hpr
 obtain⟨i,rfl⟩:∃ i:Nat,x0=(i:Int):=⟨x0.toNat,by omega⟩
 obtain⟨j,rfl⟩:∃ j:Nat,y0=(j:Int):=⟨y0.toNat,by omega⟩
 have hi:i<ns.length:=by omega
 have hj:j<ns.length:=by omega
 have hij:i≠j:=by omega
 have tl2:∀ m:Int,R9 (mv2 ns m [(i:Int),(j:Int)]):=fun m=>⟨by rw[al9];exact ht.1,by rw[al9];exact ht.2⟩
 obtain⟨qw,qs⟩:=q ht hf i j rfl rfl hi hj hij
 refine⟨_,rfl,_,rfl,_,rfl,a,i,j,1,ns,rfl,hS1,ht,hi,hj,fun l2 H2 s2 f2 g2=>?_⟩
 refine⟨l2,_,rfl,.inl (SqL.of g2),fun _ v x H3 s3 hx3 hv3=>⟨_,rfl,rfl,_,rfl,?_⟩,fun h=>absurd (tl2 1) h⟩
 have s13:=s1.trans (s2.trans s3)
 rcases hv3 with⟨rfl,rfl⟩ | ⟨hx,p,rfl,gp⟩
 ·refine E8 ?_
  have hS3:=hS.same s13
  refine⟨_,rfl,_,rfl,_,rfl,_,rfl,a,i,j,-1,ns,rfl,hS3,ht,hi,hj,fun l4 H4 s4 f4 g4=>?_⟩
  refine⟨l4,_,rfl,.inl (SqL.of g4),fun _ v x H5 s5 hx5 hv5=>⟨_,rfl,rfl,_,rfl,?_⟩,fun h=>absurd (tl2 (-1)) h⟩
  have s15:=s13.trans (s4.trans s5)
  rcases hv5 with⟨rfl,rfl⟩ | ⟨hx,p,rfl,gp⟩
  ·refine E8 ?_
   obtain⟨b1,b2⟩:=has_both hij hi hj (aO2 hf)
   obtain⟨g,hg,dg,gij⟩:=b2 (aO2 hx5)
   obtain⟨g',hg',dg',gij'⟩:=b1 (aO2 hx3)
   have tb5:=tb.same s15
   refine⟨_,rfl,_,rfl,_,rfl,a,ns,i,j,g,rfl,hS.same s15,ht,hi,hj,hij,hg,dg,gij,tb5,fun r1 k1 H6 g6 tb6 w1 d1 l1=>?_⟩
   have g16:K8 PT H H6:=(s15.grow PT).trans g6
   refine⟨_,rfl,_,rfl,_,rfl,a,ns,i,j,g',rfl,hS.grow g16 tb,ht,hi,hj,hij,hg',dg',gij',tb6,fun r2 k2 H7 g7 tb7 w2 d2 l2=>?_⟩
   refine⟨by show 3<=d8;omega,fun r fr=>?_⟩
   have s8:=c8 (o:=.tup [.str "some",.ref r1,.ref r2]) fr
   exact qs hx3 hx5 r r1 r2 k1 k2 _ ((g16.trans g7).trans (s8.grow PT)) (tb7.same s8) ((w1.grow g7 tb6).same s8) (w2.same s8) (of_decide_eq_true d1) (of_decide_eq_false d2) l1 l2 a9
  ·refine E7 ⟨_,rfl,by show 2<=d8;omega,fun r fr=>?_⟩
   have s6:=c8 (o:=.tup [.str "none",.ref p]) fr
   exact qw (-1) "none" (.inr ⟨rfl,rfl,hx3⟩) (O8 hx5 hx) r p x _ ((s15.trans s6).grow PT) (tb.same (s15.trans s6)) hx5 hx a9 (s6 _ _ gp)
 ·refine E7 ⟨_,rfl,by show 2<=d8;omega,fun r fr=>?_⟩
  have s6:=c8 (o:=.tup [.str "all",.ref p]) fr
  exact qw 1 "all" (.inl ⟨rfl,rfl⟩) (O8 hx3 hx) r p x _ ((s13.trans s6).grow PT) (tb.same (s13.trans s6)) hx3 hx a9 (s6 _ _ gp)
end
end Web
namespace Web
open PySem L2
abbrev kinds:List Str:=["web","pair","pieces","off"]
def KdT (K:W.Frag)(kA:Addr):Prop:=∀ H:Hp,SqT K H kA (kinds.map V.str)
theorem aH5 (K:W.Frag)(hK:X.K=K):OpR X (C4 .NotIn) (rIn K true):=by subst hK;exact aN5
theorem bs7:32∉("web":Str).cps.toList:=by decide +kernel
theorem bn6:32∉("pair":Str).cps.toList:=by decide +kernel
theorem cm5:inV (.str "pair") (kinds.map V.str)=true:=by decide +kernel
seal L2.PE L2.PA L2.PS L2.PSs L2.PT
section
variable {K:W.Frag} {mg:Str->Option Value} {base:Heap}
def okN (z:Int):Prop:=okW 50 (N9 z).cps.toList=true
def ba6 (CN:Addr):Sp:=fun vs H Q E=>∃ (x y:Int) (ns:List Int),vs=[.str (qT "pair" (x::y::ns))]/\(∀ z∈x::y::ns,Nm z)/\(∀ z∈ns,okN z)/\ns.length<=24/\(∀ (t p q:Addr) (H':Hp),p8 H H'->H' t=some (.tup [.str "pair",.ref p,.ref q])->H' p=some (.lst [.int x,.int y])->H' q=some (.lst (ns.map V.int))->Q (.ref t) H')/\(¬ okN x\/¬ okN y->∀ H':Hp,p8 H H'->E (.ref CN) none H')
theorem bg8:p9 ["question","words","numbers","ahead"] ["question"] (m9 aB5):=.mk'
set_option maxHeartbeats 1000000 in
theorem bL6 {fW CN kA:Addr} {fdW:FuncData} {tA:Tok} (F:Fun K "asked" "asked" aB5 f fd) (B:Bn mg) (FW:Fq K mg "number_within" sNW fW fdW ["word","most"]) (GW:p0 P w K mg base (CXE P w) 2 fW fdW ["word","most"] (bV8 CN))
  (mA:mg "MOST_FIGURES_ASKED"=some (.int 50 tA)) (mK:mg "KINDS"=some (.ref kA)) (hK:KdT K kA) (mN:mg "NoText"=some (.ref CN)) (cN:ag1 K CN):p0 P w K mg base (CXE P w) 3 f fd ["question"] (ba6 CN):=by
 refine F.okX bg8 (fun cdv A outer s H vs Q E hr h=>?_)
 obtain⟨x0,y0,ns0,rfl,hn,hok,hnl0,q,qe⟩:=h
 obtain⟨ns,hns⟩:∃ ns,x0::y0::ns0=ns:=⟨_,rfl⟩
 have hnl:ns.length<=26:=by rw[<- hns,i9,i9];omega
 have hbad:∀ z∈ns,¬ okN z->¬ okN x0\/¬ okN y0:=fun z hz hb=>by
  rw[<- hns]at hz
  rcases c5.mp hz with rfl | hz
  ·exact .inl hb
  rcases c5.mp hz with rfl | hz
  ·exact .inr hb
  ·exact absurd (hok z hz) hb
 rw[hns]at hn ⊢
 have hsl:d8=16777216:=x6
 have nd1:(["word"]:List Str).Nodup:=by decide +kernel
 refine⟨_,c9 (v8 (i:=1) bg8.nd rfl (Or.inl rfl) (ac8 PySem.F.plainAttrs_str PySem.F.slot_str_split PySem.F.type_str_split ar6 (pv 0) (a6 C8 b7)))
  (c9 (bx1 (E := E) rfl (i := 2) (N' := ["word"]) (lk := [none]) bg8.nd rfl rfl (by rfl) rfl (P3 (N8 U0 (pv 1) (Q3 d6) U2)) (by rfl) rfl (by decide +kernel) (by exact trivial) (by rfl) (by exact LkL.ok trivial)
   (fun _ _ _ _ _=>B2 (i:=0) nd1 rfl (Or.inl rfl)) (fun _ _ _ _ _=>P2) (fun _ _ _ _ _ I3 f3=>A9 GW hr (by rfl) FW (ck3 I3 f3) (a6 (pv 0) (a6 (af1 (v:=.int 50) (by rfl) mA ⟨tA,rfl⟩) b7))))
  (c9 (v8 (i:=3) bg8.nd rfl (Or.inl rfl) (aB8 (p5 Q8 (B9 C3 (pv 1) d6 (fun _ _=>rfl)) C8 (y9 _)) d6 d6))
  (c9 (D6 (PW.pt (ag5 (p5 (aH5 K rfl) (B9 C3 (pv 1) d6 (fun _ _=>rfl)) (af1 (v:=.ref kA) (by rfl) mK rfl) (by rfl)) (ab6 (p5 ag6 (n9 o9 (by rfl) B.len PySem.boot_len (a6 (pv 2) b7)) (pv 3) (y9 _))))) (j3 (ac6 (by rfl) mN cN)) x9)
  (j3 (r6 (J7 (a6 (B9 C3 (pv 1) d6 (fun _ _=>rfl)) (a6 (N8 U0 (pv 2) U2 (Q3 (pv 3))) (a6 (N8 U0 (pv 2) (Q3 (pv 3)) U2) b7))))))))),?_⟩
 have ew:=bJ0 bn6 hn
 have hql:=(bR7 (w:="pair") (by decide +kernel) hn hnl).2
 refine⟨_,rfl,rfl,_,_,rfl,rfl,aK1,by omega,by rw[ew,i9,a5];omega,fun l fl=>?_⟩
 rw[ew]
 have s1:=c8 (o:=.lst ((("pair":Str)::ns.map N9).map V.str)) fl
 have g1:(upd H l (.lst ((("pair":Str)::ns.map N9).map V.str))) l=some (.lst ((("pair":Str)::ns.map N9).map V.str)):=a9
 generalize upd H l (.lst ((("pair":Str)::ns.map N9).map V.str))=H1 at s1 g1
 have a0:atI ((("pair":Str)::ns.map N9).map V.str) 0=some (.str "pair"):=p6 (j:=0) rfl
 refine⟨_,rfl,_,rfl,l,_,rfl,SqL.of g1,fun l2 f2=>?_⟩
 rw[cn4]
 have s2:=c8 (o:=.lst ((ns.map N9).map V.str)) f2
 have g2:(upd H1 l2 (.lst ((ns.map N9).map V.str))) l2=some (.lst ((ns.map N9).map V.str)):=a9
 generalize upd H1 l2 (.lst ((ns.map N9).map V.str))=H2 at s2 g2
 refine⟨l2,rfl,⟨_,SqL.of g2⟩,fun D hD=>M3 (K:=K) (a:=l2) (D:=D) (ys:=(ns.map N9).map V.str) (fun i xs σ' H'=>(∃ v,σ'=[v])/\p8 H2 H'/\H' D=some (.lst xs)/\xs=(ns.take i).map V.int) ⟨⟨none,rfl⟩,c8 hD,a9,by rw[K1];rfl⟩ (by rw[a5,a5];omega)
  (fun i xs σ' H' hi ⟨_,s3,g3,e3⟩=>⟨SqL.of (s3 _ _ g2),g3,by rw[e3,a5,k8];omega⟩) ?_ ?_⟩
 ·rintro i xs y σ' H' N kN hy ⟨⟨_,rfl⟩,s3,g3,rfl⟩
  obtain⟨u,hu,eu,rfl⟩:=bu0 hy
  rw[o6]at eu
  obtain⟨z,ez,rfl⟩:∃ z,ns[i]?=some z/\u=N9 z:=by
   cases e:ns[i]? with
   | none=>rw[e]at eu;cases eu
   | some z=>rw[e]at eu;cases eu;exact⟨z,rfl,rfl⟩
  have hz:=hn z (b9 ez)
  obtain⟨_,k2⟩:=bc5 (z:=z) (k:=51) (by decide) hz (by decide)
  have hzl:=(bi3 hz).2.1
  refine A2 (K5 ?_)
  refine⟨_,rfl,N9 z,50,rfl,by omega,by decide,fun _ v H4 s4 hv=>?_,fun e H4 s4=>qe (hbad z (b9 ez) fun k=>absurd (e.symm.trans k) (by decide)) _ (((s1.trans s2).trans s3).trans s4)⟩
  have:v=z:=by
   have h:=hv.symm.trans k2
   exact Option.some.inj h
  subst this
  refine⟨s4 _ _ g3,kN _ _ _ ⟨⟨_,rfl⟩,(s3.trans s4).upd hD,a9,?_⟩⟩
  rw[o7,ez,g9]
  rfl
 ·rintro xs σ' H3 ⟨⟨_,rfl⟩,s3,g3,rfl⟩
  rw[a5,a5,L6]at g3
  have s13:=(s1.trans s2).trans s3
  have g1':=(s2.trans s3) _ _ g1
  have hd:decide ((V.str "pair":V)=.str "pair")=true:=by decide +kernel
  refine⟨_,rfl,l,_,_,_,rfl,rfl,SqL.of g1',a0,rfl,_,rfl,?_⟩
  rw[hd]
  refine E7 ?_
  refine⟨_,rfl,l,_,_,_,rfl,rfl,SqL.of g1',a0,kA,_,rfl,.inr (hK _),rfl,rfl,_,rfl,ah4 (fun hk=>absurd (show (!inV (.str "pair") (kinds.map V.str))=true from hk) (by rw[cm5];decide)) (fun _=>?_)⟩
  refine⟨_,rfl,D,_,rfl,.inl (SqL.of g3),_,rfl,_,_,rfl,rfl,_,rfl,ah4 (fun hl=>?_) (fun _=>?_)⟩
  ·have:=of_decide_eq_true hl
   rw[a5,<- hns,i9,i9]at this
   omega
  refine⟨_,rfl,l,_,_,_,rfl,rfl,SqL.of g1',a0,_,rfl,_,rfl,_,rfl,D,_,rfl,SqL.of g3,fun p fp=>?_⟩
  refine⟨_,rfl,_,rfl,_,rfl,D,_,rfl,SqL.of (c8 fp _ _ g3),fun q' fq=>?_⟩
  refine⟨by show 3<=d8;omega,fun t ft=>?_⟩
  have st:=c8 (o:=.tup [.str "pair",.ref p,.ref q']) ft
  refine q t p q' _ (s13.trans ((c8 fp).trans ((c8 fq).trans st))) a9 (st _ _ (c8 fq _ _ ?_)) (st _ _ ?_)
  ·rw[a9,<- hns]
   exact congrArg (fun z=>some (HO.lst z)) (bk5 ((x0::y0::ns0).map V.int) 2)
  ·rw[a9,<- hns]
   exact congrArg (fun z=>some (HO.lst z)) (av3 ((x0::y0::ns0).map V.int) 2)
end
end Web
namespace Web
open PySem L2
def Fnd (K:W.Frag)(H:Hp)(r:Addr)(ns:List Int)(i j:Nat):Prop:=
 (∃ (m:Int) (s:Str) (p:Addr) (y:Wl),((m=1/\s="all")\/(m = -1/\s="none"/\O2 (mv2 ns 1 [(i:Int),(j:Int)]) .free))/\O2 (mv2 ns m [(i:Int),(j:Int)]) y/\y≠.free/\H r=some (.tup [.str s,.ref p])/\H p=some (.tup (wlT y))) \/
 (∃ (w1 w2:Addr) (k1 k2:List (List Int)),O2 (mv2 ns 1 [(i:Int),(j:Int)]) .free/\O2 (mv2 ns (-1) [(i:Int),(j:Int)]) .free/\aF3 K H w1 ns k1/\aF3 K H w2 ns k2/\up [(i:Int),(j:Int)]∈k1/\up [(i:Int),(j:Int)]∉k2/\be8 ns i j true k1/\be8 ns i j false k2/\H r=some (.tup [.str "some",.ref w1,.ref w2]))
theorem Fnd.told {K:W.Frag}{PT:Addr}{Q:VK}(h:∀ (r:Addr) (H':Hp),K8 PT H H'->Tb PT H'->Fnd K H' r ns i j->Q (.ref r) H'):PTk K PT ns i j H Q:=by
 refine⟨fun m s hm hn r p y H' g t hy hyf gr gp=>h r H' g t (.inl ⟨m,s,p,y,hm,hy,hyf,gr,gp⟩),fun f1 f2 r w1 w2 k1 k2 H' g t b1 b2 i1 i2 l1 l2 gr=>h r H' g t (.inr ⟨w1,w2,k1,k2,f1,f2,b1,b2,i1,i2,l1,l2,gr⟩)⟩
def PrR (ns:List Int)(i j:Nat)(ys:List Str):Prop:=
 (∃ (m:Int) (x:Str) (y:Wl),((m=1/\x="all")\/(m = -1/\x="none"/\O2 (mv2 ns 1 [(i:Int),(j:Int)]) .free))/\O2 (mv2 ns m [(i:Int),(j:Int)]) y/\y≠.free/\ys=[Str.join " " ((V.str x::wlT y).map vT)]) \/
 (O2 (mv2 ns 1 [(i:Int),(j:Int)]) .free/\O2 (mv2 ns (-1) [(i:Int),(j:Int)]) .free/\∃ k1 k2,Tld ns.length k1/\tal ns.length k1=ns/\Tld ns.length k2/\tal ns.length k2=ns/\up [(i:Int),(j:Int)]∈k1/\up [(i:Int),(j:Int)]∉k2/\ys=[("some":Str),L7 k1,L7 k2])
theorem bs5 (hl:ns.length<=24){x:Wl}(h:O2 ns x):∀ v∈wlT x,bE0 v:=by
 have nat:∀ p:Nat,p<=24->bE0 (.int (p:Int)):=fun p hp=>by
  obtain⟨a,b,_⟩:=aC6 (z:=(p:Int)) ⟨by omega,by omega⟩
  exact .inr ⟨_,rfl,a,by omega⟩
 cases x with
 | below p =>
  intro v hv
  have hp:p<ns.length:=by
   obtain⟨⟨z,hz,_⟩,_⟩:=h
   exact(d5.mp hz).1
  rcases c5.mp hv with e | e
  ·rw[e];exact .inl ⟨_,rfl,by decide +kernel⟩
  ·rw[j8.mp e];exact nat p (by omega)
 | odd =>
  intro v hv
  rw[j8.mp hv];exact .inl ⟨_,rfl,by decide +kernel⟩
 | wall r =>
  intro v hv
  have hr:r<=ns.length:=h.2.2.2.1
  rcases c5.mp hv with e | e
  ·rw[e];exact .inl ⟨_,rfl,by decide +kernel⟩
  ·rw[j8.mp e];exact nat r (by omega)
 | free=>intro v hv;cases hv
theorem bs6 (x:Wl):(wlT x).length<=30:=by cases x<;>simp[wlT]
theorem bf9 (x:Wl):(wlT x).length<=3:=by cases x<;>simp[wlT]
theorem aI4 (hn:n<=24)(h:∀ k∈ks,Up n k):SmK ks:=fun k hk=>by
 obtain⟨i,j,h1,h2,rfl⟩:=h k hk
 exact⟨_,_,rfl,⟨by omega,by omega⟩,by omega,by omega⟩
seal L2.PE L2.PA L2.PS L2.PSs L2.PT
section
variable {K:W.Frag} {mg:Str->Option Value} {base:Heap}
def bV7 (K:W.Frag):Sp:=fun vs H Q _=>∃ (r:Addr) (ns:List Int) (i j:Nat),vs=[.ref r]/\R9 ns/\Fnd K H r ns i j/\∀ (l:Addr) (ys:List Str) (H':Hp),p8 H H'->PrR ns i j ys->H' l=some (.lst (ys.map V.str))->Q (.ref l) H'
theorem cp6:p9 ["told"] ["told"] (m9 aB2):=.mk'
theorem cl4 {fR:Addr}(F:Fun K "pair_rows" "pair_rows" aB2 f fd)(FT:Fq K mg "web_text" aS1 fT fdT ["web"])(GT:p0 P w K mg base CX0 1 fT fdT ["web"] (ch6 K))
  (FR:Fq K mg "row_text" aS3 fR fdR ["parts"])(GR:p0 P w K mg base CX0 1 fR fdR ["parts"] (ch9 K)):p0 P w K mg base CX0 2 f fd ["told"] (bV7 K):=by
 refine F.ok cp6 (fun cdv A outer s H vs Q E hr h=>?_)
 obtain⟨r,ns,i,j,rfl,ht,hF,q⟩:=h
 have hsl:=L1
 refine⟨_,c9 (D6 (p5 Q8 (B9 J8 (pv 0) d6 (fun _ _=>rfl)) C8 (y9 _)) (j3 (r6 (P0 (a6 C8 (a6 (A9 GT hr (by rfl) FT D0 (a6 (B9 J8 (pv 0) d6 (fun _ _=>rfl)) b7)) (a6 (A9 GT hr (by rfl) FT D0 (a6 (B9 J8 (pv 0) d6 (fun _ _=>rfl)) b7)) b7)))))) x9)
  (j3 (r6 (P0 (a6 (A9 GR hr (by rfl) FR D0 (a6 (o8 bJ8 (J7 (a6 (B9 J8 (pv 0) d6 (fun _ _=>rfl)) b7)) (B9 J8 (pv 0) d6 (fun _ _=>rfl))) b7)) b7)))),?_⟩
 rcases hF with⟨m,x,p,y,hm,hy,hyf,gr,gp⟩ | ⟨w1,w2,k1,k2,f1,f2,b1,b2,i1,i2,_,_,gr⟩
 ·have hd:decide ((V.str x:V)=.str "some")=false:=by rcases hm with⟨_,rfl⟩ | ⟨_,rfl,_⟩<;>decide +kernel
  have hx:bE0 (V.str x):=.inl ⟨x,rfl,by rcases hm with⟨_,rfl⟩ | ⟨_,rfl,_⟩<;>decide +kernel⟩
  refine⟨_,rfl,r,_,_,_,rfl,rfl,SqT.of gr,p6 (j:=0) rfl,rfl,_,rfl,?_⟩
  rw[hd]
  refine E8 ⟨_,rfl,r,_,_,_,rfl,rfl,SqT.of gr,p6 (j:=0) rfl,(by show 1<=d8;decide),fun t1 f1=>?_⟩
  have s1:=c8 (o:=.tup [.str x]) f1
  have hwl:=bs6 y
  have hne:wlT y≠[]:=by cases y<;>first | (intro z;cases z;done) | exact absurd rfl hyf
  refine⟨_,rfl,r,_,_,_,rfl,rfl,SqT.of (s1 _ _ gr),p6 (j:=1) rfl,t1,p,[.str x],wlT y,rfl,rfl,SqT.of a9,SqT.of (s1 _ _ gp),by simp,by show 1+(wlT y).length<=d8;omega,fun z=>absurd z hne,fun _ t2 f2=>?_⟩
  have s2:=c8 (o:=.tup ([.str x]++wlT y)) f2
  refine⟨t2,.str x::wlT y,rfl,SqT.of a9,fun v hv=>?_,by rw[i9];have:=bf9 y;omega,fun H3 s3=>⟨(by show 1<=d8;decide),fun l fl=>?_⟩⟩
  ·rcases c5.mp hv with e | e
   ·rw[e];exact hx
   ·exact bs5 (ns:=mv2 ns m [(i:Int),(j:Int)]) (by rw[al9];exact ht.2) hy v e
  exact q l [Str.join " " ((V.str x::wlT y).map vT)] _ (((s1.trans s2).trans s3).trans (c8 fl)) (.inl ⟨m,x,y,hm,hy,hyf,rfl⟩) a9
 ·have hd:decide ((V.str "some":V)=.str "some")=true:=by decide +kernel
  refine⟨_,rfl,r,_,_,_,rfl,rfl,SqT.of gr,p6 (j:=0) rfl,rfl,_,rfl,?_⟩
  rw[hd]
  obtain⟨t,zs,gb,gt,tt⟩:=b1.at_
  obtain⟨t',zs',gb',gt',tt'⟩:=b2.at_
  have hl:=ao7 ht.2 b1.told.nd b1.told.ups
  have hl':=ao7 ht.2 b2.told.nd b2.told.ups
  refine E7 ⟨_,rfl,r,_,_,_,rfl,rfl,SqT.of gr,p6 (j:=1) rfl,w1,t,_,zs,k1,rfl,gb,gt,tt,aI4 ht.2 b1.told.ups,by omega,fun H2 s2=>?_⟩
  refine⟨_,rfl,r,_,_,_,rfl,rfl,SqT.of (s2 _ _ gr),p6 (j:=2) rfl,w2,t',_,zs',k2,rfl,s2 _ _ gb',s2 _ _ gt',s2.tups tt',aI4 ht.2 b2.told.ups,by omega,fun H3 s3=>⟨(by show 3<=d8;decide),fun l fl=>?_⟩⟩
  exact q l [("some":Str),L7 k1,L7 k2] _ ((s2.trans s3).trans (c8 fl)) (.inr ⟨f1,f2,k1,k2,b1.told,b1.tal,b2.told,b2.tal,i1,i2,rfl⟩) a9
def bV5 (K:W.Frag)(PT CB CW CP:Addr):Sp:=fun vs H Q E=>∃ (pr ta:Addr) (ns:List Int) (x y:Int),vs=[.str "pair",.ref pr,.ref ta]/\H pr=some (.lst [.int x,.int y])/\Sq K H ta ns/\R9 ns/\Tb PT H/\(O2 ns .free->∀ i j:Nat,x=i->y=j->i<ns.length->j<ns.length->i≠j->∀ (l:Addr) (ys:List Str) (H':Hp),K8 PT H H'->Tb PT H'->PrR ns i j ys->H' l=some (.lst (ys.map V.str))->Q (.ref l) H') /\
 (¬ O2 ns .free->∀ H':Hp,p8 H H'->E (.ref CW) none H')/\(O2 ns .free->¬ aO1 ns.length x y->∀ H':Hp,p8 H H'->E (.ref CP) none H')
theorem cp5:p9 ["kind","pair","tally","told"] ["kind","pair","tally"] (m9 aB0):=.mk'
theorem cl2 {fA fR CW CP PT:Addr}{k:Nat}(hk:2<=k)(F:Fun K "rows_for" "rows_for" aB0 f fd)(FA:Fq K mg "pair_told" sPT fA fdA ["tally","one","other"])(GA:p0 P w K mg base (CXE P w) k fA fdA ["tally","one","other"] (bV6 K PT CB CW CP))
  (FR:Fq K mg "pair_rows" aB2 fR fdR ["told"])(GR:p0 P w K mg base CX0 2 fR fdR ["told"] (bV7 K)):p0 P w K mg base (CXE P w) (k+1) f fd ["kind","pair","tally"] (bV5 K PT CB CW CP):=by
 refine F.okX cp5 (fun cdv A outer s H vs Q E hr h=>?_)
 obtain⟨pr,ta,ns,x,y,rfl,gp,hS,ht,tb,q,qw,qn⟩:=h
 refine⟨_,c9 (D6 (p5 Q8 (pv 0) C8 (y9 _)) J4 x9) (c9 (D6 (p5 Q8 (pv 0) C8 (y9 _)) (j3 (r6 (al4 (GR.mono hk) hr (by rfl) FR.m FR.F.kp FR.b .nil D0 (a6 (A9 GA hr (by rfl) FA aj1 (a6 (pv 2) (a6 (B9 C3 (pv 1) d6 (fun _ _=>rfl)) (a6 (B9 C3 (pv 1) d6 (fun _ _=>rfl)) b7)))) b7)))) x9) J4),?_⟩
 have hd:decide ((V.str "pair":V)=.str "web")=false:=by decide +kernel
 have hd2:decide ((V.str "pair":V)=.str "pair")=true:=by decide +kernel
 refine⟨_,rfl,rfl,_,rfl,?_⟩
 rw[hd]
 refine E8 ⟨_,rfl,rfl,_,rfl,?_⟩
 rw[hd2]
 refine E7 ⟨_,rfl,_,rfl,pr,_,_,_,rfl,rfl,SqL.of gp,p6 (j:=0) rfl,_,rfl,pr,_,_,_,rfl,rfl,SqL.of gp,p6 (j:=1) rfl,ta,ns,x,y,rfl,hS,tb,fun h=>absurd ht h,fun _ h=>qw h,fun _ hf hp=>qn hf hp,fun _ hf i j e1 e2 hi hj hij=>?_⟩
 refine Fnd.told fun r H1 g1 t1 hFn=>?_
 exact⟨r,ns,i,j,rfl,ht,hFn,fun l ys H2 s2 hy gl=>q hf i j e1 e2 hi hj hij l ys H2 (g1.trans (s2.grow PT)) (t1.same s2) hy gl⟩
end
end Web
namespace Web
open PySem L2
theorem bz3 (K:W.Frag)(hK:X.K=K):MtR X "str.join" (rJoin K):=by subst hK;exact ay5
theorem bX6 (ht:R9 ns){ys:List Str}(h:PrR ns i j ys):(∀ u∈ys,u.length<=4000)/\ys.length<=3:=by
 rcases h with⟨m,x,y,hm,hy,_,rfl⟩ | ⟨_,_,k1,k2,h1,_,h2,_,_,_,rfl⟩
 ·refine⟨fun u hu=>?_,by show 1<=3;decide⟩
  rw[j8.mp hu]
  have h1:=ab0 (y:=" ") (xs:=(V.str x::wlT y).map vT) (m:=100) (n:=30) (fun u hu=>by
   obtain⟨v,hv,rfl⟩:=k9.mp hu
   rcases c5.mp hv with e | e
   ·rw[e];exact aM8 (.inl ⟨x,rfl,by rcases hm with⟨_,rfl⟩ | ⟨_,rfl,_⟩<;>decide +kernel⟩)
   ·exact aM8 (bs5 (ns:=mv2 ns m [(i:Int),(j:Int)]) (by rw[al9];exact ht.2) hy v e)) (by rw[a5,i9];have:=bf9 y;omega) (by rw[O9];decide)
  have:=h1.2
  rw[O9,show Txt.join " " ((V.str x::wlT y).map vT)=Str.join " " ((V.str x::wlT y).map vT) from StrLaws.glued_eq_join _ _]at this
  omega
 ·have r1:=(aM5 (aI4 ht.2 h1.ups) (by have:=ao7 ht.2 h1.nd h1.ups;omega)).1
  have r2:=(aM5 (aI4 ht.2 h2.ups) (by have:=ao7 ht.2 h2.nd h2.ups;omega)).1
  have r0:("some":Str).length<=4000:=by decide +kernel
  refine⟨fun u hu=>?_,by show 3<=3;decide⟩
  simp only[c5,D9,or_false]at hu
  rcases hu with e | e | e<;>rw[e]<;>omega
theorem bz0 (hn:n<=24){z:Int}(h:aV7 n z):okN z:=(bc5 (z:=z) (k:=50) (by decide) (by
 have h1:=h.1
 have h2:=h.2
 have:z.natAbs<24+1:=by omega
 exact o4 this (by decide +kernel)) (by decide)).1
seal L2.PE L2.PA L2.PS L2.PSs L2.PT
section
variable {K:W.Frag} {mg:Str->Option Value} {base:Heap}
def ci1 (PT:Addr):Sp:=fun vs H Q _=>∃ (x y:Int) (ns:List Int),vs=[.str (qT "pair" (x::y::ns))]/\(∀ z∈x::y::ns,Nm z)/\(∀ z∈ns,okN z)/\R9 ns/\Tb PT H/\(O2 ns .free->∀ i j:Nat,x=i->y=j->i<ns.length->j<ns.length->i≠j->∀ (ys:List Str) (H':Hp),K8 PT H H'->Tb PT H'->PrR ns i j ys->Q (.str (Str.join "\n" ys)) H')/\(¬ (O2 ns .free/\aO1 ns.length x y)->∀ H':Hp,p8 H H'->Q (.str "refused") H')
theorem bR4:p9 ["question","parts"] ["question"] (m9 ar0):=.mk'
theorem bZ5 {fA fR CT CN CW CP PT:Addr}{k:Nat}{tR:Tok}(F:Fun K "answer" "answer" ar0 f fd)
  (FA:Fq K mg "asked" aB5 fA fdA ["question"])(GA:p0 P w K mg base (CXE P w) k fA fdA ["question"] (ba6 CN))
  (FR:Fq K mg "rows_for" aB0 fR fdR ["kind","pair","tally"])(GR:p0 P w K mg base (CXE P w) k fR fdR ["kind","pair","tally"] (bV5 K PT CB CW CP))
  (mF:mg "REFUSED"=some (.str "refused" tR))(mT:mg "TallyError"=some (.ref CT))(xN:PySem.W.exmOne K (.ref CN) (.ref CT)=some true)(xW:PySem.W.exmOne K (.ref CW) (.ref CT)=some true)(xP:PySem.W.exmOne K (.ref CP) (.ref CT)=some true):p0 P w K mg base CX0 (k+1) f fd ["question"] (ci1 PT):=by
 refine F.ok bR4 (fun cdv A outer s H vs Q E hr h=>?_)
 obtain⟨x,y,ns,rfl,hn,hok,ht,tb,q,qr⟩:=h
 refine⟨_,j3 (bJ1 (by rfl) mT rfl rfl (fun _ _=>c9 (v8 (i:=1) bR4.nd rfl (Or.inl rfl) (aT6 GA hr (by rfl) FA.m FA.F.kp FA.b bh7 (a6 (pv 0) b7)))
   (j3 (r6 (bY0 (te:=tC .non) K rfl (ac8 PySem.F.plainAttrs_str PySem.F.slot_str_join PySem.F.type_str_join (bz3 K rfl) C8 (a6 (aT6 GR hr (by rfl) FR.m FR.F.kp FR.b bh7 (a6 (aN2 K rfl (pv 1) d6 (fun _ _=>rfl)) (a6 (aN2 K rfl (pv 1) d6 (fun _ _=>rfl)) (a6 (aN2 K rfl (pv 1) d6 (fun _ _=>rfl)) b7)))) b7))))))
  (fun _=>j3 (r6 (af1 (v:=.str "refused") (by rfl) mF ⟨tR,rfl⟩)))),?_⟩
 refine⟨fun _ cls _ H'=>p8 H H'/\¬ (O2 ns .free/\aO1 ns.length x y)/\(cls=.ref CN\/cls=.ref CW\/cls=.ref CP),?_,?_⟩
 ·refine⟨_,rfl,x,y,ns,rfl,hn,hok,ht.2,fun t p q' H1 s1 gt gp gq=>?_,fun hb H1 s1=>⟨s1,fun h=>hb.elim (fun z=>z (bz0 ht.2 h.2.1)) fun z=>z (bz0 ht.2 h.2.2.1),.inl rfl⟩⟩
  refine⟨rfl,_,rfl,t,_,_,_,rfl,rfl,SqT.of gt,p6 (j:=0) rfl,_,rfl,t,_,_,_,rfl,rfl,SqT.of gt,p6 (j:=1) rfl,_,rfl,t,_,_,_,rfl,rfl,SqT.of gt,p6 (j:=2) rfl,?_⟩
  refine⟨p,q',ns,x,y,rfl,gp,.inl (SqL.of gq),ht,tb.same s1,fun hf i j e1 e2 hi hj hij l ys H2 g2 t2 hy gl=>?_,fun hf H2 s2=>⟨s1.trans s2,fun h=>hf h.1,.inr (.inl rfl)⟩,fun hf hp H2 s2=>⟨s1.trans s2,fun h=>hp h.2,.inr (.inr rfl)⟩⟩
  obtain⟨l1,l2⟩:=bX6 ht hy
  have hj':=ab0 (y:="\n") (xs:=ys) (m:=4000) (n:=3) l1 l2 (by decide +kernel)
  refine⟨"\n",l,ys,rfl,rfl,SqL.of gl,hj'.1,?_⟩
  rw[show Txt.join "\n" ys=Str.join "\n" ys from StrLaws.glued_eq_join _ _]
  exact q hf i j e1 e2 hi hj hij ys H2 ((s1.grow PT).trans g2) t2 hy
 ·rintro σ' cls H' ⟨s',hc,rfl | rfl | rfl⟩
  ·exact⟨xN,qr hc H' s'⟩
  ·exact⟨xW,qr hc H' s'⟩
  ·exact⟨xP,qr hc H' s'⟩
end
end Web
namespace Web
open PySem L2
theorem aU1 {z:Int}:32∉(N9 z).cps.toList:=fun hc=>(PyProof.Rows.intText_free_32 z).mp hc
theorem aW6 {a b:Str}(ha:32∉a.cps.toList)(hb:32∉b.cps.toList):32∉(a++b).cps.toList:=by
 rw[aL8]
 exact fun h=>(m7.mp h).elim ha hb
theorem bq2:32∉("-":Str).cps.toList:=by decide +kernel
theorem aQ8 (hn:n<=24):∀ {ks:List (List Int)},(∀ k∈ks,Up n k)->ab3 (ks.map am5) ks
 | [],_=>.nil
 | k::ks,h=>by
  obtain⟨qs,h1,h2⟩:=aQ8 hn (ks:=ks) fun k' hk=>h k' (b8 _ hk)
  obtain⟨i,j,hij,hj,rfl⟩:=h k c7
  refine⟨(i,j)::qs,?_,?_⟩
  ·rw[n6,n6,n6,h1]
   have:Z3 (am5 [(i:Int),(j:Int)])=some (i,j):=bt1 hij (by omega)
   rw[this]
  ·rw[n6,<- h2]
   rfl
theorem bI5 (n1:1<=n)(n2:n<=24)(hT:Tld n ks):bO5 (L7 ks) n ks:=by
 refine⟨ks.map am5,?_,aQ8 n2 hT.ups,⟨rfl,n1,n2,hT⟩⟩
 unfold L7
 rw[bQ3]
 refine ae7 (c:=32) "web" (ks.map am5) fun u hu=>?_
 rcases c5.mp hu with e | e
 ·rw[e];exact bs7
 ·obtain⟨k,hk,rfl⟩:=k9.mp e
  obtain⟨i,j,_,_,rfl⟩:=hT.ups k hk
  exact aW6 (aW6 aU1 bq2) aU1
seal L2.PE L2.PA L2.PS L2.PSs L2.PT
section
variable {K:W.Frag} {mg:Str->Option Value} {base:Heap}
def ba3 (K:W.Frag):Sp:=fun vs H Q _=>∃ (n:Nat) (a:Addr) (ys:List V) (ks:List (List Int)),vs=[.int n,.ref a]/\n<=24/\SqT K H a ys/\C1 K H ys ks/\(∀ k∈ks,an6 n k)/\∀ (l:Addr) (H':Hp),p8 H H'->H l=none->H' l=some (.lst ((tal n ks).map V.int))->Q (.ref l) H'
theorem aM4:p9 ["places","ties","counts","one","other"] ["places","ties"] (m9 al1):=.mk'
theorem bi0 (F:Fun K "_law_counts" "_law_counts" al1 f fd):p0 P w K mg base CX0 1 f fd ["places","ties"] (ba3 K):=by
 refine F.ok aM4 (fun cdv A outer s H vs Q E hr h=>?_)
 obtain⟨n,a,ys,ks,rfl,hn,h2,h3,hE,q⟩:=h
 have hsl:=L1
 refine⟨_,c9 (v8 (i:=2) aM4.nd rfl (Or.inl rfl) (o8 bY2 (P0 (a6 d6 b7)) (pv 0)))
  (c9 (W2 PassesOwn.never rfl (aN0 (pv 1)) (bx6 rfl (ac7 (B2 (i := 3) aM4.nd rfl (Or.inl rfl)) (ac7 (B2 (i := 4) aM4.nd rfl (Or.inl rfl)) aN1)))
   (c9 (ai8 (o8 L8 (B9 C3 (pv 2) (pv 3) (fun _ _=>rfl)) d6) (aj0 (pv 2) (pv 3) set_list)) (j3 (ai8 (o8 L8 (B9 C3 (pv 2) (pv 4) (fun _ _=>rfl)) d6) (aj0 (pv 2) (pv 4) set_list)))))
  (j3 (r6 (pv 2)))),?_⟩
 refine⟨(by show 1<=d8;decide),fun l0 f0=>?_⟩
 have s0:=c8 (o:=.lst [.int 0]) f0
 refine⟨_,rfl,l0,n,[.int 0],rfl,rfl,a9,by omega,by omega,?_,fun l hl=>?_⟩
 ·show 1*(n:Int).toNat<=d8
  omega
 rw[j6,rep0]
 have s1:=s0.trans (c8 (o:=.lst ((tal n []).map V.int)) hl)
 have g1:(upd (upd H l0 (.lst [.int 0])) l (.lst ((tal n []).map V.int))) l=some (.lst ((tal n []).map V.int)):=a9
 have fl:H l=none:=s0.free hl
 generalize upd (upd H l0 (.lst [.int 0])) l (.lst ((tal n []).map V.int))=H1 at s1 g1 ⊢
 have hz:=h3.len
 refine⟨_,rfl,a,rfl,⟨_,s1.seqT h2⟩,?_⟩
 refine bN7 (K:=K) (a:=a) (xs:=ys) (fun i σ H2=>∃ ea eb,σ=[some (.int n),some (.ref a),some (.ref l),ea,eb]/\p8 H H2/\H2 l=some (.lst ((tal n (ks.take i)).map V.int))) ⟨none,none,rfl,s1,by rw[K1];exact g1⟩ (fun i σ H2 _ ⟨_,_,_,s2,_⟩=>s2.seqT h2) ?_ ?_
 ·rintro i x σ H2 hx ⟨ea,eb,rfl,s2,g2⟩
  obtain⟨pa,pk,rfl,hk,hq⟩:=h3.get hx
  obtain⟨i1,j1,u1,u2,u3,epk⟩:=hE pk (b9 hk)
  have hq2:=s2.seqT hq
  rw[epk]at hq2
  refine⟨pa,_,rfl,hq2,rfl,_,_,rfl,_,_,rfl,rfl,?_⟩
  have t1:((tal n (ks.take i)).map V.int)[i1]?=some (.int (W4 (ks.take i) i1)):=by rw[o6,ae6 u1];rfl
  have t2:(((tal n (ks.take i)).map V.int).set i1 (.int ((W4 (ks.take i) i1:Int)+1)))[j1]?=some (.int (W4 (ks.take i) j1)):=by
   rw[T6 u3,o6,ae6 u2];rfl
  have lt:((tal n (ks.take i)).map V.int).length=n:=by rw[a5,Z9]
  refine⟨_,rfl,_,rfl,l,_,_,_,rfl,rfl,SqL.of g2,p6 t1,_,_,rfl,rfl,_,rfl,_,rfl,l,_,_,i1,rfl,rfl,g2,by rw[lt];exact X2 u1,?_⟩
  refine⟨_,rfl,_,rfl,l,_,_,_,rfl,rfl,SqL.of a9,p6 t2,_,_,rfl,rfl,_,rfl,_,rfl,l,_,_,j1,rfl,rfl,a9,by rw[A3,lt];exact X2 u2,?_⟩
  refine⟨_,_,rfl,?_,?_⟩
  ·rw[ax9]
   exact s2.upd fl
  ·rw[a9,o7,hk,bF6,epk,<- bH3 u1 u2 u3 (ks.take i) _ _ rfl rfl,R1,R1]
 ·rintro σ H2 ⟨ea,eb,rfl,s2,g2⟩
  rw[k7 (by omega)]at g2
  exact⟨_,rfl,q l H2 s2 fl g2⟩
def bW0:Sp:=fun vs H Q _=>∃ (x:Str) (n:Nat) (ks:List (List Int)),vs=[.str x,.int n]/\x.length<=5000/\U7 x/\bO5 x n ks/\∀ (l:Addr) (H':Hp),p8 H H'->H' l=some (.lst ((tal n ks).map V.int))->Q (.ref l) H'
theorem cj5:p9 ["row","places","web"] ["row","places"] (m9 aq9):=.mk'
theorem cl8 {fO fC:Addr}(F:Fun K "_law_counted" "_law_counted" aq9 f fd)(FO:Fq K mg "_law_web_of" au1 fO fdO ["row","places"])(GO:p0 P w K mg base CX0 3 fO fdO ["row","places"] (bH9 K))
  (FC:Fq K mg "_law_counts" al1 fC fdC ["places","ties"]):p0 P w K mg base CX0 4 f fd ["row","places"] bW0:=by
 have GC:p0 P w K mg base CX0 3 fC fdC ["places","ties"] (ba3 K):=(bi0 FC.F).mono (by decide)
 refine F.ok cj5 (fun cdv A outer s H vs Q E hr h=>?_)
 obtain⟨x,n,ks,rfl,hx,hA,hW,q⟩:=h
 have hT:=hW.choose_spec.2.2
 refine⟨_,c9 (v8 (i:=2) cj5.nd rfl (Or.inl rfl) (A9 GO hr (by rfl) FO D0 (a6 (pv 0) (a6 (pv 1) b7))))
  (c9 (D6 (p5 bY4 (pv 2) P8 (y9 _)) J4 x9)
  (j3 (r6 (A9 GC hr (by rfl) FC D0 (a6 (pv 1) (a6 (B9 J8 (pv 2) d6 (fun _ _=>rfl)) b7)))))),?_⟩
 refine⟨_,rfl,_,rfl,x,n,rfl,hT.n1,hT.n2,hx,hA,fun ks' hW' p t zs H1 s1 gp gt tt=>?_,fun h=>absurd ⟨ks,hW⟩ h⟩
 obtain⟨r,e,hR,_⟩:=hW
 obtain⟨r',e',hR',_⟩:=hW'
 rw[e]at e'
 cases e'
 have ek:=hR'.uniq hR
 subst ek
 refine⟨_,rfl,rfl,_,rfl,E8 ?_⟩
 refine⟨_,rfl,_,rfl,p,_,_,_,rfl,rfl,SqT.of gp,p6 (j:=1) rfl,n,t,zs,ks',rfl,hT.n2,SqT.of gt,tt,fun k hk=>(hT.t.ups k hk).ends,fun l H2 s2 _ gl=>q l H2 (s1.trans s2) gl⟩
end
end Web
namespace Web
open PySem L2
theorem bw8 (n:Nat):rng (n+1)=rng n++[(n:Int)]:=by
 unfold rng
 rw[List.range'_1_concat,g9]
 simp
theorem ins_map (zs:List Int)(k:Nat)(z:Int):(zs.map V.int).take k++[.int z]++(zs.map V.int).drop k=(zs.take k++[z]++zs.drop k).map V.int:=by
 rw[g9,g9,aF7,aF6]
 rfl
section
variable {K:W.Frag} {mg:Str->Option Value} {base:Heap}
def bu8 (K:W.Frag):Sp:=fun vs H Q _=>∃ (a:Addr) (ns:List Int),vs=[.ref a]/\SqL K H a (ns.map V.int)/\ns.length<=24 /\
 ∀ (l:Addr) (zs:List Int) (H':Hp),p8 H H'->H l=none->H' l=some (.lst (zs.map V.int))->zs.Perm (rng ns.length)->zs.Pairwise (ole ns)->Q (.ref l) H'
theorem aA8:p9 ["tally","order","place","at"] ["tally"] (m9 aI8):=.mk'
theorem bL0 (F:Fun K "_law_order" "_law_order" aI8 f fd) (B:Bn mg):p0 P w K mg base CX0 1 f fd ["tally"] (bu8 K):=by
 refine F.ok aA8 (fun cdv A outer s H vs Q E hr h=>?_)
 obtain⟨a,ns,rfl,hS,hn,q⟩:=h
 have hsl:=L1
 refine⟨_,c9 (v8 (i:=1) aA8.nd rfl (Or.inl rfl) (P0 b7))
  (c9 (W2 PassesOwn.never rfl (S5 rfl B.range (a6 (n9 o9 (by rfl) B.len PySem.boot_len (a6 (pv 0) b7)) b7)) (B2 (i := 2) aA8.nd rfl (Or.inl rfl))
   (c9 (v8 (i:=3) aA8.nd rfl (Or.inl rfl) d6)
   (c9 (aT4 PassesOwn.never (PW.pt (bb8 (p5 ag6 (pv 3) (n9 o9 (by rfl) B.len PySem.boot_len (a6 (pv 1) b7)) (y9 _))
     (aM7 (p5 by5 (B9 C3 (pv 0) (B9 C3 (pv 1) (pv 3) (fun _ _=>rfl)) (fun _ _=>rfl)) (B9 C3 (pv 0) (pv 2) (fun _ _=>rfl)) (y9 _)))))
    (j3 (v8 (i:=3) aA8.nd rfl (Or.inl rfl) (o8 L8 (pv 3) d6))))
   (j3 (R4 (ac8 PySem.F.plainAttrs_list PySem.F.slot_list_insert PySem.F.type_list_insert bo9 (pv 1) (a6 (pv 3) (a6 (pv 2) b7))))))))
  (j3 (r6 (pv 1)))),?_⟩
 refine⟨by show 0<=d8;omega,fun l hl=>?_⟩
 have s0:=c8 (o:=.lst []) hl
 refine⟨_,rfl,a,_,rfl,.inl (s0.seq hS),(ns.length:Int),congrArg (fun z:Nat=>[V.int (z:Int)]) (a5 ..),by omega,by omega,?_⟩
 rw[j6]
 refine S6 (lo:=0) (n:=ns.length) (fun i σ H1=>∃ (zs:List Int) (b c:Option V),σ=[some (.ref a),some (.ref l),b,c]/\p8 H H1/\H1 l=some (.lst (zs.map V.int))/\zs.Perm (rng i)/\zs.Pairwise (ole ns)) ⟨[],none,none,rfl,s0,a9,.refl _,.nil⟩ ?_ ?_
 ·rintro i σ H1 hi ⟨zs,b,c,rfl,s1,g1,hp,hs⟩
  have e0:((0:Int)+(i:Int))=(i:Int):=by omega
  rw[e0]
  have hzl:zs.length=i:=by rw[hp.length_eq,V5]
  have hmem:∀ x∈zs,0<=x/\x<i:=fun x hx=>L5.mp (hp.mem_iff.mp hx)
  have hSa:=s1.seq hS
  have atP:atI (ns.map V.int) (i:Int)=some (.int (ns.getD i 0)):=p6 (j:=i) (by simp[hi])
  refine A2 ⟨fun m σ H2=>∃ k:Nat,m=zs.length - k/\σ=[some (.ref a),some (.ref l),some (.int i),some (.int k)]/\H2=H1/\k<=zs.length/\∀ j x,j<k->zs[j]?=some x->ns.getD i 0<=ns.getD x.toNat 0,⟨_,0,rfl,rfl,rfl,r9 _,fun j x h=>absurd h (aZ0 j)⟩,?_⟩
  rintro m σ H2 ⟨k,rfl,rfl,rfl,hk,hge⟩
  have last:(∀ x,zs[k]?=some x->ns.getD x.toNat 0<ns.getD i 0)->∃ (zs':List Int) (b c:Option V),[some (.ref a),some (.ref l),some (.int i),some (.int k)]=[some (V.ref a),some (.ref l),b,c]/\p8 H (upd H2 l (.lst ((zs.map V.int).take k++[.int i]++(zs.map V.int).drop k))) /\
    (upd H2 l (.lst ((zs.map V.int).take k++[.int i]++(zs.map V.int).drop k))) l=some (.lst (zs'.map V.int))/\zs'.Perm (rng (i+1))/\zs'.Pairwise (ole ns):=fun hst =>
   ⟨zs.take k++[(i:Int)]++zs.drop k,_,_,rfl,s1.upd hl,by rw[a9,ins_map],by rw[bw8];exact bA9 hp,bK1 hs hmem hk hge hst⟩
  refine⟨_,rfl,_,rfl,l,_,rfl,.inl (SqL.of g1),_,_,rfl,rfl,_,rfl,?_⟩
  rw[a5]
  by_cases hkl:(k:Int)<(zs.length:Int)
  ·rw[decide_eq_true hkl]
   refine E7 ?_
   have hkl':k<zs.length:=by omega
   obtain⟨x,hx⟩:∃ x,zs[k]?=some x:=⟨_,f9 hkl'⟩
   obtain⟨hx0,hxi⟩:=hmem x (b9 hx)
   have hxc:((x.toNat:Nat):Int)=x:=by omega
   have atK:atI (zs.map V.int) (k:Int)=some (.int x):=p6 (j:=k) (by rw[o6,hx];rfl)
   have atX:atI (ns.map V.int) x=some (.int (ns.getD x.toNat 0)):=by
    have hb:x.toNat<ns.length:=by omega
    have:=p6 (xs:=ns.map V.int) (j:=x.toNat) (v:=.int (ns.getD x.toNat 0)) (by simp[hb])
    rw[hxc]at this
    exact this
   refine⟨_,rfl,_,rfl,_,rfl,l,_,_,_,rfl,rfl,SqL.of g1,atK,a,_,_,_,rfl,rfl,hSa,atX,_,rfl,_,rfl,a,_,_,_,rfl,rfl,hSa,atP,_,_,rfl,rfl,_,rfl,?_⟩
   by_cases hg:ns.getD i 0<=ns.getD x.toNat 0
   ·rw[decide_eq_true hg]
    refine E7 ⟨fun σ' H'=>σ'=[some (.ref a),some (.ref l),some (.int i),some (.int ((k:Int)+1))]/\H'=H2,fun σ' H' h=>⟨zs.length - (k+1),by omega,k+1,rfl,by rw[h.1];rfl,h.2,hkl',fun j y hj hy=>?_⟩,?_⟩
    ·by_cases hjk:j=k
     ·subst hjk
      rw[hx]at hy
      cases hy
      exact hg
     ·exact hge j y (by omega) hy
    ·exact⟨_,rfl,_,_,rfl,rfl,rfl,rfl⟩
   ·rw[decide_eq_false hg]
    refine E8 ?_
    refine⟨_,rfl,.inl ⟨rfl,_,SqL.of g1⟩,_,rfl,_,rfl,l,_,_,k,rfl,rfl,g1,by rw[a5];exact hk,by rw[a5];omega,last fun y hy=>?_⟩
    rw[hx]at hy
    cases hy
    omega
  ·rw[decide_eq_false hkl]
   refine E8 (E8 ?_)
   refine⟨_,rfl,.inl ⟨rfl,_,SqL.of g1⟩,_,rfl,_,rfl,l,_,_,k,rfl,rfl,g1,by rw[a5];exact hk,by rw[a5];omega,last fun y hy=>?_⟩
   have:=(d5.mp hy).1
   omega
 ·rintro σ H1 ⟨zs,b,c,rfl,s1,g1,hp,hs⟩
  exact⟨_,rfl,q l zs H1 s1 hl g1 hp hs⟩
end
seal L2.PE L2.PA L2.PS L2.PSs L2.PT
section
variable {K:W.Frag} {mg:Str->Option Value} {base:Heap}
def bQ6 (K:W.Frag):Sp:=fun vs H Q _=>∃ (a:Addr) (ns:List Int) (r:Nat),vs=[.ref a,.int r]/\SqL K H a (ns.map V.int)/\ns.length<=24/\r<=100/\∀ H',p8 H H'->Q (.int (ai5 ns r)) H'
theorem bR2:p9 ["tally","r","numbers"] ["tally","r"] (m9 aB3):=.mk'
theorem bY9 {fO:Addr} (F:Fun K "_law_room" "_law_room" aB3 f fd) (B:Bn mg) (FO:Fq K mg "_law_order" aI8 fO fdO ["tally"]):p0 P w K mg base CX0 2 f fd ["tally","r"] (bQ6 K):=by
 have GO:p0 P w K mg base CX0 1 fO fdO ["tally"] (bu8 K):=bL0 FO.F B
 refine F.ok bR2 (fun cdv A outer s H vs Q E hr h=>?_)
 obtain⟨a,ns,r,rfl,hS,hl,hr1,q⟩:=h
 have hsl:=L1
 have nd1:(["place","tally"]:List Str).Nodup:=by decide +kernel
 have nd2:(["number","r"]:List Str).Nodup:=by decide +kernel
 refine⟨_,c9 (ay2 (i:=2) bR2.nd rfl rfl (by rfl) (N':=["place","tally"]) (lk:=[none,some 0]) rfl (P3 (A9 GO hr (by rfl) FO D0 (a6 (pv 0) b7))) (by rfl) rfl (by decide +kernel) (by exact⟨rfl,trivial⟩) (by rfl) (by exact LkL.ok ⟨⟨rfl,Or.inl rfl,rfl,Or.inl rfl⟩,trivial⟩)
   (fun _ _ _=>B2 (i:=0) nd1 rfl (Or.inl rfl)) (fun _ _ _=>P2) (fun _ _ _=>af0 K rfl (pv 1) (pv 0) (fun _ _=>rfl)))
  (j3 (r6 (o8 ab7 (o8 L8 (o8 af3 (pv 1) (o8 ab7 (pv 1) d6)) (n9 (ad2 rfl) (by rfl) B.sum (by rfl) (a6
   (N4 (N' := ["number", "r"]) (lk := [none, some 1]) rfl (P3 (N8 U0 (pv 2) (Q3 (pv 1)) U2)) (by rfl) rfl (by decide +kernel) (by exact ⟨rfl, trivial⟩) (by rfl) (by exact LkL.ok ⟨⟨rfl, Or.inl rfl, rfl, Or.inl rfl⟩, trivial⟩)
    (fun _ _ _=>B2 (i:=0) nd2 rfl (Or.inl rfl)) (fun _ _ _=>P2) (fun _ _ _=>n9 (ad3 rfl) (by rfl) B.min (by rfl) (a6 (pv 0) (a6 (pv 1) b7)))) b7)))
   (n9 (ad2 rfl) (by rfl) B.sum (by rfl) (a6 (N8 U0 (pv 2) U2 (Q3 (pv 1))) b7))))),?_⟩
 refine⟨_,rfl,a,ns,rfl,hS,hl,fun lo zo H1 s1 _ g1 hp hs=>⟨lo,rfl,⟨_,SqL.of g1⟩,fun D hD=>?_⟩⟩
 have hzl:zo.length=ns.length:=by rw[hp.length_eq,V5]
 refine M3 (K:=K) (a:=lo) (D:=D) (ys:=zo.map V.int) (fun i xs σ' H'=>∃ v,σ'=[v,some (.ref a)]/\p8 H1 H'/\H' D=some (.lst xs)/\xs=((zo.take i).map fun z=>ns.getD z.toNat 0).map V.int) ⟨none,rfl,c8 hD,a9,by rw[K1];rfl⟩ (by rw[a5];omega)
  (fun i xs σ' H' hi ⟨_,_,s3,g3,e3⟩=>⟨SqL.of (s3 _ _ g1),g3,by rw[e3,a5,a5,k8];omega⟩) ?_ ?_
 ·rintro i xs x σ' H' N kN hx ⟨v,rfl,s3,g3,rfl⟩
  obtain⟨z,hz',rfl⟩:=X3 hx
  obtain⟨h0,h1⟩:=L5.mp (hp.mem_iff.mp (b9 hz'))
  obtain⟨j,rfl⟩:=bs1 h0
  have hj:j<ns.length:=by omega
  refine A2 (K5 ?_)
  refine⟨_,rfl,_,rfl,.inl ⟨a,_,_,_,rfl,rfl,(s1.trans s3).seq hS,af9 hj,g3,kN _ _ _ ⟨_,rfl,s3.upd hD,a9,?_⟩⟩⟩
  rw[o7,hz',g9,g9]
  rfl
 ·rintro xs σ' H3 ⟨v,rfl,s3,g3,rfl⟩
  rw[a5,L6]at g3
  have hz:=aC1 hp hs
  generalize (zo.map fun z=>ns.getD z.toNat 0)=zs at g3 hz
  have hlen:zs.length=ns.length:=by rw[hz,ax7,aq4]
  have s13:=s1.trans s3
  refine⟨_,rfl,_,rfl,_,_,rfl,rfl,_,_,rfl,rfl,.inl ⟨by omega,by omega⟩,?_⟩
  refine⟨_,rfl,_,rfl,_,rfl,D,_,rfl,SqL.of g3,fun c hc=>?_⟩
  rw[ab9]
  have s4:=c8 (o:=.lst ((zs.drop r).map V.int)) hc
  have g4:(upd H3 c (.lst ((zs.drop r).map V.int))) c=some (.lst ((zs.drop r).map V.int)):=a9
  have g3':=s4 _ _ g3
  generalize upd H3 c (.lst ((zs.drop r).map V.int))=H4 at s4 g4 g3'
  refine⟨c,rfl,⟨_,SqL.of g4⟩,fun D2 hD2=>M3 (K:=K) (a:=c) (D:=D2) (ys:=(zs.drop r).map V.int) (fun i xs σ' H'=>∃ v,σ'=[v,some (.int r)]/\p8 H4 H'/\H' D2=some (.lst xs)/\xs=(((zs.drop r).take i).map (mn r)).map V.int) ⟨none,rfl,c8 hD2,a9,by rw[K1];rfl⟩ (by rw[a5,A1];omega)
   (fun i xs σ' H' hi ⟨_,_,s5,g5,e5⟩=>⟨SqL.of (s5 _ _ g4),g5,by rw[e5,a5,a5,k8,A1];omega⟩) ?_ ?_⟩
  ·rintro i xs x σ' H' N kN hx ⟨v,rfl,s5,g5,rfl⟩
   obtain⟨z,hz',rfl⟩:=X3 hx
   refine A2 (K5 ?_)
   refine⟨_,rfl,_,rfl,_,_,rfl,g5,kN _ _ _ ⟨_,rfl,s5.upd hD2,a9,?_⟩⟩
   rw[o7,hz',g9,g9]
   rfl
  ·rintro xs σ' H5 ⟨v,rfl,s5,g5,rfl⟩
   rw[a5,L6]at g5
   refine⟨D2,_,rfl,SqL.of g5,_,_,rfl,rfl,?_⟩
   refine⟨_,rfl,_,rfl,_,rfl,D,_,rfl,SqL.of (s5 _ _ g3'),fun c2 hc2=>?_⟩
   rw[aj8]
   refine⟨c2,_,rfl,SqL.of a9,_,_,rfl,rfl,?_⟩
   have fin:=q _ (((s13.trans s4).trans s5).trans (c8 (o:=.lst ((zs.take r).map V.int)) hc2))
   rw[<- aB6 (r:=r) hz]at fin
   exact fin
end
end Web
namespace Web
open PySem L2
theorem cd4:("below ":Str)=("below":Str)++" ":=by decide +kernel
theorem bU1:("wall ":Str)=("wall":Str)++" ":=by decide +kernel
def wT (x:Wl):Str:=Str.join " " ((wlT x).map vT)
theorem bs9 (p:Nat):wT (.below p)="below "++N9 p:=by rw[cd4];rfl
theorem bG7 (r:Nat):wT (.wall r)="wall "++N9 r:=by rw[bU1];rfl
section
variable {K:W.Frag} {mg:Str->Option Value} {base:Heap}
def bV9 (K:W.Frag):Sp:=fun vs H Q _=>∃ (a:Addr) (ns:List Int),vs=[.ref a]/\SqL K H a (ns.map V.int)/\ns.length<=24/\(∀ x,O2 ns x->x≠.free->∀ H',p8 H H'->Q (.str (wT x)) H')/\(O2 ns .free->∀ H',p8 H H'->Q .non H')
theorem bW7:p9 ["tally","place","r"] ["tally"] (m9 aB4):=.mk'
theorem cl7 {fR fO:Addr} (F:Fun K "_law_fence" "_law_fence" aB4 f fd) (B:Bn mg) (FR:Fq K mg "_law_room" aB3 fR fdR ["tally","r"]) (FO:Fq K mg "_law_order" aI8 fO fdO ["tally"]):p0 P w K mg base CX0 3 f fd ["tally"] (bV9 K):=by
 have GR:p0 P w K mg base CX0 2 fR fdR ["tally","r"] (bQ6 K):=bY9 FR.F B FO
 refine F.ok bW7 (fun cdv A outer s H vs Q E hr h=>?_)
 obtain⟨a,ns,rfl,hS,hl,qw,qf⟩:=h
 have hsl:=L1
 refine⟨_,c9 (W2 PassesOwn.never rfl (S5 rfl B.range (a6 (n9 o9 (by rfl) B.len PySem.boot_len (a6 (pv 0) b7)) b7)) (B2 (i:=1) bW7.nd rfl (Or.inl rfl))
   (j3 (D6 (p5 ag6 (B9 C3 (pv 0) (pv 1) (fun _ _=>rfl)) d6 (y9 _)) (j3 (r6 (o8 af4 C8 (F3 X7 (by rfl) B.str (by rfl) (a6 (pv 1) b7))))) x9)))
  (c9 (D6 (p5 Q8 (o8 G0 (n9 (ad2 rfl) (by rfl) B.sum (by rfl) (a6 (pv 0) b7)) d6) d6 (y9 _)) (j3 (r6 C8)) x9)
  (c9 (W2 PassesOwn.never rfl (au6 rfl B.range (a6 d6 (a6 (o8 L8 (n9 o9 (by rfl) B.len PySem.boot_len (a6 (pv 0) b7)) d6) b7))) (B2 (i := 2) bW7.nd rfl (Or.inl rfl))
   (j3 (D6 (p5 ag6 (A9 GR hr (by rfl) FR D0 (a6 (pv 0) (a6 (pv 2) b7))) d6 (y9 _)) (j3 (r6 (o8 af4 C8 (F3 X7 (by rfl) B.str (by rfl) (a6 (pv 2) b7))))) x9)))
  (j3 (r6 P8)))),?_⟩
 refine⟨_,rfl,a,_,rfl,.inl hS,ns.length,by rw[a5],by omega,by omega,S6 (lo:=0) (n:=ns.length) (fun i σ H2=>∃ e1,σ=[some (.ref a),e1,none]/\H2=H/\∀ (j:Nat) (x:Int),j<i->ns[j]?=some x->0<=x) ⟨none,rfl,rfl,fun j x h=>absurd h (by omega)⟩ ?_ ?_⟩
 ·rintro i σ H2 hi ⟨e1,rfl,rfl,hp⟩
  have e0:((0:Int)+(i:Int))=(i:Int):=by omega
  rw[e0]
  refine A2 ?_
  have ei:ns[i]?=some ns[i]:=f9 hi
  refine⟨_,rfl,_,rfl,a,_,_,_,rfl,rfl,hS,p6 (j:=i) (v:=.int ns[i]) (by rw[o6,ei];rfl),_,_,rfl,rfl,_,rfl,ah4 (fun h=>?_) (fun h=>?_)⟩
  ·obtain⟨k1,k2,_⟩:=aC6 (z:=(i:Int)) ⟨by omega,by omega⟩
   have k2':(Str.ofString (toString (i:Int))).length<=2:=k2
   have hb:("below ":Str).length=6:=by decide +kernel
   refine⟨_,rfl,_,rfl,k1,_,_,rfl,rfl,(by rw[hb];omega),?_⟩
   have:=qw (.below i) ⟨⟨_,ei,of_decide_eq_true h⟩,hp⟩ (by simp) _ (p8.refl _)
   rw[bs9]at this
   exact this
  ·refine⟨_,rfl,rfl,fun j x hj hx=>?_⟩
   rcases D8 j i with z | z
   ·exact hp j x z hx
   ·have:j=i:=by omega
    subst this
    rw[ei]at hx
    cases hx
    have:¬ (ns[j]<0):=fun z=>h (decide_eq_true z)
    omega
 ·rintro σ H2 ⟨e1,rfl,rfl,hp⟩
  have hall:AllP ns:=fun j x hx=>hp j x (d5.mp hx).1 hx
  refine⟨_,rfl,a,ns,rfl,hS,_,_,rfl,rfl,(by show (0:Int)<2;decide),rfl,_,rfl,ah4 (fun h=>?_) (fun h=>?_)⟩
  ·have:=of_decide_eq_true h
   rw[V.int.injEq]at this
   exact qw .odd ⟨hall,this⟩ (by simp) _ (p8.refl _)
  have hev:¬ ns.sum % 2=1:=fun z=>h (decide_eq_true (by show V.int (ns.sum % 2)=V.int 1;rw[z]))
  refine⟨_,rfl,a,_,rfl,.inl hS,_,_,rfl,rfl,1,((ns.length:Int)+1),by rw[a5],⟨by omega,by omega,by omega,by omega⟩,?_⟩
  rw[show ((ns.length:Int)+1 - 1).toNat=ns.length by omega]
  refine S6 (lo:=1) (n:=ns.length) (fun i σ H3=>∃ e2,σ=[some (.ref a),e1,e2]/\p8 H2 H3/\∀ k,1<=k->k<i+1->0<=ai5 ns k) ⟨none,rfl,p8.refl H2,fun k k1 k2=>absurd k1 (by omega)⟩ ?_ ?_
  ·rintro i σ H3 hi ⟨e2,rfl,s3,hrm⟩
   have e0:((1:Int)+(i:Int))=((i+1:Nat):Int):=by omega
   rw[e0]
   refine A2 ?_
   refine⟨_,rfl,_,rfl,a,ns,i+1,rfl,s3.seq hS,hl,by omega,fun H4 s4=>⟨_,_,rfl,rfl,_,rfl,ah4 (fun h=>?_) (fun h=>?_)⟩⟩
   ·obtain⟨k1,k2,_⟩:=aC6 (z:=((i+1:Nat):Int)) ⟨by omega,by omega⟩
    have k2':(Str.ofString (toString ((i+1:Nat):Int))).length<=2:=k2
    have hb:("wall ":Str).length=5:=by decide +kernel
    refine⟨_,rfl,_,rfl,k1,_,_,rfl,rfl,(by rw[hb];omega),?_⟩
    have:=qw (.wall (i+1)) ⟨hall,hev,by omega,by omega,of_decide_eq_true h,hrm⟩ (by simp) _ (s3.trans s4)
    rw[bG7]at this
    exact this
   ·have h':¬ ai5 ns (i+1)<0:=fun z=>h (decide_eq_true z)
    refine⟨_,rfl,s3.trans s4,fun k k1 k2=>?_⟩
    rcases D8 k (i+1) with z | z
    ·exact hrm k k1 z
    ·have:k=i+1:=by omega
     subst this
     omega
  ·rintro σ H3 ⟨e2,rfl,s3,hrm⟩
   exact qf ⟨hall,hev,fun k k1 k2=>hrm k k1 (by omega)⟩ _ s3
end
theorem bU7:∀ z∈tal n ks,0<=z/\z<=ks.length:=fun z hz=>by
 obtain⟨p,hp,e⟩:=bP4 hz
 have hp':=hp
 rw[Z9]at hp'
 have h:=ae6 (ks:=ks) hp'
 rw[f9 hp,e]at h
 rw[Option.some.inj h]
 refine⟨by omega,?_⟩
 unfold W4
 have:=List.countP_le_length (p:=fun k:List Int=>decide ((p:Int)∈k)) (l:=ks)
 omega
theorem bn5:∀ n,n<25->(Y3 n).length<=276:=by decide +kernel
seal L2.PE L2.PA L2.PS L2.PSs L2.PT
section
variable {K:W.Frag} {mg:Str->Option Value} {base:Heap}
def bV4 (K:W.Frag):Sp:=fun vs H Q _=>∃ (c:Int) (m:Nat),vs=[.int c,.int m]/\1<=m/\m<=24/\∀ (l:Addr) (ns:List Int) (H':Hp),p8 H H'->H l=none->H' l=some (.lst (ns.map V.int))->1<=ns.length->ns.length<=24->(∀ z∈ns,0<=z/\z<=1000)->Q (.ref l) H'
theorem bI2:p9 ["cell","most","places","tally"] ["cell","most"] (m9 bv9):=.mk'
theorem ck9 {fR fC:Addr}(F:Fun K "_law_tally" "_law_tally" bv9 f fd)(B:Bn mg)(FR:Fq K mg "_law_row" bb4 fR fdR ["cell","many","size"])(FT:Fq K mg "_law_ties" aS2 fT fdT ["cell","places"])(FC:Fq K mg "_law_counts" al1 fC fdC ["places","ties"]):p0 P w K mg base CX0 3 f fd ["cell","most"] (bV4 K):=by
 have GR:p0 P w K mg base CX0 2 fR fdR ["cell","many","size"] (bu2 K):=(bi1 FR.F B).mono (by decide)
 have GT:p0 P w K mg base CX0 2 fT fdT ["cell","places"] (bu1 K):=bK6 FT.F B FR
 have GC:p0 P w K mg base CX0 2 fC fdC ["places","ties"] (ba3 K):=(bi0 FC.F).mono (by decide)
 refine F.ok bI2 (fun cdv A outer s H vs Q E hr h=>?_)
 obtain⟨c,m,rfl,m1,m2,q⟩:=h
 refine⟨_,c9 (v8 (i:=0) bI2.nd rfl (Or.inl rfl) (o8 G0 (pv 0) (o8 aj3 d6 d6)))
  (c9 (v8 (i:=2) bI2.nd rfl (Or.inl rfl) (o8 L8 d6 (o8 G0 (pv 0) (pv 1))))
  (c9 (D6 (p5 by3 (o8 G0 (o8 N5 (pv 0) (pv 1)) d6) d6 (y9 _)) (c9 (v8 (i:=3) bI2.nd rfl (Or.inl rfl) (A9 GC hr (by rfl) FC D0 (a6 (pv 2) (a6 (A9 GT hr (by rfl) FT D0 (a6 (o8 N5 (pv 0) (o8 af3 (pv 1) d6)) (a6 (pv 2) b7))) b7)))) (j3 (r6 (pv 3)))) x9)
  (j3 (r6 (A9 GR hr (by rfl) FR D0 (a6 (o8 N5 (pv 0) (o8 af3 (pv 1) d6)) (a6 (pv 2) (a6 (o8 L8 (pv 2) d6) b7)))))))),?_⟩
 refine⟨_,rfl,_,_,rfl,rfl,⟨by decide,by decide,by decide⟩,_,_,rfl,rfl,p60,?_⟩
 refine F4 fun c _=>?_
 obtain⟨j,ej,hj⟩:=bi4 c (n:=m) (by omega)
 refine⟨_,rfl,_,rfl,_,_,rfl,rfl,(by show (0:Int)<(m:Int);omega),_,_,rfl,rfl,?_⟩
 refine F4 fun pz hpz=>?_
 have hpz:pz=((j+1:Nat):Int):=by rw[hpz,ej];omega
 subst hpz
 refine⟨_,rfl,_,rfl,_,_,rfl,rfl,⟨by show (0:Int)<(m:Int);omega,by show (m:Int)<_;omega⟩,_,_,rfl,rfl,(by show (0:Int)<3;decide),_,_,rfl,rfl,_,rfl,ah4 (fun _=>?_) (fun _=>?_)⟩
 ·refine⟨_,rfl,_,rfl,_,rfl,_,_,rfl,rfl,.inl ⟨by omega,by omega⟩,_,_,rfl,rfl,⟨by show (0:Int)<(m:Int)*3;omega,by show (m:Int)*3<_;omega⟩,_,rfl,_,j+1,rfl,by omega,fun lt zs ks H1 s1 _ g1 t1 hsub=>?_⟩
  refine⟨j+1,lt,zs,ks,rfl,by omega,SqT.of g1,t1,fun k hk=>(bp0 (hsub.subset hk)).ends,fun l H2 s2 fl gl=>?_⟩
  have hkl:ks.length<=276:=t9 hsub.length_le (bn5 (j+1) (by omega))
  exact⟨_,rfl,q l _ H2 (s1.trans s2) (s1.free fl) gl (by rw[Z9];omega) (by rw[Z9];omega) fun z hz=>by have:=bU7 z hz;omega⟩
 ·refine⟨_,rfl,_,rfl,_,_,rfl,rfl,.inl ⟨by omega,by omega⟩,_,_,rfl,rfl,⟨by show (0:Int)<(m:Int)*3;omega,by show (m:Int)*3<_;omega⟩,_,rfl,_,rfl,_,_,rfl,rfl,?_⟩
  refine⟨_,j+1,j+2,by rfl,by omega,by omega,by omega,fun l ts H1 htl hb s1 fl g1=>?_⟩
  exact q l ts H1 s1 fl g1 (by omega) (by omega) fun z hz=>by have:=hb z hz;omega
end
end Web
namespace Web
open PySem L2
theorem bY1:(0:Int)<10 ^ (J1 40):=aZ3 (by decide)
theorem p49:(0:Int)<10 ^ (J1 49):=aZ3 (by decide)
def Ka (H:Hp)(l:Addr)(c:Int)(m n j:Nat)(wy:Int)(b:Nat)(σ:St)(H2:Hp):Prop:=∃ ns:List Int,σ=[some (.int c),some (.int (m:Int)),some (.ref l),some (.int wy),some (.int (j:Int))]/\p8 H H2/\H2 l=some (.lst (ns.map V.int))/\ns.length=n/\(∀ z∈ns,z.natAbs<=b)
theorem aM3 {b b':Nat}{v:Int}(h:∀ z∈ns,z.natAbs<=b)(hb:b<=b')(hv:v.natAbs<=b'):∀ z∈ns.set j v,z.natAbs<=b':=fun z hz=>by
 rcases List.mem_or_eq_of_mem_set hz with e | e
 ·exact t9 (h z e) hb
 ·rw[e];exact hv
theorem t40:(10:Int) ^ (J1 40)=((10 ^ 40:Nat):Int):=by decide +kernel
theorem t49:(10:Int) ^ (J1 49)=((10 ^ 49:Nat):Int):=by decide +kernel
theorem Ka.le {c:Int}{m:Nat}{wy:Int}{b b':Nat}{H2:Hp}(h:Ka H l c m n j wy b σ H2)(hb:b<=b'):Ka H l c m n j wy b' σ H2:=by
 obtain⟨ns,h1,h2,h3,h4,h5⟩:=h
 exact⟨ns,h1,h2,h3,h4,fun z hz=>t9 (h5 z hz) hb⟩
section
variable {K:W.Frag} {mg:Str->Option Value} {base:Heap}
def ci2 (K:W.Frag):Sp:=fun vs H Q _=>∃ (c:Int) (m:Nat),vs=[.int c,.int m]/\1<=m/\m<=24/\∀ (l:Addr) (ns:List Int) (H':Hp),p8 H H'->H' l=some (.lst (ns.map V.int))->1<=ns.length->ns.length<=24->(∀ z∈ns,z.natAbs<10 ^ 50)->Q (.ref l) H'
theorem bv8:p9 ["cell","most","tally","way","at"] ["cell","most"] (m9 aS9):=.mk'
theorem cl9 (F:Fun K "_law_asked" "_law_asked" aS9 f fd)(B:Bn mg)(FT:Fq K mg "_law_tally" bv9 fT fdT ["cell","most"])(GT:p0 P w K mg base CX0 3 fT fdT ["cell","most"] (bV4 K)):p0 P w K mg base CX0 4 f fd ["cell","most"] (ci2 K):=by
 refine F.ok bv8 (fun cdv A outer s H vs Q E hr h=>?_)
 obtain⟨c,m,rfl,m1,m2,q⟩:=h
 refine⟨_,c9 (v8 (i:=0) bv8.nd rfl (Or.inl rfl) (o8 G0 (pv 0) (o8 aj3 d6 d6)))
  (c9 (v8 (i:=2) bv8.nd rfl (Or.inl rfl) (A9 GT hr (by rfl) FT D0 (a6 (o8 N5 (pv 0) d6) (a6 (pv 1) b7))))
  (c9 (v8 (i:=3) bv8.nd rfl (Or.inl rfl) (o8 G0 (pv 0) d6))
  (al3 (v8 (i:=4) bv8.nd rfl (Or.inl rfl) (o8 G0 (o8 N5 (pv 0) d6) (n9 o9 (by rfl) B.len PySem.boot_len (a6 (pv 2) b7))))
  (al3 (D6 (p5 Q8 (pv 3) d6 (y9 _)) (j3 (ai8 (o8 L8 (B9 C3 (pv 2) (pv 4) (fun _ _=>rfl)) d6) (aj0 (pv 2) (pv 4) set_list))) x9)
  (al3 (D6 (p5 Q8 (pv 3) d6 (y9 _)) (j3 (ai8 (o8 L8 (B9 C3 (pv 2) (pv 4) (fun _ _=>rfl)) d6) (aj0 (pv 2) (pv 4) set_list))) x9)
  (al3 (D6 (p5 Q8 (pv 3) d6 (y9 _)) (j3 (ai8 (o8 ab7 (o8 ab7 d6 d6) (o8 G0 (o8 N5 (pv 0) d6) (o8 aj3 d6 d6))) (aj0 (pv 2) (pv 4) set_list))) x9)
  (al3 (D6 (p5 Q8 (pv 3) d6 (y9 _)) (j3 (ai8 (o8 G0 (o8 N5 (pv 0) d6) (o8 aj3 d6 d6)) (aj0 (pv 2) (pv 4) set_list))) x9)
  (j3 (r6 (pv 2)))))))))),?_⟩
 refine⟨_,rfl,_,_,rfl,rfl,⟨by decide,by decide,by decide⟩,_,_,rfl,rfl,p60,?_⟩
 refine F4 fun c _=>?_
 refine⟨_,rfl,_,_,rfl,rfl,⟨by decide,by decide⟩,_,rfl,_,m,rfl,m1,m2,fun l ns H1 s1 fl g1 l1 l2 hb=>?_⟩
 refine⟨_,rfl,_,_,rfl,rfl,(by show (0:Int)<_;decide),?_⟩
 refine F4 fun wy _=>?_
 obtain⟨j,ej,hj⟩:=bi4 (c / 16) (n:=ns.length) l1
 refine⟨Ka H l c m ns.length j wy 1000,?_,?_⟩
 ·refine⟨_,rfl,_,_,rfl,rfl,⟨by decide,by decide⟩,_,rfl,l,_,rfl,.inl (SqL.of g1),_,_,rfl,rfl,(by rw[a5];show (0:Int)<(ns.length:Int);omega),?_⟩
  refine F4 fun av hav=>?_
  rw[a5]at hav
  have hav:av=(j:Int):=hav.trans ej
  subst hav
  exact⟨ns,rfl,s1,g1,rfl,fun z hz=>by have:=hb z hz;omega⟩
 generalize ns.length=n at hj l1 l2
 clear g1 s1 hb ej
 rintro σ H2 hJ
 refine⟨Ka H l c m n j wy (1001),?_,?_⟩
 ·obtain⟨ns,rfl,s2,g2,e2,h2⟩:=id hJ
  refine⟨_,rfl,rfl,_,rfl,ah4 (fun _=>?_) (fun _=>hJ.le (by decide +kernel))⟩
  have hjn:j<ns.length:=by omega
  have hz:=h2 (ns.getD j 0) (by rw[i8,f9 hjn];exact Q1 hjn)
  refine⟨_,rfl,_,rfl,l,_,_,_,rfl,rfl,SqL.of g2,af9 hjn,_,_,rfl,rfl,_,rfl,_,rfl,l,_,_,j,rfl,rfl,g2,X2 (by rw[a5];exact hjn),?_⟩
  exact⟨ns.set j (ns.getD j 0+1),rfl,s2.upd fl,by rw[a9,R1],by rw[A3];exact e2,aM3 h2 (by decide +kernel) (by omega)⟩
 clear hJ
 rintro σ H2 hJ
 refine⟨Ka H l c m n j wy (1003),?_,?_⟩
 ·obtain⟨ns,rfl,s2,g2,e2,h2⟩:=id hJ
  refine⟨_,rfl,rfl,_,rfl,ah4 (fun _=>?_) (fun _=>hJ.le (by decide +kernel))⟩
  have hjn:j<ns.length:=by omega
  have hz:=h2 (ns.getD j 0) (by rw[i8,f9 hjn];exact Q1 hjn)
  refine⟨_,rfl,_,rfl,l,_,_,_,rfl,rfl,SqL.of g2,af9 hjn,_,_,rfl,rfl,_,rfl,_,rfl,l,_,_,j,rfl,rfl,g2,X2 (by rw[a5];exact hjn),?_⟩
  exact⟨ns.set j (ns.getD j 0+2),rfl,s2.upd fl,by rw[a9,R1],by rw[A3];exact e2,aM3 h2 (by decide +kernel) (by omega)⟩
 clear hJ
 rintro σ H2 hJ
 refine⟨Ka H l c m n j wy (10 ^ 45),?_,?_⟩
 ·obtain⟨ns,rfl,s2,g2,e2,h2⟩:=id hJ
  refine⟨_,rfl,rfl,_,rfl,ah4 (fun _=>?_) (fun _=>hJ.le (by decide +kernel))⟩
  have hjn:j<ns.length:=by omega
  obtain⟨x0,x1⟩:0<=c / 99 % 10 ^ (J1 40)/\c / 99 % 10 ^ (J1 40)<10 ^ (J1 40):=⟨F2 _ (by have:=bY1;omega),C9 _ bY1⟩
  have x2:(c / 99 % 10 ^ (J1 40)).natAbs<10 ^ 40:=by
   generalize c / 99 % 10 ^ (J1 40)=X at x0 x1 ⊢
   rw[t40]at x1
   omega
  refine⟨_,_,rfl,rfl,_,rfl,_,_,rfl,rfl,⟨by decide,by decide⟩,_,_,rfl,rfl,⟨by decide,by decide,by decide⟩,_,_,rfl,rfl,bY1,_,_,rfl,rfl,_,rfl,_,rfl,l,_,_,j,rfl,rfl,g2,X2 (by rw[a5];exact hjn),?_⟩
  exact⟨ns.set j ((0:Int) - 1 - c / 99 % 10 ^ (J1 40)),rfl,s2.upd fl,by rw[a9,R1],by rw[A3];exact e2,aM3 h2 (by decide +kernel) (by omega)⟩
 clear hJ
 rintro σ H2 hJ
 refine⟨Ka H l c m n j wy (10 ^ 49),?_,?_⟩
 ·obtain⟨ns,rfl,s2,g2,e2,h2⟩:=id hJ
  refine⟨_,rfl,rfl,_,rfl,ah4 (fun _=>?_) (fun _=>hJ.le (by decide +kernel))⟩
  have hjn:j<ns.length:=by omega
  obtain⟨x0,x1⟩:0<=c / 99 % 10 ^ (J1 49)/\c / 99 % 10 ^ (J1 49)<10 ^ (J1 49):=⟨F2 _ (by have:=p49;omega),C9 _ p49⟩
  have x2:(c / 99 % 10 ^ (J1 49)).natAbs<10 ^ 49:=by
   generalize c / 99 % 10 ^ (J1 49)=X at x0 x1 ⊢
   rw[t49]at x1
   omega
  refine⟨_,rfl,_,_,rfl,rfl,⟨by decide,by decide⟩,_,_,rfl,rfl,⟨by decide,by decide,by decide⟩,_,_,rfl,rfl,p49,_,rfl,_,rfl,l,_,_,j,rfl,rfl,g2,X2 (by rw[a5];exact hjn),?_⟩
  exact⟨ns.set j (c / 99 % 10 ^ (J1 49)),rfl,s2.upd fl,by rw[a9,R1],by rw[A3];exact e2,aM3 h2 (by decide +kernel) (by omega)⟩
 clear hJ
 rintro σ H2 ⟨ns,rfl,s2,g2,e2,h2⟩
 exact⟨_,rfl,q l ns H2 s2 g2 (by omega) (by omega) fun z hz=>by
  have:=h2 z hz
  exact aG4 this (by decide +kernel)⟩
end
theorem bN1 {K:W.Frag}{Q:VK}{u:Addr}(hun:A.units+64<ao1)(gl:SqL K H l (ns.map V.int))(gu:SqL K H u (ns.map V.int))(q:Q (.bl false) H):cj9 K A true (.ref l) (.ref u) H Q:=by
 refine⟨.list (ns.map .int),.list (ns.map .int),Dt.mkLi gl,Dt.mkLi gu,bz6 _,bz6 _,?_,?_⟩
 ·refine bP8 hun (t9 (Nat.min_le_left _ _) ?_)
  have:=cd0 ns
  omega
 ·show Q (.bl (!PyData.eqv _ _)) _
  rw[cc7,decide_eq_true rfl]
  exact q
theorem cb9 {K:W.Frag}{Q:VK}{p:Addr}{T:List (List Int)}(neg:Bool)(hun:A.units+64<ao1)(hp:SqT K H p (k.map V.int))(ha:SqL K H a ys\/SqT K H a ys)(ht:C1 K H ys T)(q:Q (.bl (if neg then !decide (k∈T) else decide (k∈T))) H):bb7 K A neg (.ref p) (.ref a) H Q:=by
 refine⟨a,ys,dP k,T.map dP,rfl,ha,Dt.mkP hp,ht.dtAll,bZ9 _,aJ4 T,aL6 hun (t9 (cd1 _) (by decide)),?_⟩
 rw[bD6]
 exact q
theorem bls {a b:Bool}{A B:Prop}(e:a=b)(h:B):if (!decide (V.bl a=V.bl b))=true then A else B:=aV5 (by rw[e]) h
theorem az1 {a b:Str}(ha:10∉a.cps.toList)(hb:10∉b.cps.toList):10∉(a++b).cps.toList:=by
 rw[PySem.W.KT.app_list,m7]
 exact fun h=>h.elim ha hb
theorem bj8 (z:Int):10∉(N9 z).cps.toList:=fun h=>PyProof.Rows.int_text_free' 10 ⟨by decide,by decide⟩ z h
theorem bN8:∀ k:List Int,10∉(am5 k).cps.toList
 | []=>by decide +kernel
 | [_]=>by show 10∉Str.empty.cps.toList;decide +kernel
 | [a,b]=>az1 (az1 (bj8 a) (by decide +kernel)) (bj8 b)
 | _::_::_::_=>by show 10∉Str.empty.cps.toList;decide +kernel
theorem aW8:∀ xs:List Str,(∀ u∈xs,10∉u.cps.toList)->10∉(Str.join " " xs).cps.toList
 | [],_=>by show 10∉Str.empty.cps.toList;decide +kernel
 | [x],h=>h x c7
 | x::y::xs,h=>az1 (az1 (h x c7) (by decide +kernel)) (aW8 (y::xs) fun u hu=>h u (b8 _ hu))
theorem bj7 (ks:List (List Int)):10∉(L7 ks).cps.toList:=aW8 _ fun u hu=>by
 rcases c5.mp hu with e | e
 ·rw[e];decide +kernel
 ·obtain⟨k,_,rfl⟩:=k9.mp e
  exact bN8 k
theorem cm0:("\n":Str)=⟨#[10]⟩:=by decide +kernel
theorem aA6 (k1 k2:List (List Int)):Txt.split (Str.join "\n" [("some":Str),L7 k1,L7 k2]) "\n"=[("some":Str),L7 k1,L7 k2]:=by
 rw[cm0]
 refine ae7 (c:=10) _ _ fun u hu=>?_
 simp only[c5,D9,or_false]at hu
 rcases hu with e | e | e
 ·rw[e];decide +kernel
 ·rw[e];exact bj7 k1
 ·rw[e];exact bj7 k2
theorem all_eq:("all ":Str)=("all":Str)++" ":=by decide +kernel
theorem bZ8:("none ":Str)=("none":Str)++" ":=by decide +kernel
theorem aQ6 (x:Str){y:Wl}(h:y≠.free):Str.join " " ((V.str x::wlT y).map vT)=x++" "++wT y:=by
 cases y with
 | below p=>rfl
 | odd=>rfl
 | wall r=>rfl
 | free=>exact absurd rfl h
section
variable {K:W.Frag} {mg:Str->Option Value} {base:Heap}
def ci0 (K:W.Frag):Sp:=fun vs H Q _=>∃ (a:Addr) (ns:List Int) (i j:Nat) (m:Int),vs=[.ref a,.int i,.int j,.int m]/\SqL K H a (ns.map V.int)/\i<ns.length/\j<ns.length/\∀ (l:Addr) (H':Hp),p8 H H'->H' l=some (.lst ((mv2 ns m [(i:Int),(j:Int)]).map V.int))->Q (.ref l) H'
theorem ci8:p9 ["tally","one","other","by"] ["tally","one","other","by"] (m9 bw1):=.mk'
theorem cl6 (F:Fun K "_law_moved" "_law_moved" bw1 f fd)(B:Bn mg):p0 P w K mg base CX0 1 f fd ["tally","one","other","by"] (ci0 K):=by
 refine F.ok ci8 (fun cdv A outer s H vs Q E hr h=>?_)
 obtain⟨a,ns,i,j,m,rfl,hS,hi,hj,q⟩:=h
 refine⟨_,c9 (v8 (i:=0) ci8.nd rfl (Or.inl rfl) (F3 af7 (by rfl) B.list (by rfl) (a6 (pv 0) b7)))
  (c9 (ai8 (o8 L8 (B9 C3 (pv 0) (pv 1) (fun _ _=>rfl)) (pv 3)) (aj0 (pv 0) (pv 1) set_list))
  (c9 (ai8 (o8 L8 (B9 C3 (pv 0) (pv 2) (fun _ _=>rfl)) (pv 3)) (aj0 (pv 0) (pv 2) set_list))
  (j3 (r6 (pv 0))))),?_⟩
 refine⟨_,rfl,a,_,rfl,.inl hS,fun l fl=>?_⟩
 refine⟨_,rfl,_,rfl,l,_,_,_,rfl,rfl,SqL.of a9,af9 hi,_,rfl,_,_,rfl,rfl,_,rfl,_,rfl,l,_,_,i,rfl,rfl,a9,by rw[a5];exact X2 hi,?_⟩
 rw[ax9]
 have e1:(ns.map V.int).set i (.int (ns.getD i 0+m))=(mvd ns i m).map V.int:=by unfold mvd;rw[j6,R1]
 rw[e1]
 have hj':j<(mvd ns i m).length:=by rw[ay4];exact hj
 refine⟨_,rfl,_,rfl,l,_,_,_,rfl,rfl,SqL.of a9,af9 hj',_,rfl,_,_,rfl,rfl,_,rfl,_,rfl,l,_,_,j,rfl,rfl,a9,by rw[a5];exact X2 hj',?_⟩
 rw[ax9]
 have e2:((mvd ns i m).map V.int).set j (.int ((mvd ns i m).getD j 0+m))=(mv2 ns m [(i:Int),(j:Int)]).map V.int:=by
  show _=(mvd (mvd ns i m) j m).map V.int
  conv=>rhs;unfold mvd
  rw[j6,j6,R1]
  rfl
 rw[e2]
 exact⟨_,rfl,q l _ (c8 fl) a9⟩
end
theorem bs8 (hl:ns.length<=24){y:Wl}(h:O2 ns y):(wT y).length<=4000:=by
 have h1:=ab0 (y:=" ") (xs:=(wlT y).map vT) (m:=100) (n:=30) (fun u hu=>by
  obtain⟨v,hv,rfl⟩:=k9.mp hu
  exact aM8 (bs5 hl h v hv)) (by rw[a5];exact bs6 y) (by rw[O9];decide)
 have:=h1.2
 rw[O9,show Txt.join " " ((wlT y).map vT)=wT y from StrLaws.glued_eq_join _ _]at this
 omega
theorem bK0 {k:Int}(h:k=1\/k=2)(k1 k2:List (List Int)):∃ ks,(ks=k1/\k=1\/ks=k2/\k=2)/\atI ([("some":Str),L7 k1,L7 k2].map V.str) k=some (.str (L7 ks)):=by
 rcases h with rfl | rfl
 ·exact⟨k1,.inl ⟨rfl,rfl⟩,p6 (j:=1) rfl⟩
 ·exact⟨k2,.inr ⟨rfl,rfl⟩,p6 (j:=2) rfl⟩
section
variable {K:W.Frag} {mg:Str->Option Value} {base:Heap}
def bS2 (ns:List Int)(x y:Int)(t:Str):Prop:=(O2 ns .free/\∃ (i j:Nat) (ys:List Str),x=i/\y=j/\i<ns.length/\j<ns.length/\i≠j/\PrR ns i j ys/\t=Str.join "\n" ys)\/(¬ (O2 ns .free/\aO1 ns.length x y)/\t="refused")
def ch8 (K:W.Frag):Sp:=fun vs H Q _=>∃ (a:Addr) (ns:List Int) (x y:Int) (t:Str),vs=[.ref a,.int x,.int y,.str t]/\H a=some (.lst (ns.map V.int))/\R9 ns/\bS2 ns x y t/\∀ H':Hp,p8 H H'->Q (.bl true) H'
theorem bb1:p9 ["tally","one","other","told","wall","rows","k","ties","tie"] ["tally","one","other","told"] (m9 aB1):=.mk'
set_option maxHeartbeats 4000000 in
theorem cl1 {fη fM fκ fQ:Addr} {fdη fdM fdκ fdQ:FuncData} (F:Fun K "_law_right" "_law_right" aB1 f fd) (B:Bn mg)
  (Fη:Fq K mg "_law_fence" aB4 fη fdη ["tally"]) (Gη:p0 P w K mg base CX0 7 fη fdη ["tally"] (bV9 K))
  (FM:Fq K mg "_law_moved" bw1 fM fdM ["tally","one","other","by"]) (GM:p0 P w K mg base CX0 7 fM fdM ["tally","one","other","by"] (ci0 K))
  (Fκ:Fq K mg "_law_counted" aq9 fκ fdκ ["row","places"]) (Gκ:p0 P w K mg base CX0 7 fκ fdκ ["row","places"] (bW0))
  (FQ:Fq K mg "_law_web_of" au1 fQ fdQ ["row","places"]) (GQ:p0 P w K mg base CX0 7 fQ fdQ ["row","places"] (bH9 K)):p0 P w K mg base CX0 8 f fd ["tally","one","other","told"] (ch8 K):=by
 refine F.ok bb1 (fun cdv A outer s H vs Q E hr h=>?_)
 obtain⟨a,ns,x,y,t,rfl,ga,ht,hT,q⟩:=h
 have hsl:=L1
 have hun:=hr.units
 have t2:=ht.2
 refine⟨_,c9 (D6 (PW.pt (ag5 (p5 al5 (A9 Gη hr (by rfl) Fη D0 (a6 (pv 0) b7)) P8 (y9 _)) (ag5 (p5 Q8 (pv 1) (pv 2) (y9 _)) (ag5 (p5 ag6 (n9 (ad3 rfl) (by rfl) B.min (by rfl) (a6 (pv 1) (a6 (pv 2) b7))) d6 (y9 _)) (ab6 (p5 by5 (n9 (ad4 rfl) (by rfl) B.max (by rfl) (a6 (pv 1) (a6 (pv 2) b7))) (n9 o9 (by rfl) B.len PySem.boot_len (a6 (pv 0) b7)) (y9 _))))))) (j3 (r6 (aa0 Q8 (pv 3) C8 (y9 _)))) x9)
  (c9 (v8 (i:=4) bb1.nd rfl (Or.inl rfl) (A9 Gη hr (by rfl) Fη D0 (a6 (A9 GM hr (by rfl) FM D0 (a6 (pv 0) (a6 (pv 1) (a6 (pv 2) (a6 d6 b7))))) b7)))
  (c9 (D6 (p5 al5 (pv 4) P8 (y9 _)) (j3 (r6 (aa0 Q8 (pv 3) (o8 af4 C8 (pv 4)) (y9 _)))) x9)
  (c9 (v8 (i:=4) bb1.nd rfl (Or.inl rfl) (A9 Gη hr (by rfl) Fη D0 (a6 (A9 GM hr (by rfl) FM D0 (a6 (pv 0) (a6 (pv 1) (a6 (pv 2) (a6 (bx7 aZ8 d6) b7))))) b7)))
  (c9 (D6 (p5 al5 (pv 4) P8 (y9 _)) (j3 (r6 (aa0 Q8 (pv 3) (o8 af4 C8 (pv 4)) (y9 _)))) x9)
  (c9 (v8 (i:=5) bb1.nd rfl (Or.inl rfl) (ac8 PySem.F.plainAttrs_str PySem.F.slot_str_split PySem.F.type_str_split ar6 (pv 3) (a6 C8 b7)))
  (c9 (D6 (PW.pt (ag5 (p5 aw5 (n9 o9 (by rfl) B.len PySem.boot_len (a6 (pv 5) b7)) d6 (y9 _)) (ab6 (p5 aw5 (B9 C3 (pv 5) d6 (fun _ _=>rfl)) C8 (y9 _))))) J4 x9)
  (c9 (W2 PassesOwn.never rfl (P3 (P0 (a6 d6 (a6 d6 b7)))) (B2 (i := 6) bb1.nd rfl (Or.inl rfl))
   (c9 (D6 (p5 by1 (A9 Gκ hr (by rfl) Fκ D0 (a6 (B9 C3 (pv 5) (pv 6) (fun _ _=>rfl)) (a6 (n9 o9 (by rfl) B.len PySem.boot_len (a6 (pv 0) b7)) b7))) (pv 0) (y9 _)) J4 x9)
   (c9 (v8 (i:=7) bb1.nd rfl (Or.inl rfl) (B9 J8 (A9 GQ hr (by rfl) FQ D0 (a6 (B9 C3 (pv 5) (pv 6) (fun _ _=>rfl)) (a6 (n9 o9 (by rfl) B.len PySem.boot_len (a6 (pv 0) b7)) b7))) d6 (fun _ _=>rfl)))
   (c9 (v8 (i:=8) bb1.nd rfl (Or.inl rfl) (J7 (a6 (n9 (ad3 rfl) (by rfl) B.min (by rfl) (a6 (pv 1) (a6 (pv 2) b7))) (a6 (n9 (ad4 rfl) (by rfl) B.max (by rfl) (a6 (pv 1) (a6 (pv 2) b7))) b7))))
   (j3 (D6 (p5 aw5 (aa0 by2 (pv 8) (pv 7) (by rfl)) (aa0 Q8 (pv 6) d6 (y9 _)) (y9 _)) J4 x9))))))
  (j3 (r6 bh6))))))))),?_⟩
 have fin:∀ (u:Str) (H':Hp),p8 H H'->t=u->Q (.bl (decide (V.str t=V.str u))) H':=fun u H' s' e=>by
  rw[e,decide_eq_true rfl]
  exact q H' s'
 have bad:¬ (O2 ns .free/\aO1 ns.length x y)->t="refused":=fun h=>by
  rcases hT with⟨hf,i,j,ys,rfl,rfl,hi,hj,hij,_⟩ | ⟨_,e⟩
  ·exact absurd ⟨hf,⟨by omega,by omega⟩,⟨by omega,by omega⟩,by omega⟩ h
  ·exact e
 have n4:("all ":Str).length=4:=by decide +kernel
 have n5:("none ":Str).length=5:=by decide +kernel
 refine⟨_,rfl,a,ns,rfl,SqL.of ga,t2,fun z hz hzf H1 s1=>?_,fun hf H1 s1=>?_⟩
 ·exact⟨rfl,_,rfl,E7 (E7 ⟨_,rfl,rfl,fin _ H1 s1 (bad fun h=>O8 hz hzf h.1)⟩)⟩
 refine⟨rfl,_,rfl,E8 ?_⟩
 have ga1:=s1 _ _ ga
 by_cases hp:aO1 ns.length x y
 rotate_left
 ·have e:=bad fun h=>hp h.2
  refine⟨_,rfl,_,rfl,rfl,_,rfl,ah4 (fun _=>E7 ⟨_,rfl,rfl,fin _ H1 s1 e⟩) (fun hxy=>?_)⟩
  have hxy':x≠y:=fun z=>hxy (by rw[z];exact decide_eq_true rfl)
  refine⟨_,rfl,_,rfl,_,_,rfl,_,_,rfl,rfl,_,rfl,ah4 (fun _=>E7 ⟨_,rfl,rfl,fin _ H1 s1 e⟩) (fun hmn=>?_)⟩
  have hmn':¬ (if y<x then y else x)<0:=fun z=>hmn (decide_eq_true z)
  refine⟨_,rfl,_,rfl,_,_,rfl,_,rfl,a,_,rfl,.inl (SqL.of ga1),_,_,rfl,rfl,_,rfl,?_⟩
  rw[a5,decide_eq_true (show (ns.length:Int)<=(if y > x then y else x) by
   apply Classical.byContradiction
   intro z
   refine hp ⟨⟨?_,?_⟩,⟨?_,?_⟩,hxy'⟩<;>(revert hmn' z;split<;>split<;>intros<;>omega))]
  exact E7 ⟨_,rfl,rfl,fin _ H1 s1 e⟩
 obtain⟨⟨x0,x1⟩,⟨y0,y1⟩,hxy⟩:=id hp
 obtain⟨_,i,j,ys,rfl,rfl,hi,hj,hij,hP,rfl⟩ | ⟨hb,_⟩:=hT
 rotate_left
 ·exact absurd ⟨hf,hp⟩ hb
 refine⟨_,rfl,_,rfl,rfl,_,rfl,?_⟩
 rw[bS1,decide_eq_false hxy]
 refine E8 ⟨_,rfl,_,rfl,_,_,rfl,_,_,rfl,rfl,_,rfl,?_⟩
 rw[decide_eq_false (show ¬ (if (j:Int)<i then (j:Int) else i)<0 by split<;>omega)]
 refine E8 ⟨_,rfl,_,rfl,_,_,rfl,_,rfl,a,_,rfl,.inl (SqL.of ga1),_,_,rfl,rfl,_,rfl,?_⟩
 rw[a5,decide_eq_false (show ¬ (ns.length:Int)<=(if (j:Int) > i then (j:Int) else i) by split<;>omega)]
 refine E8 ?_
 have hm1:=al9 ns 1 [(i:Int),(j:Int)]
 have hm2:=al9 ns (-1) [(i:Int),(j:Int)]
 refine⟨_,rfl,_,rfl,_,rfl,a,ns,i,j,1,rfl,SqL.of ga1,hi,hj,fun l2 H2 s2 g2=>⟨l2,_,rfl,SqL.of g2,by omega,fun z hz hzf H3 s3=>?_,fun hf1 H3 s3=>?_⟩⟩
 ·-- all
  have sA:=(s1.trans s2).trans s3
  have ew:=bs8 (by omega) hz
  refine⟨_,rfl,rfl,_,rfl,E7 ⟨_,rfl,_,rfl,_,_,rfl,rfl,(by omega),rfl,?_⟩⟩
  refine fin _ H3 sA ?_
  rcases hP with⟨m,v,yw,hm,hy,hyf,rfl⟩ | ⟨f1,_⟩
  ·rcases hm with⟨rfl,rfl⟩ | ⟨rfl,rfl,f⟩
   ·rw[bf8 hz hy,all_eq]
    exact aQ6 "all" hyf
   ·exact absurd f (O8 hz hzf)
  ·exact absurd f1 (O8 hz hzf)
 refine⟨_,rfl,rfl,_,rfl,E8 ?_⟩
 have s13:=(s1.trans s2).trans s3
 have ga3:=s13 _ _ ga
 refine⟨_,rfl,_,rfl,_,rfl,_,rfl,a,ns,i,j,-1,rfl,SqL.of ga3,hi,hj,fun l4 H4 s4 g4=>⟨l4,_,rfl,SqL.of g4,by omega,fun z hz hzf H5 s5=>?_,fun hf2 H5 s5=>?_⟩⟩
 ·-- none
  have sA:=(s13.trans s4).trans s5
  have ew:=bs8 (by omega) hz
  refine⟨_,rfl,rfl,_,rfl,E7 ⟨_,rfl,_,rfl,_,_,rfl,rfl,(by omega),rfl,?_⟩⟩
  refine fin _ H5 sA ?_
  rcases hP with⟨m,v,yw,hm,hy,hyf,rfl⟩ | ⟨_,f2,_⟩
  ·rcases hm with⟨rfl,rfl⟩ | ⟨rfl,rfl,f⟩
   ·exact absurd hf1 (O8 hy hyf)
   ·rw[bf8 hz hy,bZ8]
    exact aQ6 "none" hyf
  ·exact absurd f2 (O8 hz hzf)
 refine⟨_,rfl,rfl,_,rfl,E8 ?_⟩
 have s15:=(s13.trans s4).trans s5
 obtain⟨k1,k2,T1,e1,T2,e2,i1,i2,rfl⟩:∃ k1 k2,Tld ns.length k1/\tal ns.length k1=ns/\Tld ns.length k2/\tal ns.length k2=ns/\up [(i:Int),(j:Int)]∈k1/\up [(i:Int),(j:Int)]∉k2/\ys=[("some":Str),L7 k1,L7 k2]:=by
  rcases hP with⟨m,v,yw,hm,hy,hyf,rfl⟩ | ⟨_,_,h⟩
  ·rcases hm with⟨rfl,rfl⟩ | ⟨rfl,rfl,f⟩
   ·exact absurd hf1 (O8 hy hyf)
   ·exact absurd hf2 (O8 hy hyf)
  ·exact h
 have r1:=aM5 (aI4 t2 T1.ups) (by have:=ao7 t2 T1.nd T1.ups;omega)
 have r2:=aM5 (aI4 t2 T2.ups) (by have:=ao7 t2 T2.nd T2.ups;omega)
 have hjl:=(ab0 (y:="\n") (xs:=[("some":Str),L7 k1,L7 k2]) (m:=4000) (n:=3) (fun u hu=>by
  have r0:("some":Str).length<=4000:=by decide +kernel
  simp only[c5,D9,or_false]at hu
  rcases hu with e | e | e<;>rw[e]<;>omega) (by show 3<=3;decide) (by decide +kernel)).2
 rw[show Txt.join "\n" [("some":Str),L7 k1,L7 k2]=Str.join "\n" [("some":Str),L7 k1,L7 k2] from StrLaws.glued_eq_join _ _]at hjl
 have n1:("\n":Str).length=1:=by decide +kernel
 refine⟨_,rfl,rfl,_,_,rfl,rfl,(by decide +kernel),by omega,by rw[aA6];show 3<=d8;omega,fun l fl=>?_⟩
 rw[aA6]
 have s6:=c8 (o:=.lst ([("some":Str),L7 k1,L7 k2].map V.str)) fl
 have gl:(upd H5 l (.lst ([("some":Str),L7 k1,L7 k2].map V.str))) l=some (.lst ([("some":Str),L7 k1,L7 k2].map V.str)):=a9
 generalize upd H5 l (.lst ([("some":Str),L7 k1,L7 k2].map V.str))=H6 at s6 gl ⊢
 have s16:=s15.trans s6
 refine⟨_,rfl,l,_,rfl,.inl (SqL.of gl),rfl,_,rfl,aV5 rfl ?_⟩
 refine⟨_,rfl,l,_,_,_,rfl,rfl,SqL.of gl,p6 (j:=0) rfl,rfl,_,rfl,aV5 rfl ?_⟩
 refine⟨(by show 2<=d8;decide),fun lk fk=>⟨lk,rfl,⟨_,SqL.of a9⟩,?_⟩⟩
 have s7:=c8 (o:=.lst [.int 1,.int 2]) fk
 have glk:(upd H6 lk (.lst [.int 1,.int 2])) lk=some (.lst [.int 1,.int 2]):=a9
 have gl7:=s7 _ _ gl
 generalize upd H6 lk (.lst [.int 1,.int 2])=H7 at s7 glk gl7 ⊢
 have s17:=s16.trans s7
 refine aE1 (K:=K) (a:=lk) (xs:=[.int 1,.int 2]) (fun _ σ Ha=>∃ e6 e7 e8,σ=[some (.ref a),some (.int i),some (.int j),some (.str (Str.join "\n" [("some":Str),L7 k1,L7 k2])),some .non,some (.ref l),e6,e7,e8]/\p8 H7 Ha) ⟨none,none,none,rfl,p8.refl H7⟩ (fun u σ Ha _ ⟨_,_,_,_,sa⟩=>SqL.of (sa _ _ glk)) ?_ ?_
 ·rintro u xv σ Ha hx ⟨e6,e7,e8,rfl,sa⟩
  obtain⟨k,hk,rfl⟩:∃ k:Int,(k=1\/k=2)/\xv=.int k:=by
   have:=b9 hx
   simp only[c5,D9,or_false]at this
   rcases this with e | e
   ·exact⟨1,.inl rfl,e⟩
   ·exact⟨2,.inr rfl,e⟩
  obtain⟨ks,hks,hat⟩:=bK0 hk k1 k2
  have hks2:Tld ns.length ks/\tal ns.length ks=ns/\(L7 ks).length<=4000/\U7 (L7 ks)/\decide (up [(i:Int),(j:Int)]∈ks)=decide (V.int k=V.int 1):=by
   rcases hks with⟨rfl,rfl⟩ | ⟨rfl,rfl⟩
   ·exact⟨T1,e1,by omega,r1.2,by rw[decide_eq_true i1,decide_eq_true rfl]⟩
   ·exact⟨T2,e2,by omega,r2.2,by rw[decide_eq_false i2,decide_eq_false (by decide)]⟩
  obtain⟨hTk,htk,hlk,hAk,hik⟩:=hks2
  have hW:=bI5 ht.1 t2 hTk
  have gla:=sa _ _ gl7
  have gaa:=(s17.trans sa) _ _ ga
  refine A2 ?_
  refine⟨_,rfl,_,rfl,l,_,_,_,rfl,rfl,SqL.of gla,hat,_,rfl,a,_,rfl,.inl (SqL.of gaa),L7 ks,ns.length,ks,(by rw[a5];rfl),by omega,hAk,hW,fun lc Hb sb gb=>?_⟩
  rw[htk]at gb
  refine⟨_,rfl,bN1 hun (SqL.of gb) (SqL.of (sb _ _ gaa)) ⟨_,rfl,E8 ?_⟩⟩
  refine⟨_,rfl,_,rfl,l,_,_,_,rfl,rfl,SqL.of (sb _ _ gla),hat,_,rfl,a,_,rfl,.inl (SqL.of (sb _ _ gaa)),L7 ks,ns.length,(by rw[a5];rfl),ht.1,t2,by omega,hAk,fun ks' hW' p t zs Hc sc gp gt tt=>?_,fun h=>absurd ⟨ks,hW⟩ h⟩
  obtain⟨r,e,hR,_⟩:=hW
  obtain⟨r',e',hR',_⟩:=hW'
  rw[e]at e'
  cases e'
  obtain rfl:=hR'.uniq hR
  refine⟨p,_,_,_,rfl,rfl,SqT.of gp,p6 (j:=1) rfl,?_⟩
  refine A2 ?_
  refine⟨_,rfl,_,rfl,_,_,rfl,_,rfl,_,rfl,_,_,rfl,(by show 2<=d8;decide),fun tp ftp=>?_⟩
  have std:=c8 (o:=.tup [.int (if (j:Int)<i then (j:Int) else i),.int (if (j:Int) > i then (j:Int) else i)]) ftp
  have gtp:(upd Hc tp (.tup [.int (if (j:Int)<i then (j:Int) else i),.int (if (j:Int) > i then (j:Int) else i)])) tp=some (.tup ((up [(i:Int),(j:Int)]).map V.int)):=a9
  generalize upd Hc tp (.tup [.int (if (j:Int)<i then (j:Int) else i),.int (if (j:Int) > i then (j:Int) else i)])=Hd at std gtp ⊢
  refine A2 ?_
  refine⟨_,rfl,_,rfl,cb9 false hun (SqT.of gtp) (.inr (SqT.of (std _ _ gt))) (std.tups tt) ⟨_,rfl,rfl,rfl,_,rfl,bls hik ?_⟩⟩
  exact⟨_,_,_,rfl,((sa.trans sb).trans sc).trans std⟩
 ·rintro σ Ha ⟨e6,e7,e8,rfl,sa⟩
  exact q Ha (s17.trans sa)
end
theorem cb1 {K:W.Frag}{kA:Addr}{kod:Option Addr}{kn:Nat}{ksl:Array (Option Value)}{t1 t2 t3 t4:Tok}(h:K.lookup kA=some ⟨.type "tuple",kod,.seq #[.str "web" t1,.str "pair" t2,.str "pieces" t3,.str "off" t4] kn,ksl⟩):KdT K kA:=fun _ =>
 .inr ⟨_,_,_,h,rfl,rfl,by show 4<=d8;decide,.cons ⟨_,rfl⟩ (.cons ⟨_,rfl⟩ (.cons ⟨_,rfl⟩ (.cons ⟨_,rfl⟩ .nil)))⟩
theorem bM0 (z:Int)(h:0<=z/\z<8):∃ v:Nat,atI ([.int 7,.int 7,.int 7,.int 7,.int 7,.int 7,.int 7,.int 14]:List V) z=some (.int (v:Int))/\1<=v/\v<=24:=by
 have:z=0\/z=1\/z=2\/z=3\/z=4\/z=5\/z=6\/z=7:=by omega
 rcases this with h | h | h | h | h | h | h | h<;>rw[h]
 ·exact⟨7,p6 (j:=0) rfl,by decide,by decide⟩
 ·exact⟨7,p6 (j:=1) rfl,by decide,by decide⟩
 ·exact⟨7,p6 (j:=2) rfl,by decide,by decide⟩
 ·exact⟨7,p6 (j:=3) rfl,by decide,by decide⟩
 ·exact⟨7,p6 (j:=4) rfl,by decide,by decide⟩
 ·exact⟨7,p6 (j:=5) rfl,by decide,by decide⟩
 ·exact⟨7,p6 (j:=6) rfl,by decide,by decide⟩
 ·exact⟨14,p6 (j:=7) rfl,by decide,by decide⟩
seal L2.PE L2.PA L2.PS L2.PSs L2.PT
section
variable {K:W.Frag} {mg:Str->Option Value} {base:Heap}
def bQ9 (PT:Addr):Sp:=fun vs H Q _=>∃ (x y:Int) (ns:List Int),vs=[.str (qT "pair" (x::y::ns))]/\(∀ z∈x::y::ns,Nm z)/\(∀ z∈ns,okN z)/\R9 ns/\Tb PT H/\∀ (t:Str) (H':Hp),K8 PT H H'->Tb PT H'->bS2 ns x y t->Q (.str t) H'
def aR3 (K:W.Frag)(PT:Addr):Sp:=fun vs H Q _=>∃ (a:Addr) (ns:List Int),vs=[.ref a]/\SqL K H a (ns.map V.int)/\ns.length<=63/\Tb PT H/\∀ H',Q (.bl true) H'
theorem aq8:p9 ["script","cell","tally","one","other","far","pair","told"] ["script"] (m9 bb6):=.mk'
set_option maxHeartbeats 4000000 in
theorem bL2 {fC fB fζ fμ fσ PT:Addr} {fdB fdζ fdμ fdσ:FuncData} (F:Fun K "law" "law" bb6 f fd) (B:Bn mg)
  (FC:Fq K mg "_law_cell_at" aS8 fC fdC ["script","k"]) (GC:p0 P w K mg base CX0 8 fC fdC ["script","k"] (bv3 K))
  (FB:Fq K mg "_law_asked" aS9 fB fdB ["cell","most"]) (GB:p0 P w K mg base CX0 8 fB fdB ["cell","most"] (ci2 K))
  (Fζ:Fq K mg "answer" ar0 fζ fdζ ["question"]) (Gζ:p0 P w K mg base CX0 8 fζ fdζ ["question"] (bQ9 PT))
  (Fμ:Fq K mg "_law_numbers" aS4 fμ fdμ ["word","numbers"]) (Gμ:p0 P w K mg base CX0 8 fμ fdμ ["word","numbers"] (bu3 K))
  (Fσ:Fq K mg "_law_right" aB1 fσ fdσ ["tally","one","other","told"]) (Gσ:p0 P w K mg base CX0 8 fσ fdσ ["tally","one","other","told"] (ch8 K)):p0 P w K mg base CX0 9 f fd ["script"] (aR3 K PT):=by
 refine F.ok aq8 (fun cdv A outer s H vs Q E hr h=>?_)
 obtain⟨sc,ns,rfl,hS,hlen,tb,q⟩:=h
 have hsl:d8=16777216:=x6
 refine⟨_,c9 (W2 PassesOwn.never rfl (P3 (o8 aC3 (P0 (a6 (A9 GC hr (by rfl) FC D0 (a6 (pv 0) (a6 d6 b7))) b7)) (N8 U0 (pv 0) (Q3 d6) (Q3 d6)))) (B2 (i:=1) aq8.nd rfl (Or.inl rfl))
   (c9 (v8 (i:=1) aq8.nd rfl (Or.inl rfl) (o8 G0 (pv 1) (o8 aj3 d6 d6)))
   (c9 (v8 (i:=2) aq8.nd rfl (Or.inl rfl) (A9 GB hr (by rfl) FB D0 (a6 (o8 N5 (pv 1) d6) (a6 (B9 C3 (P0 (a6 d6 (a6 d6 (a6 d6 (a6 d6 (a6 d6 (a6 d6 (a6 d6 (a6 d6 b7))))))))) (o8 G0 (pv 1) d6) (fun _ _=>rfl)) b7))))
   (c9 (v8 (i:=3) aq8.nd rfl (Or.inl rfl) (o8 G0 (o8 N5 (pv 1) d6) (o8 L8 (n9 o9 (by rfl) B.len PySem.boot_len (a6 (pv 2) b7)) d6)))
   (c9 (v8 (i:=4) aq8.nd rfl (Or.inl rfl) (o8 G0 (o8 L8 (o8 L8 (pv 3) d6) (o8 G0 (o8 N5 (pv 1) d6) (n9 (ad4 rfl) (by rfl) B.max (by rfl) (a6 d6 (a6 (n9 o9 (by rfl) B.len PySem.boot_len (a6 (pv 2) b7)) b7))))) (n9 (ad4 rfl) (by rfl) B.max (by rfl) (a6 d6 (a6 (n9 o9 (by rfl) B.len PySem.boot_len (a6 (pv 2) b7)) b7)))))
   (c9 (v8 (i:=5) aq8.nd rfl (Or.inl rfl) (o8 L8 (n9 o9 (by rfl) B.len PySem.boot_len (a6 (pv 2) b7)) (o8 G0 (o8 N5 (pv 1) d6) (o8 aj3 d6 d6))))
   (j3 (W2 PassesOwn.never rfl (P3 (P0 (a6 (J7 (a6 (pv 3) (a6 (pv 4) b7))) (a6 (J7 (a6 (pv 4) (a6 (pv 3) b7))) (a6 (J7 (a6 (pv 3) (a6 (pv 3) b7))) (a6 (J7 (a6 (o8 ab7 d6 d6) (a6 (pv 4) b7))) (a6 (J7 (a6 (pv 4) (a6 (pv 5) b7))) b7))))))) (B2 (i := 6) aq8.nd rfl (Or.inl rfl))
    (c9 (v8 (i:=7) aq8.nd rfl (Or.inl rfl) (A9 Gζ hr (by rfl) Fζ D0 (a6 (A9 Gμ hr (by rfl) Fμ D0 (a6 C8 (a6 (o8 aC3 (F3 af7 (by rfl) B.list (by rfl) (a6 (pv 6) b7)) (pv 2)) b7))) b7)))
    (j3 (D6 (PW.pt (ag5 (U1 (ai6 (n9 (aO7 K rfl) (by rfl) B.isin (by rfl) (a6 (pv 7) (a6 (bJ6 (v:=.ty "str") (by rfl) B.str (by rfl) rfl) b7))))) (ab6 (U1 (ai6 (A9 Gσ hr (by rfl) Fσ D0 (a6 (pv 2) (a6 (B9 J8 (pv 6) d6 (fun _ _=>rfl)) (a6 (B9 J8 (pv 6) d6 (fun _ _=>rfl)) (a6 (pv 7) b7)))))))))) J4 x9)))))))))))
  (j3 (r6 bh6)),?_⟩
 refine⟨_,rfl,sc,ns,0,rfl,hS,fun c0=>?_⟩
 refine⟨(by show 1<=d8;decide),fun l0 f0=>?_⟩
 have sl0:=c8 (o:=.lst [.int c0]) f0
 obtain⟨ms,hms,hml⟩:=bq3 ns (some 1) (some 9)
 refine⟨_,rfl,_,rfl,_,rfl,sc,ns.map V.int,rfl,sl0.seq hS,fun l1 f1=>?_⟩
 rw[hms]
 have sl1:=c8 (o:=.lst (ms.map V.int)) f1
 refine⟨l0,l1,_,_,rfl,rfl,sl1 _ _ a9,a9,by rw[a5];show 1+ms.length<=d8;omega,fun lc fc=>⟨lc,rfl,⟨_,SqL.of a9⟩,?_⟩⟩
 have slc:=c8 (o:=.lst ([.int c0]++ms.map V.int)) fc
 have tbB:=tb.same ((sl0.trans sl1).trans slc)
 have glc:(upd (upd (upd H l0 (.lst [.int c0])) l1 (.lst (ms.map V.int))) lc (.lst ([.int c0]++ms.map V.int))) lc=some (.lst (([c0]++ms:List Int).map V.int)):=by rw[a9,g9];rfl
 clear sl0 sl1 slc
 generalize upd (upd (upd H l0 (.lst [.int c0])) l1 (.lst (ms.map V.int))) lc (.lst ([.int c0]++ms.map V.int))=HB at glc tbB
 refine aE1 (K:=K) (a:=lc) (xs:=([c0]++ms:List Int).map V.int) (fun _ σ H2=>∃ e1 e2 e3 e4 e5 e6 e7,σ=[some (.ref sc),e1,e2,e3,e4,e5,e6,e7]/\K8 PT HB H2/\Tb PT H2) ⟨_,_,_,_,_,_,_,rfl,K8.refl PT HB,tbB⟩ (fun i σ H2 _ ⟨_,_,_,_,_,_,_,_,g,_⟩=>SqL.of (Y6 g tbB glc)) ?_ ?_
 ·rintro i x σ Ha hx ⟨e1,e2,e3,e4,e5,e6,e7,rfl,ga,tba⟩
  obtain⟨z,rfl⟩:=int_at hx
  refine⟨_,rfl,_,_,rfl,rfl,⟨by decide,by decide,by decide⟩,_,_,rfl,rfl,p60,?_⟩
  refine F4 fun c _=>?_
  obtain⟨m,hm,m1,m2⟩:=bM0 (c % 8) ⟨F2 _ (by decide),C9 _ (by decide)⟩
  refine⟨_,rfl,_,_,rfl,rfl,⟨by decide,by decide⟩,(by show 8<=d8;decide),fun l3 f3=>?_⟩
  have s3:=c8 (o:=.lst [.int 7,.int 7,.int 7,.int 7,.int 7,.int 7,.int 7,.int 14]) f3
  refine⟨_,rfl,_,_,rfl,rfl,(by show (0:Int)<8;decide),l3,_,_,_,rfl,rfl,SqL.of a9,hm,?_⟩
  refine⟨_,m,rfl,m1,m2,fun l ts H4 s4 g4 n1 n2 hN=>?_⟩
  have s34:=s3.trans s4
  clear s3 s4
  have ht:R9 ts:=⟨n1,n2⟩
  have hok:∀ z∈ts,okN z:=fun z hz=>(bc5 (z:=z) (k:=50) (by decide) (hN z hz) (by decide)).1
  have hNm:∀ z∈ts,Nm z:=fun z hz=>o4 (hN z hz) (by decide +kernel)
  refine A2 ?_
  refine⟨_,rfl,_,_,rfl,rfl,⟨by decide,by decide⟩,_,rfl,l,_,rfl,.inl (SqL.of g4),_,_,rfl,rfl,_,_,rfl,rfl,(by rw[a5];show (0:Int)<(ts.length:Int)+1;omega),?_⟩
  refine F4 fun one h1=>?_
  rw[a5]at h1
  have b1:=F2 (c / 3) (show (ts.length:Int)+1≠0 by omega)
  have b2:=C9 (c / 3) (show (0:Int)<(ts.length:Int)+1 by omega)
  have p1:0<=one/\one<=24:=by omega
  refine A2 ?_
  have hmx:(0:Int)<(if ((ts.map V.int).length:Int) > 1 then ((ts.map V.int).length:Int) else 1)/\(if ((ts.map V.int).length:Int) > 1 then ((ts.map V.int).length:Int) else 1)<=24:=by
   rw[a5]
   split<;>omega
  refine⟨_,rfl,_,_,rfl,rfl,_,rfl,_,_,rfl,rfl,⟨by decide,by decide⟩,_,rfl,l,_,rfl,.inl (SqL.of g4),_,_,rfl,_,_,rfl,rfl,hmx.1,_,_,rfl,rfl,_,rfl,l,_,rfl,.inl (SqL.of g4),_,_,rfl,_,_,rfl,rfl,hmx.1,?_⟩
  refine F4 fun oth h2=>?_
  generalize (if ((ts.map V.int).length:Int) > 1 then ((ts.map V.int).length:Int) else 1)=mxv at hmx h2
  have p2:0<=oth/\oth<=24:=by
   rw[h2]
   have a1:=F2 (one+1+c / 21 % mxv) (show mxv≠0 by omega)
   have a2:=C9 (one+1+c / 21 % mxv) hmx.1
   omega
  refine A2 ?_
  refine⟨_,rfl,l,_,rfl,.inl (SqL.of g4),_,rfl,_,_,rfl,rfl,⟨by decide,by decide⟩,_,_,rfl,rfl,⟨by decide,by decide,by decide⟩,_,_,rfl,rfl,p50,_,_,rfl,rfl,?_⟩
  refine F4 fun far h3=>?_
  rw[a5]at h3
  have p3:0<=far/\far<10 ^ 51:=by
   have a1:=F2 (c / 5) (Int.ne_of_gt p50)
   have a2:=C9 (c / 5) p50
   have a3:(10:Int) ^ (J1 50)=10 ^ 50:=rfl
   have a4:(24:Int)+10 ^ 50<=10 ^ 51:=by decide +kernel
   rw[a3]at a1 a2
   rw[h3]
   exact⟨by omega,by show (ts.length:Int)+c / 5 % 10 ^ 50<10 ^ 51;omega⟩
  refine A2 ?_
  clear h1 h2 h3 b1 b2 hmx
  refine⟨_,rfl,_,rfl,(by show 2<=d8;decide),fun q1 f1=>⟨_,rfl,_,rfl,(by show 2<=d8;decide),fun q2 f2=>⟨_,rfl,_,rfl,(by show 2<=d8;decide),fun q3 f3=>⟨_,_,rfl,rfl,_,rfl,(by show 2<=d8;decide),fun q4 f4=>⟨_,rfl,_,rfl,(by show 2<=d8;decide),fun q5 f5=>⟨(by show 5<=d8;decide),fun lp flp=>⟨lp,rfl,⟨_,SqL.of a9⟩,?_⟩⟩⟩⟩⟩⟩⟩
  have u1:=c8 (o:=.tup [.int one,.int oth]) f1
  have u2:=c8 (o:=.tup [.int oth,.int one]) f2
  have u3:=c8 (o:=.tup [.int one,.int one]) f3
  have u4:=c8 (o:=.tup [.int (0 - 1),.int oth]) f4
  have u5:=c8 (o:=.tup [.int oth,.int far]) f5
  have u6:=c8 (o:=.lst [.ref q1,.ref q2,.ref q3,.ref q4,.ref q5]) flp
  have u26:=(((u2.trans u3).trans u4).trans u5).trans u6
  have u36:=((u3.trans u4).trans u5).trans u6
  have u46:=(u4.trans u5).trans u6
  have tT:C1 K _ [.ref q1,.ref q2,.ref q3,.ref q4,.ref q5] [[one,oth],[oth,one],[one,one],[0 - 1,oth],[oth,far]]:=
   .cons ⟨q1,rfl,SqT.of (u26 _ _ a9)⟩ (.cons ⟨q2,rfl,SqT.of (u36 _ _ a9)⟩ (.cons ⟨q3,rfl,SqT.of (u46 _ _ a9)⟩ (.cons ⟨q4,rfl,SqT.of ((u5.trans u6) _ _ a9)⟩ (.cons ⟨q5,rfl,SqT.of (u6 _ _ a9)⟩ .nil))))
  have hTk:∀ k∈[[one,oth],[oth,one],[one,one],[0 - 1,oth],[oth,far]],∃ x y:Int,k=[x,y]/\Nm x/\Nm y:=by
   have sm:∀ z:Int,-1<=z/\z<10 ^ 51->Nm z:=fun z hz=>by
    unfold Nm
    have e:(10:Int) ^ 51=((10 ^ 51:Nat):Int):=by decide +kernel
    rw[e]at hz
    have h1:2<=10 ^ 51:=by decide +kernel
    generalize (10 ^ 51:Nat)=B at hz h1 ⊢
    omega
   have b51:(25:Int)<=10 ^ 51:=by decide +kernel
   generalize (10:Int) ^ 51=B at *
   intro k hk
   simp only[c5,D9,or_false]at hk
   rcases hk with rfl | rfl | rfl | rfl | rfl<;>exact⟨_,_,rfl,sm _ (by omega),sm _ (by omega)⟩
  have glp:(upd (upd (upd (upd (upd (upd H4 q1 (.tup [.int one,.int oth])) q2 (.tup [.int oth,.int one])) q3 (.tup [.int one,.int one])) q4 (.tup [.int (0 - 1),.int oth])) q5 (.tup [.int oth,.int far])) lp (.lst [.ref q1,.ref q2,.ref q3,.ref q4,.ref q5])) lp=some (.lst [.ref q1,.ref q2,.ref q3,.ref q4,.ref q5]):=a9
  have u16:=u1.trans u26
  clear u1 u2 u3 u4 u5 u6 u26 u36 u46 f1 f2 f3 f4 f5
  generalize upd (upd (upd (upd (upd (upd H4 q1 (.tup [.int one,.int oth])) q2 (.tup [.int oth,.int one])) q3 (.tup [.int one,.int one])) q4 (.tup [.int (0 - 1),.int oth])) q5 (.tup [.int oth,.int far])) lp (.lst [.ref q1,.ref q2,.ref q3,.ref q4,.ref q5])=H5 at tT glp u16 ⊢
  generalize [V.ref q1,.ref q2,.ref q3,.ref q4,.ref q5]=vs5 at tT glp ⊢
  generalize [[one,oth],[oth,one],[one,one],[0 - 1,oth],[oth,far]]=T5 at tT hTk
  have s35:=s34.trans u16
  have tb5:=tba.same s35
  have g5:=u16 _ _ g4
  refine aE1 (K:=K) (a:=lp) (xs:=vs5) (fun _ σ Hb=>∃ e6 e7,σ=[some (.ref sc),some (.int c),some (.ref l),some (.int one),some (.int oth),some (.int far),e6,e7]/\K8 PT H5 Hb/\Tb PT Hb) ⟨_,_,rfl,K8.refl PT H5,tb5⟩ (fun _ σ Hb _ ⟨_,_,_,g,_⟩=>SqL.of (Y6 g tb5 glp)) ?_ ?_
  ·rintro u xv σ Hb hxv ⟨e6,e7,rfl,gb,tbb⟩
   obtain⟨pa,pk,rfl,hk',hq⟩:=tT.get hxv
   obtain⟨x,y,rfl,nx,ny⟩:=hTk pk (b9 hk')
   have hqb:=K8.sqT gb tb5 hq
   have glb:=Y6 gb tb5 g5
   refine A2 ?_
   refine⟨_,rfl,pa,_,rfl,.inr hqb,fun l6 f6=>?_⟩
   have v1:=c8 (o:=.lst ([x,y].map V.int)) f6
   refine⟨_,rfl,l6,l,_,_,rfl,rfl,a9,v1 _ _ glb,by rw[a5,a5];show 2+ts.length<=d8;omega,fun l7 f7=>?_⟩
   have v2:=c8 (o:=.lst ([x,y].map V.int++ts.map V.int)) f7
   have hNa:∀ z∈x::y::ts,Nm z:=fun z hz=>by
    rcases c5.mp hz with e | hz
    ·rw[e];exact nx
    rcases c5.mp hz with e | hz
    ·rw[e];exact ny
    ·exact hNm z hz
   refine⟨"pair",l7,x::y::ts,rfl,(by decide +kernel),SqL.of a9,hNa,by rw[i9,i9];omega,fun H7 v3=>?_⟩
   have v13:=(v1.trans v2).trans v3
   have tb7:=tbb.same v13
   refine⟨x,y,ts,rfl,hNa,hok,ht,tb7,fun t H8 g8 tb8 hTd=>?_⟩
   have g58:=(gb.trans (v13.grow PT)).trans g8
   have hq8:=K8.sqT g58 tb5 hq
   refine A2 ?_
   refine⟨_,rfl,_,_,_,true,rfl,.str _,rfl,_,rfl,E8 ?_⟩
   refine⟨_,rfl,_,rfl,pa,_,_,_,rfl,rfl,hq8,p6 (j:=0) rfl,_,rfl,pa,_,_,_,rfl,rfl,hq8,p6 (j:=1) rfl,_,rfl,l,ts,x,y,t,rfl,Y6 g58 tb5 g5,ht,hTd,fun H9 s9=>⟨_,rfl,E8 ⟨_,_,rfl,g58.trans (s9.grow PT),tb8.same s9⟩⟩⟩
  ·rintro σ Hb ⟨e6,e7,rfl,gb,tbb⟩
   exact⟨_,_,_,_,_,_,_,rfl,(ga.trans (s35.grow PT)).trans gb,tbb⟩
 ·rintro σ Ha ⟨e1,e2,e3,e4,e5,e6,e7,rfl,_⟩
  exact q _
theorem bZ0 {fI fa1 fU fV fO fa2 fG fA fβ fω fW fa3 fF fL fY fa4 fa5 fa6 fa7 fX fN fν fτ fρ fK fδ fR fζ fC fE fD fH fM fφ fP fQ fS fJ fη fμ fκ fB fψ fσ CT CN CW CP kA c PT:Addr}{fda1 fdU fdV fda2 fdG fdβ fdω fdW fda3 fdL fdY fda4 fda5 fda6 fda7 fdX fdN fdν fdτ fdρ fdK fdδ fdζ fdE fdD fdH fdM fdφ fdP fdQ fdS fdJ fdη fdμ fdκ fdB fdψ fdσ:FuncData}{tk tF tA tR:Tok}(F0:Fun K "law" "law" bb6 f fd)(Bx:Bn mg)
  (mo:mg "MOST_PLACES"=some (.int 24 tk))(mFg:mg "FIGURES"=some (.str "0123456789" tF))(mA':mg "MOST_FIGURES_ASKED"=some (.int 50 tA))(mRf:mg "REFUSED"=some (.str "refused" tR))(mK':mg "KINDS"=some (.ref kA))
  (FI:Fq K mg "is_place" aH3 fI fdI ["places","number"])
  (Fa1:Fq K mg "check_place" bn2 fa1 fda1 ["places","number"])
  (FU:Fq K mg "turned_up" sUp fU fdU ["places","tie"])
  (FV:Fq K mg "made" aS5 fV fdV ["places","ties"])
  (FT:Fq K mg "check_tally" aH4 fT fdT ["tally"])
  (FO:Fq K mg "order_of" bb5 fO fdO ["tally"])
  (Fa2:Fq K mg "moved" bw3 fa2 fda2 ["tally","place","more"])
  (FG:Fq K mg "falling" aI9 fG fdG ["tally"])
  (FA:Fq K mg "room_among" au3 fA fdA ["numbers","most","r"])
  (Fβ:Fq K mg "places_below" au2 fβ fdβ ["numbers"])
  (Fω:Fq K mg "wall_with" aA9 fω fdω ["tally","most"])
  (FW:Fq K mg "wall_of" aI6 fW fdW ["tally"])
  (Fa3:Fq K mg "check_has_web" bw5 fa3 fda3 ["tally"])
  (FF:Fq K mg "first_of_order" ap0 fF fdF ["tally","many","passed_over"])
  (FL:Fq K mg "left_of_others" aS6 fL fdL ["tally","place","ends"])
  (FY:Fq K mg "laid_around" aI7 fY fdY ["tally","place","ends"])
  (Fa4:Fq K mg "check_pair" bw7 fa4 fda4 ["places","one","other"])
  (Fa5:Fq K mg "moved_both" bw2 fa5 fda5 ["tally","one","other","more"])
  (Fa6:Fq K mg "laid_with" aS0 fa6 fda6 ["tally","one","other"])
  (Fa7:Fq K mg "laid_without" aR9 fa7 fda7 ["tally","one","other"])
  (FX:Fq K mg "pair_told" sPT fX fdX ["tally","one","other"])
  (FN:Fq K mg "is_number" bw4 fN fdN ["word","most"])
  (Fν:Fq K mg "number_within" sNW fν fdν ["word","most"])
  (Fτ:Fq K mg "web_text" aS1 fτ fdτ ["web"])
  (Fρ:Fq K mg "row_text" aS3 fρ fdρ ["parts"])
  (FK:Fq K mg "asked" aB5 fK fdK ["question"])
  (Fδ:Fq K mg "pair_rows" aB2 fδ fdδ ["told"])
  (FR:Fq K mg "rows_for" aB0 fR fdR ["kind","pair","tally"])
  (Fζ:Fq K mg "answer" ar0 fζ fdζ ["question"])
  (FC:Fq K mg "_law_cell_at" aS8 fC fdC ["script","k"])
  (FE:Fq K mg "_law_row" bb4 fE fdE ["cell","many","size"])
  (FD:Fq K mg "_law_ties" aS2 fD fdD ["cell","places"])
  (FH:Fq K mg "_law_counts" al1 fH fdH ["places","ties"])
  (FM:Fq K mg "_law_tally" bv9 fM fdM ["cell","most"])
  (Fφ:Fq K mg "_law_figures" bw6 fφ fdφ ["word","most"])
  (FP:Fq K mg "_law_tie" bw0 fP fdP ["word"])
  (FQ:Fq K mg "_law_web_of" au1 fQ fdQ ["row","places"])
  (FS:Fq K mg "_law_order" aI8 fS fdS ["tally"])
  (FJ:Fq K mg "_law_room" aB3 fJ fdJ ["tally","r"])
  (Fη:Fq K mg "_law_fence" aB4 fη fdη ["tally"])
  (Fμ:Fq K mg "_law_numbers" aS4 fμ fdμ ["word","numbers"])
  (Fκ:Fq K mg "_law_counted" aq9 fκ fdκ ["row","places"])
  (FB:Fq K mg "_law_asked" aS9 fB fdB ["cell","most"])
  (Fψ:Fq K mg "_law_moved" bw1 fψ fdψ ["tally","one","other","by"])
  (Fσ:Fq K mg "_law_right" aB1 fσ fdσ ["tally","one","other","told"])
  (hK:KdT K kA)(mCT:mg "TallyError"=some (.ref CT))(mCB:mg "BadTally"=some (.ref CB))(cCB:ag1 K CB)(mCN:mg "NoText"=some (.ref CN))(cCN:ag1 K CN)(mCW:mg "NoWeb"=some (.ref CW))(cCW:ag1 K CW)(mCP:mg "NoPlace"=some (.ref CP))(cCP:ag1 K CP)(xN:PySem.W.exmOne K (.ref CN) (.ref CT)=some true)(xW:PySem.W.exmOne K (.ref CW) (.ref CT)=some true)(xP:PySem.W.exmOne K (.ref CP) (.ref CT)=some true)(hc:fdO.code=.ref c)(LB:aF5 base mg c PT):p0 P w K mg base CX0 9 f fd ["script"] (aR3 K PT):=by
 have GW:p0 P w K mg base (CXE P w) 3 fW fdW ["tally"] (aL9 K CB):=bK5 FW.F Bx FT FG FA Fβ Fω mo mCB cCB
 have Ga2:p0 P w K mg base (CXE P w) 3 fa2 fda2 ["tally","place","more"] (bu5 K CB CP):=bY8 Fa2.F Bx FT Fa1 FI mo mCB cCB mCP cCP
 have Ga3:p0 P w K mg base (CXE P w) 4 fa3 fda3 ["tally"] (bv0 K CB CW):=bZ2 Fa3.F FW GW mCW cCW
 have Ga5:p0 P w K mg base CX0 4 fa5 fda5 ["tally","one","other","more"] (bu4 K):=bY7 Fa5.F Fa2 Ga2
 have Ga4:p0 P w K mg base (CXE P w) 3 fa4 fda4 ["places","one","other"] (bv2 CP):=bZ4 Fa4.F Fa1 FI mCP cCP
 have GF:p0 P w K mg base (CXE P w) 3 fF fdF ["tally","many","passed_over"] (ae8 K PT):=aU0 FF.F Bx FO hc LB FT mo mCB cCB
 have GY:p0 P w K mg base CX0 4 fY fdY ["tally","place","ends"] (aM0 K PT):=bL3 FY.F Bx FI FU FV FO hc LB FT FF FL mo mCB cCB
 have Ga6:p0 P w K mg base CX0 5 fa6 fda6 ["tally","one","other"] (bm9 K PT true):=bK4 Fa6.F FF GF FY GY
 have Ga7:p0 P w K mg base CX0 5 fa7 fda7 ["tally","one","other"] (bm9 K PT false):=bK3 Fa7.F FF GF FY GY
 have GX:p0 P w K mg base (CXE P w) 6 fX fdX ["tally","one","other"] (bV6 K PT CB CW CP):=cl3 FX.F Bx Fa3 (Ga3.mono (by decide)) Fa4 (Ga4.mono (by decide)) FW (GW.mono (by decide)) Fa5 (Ga5.mono (by decide)) Fa6 Ga6 Fa7 Ga7
 have Gν:p0 P w K mg base (CXE P w) 2 fν fdν ["word","most"] (bV8 CN):=cl5 Fν.F Bx FN mFg mCN cCN
 have GK:p0 P w K mg base (CXE P w) 3 fK fdK ["question"] (ba6 CN):=bL6 FK.F Bx Fν Gν mA' mK' hK mCN cCN
 have Gδ:p0 P w K mg base CX0 2 fδ fdδ ["told"] (bV7 K):=cl4 Fδ.F Fτ (ck6 Fτ.F Bx) Fρ (cl0 Fρ.F Bx)
 have GR:p0 P w K mg base (CXE P w) 7 fR fdR ["kind","pair","tally"] (bV5 K PT CB CW CP):=cl2 (by decide) FR.F FX GX Fδ Gδ
 have Gζ:p0 P w K mg base CX0 8 fζ fdζ ["question"] (bQ9 PT):=(bZ5 Fζ.F FK (GK.mono (by decide)) FR GR mRf mCT xN xW xP).imp fun vs H Q E ⟨x,y,ns,e,h1,h2,h3,tb,q⟩=>⟨x,y,ns,e,h1,h2,h3,tb,fun hf i j e1 e2 hi hj hij ys H' g t hP=>q _ H' g t (.inl ⟨hf,i,j,ys,e1,e2,hi,hj,hij,hP,rfl⟩),fun hb H' s'=>q _ H' (s'.grow PT) (tb.same s') (.inr ⟨hb,rfl⟩)⟩
 have GP:p0 P w K mg base CX0 2 fP fdP ["word"] ba4:=bK9 FP.F Bx Fφ
 have GQ:p0 P w K mg base CX0 3 fQ fdQ ["row","places"] (bH9 K):=ck7 FQ.F Bx FP GP
 have Gκ:p0 P w K mg base CX0 7 fκ fdκ ["row","places"] bW0:=(cl8 Fκ.F FQ GQ FH).mono (by decide)
 have Gη:p0 P w K mg base CX0 7 fη fdη ["tally"] (bV9 K):=(cl7 Fη.F Bx FJ FS).mono (by decide)
 have GM:p0 P w K mg base CX0 3 fM fdM ["cell","most"] (bV4 K):=ck9 FM.F Bx FE FD FH
 have Gσ:=cl1 (P:=P) (w:=w) (base:=base) Fσ.F Bx Fη Gη Fψ ((cl6 Fψ.F Bx).mono (by decide)) Fκ Gκ FQ (GQ.mono (by decide))
 exact bL2 F0 Bx FC ((bL5 FC.F Bx).mono (by decide)) FB ((cl9 FB.F Bx FM GM).mono (by decide)) Fζ Gζ Fμ ((bK7 Fμ.F Bx).mono (by decide)) Fσ Gσ
end
end Web
namespace Web
open PySem L2
def aA3 (K:W.Frag):List (Addr × Addr):=match PySem.W.tabIn K "order_of" with
 | some q=>[q]
 | none=>[]
def bb9 (K:W.Frag):Addr:=((PySem.W.tabIn K "order_of").getD (0,0)).2
theorem ls1 {p:List Value->Prop}(h:∀ x0,p [x0]):∀ us,us.length=1->p us
 | [x0],_=>h x0
theorem ls2 {p:List Value->Prop}(h:∀ x0 x1,p [x0,x1]):∀ us,us.length=2->p us
 | [x0,x1],_=>h x0 x1
theorem ls3 {p:List Value->Prop}(h:∀ x0 x1 x2,p [x0,x1,x2]):∀ us,us.length=3->p us
 | [x0,x1,x2],_=>h x0 x1 x2
theorem ls4 {p:List Value->Prop}(h:∀ x0 x1 x2 x3,p [x0,x1,x2,x3]):∀ us,us.length=4->p us
 | [x0,x1,x2,x3],_=>h x0 x1 x2 x3
theorem fq {K:W.Frag}{mg:Str->Option Value}{st:Stmt}(X:K.In h)(G:h.Ns d4 mg)(a:d7 K d4 x=some (some (.ref f)))(F:Fun K x x st f fd)
  (b:∀ (kV doc pm:Value) (an:Option Addr) (cdv ct:Value) (us:List Value),us.length=ps.length->bf6 (U6 x x (am1 st) (V7 st) (m9 st) .none kV doc pm an cdv ct) ⟨us,[]⟩=pure (ps.zip us)):Fq K mg x st f fd ps:=⟨F,F.binds b,G4 X G a⟩
set_option maxHeartbeats 0 in
theorem all_mk {l:PySem.W.OpenLaw}{K:W.Frag}{mg:Str->Option Value}{fa fI fa1 fU fV fO fa2 fG fA fβ fω fW fa3 fF fL fY fa4 fa5 fa6 fa7 fX fN fν fτ fρ fK fδ fR fζ fC fE fD fH fM fφ fP fQ fS fJ fη fμ fκ fB fψ fσ fZ CTallyError CBadTally CNoText CNoWeb CNoPlace:Addr}{tk:Tok}{tF:Tok}{tA tR:Tok}{kdA:Addr}{kod:Option Addr}{kn:Nat}{ksl:Array (Option Value)}{kt1 kt2 kt3 kt4:Tok}(X:K.In h)(G:h.Ns d4 mg)(hfa:mg "law"=some (.ref fa))
  {fda1 fdU fdV fda2 fdG fdβ fdω fdW fda3 fdL fdY fda4 fda5 fda6 fda7 fdX fdN fdν fdτ fdρ fdK fdδ fdζ fdE fdD fdH fdM fdφ fdP fdQ fdS fdJ fdη fdμ fdκ fdB fdψ fdσ fdZ:FuncData}
  (aI:d7 K d4 "is_place"=some (some (.ref fI)))(FI:Fun K "is_place" "is_place" aH3 fI fdI)
  (aa1:d7 K d4 "check_place"=some (some (.ref fa1)))(Fa1:Fun K "check_place" "check_place" bn2 fa1 fda1)
  (aU:d7 K d4 "turned_up"=some (some (.ref fU)))(FU:Fun K "turned_up" "turned_up" sUp fU fdU)
  (aV:d7 K d4 "made"=some (some (.ref fV)))(FV:Fun K "made" "made" aS5 fV fdV)
  (aT:d7 K d4 "check_tally"=some (some (.ref fT)))(FT:Fun K "check_tally" "check_tally" aH4 fT fdT)
  (aO:d7 K d4 "order_of"=some (some (.ref fO)))(FO:Fun K "order_of" "order_of" bb5 fO fdO)
  (aa2:d7 K d4 "moved"=some (some (.ref fa2)))(Fa2:Fun K "moved" "moved" bw3 fa2 fda2)
  (aG:d7 K d4 "falling"=some (some (.ref fG)))(FG:Fun K "falling" "falling" aI9 fG fdG)
  (aA:d7 K d4 "room_among"=some (some (.ref fA)))(FA:Fun K "room_among" "room_among" au3 fA fdA)
  (aβ:d7 K d4 "places_below"=some (some (.ref fβ)))(Fβ:Fun K "places_below" "places_below" au2 fβ fdβ)
  (aω:d7 K d4 "wall_with"=some (some (.ref fω)))(Fω:Fun K "wall_with" "wall_with" aA9 fω fdω)
  (aW:d7 K d4 "wall_of"=some (some (.ref fW)))(FW:Fun K "wall_of" "wall_of" aI6 fW fdW)
  (aa3:d7 K d4 "check_has_web"=some (some (.ref fa3)))(Fa3:Fun K "check_has_web" "check_has_web" bw5 fa3 fda3)
  (aF:d7 K d4 "first_of_order"=some (some (.ref fF)))(FF:Fun K "first_of_order" "first_of_order" ap0 fF fdF)
  (aL:d7 K d4 "left_of_others"=some (some (.ref fL)))(FL:Fun K "left_of_others" "left_of_others" aS6 fL fdL)
  (aY:d7 K d4 "laid_around"=some (some (.ref fY)))(FY:Fun K "laid_around" "laid_around" aI7 fY fdY)
  (aa4:d7 K d4 "check_pair"=some (some (.ref fa4)))(Fa4:Fun K "check_pair" "check_pair" bw7 fa4 fda4)
  (aa5:d7 K d4 "moved_both"=some (some (.ref fa5)))(Fa5:Fun K "moved_both" "moved_both" bw2 fa5 fda5)
  (aa6:d7 K d4 "laid_with"=some (some (.ref fa6)))(Fa6:Fun K "laid_with" "laid_with" aS0 fa6 fda6)
  (aa7:d7 K d4 "laid_without"=some (some (.ref fa7)))(Fa7:Fun K "laid_without" "laid_without" aR9 fa7 fda7)
  (aX:d7 K d4 "pair_told"=some (some (.ref fX)))(FX:Fun K "pair_told" "pair_told" sPT fX fdX)
  (aN:d7 K d4 "is_number"=some (some (.ref fN)))(FN:Fun K "is_number" "is_number" bw4 fN fdN)
  (aν:d7 K d4 "number_within"=some (some (.ref fν)))(Fν:Fun K "number_within" "number_within" sNW fν fdν)
  (aτ:d7 K d4 "web_text"=some (some (.ref fτ)))(Fτ:Fun K "web_text" "web_text" aS1 fτ fdτ)
  (aρ:d7 K d4 "row_text"=some (some (.ref fρ)))(Fρ:Fun K "row_text" "row_text" aS3 fρ fdρ)
  (aK:d7 K d4 "asked"=some (some (.ref fK)))(FK:Fun K "asked" "asked" aB5 fK fdK)
  (aδ:d7 K d4 "pair_rows"=some (some (.ref fδ)))(Fδ:Fun K "pair_rows" "pair_rows" aB2 fδ fdδ)
  (aR:d7 K d4 "rows_for"=some (some (.ref fR)))(FR:Fun K "rows_for" "rows_for" aB0 fR fdR)
  (aζ:d7 K d4 "answer"=some (some (.ref fζ)))(Fζ:Fun K "answer" "answer" ar0 fζ fdζ)
  (aC:d7 K d4 "_law_cell_at"=some (some (.ref fC)))(FC:Fun K "_law_cell_at" "_law_cell_at" aS8 fC fdC)
  (aE:d7 K d4 "_law_row"=some (some (.ref fE)))(FE:Fun K "_law_row" "_law_row" bb4 fE fdE)
  (aD:d7 K d4 "_law_ties"=some (some (.ref fD)))(FD:Fun K "_law_ties" "_law_ties" aS2 fD fdD)
  (aH:d7 K d4 "_law_counts"=some (some (.ref fH)))(FH:Fun K "_law_counts" "_law_counts" al1 fH fdH)
  (aM:d7 K d4 "_law_tally"=some (some (.ref fM)))(FM:Fun K "_law_tally" "_law_tally" bv9 fM fdM)
  (aφ:d7 K d4 "_law_figures"=some (some (.ref fφ)))(Fφ:Fun K "_law_figures" "_law_figures" bw6 fφ fdφ)
  (aP:d7 K d4 "_law_tie"=some (some (.ref fP)))(FP:Fun K "_law_tie" "_law_tie" bw0 fP fdP)
  (aQ:d7 K d4 "_law_web_of"=some (some (.ref fQ)))(FQ:Fun K "_law_web_of" "_law_web_of" au1 fQ fdQ)
  (aS:d7 K d4 "_law_order"=some (some (.ref fS)))(FS:Fun K "_law_order" "_law_order" aI8 fS fdS)
  (aJ:d7 K d4 "_law_room"=some (some (.ref fJ)))(FJ:Fun K "_law_room" "_law_room" aB3 fJ fdJ)
  (aη:d7 K d4 "_law_fence"=some (some (.ref fη)))(Fη:Fun K "_law_fence" "_law_fence" aB4 fη fdη)
  (aμ:d7 K d4 "_law_numbers"=some (some (.ref fμ)))(Fμ:Fun K "_law_numbers" "_law_numbers" aS4 fμ fdμ)
  (aκ:d7 K d4 "_law_counted"=some (some (.ref fκ)))(Fκ:Fun K "_law_counted" "_law_counted" aq9 fκ fdκ)
  (aB:d7 K d4 "_law_asked"=some (some (.ref fB)))(FB:Fun K "_law_asked" "_law_asked" aS9 fB fdB)
  (aψ:d7 K d4 "_law_moved"=some (some (.ref fψ)))(Fψ:Fun K "_law_moved" "_law_moved" bw1 fψ fdψ)
  (aσ:d7 K d4 "_law_right"=some (some (.ref fσ)))(Fσ:Fun K "_law_right" "_law_right" aB1 fσ fdσ)
  (aZ:d7 K d4 "law"=some (some (.ref fZ)))(FZ:Fun K "law" "law" bb6 fZ fdZ)
  (mo:d7 K d4 "MOST_PLACES"=some (some (.int 24 tk)))
  (fg:d7 K d4 "FIGURES"=some (some (.str "0123456789" tF)))
  (ma:d7 K d4 "MOST_FIGURES_ASKED"=some (some (.int 50 tA)))
  (rf:d7 K d4 "REFUSED"=some (some (.str "refused" tR)))
  (kd:d7 K d4 "KINDS"=some (some (.ref kdA)))(kl:K.lookup kdA=some ⟨.type "tuple",kod,.seq #[.str "web" kt1,.str "pair" kt2,.str "pieces" kt3,.str "off" kt4] kn,ksl⟩)
  (aTallyError:d7 K d4 "TallyError"=some (some (.ref CTallyError)))
  (aBadTally:d7 K d4 "BadTally"=some (some (.ref CBadTally)))
  (aNoText:d7 K d4 "NoText"=some (some (.ref CNoText)))
  (aNoWeb:d7 K d4 "NoWeb"=some (some (.ref CNoWeb)))
  (aNoPlace:d7 K d4 "NoPlace"=some (some (.ref CNoPlace)))
  (qBadTally:PySem.W.excIn K CBadTally [.type "ValueError",.type "Exception",.type "BaseException",.type "object"] "ValueError.__new__"=true)
  (xmBadTally:PySem.W.exmOne K (.ref CBadTally) (.ref CBadTally)=some true)
  (qNoText:PySem.W.excIn K CNoText [.type "ValueError",.type "Exception",.type "BaseException",.type "object"] "ValueError.__new__"=true)
  (xmNoText:PySem.W.exmOne K (.ref CNoText) (.ref CNoText)=some true)
  (qNoWeb:PySem.W.excIn K CNoWeb [.type "ValueError",.type "Exception",.type "BaseException",.type "object"] "ValueError.__new__"=true)
  (xmNoWeb:PySem.W.exmOne K (.ref CNoWeb) (.ref CNoWeb)=some true)
  (qNoPlace:PySem.W.excIn K CNoPlace [.type "ValueError",.type "Exception",.type "BaseException",.type "object"] "ValueError.__new__"=true)
  (xmNoPlace:PySem.W.exmOne K (.ref CNoPlace) (.ref CNoPlace)=some true)
  (xtNoText:PySem.W.exmOne K (.ref CNoText) (.ref CTallyError)=some true)
  (xtNoWeb:PySem.W.exmOne K (.ref CNoWeb) (.ref CTallyError)=some true)
  (xtNoPlace:PySem.W.exmOne K (.ref CNoPlace) (.ref CTallyError)=some true)
  (tb:(PySem.W.tabIn K "order_of").isSome=true)
  (z1:d7 K d4 "len"=some none)
  (z2:d7 K d4 "range"=some none)
  (z3:d7 K d4 "enumerate"=some none)
  (z4:d7 K d4 "list"=some none)
  (z5:d7 K d4 "tuple"=some none)
  (z6:d7 K d4 "sorted"=some none)
  (z7:d7 K d4 "set"=some none)
  (z8:d7 K d4 "isinstance"=some none)
  (z9:d7 K d4 "int"=some none)
  (z10:d7 K d4 "bool"=some none)
  (z11:d7 K d4 "min"=some none)
  (z12:d7 K d4 "max"=some none)
  (z13:d7 K d4 "sum"=some none)
  (z14:d7 K d4 "str"=some none)
  (z15:d7 K d4 "ValueError"=some none)
  (z16:d7 K d4 "reversed"=some none)
  (z17:d7 K d4 "all"=some none) :
  ∃ fd:FuncData,(∀ (s:Shared) (v:Value),bl4 s fd ⟨[v],[]⟩ [("script",v)])/\∀ base:Heap,K.In base->base.Ns d4 mg->(∀ q∈aA3 K,aF5 base mg q.1 q.2)->p0 l.prog w K mg base CX0 9 fa fd ["script"] (aR3 K (bb9 K)):=by
 have e:=hfa.symm.trans (G4 X G aZ)
 cases e
 have B:Bn mg:=⟨u9 X G z1,u9 X G z2,u9 X G z3,u9 X G z4,u9 X G z5,u9 X G z6,u9 X G z7,u9 X G z8,u9 X G z9,u9 X G z10,u9 X G z11,u9 X G z12,u9 X G z13,u9 X G z14,u9 X G z15,u9 X G z16,u9 X G z17⟩
 obtain⟨⟨c,PT⟩,hcp⟩:=B8.mp tb
 obtain⟨_,_,_,_,_,_,_,_,_,_,lO,_⟩:=FO.ex
 have hc:=bt6 hcp aO lO
 have ept:bb9 K=PT:=by unfold bb9;rw[hcp];rfl
 have ets:aA3 K=[(c,PT)]:=by unfold aA3;rw[hcp]
 rw[ept,ets]
 obtain⟨_,_,y1,y2,y3,y4,y5,y6,_,rfl,_,_⟩:=FZ.ex
 exact⟨U6 "law" "law" (am1 bb6) (V7 bb6) (m9 bb6) .none y1 y2 y3 y4 y5 y6,fun s v=>.of_eq rfl,fun base _ _ hL=>bZ0 FZ B (G4 X G mo) (G4 X G fg) (G4 X G ma) (G4 X G rf) (G4 X G kd) (fq X G aI FI fun _ _ _ _ _ _=>ls2 fun _ _=>rfl) (fq X G aa1 Fa1 fun _ _ _ _ _ _=>ls2 fun _ _=>rfl) (fq X G aU FU fun _ _ _ _ _ _=>ls2 fun _ _=>rfl) (fq X G aV FV fun _ _ _ _ _ _=>ls2 fun _ _=>rfl) (fq X G aT FT fun _ _ _ _ _ _=>ls1 fun _=>rfl) (fq X G aO FO fun _ _ _ _ _ _=>ls1 fun _=>rfl) (fq X G aa2 Fa2 fun _ _ _ _ _ _=>ls3 fun _ _ _=>rfl) (fq X G aG FG fun _ _ _ _ _ _=>ls1 fun _=>rfl) (fq X G aA FA fun _ _ _ _ _ _=>ls3 fun _ _ _=>rfl) (fq X G aβ Fβ fun _ _ _ _ _ _=>ls1 fun _=>rfl) (fq X G aω Fω fun _ _ _ _ _ _=>ls2 fun _ _=>rfl) (fq X G aW FW fun _ _ _ _ _ _=>ls1 fun _=>rfl) (fq X G aa3 Fa3 fun _ _ _ _ _ _=>ls1 fun _=>rfl) (fq X G aF FF fun _ _ _ _ _ _=>ls3 fun _ _ _=>rfl) (fq X G aL FL fun _ _ _ _ _ _=>ls3 fun _ _ _=>rfl) (fq X G aY FY fun _ _ _ _ _ _=>ls3 fun _ _ _=>rfl) (fq X G aa4 Fa4 fun _ _ _ _ _ _=>ls3 fun _ _ _=>rfl) (fq X G aa5 Fa5 fun _ _ _ _ _ _=>ls4 fun _ _ _ _=>rfl) (fq X G aa6 Fa6 fun _ _ _ _ _ _=>ls3 fun _ _ _=>rfl) (fq X G aa7 Fa7 fun _ _ _ _ _ _=>ls3 fun _ _ _=>rfl) (fq X G aX FX fun _ _ _ _ _ _=>ls3 fun _ _ _=>rfl) (fq X G aN FN fun _ _ _ _ _ _=>ls2 fun _ _=>rfl) (fq X G aν Fν fun _ _ _ _ _ _=>ls2 fun _ _=>rfl) (fq X G aτ Fτ fun _ _ _ _ _ _=>ls1 fun _=>rfl) (fq X G aρ Fρ fun _ _ _ _ _ _=>ls1 fun _=>rfl) (fq X G aK FK fun _ _ _ _ _ _=>ls1 fun _=>rfl) (fq X G aδ Fδ fun _ _ _ _ _ _=>ls1 fun _=>rfl) (fq X G aR FR fun _ _ _ _ _ _=>ls3 fun _ _ _=>rfl) (fq X G aζ Fζ fun _ _ _ _ _ _=>ls1 fun _=>rfl) (fq X G aC FC fun _ _ _ _ _ _=>ls2 fun _ _=>rfl) (fq X G aE FE fun _ _ _ _ _ _=>ls3 fun _ _ _=>rfl) (fq X G aD FD fun _ _ _ _ _ _=>ls2 fun _ _=>rfl) (fq X G aH FH fun _ _ _ _ _ _=>ls2 fun _ _=>rfl) (fq X G aM FM fun _ _ _ _ _ _=>ls2 fun _ _=>rfl) (fq X G aφ Fφ fun _ _ _ _ _ _=>ls2 fun _ _=>rfl) (fq X G aP FP fun _ _ _ _ _ _=>ls1 fun _=>rfl) (fq X G aQ FQ fun _ _ _ _ _ _=>ls2 fun _ _=>rfl) (fq X G aS FS fun _ _ _ _ _ _=>ls1 fun _=>rfl) (fq X G aJ FJ fun _ _ _ _ _ _=>ls2 fun _ _=>rfl) (fq X G aη Fη fun _ _ _ _ _ _=>ls1 fun _=>rfl) (fq X G aμ Fμ fun _ _ _ _ _ _=>ls2 fun _ _=>rfl) (fq X G aκ Fκ fun _ _ _ _ _ _=>ls2 fun _ _=>rfl) (fq X G aB FB fun _ _ _ _ _ _=>ls2 fun _ _=>rfl) (fq X G aψ Fψ fun _ _ _ _ _ _=>ls4 fun _ _ _ _=>rfl) (fq X G aσ Fσ fun _ _ _ _ _ _=>ls4 fun _ _ _ _=>rfl) (cb1 kl) (G4 X G aTallyError) (G4 X G aBadTally) ⟨qBadTally⟩ (G4 X G aNoText) ⟨qNoText⟩ (G4 X G aNoWeb) ⟨qNoWeb⟩ (G4 X G aNoPlace) ⟨qNoPlace⟩ xtNoText xtNoWeb xtNoPlace hc (hL (c,PT) c7)⟩
theorem walk {l:PySem.W.OpenLaw} {q:Program} {loose:List Str} {d:DefRec} {K:Params->PySem.W.Frag} (hn:l.most=some 63) (hdf:d.params.defaults=[])
  (hY:∀ (w:World) (h:Heap),YP w h->(K w.params).In h) (hK0:∀ w:World,PySem.W.noTabs (K w.params)=true) (hrec:((PyProof.Rows.recsOf q).find? (fun e=>e.name == ("order_of":Str))).isSome=true) (htb:∀ w:World,(PySem.W.tabIn (K w.params) "order_of").isSome=true)
  (F : ∀ (w : World) (mg : Str -> Option Value) (fa : Addr) (h : Heap), (K w.params).In h -> h.Ns d4 mg -> mg d.name = some (.ref fa) ->
   ∃ fd:FuncData,(∀ (s:Shared) (u:Value),bl4 s fd ⟨[u],[]⟩ [("script",u)])/\∀ base:Heap,(K w.params).In base->base.Ns d4 mg->(∀ q∈aA3 (K w.params),aF5 base mg q.1 q.2)->p0 l.prog w (K w.params) mg base CX0 9 fa fd ["script"] (aR3 (K w.params) (bb9 (K w.params)))) :
  PySem.W.WalkO q loose XP YP l.row.toRowW d [] (fun f vs=>PySem.call f vs):=by
 refine L2.walk_ofT (n:=63) (k:=9) (x:="script") (CX:=fun _=>CX0) (sp:=fun w _=>aR3 (K w.params) (bb9 (K w.params))) (ts:=fun w=>aA3 (K w.params)) hn (by decide) hdf ⟨rfl,by decide,by decide⟩ hY hK0 (fun w loose mean mg mb h T X=>?_) F (fun w H a ns hl hT hS=>?_) fun _ _ _ _ _ z=>z
 ·obtain⟨⟨c,PT⟩,hcp⟩:=B8.mp (htb w)
  obtain⟨d',hd'⟩:=B8.mp hrec
  have ets:aA3 (K w.params)=[(c,PT)]:=by unfold aA3;rw[hcp]
  show PySem.W.TabsAt (aA3 (K w.params)) h
  rw[ets]
  intro r hr
  rw[j8.mp hr]
  exact PySem.W.tab_of T X hd' hcp
 ·obtain⟨⟨c,PT⟩,hcp⟩:=B8.mp (htb w)
  have ets:aA3 (K w.params)=[(c,PT)]:=by unfold aA3;rw[hcp]
  have ept:bb9 (K w.params)=PT:=by unfold bb9;rw[hcp];rfl
  refine⟨a,ns,rfl,hS,hl,?_,fun _=>rfl⟩
  rw[ept]
  exact⟨#[],hT (c,PT) (by show (c,PT)∈aA3 (K w.params);rw[ets];exact c7),trivial,.inl rfl⟩
end Web
set_option Elab.async false
namespace PySem.W.Fast
def tw7596090151401369712:=0
def tw4951170201704600991:=0
def tw10617262921340378520:=0
def tw8920721287820197409:=0
def tw5248144943973064132:=0
def tw7307895602920755461:=0
def tw4066986384699211261:=0
def tw7084886273784444939:=0
def tw13235069262179222957:=0
def tw15050872419211140157:=0
def tw12707506575895789560:=0
def tw17190698567531049317:=0
def tw5725523433173247001:=0
def tw10570706048532869634:=0
def tw740885169457869951:=0
def tw14863904253956878199:=0
def tw13801715792753449936:=0
def tw1750135017157507177:=0
def tw6628764423244913798:=0
def tw3539444298879014581:=0
def tw13303192722567334716:=0
def tw2001391994575453180:=0
def tw12115816346839777481:=0
def tw6932642081620866096:=0
def tw2404646785117697015:=0
def tw14245764937353529728:=0
def tw8786006424296668085:=0
def tw16597829289862254063:=0
def tw8573767321837553966:=0
def tw16133114444687656934:=0
def tw10396960170835576731:=0
def tw3837677403251525412:=0
def tw16682845642335669328:=0
def tw16731498412076534099:=0
def tw3234033737443263460:=0
def tw10358520860562100759:=0
def tw10261698108424625712:=0
def tw4207881978743977763:=0
def tw10557396414014421239:=0
def tw12219821468394940539:=0
def tw13509746306488523826:=0
def tw5381514075466135344:=0
def tw3716634922949040393:=0
def tw16240924731238939207:=0
def tw16580997188617830109:=0
def tw15806415158284704458:=0
def tw17949729922721001769:=0
def tw9831157298941247607:=0
def tw8653758281570840582:=0
def tw2293354841768520096:=0
def tw7343688651999943674:=0
def tw7618768881291254835:=0
def tw2957622703160401236:=0
def tw5230439153503917895:=0
def tw10039129925114254030:=0
def tw2140512665104145249:=0
def tw1652331890298955040:=0
def tw567824824085624656:=0
def tw6480674725429329595:=0
def tw894734784966403067:=0
def tw10752862574277315901:=0
def tw9774815213200019219:=0
def tw17714810556226838783:=0
def tw9430545263780906893:=0
def tw9944352602821786254:=0
def tw4963106425296179287:=0
def tw5913815181821095368:=0
def tw6243871591339035236:=0
def tw3139091385662772356:=0
def tw10009055205034796718:=0
def tw5670482960355031881:=0
def tw1427318679713049910:=0
def tw6455331988380878672:=0
def tw15534824089502591267:=0
def tw584997415599931326:=0
def tw11674166457695830195:=0
def tw17550439096434230418:=0
def tw16023043675809706673:=0
def tw17809402660198930659:=0
def tw15968846632292107607:=0
def tw15903183448354293762:=0
def tw14393900495692733748:=0
def tw16253445521955929693:=0
def tw12183411090323575725:=0
def tw15181246765604556919:=0
def tw10541530124347794165:=0
def tw4303021245550646395:=0
def tw322903336525735068:=0
def tw9184256904466635764:=0
def tw2226626194240759680:=0
def tw15411828861427347010:=0
def tw13782746469747663802:=0
def tw2277430522520585643:=0
def tw17053578523108481153:=0
def tw15558869578181298668:=0
def tw12067030303494200471:=0
def tw15140330792487456511:=0
def tw14881677021084563200:=0
def tw1143610269871841891:=0
def tw2388184131664893898:=0
def tw588694858063105939:=0
def tw14774582358444346774:=0
def tw8621550335526458814:=0
def tw8925798371869711043:=0
def tw15269534986437895054:=0
def tw15727469721564680674:=0
def tw14063262985723797673:=0
def tw12874981738352503589:=0
def tw9300475873315117543:=0
def tw2296007983321953577:=0
def tw12164288853967217961:=0
def tw15630232603606517324:=0
def tw16671087049018036985:=0
def tw10541962299022655593:=0
def tw9460622707728798070:=0
def tw15966702130202049845:=0
def tw13932925761455868437:=0
def tw4914081393598248717:=0
def tw3333109743565236681:=0
def tw7880288361153467306:=0
def tw14129782808544435731:=0
def tw1359092394335692671:=0
def tw3843864617042831059:=0
def tw8088101018141941040:=0
def tw229499728734055595:=0
def tw10979419460269421037:=0
def tw11201847989935119473:=0
def tw827023781373502440:=0
def tw8538214590157536564:=0
def tw7679133520109289778:=0
def tw15058552890225757291:=0
def tw9762226578709598855:=0
def tw11156889966549735166:=0
def tw11011353984465392599:=0
def tw10830352871598420997:=0
def tw9468288681893285108:=0
def tw3327326429516315894:=0
def tw2955517437167106308:=0
def tw5017452489852453084:=0
def tw10257607677022234676:=0
def tw1587953495487974152:=0
def tw11662460989286000250:=0
def tw15162628193615832341:=0
def tw12413537152721921458:=0
def tw1817075424786442563:=0
def tw15617902463836656978:=0
def tw18323879693412492984:=0
def tw18335884976983814550:=0
def tw5736472162133565428:=0
def tw5088410575894711518:=0
def tw16024556507908838716:=0
def tw13046642630445021053:=0
def tw7566918051300491666:=0
def tw12648020702249516034:=0
def tw12421059371861831685:=0
def tw1504751293756940654:=0
def tw18010046125777908506:=0
def tw1201609428780097193:=0
def tw18026252514996657752:=0
def tw12852787293300347991:=0
def tw6659948257806189711:=0
def tw18150004070832600977:=0
def tw6316461285010833037:=0
def tw15958430658079912768:=0
def tw9317367024764948456:=0
def tw5773501340058078859:=0
def tw7325396087449406432:=0
def tw12732026045698891211:=0
def tw14740154084472471181:=0
def tw14666427150733128762:=0
def tw13024174273349020698:=0
def tw7295617214000255890:=0
def tw18254474068105422413:=0
def tw7850194254527021258:=0
def tw14760384029643903766:=0
def tw6035743753661764180:=0
def tw3812073209097298758:=0
def tw15671562944189393997:=0
def tw12496732824052533774:=0
def tw570518799111362284:=0
def tw11592407544853513123:=0
def tw18245342928010227210:=0
def tw11921414915102205415:=0
def tw6354702192934208122:=0
def tw18369613567910220742:=0
def tw16558328850574852381:=0
def tw10981695770638704283:=0
def tw11552199257402579369:=0
def tw8893271576166835445:=0
def tw604665450461961580:=0
def tw5756009595329209672:=0
def tw5341214021361424450:=0
def tw733288990225847422:=0
def tw5478720131272141890:=0
def tw8976911877170533918:=0
def tw11059538117607925323:=0
def tw1604358561229715385:=0
def tw8873383494980840690:=0
def tw14213281563474861277:=0
def tw13587912405678262936:=0
def tw10622859916600752656:=0
def tw212530268350162857:=0
def tw7634708775732288579:=0
def tw9712351056647601517:=0
def tw3659273920084642948:=0
def tw18033895235461787925:=0
def tw3315436062029652762:=0
def tw4555249364035664940:=0
def tw5866972379523556972:=0
def tw107172737975423956:=0
def tw8146729764405432239:=0
def tw16013370861412429601:=0
def tw5697499775819514649:=0
def tw17209903650501255452:=0
def tw13783804919836507227:=0
def tw12379285162939214035:=0
def tw15995587130544440554:=0
def tw8297040215160557227:=0
def tw6337643482734499396:=0
def tw3259729499629262352:=0
def tw15603555547924529301:=0
def tw374030776989621173:=0
def tw9595928131169997812:=0
def tw15494670939555264446:=0
def tw3896915056462032420:=0
def tw12157112968964492708:=0
def tw7784020000121204696:=0
def tw16472473209445282245:=0
def tw10306895790787503821:=0
def tw15013356090567788643:=0
def tw5274829494759480421:=0
def tw15177783828377800392:=0
def tw4161655868550016514:=0
def tw148365404219229173:=0
def tw14741435824465480578:=0
def tw7420286323863016192:=0
def tw5390317557962723791:=0
def tw12184693772603447582:=0
def tw16783938230753038255:=0
def tw14984360850814074483:=0
def tw13977281419640146435:=0
def tw16054331344959055050:=0
def tw18202868813298195987:=0
def tw11302377369637030554:=0
def tw6102967265522333872:=0
def tw11286930051886566693:=0
def tw4392846097141933120:=0
def tw4788096009503524604:=0
def tw13495731342686574883:=0
def tw7367595797141460160:=0
def tw17471827450782853596:=0
def tw13035973649970218476:=0
def tw10459570340473284417:=0
def tw4081085375546792800:=0
def tw17297569629558696423:=0
def tw14147880800581089827:=0
def tw6511679875120275746:=0
def tw8647269665811011111:=0
def tw3303624654896443773:=0
def tw17876263687156508392:=0
def tw11928834282005279421:=0
def tw6264231298467790134:=0
def tw12922175169126292296:=0
def tw17613305816957234608:=0
def tw6278609605762363012:=0
def tw12868982211574731833:=0
def tw11485231683926264365:=0
def tw15760723459358449999:=0
def tw2549310305928029207:=0
def tw13110361438023441685:=0
def tw3410167839770968771:=0
def tw3611923453969485774:=0
def tw10429898909090759658:=0
def tw2947237990214378765:=0
def tw13146369296977201912:=0
def tw2019297622849555403:=0
def tw5882044143268806417:=0
def tw2788437354168701807:=0
def tw16927965269611591960:=0
def tw14188326952508757271:=0
def tw5684492779926842632:=0
def tw9499846330267333042:=0
def tw18164002721142544358:=0
def tw9878360437160156721:=0
def tw1411687704595868323:=0
def tw14327040419150757723:=0
def tw17874273926093343406:=0
def tw13340884637741835358:=0
def tw9868758502744939148:=0
def tw905854767684511137:=0
def tw4576353058978222067:=0
def tw16661114236394401404:=0
def tw11816992845805297975:=0
def tw9724729301049421374:=0
def tw17071542744214245323:=0
def tw12143113438654060571:=0
def tw7185158132337900378:=0
def tw14866514865370639042:=0
def tw5033773096498712390:=0
def tw981966420196074860:=0
def tw2630588357874717519:=0
def tw5057774224506735644:=0
def tw9067810595418642747:=0
def tw15298222127653120213:=0
def tw7601692685678201045:=0
def tw5248955362883116902:=0
def tw5567332591314075695:=0
def tw17893536226096144638:=0
def tw6220527986378486637:=0
def tw9224970456825559523:=0
def tw1488344993363316204:=0
def tw11939295026651905520:=0
def tw16034753615880946361:=0
def tw15167010602572146189:=0
def tw17029578480761753159:=0
def tw822004968650253844:=0
def tw18367999533015158301:=0
def tw7194893328636529367:=0
def tw17630394444540356609:=0
def tw2599329965926846605:=0
def tw6332299898766518612:=0
def tw13551752122791867037:=0
end PySem.W.Fast
open PySem PySem.W PyProof.Rows
set_option maxRecDepth 100000 in
set_option maxHeartbeats 0 in
theorem PySem.Challenge.cw_tallyweb_k63_pair_answers_holds : PySem.Challenge.rw_tallyweb_k63_pair_answers.Holds := by
 w_on; o_law; k_head; (case hw => w_witness2)
 k_fill
 refine Web.walk (l := PySem.Challenge.rw_tallyweb_k63_pair_answers) rfl rfl (fun w h Y => PySem.W.km_in_of Y) ?hN0 ?hR0 ?hT0 ?F
 case hN0 => intro w; kernel_rfl
 case hR0 => kernel_rfl
 case hT0 => intro w; kernel_rfl
 case F =>
  intro w mg fa h KX G hmg
  refine' Web.all_mk KX G hmg ?aI (L2.fun_mk ?lI ?cI ?kI) ?aa1 (L2.fun_mk ?la1 ?ca1 ?ka1) ?aU (L2.fun_mk ?lU ?cU ?kU) ?aV (L2.fun_mk ?lV ?cV ?kV) ?aT (L2.fun_mk ?lT ?cT ?kT) ?aO (L2.fun_mk ?lO ?cO ?kO) ?aa2 (L2.fun_mk ?la2 ?ca2 ?ka2) ?aG (L2.fun_mk ?lG ?cG ?kG) ?aA (L2.fun_mk ?lA ?cA ?kA) ?aβ (L2.fun_mk ?lβ ?cβ ?kβ) ?aω (L2.fun_mk ?lω ?cω ?kω) ?aW (L2.fun_mk ?lW ?cW ?kW) ?aa3 (L2.fun_mk ?la3 ?ca3 ?ka3) ?aF (L2.fun_mk ?lF ?cF ?kF) ?aL (L2.fun_mk ?lL ?cL ?kL) ?aY (L2.fun_mk ?lY ?cY ?kY) ?aa4 (L2.fun_mk ?la4 ?ca4 ?ka4) ?aa5 (L2.fun_mk ?la5 ?ca5 ?ka5) ?aa6 (L2.fun_mk ?la6 ?ca6 ?ka6) ?aa7 (L2.fun_mk ?la7 ?ca7 ?ka7) ?aX (L2.fun_mk ?lX ?cX ?kX) ?aN (L2.fun_mk ?lN ?cN ?kN) ?aν (L2.fun_mk ?lν ?cν ?kν) ?aτ (L2.fun_mk ?lτ ?cτ ?kτ) ?aρ (L2.fun_mk ?lρ ?cρ ?kρ) ?aK (L2.fun_mk ?lK ?cK ?kK) ?aδ (L2.fun_mk ?lδ ?cδ ?kδ) ?aR (L2.fun_mk ?lR ?cR ?kR) ?aζ (L2.fun_mk ?lζ ?cζ ?kζ) ?aC (L2.fun_mk ?lC ?cC ?kC) ?aE (L2.fun_mk ?lE ?cE ?kE) ?aD (L2.fun_mk ?lD ?cD ?kD) ?aH (L2.fun_mk ?lH ?cH ?kH) ?aM (L2.fun_mk ?lM ?cM ?kM) ?aφ (L2.fun_mk ?lφ ?cφ ?kφ) ?aP (L2.fun_mk ?lP ?cP ?kP) ?aQ (L2.fun_mk ?lQ ?cQ ?kQ) ?aS (L2.fun_mk ?lS ?cS ?kS) ?aJ (L2.fun_mk ?lJ ?cJ ?kJ) ?aη (L2.fun_mk ?lη ?cη ?kη) ?aμ (L2.fun_mk ?lμ ?cμ ?kμ) ?aκ (L2.fun_mk ?lκ ?cκ ?kκ) ?aB (L2.fun_mk ?lB ?cB ?kB) ?aψ (L2.fun_mk ?lψ ?cψ ?kψ) ?aσ (L2.fun_mk ?lσ ?cσ ?kσ) ?aZ (L2.fun_mk ?lZ ?cZ ?kZ) ?mo ?fg ?ma ?rf ?kd ?kl ?aTallyError ?aBadTally ?aNoText ?aNoWeb ?aNoPlace ?qBadTally ?xmBadTally ?qNoText ?xmNoText ?qNoWeb ?xmNoWeb ?qNoPlace ?xmNoPlace ?xtNoText ?xtNoWeb ?xtNoPlace ?tb ?z1 ?z2 ?z3 ?z4 ?z5 ?z6 ?z7 ?z8 ?z9 ?z10 ?z11 ?z12 ?z13 ?z14 ?z15 ?z16 ?z17
  case aI | lI | cI | kI | aa1 | la1 | ca1 | ka1 | aU | lU | cU | kU | aV | lV | cV | kV | aT | lT | cT | kT | aO | lO | cO | kO | aa2 | la2 | ca2 | ka2 | aG | lG | cG | kG | aA | lA | cA | kA | aβ | lβ | cβ | kβ | aω | lω | cω | kω | aW | lW | cW | kW | aa3 | la3 | ca3 | ka3 | aF | lF | cF | kF | aL | lL | cL | kL | aY | lY | cY | kY | aa4 | la4 | ca4 | ka4 | aa5 | la5 | ca5 | ka5 | aa6 | la6 | ca6 | ka6 | aa7 | la7 | ca7 | ka7 | aX | lX | cX | kX | aN | lN | cN | kN | aν | lν | cν | kν | aτ | lτ | cτ | kτ | aρ | lρ | cρ | kρ | aK | lK | cK | kK | aδ | lδ | cδ | kδ | aR | lR | cR | kR | aζ | lζ | cζ | kζ | aC | lC | cC | kC | aE | lE | cE | kE | aD | lD | cD | kD | aH | lH | cH | kH | aM | lM | cM | kM | aφ | lφ | cφ | kφ | aP | lP | cP | kP | aQ | lQ | cQ | kQ | aS | lS | cS | kS | aJ | lJ | cJ | kJ | aη | lη | cη | kη | aμ | lμ | cμ | kμ | aκ | lκ | cκ | kκ | aB | lB | cB | kB | aψ | lψ | cψ | kψ | aσ | lσ | cσ | kσ | aZ | lZ | cZ | kZ | mo | fg | ma | rf | kd | kl | aTallyError | aBadTally | aNoText | aNoWeb | aNoPlace | z1 | z2 | z3 | z4 | z5 | z6 | z7 | z8 | z9 | z10 | z11 | z12 | z13 | z14 | z15 | z16 | z17 => k_is
  case qBadTally | qNoText | qNoWeb | qNoPlace => k_exc
  case xmBadTally | xmNoText | xmNoWeb | xmNoPlace | xtNoText | xtNoWeb | xtNoPlace => kts_exm
  case tb => kernel_rfl
#print axioms PySem.Challenge.cw_tallyweb_k63_pair_answers_holds

