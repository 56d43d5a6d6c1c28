import PyProof.Rows.All
import Wide.All
import OpenK.AllK
import Wide.FinOn
import Lean
import PyProof.EqAt
import PyProof.EqKinds
import PyProof.TupleCall
import PyProof.Rows.SortRunsK
import PyProof.Rows.SortShellK
import KE.KSortTup
import PyProof.TupleKey
import PySem.SetOps
import PyProof.Rows.SetFrom
import PyProof.EnumFor
import PyProof.EnumStmt
import PyProof.EnumMake
import PyProof.P3Eq
import PyProof.NeData
import PyProof.P3In
import PyProof.Rows.SumAny
import KE.KLam
import KE.KSortKey
import PyProof.ListRange
import KE.KTryMore
import PyProof.NsDelKeeps
import PyProof.RulesAs
import PyProof.ExcBaseAll.ValueError
import PyProof.ExcArgsOwn
import KE.KIsAll
import PyProof.Rows.SortRev
import PyProof.TupleOfSeq
import PyProof.Draws
import KE.KTupSum
import Wide.Txt2
import PyProof.ListOps
import PyProof.AutoSeq1
import PyProof.Cells
import PyProof.Rows.TupAdd
import PyProof.DictWalks
import PyProof.ConsumeWalk
import PyProof.DictKeyH
import PyProof.ListNew
import PyProof.ConsumeS
import PyProof.WalksMore
import PyProof.DictRoadsH
import PyProof.MeetsDictList
import KE.KDictOf
import PyProof.DictUpdate
import PyProof.DictCopy
import PyProof.Conv_int_bool
import KE.RegKIsAll
import KE.RegKTryMore
import PySem.Challenge.RW_tallyweb_k24_pair_papers_looked_at
set_option autoImplicit false
set_option linter.all false
set_option Elab.async false
set_option maxRecDepth 100000
open PySem renaming wpAny_bind->a7,wpAny_pure->b9,sizeLine->c5,mainGlobals->d7,wpAny->m5,model->p0,tupleKeyHash->u6,intKind->A6,wpAny_newObj_type->A7,starEach->B3,wpAny_mono->B6,wpAny_holding->C1,sizeLine_eq->D7,compareOp->E1,wpAny_callSpecial?_slot->F5,wpAny_call_entry->F7,wpAny_truthy_bool->G1,IsTupleKey->G9,wpAny_field->J0,compEnvC->L8,bootBuiltins->O4,binaryOp->O5,wpAny_newList->O6,wpAny_typeNameOfWhole_keyiter->P2,wpAny_Call_Name_kw->P7,wpAny_passesOwn->Q4,sysModules->Q6,wpAny_setState_of->Q7,wpAny_typeNameOf_keyiter->U5,wpAny_standAt->V0,Paired->X6,rawInt->X7,foldedSetIterable->X8,wpAny_setField->Y0,backTo->Z0,codeAny_mono->Z1,DictEntry->Z3,getItem->aa0,cLine->aa1,wpAny_newFunctionEnv->ab4,assignEach->ad9,wpAny_execs_nil->ae7,sliceBounds->ae8,codeAny_builtin->ae9,PyData->af0,wpAny_pyIter_tuple->ah6,wpAny_typeOf->ah7,ofAClassStatement->ak8,wpAny_comprehension_free->ak9,wpAny_pyIter_enum->al0,behindInMarks->am1,noFill_tuple_add->aq2,wpAny_forIn_list->aq3,codeAny_compStart_list->ar0,Builtin->av3,noteFrame->av4,wpAny_rule->aw3,closureFor->aw4,compPost->aw5,recursionLimit->aC9,wpAny_seqItems->aD1,firstArgMember->aD3,codeAny->aD8,Keyword->aD9,keywordEach->aE0,subscripted->aE2,NameKind->aJ2,seq_tuple_add->aJ3,wpAny_attempt->aJ6,setSearchFrom->aJ7,tupleKind_room_in1->aJ8,builtinsNs->aQ1,holding->aQ2,wpAny_sequenceKey->aQ3,wpAny_dictEntries->aQ4,concat_meets->aX3,IsPart->aX4,seqIndex_neg->aX5,wpAny_execs_cons->aY4,tupleKind->bj1,letOwnedTupleGo->bj2,again->bj3,BindsTo->bj4,seqIndex_of->bj5,callerA->bj6,hashByValue->bj8,unsupported->bj9,theTreesLotGoes->bk0,valueAt->bk2,wpAny_of_eq->bk4,wpAny_dictEpoch->bk5,wpAny_letOwnedTupleGo_enum->bp6,pyNext->bA0,wpAny_call->bA1,call_meets->bA3,checkCount->bA5,GenState->bB2,assignInOrder->bB3,bindArgs->bB4,backToKw->bB5,evalPart_none->bB7,attributeBase->bB8,compTurn_list->bC1,ReadsAll->bC2,wpAny_getItem_list_neg->bK3,wpAny_isTrue_Compare1->bN3,swapsWith->bN4,assign->bN5,setSearch->bN6,wpAny_eqIsQuiet_tuple->bN7,codeAny_loop->bN8,codeAmong->bN9,wpAny_isOneOf_keyiter->bO2,wpAny_loadName_local->bX9,wpAny_pyIter_keyiter->bY0,wpAny_loadName_cell->bY8,wpAny_noted->bZ0,atKey->bZ1,wpAny_throw->bZ3
open PySem.Heap renaming get?_push_of_some->a8,lt_size->d9,get?_push_size->j3,get?_update_other->B7,size_push->L7,get?_update_self->P5,get?_none_of_le->at5,size_update->bY7
open List renaming length_map->a9,size_toArray->d3,mem_cons_of_mem->d4,mem_of_getElem?->d5,getElem?_eq_getElem->d6,mem_cons_self->f9,mem_cons->g9,getD_eq_getElem?_getD->i9,mem_singleton->j0,length_append->j6,map_cons->j9,mem_append_right->k6,take_of_length_le->l6,mem_append->l9,getElem?_eq_some_iff->m4,mem_map->m6,getElem?_eq_none->o5,replicate->o8,length_cons->o9,getElem?_map->r6,map_append->r9,length_take->t7,range->x6,mem_range->A1,length_set->A5,pairwise_iff_getElem->B4,mem_of_mem_take->C0,mem_iff_getElem?->C3,mem_filter->C5,take_add_one->C6,pairwise_cons->C7,pairwise_map->E5,nodup_cons->E9,filterMap_cons->F8,length_range->F9,append_nil->G2,take_append_drop->G3,length_drop->G6,getElem?_set_ne->G8,replicate_succ->J9,range_succ->K1,nodup_iff_pairwise_ne->K3,not_mem_nil->K6,length_filter_le->L0,take_sublist->M6,sum_cons->N2,all_eq_true->O3,filter_append->P1,length_singleton->P6,pairwise_append->Q5,getElem_mem->R3,getElem?_range->R4,map_congr_left->R5,length_reverse->R6,map_map->S0,zip_cons_cons->U1,any_cons->U2,find?_cons->U3,pairwise_lt_range->U9,reverse_cons->V5,flatten_cons->V6,ext_getElem?->V7,getElem?_set->V8,map_set->X5,length_pos_iff->ab3,getElem?_append_right->ad7,mem_filterMap->ae4,getElem_range->ae5,getElem?_append_left->af1,getElem?_take_of_lt->ah3,append_assoc->ah4,nodup_append->ah5,range'->aj7,filter_cons_of_pos->aj8,filter_cons_of_neg->aj9,length_eq_zero_iff->ak0,any_toArray->ak6,countP_cons->ak7,getElem?_set_self->al5,of_mem_zip->ap9,length_replicate->aq0,foldl_cons->aq1,mem_append_left->at6,drop_zero->av2,toList_toArray->aw1,countP->aw2,length_range'->aC8,mem_range'_1->aF3,countP_eq_length_filter->aQ0,length_nil->aX1,filter_nil->aX2,nodup_nil->bd8,foldl->bi9,length_erase_of_mem->bj0,map_drop->bp2,map_take->bp3,drop_eq_nil_of_le->bp7,length_pos_of_mem->bp8,filter_eq_nil_iff->bp9,map_nil->bz8,range_eq_range'->bA9,mem_of_mem_drop->bB0,flatMap_append->bJ9,take_succ_cons->bK1,getElem?_drop->bN0,drop_reverse->bX3,take_reverse->bX4,drop_sublist->bX5,getElem?_inj->bX7,lookup_cons->bY2,mem_flatMap->bY3,cons_append->bY4,map_reverse->bY5,filter_cons->bY6
open Nat renaming le_refl->c6,ne_of_lt->i8,le_trans->n8,lt_of_lt_of_le->q8,zero_le->u7,lt_irrefl->C9,lt_succ_of_lt->D8,lt_or_ge->E6,ne_of_gt->S9,lt_trichotomy->W4,le_succ->W5,zero_add->af2,succ_pos->af3,le_of_lt_succ->aj3,min_le_right->al6,le_add_right->al7,div_div_eq_div_mul->al9,le_of_lt->aq4,not_lt_zero->aq6,le_of_eq->aq7,lt_or_eq_of_le->aD6,pow_succ->aP7,min_eq_left->aY0,min_le_left->aY3,lt_trans->bA6,testBit_two_pow->bN1,eq_zero_or_pos->bX1,add_sub_cancel->bX6,lt_of_le_of_lt->bX8,mod_lt->bY1
open PySem.W renaming nsIn->f6,keepIn->i4,codeIn->i6,mg_of->i7,fnOf->j4,mg_none_of->A2
open Bool renaming false_ne_true->g8,false_eq_true->j7,and_eq_true->B0,or_false->Z8,not_true->Z9,eq_iff_iff->ap8,false_or->aC7,true_and->bp1,and_true->bp4,and_eq_false_iff->bz9
open Int renaming toNat_natCast->i3,le_refl->K2,mul_one->N3,toNat_of_nonneg->ab6,mul_zero->aq9,natCast_nonneg->aD4,emod_lt_of_pos->aD5,lt_irrefl->aD7,mul_le_mul_of_nonneg_left->aP9,emod_nonneg->aX9,one_mul->aY2,fdiv_eq_ediv_of_nonneg->bd6,mul_comm->bA7,zero_mul->bA8
open Array renaming length_toList->m8,getElem?_toList->p6,size_extract->T6,perm_iff_toList_perm->ab5,getElem?_eq_some_iff->ab7,forIn_toList->ad8,size_map->ae6,mem_toList_iff->aq5,toArray_toList->aq8,append_assoc->ay1,size_push->aP8,getElem?_append_left->aX0,size_zip->aY1,getElem?_replicate->bd7,getElem?_eq_none->bp5,getD->bN2,toList_map->bX2
open PyProof.Rows renaming arrOf->n6,wpS_bind->C2,seqObj->E2,envOfC->F4,wpS_pure->G4,IntsAre->J5,get?_update_seq->N1,sortedHeap->U4,failedOf->X9,pendingOf->Z2,listUpdate_at->ab8,wpS_forRange->ah8,mem_zip_self->ah9,AllBare->am0,entry_list_sort->av5,slicePart_none->aD0,slot_list_sort->aD2,entry_tuple_getitem->aE1,wpS_reverse->aE3,assignInOrder_cons->aJ1,args_tuple_getitem->aJ4,subscriptTail->aJ5,KeyOrd->aX6,plain_sorted->aX7,entry_sorted->aX8,mirror_perm->bj7,seqEpoch_at->bk1,kind_sorted->bk3,Subscript_->bA2,size_push'->bA4,tupleItemsOf_->bB6,wpS_get->bB9,tuples'->bC0,subscriptTail_builtinR->bK2,call_function_entry_kw->bK4,listItems_at->bO0,pairsOf_size->bO1,getElem?_mirror_all->bY9,wpAny_call_entry_kw->bZ2,pairsOf->bZ4
open Option renaming isSome_iff_exists->u4,map_some->al8,toList_some->bB1,isSome_map->bK0,getD_none->bM9
variable {A:PySem.Around}{B:PyProof.Rows.Keyed->PyProof.Rows.Keyed->Bool}{C CB CN a f fF fT l:PySem.Addr}{E Q:PySem.Value->PySem.Shared->Prop}{N N' ps:List PySem.Str}{P prog:PySem.Program}{T ks ls:List (List Int)}{XP:(PySem.Str->Option PySem.Value)->PySem.Heap->Prop}{YP:PySem.World->PySem.Heap->Prop}{a₀:Array PyProof.Rows.Keyed}{b:Nat->Option (Option Nat) × Nat × Nat->StateT PyProof.Rows.SortSt PySem.Sem (ForInStep (Option (Option Nat) × Nat × Nat))}{cl:List (PySem.Str × PySem.Addr)}{d:Nat->Int}{e o tg:PySem.Expr}{fd fdA fdF fdI fdT fdβ:PySem.FuncData}{fp:List PySem.Addr}{g:Nat->Nat->Bool}{h h':PySem.Heap}{i j m n t':Nat}{items:Array PySem.Value}{k ns ts zs:List Int}{lk:List (Option Nat)}{mA mg:PySem.Str->Option PySem.Value}{outer:List PySem.Env}{p:List PySem.Value->Prop}{params:PySem.Arguments}{pins:List (PySem.Addr × PySem.Obj)}{pos:PySem.Pos}{qual x:PySem.Str}{s:PySem.Shared}{scope:PySem.Scope}{tk:PySem.Tok}{u v:PySem.Value}{vs:List PySem.Value}{w:PySem.World}{ws:List (List (List Int))}{κ:PyProof.Rows.SortKind}
namespace L2
open PySem PySem.Spec PyProof.Rows
abbrev Key:=Sum Int Str
def aH1:Key->Value->Bool
 | .inl k,v=>Value.isInt k v
 | .inr x,v=>Value.isStrOf x v
def ci2 (w:World):Key->Int
 | .inl k=>hashInt k
 | .inr x=>hashStr w x
theorem J8:∀ {k:Key} {v:Value},aH1 k v=true->(∃ i t,k=Sum.inl i/\v=Value.int i t)\/(∃ x t,k=Sum.inr x/\v=Value.str x t)
 | .inl i,v,h=>by
  obtain⟨t,e⟩:=Value.isInt_shape (k:=i) (v:=v) h
  exact .inl ⟨i,t,rfl,e⟩
 | .inr x,v,h=>by
  obtain⟨t,e⟩:=Value.isStrOf_shape (x:=x) (v:=v) h
  exact .inr ⟨x,t,rfl,e⟩
theorem bm9 (i:Int)(t:Tok):aH1 (.inl i) (.int i t)=true:=by simp[aH1,Value.isInt]
theorem bm8 (x:Str)(t:Tok):aH1 (.inr x) (.str x t)=true:=by simp[aH1,Value.isStrOf]
theorem bU5 (a b:Int):decide ((Sum.inl a:Key)=Sum.inl b)=(a == b):=by
 by_cases e:a=b
 ·subst e;simp
 ·have h:¬ (Sum.inl a:Key)=Sum.inl b:=fun q=>e (Sum.inl.inj q)
  rw[decide_eq_false h]
  exact(beq_eq_false_iff_ne.mpr e).symm
theorem bU2 (a b:Str):decide ((Sum.inr a:Key)=Sum.inr b)=decide (a=b):=by
 by_cases e:a=b
 ·subst e;simp
 ·have h:¬ (Sum.inr a:Key)=Sum.inr b:=fun q=>e (Sum.inr.inj q)
  rw[decide_eq_false h,decide_eq_false e]
theorem bU4 (a:Int)(b:Str):decide ((Sum.inl a:Key)=Sum.inr b)=false:=decide_eq_false (fun q=>nomatch q)
theorem bU3 (a:Str)(b:Int):decide ((Sum.inr a:Key)=Sum.inl b)=false:=decide_eq_false (fun q=>nomatch q)
def N0 (prog:Program) (w:World):PySem.KeyKind prog w Key where
  is:=aH1
  hash:=ci2 w
  inj:=fun v a b ha hb=>by
    rcases J8 ha with⟨i,t,rfl,rfl⟩ | ⟨x,t,rfl,rfl⟩
    · rcases J8 hb with⟨j,u,rfl,e⟩ | ⟨y,u,rfl,e⟩
      · injection e with e1 _;rw[e1]
      · exact nomatch e
    · rcases J8 hb with⟨j,u,rfl,e⟩ | ⟨y,u,rfl,e⟩
      · exact nomatch e
      · injection e with e1 _;rw[e1]
  byValue := fun k v h => by
    rcases J8 h with⟨i,t,rfl,rfl⟩ | ⟨x,t,rfl,rfl⟩<;>rfl
  pyHash:=fun hv h=>by
    rcases J8 hv with⟨i,t,rfl,rfl⟩ | ⟨x,t,rfl,rfl⟩
    · exact wpAny_pyHash_int h
    · exact wpAny_pyHash_str h
  eqBool:=fun hu hv h=>by
    rcases J8 hu with⟨i,t,rfl,rfl⟩ | ⟨x,t,rfl,rfl⟩
    · rcases J8 hv with⟨j,u,rfl,rfl⟩ | ⟨y,u,rfl,rfl⟩
      · rw[bU5]at h;exact wpAny_eqBool_int h
      · rw[bU4]at h;exact SeqAt.EqAt.int_str i t y u _ _ _ _ h
    · rcases J8 hv with⟨j,u,rfl,rfl⟩ | ⟨y,u,rfl,rfl⟩
      · rw[bU3]at h;exact SeqAt.EqAt.str_int x t j u _ _ _ _ h
      · rw[bU2]at h;exact wpAny_eqBool_str h
  «strs»:=fun k x t v h=>by
    rcases J8 h with⟨i,u,rfl,e⟩ | ⟨y,u,rfl,e⟩
    · exact nomatch e
    · injection e with e1 _
      subst e1
      cases v<;>rfl
theorem aU3 (prog:Program)(w:World)(i:Int)(t:Tok):(N0 prog w).is (.inl i) (.int i t)=true:=bm9 i t
theorem aU2 (prog:Program)(w:World)(x:Str)(t:Tok):(N0 prog w).is (.inr x) (.str x t)=true:=bm8 x t
inductive V where
 | non | bl (b:Bool) | int (i:Int) | str (x:Str) | byt (b:Array UInt8) | flt (b:UInt64) | ref (a:Addr) | ty (n:String)
 deriving DecidableEq
def RelV:V->Value->Prop
 | .non,u=>u=Value.none
 | .bl b,u=>u=Value.bool b
 | .int i,u=>∃ t,u=Value.int i t
 | .str x,u=>∃ t,u=Value.str x t
 | .byt b,u=>∃ t,u=Value.bytes b t
 | .flt b,u=>∃ t,u=Value.float b t
 | .ref a,u=>u=Value.ref a
 | .ty n,u=>u=Value.type n
abbrev B9:List V->List Value->Prop:=X6 RelV
theorem B9.length {xs:List V}{us:List Value}(r:B9 xs us):xs.length=us.length:=Paired.length r
theorem B9.get:∀ {xs:List V} {us:List Value} {i:Nat} {x:V},B9 xs us->xs[i]?=some x->∃ u,us[i]?=some u/\RelV x u
 | _,_,_,_,.nil,e=>by simp at e
 | _,_,0,_,.cons r _,e=>by simp at e;subst e;exact⟨_,rfl,r⟩
 | _,_,i+1,x,.cons _ t,e=>by
  obtain⟨u,h1,h2⟩:=B9.get (i:=i) (x:=x) t (by simpa using e)
  exact⟨u,by simpa using h1,h2⟩
theorem B9.set {x:V}(r:RelV x u):∀ {xs:List V} {us:List Value} (i:Nat),B9 xs us->B9 (xs.set i x) (us.set i u)
 | _,_,_,.nil=>.nil
 | _,_,0,.cons _ t=>.cons r t
 | _,_,i+1,.cons q t=>.cons q (B9.set r i t)
theorem B9.append:∀ {xs ys:List V} {us ws:List Value},B9 xs us->B9 ys ws->B9 (xs++ys) (us++ws)
 | _,_,_,_,.nil,s=>s
 | _,_,_,_,.cons r t,s=>.cons r (B9.append t s)
theorem B9.take:∀ {xs:List V} {us:List Value} (n:Nat),B9 xs us->B9 (xs.take n) (us.take n)
 | _,_,0,_=>.nil
 | _,_,_+1,.nil=>.nil
 | _,_,n+1,.cons r t=>.cons r (B9.take n t)
theorem B9.drop:∀ {xs:List V} {us:List Value} (n:Nat),B9 xs us->B9 (xs.drop n) (us.drop n)
 | _,_,0,r=>r
 | _,_,_+1,.nil=>.nil
 | _,_,n+1,.cons _ t=>B9.drop n t
def aC5:Option V->Option Value->Prop
 | some v,some u=>RelV v u
 | none,none=>True
 | _,_=>False
def KV {κ:Type}:List (κ × V)->List (κ × Value)->Prop:=X6 fun(p:κ × V) (q:κ × Value)=>p.1=q.1/\RelV p.2 q.2
def kV:Key->V
 | .inl i=>.int i
 | .inr x=>.str x
inductive HO where
  | lst (xs:List V)
  | tup (xs:List V)
  | dK (kvs:List (Key × V)) | dT (kvs:List (List Key × V))
  | set (S:Int->Bool) (n:Nat)
  | ins (C dx:Addr) (fs:List (Str × V))
  | own (x:Addr)
  | xd (fs:List (Str × V))
  | met (f x:Addr)
  | rng (lo hi:Int)
  | frz (o:Obj) (u:HO)
  | tbl (ps:Array Value)
  | ext (φ:Heap->Prop)
abbrev Hp:=Addr->Option HO
def upd (H:Hp)(a:Addr)(o:HO):Hp:=fun b=>if b=a then some o else H b
theorem b8 {H:Hp}{o:HO}:upd H a o a=some o:=by unfold upd;rw[if_pos rfl]
theorem m9 {H:Hp}{b:Addr}{o:HO}(h:b≠a):upd H a o b=H b:=by unfold upd;rw[if_neg h]
theorem am3 {H:Hp}{o u:HO}:upd (upd H a o) a u=upd H a u:=by
 funext b;unfold upd;split<;>rfl
theorem bv0 {H:Hp}{b:Addr}{o u:HO}(h:H a=some o)(h':H b=some u)(d:o≠u):a≠b:=by
 intro e;subst e;rw[h]at h';exact d (Option.some.inj h')
theorem u0 {H:Hp}{b:Addr}{o:HO}(h:H a=some o)(h':H b=none):a≠b:=by
 intro e;subst e;rw[h]at h';cases h'
section
variable (P:Program) (w:World)
def F3 (H:Hp)(h:Heap)(a:Addr):HO->Prop
 | .lst xs=>xs.length<=c5/\∃ (its:List Value) (n:Nat),B9 xs its/\h.get? a=some { cls:=.type "list",data:=.seq its.toArray n }
 | .tup xs=>xs.length<=c5/\∃ its:List Value,B9 xs its/\IsTup h a its.toArray
 | .dK kvs=>kvs.length<=c5/\(a == Q6)=false/\∃ vs,KV kvs vs/\h.DictOf (N0 P w) a vs
 | .dT kvs=>kvs.length<=c5/\(a == Q6)=false/\∃ xs:List (List Key × Addr × Value),
   X6 (fun(p:List Key × V) (q:List Key × Addr × Value)=>p.1=q.1/\H q.2.1=some (.tup (p.1.map kV))/\RelV p.2 q.2.2) kvs xs /\
   ∃ o es ep,h.get? a=some o/\o.ExactDict/\o.data=.dict es ep/\es.toList=xs.map (entryOfKey (bj1 (N0 P w)))/\(xs.map (·.1)).Nodup
 | .set S n=>h.SetOf (A6 P w) a S n
 | .ins C dx fs=>H dx=some (.own a)/\fs.length<=1000/\dx≠a/\h.get? a=some (PySem.W.instObj C dx) /\
   ∃ mA,h.Ns1 dx mA/\(∀ f,aC5 (fs.lookup f) (mA f))/\PySem.Within mA (fs.map (·.1))
 | .own _=>∃ o,h.get? a=some o
 | .xd fs=>∃ mA,h.Ns1 a mA/\∀ f,aC5 (fs.lookup f) (mA f)
 | .rng lo hi=>∃ t u v,h.get? a=some { cls:=.type "range",data:=.fields #[.int lo t,.int hi u,.int 1 v] }
 | .frz o u=>h.get? a=some o/\F3 H h a u
 | .tbl ps=>h.get? a=some { cls:=.none,data:=.fields ps }
 | .met f x=>h.get? a=some (PySem.W.methodObj (.ref f) (.ref x))
 | .ext φ=>φ h/\(∃ o,h.get? a=some o)/\∀ h1 h2:Heap,φ h1->(∀ o,h1.get? a=some o->h2.get? a=some o)->φ h2
def HOk (H:Hp)(h:Heap):Prop:=∀ a o,H a=some o->F3 P w H h a o
end
section
variable {H H':Hp} {o:HO}
theorem F3.lt (x:F3 P w H h a o):a<h.objs.size:=by
 cases o with
 | lst xs=>obtain⟨_,_,_,_,e⟩:=x;exact d9 e
 | tup xs=>obtain⟨_,_,_,p⟩:=x;exact p.lt
 | dK kvs=>obtain⟨_,_,_,_,o,_,_,e,_⟩:=x;exact d9 e
 | dT kvs=>obtain⟨_,_,_,_,o,_,_,e,_⟩:=x;exact d9 e
 | set S n=>obtain⟨o,_,_,_,e,_⟩:=x;exact d9 e
 | ins C dx fs=>obtain⟨_,_,_,e,_⟩:=x;exact d9 e
 | own y=>obtain⟨_,e⟩:=x;exact d9 e
 | xd fs=>obtain⟨_,⟨_,_,_,e,_⟩,_⟩:=x;exact d9 e
 | rng lo hi=>obtain⟨_,_,_,e⟩:=x;exact d9 e
 | frz ob u=>obtain⟨e,_⟩:=x;exact d9 e
 | tbl ps=>exact d9 (show h.get? a=some _ from x)
 | met f y=>exact d9 (show h.get? a=some _ from x)
 | ext φ=>obtain⟨_,⟨_,e⟩,_⟩:=x;exact d9 e
theorem Paired.mapP {α β:Type}{F G:α->β->Prop}:∀ {l₁:List α} {l₂:List β},X6 F l₁ l₂->(∀ a b,F a b->G a b)->X6 G l₁ l₂
 | _,_,.nil,_=>.nil
 | _,_,.cons r t,f=>.cons (f _ _ r) (Paired.mapP t f)
theorem F3.stay (x:F3 P w H h a o)(k:∀ b u,(b=a\/H b=some (.own a))->h.get? b=some u->h'.get? b=some u)
  (ho:∀ b,H b=some (.own a)->H' b=some (.own a))(ht:∀ b xs,H b=some (.tup xs)->H' b=some (.tup xs)):F3 P w H' h' a o:=by
 induction o with
 | lst xs=>obtain⟨z,its,n,r,e⟩:=x;exact⟨z,its,n,r,k _ _ (.inl rfl) e⟩
 | tup xs=>obtain⟨z,its,r,ob,e,c⟩:=x;exact⟨z,its,r,ob,k _ _ (.inl rfl) e,c⟩
 | dK kvs=>obtain⟨z,y,vs,r,ob,es,ep,e,c⟩:=x;exact⟨z,y,vs,r,ob,es,ep,k _ _ (.inl rfl) e,c⟩
 | dT kvs =>
  obtain⟨z,y,xs,r,ob,es,ep,e,c⟩:=x
  exact⟨z,y,xs,Paired.mapP r fun p q z=>⟨z.1,ht _ _ z.2.1,z.2.2⟩,ob,es,ep,k _ _ (.inl rfl) e,c⟩
 | set S n=>obtain⟨ob,es,ep,t,e,c⟩:=x;exact⟨ob,es,ep,t,k _ _ (.inl rfl) e,c⟩
 | ins C dx fs =>
  obtain⟨d,z,ne,e,mA,⟨od,es,ep,e2,c⟩,r⟩:=x
  exact⟨ho _ d,z,ne,k _ _ (.inl rfl) e,mA,⟨od,es,ep,k _ _ (.inr d) e2,c⟩,r⟩
 | own y=>obtain⟨ob,e⟩:=x;exact⟨ob,k _ _ (.inl rfl) e⟩
 | xd fs=>obtain⟨mA,⟨od,es,ep,e,c⟩,r⟩:=x;exact⟨mA,⟨od,es,ep,k _ _ (.inl rfl) e,c⟩,r⟩
 | rng lo hi=>obtain⟨t,u,v,e⟩:=x;exact⟨t,u,v,k _ _ (.inl rfl) e⟩
 | frz ob u ih=>obtain⟨e,q⟩:=x;exact⟨k _ _ (.inl rfl) e,ih q⟩
 | tbl ps =>
  have e:h.get? a=some { cls:=.none,data:=.fields ps }:=x
  show h'.get? a=some { cls:=.none,data:=.fields ps }
  exact k a _ (.inl rfl) e
 | met f y =>
  have e:h.get? a=some (PySem.W.methodObj (.ref f) (.ref y)):=x
  show h'.get? a=some (PySem.W.methodObj (.ref f) (.ref y))
  exact k a _ (.inl rfl) e
 | ext φ=>obtain⟨p,⟨o,e⟩,st⟩:=x;exact⟨st _ _ p fun o q=>k _ _ (.inl rfl) q,⟨o,k _ _ (.inl rfl) e⟩,st⟩
theorem HOk.lt (x:HOk P w H h)(e:H a=some o):a<h.objs.size:=(x a o e).lt
theorem HOk.fresh (x:HOk P w H h)(e:h.objs.size<=a):H a=none:=by
 cases q:H a with
 | none=>rfl
 | some u=>exact absurd (q8 (x.lt q) e) (C9 _)
theorem HOk.kept (x:HOk P w H h)(k:∀ b u,h.get? b=some u->h'.get? b=some u):HOk P w H h':=fun a o e =>
 (x a o e).stay (fun b u _ q=>k b u q) (fun _ q=>q) fun _ _ q=>q
theorem HOk.laid (x:HOk P w H h)(k:∀ b u,h.get? b=some u->h'.get? b=some u)(hp:h.objs.size<=a)(new:F3 P w (upd H a o) h' a o):HOk P w (upd H a o) h':=fun b u e=>by
 have hn:=x.fresh hp
 by_cases hb:b=a
 ·subst hb;rw[b8]at e;cases e;exact new
 ·rw[m9 hb]at e
  exact(x b u e).stay (fun c v _ q=>k c v q) (fun c q=>by rw[m9 (u0 q hn)];exact q) fun c xs q=>by rw[m9 (u0 q hn)];exact q
end
def Rd (H:Hp)(a:Addr)(u:HO):Prop:=H a=some u\/∃ o,H a=some (.frz o u)
theorem Rd.ok {H:Hp}{u:HO}(r:Rd H a u)(x:HOk P w H h):F3 P w H h a u:=by
 rcases r with r | ⟨o,r⟩
 ·exact x a u r
 ·obtain⟨_,q⟩:=x a _ r
  exact q
def Mut:Option HO->Prop
 | some (.lst _)=>True
 | some (.dK _)=>True
 | some (.dT _)=>True
 | some (.set _ _)=>True
 | some (.ins _ _ _)=>True
 | some (.ext _)=>True
 | _=>False
section
variable {H:Hp} {x e:Addr} {o':HO}
theorem HOk.write (ok:HOk P w H h)(mu:Mut (H x))(he:e=x\/H e=some (.own x))(k:∀ b u,b≠e->h.get? b=some u->h'.get? b=some u)(heo:∃ u,h'.get? e=some u)
  (new:F3 P w (upd H x o') h' x o'):HOk P w (upd H x o') h':=fun b u q=>by
 have nown:∀ c y,H c=some (.own y)->c≠x:=fun c y r z=>by subst z;rw[r]at mu;exact mu
 have ntup:∀ c xs,H c=some (.tup xs)->c≠x:=fun c xs r z=>by subst z;rw[r]at mu;exact mu
 by_cases hb:b=x
 ·subst hb;rw[b8]at q;cases q;exact new
 ·rw[m9 hb]at q
  by_cases hbe:b=e
  ·have q':H b=some (.own x):=by
    rcases he with z | z
    ·exact absurd (hbe.trans z) hb
    ·rw[hbe];exact z
   rw[q]at q';cases q'
   obtain⟨v,hv⟩:=heo
   exact⟨v,by rw[hbe];exact hv⟩
  ·refine(ok b u q).stay (fun c v hc r=>k c v ?_ r) (fun c r=>by rw[m9 (nown c b r)];exact r) fun c xs r=>by rw[m9 (ntup c xs r)];exact r
   rcases hc with rfl | hc
   ·exact hbe
   ·rintro rfl
    rcases he with z | z
    ·exact nown c b hc z
    ·rw[hc]at z;cases z;exact hb rfl
end
structure Un (fs ex:List Addr) (H H':Hp) (h h':Heap):Prop where
 keep:∀ b o,h.get? b=some o->H b=none->b∉fs->b∉ex->h'.get? b=some o
 slot:∀ b o,h.get? b=some o->H b=none->b∈fs->b∉ex->∃ sl,h'.get? b=some { o with slots:=sl }
 free:∀ b o,h.get? b=some o->H b=none->b∉ex->H' b=none
 there:∀ b o,h.get? b=some o->b∉ex->∃ o',h'.get? b=some o'
 tups:∀ b xs,H b=some (.tup xs)->H' b=some (.tup xs)
 frzs:∀ b o u,H b=some (.frz o u)->H' b=some (.frz o u)
 tbls:∀ b ps,H b=some (.tbl ps)->∃ more,H' b=some (.tbl (ps++more))
section
variable {fs fs' ex ex':List Addr} {H H1 H2:Hp} {h1 h2:Heap} {x e:Addr} {o:HO}
theorem Un.any (u:Un fs ex H H1 h h1){b:Addr}{ob:Obj}(q:h.get? b=some ob)(n:H b=none)(hx:b∉ex):∃ sl,h1.get? b=some { ob with slots:=sl }:=by
 by_cases hb:b∈fs
 ·exact u.slot b ob q n hb hx
 ·exact⟨ob.slots,u.keep b ob q n hb hx⟩
theorem Un.kept (k:∀ b u,h.get? b=some u->h'.get? b=some u):Un fs ex H H h h':=
 ⟨fun b ob q _ _ _=>k b ob q,fun b ob q _ _ _=>⟨ob.slots,k b ob q⟩,fun _ _ _ n _=>n,fun b ob q _=>⟨ob,k b ob q⟩,fun _ _ q=>q,fun _ _ _ q=>q,fun _ ps q=>⟨#[],by rw[q];simp⟩⟩
theorem Un.refl:Un fs ex H H h h:=Un.kept fun _ _ q=>q
theorem Un.laid (k:∀ b u,h.get? b=some u->h'.get? b=some u)(hp:h.objs.size<=a)(hn:H a=none):Un fs ex H (upd H a o) h h' where
 keep:=fun b u q _ _ _=>k b u q
 slot:=fun b u q _ _ _=>⟨u.slots,k b u q⟩
 free:=fun b u q n _=>by rw[m9 (i8 (q8 (d9 q) hp))];exact n
 there:=fun b u q _=>⟨u,k b u q⟩
 tups:=fun b xs q=>by rw[m9 (u0 q hn)];exact q
 frzs:=fun b u xs q=>by rw[m9 (u0 q hn)];exact q
 tbls:=fun b ps q=>⟨#[],by rw[m9 (u0 q hn),q];simp⟩
theorem Un.write (mu:Mut (H x))(he:e=x\/H e=some (.own x))(k:∀ b u,b≠e->h.get? b=some u->h'.get? b=some u)(heo:∃ u,h'.get? e=some u):Un fs ex H (upd H x o) h h':=by
 have hx:∀ b,H b=none->b≠x:=fun b n z=>by subst z;rw[n]at mu;exact mu
 have hb:∀ b,H b=none->b≠e:=fun b n z=>by
  subst z
  rcases he with r | r
  ·exact hx b n r
  ·rw[n]at r;cases r
 have hm:∀ b u,H b=some u->¬ Mut (some u)->b≠x:=fun b u q nm z=>by subst z;rw[q]at mu;exact nm mu
 refine⟨fun b u q n _ _=>k b u (hb b n) q,fun b u q n _ _=>⟨u.slots,k b u (hb b n) q⟩,fun b u q n _=>by rw[m9 (hx b n)];exact n,fun b u q _=>?_,
  fun b xs q=>by rw[m9 (hm b _ q fun z=>z)];exact q,fun b u xs q=>by rw[m9 (hm b _ q fun z=>z)];exact q,fun b ps q=>⟨#[],by rw[m9 (hm b _ q fun z=>z),q];simp⟩⟩
 by_cases hbe:b=e
 ·subst hbe;exact heo
 ·exact⟨u,k b u hbe q⟩
end
def trk (h:Heap)(H:Hp):List Addr:=(x6 h.objs.size).filter fun a=>(H a).isSome
def aF0 (h:Heap)(H:Hp):Heap:=PySem.W.hideAll h (trk h H)
theorem bn4 (h:Heap)(H:Hp):(aF0 h H).objs.size=h.objs.size:=PySem.W.hideAll_size _ _
theorem bw8 {H:Hp}{b:Addr}{o:Obj}(e:h.get? b=some o)(n:H b=none):(aF0 h H).get? b=some o:=
 PySem.W.hideAll_get _ e fun hm=>by
  have q:(H b).isSome=true:=(C5.mp hm).2
  rw[n]at q;simp at q
theorem bH1 {H:Hp}{b:Addr}{o:Obj}(e:(aF0 h H).get? b=some o):h.get? b=some o/\H b=none:=by
 have e':h.get? b=some o:=PySem.W.of_hideAll (trk h H) e
 refine⟨e',?_⟩
 cases q:H b with
 | none=>rfl
 | some x =>
  have hm:b∈trk h H:=C5.mpr ⟨A1.mpr (d9 e'),by simp[q]⟩
  have z:(aF0 h H).get? b=none:=PySem.W.hideAll_none (trk h H) hm
  rw[z]at e;cases e
def bJ5 (g h:Heap)(L:Addr):List (Addr × Obj):=(x6 h.objs.size).filterMap fun a=>if a=L\/(g.get? a).isSome=true then none else (h.get? a).map fun o=>(a,o)
def rest (g h:Heap)(L d:Addr):List (Addr × Obj):=(bJ5 g h L).filter fun p=>decide (p.1≠d)
end L2
variable {H H':L2.Hp}{Qd:L2.Hp->Prop}{gV:List L2.V->List L2.V->List L2.V}{kvs:List (List L2.Key × L2.V)}{us xs ys:List L2.V}
namespace L2
open PySem PySem.Spec PyProof.Rows
structure Mod (K:W.Frag) (mg:Str->Option Value) (base:Heap):Prop where
 kin:K.In base
 glob:base.Ns d7 mg
 blt:∃ mb,base.Ns aQ1 mb/\∀ x:Str,x≠"__name__"->mb x=O4 x
 nolimit:base.NoLimit
structure Cx where
 prog:Program
 w:World
 K:W.Frag
 mg:Str->Option Value
 base:Heap
 A:Around
 N:List Str
 s₀:Shared
 H₀:Hp
 env:Env
 outer:List Env
 stack:List Env
 ex:List Addr
 fn:Str->Bool
 calm:Bool
 pn:List (Addr × Obj)
 xe:Value->Shared->Prop
def frs (l:List Env):List Addr:=l.filterMap (·.frame)
abbrev Cx.fs (X:Cx):List Addr:=frs X.outer
def Vis (sc:Scope)(x:Str):Prop:=sc.names.lookup x=some .local\/sc.names.lookup x=some .cell\/sc.names.lookup x=some .free
def Loc (sc:Scope)(x:Str):Prop:=sc.names.lookup x=some .local\/sc.names.lookup x=some .cell
def Look (env:Env)(h:Heap)(m:Str->Option Value)(x:Str)(u:Value):Prop:=
 (env.kindOf x=some .local/\m x=some u)\/((env.kindOf x=some .cell\/env.kindOf x=some .free)/\∃ c,env.cells.lookup x=some c/\h.IsCell c (some u))
structure Cx.Ok (X:Cx):Prop where
 mod:Mod X.K X.mg X.base
 kind:X.env.scope.kind=.function
 glob:X.env.globals=d7
 blt:X.env.builtins=aQ1
 above:X.s₀.heap.objs.size<=X.env.locals
 inj:∀ x y c,X.env.cells.lookup x=some c->X.env.cells.lookup y=some c->x=y
 has:∀ x,(X.env.kindOf x=some .cell\/X.env.kindOf x=some .free)->∃ c,X.env.cells.lookup x=some c
 cab:∀ x c,X.fn x=true->X.env.cells.lookup x=some c->X.s₀.heap.objs.size<=c
 hd:X.calm=true->X.A.handled=none
 frames:X.A.frames=some X.stack
 stk:X.stack=X.outer\/(X.stack=X.env::X.outer/\X.env.frame=some X.env.locals)
 exf:∀ b∈X.ex,b≠X.env.locals/\∀ x c,X.env.cells.lookup x=some c->c≠b
 bs:∀ b o,X.base.get? b=some o->X.s₀.heap.get? b=some o/\X.H₀ b=none
 bsz:X.base.objs.size<=X.s₀.heap.objs.size
 noex:∀ b o,X.base.get? b=some o->b∉X.ex
 exfs:∀ b∈X.ex,b∉X.fs
 funs:X.s₀.heap.FunFrames X.base X.outer
 frf:∀ b∈X.fs,X.H₀ b=none
structure Inv (X:Cx) (pins:List (Addr × Obj)) (σ:List (Option V)) (H:Hp) (s:Shared):Prop where
 ok:X.Ok
 os:s.os=X.s₀.os
 bare:am0 s.gens
 base:Un X.fs X.ex X.H₀ H X.s₀.heap s.heap
 loc:∃ m,s.heap.Ns X.env.locals m/\∀ (i:Nat) (x:Str) (v:V),X.N[i]?=some x->σ[i]?=some (some v)->Vis X.env.scope x->∃ u,RelV v u/\Look X.env s.heap m x u
 cell:∀ x c,X.env.cells.lookup x=some c->∃ v,s.heap.IsCell c v
 free:H X.env.locals=none
 freeC:∀ x c,X.env.cells.lookup x=some c->H c=none
 pin:∀ p∈X.pn++pins,s.heap.get? p.1=some p.2/\H p.1=none/\p.1≠X.env.locals/\p.1∉X.fs/\∀ v,p.2.data≠.cell v
 hok:HOk X.prog X.w H s.heap
 len:σ.length=X.N.length
section
variable {X:Cx} {σ:List (Option V)}
theorem Cx.Ok.nofr (ok:X.Ok){b:Addr}{o:Obj}(e:X.base.get? b=some o):b∉X.fs:=fun hb=>by
 have:=(ok.funs.mem hb).1
 rw[e]at this;cases this
theorem Inv.bs (I:Inv X pins σ H s):∀ b o,X.base.get? b=some o->s.heap.get? b=some o/\H b=none:=fun b o e =>
 ⟨I.base.keep b o (I.ok.bs b o e).1 (I.ok.bs b o e).2 (I.ok.nofr e) (I.ok.noex b o e),I.base.free b o (I.ok.bs b o e).1 (I.ok.bs b o e).2 (I.ok.noex b o e)⟩
theorem Inv.bk (I:Inv X pins σ H s):∀ b o,X.base.get? b=some o->s.heap.get? b=some o:=fun b o e=>(I.bs b o e).1
theorem Inv.mod (I:Inv X pins σ H s):Mod X.K X.mg X.base:=I.ok.mod
theorem Inv.kIn (I:Inv X pins σ H s):X.K.In s.heap:=I.ok.mod.kin.keeps I.bk
theorem Inv.nolimit (I:Inv X pins σ H s):s.heap.NoLimit:=I.ok.mod.nolimit.keeps I.bk
theorem Inv.lt (I:Inv X pins σ H s):X.env.locals<s.heap.objs.size:=let ⟨_,hn,_⟩:=I.loc;hn.lt
theorem Inv.sz (I:Inv X pins σ H s):X.s₀.heap.objs.size<=s.heap.objs.size:=n8 I.ok.above (aq4 I.lt)
theorem Inv.nofs (I:Inv X pins σ H s)(h:s.heap.objs.size<=a):a∉X.fs:=fun hb=>by
 obtain⟨_,o,ho,_⟩:=I.ok.funs.mem hb
 exact absurd (q8 (d9 ho) (n8 I.sz h)) (C9 _)
theorem Inv.cne (I:Inv X pins σ H s):∀ x c,X.env.cells.lookup x=some c->c≠X.env.locals:=fun x c e z=>by
 obtain⟨v,o,ho,hd⟩:=I.cell x c e
 obtain⟨m,⟨o',es,ep,ho',hd',_⟩,_⟩:=I.loc
 rw[z,ho']at ho;cases ho;rw[hd']at hd;cases hd
theorem Inv.funs (I:Inv X pins σ H s):s.heap.FunFrames X.base X.outer:=by
 have all:∀ (l:List Env),(∀ b∈frs l,b∈X.fs)->X.s₀.heap.FunFrames X.base l->s.heap.FunFrames X.base l:=by
  intro l
  induction l with
  | nil=>intro _ _;trivial
  | cons env r ih =>
   intro hs hl
   obtain⟨hk,⟨L,o,hf,hn,ho,hd⟩,hr⟩:=hl
   have hL:L∈X.fs:=hs L (by unfold frs;rw[F8,hf];exact f9)
   obtain⟨sl,e⟩:=I.base.slot L o ho (I.ok.frf L hL) hL fun z=>I.ok.exfs L z hL
   exact⟨hk,⟨L,_,hf,hn,e,hd⟩,ih (fun b hb=>hs b (by unfold frs;rw[F8,hf];exact d4 _ hb)) hr⟩
 exact all X.outer (fun _ hb=>hb) I.ok.funs
theorem Inv.stack (I:Inv X pins σ H s):s.heap.FunFrames X.base X.stack:=by
 rcases I.ok.stk with e | ⟨e,hf⟩
 ·rw[e];exact I.funs
 ·rw[e]
  obtain⟨m,hn,_⟩:=I.loc
  refine .cons (by rw[I.ok.kind];decide) hf hn ?_ I.funs
  exact at5 (n8 I.ok.bsz I.ok.above)
theorem Inv.stkSub (I:Inv X pins σ H s):∀ b∈frs X.stack,b∈X.env.locals::X.fs:=fun b hb=>by
 rcases I.ok.stk with e | ⟨e,hf⟩
 ·rw[e]at hb;exact d4 _ hb
 ·rw[e]at hb
  unfold frs at hb
  rw[F8,hf]at hb
  exact hb
theorem Inv.stkFree (I:Inv X pins σ H s):∀ b∈frs X.stack,H b=none:=fun b hb=>by
 rcases g9.mp (I.stkSub b hb) with e | hb
 ·rw[e];exact I.free
 ·obtain⟨_,o,ho,_⟩:=I.ok.funs.mem hb
  exact I.base.free b o ho (I.ok.frf b hb) fun z=>I.ok.exfs b z hb
theorem Inv.step {g':Array bB2}{d':Drawn}{ch:List Addr}(I:Inv X pins σ H s)
  (hch:∀ b∈ch,(b∈X.ex\/X.s₀.heap.objs.size<=b)/\b≠X.env.locals/\(∀ x c,X.env.cells.lookup x=some c->c≠b)/\∀ p∈X.pn++pins,p.1≠b)
  (keep:∀ b o,b≠X.env.locals->b∉X.fs->b∉ch->s.heap.get? b=some o->H b=none->h'.get? b=some o)
  (slot:∀ b o,b≠X.env.locals->b∈X.fs->b∉ch->s.heap.get? b=some o->H b=none->∃ sl,h'.get? b=some { o with slots:=sl })(free:∀ b o,b∉ch->s.heap.get? b=some o->H b=none->H' b=none)
  (there:∀ b o,b∉ch->s.heap.get? b=some o->∃ o',h'.get? b=some o')
  (tups:∀ b xs,H b=some (.tup xs)->H' b=some (.tup xs))(frzs:∀ b o u,H b=some (.frz o u)->H' b=some (.frz o u))(tbls:∀ b ps,H b=some (.tbl ps)->∃ more,H' b=some (.tbl (ps++more)))
  (ns:∀ m,s.heap.Ns X.env.locals m->h'.Ns X.env.locals m)(hok:HOk X.prog X.w H' h')(hg:am0 g') :
  Inv X pins σ H' { s with heap:=h',gens:=g',drawn:=d',toks:=t' }:=by
 have neL:∀ b o,X.s₀.heap.get? b=some o->b≠X.env.locals:=fun b o e=>i8 (q8 (d9 e) I.ok.above)
 have neC:∀ b o,X.s₀.heap.get? b=some o->b∉X.ex->b∉ch:=fun b o e hx hb=>by
  rcases(hch b hb).1 with z | z
  ·exact hx z
  ·exact absurd (q8 (d9 e) z) (C9 _)
 have cellK:∀ x c,X.env.cells.lookup x=some c->∀ v,s.heap.IsCell c v->h'.IsCell c v:=fun x c e v ⟨o,ho,hd⟩=>by
  have nch:c∉ch:=fun z=>(hch c z).2.2.1 x c e rfl
  by_cases hc:c∈X.fs
  ·obtain⟨sl,q⟩:=slot c o (I.cne x c e) hc nch ho (I.freeC x c e)
   exact⟨_,q,hd⟩
  ·exact⟨o,keep c o (I.cne x c e) hc nch ho (I.freeC x c e),hd⟩
 refine⟨I.ok,I.os,hg,⟨fun b o e n hb hx=>?_,fun b o e n hb hx=>?_,fun b o e n hx=>?_,fun b o e hx=>?_,fun b xs e=>tups b xs (I.base.tups b xs e),fun b o xs e=>frzs b o xs (I.base.frzs b o xs e),fun b ps e=>?_⟩,?_,fun x c e=>?_,?_,fun x c e=>?_,fun p hp=>?_,hok,I.len⟩
 ·exact keep b o (neL b o e) hb (neC b o e hx) (I.base.keep b o e n hb hx) (I.base.free b o e n hx)
 ·obtain⟨sl,e1⟩:=I.base.slot b o e n hb hx
  obtain⟨sl',e2⟩:=slot b _ (neL b o e) hb (neC b o e hx) e1 (I.base.free b o e n hx)
  exact⟨sl',e2⟩
 ·obtain⟨o',e1⟩:=I.base.there b o e hx
  exact free b o' (neC b o e hx) e1 (I.base.free b o e n hx)
 ·obtain⟨o',e1⟩:=I.base.there b o e hx
  exact there b o' (neC b o e hx) e1
 ·obtain⟨m1,e1⟩:=I.base.tbls b ps e
  obtain⟨m2,e2⟩:=tbls b _ e1
  exact⟨m1++m2,by rw[e2,ay1]⟩
 ·obtain⟨m,hn,hl⟩:=I.loc
  refine⟨m,ns m hn,fun i x v e1 e2 e3=>?_⟩
  obtain⟨u,r,l⟩:=hl i x v e1 e2 e3
  refine⟨u,r,?_⟩
  rcases l with l | ⟨k,c,e,z⟩
  ·exact .inl l
  ·exact .inr ⟨k,c,e,cellK x c e _ z⟩
 ·obtain⟨v,z⟩:=I.cell x c e
  exact⟨v,cellK x c e v z⟩
 ·obtain⟨m,⟨o,_,_,ho,_⟩,_⟩:=I.loc
  exact free _ o (fun z=>(hch _ z).2.1 rfl) ho I.free
 ·obtain⟨v,o,ho,hd⟩:=I.cell x c e
  exact free c o (fun z=>(hch c z).2.2.1 x c e rfl) ho (I.freeC x c e)
 ·obtain⟨e,n,ne,nf,d⟩:=I.pin p hp
  have nch:p.1∉ch:=fun z=>(hch p.1 z).2.2.2 p hp rfl
  exact⟨keep p.1 p.2 ne nf nch e n,free p.1 p.2 nch e n,ne,nf,d⟩
theorem Inv.un (I:Inv X pins σ H s)(u:Un X.fs [] H H' s.heap h')(hok:HOk X.prog X.w H' h'):Inv X pins σ H' { s with heap:=h',toks:=t' }:=by
 obtain⟨m,⟨o,es,ep,ho,r⟩,_⟩:=id I.loc
 obtain⟨sl,hL⟩:=u.any ho I.free (by simp)
 exact I.step (g':=s.gens) (d':=s.drawn) (ch:=[]) (fun _ z=>nomatch z) (fun b o _ hb _ e n=>u.keep b o e n hb (by simp)) (fun b o _ hb _ e n=>u.slot b o e n hb (by simp)) (fun b o _ e n=>u.free b o e n (by simp)) (fun b o _ e=>u.there b o e (by simp)) u.tups u.frzs u.tbls (fun m' hm=>by
  obtain⟨o',es',ep',ho',r'⟩:=hm
  rw[ho]at ho';cases ho'
  exact⟨_,es',ep',hL,r'⟩) hok I.bare
theorem Inv.call {g':Array bB2}{d':Drawn}{ch:List Addr}(I:Inv X pins σ H s)(u:Un (frs X.stack) ch H H' s.heap h')(hok:HOk X.prog X.w H' h')(hg:am0 g')
  (hch:∀ b∈ch,(b∈X.ex\/X.s₀.heap.objs.size<=b)/\b≠X.env.locals/\(∀ x c,X.env.cells.lookup x=some c->c≠b)/\∀ p∈X.pn++pins,p.1≠b) :
  Inv X pins σ H' { s with heap:=h',gens:=g',drawn:=d',toks:=t' }:=by
 obtain⟨m,⟨o,es,ep,ho,r⟩,_⟩:=id I.loc
 obtain⟨sl,hL⟩:=u.any ho I.free fun z=>(hch _ z).2.1 rfl
 exact I.step (ch:=ch) hch (fun b o hL hb hc e n=>u.keep b o e n (fun z=>(g9.mp (I.stkSub b z)).elim hL hb) hc) (fun b o _ _ hc e n=>u.any e n hc) (fun b o hc e n=>u.free b o e n hc) (fun b o hc e=>u.there b o e hc) u.tups u.frzs u.tbls (fun m' hm=>by
  obtain⟨o',es',ep',ho',r'⟩:=hm
  rw[ho]at ho';cases ho'
  exact⟨_,es',ep',hL,r'⟩) hok hg
theorem Inv.turned {it:Addr}(I:Inv X pins σ H s)(k:∀ b o,b≠it->s.heap.get? b=some o->h'.get? b=some o)(hn:H it=none)(hL:it≠X.env.locals)
  (h1:it∈X.ex\/X.s₀.heap.objs.size<=it)(h2:∀ x c,X.env.cells.lookup x=some c->c≠it)(h3:∀ p∈X.pn++pins,p.1≠it):Inv X pins σ H { s with heap:=h',toks:=t' }:=by
 have nit:∀ b u,H b=some u->b≠it:=fun b u e z=>by rw[z,hn]at e;cases e
 refine I.step (g':=s.gens) (d':=s.drawn) (ch:=[it]) (fun b hb=>?_) (fun b o _ _ hc e _=>k b o (fun z=>hc (by simp[z])) e) (fun b o _ _ hc e _=>⟨o.slots,k b o (fun z=>hc (by simp[z])) e⟩) (fun _ _ _ _ n=>n)
  (fun b o hc e=>⟨o,k b o (fun z=>hc (by simp[z])) e⟩) (fun _ _ e=>e) (fun _ _ _ e=>e) (fun b ps e=>⟨#[],by rw[e];simp⟩) (fun m hm=>?_) (fun b u e=>?_) I.bare
 ·have e:b=it:=by simpa using hb
  subst e
  exact⟨h1,hL,h2,h3⟩
 ·obtain⟨o,es,ep,ho,r⟩:=hm
  exact⟨o,es,ep,k _ o (Ne.symm hL) ho,r⟩
 ·refine(I.hok b u e).stay (fun c v hc q=>k c v ?_ q) (fun _ q=>q) fun _ _ q=>q
  rcases hc with z | z
  ·rw[z];exact nit b u e
  ·exact nit c _ z
theorem Inv.tok (I:Inv X pins σ H s)(t:Nat):Inv X pins σ H { s with toks:=t }:=I.un (h':=s.heap) (t':=t) Un.refl I.hok
theorem Inv.kept (I:Inv X pins σ H s)(k:∀ b u,s.heap.get? b=some u->h'.get? b=some u):Inv X pins σ H { s with heap:=h',toks:=t' }:=I.un (Un.kept k) (I.hok.kept k)
theorem Inv.laid {o:HO}(I:Inv X pins σ H s)(k:∀ b u,s.heap.get? b=some u->h'.get? b=some u)(hp:s.heap.objs.size<=a)(new:F3 X.prog X.w (upd H a o) h' a o) :
  Inv X pins σ (upd H a o) { s with heap:=h',toks:=t' }:=I.un (Un.laid k hp (I.hok.fresh hp)) (I.hok.laid k hp new)
theorem Inv.write {x e:Addr}{o:HO}(I:Inv X pins σ H s)(mu:Mut (H x))(he:e=x\/H e=some (.own x))(k:∀ b u,b≠e->s.heap.get? b=some u->h'.get? b=some u)(heo:∃ u,h'.get? e=some u)
  (new:F3 X.prog X.w (upd H x o) h' x o):Inv X pins σ (upd H x o) { s with heap:=h',toks:=t' }:=I.un (Un.write mu he k heo) (I.hok.write mu he k heo new)
theorem Inv.pins_of {pins':List (Addr × Obj)}(I:Inv X pins σ H s)(h:∀ p∈pins',s.heap.get? p.1=some p.2/\H p.1=none/\p.1≠X.env.locals/\p.1∉X.fs/\∀ v,p.2.data≠.cell v):Inv X pins' σ H s:=
 ⟨I.ok,I.os,I.bare,I.base,I.loc,I.cell,I.free,I.freeC,fun p hp=>(l9.mp hp).elim (fun z=>I.pin p (at6 _ z)) (h p),I.hok,I.len⟩
theorem aU0 (hN:N.Nodup)(a:N[i]?=some x)(b:N[j]?=some x):i=j:=by
 obtain⟨h1,e1⟩:=m4.mp a
 obtain⟨h2,e2⟩:=m4.mp b
 exact(List.getElem_inj hN).mp (e1.trans e2.symm)
theorem aG0 {M:Model}{v:V}{Q:Unit->Shared->Prop}(I:Inv X pins σ H s)(hN:X.N.Nodup)(hi:X.N[i]?=some x)(hx:Loc X.env.scope x)(r:RelV v u)
  (h:∀ s',Inv X pins (σ.set i (some v)) H s'->(∃ a,Heap.SameBut a s.heap s'.heap/\(a=X.env.locals\/X.env.cells.lookup x=some a))->Q () s')(hf:X.fn x=true\/X.env.scope.names.lookup x=some .local:=by first | exact .inl rfl | exact .inr rfl | assumption):m5 M A (storeName X.env x u) Q E s:=by
 obtain⟨m,hn,hl⟩:=id I.loc
 have hcls:(X.env.scope.kind == .class || (X.env.scope.kind == .module && X.env.locals != X.env.globals))=false:=by rw[I.ok.kind];rfl
 have hiσ:i<σ.length:=by rw[I.len];exact(m4.mp hi).1
 have cne:=I.cne
 have tracked:∀ {a:Addr} {h':Heap},(∃ o,s.heap.get? a=some o/\H a=none)->Heap.SameBut a s.heap h'->HOk X.prog X.w H h':=fun {a h'} ha hs b ob e=>by
  obtain⟨_,_,hfree⟩:=ha
  refine(I.hok b ob e).stay (fun c w' hc q=>(hs.2 c ?_).trans q) (fun _ q=>q) fun _ _ q=>q
  rintro rfl
  rcases hc with rfl | hc
  ·rw[hfree]at e;cases e
  ·rw[hfree]at hc;cases hc
 rcases hx with hk | hk
 ·refine wpAny_storeName_local hk hn (fun h' hn' hs=>?_) hcls
  obtain⟨oL,_,_,hoL,_⟩:=id hn
  refine h _ ⟨I.ok,I.os,I.bare,⟨fun b o e n hb hx=>?_,fun b o e n hb hx=>?_,I.base.free,fun b o e hx=>?_,I.base.tups,I.base.frzs,I.base.tbls⟩,⟨_,hn',fun j y v' e1 e2 e3=>?_⟩,fun y c e=>?_,I.free,I.freeC,fun p hp=>?_,tracked ⟨oL,hoL,I.free⟩ hs,by simpa using I.len⟩ ⟨_,hs,.inl rfl⟩
  ·exact(hs.2 b (i8 (q8 (d9 e) I.ok.above))).trans (I.base.keep b o e n hb hx)
  ·obtain⟨sl,e1⟩:=I.base.slot b o e n hb hx
   exact⟨sl,(hs.2 b (i8 (q8 (d9 e) I.ok.above))).trans e1⟩
  ·obtain⟨o',e1⟩:=I.base.there b o e hx
   exact⟨o',(hs.2 b (i8 (q8 (d9 e) I.ok.above))).trans e1⟩
  ·by_cases hj:j=i
   ·subst hj
    rw[hi]at e1;cases e1
    rw[al5 hiσ]at e2
    cases e2
    exact⟨u,r,.inl ⟨hk,by simp⟩⟩
   ·rw[G8 (Ne.symm hj)]at e2
    obtain⟨u',r',q⟩:=hl j y v' e1 e2 e3
    refine⟨u',r',?_⟩
    rcases q with⟨k,e⟩ | ⟨k,c,e,z⟩
    ·refine .inl ⟨k,?_⟩
     have:y≠x:=fun e=>hj (aU0 hN e1 (e ▸ hi))
     simp[this,e]
    ·exact .inr ⟨k,c,e,z.sameBut hs (cne y c e)⟩
  ·obtain⟨w',z⟩:=I.cell y c e
   exact⟨w',z.sameBut hs (cne y c e)⟩
  ·obtain⟨e,n,ne,nf,d⟩:=I.pin p hp
   exact⟨(hs.2 p.1 ne).trans e,n,ne,nf,d⟩
 ·have hfn:X.fn x=true:=by
   rcases hf with z | z
   ·exact z
   ·rw[z]at hk;cases hk
  obtain⟨c,hc⟩:=I.ok.has x (.inl hk)
  obtain⟨w',z⟩:=I.cell x c hc
  refine wpAny_storeName_cell I.ok.kind hk hc z (fun h' hc' hs=>?_)
  obtain⟨oc,hoc,hocd⟩:=id z
  refine h { s with heap:=h' } ⟨I.ok,I.os,I.bare,⟨fun b o e n hb hx=>?_,fun b o e n hb hx=>?_,I.base.free,fun b o e hx=>?_,I.base.tups,I.base.frzs,I.base.tbls⟩,⟨m,hn.sameBut hs (Ne.symm (cne x c hc)),fun j y v' e1 e2 e3=>?_⟩,fun y c' e=>?_,I.free,I.freeC,fun p hp=>?_,tracked ⟨oc,hoc,I.freeC x c hc⟩ hs,by simpa using I.len⟩ ⟨c,hs,.inr hc⟩
  ·exact(hs.2 b (i8 (q8 (d9 e) (I.ok.cab x c hfn hc)))).trans (I.base.keep b o e n hb hx)
  ·obtain⟨sl,e1⟩:=I.base.slot b o e n hb hx
   exact⟨sl,(hs.2 b (i8 (q8 (d9 e) (I.ok.cab x c hfn hc)))).trans e1⟩
  ·obtain⟨o',e1⟩:=I.base.there b o e hx
   exact⟨o',(hs.2 b (i8 (q8 (d9 e) (I.ok.cab x c hfn hc)))).trans e1⟩
  ·by_cases hj:j=i
   ·subst hj
    rw[hi]at e1;cases e1
    rw[al5 hiσ]at e2
    cases e2
    exact⟨u,r,.inr ⟨.inl hk,c,hc,hc'⟩⟩
   ·rw[G8 (Ne.symm hj)]at e2
    obtain⟨u',r',q⟩:=hl j y v' e1 e2 e3
    refine⟨u',r',?_⟩
    rcases q with q | ⟨k,c',e,z'⟩
    ·exact .inl q
    ·refine .inr ⟨k,c',e,z'.sameBut hs ?_⟩
     rintro rfl
     exact hj (aU0 hN e1 (I.ok.inj _ _ _ e hc ▸ hi))
  ·by_cases hcc:c'=c
   ·subst hcc;exact⟨_,hc'⟩
   ·obtain⟨w2,z2⟩:=I.cell y c' e
    exact⟨w2,z2.sameBut hs hcc⟩
  ·obtain⟨e,n,ne,nf,d⟩:=I.pin p hp
   refine⟨(hs.2 p.1 ?_).trans e,n,ne,nf,d⟩
   intro q
   rw[q,hoc]at e
   have q':oc=p.2:=Option.some.inj e
   exact d w' (by rw[<- q'];exact hocd)
theorem af6 {M:Model}{v:V}{Q:Unit->Shared->Prop}(I:Inv X pins σ H s)(hN:X.N.Nodup)(hi:X.N[i]?=some x)(hx:Loc X.env.scope x)(r:RelV v u)
  (h:∀ s',Inv X pins (σ.set i (some v)) H s'->Q () s')(hf:X.fn x=true\/X.env.scope.names.lookup x=some .local:=by first | exact .inl rfl | exact .inr rfl | assumption):m5 M A (storeName X.env x u) Q E s:=
 aG0 I hN hi hx r (fun s' I' _=>h s' I') hf
theorem Inv.call' {s':Shared}{ch:List Addr}(I:Inv X pins σ H s)(ho:s'.os=s.os)(u:Un (frs X.stack) ch H H' s.heap s'.heap)(hok:HOk X.prog X.w H' s'.heap)(hg:am0 s'.gens)
  (hch:∀ b∈ch,(b∈X.ex\/X.s₀.heap.objs.size<=b)/\b≠X.env.locals/\(∀ x c,X.env.cells.lookup x=some c->c≠b)/\∀ p∈X.pn++pins,p.1≠b):Inv X pins σ H' s':=by
 obtain⟨h',g',d',t',o'⟩:=s'
 have e:o'=s.os:=ho
 subst e
 exact I.call (g':=g') (t':=t') (d':=d') u hok hg hch
end
abbrev XK:=Value->Option Addr->Hp->Prop
abbrev St:=List (Option V)
abbrev VK:=V->Hp->Prop
abbrev TE:=St->Hp->VK->Prop
abbrev TT:=St->Hp->(Bool->Hp->Prop)->Prop
abbrev TA:=St->Hp->(List V->Hp->Prop)->Prop
structure Ends where
 nx:St->Hp->Prop
 rt:VK
 bk:St->Hp->Prop:=fun _ _=>False
 ct:St->Hp->Prop:=fun _ _=>False
abbrev TS:=Ends->St->Hp->Prop
def EP (X:Cx)(pins:List (Addr × Obj))(σ:St)(Q:VK)(u:Value)(s':Shared):Prop:=∃ v H',Inv X pins σ H' s'/\RelV v u/\Q v H'
def TP (X:Cx)(pins:List (Addr × Obj))(σ:St)(Q:Bool->Hp->Prop)(b:Bool)(s':Shared):Prop:=∃ H',Inv X pins σ H' s'/\Q b H'
def AP (X:Cx)(pins:List (Addr × Obj))(σ:St)(Q:List V->Hp->Prop)(us:List Value)(s':Shared):Prop:=∃ vs H',Inv X pins σ H' s'/\B9 vs us/\Q vs H'
def SP (X:Cx)(pins:List (Addr × Obj))(D:Ends)(f:Flow)(s':Shared):Prop:=
 match f with
 | .next=>∃ σ' H',Inv X pins σ' H' s'/\D.nx σ' H'
 | .brk=>∃ σ' H',Inv X pins σ' H' s'/\D.bk σ' H'
 | .cont=>∃ σ' H',Inv X pins σ' H' s'/\D.ct σ' H'
 | .ret u=>∃ v σ' H',Inv X pins σ' H' s'/\RelV v u/\D.rt v H'
def PE (X:Cx)(e:Expr)(t:TE):Prop:=
 ∀ (pins:List (Addr × Obj)) (s:Shared) (σ:St) (H:Hp) (Q:VK),Inv X pins σ H s->t σ H Q->m5 (p0 X.prog X.w) X.A (eval e X.env) (EP X pins σ Q) X.xe s
def PT (X:Cx)(e:Expr)(t:TT):Prop:=
 ∀ (pins:List (Addr × Obj)) (s:Shared) (σ:St) (H:Hp) (Q:Bool->Hp->Prop),Inv X pins σ H s->t σ H Q->m5 (p0 X.prog X.w) X.A (isTrue e X.env (eval e X.env)) (TP X pins σ Q) X.xe s
def PW (X:Cx)(e:Expr)(t:TT):Prop:=
 ∀ (whole:Sem Value) (pins:List (Addr × Obj)) (s:Shared) (σ:St) (H:Hp) (Q:Bool->Hp->Prop),Inv X pins σ H s->t σ H Q->m5 (p0 X.prog X.w) X.A (isTrue e X.env whole) (TP X pins σ Q) X.xe s
theorem PW.pt {X:Cx}{t:TT}(h:PW X e t):PT X e t:=h _
def PA (X:Cx)(es:List Expr)(t:TA):Prop:=
 ∀ (pos:Pos) (pins:List (Addr × Obj)) (s:Shared) (σ:St) (H:Hp) (Q:List V->Hp->Prop),Inv X pins σ H s->t σ H Q->m5 (p0 X.prog X.w) X.A (spliced (Z0 pos (B3 es X.env))) (AP X pins σ Q) X.xe s
def PS (X:Cx)(st:Stmt)(t:TS):Prop:=
 ∀ (pins:List (Addr × Obj)) (s:Shared) (σ:St) (H:Hp) (D:Ends),Inv X pins σ H s->t D σ H->m5 (p0 X.prog X.w) X.A (exec st X.env) (SP X pins D) X.xe s
def PSs (X:Cx)(st:List Stmt)(t:TS):Prop:=
 ∀ (pins:List (Addr × Obj)) (s:Shared) (σ:St) (H:Hp) (D:Ends),Inv X pins σ H s->t D σ H->m5 (p0 X.prog X.w) X.A (execs st X.env) (SP X pins D) X.xe s
theorem thn {α:Type}{t:Sem α}{Q Q':α->Shared->Prop}{M:Model}(h:m5 M A t Q E s)(hQ:∀ a s,Q a s->Q' a s):m5 M A t Q' E s:=B6 h hQ fun _ _ x=>x
end L2
variable {X:L2.Cx}{r:L2.V->List L2.V->L2.Hp->L2.VK->Prop}{ta te:L2.TE}{σ:L2.St}
namespace L2
open PySem PySem.Spec PyProof.Rows
section
def bq5 (i:Nat):TE:=fun σ H Q=>∃ v,σ[i]?=some (some v)/\Q v H
def tC (v:V):TE:=fun _ H Q=>Q v H
theorem bR8 (hN:X.N[i]?=some x)(hv:Vis X.env.scope x)(hd:(x == ("__debug__":Str))=false:=by decide)(hcd:(x == ("__classdict__":Str))=false:=by decide):PE X (.Name x pos) (bq5 i):=by
 intro pins s σ H Q I h
 obtain⟨v,e,h⟩:=h
 obtain⟨m,hn,hl⟩:=I.loc
 obtain⟨u,r,l⟩:=hl i x v hN e hv
 have fin:EP X pins σ Q u s:=⟨v,H,I,r,h⟩
 rcases l with⟨hk,hm⟩ | ⟨hk,c,hc,hcell⟩
 ·exact wpAny_Name (bX9 I.ok.kind hk hn hm fin) hd
 ·rcases hk with hk | hk
  ·exact wpAny_Name (bY8 I.ok.kind hk hc hcell fin) hd
  ·exact wpAny_Name (wpAny_loadName_free I.ok.kind hk hc hcell fin hcd) hd
theorem c8 {i j pos}:PE X (.Constant (.int i) j pos) (tC (.int i)):=fun _ _ _ H _ I h=>wpAny_Constant_int ⟨.int i,H,I.tok _,⟨_,rfl⟩,h⟩
theorem an5 {b j pos}:PE X (.Constant (.bool b) j pos) (tC (.bl b)):=fun _ _ _ H _ I h=>Constant_bool ⟨.bl b,H,I,rfl,h⟩
theorem aM7 {j pos}:PE X (.Constant .none j pos) (tC .non):=fun _ _ _ H _ I h=>Constant_none ⟨.non,H,I,rfl,h⟩
theorem G0 {x j pos}:PE X (.Constant (.str x) j pos) (tC (.str x)):=fun _ _ _ H _ I h=>Calls.Constant_str ⟨.str x,H,I.tok _,⟨_,rfl⟩,h⟩
def Gl (X:Cx)(x:Str):Prop:=X.env.kindOf x=some .globalImplicit
theorem ao3 (I:Inv X pins σ H s)(hg:Gl X x)(hm:X.mg x=some u)(h:Q u s)
  (hd:(x == ("__debug__":Str))=false:=by decide):m5 (p0 X.prog X.w) X.A (eval (.Name x pos) X.env) Q E s :=
 Calls.Name_function_global I.ok.kind hg (Calls.loadGlobal_global (by rw[I.ok.glob];exact I.mod.glob.keeps I.bk) hm h) hd
theorem Z6 (I:Inv X pins σ H s)(hg:Gl X x)(hm:X.mg x=none)(hv:O4 x=some u)(h:Q u s)
  (hn:x≠"__name__":=by decide)(hd:(x == ("__debug__":Str))=false:=by decide):m5 (p0 X.prog X.w) X.A (eval (.Name x pos) X.env) Q E s:=by
 obtain⟨mb,h1,h2⟩:=I.mod.blt
 exact Calls.Name_function_global I.ok.kind hg (Calls.loadGlobal_builtin (by rw[I.ok.glob];exact I.mod.glob.keeps I.bk) hm (by rw[I.ok.blt];exact h1.keeps I.bk) ((h2 x hn).trans hv) h) hd
theorem bf6 {v:V}(hg:Gl X x)(hm:X.mg x=some u)(r:RelV v u)(hd:(x == ("__debug__":Str))=false:=by decide):PE X (.Name x pos) (tC v) :=
 fun _ _ _ H _ I h=>ao3 I hg hm ⟨v,H,I,r,h⟩ hd
theorem an4 {v:V}(hg:Gl X x)(hm:X.mg x=none)(hv:O4 x=some u)(r:RelV v u)(hn:x≠"__name__":=by decide)(hd:(x == ("__debug__":Str))=false:=by decide):PE X (.Name x pos) (tC v) :=
 fun _ _ _ H _ I h=>Z6 I hg hm hv ⟨v,H,I,r,h⟩ hn hd
variable {a b:Expr} {tb:TE}
def PC (X:Cx)(op:CmpOp)(a b:Expr)(t:TE):Prop:=
 ∀ (pins:List (Addr × Obj)) (s:Shared) (σ:St) (H:Hp) (Q:VK),Inv X pins σ H s->t σ H Q ->
  m5 (p0 X.prog X.w) X.A (eval a X.env) (fun v s₁=>m5 (p0 X.prog X.w) X.A (eval b X.env) (fun u s₂=>m5 (p0 X.prog X.w) X.A (E1 op v u) (EP X pins σ Q) X.xe s₂) X.xe s₁) X.xe s
def tB (t:TE):TT:=fun σ H Q=>t σ H fun x H1=>∃ c,x=.bl c/\Q c H1
theorem bR5 {op:CmpOp}{t:TE}(h:PC X op a b t)(h1:am1 op b=false:=by first | exact nobehind _ (by decide) (by decide) | rfl):PT X (.Compare a [op] [b] pos) (tB t):=by
 intro pins s σ H Q I hw
 refine bN3 (thn (h pins s σ H _ I hw) fun v s1 h1=>thn h1 fun u s2 h2=>thn h2 fun c s3 ⟨x,H1,I1,r1,q1⟩=>?_) h1
 obtain⟨d,rfl,q⟩:=q1
 cases r1
 exact G1 ⟨H1,I1,q⟩
theorem S3 {t:TE}(h:PE X e t)(he:∀ whole,isTrue e X.env whole=(do let v <- whole;standAt e.pos;aQ2 [v] (truthy v)):=by intro _;rfl):PT X e (tB t):=by
 intro pins s σ H Q I hw
 refine isTrue_plain (thn (h pins s σ H _ I hw) fun v s1 ⟨x,H1,I1,r1,q1⟩=>?_) (he _)
 obtain⟨d,rfl,q⟩:=q1
 cases r1
 exact G1 ⟨H1,I1,q⟩
variable {tA tB':TT} {rest:List Expr}
def ch3 (t u:TT):TT:=fun σ H Q=>t σ H fun c H1=>if c=true then u σ H1 Q else Q false H1
def tOr (t u:TT):TT:=fun σ H Q=>t σ H fun c H1=>if c=true then Q true H1 else u σ H1 Q
def cg7 (t:TT):TT:=fun σ H Q=>t σ H fun c H1=>Q (!c) H1
theorem aM1 (ha:PT X a tA):PW X (.BoolOp .And [a] pos) tA:=by
 intro wh pins s σ H Q I h
 refine isTrue_and (thn (ha pins s σ H Q I h) fun c s1 e=>?_)
 cases c with
 | true=>exact isTrue_and_nil e
 | false=>exact e
theorem ag5 (ha:PT X a tA):PW X (.BoolOp .Or [a] pos) tA:=by
 intro wh pins s σ H Q I h
 refine isTrue_or (thn (ha pins s σ H Q I h) fun c s1 e=>?_)
 cases c with
 | false=>exact isTrue_or_nil e
 | true=>exact e
theorem aZ9 (ha:PT X a tA)(hb:PW X (.BoolOp .And (b::rest) pos) tB'):PW X (.BoolOp .And (a::b::rest) pos) (ch3 tA tB'):=by
 intro wh pins s σ H Q I h
 refine isTrue_and (thn (ha pins s σ H _ I h) fun c s1 ⟨H1,I1,q1⟩=>?_)
 cases c with
 | true=>exact hb wh pins s1 σ H1 Q I1 q1
 | false=>exact⟨H1,I1,q1⟩
theorem ae1 (ha:PT X a tA)(hb:PW X (.BoolOp .Or (b::rest) pos) tB'):PW X (.BoolOp .Or (a::b::rest) pos) (tOr tA tB'):=by
 intro wh pins s σ H Q I h
 refine isTrue_or (thn (ha pins s σ H _ I h) fun c s1 ⟨H1,I1,q1⟩=>?_)
 cases c with
 | true=>exact⟨H1,I1,q1⟩
 | false=>exact hb wh pins s1 σ H1 Q I1 q1
theorem P3 (ha:PT X a tA):PT X (.UnaryOp .Not a pos) (cg7 tA):=by
 intro pins s σ H Q I h
 exact isTrue_not (ha pins s σ H (fun c H1=>Q (!c) H1) I h)
def cb1 (ta tb:TE):TE:=fun σ H Q=>ta σ H fun x H1=>∃ c,x=.bl c/\if c=true then tb σ H1 Q else Q (.bl false) H1
def ca4 (ta:TE):TE:=fun σ H Q=>ta σ H fun x H1=>∃ c,x=.bl c/\Q (.bl (!c)) H1
theorem aM6 {op}{t:TE}(h:PE X a t):PE X (.BoolOp op [a] pos) t:=fun pins s σ H Q I hw=>BoolOp_one (h pins s σ H Q I hw)
theorem aM9 (ha:PE X a ta)(hb:PE X (.BoolOp .And (b::rest) pos) tb):PE X (.BoolOp .And (a::b::rest) pos) (cb1 ta tb):=by
 intro pins s σ H Q I h
 refine BoolOp_and (thn (ha pins s σ H _ I h) fun v s1 ⟨x,H1,I1,r1,q1⟩=>?_)
 obtain⟨c,rfl,q1⟩:=q1
 cases r1
 refine G1 ?_
 cases c with
 | true=>exact hb pins s1 σ H1 Q I1 q1
 | false=>exact⟨.bl false,H1,I1,rfl,q1⟩
theorem bR9 (ha:PE X a ta):PE X (.UnaryOp .Not a pos) (ca4 ta):=by
 intro pins s σ H Q I h
 refine UnaryOp_ (thn (ha pins s σ H _ I h) fun v s1 ⟨x,H1,I1,r1,q1⟩=>?_)
 obtain⟨c,rfl,q1⟩:=q1
 cases r1
 exact not_of (G1 ⟨.bl (!c),H1,I1,rfl,q1⟩)
def tIf (t:TT)(ta tb:TE):TE:=fun σ H Q=>t σ H fun c H1=>if c=true then ta σ H1 Q else tb σ H1 Q
theorem aT2 {c:Expr}(hc:PT X c tA)(ha:PE X a ta)(hb:PE X b tb):PE X (.IfExp c a b pos) (tIf tA ta tb):=by
 intro pins s σ H Q I h
 refine wpAny_IfExp (thn (hc pins s σ H _ I h) fun d s1 ⟨H1,I1,q1⟩=>?_)
 cases d with
 | true=>exact ha pins s1 σ H1 Q I1 q1
 | false=>exact hb pins s1 σ H1 Q I1 q1
end
def SqL (K:W.Frag)(H:Hp)(a:Addr)(xs:List V):Prop:=
 Rd H a (.lst xs) \/
  ∃ (o:Obj) (its:Array Value) (n:Nat),K.lookup a=some o/\o.cls=.type "list"/\o.dict=none/\o.data=.seq its n/\its.size<=c5/\B9 xs its.toList
def SqT (K:W.Frag)(H:Hp)(a:Addr)(xs:List V):Prop:=
 Rd H a (.tup xs) \/
  ∃ (o:Obj) (its:Array Value) (n:Nat),K.lookup a=some o/\o.cls=.type "tuple"/\o.data=.seq its n/\its.size<=c5/\B9 xs its.toList
def ci6:Value->Option V
 | .none=>some .non
 | .bool b=>some (.bl b)
 | .int i _=>some (.int i)
 | .str x _=>some (.str x)
 | .bytes b _=>some (.byt b)
 | .float b _=>some (.flt b)
 | .ref a=>some (.ref a)
 | .type n=>some (.ty n)
 | _=>none
theorem RelV.abs {x:V}(r:RelV x u):ci6 u=some x:=by
 cases x with
 | non=>cases r;rfl
 | bl _=>cases r;rfl
 | int _=>obtain⟨t,rfl⟩:=r;rfl
 | str _=>obtain⟨t,rfl⟩:=r;rfl
 | byt _=>obtain⟨t,rfl⟩:=r;rfl
 | flt _=>obtain⟨t,rfl⟩:=r;rfl
 | ref _=>cases r;rfl
 | ty _=>cases r;rfl
theorem RelV.inj {x y:V}(r:RelV x u)(q:RelV y u):x=y:=Option.some.inj (r.abs.symm.trans q.abs)
theorem B9.inj:∀ {xs ys:List V} {us:List Value},B9 xs us->B9 ys us->xs=ys
 | _,_,_,.nil,.nil=>rfl
 | _,_,_,.cons r t,.cons r' t'=>by rw[r.inj r',B9.inj t t']
theorem SqL.of {K:W.Frag}(h:H a=some (.lst xs)):SqL K H a xs:=.inl (.inl h)
theorem SqT.of {K:W.Frag}(h:H a=some (.tup xs)):SqT K H a xs:=.inl (.inl h)
theorem Inv.list (I:Inv X pins σ H s)(h:SqL X.K H a xs):∃ its:List Value,B9 xs its/\PlainL s.heap a its.toArray/\xs.length<=c5:=by
 rcases h with h | ⟨o,its,n,hk,hc,hd,hs,hz,r⟩
 ·obtain⟨z,its,n,r,e⟩:=h.ok I.hok
  exact⟨its,r,⟨_,n,e,rfl,rfl,rfl⟩,z⟩
 ·refine⟨its.toList,r,⟨o,n,I.kIn a o hk,hc,hd,by simpa using hs⟩,?_⟩
  have e:=r.length
  simp only[m8]at e
  omega
theorem Inv.tuple (I:Inv X pins σ H s)(h:SqT X.K H a xs):∃ its:List Value,B9 xs its/\IsTup s.heap a its.toArray/\xs.length<=c5:=by
 rcases h with h | ⟨o,its,n,hk,hc,hs,hz,r⟩
 ·obtain⟨z,its,r,p⟩:=h.ok I.hok
  exact⟨its,r,p,z⟩
 ·refine⟨its.toList,r,⟨o,I.kIn a o hk,hc,n,by simpa using hs⟩,?_⟩
  have e:=r.length
  simp only[m8]at e
  omega
theorem Inv.list_inj (I:Inv X pins σ H s)(h:SqL X.K H a xs)(h':SqL X.K H a ys):xs=ys:=by
 obtain⟨its,r,⟨o,n,e,_,_,d⟩,_⟩:=I.list h
 obtain⟨its',r',⟨o',n',e',_,_,d'⟩,_⟩:=I.list h'
 rw[e]at e';cases e'
 rw[d]at d'
 injection d' with d1 _
 have:its=its':=by simpa using congrArg Array.toList d1
 subst this
 exact r.inj r'
theorem Inv.tuple_inj (I:Inv X pins σ H s)(h:SqT X.K H a xs)(h':SqT X.K H a ys):xs=ys:=by
 obtain⟨its,r,⟨o,e,_,n,d⟩,_⟩:=I.tuple h
 obtain⟨its',r',⟨o',e',_,n',d'⟩,_⟩:=I.tuple h'
 rw[e]at e';cases e'
 rw[d]at d'
 injection d' with d1 _
 have:its=its':=by simpa using congrArg Array.toList d1
 subst this
 exact r.inj r'
abbrev Cx.wish (X:Cx)(E:Value->Shared->Prop):Cx:={ X with xe:=E }
abbrev Cx.nox (X:Cx):Cx:=X.wish fun _ _=>False
theorem Cx.Ok.wish (ok:X.Ok)(E:Value->Shared->Prop):(X.wish E).Ok:=
 ⟨ok.mod,ok.kind,ok.glob,ok.blt,ok.above,ok.inj,ok.has,ok.cab,ok.hd,ok.frames,ok.stk,ok.exf,ok.bs,ok.bsz,ok.noex,ok.exfs,ok.funs,ok.frf⟩
theorem Cx.Ok.unwish (ok:(X.wish E).Ok):X.Ok:=
 ⟨ok.mod,ok.kind,ok.glob,ok.blt,ok.above,ok.inj,ok.has,ok.cab,ok.hd,ok.frames,ok.stk,ok.exf,ok.bs,ok.bsz,ok.noex,ok.exfs,ok.funs,ok.frf⟩
theorem Inv.wish (I:Inv X pins σ H s)(E:Value->Shared->Prop):Inv (X.wish E) pins σ H s:=⟨I.ok.wish E,I.os,I.bare,I.base,I.loc,I.cell,I.free,I.freeC,I.pin,I.hok,I.len⟩
theorem Inv.unwish (I:Inv (X.wish E) pins σ H s):Inv X pins σ H s:=⟨I.ok.unwish,I.os,I.bare,I.base,I.loc,I.cell,I.free,I.freeC,I.pin,I.hok,I.len⟩
theorem SP.unwish {D:Ends}{f:Flow}{s':Shared}(h:SP (X.wish E) pins D f s'):SP X pins D f s':=by
 cases f with
 | next=>obtain⟨σ',H',I,q⟩:=h;exact⟨σ',H',I.unwish,q⟩
 | brk=>obtain⟨σ',H',I,q⟩:=h;exact⟨σ',H',I.unwish,q⟩
 | cont=>obtain⟨σ',H',I,q⟩:=h;exact⟨σ',H',I.unwish,q⟩
 | ret u=>obtain⟨v,σ',H',I,r,q⟩:=h;exact⟨v,σ',H',I.unwish,r,q⟩
theorem PSs.nox {st:List Stmt}{t:TS}(h:PSs X.nox st t):PSs X st t:=fun pins s σ H D I hw =>
 B6 (h pins s σ H D (I.wish _) hw) (fun _ _ q=>q.unwish) fun _ _ z=>False.elim z
section
variable {st:Stmt} {rest:List Stmt} {t u:TS}
def ca5:TS:=fun D σ H=>D.nx σ H
def cg4 (t u:TS):TS:=fun D σ H=>t { D with nx:=u D } σ H
theorem A4:PSs X [] ca5:=fun _ _ σ H _ I h=>ae7 ⟨σ,H,I,h⟩
theorem c7 (h1:PS X st t)(h2:PSs X rest u):PSs X (st::rest) (cg4 t u):=by
 intro pins s σ H D I h
 refine aY4 (thn (h1 pins s σ H { D with nx:=u D } I h) fun f s1 q=>?_)
 cases f with
 | next =>
  obtain⟨σ',H',I',q⟩:=q
  exact h2 pins s1 σ' H' D I' q
 | ret v=>exact q
 | brk=>exact q
 | cont=>exact q
theorem i5 (h1:PS X st t):PSs X [st] t:=by
 intro pins s σ H D I h
 refine aY4 (thn (h1 pins s σ H D I h) fun f s1 q=>?_)
 cases f with
 | next=>exact ae7 q
 | ret v=>exact q
 | brk=>exact q
 | cont=>exact q
theorem Inv.quiet (I:Inv X pins σ H s):interactive X.env=false:=by simp[interactive,I.ok.kind]
def ca7 (te:TE):TS:=fun D σ H=>te σ H fun _ H1=>D.nx σ H1
theorem D6 (he:PE X e te)(hs:bN4 e none pos.line X.env=pure false:=by rfl):PS X (.Expr e pos) (ca7 te):=by
 intro pins s σ H D I h
 exact wpAny_Expr_any (thn (he pins s σ H _ I h) fun v s1 ⟨x,H1,I1,r1,q1⟩=>⟨σ,H1,I1,q1⟩) I.quiet hs
def cg5 (te:TE):TS:=fun D σ H=>te σ H D.rt
theorem u9 (he:PE X e te):PS X (.Return (some e) pos) (cg5 te):=by
 intro pins s σ H D I h
 exact wpAny_Return_some (thn (he pins s σ H _ I h) fun v s1 ⟨x,H1,I1,r1,q1⟩=>⟨x,σ,H1,I1,r1,q1⟩)
def cg9 (c:TT)(t u:TS):TS:=fun D σ H=>c σ H fun b H1=>if b=true then t D σ H1 else u D σ H1
theorem E3 {c:Expr}{a b:List Stmt}{tc:TT}(hc:PT X c tc)(ha:PSs X a t)(hb:PSs X b u):PS X (.If c a b pos) (cg9 tc t u):=by
 intro pins s σ H D I h
 refine wpAny_If (thn (hc pins s σ H _ I h) fun d s1 ⟨H1,I1,q1⟩=>?_)
 cases d with
 | true=>exact ha pins s1 σ H1 D I1 q1
 | false=>exact hb pins s1 σ H1 D I1 q1
def bP4:TS:=fun _ _ _=>False
theorem aa3 {sts:List Stmt}:PSs X sts bP4:=fun _ _ _ _ _ _ h=>h.elim
end
abbrev TG:=V->St->Hp->(St->Hp->Prop)->Prop
abbrev TGs:=List V->St->Hp->(St->Hp->Prop)->Prop
def PG (X:Cx)(target:Expr)(t:TG):Prop:=
 ∀ (pins:List (Addr × Obj)) (s:Shared) (σ:St) (H:Hp) (v:V) (u:Value) (Q:St->Hp->Prop),Inv X pins σ H s->RelV v u->t v σ H Q ->
  m5 (p0 X.prog X.w) X.A (bN5 target X.env u) (fun _ s'=>∃ σ' H',Inv X pins σ' H' s'/\Q σ' H') X.xe s
def PGs (X:Cx)(ts:List Expr)(t:TGs):Prop:=
 ∀ (pins:List (Addr × Obj)) (s:Shared) (σ:St) (H:Hp) (vs:List V) (us:List Value) (Q:St->Hp->Prop),Inv X pins σ H s->B9 vs us->t vs σ H Q ->
  m5 (p0 X.prog X.w) X.A (bB3 ((ad9 ts X.env).map (·.2)) us) (fun _ s'=>∃ σ' H',Inv X pins σ' H' s'/\Q σ' H') X.xe s
abbrev bz2:=V->V->V->Hp->(Hp->Prop)->Prop
def bW8 (X:Cx)(t:bz2):Prop:=
 ∀ (pins:List (Addr × Obj)) (s:Shared) (σ:St) (H:Hp) (o i v:V) (ov iv u:Value) (Q:Hp->Prop),Inv X pins σ H s->RelV o ov->RelV i iv->RelV v u->t o i v H Q ->
  m5 (p0 X.prog X.w) X.A (setItem ov iv u) (fun _ s'=>∃ H',Inv X pins σ H' s'/\Q H') X.xe s
abbrev TIp:=V->V->Hp->VK->Prop
def PIp (X:Cx)(op:Operator)(t:TIp):Prop:=
 ∀ (pins:List (Addr × Obj)) (s:Shared) (σ:St) (H:Hp) (x y:V) (v u:Value) (Q:VK),Inv X pins σ H s->RelV x v->RelV y u->t x y H Q ->
  m5 (p0 X.prog X.w) X.A (inplaceOp op v u) (EP X pins σ Q) X.xe s
def aH6 (i:Nat):TG:=fun v σ H Q=>Q (σ.set i (some v)) H
theorem B1 (hN:X.N.Nodup)(hi:X.N[i]?=some x)(hx:Loc X.env.scope x)(hf:X.fn x=true\/X.env.scope.names.lookup x=some .local:=by first | exact .inl rfl | exact .inr rfl | assumption):PG X (.Name x pos) (aH6 i):=by
 intro pins s σ H v u Q I r h
 exact wpAny_assign_Name (af6 I hN hi hx r (fun s' I'=>⟨_,H,I',h⟩) hf)
def ci5:TGs:=fun vs σ H Q=>vs=[]/\Q σ H
def cf0 (t:TG)(u:TGs):TGs:=fun vs σ H Q=>∃ v r,vs=v::r/\t v σ H fun σ' H'=>u r σ' H' Q
theorem ac8:PGs X [] ci5:=by
 intro pins s σ H vs us Q I r h
 obtain⟨e,h⟩:=h
 subst e
 cases r
 exact assignInOrder_nil ⟨σ,H,I,h⟩
theorem J7 {es:List Expr}{t:TG}{u:TGs}(h1:PG X e t)(h2:PGs X es u)
  (hs:(ad9 (e::es) X.env).map (·.2)=bN5 e X.env::(ad9 es X.env).map (·.2):=by rfl):PGs X (e::es) (cf0 t u):=by
 intro pins s σ H vs us Q I r h
 obtain⟨v,vr,e1,h⟩:=h
 subst e1
 cases r with
 | cons r rr =>
  rw[hs]
  refine aJ1 (thn (h1 pins s σ H _ _ _ I r h) fun _ s1 ⟨σ1,H1,I1,q1⟩=>?_)
  exact h2 pins s1 σ1 H1 _ _ Q I1 rr q1
def ce9 (K:W.Frag)(n:Nat)(t:TGs):TG:=fun v σ H Q=>∃ a xs,v=.ref a/\SqT K H a xs/\xs.length=n/\t xs σ H Q
theorem al1 {es:List Expr}{k:Nat}{t:TGs}(hc:X.calm=true)(h:PGs X es t)
  (hn:(ad9 es X.env).length=n:=by rfl)(hst:(ad9 es X.env).findIdx? (·.1)=none:=by rfl):PG X (.Tuple es k pos) (ce9 X.K n t):=by
 intro pins s σ H v u Q I r hw
 obtain⟨a,xs,e1,hq,hl,hw⟩:=hw
 subst e1
 cases r
 obtain⟨its,rv,ht,hz⟩:=I.tuple hq
 refine assign_Tuple_tuple (I.ok.hd hc) ht (by simp[hn,<- hl,rv.length]) hst fun h' hx=>?_
 have I1:Inv X pins σ H { s with heap:=h' }:=I.kept (t':=s.toks) fun b o e=>hx b o (i8 (d9 e)) e
 exact h pins _ σ H xs _ Q I1 (by simpa using rv) hw
def ci4 (to ti:TE)(t:bz2):TG:=fun v σ H Q=>to σ H fun o H1=>ti σ H1 fun i H2=>t o i v H2 fun H3=>Q σ H3
theorem ar6 {i:Expr} {to ti:TE} {t:bz2} (ho:PE X o to) (hi:PE X i ti) (hs:bW8 X t)
  (ha : ∀ v, bN5 (.Subscript o i pos) X.env v = (do
   let ov <- aQ2 [v] (eval o X.env)
   let iv <- aQ2 [v,ov] (eval i X.env)
   standAt pos
   aQ2 [v,ov,iv] (setItem ov iv v)
   release [v,ov,iv] []):=by intro _;rfl):PG X (.Subscript o i pos) (ci4 to ti t):=by
 intro pins s σ H v u Q I r h
 rw[ha]
 refine a7 (C1 (thn (ho pins s σ H _ I h) fun ov s1 ⟨x,H1,I1,r1,q1⟩=>?_))
 refine a7 (C1 (thn (hi pins s1 σ H1 _ I1 q1) fun iv s2 ⟨y,H2,I2,r2,q2⟩=>?_))
 refine a7 (V0 (a7 (C1 (thn (hs pins s2 σ H2 x y v ov iv u _ I2 r1 r2 r q2) fun _ s3 ⟨H3,I3,q3⟩=>?_))))
 exact wpAny_release ⟨σ,H3,I3,q3⟩
def bP7 (te:TE)(g:TG):TS:=fun D σ H=>te σ H fun x H1=>g x σ H1 D.nx
theorem ac6 {g:TG}(he:PE X e te)(hg:PG X tg g)(hs:swapsWithSole [tg] e pos.line X.env=pure false:=by rfl)(hw:swappedStores [tg] e X.env=pure none:=by rfl)
  (h1:(ad9 [tg] X.env).map (·.2)=[bN5 tg X.env]:=by rfl):PS X (.Assign [tg] e pos) (bP7 te g):=by
 intro pins s σ H D I h
 refine wpAny_Assign_stores (thn (he pins s σ H _ I h) fun v s1 ⟨x,H1,I1,r1,q1⟩=>?_) hs hw
 rw[h1]
 exact thn (hg pins s1 σ H1 x v _ I1 r1 q1) fun _ s2 q=>q
theorem A3 {pos':Pos}(hN:X.N.Nodup)(hi:X.N[i]?=some x)(hx:Loc X.env.scope x)(he:PE X e te)(hs:bN4 e (some (.Name x pos')) pos.line X.env=pure false:=by rfl)(hf:X.fn x=true\/X.env.scope.names.lookup x=some .local:=by first | exact .inl rfl | exact .inr rfl | assumption) :
  PS X (.Assign [.Name x pos'] e pos) (bP7 te (aH6 i)):=by
 intro pins s σ H D I h
 refine wpAny_Assign_Name (thn (he pins s σ H _ I h) fun v s1 ⟨y,H1,I1,r1,q1⟩=>?_) hs
 exact af6 I1 hN hi hx r1 (fun s2 I2=>⟨_,H1,I2,q1⟩) hf
def cg6 (i j:Nat)(ta:TA):TS:=fun D σ H=>ta σ H fun vs H1=>∃ v w,vs=[v,w]/\D.nx ((σ.set i (some v)).set j (some w)) H1
theorem bR6 {y:Str}{a b:Expr}{ta:TA}{px py pt:Pos}{kt k2 pt2}(hc:X.calm=true)(hN:X.N.Nodup)(hi:X.N[i]?=some x)(hj:X.N[j]?=some y)(hij:i≠j)
  (hx:X.env.scope.names.lookup x=some .local)(hy:X.env.scope.names.lookup y=some .local)(ha:PA X [a,b] ta)
  (hw:swappedStores [.Tuple [.Name x px,.Name y py] kt pt] (.Tuple [a,b] k2 pt2) X.env=pure (some [x,y]))
  (hs:swapsWithSole [.Tuple [.Name x px,.Name y py] kt pt] (.Tuple [a,b] k2 pt2) pos.line X.env=pure false:=by rfl) :
  PS X (.Assign [.Tuple [.Name x px,.Name y py] kt pt] (.Tuple [a,b] k2 pt2) pos) (cg6 i j ta):=by
 intro pins s σ H D I h
 rw[exec_Assign_arm]
 refine a7 (V0 ?_)
 rw[hs]
 refine a7 (b9 ?_)
 rw[if_neg (by decide)]
 refine a7 (Tuple_ (thn (ha _ pins s σ H _ I h) fun us s1 ⟨vs,H1,I1,r1,q1⟩=>?_))
 obtain⟨v,w,e1,q1⟩:=q1
 subst e1
 obtain⟨u1,u2,rfl,rv,rw'⟩:∃ u1 u2,us=[u1,u2]/\RelV v u1/\RelV w u2:=by
  cases r1 with
  | cons p q =>
   cases q with
   | cons p' q' =>
    cases q'
    exact⟨_,_,rfl,p,p'⟩
 refine A7 ?_ (by show 2<=c5;decide)
 have I2:Inv X pins σ H1 { s1 with heap:=s1.heap.push { cls:=.type "tuple",data:=.seq [u1,u2].toArray } }:=I1.kept (t':=s1.toks) fun b o e=>a8 _ e
 rw[hw]
 refine a7 (b9 ?_)
 show m5 (p0 X.prog X.w) X.A (do rule "assign.swapped-stores";let items <- unpackItems (.ref s1.heap.objs.size) 2 none;bB3 [fun v=>bindName X.env y v,fun v=>bindName X.env x v] items.reverse;pure Flow.next) _ _ _
 refine a7 (aw3 (a7 (unpackItems_tuple (items:=#[u1,u2]) (I.ok.hd hc) (IsTup.new s1.heap _) fun h' hx'=>?_)))
 have I3:=I2.kept (h':=h') (t':=s1.toks) fun b o e=>hx' b o (i8 (d9 e)) e
 show m5 _ _ (bB3 [fun v=>bindName X.env y v,fun v=>bindName X.env x v] [u2,u1] >>= fun _=>pure Flow.next) _ _ _
 refine a7 (aJ1 (wpAny_bindName (af6 I3 hN hj (.inl hy) rw' (fun s2 I4=>?_) (.inr hy))))
 refine aJ1 (wpAny_bindName (af6 I4 hN hi (.inl hx) rv (fun s3 I5=>assignInOrder_nil (b9 ?_)) (.inr hx)))
 rw[List.set_comm _ _ (Ne.symm hij)]at I5
 exact⟨_,H1,I5,q1⟩
def ch2 (i:Nat)(te:TE)(ti:TIp):TS:=fun D σ H=>∃ x,σ[i]?=some (some x)/\te σ H fun y H1=>ti x y H1 fun z H2=>D.nx (σ.set i (some z)) H2
theorem bR7 {op:Operator}{ti:TIp}{pos':Pos}(hN:X.N.Nodup)(hi:X.N[i]?=some x)(hx:Loc X.env.scope x)(he:PE X e te)(ho:PIp X op ti)(hf:X.fn x=true\/X.env.scope.names.lookup x=some .local:=by first | exact .inl rfl | exact .inr rfl | assumption) :
  PS X (.AugAssign (.Name x pos') op e pos) (ch2 i te ti):=by
 intro pins s σ H D I h
 obtain⟨v,e1,h⟩:=h
 obtain⟨m,hn,hl⟩:=I.loc
 have vis:Vis X.env.scope x:=by rcases hx with k | k;exact .inl k;exact .inr (.inl k)
 obtain⟨u,r,l⟩:=hl i x v hi e1 vis
 refine wpAny_AugAssign_Name ?_
 have go:m5 (p0 X.prog X.w) X.A (eval e X.env) (fun w s₂=>m5 (p0 X.prog X.w) X.A (inplaceOp op u w) (fun r s₃=>m5 (p0 X.prog X.w) X.A (storeName X.env x r) (fun _=>SP X pins D .next) X.xe s₃) X.xe s₂) X.xe s:=by
  refine thn (he pins s σ H _ I h) fun w s1 ⟨y,H1,I1,r1,q1⟩=>?_
  refine thn (ho pins s1 σ H1 v y u w _ I1 r r1 q1) fun z s2 ⟨zv,H2,I2,r2,q2⟩=>?_
  exact af6 I2 hN hi hx r2 (fun s3 I3=>⟨_,H2,I3,q2⟩) hf
 rcases l with⟨hk,hm⟩ | ⟨hk,c,hc,hcell⟩
 ·exact bX9 I.ok.kind hk hn hm go
 ·rcases hk with hk | hk
  ·exact bY8 I.ok.kind hk hc hcell go
  ·rcases hx with k | k
   ·have:X.env.scope.names.lookup x=some .free:=hk
    rw[k]at this;cases this
   ·have:X.env.scope.names.lookup x=some .free:=hk
    rw[k]at this;cases this
def cb0 (to ti te:TE)(tget:V->V->Hp->VK->Prop)(tip:TIp)(tset:bz2):TS:=fun D σ H=>to σ H fun o H1=>ti σ H1 fun i H2=>tget o i H2 fun x H3=>te σ H3 fun y H4=>tip x y H4 fun z H5=>tset o i z H5 fun H6=>D.nx σ H6
def cf9 (X:Cx)(t:V->V->Hp->VK->Prop):Prop:=
 ∀ (pins:List (Addr × Obj)) (s:Shared) (σ:St) (H:Hp) (o i:V) (ov iv:Value) (Q:VK),Inv X pins σ H s->RelV o ov->RelV i iv->t o i H Q ->
  m5 (p0 X.prog X.w) X.A (aa0 ov iv) (EP X pins σ Q) X.xe s
theorem aM3 {i:Expr}{to ti:TE}{tget:V->V->Hp->VK->Prop}{tip:TIp}{tset:bz2}{op:Operator}{tpos:Pos}(ho:PE X o to)(hi:PE X i ti)(hg:cf9 X tget)(he:PE X e te)(hp:PIp X op tip)(hs:bW8 X tset)
  (ha:∀ ov iv new,augStore i ov iv new=(do aQ2 [new,ov,iv] (setItem ov iv new);release [new,ov,iv] [];pure .next):=by intros;rfl):PS X (.AugAssign (.Subscript o i tpos) op e pos) (cb0 to ti te tget tip tset):=by
 intro pins s σ H D I h
 refine wpAny_AugAssign_SubscriptAny (thn (ho pins s σ H _ I h) fun ov s1 ⟨x1,H1,I1,r1,q1⟩=>?_) ha
 refine thn (hi pins s1 σ H1 _ I1 q1) fun iv s2 ⟨x2,H2,I2,r2,q2⟩=>?_
 refine thn (hg pins s2 σ H2 x1 x2 ov iv _ I2 r1 r2 q2) fun old s3 ⟨x3,H3,I3,r3,q3⟩=>?_
 refine thn (he pins s3 σ H3 _ I3 q3) fun v s4 ⟨x4,H4,I4,r4,q4⟩=>?_
 refine thn (hp pins s4 σ H4 x3 x4 old v _ I4 r3 r4 q4) fun new s5 ⟨x5,H5,I5,r5,q5⟩=>?_
 exact thn (hs pins s5 σ H5 x1 x2 x5 ov iv new _ I5 r1 r2 r5 q5) fun _ s6 ⟨H6,I6,q6⟩=>⟨σ,H6,I6,q6⟩
def ipI (f:Int->Int->Int):TIp:=fun x y H Q=>∃ i j,x=.int i/\y=.int j/\Q (.int (f i j)) H
theorem bc1:PIp X .Add (ipI fun i j=>i+j):=by
 intro pins s σ H x y v u Q I r1 r2 h
 obtain⟨i,j,e1,e2,q⟩:=h
 subst e1;subst e2
 obtain⟨t,rfl⟩:=r1
 obtain⟨t',rfl⟩:=r2
 exact iadd_int ⟨.int _,H,I.tok _,⟨_,rfl⟩,q⟩
def bP1 (c:TT)(tb:TS):TS:=fun D σ H=>∃ W:Nat->St->Hp->Prop,(∃ m,W m σ H)/\∀ m σ H,W m σ H ->
 c σ H fun b H1=>if b=true then ∃ N:St->Hp->Prop,(∀ σ' H',N σ' H'->∃ m',m'<m/\W m' σ' H')/\tb { D with nx:=N,ct:=N,bk:=D.nx } σ H1 else D.nx σ H1
theorem bt0 {c:Expr}{body:List Stmt}{tc:TT}{tb:TS}(hp:PassesOwn (p0 X.prog X.w) X.A X.env X.xe)(hc:PT X c tc)(hb:PSs X body tb):PS X (.While c body [] pos) (bP1 tc tb):=by
 intro pins s σ H D I h
 obtain⟨W,⟨m0,w0⟩,turn⟩:=h
 refine wpAny_While (codeAny_whileLoop (fun n s'=>∃ σ' H',Inv X pins σ' H' s'/\W n σ' H') ?_ m0 ⟨σ,H,I,w0⟩)
 rintro n s1 ⟨σ1,H1,I1,w1⟩
 refine Q4 hp (thn (hc pins s1 σ1 H1 _ I1 (turn n σ1 H1 w1)) fun b s2 ⟨H2,I2,q2⟩=>?_)
 cases b with
 | true =>
  obtain⟨N,hN,q2⟩:=q2
  rw[if_pos rfl]
  refine Q4 hp (thn (hb pins s2 σ1 H2 _ I2 q2) fun f s3 q3=>?_)
  cases f with
  | next =>
   obtain⟨σ3,H3,I3,n3⟩:=q3
   obtain⟨m',hm,w3⟩:=hN σ3 H3 n3
   exact⟨m',hm,σ3,H3,I3,w3⟩
  | cont =>
   obtain⟨σ3,H3,I3,n3⟩:=q3
   obtain⟨m',hm,w3⟩:=hN σ3 H3 n3
   exact⟨m',hm,σ3,H3,I3,w3⟩
  | brk=>exact q3
  | ret v=>exact q3
 | false =>
  rw[if_neg g8]
  exact ae7 ⟨σ1,H2,I2,q2⟩
structure It where
 go:Nat->Hp->Prop
 yld:Nat->Hp->V->Hp->Prop
 stop:Nat->Hp->Prop
def O2 (X:Cx)(pins:List (Addr × Obj))(H:Hp)(b:Addr):Prop:=
 H b=none/\b≠X.env.locals/\b∉X.fs/\(b∈X.ex\/X.s₀.heap.objs.size<=b)/\(∀ x c,X.env.cells.lookup x=some c->c≠b)/\∀ p∈X.pn++pins,p.1≠b
theorem Inv.fpOk {b:Addr}(I:Inv X pins σ H s)(hb:s.heap.objs.size<=b)(hn:H' b=none):O2 X pins H' b:=by
 refine⟨hn,S9 (q8 I.lt hb),I.nofs hb,.inr (n8 I.sz hb),fun x c e z=>?_,fun p hp z=>?_⟩
 ·obtain⟨v,q⟩:=I.cell x c e
  exact absurd (q8 q.lt (by rw[z];exact hb)) (C9 _)
 ·exact absurd (q8 (d9 (I.pin p hp).1) (by rw[z];exact hb)) (C9 _)
structure Turn (P:Program) (w:World) (K:W.Frag) (tg:Expr) (J:It) (fp:List Addr) (it:Addr) (tn:Nat->Heap->Prop):Prop where
 mem:it∈fp
 obj:∀ i h,tn i h->∀ b∈fp,∃ o,h.get? b=some o/\∀ v,o.data≠.cell v
 keep:∀ i h h',tn i h->(∀ b∈fp,∀ o,h.get? b=some o->h'.get? b=some o)->tn i h'
 item:∀ (X:Cx),X.prog=P->X.w=w->X.K=K->X.calm=true->∀ (i:Nat) (pins:List (Addr × Obj)) (s:Shared) (σ:St) (H:Hp) (E:Value->Shared->Prop),Inv X pins σ H s->(∀ b∈fp,O2 X pins H b)->tn i s.heap->J.go i H ->
  m5 (p0 P w) X.A (bA0 (.ref it)) (fun r s1=>∃ u,r=some u /\
   m5 (p0 P w) X.A (bj2 tg (.ref it) u) (fun _ s2=>∃ x H',Inv X pins σ H' s2/\RelV x u/\J.yld i H x H'/\tn (i+1) s2.heap/\∀ b∈fp,H' b=none) E s1) E s
 done:∀ (X:Cx),X.prog=P->X.w=w->X.K=K->X.calm=true->∀ (i:Nat) (pins:List (Addr × Obj)) (s:Shared) (σ:St) (H:Hp) (E:Value->Shared->Prop),Inv X pins σ H s->(∀ b∈fp,O2 X pins H b)->tn i s.heap->J.stop i H ->
  m5 (p0 P w) X.A (bA0 (.ref it)) (fun r s1=>r=none/\Inv X pins σ H s1) E s
 self:∀ (A:Around) (i:Nat) (s:Shared) (Q:Value->Shared->Prop) (E:Value->Shared->Prop),tn i s.heap->Q (.ref it) s->m5 (p0 P w) A (pyIter (.ref it)) Q E s
abbrev TI:=St->Hp->(It->Hp->Prop)->Prop
def PIE (X:Cx)(pins:List (Addr × Obj))(σ:St)(tg:Expr)(R:It->Hp->Prop)(itv:Value)(s2:Shared):Prop:=
 ∃ (it:Addr) (fp:List Addr) (tn:Nat->Heap->Prop) (J:It) (H':Hp),itv=.ref it/\Inv X pins σ H' s2/\Turn X.prog X.w X.K tg J fp it tn/\tn 0 s2.heap/\(∀ b∈fp,O2 X pins H' b)/\R J H'
def PI (X:Cx)(tg iter:Expr)(wi:TI):Prop:=
 ∀ (pins:List (Addr × Obj)) (s:Shared) (σ:St) (H:Hp) (R:It->Hp->Prop),Inv X pins σ H s->wi σ H R ->
  m5 (p0 X.prog X.w) X.A (eval iter X.env) (fun v s1=>m5 (p0 X.prog X.w) X.A (pyIter v) (PIE X pins σ tg R) X.xe s1) X.xe s
theorem bg8 {M:Model} {it:Addr} {o:Obj} {n:String} {vs:Array Value} {Q:Unit->Shared->Prop} (ho:s.heap.get? it=some o) (hc:o.cls=.type n) (hd:o.data=.fields vs)
    (hn:["enumerate","zip","dict_itemiterator","dict_reverseitemiterator","odict_iterator","itertools.zip_longest","itertools.pairwise"].contains n=false) (hQ:Q () s):m5 M A (bj2 tg (.ref it) u) Q E s:=by
  unfold bj2
  cases tg<;>first
    | exact b9 hQ
    | (cases u<;>first
        | exact b9 hQ
        | (refine a7 (wpAny_load ho ?_)
           rw[hc,hd]
           show m5 M A (if (["enumerate","zip","dict_itemiterator","dict_reverseitemiterator","odict_iterator","itertools.zip_longest","itertools.pairwise"].contains n && vs[0]? == some (X7 _))=true then _ else _) Q E s
           rw[if_neg (by intro h;rw[hn,Bool.false_and]at h;cases h)]
           exact b9 hQ))
def Itl (K:W.Frag)(a:Addr):It:=
 ⟨fun i H=>∃ xs x,SqL K H a xs/\xs[i]?=some x,fun i H x H'=>H'=H/\∀ xs,SqL K H a xs->xs[i]?=some x,fun i H=>∃ xs,SqL K H a xs/\xs.length<=i⟩
def Itt (K:W.Frag)(a:Addr):It:=
 ⟨fun i H=>∃ xs x,SqT K H a xs/\xs[i]?=some x,fun i H x H'=>H'=H/\∀ xs,SqT K H a xs->xs[i]?=some x,fun i H=>∃ xs,SqT K H a xs/\xs.length<=i⟩
def Itr (lo:Int)(n:Nat):It:=⟨fun i _=>i<n,fun i H x H'=>H'=H/\x=.int (lo+i),fun i _=>n<=i⟩
theorem bk7 {K:W.Frag}(a it:Addr):Turn P w K tg (Itl K a) [it] it (fun i h=>h.IsListIter it a i) where
 mem:=by simp
 obj:=fun i h st b hb=>by
  have e:b=it:=by simpa using hb
  subst e
  obtain⟨o,e,c,d⟩:=st
  exact⟨o,e,fun v z=>by rw[d]at z;cases z⟩
 keep:=fun i h h' st k=>st.at fun o e=>k it (by simp) o e
 item:=by
  intro X hP hw hK hc i pins s σ H E I hf st hg
  subst hP hw hK
  obtain⟨xs,x,hq,hx⟩:=hg
  obtain⟨its,rv,p,hz⟩:=I.list hq
  obtain⟨u,hu,ru⟩:=rv.get hx
  obtain⟨f0,f1,f2,f3,f4,f5⟩:=hf it (by simp)
  refine wpAny_pyNext_list_item st p.isList (x:=u) (by simpa using hu) fun h' st' sb=>?_
  have I1:Inv X pins σ H { s with heap:=h' }:=I.turned (t':=s.toks) (fun b o hb e=>(sb.2 b hb).trans e) f0 f1 f3 f4 f5
  obtain⟨o,e,c,d⟩:=id st'
  exact⟨u,rfl,bg8 (s:={ s with heap:=h' }) e c d (by decide) ⟨x,H,I1,ru,⟨rfl,fun ys hy=>by rw[I.list_inj hy hq];exact hx⟩,st',fun b hb=>(hf b hb).1⟩⟩
 done:=by
  intro X hP hw hK hc i pins s σ H E I hf st hg
  subst hP hw hK
  obtain⟨xs,hq,hx⟩:=hg
  obtain⟨its,rv,p,hz⟩:=I.list hq
  obtain⟨f0,f1,f2,f3,f4,f5⟩:=hf it (by simp)
  have hl:=rv.length
  exact wpAny_pyNext_list_end (I.ok.hd hc) st p.isList (by simp;omega) fun h' eb=>⟨rfl,I.turned (t':=s.toks) (fun b o hb e=>eb b o hb e) f0 f1 f3 f4 f5⟩
 self:=fun _ _ _ _ _ st h=>wpAny_pyIter_listiter st h
theorem aY7 {K:W.Frag}(a it:Addr):Turn P w K tg (Itt K a) [it] it (fun i h=>h.IsTupleIter it a i) where
 mem:=by simp
 obj:=fun i h st b hb=>by
  have e:b=it:=by simpa using hb
  subst e
  obtain⟨o,e,c,d⟩:=st
  exact⟨o,e,fun v z=>by rw[d]at z;cases z⟩
 keep:=fun i h h' st k=>st.at fun o e=>k it (by simp) o e
 item:=by
  intro X hP hw hK hc i pins s σ H E I hf st hg
  subst hP hw hK
  obtain⟨xs,x,hq,hx⟩:=hg
  obtain⟨its,rv,p,hz⟩:=I.tuple hq
  obtain⟨u,hu,ru⟩:=rv.get hx
  obtain⟨f0,f1,f2,f3,f4,f5⟩:=hf it (by simp)
  refine wpAny_pyNext_tuple_item st (show s.heap.IsTuple a its.toArray from p) (x:=u) (by simpa using hu) fun h' st' sb=>?_
  have I1:Inv X pins σ H { s with heap:=h' }:=I.turned (t':=s.toks) (fun b o hb e=>(sb.2 b hb).trans e) f0 f1 f3 f4 f5
  obtain⟨o,e,c,d⟩:=id st'
  exact⟨u,rfl,bg8 (s:={ s with heap:=h' }) e c d (by decide) ⟨x,H,I1,ru,⟨rfl,fun ys hy=>by rw[I.tuple_inj hy hq];exact hx⟩,st',fun b hb=>(hf b hb).1⟩⟩
 done:=by
  intro X hP hw hK hc i pins s σ H E I hf st hg
  subst hP hw hK
  obtain⟨xs,hq,hx⟩:=hg
  obtain⟨its,rv,p,hz⟩:=I.tuple hq
  obtain⟨f0,f1,f2,f3,f4,f5⟩:=hf it (by simp)
  have hl:=rv.length
  exact wpAny_pyNext_tuple_end (I.ok.hd hc) st (show s.heap.IsTuple a its.toArray from p) (by simp;omega) fun h' eb=>⟨rfl,I.turned (t':=s.toks) (fun b o hb e=>eb b o hb e) f0 f1 f3 f4 f5⟩
 self:=fun _ _ _ _ _ st h=>wpAny_pyIter_tupleiter st h
theorem aY8 {K:W.Frag}(it:Addr)(lo:Int)(n:Nat):Turn P w K tg (Itr lo n) [it] it (fun i h=>IsRangeIter h it (lo+(i:Nat)*1) ((n:Int) - (i:Nat)) 1) where
 mem:=by simp
 obj:=fun i h st b hb=>by
  have e:b=it:=by simpa using hb
  subst e
  exact⟨_,st,fun v z=>by
   have z':Data.fields _=Data.cell v:=z
   cases z'⟩
 keep:=fun i h h' st k=>k it (by simp) _ st
 item:=by
  intro X hP hw hK hc i pins s σ H E I hf st hg
  subst hP hw hK
  obtain⟨f0,f1,f2,f3,f4,f5⟩:=hf it (by simp)
  have W:=Walks.range (prog:=X.prog) (w:=X.w) (I.ok.hd hc) it lo 1 n
  refine W.item i s _ _ hg st fun v h' tk hv st' kk=>?_
  obtain⟨t,rfl⟩:=hv
  have I1:Inv X pins σ H { s with heap:=h',toks:=tk }:=I.turned (fun b o hb e=>kk b o (by simpa using hb) e) f0 f1 f3 f4 f5
  refine⟨_,rfl,bg8 (s:={ s with heap:=h',toks:=tk }) (n:="range_iterator") st' rfl rfl (by decide) ⟨.int (lo+i),H,I1,⟨t,?_⟩,⟨rfl,rfl⟩,st',fun b hb=>(hf b hb).1⟩⟩
  rw[N3]
 done:=by
  intro X hP hw hK hc i pins s σ H E I hf st hg
  subst hP hw hK
  obtain⟨f0,f1,f2,f3,f4,f5⟩:=hf it (by simp)
  exact wpAny_pyNext_range_end (I.ok.hd hc) st (by have:n<=i:=hg;omega) fun h' eb=>⟨rfl,I.turned (t':=s.toks) (fun b o hb e=>eb b o hb e) f0 f1 f3 f4 f5⟩
 self:=fun _ _ _ _ _ st h=>wpAny_pyIter_rangeiter st h
def ce5 (K:W.Frag)(tl:TE):TI:=fun σ H R=>tl σ H fun x H1=>∃ a,x=.ref a/\(∃ xs,SqL K H1 a xs)/\R (Itl K a) H1
def ci3 (K:W.Frag)(tl:TE):TI:=fun σ H R=>tl σ H fun x H1=>∃ a,x=.ref a/\(∃ xs,SqT K H1 a xs)/\R (Itt K a) H1
theorem T4 {l:Expr}{tl:TE}(hl:PE X l tl):PI X tg l (ce5 X.K tl):=by
 intro pins s σ H R I h
 refine thn (hl pins s σ H _ I h) fun v s1 ⟨x,H1,I1,r1,q1⟩=>?_
 obtain⟨a,e,⟨xs,hq⟩,q⟩:=q1
 subst e
 cases r1
 obtain⟨its,rv,p,hz⟩:=I1.list hq
 refine wpAny_pyIter_list p.isList ?_
 refine⟨s1.heap.objs.size,[s1.heap.objs.size],_,_,H1,rfl,I1.kept (t':=s1.toks) fun b o e=>a8 _ e,bk7 a _,⟨_,j3 _ rfl,rfl,rfl⟩,fun b hb=>?_,q⟩
 have e:b=s1.heap.objs.size:=by simpa using hb
 subst e
 exact I1.fpOk (c6 _) (I1.hok.fresh (c6 _))
theorem ba3 {l:Expr}{tl:TE}(hl:PE X l tl):PI X tg l (ci3 X.K tl):=by
 intro pins s σ H R I h
 refine thn (hl pins s σ H _ I h) fun v s1 ⟨x,H1,I1,r1,q1⟩=>?_
 obtain⟨a,e,⟨xs,hq⟩,q⟩:=q1
 subst e
 cases r1
 obtain⟨its,rv,p,hz⟩:=I1.tuple hq
 refine ah6 (show s1.heap.IsTuple a its.toArray from p) ?_
 refine⟨s1.heap.objs.size,[s1.heap.objs.size],_,_,H1,rfl,I1.kept (t':=s1.toks) fun b o e=>a8 _ e,aY7 a _,⟨_,j3 _ rfl,rfl,rfl⟩,fun b hb=>?_,q⟩
 have e:b=s1.heap.objs.size:=by simpa using hb
 subst e
 exact I1.fpOk (c6 _) (I1.hok.fresh (c6 _))
theorem aS8 {R:It->Hp->Prop}{lo hi:Int}{t u v:Tok}{tk:Nat}(I:Inv X pins σ H s)(h1:-(2 ^ 62)<=lo)(h2:lo<2 ^ 62)(h3:-(2 ^ 62)<=hi)(h4:hi<2 ^ 62)
  (q:R (Itr lo (hi - lo).toNat) H):m5 (p0 X.prog X.w) X.A (pyIter (.ref s.heap.objs.size)) (PIE X pins σ tg R) E { s with heap:=s.heap.push { cls:=.type "range",data:=.fields #[.int lo t,.int hi u,.int 1 v] },toks:=tk }:=by
 refine wpAny_pyIter_range (IsRange.new ..) (small_one h1 h2 h3 h4) ?_
 have I1:Inv X pins σ H { s with heap:=s.heap.push { cls:=.type "range",data:=.fields #[.int lo t,.int hi u,.int 1 v] },toks:=tk }:=I.kept fun b o e=>a8 _ e
 refine⟨(s.heap.push { cls:=.type "range",data:=.fields #[.int lo t,.int hi u,.int 1 v] }).objs.size,[(s.heap.push { cls:=.type "range",data:=.fields #[.int lo t,.int hi u,.int 1 v] }).objs.size],_,_,H,rfl,
  I1.kept (t':=tk) fun b o e=>a8 _ e,aY8 _ lo (hi - lo).toNat,?_,fun b hb=>?_,q⟩
 ·have e1:lo+((0:Nat):Int)*1=lo:=by simp
  have e2:(((hi - lo).toNat:Nat):Int) - ((0:Nat):Int)=Builtin.Range.rangeSize lo hi 1:=by rw[rangeSize_one];split<;>omega
  show IsRangeIter _ _ (lo+((0:Nat):Int)*1) ((((hi - lo).toNat:Nat):Int) - ((0:Nat):Int)) 1
  rw[e1,e2]
  exact j3 _ rfl
 ·have e:b=(s.heap.push { cls:=.type "range",data:=.fields #[.int lo t,.int hi u,.int 1 v] }).objs.size:=by simpa using hb
  subst e
  exact I1.fpOk (c6 _) (I1.hok.fresh (c6 _))
def ce4 (ta:TA):TI:=fun σ H R=>ta σ H fun vs H1=>∃ j:Int,vs=[.int j] /\ -(2 ^ 62)<=j/\j<2 ^ 62/\R (Itr 0 j.toNat) H1
def ce3 (ta:TA):TI:=fun σ H R=>ta σ H fun vs H1=>∃ i j:Int,vs=[.int i,.int j]/\(-(2 ^ 62)<=i/\i<2 ^ 62 /\ -(2 ^ 62)<=j/\j<2 ^ 62)/\R (Itr i (j - i).toNat) H1
theorem ai5 {a:Expr}{ta:TA}{p:Pos}(hg:Gl X "range")(hm:X.mg "range"=none)(ha:PA X [a] ta)(hs:B3 [a] X.env=[(false,eval a X.env)]:=by rfl):PI X tg (.Call (.Name "range" p) [a] [] pos) (ce4 ta):=by
 intro pins s σ H R I h
 refine Call_ (Z6 I hg hm boot_range (PyProof.Rows.callWith_type1 (thn (ha pos pins s σ H _ I h) fun us s1 ⟨vs,H1,I1,r1,q1⟩=>?_) hs rfl))
 obtain⟨j,e,q1,q2,q⟩:=q1
 subst e
 cases r1 with
 | cons r rr =>
  cases rr
  obtain⟨t,rfl⟩:=r
  exact call_range_1 (aS8 I1 (by omega) (by omega) q1 q2 (by simpa using q))
theorem ar5 {a b:Expr}{ta:TA}{p:Pos}(hg:Gl X "range")(hm:X.mg "range"=none)(ha:PA X [a,b] ta)(hs:B3 [a,b] X.env=[(false,eval a X.env),(false,eval b X.env)]:=by rfl)(hs2:B3 [b] X.env=[(false,eval b X.env)]:=by rfl) :
  PI X tg (.Call (.Name "range" p) [a,b] [] pos) (ce3 ta):=by
 intro pins s σ H R I h
 refine Call_ (Z6 I hg hm boot_range (PyProof.Rows.callWith_type1 (thn (ha pos pins s σ H _ I h) fun us s1 ⟨vs,H1,I1,r1,q1⟩=>?_) (by rw[hs,hs2]) (by rw[hs2];rfl)))
 obtain⟨i,j,e,⟨q1,q2,q3,q4⟩,q⟩:=q1
 subst e
 cases r1 with
 | cons r rr =>
  cases rr with
  | cons r' rr =>
   cases rr
   obtain⟨t,rfl⟩:=r
   obtain⟨t',rfl⟩:=r'
   exact call_range_2 (aS8 I1 q1 q2 q3 q4 q)
def ch0 (wi:TI)(g:TG)(tb:TS):TS:=fun D σ H=>wi σ H fun J H1=>∃ W:Nat->Nat->St->Hp->Prop,(∃ m,W 0 m σ H1)/\∀ i m σ H,W i m σ H ->
 (J.stop i H/\D.nx σ H)\/(J.go i H/\∃ N:St->Hp->Prop,(∀ σ' H',N σ' H'->∃ m',m'<m/\W (i+1) m' σ' H')/\∀ x H',J.yld i H x H'->g x σ H' fun σ2 H2=>tb { D with nx:=N,ct:=N,bk:=D.nx } σ2 H2)
def ag6 (fp:List Addr)(h:Heap):List (Addr × Obj):=fp.filterMap fun b=>(h.get? b).map fun o=>(b,o)
theorem M0 {b:Addr}{o:Obj}(hb:b∈fp)(e:h.get? b=some o):(b,o)∈ag6 fp h:=ae4.mpr ⟨b,hb,by rw[e];rfl⟩
theorem bl9 {p:Addr × Obj}(hp:p∈ag6 fp h):p.1∈fp/\h.get? p.1=some p.2:=by
 obtain⟨b,hb,e⟩:=ae4.mp hp
 cases q:h.get? b with
 | none=>rw[q]at e;cases e
 | some o =>
  rw[q]at e
  have e':(b,o)=p:=Option.some.inj e
  subst e'
  exact⟨hb,q⟩
theorem Inv.pinned (I:Inv X pins σ H s)(hf:∀ b∈fp,O2 X pins H b)(ho:∀ b∈fp,∃ o,s.heap.get? b=some o/\∀ v,o.data≠.cell v):Inv X (pins++ag6 fp s.heap) σ H s:=
 I.pins_of fun p hp=>(l9.mp hp).elim (fun z=>I.pin p (k6 _ z)) fun z=>by
  obtain⟨hb,e⟩:=bl9 z
  obtain⟨f0,f1,f2,_⟩:=hf p.1 hb
  obtain⟨o,e',d⟩:=ho p.1 hb
  rw[e]at e';cases e'
  exact⟨e,f0,f1,f2,d⟩
theorem Inv.unpinned {pl:List (Addr × Obj)}(I:Inv X (pins++pl) σ H s):Inv X pins σ H s:=I.pins_of fun p hp=>I.pin p (k6 _ (at6 _ hp))
theorem Q9 {iter:Expr}{body:List Stmt}{wi:TI}{g:TG}{tb:TS}(hp:PassesOwn (p0 X.prog X.w) X.A X.env X.xe)(hc:X.calm=true)(hi:PI X tg iter wi)(hg:PG X tg g)(hb:PSs X body tb)
  (hs:∀ x,X8 iter X.env x=pure x:=by intro _;rfl):PS X (.For tg iter body [] pos) (ch0 wi g tb):=by
 intro pins s σ H D I h
 refine wpAny_For (thn (hi pins s σ H _ I h) fun v s1 h1=>thn h1 fun itv s2 h2=>?_) hs
 obtain⟨it,fp,tn,J,H2,e,I2,T,st2,f2,W,⟨m0,w0⟩,turn⟩:=h2
 subst e
 have stat:∀ {H':Hp},(∀ b∈fp,H' b=none)->∀ b∈fp,O2 X pins H' b:=fun hn b hb=>⟨hn b hb,(f2 b hb).2⟩
 refine codeAny_forLoop_any (fun n s'=>∃ i σ' H',Inv X pins σ' H' s'/\tn i s'.heap/\(∀ b∈fp,H' b=none)/\W i n σ' H') ?_ m0 ⟨0,σ,H2,I2,st2,fun b hb=>(f2 b hb).1,w0⟩
 rintro n s3 ⟨i,σ3,H3,I3,st3,fr3,w3⟩
 rcases turn i n σ3 H3 w3 with⟨stop,qn⟩ | ⟨go,N,hN,step⟩
 ·refine Q4 hp (thn (T.done X rfl rfl rfl hc i pins s3 σ3 H3 X.xe I3 (stat fr3) st3 stop) fun r s4 ⟨hr,I4⟩=>?_)
  subst hr
  exact ae7 ⟨σ3,H3,I4,qn⟩
 ·refine Q4 hp (thn (T.item X rfl rfl rfl hc i pins s3 σ3 H3 X.xe I3 (stat fr3) st3 go) fun r s4 ⟨u,hr,h4⟩=>?_)
  subst hr
  refine Q4 hp (thn h4 fun _ s5 ⟨x,H5,I5,r5,y5,st5,fr5⟩=>?_)
  have I5':=I5.pinned (stat fr5) (T.obj _ _ st5)
  refine Q4 hp (thn (hg _ s5 σ3 H5 x u _ I5' r5 (step x H5 y5)) fun _ s6 ⟨σ6,H6,I6,q6⟩=>?_)
  refine Q4 hp (thn (hb _ s6 σ6 H6 _ I6 q6) fun f s7 q7=>?_)
  have bj3:∀ {σ7:St} {H7:Hp},Inv X (pins++ag6 fp s5.heap) σ7 H7 s7->N σ7 H7->∃ m,m<n/\∃ i σ' H',Inv X pins σ' H' s7/\tn i s7.heap/\(∀ b∈fp,H' b=none)/\W i m σ' H':=fun {σ7 H7} I7 n7=>by
   obtain⟨m',hm,w7⟩:=hN σ7 H7 n7
   refine⟨m',hm,i+1,σ7,H7,I7.unpinned,T.keep _ _ _ st5 fun b hb o e=>(I7.pin (b,o) (k6 _ (k6 _ (M0 hb e)))).1,fun b hb=>?_,w7⟩
   obtain⟨o,e,d⟩:=T.obj _ _ st5 b hb
   exact(I7.pin (b,o) (k6 _ (k6 _ (M0 hb e)))).2.1
  cases f with
  | next=>obtain⟨σ7,H7,I7,n7⟩:=q7;exact bj3 I7 n7
  | cont=>obtain⟨σ7,H7,I7,n7⟩:=q7;exact bj3 I7 n7
  | brk=>obtain⟨σ7,H7,I7,q7⟩:=q7;exact⟨σ7,H7,I7.unpinned,q7⟩
  | ret v=>obtain⟨x7,σ7,H7,I7,r7,q7⟩:=q7;exact⟨x7,σ7,H7,I7.unpinned,r7,q7⟩
theorem ao7 {K:W.Frag}{g:TG}{tb:TS}{D:Ends}(Pv:Nat->St->Hp->Prop)(h0:Pv 0 σ H)(hl:∀ i σ H,i<=xs.length->Pv i σ H->SqL K H a xs)
  (hs:∀ i x σ H,xs[i]?=some x->Pv i σ H->g x σ H fun σ2 H2=>tb { D with nx:=Pv (i+1),ct:=Pv (i+1),bk:=D.nx } σ2 H2)(hd:∀ σ H,Pv xs.length σ H->D.nx σ H) :
  ∃ W:Nat->Nat->St->Hp->Prop,(∃ m,W 0 m σ H)/\∀ i m σ H,W i m σ H ->
   ((Itl K a).stop i H/\D.nx σ H)\/((Itl K a).go i H/\∃ N:St->Hp->Prop,(∀ σ' H',N σ' H'->∃ m',m'<m/\W (i+1) m' σ' H')/\∀ x H',(Itl K a).yld i H x H'->g x σ H' fun σ2 H2=>tb { D with nx:=N,ct:=N,bk:=D.nx } σ2 H2):=by
 refine⟨fun i m σ H=>m=xs.length - i/\i<=xs.length/\Pv i σ H,⟨xs.length,by simp,u7 _,h0⟩,?_⟩
 rintro i m σ H ⟨rfl,hi,p⟩
 have q:=hl i σ H hi p
 by_cases hlt:i<xs.length
 ·refine .inr ⟨⟨xs,xs[i],q,by simp[hlt]⟩,Pv (i+1),fun σ' H' p'=>⟨xs.length - (i+1),by omega,rfl,hlt,p'⟩,fun x H' y=>?_⟩
  obtain⟨e,y⟩:=y
  subst e
  exact hs i x σ _ (y xs q) p
 ·have e:i=xs.length:=by omega
  subst e
  exact .inl ⟨⟨xs,q,c6 _⟩,hd σ H p⟩
theorem bh2 {K:W.Frag}{g:TG}{tb:TS}{D:Ends}(Pv:Nat->St->Hp->Prop)(h0:Pv 0 σ H)(hl:∀ i σ H,i<=xs.length->Pv i σ H->SqT K H a xs)
  (hs:∀ i x σ H,xs[i]?=some x->Pv i σ H->g x σ H fun σ2 H2=>tb { D with nx:=Pv (i+1),ct:=Pv (i+1),bk:=D.nx } σ2 H2)(hd:∀ σ H,Pv xs.length σ H->D.nx σ H) :
  ∃ W:Nat->Nat->St->Hp->Prop,(∃ m,W 0 m σ H)/\∀ i m σ H,W i m σ H ->
   ((Itt K a).stop i H/\D.nx σ H)\/((Itt K a).go i H/\∃ N:St->Hp->Prop,(∀ σ' H',N σ' H'->∃ m',m'<m/\W (i+1) m' σ' H')/\∀ x H',(Itt K a).yld i H x H'->g x σ H' fun σ2 H2=>tb { D with nx:=N,ct:=N,bk:=D.nx } σ2 H2):=by
 refine⟨fun i m σ H=>m=xs.length - i/\i<=xs.length/\Pv i σ H,⟨xs.length,by simp,u7 _,h0⟩,?_⟩
 rintro i m σ H ⟨rfl,hi,p⟩
 have q:=hl i σ H hi p
 by_cases hlt:i<xs.length
 ·refine .inr ⟨⟨xs,xs[i],q,by simp[hlt]⟩,Pv (i+1),fun σ' H' p'=>⟨xs.length - (i+1),by omega,rfl,hlt,p'⟩,fun x H' y=>?_⟩
  obtain⟨e,y⟩:=y
  subst e
  exact hs i x σ _ (y xs q) p
 ·have e:i=xs.length:=by omega
  subst e
  exact .inl ⟨⟨xs,q,c6 _⟩,hd σ H p⟩
theorem aa7 {lo:Int}{g:TG}{tb:TS}{D:Ends}(Pv:Nat->St->Hp->Prop)(h0:Pv 0 σ H)
  (hs:∀ i σ H,i<n->Pv i σ H->g (.int (lo+i)) σ H fun σ2 H2=>tb { D with nx:=Pv (i+1),ct:=Pv (i+1),bk:=D.nx } σ2 H2)(hd:∀ σ H,Pv n σ H->D.nx σ H) :
  ∃ W:Nat->Nat->St->Hp->Prop,(∃ m,W 0 m σ H)/\∀ i m σ H,W i m σ H ->
   ((Itr lo n).stop i H/\D.nx σ H)\/((Itr lo n).go i H/\∃ N:St->Hp->Prop,(∀ σ' H',N σ' H'->∃ m',m'<m/\W (i+1) m' σ' H')/\∀ x H',(Itr lo n).yld i H x H'->g x σ H' fun σ2 H2=>tb { D with nx:=N,ct:=N,bk:=D.nx } σ2 H2):=by
 refine⟨fun i m σ H=>m=n - i/\i<=n/\Pv i σ H,⟨n,by simp,u7 _,h0⟩,?_⟩
 rintro i m σ H ⟨rfl,hi,p⟩
 by_cases hlt:i<n
 ·refine .inr ⟨hlt,Pv (i+1),fun σ' H' p'=>⟨n - (i+1),by omega,rfl,hlt,p'⟩,fun x H' y=>?_⟩
  obtain⟨e,y⟩:=y
  subst e y
  exact hs i σ _ hlt p
 ·have e:i=n:=by omega
  subst e
  exact .inl ⟨c6 _,hd σ H p⟩
abbrev R2:=V->V->Hp->VK->Prop
def OpR (X:Cx)(f:Value->Value->Sem Value)(r:R2):Prop:=
 ∀ (pins:List (Addr × Obj)) (s:Shared) (σ:St) (H:Hp) (x y:V) (v u:Value) (Q:VK),Inv X pins σ H s->RelV x v->RelV y u->r x y H Q ->
  m5 (p0 X.prog X.w) X.A (f v u) (EP X pins σ Q) X.xe s
def UnR (X:Cx)(f:Value->Sem Value)(r:V->Hp->VK->Prop):Prop:=
 ∀ (pins:List (Addr × Obj)) (s:Shared) (σ:St) (H:Hp) (x:V) (v:Value) (Q:VK),Inv X pins σ H s->RelV x v->r x H Q ->
  m5 (p0 X.prog X.w) X.A (f v) (EP X pins σ Q) X.xe s
def R9 (X:Cx)(f:Value)(r:List V->Hp->VK->Prop):Prop:=
 ∀ (pins:List (Addr × Obj)) (s:Shared) (σ:St) (H:Hp) (xs:List V) (us:List Value) (Q:VK),Inv X pins σ H s->B9 xs us->r xs H Q ->
  m5 (p0 X.prog X.w) X.A (call f us) (EP X pins σ Q) X.xe s
def ci7 (X:Cx)(r:V->Hp->(Bool->Hp->Prop)->Prop):Prop:=
 ∀ (pins:List (Addr × Obj)) (s:Shared) (σ:St) (H:Hp) (x:V) (v:Value) (Q:Bool->Hp->Prop),Inv X pins σ H s->RelV x v->r x H Q ->
  m5 (p0 X.prog X.w) X.A (truthy v) (TP X pins σ Q) X.xe s
def tOp (r:R2)(ta tb:TE):TE:=fun σ H Q=>ta σ H fun x H1=>tb σ H1 fun y H2=>r x y H2 Q
def tUn (r:V->Hp->VK->Prop)(ta:TE):TE:=fun σ H Q=>ta σ H fun x H1=>r x H1 Q
def rI (C:Int->Int->Prop)(g:Int->Int->V):R2:=fun x y H Q=>∃ i j,x=.int i/\y=.int j/\C i j/\Q (g i j) H
def rI0 (g:Int->Int->V):R2:=fun x y H Q=>∃ i j,x=.int i/\y=.int j/\Q (g i j) H
def rU (g:Int->V):V->Hp->VK->Prop:=fun x H Q=>∃ i,x=.int i/\Q (g i) H
section
variable {a b c:Expr} {tb tc:TE}
theorem bW4 (ha:PE X a ta)(hb:PE X b tb){R:V->V->Hp->Prop}(I:Inv X pins σ H s)
  (h:ta σ H fun x H1=>tb σ H1 fun y H2=>R x y H2){f:Value->Value->Sem Value}
  (hf:∀ v u s2 x y H2,Inv X pins σ H2 s2->RelV x v->RelV y u->R x y H2->m5 (p0 X.prog X.w) X.A (f v u) Q X.xe s2) :
  m5 (p0 X.prog X.w) X.A (eval a X.env) (fun v s₁=>m5 (p0 X.prog X.w) X.A (eval b X.env) (fun u s₂=>m5 (p0 X.prog X.w) X.A (f v u) Q X.xe s₂) X.xe s₁) X.xe s:=by
 refine thn (ha pins s σ H _ I h) fun v s1 ⟨x,H1,I1,r1,q1⟩=>?_
 refine thn (hb pins s1 σ H1 _ I1 q1) fun u s2 ⟨y,H2,I2,r2,q2⟩=>?_
 exact hf v u s2 x y H2 I2 r1 r2 q2
theorem v8 {op:Operator}{r:R2}(ho:OpR X (O5 op) r)(ha:PE X a ta)(hb:PE X b tb):PE X (.BinOp a op b pos) (tOp r ta tb):=by
 intro pins s σ H Q I h
 exact wpAny_BinOp (bW4 ha hb I h fun v u s2 x y H2 I2 rx ry q=>ho pins s2 σ H2 x y v u Q I2 rx ry q)
theorem ak2 {op:UnaryOp}{r:V->Hp->VK->Prop}(ho:UnR X (unaryOp op) r)(ha:PE X a ta):PE X (.UnaryOp op a pos) (tUn r ta):=by
 intro pins s σ H Q I h
 exact UnaryOp_ (thn (ha pins s σ H _ I h) fun v s1 ⟨x,H1,I1,r1,q1⟩=>ho pins s1 σ H1 x v Q I1 r1 q1)
theorem opI {f:Value->Value->Sem Value}{C:Int->Int->Prop}{g:Int->Int->Int}
  (rule:∀ (i j:Int) (t u:Tok) (s:Shared) (Q:Value->Shared->Prop) (E:Value->Shared->Prop),C i j->Q (.int (g i j) s.toks) { s with toks:=s.toks+1 }->m5 (p0 X.prog X.w) X.A (f (.int i t) (.int j u)) Q E s) :
  OpR X f (rI C fun i j=>.int (g i j)):=by
 intro pins s σ H x y v u Q I rx ry h
 obtain⟨i,j,rfl,rfl,hc,q⟩:=h
 obtain⟨t,rfl⟩:=rx
 obtain⟨t',rfl⟩:=ry
 exact rule i j t t' s _ _ hc ⟨.int (g i j),H,I.tok _,⟨_,rfl⟩,q⟩
theorem bS6 {f:Value->Value->Sem Value}{g:Int->Int->Int}
  (rule:∀ (i j:Int) (t u:Tok) (s:Shared) (Q:Value->Shared->Prop) (E:Value->Shared->Prop),Q (.int (g i j) s.toks) { s with toks:=s.toks+1 }->m5 (p0 X.prog X.w) X.A (f (.int i t) (.int j u)) Q E s) :
  OpR X f (rI0 fun i j=>.int (g i j)):=by
 intro pins s σ H x y v u Q I rx ry h
 obtain⟨i,j,rfl,rfl,q⟩:=h
 obtain⟨t,rfl⟩:=rx
 obtain⟨t',rfl⟩:=ry
 exact rule i j t t' s _ _ ⟨.int (g i j),H,I.tok _,⟨_,rfl⟩,q⟩
theorem bS7 {f:Value->Value->Sem Value}{g:Int->Int->Bool}
  (rule:∀ (i j:Int) (t u:Tok) (s:Shared) (Q:Value->Shared->Prop) (E:Value->Shared->Prop),Q (.bool (g i j)) s->m5 (p0 X.prog X.w) X.A (f (.int i t) (.int j u)) Q E s) :
  OpR X f (rI0 fun i j=>.bl (g i j)):=by
 intro pins s σ H x y v u Q I rx ry h
 obtain⟨i,j,rfl,rfl,q⟩:=h
 obtain⟨t,rfl⟩:=rx
 obtain⟨t',rfl⟩:=ry
 exact rule i j t t' s _ _ ⟨.bl (g i j),H,I,rfl,q⟩
def ci9 (i j:Int):Prop:=0<j/\j<1073741824
def cg2 (i j:Int):Prop:=0<=j/\j<=1000000/\i.natAbs<2 ^ 64
def bX0 (i j:Int):Prop:=(-(2 ^ 64)<i/\i<2 ^ 64)\/(-(2 ^ 64)<j/\j<2 ^ 64)
theorem bX0.ok {i j:Int}(h:bX0 i j):IntMulOk i j:=by
 rcases h with⟨h1,h2⟩ | ⟨h1,h2⟩
 ·exact .of_left (intBits_le_64 h1 h2)
 ·exact .of_right (intBits_le_64 h1 h2)
theorem aY6 (k:Nat):(0:Int)<=2 ^ k:=by
 rw[two_pow_cast]
 exact aD4 _
theorem N6:OpR X (O5 .Add) (rI0 fun i j=>.int (i+j)):=bS6 fun _ _ _ _ _ _ _ q=>add_int q
theorem az7:OpR X (O5 .Sub) (rI0 fun i j=>.int (i - j)):=bS6 fun _ _ _ _ _ _ _ q=>sub_int q
theorem ba9:OpR X (O5 .Mult) (rI bX0 fun i j=>.int (i*j)):=opI fun _ _ _ _ _ _ _ hc q=>mul_int q hc.ok
theorem P8:OpR X (O5 .FloorDiv) (rI ci9 fun i j=>.int (i / j)):=opI fun i j _ _ _ _ _ hc q=>by
 have h1:(0:Int)<j:=hc.1
 have h2:j<1073741824:=hc.2
 exact floordiv_int (by omega) (by rw[bd6 i (by omega)];exact q) (.inl (PyProof.noPylong_small (by omega)))
theorem K8:OpR X (O5 .Mod) (rI (fun _ j=>0<j) fun i j=>.int (i % j)):=opI fun i j _ _ _ _ _ hc q=>by
 have h1:(0:Int)<j:=hc
 exact mod_int' (by omega) (by rw[Int.fmod_eq_emod_of_nonneg i (by omega)];exact q)
theorem ba6:OpR X (O5 .Pow) (rI cg2 fun i j=>.int (i ^ j.toNat)):=opI fun _ _ _ _ _ _ _ hc q=>pow_int_small hc.1 hc.2.1 hc.2.2 q
theorem bS3:OpR X (O5 .LShift) (rI cg2 fun i j=>.int (i*2 ^ j.toNat)):=opI fun _ _ _ _ _ _ _ hc q=>lshift_int_small hc.1 hc.2.1 hc.2.2 q
theorem bS2:OpR X (O5 .RShift) (rI (fun _ j=>0<=j) fun i j=>.int (i / 2 ^ j.toNat)):=opI fun i j _ _ _ _ _ hc q =>
 rshift_int hc (by rw[bd6 i (aY6 _)];exact q)
theorem bS5:OpR X (O5 .BitAnd) (rI0 fun i j=>.int (Builtin.bitAnd i j)):=bS6 fun _ _ _ _ _ _ _ q=>and_int q
theorem unI {f:Value->Sem Value}{g:Int->Int}
  (rule:∀ (i:Int) (t:Tok) (s:Shared) (Q:Value->Shared->Prop) (E:Value->Shared->Prop),Q (.int (g i) s.toks) { s with toks:=s.toks+1 }->m5 (p0 X.prog X.w) X.A (f (.int i t)) Q E s) :
  UnR X f (rU fun i=>.int (g i)):=by
 intro pins s σ H x v Q I rx h
 obtain⟨i,rfl,q⟩:=h
 obtain⟨t,rfl⟩:=rx
 exact rule i t s _ _ ⟨.int (g i),H,I.tok _,⟨_,rfl⟩,q⟩
theorem Z4:UnR X (unaryOp .USub) (rU fun i=>.int (-i)):=unI fun _ _ _ _ _ q=>neg_int q
end
def cb4:V->V->Bool
 | .non,.non=>true | .non,.int _=>true | .int _,.non=>true | .non,.bl _=>true | .bl _,.non=>true | .non,.str _=>true | .str _,.non=>true
 | .int _,.int _=>true | .bl _,.bl _=>true | .str _,.str _=>true | .byt _,.byt _=>true
 | .int _,.str _=>true | .str _,.int _=>true | .bl _,.str _=>true | .str _,.bl _=>true
 | _,_=>false
def rEq:R2:=fun x y H Q=>cb4 x y=true/\Q (.bl (decide (x=y))) H
def rNe:R2:=fun x y H Q=>cb4 x y=true/\Q (.bl (!decide (x=y))) H
theorem bh9 {i j:Int}:decide (V.int i=V.int j)=(i == j):=by
 rw[ap8]
 simp
theorem by0 {i j:Bool}:decide (V.bl i=V.bl j)=(i == j):=by
 rw[ap8]
 simp
theorem bh8 {i j:Str}:decide (V.str i=V.str j)=(i == j):=by
 rw[ap8]
 simp
theorem bi0 {i j:Array UInt8}:decide (V.byt i=V.byt j)=(i.toList == j.toList):=by
 rw[ap8]
 cases i
 cases j
 simp
section
variable {a b c:Expr} {tb tc:TE}
theorem D9 {Q:VK}{k k':Bool}(I:Inv X pins σ H s)(q:Q (.bl k) H)(e:k=k'):EP X pins σ Q (.bool k') s:=by
 subst e
 exact⟨.bl k,H,I,rfl,q⟩
theorem R0:OpR X (E1 .Eq) rEq:=by
 intro pins s σ H x y v u Q I rx ry h
 obtain⟨hs,q⟩:=h
 cases x with
 | non =>
  cases rx
  cases y with
  | non=>cases ry;exact PySem.EqNone.eq_none_none (D9 I q (by simp))
  | bl j=>cases ry;exact PySem.EqNone.eq_none_bool (D9 I q (by simp))
  | int j=>obtain⟨t',rfl⟩:=ry;exact PySem.EqNone.eq_none_int (D9 I q (by simp))
  | str j=>obtain⟨t',rfl⟩:=ry;exact PySem.EqNone.eq_none_str (D9 I q (by simp))
  | _=>exact absurd (show false=true from hs) g8
 | bl i =>
  cases rx
  cases y with
  | non=>cases ry;exact PySem.EqNone.eq_bool_none (D9 I q (by simp))
  | bl j=>cases ry;exact eq_bool (D9 I q by0)
  | str j=>obtain⟨t',rfl⟩:=ry;exact PySem.EqMixed.eq_bool_str (D9 I q (by simp))
  | _=>exact absurd (show false=true from hs) g8
 | int i =>
  obtain⟨t,rfl⟩:=rx
  cases y with
  | non=>cases ry;exact PySem.EqNone.eq_int_none (D9 I q (by simp))
  | int j=>obtain⟨t',rfl⟩:=ry;exact eq_int (D9 I q bh9)
  | str j=>obtain⟨t',rfl⟩:=ry;exact PySem.EqMixed.eq_int_str (D9 I q (by simp))
  | _=>exact absurd (show false=true from hs) g8
 | str i =>
  obtain⟨t,rfl⟩:=rx
  cases y with
  | non=>cases ry;exact PySem.EqNone.eq_str_none (D9 I q (by simp))
  | bl j=>cases ry;exact PySem.EqMixed.eq_str_bool (D9 I q (by simp))
  | int j=>obtain⟨t',rfl⟩:=ry;exact PySem.EqMixed.eq_str_int (D9 I q (by simp))
  | str j=>obtain⟨t',rfl⟩:=ry;exact eq_str (D9 I q bh8)
  | _=>exact absurd (show false=true from hs) g8
 | byt i =>
  obtain⟨t,rfl⟩:=rx
  cases y with
  | byt j=>obtain⟨t',rfl⟩:=ry;exact PySem.W.eq_bytes (D9 I q bi0)
  | _=>exact absurd (show false=true from hs) g8
 | _=>cases y<;>exact absurd (show false=true from hs) g8
theorem an7:OpR X (E1 .NotEq) rNe:=by
 intro pins s σ H x y v u Q I rx ry h
 obtain⟨hs,q⟩:=h
 cases x with
 | non =>
  cases rx
  cases y with
  | non=>cases ry;exact PySem.EqNone.ne_none_none (D9 I q (by simp))
  | bl j=>cases ry;exact PySem.EqNone.ne_none_bool (D9 I q (by simp))
  | int j=>obtain⟨t',rfl⟩:=ry;exact PySem.EqNone.ne_none_int (D9 I q (by simp))
  | str j=>obtain⟨t',rfl⟩:=ry;exact PySem.EqNone.ne_none_str (D9 I q (by simp))
  | _=>exact absurd (show false=true from hs) g8
 | bl i =>
  cases rx
  cases y with
  | non=>cases ry;exact PySem.EqNone.ne_bool_none (D9 I q (by simp))
  | bl j=>cases ry;exact ne_bool (D9 I q (congrArg not by0))
  | str j=>obtain⟨t',rfl⟩:=ry;exact PySem.EqMixed.ne_bool_str (D9 I q (by simp))
  | _=>exact absurd (show false=true from hs) g8
 | int i =>
  obtain⟨t,rfl⟩:=rx
  cases y with
  | non=>cases ry;exact PySem.EqNone.ne_int_none (D9 I q (by simp))
  | int j=>obtain⟨t',rfl⟩:=ry;exact ne_int (D9 I q (congrArg not bh9))
  | str j=>obtain⟨t',rfl⟩:=ry;exact PySem.EqMixed.ne_int_str (D9 I q (by simp))
  | _=>exact absurd (show false=true from hs) g8
 | str i =>
  obtain⟨t,rfl⟩:=rx
  cases y with
  | non=>cases ry;exact PySem.EqNone.ne_str_none (D9 I q (by simp))
  | bl j=>cases ry;exact PySem.EqMixed.ne_str_bool (D9 I q (by simp))
  | int j=>obtain⟨t',rfl⟩:=ry;exact PySem.EqMixed.ne_str_int (D9 I q (by simp))
  | str j=>obtain⟨t',rfl⟩:=ry;exact ne_str (D9 I q (congrArg not bh8))
  | _=>exact absurd (show false=true from hs) g8
 | byt i =>
  obtain⟨t,rfl⟩:=rx
  cases y with
  | byt j=>obtain⟨t',rfl⟩:=ry;exact PySem.W.ne_bytes (D9 I q (congrArg not bi0))
  | _=>exact absurd (show false=true from hs) g8
 | _=>cases y<;>exact absurd (show false=true from hs) g8
theorem az8:OpR X (E1 .Lt) (rI0 fun i j=>.bl (decide (i<j))):=bS7 fun _ _ _ _ _ _ _ q=>lt_int q
theorem an8:OpR X (E1 .LtE) (rI0 fun i j=>.bl (decide (i<=j))):=bS7 fun _ _ _ _ _ _ _ q=>le_int q
theorem bM3:OpR X (E1 .GtE) (rI0 fun i j=>.bl (decide (j<=i))):=bS7 fun _ _ _ _ _ _ _ q=>ge_int q
theorem aN2:OpR X (E1 .IsNot) (fun x y H Q=>y=.non/\Q (.bl (!decide (x=.non))) H):=by
 intro pins s σ H x y v u Q I rx ry h
 obtain⟨rfl,q⟩:=h
 cases ry
 refine isnot_none_gen (D9 I q ?_)
 cases x<;>first
  | (cases rx;rfl)
  | (obtain⟨t,rfl⟩:=rx;rfl)
theorem A9 (b:Expr){op:CmpOp}(h:op≠.In:=by decide)(h2:op≠.NotIn:=by decide):am1 op b=false:=by
 have e1:(op == CmpOp.In)=false:=by cases op<;>first | rfl | exact absurd rfl h
 have e2:(op == CmpOp.NotIn)=false:=by cases op<;>first | rfl | exact absurd rfl h2
 cases b<;>simp[am1,e1,e2]
theorem T5 {op:CmpOp}{r:R2}(ho:OpR X (E1 op) r)(ha:PE X a ta)(hb:PE X b tb)(hm:am1 op b=false):PE X (.Compare a [op] [b] pos) (tOp r ta tb):=by
 intro pins s σ H Q I h
 exact wpAny_Compare1 (bW4 ha hb I h fun v u s2 x y H2 I2 rx ry q=>ho pins s2 σ H2 x y v u Q I2 rx ry q) hm
def bK6 (t:TE):TT:=fun σ H Q=>t σ H fun x H'=>∃ k,x=.bl k/\Q k H'
theorem A0 {op:CmpOp}{r:R2}(ho:OpR X (E1 op) r)(ha:PE X a ta)(hb:PE X b tb)(hm:am1 op b=false):PT X (.Compare a [op] [b] pos) (bK6 (tOp r ta tb)):=by
 intro pins s σ H Q I h
 refine bN3 (thn (ha pins s σ H _ I h) fun v s1 ⟨x,H1,I1,r1,q1⟩=>thn (hb pins s1 σ H1 _ I1 q1) fun u s2 ⟨y,H2,I2,r2,q2⟩ =>
  thn (ho pins s2 σ H2 x y v u _ I2 r1 r2 q2) fun c s3 ⟨z,H3,I3,r3,k,e,q3⟩=>?_) hm
 subst e
 cases r3
 exact G1 ⟨H3,I3,q3⟩
def bq6 (r r':R2)(ta tb tc:TE):TE:=fun σ H Q=>ta σ H fun x H1=>tb σ H1 fun y H2=>r x y H2 fun z H3=>∃ k,z=.bl k /\
 (if k=true then tc σ H3 fun w' H4=>r' y w' H4 Q else Q (.bl false) H3)
theorem aT3 {op op':CmpOp}{r r':R2}(ho:OpR X (E1 op) r)(ho':OpR X (E1 op') r')(ha:PE X a ta)(hb:PE X b tb)(hc:PE X c tc)
  (hm:lastMarks [op,op'] [b,c]=false:=by with_unfolding_all rfl):PE X (.Compare a [op,op'] [b,c] pos) (bq6 r r' ta tb tc):=by
 intro pins s σ H Q I h
 refine Compare_chain (thn (ha pins s σ H _ I h) fun v s1 ⟨x,H1,I1,r1,q1⟩=>chain_link (thn (hb pins s1 σ H1 _ I1 q1) fun u s2 ⟨y,H2,I2,r2,q2⟩ =>
  thn (ho pins s2 σ H2 x y v u _ I2 r1 r2 q2) fun d s3 ⟨z,H3,I3,r3,k,e,q3⟩=>?_)) hm
 subst e
 cases r3
 refine G1 ?_
 cases k with
 | false=>exact ite_ff ⟨.bl false,H3,I3,rfl,q3⟩
 | true=>exact ite_tt (chain_last (thn (hc pins s3 σ H3 _ I3 q3) fun w' s4 ⟨z',H4,I4,r4,q4⟩=>ho' pins s4 σ H4 y z' u w' Q I4 r2 r4 q4))
theorem az4 {op op':CmpOp}{r r':R2}(ho:OpR X (E1 op) r)(ho':OpR X (E1 op') r')(ha:PE X a ta)(hb:PE X b tb)(hc:PE X c tc)
  (hm:lastMarks [op,op'] [b,c]=false:=by with_unfolding_all rfl):PT X (.Compare a [op,op'] [b,c] pos) (bK6 (bq6 r r' ta tb tc)):=by
 intro pins s σ H Q I h
 refine isTrue_chain (thn (ha pins s σ H _ I h) fun v s1 ⟨x,H1,I1,r1,q1⟩=>test_link (thn (hb pins s1 σ H1 _ I1 q1) fun u s2 ⟨y,H2,I2,r2,q2⟩ =>
  thn (ho pins s2 σ H2 x y v u _ I2 r1 r2 q2) fun d s3 ⟨z,H3,I3,r3,k,e,q3⟩=>?_)) hm
 subst e
 cases r3
 refine G1 ?_
 cases k with
 | false =>
  obtain⟨k',e',q'⟩:=q3
  cases e'
  exact ite_ff ⟨H3,I3,q'⟩
 | true =>
  refine ite_tt (test_last (thn (hc pins s3 σ H3 _ I3 q3) fun w' s4 ⟨z',H4,I4,r4,q4⟩=>thn (ho' pins s4 σ H4 y z' u w' _ I4 r2 r4 q4) fun d' s5 ⟨z2,H5,I5,r5,k2,e2,q5⟩=>?_))
  subst e2
  cases r5
  exact G1 ⟨H5,I5,q5⟩
def cf8 (K:W.Frag)(x:V)(H:Hp)(k:Bool):Prop:=
 match x with
 | .non=>k=false
 | .bl b=>k=b
 | .int i=>k=(i != 0)
 | .str y=>y.length<=c5/\k=((y.length:Int) != 0)
 | .byt y=>y.size<=c5/\k=((y.size:Int) != 0)
 | .ref p=>(∃ xs,SqL K H p xs/\k=!xs.isEmpty)\/(∃ xs,SqT K H p xs/\k=!xs.isEmpty)\/∃ kvs,H p=some (.dK kvs)/\k=!kvs.isEmpty
 | _=>False
theorem bc0 {κ:Type}{kvs:List (κ × V)}{vs:List (κ × Value)}(r:KV kvs vs):(!vs.isEmpty)=!kvs.isEmpty:=by
 cases r<;>rfl
theorem aA9 {its:List Value}(r:B9 xs its):(!its.toArray.isEmpty)=!xs.isEmpty:=by
 cases r<;>simp
theorem al2:(c5:Nat)<2 ^ 63:=by rw[D7];decide
theorem bO8:ci7 X (fun x H Q=>∃ k,cf8 X.K x H k/\Q k H):=by
 intro pins s σ H x v Q I rx h
 obtain⟨k,e,q⟩:=h
 have hl:=al2
 have hs:c5=16777216:=D7
 cases x with
 | non =>
  cases rx
  have e':k=false:=e
  subst e'
  exact truthy_none ⟨H,I,q⟩
 | bl b =>
  cases rx
  have e':k=b:=e
  subst e'
  exact G1 ⟨H,I,q⟩
 | int i =>
  obtain⟨t,rfl⟩:=rx
  have e':k=(i != 0):=e
  subst e'
  exact PySem.P.truthy_int ⟨H,I,q⟩
 | str y =>
  obtain⟨t,rfl⟩:=rx
  obtain⟨hy,e'⟩:y.length<=c5/\k=((y.length:Int) != 0):=e
  subst e'
  exact PySem.P.truthy_str (by omega) ⟨H,I.tok _,q⟩
 | byt y =>
  obtain⟨t,rfl⟩:=rx
  obtain⟨hy,e'⟩:y.size<=c5/\k=((y.size:Int) != 0):=e
  subst e'
  exact PySem.W.truthy_bytes (by omega) ⟨H,I.tok _,q⟩
 | ref p =>
  cases rx
  have e':(∃ xs,SqL X.K H p xs/\k=!xs.isEmpty)\/(∃ xs,SqT X.K H p xs/\k=!xs.isEmpty)\/∃ kvs,H p=some (.dK kvs)/\k=!kvs.isEmpty:=e
  rcases e' with⟨xs,hx,e'⟩ | ⟨xs,hx,e'⟩ | ⟨kvs,hx,e'⟩
  ·subst e'
   obtain⟨its,r,pl,hz⟩:=I.list hx
   have hlen:=r.length
   exact wpAny_truthy_list pl.isList (by simp only[d3];omega) ⟨H,I.tok _,by rw[aA9 r];exact q⟩
  ·subst e'
   obtain⟨its,r,pl,hz⟩:=I.tuple hx
   have hlen:=r.length
   exact truthy_tuple pl (by simp only[d3];omega) ⟨H,I.tok _,by rw[aA9 r];exact q⟩
  ·subst e'
   obtain⟨hz,hS,vs,r,m⟩:kvs.length<=c5/\(p == Q6)=false/\∃ vs,KV kvs vs/\s.heap.DictOf (N0 X.prog X.w) p vs:=I.hok p _ hx
   have hlen:kvs.length=vs.length:=Paired.length r
   exact wpAny_truthy_dict hS m (by omega) ⟨H,I.tok _,by rw[bc0 r];exact q⟩
 | _=>exact(show False from e).elim
theorem aS9 (ha:PE X a ta)(he:∀ whole,isTrue a X.env whole=(do let v <- whole;standAt a.pos;aQ2 [v] (truthy v))) :
  PT X a (fun σ H Q=>ta σ H fun x H'=>∃ k,cf8 X.K x H' k/\Q k H'):=by
 intro pins s σ H Q I h
 exact isTrue_plain (thn (ha pins s σ H _ I h) fun v s1 ⟨x,H1,I1,r1,q1⟩=>bO8 pins s1 σ H1 x v Q I1 r1 q1) (he _)
theorem vals1 {x:V}{us:List Value}(r:B9 [x] us):∃ u,us=[u]/\RelV x u:=by
 cases r with
 | cons r1 r2=>cases r2;exact⟨_,rfl,r1⟩
theorem vals2 {x y:V}{us:List Value}(r:B9 [x,y] us):∃ u w',us=[u,w']/\RelV x u/\RelV y w':=by
 cases r with
 | cons r1 r2 =>
  cases r2 with
  | cons r3 r4=>cases r4;exact⟨_,_,rfl,r1,r3⟩
theorem as5 (hc:X.calm=true):R9 X (.builtin "max") (fun xs H Q=>∃ i j,xs=[.int i,.int j]/\Q (.int (if j > i then j else i)) H):=by
 intro pins s σ H xs us Q I r h
 obtain⟨i,j,rfl,q⟩:=h
 obtain⟨u,w',rfl,⟨t,rfl⟩,⟨t',rfl⟩⟩:=vals2 r
 refine max_two_ints (I.ok.hd hc) fun h' tk k=>⟨_,H,I.kept k,?_,q⟩
 by_cases hj:j > i
 ·rw[if_pos hj,if_pos hj];exact⟨_,rfl⟩
 ·rw[if_neg hj,if_neg hj];exact⟨_,rfl⟩
theorem aj2 (hc:X.calm=true):R9 X (.builtin "min") (fun xs H Q=>∃ i j,xs=[.int i,.int j]/\Q (.int (if j<i then j else i)) H):=by
 intro pins s σ H xs us Q I r h
 obtain⟨i,j,rfl,q⟩:=h
 obtain⟨u,w',rfl,⟨t,rfl⟩,⟨t',rfl⟩⟩:=vals2 r
 refine min_two_ints (I.ok.hd hc) fun h' tk k=>⟨_,H,I.kept k,?_,q⟩
 by_cases hj:j<i
 ·rw[if_pos hj,if_pos hj];exact⟨_,rfl⟩
 ·rw[if_neg hj,if_neg hj];exact⟨_,rfl⟩
end
structure bW9 (h:Heap) (x dx C:Addr) (mA:Str->Option Value):Prop where
 obj:h.get? x=some (PySem.W.instObj C dx)
 ns:h.Ns1 dx mA
 ne:dx≠x
theorem bm2 {dx:Addr}(n:h.Ns1 dx mA):∃ od,h.get? dx=some od/\∀ name,PySem.W.lookIn name od=some (mA name):=by
 obtain⟨o,es,ep,ho,hd,hk,_,hm⟩:=n
 refine⟨o,ho,fun name=>?_⟩
 have e:=hm name
 unfold nsFind findBy at e
 rw[<- Array.find?_toList]at e
 unfold PySem.W.lookIn
 rw[hd]
 dsimp only
 split
 ·rename_i y q
  rw[q]at e
  exact congrArg some e
 ·rename_i q
  rw[q]at e
  have a:es.toList.any (·.refKey)=false:=by
   rw[List.any_eq_false]
   intro y hy
   obtain⟨z,t,hkey⟩:=hk y (aq5.mp hy)
   simp[DictEntry.refKey,hkey]
  have a':¬ es.toList.any (·.refKey)=true:=by rw[a];exact g8
  rw[if_neg a']
  exact congrArg some e
theorem bW9.look {x dx:Addr}(I:bW9 h x dx C mA):∃ od,PySem.W.InstAt h x (PySem.W.instObj C dx) C (some od)/\∀ name,PySem.W.lookIn name od=some (mA name):=
 let ⟨od,ho,hl⟩:=bm2 I.ns
 ⟨od,⟨I.obj,rfl,rfl,ho⟩,hl⟩
section
variable {K:W.Frag} {x dx:Addr} {name:Str}
end
theorem aC5.some_of {v:V}{o:Option Value}(r:aC5 (some v) o):∃ u,o=some u/\RelV v u:=by
 cases o with
 | none=>exact(show False from r).elim
 | some u=>exact⟨u,rfl,r⟩
section
variable {dx:Addr} {fs fs':List (Str × V)}
theorem bI4 (hok:HOk P w H h)(e:H a=some (.ins C dx fs)):∃ mA,bW9 h a dx C mA/\(∀ f,aC5 (fs.lookup f) (mA f))/\PySem.Within mA (fs.map (·.1))/\fs.length<=1000/\H dx=some (.own a):=by
 obtain⟨d,z,ne,ob,mA,n,r,q⟩:=(show F3 P w H h a (.ins C dx fs) from hok a _ e)
 exact⟨mA,⟨ob,n,ne⟩,r,q,z,d⟩
end
structure Cls (K:W.Frag) (C:Addr):Prop where
 pg:PySem.W.plainGet K C Str.empty=true
 hd:PySem.W.hasDictIn K C=true
 po:PySem.W.plainOver K C=true
 sa:PySem.W.findIn K (.ref C) "__setattr__"=some (some (.builtin "object.__setattr__"))
theorem Cls.get {K:W.Frag}(c:Cls K C)(f:Str):PySem.W.plainGet K C f=true:=c.pg
structure Con (K:W.Frag) (C:Addr) (f:Str) (v:V) (u:Value):Prop where
 at_:PySem.W.findIn K (.ref C) f=some (some u)
 rel:RelV v u
 get:PySem.W.specialIn K u "__get__"=some none
 cp:PySem.W.copiedNames.contains f=false
structure cj0 (K:W.Frag) (C:Addr) (m:Str) (f:Addr):Prop where
 at_:PySem.W.findIn K (.ref C) m=some (some (.ref f))
 fn:PySem.W.isFn K (.ref f)=true
 kp:i4 K (.ref f)=true
section
variable {dx:Addr} {fs:List (Str × V)} {f:Str} {v:V}
end
section
variable {value:Expr} {f:Str} {pos' tpos:Pos} {tv:TE}
end
section
variable {c:Value} {b:Bool}
inductive ap6 (K:W.Frag) (H:Hp):V->Value->Prop where
 | non:ap6 K H .non (.type "NoneType")
 | bl (x:Bool):ap6 K H (.bl x) (.type "bool")
 | int (i:Int):ap6 K H (.int i) (.type "int")
 | str (x:Str):ap6 K H (.str x) (.type "str")
 | flt (x:UInt64):ap6 K H (.flt x) (.type "float")
 | lst {a:Addr} {xs:List V} (e:H a=some (.lst xs)):ap6 K H (.ref a) (.type "list")
 | frz {a:Addr} {o:Obj} {xs:List V} (e:H a=some (.frz o (.lst xs))):ap6 K H (.ref a) (.type "list")
 | tup {a:Addr} {xs:List V} (e:H a=some (.tup xs)):ap6 K H (.ref a) (.type "tuple")
 | dK {a:Addr} {kvs:List (Key × V)} (e:H a=some (.dK kvs)):ap6 K H (.ref a) (.type "dict")
 | dT {a:Addr} {kvs:List (List Key × V)} (e:H a=some (.dT kvs)):ap6 K H (.ref a) (.type "dict")
 | ins {a C dx:Addr} {fs:List (Str × V)} (e:H a=some (.ins C dx fs)) (cl:Cls K C) (ha:PySem.W.findIn K (.ref C) "__class__"=some (some (.builtin "object.__class__")))
   (hn:PySem.W.specialIn K (.builtin "object.__class__") "__get__"=some (some (.builtin "getset_descriptor.__get__"))) (htk:PySem.W.takesIn K (.builtin "object.__class__")=some true)
   (hm:PySem.W.mroIn K C (.type "object")=some true):ap6 K H (.ref a) (.ref C)
theorem bn1 {x:V}{t:Value}(I:Inv X pins σ H s)(rx:RelV x u)(ty:ap6 X.K H x t)(e:PySem.W.kitOne X.K t c=some b)(h:∀ tk,Q (.bool b) { s with toks:=tk }) :
  m5 (p0 X.prog X.w) A (call (.builtin "isinstance") [u,c]) Q E s:=by
 cases ty with
 | non=>cases (show u=Value.none from rx);exact PySem.W.kia_one PySem.W.kitx_none I.kIn True.intro e (fun z=>nomatch z) h
 | bl y=>cases (show u=Value.bool y from rx);exact PySem.W.kia_one PySem.W.kitx_bool I.kIn True.intro e (fun z=>nomatch z) h
 | int i=>obtain⟨t,q⟩:=(show ∃ t,u=Value.int i t from rx);cases q;exact PySem.W.kia_one PySem.W.kitx_int I.kIn True.intro e (fun z=>nomatch z) h
 | str y=>obtain⟨t,q⟩:=(show ∃ t,u=Value.str y t from rx);cases q;exact PySem.W.kia_one PySem.W.kitx_str I.kIn True.intro e (fun z=>nomatch z) h
 | flt y=>obtain⟨t,q⟩:=(show ∃ t,u=Value.float y t from rx);cases q;exact PySem.W.kia_one PySem.W.kitx_float I.kIn True.intro e (fun z=>nomatch z) h
 | @lst a xs ea =>
  cases (show u=Value.ref a from rx)
  obtain⟨_,_,n,_,h1⟩:=(show F3 X.prog X.w H s.heap a (.lst xs) from I.hok a _ ea)
  exact PySem.W.kia_one PySem.W.kitx_list I.kIn ⟨_,h1,rfl⟩ e (fun z=>nomatch z) h
 | @frz a ob xs ea =>
  cases (show u=Value.ref a from rx)
  obtain⟨_,_,_,n,_,h1⟩:=(show F3 X.prog X.w H s.heap a (.frz ob (.lst xs)) from I.hok a _ ea)
  exact PySem.W.kia_one PySem.W.kitx_list I.kIn ⟨_,h1,rfl⟩ e (fun z=>nomatch z) h
 | @tup a xs ea =>
  cases (show u=Value.ref a from rx)
  obtain⟨_,_,_,p⟩:=(show F3 X.prog X.w H s.heap a (.tup xs) from I.hok a _ ea)
  obtain⟨o,h1,h2,_⟩:=p
  exact PySem.W.kia_one PySem.W.kitx_tuple I.kIn ⟨o,h1,h2⟩ e (fun z=>nomatch z) h
 | @dK a kvs ea =>
  cases (show u=Value.ref a from rx)
  obtain⟨_,_,vs,_,p⟩:=(show F3 X.prog X.w H s.heap a (.dK kvs) from I.hok a _ ea)
  obtain⟨o,es,ep,h1,h2,_⟩:=p
  exact PySem.W.kia_one PySem.W.kitx_dict I.kIn ⟨o,h1,h2.1⟩ e (fun z=>nomatch z) h
 | @dT a kvs ea =>
  cases (show u=Value.ref a from rx)
  obtain⟨_,_,xs,_,o,es,ep,h1,h2,_⟩:=(show F3 X.prog X.w H s.heap a (.dT kvs) from I.hok a _ ea)
  exact PySem.W.kia_one PySem.W.kitx_dict I.kIn ⟨o,h1,h2.1⟩ e (fun z=>nomatch z) h
 | @ins a C dx fs ea cl ha hn htk hm =>
  cases (show u=Value.ref a from rx)
  obtain⟨mA,O,_⟩:=bI4 I.hok ea
  obtain⟨od,J,_⟩:=O.look
  exact PySem.W.kia_one (PySem.W.kitx_own (cl.get _) cl.hd ha hn htk hm) I.kIn J e (fun z=>nomatch z) h
end
structure X4 (k:Nat) (A:Around):Prop where
 hd:A.handled=none
 dp:A.depth+3*k+5<aC9
 un:A.units+16*k+200<aa1
theorem X4.mono {k:Nat}(r:X4 k A)(h:j<=k):X4 j A:=⟨r.hd,by have:=r.dp;omega,by have:=r.un;omega⟩
theorem X4.deeper {k:Nat}(r:X4 (k+1) A)(env:Env):X4 k (A.deeper env):=
 ⟨r.hd,by have:=r.dp;show A.depth+1+3*k+5<_;omega,by have:=r.un;show A.units+3+16*k+200<_;omega⟩
theorem X4.depth {k:Nat}(r:X4 k A):A.depth<aC9:=by have:=r.dp;omega
theorem X4.units {k:Nat}(r:X4 k A):A.units+64<aa1:=by have:=r.un;omega
def aZ1:TA:=fun _ H Q=>Q [] H
def at7 (ta:TE)(tr:TA):TA:=fun σ H Q=>ta σ H fun x H1=>tr σ H1 fun xs H2=>Q (x::xs) H2
section
variable {es:List Expr} {t:TA}
theorem b7:PA X [] aZ1:=fun _ _ _ _ H Q I h=>Calls.spliced_nil ⟨[],H,I,.nil,h⟩
theorem a6 (ha:PE X e te)(hr:PA X es t)(hs:B3 (e::es) X.env=(false,eval e X.env)::B3 es X.env:=by rfl):PA X (e::es) (at7 te t):=by
 intro pos pins s σ H Q I h
 rw[hs]
 show m5 _ _ (spliced ((false,eval e X.env)::Z0 pos (B3 es X.env))) _ _ s
 refine Calls.spliced_cons (thn (ha pins s σ H _ I h) fun u s1 ⟨x,H1,I1,r1,q1⟩=>?_)
 exact thn (hr pos pins s1 σ H1 _ I1 q1) fun us s2 ⟨xs,H2,I2,r2,q2⟩=>⟨x::xs,H2,I2,.cons r1 r2,q2⟩
def bZ8 (t:TA):TE:=fun σ H Q=>t σ H fun xs H1=>xs.length<=c5/\∀ p,H1 p=none->Q (.ref p) (upd H1 p (.tup xs))
def cg8 (t:TA):TE:=fun σ H Q=>t σ H fun xs H1=>xs.length<=c5/\∀ p,H1 p=none->Q (.ref p) (upd H1 p (.lst xs))
theorem v9 {x1}(h:PA X es t):PE X (.Tuple es x1 pos) (bZ8 t):=by
 intro pins s σ H Q I hq
 refine wpAny_Tuple_spliced (thn (h pos pins s σ H _ I hq) fun us s1 ⟨xs,H1,I1,r,z,q⟩=>⟨by rw[<- r.length];exact z,?_⟩)
 have hf:H1 s1.heap.objs.size=none:=I1.hok.fresh (c6 _)
 refine⟨.ref s1.heap.objs.size,upd H1 s1.heap.objs.size (.tup xs),I1.laid (t':=s1.toks) (fun b u e=>a8 _ e) (c6 _) ?_,rfl,q _ hf⟩
 exact⟨z,us,r,⟨_,j3 _ rfl,rfl,_,rfl⟩⟩
theorem K7 (h:PA X es t):PE X (.List es pos) (cg8 t):=by
 intro pins s σ H Q I hq
 refine wpAny_List_spliced (thn (h pos pins s σ H _ I hq) fun us s1 ⟨xs,H1,I1,r,z,q⟩=>⟨by rw[<- r.length];exact z,?_⟩)
 have hf:H1 s1.heap.objs.size=none:=I1.hok.fresh (c6 _)
 refine⟨.ref s1.heap.objs.size,upd H1 s1.heap.objs.size (.lst xs),I1.laid (t':=s1.toks) (fun b u e=>a8 _ e) (c6 _) ?_,rfl,q _ hf⟩
 exact⟨z,us,0,r,j3 _ rfl⟩
end
abbrev Sp:=List V->Hp->VK->XK->Prop
abbrev CXT:=List Env->Hp->Shared->XK->Value->Shared->Prop
structure bJ7 (P:Program) (w:World) (K:W.Frag) (mg:Str->Option Value) (base:Heap) (A:Around) (outer:List Env) (s:Shared) (H:Hp):Prop where
 frames:A.frames=some outer
 mod:Mod K mg base
 bs:∀ b o,base.get? b=some o->s.heap.get? b=some o/\H b=none
 bsz:base.objs.size<=s.heap.objs.size
 funs:s.heap.FunFrames base outer
 frf:∀ b∈frs outer,H b=none
 hok:HOk P w H s.heap
 bare:am0 s.gens
def CE (outer:List Env)(P:Program)(w:World)(H:Hp)(s:Shared)(Q:VK)(u:Value)(s':Shared):Prop:=
 ∃ v H',s'.os=s.os/\am0 s'.gens/\Un (frs outer) [] H H' s.heap s'.heap/\HOk P w H' s'.heap/\RelV v u/\Q v H'
def CR (CX:CXT)(outer:List Env)(P:Program)(w:World)(H:Hp)(s:Shared)(Q:VK)(E:XK)(r:Result)(s':Shared):Prop:=
 match r with
 | .ok (.ret u)=>CE outer P w H s Q u s'
 | .ok _=>False
 | .error e=>CX outer H s E e s'
structure o4 (P:Program) (w:World) (K:W.Frag) (mg:Str->Option Value) (base:Heap) (CX:CXT) (k:Nat) (f:Addr) (fd:FuncData) (ps:List Str) (sp:Sp):Prop where
 len:∀ vs H Q E,sp vs H Q E->vs.length=ps.length
 run:∀ (A:Around) (outer:List Env) (s:Shared) (H:Hp) (args:Args) (us:List Value) (vs:List V) (Q:VK) (E:XK),X4 k A->bJ7 P w K mg base A outer s H->bj4 s fd args (ps.zip us)->B9 vs us->sp vs H Q E ->
  aD8 (p0 P w) A (.call (.ref f) args) (CR CX outer P w H s Q E) s
theorem o4.mono {K:W.Frag}{base:Heap}{CX:CXT}{k:Nat}{sp:Sp}(F:o4 P w K mg base CX j f fd ps sp)(h:j<=k) :
  o4 P w K mg base CX k f fd ps sp:=⟨F.len,fun A outer s H args us vs Q E hr=>F.run A outer s H args us vs Q E (hr.mono h)⟩
section
variable {s':Shared}
theorem Inv.env0 (I:Inv X pins σ H s):bJ7 X.prog X.w X.K X.mg X.base X.A X.stack s H:=
 ⟨I.ok.frames,I.ok.mod,I.bs,n8 I.ok.bsz I.sz,I.stack,I.stkFree,I.hok,I.bare⟩
theorem Inv.after {Q:VK}(I:Inv X pins σ H s)(h:CE X.stack X.prog X.w H s Q u s'):EP X pins σ Q u s':=by
 obtain⟨v,H',os,bare,un,hok,r,q⟩:=h
 obtain⟨hh,g,d,t,os'⟩:=s'
 obtain rfl:os'=s.os:=os
 exact⟨v,H',I.call (h':=hh) (g':=g) (d':=d) (t':=t) (ch:=[]) un hok bare (fun b z=>absurd z (by simp)),r,q⟩
end
def ca9 (sp:Sp)(dvs:List V)(E:XK)(t:TA):TE:=fun σ H Q=>t σ H fun vs H1=>sp (vs++dvs) H1 Q E
def Binds (K:W.Frag)(fd:FuncData)(ps:List Str)(ds:List Value):Prop:=
 ∀ (s:Shared) (us:List Value),K.In s.heap->(us++ds).length=ps.length->bj4 s fd ⟨us,[]⟩ (ps.zip (us++ds))
theorem Binds.all {K:W.Frag}(h:∀ us:List Value,us.length=ps.length->bB4 fd ⟨us,[]⟩=pure (ps.zip us)):Binds K fd ps []:=fun s us _ hl=>by
 rw[G2]at hl ⊢
 exact .of_eq (h us hl)
def as9 (CX:CXT)(X:Cx)(E:XK):Prop:=∀ (pins:List (Addr × Obj)) (σ:St) (H:Hp) (s:Shared) (e:Value) (s':Shared),Inv X pins σ H s->CX X.stack H s E e s'->X.xe e s'
section
variable {CX:CXT} {k:Nat} {sp:Sp} {dvs:List V} {ds:List Value} {E:XK} {m:Str} {p apos:Pos} {es:List Expr} {t:TA}
theorem bR1 {Q:VK}{us:List Value}{vs:List V}(F:o4 X.prog X.w X.K X.mg X.base CX k f fd ps sp)(hr:X4 k X.A)(hb:Binds X.K fd ps ds)(hd:B9 dvs ds)(hx:as9 CX X E)
  (I:Inv X pins σ H s)(r:B9 vs us)(h:sp (vs++dvs) H Q E):m5 (p0 X.prog X.w) X.A (call (.ref f) us) (EP X pins σ Q) X.xe s:=by
 have r2:B9 (vs++dvs) (us++ds):=r.append hd
 have hl:(us++ds).length=ps.length:=by rw[<- r2.length];exact F.len _ _ _ _ h
 refine bA1 (Z1 (F.run X.A X.stack s H ⟨us,[]⟩ (us++ds) (vs++dvs) Q E hr I.env0 (hb s us I.kIn hl) r2 h) fun r s' hq=>?_)
 cases r with
 | error e=>exact hx pins σ H s e s' I hq
 | ok fl =>
  cases fl with
  | ret u=>exact I.after hq
  | next=>exact False.elim hq
  | brk=>exact False.elim hq
  | cont=>exact False.elim hq
theorem j8 (F:o4 X.prog X.w X.K X.mg X.base CX k f fd ps sp)(hr:X4 k X.A)(hg:Gl X x)(hm:X.mg x=some (.ref f))(hk:i4 X.K (.ref f)=true)(hb:Binds X.K fd ps ds)(hd:B9 dvs ds)(hx:as9 CX X E)
  (ha:PA X (e::es) t)(hdb:(x == ("__debug__":Str))=false:=by decide)(he:B3 (e::es) X.env=(false,eval e X.env)::B3 es X.env:=by rfl)(hpl:(Z0 pos (B3 es X.env)).any (·.1)=false:=by rfl) :
  PE X (.Call (.Name x p) (e::es) [] pos) (ca9 sp dvs E t):=by
 intro pins s σ H Q I h
 refine P7 (ao3 I hg hm ?_ hdb)
 refine PySem.W.callWith_K (h₀:=X.base) I.ok.mod.kin hk (thn (ha pos pins s σ H _ I h) fun us s1 ⟨vs,H1,I1,r,q⟩=>⟨I1.kIn,?_⟩) he hpl
 exact bR1 F hr hb hd hx I1 r q
structure Mk (K:W.Frag) (C f:Addr):Prop where
 makes:PySem.W.makesIn K C=true
 init:PySem.W.findIn K (.ref C) "__init__"=some (some (.ref f))
 fn:PySem.W.isFn K (.ref f)=true
 kp:i4 K (.ref C)=true
end
def PK (X:Cx)(kws:List aD9)(t:TA):Prop:=
 ∀ (pos:Pos) (pins:List (Addr × Obj)) (s:Shared) (σ:St) (H:Hp) (Q:List V->Hp->Prop),Inv X pins σ H s->t σ H Q->m5 (p0 X.prog X.w) X.A (evalAll ((bB5 pos (aE0 kws X.env)).map (·.2))) (AP X pins σ Q) X.xe s
section
variable {CX:CXT} {k:Nat} {ks:List Str} {sp:Sp} {E:XK} {m:Str} {p apos kpos:Pos} {es:List Expr} {kws:List aD9} {t tk:TA} {nm:Option Str}
theorem bt2:PK X [] aZ1:=fun _ _ _ _ H Q I h=>wpAny_evalAll_nil ⟨[],H,I,.nil,h⟩
theorem bf5 (ha:PE X e te)(hr:PK X kws t):PK X (⟨nm,e,kpos⟩::kws) (at7 te t):=by
 intro pos pins s σ H Q I h
 show m5 _ _ (evalAll ((do let v <- eval e X.env;standAt pos;pure v)::(bB5 pos (aE0 kws X.env)).map (·.2))) _ _ s
 refine wpAny_evalAll_cons (a7 (thn (ha pins s σ H _ I h) fun u s1 ⟨x,H1,I1,r1,q1⟩=>a7 (V0 (b9 ?_))))
 exact thn (hr pos pins s1 σ H1 _ I1 q1) fun us s2 ⟨xs,H2,I2,r2,q2⟩=>⟨x::xs,H2,I2,.cons r1 r2,q2⟩
structure ci8 (K:W.Frag) (fd:FuncData) (ps ks:List Str) (g:List Value->List Value->List Value) (gV:List V->List V->List V):Prop where
 to:∀ (s:Shared) (us ws:List Value),K.In s.heap->(g us ws).length=ps.length->bj4 s fd ⟨us,ks.zip ws⟩ (ps.zip (g us ws))
 rel:∀ {vs:List V} {us:List Value} {zs:List V} {ws:List Value},B9 vs us->B9 zs ws->B9 (gV vs zs) (g us ws)
variable {g:List Value->List Value->List Value}
end
structure v7 (N P:List Str) (sc:Scope):Prop where
 kind:sc.kind=.function
 co:sc.isCoroutine=false
 gen:sc.isGenerator=false
 nd:N.Nodup
 pre:N.take P.length=P
 par:∀ x∈P,sc.names.lookup x=some .local\/sc.names.lookup x=some .cell
 nofree:∀ y∈sc.names,y.2≠.free
theorem v7.mk' {P:List Str}{sc:Scope}(a:sc.kind=.function:=by rfl)(b:sc.isCoroutine=false:=by rfl)(c:sc.isGenerator=false:=by rfl)(d:N.Nodup:=by decide +kernel)(e:N.take P.length=P:=by rfl)(f:∀ x∈P,sc.names.lookup x=some .local\/sc.names.lookup x=some .cell:=by decide +kernel)(g:∀ y∈sc.names,y.2≠.free:=by decide +kernel):v7 N P sc:=⟨a,b,c,d,e,f,g⟩
theorem aI2 {kindOf:Str->Option aJ2}:∀ {binds:List (Str × Value)} {m:Str->Option Value},(∀ v,(x,v)∉binds)->bindL kindOf binds m x=m x
 | [],_,_=>rfl
 | (n,v)::r,m,h=>by
  unfold bindL
  rw[aI2 fun w hw=>h w (d4 _ hw)]
  split
  ·have:x≠n:=by rintro rfl;exact h v f9
   simp[this]
  ·rfl
theorem aI4 {kindOf:Str->Option aJ2}:∀ {binds:List (Str × Value)} {m:Str->Option Value},(∀ v,(x,v)∉binds)->bindC kindOf binds m x=m x
 | [],_,_=>rfl
 | (n,v)::r,m,h=>by
  unfold bindC
  rw[aI4 fun w hw=>h w (d4 _ hw)]
  split
  ·rfl
  ·have:x≠n:=by rintro rfl;exact h v f9
   simp[this]
theorem aI3 {kindOf:Str->Option aJ2}:∀ {P:List Str} {vs:List Value} {i:Nat} {m:Str->Option Value},P.Nodup->P[i]?=some x->vs[i]?=some v->kindOf x=some .local ->
  bindL kindOf (P.zip vs) m x=some v
 | [],_,_,_,_,h,_,_=>by simp at h
 | _::_,[],_,_,_,_,h,_=>by simp at h
 | p::P,w::vs,0,m,nd,h1,h2,hk=>by
  simp at h1 h2;subst h1;subst h2
  show bindL kindOf ((p,w)::P.zip vs) m p=_
  unfold bindL
  rw[aI2 fun v hv=>(E9.mp nd).1 (ap9 hv).1,if_pos hk]
  simp
 | p::P,w::vs,i+1,m,nd,h1,h2,hk=>by
  show bindL kindOf ((p,w)::P.zip vs) m x=_
  unfold bindL
  exact aI3 (i:=i) (E9.mp nd).2 (by simpa using h1) (by simpa using h2) hk
theorem aI5 {kindOf:Str->Option aJ2}:∀ {P:List Str} {vs:List Value} {i:Nat} {m:Str->Option Value},P.Nodup->P[i]?=some x->vs[i]?=some v->kindOf x≠some .local ->
  bindC kindOf (P.zip vs) m x=some v
 | [],_,_,_,_,h,_,_=>by simp at h
 | _::_,[],_,_,_,_,h,_=>by simp at h
 | p::P,w::vs,0,m,nd,h1,h2,hk=>by
  simp at h1 h2;subst h1;subst h2
  show bindC kindOf ((p,w)::P.zip vs) m p=_
  unfold bindC
  rw[aI4 fun v hv=>(E9.mp nd).1 (ap9 hv).1,if_neg hk]
  simp
 | p::P,w::vs,i+1,m,nd,h1,h2,hk=>by
  show bindC kindOf ((p,w)::P.zip vs) m x=_
  unfold bindC
  exact aI5 (i:=i) (E9.mp nd).2 (by simpa using h1) (by simpa using h2) hk
def start (N:List Str)(vs:List V):St:=vs.map some++o8 (N.length - vs.length) none
def X2 (CX:CXT)(P:Program)(w:World)(K:W.Frag)(mg:Str->Option Value)(base:Heap)(N:List Str)(qual:Str)(scope:Scope)(f:Addr)(cd:Value)(A:Around)(outer:List Env)(s:Shared)(H:Hp)(E:XK):Cx where
 prog:=P
 w:=w
 K:=K
 mg:=mg
 base:=base
 A:=A.deeper (F4 qual scope s.heap.objs.size f cd)
 N:=N
 s₀:=s
 H₀:=H
 env:=F4 qual scope s.heap.objs.size f cd
 outer:=outer
 stack:=F4 qual scope s.heap.objs.size f cd::outer
 ex:=[]
 calm:=true
 fn:=fun _=>true
 pn:=[]
 xe:=fun e s'=>m5 (p0 P w) (A.deeper (F4 qual scope s.heap.objs.size f cd)) (leaving (F4 qual scope s.heap.objs.size f cd) e) (fun _ s''=>CX outer H s E e s'') (fun e' s''=>CX outer H s E e' s'') s'
theorem aW4 {sc:Scope}(h:sc.names.lookup x=some .cell):∃ c,(cellsFrom n sc.names []).lookup x=some c:=by
 have q:=PySem.W.cellsFrom_some sc.names n [] (.inl h)
 exact u4.mp q
theorem bn3 {CX:CXT}{K:W.Frag}{base:Heap}{cd:Value}{s1:Shared}{E:XK}{us:List Value}{vs:List V}
  (S:v7 N ps scope)(hd:A.handled=none)(e0:bJ7 P w K mg base A outer s H)(hl:vs.length=ps.length)(r:B9 vs us)
  (x:InCallC s s.heap.objs.size (bindL (F4 qual scope s.heap.objs.size f cd).kindOf (ps.zip us) fun _=>none) (cellsFrom (s.heap.objs.size+1) scope.names []) (bindC (F4 qual scope s.heap.objs.size f cd).kindOf (ps.zip us) fun _=>none) s1) :
  Inv (X2 CX P w K mg base N qual scope f cd A outer s H E) [] (start N vs) H s1:=by
 have hpl:ps.length<=N.length:=by have:=congrArg List.length S.pre;rw[t7]at this;omega
 obtain⟨h1,tk,rfl,hk⟩:=x.done
 have noA:∀ b:Addr,b∉(X2 CX P w K mg base N qual scope f cd A outer s H E).ex:=fun b z=>absurd (show b∈([]:List Addr) from z) (by simp)
 refine⟨⟨e0.mod,S.kind,rfl,rfl,c6 _,fun y z c h1 h2=>?_,fun y hy=>?_,fun y c _ h=>?_,fun _=>hd,Around.frames_deeper e0.frames,.inr ⟨rfl,rfl⟩,fun b z=>absurd z (noA b),e0.bs,e0.bsz,fun b _ _=>noA b,fun b z=>absurd z (noA b),e0.funs,e0.frf⟩,
  rfl,e0.bare,Un.kept hk,⟨_,x.toInCall.ns,fun i y v h1 h2 h3=>?_⟩,fun y c h=>⟨_,x.cell y c h⟩,e0.hok.fresh (c6 _),fun y c h=>?_,fun p hp=>absurd (show p∈([]:List (Addr × Obj)) from hp) (by simp),e0.hok.kept hk,?_⟩
 ·exact name_of_addr x.apart (PySem.mem_of_lookup h1) (PySem.mem_of_lookup h2)
 ·have hy:scope.names.lookup y=some .cell\/scope.names.lookup y=some .free:=hy
  rcases hy with hy | hy
  ·exact aW4 hy
  ·exact absurd rfl (S.nofree _ (PySem.mem_of_lookup hy))
 ·exact aq4 (x.above y c (PySem.mem_of_lookup h))
 ·have hi:i<vs.length:=by
   unfold start at h2
   by_cases hi:i<vs.length
   ·exact hi
   ·rw[ad7 (by simpa using hi)]at h2
    rw[List.getElem?_replicate]at h2
    split at h2<;>cases h2
  have ha:vs[i]?=some v:=by
   unfold start at h2
   rw[af1 (by simpa using hi),r6]at h2
   cases e:vs[i]? with
   | none=>rw[e]at h2;cases h2
   | some a=>rw[e]at h2;cases h2;rfl
  obtain⟨u,hu,rv⟩:=r.get ha
  have hp:ps[i]?=some y:=by
   rw[<- S.pre,ah3 (by omega)];exact h1
  have ndP:ps.Nodup:=by rw[<- S.pre];exact S.nd.sublist (M6 _ _)
  refine⟨u,rv,?_⟩
  rcases S.par y (d5 hp) with k | k
  ·exact .inl ⟨k,aI3 ndP hp hu k⟩
  ·obtain⟨c,e⟩:=aW4 (n:=s.heap.objs.size+1) k
   refine .inr ⟨.inl k,c,e,?_⟩
   have q:=x.cell y c e
   rw[aI5 ndP hp hu (by show scope.names.lookup y≠_;rw[k];decide)]at q
   exact q
 ·exact e0.hok.fresh (aq4 (x.above y c (PySem.mem_of_lookup h)))
 ·unfold start
  show _=N.length
  rw[j6,a9,aq0]
  omega
theorem bx3 {CX:CXT} {K:W.Frag} {base:Heap} {k:Nat} {name:Str} {body:List Stmt} {dV kV doc pm cdv ct oc:Value} {an od:Option Addr}
  {osl:Array (Option Value)} {sp:Sp} (lk:K.lookup f=some ⟨oc,od,.func (j4 name qual params body scope dV kV doc pm an cdv ct),osl⟩) (hcd:i6 K cdv qual=true) (S:v7 N ps scope)
  (len:∀ vs H Q E,sp vs H Q E->vs.length=ps.length)
  (hbody : ∀ (A : Around) (outer : List Env) (s : Shared) (H : Hp) (vs : List V) (Q : VK) (E : XK), X4 k (A.deeper (F4 qual scope s.heap.objs.size f cdv)) -> sp vs H Q E ->
   ∃ t,PSs (X2 CX P w K mg base N qual scope f cdv A outer s H E) body t/\t { nx:=fun _ H'=>Q .non H',rt:=Q } (start N vs) H) :
  o4 P w K mg base CX (k+1) f (j4 name qual params body scope dV kV doc pm an cdv ct) ps sp:=by
 refine⟨len,fun A outer s H args us vs Q E hr e0 hb r hsp=>?_⟩
 have hl:=len _ _ _ _ hsp
 have KX:K.In s.heap:=e0.mod.kin.keeps fun b o e=>(e0.bs b o e).1
 have lim:s.heap.NoLimit:=e0.mod.nolimit.keeps fun b o e=>(e0.bs b o e).1
 have hkind:∀ y∈ps.zip us,scope.names.lookup y.1=some .local\/(scope.names.lookup y.1=some .cell/\((cellsFrom (s.heap.objs.size+1) scope.names []).lookup y.1).isSome=true):=fun⟨n,v⟩ hy=>by
  rcases S.par n (ap9 hy).1 with q | q
  ·exact .inl q
  ·exact .inr ⟨q,PySem.W.cellsFrom_some _ _ _ (.inl q)⟩
 refine codeAny_call_function hr.depth (KX _ _ lk) rfl S.co S.gen rfl (PySem.W.codeRec_of KX hcd) (hb _ _ _ _ ?_)
 refine wpAny_newFunctionEnv_cells S.kind hkind fun env he s1 x=>?_
 subst he
 refine⟨lim.keeps x.toInCall.keep,codeAny_func ?_⟩
 obtain⟨t,ht,hq⟩:=hbody A outer s H vs Q E (hr.deeper _) hsp
 have I:Inv (X2 CX P w K mg base N qual scope f cdv A outer s H E) [] (start N vs) H s1:=bn3 S hr.hd e0 hl r x
 refine B6 (ht [] s1 (start N vs) H _ I hq) (fun fl s' hs=>?_) fun e s' hs=>hs
 have fin:∀ {σ':St} {H':Hp} {v:V} {u:Value},Inv (X2 CX P w K mg base N qual scope f cdv A outer s H E) [] σ' H' s'->RelV v u->Q v H'->CE outer P w H s Q u s':=
  fun {σ' H' v u} J rv q=>⟨v,H',J.os,J.bare,J.base,J.hok,rv,q⟩
 cases fl with
 | ret u =>
  obtain⟨v,σ',H',J,rv,q⟩:=hs
  exact fin J rv q
 | next =>
  obtain⟨σ',H',J,q⟩:=hs
  exact fin (v:=V.non) (u:=Value.none) J rfl q
 | brk =>
  obtain⟨_,_,_,q⟩:=hs
  exact False.elim q
 | cont =>
  obtain⟨_,_,_,q⟩:=hs
  exact False.elim q
section
variable {p:Pos} {es:List Expr} {t:TA} {id T:String} {r:List V->Hp->VK->Prop}
def tCB (r:List V->Hp->VK->Prop)(t:TA):TE:=fun σ H Q=>t σ H fun vs H1=>r vs H1 Q
theorem m7 (hc:R9 X (.builtin id) r)(hg:Gl X x)(hm:X.mg x=none)(hv:O4 x=some (.builtin id))(ha:PA X (e::es) t)(hn:x≠"__name__":=by decide)(hdb:(x == ("__debug__":Str))=false:=by decide)
  (he:B3 (e::es) X.env=(false,eval e X.env)::B3 es X.env:=by rfl)(hpl:(Z0 pos (B3 es X.env)).any (·.1)=false:=by rfl):PE X (.Call (.Name x p) (e::es) [] pos) (tCB r t):=by
 intro pins s σ H Q I h
 refine P7 (Z6 I hg hm hv ?_ hn hdb)
 exact PyProof.Rows.callWith_builtin1 (thn (ha pos pins s σ H _ I h) fun us s1 ⟨vs,H1,I1,r1,q1⟩=>hc pins s1 σ H1 vs us Q I1 r1 q1) he hpl
theorem D3 (hc:R9 X (.type T) r)(hg:Gl X x)(hm:X.mg x=none)(hv:O4 x=some (.type T))(ha:PA X (e::es) t)(hn:x≠"__name__":=by decide)(hdb:(x == ("__debug__":Str))=false:=by decide)
  (he:B3 (e::es) X.env=(false,eval e X.env)::B3 es X.env:=by rfl)(hpl:(Z0 pos (B3 es X.env)).any (·.1)=false:=by rfl):PE X (.Call (.Name x p) (e::es) [] pos) (tCB r t):=by
 intro pins s σ H Q I h
 refine P7 (Z6 I hg hm hv ?_ hn hdb)
 exact PyProof.Rows.callWith_type1 (thn (ha pos pins s σ H _ I h) fun us s1 ⟨vs,H1,I1,r1,q1⟩=>hc pins s1 σ H1 vs us Q I1 r1 q1) he hpl
end
end L2
namespace HT
open PySem PyProof.Rows
def lexLt:List Int->List Int->Bool
 | [],[]=>false
 | [],_::_=>true
 | _::_,[]=>false
 | x::xs,y::ys=>if x=y then lexLt xs ys else decide (x<y)
theorem ad0 (x y:Int)(xs ys:List Int):lexLt (x::xs) (y::ys)=if x=y then lexLt xs ys else decide (x<y):=rfl
theorem bx6 (A:Around)(s:Shared)(a:Int)(t:Tok)(c:Int)(u:Tok):∃ e,SeqAt.EqAt A s (.int a t) (.int c u) e/\(e=true↔a=c):=
 ⟨(a == c),SeqAt.EqAt.int_int a t c u,by simp⟩
section
open PySem.SeqAt
open PySem.AutoSeq1 (wpAny_loadPart')
open PySem.MeetsSeq PySem.MeetsSeq2 PySem.MeetsSeq3
end
theorem bJ2 {t b:Addr}{ws:List Value}(ht:IsTup s.heap t vs.toArray)(hb:IsTup s.heap b ws.toArray)(hv:vs≠[])
  (h1:ws=[]->Q (.ref t) s)(h2:ws≠[]->Q (.ref s.heap.objs.size) { s with heap:=s.heap.push { cls:=.type "tuple",data:=.seq (vs++ws).toArray } })
  (hsz:vs.length+ws.length<=c5):m5 (p0 prog w) A (O5 .Add (.ref t) (.ref b)) Q E s:=by
 obtain⟨⟨cls,dd,data,sl⟩,ho,hc,n,hd⟩:=id ht
 obtain⟨⟨cls2,dd2,data2,sl2⟩,ho2,hc2,n2,hd2⟩:=id hb
 simp only at hc hd hc2 hd2
 subst hc hd hc2 hd2
 have e:vs.toArray++ws.toArray=(vs++ws).toArray:=by simp
 by_cases hw:ws=[]
 ·exact aX3 ⟨_,ho,rfl⟩ ⟨_,ho2,rfl⟩ aq2 aJ3 PySem.F.slot_tuple_add PySem.F.entry_tuple_add (PySem.F.args_tuple_add_2 _ _)
   (tuple_addW1 t b vs.toArray ws.toArray n n2 dd dd2 sl sl2 (by simpa using hv) (by simp[hw])) ⟨ho,ho2,h1 hw⟩
 ·refine aX3 ⟨_,ho,rfl⟩ ⟨_,ho2,rfl⟩ aq2 aJ3 PySem.F.slot_tuple_add PySem.F.entry_tuple_add (PySem.F.args_tuple_add_2 _ _)
   (tuple_addW2 t b vs.toArray ws.toArray n n2 dd dd2 sl sl2 (by simpa using hv) (by simpa using hw) (by rw[d3,d3];exact hsz)) ⟨ho,ho2,?_⟩
  rw[e]
  exact h2 hw
def sIx (n d:Nat):Option Int->Nat
 | none=>d
 | some v=>if v<0 then (v+(n:Int)).toNat else min v.toNat n
theorem aS2 (n d:Nat):sIx n d none=d:=rfl
theorem bf1 (n d k:Nat):sIx n d (some (k:Int))=min k n:=by
 show (if (k:Int)<0 then ((k:Int)+(n:Int)).toNat else min (k:Int).toNat n)=min k n
 rw[if_neg (by omega),i3]
theorem bQ9 (n d:Nat)(hd:d<=n)(o:Option Int):sIx n d o<=n:=by
 cases o with
 | none=>exact hd
 | some v =>
  show (if v<0 then (v+(n:Int)).toNat else min v.toNat n)<=n
  by_cases hv:v<0
  ·rw[if_pos hv];omega
  ·rw[if_neg hv];exact al6 _ _
theorem bi1 (v:Int)(n d:Nat):(if v<0 then max (v+(n:Int)) 0 else min v (n:Int))=((sIx n d (some v):Nat):Int):=by
 show (if v<0 then max (v+(n:Int)) 0 else min v (n:Int))=(((if v<0 then (v+(n:Int)).toNat else min v.toNat n):Nat):Int)
 by_cases hv:v<0
 ·simp only[if_pos hv];omega
 ·simp only[if_neg hv];omega
theorem bd4 (lo hi:Option Int)(n:Nat):Builtin.Slice.sliceAdjust lo hi 1 (n:Int)=(((sIx n 0 lo:Nat):Int),((sIx n n hi:Nat):Int)):=by
 have h1:¬ ((1:Int)<0):=by omega
 unfold Builtin.Slice.sliceAdjust
 simp only[h1,if_false]
 refine Prod.ext ?_ ?_
 ·cases lo with
  | none=>rfl
  | some v=>exact bi1 v n 0
 ·cases hi with
  | none=>rfl
  | some v=>exact bi1 v n n
theorem ba2 (i j:Nat):Builtin.Slice.slicePlaces (i:Int) (j:Int) 1=j - i:=by
 unfold Builtin.Slice.slicePlaces
 have h1:(1:Int) > 0:=by omega
 simp only[h1,if_true,Int.ediv_one]
 split<;>omega
theorem ay8 {o:Option Int}{Q:Option Int->Shared->Prop}(p:aX4 v o)(h:Q o s):m5 (p0 prog w) A (Builtin.Slice.slicePartIndex v) Q E s:=by
 cases p with
 | none=>exact aD0 h
 | int i t=>exact slicePart_int h
theorem aa2 {sl:Addr}{vl vu:Value}{lo hi:Option Int}{Q:Int × Int × Nat->Shared->Prop}(hs:s.heap.IsSliceOf sl vl vu .none)(pl:aX4 vl lo)(pu:aX4 vu hi)
  (h:Q (((sIx n 0 lo:Nat):Int),1,sIx n n hi - sIx n 0 lo) s):m5 (p0 prog w) A (Builtin.Slice.sliceApplied (.ref sl) (pure (n:Int))) Q E s:=by
 obtain⟨os,hos,hcs,hds⟩:=id hs
 unfold Builtin.Slice.sliceApplied Builtin.Slice.sliceFields
 refine a7 (a7 (J0 hos hds (x:=vl) rfl (a7 (J0 hos hds (x:=vu) rfl (a7 (J0 hos hds (x:=.none) rfl (b9 ?_)))))))
 refine a7 (aD0 ?_)
 show m5 _ _ (if ((1:Int) == 0)=true then _ else _) _ _ s
 rw[if_neg (by decide)]
 refine a7 (ay8 pl (a7 (ay8 pu (a7 (b9 ?_)))))
 show m5 _ _ (match Builtin.Slice.sliceAdjust lo hi 1 (n:Int) with | (lo,hi)=>pure (lo,(1:Int),Builtin.Slice.slicePlaces lo hi 1)) _ _ s
 rw[bd4 lo hi n]
 show m5 _ _ (pure (((sIx n 0 lo:Nat):Int),(1:Int),Builtin.Slice.slicePlaces ((sIx n 0 lo:Nat):Int) ((sIx n n hi:Nat):Int) 1)) _ _ s
 rw[ba2]
 exact b9 h
theorem aT1 (xs:Array Value)(i k:Nat):((x6 k).filterMap fun(m:Nat)=>xs[((i:Int)+(m:Int)*1).toNat]?).toArray=((xs.toList.drop i).take k).toArray:=by
 have e:(fun(m:Nat)=>xs[((i:Int)+(m:Int)*1).toNat]?)=fun m=>xs[i+m]?:=by
  funext m
  have:((i:Int)+(m:Int)*1).toNat=i+m:=by omega
  rw[this]
 rw[e]
 have:=pick_run xs i k
 rw[List.filterMap_map]at this
 have e2:((fun x=>xs[x]?) ∘ fun x=>i+x)=fun m=>xs[i+m]?:=rfl
 rw[e2]at this
 rw[this]
theorem ao5 {t sl:Addr}{vl vu:Value}{lo hi:Option Int}(ht:IsTup s.heap t items)(hs:s.heap.IsSliceOf sl vl vu .none)(pl:aX4 vl lo)(pu:aX4 vu hi)
  (hw:¬ (sIx items.size 0 lo=0/\sIx items.size items.size hi=items.size))
  (h:Q (.ref s.heap.objs.size) { s with heap:=s.heap.push { cls:=.type "tuple",data:=.seq ((items.toList.drop (sIx items.size 0 lo)).take (sIx items.size items.size hi - sIx items.size 0 lo)).toArray } })
  (hsz:items.size<=c5):m5 (p0 prog w) A (aa0 (.ref t) (.ref sl)) Q E s:=by
 have htake:sizeOk (.seq ((items.toList.drop (sIx items.size 0 lo)).take (sIx items.size items.size hi - sIx items.size 0 lo)).toArray):=by
  show ((items.toList.drop (sIx items.size 0 lo)).take (sIx items.size items.size hi - sIx items.size 0 lo)).toArray.size<=c5
  rw[d3,t7,G6,m8]
  omega
 have hj:sIx items.size items.size hi<=items.size:=bQ9 _ _ (c6 _) hi
 obtain⟨os,hos,hcs,hds⟩:=id hs
 have hTs:s.TypeIs (.ref sl) "slice":=⟨os,hos,hcs⟩
 unfold aa0
 try with_reducible refine C1 ?_
 first | refine a7 (b9 ?_) | skip
 refine a7 (aQ3 ht.typeIs (by decide) ?_)
 refine a7 (F5 (name:=Str.ofString "__getitem__") ht.typeIs PyProof.Rows.slot_tuple_getitem
  (F7 PyProof.Rows.slot_tuple_getitem ht.typeIs aE1 ?_ (aJ4 _ _)))
 show m5 _ _ (Builtin.Tuple.tupleItemsOf (.ref t) >>= _) _ _ s
 refine a7 (bB6 ht ?_)
 refine a7 (ah7 hTs ?_)
 rw[if_pos (by decide)]
 refine a7 (aa2 hs pl pu ?_)
 have hno:¬ ((((sIx items.size 0 lo:Nat):Int) == 0 && (1:Int) == 1 && (sIx items.size items.size hi - sIx items.size 0 lo) == items.size)=true):=by
  intro q
  rw[B0,B0]at q
  have q1:((sIx items.size 0 lo:Nat):Int)=0:=eq_of_beq q.1.1
  have q2:sIx items.size items.size hi - sIx items.size 0 lo=items.size:=eq_of_beq q.2
  exact hw ⟨by omega,by omega⟩
 show m5 _ _ (if (((sIx items.size 0 lo:Nat):Int) == 0 && (1:Int) == 1 && (sIx items.size items.size hi - sIx items.size 0 lo) == items.size)=true then _ else _) _ _ s
 rw[if_neg hno,aT1]
 first
  | exact a7 (m:=Builtin.Tuple.tupleExact _) (A7 (b9 ⟨_,rfl,b9 h⟩) htake)
  | exact a7 (m:=Builtin.Tuple.tupleExact _) (A7 (a7 (b9 (b9 ⟨_,rfl,b9 h⟩))) htake)
  | exact a7 (a7 (m:=Builtin.Tuple.tupleExact _) (A7 (b9 (b9 ⟨_,rfl,b9 h⟩)) htake))
  | exact a7 (a7 (m:=Builtin.Tuple.tupleExact _) (A7 (b9 ⟨_,rfl,b9 h⟩) htake))
end HT
namespace L2
open PySem PySem.Spec PyProof.Rows
abbrev TO:=St->Hp->(Option Int->Hp->Prop)->Prop
def PO (X:Cx)(e:Option Expr)(t:TO):Prop:=
 ∀ (pins:List (Addr × Obj)) (s:Shared) (σ:St) (H:Hp) (Q:Option Int->Hp->Prop),Inv X pins σ H s->t σ H Q ->
  m5 (p0 X.prog X.w) X.A (evalPart e X.env) (fun u s'=>∃ o H',Inv X pins σ H' s'/\aX4 u o/\Q o H') X.xe s
def bD4:TO:=fun _ H Q=>Q none H
def ca3 (t:TE):TO:=fun σ H Q=>t σ H fun x H1=>∃ i,x=.int i/\Q (some i) H1
theorem intsAre_of:∀ {us:List Value},B9 (ns.map V.int) us->J5 us ns:=by
 induction ns with
 | nil=>intro us r;rw[bz8]at r;cases r;exact .nil
 | cons n ns ih =>
  intro us r
  rw[j9]at r
  cases r with
  | cons r1 r2 =>
   obtain⟨t,e⟩:=r1
   subst e
   exact .cons n t (ih r2)
section
variable {lo hi:Option Expr} {tl th:TO} {p2:Pos}
theorem ac7:PO X none bD4:=by
 intro pins s σ H Q I h
 rw[bB7]
 exact b9 ⟨none,H,I,.none,h⟩
theorem V1 (h:PE X e te):PO X (some e) (ca3 te):=by
 intro pins s σ H Q I hw
 rw[evalPart_some]
 refine thn (h pins s σ H _ I hw) fun u s1 ⟨x,H1,I1,r1,q1⟩=>?_
 obtain⟨i,rfl,q⟩:=q1
 obtain⟨t,rfl⟩:=r1
 exact⟨some i,H1,I1,.int i t,q⟩
def SlR (X:Cx)(r:V->Option Int->Option Int->Hp->VK->Prop):Prop:=
 ∀ (pins:List (Addr × Obj)) (s:Shared) (σ:St) (H:Hp) (x:V) (v vl vu:Value) (lo hi:Option Int) (sl:Addr) (Q:VK),Inv X pins σ H s->RelV x v->s.heap.IsSliceOf sl vl vu .none->aX4 vl lo->aX4 vu hi->r x lo hi H Q ->
  ∃ T id,typeLookup (.type T) "__getitem__"=pure (some (.builtin id))/\s.TypeIs v T/\m5 (p0 X.prog X.w) X.A (aa0 v (.ref sl)) (EP X pins σ Q) X.xe s
def tSl (r:V->Option Int->Option Int->Hp->VK->Prop)(te:TE)(tl th:TO):TE:=fun σ H Q=>te σ H fun x H1=>tl σ H1 fun l H2=>th σ H2 fun u H3=>r x l u H3 Q
theorem T8 {r:V->Option Int->Option Int->Hp->VK->Prop}(hr:SlR X r)(he:PE X e te)(hl:PO X lo tl)(hu:PO X hi th):PE X (.Subscript e (.Slice lo hi none p2) pos) (tSl r te tl th):=by
 intro pins s σ H Q I h
 refine bA2 (thn (he pins s σ H _ I h) fun v s1 ⟨x,H1,I1,r1,q1⟩=>?_)
 refine wpAny_Slice (thn (hl pins s1 σ H1 _ I1 q1) fun vl s2 ⟨l,H2,I2,pl,q2⟩=>thn (hu pins s2 σ H2 _ I2 q2) fun vu s3 ⟨u,H3,I3,pu,q3⟩=>?_)
 rw[bB7]
 refine b9 ?_
 have I4:Inv X pins σ H3 { s3 with heap:=s3.heap.push { cls:=.type "slice",data:=.fields #[vl,vu,.none] } }:=I3.kept (t':=s3.toks) fun b ob q=>a8 _ q
 obtain⟨T,id,hT,ht,hg⟩:=hr pins { s3 with heap:=s3.heap.push { cls:=.type "slice",data:=.fields #[vl,vu,.none] } } σ H3 x v vl vu l u s3.heap.objs.size Q I4 r1 (Heap.IsSliceOf.new ..) pl pu q3
 show m5 (p0 X.prog X.w) X.A (aJ5 e (.Slice lo hi none p2) v (.ref s3.heap.objs.size)) (EP X pins σ Q) X.xe { s3 with heap:=s3.heap.push { cls:=.type "slice",data:=.fields #[vl,vu,.none] } }
 exact tail_any (ops:=[.ref s3.heap.objs.size,v]) ht hT hg (by with_unfolding_all rfl)
def aa9 (xs:List V)(lo hi:Option Int):List V:=(xs.drop (HT.sIx xs.length 0 lo)).take (HT.sIx xs.length xs.length hi - HT.sIx xs.length 0 lo)
theorem au9 (xs:List V)(lo hi:Option Int):(aa9 xs lo hi).length<=xs.length:=by
 unfold aa9
 rw[t7,G6]
 omega
def ch5 (K:W.Frag):V->Option Int->Option Int->Hp->VK->Prop:=fun x lo hi H Q=>∃ a xs,x=.ref a/\SqT K H a xs /\
 ¬ (HT.sIx xs.length 0 lo=0/\HT.sIx xs.length xs.length hi=xs.length)/\∀ p,H p=none->Q (.ref p) (upd H p (.tup (aa9 xs lo hi)))
theorem bQ0:SlR X (ch5 X.K):=by
 intro pins s σ H x v vl vu lo hi sl Q I rx hs pl pu h
 obtain⟨a,xs,rfl,hx,hw,q⟩:=h
 cases rx
 obtain⟨its,r,ht,hz⟩:=I.tuple hx
 have hlen:its.toArray.size=xs.length:=by rw[d3];exact r.length.symm
 refine⟨"tuple",_,PyProof.Rows.slot_tuple_getitem.lookup,ht.typeIs,?_⟩
 refine HT.ao5 ht hs pl pu (by rw[hlen];exact hw) ?_ (by rw[hlen];exact hz)
 rw[hlen]
 refine⟨.ref s.heap.objs.size,_,I.laid (t':=s.toks) (o:=.tup (aa9 xs lo hi)) (fun b ob q=>a8 _ q) (c6 _) ?_,rfl,q _ (I.hok.fresh (c6 _))⟩
 exact⟨n8 (au9 xs lo hi) hz,_,(r.drop (HT.sIx xs.length 0 lo)).take (HT.sIx xs.length xs.length hi - HT.sIx xs.length 0 lo),IsTup.new _ _⟩
def cc9 (K:W.Frag):R2:=fun x y H Q=>∃ a b xs ys,x=.ref a/\y=.ref b/\SqT K H a xs/\SqT K H b ys/\xs≠[]/\xs.length+ys.length<=c5 /\
 (ys=[]->Q (.ref a) H)/\(ys≠[]->∀ p,H p=none->Q (.ref p) (upd H p (.tup (xs++ys))))
theorem B9.nil_iff {us:List Value}(r:B9 xs us):us=[]↔xs=[]:=by
 cases r with
 | nil=>simp
 | cons _ _=>simp
theorem bf9:OpR X (O5 .Add) (cc9 X.K):=by
 intro pins s σ H x y v u Q I rx ry h
 obtain⟨a,b,xs,ys,rfl,rfl,ha,hb,hx,hz,q1,q2⟩:=h
 cases rx
 cases ry
 obtain⟨its,r1,p1,_⟩:=I.tuple ha
 obtain⟨its2,r2,p2,_⟩:=I.tuple hb
 refine HT.bJ2 p1 p2 (fun z=>hx (r1.nil_iff.mp z)) (fun z=>⟨.ref a,H,I,rfl,q1 (r2.nil_iff.mp z)⟩) (fun z=>?_) (by rw[<- r1.length,<- r2.length];exact hz)
 refine⟨.ref s.heap.objs.size,_,I.laid (t':=s.toks) (o:=.tup (xs++ys)) (fun b ob q=>a8 _ q) (c6 _) ?_,rfl,q2 (fun w=>z (r2.nil_iff.mpr w)) _ (I.hok.fresh (c6 _))⟩
 exact⟨by rw[j6];exact hz,_,r1.append r2,IsTup.new _ _⟩
end
def ixN (n:Nat)(i:Int):Option Nat:=if 0<=i then (if i<n then some i.toNat else none) else if -(n:Int)<=i then some (i+n).toNat else none
def atI {α:Type}(xs:List α)(i:Int):Option α:=(ixN xs.length i).bind fun j=>xs[j]?
theorem bg3 {i:Int}(h:ixN n i=some j):seqIndex? i n=some j/\j<n /\ -(n:Int)<=i/\i<n:=by
 unfold ixN at h
 by_cases h0:0<=i
 ·rw[if_pos h0]at h
  by_cases h1:i<n
  ·rw[if_pos h1]at h
   have e:i.toNat=j:=Option.some.inj h
   exact⟨by rw[bj5 h0 h1,e],by omega,by omega,h1⟩
  ·rw[if_neg h1]at h;cases h
 ·rw[if_neg h0]at h
  by_cases h1:-(n:Int)<=i
  ·rw[if_pos h1]at h
   have e:(i+n).toNat=j:=Option.some.inj h
   exact⟨by rw[aX5 (by omega) h1,e],by omega,h1,by omega⟩
  ·rw[if_neg h1]at h;cases h
theorem ax9 {α:Type}{xs:List α}{i:Int}{v:α}(h:atI xs i=some v):∃ j,seqIndex? i xs.length=some j/\xs[j]?=some v/\j<xs.length /\ -(xs.length:Int)<=i/\i<xs.length:=by
 unfold atI at h
 cases e:ixN xs.length i with
 | none=>rw[e]at h;cases h
 | some j =>
  rw[e]at h
  obtain⟨h1,h2,h3,h4⟩:=bg3 e
  exact⟨j,h1,h,h2,h3,h4⟩
theorem n9 {α:Type}{xs:List α}{v:α}(h:xs[j]?=some v):atI xs (j:Int)=some v:=by
 have hj:j<xs.length:=(m4.mp h).1
 have e:ixN xs.length (j:Int)=some j:=by
  unfold ixN
  rw[if_pos (by omega),if_pos (by omega)];simp
 unfold atI;rw[e];exact h
def aP4 (b:Expr):Prop:=∀ o i,aE2 b false o i=operate [o,i] (aa0 o i)
def IxR (X:Cx)(r:R2):Prop:=
 ∀ (value slice:Expr) (pins:List (Addr × Obj)) (s:Shared) (σ:St) (H:Hp) (x y:V) (v u:Value) (Q:VK),Inv X pins σ H s->RelV x v->RelV y u->r x y H Q ->
  aE2 slice false v u=operate [v,u] (aa0 v u)->m5 (p0 X.prog X.w) X.A (aJ5 value slice v u) (EP X pins σ Q) X.xe s
def MtR (X:Cx)(id:String)(r:V->List V->Hp->VK->Prop):Prop:=
 ∀ (pins:List (Addr × Obj)) (s:Shared) (σ:St) (H:Hp) (x:V) (xs:List V) (v:Value) (us:List Value) (Q:VK),Inv X pins σ H s->RelV x v->B9 xs us->r x xs H Q ->
  m5 (p0 X.prog X.w) X.A (call (.builtin id) (v::us)) (EP X pins σ Q) X.xe s
section
variable {a b:Expr} {tb:TE}
theorem IxR.or {r r':R2}(h:IxR X r)(h':IxR X r'):IxR X (fun x y H Q=>r x y H Q\/r' x y H Q):=by
 intro value slice pins s σ H x y v u Q I rx ry q hs
 rcases q with q | q
 ·exact h value slice pins s σ H x y v u Q I rx ry q hs
 ·exact h' value slice pins s σ H x y v u Q I rx ry q hs
theorem x9 {r:R2}(hr:IxR X r)(ha:PE X a ta)(hb:PE X b tb)(hs:aP4 b):PE X (.Subscript a b pos) (tOp r ta tb):=by
 intro pins s σ H Q I h
 exact bA2 (bW4 ha hb I h fun v u s2 x y H2 I2 rx ry q=>hr a b pins s2 σ H2 x y v u Q I2 rx ry q (hs _ _))
def bR2 (K:W.Frag):R2:=fun x y H Q=>∃ p xs i v,x=.ref p/\y=.int i/\SqL K H p xs/\atI xs i=some v/\Q v H
def cc6 (K:W.Frag):R2:=fun x y H Q=>∃ p xs i v,x=.ref p/\y=.int i/\SqT K H p xs/\atI xs i=some v/\Q v H
def cc7:R2:=fun x y H Q=>∃ z i c,x=.str z/\y=.int i/\z.length<=c5/\atI z.cps.toList i=some c/\Q (.str ⟨#[c]⟩) H
theorem F6:IxR X (bR2 X.K):=by
 intro value slice pins s σ H x y v u Q I rx ry h hs
 obtain⟨p,xs,i,z,rfl,rfl,hq,he,q⟩:=h
 cases rx
 obtain⟨t,rfl⟩:=ry
 obtain⟨its,r,pl,hz⟩:=I.list hq
 obtain⟨j,h1,h2,h3,h4,h5⟩:=ax9 he
 obtain⟨w,ew,rw'⟩:=r.get h2
 have hl:=r.length
 have hn:=al2
 have fin:EP X pins σ Q w s:=⟨z,H,I,rw',q⟩
 by_cases h0:0<=i
 ·have hj:i.toNat=j:=by
   rw[bj5 h0 h5]at h1
   exact Option.some.inj h1
  exact item_listR pl.isList h0 (by omega) (by rw[hj];simpa using ew) fin hs
 ·have hj:(i+(its.toArray.size:Int)).toNat=j:=by
   rw[aX5 (by omega) h4]at h1
   rw[d3,<- hl]
   exact Option.some.inj h1
  exact bK2 (x:=w) pl.isList.typeIs slot_list_getitem.lookup
   (bK3 (Q:=fun r s'=>r=w/\EP X pins σ Q r s') pl.isList (by omega) (by rw[d3]<;>omega) (by omega) (by rw[hj];simpa using ew) ⟨rfl,fin⟩) hs
theorem y9:IxR X (cc6 X.K):=by
 intro value slice pins s σ H x y v u Q I rx ry h hs
 obtain⟨p,xs,i,z,rfl,rfl,hq,he,q⟩:=h
 cases rx
 obtain⟨t,rfl⟩:=ry
 obtain⟨its,r,pl,hz⟩:=I.tuple hq
 obtain⟨j,h1,h2,h3,h4,h5⟩:=ax9 he
 obtain⟨w,ew,rw'⟩:=r.get h2
 have hl:=r.length
 have hn:=al2
 have fin:EP X pins σ Q w s:=⟨z,H,I,rw',q⟩
 exact bK2 (x:=w) pl.typeIs slot_tuple_getitem.lookup
  (getItem_tuple (j:=j) (Q:=fun r s'=>r=w/\EP X pins σ Q r s') pl (by omega) (by omega) (by rw[d3,<- hl];exact h1) (by simpa using ew) ⟨rfl,fin⟩) hs
theorem bU6:IxR X cc7:=by
 intro value slice pins s σ H x y v u Q I rx ry h hs
 obtain⟨z,i,c,rfl,rfl,hz,he,q⟩:=h
 obtain⟨t,rfl⟩:=rx
 obtain⟨t',rfl⟩:=ry
 obtain⟨j,h1,h2,h3,h4,h5⟩:=ax9 he
 have hl:z.cps.toList.length=z.length:=by simp[Str.length]
 rw[hl]at h1 h4 h5
 have hn:=al2
 exact tail_any (typeIs_str s z t) slot_str_getitem.lookup (getItem_str (c:=c) (by
  have e1:decide (i < -(2 ^ 63:Int))=false:=decide_eq_false (by omega)
  have e2:decide (i≥2 ^ 63)=false:=decide_eq_false (by omega)
  rw[e1,e2,Z8]) (by rw[h1];simpa using h2) ⟨.str ⟨#[c]⟩,H,I.tok _,⟨_,rfl⟩,q⟩) hs
def rIx (K:W.Frag):R2:=fun x y H Q=>bR2 K x y H Q\/cc6 K x y H Q\/cc7 x y H Q
theorem bw3:IxR X (rIx X.K):=F6.or (y9.or bU6)
theorem bb3 (its:List Value)(n j:Nat)(u:Value):Obj.mapSeq (·.setIfInBounds j u) { cls:=.type "list",data:=.seq its.toArray n }={ cls:=.type "list",data:=.seq (its.set j u).toArray n }:=by
 simp[Obj.mapSeq]
theorem Inv.lst {pins:List (Addr × Obj)}{σ:St}{H:Hp}{s:Shared}{p:Addr}{xs:List V}(I:Inv X pins σ H s)(h:H p=some (.lst xs)) :
  ∃ (its:List Value) (n:Nat),B9 xs its/\s.heap.get? p=some { cls:=.type "list",data:=.seq its.toArray n }/\xs.length<=c5:=by
 obtain⟨z,its,n,r,e⟩:=I.hok p _ h
 exact⟨its,n,r,e,z⟩
theorem Inv.lstUpd {p:Addr}{its its':List Value}{n':Nat}{f:Obj->Obj}(I:Inv X pins σ H s)(h:H p=some (.lst xs))
  (ho:s.heap.get? p=some { cls:=.type "list",data:=.seq its.toArray n })(hf:f { cls:=.type "list",data:=.seq its.toArray n }={ cls:=.type "list",data:=.seq its'.toArray n' })(r:B9 ys its')(hz:ys.length<=c5)(t:Nat) :
  Inv X pins σ (upd H p (.lst ys)) { s with heap:=s.heap.update p f,toks:=t }:=by
 have e:(s.heap.update p f).get? p=some { cls:=.type "list",data:=.seq its'.toArray n' }:=by
  rw[P5 f ho (by rw[hf]<;>rfl),hf]
 refine I.write (x:=p) (e:=p) (by rw[h];trivial) (.inl rfl) (fun b u hb q=>(B7 _ _ (Ne.symm hb)).trans q) ⟨_,e⟩ ?_
 exact⟨hz,its',n',r,e⟩
def cc5:V->V->V->Hp->(Hp->Prop)->Prop:=fun o i v H Q=>∃ p xs k j,o=.ref p/\i=.int k/\H p=some (.lst xs)/\ixN xs.length k=some j/\Q (upd H p (.lst (xs.set j v)))
theorem set_list:bW8 X cc5:=by
 intro pins s σ H o i v ov iv u Q I ro ri rv h
 obtain⟨p,xs,k,j,rfl,rfl,hp,hj,q⟩:=h
 cases ro
 obtain⟨t,rfl⟩:=ri
 obtain⟨its,n,r,ho,hz⟩:=I.lst hp
 obtain⟨h1,h2,h3,h4⟩:=bg3 hj
 have hl:=r.length
 have hn:=al2
 have I':Inv X pins σ (upd H p (.lst (xs.set j v))) { s with heap:=s.heap.update p (Obj.mapSeq (·.setIfInBounds j u)) }:=
  I.lstUpd hp ho (bb3 its n j u) (r.set rv j) (by rw[A5];exact hz) s.toks
 by_cases h0:0<=k
 ·have hk:k.toNat=j:=by
   rw[bj5 h0 h4]at h1
   exact Option.some.inj h1
  exact PySem.W.ki_setAt ho h0 (by omega) (by rw[d3,<- hl];exact h4) (by rw[hk];exact⟨_,I',q⟩)
 ·have hk:(k+(its.toArray.size:Int)).toNat=j:=by
   rw[aX5 (by omega) h3]at h1
   rw[d3,<- hl]
   exact Option.some.inj h1
  exact PySem.W.ki_setBack ho (by omega) (by rw[d3,<- hl];exact h3) (by omega) (by rw[hk];exact⟨_,I',q⟩)
theorem aL3 (lo hi:Option Int)(n:Nat):(ae8 lo hi none n).1=((HT.sIx n 0 lo:Nat):Int)/\(ae8 lo hi none n).2.1=((HT.sIx n n hi:Nat):Int)/\(ae8 lo hi none n).2.2=1:=by
 refine⟨?_,?_,rfl⟩
 ·cases lo with
  | none=>simp[ae8,HT.sIx]
  | some i =>
   simp only[ae8,HT.sIx,bM9,show (1:Int) > 0 by decide,if_true]
   by_cases h:i<0
   ·simp only[h,if_true]<;>omega
   ·simp only[h,if_false]<;>omega
 ·cases hi with
  | none=>simp[ae8,HT.sIx]
  | some i =>
   simp only[ae8,HT.sIx,bM9,show (1:Int) > 0 by decide,if_true]
   by_cases h:i<0
   ·simp only[h,if_true]<;>omega
   ·simp only[h,if_false]<;>omega
theorem aE5 (its:List Value)(lo hi:Option Int):slicePick its.toArray lo hi none=((its.drop (HT.sIx its.length 0 lo)).take (HT.sIx its.length its.length hi - HT.sIx its.length 0 lo)).toArray:=by
 obtain⟨h1,h2,h3⟩:=aL3 lo hi its.toArray.size
 unfold slicePick
 rw[h1,h2,h3]
 simp only[sliceRange_one,pick_run,d3]<;>rfl
def ch6 (K:W.Frag):V->Option Int->Option Int->Hp->VK->Prop:=fun x lo hi H Q=>∃ a xs,x=.ref a/\SqL K H a xs/\∀ p,H p=none->Q (.ref p) (upd H p (.lst (aa9 xs lo hi)))
theorem am6:SlR X (ch6 X.K):=by
 intro pins s σ H x v vl vu lo hi sl Q I rx hs pl pu h
 obtain⟨a,xs,rfl,hx,q⟩:=h
 cases rx
 obtain⟨its,r,ht,hz⟩:=I.list hx
 have hlen:=r.length
 refine⟨"list",_,slot_list_getitem.lookup,ht.isList.typeIs,?_⟩
 refine wpAny_getItem_list_slice ht.isList hs pl pu .none (by simp) ?_ (by rw[d3]<;>omega)
 rw[aE5,<- hlen]
 refine⟨.ref s.heap.objs.size,_,I.laid (t':=s.toks) (o:=.lst (aa9 xs lo hi)) (fun b ob q=>a8 _ q) (c6 _) ?_,rfl,q _ (I.hok.fresh (c6 _))⟩
 exact⟨n8 (au9 xs lo hi) hz,_,0,(r.drop (HT.sIx xs.length 0 lo)).take (HT.sIx xs.length xs.length hi - HT.sIx xs.length 0 lo),j3 _ rfl⟩
theorem o6:R9 X (.builtin "len") (fun xs H Q=>∃ p ys,xs=[.ref p]/\(SqL X.K H p ys\/SqT X.K H p ys)/\Q (.int ys.length) H):=by
 intro pins s σ H xs us Q I r h
 obtain⟨p,ys,rfl,hq,q⟩:=h
 obtain⟨u,rfl,rx⟩:=vals1 r
 cases rx
 have hn:=al2
 rcases hq with hq | hq
 ·obtain⟨its,r',pl,hz⟩:=I.list hq
  have hlen:=r'.length
  exact Calls.call_len_list pl.isList (by simp only[d3]<;>omega) ⟨.int ys.length,H,I.tok _,⟨s.toks+1,by rw[d3,hlen]⟩,q⟩
 ·obtain⟨its,r',pl,hz⟩:=I.tuple hq
  have hlen:=r'.length
  exact len_tuple pl (by simp only[d3]<;>omega) ⟨.int ys.length,H,I.tok _,⟨s.toks+1,by rw[d3,hlen]⟩,q⟩
theorem R1:R9 X (.type "list") (fun xs H Q=>∃ p ys,xs=[.ref p]/\(SqL X.K H p ys\/SqT X.K H p ys)/\∀ l,H l=none->Q (.ref l) (upd H l (.lst ys))):=by
 intro pins s σ H xs us Q I r h
 obtain⟨p,ys,rfl,hq,q⟩:=h
 obtain⟨u,rfl,rx⟩:=vals1 r
 cases rx
 have fin:∀ (its:List Value),B9 ys its->ys.length<=c5->∀ (h':Heap) (c':Nat),(∀ b o',s.heap.get? b=some o'->h'.get? b=some o') ->
   h'.get? s.heap.objs.size=some { cls:=.type "list",dict:=none,data:=.seq its.toArray c',slots:=#[] }->EP X pins σ Q (.ref s.heap.objs.size) { s with heap:=h' }:=fun its r' hz h' c' kp e =>
  ⟨.ref s.heap.objs.size,_,I.laid (t':=s.toks) kp (c6 _) (show F3 X.prog X.w _ h' _ (.lst ys) from ⟨hz,its,c',r',e⟩),rfl,q _ (I.hok.fresh (c6 _))⟩
 rcases hq with hq | hq
 ·obtain⟨its,r',pl,hz⟩:=I.list hq
  have hlen:=r'.length
  obtain⟨o,ho,hc,n,hd⟩:=pl.isList
  exact call_list_seq p (.inl rfl) ho hc hd (fun h' c' kp e=>fin its r' hz h' c' kp e) (by simp only[d3]<;>omega)
 ·obtain⟨its,r',pl,hz⟩:=I.tuple hq
  have hlen:=r'.length
  obtain⟨o,ho,hc,n,hd⟩:=pl
  exact call_list_seq p (.inr rfl) ho hc hd (fun h' c' kp e=>fin its r' hz h' c' kp e) (by simp only[d3]<;>omega)
theorem C8:R9 X (.type "tuple") (fun xs H Q=>∃ p ys,xs=[.ref p]/\((SqL X.K H p ys/\∀ l,H l=none->Q (.ref l) (upd H l (.tup ys)))\/(SqT X.K H p ys/\Q (.ref p) H))):=by
 intro pins s σ H xs us Q I r h
 obtain⟨p,ys,rfl,h⟩:=h
 obtain⟨u,rfl,rx⟩:=vals1 r
 cases rx
 rcases h with⟨hq,q⟩ | ⟨hq,q⟩
 ·obtain⟨its,r',pl,hz⟩:=I.list hq
  have hlen:=r'.length
  refine call_tuple_list pl.isList (fun h' kp=>?_) (by simp only[d3]<;>omega)
  have I1:Inv X pins σ H { s with heap:=h' }:=I.kept (t':=s.toks) kp
  have I2:Inv X pins σ (upd H h'.objs.size (.tup ys)) { s with heap:=h'.push { cls:=.type "tuple",data:=.seq its.toArray } } :=
   I1.laid (t':=s.toks) (fun b o e=>a8 _ e) (c6 _) (show F3 X.prog X.w _ _ _ (.tup ys) from ⟨hz,its,r',IsTup.new _ _⟩)
  exact⟨.ref h'.objs.size,_,I2,rfl,q _ (I1.hok.fresh (c6 _))⟩
 ·obtain⟨its,r',pl,hz⟩:=I.tuple hq
  exact call_tuple_same pl ⟨.ref p,H,I,rfl,q⟩
def tyV (K:W.Frag)(T:String)(x:V)(H:Hp):Prop:=match x with
 | .str _=>T="str"
 | .int _=>T="int"
 | .ref p=>(T="list"/\∃ xs,SqL K H p xs)\/(T="tuple"/\∃ o,K.lookup p=some o/\o.cls=.type "tuple"/\o.dict=none) \/
   (T="dict"/\((∃ kvs,H p=some (.dK kvs))\/∃ kvs,H p=some (.dT kvs)))\/(T="set"/\∃ S n,H p=some (.set S n))
 | _=>False
theorem bO7 {T:String}{x:V}(I:Inv X pins σ H s)(r:RelV x v)(ty:tyV X.K T x H) :
  s.TypeIs v T/\∀ a,v=.ref a->∃ ob,s.heap.get? a=some ob/\ob.dict=none:=by
 cases x with
 | str z =>
  obtain⟨t,rfl⟩:=r
  cases (show T="str" from ty)
  exact⟨typeIs_str s z t,fun _ e=>nomatch e⟩
 | int i =>
  obtain⟨t,rfl⟩:=r
  cases (show T="int" from ty)
  exact⟨typeIs_int s i t,fun _ e=>nomatch e⟩
 | ref p =>
  cases r
  rcases ty with⟨rfl,xs,hq⟩ | ⟨rfl,o,hk,hc,hd⟩ | ⟨rfl,hk⟩ | ⟨rfl,S,n,hk⟩
  ·obtain⟨its,_,pl,_⟩:=I.list hq
   refine⟨pl.isList.typeIs,fun a e=>?_⟩
   cases e
   obtain⟨o,n,e,c,hd,_⟩:=pl
   exact⟨o,e,hd⟩
  ·refine⟨⟨o,I.kIn p o hk,hc⟩,fun a e=>?_⟩
   cases e
   exact⟨o,I.kIn _ o hk,hd⟩
  ·have z:∃ o,s.heap.get? p=some o/\o.ExactDict:=by
    rcases hk with⟨kvs,hk⟩ | ⟨kvs,hk⟩
    ·obtain⟨_,_,_,_,o,_,_,e,ex,_⟩:=I.hok p _ hk
     exact⟨o,e,ex⟩
    ·obtain⟨_,_,_,_,o,_,_,e,ex,_⟩:=I.hok p _ hk
     exact⟨o,e,ex⟩
   obtain⟨o,e,ex⟩:=z
   refine⟨⟨o,e,ex.1⟩,fun a e2=>?_⟩
   cases e2
   exact⟨o,e,ex.2.1⟩
  ·obtain⟨o,_,_,_,e,ex,_⟩:=I.hok p _ hk
   refine⟨⟨o,e,ex.1⟩,fun a e2=>?_⟩
   cases e2
   exact⟨o,e,ex.2.1⟩
 | _=>exact False.elim ty
def tBM (K:W.Frag)(T:String)(r:V->List V->Hp->VK->Prop)(to:TE)(t:TA):TE:=fun σ H Q=>to σ H fun x H1=>tyV K T x H1/\t σ H1 fun xs H2=>r x xs H2 Q
variable {es:List Expr} {to:TE} {t:TA} {name:Str} {apos cpos:Pos} {T id:String}
theorem ae2 (pa:PlainAttrs T) (slot:Slot T name id) (hty:typeOf (.builtin id)=pure (.type "method_descriptor")) (hm:MtR X id r) (ho:PE X o to) (ha:PA X (e::es) t)
  (hbase:bB8 o name X.env (eval o X.env)=eval o X.env:=by rfl)
  (hfew : ((Z0 cpos (B3 (e :: es) X.env)).all (fun x => !x.1) && (bB5 cpos (aE0 [] X.env)).all (fun x => x.1.isSome)
   && decide ((e::es).length+([]:List aD9).length+(if ([]:List aD9).isEmpty then 0 else 1)<30))=true:=by rfl)
  (hline:(apos.endLine == cpos.line)=true:=by rfl) (hs:B3 (e::es) X.env=(false,eval e X.env)::B3 es X.env:=by rfl) (hplain:(Z0 cpos (B3 es X.env)).any (·.1)=false:=by rfl) :
  PE X (.Call (.Attribute o name apos) (e::es) [] cpos) (tBM X.K T r to t):=by
 intro pins s σ H Q I h
 refine wpAny_Call_method_late hbase hfew hline rfl (thn (ho pins s σ H _ I h) fun v s1 ⟨x,H1,I1,r1,ty,q1⟩=>?_)
 obtain⟨h1,h2⟩:=bO7 I1 r1 ty
 refine⟨T,id,pa,slot,hty,h1,h2,?_⟩
 have hA:=ha cpos pins s1 σ H1 _ I1 q1
 rw[hs]at hA ⊢
 refine Calls.callWith_builtin (by show (false || (Z0 cpos (B3 es X.env)).any (·.1))=false;rw[hplain]<;>rfl) (Calls.evalArgs_plain ?_)
 exact thn hA fun us s2 ⟨vs,H2,I2,r2,q2⟩=>hm pins s2 σ H2 x vs v us Q I2 r1 r2 q2
/- xs.append(e),list.index on a module's tuple .. are MtR facts of 06m -/
end
def MtM (X:Cx)(id:String)(r:V->List V->Hp->VK->Prop):Prop:=
 ∀ (pins:List (Addr × Obj)) (s:Shared) (σ:St) (H:Hp) (x:V) (xs:List V) (v:Value) (us:List Value) (Q:VK),Inv X pins σ H s->RelV x v->B9 xs us->r x xs H Q ->
  m5 (p0 X.prog X.w) X.A (call (.builtin id) (v::us)) (EP X pins σ Q) X.xe s
theorem B9.one:∀ {x:V} {us:List Value},B9 [x] us->∃ u,us=[u]/\RelV x u
 | _,_,.cons r .nil=>⟨_,rfl,r⟩
theorem B9.two:∀ {x y:V} {us:List Value},B9 [x,y] us->∃ u v,us=[u,v]/\RelV x u/\RelV y v
 | _,_,_,.cons r (.cons q .nil)=>⟨_,_,rfl,r,q⟩
theorem B9.reverse {us:List Value}(h:B9 xs us):B9 xs.reverse us.reverse:=by
 induction h with
 | nil=>exact .nil
 | cons r t ih=>rw[V5,V5];exact B9.append ih (.cons r .nil)
theorem B9.rep {us:List Value}(h:B9 xs us):∀ k:Nat,B9 (o8 k xs).flatten (o8 k us).flatten
 | 0=>.nil
 | k+1=>by
  rw[J9,J9,V6,V6]
  exact B9.append h (B9.rep h k)
theorem foldl_rep (its:List Value):∀ (k:Nat) (acc:List Value),
  bi9 (fun x1 x2=>x1++x2) acc.toArray (o8 k its.toArray)=(acc++(o8 k its).flatten).toArray
 | 0,acc=>by simp
 | k+1,acc=>by
  have e:acc.toArray++its.toArray=(acc++its).toArray:=by simp
  have e2:(acc++its)++(o8 k its).flatten=acc++(o8 (k+1) its).flatten:=by
   rw[J9,V6,ah4]
  rw[<- e2,<- foldl_rep its k (acc++its),<- e,J9,aq1]
section
variable {b:Addr} {zs:List V}
theorem Inv.lset {its its':List Value}{f:Array Value->Array Value}(I:Inv X pins σ H s)(hH:H l=some (.lst xs))
  (e:s.heap.get? l=some { cls:=.type "list",data:=.seq its.toArray n })(hf:f its.toArray=its'.toArray)(hv:B9 ys its')(hz:ys.length<=c5) :
  Inv X pins σ (upd H l (.lst ys)) { s with heap:=s.heap.update l (Obj.mapSeq f),toks:=t' }:=by
 have q:=PySem.IsL.update e f
 rw[hf]at q
 refine I.write (x:=l) (e:=l) (by rw[hH];exact trivial) (.inl rfl) (fun b' u hb hu=>(B7 s.heap (Obj.mapSeq f) (Ne.symm hb)).trans hu) ⟨_,q⟩ ?_
 exact⟨hz,its',_,hv,q⟩
theorem Inv.lnew {its:List Value}(I:Inv X pins σ H s)(hv:B9 ys its)(hz:ys.length<=c5) :
  Inv X pins σ (upd H s.heap.objs.size (.lst ys)) { s with heap:=s.heap.push { cls:=.type "list",data:=.seq its.toArray },toks:=t' } :=
 I.laid (fun _ _ q=>a8 _ q) (c6 _) ⟨hz,its,0,hv,j3 _ rfl⟩
theorem Inv.fresh (I:Inv X pins σ H s):H s.heap.objs.size=none:=I.hok.fresh (c6 _)
theorem Inv.lstM (I:Inv X pins σ H s)(hH:H l=some (.lst xs)):xs.length<=c5/\∃ (its:List Value) (n:Nat),B9 xs its/\xs.length=its.length/\s.heap.get? l=some { cls:=.type "list",data:=.seq its.toArray n }:=by
 obtain⟨z,its,n,r,e⟩:=I.hok l _ hH
 exact⟨z,its,n,r,r.length,e⟩
theorem bu9 (h:n<=c5):Builtin.List.listTooLong n=false:=by
 unfold Builtin.List.listTooLong
 exact decide_eq_false (by omega)
end
def bE5:V->List V->Hp->VK->Prop:=fun x vs H Q=>∃ l xs y,x=.ref l/\vs=[y]/\H l=some (.lst xs)/\xs.length<c5/\Q .non (upd H l (.lst (xs++[y])))
theorem F1:MtM X "list.append" bE5:=by
 intro pins s σ H x vs v us Q I rx rv h
 obtain⟨l,xs,y,rfl,rfl,hH,hz,q⟩:=h
 cases rx
 obtain⟨u,rfl,ru⟩:=rv.one
 obtain⟨z,its,n,r,hl,e⟩:=I.lstM hH
 refine bA3 F.slot_list_append ⟨_,e,rfl⟩ F.entry_list_append (F.args_list_append_2 _ _) (PySem.list_append l its.toArray n u (by rw[d3];omega)) ⟨e,?_⟩
 refine⟨.non,_,I.lset (its':=its++[u]) hH e (by simp) (r.append (.cons ru .nil)) ?_,rfl,q⟩
 rw[j6,P6]
 omega
def ci0:R2:=fun x y H Q=>∃ l b xs zs,x=.ref l/\y=.ref b/\H l=some (.lst xs)/\H b=some (.lst zs)/\xs.length+zs.length<=c5/\∀ p,H p=none->Q (.ref p) (upd H p (.lst (xs++zs)))
theorem bb1:OpR X (O5 .Add) ci0:=by
 intro pins s σ H x y v u Q I rx ry h
 obtain⟨l,b,xs,zs,rfl,rfl,hH,hB,hz,q⟩:=h
 cases rx
 cases ry
 obtain⟨z,its,n,r,hl,e⟩:=I.lstM hH
 obtain⟨z2,its2,n2,r2,hl2,e2⟩:=I.lstM hB
 refine PySem.P.add_list e e2 ?_ (by rw[d3,d3];omega)
 have ea:its.toArray++its2.toArray=(its++its2).toArray:=by simp
 rw[ea]
 exact⟨.ref _,_,I.lnew (t':=s.toks) (r.append r2) (by rw[j6];omega),rfl,q _ I.fresh⟩
def ch8:R2:=fun x y H Q=>∃ l k xs,x=.ref l/\y=.int k/\H l=some (.lst xs) /\ -(2 ^ 63)<=k/\k<2 ^ 63/\xs.length*k.toNat<=c5 /\
 ∀ p,H p=none->Q (.ref p) (upd H p (.lst (o8 k.toNat xs).flatten))
theorem len_rep {α:Type}(xs:List α)(k:Nat):(o8 k xs).flatten.length=k*xs.length:=by
 induction k with
 | zero=>simp
 | succ k ih=>rw[J9,V6,j6,ih,Nat.succ_mul,Nat.add_comm]
theorem aN1:OpR X (O5 .Mult) ch8:=by
 intro pins s σ H x y v u Q I rx ry h
 obtain⟨l,k,xs,rfl,rfl,hH,h1,h2,hz,q⟩:=h
 cases rx
 obtain⟨t,rfl⟩:=ry
 obtain⟨z,its,n,r,hl,e⟩:=I.lstM hH
 have hlen:its.toArray.size*k.toNat<=c5:=by rw[d3,<- hl];exact hz
 have hcap:¬ its.toArray.size*k.toNat > (2 ^ 63 - 1) / 8:=by
  have:(c5:Nat)<=(2 ^ 63 - 1) / 8:=by decide
  omega
 have hfit:¬ (!Builtin.List.listFitsIndex k)=true:=by
  rw[fitsIndex_both h1 h2]
  exact g8
 have hlong:¬ Builtin.List.listTooLong (its.toArray.size*k.toNat)=true:=by
  rw[bu9 hlen]
  exact g8
 have hnew:bi9 (fun x1 x2=>x1++x2) #[] (o8 (if its.toArray.isEmpty=true then 0 else k.toNat) its.toArray)=(o8 k.toNat its).flatten.toArray:=by
  have f0:∀ m:Nat,bi9 (fun x1 x2=>x1++x2) #[] (o8 m its.toArray)=(o8 m its).flatten.toArray:=fun m=>by
   have:=foldl_rep its m []
   rw[List.nil_append]at this
   exact this
  rw[f0]
  cases its with
  | nil=>simp
  | cons a r'=>rw[if_neg (by simp)]
 refine wpAny_binaryOp_repeat_ref (T:="list") (U:="int") (by decide) ⟨_,e,rfl⟩ (fun s'=>typeIs_int s' k t) noFill_list_mul F.fills_int_mul F.slot_int_rmul repeat_list F.slot_int_index.lookup
  (bA3 F.slot_int_rmul (typeIs_int s k t) F.entry_int_rmul (F.args_int_rmul_2 _ _) (int___rmul___int_list k t l its.toArray n)
   ⟨e,rfl,⟨_,e,rfl⟩,bA3 F.slot_list_mul ⟨_,e,rfl⟩ F.entry_list_mul (F.args_list_mul_2 _ _) (AutoListH.list___mul___list_int_3 l its.toArray n k t hfit hcap hlong) ⟨e,?_⟩⟩)
 rw[hnew]
 exact⟨.ref _,_,I.lnew (t':=s.toks) (r.rep k.toNat) (by rw[len_rep,Nat.mul_comm];exact hz),rfl,q _ I.fresh⟩
end L2
namespace Att
open PySem PySem.W PySem.Calls PyProof.Rows
theorem av8 {P:Params}:∀ (ns:List Int) (vs:List Value),WellAll P h vs (ns.map WData.int)->J5 vs ns:=by
 intro ns
 induction ns with
 | nil =>
  intro vs w
  rw[bz8]at w
  cases w
  exact .nil
 | cons n ns ih =>
  intro vs w
  rw[j9]at w
  cases w with
  | cons a b =>
   cases a
   exact .cons _ _ (ih _ b)
theorem bl0 {l:OpenLaw}(hn:l.most=some n){P:Params}{args:List WData}{vals:List Value}
  (hpre:l.row.toRowW.claim.pre args=true)(hwl:WellAll P h vals args) :
  ∃ a vs ns,vals=[Value.ref a]/\args=[WData.list (ns.map WData.int)]/\h.get? a=some { cls:=.type "list",data:=.seq vs.toArray }/\J5 vs ns/\ns.length<=n:=by
 have hsh:WShape.hasAll [] args [.list .int]=true:=(pre_splitW hpre).1
 have hc:l.pre.holds [] { args:=args }=true:=(pre_splitW hpre).2
 obtain⟨d,r,rfl,h1,h2⟩:=hasAllW_cons hsh
 obtain rfl:=hasAllW_nil h2
 obtain⟨xs,rfl,h3⟩:=hasW_list h1
 obtain⟨ns,rfl⟩:=items_int h3
 have hlen:ns.length<=n:=by
  unfold OpenLaw.pre at hc
  have h4:(WTm.not (.lt (.lit (.int (n:Int))) (.len (.arg 0)))).holds [] { args:=[.list (ns.map .int)] }=true:=by
   have h4:=(holds_andW hc).1
   rw[hn]at h4
   exact h4
  have h5:=condW_of h4 (w_not (w_lt w_lit (w_len_list (w_arg rfl))))
  rw[a9]at h5
  refine Nat.le_of_not_lt fun q=>?_
  have q':(n:Int)<((ns.length:Nat):Int):=by omega
  first
   | (rw[decide_eq_true q']at h5;exact absurd h5 (by decide))
   | (simp at h5;omega)
 cases hwl with
 | cons w1 w2 =>
  cases w2
  cases w1 with
  | list ho hall=>exact⟨_,_,ns,rfl,rfl,ho,av8 ns _ hall,hlen⟩
theorem bl2 (l:OpenLaw)(args:List WData):l.row.toRowW.claim.post args (.bool true) args=true:=
 postW_of (r:=l.row.toRowW) (X:=(true == true))
  (show WShape.has [] (.bool true) .bool=true by first | rfl | decide | simp[WShape.has,WShape.arms,WShape.armsAll])
  (show (WTm.eq .res (.lit (.bool true))).value [] { args:=args,res:=some (.bool true),after:=args }=some (.bool (true == true)) from w_eq_bool (w_res rfl) w_lit) rfl
theorem attach_call {l:OpenLaw} {q:Program} {loose:List Str} {d:DefRec}
  (hn:l.most=some n) (hdf:d.params.defaults=[])
  (call : ∀ (w : World) (s₀ s₁ : Shared) (mg mb : Str -> Option Value) (fa : Addr) (o : Obj) (pm cd doc : Value) (a : Addr) (vs : List Value) (ns : List Int),
   Ground q loose [] XP w s₀ mg mb s₁.heap->YP w s₁.heap ->
   s₁.heap.get? fa=some o->o.data=.func (docDef d.name d.params d.body d.scope pm cd doc)->s₁.heap.CodeRec cd d.name->mg d.name=some (.ref fa) ->
   s₁.heap.get? a=some { cls:=.type "list",data:=.seq vs.toArray }->J5 vs ns->ns.length<=n->s₁.gens=#[] ->
   aD8 (p0 l.prog w) bj6 (.call (.ref fa) ⟨[.ref a],[]⟩) (fun r s'=>r=.ok (.ret (.bool true))/\OldK s₁.heap s'.heap/\s'.os=s₁.os/\am0 s'.gens) s₁) :
  WalkO q loose XP YP l.row.toRowW d [] (fun f vs=>PySem.call f vs):=by
 intro w s₀ s₁ mg mb G Y fa o pm cd doc dV kV ho hd hcd hD hmg hg args vals as hpre hlay hrd hwl hlo
 obtain rfl:dV=.none:=Dflts.none hD hdf
 obtain rfl:kV=.none:=Dflts.noKw hD
 obtain⟨a,vs,ns,rfl,rfl,hobj,hints,hlen⟩:=bl0 hn hpre hwl
 refine enter_call (Z1 (call w s₀ s₁ mg mb fa o pm cd doc a vs ns G Y ho (fd_plain hd) hcd hmg hobj hints hlen hg) fun r s' hq=>?_)
 obtain⟨rfl,h2,h3,h4⟩:=hq
 exact⟨.inl ⟨.bool true,.bool true,[],rfl,fun _=>rfl,.bool true,bl2 l _,fun _=>⟨List.Pairwise.nil,fun _ hm=>(nomatch hm)⟩⟩,h2,h3,h4⟩
section
variable {K:Frag}
end
end Att
namespace L2
open PySem PySem.Spec PyProof.Rows
theorem ai0:∀ {vs:List Value} {ns:List Int},J5 vs ns->B9 (ns.map V.int) vs
 | _,_,.nil=>.nil
 | _,_,.cons n t h=>.cons ⟨t,rfl⟩ (ai0 h)
end L2
namespace L2
open PySem PySem.Spec PyProof.Rows
def x8 (s:Stmt):Arguments:=match s with
 | .FunctionDef _ a _ _ _ _ _ _ _ _=>a
 | _=>{ posonlyargs:=[],args:=[],vararg:=none,kwonlyargs:=[],kw_defaults:=[],kwarg:=none,defaults:=[] }
def t9 (s:Stmt):List Stmt:=match s with
 | .FunctionDef _ _ b _ _ _ _ _ _ _=>b
 | _=>[]
def d8 (s:Stmt):Scope:=match s with
 | .FunctionDef _ _ _ _ _ _ sc _ _ _=>sc
 | _=>{ kind:=.function,names:=[],isGenerator:=false,isCoroutine:=false }
abbrev CX0:CXT:=fun _ _ _ _ _ _=>False
abbrev E0:XK:=fun _ _ _=>False
theorem E4:as9 CX0 X E0:=fun _ _ _ _ _ _ _ h=>h.elim
structure Fun (K:W.Frag) (x qual:Str) (st:Stmt) (f:Addr) (fd:FuncData):Prop where
 ex:∃ (oc:Value) (od:Option Addr) (kV doc pm:Value) (an:Option Addr) (cdv ct:Value) (osl:Array (Option Value)),
  fd=j4 x qual (x8 st) (t9 st) (d8 st) .none kV doc pm an cdv ct/\K.lookup f=some ⟨oc,od,.func fd,osl⟩/\i6 K cdv qual=true
 kp:i4 K (.ref f)=true
section
variable {K:W.Frag} {base:Heap}
theorem Fun.ok {st:Stmt} {k:Nat} {sp:Sp} (F:Fun K x qual st f fd) (S:v7 N ps (d8 st))
  (hbody : ∀ (cdv : Value) (A : Around) (outer : List Env) (s : Shared) (H : Hp) (vs : List V) (Q : VK) (E : XK), X4 k (A.deeper (F4 qual (d8 st) s.heap.objs.size f cdv)) -> sp vs H Q E ->
   ∃ t,PSs (X2 CX0 P w K mg base N qual (d8 st) f cdv A outer s H E).nox (t9 st) t/\t { nx:=fun _ H'=>Q .non H',rt:=Q } (start N vs) H) (len:∀ vs H Q E,sp vs H Q E->vs.length=ps.length:=by intro _ _ _ _ h;repeat first | (obtain⟨rfl,_⟩:=h;rfl) | obtain⟨_,h⟩:=h):o4 P w K mg base CX0 (k+1) f fd ps sp:=by
 obtain⟨oc,od,kV,doc,pm,an,cdv,ct,osl,rfl,lk,hcd⟩:=F.ex
 refine bx3 lk hcd S len fun A outer s H vs Q E hr hsp=>?_
 obtain⟨t,h,q⟩:=hbody cdv A outer s H vs Q E hr hsp
 exact⟨t,h.nox,q⟩
theorem Fun.binds {st:Stmt}(F:Fun K x qual st f fd)
  (h:∀ (kV doc pm:Value) (an:Option Addr) (cdv ct:Value) (us:List Value),us.length=ps.length->bB4 (j4 x qual (x8 st) (t9 st) (d8 st) .none kV doc pm an cdv ct) ⟨us,[]⟩=pure (ps.zip us)):Binds K fd ps []:=by
 obtain⟨oc,od,kV,doc,pm,an,cdv,ct,osl,rfl,lk,hcd⟩:=F.ex
 exact .all (h kV doc pm an cdv ct)
theorem B8 {st:Stmt}{oc:Value}{od an:Option Addr}{osl:Array (Option Value)}{kV doc pm cdv ct:Value}(l:K.lookup f=some ⟨oc,od,.func (j4 x qual (x8 st) (t9 st) (d8 st) .none kV doc pm an cdv ct),osl⟩)
  (c:i6 K cdv qual=true)(k:i4 K (.ref f)=true):Fun K x qual st f (j4 x qual (x8 st) (t9 st) (d8 st) .none kV doc pm an cdv ct):=⟨⟨oc,od,kV,doc,pm,an,cdv,ct,osl,rfl,l,c⟩,k⟩
end
theorem pv (i:Nat)(hN:X.N[i]?=some x:=by rfl)(hv:Vis X.env.scope x:=by first | exact Or.inl rfl | exact Or.inr (Or.inl rfl) | exact Or.inr (Or.inr rfl))(hd:(x == ("__debug__":Str))=false:=by decide)
  (hcd:(x == ("__classdict__":Str))=false:=by decide):PE X (.Name x pos) (bq5 i):=bR8 hN hv hd hcd
theorem E8 {A B:Prop}(h:B):if false=true then A else B:=by
 rw[if_neg g8]
 exact h
theorem E7 {A B:Prop}(h:A):if true=true then A else B:=by
 rw[if_pos rfl]
 exact h
theorem aA7 {c A B:Prop}[Decidable c](h1:c->A)(h2:¬ c->B):if c then A else B:=by
 by_cases h:c
 ·rw[if_pos h]
  exact h1 h
 ·rw[if_neg h]
  exact h2 h
theorem ao4 {c A B:Prop}[Decidable c](hc:c)(h:B):if (!decide c)=true then A else B:=by
 rw[decide_eq_true hc]
 exact E8 h
def o7 (H H':Hp):Prop:=∀ b o,H b=some o->H' b=some o
theorem o7.refl (H:Hp):o7 H H:=fun _ _ h=>h
theorem o7.trans {H1 H2:Hp}(a:o7 H H1)(b:o7 H1 H2):o7 H H2:=fun c o h=>b c o (a c o h)
theorem o7.free (e:o7 H H')(h:H' l=Option.none):H l=Option.none:=by
 cases q:H l with
 | none=>rfl
 | some o =>
  rw[e l o q]at h
  cases h
theorem o7.seq {K:W.Frag}(e:o7 H H')(h:SqL K H a xs):SqL K H' a xs:=by
 rcases h with(h | ⟨o,h⟩) | h
 ·exact .inl (.inl (e _ _ h))
 ·exact .inl (.inr ⟨o,e _ _ h⟩)
 ·exact .inr h
end L2
namespace Tim
open PySem PyProof.Rows
structure Ord (B:Keyed->Keyed->Bool):Prop where
 irr:∀ x,B x x=false
 tr:∀ x y z,B x y=true->B y z=true->B x z=true
 ng:∀ x y z,B x z=true->B x y=true\/B y z=true
def le (B:Keyed->Keyed->Bool)(x y:Keyed):Prop:=B y x=false
section
variable {S:Keyed->Prop}
def Cmp (prog:Program)(w:World)(A:Around)(E:Value->Shared->Prop)(s:Shared)(κ:SortKind)(S:Keyed->Prop)(B:Keyed->Keyed->Bool):Prop:=
 ∀ (x y:Keyed),S x->S y->∀ (Q:Bool->Shared->Prop),Q (B x y) s->m5 (p0 prog w) A (keyLt' κ x.1 y.1) Q (fun _ _=>False) s
theorem bO3 (C:Cmp prog w A E s κ S B){x y:Keyed}{st:SortSt}{Q:Option Bool->SortSt->Prop}(hk:kindOf st=κ)(hx:S x)(hy:S y)(h:Q (some (B x y)) st):wpS (p0 prog w) A E s (lt' x y) Q st:=by
 rw[lt'_eq]
 refine C2 (bB9 ?_)
 rw[hk]
 refine C2 (wpS_lift (aJ6 ?_))
 refine B6 (C x y hx hy (fun b s'=>s'=s/\b=B x y) ⟨rfl,rfl⟩) (fun b s' hb=>?_) (fun _ _ f=>f.elim)
 obtain⟨rfl,rfl⟩:=hb
 exact⟨rfl,G4 h⟩
theorem aQ6 {arr:Array Keyed}{x:Keyed}{st:SortSt}{Q:Keyed->SortSt->Prop}(hi:arr[i]?=some x)(h:Q x st):wpS (p0 prog w) A E s (elem' arr i) Q st:=by
 rw[elem'_eq,hi]
 exact G4 h
theorem bk6 (C:Cmp prog w A E s κ S B){x y:Keyed}{st:SortSt}{Q:Option Bool->SortSt->Prop}(hk:kindOf st=κ)(hi:(n6 st)[i]?=some x)(hj:(n6 st)[j]?=some y)(hx:S x)(hy:S y)(h:Q (some (B x y)) st) :
  wpS (p0 prog w) A E s (ltAt' i j) Q st:=by
 rw[ltAt'_eq]
 refine C2 (bB9 ?_)
 show wpS _ _ _ _ (do let x <- elem' (n6 st) i;let y <- elem' (n6 st) j;lt' x y) Q st
 exact C2 (aQ6 hi (C2 (aQ6 hj (bO3 C hk hx hy h))))
theorem aQ5 {n:String}{st:SortSt}{Q:Unit->SortSt->Prop}(h:Q () st):wpS (p0 prog w) A E s (liftM (rule n):StateT SortSt Sem Unit) Q st:=wpS_lift (aw3 ⟨rfl,h⟩)
end
structure MI (R:Keyed->Keyed->Prop) (out ra rb all:List Keyed):Prop where
 so:out.Pairwise R
 oa:∀ x∈out,∀ y∈ra,R x y
 ob:∀ x∈out,∀ y∈rb,R x y
 sa:ra.Pairwise R
 sb:rb.Pairwise R
 pm:(out++(ra++rb)).Perm all
structure Sm (st st':SortSt):Prop where
 k:kindOf st'=kindOf st
 a:n6 st'=n6 st
 p:Z2 st'=Z2 st
 f:X9 st'=X9 st
section
variable {S:Keyed->Prop}
structure LoI (B:Keyed->Keyed->Bool) (a b out:Array Keyed) (ia ib:Nat):Prop where
 m:MI (le B) out.toList (a.toList.drop ia) (b.toList.drop ib) (a.toList++b.toList)
 ha:ia+1<a.size
 hb:ib<b.size
 sz:out.size=ia+ib
def Good (B:Keyed->Keyed->Bool)(a b r:Array Keyed):Prop:=r.toList.Pairwise (le B)/\r.toList.Perm (a.toList++b.toList)
end
section
variable {S:Keyed->Prop}
abbrev HM (B:Keyed->Keyed->Bool)(a b out:Array Keyed)(na nb:Nat):Prop:=MI (fun x y=>le B y x) out.toList (a.toList.take na).reverse (b.toList.take nb).reverse (a.toList++b.toList)
structure HiI (B:Keyed->Keyed->Bool) (a b out:Array Keyed) (na nb:Nat):Prop where
 m:HM B a b out na nb
 ha:0<na
 ha':na<=a.size
 hb:1<nb
 hb':nb<=b.size
 sz:out.size+na+nb=a.size+b.size
end
def KF {O:aX6}(f:Keyed->O.α)(d:O.α)(xs:Array Keyed)(i:Nat):O.α:=match xs[i]? with
 | some p=>f p
 | none=>d
def Bf {O:aX6}(f:Keyed->O.α)(x y:Keyed):Bool:=O.blt (f x) (f y)
section
variable {O:aX6} {f:Keyed->O.α} {d:O.α}
theorem ah2 {xs ys:Array Keyed}(h:xs[i]?=ys[j]?):KF f d xs i=KF f d ys j:=by unfold KF;rw[h]
theorem ay0 {xs:Array Keyed}{x:Keyed}(h:xs[i]?=some x):KF f d xs i=f x:=by unfold KF;rw[h]
theorem aJ0 {xs:Array Keyed}{src dd:Nat}(hs:src<xs.size)(hd:dd<=src)(k:Nat) :
  KF f d (bubble xs src dd) k=if k=src - dd then KF f d xs src else if src - dd<k/\k<=src then KF f d xs (k - 1) else KF f d xs k:=by
 have e:=getElem?_bubble hs dd hd k
 repeat' split at e
 all_goals first
  | (rw[if_pos (by assumption)];exact ah2 e)
  | (rw[if_neg (by assumption),if_pos (by assumption)];exact ah2 e)
  | (rw[if_neg (by assumption),if_neg (by assumption)];exact ah2 e)
theorem at3 {xs:Array Keyed}(hj:j<=xs.size)(k:Nat):KF f d (mirror xs i j ((j - i) / 2)) k=if i<=k/\k<j then KF f d xs (i+j - 1 - k) else KF f d xs k:=by
 have e:=bY9 (i:=i) hj k
 split at e
 ·rw[if_pos (by assumption)];exact ah2 e
 ·rw[if_neg (by assumption)];exact ah2 e
theorem M5 {xs:Array Keyed}(hj:j<=xs.size)(heq:∀ k,i<=k->k<j->KF f d xs k=KF f d xs (j - 1))(k:Nat):KF f d (mirror xs i j ((j - i) / 2)) k=KF f d xs k:=by
 rw[at3 hj]
 split
 ·rw[heq _ (by omega) (by omega),heq k (by omega) (by omega)]
 ·rfl
end
def Q0 {O:aX6}(f:Keyed->O.α)(d:O.α)(lo:Nat)(xs:Array Keyed)(k:Nat):Prop:=∀ i j,i<=j->j<k->O.kle (KF f d xs (lo+i)) (KF f d xs (lo+j))
def ad5 {O:aX6}(f:Keyed->O.α)(d:O.α)(lo:Nat)(xs:Array Keyed)(k:Nat):Prop:=∀ i j,i<=j->j<k->O.kle (KF f d xs (lo+j)) (KF f d xs (lo+i))
def Pre (lo:Nat)(xs ys:Array Keyed):Prop:=∀ k,k<lo->ys[k]?=xs[k]?
theorem Pre.rf (lo:Nat)(xs:Array Keyed):Pre lo xs xs:=fun _ _=>rfl
theorem Pre.trans {lo:Nat}{xs ys zs:Array Keyed}(a:Pre lo xs ys)(b:Pre lo ys zs):Pre lo xs zs:=fun k hk=>(b k hk).trans (a k hk)
theorem Pre.mirror {lo:Nat}{xs:Array Keyed}(hj:j<=xs.size)(hi:lo<=i):Pre lo xs (mirror xs i j ((j - i) / 2)):=fun k hk=>by
 rw[bY9 hj,if_neg (by omega)]
theorem Pre.bubble {lo src dd:Nat}{xs:Array Keyed}(hs:src<xs.size)(hd:dd<=src)(hl:lo<=src - dd):Pre lo xs (bubble xs src dd):=fun k hk=>by
 rw[getElem?_bubble hs dd hd,if_neg (by omega),if_neg (by omega)]
structure SI (a₀:Array Keyed) (κ:SortKind) (p:Array (Nat × Nat × Nat)) (st:SortSt):Prop where
 perm:(n6 st).Perm a₀
 kind:kindOf st=κ
 failed:X9 st=none
 pend:Z2 st=p
section
variable {p:Array (Nat × Nat × Nat)} {O:aX6} {f:Keyed->O.α} {d:O.α}
theorem SI.size {st:SortSt}(h:SI a₀ κ p st):(n6 st).size=a₀.size:=h.perm.size_eq
theorem SI.setArr {st:SortSt}(h:SI a₀ κ p st){xs:Array Keyed}(hp:xs.Perm (n6 st)):SI a₀ κ p (setArr st xs):=⟨hp.trans h.perm,h.kind,h.failed,h.pend⟩
theorem SI.at {st:SortSt}(h:SI a₀ κ p st)(hi:i<a₀.size):∃ x,(n6 st)[i]?=some x/\x∈a₀.toList:=by
 have hi':i<(n6 st).size:=by rw[h.size];exact hi
 exact⟨(n6 st)[i],getElem?_pos _ i hi',(ab5.mp h.perm).mem_iff.mp (by simp)⟩
abbrev bJ8 (prog:Program)(w:World)(A:Around)(E:Value->Shared->Prop)(s:Shared)(κ:SortKind)(a₀:Array Keyed){O:aX6}(f:Keyed->O.α):Prop:=Cmp prog w A E s κ (·∈a₀.toList) (Bf f)
theorem ab9 (C:bJ8 prog w A E s κ a₀ f){st:SortSt}{Q:Option Bool->SortSt->Prop}(hB:SI a₀ κ p st)(hi:i<a₀.size)(hj:j<a₀.size)
  (h:Q (some (O.blt (KF f d (n6 st) i) (KF f d (n6 st) j))) st):wpS (p0 prog w) A E s (ltAt' i j) Q st:=by
 obtain⟨x,e1,hx⟩:=hB.at hi
 obtain⟨y,e2,hy⟩:=hB.at hj
 rw[ay0 e1,ay0 e2]at h
 exact bk6 C hB.kind e1 e2 hx hy h
theorem bd9 {st:SortSt} {lo a nrem:Nat} {Q:Option (Option Nat) × Nat->SortSt->Prop} {b:Nat->Option (Option Nat) × Nat->StateT SortSt Sem (ForInStep (Option (Option Nat) × Nat))} (ha:1<=a) (han:a<=nrem)
  (hb : ∀ x n (R : ForInStep (Option (Option Nat) × Nat) -> SortSt -> Prop), 1 <= n -> n < nrem -> (O.klt (KF f d (n6 st) (lo + n)) (KF f d (n6 st) (lo + n - 1)) -> R (.done (none, n)) st) ->
   (O.kle (KF f d (n6 st) (lo+n - 1)) (KF f d (n6 st) (lo+n))->R (.yield (none,n+1)) st)->wpS (p0 prog w) A E s (b x (none,n)) R st)
  (hs:Q0 f d lo (n6 st) a)
  (h:∀ n,a<=n->n<=nrem->Q0 f d lo (n6 st) n->(n=nrem\/O.klt (KF f d (n6 st) (lo+n)) (KF f d (n6 st) (lo+n - 1)))->Q (none,n) st) :
  wpS (p0 prog w) A E s (forIn [a:nrem] (none,a) b) Q st:=by
 refine ah8 (I:=fun x c st'=>st'=st/\c=(none,x)/\Q0 f d lo (n6 st) x) ?step ?fin ⟨rfl,rfl,hs⟩
 case fin =>
  rintro c st' ⟨rfl,rfl,hs'⟩
  rw[show max a nrem=nrem by omega]at hs' ⊢
  exact h nrem han (c6 _) hs' (.inl rfl)
 case step =>
  rintro x c st' hax hxn ⟨rfl,rfl,hs'⟩
  refine hb x x _ (by omega) hxn (fun q=>h x hax (by omega) hs' (.inr q)) (fun q=>⟨rfl,rfl,fun i j hij hj=>?_⟩)
  by_cases hjx:j<x
  ·exact hs' i j hij hjx
  ·have hj':j=x:=by omega
   subst hj'
   by_cases hi':i=j
   ·subst hi';exact KeyOrd.kle_refl _
   ·refine KeyOrd.kle_trans (hs' i (j - 1) (by omega) (by omega)) ?_
    rw[show lo+(j - 1)=lo+j - 1 by omega]
    exact q
theorem bq0 {st:SortSt} {lo nrem:Nat} {Q:Option (Option Nat) × Nat × Nat->SortSt->Prop} (hn:lo+nrem<=a₀.size) (h1:1<=n) (hnn:n<=nrem) (hB:SI a₀ κ p st)
  (hb : ∀ y x neq st' (R : ForInStep (Option (Option Nat) × Nat × Nat) -> SortSt -> Prop), SI a₀ κ p st' -> 1 <= x -> x < nrem ->
   (O.klt (KF f d (n6 st') (lo+x)) (KF f d (n6 st') (lo+x - 1))->0<neq->R (.yield (none,x+1,0)) (setArr st' (mirror (n6 st') (lo+x - (neq+1)) (lo+x) ((lo+x - (lo+x - (neq+1))) / 2)))) ->
   (O.klt (KF f d (n6 st') (lo+x)) (KF f d (n6 st') (lo+x - 1))->R (.yield (none,x+1,0)) st') ->
   (R (.done (none,x,neq)) st') ->
   (O.kle (KF f d (n6 st') (lo+x - 1)) (KF f d (n6 st') (lo+x))->O.kle (KF f d (n6 st') (lo+x)) (KF f d (n6 st') (lo+x - 1))->R (.yield (none,x+1,neq+1)) st')->wpS (p0 prog w) A E s (b y (none,x,neq)) R st')
  (hs:ad5 f d lo (n6 st) n)
  (h:∀ m neq st',SI a₀ κ p st'->Pre lo (n6 st) (n6 st')->n<=m->m<=nrem->ad5 f d lo (n6 st') m->neq+1<=m->(∀ i,m - (neq+1)<=i->i<m->KF f d (n6 st') (lo+i)=KF f d (n6 st') (lo+m - 1))->Q (none,m,neq) st') :
  wpS (p0 prog w) A E s (forIn [n:nrem] (none,n,0) b) Q st:=by
 refine ah8 (I:=fun x c st'=>∃ neq,c=(none,x,neq)/\SI a₀ κ p st'/\Pre lo (n6 st) (n6 st')/\ad5 f d lo (n6 st') x/\neq+1<=x /\
   (∀ i,x - (neq+1)<=i->i<x->KF f d (n6 st') (lo+i)=KF f d (n6 st') (lo+x - 1))) ?step ?fin ⟨0,rfl,hB,Pre.rf _ _,hs,by omega,fun i h1 h2=>by congr 1;omega⟩
 case fin =>
  rintro c st' ⟨neq,rfl,hB',hp',hs',hq,he⟩
  rw[show max n nrem=nrem by omega]at hs' hq he ⊢
  exact h nrem neq st' hB' hp' hnn (c6 _) hs' hq he
 case step =>
  rintro x c st' hax hxn ⟨neq,rfl,hB',hp',hs',hq,he⟩
  have hsz:lo+x<=(n6 st').size:=by rw[hB'.size];omega
  have step1:O.klt (KF f d (n6 st') (lo+x)) (KF f d (n6 st') (lo+x - 1))->∀ xs:Array Keyed,(∀ k,KF f d xs k=KF f d (n6 st') k)->ad5 f d lo xs (x+1):=by
   intro hless xs hk i j hij hj
   rw[hk,hk]
   by_cases hjx:j<x
   ·exact hs' i j hij hjx
   ·have hj':j=x:=by omega
    subst hj'
    by_cases hi':i=j
    ·subst hi';exact KeyOrd.kle_refl _
    ·refine KeyOrd.kle_trans (KeyOrd.kle_of_klt hless) ?_
     rw[show lo+j - 1=lo+(j - 1) by omega]
     exact hs' i (j - 1) (by omega) (by omega)
  have he':∀ k,lo+x - (neq+1)<=k->k<lo+x->KF f d (n6 st') k=KF f d (n6 st') (lo+x - 1):=fun k h1 h2=>by
   have:=he (k - lo) (by omega) (by omega)
   rw[show lo+(k - lo)=k by omega]at this
   exact this
  refine hb x x neq st' _ hB' (by omega) hxn (fun q hneq=>?_) (fun q=>?_) (h x neq st' hB' hp' hax (by omega) hs' hq he) (fun q q'=>?_)
  ·exact⟨0,rfl,hB'.setArr (bj7 _ _ _ _),hp'.trans (Pre.mirror hsz (by omega)),step1 q _ (M5 hsz he'),by omega,fun i h1 h2=>by congr 1;omega⟩
  ·exact⟨0,rfl,hB',hp',step1 q _ (fun _=>rfl),by omega,fun i h1 h2=>by congr 1;omega⟩
  ·have heqx:KF f d (n6 st') (lo+x)=KF f d (n6 st') (lo+x - 1):=KeyOrd.kle_antisymm q' q
   refine⟨neq+1,rfl,hB',hp',fun i j hij hj=>?_,by omega,fun i h1 h2=>?_⟩
   ·by_cases hjx:j<x
    ·exact hs' i j hij hjx
    ·have hj':j=x:=by omega
     subst hj'
     by_cases hi':i=j
     ·subst hi';exact KeyOrd.kle_refl _
     ·rw[heqx,show lo+j - 1=lo+(j - 1) by omega];exact hs' i (j - 1) (by omega) (by omega)
   ·rw[show lo+(x+1) - 1=lo+x by omega]
    by_cases hix:i=x
    ·subst hix;rfl
    ·rw[heqx];exact he i (by omega) (by omega)
theorem wpS_countRun (C:bJ8 prog w A E s κ a₀ f) {st:SortSt} {lo nrem:Nat} {Q:Option Nat->SortSt->Prop} (d:O.α) (hn:lo+nrem<=a₀.size) (h1:1<=nrem) (hB:SI a₀ κ p st)
    (h:∀ m st',SI a₀ κ p st'->Pre lo (n6 st) (n6 st')->1<=m->m<=nrem->Q0 f d lo (n6 st') m->Q (some m) st') :
    wpS (p0 prog w) A E s (countRun' lo nrem) Q st:=by
  rw[countRun'_eq]
  dsimp only
  refine C2 (bd9 (f:=f) (d:=d) (lo:=lo) (c6 1) h1 (fun x n R hn1 hn2 q1 q2=>?_) (fun i j hij hj=>by have:i=j:=(by omega);subst this;exact KeyOrd.kle_refl _) fun n hn1 hn2 hsn hor=>?_)
  · dsimp only
    refine C2 (ab9 (d:=d) C hB (by omega) (by omega) ?_)
    cases e:O.blt (KF f d (n6 st) (lo+n)) (KF f d (n6 st) (lo+n - 1)) with
    | true=>exact G4 (q1 e)
    | false=>exact G4 (q2 e)
  dsimp only
  by_cases hnn:n=nrem
  · rw[if_pos (by simpa using hnn)]
    exact G4 (h n st hB (Pre.rf _ _) hn1 hn2 hsn)
  rw[if_neg (by simpa using hnn)]
  have hlt:=hor.resolve_left hnn
  by_cases hrose:1<n/\O.blt (KF f d (n6 st) lo) (KF f d (n6 st) (lo+n - 1))=true
  · rw[if_pos hrose.1]
    refine C2 (ab9 (d:=d) C hB (by omega) (by omega) ?_)
    rw[hrose.2]
    exact G4 (h n st hB (Pre.rf _ _) hn1 hn2 hsn)
  have hfell:1<n->O.blt (KF f d (n6 st) lo) (KF f d (n6 st) (lo+n - 1))=false:=fun hgt=>by
    cases e:O.blt (KF f d (n6 st) lo) (KF f d (n6 st) (lo+n - 1)) with
    | false=>rfl
    | true=>exact absurd ⟨hgt,e⟩ hrose
  have fall:∃ st2,SI a₀ κ p st2/\Pre lo (n6 st) (n6 st2)/\ad5 f d lo (n6 st2) (n+1)/\(n > 1->st2=setArr st (mirror (n6 st) lo (lo+n) ((lo+n - lo) / 2)))/\(¬ n > 1->st2=st):=by
    by_cases hgt:1<n
    · have hfell:=hfell hgt
      have hsz:lo+n<=(n6 st).size:=by rw[hB.size];omega
      have hall:∀ k,lo<=k->k<lo+n->KF f d (n6 st) k=KF f d (n6 st) (lo+n - 1):=by
        intro k hk0 hk
        have a1:=hsn 0 (k - lo) (by omega) (by omega)
        have a2:=hsn (k - lo) (n - 1) (by omega) (by omega)
        rw[show lo+0=lo by omega,show lo+(k - lo)=k by omega]at a1
        rw[show lo+(k - lo)=k by omega,show lo+(n - 1)=lo+n - 1 by omega]at a2
        exact KeyOrd.kle_antisymm a2 (KeyOrd.kle_trans hfell a1)
      refine⟨_,hB.setArr (bj7 _ _ _ _),Pre.mirror hsz (c6 _),?_,fun _=>rfl,fun e=>by omega⟩
      intro i j hij hj
      show O.kle (KF f d (mirror (n6 st) _ _ _) (lo+j)) (KF f d (mirror (n6 st) _ _ _) (lo+i))
      rw[M5 hsz hall,M5 hsz hall]
      by_cases hjn:j<n
      · rw[hall (lo+i) (by omega) (by omega),hall (lo+j) (by omega) (by omega)];exact KeyOrd.kle_refl _
      · have hj':j=n:=by omega
        subst hj'
        by_cases hi':i=j
        · subst hi';exact KeyOrd.kle_refl _
        · rw[hall (lo+i) (by omega) (by omega)];exact KeyOrd.kle_of_klt hlt
    · have hn1':n=1:=by omega
      subst hn1'
      refine⟨st,hB,Pre.rf _ _,?_,fun q=>by omega,fun _=>rfl⟩
      intro i j hij hj
      by_cases hi':i=j
      · subst hi';exact KeyOrd.kle_refl _
      · have hi0:i=0:=by omega
        have hj1:j=1:=by omega
        subst hi0;subst hj1
        rw[show lo+0=lo+1 - 1 by omega]
        exact KeyOrd.kle_of_klt hlt
  obtain⟨st2,hB2,hp2,hs2,e2,e3⟩:=fall
  by_cases hgt:n > 1
  all_goals first
    | (rw [if_pos hgt]
       refine C2 (ab9 (d:=d) C hB (by omega) (by omega) ?_)
       rw[hfell hgt]
       dsimp only
       rw[if_neg g8]
       refine C2 (aE3 ?_)
       rw[<- e2 hgt])
    | (rw [if_neg hgt]
       have e3:=e3 hgt
       rw[<- e3])
  all_goals
    clear e2 e3
    refine C2 (aQ5 ?_)
    refine C2 (bq0 (f:=f) (d:=d) (lo:=lo) hn (by omega) (by omega) hB2 (fun y x neq st' R hB' x1 x2 q1 q2 q3 q4=>?_) hs2 fun m neq st' hB' hp' hm1 hm2 hs' hq he=>?_)
    · dsimp only
      refine C2 (ab9 (d:=d) C hB' (by omega) (by omega) ?_)
      cases e:O.blt (KF f d (n6 st') (lo+x)) (KF f d (n6 st') (lo+x - 1)) with
      | true =>
        dsimp only
        rw[if_pos rfl]
        split
        · rename_i hz
          exact C2 (aE3 (G4 (q1 e hz)))
        · exact G4 (q2 e)
      | false =>
        dsimp only
        rw[if_neg g8]
        refine C2 (ab9 (d:=d) C hB' (by omega) (by omega) ?_)
        cases e':O.blt (KF f d (n6 st') (lo+x - 1)) (KF f d (n6 st') (lo+x)) with
        | true=>exact G4 q3
        | false=>exact G4 (q4 e e')
    · dsimp only
      have hsz:lo+m<=(n6 st').size:=by rw[hB'.size];omega
      have he':∀ k,lo+m - (neq+1)<=k->k<lo+m->KF f d (n6 st') k=KF f d (n6 st') (lo+m - 1):=fun k h1 h2=>by
        have:=he (k - lo) (by omega) (by omega)
        rw[show lo+(k - lo)=k by omega]at this
        exact this
      have tailOk:∀ st3,SI a₀ κ p st3->Pre lo (n6 st) (n6 st3)->ad5 f d lo (n6 st3) m->SI a₀ κ p (setArr st3 (mirror (n6 st3) lo (lo+m) ((lo+m - lo) / 2)))/\Pre lo (n6 st) (mirror (n6 st3) lo (lo+m) ((lo+m - lo) / 2))/\Q0 f d lo (mirror (n6 st3) lo (lo+m) ((lo+m - lo) / 2)) m:=fun st3 hB3 hp3 hs3=>by
        have hsz3:lo+m<=(n6 st3).size:=by rw[hB3.size];omega
        refine⟨hB3.setArr (bj7 _ _ _ _),hp3.trans (Pre.mirror hsz3 (c6 _)),fun i j hij hj=>?_⟩
        rw[at3 hsz3,at3 hsz3,if_pos (by omega),if_pos (by omega),show lo+(lo+m) - 1 - (lo+i)=lo+(m - 1 - i) by omega,show lo+(lo+m) - 1 - (lo+j)=lo+(m - 1 - j) by omega]
        exact hs3 _ _ (by omega) (by omega)
      have mm:ad5 f d lo (mirror (n6 st') (lo+m - (neq+1)) (lo+m) ((lo+m - (lo+m - (neq+1))) / 2)) m:=fun i j hij hj=>by
        rw[M5 hsz he',M5 hsz he']
        exact hs' i j hij hj
      by_cases hneq:neq > 0
      all_goals first
        | (rw [if_pos hneq]
           refine C2 (aE3 (C2 (aE3 ?_)))
           obtain⟨hB4,hp4,hs4⟩:=tailOk (setArr st' (mirror (n6 st') (lo+m - (neq+1)) (lo+m) ((lo+m - (lo+m - (neq+1))) / 2))) (hB'.setArr (bj7 _ _ _ _)) ((hp2.trans hp').trans (Pre.mirror hsz (by omega))) mm)
        | (rw [if_neg hneq]
           refine C2 (aE3 ?_)
           obtain⟨hB4,hp4,hs4⟩:=tailOk st' hB' (hp2.trans hp') hs')
      all_goals
        refine C2 (bd9 (f:=f) (d:=d) (lo:=lo) (by omega) hm2 (fun x n R hn1 hn2 q1 q2=>?_) hs4 fun n' hn1' hn2' hsn' _=>G4 (h n' _ hB4 hp4 (by omega) hn2' hsn'))
        dsimp only
        refine C2 (ab9 (d:=d) C hB4 (by omega) (by omega) ?_)
        revert q1 q2
        generalize KF f d (n6 _) (lo+n)=u
        generalize KF f d (n6 _) (lo+n - 1)=v
        intro q1 q2
        cases e:O.blt u v with
        | true=>exact G4 (q1 e)
        | false=>exact G4 (q2 e)
theorem av6 (C:bJ8 prog w A E s κ a₀ f) {st:SortSt} {lo ok:Nat} {Q:Bool->SortSt->Prop} (d:O.α) (hn:lo+n<=a₀.size) (hok:ok<=n) (hB:SI a₀ κ p st) (hs:Q0 f d lo (n6 st) ok)
  (h:∀ st',SI a₀ κ p st'->Pre lo (n6 st) (n6 st')->Q0 f d lo (n6 st') n->Q true st'):wpS (p0 prog w) A E s (binarySort' lo n ok) Q st:=by
 rw[binarySort'_eq]
 refine C2 (wpS_mono (ah8 (I:=fun k c st'=>c=(none,())/\SI a₀ κ p st'/\Pre lo (n6 st) (n6 st')/\Q0 f d lo (n6 st') (min k n))
  (Q:=fun c st'=>c=(none,())/\SI a₀ κ p st'/\Pre lo (n6 st) (n6 st')/\Q0 f d lo (n6 st') n) ?step ?fin ?init) ?post)
 case post =>
  rintro c st' ⟨rfl,hB',hp',hs'⟩
  exact G4 (h st' hB' hp' hs')
 case init =>
  refine⟨rfl,hB,Pre.rf _ _,fun i j hij hj=>?_⟩
  by_cases h1:ok=0
  ·have:i=j:=by omega
   subst this;exact KeyOrd.kle_refl _
  ·exact hs i j hij (by omega)
 case fin =>
  rintro c st' ⟨hc,hB',hp',hs'⟩
  refine⟨hc,hB',hp',?_⟩
  rwa [show min (max (max ok 1) n) n=n by omega]at hs'
 case step =>
  rintro k c st' hak hkn ⟨rfl,hB',hp',hs'⟩
  rw[show min k n=k by omega]at hs'
  have hk:lo+k<a₀.size:=by omega
  refine C2 (wpS_mono (ah8 (I:=fun x c st''=>st''=st'/\∃ l r,c=(none,l,r)/\l<=r/\r<=k/\r - l<=k - x /\
    (∀ i,i<l->O.kle (KF f d (n6 st') (lo+i)) (KF f d (n6 st') (lo+k)))/\(∀ i,r<=i->i<k->O.klt (KF f d (n6 st') (lo+k)) (KF f d (n6 st') (lo+i))))
   (Q := fun c st'' => st'' = st' /\ ∃ l r, c = (none, l, r) /\ l <= k /\
    (∀ i,i<l->O.kle (KF f d (n6 st') (lo+i)) (KF f d (n6 st') (lo+k)))/\(∀ i,l<=i->i<k->O.klt (KF f d (n6 st') (lo+k)) (KF f d (n6 st') (lo+i)))) ?istep ?ifin ?iinit) ?ipost)
  case iinit=>exact⟨rfl,0,k,rfl,by omega,by omega,by omega,fun i hi=>by omega,fun i h1 h2=>by omega⟩
  case ifin =>
   rintro c st'' ⟨rfl,l,r,rfl,hlr,hrk,hm,hlo,hhi⟩
   have:l=r:=by omega
   subst this
   exact⟨rfl,l,l,rfl,hrk,hlo,hhi⟩
  case istep =>
   rintro x c st'' _ hxk ⟨rfl,l,r,rfl,hlr,hrk,hm,hlo,hhi⟩
   dsimp only
   by_cases hge:l≥r
   ·rw[if_pos hge]
    have:l=r:=by omega
    subst this
    exact G4 ⟨rfl,l,l,rfl,hrk,hlo,hhi⟩
   ·rw[if_neg hge]
    refine C2 (ab9 (d:=d) C hB' hk (by omega) ?_)
    cases hless:O.blt (KF f d (n6 st'') (lo+k)) (KF f d (n6 st'') (lo+(l+r) / 2))
    case true =>
     simp only[if_true]
     refine G4 ⟨rfl,l,(l+r) / 2,rfl,by omega,by omega,by omega,hlo,fun i h1 h2=>?_⟩
     exact KeyOrd.klt_of_klt_of_kle hless (hs' _ _ h1 h2)
    case false =>
     simp only[j7,if_false]
     refine G4 ⟨rfl,(l+r) / 2+1,r,rfl,by omega,by omega,by omega,fun i h1=>?_,hhi⟩
     exact KeyOrd.kle_trans (hs' i ((l+r) / 2) (by omega) (by omega)) (show O.kle _ _ from hless)
  case ipost =>
   rintro c st'' ⟨rfl,l,r,rfl,hlk,hlo,hhi⟩
   show wpS _ _ _ _ (do moveDown' (lo+k) (lo+l);pure (ForInStep.yield (none,()))) _ _
   rw[moveDown'_eq]
   have hks:lo+k<(n6 st'').size:=by rw[hB'.size];exact hk
   refine C2 (wpS_modify (G4 ⟨rfl,hB'.setArr (bubble_perm _ _ _),hp'.trans (Pre.bubble hks (by omega) (by omega)),?_⟩))
   rw[show min (k+1) n=k+1 by omega]
   intro i j hij hj
   show O.kle (KF f d (bubble (n6 st'') (lo+k) (lo+k - (lo+l))) (lo+i)) (KF f d (bubble (n6 st'') (lo+k) (lo+k - (lo+l))) (lo+j))
   rw[aJ0 hks (by omega),aJ0 hks (by omega),show lo+k - (lo+k - (lo+l))=lo+l by omega]
   have e1:∀ t:Nat,0<t->lo+t - 1=lo+(t - 1):=fun t ht=>by omega
   repeat' split
   all_goals first
    | (exfalso;omega)
    | exact KeyOrd.kle_refl _
    | exact hlo _ (by omega)
    | (rw[e1 _ (by omega)];exact KeyOrd.kle_of_klt (hhi _ (by omega) (by omega)))
    | exact KeyOrd.kle_of_klt (hhi _ (by omega) (by omega))
    | exact hs' _ _ (by omega) (by omega)
    | (rw[e1 _ (by omega)];exact hs' _ _ (by omega) (by omega))
    | (rw[e1 _ (by omega),e1 _ (by omega)];exact hs' _ _ (by omega) (by omega))
end
def shape (ps:List (Nat × Nat × Nat)):List (Nat × Nat):=ps.map fun x=>(x.1,x.2.1)
def cd4:Nat->List (List Keyed)->List (Nat × Nat)
 | _,[]=>[]
 | k,r::rs=>(k,r.length)::cd4 (k+r.length) rs
structure SR (a₀:Array Keyed) (κ:SortKind) (B:Keyed->Keyed->Bool) (runs:List (List Keyed)) (suf:List Keyed) (st:SortSt):Prop where
 perm:(n6 st).Perm a₀
 kind:kindOf st=κ
 failed:X9 st=none
 sh:shape (Z2 st).toList=cd4 0 runs
 ok:∀ r∈runs,r≠[]/\r.Pairwise (le B)
 arr:(n6 st).toList=runs.flatten++suf
section
variable {O:aX6} {f:Keyed->O.α}
theorem bR0 {d:O.α}{xs:Array Keyed}{lo:Nat}(hs:Q0 f d lo xs n)(hn:lo+n<=xs.size):((xs.toList.drop lo).take n).Pairwise (le (Bf f))/\((xs.toList.drop lo).take n).length=n:=by
 refine⟨B4.mpr fun i j hi hj hij=>?_,by rw[t7,G6,m8];omega⟩
 have hjn:j<n:=by rw[t7]at hj;omega
 have gi:∀ k,(hk:k<n)->(xs.toList.drop lo)[k]?=some (xs[lo+k]'(by omega)):=fun k hk=>by
  rw[bN0,p6]
  exact getElem?_pos xs _ _
 have e1:((xs.toList.drop lo).take n)[i]=xs[lo+i]'(by omega):=by
  have:=gi i (by omega)
  rw[<- ah3 (show i<n by omega),d6 hi]at this
  exact Option.some.inj this
 have e2:((xs.toList.drop lo).take n)[j]=xs[lo+j]'(by omega):=by
  have:=gi j hjn
  rw[<- ah3 hjn,d6 hj]at this
  exact Option.some.inj this
 rw[e1,e2]
 have:=hs i j (aq4 hij) hjn
 rw[ay0 (getElem?_pos xs (lo+i) (by omega)),ay0 (getElem?_pos xs (lo+j) (by omega))]at this
 exact this
end
end Tim
namespace Tim
open PySem PyProof.Rows PySem.W
def F2:List Int->List Int->Bool
 | [],[]=>false
 | [],_::_=>true
 | _::_,[]=>false
 | a::x,b::y=>if a=b then F2 x y else decide (a<b)
theorem ao2:∀ x,F2 x x=false
 | []=>rfl
 | a::x=>by unfold F2;rw[if_pos rfl];exact ao2 x
theorem ao1:∀ x y z,F2 x y=true->F2 y z=true->F2 x z=true
 | [],[],z,h,_=>by cases h
 | [],_::_,[],_,h=>by cases h
 | [],_::_,_::_,_,_=>rfl
 | _::_,[],z,h,_=>by cases h
 | _::_,_::_,[],_,h=>by cases h
 | a::x,b::y,c::z,h1,h2=>by
  unfold F2 at h1 h2 ⊢
  by_cases e1:a=b
  ·subst e1
   rw[if_pos rfl]at h1
   by_cases e2:a=c
   ·rw[if_pos e2]at h2 ⊢
    exact ao1 x y z h1 h2
   ·rw[if_neg e2]at h2 ⊢
    exact h2
  ·rw[if_neg e1,decide_eq_true_eq]at h1
   by_cases e2:b=c
   ·subst e2
    rw[if_neg e1,decide_eq_true_eq]
    exact h1
   ·rw[if_neg e2,decide_eq_true_eq]at h2
    rw[if_neg (by omega),decide_eq_true_eq]
    omega
theorem aA3:∀ x y,F2 x y=false->F2 y x=false->x=y
 | [],[],_,_=>rfl
 | [],_::_,h,_=>by cases h
 | _::_,[],_,h=>by cases h
 | a::x,b::y,h1,h2=>by
  unfold F2 at h1 h2
  by_cases e:a=b
  ·subst e
   rw[if_pos rfl]at h1 h2
   rw[aA3 x y h1 h2]
  ·rw[if_neg e,decide_eq_false_iff_not]at h1
   rw[if_neg (Ne.symm e),decide_eq_false_iff_not]at h2
   omega
theorem bH7 (x y z:List Int)(h:F2 x z=true):F2 x y=true\/F2 y z=true:=by
 cases e1:F2 x y with
 | true=>exact .inl rfl
 | false =>
  cases e2:F2 y x with
  | true=>exact .inr (ao1 _ _ _ e2 h)
  | false=>rw[aA3 x y e1 e2]at h;exact .inr h
def bb4:aX6:=⟨List Int,F2,ao2,ao1,bH7,aA3⟩
def IsK (prog:Program)(w:World)(h:Heap)(k:List Int)(v:Value):Prop:=∃ a,v=.ref a/\G9 (A6 prog w) h k a
theorem IsK.inj {k':List Int}(x:IsK prog w h k v)(y:IsK prog w h k' v):k=k':=by
 obtain⟨a,rfl,h1⟩:=x
 obtain⟨b,e,h2⟩:=y
 cases e
 exact h1.inj h2
open Classical in
noncomputable def N7 (prog:Program)(w:World)(h:Heap)(v:Value):List Int:=if q:∃ k,IsK prog w h k v then Classical.choose q else []
theorem M4 (x:IsK prog w h k v):N7 prog w h v=k:=by
 unfold N7
 rw[dif_pos ⟨k,x⟩]
 exact(Classical.choose_spec (⟨k,x⟩:∃ k,IsK prog w h k v)).inj x
theorem IsK.up (x:IsK prog w h k v)(hs:∀ b o,h.get? b=some o->h'.get? b=some o):IsK prog w h' k v:=by
 obtain⟨a,e,o,items,n,h2,h3⟩:=x
 exact⟨a,e,o,items,n,hs a o h2,h3⟩
theorem aG9 {b:Bool}{Q:Bool->Shared->Prop}(hb:b=true):∀ (x y:List Int) (vs us:List Value) (i:Nat) (fin:Bool),ItemsAre (A6 prog w) x vs->ItemsAre (A6 prog w) y us->(x.length<y.length↔fin=true)->Q (F2 x y) s->KatLex prog w A b fin Q (vs.zip us) i s
 | [],[],_,_,i,fin,.nil,.nil,hf,h=>by
  have:fin=false:=by cases fin with | false=>rfl | true=>exact absurd (hf.mpr rfl) (by simp)
  subst this
  exact kat_nil h
 | [],_::_,_,_,i,fin,.nil,.cons _ _,hf,h=>by
  have:fin=true:=hf.mp (by simp)
  subst this
  exact kat_nil h
 | _::_,[],_,_,i,fin,.cons _ _,.nil,hf,h=>by
  have:fin=false:=by cases fin with | false=>rfl | true=>exact absurd (hf.mpr rfl) (by simp)
  subst this
  exact kat_nil h
 | a::x,c::y,_,_,i,fin,.cons h1 t1,.cons h2 t2,hf,h=>by
  obtain⟨t,rfl⟩:=Value.isInt_shape h1
  obtain⟨u,rfl⟩:=Value.isInt_shape h2
  rw[U1]
  refine kat_cons (wpAny_eqBool_int ?_)
  unfold F2 at h
  by_cases e:a=c
  ·subst e
   rw[if_pos rfl]at h
   rw[show (a == a)=true by simp]
   exact kat_yes (aG9 hb x y _ _ (i+1) fin t1 t2 (by rw[<- hf];simp) h)
  ·rw[if_neg e]at h
   rw[show (a == c)=false by simpa using e]
   refine kat_no ?_
   cases hi:(b && i == 0) with
   | true=>exact oneLt_int h
   | false=>exact kat_one _ _ (lt_int h)
theorem aU4 {x y:Value}{k':List Int}{Q:Bool->Shared->Prop}(hx:IsK prog w s.heap k x)(hy:IsK prog w s.heap k' y)(h:Q (F2 k k') s):m5 (p0 prog w) A (keyLt' (bC0 true) x y) Q E s:=by
 obtain⟨a,rfl,o,xs,n,ho,hc,hd,hi⟩:=hx
 obtain⟨b,rfl,o',ys,n',ho',hc',hd',hi'⟩:=hy
 refine kat_lt ho hd ho' hd' (aG9 rfl k k' _ _ 0 _ hi hi' ?_ h)
 have e1:k.length=xs.size:=by have:=hi.length;simpa using this
 have e2:k'.length=ys.size:=by have:=hi'.length;simpa using this
 rw[e1,e2]
 simp
theorem aA5 {Q:SortKind->Shared->Prop}(hne:0<vs.length)(hv:∀ v∈vs,∃ i k,IsK prog w s.heap (i::k) v)(h:Q (bC0 true) s):m5 (p0 prog w) A (keyKind' vs.toArray) Q E s:=by
 have ex:∀ l:List Value,(∀ v∈l,∃ i k,IsK prog w s.heap (i::k) v)->∃ fs:List Value,KatTups s.heap l fs/\fs.length=l.length/\∀ v∈fs,∃ i t,v=.int i t:=fun l=>by
  induction l with
  | nil=>intro _;exact⟨[],KatTups.nil,rfl,(fun _ h=>nomatch h)⟩
  | cons v l ih =>
   intro hl
   obtain⟨i,k,a,rfl,o,xs,n,ho,hc,hd,hi⟩:=hl v f9
   obtain⟨fs,f1,f2,f3⟩:=ih fun v hv=>hl v (d4 _ hv)
   obtain⟨f,hf,t,rfl⟩:∃ f,xs[0]?=some f/\∃ t,f=.int i t:=by
    cases e:xs.toList with
    | nil=>rw[e]at hi;cases hi
    | cons f r =>
     rw[e]at hi
     cases hi with
     | cons h1 _ =>
      obtain⟨t,et⟩:=Value.isInt_shape h1
      exact⟨f,by rw[<- p6,e];rfl,t,et⟩
   refine⟨.int i t::fs,KatTups.cons ho hc hd hf f1,by rw[o9,f2,o9],fun v hv=>?_⟩
   rcases g9.mp hv with rfl | hv
   ·exact⟨i,t,rfl⟩
   ·exact f3 v hv
 obtain⟨fs,f1,f2,f3⟩:=ex vs hv
 refine kat_kind (T:=.type "int") f1 (by omega) (fun v hv=>?_) (by decide) ?_
 ·obtain⟨i,t,rfl⟩:=f3 v hv
  exact .now
 ·exact h
end Tim
namespace Sett
open PySem PySem.SetTable
theorem bc8 {P:Nat->Prop}(h:∃ n,P n):∃ n,P n/\∀ m,m<n->¬ P m:=by
 obtain⟨n,hn⟩:=h
 induction n using Nat.strongRecOn with
 | ind n ih =>
  by_cases q:∃ m,m<n/\P m
  ·obtain⟨m,hm,pm⟩:=q
   exact ih m hm pm
  ·exact⟨n,hn,fun m hm pm=>q ⟨m,hm,pm⟩⟩
def st (m i pt:Nat):Probe:={ j:=i,more:=runEnd m i - i,i:=i,perturb:=pt,dummy:=none }
def it (t:SetTable):Nat->Probe->Probe
 | 0,p=>p
 | n+1,p=>it t n (t.advance p)
theorem aO1 (t:SetTable):∀ (a b:Nat) (p:Probe),it t (a+b) p=it t b (it t a p)
 | 0,b,p=>by rw[af2];rfl
 | a+1,b,p=>by
  rw[show a+1+b=(a+b)+1 by omega]
  exact aO1 t a b (t.advance p)
theorem aj0 (t:SetTable)(n:Nat)(p:Probe):it t (n+1) p=t.advance (it t n p):=aO1 t n 1 p
theorem ar4 (m i:Nat):i<=runEnd m i/\runEnd m i<=i+9:=by unfold runEnd;split<;>omega
theorem aS5 (h:i<=m):runEnd m i<=m:=by unfold runEnd;split<;>omega
theorem aN9 (t:SetTable)(i pt:Nat):∀ k,k<=runEnd t.mask i - i->it t k (st t.mask i pt)={ j:=i+k,more:=runEnd t.mask i - i - k,i:=i,perturb:=pt,dummy:=none }
 | 0,_=>rfl
 | k+1,h=>by
  rw[aj0,aN9 t i pt k (by omega)]
  unfold advance
  dsimp only
  rw[if_pos (by omega)]
  simp only[Probe.mk.injEq,and_true,true_and]
  omega
theorem aO0 (t:SetTable)(i pt:Nat):it t (runEnd t.mask i - i+1) (st t.mask i pt)=st t.mask (leap t.mask i pt).1 (leap t.mask i pt).2:=by
 rw[aj0,aN9 t i pt _ (c6 _)]
 unfold advance
 dsimp only
 rw[if_neg (by omega)]
 rfl
def rn (m i pt:Nat):Nat->Nat × Nat
 | 0=>(i,pt)
 | r+1=>leap m (rn m i pt r).1 (rn m i pt r).2
theorem bL6 (m i pt:Nat):∀ r,(rn m i pt r).2=pt / 32 ^ r
 | 0=>by simp[rn]
 | r+1=>by
  show (rn m i pt r).2 / 32=_
  rw[bL6 m i pt r,al9,aP7]
theorem bL7 (m i pt:Nat)(h:i<=m):∀ r,(rn m i pt r).1<=m
 | 0=>h
 | r+1=>aj3 (bY1 _ (af3 m))
theorem bM5 (t:SetTable)(i pt:Nat):∀ r,∃ n,n<=10*r/\it t n (st t.mask i pt)=st t.mask (rn t.mask i pt r).1 (rn t.mask i pt r).2
 | 0=>⟨0,c6 _,rfl⟩
 | r+1=>by
  obtain⟨n,hn,e⟩:=bM5 t i pt r
  have h9:=ar4 t.mask (rn t.mask i pt r).1
  refine⟨n+(runEnd t.mask (rn t.mask i pt r).1 - (rn t.mask i pt r).1+1),by omega,?_⟩
  rw[aO1,e,aO0]
  rfl
def f5 (m i:Nat):Nat:=(i*5+1) % (m+1)
def orb (m:Nat):Nat->Nat->List Nat
 | 0,_=>[]
 | k+1,i=>i::orb m k (f5 m i)
def Full (m:Nat):Prop:=∀ b,b<=m->∀ a,a<=m->∃ n,n<=m/\Nat.repeat (f5 m) n a=b
def chk (m:Nat):Bool:=(orb m (m+1) 0).foldl (fun acc i=>acc ||| 2 ^ i) 0 == 2 ^ (m+1) - 1
theorem aW6:∀ (l:List Nat) (acc b:Nat),(l.foldl (fun acc i=>acc ||| 2 ^ i) acc).testBit b=true->acc.testBit b=true\/b∈l
 | [],acc,b,h=>.inl h
 | i::l,acc,b,h=>by
  rcases aW6 l _ b h with q | q
  ·rw[Nat.testBit_or,Bool.or_eq_true]at q
   rcases q with q | q
   ·exact .inl q
   ·rw[bN1]at q
    exact .inr (by rw[of_decide_eq_true q];exact f9)
  ·exact .inr (d4 _ q)
theorem an3 (f:Nat->Nat)(a:Nat):∀ n k,Nat.repeat f (n+k) a=Nat.repeat f k (Nat.repeat f n a)
 | n,0=>rfl
 | n,k+1=>by
  show f (Nat.repeat f (n+k) a)=f (Nat.repeat f k (Nat.repeat f n a))
  rw[an3 f a n k]
theorem bf8 (m:Nat):∀ k i x,x∈orb m k i->∃ n,n<k/\Nat.repeat (f5 m) n i=x
 | 0,i,x,h=>by cases h
 | k+1,i,x,h=>by
  rcases g9.mp h with rfl | h
  ·exact⟨0,af3 _,rfl⟩
  ·obtain⟨n,hn,e⟩:=bf8 m k (f5 m i) x h
   refine⟨n+1,by omega,?_⟩
   rw[Nat.add_comm n 1,an3]
   exact e
theorem ax5 (hc:chk m=true)(hz:Nat.repeat (f5 m) (m+1) 0=0):Full m:=by
 intro b hb a ha
 unfold chk at hc
 have hc:=eq_of_beq hc
 have get:∀ x,x<=m->∃ n,n<m+1/\Nat.repeat (f5 m) n 0=x:=fun x hx=>by
  have hb:(2 ^ (m+1) - 1).testBit x=true:=by rw[Nat.testBit_two_pow_sub_one];exact decide_eq_true (by omega)
  rw[<- hc]at hb
  rcases aW6 _ _ _ hb with q | q
  ·simp at q
  ·exact bf8 m (m+1) 0 x q
 obtain⟨p,hp,ep⟩:=get a ha
 obtain⟨q,hq,eq⟩:=get b hb
 by_cases h:p<=q
 ·refine⟨q - p,by omega,?_⟩
  rw[<- ep,<- an3,show p+(q - p)=q by omega,eq]
 ·refine⟨m+1 - p+q,by omega,?_⟩
  rw[<- ep,<- an3,show p+(m+1 - p+q)=(m+1)+q by omega,an3,hz,eq]
def Good (m:Nat):Prop:=m=7\/m=31\/m=127\/m=511
set_option maxRecDepth 100000 in
theorem Good.full (h:Good m):Full m:=by
 rcases h with rfl | rfl | rfl | rfl
 ·exact ax5 (by decide +kernel) (by decide +kernel)
 ·exact ax5 (by decide +kernel) (by decide +kernel)
 ·exact ax5 (by decide +kernel) (by decide +kernel)
 ·exact ax5 (by decide +kernel) (by decide +kernel)
theorem bf3 (m i pt:Nat)(hp:pt<2 ^ 64):∀ k,(rn m i pt (13+k)).1=Nat.repeat (f5 m) k (rn m i pt 13).1
 | 0=>rfl
 | k+1=>by
  show (leap m (rn m i pt (13+k)).1 (rn m i pt (13+k)).2).1=f5 m (Nat.repeat (f5 m) k (rn m i pt 13).1)
  rw[<- bf3 m i pt hp k]
  unfold leap f5
  have:(rn m i pt (13+k)).2 / 32=0:=by
   rw[bL6,Nat.pow_add,<- al9]
   have:pt / 32 ^ 13=0:=Nat.div_eq_of_lt (bA6 hp (by decide))
   rw[this]
   simp
  dsimp only
  rw[this,Nat.add_zero]
theorem bf4 {pt b:Nat}(g:Good m)(hi:i<=m)(hp:pt<2 ^ 64)(hb:b<=m):∃ r,r<turns m/\(rn m i pt r).1=b:=by
 obtain⟨n,hn,e⟩:=g.full b hb (rn m i pt 13).1 (bL7 m i pt hi 13)
 exact⟨13+n,by unfold turns;omega,by rw[bf3 m i pt hp];exact e⟩
theorem bI2 (t:SetTable){pt b:Nat}(g:Good t.mask)(hi:i<=t.mask)(hp:pt<2 ^ 64)(hb:b<=t.mask):∃ n,n<10*turns t.mask/\(it t n (st t.mask i pt)).j=b:=by
 obtain⟨r,hr,e⟩:=bf4 g hi hp hb
 obtain⟨n,hn,e'⟩:=bM5 t i pt r
 refine⟨n,by omega,?_⟩
 rw[e']
 exact e
theorem aU9 (t:SetTable):∀ (n:Nat) (p:Probe),(it t n p).dummy=p.dummy
 | 0,p=>rfl
 | n+1,p=>by
  show (it t n (t.advance p)).dummy=_
  rw[aU9 t n]
  unfold advance
  split<;>rfl
theorem bi3 (h:Int):bits h<2 ^ 64:=by
 unfold bits
 have h1:=aX9 h (show (2 ^ 64:Int)≠0 by decide)
 have h2:=aD5 h (show (0:Int)<2 ^ 64 by decide)
 omega
theorem af8 (t:SetTable)(h:Int):t.probeStart h=st t.mask (bits h % (t.mask+1)) (bits h):=rfl
theorem ax4 {t t':SetTable}(h:t'.mask=t.mask):∀ (n:Nat) (p:Probe),it t' n p=it t n p
 | 0,p=>rfl
 | n+1,p=>by
  show it t' n (t'.advance p)=it t n (t.advance p)
  have:t'.advance p=t.advance p:=by unfold advance;rw[h]
  rw[this,ax4 h n]
def Asc (xs:Array Nat):Prop:=∀ (i j a b:Nat),i<j->xs[i]?=some a->xs[j]?=some b->a<b
theorem aC1 {xs:Array Nat}(asc:Asc xs)(j:Nat):∀ (fuel lo hi:Nat),hi - lo<=fuel->lo<=hi->hi<=xs.size->(∀ i a,i<lo->xs[i]?=some a->a<j)->(∀ i a,hi<=i->xs[i]?=some a->j<=a) ->
  (below.go xs j fuel lo hi)<=xs.size/\(∀ i a,i<below.go xs j fuel lo hi->xs[i]?=some a->a<j)/\(∀ i a,below.go xs j fuel lo hi<=i->xs[i]?=some a->j<=a)
 | 0,lo,hi,h0,h1,h2,h3,h4=>by
  have:lo=hi:=by omega
  subst this
  exact⟨h2,h3,h4⟩
 | fuel+1,lo,hi,h0,h1,h2,h3,h4=>by
  unfold below.go
  by_cases hlt:lo<hi
  ·rw[if_pos hlt]
   dsimp only
   have hm:(lo+hi) / 2<xs.size:=by omega
   have hg:xs.getD ((lo+hi) / 2) j=xs[(lo+hi) / 2]:=by simp[bN2,hm]
   have hq:xs[(lo+hi) / 2]?=some xs[(lo+hi) / 2]:=getElem?_pos xs _ hm
   by_cases hc:xs.getD ((lo+hi) / 2) j<j
   ·rw[if_pos hc]
    refine aC1 asc j fuel _ hi (by omega) (by omega) h2 (fun i a hi' e=>?_) h4
    rw[hg]at hc
    by_cases he:i=(lo+hi) / 2
    ·subst he;rw[hq]at e;cases e;exact hc
    ·have:=asc i _ a _ (by omega) e hq
     omega
   ·rw[if_neg hc]
    refine aC1 asc j fuel lo _ (by omega) (by omega) (by omega) h3 (fun i a hi' e=>?_)
    rw[hg]at hc
    by_cases he:i=(lo+hi) / 2
    ·subst he;rw[hq]at e;cases e;omega
    ·have:=asc _ i _ a (by omega) hq e
     omega
  ·rw[if_neg hlt]
   have:lo=hi:=by omega
   subst this
   exact⟨h2,h3,h4⟩
theorem aC0 {xs:Array Nat}(asc:Asc xs)(j:Nat):below xs j<=xs.size/\(∀ i a,i<below xs j->xs[i]?=some a->a<j)/\(∀ i a,below xs j<=i->xs[i]?=some a->j<=a):=
 aC1 asc j xs.size 0 xs.size (by omega) (by omega) (c6 _) (fun i a h=>by omega) fun i a h e=>by
  have:=(getElem?_eq_some_iff.mp e).1
  omega
theorem below_at {xs:Array Nat}(asc:Asc xs)(h:xs[i]?=some j):below xs j=i:=by
 obtain⟨h1,h2,h3⟩:=aC0 asc j
 rcases W4 (below xs j) i with q | q | q
 ·exfalso
  have hlt:below xs j<xs.size:=bA6 q (getElem?_eq_some_iff.mp h).1
  have e:=getElem?_pos xs (below xs j) hlt
  have a1:=h3 (below xs j) _ (c6 _) e
  have a2:=asc _ _ _ _ q e h
  omega
 ·exact q
 ·have:=h2 i j q h
  omega
theorem ar2 {t:SetTable}(asc:Asc t.place)(h:t.place[i]?=some j):t.slot j=.live i:=by
 unfold slot
 dsimp only
 rw[below_at asc h,h]
 simp
theorem aZ5 {t:SetTable}(hd:t.dummies=#[])(h:∀ i:Nat,t.place[i]?≠some j):t.slot j=.empty:=by
 unfold slot
 dsimp only
 rw[if_neg (by simpa using h _),if_neg (by rw[hd];simp[has])]
theorem aV5 {t:SetTable}{hashAt:Nat->Int}{h:Int}:∀ (n fuel:Nat) (p:Probe),n<fuel->(∀ k,k<n->∃ i,t.slot (it t k p).j=.live i/\hashAt i≠h)->t.slot (it t n p).j=.empty ->
  probe.go t hashAt h fuel p=some (.empty (it t n p).j (it t n p).dummy)
 | 0,fuel+1,p,_,_,he=>by
  unfold probe.go
  have he':t.slot p.j=.empty:=he
  rw[he']
  rfl
 | n+1,fuel+1,p,hl,hk,he=>by
  obtain⟨i,e,hne⟩:=hk 0 (af3 _)
  have e':t.slot p.j=.live i:=e
  unfold probe.go
  rw[e']
  dsimp only
  rw[if_neg (by simpa using hne)]
  exact aV5 n fuel (t.advance p) (by omega) (fun k hk'=>hk (k+1) (by omega)) he
theorem bg9 {t:SetTable}{hashAt:Nat->Int}{h:Int}:∀ (n fuel:Nat) (p:Probe),n<fuel->(∀ k,k<n->∃ i,t.slot (it t k p).j=.live i/\hashAt i≠h)->t.slot (it t n p).j=.live i->hashAt i=h ->
  ∃ q,probe.go t hashAt h fuel p=some (.candidate (it t n p).j i q)
 | 0,fuel+1,p,_,_,he,hh=>by
  unfold probe.go
  have he':t.slot p.j=.live i:=he
  rw[he']
  dsimp only
  rw[if_pos (by simpa using hh)]
  exact⟨_,rfl⟩
 | n+1,fuel+1,p,hl,hk,he,hh=>by
  obtain⟨i',e,hne⟩:=hk 0 (af3 _)
  have e':t.slot p.j=.live i':=e
  unfold probe.go
  rw[e']
  dsimp only
  rw[if_neg (by simpa using hne)]
  exact bg9 n fuel (t.advance p) (by omega) (fun k hk'=>hk (k+1) (by omega)) he hh
abbrev En:=Int × Value
structure Tb (t:SetTable) (es:Array En):Prop where
 dum:t.dummies=#[]
 len:t.place.size=es.size
 asc:Asc t.place
 bnd:∀ (i j:Nat),t.place[i]?=some j->j<=t.mask
 good:Good t.mask
 nf:es.size*5<t.mask*3
 path:∀ (i:Nat) (e:En),es[i]?=some e->∃ n,n<10*turns t.mask/\t.place[i]?=some (it t n (t.probeStart e.1)).j/\∀ k,k<n->∃ i':Nat,t.place[i']?=some (it t k (t.probeStart e.1)).j
theorem bz1 {xs:Array Nat}(asc:Asc xs):∀ (i a:Nat),xs[i]?=some a->i<=a
 | 0,a,_=>u7 _
 | i+1,a,h=>by
  have hi:i+1<xs.size:=(getElem?_eq_some_iff.mp h).1
  have e:=getElem?_pos xs i (by omega)
  have h1:=bz1 asc i _ e
  have h2:=asc i (i+1) _ a (by omega) e h
  omega
theorem bn6 {xs:Array Nat}(asc:Asc xs)(h:xs.size<=m):∃ b,b<=m/\∀ i:Nat,xs[i]?≠some b:=by
 by_cases q:∃ i,i<xs.size/\xs[i]?≠some i
 ·obtain⟨i,⟨hi,hne⟩,hmin⟩:=bc8 q
  refine⟨i,by omega,fun k e=>?_⟩
  have hk:=bz1 asc k i e
  rcases aD6 hk with hlt | rfl
  ·have ek:xs[k]?=some k:=Classical.byContradiction fun z=>hmin k hlt ⟨by omega,z⟩
   rw[ek]at e
   cases e
   omega
  ·exact hne e
 ·refine⟨xs.size,h,fun k e=>?_⟩
  have hk:k<xs.size:=(getElem?_eq_some_iff.mp e).1
  have ek:xs[k]?=some k:=Classical.byContradiction fun z=>q ⟨k,hk,z⟩
  rw[ek]at e
  cases e
  omega
theorem Tb.small {t:SetTable}{es:Array En}(T:Tb t es):es.size<=t.mask:=by
 have:=T.nf
 omega
theorem Tb.fits {t:SetTable}{es:Array En}(T:Tb t es):t.fits es.size=true:=by
 unfold SetTable.fits fill
 rw[T.dum,T.len]
 have:=T.small
 simp
 exact this
theorem Tb.odd {t:SetTable}{es:Array En}(T:Tb t es):t.gaveWay=false:=by
 unfold gaveWay
 rcases T.good with e | e | e | e<;>rw[e]<;>rfl
def hashOf (es:Array En)(i:Nat):Int:=(es[i]?.map (·.1)).getD 0
theorem Y8 {es:Array En}{e:En}(h:es[i]?=some e):hashOf es i=e.1:=by unfold hashOf;rw[h];rfl
theorem af7 (t:SetTable)(h:Int):bits h % (t.mask+1)<=t.mask:=aj3 (bY1 _ (af3 _))
theorem Tb.absent {t:SetTable}{es:Array En}(T:Tb t es){h:Int}(hh:∀ e∈es.toList,e.1≠h):∃ n,n<10*turns t.mask/\(∀ i:Nat,t.place[i]?≠some (it t n (t.probeStart h)).j)/\(it t n (t.probeStart h)).j<=t.mask /\
  (∀ k,k<n->∃ i':Nat,t.place[i']?=some (it t k (t.probeStart h)).j)/\t.probe (hashOf es) h (t.probeStart h)=some (.empty (it t n (t.probeStart h)).j none):=by
 obtain⟨b,hb,hfree⟩:=bn6 T.asc (m:=t.mask) (by rw[T.len];exact T.small)
 obtain⟨n0,hn0,e0⟩:=bI2 t T.good (af7 t h) (bi3 h) hb
 rw[<- af8]at e0
 obtain⟨n,⟨hfr,hn,hle⟩,hmin⟩:=bc8 (P:=fun n=>(∀ i:Nat,t.place[i]?≠some (it t n (t.probeStart h)).j)/\n<=n0/\(it t n (t.probeStart h)).j<=t.mask) ⟨n0,by rw[e0];exact hfree,c6 _,by rw[e0];exact hb⟩
 have hocc:∀ k,k<n->∃ i':Nat,t.place[i']?=some (it t k (t.probeStart h)).j:=fun k hk=>Classical.byContradiction fun z=>by
  have hk':∀ i:Nat,t.place[i]?≠some (it t k (t.probeStart h)).j:=fun i e=>z ⟨i,e⟩
  by_cases hkm:(it t k (t.probeStart h)).j<=t.mask
  ·exact hmin k hk ⟨hk',by omega,hkm⟩
  ·-- every place on the way is a slot
   exact hkm (by
    clear z hk' hkm hmin hfr hle hn hk
    rw[af8]
    induction k with
    | zero=>exact af7 t h
    | succ k ih =>
     have key:∀ k,∃ r c,c<=runEnd t.mask (rn t.mask (bits h % (t.mask+1)) (bits h) r).1 - (rn t.mask (bits h % (t.mask+1)) (bits h) r).1 /\
       it t k (st t.mask (bits h % (t.mask+1)) (bits h))=it t c (st t.mask (rn t.mask (bits h % (t.mask+1)) (bits h) r).1 (rn t.mask (bits h % (t.mask+1)) (bits h) r).2):=fun k=>by
      induction k with
      | zero=>exact⟨0,0,u7 _,rfl⟩
      | succ k ih =>
       obtain⟨r,c,hc,e⟩:=ih
       rcases aD6 hc with hlt | heq
       ·exact⟨r,c+1,hlt,by rw[aj0,e,<- aj0]⟩
       ·refine⟨r+1,0,u7 _,?_⟩
        rw[aj0,e,<- aj0,heq,aO0]
        rfl
     obtain⟨r,c,hc,e⟩:=key (k+1)
     rw[e,aN9 t _ _ c hc]
     have h1:=bL7 t.mask (bits h % (t.mask+1)) (bits h) (af7 t h) r
     have h2:=aS5 h1
     have h3:=ar4 t.mask (rn t.mask (bits h % (t.mask+1)) (bits h) r).1
     show (rn t.mask (bits h % (t.mask+1)) (bits h) r).1+c<=t.mask
     omega)
 refine⟨n,by omega,hfr,hle,hocc,?_⟩
 unfold probe
 have:=aV5 (hashAt:=hashOf es) (h:=h) n (10*turns t.mask) (t.probeStart h) (by omega) (fun k hk=>?_) (aZ5 T.dum hfr)
 ·rw[this,aU9]
  rfl
 ·obtain⟨i',e⟩:=hocc k hk
  refine⟨i',ar2 T.asc e,?_⟩
  have hi:i'<es.size:=by rw[<- T.len];exact(getElem?_eq_some_iff.mp e).1
  have e2:=getElem?_pos es i' hi
  rw[Y8 e2]
  exact hh _ (by simp)
theorem Tb.present {t:SetTable}{es:Array En}(T:Tb t es){e:En}(he:es[i]?=some e)(hu:∀ (k:Nat) (e':En),es[k]?=some e'->e'.1=e.1->k=i):∃ j q,t.probe (hashOf es) e.1 (t.probeStart e.1)=some (.candidate j i q):=by
 obtain⟨n,hn,hp,hocc⟩:=T.path i e he
 unfold probe
 obtain⟨m,⟨hm,i1,hi1,hs1⟩,hmin⟩:=bc8 (P:=fun m=>m<=n/\∃ i1:Nat,t.place[i1]?=some (it t m (t.probeStart e.1)).j/\hashOf es i1=e.1) ⟨n,c6 _,i,hp,Y8 he⟩
 have hi2:i1<es.size:=by rw[<- T.len];exact(getElem?_eq_some_iff.mp hi1).1
 have e2:=getElem?_pos es i1 hi2
 rw[Y8 e2]at hs1
 have hii:i1=i:=hu i1 _ e2 hs1
 subst hii
 obtain⟨q,hq⟩:=bg9 (hashAt:=hashOf es) (h:=e.1) (i:=i1) m (10*turns t.mask) (t.probeStart e.1) (by omega) (fun k hk=>by
  obtain⟨i',e3⟩:=hocc k (by omega)
  exact⟨i',ar2 T.asc e3,fun z=>hmin k hk ⟨by omega,i',e3,z⟩⟩) (ar2 T.asc hi1) (Y8 he)
 exact⟨_,q,hq⟩
theorem get_ins {α:Type}{xs:Array α}{p:Nat}{x:α}(hp:p<=xs.size)(i:Nat):(insertAt xs p x)[i]?=if i<p then xs[i]? else if i=p then some x else xs[i - 1]?:=by
 unfold insertAt
 have e0:((xs.extract 0 p).push x).size=p+1:=by rw[aP8,T6];omega
 by_cases h1:i<p
 ·rw[if_pos h1,aX0 (by omega),Array.getElem?_push_lt (by rw[T6];omega)]
  rw[Array.getElem_extract]
  simp only[af2]
  exact(getElem?_pos xs i (by omega)).symm
 ·rw[if_neg h1]
  by_cases h2:i=p
  ·subst h2
   rw[if_pos rfl,aX0 (by omega)]
   have e1:(xs.extract 0 i).size=i:=by rw[T6];omega
   rw[Array.getElem?_push,e1,if_pos rfl]
  ·rw[if_neg h2,Array.getElem?_append_right (by omega),e0,Array.getElem?_extract]
   split
   ·congr 1;omega
   ·rw[getElem?_neg]
    omega
theorem am7 {α:Type}{xs:Array α}{p:Nat}{x:α}(hp:p<=xs.size):(insertAt xs p x).size=xs.size+1:=by
 unfold insertAt
 rw[Array.size_append,aP8,T6,T6]
 omega
theorem bH5 {α:Type}{xs:Array α}{p:Nat}{x:α}(hp:p<=xs.size)(y:α):y∈(insertAt xs p x).toList↔y=x\/y∈xs.toList:=by
 constructor
 ·intro h
  obtain⟨i,hi⟩:=C3.mp h
  rw[p6,get_ins hp]at hi
  split at hi
  ·exact .inr (d5 (by rw[p6];exact hi))
  ·split at hi
   ·cases hi;exact .inl rfl
   ·exact .inr (d5 (by rw[p6];exact hi))
 ·rintro(rfl | h)
  ·exact d5 (i:=p) (by rw[p6,get_ins hp,if_neg (C9 _),if_pos rfl])
  ·obtain⟨i,hi⟩:=C3.mp h
   rw[p6]at hi
   have hi':i<xs.size:=(getElem?_eq_some_iff.mp hi).1
   by_cases q:i<p
   ·exact d5 (i:=i) (by rw[p6,get_ins hp,if_pos q];exact hi)
   ·exact d5 (i:=i+1) (by rw[p6,get_ins hp,if_neg (by omega),if_neg (by omega)];simpa using hi)
structure Tb' (t:SetTable) (es:Array En):Prop where
 dum:t.dummies=#[]
 len:t.place.size=es.size
 asc:Asc t.place
 bnd:∀ (i j:Nat),t.place[i]?=some j->j<=t.mask
 good:Good t.mask
 fil:es.size<=t.mask
 path:∀ (i:Nat) (e:En),es[i]?=some e->∃ n,n<10*turns t.mask/\t.place[i]?=some (it t n (t.probeStart e.1)).j/\∀ k,k<n->∃ i':Nat,t.place[i']?=some (it t k (t.probeStart e.1)).j
theorem Tb'.full {t:SetTable}{es:Array En}(T:Tb' t es)(h:es.size*5<t.mask*3):Tb t es:=⟨T.dum,T.len,T.asc,T.bnd,T.good,h,T.path⟩
theorem Tb'.fits {t:SetTable}{es:Array En}(T:Tb' t es):t.fits es.size=true:=by
 unfold SetTable.fits fill
 rw[T.dum,T.len]
 have:=T.fil
 simp
 exact this
theorem Tb'.plain {t:SetTable}{es:Array En}(T:Tb' t es)(b:Bool):Tb' { t with plain:=b } es:=by
 have e:∀ n (p:Probe),it { t with plain:=b } n p=it t n p:=fun n p=>ax4 (t:=t) (t':={ t with plain:=b }) rfl n p
 refine⟨T.dum,T.len,T.asc,T.bnd,T.good,T.fil,fun i x hx=>?_⟩
 obtain⟨n,h1,h2,h3⟩:=T.path i x hx
 exact⟨n,h1,by rw[e];exact h2,fun k hk=>by rw[e];exact h3 k hk⟩
theorem Tb.put {t:SetTable}{es:Array En}(T:Tb t es){h:Int}{x:Value}(hn:n<10*turns t.mask)(hfr:∀ i:Nat,t.place[i]?≠some (it t n (t.probeStart h)).j)(hle:(it t n (t.probeStart h)).j<=t.mask)
  (hocc:∀ k,k<n->∃ i':Nat,t.place[i']?=some (it t k (t.probeStart h)).j) :
  (t.put (it t n (t.probeStart h)).j).2<=es.size/\Tb' (t.put (it t n (t.probeStart h)).j).1 (insertAt es (t.put (it t n (t.probeStart h)).j).2 (h,x)):=by
 generalize hj:(it t n (t.probeStart h)).j=j at *
 obtain⟨b1,b2,b3⟩:=aC0 T.asc j
 have hp:(t.put j).2=below t.place j:=rfl
 have hd:has t.dummies j=false:=by rw[T.dum];simp[has]
 have ht:(t.put j).1={ t with place:=insertAt t.place (below t.place j) j }:=by
  unfold SetTable.put
  dsimp only
  rw[if_neg (by rw[hd];exact g8)]
 have hm:(t.put j).1.mask=t.mask:=by rw[ht]
 have hpl:(t.put j).1.place=insertAt t.place (below t.place j) j:=by rw[ht]
 have hsz:=T.nf
 have old:∀ (i a:Nat),t.place[i]?=some a->∃ i':Nat,(insertAt t.place (below t.place j) j)[i']?=some a:=fun i a e=>by
  by_cases q:i<below t.place j
  ·exact⟨i,by rw[get_ins b1,if_pos q];exact e⟩
  ·exact⟨i+1,by rw[get_ins b1,if_neg (by omega),if_neg (by omega)];simpa using e⟩
 have hit:∀ k (p:Probe),it (t.put j).1 k p=it t k p:=fun k p=>ax4 hm k p
 have hst:∀ z:Int,(t.put j).1.probeStart z=t.probeStart z:=fun z=>by rw[af8,af8,hm]
 refine⟨by rw[hp,<- T.len];exact b1,?_⟩
 rw[hp]
 refine⟨by rw[ht];exact T.dum,by rw[hpl,am7 b1,am7 (by rw[<- T.len];exact b1),T.len],?_,?_,by rw[hm];exact T.good,?_,?_⟩
 ·rw[hpl]
  intro i k a c hik ea ec
  rw[get_ins b1]at ea ec
  split at ea
  ·rename_i hi
   split at ec
   ·exact T.asc i k a c hik ea ec
   ·split at ec
    ·cases ec;exact b2 i a hi ea
    ·exact T.asc i (k - 1) a c (by omega) ea ec
  ·split at ea
   ·rename_i hi1 hi2
    cases ea
    rw[if_neg (by omega),if_neg (by omega)]at ec
    have h1:=b3 (k - 1) c (by omega) ec
    rcases aD6 h1 with h2 | h2
    ·exact h2
    ·subst h2;exact absurd ec (hfr (k - 1))
   ·rw[if_neg (by omega),if_neg (by omega)]at ec
    exact T.asc (i - 1) (k - 1) a c (by omega) ea ec
 ·rw[hpl,hm]
  intro i a ea
  rw[get_ins b1]at ea
  split at ea
  ·exact T.bnd i a ea
  ·split at ea
   ·cases ea;exact hle
   ·exact T.bnd _ a ea
 ·rw[hm,am7 (by rw[<- T.len];exact b1)]
  have:=T.good
  unfold Good at this
  omega
 ·intro i e he
  rw[hpl,hm]
  have b1':below t.place j<=es.size:=by rw[<- T.len];exact b1
  rw[get_ins b1']at he
  have lift:∀ (i0:Nat) (i':Nat),es[i0]?=some e->(∀ a,t.place[i0]?=some a->(insertAt t.place (below t.place j) j)[i']?=some a) ->
    ∃ n,n<10*turns t.mask/\(insertAt t.place (below t.place j) j)[i']?=some (it (t.put j).1 n ((t.put j).1.probeStart e.1)).j/\∀ k,k<n->∃ i':Nat,(insertAt t.place (below t.place j) j)[i']?=some (it (t.put j).1 k ((t.put j).1.probeStart e.1)).j:=fun i0 i' h0 h1=>by
   obtain⟨n',q1,q2,q3⟩:=T.path i0 e h0
   refine⟨n',q1,?_,fun k hk=>?_⟩
   ·rw[hit,hst];exact h1 _ q2
   ·obtain⟨i2,e2⟩:=q3 k hk
    rw[hit,hst]
    exact old i2 _ e2
  split at he
  ·rename_i hi
   exact lift i i he fun a ea=>by rw[get_ins b1,if_pos hi];exact ea
  ·split at he
   ·rename_i hi1 hi2
    cases he
    refine⟨n,hn,?_,fun k hk=>?_⟩
    ·rw[hit,hst,hj,get_ins b1,if_neg hi1,if_pos hi2]
    ·obtain⟨i2,e2⟩:=hocc k hk
     rw[hit,hst]
     exact old i2 _ e2
   ·rename_i hi1 hi2
    exact lift (i - 1) i he fun a ea=>by rw[get_ins b1,if_neg hi1,if_neg hi2];exact ea
end Sett
variable {es:Array Sett.En}
namespace Sett
open PySem PySem.SetTable
theorem aM4:∀ (k n:Nat) (g:Nat->Nat),(∀ i,i<n->g i<k)->(∀ i j,i<n->j<n->g i=g j->i=j)->n<=k
 | 0,n,g,h,_=>by
  rcases bX1 n with e | e
  ·omega
  ·exact absurd (h 0 e) (aq6 _)
 | k+1,0,g,_,_=>u7 _
 | k+1,n+1,g,h,inj=>by
  by_cases q:∃ i0,i0<n+1/\g i0=k
  ·obtain⟨i0,h0,e0⟩:=q
   have:=aM4 k n (fun i=>if i=i0 then g n else g i) (fun i hi=>?_) (fun i j hi hj e=>?_)
   ·omega
   ·try dsimp only
    split
    ·rename_i hii
     have h1:=h n (by omega)
     have h2:g n≠k:=fun z=>by have:=inj n i0 (by omega) h0 (by rw[z,e0]);omega
     omega
    ·have h1:=h i (by omega)
     have h2:g i≠k:=fun z=>by have:=inj i i0 (by omega) h0 (by rw[z,e0]);omega
     omega
   ·try dsimp only at e
    split at e
    ·split at e
     ·omega
     ·have:=inj n j (by omega) (by omega) e;omega
    ·split at e
     ·have:=inj i n (by omega) (by omega) e;omega
     ·exact inj i j (by omega) (by omega) e
  ·have:=aM4 k (n+1) g (fun i hi=>?_) inj
   ·omega
   ·have h1:=h i hi
    have h2:g i≠k:=fun z=>q ⟨i,hi,z⟩
    omega
structure LI (t:SetTable) (hs:Array Int) (owner:Array (Option Nat)) (k:Nat):Prop where
 size:owner.size=t.mask+1
 lt:∀ (j i:Nat),owner[j]?=some (some i)->i<k
 inj:∀ (j j' i:Nat),owner[j]?=some (some i)->owner[j']?=some (some i)->j=j'
 has:∀ (i:Nat) (h:Int),i<k->hs[i]?=some h->∃ n,n<10*turns t.mask/\owner[(it t n (t.probeStart h)).j]?=some (some i)/\∀ c,c<n->∃ i':Nat,owner[(it t c (t.probeStart h)).j]?=some (some i')
theorem LI.free {t:SetTable}{hs:Array Int}{owner:Array (Option Nat)}{k:Nat}(L:LI t hs owner k)(hk:k<=t.mask):∃ b,b<=t.mask/\owner[b]?=some none:=by
 apply Classical.byContradiction
 intro z
 have all:∀ b,b<=t.mask->∃ i,owner[b]?=some (some i):=fun b hb=>by
  have e:=getElem?_pos owner b (by rw[L.size];omega)
  cases q:owner[b]'(by rw[L.size];omega) with
  | none=>rw[q]at e;exact absurd ⟨b,hb,e⟩ z
  | some i=>rw[q]at e;exact⟨i,e⟩
 have:=aM4 k (t.mask+1) (fun b=>match owner[b]? with | some (some i)=>i | _=>0) (fun b hb=>?_) (fun b b' hb hb' e=>?_)
 ·omega
 ·obtain⟨i,e⟩:=all b (by omega)
  try dsimp only
  rw[e]
  exact L.lt b i e
 ·obtain⟨i,e1⟩:=all b (by omega)
  obtain⟨i',e2⟩:=all b' (by omega)
  try dsimp only at e
  rw[e1,e2]at e
  dsimp only at e
  subst e
  exact L.inj b b' i e1 e2
theorem aH7 (t:SetTable)(owner:Array (Option Nat))(hz:owner.size=t.mask+1):∀ (fuel i pt:Nat),i<=t.mask->(∃ r,r<fuel/\∃ b,b=(rn t.mask i pt r).1/\owner[b]?=some none) ->
  ∃ n,n<10*fuel/\layClean.free t.mask owner fuel i pt=some (it t n (st t.mask i pt)).j/\owner[(it t n (st t.mask i pt)).j]?=some none/\∀ c,c<n->∃ i':Nat,owner[(it t c (st t.mask i pt)).j]?=some (some i')
 | 0,i,pt,_,⟨r,hr,_⟩=>absurd hr (aq6 _)
 | fuel+1,i,pt,hi,⟨r,hr,b,hb,hbo⟩=>by
  have h9:=ar4 t.mask i
  have hm:=aS5 hi
  unfold layClean.free
  have slotOf:∀ k,k<=runEnd t.mask i - i->(it t k (st t.mask i pt)).j=i+k:=fun k hk=>by rw[aN9 t i pt k hk]
  have getS:∀ k,k<=runEnd t.mask i - i->(owner.getD (i+k) (some 0)).isNone=false->∃ i':Nat,owner[i+k]?=some (some i'):=fun k hk e=>by
   have hlt:i+k<owner.size:=by omega
   have e1:=getElem?_pos owner (i+k) hlt
   have e2:owner.getD (i+k) (some 0)=owner[i+k]:=by simp[bN2,hlt]
   rw[e2]at e
   cases q:owner[i+k] with
   | none=>rw[q]at e;cases e
   | some i'=>rw[q]at e1;exact⟨i',e1⟩
  cases hf:(x6 (runEnd t.mask i+1 - i)).find? (fun k=>(owner.getD (i+k) (some 0)).isNone) with
  | some k =>
   dsimp only
   rw[List.find?_eq_some_iff_getElem]at hf
   obtain⟨hp,k',hk',ek,hbef⟩:=hf
   rw[F9]at hk'
   rw[ae5]at ek
   subst ek
   refine⟨k',by omega,by rw[slotOf k' (by omega)],?_,fun c hc=>?_⟩
   ·rw[slotOf k' (by omega)]
    have hlt:i+k'<owner.size:=by omega
    have e2:owner.getD (i+k') (some 0)=owner[i+k']:=by simp[bN2,hlt]
    rw[e2]at hp
    rw[getElem?_pos owner _ hlt]
    cases q:owner[i+k'] with
    | none=>rfl
    | some z=>rw[q]at hp;cases hp
   ·rw[slotOf c (by omega)]
    have:=hbef c hc
    rw[ae5]at this
    exact getS c (by omega) (by simpa using this)
  | none =>
   dsimp only
   rw[List.find?_eq_none]at hf
   have all:∀ c,c<=runEnd t.mask i - i->∃ i':Nat,owner[i+c]?=some (some i'):=fun c hc=>getS c hc (by simpa only [Bool.not_eq_true] using hf c (A1.mpr (by omega)))
   have hr0:r≠0:=fun z=>by
    subst z
    obtain⟨i',e⟩:=all 0 (u7 _)
    have hb':b=i:=hb
    rw[hb']at hbo
    rw[Nat.add_zero,hbo]at e
    cases e
   obtain⟨r',rfl⟩:∃ r',r=r'+1:=⟨r - 1,by omega⟩
   have shift:∀ r,rn t.mask (leap t.mask i pt).1 (leap t.mask i pt).2 r=rn t.mask i pt (r+1):=fun r=>by
    induction r with
    | zero=>rfl
    | succ r ih =>
     show leap t.mask _ _=leap t.mask _ _
     rw[ih]
   obtain⟨n,hn,e1,e2,e3⟩:=aH7 t owner hz fuel (leap t.mask i pt).1 (leap t.mask i pt).2 (aj3 (bY1 _ (af3 _))) ⟨r',by omega,b,by rw[hb,shift],hbo⟩
   have sh:∀ c,it t (runEnd t.mask i - i+1+c) (st t.mask i pt)=it t c (st t.mask (leap t.mask i pt).1 (leap t.mask i pt).2):=fun c=>by rw[aO1,aO0]
   refine⟨runEnd t.mask i - i+1+n,by omega,by rw[sh];exact e1,by rw[sh];exact e2,fun c hc=>?_⟩
   by_cases q:c<=runEnd t.mask i - i
   ·rw[slotOf c q]
    exact all c q
   ·have:=e3 (c - (runEnd t.mask i - i+1)) (by omega)
    rw[<- sh,show runEnd t.mask i - i+1+(c - (runEnd t.mask i - i+1))=c by omega]at this
    exact this
theorem aU6 (t:SetTable)(g:Good t.mask)(hs:Array Int)(hsz:hs.size<=t.mask):∀ (l:List Int) (k:Nat) (owner:Array (Option Nat)),LI t hs owner k->hs.toList.drop k=l ->
  ∃ owner',(l.foldl (fun acc h=>do
   let (owner,k) <- acc
   let j <- layClean.free t.mask owner (turns t.mask) (bits h % (t.mask+1)) (bits h)
   pure (owner.setIfInBounds j (some k),k+1)) (some (owner,k)))=some (owner',k+l.length)/\LI t hs owner' (k+l.length)
 | [],k,owner,L,_=>⟨owner,rfl,L⟩
 | h::l,k,owner,L,hd=>by
  have hk:k<hs.size:=by
   apply Classical.byContradiction
   intro z
   rw[List.drop_of_length_le (by rw[m8];omega)]at hd
   cases hd
  have hget:hs[k]?=some h:=by
   rw[<- p6]
   have:=congrArg (fun l=>l[0]?) hd
   simpa using this
  obtain⟨b,hb,hbo⟩:=L.free (by omega)
  obtain⟨r,hr,er⟩:=bf4 g (af7 t h) (bi3 h) hb
  obtain⟨n,hn,e1,e2,e3⟩:=aH7 t owner L.size (turns t.mask) (bits h % (t.mask+1)) (bits h) (af7 t h) ⟨r,hr,b,er.symm,hbo⟩
  rw[<- af8]at e1 e2 e3
  have hjs:(it t n (t.probeStart h)).j<owner.size:=(getElem?_eq_some_iff.mp e2).1
  have gs:∀ x,(owner.setIfInBounds (it t n (t.probeStart h)).j (some k))[x]?=if (it t n (t.probeStart h)).j=x then some (some k) else owner[x]?:=fun x=>by
   rw[Array.getElem?_setIfInBounds]
   split
   ·rename_i hx;subst hx;simp[hjs]
   ·rfl
  have occ:∀ (x i:Nat),owner[x]?=some (some i)->∃ i':Nat,(owner.setIfInBounds (it t n (t.probeStart h)).j (some k))[x]?=some (some i'):=fun x i e=>by
   rw[gs];split
   ·exact⟨k,rfl⟩
   ·exact⟨i,e⟩
  have L':LI t hs (owner.setIfInBounds (it t n (t.probeStart h)).j (some k)) (k+1):=by
   refine⟨by rw[Array.size_setIfInBounds];exact L.size,fun j i e=>?_,fun j j' i ea ec=>?_,fun i h' hi hh=>?_⟩
   ·rw[gs]at e
    split at e
    ·cases e;omega
    ·have:=L.lt j i e;omega
   ·rw[gs]at ea ec
    split at ea
    ·rename_i q1
     cases ea
     split at ec
     ·rename_i q2;rw[<- q1,<- q2]
     ·have:=L.lt j' k ec;omega
    ·split at ec
     ·cases ec
      have:=L.lt j k ea;omega
     ·exact L.inj j j' i ea ec
   ·by_cases q:i=k
    ·subst q
     rw[hget]at hh
     cases hh
     refine⟨n,hn,by rw[gs,if_pos rfl],fun c hc=>?_⟩
     obtain⟨i',e⟩:=e3 c hc
     exact occ _ i' e
    ·obtain⟨n',q1,q2,q3⟩:=L.has i h' (by omega) hh
     refine⟨n',q1,?_,fun c hc=>?_⟩
     ·rw[gs]
      split
      ·rename_i q4
       rw[q4]at e2
       rw[e2]at q2
       cases q2
      ·exact q2
     ·obtain⟨i',e⟩:=q3 c hc
      exact occ _ i' e
  obtain⟨owner',f1,f2⟩:=aU6 t g hs hsz l (k+1) _ L' (by
   have e5:hs.toList.drop (k+1)=(hs.toList.drop k).drop 1:=by rw[List.drop_drop]
   rw[e5,hd]
   rfl)
  refine⟨owner',?_,?_⟩
  ·rw[aq1]
   have:(do
     let (owner,k) <- some (owner,k)
     let j <- layClean.free t.mask owner (turns t.mask) (bits h % (t.mask+1)) (bits h)
     pure (owner.setIfInBounds j (some k),k+1))=some (owner.setIfInBounds (it t n (t.probeStart h)).j (some k),k+1):=by
    show (layClean.free t.mask owner (turns t.mask) (bits h % (t.mask+1)) (bits h) >>= fun j=>pure (owner.setIfInBounds j (some k),k+1))=_
    rw[e1]
    rfl
   rw[this,f1,o9]
   congr 2
   omega
  ·rw[o9,show k+(l.length+1)=k+1+l.length by omega]
   exact f2
theorem bv7 {M finger moves:Nat}{led plain:Bool}(g:Good M)(hsz:es.size*5<M*3) :
  ∃ t2 order,laid M finger moves led plain (es.map (·.1))=some (t2,order)/\Tb t2 (order.filterMap (es[·]?))/\(order.filterMap (es[·]?)).toList.Perm es.toList/\order.toList.Perm (x6 es.size)/\t2.led=led/\t2.plain=plain:=by
 let t:SetTable:={ mask:=M,place:=#[],dummies:=#[],finger:=finger,led:=led,moves:=moves,plain:=plain }
 have ht:t.mask=M:=rfl
 have h0:LI t (es.map (·.1)) (Array.replicate (M+1) none) 0:=by
  refine⟨by simp[ht],fun j i e=>?_,fun j j' i e=>?_,fun i h hi=>by omega⟩
  ·rw[bd7]at e;split at e<;>cases e
  ·rw[bd7]at e;split at e<;>cases e
 obtain⟨owner,f1,L⟩:=aU6 t g (es.map (·.1)) (by rw[ae6,ht];omega) (es.map (·.1)).toList 0 _ h0 rfl
 rw[af2,m8,ae6]at f1 L
 have hlay:layClean M (es.map (·.1))=some owner:=by
  unfold layClean
  rw[<- Array.foldl_toList]
  have:(bi9 _ _ (es.map (·.1)).toList)=some (owner,es.size):=f1
  rw[this]
  rfl
 let live:List (Nat × Nat):=(x6 (M+1)).filterMap fun j=>(owner.getD j none).map (j,·)
 have hlive:∀ p:Nat × Nat,p∈live↔owner[p.1]?=some (some p.2):=fun p=>by
  obtain⟨j,i⟩:=p
  have hg:∀ j,owner.getD j none=(owner[j]?).getD none:=fun j=>by simp
  show (j,i)∈List.filterMap _ _↔_
  rw[ae4]
  constructor
  ·rintro⟨j',hj',e⟩
   rw[hg]at e
   cases q:owner[j']? with
   | none=>rw[q]at e;cases e
   | some z =>
    rw[q]at e
    cases z with
    | none=>cases e
    | some i' =>
     have e':(j',i')=(j,i):=Option.some.inj e
     cases e'
     exact q
  ·intro e
   have hj:j<owner.size:=(getElem?_eq_some_iff.mp e).1
   refine⟨j,A1.mpr (by rw[L.size,ht]at hj;exact hj),?_⟩
   rw[hg,e]
   rfl
 have hpw:live.Pairwise (fun a b=>a.1<b.1):=by
  show (List.filterMap _ _).Pairwise _
  rw[List.pairwise_filterMap]
  refine List.Pairwise.imp ?_ U9
  intro a b hab p hp q hq
  cases h1:owner.getD a none with
  | none=>rw[h1]at hp;cases hp
  | some i =>
   cases h2:owner.getD b none with
   | none=>rw[h2]at hq;cases hq
   | some i' =>
    rw[h1]at hp
    rw[h2]at hq
    have e1:(a,i)=p:=Option.some.inj hp
    have e2:(b,i')=q:=Option.some.inj hq
    subst e1 e2
    exact hab
 have hnd:(live.map (·.2)).Nodup:=by
  unfold List.Nodup
  rw[E5]
  refine List.Pairwise.imp_of_mem ?_ hpw
  intro a b ha hb hab e
  have h1:=(hlive a).mp ha
  have h2:=(hlive b).mp hb
  rw[<- e]at h2
  have:=L.inj _ _ _ h1 h2
  omega
 have hord:(live.map (·.2)).Perm (x6 es.size):=by
  refine(List.perm_ext_iff_of_nodup hnd List.nodup_range).mpr fun i=>?_
  rw[A1,m6]
  constructor
  ·rintro⟨p,hp,rfl⟩
   exact L.lt _ _ ((hlive p).mp hp)
  ·intro hi
   obtain⟨n,_,q,_⟩:=L.has i ((es.map (·.1))[i]'(by rw[ae6];exact hi)) hi (getElem?_pos _ _ _)
   exact⟨(_,i),(hlive _).mpr q,rfl⟩
 have hlen:live.length=es.size:=by have:=hord.length_eq;simpa using this
 have hes:∀ i,i∈live.map (·.2)->∃ e,es[i]?=some e:=fun i hi=>by
  have:=hord.mem_iff.mp hi
  rw[A1]at this
  exact⟨es[i],getElem?_pos es i this⟩
 have fm:∀ (l:List Nat),(∀ i∈l,∃ e,es[i]?=some e)->(l.filterMap (es[·]?)).length=l.length/\∀ (p:Nat),(l.filterMap (es[·]?))[p]?=(l[p]?).bind (es[·]?):=fun l=>by
  induction l with
  | nil=>intro _;exact⟨rfl,fun p=>rfl⟩
  | cons a l ih =>
   intro h
   obtain⟨e,he⟩:=h a f9
   obtain⟨i1,i2⟩:=ih fun i hi=>h i (d4 _ hi)
   rw[List.filterMap_cons_some he]
   refine⟨by rw[o9,i1,o9],fun p=>?_⟩
   cases p with
   | zero=>simp[he]
   | succ p=>simpa using i2 p
 obtain⟨fl,fg⟩:=fm _ hes
 have hperm:((live.map (·.2)).filterMap (es[·]?)).Perm es.toList:=by
  refine(hord.filterMap _).trans (List.Perm.of_eq ?_)
  apply V7
  intro p
  obtain⟨_,g2⟩:=fm (x6 es.size) fun i hi=>⟨es[i]'(A1.mp hi),getElem?_pos es i (A1.mp hi)⟩
  rw[g2,show es.toList[p]?=es[p]? from p6 ..]
  by_cases hp:p<es.size
  ·rw[R4 hp];rfl
  ·rw[o5 (by simp;omega),getElem?_neg es p hp];rfl
 let t2:SetTable:={ mask:=M,place:=(live.map (·.1)).toArray,dummies:=#[],finger:=finger,led:=led,moves:=moves,plain:=plain }
 have hes':((live.map (·.2)).toArray.filterMap (es[·]?)).toList=(live.map (·.2)).filterMap (es[·]?):=by simp
 have getE:∀ (p:Nat) (e:En),((live.map (·.2)).toArray.filterMap (es[·]?))[p]?=some e->∃ j i:Nat,live[p]?=some (j,i)/\es[i]?=some e:=fun p e h=>by
  rw[<- p6,hes',fg,r6]at h
  cases q:live[p]? with
  | none=>rw[q]at h;cases h
  | some ji=>rw[q]at h;exact⟨ji.1,ji.2,rfl,h⟩
 have getP:∀ (p:Nat) (j:Nat),t2.place[p]?=some j↔∃ i,live[p]?=some (j,i):=fun p j=>by
  show (live.map (·.1)).toArray[p]?=some j↔_
  rw[List.getElem?_toArray,r6]
  cases q:live[p]? with
  | none=>simp
  | some ji =>
   obtain⟨a,b⟩:=ji
   simp
 have itE:∀ n (p:Probe),it t2 n p=it t n p:=fun n p=>ax4 (t:=t) (t':=t2) rfl n p
 refine⟨t2,(live.map (·.2)).toArray,?_,?_,(by rw[hes'];exact hperm),hord,rfl,rfl⟩
 ·unfold laid
  rw[hlay]
  rfl
 ·refine⟨rfl,?_,?_,?_,g,?_,?_⟩
  ·show (live.map (·.1)).toArray.size=_
   rw[d3,a9,<- m8,hes',fl,a9]
  ·intro i j a b hij ea eb
   obtain⟨_,ea⟩:=(getP i a).mp ea
   obtain⟨_,eb⟩:=(getP j b).mp eb
   obtain⟨h1,e1⟩:=m4.mp ea
   obtain⟨h2,e2⟩:=m4.mp eb
   have:=B4.mp hpw i j h1 h2 hij
   rw[e1,e2]at this
   exact this
  ·intro i j e
   obtain⟨i',e⟩:=(getP i j).mp e
   have:=(hlive _).mp (d5 e)
   have hj:j<owner.size:=(getElem?_eq_some_iff.mp this).1
   rw[L.size]at hj
   show j<=M
   exact aj3 hj
  ·rw[<- m8,hes',fl,a9,hlen]
   exact hsz
  ·intro p e he
   obtain⟨j,i,hl,hi⟩:=getE p e he
   have ho:=(hlive _).mp (d5 hl)
   have hi':i<es.size:=(getElem?_eq_some_iff.mp hi).1
   obtain⟨n,q1,q2,q3⟩:=L.has i e.1 hi' (by rw[Array.getElem?_map,hi];rfl)
   have ej:=L.inj _ _ _ ho q2
   refine⟨n,q1,?_,fun c hc=>?_⟩
   ·rw[itE]
    exact(getP p _).mpr ⟨i,by rw[hl];congr 2⟩
   ·obtain⟨i',e'⟩:=q3 c hc
    obtain⟨p',hp'⟩:=C3.mp ((hlive (_,i')).mpr e')
    exact⟨p',by rw[itE];exact(getP p' _).mpr ⟨i',hp'⟩⟩
theorem bI0 {M finger moves:Nat}{led plain:Bool}(g:Good M)(hsz:es.size*5<M*3) :
  ∃ t2 order,laid M finger moves led plain (es.map (·.1))=some (t2,order)/\Tb t2 (order.filterMap (es[·]?))/\(order.filterMap (es[·]?)).toList.Perm es.toList:=
 let ⟨a,b,c,d,e,_⟩:=bv7 (finger:=finger) (moves:=moves) (led:=led) (plain:=plain) g hsz;⟨a,b,c,d,e⟩
end Sett
namespace Sett
open PySem PySem.SetTable PyProof.Rows
def ai8:List Nat->Nat->Bool
 | [],_=>true
 | x::l,acc=>!acc.testBit x && ai8 l (acc ||| 2 ^ x)
theorem ao0:∀ (l:List Nat) (acc:Nat),ai8 l acc=true->l.Nodup/\∀ x∈l,acc.testBit x=false
 | [],_,_=>⟨bd8,(fun _ h=>nomatch h)⟩
 | x::l,acc,h=>by
  unfold ai8 at h
  rw[B0]at h
  obtain⟨h1,h2⟩:=h
  obtain⟨n,m⟩:=ao0 l _ h2
  have m':∀ y∈l,acc.testBit y=false/\x≠y:=fun y hy=>by
   have:=m y hy
   rw[Nat.testBit_or,Bool.or_eq_false_iff,bN1]at this
   exact⟨this.1,of_decide_eq_false this.2⟩
  refine⟨E9.mpr ⟨fun hx=>(m' x hx).2 rfl,n⟩,fun y hy=>?_⟩
  rcases g9.mp hy with rfl | hy
  ·simpa using h1
  ·exact(m' y hy).1
def hp (n:Nat):Nat:=bits (reduceHash (Builtin.Tuple.tupleHashOf [hashInt ((n / 24:Nat):Int),hashInt ((n % 24:Nat):Int)])) % 3708
set_option maxRecDepth 100000 in
theorem bV4:ai8 ((x6 576).map hp) 0=true:=by decide +kernel
theorem bV3 {a b:Nat}(ha:a<576)(hb:b<576)(h:hp a=hp b):a=b:=by
 have:=(ao0 _ _ bV4).1
 unfold List.Nodup at this
 rw[E5]at this
 rw[B4]at this
 rcases W4 a b with q | q | q
 ·have:=this a b (by simpa using ha) (by simpa using hb) q
  simp only[ae5]at this
  exact absurd h this
 ·exact q
 ·have:=this b a (by simpa using hb) (by simpa using ha) q
  simp only[ae5]at this
  exact absurd h.symm this
def av1 (ks:List Int):Prop:=∃ i j:Nat,i<24/\j<24/\ks=[(i:Int),(j:Int)]
theorem aV0 {k':List Int}(h1:av1 k)(h2:av1 k')(e:u6 (A6 prog w) k=u6 (A6 prog w) k'):k=k':=by
 obtain⟨i,j,hi,hj,rfl⟩:=h1
 obtain⟨i',j',hi',hj',rfl⟩:=h2
 have e2:hp (24*i+j)=hp (24*i'+j'):=by
  unfold hp
  rw[show (24*i+j) / 24=i by omega,show (24*i+j) % 24=j by omega,show (24*i'+j') / 24=i' by omega,show (24*i'+j') % 24=j' by omega]
  exact congrArg (fun z=>bits z % 3708) e
 have:=bV3 (by omega) (by omega) e2
 have h3:i=i':=by omega
 have h4:j=j':=by omega
 rw[h3,h4]
def aj6 (prog:Program)(w:World)(h:Heap)(k:List Int)(e:En):Prop:=∃ a,e.2=.ref a/\G9 (A6 prog w) h k a/\e.1=u6 (A6 prog w) k
def av9 (prog:Program)(w:World)(hk h:Heap)(S:Addr)(ks:List (List Int)):Prop:=
 ∃ o es ep t,h.get? S=some o/\o.ExactSet/\o.data=.set es ep t/\Tb t es/\es.size=ks.length/\ks.Nodup/\(∀ k∈ks,av1 k)/\(∀ k∈ks,∃ e∈es.toList,aj6 prog w hk k e)/\∀ e∈es.toList,∃ k∈ks,aj6 prog w hk k e
theorem bw0 (x:G9 (A6 prog w) h k a)(hs:∀ b o,h.get? b=some o->h'.get? b=some o):G9 (A6 prog w) h' k a:=by
 obtain⟨o,items,n,h2,h3⟩:=x
 exact⟨o,items,n,hs a o h2,h3⟩
theorem aj6.up {e:En}(x:aj6 prog w h k e)(hs:∀ b o,h.get? b=some o->h'.get? b=some o):aj6 prog w h' k e:=by
 obtain⟨a,h1,h2,h6⟩:=x
 exact⟨a,h1,bw0 h2 hs,h6⟩
theorem aj6.inj {k':List Int}{e:En}(x:aj6 prog w h k e)(y:aj6 prog w h k' e):k=k':=by
 obtain⟨a,h1,h2,_⟩:=x
 obtain⟨b,h3,h4,_⟩:=y
 rw[h1]at h3
 cases h3
 exact h2.inj h4
theorem bd1 (x:Addr)(es:Array En):byScan (.ref x) es=false:=by
 unfold byScan Value.scannable
 rfl
theorem as1 {x:Addr}{Q:Bool->Shared->Prop}(hx:G9 (A6 prog w) s.heap k x)(h:Q true s):m5 (p0 prog w) A (bj8 8 (.ref x)) Q E s:=by
 have hT:=hx.typeIs
 obtain⟨o,items,n,ho,hc,hd,hi⟩:=hx
 unfold bj8
 refine a7 (wpAny_specialOf hT F.slot_tuple_hash.lookup ?_)
 dsimp only
 refine a7 (aD1 ho hd ?_)
 show m5 _ _ (forIn items _ _ >>= _) _ _ s
 rw[<- ad8]
 have hv:∀ v∈items.toList,∃ i t,v=.int i t:=fun v hv=>by
  clear ho hd
  generalize items.toList=l at hi hv
  induction hi with
  | nil=>cases hv
  | cons h1 _ ih =>
   rcases g9.mp hv with rfl | hv
   ·obtain⟨t,e⟩:=Value.isInt_shape h1
    exact⟨_,t,e⟩
   ·exact ih hv
 refine a7 (aq3 _ (fun rest r s'=>r.1=none/\s'=s/\∀ v∈rest,∃ i t,v=.int i t) _ ?_ ?_ _ _ ⟨rfl,rfl,hv⟩)
 ·rintro v rest r s' ⟨hr,rfl,hall⟩
  obtain⟨i,t,rfl⟩:=hall v f9
  have e:bj8 7 (.int i t)=pure true:=by unfold bj8;rfl
  rw[e]
  refine a7 (b9 ?_)
  simp only[Z9,j7,if_false]
  exact b9 ⟨rfl,rfl,fun u hu'=>hall u (d4 _ hu')⟩
 ·rintro⟨r1,r2⟩ s' ⟨hr,rfl,_⟩
  simp only at hr
  subst hr
  exact b9 h
theorem aE6 {S x:Addr}{o:Obj}{ep:Nat}{t:SetTable}{h:Int}{Q:SetFound->Shared->Prop}(ho:s.heap.get? S=some o)(hd:o.data=.set es ep t)(T:Tb t es)(hh:∀ e∈es.toList,e.1≠h)
  (hq:∀ n,n<10*turns t.mask->(∀ i:Nat,t.place[i]?≠some (it t n (t.probeStart h)).j)->(it t n (t.probeStart h)).j<=t.mask->(∀ k,k<n->∃ i':Nat,t.place[i']?=some (it t k (t.probeStart h)).j)->Q (.free (it t n (t.probeStart h)).j false) s) :
  m5 (p0 prog w) A (bN6 S (.ref x) h true) Q E s:=by
 obtain⟨n,h1,h2,h3,h4,h5⟩:=T.absent hh
 unfold bN6 aJ7
 refine a7 (Q7 ho hd T.fits ?_)
 dsimp only
 rw[T.odd]
 simp only[j7,if_false]
 split
 ·rename_i met hm
  have e:=hm.symm.trans h5
  cases e
  exact b9 (hq n h1 h2 h3 h4)
 ·rename_i hm
  exact absurd h5 (fun z=>hm _ z)
theorem aW3 {x:Addr}{Q:Bool->Shared->Prop}(hx:G9 (A6 prog w) s.heap k x)(h:Q false s):m5 (p0 prog w) A (ak8 8 (.ref x)) Q E s:=by
 have hT:=hx.typeIs
 obtain⟨o,items,n,ho,hc,hd,hi⟩:=hx
 unfold ak8
 refine a7 (ah7 hT ?_)
 dsimp only
 rw[if_pos (by decide)]
 refine a7 (b9 ?_)
 simp only[Z9,j7,if_false]
 refine a7 (aD1 ho hd ?_)
 dsimp only
 rw[<- ad8]
 have hv:∀ v∈items.toList,∃ i t,v=.int i t:=fun v hv=>by
  clear ho hd
  generalize items.toList=l at hi hv
  induction hi with
  | nil=>cases hv
  | cons h1 _ ih =>
   rcases g9.mp hv with rfl | hv
   ·obtain⟨t,e⟩:=Value.isInt_shape h1
    exact⟨_,t,e⟩
   ·exact ih hv
 refine a7 (aq3 _ (fun rest r s'=>r.1=none/\s'=s/\∀ v∈rest,∃ i t,v=.int i t) _ ?_ ?_ _ _ ⟨rfl,rfl,hv⟩)
 ·rintro v rest r s' ⟨hr,rfl,hall⟩
  obtain⟨i,t,rfl⟩:=hall v f9
  have e:ak8 7 (.int i t)=pure false:=by unfold ak8;rfl
  rw[e]
  refine a7 (b9 ?_)
  simp only[j7,if_false]
  exact b9 ⟨rfl,rfl,fun u hu'=>hall u (d4 _ hu')⟩
 ·rintro⟨r1,r2⟩ s' ⟨hr,rfl,_⟩
  simp only at hr
  subst hr
  exact b9 h
theorem bO6 {x:Addr}{l:List Value}{Q:Bool->Shared->Prop}(hx:G9 (A6 prog w) s.heap k x)(hl:∀ v∈l,∃ a k',v=.ref a/\G9 (A6 prog w) s.heap k' a)(h:Q false s) :
  m5 (p0 prog w) A (searchCouldBeSeen (.ref x) l) Q E s:=by
 unfold searchCouldBeSeen
 refine a7 (aq3 _ (fun rest r s'=>r.1=none/\s'=s/\∀ v∈rest,∃ a k',v=.ref a/\G9 (A6 prog w) s.heap k' a) _ ?_ ?_ _ _ ⟨rfl,rfl,hl⟩)
 ·rintro v rest r s' ⟨hr,rfl,hall⟩
  obtain⟨a,k',rfl,ha⟩:=hall v f9
  have hrest:∀ v∈rest,∃ a k',v=.ref a/\G9 (A6 prog w) s'.heap k' a:=fun u hu'=>hall u (d4 _ hu')
  dsimp only
  split
  ·exact b9 ⟨rfl,rfl,hrest⟩
  ·refine a7 (bN7 hx ?_)
   simp only[Z9,j7,if_false]
   refine a7 (bN7 ha ?_)
   simp only[Z9,j7,if_false]
   refine a7 (aW3 hx ?_)
   simp only[j7,if_false]
   refine a7 (aW3 ha ?_)
   simp only[j7,if_false]
   exact b9 ⟨rfl,rfl,hrest⟩
 ·rintro⟨r1,r2⟩ s' ⟨hr,rfl,_⟩
  simp only at hr
  subst hr
  exact b9 h
theorem az0 {S x:Addr}{o:Obj}{ep:Nat}{t:SetTable}{e:En}{Q:SetFound->Shared->Prop}(hu:A.units<aa1)(ho:s.heap.get? S=some o)(hd:o.data=.set es ep t)(T:Tb t es)
  (hx:G9 (A6 prog w) s.heap k x)(he:es[i]?=some e)(hk:aj6 prog w s.heap k e)(hall:∀ e∈es.toList,∃ k,aj6 prog w s.heap k e)(huq:∀ (c:Nat) (e':En),es[c]?=some e'->e'.1=e.1->c=i)
  (hq:Q (.there none) s):m5 (p0 prog w) A (bN6 S (.ref x) (u6 (A6 prog w) k) true) Q E s:=by
 obtain⟨y,hy1,hy2,hy3⟩:=hk
 obtain⟨j,q,hp⟩:=T.present he huq
 rw[hy3]at hp
 unfold bN6 aJ7
 refine a7 (Q7 ho hd T.fits ?_)
 dsimp only
 rw[T.odd]
 simp only[j7,if_false]
 have fin:m5 (p0 prog w) A (do
   let some (_,y):=es[i]? | bj9 "internal:set-entry"
   let equal <- aQ2 [y] (eqBool y (.ref x))
   let (es',_,t') <- setState S
   if true && equal then return .there none
   let some same:=t'.sameMemory t.moves t.mask | bj9 "set.changed-during-lookup:is-the-new-block-at-the-old-address"
   let still <- match (if same then t'.slot j else .empty) with
    | .live i'=>match es'[i']? with
     | some (_,y')=>do pure (if <- isSame y' y then some i' else none)
     | none=>pure none
    | _=>pure none
   match still with
   | none=>rule "set.search.anew";aJ7 S (.ref x) (u6 (A6 prog w) k) true 99999 none
   | some i'=>if equal then return .there (some i') else aJ7 S (.ref x) (u6 (A6 prog w) k) true 99999 (some q)) Q E s:=by
  rw[he]
  obtain⟨e1,e2⟩:=e
  have hy1:e2=.ref y:=hy1
  subst hy1
  dsimp only
  refine a7 (C1 (wpAny_eqBool_tuple hu hy2 hx ?_))
  refine a7 (Q7 ho hd T.fits ?_)
  dsimp only
  rw[decide_eq_true rfl]
  simp only[Bool.and_self,if_true]
  exact b9 hq
 split
 ·rename_i met hm
  have e9:=hm.symm.trans hp
  cases e9
  dsimp only
  cases hled:t.led with
  | true =>
   simp only[Z9,j7,if_false]
   exact fin
  | false =>
   simp only[Bool.not_false,if_true]
   refine a7 (bO6 hx (fun v hv=>?_) ?_)
   ·rw[m6]at hv
    obtain⟨e',he',rfl⟩:=hv
    have he'':e'∈es.toList:=by
     have:=Array.mem_filter.mp (aq5.mp he')
     exact aq5.mpr this.1
    obtain⟨k',a,h1,h2,_⟩:=hall e' he''
    exact⟨a,k',h1,h2⟩
   ·simp only[j7,if_false]
    exact fin
 ·rename_i hm
  exact absurd hp (fun z=>hm _ z)
theorem thr (g:Good m)(h1:n*5<m*3)(h2:m*3<=(n+1)*5)(h3:n<300):(m=7/\n+1=5)\/(m=31/\n+1=19)\/(m=127/\n+1=77):=by
 rcases g with rfl | rfl | rfl | rfl<;>omega
theorem bc4 (g:Good m)(h1:n*5<m*3)(h2:m*3<=(n+1)*5)(h3:n<300):Good (sizeAbove (grown (n+1)) - 1)/\(n+1)*5<(sizeAbove (grown (n+1)) - 1)*3/\sizeAbove (grown (n+1))<=4096:=by
 rcases thr g h1 h2 h3 with⟨_,e⟩ | ⟨_,e⟩ | ⟨_,e⟩<;>rw[e]<;>refine⟨?_,by decide +kernel,by decide +kernel⟩
 ·exact .inr (.inl (by decide +kernel))
 ·exact .inr (.inr (.inl (by decide +kernel)))
 ·exact .inr (.inr (.inr (by decide +kernel)))
theorem bC9 {t:SetTable}(T:Tb' t es):t.tooFull=decide (t.mask*3<=es.size*5):=by
 unfold tooFull PySem.SetTable.fill
 rw[T.dum,T.len]
 rfl
theorem stored {S:Addr}{o:Obj}{es':Array En}{ep:Nat}{t t':SetTable}(ho:h.get? S=some o)(hd:o.data=.set es ep t) :
  (h.update S (Obj.putSet es' t')).get? S=some { o with data:=.set es' (ep+1) t' }:=by
 have:=P5 (Obj.putSet es' t') ho (by rw[putSet_of es' t' hd];rfl)
 rw[putSet_of es' t' hd]at this
 exact this
theorem aR9 {S x:Addr}{Q:Bool->Shared->Prop}{hp:Heap}(hup:∀ b o,hp.get? b=some o->s.heap.get? b=some o)(hu:A.units<aa1)(hS:av9 prog w hp s.heap S ks)(hx0:G9 (A6 prog w) hp k x)(hk:av1 k)(hn:ks.length<300)
  (hq:∀ (b:Bool) (h':Heap) (tk:Nat),s.toks<=tk->Heap.SameBut S s.heap h'->av9 prog w hp h' S (if k∈ks then ks else k::ks)->Q b { s with heap:=h',toks:=tk }) :
  m5 (p0 prog w) A (setAdd S (.ref x)) Q E s:=by
 have hx:=bw0 hx0 hup
 unfold setAdd
 refine C1 (a7 (wpAny_pyHash_tuple hu hx ?_))
 obtain⟨o,es,ep,t,ho,hex,hd,T,hsz,hnd,hok,hto,hfrom⟩:=hS
 unfold setAddHashed
 refine C1 ?_
 unfold setAddHashedIn
 refine a7 (Q7 (s:={ s with toks:=s.toks+(k.length+1) }) ho hd T.fits ?_)
 dsimp only
 rw[bd1]
 simp only[j7,if_false]
 by_cases hmem:k∈ks
 ·-- it is there
  obtain⟨e,he,hek⟩:=hto k hmem
  obtain⟨i,hi⟩:=C3.mp he
  rw[p6]at hi
  have huq:∀ (c:Nat) (e':En),es[c]?=some e'->e'.1=e.1->c=i:=fun c e' hc hh=>by
   apply Classical.byContradiction
   intro hci
   have hkey:∀ (c:Nat),c<es.size->∃ kk,kk∈ks/\∃ e,es[c]?=some e/\aj6 prog w hp kk e:=fun c hc=>by
    have e:=getElem?_pos es c hc
    obtain⟨kk,h1,h2⟩:=hfrom es[c] (by simp)
    exact⟨kk,h1,_,e,h2⟩
   have e'k:aj6 prog w hp k e':=by
    obtain⟨kk,h1,h2⟩:=hfrom e' (d5 (by rw[p6];exact hc))
    have h3:=h2
    obtain⟨_,_,_,h4⟩:=h2
    have h5:=hek
    obtain⟨_,_,_,h6⟩:=h5
    have:kk=k:=aV0 (prog:=prog) (w:=w) (hok kk h1) hk (by rw[<- h4,hh,h6])
    rw[<- this]
    exact h3
   have hch:∀ n,n<ks.length->∃ c,c<es.size/\∃ e,es[c]?=some e/\∃ kk,ks[n]?=some kk/\aj6 prog w hp kk e:=fun n hn'=>by
    obtain⟨e,he,hek⟩:=hto ks[n] (R3 hn')
    obtain⟨c,hc⟩:=C3.mp he
    rw[p6]at hc
    exact⟨c,(getElem?_eq_some_iff.mp hc).1,e,hc,ks[n],d6 hn',hek⟩
   have:=aM4 (es.size - 1) ks.length (fun n=>if hn':n<ks.length then (let c0:=Classical.choose (hch n hn');let c1:=if c0=c then i else c0;if c1<c then c1 else c1 - 1) else 0) ?_ ?_
   ·have hc':=(getElem?_eq_some_iff.mp hc).1
    omega
   ·intro n hn'
    dsimp only
    rw[dif_pos hn']
    have hp:=Classical.choose_spec (hch n hn')
    generalize Classical.choose (hch n hn')=c0 at hp
    obtain⟨p1,_⟩:=hp
    have hc':=(getElem?_eq_some_iff.mp hc).1
    have hi':=(getElem?_eq_some_iff.mp hi).1
    split<;>split<;>omega
   ·intro n n' hn1 hn2 eqn
    dsimp only at eqn
    rw[dif_pos hn1,dif_pos hn2]at eqn
    have hp:=Classical.choose_spec (hch n hn1)
    have hp':=Classical.choose_spec (hch n' hn2)
    generalize Classical.choose (hch n hn1)=c0 at hp eqn
    generalize Classical.choose (hch n' hn2)=c0' at hp' eqn
    obtain⟨p1,e1,p2,kk,p3,p4⟩:=hp
    obtain⟨p1',e1',p2',kk',p3',p4'⟩:=hp'
    have same:kk=kk':=by
     have r1:aj6 prog w hp kk (if c0=c then e else e1):=by
      split
      ·rename_i hcc
       subst hcc
       rw[hc]at p2
       cases p2
       have:=p4.inj e'k
       rw[this]
       exact hek
      ·exact p4
     have r2:aj6 prog w hp kk' (if c0'=c then e else e1'):=by
      split
      ·rename_i hcc
       subst hcc
       rw[hc]at p2'
       cases p2'
       have:=p4'.inj e'k
       rw[this]
       exact hek
      ·exact p4'
     have g1:es[if c0=c then i else c0]?=some (if c0=c then e else e1):=by split<;>assumption
     have g2:es[if c0'=c then i else c0']?=some (if c0'=c then e else e1'):=by split<;>assumption
     have ne1:(if c0=c then i else c0)≠c:=by split<;>omega
     have ne2:(if c0'=c then i else c0')≠c:=by split<;>omega
     have eqc:(if c0=c then i else c0)=(if c0'=c then i else c0'):=by
      generalize (if c0=c then i else c0)=u at eqn ne1
      generalize (if c0'=c then i else c0')=v at eqn ne2
      split at eqn<;>split at eqn<;>omega
     rw[eqc,g2]at g1
     rw[<- Option.some.inj g1]at r1
     exact r1.inj r2
    subst same
    obtain⟨q1,q2⟩:=m4.mp p3
    obtain⟨q3,q4⟩:=m4.mp p3'
    rcases W4 n n' with z | z | z
    ·exact absurd (q2.trans q4.symm) (B4.mp hnd n n' q1 q3 z)
    ·exact z
    ·exact absurd (q4.trans q2.symm) (B4.mp hnd n' n q3 q1 z)
  refine a7 (az0 (s:={ s with toks:=s.toks+(k.length+1) }) hu ho hd T hx hi (hek.up hup) (fun e he=>?_) huq ?_)
  ·obtain⟨kk,_,h2⟩:=hfrom e he
   exact⟨kk,h2.up hup⟩
  ·refine b9 ?_
   have:=hq false s.heap (s.toks+(k.length+1)) (al7 _ _) (Heap.SameBut.refl S s.heap)
   rw[if_pos hmem]at this
   exact this ⟨o,es,ep,t,ho,hex,hd,T,hsz,hnd,hok,hto,hfrom⟩
 ·-- it is new
  have hh:∀ e∈es.toList,e.1≠u6 (A6 prog w) k:=fun e he z=>by
   obtain⟨kk,h1,h2⟩:=hfrom e he
   obtain⟨_,_,_,h4⟩:=h2
   have:kk=k:=aV0 (prog:=prog) (w:=w) (hok kk h1) hk (by rw[<- h4,z])
   exact hmem (this ▸ h1)
  refine a7 (aE6 (s:={ s with toks:=s.toks+(k.length+1) }) ho hd T hh fun n hn1 hfr hle hocc=>?_)
  dsimp only
  refine a7 (Q7 (s:={ s with toks:=s.toks+(k.length+1) }) ho hd T.fits ?_)
  dsimp only
  obtain⟨hp1,T1⟩:=T.put (h:=u6 (A6 prog w) k) (x:=Value.ref x) hn1 hfr hle hocc
  generalize hpt:t.put (it t n (t.probeStart (u6 (A6 prog w) k))).j=tp at hp1 T1 ⊢
  have hled:tp.1.mask=t.mask:=by
   rw[<- hpt]
   unfold SetTable.put
   rfl
  obtain⟨t1,p⟩:=tp
  dsimp only at hp1 T1 hled ⊢
  have hsz1:(insertAt es p (u6 (A6 prog w) k,Value.ref x)).size=es.size+1:=am7 hp1
  have fits1:(insertAt es p (u6 (A6 prog w) k,Value.ref x)).size<=c5:=by rw[hsz1,hsz,D7];omega
  have made:∀ (h':Heap) (o':Obj) (es':Array En) (ep':Nat) (t':SetTable),Heap.SameBut S s.heap h'->h'.get? S=some o'->o'.ExactSet->o'.data=.set es' ep' t'->Tb t' es' ->
    es'.toList.Perm (insertAt es p (u6 (A6 prog w) k,Value.ref x)).toList->av9 prog w hp h' S (k::ks):=fun h' o' es' ep' t' hsb ho' hex' hd' T' hpm=>by
   have hmemE:∀ e,e∈es'.toList↔e=(u6 (A6 prog w) k,Value.ref x)\/e∈es.toList:=fun e=>by rw[hpm.mem_iff];exact bH5 hp1 e
   have hnew:aj6 prog w hp k (u6 (A6 prog w) k,Value.ref x):=⟨x,rfl,hx0,rfl⟩
   refine⟨o',es',ep',t',ho',hex',hd',T',?_,E9.mpr ⟨hmem,hnd⟩,fun kk hkk=>?_,fun kk hkk=>?_,fun e he=>?_⟩
   ·have:=hpm.length_eq
    rw[m8,m8,hsz1,hsz]at this
    rw[this,o9]
   ·rcases g9.mp hkk with rfl | hkk
    ·exact hk
    ·exact hok kk hkk
   ·rcases g9.mp hkk with rfl | hkk
    ·exact⟨_,(hmemE _).mpr (.inl rfl),hnew⟩
    ·obtain⟨e,he,hek⟩:=hto kk hkk
     exact⟨e,(hmemE e).mpr (.inr he),hek⟩
   ·rcases(hmemE e).mp he with rfl | he
    ·exact⟨k,f9,hnew⟩
    ·obtain⟨kk,h1,h2⟩:=hfrom e he
     exact⟨kk,d4 _ h1,h2⟩
  have rest:∀ b:Bool,m5 (p0 prog w) A (do
    storeSet S (insertAt es p (u6 (A6 prog w) k,Value.ref x)) (if b=true then t1 else { t1 with plain:=false })
    if (!false && (if b=true then t1 else { t1 with plain:=false }).tooFull)=true then do
     setRelay S (grown (es.size+1))
     pure true
    else pure true) Q E { s with toks:=s.toks+(k.length+1) }:=fun b=>by
   have T2:Tb' (if b=true then t1 else { t1 with plain:=false }) (insertAt es p (u6 (A6 prog w) k,Value.ref x)):=by
    split
    ·exact T1
    ·exact T1.plain false
   have hm2:(if b=true then t1 else { t1 with plain:=false }).mask=t.mask:=by split<;>exact hled
   generalize (if b=true then t1 else { t1 with plain:=false })=t2 at T2 hm2
   refine a7 (wpAny_storeSet_of (s:={ s with toks:=s.toks+(k.length+1) }) ho hd ?_ fits1)
   have ho1:=stored (es':=insertAt es p (u6 (A6 prog w) k,Value.ref x)) (t':=t2) ho hd
   have hsb1:=Heap.SameBut.update s.heap S (Obj.putSet (insertAt es p (u6 (A6 prog w) k,Value.ref x)) t2)
   rw[bC9 T2]
   simp only[Bool.not_false,bp1,decide_eq_true_eq]
   by_cases hful:t2.mask*3<=(insertAt es p (u6 (A6 prog w) k,Value.ref x)).size*5
   ·rw[if_pos hful]
    rw[hsz1,hm2]at hful
    obtain⟨g1,g2,g3⟩:=bc4 T.good T.nf hful (by rw[hsz];exact hn)
    unfold setRelay
    refine a7 (a7 (Q7 (s:={ s with heap:=s.heap.update S (Obj.putSet (insertAt es p (u6 (A6 prog w) k,Value.ref x)) t2),toks:=s.toks+(k.length+1) }) ho1 rfl T2.fits ?_))
    dsimp only
    rw[if_neg (by rw[D7];omega)]
    obtain⟨t3,order,hl3,T3,hpm3⟩:=bI0 (M:=sizeAbove (grown (es.size+1)) - 1) (finger:=t2.finger) (moves:=t2.movedTo (sizeAbove (grown (es.size+1)) - 1)) (led:=t2.led) (plain:=t2.plain) (es:=insertAt es p (u6 (A6 prog w) k,Value.ref x)) g1 (by rw[hsz1];exact g2)
    have hrel:t2.relaid ((insertAt es p (u6 (A6 prog w) k,Value.ref x)).map (·.1)) (grown (es.size+1))=some (t3,order):=by
     unfold relaid
     exact hl3
    rw[hrel]
    have hsz3:(order.filterMap ((insertAt es p (u6 (A6 prog w) k,Value.ref x))[·]?)).size=(insertAt es p (u6 (A6 prog w) k,Value.ref x)).size:=by
     rw[<- m8,hpm3.length_eq,m8]
    refine a7 ?_
    show m5 _ _ (if ((order.filterMap ((insertAt es p (u6 (A6 prog w) k,Value.ref x))[·]?)).size != (insertAt es p (u6 (A6 prog w) k,Value.ref x)).size)=true then _ else _) _ _ _
    rw[if_neg (by rw[hsz3];simp)]
    first | refine b9 ?_ | refine a7 (b9 (b9 ?_))
    dsimp only
    refine wpAny_storeSet_of (s:={ s with heap:=s.heap.update S (Obj.putSet (insertAt es p (u6 (A6 prog w) k,Value.ref x)) t2),toks:=s.toks+(k.length+1) }) ho1 rfl ?_ (by rw[hsz3];exact fits1)
    refine b9 ?_
    have ho2:=stored (es':=order.filterMap ((insertAt es p (u6 (A6 prog w) k,Value.ref x))[·]?)) (t':=t3) ho1 rfl
    have hsb2:=hsb1.trans (Heap.SameBut.update _ S (Obj.putSet (order.filterMap ((insertAt es p (u6 (A6 prog w) k,Value.ref x))[·]?)) t3))
    have:=hq true _ (s.toks+(k.length+1)) (al7 _ _) hsb2
    rw[if_neg hmem]at this
    exact this (made _ _ _ _ _ hsb2 ho2 hex rfl T3 hpm3)
   ·rw[if_neg hful]
    refine b9 ?_
    have:=hq true _ (s.toks+(k.length+1)) (al7 _ _) hsb1
    rw[if_neg hmem]at this
    exact this (made _ _ _ _ _ hsb1 ho1 hex rfl (T2.full (by omega)) (List.Perm.refl _))
  cases hpl:t1.plain with
  | true =>
   rw[if_pos rfl]
   refine a7 (as1 (s:={ s with toks:=s.toks+(k.length+1) }) hx ?_)
   exact rest true
  | false =>
   rw[if_neg g8]
   refine a7 (b9 ?_)
   exact rest true
def V3 (ks:List (List Int))(k:List Int):List (List Int):=if k∈ks then ks else k::ks
theorem bw5 (ks:List (List Int))(k:List Int):(V3 ks k).length<=ks.length+1:=by unfold V3;split<;>simp
theorem ao8:∀ (l ks:List (List Int)),(l.foldl V3 ks).length<=ks.length+l.length
 | [],ks=>by simp
 | k::l,ks=>by
  rw[aq1]
  have h1:=ao8 l (V3 ks k)
  have h2:=bw5 ks k
  rw[o9]
  omega
theorem as3:∀ (l ks:List (List Int)),(l.foldl V3 ks).length=ks.length+l.length↔l.Nodup/\∀ x∈l,x∉ks
 | [],ks=>by simp
 | k::l,ks=>by
  rw[aq1,o9,E9]
  by_cases h:k∈ks
  ·have e:V3 ks k=ks:=by unfold V3;rw[if_pos h]
   rw[e]
   have:=ao8 l ks
   constructor
   ·intro q;omega
   ·rintro⟨_,q⟩
    exact absurd h (q k f9)
  ·have e:V3 ks k=k::ks:=by unfold V3;rw[if_neg h]
   rw[e]
   have:=as3 l (k::ks)
   rw[o9]at this
   constructor
   ·intro q
    obtain⟨q1,q2⟩:=this.mp (by omega)
    refine⟨⟨fun hk=>q2 k hk f9,q1⟩,fun x hx=>?_⟩
    rcases g9.mp hx with rfl | hx
    ·exact h
    ·exact fun z=>q2 x hx (d4 _ z)
   ·rintro⟨⟨q1,q2⟩,q3⟩
    have:=this.mpr ⟨q2,fun x hx z=>by
     rcases g9.mp z with rfl | z
     ·exact q1 hx
     ·exact q3 x (d4 _ hx) z⟩
    omega
theorem aQ9 {R:Result->Shared->Prop}{I:Addr}{wr:List Addr}{G:Array bB2->Array bB2->Prop}{P:Nat->Value->Prop}{St:Nat->Shared->Prop}
  (W:WalksS prog w A.in1 I fp wr G n P St)(hu:A.in1.units<aa1)(S:Addr)(hSf:S∉fp)(hp:Heap)(hS0:hp.get? S=none)(hw0:∀ b∈wr,hp.get? b=none)(keys:List (List Int))(hn:keys.length=n)(hb:n<300)
  (hkey:∀ i v,P i v->∃ x k,v=.ref x/\keys[i]?=some k/\av1 k/\G9 (A6 prog w) hp k x) :
  ∀ (c i:Nat) (s:Shared),n - i=c->i<=n->St i s->(∀ b o,hp.get? b=some o->s.heap.get? b=some o)->av9 prog w hp s.heap S ((keys.take i).foldl V3 []) ->
   (∀ s',Moved (S::wr) G s s'->av9 prog w hp s'.heap S (keys.foldl V3 [])->R (.ok (.ret .none)) s') ->
   aD8 (p0 prog w) A (.builtin "set.update.loop" ⟨[.ref S,.ref I],[]⟩) R s:=by
 have hSw:S∉wr:=fun h=>hSf (W.sub _ h)
 have hsub:∀ b∈wr,b∈S::wr:=fun b hb=>d4 _ hb
 have nw:∀ b o,hp.get? b=some o->b∉wr:=fun b o e hm=>by rw[hw0 b hm]at e;cases e
 have nS:∀ b o,hp.get? b=some o->b≠S:=fun b o e hm=>by rw[hm,hS0]at e;cases e
 have setKept:∀ {s s':Shared} {ks:List (List Int)},av9 prog w hp s.heap S ks->(∀ b o,b∉wr->s.heap.get? b=some o->s'.heap.get? b=some o)->av9 prog w hp s'.heap S ks:=fun {s s' ks} hS hk=>by
  obtain⟨o,es,ep,t,ho,rest⟩:=hS
  exact⟨o,es,ep,t,hk S o hSw ho,rest⟩
 intro c
 induction c with
 | zero =>
  intro i s hk hi hst hup hS hR
  have hin:i=n:=by omega
  subst hin
  refine ae9 PyProof.Rows.F.entry_set_update_loop ?_
  rw[Around.under_plainId PyProof.Rows.F.plain_set_update_loop _]
  show m5 _ A.in1 (bA0 (.ref I) >>= _) _ _ s
  refine a7 (W.done s _ _ hst fun s' hm=>?_)
  show m5 _ A.in1 (ret Value.none) _ _ s'
  refine b9 (hR s' (hm.mono hsub) ?_)
  have:=setKept hS hm.heap
  rw[l6 (by omega)]at this
  exact this
 | succ c ih =>
  intro i s hk hi hst hup hS hR
  have hlt:i<n:=by omega
  refine ae9 PyProof.Rows.F.entry_set_update_loop ?_
  rw[Around.under_plainId PyProof.Rows.F.plain_set_update_loop _]
  show m5 _ A.in1 (bA0 (.ref I) >>= _) _ _ s
  refine a7 (W.item i s _ _ hlt hst fun v s' hP hst' hm=>?_)
  obtain⟨x,k,rfl,hki,hok,hx⟩:=hkey i v hP
  have hup':∀ b o,hp.get? b=some o->s'.heap.get? b=some o:=fun b o e=>hm.heap b o (nw b o e) (hup b o e)
  have hS':=setKept (s':=s') hS hm.heap
  show m5 _ A.in1 (aQ2 [Value.ref x] (setAdd S (.ref x)) >>= _) _ _ s'
  refine a7 (C1 ?_)
  have hlen:((keys.take i).foldl V3 []).length<300:=by
   have:=ao8 (keys.take i) []
   rw[t7]at this
   simp only[aX1]at this
   omega
  refine aR9 hup' hu hS' hx hok hlen fun b h' tk htk hsb hS2=>?_
  have hS3:av9 prog w hp h' S ((keys.take (i+1)).foldl V3 []):=by
   rw[C6,hki,List.foldl_append]
   exact hS2
  refine b9 ⟨plainId_quiet PyProof.Rows.F.plain_set_update_loop _,ih (i+1) _ (by omega) hlt (W.frame _ s' _ _ hst' htk fun b hb o e=>?_) (fun b o e=>?_) hS3 fun s'' hm'' hS''=>?_⟩
  ·rw[hsb.2 b (fun h:b=S=>hSf (h ▸ hb))];exact e
  ·show h'.get? b=some o
   rw[hsb.2 b (nS b o e)]
   exact hup' b o e
  ·refine hR s'' (Moved.trans W.gtrans ((hm.mono hsub).then_heap htk fun b o hb e=>?_) hm'') hS''
   rw[hsb.2 b (fun h:b=S=>hb (h ▸ f9))];exact e
set_option maxRecDepth 100000 in
set_option maxHeartbeats 3200000 in
theorem aR8 {keys:List (List Int)}(hh:A.handled=none)(hu:A.units+8<aa1)(hl:s.heap.IsList l items)(hn:keys.length=items.size)(hb:items.size<300)
  (hkey:∀ (i:Nat) (v:Value),items[i]?=some v->∃ x k,v=.ref x/\keys[i]?=some k/\av1 k/\G9 (A6 prog w) s.heap k x)
  (h:∀ (h':Heap) (tk:Nat),av9 prog w s.heap h' s.heap.objs.size (keys.foldl V3 [])->(∀ b o,s.heap.get? b=some o->h'.get? b=some o)->Q (.ref s.heap.objs.size) { s with heap:=h',toks:=tk }) :
  m5 (p0 prog w) A (call (.type "set") [.ref l]) Q E s:=by
 obtain⟨c,tl,hmro⟩:=F.called_set.mro
 have hmade:=F.called_set.made
 have hsub:=F.called_set.sub
 refine bA1 (codeAny_of_tree ?_)
 show m5 _ _ (callAny (.type "set") _) _ _ _
 refine b9 ⟨Code.quiet_builtin _ (by decide +kernel),ae9 F.entry_type_call ?_⟩
 rw[Around.under_plain (weight_type_call_type "set" [.ref l] []) rfl]
 have h1:=F.called_set.notType
 have h2:=F.called_set.canCreate
 have hct:=F.typeCall_set_1 (.ref l)
 repeat (any_goals (first | assumption | wp_step))
 refine Z1 (code_set_new_1 (.ref l) (E:=E) (Q₁:=fun obj s₁=>∃ led:Bool,obj=.ref s.heap.objs.size/\s₁={ s with heap:=s.heap.push { cls:=.type "set",dict:=none,data:=.set #[] 0 (.fresh 0 0 led) } }) fun led=>⟨led,rfl,rfl⟩) fun r s₁ hr=>?_
 cases r with
 | error e=>exact hr
 | ok fl =>
  cases fl with
  | ret obj =>
   obtain⟨led,rfl,rfl⟩:=hr
   have hS:(s.heap.push { cls:=.type "set",dict:=none,data:=.set #[] 0 (.fresh 0 0 led) }).get? s.heap.objs.size=some { cls:=.type "set",dict:=none,data:=.set #[] 0 (.fresh 0 0 led) }:=j3 _ rfl
   have hT:Shared.TypeIs { s with heap:=s.heap.push { cls:=.type "set",dict:=none,data:=.set #[] 0 (.fresh 0 0 led) } } (.ref s.heap.objs.size) "set":=⟨_,hS,rfl⟩
   have hli:=F.called_set.init.lookup
   have hbi:=F.called_set.init.bind (.ref s.heap.objs.size)
   repeat (any_goals (first | assumption | wp_step))
   refine Z1 (codeAny_call_builtin (R:=wants (fun r s₂=>r=.none/\∃ h' tk,s₂={ s with heap:=h',toks:=tk }/\av9 prog w s.heap h' s.heap.objs.size (keys.foldl V3 [])/\(∀ b o,s.heap.get? b=some o->h'.get? b=some o)) E) F.called_set.init.plain F.entry_set_init (check_set_init_1 hT ?_)) fun r₂ s₂ hr₂=>?_
   ·obtain⟨ol,hol,hcl,nl,hdl⟩:=hl
    obtain⟨ocls,odict,odata,oslots⟩:=ol
    simp only at hcl hdl
    subst hcl;subst hdl
    have hol':(s.heap.push { cls:=.type "set",dict:=none,data:=.set #[] 0 (.fresh 0 0 led) }).get? l=some { cls:=.type "list",dict:=odict,data:=.seq items nl,slots:=oslots }:=a8 _ hol
    have hsls:=F.sub_list_set
    have hslf:=F.sub_list_frozenset
    have hne:(Value.type "list" == Value.type "dict")=false:=by decide
    have hl1:(s.heap.push { cls:=.type "set",dict:=none,data:=.set #[] 0 (.fresh 0 0 led) }).IsList l items:=⟨_,hol',rfl,nl,rfl⟩
    unfold av3.«set.__init__» noKeywords Builtin.Frozenset.updateFrom
    generalize hPI:pyIter=PI
    wp_walk
    subst hPI
    refine wpAny_pyIter_list hl1 ?_
    refine a7 (wpAny_runValue ?_)
    have hlS:l<s.heap.objs.size:=d9 hol
    have hh3:A.in1.in1.in1.handled=none:=by simp[hh]
    have hneI:l≠(s.heap.push { cls:=.type "set",dict:=none,data:=.set #[] 0 (.fresh 0 0 led) }).objs.size:=by
     rw[L7];exact i8 (D8 hlS)
    have hSf:s.heap.objs.size∉[(s.heap.push { cls:=.type "set",dict:=none,data:=.set #[] 0 (.fresh 0 0 led) }).objs.size,l]:=by
     rw[L7];simp only[g9,j0,K6,or_false,not_or]
     exact⟨i8 (Nat.lt_succ_self _),S9 hlS⟩
    refine aQ9 ((Walks.list hh3 _ l hneI items).toS) ?hu s.heap.objs.size hSf s.heap ?hn ?hw keys hn hb hkey (items.size - 0) 0 _ (by omega) (u7 _)
     ⟨⟨_,j3 _ rfl,rfl,rfl⟩,(hl1.push _)⟩ (fun b o e=>a8 _ (a8 _ e)) ?hS0 ?hR
    case hu=>show A.units+1+1+1<aa1;omega
    case hn=>exact at5 (c6 _)
    case hw =>
     intro b hb
     have e:b=(s.heap.push { cls:=.type "set",dict:=none,data:=.set #[] 0 (.fresh 0 0 led) }).objs.size:=by simpa using hb
     rw[e]
     exact at5 (by rw[L7];exact W5 _)
    case hS0 =>
     have hget:((s.heap.push { cls:=.type "set",dict:=none,data:=.set #[] 0 (.fresh 0 0 led) }).push { cls:=.type "list_iterator",data:=.fields #[.ref l,.int 0 0] }).get? s.heap.objs.size
       = some { cls:=.type "set",dict:=none,data:=.set #[] 0 (.fresh 0 0 led) }:=a8 _ hS
     refine⟨_,_,_,_,hget,⟨rfl,rfl,rfl⟩,rfl,⟨rfl,rfl,?_,?_,.inl rfl,by show 0*5<7*3;decide,?_⟩,rfl,bd8,(fun _ h=>nomatch h),(fun _ h=>nomatch h),(fun _ h=>nomatch h)⟩
     ·intro i j a b hij ea
      simp[SetTable.fresh]at ea
     ·intro i j ea
      simp[SetTable.fresh]at ea
     ·intro i e ea
      simp at ea
    case hR =>
     intro s' hm hS'
     obtain⟨h',g',d',tk',os'⟩:=s'
     have eg:g'=s.gens:=hm.gens
     have ed:d'=s.drawn:=hm.drawn
     have eo:os'=s.os:=hm.os
     subst eg;subst ed;subst eo
     show m5 _ _ _ _ _ _
     refine b9 ?_
     show m5 _ _ (ret Value.none) _ _ _
     refine b9 ⟨rfl,h',tk',rfl,hS',fun b o e=>?_⟩
     have hlt:=d9 e
     have hb1:b≠s.heap.objs.size:=i8 hlt
     have hb2:b≠(s.heap.push { cls:=.type "set",dict:=none,data:=.set #[] 0 (.fresh 0 0 led) }).objs.size:=by
      rw[L7];exact i8 (D8 hlt)
     exact hm.heap b o (by simp only[g9,j0,K6,or_false,not_or];exact⟨hb1,hb2⟩) (a8 _ (a8 _ e))
   ·cases r₂ with
    | error e=>exact hr₂
    | ok fl₂ =>
     cases fl₂ with
     | ret r =>
      obtain⟨rfl,h',tk,rfl,hS',hk'⟩:=hr₂
      repeat (any_goals (first | assumption | wp_step))
      exact h _ _ hS' hk'
     | _=>exact hr₂.elim
  | _=>exact hr.elim
theorem bb5 {S:Addr}{hp:Heap}(hS:av9 prog w hp s.heap S ks)(hn:ks.length<300)(h:∀ t tk,Q (.int ks.length t) { s with toks:=tk }) :
  m5 (p0 prog w) A (call (.builtin "len") [.ref S]) Q E s:=by
 obtain⟨o,es,ep,t,ho,hex,hd,T,hsz,_⟩:=hS
 refine call_len_set ho hex hd T.fits (by omega) ?_
 rw[hsz]
 exact h _ _
end Sett
namespace L2
open PySem PySem.Spec PyProof.Rows
def y7 (K:W.Frag)(H:Hp)(ys:List V)(ks:List (List Int)):Prop:=X6 (fun y k=>∃ a,y=V.ref a/\SqT K H a (k.map V.int)) ys ks
theorem y7.len {K:W.Frag}(t:y7 K H ys ks):ys.length=ks.length:=Paired.length t
theorem y7.get {K:W.Frag}:∀ {ys:List V} {ks:List (List Int)} {i:Nat} {y:V},y7 K H ys ks->ys[i]?=some y->∃ a k,y=V.ref a/\ks[i]?=some k/\SqT K H a (k.map V.int)
 | _,_,_,_,.nil,e=>by simp at e
 | _,_,0,_,.cons r _,e=>by
  simp at e
  subst e
  obtain⟨a,h1,h2⟩:=r
  exact⟨a,_,h1,rfl,h2⟩
 | _,_,i+1,y,.cons _ t,e=>by
  obtain⟨a,k,h1,h2,h3⟩:=y7.get (i:=i) (y:=y) t (by simpa using e)
  exact⟨a,k,h1,by simpa using h2,h3⟩
theorem y7.same {K:W.Frag}(hs:∀ b o,H b=some o->H' b=some o):∀ {ys:List V} {ks:List (List Int)},y7 K H ys ks->y7 K H' ys ks
 | _,_,.nil=>.nil
 | _,_,.cons r t=>by
  obtain⟨a,h1,h2⟩:=r
  refine .cons ⟨a,h1,?_⟩ (y7.same hs t)
  rcases h2 with(h | ⟨o,h⟩) | h
  ·exact .inl (.inl (hs _ _ h))
  ·exact .inl (.inr ⟨o,hs _ _ h⟩)
  ·exact .inr h
theorem y7.append {K:W.Frag}:∀ {ys zs:List V} {ks ls:List (List Int)},y7 K H ys ks->y7 K H zs ls->y7 K H (ys++zs) (ks++ls)
 | _,_,_,_,.nil,s=>s
 | _,_,_,_,.cons r t,s=>.cons r (y7.append t s)
theorem aU8:∀ {k:List Int} {its:List Value},B9 (k.map V.int) its->ItemsAre (A6 prog w) k its
 | [],_,.nil=>.nil
 | i::k,_,.cons r t=>by
  obtain⟨tk,rfl⟩:=r
  exact .cons (by simp[A6,Value.isInt]) (aU8 t)
theorem bC8 (I:Inv X pins σ H s)(h:SqT X.K H a (k.map V.int)):G9 (A6 X.prog X.w) s.heap k a:=by
 obtain⟨its,r,⟨o,ho,hc,n,hd⟩,_⟩:=I.tuple h
 exact⟨o,its.toArray,n,ho,hc,hd,by simpa using aU8 r⟩
theorem S2 (I:Inv X pins σ H s):∀ {ys:List V} {ks:List (List Int)} {us:List Value},y7 X.K H ys ks->B9 ys us->X6 (fun u k=>∃ a,u=Value.ref a/\G9 (A6 X.prog X.w) s.heap k a) us ks
 | _,_,_,.nil,.nil=>.nil
 | _,_,_,.cons r t,.cons q v=>by
  obtain⟨a,rfl,h⟩:=r
  cases q
  exact .cons ⟨a,rfl,bC8 I h⟩ (S2 I t v)
theorem S5 {α β:Type}{R:α->β->Prop}:∀ {l:List α} {m:List β} {i:Nat} {x:α},X6 R l m->l[i]?=some x->∃ y,m[i]?=some y/\R x y
 | _,_,_,_,.nil,e=>by simp at e
 | _,_,0,_,.cons r _,e=>by simp at e;subst e;exact⟨_,rfl,r⟩
 | _,_,i+1,x,.cons _ t,e=>by
  obtain⟨y,h1,h2⟩:=S5 (i:=i) (x:=x) t (by simpa using e)
  exact⟨y,by simpa using h1,h2⟩
theorem Y6 {α β:Type}{R:α->β->Prop}{l l':List α}(p:l'.Perm l):∀ {m:List β},X6 R l m->∃ m',m'.Perm m/\X6 R l' m':=by
 induction p with
 | nil=>intro m h;exact⟨m,List.Perm.refl _,h⟩
 | cons x _ ih =>
  intro m h
  cases h with
  | cons r t =>
   obtain⟨m',p',h'⟩:=ih t
   exact⟨_::m',p'.cons _,.cons r h'⟩
 | swap x y l =>
  intro m h
  cases h with
  | cons r t =>
   cases t with
   | cons r' t'=>exact⟨_::_::_,List.Perm.swap _ _ _,.cons r' (.cons r t')⟩
 | trans _ _ ih1 ih2 =>
  intro m h
  obtain⟨m1,p1,h1⟩:=ih2 h
  obtain⟨m2,p2,h2⟩:=ih1 h1
  exact⟨m2,p2.trans p1,h2⟩
theorem T9 {α β:Type}{R:α->β->Prop}:∀ {l:List α} {m:List β},X6 R l m->X6 (fun b a=>R a b) m l
 | _,_,.nil=>.nil
 | _,_,.cons r t=>.cons r (T9 t)
theorem az6 {α β:Type}{R S:α->β->Prop}(f:∀ a b,R a b->S a b):∀ {l:List α} {m:List β},X6 R l m->X6 S l m
 | _,_,.nil=>.nil
 | _,_,.cons r t=>.cons (f _ _ r) (az6 f t)
def bo8 (P:Program)(w:World)(S:Addr)(n:Nat):HO:=.ext fun h=>∃ hk ks,ks.length=n/\n<300/\Sett.av9 P w hk h S ks
theorem by7 (hc:X.calm=true)(hu:X.A.units+8<aa1):R9 X (.type "set") (fun xs H Q=>∃ p ys ks,xs=[.ref p]/\SqL X.K H p ys/\y7 X.K H ys ks/\(∀ k∈ks,Sett.av1 k)/\ks.length<300 /\
  ∀ S,H S=none->Q (.ref S) (upd H S (bo8 X.prog X.w S (ks.foldl Sett.V3 []).length))):=by
 intro pins s σ H xs us Q I r h
 obtain⟨p,ys,ks,rfl,hq,ht,hok,hb,q⟩:=h
 obtain⟨u,rfl,rx⟩:=vals1 r
 cases rx
 obtain⟨its,r',pl,hz⟩:=I.list hq
 have hlen:=r'.length
 have hk:=S2 I ht r'
 have hkl:=ht.len
 refine Sett.aR8 (keys:=ks) (I.ok.hd hc) hu pl.isList (by simp;omega) (by simp;omega) (fun i v hv=>?_) fun h' tk hS kp=>?_
 ·obtain⟨k,h1,a,rfl,h2⟩:=S5 hk (by simpa using hv)
  exact⟨a,k,rfl,h1,hok k (d5 h1),h2⟩
 ·have hle:=Sett.ao8 ks []
  simp only[aX1]at hle
  refine⟨.ref s.heap.objs.size,_,I.laid (o:=bo8 X.prog X.w s.heap.objs.size (ks.foldl Sett.V3 []).length) (t':=tk) kp (c6 _) ?_,rfl,q _ (I.hok.fresh (c6 _))⟩
  refine⟨⟨s.heap,ks.foldl Sett.V3 [],rfl,by omega,hS⟩,?_,fun h1 h2 ⟨hk1,ks1,e1,e2,hS1⟩ hkeep=>⟨hk1,ks1,e1,e2,?_⟩⟩
  ·obtain⟨o,_,_,_,ho,_⟩:=hS
   exact⟨o,ho⟩
  ·obtain⟨o,es,ep,t,ho,rest⟩:=hS1
   exact⟨o,es,ep,t,hkeep o ho,rest⟩
theorem call_len_set:R9 X (.builtin "len") (fun xs H Q=>∃ S n,xs=[.ref S]/\H S=some (bo8 X.prog X.w S n)/\Q (.int n) H):=by
 intro pins s σ H xs us Q I r h
 obtain⟨S,n,rfl,hS,q⟩:=h
 obtain⟨u,rfl,rx⟩:=vals1 r
 cases rx
 obtain⟨⟨hk,ks,e1,e2,hS1⟩,_⟩:=I.hok S _ hS
 refine Sett.bb5 hS1 (by omega) fun t tk=>?_
 exact⟨.int n,H,I.tok _,⟨t,by rw[e1]⟩,q⟩
def B5 (X:Cx)(scope:Scope)(cl:List (Str × Addr))(N':List Str)(s₃:Shared)(H₃:Hp)(fp:List Addr)(xe':Value->Shared->Prop):Cx:=
 { X with N:=N',s₀:=s₃,H₀:=H₃,env:=L8 scope cl s₃.heap.objs.size X.env,outer:=X.stack,ex:=fp,fn:=fun _=>false,pn:=[],xe:=xe' }
def aw0 (env:Env):List (Str × Addr)->Prop
 | []=>True
 | (x,c)::r=>env.cells.lookup x=some c/\aw0 env r
theorem aw0.get {env:Env}:∀ {cl:List (Str × Addr)} {x:Str} {c:Addr},aw0 env cl->cl.lookup x=some c->env.cells.lookup x=some c
 | [],_,_,_,h=>by cases h
 | (y,d)::r,x,c,⟨h1,h2⟩,h=>by
  rw[bY2]at h
  cases e:x == y with
  | true =>
   rw[e]at h
   cases h
   rw[eq_of_beq e]
   exact h1
  | false =>
   rw[e]at h
   exact aw0.get h2 h
def ap7 (names:List (Str × aJ2))(cl:List (Str × Addr)):Bool:=names.all fun y=>y.2 != .cell && (y.2 != .free || (cl.lookup y.1).isSome)
theorem X0 {env:Env}:∀ {names:List (Str × aJ2)} {x:Str} {k:aJ2},(names.map fun(n,k)=>if (k == NameKind.free && env.scope.kind == .function && env.kindOf n == some .cell) then (n,NameKind.cell) else (n,k)).lookup x=some k ->
  ∃ k',(x,k')∈names/\(k'=k\/(k'=.free/\k=.cell))
 | [],_,_,h=>by cases h
 | (n,k0)::r,x,k,h=>by
  rw[j9]at h
  have hn:∀ k1,(List.lookup x ((n,k1)::r.map fun(n,k)=>if (k == NameKind.free && env.scope.kind == .function && env.kindOf n == some .cell) then (n,NameKind.cell) else (n,k)))=some k->(x=n/\k1=k)\/∃ k',(x,k')∈r/\(k'=k\/(k'=.free/\k=.cell)):=fun k1 h=>by
   rw[bY2]at h
   cases e:x == n with
   | true=>rw[e]at h;cases h;exact .inl ⟨eq_of_beq e,rfl⟩
   | false=>rw[e]at h;exact .inr (X0 h)
  dsimp only at h
  by_cases hc:(k0 == NameKind.free && env.scope.kind == .function && env.kindOf n == some .cell)=true
  ·rw[if_pos hc]at h
   rcases hn _ h with⟨rfl,rfl⟩ | ⟨k',h1,h2⟩
   ·simp only[B0]at hc
    have e0:k0=.free:=eq_of_beq hc.1.1
    exact⟨k0,f9,.inr ⟨e0,rfl⟩⟩
   ·exact⟨k',d4 _ h1,h2⟩
  ·rw[if_neg hc]at h
   rcases hn _ h with⟨rfl,rfl⟩ | ⟨k',h1,h2⟩
   ·exact⟨k0,f9,.inl rfl⟩
   ·exact⟨k',d4 _ h1,h2⟩
def Z7 (lk:List (Option Nat))(σ:St):St:=lk.map fun o=>o.bind fun j=>(σ[j]?).join
def bo9 (X:Cx)(N':List Str)(lk:List (Option Nat))(scope:Scope)(cl:List (Str × Addr)):Prop:=
 lk.length=N'.length/\∀ (i j:Nat) (x:Str),N'[i]?=some x->lk[i]?=some (some j)->X.N[j]?=some x/\(X.env.scope.names.lookup x=some .cell\/X.env.scope.names.lookup x=some .free)/\(cl.lookup x).isSome=true /\
  ((L8 scope cl 0 X.env).kindOf x=some .cell\/(L8 scope cl 0 X.env).kindOf x=some .free)
theorem al4 {H3:Hp}{s3:Shared}{h1:Heap}{tk:Nat}{xe':Value->Shared->Prop}{m0:Str->Option Value}
  (I:Inv X pins σ H3 s3)(hf:∀ b∈fp,O2 X pins H3 b)(hkind:scope.kind=.function)(hcl:aw0 X.env cl)(hfr:ap7 scope.names cl=true)(hlk:bo9 X N' lk scope cl)
  (hn:h1.Ns s3.heap.objs.size m0)(hk:∀ b u,s3.heap.get? b=some u->h1.get? b=some u)(hfs:∀ b∈fp,b<s3.heap.objs.size):Inv (B5 X scope cl N' s3 H3 fp xe') [] (Z7 lk σ) H3 { s3 with heap:=h1,toks:=tk }:=by
 have hC:H3 s3.heap.objs.size=none:=I.hok.fresh (c6 _)
 have hmem:∀ y∈scope.names,y.2≠.cell/\(y.2=.free->(cl.lookup y.1).isSome=true):=fun y hy=>by
  unfold ap7 at hfr
  rw[O3]at hfr
  have:=hfr y hy
  rw[B0]at this
  refine⟨by simpa using this.1,fun e=>?_⟩
  have h2:=this.2
  rw[e]at h2
  simpa using h2
 have hcell:∀ x c,cl.lookup x=some c->X.env.cells.lookup x=some c:=fun x c e=>hcl.get e
 have clt:∀ x c,cl.lookup x=some c->c<s3.heap.objs.size:=fun x c e=>by
  obtain⟨v,q⟩:=I.cell x c (hcell x c e)
  exact q.lt
 refine⟨⟨I.ok.mod,hkind,I.ok.glob,I.ok.blt,c6 _,fun x y c e1 e2=>I.ok.inj x y c (hcell x c e1) (hcell y c e2),fun x hx=>?_,(fun x c e=>by cases e),I.ok.hd,I.ok.frames,.inl rfl,fun b hb=>?_,fun b o e=>I.bs b o e,n8 I.ok.bsz I.sz,fun b o e hb=>?_,fun b hb z=>?_,I.stack,I.stkFree⟩,
  rfl,I.bare,Un.kept hk,⟨m0,hn,fun i x v e1 e2 e3=>?_⟩,fun x c e=>?_,hC,fun x c e=>?_,(fun p hp=>nomatch hp),I.hok.kept hk,?_⟩
 ·have hx':(relabel scope X.env).names.lookup x=some .cell\/(relabel scope X.env).names.lookup x=some .free:=hx
  have:∃ k',(x,k')∈scope.names/\k'=.free:=by
   rcases hx' with h | h
   ·obtain⟨k',h1,h2⟩:=X0 h
    rcases h2 with h2 | h2
    ·exact absurd h2 (hmem _ h1).1
    ·exact⟨k',h1,h2.1⟩
   ·obtain⟨k',h1,h2⟩:=X0 h
    rcases h2 with h2 | h2
    ·exact⟨k',h1,h2⟩
    ·exact⟨k',h1,h2.1⟩
  obtain⟨k',h1,h2⟩:=this
  exact u4.mp ((hmem _ h1).2 h2)
 ·obtain⟨f0,f1,f2,f3,f4,f5⟩:=hf b hb
  exact⟨i8 (hfs b hb),fun x c e=>f4 x c (hcell x c e)⟩
 ·obtain⟨f0,f1,f2,f3,f4,f5⟩:=hf b hb
  rcases f3 with f3 | f3
  ·exact I.ok.noex b o e f3
  ·exact absurd (q8 (d9 e) (n8 I.ok.bsz f3)) (C9 _)
 ·obtain⟨f0,f1,f2,f3,f4,f5⟩:=hf b hb
  rcases g9.mp (I.stkSub b z) with e | e
  ·exact f1 e
  ·exact f2 e
 ·-- a captured name
  have e2':(Z7 lk σ)[i]?=some (some v):=e2
  unfold Z7 at e2'
  rw[r6]at e2'
  cases hq:lk[i]? with
  | none=>rw[hq]at e2';cases e2'
  | some o =>
   rw[hq]at e2'
   have e2'':(o.bind fun j=>(σ[j]?).join)=some v:=Option.some.inj e2'
   cases o with
   | none=>cases e2''
   | some j =>
    obtain⟨q1,q2,q3,q4⟩:=hlk.2 i j x e1 hq
    have hσ:σ[j]?=some (some v):=by
     have z:(σ[j]?).join=some v:=e2''
     cases hh:σ[j]? with
     | none=>rw[hh]at z;cases z
     | some o=>rw[hh]at z;rw[show o=some v from z]
    obtain⟨m,hnX,hl⟩:=I.loc
    obtain⟨u,r,lo⟩:=hl j x v q1 hσ (q2.elim (fun a=>.inr (.inl a)) (fun a=>.inr (.inr a)))
    refine⟨u,r,.inr ?_⟩
    obtain⟨c,hc⟩:=u4.mp q3
    refine⟨q4,c,hc,?_⟩
    have hcX:=hcell x c hc
    rcases lo with⟨k,_⟩ | ⟨_,c',hc',z⟩
    ·have k':X.env.scope.names.lookup x=some .local:=k
     rw[k']at q2
     rcases q2 with q2 | q2<;>cases q2
    ·rw[hcX]at hc'
     cases hc'
     obtain⟨o,ho,hd⟩:=z
     exact⟨o,hk c o ho,hd⟩
 ·obtain⟨v,o,ho,hd⟩:=I.cell x c (hcell x c e)
  exact⟨v,o,hk c o ho,hd⟩
 ·exact I.freeC x c (hcell x c e)
 ·show (Z7 lk σ).length=N'.length
  unfold Z7
  rw[a9]
  exact hlk.1
def PTs (X:Cx)(ifs:List Expr)(t:TT):Prop:=
 ∀ (pins:List (Addr × Obj)) (s:Shared) (σ:St) (H:Hp) (Q:Bool->Hp->Prop),Inv X pins σ H s->t σ H Q->m5 (p0 X.prog X.w) X.A (forIn ifs true fun c r=>if r=true then do let ok <- isTrue c X.env (eval c X.env);pure (ForInStep.yield ok) else pure (ForInStep.yield r)) (TP X pins σ Q) X.xe s
def bK5:TT:=fun _ H Q=>Q true H
theorem ai2:PTs X [] bK5:=fun pins s σ H Q I h=>wpAny_tests_nil ⟨H,I,h⟩
theorem ax3 {c:Expr}{t:TT}(h:PT X c t):PTs X [c] t:=fun pins s σ H Q I q=>wpAny_tests_one (h pins s σ H Q I q)
def be2 (wi:TI)(lk:List (Option Nat))(g:TG)(tt:TT)(te:TE):TE:=fun σ H Q=>wi σ H fun J H1=>∀ D,H1 D=none->∃ W:Nat->Nat->List V->St->Hp->Prop,(∃ m,W 0 m [] (Z7 lk σ) (upd H1 D (.lst [])))/\∀ i m xs σ' H',W i m xs σ' H' ->
 H' D=some (.lst xs)/\((J.stop i H'/\Q (.ref D) H')\/(J.go i H'/\xs.length<c5/\∀ x H'',J.yld i H' x H''->g x σ' H'' fun σ2 H2=>tt σ2 H2 fun b H3 =>
  if b=true then te σ2 H3 fun v H4=>H4 D=some (.lst xs)/\∃ m',m'<m/\W (i+1) m' (xs++[v]) σ2 (upd H4 D (.lst (xs++[v]))) else ∃ m',m'<m/\W (i+1) m' xs σ2 H3))
theorem ai7 {elt iter:Expr}{ifs:List Expr}{wi:TI}{g:TG}{tt:TT}(hc:X.calm=true)(hi:PI X tg iter wi)(hclos:aw4 scope X.env=pure cl)(hkind:scope.kind=.function)
  (hnames:∀ y∈scope.names,y.2=.local->scope.names.lookup y.1=some .local)(hcl:aw0 X.env cl)(hfr:ap7 scope.names cl=true)(hlk:bo9 X N' lk scope cl)
  (hg:∀ s3 H3 fp,PG (B5 X scope cl N' s3 H3 fp fun _ _=>False) tg g)(ht:∀ s3 H3 fp,PTs (B5 X scope cl N' s3 H3 fp fun _ _=>False) ifs tt)(he:∀ s3 H3 fp,PE (B5 X scope cl N' s3 H3 fp fun _ _=>False) elt te)
  (hs:∀ x,X8 iter X.env x=pure x:=by intro _;rfl):PE X (.ListComp elt [⟨tg,iter,ifs,0⟩] scope pos) (be2 wi lk g tt te):=by
 intro pins s σ H Q I h
 rw[eval_ListComp]
 have hcellN:∀ y∈scope.names,y.2≠.cell:=fun y hy=>by
  unfold ap7 at hfr
  rw[O3]at hfr
  have:=hfr y hy
  rw[B0]at this
  simpa using this.1
 refine ak9 (use:=none) rfl hs hclos hkind hnames (thn (hi pins s σ H _ I h) fun v s1 h1=>thn h1 fun itv s2 h2=>?_)
 obtain⟨it,fp,tn,J,H2,e,I2,T,st2,f2,q⟩:=h2
 subst e
 refine O6 ?_ (u7 _)
 have hD:H2 s2.heap.objs.size=none:=I2.hok.fresh (c6 _)
 have I3:=I2.lnew (ys:=[]) (its:=[]) (t':=s2.toks) .nil (u7 _)
 obtain⟨W,⟨m0,w0⟩,turn⟩:=q s2.heap.objs.size hD
 have fpl:∀ b∈fp,b<s2.heap.objs.size:=fun b hb=>by
  obtain⟨o,ho,_⟩:=T.obj 0 s2.heap st2 b hb
  exact d9 ho
 refine ab4 hcellN (by intro y hy;cases hy) (fun h1 hns1 hsb1=>?_) hkind
 dsimp only at hns1 hsb1 ⊢
 have e3:s2.heap.push { cls:=.type "list",dict:=none,data:=.seq ([]:List Value).toArray }=s2.heap.push { cls:=.type "list",data:=.seq ([]:List Value).toArray }:=rfl
 generalize hh3:s2.heap.push { cls:=.type "list",dict:=none,data:=.seq ([]:List Value).toArray }=h3 at *
 have I3':Inv X pins σ (upd H2 s2.heap.objs.size (.lst [])) { s2 with heap:=h3,toks:=s2.toks }:=I3
 have size3:h3.objs.size=s2.heap.objs.size+1:=by rw[<- hh3,L7]
 have f3:∀ b∈fp,O2 X pins (upd H2 s2.heap.objs.size (.lst [])) b:=fun b hb=>by
  obtain⟨f0,fr⟩:=f2 b hb
  exact⟨by rw[m9 (i8 (fpl b hb))];exact f0,fr⟩
 have up:∀ b u,h3.get? b=some u->h1.get? b=some u:=fun b u eb=>by
  rw[hsb1.2 b (i8 (d9 eb))]
  exact a8 _ eb
 have I4:Inv (B5 X scope cl N' { s2 with heap:=h3,toks:=s2.toks } (upd H2 s2.heap.objs.size (.lst [])) fp fun _ _=>False) [] (Z7 lk σ) (upd H2 s2.heap.objs.size (.lst [])) { s2 with heap:=h1,toks:=s2.toks+([]:List (Str × Value)).length }:=
  al4 (s3:={ s2 with heap:=h3,toks:=s2.toks }) I3' f3 hkind hcl hfr hlk hns1 up fun b hb=>by show b<h3.objs.size;rw[size3];exact D8 (fpl b hb)
 have st4:tn 0 h1:=T.keep 0 s2.heap h1 st2 fun b hb o eb=>up b o (by rw[<- hh3];exact a8 _ eb)
 have hCs:h3.objs.size=(L8 scope cl h3.objs.size X.env).locals:=rfl
 have stat:∀ {H':Hp},(∀ b∈fp,H' b=none)->∀ b∈fp,O2 (B5 X scope cl N' { s2 with heap:=h3,toks:=s2.toks } (upd H2 s2.heap.objs.size (.lst [])) fp fun _ _=>False) [] H' b:=fun {H'} hn b hb=>by
  obtain⟨f0,f1,f2',f3',f4,f5⟩:=f3 b hb
  refine⟨hn b hb,?_,fun z=>?_,.inl hb,fun x c ex=>f4 x c (hcl.get ex),fun p hp=>nomatch hp⟩
  ·show b≠h3.objs.size
   rw[size3]
   exact i8 (D8 (fpl b hb))
  ·rcases g9.mp (I3'.stkSub b z) with q | q
   ·exact f1 q
   ·exact f2' q
 have fin:∀ (s':Shared) (σ':St) (H':Hp),Inv (B5 X scope cl N' { s2 with heap:=h3,toks:=s2.toks } (upd H2 s2.heap.objs.size (.lst [])) fp fun _ _=>False) [] σ' H' s'->Q (.ref s2.heap.objs.size) H' ->
   aw5 (p0 X.prog X.w) X.A X.xe none (EP X pins σ Q) (.ref s2.heap.objs.size) h3.objs.size (.ok .next) s':=fun s' σ' H' I' q'=>by
  obtain⟨m,hm,_⟩:=id I'.loc
  have I5:Inv X pins σ H' s':=I3'.call' (ch:=fp) I'.os I'.base I'.hok I'.bare fun b hb=>by
   obtain⟨f0,f1,f2',f3',f4,f5⟩:=f3 b hb
   exact⟨f3',f1,f4,f5⟩
  refine⟨m,hm,fun h' hsb=>?_⟩
  refine⟨.ref s2.heap.objs.size,H',?_,rfl,q'⟩
  have hfc:H' h3.objs.size=none:=I'.free
  have hcl1:∀ b o,h3.get? b=some o->b≠h3.objs.size:=fun b o eb=>i8 (d9 eb)
  obtain⟨h0',g0,d0,t0,o0⟩:=s'
  refine I5.turned (t':=t0) (it:=h3.objs.size) (fun b o hb eb=>(hsb.2 b hb).trans eb) hfc ?_ (.inr I3'.sz) (fun x c ex z=>?_) (fun p hp z=>?_)
  ·exact S9 I3'.lt
  ·obtain⟨v',q2⟩:=I3'.cell x c ex
   exact absurd q2.lt (by rw[z];exact C9 _)
  ·exact absurd (d9 (I3'.pin p hp).1) (by rw[z];exact C9 _)
 have loop:∀ s5:Shared,s5={ s2 with heap:=h1,toks:=s2.toks+([]:List (Str × Value)).length } ->
   aD8 (p0 X.prog X.w) X.A (.compLoop (.ListComp elt [⟨tg,iter,ifs,0⟩] scope pos) 0 (.ref it) (.ref s2.heap.objs.size) (L8 scope cl h3.objs.size X.env)) (aw5 (p0 X.prog X.w) X.A X.xe none (EP X pins σ Q) (.ref s2.heap.objs.size) h3.objs.size) s5:=by
  rintro s5 rfl
  refine bN8 rfl (fun n s'=>∃ i xs σ' H',Inv (B5 X scope cl N' { s2 with heap:=h3,toks:=s2.toks } (upd H2 s2.heap.objs.size (.lst [])) fp fun _ _=>False) [] σ' H' s'/\tn i s'.heap/\(∀ b∈fp,H' b=none)/\W i n xs σ' H')
   (fun n s6 hI=>?_) m0 ⟨0,[],Z7 lk σ,_,I4,st4,fun b hb=>(f3 b hb).1,w0⟩
  obtain⟨i,xs,σ6,H6,I6,st6,fr6,w6⟩:=hI
  show m5 _ X.A ((compTurn (.ListComp elt [⟨tg,iter,ifs,0⟩] scope pos) 0 (.ref it) (.ref s2.heap.objs.size) (L8 scope cl h3.objs.size X.env)).onRaise (fun x=>do av4 x (L8 scope cl h3.objs.size X.env);bk0 x)) _ _ s6
  refine bZ0 ?_
  rw[bC1]
  refine a7 (V0 (a7 ?_))
  obtain⟨hD6,hw⟩:=turn i n xs σ6 H6 w6
  rcases hw with⟨stop,qn⟩ | ⟨go,hlen,step⟩
  ·refine thn (T.done (B5 X scope cl N' { s2 with heap:=h3,toks:=s2.toks } (upd H2 s2.heap.objs.size (.lst [])) fp fun _ _=>False) rfl rfl rfl hc i [] s6 σ6 H6 _ I6 (stat fr6) st6 stop) fun r s7 ⟨hr,I7⟩=>?_
   subst hr
   exact b9 (fin s7 σ6 H6 I7 qn)
  ·refine thn (T.item (B5 X scope cl N' { s2 with heap:=h3,toks:=s2.toks } (upd H2 s2.heap.objs.size (.lst [])) fp fun _ _=>False) rfl rfl rfl hc i [] s6 σ6 H6 _ I6 (stat fr6) st6 go) fun r s7 ⟨u,hr,h7⟩=>?_
   subst hr
   refine a7 (thn h7 fun _ s8 ⟨x,H8,I8,r8,y8,st8,fr8⟩=>?_)
   have I8':=I8.pinned (stat fr8) (T.obj _ _ st8)
   refine a7 (B6 (hg _ _ _ _ s8 σ6 H8 x u _ I8' r8 (step x H8 y8)) (fun _ s9 ⟨σ9,H9,I9,q9⟩=>?_) (fun _ _ z=>False.elim z))
   refine a7 (B6 (ht _ _ _ _ s9 σ9 H9 _ I9 q9) (fun ok s10 ⟨H10,I10,q10⟩=>?_) (fun _ _ z=>False.elim z))
   have bj3:∀ {σ':St} {H':Hp} {ys:List V} {s':Shared},Inv (B5 X scope cl N' { s2 with heap:=h3,toks:=s2.toks } (upd H2 s2.heap.objs.size (.lst [])) fp fun _ _=>False) ([]++ag6 fp s8.heap) σ' H' s'->(∃ m',m'<n/\W (i+1) m' ys σ' H') ->
     ∃ m',m'<n/\∃ i xs σ' H',Inv (B5 X scope cl N' { s2 with heap:=h3,toks:=s2.toks } (upd H2 s2.heap.objs.size (.lst [])) fp fun _ _=>False) [] σ' H' s'/\tn i s'.heap/\(∀ b∈fp,H' b=none)/\W i m' xs σ' H':=fun {σ' H' ys s'} I' ⟨m',hm,w'⟩=>by
    refine⟨m',hm,i+1,ys,σ',H',I'.unpinned,T.keep _ _ _ st8 fun b hb o eb=>(I'.pin (b,o) (k6 _ (k6 _ (M0 hb eb)))).1,fun b hb=>?_,w'⟩
    obtain⟨o,eb,_⟩:=T.obj _ _ st8 b hb
    exact(I'.pin (b,o) (k6 _ (k6 _ (M0 hb eb)))).2.1
   cases ok with
   | false =>
    have q10':∃ m',m'<n/\W (i+1) m' xs σ9 H10:=by simpa using q10
    exact b9 ⟨rfl,bj3 I10 q10'⟩
   | true =>
    rw[if_pos rfl]at q10
    refine a7 (a7 (B6 (he _ _ _ _ s10 σ9 H10 _ I10 q10) (fun y s11 ⟨v11,H11,I11,r11,hD11,q11⟩=>?_) (fun _ _ z=>False.elim z)))
    refine a7 (B6 (F1 (X:=B5 X scope cl N' { s2 with heap:=h3,toks:=s2.toks } (upd H2 s2.heap.objs.size (.lst [])) fp fun _ _=>False) _ s11 σ9 H11 (.ref s2.heap.objs.size) [v11] (.ref s2.heap.objs.size) [y] (fun _ H'=>∃ m',m'<n/\W (i+1) m' (xs++[v11]) σ9 H') I11 rfl (.cons r11 .nil) ⟨s2.heap.objs.size,xs,v11,rfl,rfl,hD11,hlen,q11⟩) (fun _ s12 ⟨_,H12,I12,_,q12⟩=>?_) (fun _ _ z=>False.elim z))
    exact b9 (b9 ⟨rfl,bj3 I12 q12⟩)
 exact ar0 (loop _ rfl) (T.self X.A 0 _ _ _ st4 (loop _ rfl))
def Itn (K:W.Frag)(a:Addr):It:=
 ⟨fun i H=>∃ xs x,SqL K H a xs/\xs[i]?=some x,fun i H x H'=>∃ t v,H t=none/\x=.ref t/\(∀ xs,SqL K H a xs->xs[i]?=some v)/\H'=upd H t (.tup [.int i,v]),fun i H=>∃ xs,SqL K H a xs/\xs.length<=i⟩
def ce6 (K:W.Frag)(ta:TA):TI:=fun σ H R=>ta σ H fun vs H1=>∃ a,vs=[.ref a]/\(∃ xs,SqL K H1 a xs)/\R (Itn K a) H1
theorem bk8 {K:W.Frag}{elts:List Expr}{x1:Nat}(a it e:Addr)(hne:e≠it):Turn P w K (.Tuple elts x1 pos) (Itn K a) [e,it] e (fun i h=>(∃ old,IsEnum h e it (i:Int) old)/\h.IsListIter it a i) where
 mem:=by simp
 obj:=fun i h st b hb=>by
  obtain⟨⟨old,he⟩,o,ho,hc,hd⟩:=st
  rcases g9.mp hb with rfl | hb
  ·exact⟨_,he,fun v z=>by cases z⟩
  ·have eb:b=it:=by simpa using hb
   subst eb
   exact⟨o,ho,fun v z=>by rw[hd]at z;cases z⟩
 keep:=fun i h h' st k=>by
  obtain⟨⟨old,he⟩,hit⟩:=st
  exact⟨⟨old,k e (by simp) _ he⟩,hit.at fun o q=>k it (by simp) o q⟩
 item:=by
  intro X hP hw hK hc i pins s σ H E I hf st hg
  subst hP hw hK
  obtain⟨xs,x,hq,hx⟩:=hg
  obtain⟨⟨old,he⟩,hit⟩:=st
  obtain⟨its,rv,p,hz⟩:=I.list hq
  obtain⟨u,hu,ru⟩:=rv.get hx
  obtain⟨f0,f1,f2,f3,f4,f5⟩:=hf e (by simp)
  obtain⟨g0,g1,g2,g3,g4,g5⟩:=hf it (by simp)
  refine wpAny_pyNext_enum_item he hit p.isList (x:=u) (by simpa using hu) hne fun h1 heo hit1 ht1 hz1 hk1=>?_
  refine⟨_,rfl,?_⟩
  refine bp6 heo fun h2 he2 hs2=>?_
  have hlt:e<s.heap.objs.size:=d9 he
  have hs2':Heap.SameBut e h1 h2:=hs2
  have ht2:h2.get? s.heap.objs.size=some { cls:=.type "tuple",data:=.seq #[.int i s.toks,u] }:=(hs2'.2 _ (S9 hlt)).trans ht1
  have kp:∀ b o,b≠e->b≠it->s.heap.get? b=some o->h2.get? b=some o:=fun b o h1' h2' q=>(hs2'.2 b h1').trans (hk1 b o h1' h2' q)
  have hT:H s.heap.objs.size=none:=I.hok.fresh (c6 _)
  have nH:∀ b,H b≠none->b≠e/\b≠it:=fun b hb=>⟨fun z=>hb (z ▸ f0),fun z=>hb (z ▸ g0)⟩
  have keepH:∀ b o,H b=some o->upd H s.heap.objs.size (.tup [.int i,x]) b=some o:=fun b o q=>by rw[m9 (u0 q hT)];exact q
  have hok2:HOk X.prog X.w (upd H s.heap.objs.size (.tup [.int i,x])) h2:=fun b o eb=>by
   by_cases hb:b=s.heap.objs.size
   ·subst hb
    rw[b8]at eb
    cases eb
    exact⟨by show 2<=c5;decide,[.int i s.toks,u],.cons ⟨_,rfl⟩ (.cons ru .nil),⟨_,ht2,rfl,_,rfl⟩⟩
   ·rw[m9 hb]at eb
    refine(I.hok b o eb).stay (fun c v hcc q=>kp c v ?_ ?_ q) (fun c q=>keepH c _ q) fun c ys q=>keepH c _ q
    ·rcases hcc with z | z
     ·exact(nH c (by rw[z,eb];simp)).1
     ·exact(nH c (by rw[z];simp)).1
    ·rcases hcc with z | z
     ·exact(nH c (by rw[z,eb];simp)).2
     ·exact(nH c (by rw[z];simp)).2
  have I2:Inv X pins σ (upd H s.heap.objs.size (.tup [.int i,x])) { s with heap:=h2,toks:=s.toks+1 }:=by
   refine I.step (g':=s.gens) (d':=s.drawn) (t':=s.toks+1) (ch:=[e,it]) (fun b hb=>?_) (fun b o _ _ hcc q _=>kp b o (fun z=>hcc (by simp[z])) (fun z=>hcc (by simp[z])) q) (fun b o _ _ hcc q _=>⟨o.slots,kp b o (fun z=>hcc (by simp[z])) (fun z=>hcc (by simp[z])) q⟩) (fun b o _ q n=>?_)
    (fun b o hcc q=>⟨o,kp b o (fun z=>hcc (by simp[z])) (fun z=>hcc (by simp[z])) q⟩) (fun b ys q=>keepH b _ q) (fun b o v q=>keepH b _ q) (fun b ps q=>⟨#[],by rw[keepH b _ q];simp⟩) (fun m hm=>?_) hok2 I.bare
   ·rcases g9.mp hb with rfl | hb
    ·exact⟨f3,f1,f4,f5⟩
    ·have eb:b=it:=by simpa using hb
     subst eb
     exact⟨g3,g1,g4,g5⟩
   ·rw[m9 (i8 (d9 q))]
    exact n
   ·obtain⟨o,es,ep,ho,r⟩:=hm
    exact⟨o,es,ep,kp _ o (Ne.symm f1) (Ne.symm g1) ho,r⟩
  have hilt:it<s.heap.objs.size:=by
   obtain⟨o,ho,_⟩:=id hit
   exact d9 ho
  refine⟨.ref s.heap.objs.size,_,I2,rfl,⟨s.heap.objs.size,x,hT,rfl,fun ys hy=>by rw[I.list_inj hy hq];exact hx,rfl⟩,⟨⟨u,?_⟩,?_⟩,fun b hb=>?_⟩
  ·have:=he2
   rw[show ((i:Int)+1)=(((i+1:Nat):Int)) by simp]at this
   exact this
  ·exact hit1.at fun o q=>(hs2'.2 it (Ne.symm hne)).trans q
  ·rcases g9.mp hb with rfl | hb
   ·rw[m9 (i8 hlt)];exact f0
   ·have eb:b=it:=by simpa using hb
    subst eb
    rw[m9 (i8 hilt)]
    exact g0
 done:=by
  intro X hP hw hK hc i pins s σ H E I hf st hg
  subst hP hw hK
  obtain⟨xs,hq,hx⟩:=hg
  obtain⟨⟨old,he⟩,hit⟩:=st
  obtain⟨its,rv,p,hz⟩:=I.list hq
  obtain⟨g0,g1,g2,g3,g4,g5⟩:=hf it (by simp)
  have hl:=rv.length
  exact wpAny_pyNext_enum_end (I.ok.hd hc) he hit p.isList (by simp;omega) fun h' eb=>⟨rfl,I.turned (t':=s.toks) (fun b o hb q=>eb b o hb q) g0 g1 g3 g4 g5⟩
 self:=fun _ _ _ _ _ st h=>by
  obtain⟨⟨old,he⟩,_⟩:=st
  exact al0 he h
theorem aM5 {a:Expr}{ta:TA}{elts:List Expr}{x1:Nat}{tpos p:Pos}(hg:Gl X "enumerate")(hm:X.mg "enumerate"=none)(ha:PA X [a] ta)(hv:O4 "enumerate"=some (.type "enumerate"):=by rfl)(hs:B3 [a] X.env=[(false,eval a X.env)]:=by rfl) :
  PI X (.Tuple elts x1 tpos) (.Call (.Name "enumerate" p) [a] [] pos) (ce6 X.K ta):=by
 intro pins s σ H R I h
 refine Call_ (Z6 I hg hm hv (PyProof.Rows.callWith_type1 (thn (ha pos pins s σ H _ I h) fun us s1 ⟨vs,H1,I1,r1,q1⟩=>?_) hs rfl))
 obtain⟨b,e,⟨xs,hq⟩,q⟩:=q1
 subst e
 obtain⟨u,rfl,rx⟩:=vals1 r1
 cases rx
 obtain⟨its,rv,pl,hz⟩:=I1.list hq
 refine call_enumerate_list pl.isList fun h' he hit hsz kp=>?_
 refine al0 he ?_
 have hne:s1.heap.objs.size+1≠s1.heap.objs.size:=Nat.succ_ne_self _
 refine⟨s1.heap.objs.size+1,[s1.heap.objs.size+1,s1.heap.objs.size],_,_,H1,rfl,I1.kept (t':=s1.toks) kp,bk8 b s1.heap.objs.size (s1.heap.objs.size+1) hne,⟨⟨_,he⟩,hit⟩,fun c hc=>?_,q⟩
 rcases g9.mp hc with rfl | hc
 ·exact I1.fpOk (W5 _) (I1.hok.fresh (W5 _))
 ·have e:c=s1.heap.objs.size:=by simpa using hc
  subst e
  exact I1.fpOk (c6 _) (I1.hok.fresh (c6 _))
theorem aV7 {K:W.Frag}{g:TG}{tb:TS}{D:Ends}(Pv:Nat->St->Hp->Prop)(h0:Pv 0 σ H)(hl:∀ i σ H,i<=xs.length->Pv i σ H->SqL K H a xs)
  (hs:∀ i x t σ H,xs[i]?=some x->Pv i σ H->H t=none->g (.ref t) σ (upd H t (.tup [.int i,x])) fun σ2 H2=>tb { D with nx:=Pv (i+1),ct:=Pv (i+1),bk:=D.nx } σ2 H2)(hd:∀ σ H,Pv xs.length σ H->D.nx σ H) :
  ∃ W:Nat->Nat->St->Hp->Prop,(∃ m,W 0 m σ H)/\∀ i m σ H,W i m σ H ->
   ((Itn K a).stop i H/\D.nx σ H)\/((Itn K a).go i H/\∃ N:St->Hp->Prop,(∀ σ' H',N σ' H'->∃ m',m'<m/\W (i+1) m' σ' H')/\∀ x H',(Itn K a).yld i H x H'->g x σ H' fun σ2 H2=>tb { D with nx:=N,ct:=N,bk:=D.nx } σ2 H2):=by
 refine⟨fun i m σ H=>m=xs.length - i/\i<=xs.length/\Pv i σ H,⟨xs.length,by simp,u7 _,h0⟩,?_⟩
 rintro i m σ H ⟨rfl,hi,p⟩
 have q:=hl i σ H hi p
 by_cases hlt:i<xs.length
 ·refine .inr ⟨⟨xs,xs[i],q,by simp[hlt]⟩,Pv (i+1),fun σ' H' p'=>⟨xs.length - (i+1),by omega,rfl,hlt,p'⟩,fun x H' y=>?_⟩
  obtain⟨t,v,ht,e,hv,e'⟩:=y
  subst e e'
  exact hs i v t σ H (hv xs q) p ht
 ·have e:i=xs.length:=by omega
  subst e
  exact .inl ⟨⟨xs,q,c6 _⟩,hd σ H p⟩
theorem W3 {K:W.Frag}{D:Addr}{g:TG}{tt:TT}{σ0:St}{H0:Hp}(Pv:Nat->List V->St->Hp->Prop)(h0:Pv 0 [] σ0 H0)(hz:ys.length<=c5)(hl:∀ i xs σ H,i<=ys.length->Pv i xs σ H->SqL K H a ys/\H D=some (.lst xs)/\xs.length<=i)
  (hs:∀ i xs x σ H (N:List V->St->Hp->Prop),(∀ xs' σ' H',Pv (i+1) xs' σ' H'->N xs' σ' H')->ys[i]?=some x->Pv i xs σ H->g x σ H fun σ2 H2=>tt σ2 H2 fun b H3=>if b=true then te σ2 H3 fun v H4=>H4 D=some (.lst xs)/\N (xs++[v]) σ2 (upd H4 D (.lst (xs++[v]))) else N xs σ2 H3)
  (hd:∀ xs σ H,Pv ys.length xs σ H->Qd H) :
  ∃ W:Nat->Nat->List V->St->Hp->Prop,(∃ m,W 0 m [] σ0 H0)/\∀ i m xs σ' H',W i m xs σ' H'->H' D=some (.lst xs)/\(((Itl K a).stop i H'/\Qd H')\/((Itl K a).go i H'/\xs.length<c5/\∀ x H'',(Itl K a).yld i H' x H''->g x σ' H'' fun σ2 H2=>tt σ2 H2 fun b H3 =>
   if b=true then te σ2 H3 fun v H4=>H4 D=some (.lst xs)/\∃ m',m'<m/\W (i+1) m' (xs++[v]) σ2 (upd H4 D (.lst (xs++[v]))) else ∃ m',m'<m/\W (i+1) m' xs σ2 H3)):=by
 refine⟨fun i m xs σ H=>m=ys.length - i/\i<=ys.length/\Pv i xs σ H,⟨ys.length,by simp,u7 _,h0⟩,?_⟩
 rintro i m xs σ H ⟨rfl,hi,p⟩
 obtain⟨q,hD,hx⟩:=hl i xs σ H hi p
 refine⟨hD,?_⟩
 by_cases hlt:i<ys.length
 ·refine .inr ⟨⟨ys,ys[i],q,by simp[hlt]⟩,by omega,fun x H'' y=>?_⟩
  obtain⟨e,y⟩:=y
  subst e
  exact hs i xs x σ _ (fun zs σ' H'=>∃ m',m'<ys.length - i/\m'=ys.length - (i+1)/\i+1<=ys.length/\Pv (i+1) zs σ' H') (fun zs σ' H' r=>⟨_,by omega,rfl,hlt,r⟩) (y ys q) p
 ·have e:i=ys.length:=by omega
  subst e
  exact .inl ⟨⟨ys,q,c6 _⟩,hd xs σ H p⟩
theorem by1 {K:W.Frag}{D:Addr}{g:TG}{tt:TT}{σ0:St}{H0:Hp}(Pv:Nat->List V->St->Hp->Prop)(h0:Pv 0 [] σ0 H0)(hz:ys.length<=c5)(hl:∀ i xs σ H,i<=ys.length->Pv i xs σ H->SqT K H a ys/\H D=some (.lst xs)/\xs.length<=i)
  (hs:∀ i xs x σ H (N:List V->St->Hp->Prop),(∀ xs' σ' H',Pv (i+1) xs' σ' H'->N xs' σ' H')->ys[i]?=some x->Pv i xs σ H->g x σ H fun σ2 H2=>tt σ2 H2 fun b H3=>if b=true then te σ2 H3 fun v H4=>H4 D=some (.lst xs)/\N (xs++[v]) σ2 (upd H4 D (.lst (xs++[v]))) else N xs σ2 H3)
  (hd:∀ xs σ H,Pv ys.length xs σ H->Qd H) :
  ∃ W:Nat->Nat->List V->St->Hp->Prop,(∃ m,W 0 m [] σ0 H0)/\∀ i m xs σ' H',W i m xs σ' H'->H' D=some (.lst xs)/\(((Itt K a).stop i H'/\Qd H')\/((Itt K a).go i H'/\xs.length<c5/\∀ x H'',(Itt K a).yld i H' x H''->g x σ' H'' fun σ2 H2=>tt σ2 H2 fun b H3 =>
   if b=true then te σ2 H3 fun v H4=>H4 D=some (.lst xs)/\∃ m',m'<m/\W (i+1) m' (xs++[v]) σ2 (upd H4 D (.lst (xs++[v]))) else ∃ m',m'<m/\W (i+1) m' xs σ2 H3)):=by
 refine⟨fun i m xs σ H=>m=ys.length - i/\i<=ys.length/\Pv i xs σ H,⟨ys.length,by simp,u7 _,h0⟩,?_⟩
 rintro i m xs σ H ⟨rfl,hi,p⟩
 obtain⟨q,hD,hx⟩:=hl i xs σ H hi p
 refine⟨hD,?_⟩
 by_cases hlt:i<ys.length
 ·refine .inr ⟨⟨ys,ys[i],q,by simp[hlt]⟩,by omega,fun x H'' y=>?_⟩
  obtain⟨e,y⟩:=y
  subst e
  exact hs i xs x σ _ (fun zs σ' H'=>∃ m',m'<ys.length - i/\m'=ys.length - (i+1)/\i+1<=ys.length/\Pv (i+1) zs σ' H') (fun zs σ' H' r=>⟨_,by omega,rfl,hlt,r⟩) (y ys q) p
 ·have e:i=ys.length:=by omega
  subst e
  exact .inl ⟨⟨ys,q,c6 _⟩,hd xs σ H p⟩
mutual
def Dt (K:W.Frag)(H:Hp):af0->V->Prop
 | .none,v=>v=.non
 | .bool b,v=>v=.bl b
 | .int i,v=>v=.int i
 | .str x,v=>v=.str x
 | .list ds,v=>∃ a xs,v=.ref a/\SqL K H a xs/\D0 K H ds xs
 | .tuple ds,v=>∃ a xs,v=.ref a/\SqT K H a xs/\D0 K H ds xs
 | .dict _,_=>False
def D0 (K:W.Frag)(H:Hp):List af0->List V->Prop
 | [],xs=>xs=[]
 | d::ds,xs=>∃ y ys,xs=y::ys/\Dt K H d y/\D0 K H ds ys
end
mutual
theorem Dt.reads (I:Inv X pins σ H s):∀ (d:af0) (v:V) (u:Value),Dt X.K H d v->RelV v u->∃ as,Reads s.heap u d as
 | .none,v,u,h,r=>by unfold Dt at h;subst h;cases r;exact⟨_,.none⟩
 | .bool b,v,u,h,r=>by unfold Dt at h;subst h;cases r;exact⟨_,.bool b⟩
 | .int i,v,u,h,r=>by unfold Dt at h;subst h;obtain⟨t,rfl⟩:=r;exact⟨_,.int i t⟩
 | .str x,v,u,h,r=>by unfold Dt at h;subst h;obtain⟨t,rfl⟩:=r;exact⟨_,.str x t⟩
 | .list ds,v,u,h,r=>by
  unfold Dt at h
  obtain⟨a,xs,rfl,hq,hd⟩:=h
  cases r
  obtain⟨its,rv,⟨o,n,ho,hc,_,hdd⟩,_⟩:=I.list hq
  obtain⟨as,ra⟩:=D0.reads I ds xs its hd rv
  exact⟨_,.list ho hc hdd (by simpa using ra)⟩
 | .tuple ds,v,u,h,r=>by
  unfold Dt at h
  obtain⟨a,xs,rfl,hq,hd⟩:=h
  cases r
  obtain⟨its,rv,⟨o,ho,hc,n,hdd⟩,_⟩:=I.tuple hq
  obtain⟨as,ra⟩:=D0.reads I ds xs its hd rv
  exact⟨_,.tuple ho hc hdd (by simpa using ra)⟩
 | .dict _,v,u,h,r=>by unfold Dt at h;exact h.elim
theorem D0.reads (I:Inv X pins σ H s):∀ (ds:List af0) (xs:List V) (us:List Value),D0 X.K H ds xs->B9 xs us->∃ as,bC2 s.heap us ds as
 | [],xs,us,h,r=>by unfold D0 at h;subst h;cases r;exact⟨_,.nil⟩
 | d::ds,xs,us,h,r=>by
  unfold D0 at h
  obtain⟨y,ys,rfl,h1,h2⟩:=h
  cases r with
  | cons q t =>
   obtain⟨as,ra⟩:=Dt.reads I d y _ h1 q
   obtain⟨bs,rb⟩:=D0.reads I ds ys _ h2 t
   exact⟨_,.cons ra rb⟩
end
mutual
theorem Dt.same {K:W.Frag}(hs:∀ b o,H b=some o->H' b=some o):∀ (d:af0) (v:V),Dt K H d v->Dt K H' d v
 | .none,v,h=>by unfold Dt at h ⊢;exact h
 | .bool b,v,h=>by unfold Dt at h ⊢;exact h
 | .int i,v,h=>by unfold Dt at h ⊢;exact h
 | .str x,v,h=>by unfold Dt at h ⊢;exact h
 | .list ds,v,h=>by
  unfold Dt at h ⊢
  obtain⟨a,xs,rfl,hq,hd⟩:=h
  refine⟨a,xs,rfl,?_,D0.same hs ds xs hd⟩
  rcases hq with(h | ⟨o,h⟩) | h
  ·exact .inl (.inl (hs _ _ h))
  ·exact .inl (.inr ⟨o,hs _ _ h⟩)
  ·exact .inr h
 | .tuple ds,v,h=>by
  unfold Dt at h ⊢
  obtain⟨a,xs,rfl,hq,hd⟩:=h
  refine⟨a,xs,rfl,?_,D0.same hs ds xs hd⟩
  rcases hq with(h | ⟨o,h⟩) | h
  ·exact .inl (.inl (hs _ _ h))
  ·exact .inl (.inr ⟨o,hs _ _ h⟩)
  ·exact .inr h
 | .dict _,v,h=>by unfold Dt at h;exact h.elim
theorem D0.same {K:W.Frag}(hs:∀ b o,H b=some o->H' b=some o):∀ (ds:List af0) (xs:List V),D0 K H ds xs->D0 K H' ds xs
 | [],xs,h=>by unfold D0 at h ⊢;exact h
 | d::ds,xs,h=>by
  unfold D0 at h ⊢
  obtain⟨y,ys,rfl,h1,h2⟩:=h
  exact⟨y,ys,rfl,Dt.same hs d y h1,D0.same hs ds ys h2⟩
end
def dP (k:List Int):af0:=.tuple (k.map .int)
theorem D0.ints {K:W.Frag}:∀ (k:List Int),D0 K H (k.map PyData.int) (k.map V.int)
 | []=>by unfold D0;rfl
 | i::k=>by
  rw[j9,j9]
  unfold D0
  exact⟨_,_,rfl,by unfold Dt;rfl,D0.ints k⟩
theorem D0.tups {K:W.Frag}:∀ {ys:List V} {ks:List (List Int)},y7 K H ys ks->D0 K H (ks.map dP) ys
 | _,_,.nil=>by unfold D0;rfl
 | _,_,.cons r t=>by
  obtain⟨a,rfl,h⟩:=r
  rw[j9]
  unfold D0
  refine⟨_,_,rfl,?_,D0.tups t⟩
  unfold dP Dt
  exact⟨a,_,rfl,h,D0.ints _⟩
theorem lay_ints:∀ k:List Int,PyData.canLayAll0 (k.map .int)=true
 | []=>by simp[PyData.canLayAll0]
 | i::k=>by rw[j9];simp[PyData.canLayAll0,PyData.canLay0,lay_ints k]
theorem Q3:∀ ks:List (List Int),PyData.canLayAll0 (ks.map dP)=true
 | []=>by simp[PyData.canLayAll0]
 | k::ks=>by rw[j9];simp[PyData.canLayAll0,PyData.canLay0,dP,lay_ints k,Q3 ks]
theorem ao9:∀ k k':List Int,PyData.eqvAll (k.map .int) (k'.map .int)=decide (k=k')
 | [],[]=>by simp[PyData.eqvAll]
 | [],_::_=>by simp[PyData.eqvAll]
 | _::_,[]=>by simp[PyData.eqvAll]
 | i::k,j::k'=>by
  rw[j9,j9]
  simp only[PyData.eqvAll,PyData.eqv,ao9 k k']
  by_cases h:i=j
  ·subst h;simp
  ·simp[h]
theorem aH8:∀ ks ks':List (List Int),PyData.eqvAll (ks.map dP) (ks'.map dP)=decide (ks=ks')
 | [],[]=>by simp[PyData.eqvAll]
 | [],_::_=>by simp[PyData.eqvAll]
 | _::_,[]=>by simp[PyData.eqvAll]
 | k::ks,k'::ks'=>by
  rw[j9,j9]
  simp only[PyData.eqvAll,PyData.eqv,dP,ao9 k k']
  rw[aH8 ks ks']
  by_cases h:k=k'
  ·subst h;simp
  ·simp[h]
theorem ap2:∀ k:List Int,PyData.depthAll (k.map .int)<=1
 | []=>by simp[PyData.depthAll]
 | i::k=>by
  have:=ap2 k
  rw[j9]
  simp only[PyData.depthAll,PyData.depth]
  omega
theorem aI0:∀ ks:List (List Int),PyData.depthAll (ks.map dP)<=2
 | []=>by simp[PyData.depthAll]
 | k::ks=>by
  have h1:=ap2 k
  have h2:=aI0 ks
  rw[j9]
  simp only[PyData.depthAll,PyData.depth,dP]at h2 ⊢
  omega
def bR3 (K:W.Frag)(A:Around)(neg:Bool):R2:=fun x y H Q=>∃ dx dy,Dt K H dx x/\Dt K H dy y/\dx.canLay0=true/\dy.canLay0=true/\A.units+min dx.depth dy.depth<aa1/\Q (.bl (if neg then !PyData.eqv dx dy else PyData.eqv dx dy)) H
theorem bb0:OpR X (E1 .Eq) (bR3 X.K X.A false):=by
 intro pins s σ H x y v u Q I rx ry h
 obtain⟨dx,dy,h1,h2,h3,h4,h5,q⟩:=h
 obtain⟨as,ra⟩:=h1.reads I dx x v rx
 obtain⟨bs,rb⟩:=h2.reads I dy y u ry
 exact SeqAt.compareEq_reads ra rb h3 h4 h5 ⟨.bl _,H,I,rfl,q⟩
theorem ba8:OpR X (E1 .NotEq) (bR3 X.K X.A true):=by
 intro pins s σ H x y v u Q I rx ry h
 obtain⟨dx,dy,h1,h2,h3,h4,h5,q⟩:=h
 obtain⟨as,ra⟩:=h1.reads I dx x v rx
 obtain⟨bs,rb⟩:=h2.reads I dy y u ry
 exact SeqAt.compareNe_reads ra rb h3 h4 h5 ⟨.bl _,H,I,rfl,q⟩
def aZ8 (K:W.Frag)(A:Around)(neg:Bool):R2:=fun x y H Q=>∃ p xs dx ds,y=.ref p/\(SqL K H p xs\/SqT K H p xs)/\Dt K H dx x/\D0 K H ds xs/\dx.canLay0=true/\PyData.canLayAll0 ds=true/\A.units+1+dx.depth<aa1 /\
 Q (.bl (if neg then !ds.any (fun d=>PyData.eqv d dx) else ds.any (fun d=>PyData.eqv d dx))) H
open Classical in
noncomputable def aO5 (h:Heap)(dx:af0)(v:Value):Bool:=if q:∃ d as,d.canLay0=true/\Reads h v d as then PyData.eqv (Classical.choose q) dx else false
theorem aO4 {dx d:af0}{as:List Addr}(hl:d.canLay0=true)(r:Reads h v d as):aO5 h dx v=PyData.eqv d dx:=by
 unfold aO5
 have q:∃ d as,d.canLay0=true/\Reads h v d as:=⟨d,as,hl,r⟩
 rw[dif_pos q]
 obtain⟨as',h1,h2⟩:=Classical.choose_spec q
 rw[SeqAt.Reads.unique _ _ _ _ _ h1 h2 r]
theorem aC3 {dx:af0}:∀ {ds:List af0} {us:List Value} {as:List Addr},PyData.canLayAll0 ds=true->bC2 h us ds as->us.any (aO5 h dx)=ds.any (fun d=>PyData.eqv d dx)
 | _,_,_,_,.nil=>rfl
 | d::ds,u::us,_,hl,.cons r t=>by
  have hl':d.canLay0=true/\PyData.canLayAll0 ds=true:=by simpa [PyData.canLayAll0] using hl
  rw[U2,U2,aO4 hl'.1 r,aC3 hl'.2 t]
theorem ar9:∀ {ds:List af0} {us:List Value} {as:List Addr} {u:Value},PyData.canLayAll0 ds=true->bC2 h us ds as->u∈us->∃ d as,d.canLay0=true/\Reads h u d as
 | _,_,_,_,_,.nil,hu=>by cases hu
 | d::ds,_::us,_,u,hl,.cons r t,hu=>by
  have hl':d.canLay0=true/\PyData.canLayAll0 ds=true:=by simpa [PyData.canLayAll0] using hl
  rcases g9.mp hu with rfl | hu
  ·exact⟨d,_,hl'.1,r⟩
  ·exact ar9 hl'.2 t hu
theorem aN3:OpR X (E1 .In) (aZ8 X.K X.A false):=by
 intro pins s σ H x y v u Q I rx ry h
 obtain⟨p,xs,dx,ds,rfl,hq,h1,h2,h3,h4,h5,q⟩:=h
 cases ry
 obtain⟨bs,rb⟩:=h1.reads I dx x v rx
 have he:∀ (its:List Value) (as:List Addr),bC2 s.heap its ds as->∀ y,y∈its.toArray->SeqAt.EqAt X.A.in1 s y v (aO5 s.heap dx y):=fun its as ra y hy=>by
  obtain⟨d,cs,hl,rd⟩:=ar9 h4 ra (by simpa using hy)
  rw[aO4 hl rd]
  refine SeqAt.eqAt_reads d dx X.A.in1 s y v cs bs rd rb hl h3 ?_
  show X.A.units+1+min d.depth dx.depth<aa1
  omega
 rcases hq with hq | hq
 ·obtain⟨its,rv,pl,hz⟩:=I.list hq
  obtain⟨as,ra⟩:=h2.reads I ds xs its rv
  refine SeqAt.in_listAt (aO5 s.heap dx) pl.isList (he its as ra) ⟨.bl _,H,I,rfl,?_⟩
  rw[ak6,aC3 h4 ra]
  exact q
 ·obtain⟨its,rv,pl,hz⟩:=I.tuple hq
  obtain⟨as,ra⟩:=h2.reads I ds xs its rv
  refine SeqAt.in_tupleAt (aO5 s.heap dx) pl (he its as ra) ⟨.bl _,H,I,rfl,?_⟩
  rw[ak6,aC3 h4 ra]
  exact q
theorem aG8:OpR X (E1 .NotIn) (aZ8 X.K X.A true):=by
 intro pins s σ H x y v u Q I rx ry h
 obtain⟨p,xs,dx,ds,rfl,hq,h1,h2,h3,h4,h5,q⟩:=h
 cases ry
 obtain⟨bs,rb⟩:=h1.reads I dx x v rx
 have he:∀ (its:List Value) (as:List Addr),bC2 s.heap its ds as->∀ y,y∈its.toArray->SeqAt.EqAt X.A.in1 s y v (aO5 s.heap dx y):=fun its as ra y hy=>by
  obtain⟨d,cs,hl,rd⟩:=ar9 h4 ra (by simpa using hy)
  rw[aO4 hl rd]
  refine SeqAt.eqAt_reads d dx X.A.in1 s y v cs bs rd rb hl h3 ?_
  show X.A.units+1+min d.depth dx.depth<aa1
  omega
 rcases hq with hq | hq
 ·obtain⟨its,rv,pl,hz⟩:=I.list hq
  obtain⟨as,ra⟩:=h2.reads I ds xs its rv
  refine SeqAt.notIn_listAt (aO5 s.heap dx) pl.isList (he its as ra) ⟨.bl _,H,I,rfl,?_⟩
  rw[ak6,aC3 h4 ra]
  exact q
 ·obtain⟨its,rv,pl,hz⟩:=I.tuple hq
  obtain⟨as,ra⟩:=h2.reads I ds xs its rv
  refine SeqAt.notIn_tupleAt (aO5 s.heap dx) pl (he its as ra) ⟨.bl _,H,I,rfl,?_⟩
  rw[ak6,aC3 h4 ra]
  exact q
theorem aW5:R9 X (.builtin "isinstance") (fun xs H Q=>∃ x c t b,xs=[x,.ty c]/\ap6 X.K H x t/\PySem.W.kitOne X.K t (.type c)=some b/\Q (.bl b) H):=by
 intro pins s σ H xs us Q I r h
 obtain⟨x,c,t,b,rfl,ty,e,q⟩:=h
 obtain⟨u,v,rfl,ru,rv⟩:=r.two
 cases (show v=Value.type c from rv)
 exact bn1 I ru ty e fun tk=>⟨.bl b,H,I.tok _,rfl,q⟩
end L2
namespace L2
open PySem PySem.Spec PyProof.Rows
theorem aB9 (hc:X.calm=true):R9 X (.builtin "sum") (fun xs H Q=>∃ (p:Addr) (ns:List Int),xs=[.ref p]/\SqL X.K H p (ns.map V.int)/\Q (.int ns.sum) H):=by
 intro pins s σ H xs us Q I r h
 obtain⟨p,ns,rfl,hq,q⟩:=h
 obtain⟨u,rfl,rx⟩:=vals1 r
 cases rx
 obtain⟨its,r',pl,hz⟩:=I.list hq
 have hi:J5 its ns:=intsAre_of r'
 obtain⟨ys,e⟩:=hi.allInts.items
 refine sum_intListG (xs:=ys) (I.ok.hd hc) (by rw[<- e];exact pl.isList) fun h' tk t' hk=>⟨.int ns.sum,H,I.kept (t':=tk) hk,⟨t',?_⟩,q⟩
 have e2:numsOf (intItems ys).toList=ns:=by rw[<- e];exact hi.numsOf
 rw[nums_intItems]at e2
 rw[preSum_eq,l6 (by simp),e2]
theorem aB3:cf9 X (bR2 X.K):=by
 intro pins s σ H o i ov iv Q I ro ri h
 obtain⟨p,xs,k,z,rfl,rfl,hq,he,q⟩:=h
 cases ro
 obtain⟨t,rfl⟩:=ri
 obtain⟨its,r,pl,hz⟩:=I.list hq
 obtain⟨j,h1,h2,h3,h4,h5⟩:=ax9 he
 obtain⟨w,ew,rw'⟩:=r.get h2
 have hl:=r.length
 have hn:=al2
 have fin:EP X pins σ Q w s:=⟨z,H,I,rw',q⟩
 by_cases h0:0<=k
 ·have hj:k.toNat=j:=by
   rw[bj5 h0 h5]at h1
   exact Option.some.inj h1
  exact wpAny_getItem_list pl.isList h0 (by omega) (by rw[hj];simpa using ew) fin
 ·have hj:(k+(its.toArray.size:Int)).toNat=j:=by
   rw[aX5 (by omega) h4]at h1
   rw[d3,<- hl]
   exact Option.some.inj h1
  exact bK3 pl.isList (by omega) (by rw[d3];omega) (by omega) (by rw[hj];simpa using ew) fin
theorem ad3:R9 X (.builtin "isinstance") (fun xs H Q=>∃ a ys c b,xs=[.ref a,.ty c]/\SqT X.K H a ys/\PySem.W.kitOne X.K (.type "tuple") (.type c)=some b/\Q (.bl b) H):=by
 intro pins s σ H xs us Q I r h
 obtain⟨a,ys,c,b,rfl,hq,e,q⟩:=h
 obtain⟨u,v,rfl,ru,rv⟩:=r.two
 cases (show v=Value.type c from rv)
 cases ru
 obtain⟨its,rt,⟨o,h1,h2,_⟩,hz⟩:=I.tuple hq
 exact PySem.W.kia_one PySem.W.kitx_tuple I.kIn ⟨o,h1,h2⟩ e (fun z=>nomatch z) fun tk=>⟨.bl b,H,I.tok _,rfl,q⟩
def LkL (X:Cx)(scope:Scope)(cl:List (Str × Addr)):List Str->List (Option Nat)->Prop
 | [],[]=>True
 | _::N,none::lk=>LkL X scope cl N lk
 | x::N,some j::lk=>(X.N[j]?=some x/\(X.env.scope.names.lookup x=some .cell\/X.env.scope.names.lookup x=some .free)/\(cl.lookup x).isSome=true /\
  ((L8 scope cl 0 X.env).kindOf x=some .cell\/(L8 scope cl 0 X.env).kindOf x=some .free))/\LkL X scope cl N lk
 | _,_=>False
theorem LkL.len:∀ {N:List Str} {lk:List (Option Nat)},LkL X scope cl N lk->lk.length=N.length
 | [],[],_=>rfl
 | _::N,none::lk,h=>congrArg (·+1) (LkL.len (N:=N) (lk:=lk) h)
 | _::N,some _::lk,h=>congrArg (·+1) (LkL.len (N:=N) (lk:=lk) h.2)
 | [],_::_,h=>h.elim
 | _::_,[],h=>h.elim
theorem LkL.get:∀ {N:List Str} {lk:List (Option Nat)},LkL X scope cl N lk->∀ (i j:Nat) (x:Str),N[i]?=some x->lk[i]?=some (some j) ->
  X.N[j]?=some x/\(X.env.scope.names.lookup x=some .cell\/X.env.scope.names.lookup x=some .free)/\(cl.lookup x).isSome=true/\((L8 scope cl 0 X.env).kindOf x=some .cell\/(L8 scope cl 0 X.env).kindOf x=some .free)
 | [],[],_,i,j,x,h1,_=>by simp at h1
 | _::N,none::lk,h,0,j,x,h1,h2=>by simp at h2
 | _::N,none::lk,h,i+1,j,x,h1,h2=>LkL.get (N:=N) (lk:=lk) h i j x (by simpa using h1) (by simpa using h2)
 | y::N,some k::lk,h,0,j,x,h1,h2=>by
  simp at h1 h2
  subst h1 h2
  exact h.1
 | _::N,some _::lk,h,i+1,j,x,h1,h2=>LkL.get (N:=N) (lk:=lk) h.2 i j x (by simpa using h1) (by simpa using h2)
 | [],_::_,h,_,_,_,_,_=>h.elim
 | _::_,[],h,_,_,_,_,_=>h.elim
theorem LkL.ok (h:LkL X scope cl N lk):bo9 X N lk scope cl:=⟨h.len,h.get⟩
theorem af5 {A B:Hp->Prop}(h:A H):bK5 σ H (fun b H3=>if b=true then A H3 else B H3):=by
 show if true=true then A H else B H
 exact E7 h
theorem y6 {v:V}{Q:St->Hp->Prop}(h:Q (σ.set i (some v)) H):aH6 i v σ H Q:=h
theorem SqT.updL {K:W.Frag}{zs:List V}(h:SqT K H a ys)(hl:H l=some (.lst xs)):SqT K (upd H l (.lst zs)) a ys:=by
 rcases h with(h | ⟨o,h⟩) | h
 ·exact .inl (.inl (by rw[m9 (bv0 h hl (by intro z;cases z))];exact h))
 ·exact .inl (.inr ⟨o,by rw[m9 (bv0 h hl (by intro z;cases z))];exact h⟩)
 ·exact .inr h
theorem y7.updL {K:W.Frag}{zs:List V}(hl:H l=some (.lst xs)):∀ {ys:List V} {ks:List (List Int)},y7 K H ys ks->y7 K (upd H l (.lst zs)) ys ks
 | _,_,.nil=>.nil
 | _,_,.cons r t=>by
  obtain⟨a,h1,h2⟩:=r
  exact .cons ⟨a,h1,h2.updL hl⟩ (y7.updL hl t)
theorem y7.one {K:W.Frag}(h:SqT K H a (k.map V.int)):y7 K H [.ref a] [k]:=.cons ⟨a,rfl,h⟩ .nil
theorem o7.seqT {K:W.Frag}(e:o7 H H')(h:SqT K H a xs):SqT K H' a xs:=by
 rcases h with(h | ⟨o,h⟩) | h
 ·exact .inl (.inl (e _ _ h))
 ·exact .inl (.inr ⟨o,e _ _ h⟩)
 ·exact .inr h
theorem o7.tups {K:W.Frag}(e:o7 H H')(h:y7 K H ys ks):y7 K H' ys ks:=y7.same e h
theorem o7.upd {o:HO}(e:o7 H H')(h:H l=none):o7 H (upd H' l o):=fun b u q=>by
 rw[m9 (u0 q h)]
 exact e b u q
end L2
namespace L2
open PySem
theorem bo0 (xs:List V)(k:Nat):aa9 xs (some (k:Int)) none=xs.drop k:=by
 unfold aa9
 rw[HT.bf1,HT.aS2]
 rcases Nat.le_total k xs.length with h | h
 ·rw[aY0 h]
  exact l6 (by rw[G6];omega)
 ·rw[Nat.min_eq_right h,bp7 h,bp7 (c6 _)]
  simp
theorem bJ0 (xs:List V)(k:Nat):aa9 xs none (some (k:Int))=xs.take k:=by
 unfold aa9
 rw[HT.bf1,HT.aS2,av2,Nat.sub_zero]
 rcases Nat.le_total k xs.length with h | h
 ·rw[aY0 h]
 ·rw[Nat.min_eq_right h,l6 h,l6 (c6 _)]
theorem ap4 (K:W.Frag)(hK:X.K=K):R9 X (.builtin "isinstance") (fun xs H Q=>∃ x c t b,xs=[x,.ty c]/\ap6 K H x t/\PySem.W.kitOne K t (.type c)=some b/\Q (.bl b) H):=by
 subst hK
 exact aW5
theorem ar1 {u d:Nat}(h:u+64<aa1)(hd:d<=60):u+1+d<aa1:=by omega
theorem aF6 {u d:Nat}(h:u+64<aa1)(hd:d<=64):u+d<aa1:=by omega
theorem Dt.mkInt {K:W.Frag}{i:Int}:Dt K H (.int i) (.int i):=by unfold Dt;rfl
theorem Dt.mkL {K:W.Frag}{ds:List af0}(h:SqL K H a xs)(d:D0 K H ds xs):Dt K H (.list ds) (.ref a):=by unfold Dt;exact⟨a,xs,rfl,h,d⟩
theorem Dt.mkT {K:W.Frag}{ds:List af0}(h:SqT K H a xs)(d:D0 K H ds xs):Dt K H (.tuple ds) (.ref a):=by unfold Dt;exact⟨a,xs,rfl,h,d⟩
theorem D0.mkN {K:W.Frag}:D0 K H [] []:=by unfold D0;rfl
theorem D0.mkC {K:W.Frag}{d:af0}{x:V}{ds:List af0}(h:Dt K H d x)(t:D0 K H ds xs):D0 K H (d::ds) (x::xs):=by unfold D0;exact⟨x,xs,rfl,h,t⟩
theorem aH5 {z:Int}{Q:St->Hp->Prop}(h:∀ c:Int,c=z->aH6 i (.int c) σ H Q):aH6 i (.int z) σ H Q:=h z rfl
theorem int_at {x:V}(h:(ns.map V.int)[i]?=some x):∃ z:Int,x=V.int z:=by
 rw[r6]at h
 cases e:ns[i]? with
 | none=>rw[e]at h;cases h
 | some z=>rw[e]at h;exact⟨z,(Option.some.inj h).symm⟩
theorem bn9 (ns:List Int)(lo hi:Option Int):∃ ms:List Int,aa9 (ns.map V.int) lo hi=ms.map V.int/\ms.length<=ns.length:=by
 unfold aa9
 rw[<- bp2,<- bp3]
 exact⟨_,rfl,by rw[t7,G6];omega⟩
theorem V2 (h:j<n):ixN n (j:Int)=some j:=by
 unfold ixN
 rw[if_pos (by omega),if_pos (by omega)]
 simp
theorem bV9 (a b:List Int):PyData.eqv (dP a) (dP b)=decide (a=b):=by
 unfold dP
 simp only[PyData.eqv]
 exact ao9 a b
theorem aP1 (k:List Int):∀ ks:List (List Int),(ks.map dP).any (fun d=>PyData.eqv d (dP k))=decide (k∈ks)
 | []=>by simp
 | l::ks=>by
  rw[j9,U2,bV9,aP1 k ks]
  by_cases h:l=k
  ·subst h;simp
  ·have h':k≠l:=fun e=>h e.symm
   simp[h,h']
theorem bb7 (k:List Int):(dP k).canLay0=true:=by simp[dP,PyData.canLay0,lay_ints]
theorem bc9 (k:List Int):(dP k).depth<=2:=by
 have:=ap2 k
 simp only[dP,PyData.depth]
 omega
theorem Dt.mkP {K:W.Frag}(h:SqT K H a (k.map V.int)):Dt K H (dP k) (.ref a):=by
 unfold dP
 exact Dt.mkT h (D0.ints k)
theorem aN7 (k:List Int):(PyData.list (k.map .int)).canLay0=true:=by simp[PyData.canLay0,lay_ints]
theorem bx9 (k:List Int):(PyData.list (k.map .int)).depth<=2:=by
 have:=ap2 k
 simp only[PyData.depth]
 omega
theorem bx5 (a b:List Int):PyData.eqv (.list (a.map .int)) (.list (b.map .int))=decide (a=b):=by
 simp only[PyData.eqv]
 exact ao9 a b
theorem Dt.mkLi {K:W.Frag}(h:SqL K H a (k.map V.int)):Dt K H (.list (k.map .int)) (.ref a):=Dt.mkL h (D0.ints k)
theorem y7.dtAll {K:W.Frag}(t:y7 K H ys ks):D0 K H (ks.map dP) ys:=D0.tups t
def dW (n:Int)(ks:List (List Int)):af0:=.tuple [.int n,.tuple (ks.map dP)]
theorem bM4 (n:Int)(ks:List (List Int)):(dW n ks).canLay0=true:=by simp[dW,PyData.canLay0,PyData.canLayAll0,Q3]
theorem cf5 (n:Int)(ks:List (List Int)):(dW n ks).depth<=4:=by
 have:=aI0 ks
 simp only[dW,PyData.depth,PyData.depthAll]
 omega
theorem cf2 (n m:Int)(ks ls:List (List Int)):PyData.eqv (dW n ks) (dW m ls)=(decide (n=m) && decide (ks=ls)):=by
 simp only[dW,PyData.eqv,PyData.eqvAll,aH8,bp4]
 by_cases h:n=m
 ·subst h;simp
 ·simp[h]
end L2
namespace Web
open PySem L2
def ac4 (i m:Nat):List (List Int):=(x6 m).map fun(d:Nat)=>([(i:Int),(i:Int)+1+(d:Int)]:List Int)
def j5 (n:Nat):List (List Int):=(x6 n).flatMap fun i=>ac4 i (n - (i+1))
def Up (n:Nat)(k:List Int):Prop:=∃ i j:Nat,i<j/\j<n/\k=[(i:Int),(j:Int)]
theorem V9 (h:k∈j5 n):Up n k:=by
 unfold j5 at h
 obtain⟨i,hi,hk⟩:=bY3.mp h
 unfold ac4 at hk
 obtain⟨d,hd,rfl⟩:=m6.mp hk
 rw[A1]at hi hd
 exact⟨i,i+1+d,by omega,by omega,by simp⟩
def Asc (ks:List (List Int)):Prop:=ks.Pairwise fun a b=>Tim.F2 a b=true
theorem bJ4 (i m:Nat):Asc (ac4 i m):=by
 unfold Asc ac4
 rw[E5]
 refine List.Pairwise.imp ?_ U9
 intro a b hab
 unfold Tim.F2
 rw[if_pos rfl]
 unfold Tim.F2
 rw[if_neg (by omega)]
 exact decide_eq_true (by omega)
theorem aI7 (n:Nat):Asc (j5 n):=by
 unfold Asc j5
 rw[List.pairwise_flatMap]
 refine⟨fun i _=>bJ4 i _,?_⟩
 refine List.Pairwise.imp ?_ U9
 intro a b hab x hx y hy
 unfold ac4 at hx hy
 obtain⟨d,hd,rfl⟩:=m6.mp hx
 obtain⟨e,he,rfl⟩:=m6.mp hy
 unfold Tim.F2
 rw[if_neg (by omega)]
 exact decide_eq_true (by omega)
theorem aH0:∀ n:Nat,n<=24->(j5 n).length<=276:=by decide +kernel
theorem az5 (n i:Nat):((x6 (i+1)).flatMap fun j=>ac4 j (n - (j+1)))=((x6 i).flatMap fun j=>ac4 j (n - (j+1)))++ac4 i (n - (i+1)):=by
 rw[K1,bJ9]
 simp
theorem bl1 (i m:Nat):ac4 i (m+1)=ac4 i m++[[(i:Int),(i:Int)+1+(m:Int)]]:=by
 unfold ac4
 rw[K1,r9]
 rfl
theorem bv3 (n:Nat):∀ i:Nat,i<=n->((x6 i).flatMap fun j=>ac4 j (n - (j+1))).length<=(j5 n).length:=by
 intro i hi
 unfold j5
 obtain⟨d,rfl⟩:=Nat.exists_eq_add_of_le hi
 rw[List.range_add,bJ9,j6]
 omega
theorem as7 (h:Asc ks):ks.Nodup:=by
 refine List.Pairwise.imp ?_ h
 intro a b hab e
 subst e
 rw[Tim.ao2]at hab
 cases hab
theorem aW7:∀ {ks ls:List (List Int)},Asc ks->ls.Perm ks->ls.Pairwise (fun a b=>Tim.F2 b a=false)->ls=ks
 | [],ls,_,p,_=>p.eq_nil
 | k::ks,[],_,p,_=>by
  have:=p.length_eq
  simp at this
 | k::ks,l::ls,h,p,q=>by
  have hkl:l=k:=by
   have h1:l∈k::ks:=p.mem_iff.mp f9
   have h2:k∈l::ls:=p.mem_iff.mpr f9
   rcases g9.mp h1 with e | e
   ·exact e
   ·rcases g9.mp h2 with e2 | e2
    ·exact e2.symm
    ·have a1:=(C7.mp h).1 l e
     have a2:=(C7.mp q).1 k e2
     rw[a1]at a2
     cases a2
  subst hkl
  rw[aW7 (C7.mp h).2 ((List.perm_cons _).mp p) (C7.mp q).2]
def up:List Int->List Int
 | [a,b]=>[if b<a then b else a,if b > a then b else a]
 | k=>k
theorem bZ7 (h:Up n k):up k=k:=by
 obtain⟨i,j,h1,h2,rfl⟩:=h
 show [if (j:Int)<i then (j:Int) else i,if (j:Int) > i then (j:Int) else i]=_
 rw[if_neg (by omega),if_pos (by omega)]
theorem Up.key (h:Up n k)(hn:n<=24):Sett.av1 k:=by
 obtain⟨i,j,h1,h2,rfl⟩:=h
 exact⟨i,j,by omega,by omega,rfl⟩
theorem Up.len (h:Up n k):k.length=2:=by
 obtain⟨i,j,h1,h2,rfl⟩:=h
 rfl
def ab2 (n:Nat)(k:List Int):Prop:=∃ i j:Nat,i<n/\j<n/\i≠j/\k=[(i:Int),(j:Int)]
theorem ab2.up (h:ab2 n k):Up n (up k):=by
 obtain⟨i,j,h1,h2,h3,rfl⟩:=h
 show Up n [if (j:Int)<i then (j:Int) else i,if (j:Int) > i then (j:Int) else i]
 by_cases h:i<j
 ·rw[if_neg (by omega),if_pos (by omega)]
  exact⟨i,j,h,h2,rfl⟩
 ·rw[if_pos (by omega),if_neg (by omega)]
  exact⟨j,i,by omega,h1,rfl⟩
theorem Up.ends (h:Up n k):ab2 n k:=by
 obtain⟨i,j,h1,h2,rfl⟩:=h
 exact⟨i,j,by omega,h2,by omega,rfl⟩
end Web
namespace L2
open PySem
def X4.around {k:Nat}{A:Around}(_:X4 k A):Around:=A
theorem bF8 (K:W.Frag)(A:Around)(hK:X.K=K)(hA:X.A=A):OpR X (E1 .Eq) (bR3 K A false):=by subst hK hA;exact bb0
theorem bF7 (K:W.Frag)(A:Around)(hK:X.K=K)(hA:X.A=A):OpR X (E1 .In) (aZ8 K A false):=by subst hK hA;exact aN3
theorem ba7 (K:W.Frag)(A:Around)(hK:X.K=K)(hA:X.A=A):OpR X (E1 .NotIn) (aZ8 K A true):=by subst hK hA;exact aG8
end L2
namespace L2
open PySem PySem.Spec PyProof.Rows
section
variable {es:List Expr} {to:TE} {t:TA} {name:Str} {apos cpos:Pos} {T id:String}
theorem ap0 (p:Int):∀ k:List Int,(k.map PyData.int).any (fun d=>PyData.eqv d (.int p))=decide (p∈k)
 | []=>by simp
 | i::k=>by
  rw[j9,U2,ap0 p k]
  by_cases h:i=p
  ·subst h;simp[PyData.eqv]
  ·have h':p≠i:=fun e=>h e.symm
   simp[PyData.eqv,h,h']
end
theorem bg6:∀ {vs:List Value} {n i:Nat},vs.length=n->(∀ j v,vs[j]?=some v->∃ t,v=Value.int (((i+j:Nat):Int)) t)->J5 vs ((aj7 i n).map fun k:Nat=>(k:Int))
 | [],n,i,e,_=>by subst e;exact .nil
 | v::vs,0,i,e,_=>by cases e
 | v::vs,n+1,i,e,h=>by
  obtain⟨t,rfl⟩:=h 0 v rfl
  rw[List.range'_succ,j9]
  refine .cons _ t (bg6 (by simpa using e) fun j v hv=>?_)
  obtain⟨t',e'⟩:=h (j+1) v (by simpa using hv)
  exact⟨t',by rw[e'];congr 2;omega⟩
theorem aW2 {r:Addr}{t u v:Tok}{Q:List Value->Shared->Prop}(hh:A.handled=none)(hr:IsRange s.heap r 0 n 1 t u v)(hn:n<=1000)
  (h:∀ h' tk vs,(∀ b o,s.heap.get? b=some o->h'.get? b=some o)->J5 vs ((aj7 0 n).map fun k:Nat=>(k:Int))->Q vs { s with heap:=h',toks:=tk }) :
  m5 (p0 prog w) A (collect (.ref r)) Q E s:=by
 unfold collect
 refine a7 (wpAny_runValue (ae9 F.entry_proto_collect ?_))
 rw[Around.under_plainId F.plain_proto_collect _]
 show m5 _ A.in1 (newList [] >>= fun l=>bj3 (.builtin "list.__iadd__" ⟨[l,.ref r],[]⟩)) _ _ s
 refine a7 (A7 ?_)
 refine b9 ⟨plainId_quiet F.plain_list_iadd _,ae9 F.entry_list_iadd ?_⟩
 rw[Around.under_plainId F.plain_list_iadd _]
 show m5 _ A.in1 (Builtin.List.listExtendWith (.ref s.heap.objs.size) (.ref r) (.ref s.heap.objs.size)) _ _ _
 have hS:(s.heap.push { cls:=.type "list",data:=.seq ([]:List Value).toArray }).get? s.heap.objs.size=some { cls:=.type "list",data:=.seq #[] }:=j3 _ rfl
 have hrs:Builtin.Range.rangeSize 0 n 1=(n:Int):=by rw[rangeSize_one];split<;>omega
 refine wpAny_extend_range (R:=fun rr s'=>match rr with
  | .ok (.ret v)=>m5 (p0 prog w) A (match v with
   | .ref a=>(do
    let o <- load a
    match o.data with
    | .seq xs _=>pure xs.toList
    | _=>bj9 "internal:collect")
   | _=>bj9 "internal:collect") Q E s'
  | .ok _=>False
  | .error e=>E e s') (s:={ s with heap:=s.heap.push { cls:=.type "list",data:=.seq ([]:List Value).toArray } }) (n:=n) hh (a8 _ hr) (small_one (by omega) (by omega) (by omega) (by omega)) hrs (by omega) s.heap.objs.size _ 0 hS fun h' tk acc' c' hk hS' hacc=>?_
 show m5 _ A (load s.heap.objs.size >>= _) _ _ _
 refine a7 (wpAny_load hS' ?_)
 refine b9 (h h' tk _ (fun b o e=>hk b o (i8 (d9 e)) (a8 _ e)) (bg6 (by rw[m8];exact hacc.1) fun j v hj=>?_))
 obtain⟨t',e⟩:=hacc.2 j v (by rw[<- p6];exact hj)
 exact⟨t',by rw[e];congr 1;omega⟩
theorem O2.to {b:Addr}(f:O2 X pins H b)(h:H' b=none):O2 X pins H' b:=⟨h,f.2⟩
theorem Inv.turn {it:Addr}(I:Inv X pins σ H s)(f:O2 X pins H it)(k:∀ b o,b≠it->s.heap.get? b=some o->h'.get? b=some o):Inv X pins σ H { s with heap:=h',toks:=t' }:=
 I.turned k f.1 f.2.1 f.2.2.2.1 f.2.2.2.2.1 f.2.2.2.2.2
theorem Inv.take {o:HO}(I:Inv X pins σ H s)(f:O2 X pins H a)(k:∀ b u,b≠a->s.heap.get? b=some u->h'.get? b=some u)(new:F3 X.prog X.w (upd H a o) h' a o):Inv X pins σ (upd H a o) { s with heap:=h',toks:=t' }:=by
 have hn:=f.1
 have ne:∀ b u,H b=some u->b≠a:=fun b u e=>u0 e hn
 have kp:∀ b u,H b=some u->upd H a o b=some u:=fun b u e=>by rw[m9 (ne b u e)];exact e
 refine I.step (g':=s.gens) (d':=s.drawn) (ch:=[a]) (fun b hb=>?_) (fun b u _ _ hc e _=>k b u (fun z=>hc (by simp[z])) e) (fun b u _ _ hc e _=>⟨u.slots,k b u (fun z=>hc (by simp[z])) e⟩) (fun b u hc _ n=>by rw[m9 (fun z=>hc (by simp[z]))];exact n)
  (fun b u hc e=>⟨u,k b u (fun z=>hc (by simp[z])) e⟩) (fun b xs e=>kp b _ e) (fun b u xs e=>kp b _ e) (fun b ps e=>⟨#[],by rw[kp b _ e];simp⟩) (fun m hm=>?_) (fun b u e=>?_) I.bare
 ·have e:b=a:=by simpa using hb
  subst e
  exact⟨f.2.2.2.1,f.2.1,f.2.2.2.2.1,f.2.2.2.2.2⟩
 ·obtain⟨o',es,ep,ho,r⟩:=hm
  exact⟨o',es,ep,k _ o' (Ne.symm f.2.1) ho,r⟩
 ·by_cases hb:b=a
  ·subst hb
   rw[b8]at e
   cases e
   exact new
  ·rw[m9 hb]at e
   refine(I.hok b u e).stay (fun c v hc q=>k c v ?_ q) (fun c q=>?_) fun c xs q=>?_
   ·rcases hc with z | z
    ·rw[z];exact hb
    ·exact ne c _ z
   ·exact kp _ _ q
   ·exact kp _ _ q
abbrev aP5 (X:Cx)(A:Around)(σ:St)(H:Hp)(f:Value)(key:Int->List Int)(z:Int):Prop:=∀ (t:Tok) (pins':List (Addr × Obj)) (s':Shared) (H':Hp),Inv X pins' σ H' s'->o7 H H' ->
 m5 (p0 X.prog X.w) A (call f [.int z t]) (fun u s''=>∃ k H'',u=.ref k/\H'' k=some (.tup ((key z).map V.int))/\Inv X pins' σ H'' s''/\o7 H' H'') (fun _ _=>False) s'
abbrev aP6 (X:Cx)(pins:List (Addr × Obj))(σ:St)(H:Hp)(a:Addr)(zs:List Int)(key:Int->List Int)(P:PySem.Fin->Shared->Prop):Prop:=∀ (H':Hp) (s':Shared) (out:List Value) (zs':List Int) (c:Nat),Inv X pins σ H' s'->o7 H H'->O2 X pins H' a ->
 s'.heap.get? a=some (E2 "list" out.toArray c)->J5 out zs'->zs'.Perm zs->zs'.Pairwise (fun x y=>Tim.F2 (key y) (key x)=false)->P (.done (.ret .none)) s'
theorem aA6 {key:Int->List Int}:∀ {ks vs:List Value} {zs:List Int},X6 (fun u k=>Tim.IsK prog w h k u) ks (zs.map key)->J5 vs zs ->
  (∀ p∈ks.zip vs,Tim.IsK prog w h (key (numOf p.2)) p.1)/\(ks.zip vs).map (fun p=>numOf p.2)=zs
 | _,_,[],.nil,.nil=>⟨fun p h=>(nomatch h),rfl⟩
 | _,_,z::zs,.cons r t,.cons _ t' q=>by
  obtain⟨h1,h2⟩:=aA6 t q
  refine⟨fun p hp=>?_,by rw[U1,j9,h2];rfl⟩
  rw[U1]at hp
  rcases g9.mp hp with rfl | hp
  ·exact r
  ·exact h1 p hp
theorem aH4:∀ {vs:List Value} {zs:List Int},J5 vs zs->∀ v∈vs,∃ t,v=.int (numOf v) t
 | _,_,.nil,v,h=>by cases h
 | _,_,.cons z t q,v,h=>by
  rcases g9.mp h with rfl | h
  ·exact⟨t,rfl⟩
  ·exact aH4 q v h
theorem bg7:∀ {vs:List Value},(∀ v∈vs,∃ t,v=.int (numOf v) t)->J5 vs (vs.map numOf)
 | [],_=>.nil
 | v::vs,h=>by
  obtain⟨t,e⟩:=h v f9
  rw[j9]
  rw[e]
  exact .cons _ t (bg7 fun v hv=>h v (d4 _ hv))
set_option maxHeartbeats 2000000 in
theorem aU7 {kS:Addr}{keys:Array Value}{e e1:Nat}{key:Int->List Int}{P:PySem.Fin->Shared->Prop}{st:SortSt}{H0:Hp}(I:Inv X pins σ H s)(hS:o7 H0 H)(hk:s.heap.get? kS=some (E2 "list" keys e))(ha:s.heap.get? a=some (E2 "list" #[] e1))
  (fk:O2 X pins H kS)(fa:O2 X pins H a)(hka:kS≠a)(hz:vs.length<=1000)(hkl:keys.size=vs.length)(hi:J5 vs zs)
  (hK:X6 (fun u k=>Tim.IsK X.prog X.w s.heap k u) keys.toList (zs.map key))(hp:(n6 st).Perm (keys.zip vs.toArray))(hf:X9 st=none)
  (hs:(n6 st).toList.Pairwise (Tim.le (Tim.Bf (O:=Tim.bb4) fun p=>Tim.N7 X.prog X.w s.heap p.1)))(h:aP6 X pins σ H0 a zs key P) :
  m5 (p0 X.prog X.w) A (ksk_tail a false e1 (.ref kS) st) P E s:=by
 obtain⟨k1,k2⟩:=aA6 hK hi
 have hl:(n6 st).toList.Perm (keys.toList.zip vs):=by rw[<- ksk_zip];exact ab5.mp hp
 have hsz2:(n6 st).size=vs.length:=by rw[hp.size_eq,aY1,hkl,d3,Nat.min_self]
 have s1:=Heap.SameBut.update s.heap kS (Obj.mapSeq fun _=>(#[]:Array Value))
 have na1:(s.heap.update kS (Obj.mapSeq fun _=>(#[]:Array Value))).get? a=some (E2 "list" #[] e1):=(s1.2 a hka.symm).trans ha
 have hout:((n6 st).map (·.2)).size=vs.length:=by rw[ae6];exact hsz2
 have hmem:∀ v∈(n6 st).toList.map (·.2),∃ t,v=.int (numOf v) t:=fun v hv=>by
  obtain⟨p,hp',rfl⟩:=m6.mp hv
  exact aH4 hi _ (ap9 (hl.mem_iff.mp hp')).2
 unfold ksk_tail
 dsimp only
 refine a7 (ab8 hk rfl ?_ (by rw[hkl,D7];omega) (u7 _))
 refine a7 (wpAny_letGo ?_)
 refine a7 (bk1 na1 rfl ?_)
 refine a7 (ab8 na1 rfl ?_ (u7 _) (n8 (aq7 hout) (by rw[D7];omega)))
 rw[hf]
 simp only[bne_self_eq_false,j7,if_false]
 have I1:Inv X pins σ H { s with heap:=s.heap.update kS (Obj.mapSeq fun _=>(#[]:Array Value)),toks:=s.toks }:=I.turn fk fun b o hb q=>(s1.2 b hb).trans q
 have s2:=Heap.SameBut.update (s.heap.update kS (Obj.mapSeq fun _=>(#[]:Array Value))) a (Obj.mapSeq fun _=>(n6 st).map (·.2))
 have I2:Inv X pins σ H { s with heap:=(s.heap.update kS (Obj.mapSeq fun _=>(#[]:Array Value))).update a (Obj.mapSeq fun _=>(n6 st).map (·.2)),toks:=s.toks }:=
  I1.turn (t':=s.toks) fa fun b o hb q=>(s2.2 b hb).trans q
 obtain⟨c2,hc2⟩:∃ c2,((s.heap.update kS (Obj.mapSeq fun _=>(#[]:Array Value))).update a (Obj.mapSeq fun _=>(n6 st).map (·.2))).get? a=some (E2 "list" ((n6 st).map (·.2)) c2):=⟨_,N1 na1 fun _=>(n6 st).map (·.2)⟩
 have eo:((n6 st).toList.map (·.2)).toArray=(n6 st).map (·.2):=by rw[<- bX2,aq8]
 refine b9 (h H _ ((n6 st).toList.map (·.2)) (((n6 st).toList.map (·.2)).map numOf) c2 I2 hS fa (by rw[eo];exact hc2) (bg7 hmem) ?_ ?_)
 ·have:=hl.map fun p=>numOf p.2
  rw[k2]at this
  rw[S0]
  exact this
 ·rw[S0,E5]
  refine List.Pairwise.imp_of_mem ?_ hs
  intro x y hx hy hxy
  have ex:=Tim.M4 (k1 x (hl.mem_iff.mp hx))
  have ey:=Tim.M4 (k1 y (hl.mem_iff.mp hy))
  have hxy':Tim.F2 (Tim.N7 X.prog X.w s.heap y.1) (Tim.N7 X.prog X.w s.heap x.1)=false:=hxy
  rw[ex,ey]at hxy'
  exact hxy'
theorem bw7:∀ {vs:List Value} {zs:List Int} {j:Nat} {x:Value},J5 vs zs->vs[j]?=some x->∃ z t,zs[j]?=some z/\x=.int z t
 | _,_,_,_,.nil,h=>by simp at h
 | _,_,0,_,.cons n t q,h=>by simp at h;exact⟨n,t,rfl,h.symm⟩
 | _,_,j+1,_,.cons n t q,h=>by
  obtain⟨z,t',h1,h2⟩:=bw7 q (by simpa using h)
  exact⟨z,t',by simpa using h1,h2⟩
theorem bx2 {s':Shared}{b:Addr}{o:Obj}(I:Inv X (pins++ag6 fp h) σ H' s')(hb:b∈fp)(e:h.get? b=some o):s'.heap.get? b=some o/\H' b=none:=
 let p:=I.pin (b,o) (k6 _ (k6 _ (M0 hb e)))
 ⟨p.1,p.2.1⟩
abbrev bb8 (qual:Str)(scope:Scope)(cl:List (Str × Addr))(f:Addr)(cv:Value)(s:Shared):Env:=PySem.W.envX qual scope s.heap.objs.size f cv cl
def bv6 (X:Cx)(A:Around)(qual:Str)(scope:Scope)(cl:List (Str × Addr))(N':List Str)(f:Addr)(cv:Value)(s:Shared)(H:Hp):Cx:=
 { X with A:=A.deeper (bb8 qual scope cl f cv s),N:=N',s₀:=s,H₀:=H,env:=bb8 qual scope cl f cv s,outer:=X.stack,stack:=List.cons (bb8 qual scope cl f cv s) X.stack,ex:=[],fn:=fun _=>false,calm:=true,pn:=[],xe:=fun _ _=>False }
def aI9 (X:Cx)(N':List Str)(lk:List (Option Nat))(scope:Scope)(cl:List (Str × Addr)):Prop:=
 lk.length=N'.length/\∀ (i j:Nat) (x:Str),N'[i]?=some x->lk[i]?=some (some j)->X.N[j]?=some x/\(X.env.scope.names.lookup x=some .cell\/X.env.scope.names.lookup x=some .free)/\(cl.lookup x).isSome=true /\
  (scope.names.lookup x=some .cell\/scope.names.lookup x=some .free)
theorem bm5 {h1:Heap}{tk:Nat}{p:Str}{cv:Value}{v:V}(I:Inv X pins σ H s)(hA:A.frames=some X.stack)(hh:A.handled=none)(hkind:scope.kind=.function)(hcl:aw0 X.env cl)(hfr:ap7 scope.names cl=true)(hlk:aI9 X N' lk scope cl)
  (hp:scope.names.lookup p=some .local)(rv:RelV v u)(hn:h1.Ns s.heap.objs.size (fun y=>[(p,u)].reverse.lookup y))(hk:∀ b o,s.heap.get? b=some o->h1.get? b=some o) :
  Inv (bv6 X A qual scope cl (p::N') f cv s H) [] (some v::Z7 lk σ) H { s with heap:=h1,toks:=tk }:=by
 have hC:H s.heap.objs.size=none:=I.hok.fresh (c6 _)
 have hmem:∀ y∈scope.names,y.2≠.cell/\(y.2=.free->(cl.lookup y.1).isSome=true):=fun y hy=>by
  unfold ap7 at hfr
  rw[O3]at hfr
  have:=hfr y hy
  rw[B0]at this
  refine⟨by simpa using this.1,fun e=>?_⟩
  have h2:=this.2
  rw[e]at h2
  simpa using h2
 have hcell:∀ x c,cl.lookup x=some c->X.env.cells.lookup x=some c:=fun x c e=>hcl.get e
 have noE:∀ b:Addr,b∉([]:List Addr):=fun b z=>nomatch z
 refine⟨⟨I.ok.mod,hkind,rfl,rfl,c6 _,fun x y c e1 e2=>I.ok.inj x y c (hcell x c e1) (hcell y c e2),fun x hx=>?_,(fun x c e=>by cases e),fun _=>hh,Around.frames_deeper hA,.inr ⟨rfl,rfl⟩,fun b z=>absurd z (noE b),fun b o e=>I.bs b o e,n8 I.ok.bsz I.sz,fun b _ _=>noE b,fun b z=>absurd z (noE b),I.stack,I.stkFree⟩,
  rfl,I.bare,Un.kept hk,⟨_,hn,fun i x w e1 e2 e3=>?_⟩,fun x c e=>?_,hC,fun x c e=>I.freeC x c (hcell x c e),(fun q hq=>nomatch hq),I.hok.kept hk,?_⟩
 ·have hx':scope.names.lookup x=some .cell\/scope.names.lookup x=some .free:=hx
  rcases hx' with h | h
  ·exact absurd rfl (hmem _ (PySem.mem_of_lookup h)).1
  ·exact u4.mp ((hmem _ (PySem.mem_of_lookup h)).2 rfl)
 ·cases i with
  | zero =>
   have e1':p=x:=by simpa using (show (p::N')[0]?=some x from e1)
   have e2':v=w:=by simpa using (show (some v::Z7 lk σ)[0]?=some (some w) from e2)
   subst e1' e2'
   refine⟨u,rv,.inl ⟨hp,?_⟩⟩
   show [(p,u)].reverse.lookup p=some u
   simp[List.lookup]
  | succ i =>
   have e1':N'[i]?=some x:=by simpa using (show (p::N')[i+1]?=some x from e1)
   have e2':(Z7 lk σ)[i]?=some (some w):=by simpa using (show (some v::Z7 lk σ)[i+1]?=some (some w) from e2)
   unfold Z7 at e2'
   rw[r6]at e2'
   cases hq:lk[i]? with
   | none=>rw[hq]at e2';cases e2'
   | some o =>
    rw[hq]at e2'
    have e2'':(o.bind fun j=>(σ[j]?).join)=some w:=Option.some.inj e2'
    cases o with
    | none=>cases e2''
    | some j =>
     obtain⟨q1,q2,q3,q4⟩:=hlk.2 i j x e1' hq
     have hσ:σ[j]?=some (some w):=by
      have z:(σ[j]?).join=some w:=e2''
      cases hh:σ[j]? with
      | none=>rw[hh]at z;cases z
      | some o=>rw[hh]at z;rw[show o=some w from z]
     obtain⟨m,hnX,hl⟩:=I.loc
     obtain⟨u',r,lo⟩:=hl j x w q1 hσ (q2.elim (fun a=>.inr (.inl a)) (fun a=>.inr (.inr a)))
     refine⟨u',r,.inr ?_⟩
     obtain⟨c,hc⟩:=u4.mp q3
     refine⟨q4,c,hc,?_⟩
     have hcX:=hcell x c hc
     rcases lo with⟨k,_⟩ | ⟨_,c',hc',z⟩
     ·have k':X.env.scope.names.lookup x=some .local:=k
      rw[k']at q2
      rcases q2 with q2 | q2<;>cases q2
     ·rw[hcX]at hc'
      cases hc'
      obtain⟨o,ho,hd⟩:=z
      exact⟨o,hk c o ho,hd⟩
 ·obtain⟨w,o,ho,hd⟩:=I.cell x c (hcell x c e)
  exact⟨w,o,hk c o ho,hd⟩
 ·show (some v::Z7 lk σ).length=(p::N').length
  unfold Z7
  rw[o9,a9,o9,hlk.1]
theorem bv5 {name p:Str}{body:Expr}{c':Addr}{pm ctv:Value}{v:V}{Q:VK}(I:Inv X pins σ H s)(hA:A.frames=some X.stack)(hh:A.handled=none)(hroom:A.depth<aC9)
  (ho:s.heap.get? f=some (PySem.W.kla_obj name qual params body scope cl pm c' ctv))(hcd:s.heap.CodeRec (.ref c') qual)(hbind:bB4 (PySem.W.kla_fn name qual params body scope cl pm (.ref c') ctv) ⟨[u],[]⟩=pure [(p,u)])
  (hkind:scope.kind=.function)(hco:scope.isCoroutine=false)(hgen:scope.isGenerator=false)(hcl:aw0 X.env cl)(hfr:ap7 scope.names cl=true)(hlk:aI9 X N' lk scope cl)(hp:scope.names.lookup p=some .local)(rv:RelV v u)
  (he:PE (bv6 X A qual scope cl (p::N') f (.ref c') s H) body te)(ht:te (some v::Z7 lk σ) H Q) :
  m5 (p0 X.prog X.w) A (call (.ref f) [u]) (fun u' s'=>∃ v' H',Inv X pins σ H' s'/\RelV v' u'/\Q v' H') (fun _ _=>False) s:=by
 have hcellN:∀ y∈scope.names,y.2≠.cell:=fun y hy=>by
  unfold ap7 at hfr
  rw[O3]at hfr
  have:=hfr y hy
  rw[B0]at this
  simpa using this.1
 refine bA1 (PySem.W.kla_callFunE hroom ho rfl hco hgen rfl hcd ?_)
 show m5 _ _ (bB4 (PySem.W.kla_fn name qual params body scope cl pm (.ref c') ctv) ⟨[u],[]⟩) _ _ s
 rw[hbind]
 refine b9 (ab4 hcellN (fun y hy=>by rw[j0.mp hy];exact hp) (fun h1 hns hsb=>?_) hkind)
 have hk₁:∀ b o,s.heap.get? b=some o->h1.get? b=some o:=fun b o e=>hsb.extBut b o (i8 (d9 e)) (a8 _ e)
 refine⟨I.nolimit.keeps hk₁,?_⟩
 show aD8 _ _ (.expr body (PySem.W.envX qual scope s.heap.objs.size f (.ref c') cl)) _ _
 have I1:=bm5 (tk:=s.toks+[(p,u)].length) (qual:=qual) (f:=f) (cv:=.ref c') I hA hh hkind hcl hfr hlk hp rv hns hk₁
 refine PySem.W.kla_codeExpr (B6 (he [] _ _ H Q I1 ht) (fun u' s' hq=>?_) fun _ _ z=>False.elim z)
 obtain⟨v',H',J,r',q⟩:=hq
 exact⟨v',H',I.call' (ch:=[]) J.os J.base J.hok J.bare (fun b z=>nomatch z),r',q⟩
def aW9 (c:Addr)(qual:Str):HO:=.ext fun h=>h.CodeRec (.ref c) qual
def bp0 (f:Addr)(o:Obj):HO:=.ext fun h=>h.get? f=some o
def ak5 (P:Addr)(pos:Pos)(qual:Str)(H:Hp):Prop:=∃ ps,H P=some (.tbl ps)/\TriplesOk ps.toList/\(bN9 pos ps.toList=none\/∃ c',bN9 pos ps.toList=some (.ref c')/\H c'=some (aW9 c' qual))
def G5 (P:Addr)(H H':Hp):Prop:=∀ b o,b≠P->H b=some o->H' b=some o
theorem G5.refl (P:Addr)(H:Hp):G5 P H H:=fun _ _ _ h=>h
theorem G5.trans {P:Addr}{H1 H2:Hp}(a:G5 P H H1)(b:G5 P H1 H2):G5 P H H2:=fun c o n h=>b c o n (a c o n h)
theorem o7.grow (P:Addr)(h:o7 H H'):G5 P H H':=fun b o _ q=>h b o q
theorem ak5.same {P:Addr}(t:ak5 P pos qual H)(h:o7 H H'):ak5 P pos qual H':=by
 obtain⟨ps,h1,h2,h3⟩:=t
 refine⟨ps,h _ _ h1,h2,?_⟩
 rcases h3 with h3 | ⟨c',h3,h4⟩
 ·exact .inl h3
 ·exact .inr ⟨c',h3,h _ _ h4⟩
structure aC6 (base:Heap) (mg:Str->Option Value) (c P:Addr):Prop where
 hd:PySem.W.CodeHd base c P
 blt:base.BuiltinsAt mg P
 ne:d7≠P
theorem bo7 {c:Value}{l:List Value}(h:TriplesOk l)(hn:bN9 pos l=none):bN9 pos (l++[X7 pos.line,X7 pos.col,c])=some c:=codeAmong_snoc l h hn
def ca6 (P:Addr)(pos:Pos)(qual:Str)(params:Arguments)(body:Expr)(scope:Scope)(cl:List (Str × Addr))(pm:Value):TE:=fun σ H Q=>ak5 P pos qual H/\∀ f c' ctv H',G5 P H H'->ak5 P pos qual H'->H f=none ->
 H' f=some (bp0 f (PySem.W.kla_obj "<lambda>" qual params body scope cl pm c' ctv))->H' c'=some (aW9 c' qual)->Q (.ref f) H'
theorem bS0 {body:Expr}{c P:Addr}(B:aC6 X.base X.mg c P)(hcode:X.env.code=.ref c)(hcl:aw4 scope X.env=pure cl)(hdef:defaultsOf params X.env=([],[])) :
  PE X (.Lambda params body scope pos) (ca6 P pos (X.env.qual++"<lambda>") params body scope cl ((X.mg "__name__").getD .none)):=by
 intro pins s σ H Q I h
 obtain⟨⟨ps,hP,ht,hin⟩,q⟩:=h
 have hPh:s.heap.get? P=some (PySem.W.tabObj ps):=I.hok P _ hP
 have C:=B.hd.keeps I.bk
 have hb:s.heap.BuiltinsAt X.mg P:=by
  obtain⟨bm,ob,b1,b2,b3,b4,b5,b6⟩:=B.blt
  exact⟨bm,ob,b1,b2,b3,b4,I.bk _ _ b5,b6⟩
 refine PySem.W.kla_eval hdef ?_
 rcases hin with hnf | ⟨c',hf,hc'⟩
 ·refine PySem.W.kla_makeFunction hcl I.ok.glob (I.mod.glob.keeps I.bk) hcode C hPh ht hnf B.ne hb fun c' ctv h' tk hx hge hlt hrec htb=>?_
  have hPlt:P<s.heap.objs.size:=d9 hPh
  have hsz:s.heap.objs.size<=h'.objs.size:=n8 hge (aq4 hlt)
  have cP:P≠c':=i8 (q8 hPlt hge)
  have fP:P≠h'.objs.size:=i8 (q8 hPlt hsz)
  have fc:c'≠h'.objs.size:=i8 hlt
  have hcn:H c'=none:=I.hok.fresh hge
  have hfn:H h'.objs.size=none:=I.hok.fresh hsz
  have hfr:(PySem.W.kla_obj "<lambda>" (X.env.qual++"<lambda>") params body scope cl ((X.mg "__name__").getD .none) c' ctv).isFreed=false:=rfl
  generalize hobj:PySem.W.kla_obj "<lambda>" (X.env.qual++"<lambda>") params body scope cl ((X.mg "__name__").getD .none) c' ctv=ob at *
  generalize hps:ps++#[X7 pos.line,X7 pos.col,.ref c']=ps' at *
  have hps2:ps'.toList=ps.toList++[X7 pos.line,X7 pos.col,.ref c']:=by rw[<- hps];simp
  generalize hH1:upd (upd (upd H P (.tbl ps')) c' (aW9 c' (X.env.qual++"<lambda>"))) h'.objs.size (bp0 h'.objs.size ob)=H1
  have v1:H1 h'.objs.size=some (bp0 h'.objs.size ob):=by rw[<- hH1];exact b8
  have v2:H1 c'=some (aW9 c' (X.env.qual++"<lambda>")):=by rw[<- hH1,m9 fc];exact b8
  have v3:H1 P=some (.tbl ps'):=by rw[<- hH1,m9 fP,m9 cP];exact b8
  have v4:∀ b,b≠P->b≠c'->b≠h'.objs.size->H1 b=H b:=fun b n1 n2 n3=>by rw[<- hH1,m9 n3,m9 n2,m9 n1]
  have v5:∀ b u,b≠P->H b=some u->H1 b=some u:=fun b u n e=>by rw[v4 b n (u0 e hcn) (u0 e hfn)];exact e
  have k1:∀ b o,b≠P->s.heap.get? b=some o->(h'.push ob).get? b=some o:=fun b o n e=>a8 _ (hx b o n e)
  have neP:∀ b,H b=none->b≠P:=fun b n z=>by rw[z,hP]at n;cases n
  have hPn:(h'.push ob).get? P=some (PySem.W.tabObj ps'):=a8 _ htb
  have un:Un X.fs [] H H1 s.heap (h'.push ob):=by
   refine⟨fun b o e n _ _=>k1 b o (neP b n) e,fun b o e n _ _=>⟨o.slots,k1 b o (neP b n) e⟩,fun b o e n _=>?_,fun b o e _=>?_,fun b xs e=>v5 b _ (fun z=>by rw[z,hP]at e;cases e) e,fun b o u e=>v5 b _ (fun z=>by rw[z,hP]at e;cases e) e,fun b qs e=>?_⟩
   ·rw[v4 b (neP b n) (i8 (q8 (d9 e) hge)) (i8 (q8 (d9 e) hsz))]
    exact n
   ·by_cases hb:b=P
    ·rw[hb];exact⟨_,hPn⟩
    ·exact⟨o,k1 b o hb e⟩
   ·by_cases hb:b=P
    ·rw[hb,hP]at e
     cases e
     rw[hb]
     exact⟨#[X7 pos.line,X7 pos.col,.ref c'],by rw[v3,<- hps]⟩
    ·exact⟨#[],by rw[v5 b _ hb e];simp⟩
  have hok:HOk X.prog X.w H1 (h'.push ob):=by
   intro b u e
   by_cases hb1:b=h'.objs.size
   ·subst hb1
    rw[v1]at e
    cases e
    exact⟨j3 _ hfr,⟨_,j3 _ hfr⟩,fun h1 h2 q z=>z _ q⟩
   ·by_cases hb2:b=c'
    ·subst hb2
     rw[v2]at e
     cases e
     obtain⟨c2,oc,vs,tq,e1,e2,e3,e4⟩:=hrec
     cases e1
     exact⟨⟨_,oc,vs,tq,rfl,a8 _ e2,e3,e4⟩,⟨oc,a8 _ e2⟩,fun h1 h2 ⟨c3,o3,vs3,t3,q1,q2,q3,q4⟩ z=>by cases q1;exact⟨_,o3,vs3,t3,rfl,z _ q2,q3,q4⟩⟩
    ·by_cases hb3:b=P
     ·subst hb3
      rw[v3]at e
      cases e
      exact hPn
     ·rw[v4 b hb3 hb2 hb1]at e
      refine(I.hok b u e).stay (fun d v hd z=>k1 d v ?_ z) (fun d z=>v5 _ _ ?_ z) fun d xs z=>v5 _ _ ?_ z
      ·rcases hd with hd | hd
       ·rw[hd];exact hb3
       ·intro zz;rw[zz,hP]at hd;cases hd
      ·intro zz;rw[zz,hP]at z;cases z
      ·intro zz;rw[zz,hP]at z;cases z
  have I1:Inv X pins σ H1 { s with heap:=h'.push ob,toks:=tk }:=I.un un hok
  refine⟨.ref h'.objs.size,H1,I1,rfl,q _ c' ctv H1 (fun b o n e=>v5 b o n e) ⟨ps',v3,?_,.inr ⟨c',?_,v2⟩⟩ hfn ?_ v2⟩
  ·rw[hps2];exact TriplesOk_snoc _ _ _ _ ht
  ·rw[hps2];exact bo7 ht hnf
  ·rw[hobj];exact v1
 ·refine PySem.W.kla_makeFunctionHit hcl I.ok.glob (I.mod.glob.keeps I.bk) hcode C hPh ht hf hb fun ctv h' tk hk hsz=>?_
  have hfn:H h'.objs.size=none:=I.hok.fresh hsz
  have hfr:(PySem.W.kla_obj "<lambda>" (X.env.qual++"<lambda>") params body scope cl ((X.mg "__name__").getD .none) c' ctv).isFreed=false:=rfl
  generalize hobj:PySem.W.kla_obj "<lambda>" (X.env.qual++"<lambda>") params body scope cl ((X.mg "__name__").getD .none) c' ctv=ob at *
  have I1:Inv X pins σ (upd H h'.objs.size (bp0 h'.objs.size ob)) { s with heap:=h'.push ob,toks:=tk }:=I.laid (fun b o e=>a8 _ (hk b o e)) hsz ⟨j3 _ hfr,⟨_,j3 _ hfr⟩,fun h1 h2 q z=>z _ q⟩
  have sm:o7 H (upd H h'.objs.size (bp0 h'.objs.size ob)):=fun b o e=>by rw[m9 (u0 e hfn)];exact e
  refine⟨.ref h'.objs.size,_,by rw[<- hobj]at I1;rw[<- hobj];exact I1,rfl,q _ c' ctv _ (sm.grow P) (ak5.same ⟨ps,hP,ht,.inr ⟨c',hf,hc'⟩⟩ sm) hfn (by rw[hobj];exact b8) (sm _ _ hc')⟩
def ca1 (ta:TA):TE:=fun σ H Q=>ta σ H fun vs H1=>∃ n:Nat,vs=[.int n]/\n<=1000/\∀ r,H1 r=none->Q (.ref r) (upd H1 r (.rng 0 n))
theorem bF0 {a:Expr}{ta:TA}{p:Pos}(hg:Gl X "range")(hm:X.mg "range"=none)(ha:PA X [a] ta)(hs:B3 [a] X.env=[(false,eval a X.env)]:=by rfl):PE X (.Call (.Name "range" p) [a] [] pos) (ca1 ta):=by
 intro pins s σ H Q I h
 refine Call_ (Z6 I hg hm boot_range (PyProof.Rows.callWith_type1 (thn (ha pos pins s σ H _ I h) fun us s1 ⟨vs,H1,I1,r1,q1⟩=>?_) hs rfl))
 obtain⟨n,e,hn,q⟩:=q1
 subst e
 cases r1 with
 | cons r rr =>
  cases rr
  obtain⟨t,rfl⟩:=r
  refine call_range_1 ?_
  have hf:H1 s1.heap.objs.size=none:=I1.hok.fresh (c6 _)
  exact⟨.ref s1.heap.objs.size,upd H1 s1.heap.objs.size (.rng 0 n),I1.laid (fun b o e=>a8 _ e) (c6 _) ⟨_,_,_,j3 _ rfl⟩,rfl,q _ hf⟩
theorem F3.there {o:HO}(x:F3 P w H h a o):∃ ob,h.get? a=some ob:=by
 cases o with
 | lst xs=>obtain⟨_,_,_,_,e⟩:=x;exact⟨_,e⟩
 | tup xs=>obtain⟨_,_,_,ob,e,_⟩:=x;exact⟨_,e⟩
 | dK kvs=>obtain⟨_,_,_,_,o,_,_,e,_⟩:=x;exact⟨_,e⟩
 | dT kvs=>obtain⟨_,_,_,_,o,_,_,e,_⟩:=x;exact⟨_,e⟩
 | set S n=>obtain⟨o,_,_,_,e,_⟩:=x;exact⟨_,e⟩
 | ins C dx fs=>obtain⟨_,_,_,e,_⟩:=x;exact⟨_,e⟩
 | own y=>obtain⟨ob,e⟩:=x;exact⟨ob,e⟩
 | xd fs=>obtain⟨_,⟨_,_,_,e,_⟩,_⟩:=x;exact⟨_,e⟩
 | rng lo hi=>obtain⟨_,_,_,e⟩:=x;exact⟨_,e⟩
 | frz ob u=>obtain⟨e,_⟩:=x;exact⟨_,e⟩
 | tbl ps=>exact⟨_,(show h.get? a=some _ from x)⟩
 | met f y=>exact⟨_,(show h.get? a=some _ from x)⟩
 | ext φ=>obtain⟨_,⟨ob,e⟩,_⟩:=x;exact⟨ob,e⟩
theorem HOk.stays (ok:HOk P w H h) (k:∀ b o,h.get? b=some o->H b≠none->h'.get? b=some o):HOk P w H h':=fun a o e =>
 (ok a o e).stay (fun b u hb q => k b u q (by
  rcases hb with z | z
  ·rw[z,e];simp
  ·rw[z];simp)) (fun _ q=>q) fun _ _ q=>q
def cg1 (outer:List Env)(x:Addr)(cls:Value)(h0:Heap)(H':Hp)(h':Heap):Prop:=
 ∃ (B:Heap) (a0:Value),Heap.FlyingW B outer x cls a0 h'/\∀ b o,h'.get? b=some o->(H' b≠none\/h0.get? b≠none)->b∉frs outer->B.get? b=some o
def CXE (P:Program)(w:World):CXT:=fun outer H s E e s' =>
 ∃ (x:Addr) (cls:Value) (H':Hp),e=.ref x/\s'.os=s.os/\am0 s'.gens/\Un (frs outer) [] H H' s.heap s'.heap/\HOk P w H' s'.heap/\s.heap.get? x=none/\H' x=none/\cg1 outer x cls s.heap H' s'.heap/\E cls none H'
theorem Un.onto {fs:List Addr}{h'':Heap}(u:Un fs [] H H' h h')(stay:∀ b o,h'.get? b=some o->h.get? b≠none->b∉fs->h''.get? b=some o)
  (slots:∀ b o,h'.get? b=some o->h.get? b≠none->b∈fs->∃ sl,h''.get? b=some { o with slots:=sl }):Un fs [] H H' h h'' where
 keep:=fun b o e n hb hx=>stay b o (u.keep b o e n hb hx) (by rw[e];simp) hb
 slot:=fun b o e n hb hx=>by
  obtain⟨sl,e1⟩:=u.slot b o e n hb hx
  obtain⟨sl2,e2⟩:=slots b _ e1 (by rw[e];simp) hb
  exact⟨sl2,e2⟩
 free:=u.free
 there:=fun b o e hx=>by
  obtain⟨o',e1⟩:=u.there b o e hx
  by_cases hb:b∈fs
  ·obtain⟨sl,e2⟩:=slots b o' e1 (by rw[e];simp) hb
   exact⟨_,e2⟩
  ·exact⟨o',stay b o' e1 (by rw[e];simp) hb⟩
 tups:=u.tups
 frzs:=u.frzs
 tbls:=u.tbls
theorem G7 {α:Type}{o:Option α}(h:o≠none):∃ x,o=some x:=by
 cases o with
 | none=>exact absurd rfl h
 | some x=>exact⟨x,rfl⟩
theorem aB4 {env:Env}{L:Addr}(h:env.frame=some L):frs (env::outer)=L::frs outer:=by
 unfold frs
 rw[F8,h]
section
variable {K:W.Frag} {base:Heap} {cd:Value} {E:XK} {H1:Hp} {s1:Shared}
theorem bC3 {e:Addr}{cls:Value}{h2:Heap}(I:Inv (X2 (CXE P w) P w K mg base N qual scope f cd A outer s H E) pins σ H1 s1)(hx:Heap.MadeExcOf s1.heap h2 e cls vs)(hE:E cls none H1) :
  (X2 (CXE P w) P w K mg base N qual scope f cd A outer s H E).xe (.ref e) { s1 with heap:=h2 }:=by
 have hst:=I.stack
 have hfr:=I.ok.frames
 have hlt:=I.lt
 have hL:=I.free
 have hab:=I.ok.above
 have hbs:Un (frs outer) [] H H1 s.heap s1.heap:=I.base
 change s1.heap.FunFrames base (F4 qual scope s.heap.objs.size f cd::outer) at hst
 change (A.deeper (F4 qual scope s.heap.objs.size f cd)).frames=some (F4 qual scope s.heap.objs.size f cd::outer) at hfr
 change H1 s.heap.objs.size=none at hL
 have hff:frs (F4 qual scope s.heap.objs.size f cd::outer)=s.heap.objs.size::frs outer:=aB4 rfl
 have hin:∀ env∈(F4 qual scope s.heap.objs.size f cd::outer),∀ b,env.frame=some b->b∈frs (F4 qual scope s.heap.objs.size f cd::outer):=fun env he b hb=>ae4.mpr ⟨env,he,hb⟩
 have old:∀ b,(H1 b≠none\/s.heap.get? b≠none)->b∉frs outer->∃ o,s1.heap.get? b=some o/\b∉frs (F4 qual scope s.heap.objs.size f cd::outer):=fun b hb hno=>by
  have hne:b≠s.heap.objs.size:=by
   rcases hb with z | z
   ·intro q;rw[q]at z;exact z hL
   ·obtain⟨o,z⟩:=G7 z
    exact i8 (d9 z)
  have hex:∃ o,s1.heap.get? b=some o:=by
   rcases hb with z | z
   ·obtain⟨o,z⟩:=G7 z
    exact(I.hok b o z).there
   ·obtain⟨o,z⟩:=G7 z
    exact hbs.there b o z (by simp)
  obtain⟨o,ho⟩:=hex
  refine⟨o,ho,?_⟩
  rw[hff]
  intro hm
  rcases g9.mp hm with q | q
  ·exact hne q
  ·exact hno q
 have eNew:s.heap.get? e=none:=by
  cases q:s.heap.get? e with
  | none=>rfl
  | some o =>
   obtain⟨o',z⟩:=hbs.there e o q (by simp)
   rw[hx.new]at z
   cases z
 have eFree:H1 e=none:=by
  cases q:H1 e with
  | none=>rfl
  | some o =>
   obtain⟨o',z⟩:=(I.hok e o q).there
   rw[hx.new]at z
   cases z
 refine wpAny_leaves_madeW (base:=PySem.W.hideAll s1.heap (frs (F4 qual scope s.heap.objs.size f cd::outer))) hfr rfl (fun b o q=>PySem.W.of_hideAll _ q) (PySem.W.funFrames_hide hst hin) hx fun h' t x1 x2 x3 x4=>?_
 have stay:∀ b o,s1.heap.get? b=some o->(H1 b≠none\/s.heap.get? b≠none)->b∉frs outer->h'.get? b=some o:=fun b o ho hb hno=>by
  obtain⟨o',ho',hm⟩:=old b hb hno
  rw[ho]at ho'
  cases ho'
  exact x1.1 b o (PySem.W.hideAll_get _ ho hm)
 have frNone:∀ b∈frs outer,H1 b=none:=fun b hb=>I.stkFree b (by
  show b∈frs (F4 qual scope s.heap.objs.size f cd::outer)
  rw[hff]
  exact d4 _ hb)
 refine⟨e,cls,H1,rfl,I.os,I.bare,hbs.onto (fun b o ho hh hno=>stay b o ho (.inr hh) hno) (fun b o ho hh hm=>?_),I.hok.stays fun b o ho hh=>stay b o ho (.inl hh) fun hm=>hh (frNone b hm),eNew,eFree,⟨_,_,x1,fun b o ho hb hno=>?_⟩,hE⟩
 ·obtain⟨_,o',ho',hd⟩:=hst.mem (b:=b) (by
   show b∈frs (F4 qual scope s.heap.objs.size f cd::outer)
   rw[hff]
   exact d4 _ hm)
  rw[ho]at ho'
  cases ho'
  exact x4 b o (hx.keeps b o ho) hd
 ·obtain⟨o',ho',hm⟩:=old b hb hno
  have:=stay b o' ho' hb hno
  rw[ho]at this
  cases this
  exact PySem.W.hideAll_get _ ho' hm
theorem Y5:as9 (CXE P w) (X2 (CXE P w) P w K mg base N qual scope f cd A outer s H E) E:=by
 intro pins σ H1 s1 e s2 I hc
 obtain⟨x,cls,H2,rfl,hos,hb2,u,hok,new,hxn,⟨B,a0,fl,st⟩,hE⟩:=hc
 have hst:=I.stack
 have hfr:=I.ok.frames
 have hL:=I.free
 have hbs:Un (frs outer) [] H H1 s.heap s1.heap:=I.base
 change s1.heap.FunFrames base (F4 qual scope s.heap.objs.size f cd::outer) at hst
 change (A.deeper (F4 qual scope s.heap.objs.size f cd)).frames=some (F4 qual scope s.heap.objs.size f cd::outer) at hfr
 change H1 s.heap.objs.size=none at hL
 change Un (frs (F4 qual scope s.heap.objs.size f cd::outer)) [] H1 H2 s1.heap s2.heap at u
 change Heap.FlyingW B (F4 qual scope s.heap.objs.size f cd::outer) x cls a0 s2.heap at fl
 have hff:frs (F4 qual scope s.heap.objs.size f cd::outer)=s.heap.objs.size::frs outer:=aB4 rfl
 have st':∀ b o,s2.heap.get? b=some o->(H2 b≠none\/s1.heap.get? b≠none)->b∉frs (F4 qual scope s.heap.objs.size f cd::outer)->B.get? b=some o:=st
 rw[hff]at u st'
 have hLo:∃ o,s1.heap.get? s.heap.objs.size=some o:=by
  obtain⟨m,⟨o,_,_,ho,_⟩,_⟩:=I.loc
  exact⟨o,ho⟩
 have hL2:H2 s.heap.objs.size=none:=by
  obtain⟨o,ho⟩:=hLo
  exact u.free _ o ho hL (by simp)
 have old:∀ b,(H2 b≠none\/s.heap.get? b≠none)->b∉frs outer->∃ o,s2.heap.get? b=some o/\B.get? b=some o:=fun b hb hno=>by
  have hne:b≠s.heap.objs.size:=by
   rcases hb with z | z
   ·intro q;rw[q]at z;exact z hL2
   ·obtain⟨o,z⟩:=G7 z
    exact i8 (d9 z)
  have hm:b∉s.heap.objs.size::frs outer:=fun hm=>by
   rcases g9.mp hm with q | q
   ·exact hne q
   ·exact hno q
  rcases hb with z | z
  ·obtain⟨o,z'⟩:=G7 z
   obtain⟨o',ho⟩:=(hok b o z').there
   exact⟨o',ho,st' b o' ho (.inl z) hm⟩
  ·obtain⟨o,z⟩:=G7 z
   obtain⟨o1,h1⟩:=hbs.there b o z (by simp)
   obtain⟨o2,h2⟩:=u.there b o1 h1 (by simp)
   exact⟨o2,h2,st' b o2 h2 (.inr (by rw[h1];simp)) hm⟩
 have u2:Un (frs outer) [] H H2 s.heap s2.heap:=by
  refine⟨fun b o e n hb hx=>?_,fun b o e n hb hx=>?_,fun b o e n hx=>?_,fun b o e hx=>?_,fun b xs e=>u.tups b xs (hbs.tups b xs e),fun b o v e=>u.frzs b o v (hbs.frzs b o v e),fun b ps e=>?_⟩
  ·refine u.keep b o (hbs.keep b o e n hb hx) (hbs.free b o e n hx) (fun hm=>?_) hx
   rcases g9.mp hm with q | q
   ·exact i8 (d9 e) q
   ·exact hb q
  ·obtain⟨sl,e1⟩:=hbs.slot b o e n hb hx
   obtain⟨sl2,e2⟩:=u.slot b _ e1 (hbs.free b o e n hx) (d4 _ hb) hx
   exact⟨sl2,e2⟩
  ·obtain⟨o',e1⟩:=hbs.there b o e hx
   exact u.free b o' e1 (hbs.free b o e n hx) hx
  ·obtain⟨o',e1⟩:=hbs.there b o e hx
   exact u.there b o' e1 hx
  ·obtain⟨m1,e1⟩:=hbs.tbls b ps e
   obtain⟨m2,e2⟩:=u.tbls b _ e1
   exact⟨m1++m2,by rw[e2,ay1]⟩
 have frNone:∀ b∈frs outer,H2 b=none:=fun b hb=>by
  have h1:=I.stkFree b (by
   show b∈frs (F4 qual scope s.heap.objs.size f cd::outer)
   rw[hff]
   exact d4 _ hb)
  obtain⟨_,o,ho,_⟩:=hst.mem (b:=b) (by
   show b∈frs (F4 qual scope s.heap.objs.size f cd::outer)
   rw[hff]
   exact d4 _ hb)
  exact u.free b o ho h1 (by simp)
 refine wpAny_leaves_onW hfr rfl fl fun h' x1 x2=>?_
 have stay:∀ b o,s2.heap.get? b=some o->(H2 b≠none\/s.heap.get? b≠none)->b∉frs outer->h'.get? b=some o:=fun b o ho hb hno=>by
  obtain⟨o',ho',hB⟩:=old b hb hno
  rw[ho]at ho'
  cases ho'
  exact x1.1 b o hB
 refine⟨x,cls,H2,rfl,hos.trans I.os,hb2,u2.onto (fun b o ho hh hno=>stay b o ho (.inr hh) hno) (fun b o ho hh hm=>?_),hok.stays fun b o ho hh=>stay b o ho (.inl hh) fun hm=>hh (frNone b hm),?_,hxn,⟨B,a0,x1,fun b o ho hb hno=>?_⟩,hE⟩
 ·obtain⟨_,o',ho',hd⟩:=fl.2.2.1.mem (b:=b) (by
   show b∈frs (F4 qual scope s.heap.objs.size f cd::outer)
   rw[hff]
   exact d4 _ hm)
  rw[ho]at ho'
  cases ho'
  exact x2 b o ho hd
 ·cases q:s.heap.get? x with
  | none=>rfl
  | some o =>
   obtain⟨o',z⟩:=hbs.there x o q (by simp)
   rw[new]at z
   cases z
 ·obtain⟨o',ho',hB⟩:=old b hb hno
  have:=stay b o' ho' hb hno
  rw[ho]at this
  cases this
  exact hB
end
theorem Fun.okX {K:W.Frag} {base:Heap} {st:Stmt} {k:Nat} {sp:Sp} (F:Fun K x qual st f fd) (S:v7 N ps (d8 st))
  (hbody : ∀ (cdv : Value) (A : Around) (outer : List Env) (s : Shared) (H : Hp) (vs : List V) (Q : VK) (E : XK), X4 k (A.deeper (F4 qual (d8 st) s.heap.objs.size f cdv)) -> sp vs H Q E ->
   ∃ t,PSs (X2 (CXE P w) P w K mg base N qual (d8 st) f cdv A outer s H E) (t9 st) t/\t { nx:=fun _ H'=>Q .non H',rt:=Q } (start N vs) H) (len:∀ vs H Q E,sp vs H Q E->vs.length=ps.length:=by intro _ _ _ _ h;repeat first | (obtain⟨rfl,_⟩:=h;rfl) | obtain⟨_,h⟩:=h):o4 P w K mg base (CXE P w) (k+1) f fd ps sp:=by
 obtain⟨oc,od,kV,doc,pm,an,cdv,ct,osl,rfl,lk,hcd⟩:=F.ex
 exact bx3 lk hcd S len fun A outer s H vs Q E hr hsp=>hbody cdv A outer s H vs Q E hr hsp
theorem bt1 {K:W.Frag}{base:Heap}{cd:Value}{E:XK} :
  PassesOwn (p0 P w) (X2 (CXE P w) P w K mg base N qual scope f cd A outer s H E).A (X2 (CXE P w) P w K mg base N qual scope f cd A outer s H E).env (X2 (CXE P w) P w K mg base N qual scope f cd A outer s H E).xe:=PassesOwn.leaving
structure S8 (K:W.Frag) (C:Addr):Prop where
 q:PySem.W.excIn K C [.type "ValueError",.type "Exception",.type "BaseException",.type "object"] "ValueError.__new__"=true
abbrev bmV:List Value:=[.type "ValueError",.type "Exception",.type "BaseException",.type "object"]
theorem bV8 {K:W.Frag}(KI:K.In h)(c:S8 K C):∃ bm N nm q bs hd sn sub ab col dd k0 k1 k2 k3 k5 mN,h.get? C=some (excClassObj nm q C N bs bm hd sn sub ab col dd k0 k1 k2 k3 k5 "ValueError.__new__") /\
  h.Ns N mN/\mN "__init__"=none/\OwnTail h bmV bm:=by
 have z:=c.q
 revert z
 unfold PySem.W.excIn
 split
 ·rename_i d1 c1 s1 hl
  split
  ·rename_i D bm y0 y1 y2 y3 nn y5 e1 e2
   intro z
   rw[B0,B0,B0,B0,B0]at z
   obtain⟨⟨⟨⟨⟨z1,z2⟩,z3⟩,z4⟩,z5⟩,z6⟩:=z
   have z1':D=C:=beq_iff_eq.mp z1
   have z2':nn="ValueError.__new__":=beq_iff_eq.mp z2
   have z6':=beq_iff_eq.mp z6
   subst z1' z2'
   obtain⟨w1,w2,w3,w4,w5,w6,w7,w8,w9,w10,w11⟩:=c1
   dsimp only at e1 z3 z5 z6'
   subst e1
   have z3':w11=false:=by simpa using z3
   subst z3'
   have e3:s1=#[y0,y1,y2,y3,some (.builtin "ValueError.__new__"),y5]:=by
    obtain⟨l1⟩:=s1
    exact congrArg Array.mk e2
   subst e3
   exact⟨bm,w4,w1,w5,w2,w6,w7,w8,w9,w10,d1,y0,y1,y2,y3,y5,_,KI _ _ hl,.of_isNs (PySem.W.isNs_of_in KI z5),PySem.W.nsMap_none_of_in KI z5 z6',PySem.W.tail_of_in KI z4⟩
  ·intro z;cases z
 ·intro z;cases z
section
variable {K:W.Frag} {base:Heap} {cd:Value} {E:XK}
def bP3 (E:XK)(C:Addr):TS:=fun _ _ H=>E (.ref C) none H
theorem T7 {txt:Str}{np cp ep:Pos}(hg:Gl (X2 (CXE P w) P w K mg base N qual scope f cd A outer s H E) x)(hm:mg x=some (.ref C))(c:S8 K C)(hd:(x == ("__debug__":Str))=false:=by decide) :
  PS (X2 (CXE P w) P w K mg base N qual scope f cd A outer s H E) (.Raise (some (.Call (.Name x np) [.Constant (.str txt) j cp] [] ep)) none pos) (bP3 E C):=by
 intro pins s1 σ H1 D I hE
 have hh:(X2 (CXE P w) P w K mg base N qual scope f cd A outer s H E).A.handled=none:=I.ok.hd rfl
 obtain⟨bm,N',nm,q,bs,hdc,sn,sub,ab,col,dd,k0,k1,k2,k3,k5,mN,hC,hN,hni,T⟩:=bV8 I.kIn c
 refine wpAny_Raise_call_subT (C:=C) (nm:=nm) (q:=q) (N:=N') (bs:=bs) (bm:=bm) (hdct:=hdc) (sn:=sn) (sub:=sub) (ab:=ab) (col:=col) (dd:=dd) (k0:=k0) (k1:=k1) (k2:=k2) (k3:=k3) (k5:=k5)
  PySem.F.excBase_ValueError (mN:=mN) (T.hasType (by decide +kernel)) hh rfl hni (ao3 I hg hm ⟨rfl,?_⟩ hd)
 refine Calls.evalArgs_plain ?_
 refine PyProof.Rows.spliced_more (Calls.Constant_str ?_)
 refine PyProof.Rows.spliced_none ⟨rfl,by show 1<=c5;decide,hC,hN,T,fun h' e hx=>?_⟩
 exact bC3 (I.tok _) hx hE
end
def be1 (X:Cx)(pins:List (Addr × Obj))(E:St->XK):Cx:={ X with pn:=X.pn++pins,xe:=fun e s'=>∃ σ H s,Inv X pins σ H s/\CXE X.prog X.w X.stack H s (E σ) e s' }
def bV5 (X:Cx)(v:Value):Cx:={ X with A:=X.A.mark (some v),calm:=false,xe:=fun _ _=>False }
section
variable {pins':List (Addr × Obj)} {E:St->XK}
theorem Inv.toTry (I:Inv X pins σ H s):Inv (be1 X pins E) [] σ H s:=
  ⟨⟨I.ok.mod, I.ok.kind, I.ok.glob, I.ok.blt, I.ok.above, I.ok.inj, I.ok.has, I.ok.cab, I.ok.hd, I.ok.frames, I.ok.stk, I.ok.exf, I.ok.bs, I.ok.bsz, I.ok.noex, I.ok.exfs, I.ok.funs, I.ok.frf⟩,
    I.os,I.bare,I.base,I.loc,I.cell,I.free,I.freeC,fun p hp=>I.pin p (by
      rcases l9.mp hp with z | z
      · exact z
      · cases z),I.hok,I.len⟩
theorem Inv.ofTry (I:Inv (be1 X pins E) pins' σ H s):Inv X pins σ H s:=
  ⟨⟨I.ok.mod, I.ok.kind, I.ok.glob, I.ok.blt, I.ok.above, I.ok.inj, I.ok.has, I.ok.cab, I.ok.hd, I.ok.frames, I.ok.stk, I.ok.exf, I.ok.bs, I.ok.bsz, I.ok.noex, I.ok.exfs, I.ok.funs, I.ok.frf⟩,
    I.os,I.bare,I.base,I.loc,I.cell,I.free,I.freeC,fun p hp=>I.pin p (at6 _ hp),I.hok,I.len⟩
theorem Inv.toHd (I:Inv X pins σ H s) (v:Value):Inv (bV5 X v) pins σ H s:=
  ⟨⟨I.ok.mod, I.ok.kind, I.ok.glob, I.ok.blt, I.ok.above, I.ok.inj, I.ok.has, I.ok.cab, (fun z => by cases z), I.ok.frames, I.ok.stk, I.ok.exf, I.ok.bs, I.ok.bsz, I.ok.noex, I.ok.exfs, I.ok.funs, I.ok.frf⟩,
    I.os,I.bare,I.base,I.loc,I.cell,I.free,I.freeC,I.pin,I.hok,I.len⟩
theorem Inv.ofHd (I:Inv (bV5 X v) pins σ H s) (hd:X.calm=true->X.A.handled=none):Inv X pins σ H s:=
  ⟨⟨I.ok.mod, I.ok.kind, I.ok.glob, I.ok.blt, I.ok.above, I.ok.inj, I.ok.has, I.ok.cab, hd, I.ok.frames, I.ok.stk, I.ok.exf, I.ok.bs, I.ok.bsz, I.ok.noex, I.ok.exfs, I.ok.funs, I.ok.frf⟩,
    I.os,I.bare,I.base,I.loc,I.cell,I.free,I.freeC,I.pin,I.hok,I.len⟩
end
def bi8 (CX:CXT)(X:Cx)(E:St->XK):Prop:=∀ (pins:List (Addr × Obj)) (σ:St) (H:Hp) (s:Shared) (e:Value) (s':Shared),Inv X pins σ H s->CX X.stack H s (E σ) e s'->X.xe e s'
theorem bF2 {E:St->XK}:bi8 (CXE X.prog X.w) (be1 X pins E) E:=fun _ σ H s _ _ I h=>⟨σ,H,s,I.ofTry,h⟩
def bP6 (sp:Sp)(E:St->XK)(t:TA):TE:=fun σ H Q=>t σ H fun vs H1=>sp (vs++[]) H1 Q (E σ)
section
variable {CX:CXT} {k:Nat} {sp:Sp} {E:St->XK} {p:Pos} {es:List Expr} {t:TA}
theorem bt8 (F:o4 X.prog X.w X.K X.mg X.base CX k f fd ps sp)(hr:X4 k X.A)(hg:Gl X x)(hm:X.mg x=some (.ref f))(hk:i4 X.K (.ref f)=true)(hb:Binds X.K fd ps [])(hx:bi8 CX X E)
  (ha:PA X (e::es) t)(hdb:(x == ("__debug__":Str))=false:=by decide)(he:B3 (e::es) X.env=(false,eval e X.env)::B3 es X.env:=by rfl)(hpl:(Z0 pos (B3 es X.env)).any (·.1)=false:=by rfl) :
  PE X (.Call (.Name x p) (e::es) [] pos) (bP6 sp E t):=by
 intro pins s σ H Q I h
 refine P7 (ao3 I hg hm ?_ hdb)
 refine PySem.W.callWith_K (h₀:=X.base) I.ok.mod.kin hk (thn (ha pos pins s σ H _ I h) fun us s1 ⟨vs,H1,I1,r,q⟩=>⟨I1.kIn,?_⟩) he hpl
 have r2:B9 (vs++[]) (us++[]):=r.append .nil
 have hl:(us++[]).length=ps.length:=by rw[<- r2.length];exact F.len _ _ _ _ q
 refine bA1 (Z1 (F.run X.A X.stack s1 H1 ⟨us,[]⟩ (us++[]) (vs++[]) Q (E σ) hr I1.env0 (hb s1 us I1.kIn hl) r2 q) fun r s' hq=>?_)
 cases r with
 | error e=>exact hx pins σ H1 s1 e s' I1 hq
 | ok fl =>
  cases fl with
  | ret u=>exact I1.after hq
  | next=>exact False.elim hq
  | brk=>exact False.elim hq
  | cont=>exact False.elim hq
end
end L2
set_option maxRecDepth 100000
namespace L2
open PySem PySem.Spec PyProof.Rows PySem.W
structure cj1 (K:W.Frag) (C:Addr):Prop where
 ga:findIn K (.ref C) "__getattribute__"=some (some (.builtin "BaseException.__getattribute__"))
 na:findIn K (.ref C) "__getattr__"=some none
 cl:findIn K (.ref C) "__class__"=some (some (.builtin "object.__class__"))
 sb:subIn K (.ref C) (.type "BaseException")=some true
 so:subIn K (.ref C) (.type "object")=some true
 cs:(clsIn K C).isSome=true
section
variable {g:Array bB2} {d:Drawn} {t:Nat} {os:OsState} {o:Obj} {K:W.Frag}
end
end L2
namespace L2
open PySem PySem.Spec PyProof.Rows
theorem Fun.okXC {K:W.Frag} {base:Heap} {st:Stmt} {c:Addr} {k:Nat} {sp:Sp} (F:Fun K x qual st f fd) (hc:fd.code=.ref c) (S:v7 N ps (d8 st))
  (hbody : ∀ (A : Around) (outer : List Env) (s : Shared) (H : Hp) (vs : List V) (Q : VK) (E : XK), X4 k (A.deeper (F4 qual (d8 st) s.heap.objs.size f (.ref c))) -> sp vs H Q E ->
   ∃ t,PSs (X2 (CXE P w) P w K mg base N qual (d8 st) f (.ref c) A outer s H E) (t9 st) t/\t { nx:=fun _ H'=>Q .non H',rt:=Q } (start N vs) H) (len:∀ vs H Q E,sp vs H Q E->vs.length=ps.length:=by intro _ _ _ _ h;repeat first | (obtain⟨rfl,_⟩:=h;rfl) | obtain⟨_,h⟩:=h):o4 P w K mg base (CXE P w) (k+1) f fd ps sp:=by
 obtain⟨oc,od,kV,doc,pm,an,cdv,ct,osl,rfl,lk,hcd⟩:=F.ex
 have hc':cdv=.ref c:=hc
 subst hc'
 exact bx3 lk hcd S len fun A outer s H vs Q E hr hsp=>hbody A outer s H vs Q E hr hsp
theorem bq4 {K:W.Frag}{c P:Addr}{oc:Value}{od:Option Addr}{sl:Array (Option Value)}(ht:PySem.W.tabIn K x=some (c,P))(hn:f6 K d7 x=some (some (.ref f)))(hl:K.lookup f=some ⟨oc,od,.func fd,sl⟩):fd.code=.ref c:=by
 unfold PySem.W.tabIn at ht
 rw[hn]at ht
 dsimp only at ht
 rw[hl]at ht
 dsimp only at ht
 split at ht
 ·rename_i c₂ hc
  split at ht
  ·split at ht
   ·cases ht;exact hc
   ·cases ht
  ·cases ht
 ·cases ht
theorem bm4 {K:W.Frag}{mb:Str->Option Value}{CX:CXT}{k:Nat}{fa:Addr}{sp:Sp}{s₁:Shared}{ts:List (Addr × Addr)}(hT:PySem.W.TabsAt ts s₁.heap)(hK0:PySem.W.noTabs K=true)
  (hbm:∃ bm ob,mg "__builtins__"=some (.ref bm)/\bm≠aQ1/\s₁.heap.get? bm=some ob/\ob.cls=.type "module"/\ob.dict=some aQ1/\ob.data=.plain)
  (KX:K.In s₁.heap)(hns:s₁.heap.Ns d7 mg)(hb:s₁.heap.Ns aQ1 mb)(hbb:∀ x:Str,x≠"__name__"->mb x=O4 x)(hlim:s₁.heap.NoLimit)(hg:s₁.gens=#[])
  (ha:s₁.heap.get? a=some { cls:=.type "list",data:=.seq vs.toArray })(hi:J5 vs ns)(hl:ns.length<=c5)(hr:X4 k bj6)
  (F:∀ base:Heap,K.In base->base.Ns d7 mg->(∀ q∈ts,aC6 base mg q.1 q.2)->o4 P w K mg base CX k fa fd [x] sp)(hbind:∀ (s:Shared) (u:Value),bj4 s fd ⟨[u],[]⟩ [(x,u)])
  (hsp:∀ H:Hp,(∀ q∈ts,H q.2=some (.tbl #[]))->SqL K H a (ns.map V.int)->sp [.ref a] H (fun v _=>v=.bl true) fun _ _ _=>False)
  (hCX:∀ H e s',CX [] H s₁ (fun _ _ _=>False) e s'->False) :
  aD8 (p0 P w) bj6 (.call (.ref fa) ⟨[.ref a],[]⟩) (fun r s'=>r=.ok (.ret (.bool true))/\OldK s₁.heap s'.heap/\s'.os=s₁.os/\am0 s'.gens) s₁:=by
 have rv:=ai0 hi
 have lenV:=hi.length
 have tabO:∀ b,b∈ts.map (·.2)->s₁.heap.get? b=some (PySem.W.tabObj #[]):=fun b hb=>by
  obtain⟨q,hq,rfl⟩:=m6.mp hb
  exact(hT q hq).2
 have aT:a∉ts.map (·.2):=fun z=>by
  have e:=tabO a z
  rw[ha]at e
  cases e
 have core:∀ H:Hp,(∀ b,b∈ts.map (·.2)->H b=some (.tbl #[]))->(∀ b,b∉ts.map (·.2)->H b=none\/∃ o xs,H b=some (.frz o (.lst xs)))->SqL K H a (ns.map V.int)->HOk P w H s₁.heap->(∀ b,H b≠none->b=a\/b∈ts.map (·.2))->(H a≠none->K.lookup a=none) ->
   aD8 (p0 P w) bj6 (.call (.ref fa) ⟨[.ref a],[]⟩) (fun r s'=>r=.ok (.ret (.bool true))/\OldK s₁.heap s'.heap/\s'.os=s₁.os/\am0 s'.gens) s₁:=by
  intro H hHt hO hS hok hA hK
  have base_of:∀ {b:Addr} {o:Obj},s₁.heap.get? b=some o->H b=none->(aF0 s₁.heap H).get? b=some o:=fun e n=>bw8 e n
  have free_of:∀ {b:Addr} {o:Obj},s₁.heap.get? b=some o->(∀ xs n,o≠{ cls:=.type "list",data:=.seq xs n })->o≠PySem.W.tabObj #[]->H b=none:=fun {b o} e n1 n2=>by
   cases q:H b with
   | none=>rfl
   | some u =>
    rcases hA b (by rw[q];simp) with e' | e'
    ·subst e'
     rw[ha]at e;cases e
     exact absurd rfl (n1 _ _)
    ·rw[tabO b e']at e;cases e
     exact absurd rfl n2
  have noA:∀ {b:Addr} {o:Obj} {es:Array Z3} {ep:Nat},s₁.heap.get? b=some o->o.data=.dict es ep->H b=none:=fun {b o es ep} e d=>free_of e (fun xs n z=>by subst z;cases d) (fun z=>by subst z;cases d)
  have nsK:∀ {b:Addr} {m:Str->Option Value},s₁.heap.Ns b m->(aF0 s₁.heap H).Ns b m:=fun {b m} ⟨o,es,ep,e,d,r⟩=>⟨o,es,ep,base_of e (noA e d),d,r⟩
  have hKb:K.In (aF0 s₁.heap H):=fun b o e=>base_of (KX b o e) (by
   cases q:H b with
   | none=>rfl
   | some u =>
    rcases hA b (by rw[q];simp) with e' | e'
    ·subst e'
     rw[hK (by rw[q];simp)]at e;cases e
    ·have e1:=KX b o e
     rw[tabO b e']at e1
     cases e1
     have h2:=O3.mp hK0 _ (PySem.W.mem_of_lookupK e)
     exact absurd (show false=true from h2) g8)
  have hM:Mod K mg (aF0 s₁.heap H):=⟨hKb,nsK hns,⟨mb,nsK hb,hbb⟩,let ⟨mc,h1,h2⟩:=hlim;⟨mc,nsK h1,h2⟩⟩
  have hLB:∀ q∈ts,aC6 (aF0 s₁.heap H) mg q.1 q.2:=fun q hq=>by
   obtain⟨C,eP⟩:=hT q hq
   refine⟨?_,?_,?_⟩
   ·obtain⟨o,vs,file,tf,flags,tg,inF,text,tt,e1,r1,r2⟩:=C
    exact⟨o,vs,file,tf,flags,tg,inF,text,tt,base_of e1 (free_of e1 (fun xs n z=>by subst z;exact absurd (show Value.type "list"=Value.type "code" from r1) (by decide)) (fun z=>by subst z;cases r1)),r1,r2⟩
   ·obtain⟨bm,ob,b1,b2,b3,b4,b5,b6⟩:=hbm
    refine⟨bm,ob,b1,b2,fun z=>?_,fun z=>?_,base_of b3 (free_of b3 (fun xs n z=>by subst z;exact absurd (show Value.type "list"=Value.type "module" from b4) (by decide)) (fun z=>by subst z;cases b4)),b4,b5,b6⟩
    ·obtain⟨o,es,ep,e,d,_⟩:=hns
     rw[z,e]at b3;cases b3;rw[d]at b6;cases b6
    ·rw[z,eP]at b3;cases b3;cases b4
   ·intro z
    obtain⟨o,es,ep,e,d,_⟩:=hns
    rw[z,eP]at e;cases e;cases d
  have e0:bJ7 P w K mg (aF0 s₁.heap H) bj6 [] s₁ H:=⟨rfl,hM,fun b o e=>bH1 e,aq7 (bn4 _ _),trivial,fun b hb=>absurd (show b∈([]:List Addr) from hb) (by simp),hok,.of_eq hg⟩
  refine Z1 ((F _ hKb (nsK hns) hLB).run bj6 [] s₁ H ⟨[.ref a],[]⟩ [.ref a] [.ref a] _ _ hr e0 (hbind s₁ (.ref a)) (.cons rfl .nil) (hsp H (fun q hq=>hHt _ (List.mem_map_of_mem hq)) hS)) fun r s' h=>?_
  cases r with
  | error e=>exact(hCX H e s' h).elim
  | ok fl =>
   cases fl with
   | next=>exact False.elim h
   | brk=>exact False.elim h
   | cont=>exact False.elim h
   | ret u =>
    obtain⟨v,H',os,bare,un,hok',r',q⟩:=h
    have q':v=.bl true:=q
    subst q'
    obtain rfl:u=Value.bool true:=r'
    have keep:∀ b o,b∉ts.map (·.2)->s₁.heap.get? b=some o->s'.heap.get? b=some o:=fun b o hb e=>by
     rcases hO b hb with z | ⟨ob,xs,z⟩
     ·exact un.keep b o e z (by intro z;exact absurd (show b∈([]:List Addr) from z) (by simp)) (by simp)
     ·have z2:=un.frzs b ob _ z
      obtain⟨e1,_⟩:=hok b _ z
      obtain⟨e2,_⟩:=hok' b _ z2
      rw[e]at e1;cases e1
      exact e2
    have grown:∀ b o,b∈ts.map (·.2)->s₁.heap.get? b=some o->isCodeTable s₁.heap b/\o=PySem.W.tabObj #[]/\∃ ps,s'.heap.get? b=some (PySem.W.tabObj ps):=fun b o hb e=>by
     obtain⟨ps,hp⟩:=un.tbls b #[] (hHt b hb)
     have e2:=tabO b hb
     rw[e]at e2
     obtain⟨q,hq,eq⟩:=m6.mp hb
     have e3:s'.heap.get? b=some (PySem.W.tabObj (#[]++ps)):=hok' b _ hp
     refine⟨?_,Option.some.inj e2,_,e3⟩
     rw[<- eq]
     exact((hT q hq).1.tab (hT q hq).2).isCodeTable
    refine⟨rfl,⟨fun b o e=>?_,fun b o e=>?_⟩,os,bare⟩
    ·by_cases hb:b∈ts.map (·.2)
     ·obtain⟨ht,rfl,ps,hP⟩:=grown b o hb e
      exact .inr (.inl ⟨ht,rfl,#[],ps,rfl,by rw[Array.empty_append];exact hP⟩)
     ·exact .inl (keep b o hb e)
    ·by_cases hb:b∈ts.map (·.2)
     ·obtain⟨_,_,ps,hP⟩:=grown b o hb e
      exact⟨_,hP⟩
     ·exact⟨o,keep b o hb e⟩
 cases hk:K.lookup a with
 | some o =>
  have e:=KX a o hk
  rw[ha]at e
  cases e
  refine core (fun b=>if b∈ts.map (·.2) then some (.tbl #[]) else none) (fun b hb=>if_pos hb) (fun b hb=>.inl (if_neg hb)) (.inr ⟨_,vs.toArray,_,hk,rfl,rfl,rfl,by rw[d3,lenV];exact hl,by simpa using rv⟩) (fun b u z=>?_) (fun b z=>?_) fun z=>absurd (if_neg aT) z
  ·by_cases hb:b∈ts.map (·.2)
   ·have z':=(if_pos hb).symm.trans z
    cases z'
    exact tabO b hb
   ·have z':=(if_neg hb).symm.trans z
    cases z'
  ·by_cases hb:b∈ts.map (·.2)
   ·exact .inr hb
   ·exact absurd (if_neg hb) z
 | none =>
  have e1:∀ b,b∈ts.map (·.2)->(if b∈ts.map (·.2) then some (HO.tbl #[]) else if b=a then some (.frz { cls:=.type "list",data:=.seq vs.toArray } (.lst (ns.map V.int))) else none)=some (HO.tbl #[]):=fun b hb=>if_pos hb
  have e2:∀ b,b∉ts.map (·.2)->(if b∈ts.map (·.2) then some (HO.tbl #[]) else if b=a then some (.frz { cls:=.type "list",data:=.seq vs.toArray } (.lst (ns.map V.int))) else none)=(if b=a then some (.frz { cls:=.type "list",data:=.seq vs.toArray } (.lst (ns.map V.int))) else none):=fun b hb=>if_neg hb
  refine core (fun b=>if b∈ts.map (·.2) then some (HO.tbl #[]) else if b=a then some (.frz { cls:=.type "list",data:=.seq vs.toArray } (.lst (ns.map V.int))) else none) e1 (fun b hb=>?_) (.inl (.inr ⟨{ cls:=.type "list",data:=.seq vs.toArray },(e2 a aT).trans (if_pos rfl)⟩)) (fun b u z=>?_) (fun b z=>?_) fun _=>hk
  ·rw[e2 b hb]
   by_cases hba:b=a
   ·exact .inr ⟨_,_,if_pos hba⟩
   ·exact .inl (if_neg hba)
  ·by_cases hb:b∈ts.map (·.2)
   ·have z':=(e1 b hb).symm.trans z
    cases z'
    exact tabO b hb
   ·have z1:=(e2 b hb).symm.trans z
    by_cases hba:b=a
    ·have z':=(if_pos hba).symm.trans z1
     cases z'
     subst hba
     exact⟨ha,by rw[a9];exact hl,vs,_,rv,ha⟩
    ·have z':=(if_neg hba).symm.trans z1
     cases z'
  ·by_cases hb:b∈ts.map (·.2)
   ·exact .inr hb
   ·by_cases hba:b=a
    ·exact .inl hba
    ·exact absurd ((e2 b hb).trans (if_neg hba)) z
theorem walk_ofT {l:PySem.W.OpenLaw} {k:Nat} {q:Program} {loose:List Str} {d:DefRec} {K:Params->PySem.W.Frag} {CX:World->CXT} {sp:World->List (Addr × Addr)->Sp} {ts:World->List (Addr × Addr)}
  (hn:l.most=some n) (hn2:n<=c5) (hdf:d.params.defaults=[]) (hr:X4 k bj6)
  (hY:∀ (w:World) (h:Heap),YP w h->(K w.params).In h) (hK0:∀ w:World,PySem.W.noTabs (K w.params)=true)
  (hts:∀ (w:World) (loose:List Str) (mean:ExcName->Option Value) (mg mb:Str->Option Value) (h:Heap),Top q loose mean mg mb h->(K w.params).In h->PySem.W.TabsAt (ts w) h)
  (F : ∀ (w : World) (mg : Str -> Option Value) (fa : Addr) (h : Heap), (K w.params).In h -> h.Ns d7 mg -> mg d.name = some (.ref fa) ->
   ∃ fd:FuncData,(∀ (s:Shared) (u:Value),bj4 s fd ⟨[u],[]⟩ [(x,u)]) /\
    ∀ base:Heap,(K w.params).In base->base.Ns d7 mg->(∀ q∈ts w,aC6 base mg q.1 q.2)->o4 l.prog w (K w.params) mg base (CX w) k fa fd [x] (sp w (ts w)))
  (hsp:∀ (w:World) (H:Hp) (a:Addr) (ns:List Int),ns.length<=n->(∀ q∈ts w,H q.2=some (.tbl #[]))->SqL (K w.params) H a (ns.map V.int)->sp w (ts w) [.ref a] H (fun v _=>v=.bl true) fun _ _ _=>False)
  (hCX:∀ (w:World) (H:Hp) (s:Shared) (e:Value) (s':Shared),CX w [] H s (fun _ _ _=>False) e s'->False) :
  PySem.W.WalkO q loose XP YP l.row.toRowW d [] (fun f vs=>PySem.call f vs):=by
 refine Att.attach_call hn hdf fun w s₀ s₁ mg mb fa o pm cd doc a vs ns G Y ho hd hcd hmg hobj hints hlen hg=>?_
 have KX:=hY w _ Y
 obtain⟨fd,hb,hF⟩:=F w mg fa _ KX G.T.g hmg
 exact bm4 (hts w _ _ _ _ _ G.T KX) (hK0 w) G.T.bmain KX G.T.g G.T.b G.T.builtins G.T.nolimit hg hobj hints (n8 hlen hn2) hr hF hb (fun H hO hS=>hsp w H a ns hlen hO hS) fun H e s'=>hCX w H s₁ e s'
def bl7 (ns:List Int)(z:Int):List Int:=[-(ns.getD z.toNat 0),z]
theorem bF9 (ns:List Int)(z:Int):∃ i k,bl7 ns z=i::k:=⟨_,_,rfl⟩
def ole (ns:List Int)(x y:Int):Prop:=Tim.F2 (bl7 ns y) (bl7 ns x)=false
theorem Y7 {x y:Int}:ole ns x y↔(ns.getD y.toNat 0<ns.getD x.toNat 0\/(ns.getD x.toNat 0=ns.getD y.toNat 0/\x<=y)):=by
 unfold ole bl7 Tim.F2
 by_cases h:-(ns.getD y.toNat 0) = -(ns.getD x.toNat 0)
 ·rw[if_pos h]
  unfold Tim.F2
  by_cases h2:y=x
  ·rw[if_pos h2]
   simp only[Tim.F2,true_iff]
   exact .inr ⟨by omega,by omega⟩
  ·rw[if_neg h2,decide_eq_false_iff_not]
   constructor
   ·intro h3;exact .inr ⟨by omega,by omega⟩
   ·intro h3 h4;omega
 ·rw[if_neg h,decide_eq_false_iff_not]
  constructor
  ·intro h3;exact .inl (by omega)
  ·intro h3 h4;omega
theorem aT5 {x y:Int}(h1:ole ns x y)(h2:ole ns y x):x=y:=by
 rw[Y7]at h1 h2
 omega
theorem az9 {zs' l:List Int}(p1:zs.Perm l)(p2:zs'.Perm l)(s1:zs.Pairwise (ole ns))(s2:zs'.Pairwise (ole ns)):zs=zs':=
 (p1.trans p2.symm).eq_of_pairwise (fun x y _ _ h1 h2=>aT5 h1 h2) s1 s2
end L2
namespace Web
open PySem L2
def M3 (ks:List (List Int))(p:Nat):Nat:=ks.countP fun k=>decide ((p:Int)∈k)
def tal (n:Nat)(ks:List (List Int)):List Int:=(x6 n).map fun p=>(M3 ks p:Int)
theorem L9 (n:Nat)(ks:List (List Int)):(tal n ks).length=n:=by simp[tal]
theorem Q8 {p:Nat}(h:p<n):(tal n ks)[p]?=some (M3 ks p:Int):=by
 unfold tal
 rw[r6,R4 h]
 rfl
theorem bo3 (h:ks.Perm ls)(p:Nat):M3 ks p=M3 ls p:=h.countP_eq _
theorem bq3 (h:ks.Perm ls)(n:Nat):tal n ks=tal n ls:=by
 unfold tal
 exact R5 fun p _=>by rw[bo3 h]
theorem aB8 (ks ls:List (List Int))(p:Nat):M3 (ks++ls) p=M3 ks p+M3 ls p:=List.countP_append
theorem by5 (i j p:Nat):M3 [[(i:Int),(j:Int)]] p=if p=i\/p=j then 1 else 0:=by
 unfold M3
 rw[List.countP_singleton]
 by_cases h:p=i\/p=j
 ·rw[if_pos h,if_pos]
  simp only[decide_eq_true_eq,g9,K6,or_false]
  omega
 ·rw[if_neg h,if_neg]
  simp only[decide_eq_true_eq,g9,K6,or_false]
  omega
theorem bD2 (n:Nat):tal n []=o8 n 0:=by
 unfold tal M3
 rw[List.eq_replicate_iff]
 simp
theorem aK0 (hi:i<n)(hj:j<n)(h:i≠j)(ks:List (List Int))(z1 z2:Int)(e1:z1=M3 ks i)(e2:z2=M3 ks j) :
  ((tal n ks).set i (z1+1)).set j (z2+1)=tal n (ks++[[(i:Int),(j:Int)]]):=by
 subst e1 e2
 refine V7 fun p=>?_
 by_cases hp:p<n
 ·rw[Q8 hp,aB8,by5,V8,V8,A5,L9,Q8 hp]
  by_cases q1:j=p
  ·subst q1
   rw[if_pos rfl,if_pos hj,if_pos (.inr rfl)]
   simp
  ·rw[if_neg q1]
   by_cases q2:i=p
   ·subst q2
    rw[if_pos rfl,if_pos hi,if_pos (.inl rfl)]
    simp
   ·rw[if_neg q2,if_neg (by omega)]
    simp
 ·rw[o5 (by simp[L9];omega),o5 (by rw[L9];omega)]
end Web
namespace HT
open PySem PyProof.Rows
end HT
namespace L2
open PySem PySem.Spec PyProof.Rows
section
variable {st:Expr} {ts:TE} {p2:Pos}
def ch1 (t u:TS):TS:=fun D σ H=>∃ Mid:St->Hp->Prop,t { D with nx:=Mid } σ H/\∀ σ' H',Mid σ' H'->u D σ' H'
theorem ai3 {stm:Stmt}{rest:List Stmt}{t u:TS}(h1:PS X stm t)(h2:PSs X rest u):PSs X (stm::rest) (ch1 t u):=by
 intro pins s σ H D I ⟨Mid,h,k⟩
 refine aY4 (thn (h1 pins s σ H { D with nx:=Mid } I h) fun f s1 q=>?_)
 cases f with
 | next =>
  obtain⟨σ',H',I',q⟩:=q
  exact h2 pins s1 σ' H' D I' (k _ _ q)
 | ret v=>exact q
 | brk=>exact q
 | cont=>exact q
end
end L2
set_option Elab.async false
set_option maxRecDepth 100000
namespace L2
open PySem PySem.Spec PyProof.Rows
section
variable (P:Program) (w:World)
end
section
variable {o:HO}
end
section
variable {x e:Addr} {o':HO}
end
section
variable {fs fs' ex ex':List Addr} {H1 H2:Hp} {h1 h2:Heap} {x e:Addr} {o:HO}
end
section
variable {σ:List (Option V)}
end
section
variable {a b:Expr} {tb:TE}
variable {tA tB':TT} {rest:List Expr}
end
section
variable {st:Stmt} {rest:List Stmt} {t u:TS}
end
section
variable {a b c:Expr} {tb tc:TE}
end
section
variable {a b c:Expr} {tb tc:TE}
end
section
variable {K:W.Frag} {x dx:Addr} {name:Str}
end
section
variable {dx:Addr} {fs fs':List (Str × V)}
end
section
variable {dx:Addr} {fs:List (Str × V)} {f:Str} {v:V}
end
section
variable {value:Expr} {f:Str} {pos' tpos:Pos} {tv:TE}
end
section
variable {c:Value} {b:Bool}
end
section
variable {es:List Expr} {t:TA}
end
section
variable {s':Shared}
end
section
variable {CX:CXT} {k:Nat} {sp:Sp} {dvs:List V} {ds:List Value} {E:XK} {m:Str} {p apos:Pos} {es:List Expr} {t:TA}
end
section
variable {CX:CXT} {k:Nat} {ks:List Str} {sp:Sp} {E:XK} {m:Str} {p apos kpos:Pos} {es:List Expr} {kws:List aD9} {t tk:TA} {nm:Option Str}
variable {g:List Value->List Value->List Value}
end
section
variable {p:Pos} {es:List Expr} {t:TA} {id T:String} {r:List V->Hp->VK->Prop}
end
section
variable {κ:Type} [DecidableEq κ]
def M7 (kvs:List (κ × V))(k:κ):Option V:=(kvs.find? fun kv=>decide (kv.1=k)).map (·.2)
def putK (kvs:List (κ × V))(k:κ)(v:V):List (κ × V):=
 if (kvs.any fun kv=>decide (kv.1=k))=true then kvs.map (fun kv=>if kv.1=k then (kv.1,v) else kv) else kvs++[(k,v)]
theorem N4 {p:κ × V}{r:List (κ × V)}{k:κ}(e:p.1=k):M7 (p::r) k=some p.2:=by simp[M7,U3,e]
theorem N5 {p:κ × V}{r:List (κ × V)}{k:κ}(e:¬ p.1=k):M7 (p::r) k=M7 r k:=by simp[M7,U3,e]
theorem am2 (k:κ):∀ kvs:List (κ × V),(kvs.any fun kv=>decide (kv.1=k))=(M7 kvs k).isSome
 | []=>rfl
 | p::r=>by
  rw[U2]
  by_cases e:p.1=k
  ·simp only[N4 e,decide_eq_true e,Bool.true_or,Option.isSome_some]
  ·rw[N5 e,decide_eq_false e,aC7];exact am2 k r
theorem aQ8 (k j:κ)(y:V):∀ kvs:List (κ × V),M7 (kvs.map fun kv=>if kv.1=k then (kv.1,y) else kv) j=(M7 kvs j).map fun x=>if j=k then y else x
 | []=>rfl
 | p::r=>by
  have ih:=aQ8 k j y r
  rw[j9]
  by_cases h:p.1=k
  ·rw[if_pos h]
   by_cases e:p.1=j
   ·rw[N4 (p:=(p.1,y)) e,N4 e,al8,if_pos (e.symm.trans h)]
   ·rw[N5 (p:=(p.1,y)) e,N5 e,ih]
  ·rw[if_neg h]
   by_cases e:p.1=j
   ·rw[N4 (p:=p) e,N4 e,al8,if_neg (fun z=>h (e.trans z))]
   ·rw[N5 (p:=p) e,N5 e,ih]
theorem aF5 (k j:κ)(y:V):∀ kvs:List (κ × V),M7 kvs k=none->M7 (kvs++[(k,y)]) j=if j=k then some y else M7 kvs j
 | [],_=>by
  by_cases e:k=j
  ·rw[if_pos e.symm];exact N4 (p:=(k,y)) e
  ·rw[if_neg (fun z=>e z.symm)];exact N5 (p:=(k,y)) e
 | p::r,hn=>by
  rw[bY4]
  have hk:¬ p.1=k:=fun z=>by rw[N4 z]at hn;cases hn
  rw[N5 hk]at hn
  have ih:=aF5 k j y r hn
  by_cases e:p.1=j
  ·rw[N4 e,N4 e,if_neg (fun z=>hk (e.trans z))]
  ·rw[N5 e,N5 e,ih]
theorem af4 (kvs:List (κ × V))(k j:κ)(y:V):M7 (putK kvs k y) j=if j=k then some y else M7 kvs j:=by
 unfold putK
 by_cases a:(kvs.any fun kv=>decide (kv.1=k))=true
 ·rw[if_pos a,aQ8]
  rw[am2]at a
  by_cases e:j=k
  ·obtain⟨x,hx⟩:=u4.mp a
   rw[if_pos e,e,hx,al8,if_pos rfl]
  ·rw[if_neg e]
   cases M7 kvs j with
   | none=>rfl
   | some x=>rw[al8,if_neg e]
 ·rw[if_neg a]
  refine aF5 k j y kvs ?_
  rw[am2]at a
  cases q:M7 kvs k with
  | none=>rfl
  | some x=>rw[q]at a;exact(a rfl).elim
theorem ag7 (kvs:List (κ × V))(k:κ)(v:V):(putK kvs k v).length<=kvs.length+1:=by
 unfold putK
 split
 ·rw[a9];omega
 ·rw[j6,o9,aX1];omega
theorem aC5.isSome_eq {o:Option V}{u:Option Value}(r:aC5 o u):o.isSome=u.isSome:=by
 cases o with
 | none=>cases u with
  | none=>rfl
  | some _=>exact(show False from r).elim
 | some _=>cases u with
  | none=>exact(show False from r).elim
  | some _=>rfl
theorem KV.val {kvs:List (κ × V)}{vs:List (κ × Value)}(r:KV kvs vs)(k:κ):aC5 (M7 kvs k) (bk2 vs k):=by
 unfold KV at r
 induction r with
 | nil=>exact True.intro
 | @cons p q ps qs h t ih =>
  obtain⟨h1,h2⟩:=h
  by_cases e:p.1=k
  ·have e':q.1=k:=h1.symm.trans e
   have b:bk2 (q::qs) k=some q.2:=by simp[bk2,U3,e']
   rw[N4 e,b];exact h2
  ·have e':¬ q.1=k:=fun z=>e (h1.trans z)
   have b:bk2 (q::qs) k=bk2 qs k:=by simp[bk2,U3,e']
   rw[N5 e,b];exact ih
theorem KV.any {kvs:List (κ × V)}{vs:List (κ × Value)}(r:KV kvs vs)(k:κ):(kvs.any fun kv=>decide (kv.1=k))=vs.any fun kv=>decide (kv.1=k):=by
 unfold KV at r
 induction r with
 | nil=>rfl
 | cons h t ih=>rw[U2,U2,ih,h.1]
theorem KV.repl {kvs:List (κ × V)}{vs:List (κ × Value)}(r:KV kvs vs)(k:κ){y:V}(ry:RelV y u) :
  KV (kvs.map fun kv=>if kv.1=k then (kv.1,y) else kv) (vs.map fun kv=>if kv.1=k then (kv.1,u) else kv):=by
 unfold KV at r ⊢
 induction r with
 | nil=>exact .nil
 | @cons p q ps qs h t ih =>
  rw[j9,j9]
  refine .cons ?_ ih
  obtain⟨h1,h2⟩:=h
  by_cases e:p.1=k
  ·rw[if_pos e,if_pos (h1.symm.trans e)];exact⟨h1,ry⟩
  ·rw[if_neg e,if_neg (fun z=>e (h1.trans z))];exact⟨h1,h2⟩
theorem KV.put {kvs:List (κ × V)}{vs:List (κ × Value)}(r:KV kvs vs)(k:κ){y:V}(ry:RelV y u):KV (putK kvs k y) (stored vs k u):=by
 unfold putK stored
 rw[r.any k]
 by_cases e:(vs.any fun kv=>decide (kv.1=k))=true
 ·rw[if_pos e,if_pos e];exact r.repl k ry
 ·rw[if_neg e,if_neg e];exact Paired.snoc r ⟨rfl,ry⟩
theorem KV.length {kvs:List (κ × V)}{vs:List (κ × Value)}(r:KV kvs vs):kvs.length=vs.length:=Paired.length r
end
theorem bg2 {k:Key}(r:RelV (kV k) u):(N0 P w).is k u=true:=by
 cases k with
 | inl i=>obtain⟨t,e⟩:=(show ∃ t,u=Value.int i t from r);subst e;exact aU3 P w i t
 | inr x=>obtain⟨t,e⟩:=(show ∃ t,u=Value.str x t from r);subst e;exact aU2 P w x t
theorem aH3:∀ {ks:List Key} {us:List Value},B9 (ks.map kV) us->ItemsAre (N0 P w) ks us
 | [],_,r=>by rw[bz8]at r;cases r;exact .nil
 | k::ks,_,r=>by
  rw[j9]at r
  cases r with
  | cons h t=>exact .cons (bg2 h) (aH3 t)
abbrev KT (H:Hp):List (List Key × V)->List (List Key × Addr × Value)->Prop:=X6 fun p q=>p.1=q.1/\H q.2.1=some (.tup (p.1.map kV))/\RelV p.2 q.2.2
theorem KT.val {xs:List (List Key × Addr × Value)}(r:KT H kvs xs)(k:List Key):aC5 (M7 kvs k) ((bZ1 xs k).map (·.2)):=by
 induction r with
 | nil=>exact True.intro
 | @cons p q ps qs h t ih =>
  obtain⟨h1,_,h2⟩:=h
  by_cases e:p.1=k
  ·have e':q.1=k:=h1.symm.trans e
   have b:bZ1 (q::qs) k=some q.2:=by simp[bZ1,U3,e']
   rw[N4 e,b];exact h2
  ·have e':¬ q.1=k:=fun z=>e (h1.trans z)
   have b:bZ1 (q::qs) k=bZ1 qs k:=by simp[bZ1,U3,e']
   rw[N5 e,b];exact ih
theorem KT.repl {xs:List (List Key × Addr × Value)}(r:KT H kvs xs)(k:List Key){y:V}(ry:RelV y u) :
  KT H (kvs.map fun kv=>if kv.1=k then (kv.1,y) else kv) (xs.map (putAt k u)):=by
 induction r with
 | nil=>exact .nil
 | @cons p q ps qs h t ih =>
  rw[j9,j9]
  refine .cons ?_ ih
  obtain⟨h1,h2,h3⟩:=h
  unfold putAt
  by_cases e:p.1=k
  ·rw[if_pos e,if_pos (h1.symm.trans e)];exact⟨h1,h2,ry⟩
  ·rw[if_neg e,if_neg (fun z=>e (h1.trans z))];exact⟨h1,h2,h3⟩
theorem KT.put {xs:List (List Key × Addr × Value)}(r:KT H kvs xs)(k:List Key){b:Addr}{y:V}(hb:H b=some (.tup (k.map kV)))(ry:RelV y u) :
  KT H (putK kvs k y) (storedH xs k b u):=by
 have e:(kvs.any fun kv=>decide (kv.1=k))=(bZ1 xs k).isSome:=by
  rw[am2,(r.val k).isSome_eq,bK0]
 unfold putK storedH
 rw[e]
 by_cases q:(bZ1 xs k).isSome=true
 ·rw[if_pos q,if_pos q];exact r.repl k ry
 ·rw[if_neg q,if_neg q];exact Paired.snoc r ⟨rfl,hb,ry⟩
theorem KT.keeps {xs:List (List Key × Addr × Value)}(r:KT H kvs xs)(ht:∀ b ys,H b=some (.tup ys)->H' b=some (.tup ys)):KT H' kvs xs:=
 Paired.mapP r fun _ _ z=>⟨z.1,ht _ _ z.2.1,z.2.2⟩
theorem bL9 {u:HO}(ok:HOk P w H h)(e:Rd H a u):F3 P w H h a u:=e.ok ok
theorem bh6 {kvs:List (Key × V)}(ok:HOk P w H h)(e:Rd H a (.dK kvs)):kvs.length<=c5/\(a == Q6)=false/\∃ vs,KV kvs vs/\h.DictOf (N0 P w) a vs:=
 show F3 P w H h a (.dK kvs) from bL9 ok e
theorem cf4 {kvs:List (Key × V)}(ok:HOk P w H h)(e:H a=some (.dK kvs)):kvs.length<=c5/\(a == Q6)=false/\∃ vs,KV kvs vs/\h.DictOf (N0 P w) a vs:=bh6 ok (.inl e)
theorem aN8 {ks:List Key}(ok:HOk P w H h)(e:H a=some (.tup (ks.map kV))):(bj1 (N0 P w)).is h ks a:=by
 obtain⟨_,its,r,o,h1,h2,n,h3⟩:=(show F3 P w H h a (.tup (ks.map kV)) from ok a _ e)
 exact⟨o,its.toArray,n,h1,h2,h3,by simpa using aH3 r⟩
theorem bh5 (ok:HOk P w H h)(e:Rd H a (.dT kvs)):kvs.length<=c5/\(a == Q6)=false /\
  ∃ xs,KT H kvs xs/\h.DictOfH (bj1 (N0 P w)) a xs:=by
 obtain⟨z,y,xs,r,o,es,ep,h1,h2,h3,h4,h5⟩:=(show F3 P w H h a (.dT kvs) from bL9 ok e)
 refine⟨z,y,xs,r,o,es,ep,h1,h2,h3,h4,fun x hx=>?_,h5⟩
 have all:∀ {l:List (List Key × V)} {m:List (List Key × Addr × Value)},KT H l m->∀ x∈m,(bj1 (N0 P w)).is h x.1 x.2.1:=by
  intro l m q
  induction q with
  | nil=>intro x hx;exact nomatch hx
  | @cons p q ps qs hq t ih =>
   intro x hx
   rcases g9.mp hx with e | hx
   ·subst e
    exact aN8 ok (by rw[<- hq.1];exact hq.2.1)
   ·exact ih x hx
 exact all r x hx
theorem cf3 (ok:HOk P w H h)(e:H a=some (.dT kvs)):kvs.length<=c5/\(a == Q6)=false /\
  ∃ xs,KT H kvs xs/\h.DictOfH (bj1 (N0 P w)) a xs:=bh5 ok (.inl e)
def at4 (H:Hp)(a:Addr)(y:V)(r:Option V):Prop:=
 (∃ kvs k,Rd H a (.dK kvs)/\y=kV k/\r=M7 kvs k)\/∃ kvs k b,Rd H a (.dT kvs)/\y=.ref b/\H b=some (.tup (k.map kV))/\r=M7 kvs k
def bz7 (H:Hp)(a:Addr)(y v:V)(H':Hp):Prop:=
 (∃ kvs k,H a=some (.dK kvs)/\y=kV k/\kvs.length<c5/\H'=upd H a (.dK (putK kvs k v))) \/
 ∃ kvs k b,H a=some (.dT kvs)/\y=.ref b/\H b=some (.tup (k.map kV))/\kvs.length<c5/\H'=upd H a (.dT (putK kvs k v))
theorem at4.t {b:Addr}{k:List Key}(e:H a=some (.dT kvs))(eb:H b=some (.tup (k.map kV))):at4 H a (.ref b) (M7 kvs k):=.inr ⟨kvs,k,b,.inl e,rfl,eb,rfl⟩
theorem bz7.t {b:Addr}{k:List Key}{v:V}(e:H a=some (.dT kvs))(eb:H b=some (.tup (k.map kV)))(hl:kvs.length<c5) :
  bz7 H a (.ref b) v (upd H a (.dT (putK kvs k v))):=.inr ⟨kvs,k,b,e,rfl,eb,hl,rfl⟩
section
variable {y v:V} {r:Value} {o:Option V}
theorem Inv.big (I:Inv X pins σ H s):Q6<s.heap.objs.size:=by
 have h:d7<s.heap.objs.size:=(I.mod.glob.keeps I.bk).lt
 exact bA6 (by decide) h
theorem bn8 (hu:A.units+1<aa1)(I:Inv X pins σ H s)(g:at4 H a y (some v))(ry:RelV y u)(h:∀ w' s',Inv X pins σ H s'->RelV v w'->Q w' s') :
  m5 (p0 X.prog X.w) A (aa0 (.ref a) u) Q E s:=by
 rcases g with⟨kvs,k,e,ey,l⟩ | ⟨kvs,k,b,e,ey,eb,l⟩
 ·subst ey
  obtain⟨z,hd,vs,rel,dd⟩:=bh6 I.hok e
  obtain⟨w',hw,rw'⟩:=aC5.some_of (v:=v) (o:=bk2 vs k) (by rw[l];exact rel.val k)
  exact wpAny_getItem_of (bg2 ry) dd.mapOf hw (h w' _ (I.tok _) rw')
 ·subst ey
  cases (show u=Value.ref b from ry)
  obtain⟨z,hd,xs,rel,dd⟩:=bh5 I.hok e
  obtain⟨w',hw,rw'⟩:=aC5.some_of (v:=v) (o:=(bZ1 xs k).map (·.2)) (by rw[l];exact rel.val k)
  obtain⟨p,hp,hp2⟩:=Option.map_eq_some_iff.mp hw
  refine wpAny_getItem_heap (aJ8 hu) (aN8 I.hok eb) dd hp ?_
  rw[hp2]
  exact h w' _ (I.tok _) rw'
theorem bI9 (hu:A.units+1<aa1)(I:Inv X pins σ H s)(g:at4 H a y o)(ry:RelV y u)(h:∀ s',Inv X pins σ H s'->Q (.bool (!o.isSome)) s') :
  m5 (p0 X.prog X.w) A (E1 .NotIn u (.ref a)) Q E s:=by
 rcases g with⟨kvs,k,e,ey,l⟩ | ⟨kvs,k,b,e,ey,eb,l⟩
 ·subst ey
  obtain⟨z,hd,vs,rel,dd⟩:=bh6 I.hok e
  refine wpAny_notIn_of (bg2 ry) hd dd.mapOf ?_
  rw[<- (rel.val k).isSome_eq,<- l]
  exact h _ (I.tok _)
 ·subst ey
  cases (show u=Value.ref b from ry)
  obtain⟨z,hd,xs,rel,dd⟩:=bh5 I.hok e
  refine wpAny_notIn_heap (aJ8 hu) (aN8 I.hok eb) hd dd ?_
  have q:=(rel.val k).isSome_eq
  rw[bK0]at q
  rw[<- q,<- l]
  exact h _ (I.tok _)
theorem aO7 {ob:HO}(I:Inv X pins σ H s)(mu:Mut (H a))(hs:Heap.SameBut a s.heap h')(he:∃ q,h'.get? a=some q)(new:F3 X.prog X.w (upd H a ob) h' a ob) :
  Inv X pins σ (upd H a ob) { s with heap:=h',toks:=t' }:=
 I.write (x:=a) (e:=a) mu (.inl rfl) (fun b q hb z=>(hs.2 b hb).trans z) he new
theorem bW0 {kvs:List (Key × V)}{vs:List (Key × Value)}(z:kvs.length<=c5)(hd:(a == Q6)=false)(rel:KV kvs vs)(dd:h'.DictOf (N0 P w) a vs) :
  F3 P w H' h' a (.dK kvs):=⟨z,hd,vs,rel,dd⟩
theorem bn7 {Q:Unit->Shared->Prop}(hu:A.units+1<aa1)(I:Inv X pins σ H s)(g:bz7 H a y v H')(ry:RelV y u)(rv:RelV v r)(h:∀ s',Inv X pins σ H' s'->Q () s') :
  m5 (p0 X.prog X.w) A (setItem (.ref a) u r) Q E s:=by
 rcases g with⟨kvs,k,e,ey,l,eH⟩ | ⟨kvs,k,b,e,ey,eb,l,eH⟩
 ·subst ey eH
  obtain⟨z,hd,vs,rel,dd⟩:=cf4 I.hok e
  have hz:vs.length<=c5:=by rw[<- rel.length];exact z
  have hl:(putK kvs k v).length<=c5:=by have:=ag7 kvs k v;omega
  refine wpAny_setItem_pairs (hsz:=hz) (bg2 ry) dd fun h' dd' hs=>h _ ?_
  have he:∃ q,h'.get? a=some q:=let ⟨q,_,_,hq,_⟩:=dd';⟨q,hq⟩
  exact aO7 I (by rw[e];exact True.intro) hs he (bW0 hl hd (rel.put k rv) dd')
 ·subst ey eH
  cases (show u=Value.ref b from ry)
  obtain⟨z,hd,xs,rel,dd⟩:=cf3 I.hok e
  have hz:xs.length<=c5:=by rw[<- Paired.length rel];exact z
  have hl:(putK kvs k v).length<=c5:=by have:=ag7 kvs k v;omega
  refine wpAny_setItem_heap (hsz:=hz) (aJ8 hu) (aN8 I.hok eb) dd fun h' dd' hs=>h _ ?_
  obtain⟨q,es,ep,hq,h2,h3,h4,_,h5⟩:=dd'
  refine aO7 I (by rw[e];exact True.intro) hs ⟨q,hq⟩ ⟨hl,hd,_,(rel.put k eb rv).keeps fun c ys ec=>?_,q,es,ep,hq,h2,h3,h4,h5⟩
  rw[m9 (bv0 ec e (fun z=>nomatch z))]
  exact ec
end
section
variable {kvs:List (Key × V)} {k:Key}
end
def cg0 (i:Expr):Prop:=∀ ov iv,aE2 i false ov iv=operate [ov,iv] (aa0 ov iv)
theorem bD6 {env:Env}{value slice:Expr}{T id:String}
  (hl:typeLookup (.type T) "__getitem__"=pure (some (.builtin id)))(hs:cg0 slice)
  (h:m5 (p0 prog w) A (eval value env) (fun o s₁=>m5 (p0 prog w) A (eval slice env) (fun i s₂=>s₂.TypeIs o T/\m5 (p0 prog w) A (aa0 o i) Q E s₂) E s₁) E s) :
  m5 (p0 prog w) A (eval (.Subscript value slice pos) env) Q E s:=by
 refine bA2 (B6 h (fun o s₁ h₁=>B6 h₁ (fun i s₂ h₂=>?_) fun _ _ x=>x) fun _ _ x=>x)
 obtain⟨hT,h₂⟩:=h₂
 unfold aJ5
 refine a7 ?_
 rw[getitemInPython_of_ne hT.not_modules]
 refine a7 (wpAny_specialOf hT hl ?_)
 have fin:m5 (p0 prog w) A (aE2 slice false o i) (fun r s₃=>m5 (p0 prog w) A (letTemporaryGo value o r >>= fun _=>pure r) Q E s₃) E s₂:=by
  rw[hs o i]
  exact wpAny_operating (B6 h₂ (fun r s₃ h₃=>a7 (wpAny_letTemporaryGo (b9 h₃))) fun _ _ x=>x)
 first
  | exact b9 (a7 fin)
  | exact a7 (b9 (a7 fin))
  | exact a7 fin
theorem aW0 {y:V}{o:Option V}(I:Inv X pins σ H s)(g:at4 H a y o):s.TypeIs (.ref a) "dict":=by
 rcases g with⟨kvs,k,e,_,_⟩ | ⟨kvs,k,b,e,_,_,_⟩
 ·obtain⟨_,_,vs,_,dd⟩:=bh6 I.hok e
  exact dd.typeIs
 ·obtain⟨_,_,xs,_,dd⟩:=bh5 I.hok e
  exact dd.typeIs
def ca8 (td ty:TE):TE:=fun σ H Q=>td σ H fun x H1=>ty σ H1 fun y H2=>∃ a v,x=.ref a/\at4 H2 a y (some v)/\Q v H2
def bD5 (ty td:TE):TE:=fun σ H Q=>ty σ H fun y H1=>td σ H1 fun x H2=>∃ a o,x=.ref a/\at4 H2 a y o/\Q (.bl (!o.isSome)) H2
def cc3 (td ty tv:TE):TS:=fun D σ H=>tv σ H fun v H1=>td σ H1 fun x H2=>ty σ H2 fun y H3=>∃ a H4,x=.ref a/\bz7 H3 a y v H4/\D.nx σ H4
section
variable {i value:Expr} {pos' tpos:Pos} {td ty tv:TE}
theorem aM8 (hu:X.A.units+1<aa1)(ho:PE X o td)(hi:PE X i ty)(hs:cg0 i):PE X (.Subscript o i pos) (ca8 td ty):=by
 intro pins s σ H Q I h
 refine bD6 PySem.F.slot_dict_getitem.lookup hs (thn (ho pins s σ H _ I h) fun u s1 ⟨x,H1,I1,rx,q1⟩=>thn (hi pins s1 σ H1 _ I1 q1) fun iv s2 ⟨y,H2,I2,ry,a,v,ex,g,q2⟩=>?_)
 subst ex
 obtain rfl:u=Value.ref a:=rx
 exact⟨aW0 I2 g,bn8 hu I2 g ry fun w' s3 I3 rw'=>⟨v,H2,I3,rw',q2⟩⟩
theorem bl4 (hu:X.A.units+1<aa1)(hi:PE X i ty)(ho:PE X o td):PC X .NotIn i o (bD5 ty td):=by
 intro pins s σ H Q I h
 refine thn (hi pins s σ H _ I h) fun iv s1 ⟨y,H1,I1,ry,q1⟩=>thn (ho pins s1 σ H1 _ I1 q1) fun u s2 ⟨x,H2,I2,rx,a,ov,ex,g,q2⟩=>?_
 subst ex
 obtain rfl:u=Value.ref a:=rx
 exact bI9 hu I2 g ry fun s3 I3=>⟨.bl (!ov.isSome),H2,I3,rfl,q2⟩
theorem bE8 (hu:X.A.units+1<aa1)(ho:PE X o td)(hi:PE X i ty)(hv:PE X value tv)(hs:bN4 value (some (.Subscript o i pos')) pos.line X.env=pure false) :
  PS X (.Assign [.Subscript o i pos'] value pos) (cc3 td ty tv):=by
 intro pins s σ H D I h
 refine wpAny_Assign_Subscript (thn (hv pins s σ H _ I h) fun r s1 ⟨v,H1,I1,rv,q1⟩=>thn (ho pins s1 σ H1 _ I1 q1) fun u s2 ⟨x,H2,I2,rx,q2⟩=>thn (hi pins s2 σ H2 _ I2 q2) fun iv s3 ⟨y,H3,I3,ry,a,H4,ex,g,q3⟩=>?_) hs
 subst ex
 obtain rfl:u=Value.ref a:=rx
 exact bn7 hu I3 g ry rv fun s4 I4=>⟨σ,H4,I4,q3⟩
end
theorem bx7 (h:Heap)(hb:Q6<h.objs.size):F3 P w H (h.push { cls:=.type "dict",data:=.dict #[] }) h.objs.size (.dT []) :=
 ⟨u7 _,beq_eq_false_iff_ne.mpr (Ne.symm (i8 hb)),[],.nil,_,#[],0,j3 _ rfl,⟨rfl,rfl,rfl⟩,rfl,rfl,bd8⟩
def bP5:TE:=fun _ H Q=>∀ p,H p=none->Q (.ref p) (upd H p (.dT []))
theorem bt6:PE X (.Dict [] [] pos) bP5:=fun pins s σ H Q I h =>
 wpAny_Dict_empty ⟨.ref s.heap.objs.size,_,I.laid (a:=s.heap.objs.size) (o:=.dT []) (t':=s.toks) (fun _ _ q=>a8 _ q) (c6 _) (bx7 s.heap I.big),rfl,h _ (I.hok.fresh (c6 _))⟩
structure M1 (X:Cx) (o:Expr) (m:Str) (apos:Pos) (e:Expr) (cpos:Pos):Prop where
 base:bB8 o m X.env (eval o X.env)=eval o X.env
 few:((Z0 cpos (B3 [e] X.env)).all (fun x=>!x.1) && (bB5 cpos (aE0 [] X.env)).all (fun x=>x.1.isSome)
  && decide (([e]:List Expr).length+([]:List aD9).length+(if ([]:List aD9).isEmpty then 0 else 1)<30))=true
 line:(apos.endLine == cpos.line)=true
 trees:Z0 cpos (B3 [e] X.env)=[(false,eval e X.env)]
structure M2 (X:Cx) (o:Expr) (m:Str) (apos:Pos) (e f:Expr) (cpos:Pos):Prop where
 base:bB8 o m X.env (eval o X.env)=eval o X.env
 few:((Z0 cpos (B3 [e,f] X.env)).all (fun x=>!x.1) && (bB5 cpos (aE0 [] X.env)).all (fun x=>x.1.isSome)
  && decide (([e,f]:List Expr).length+([]:List aD9).length+(if ([]:List aD9).isEmpty then 0 else 1)<30))=true
 line:(apos.endLine == cpos.line)=true
 trees:Z0 cpos (B3 [e,f] X.env)=[(false,eval e X.env),(false,eval f X.env)]
section
variable {y d:V} {r:Value} {o:Option V}
end
section
variable {f:Expr} {apos cpos:Pos} {td ty tx:TE}
end
section
variable {kvs:List (Key × V)}
end
section
variable {y:V}
end
end L2
namespace Att
open PySem PySem.W PySem.Calls PyProof.Rows
section
variable {K:Frag}
end
end Att
namespace L2
open PySem PySem.Spec PyProof.Rows
section
variable {K:W.Frag} {base:Heap}
end
section
variable {κ:Type} [DecidableEq κ]
end
theorem bD8 (I:Inv X pins σ H s){p:Addr}(hq:SqL X.K H p (ns.map V.int)\/SqT X.K H p (ns.map V.int)):∃ (vs:List Value) (T:String) (o:Obj) (c:Nat),(T="list"\/T="tuple")/\s.heap.get? p=some o/\o.cls=.type T/\o.data=.seq vs.toArray c/\J5 vs ns:=by
 rcases hq with hq | hq
 ·obtain⟨its,r',pl,hz⟩:=I.list hq
  obtain⟨o,ho,hc,n,hd⟩:=pl.isList
  exact⟨its,"list",o,n,.inl rfl,ho,hc,hd,intsAre_of r'⟩
 ·obtain⟨its,r',pl,hz⟩:=I.tuple hq
  obtain⟨o,ho,hc,n,hd⟩:=pl
  exact⟨its,"tuple",o,n,.inr rfl,ho,hc,hd,intsAre_of r'⟩
theorem aZ4 (I:Inv X pins σ H s){h1:Heap}{out:Array Value}(kp:∀ b o',s.heap.get? b=some o'->h1.get? b=some o')(hi:J5 out.toList zs)(hz:zs.length<=1000) :
  H h1.objs.size=none/\Inv X pins σ (upd H h1.objs.size (.lst (zs.map V.int))) { s with heap:=U4 (h1.push (E2 "list" vs.toArray 0)) h1.objs.size vs out }:=by
 have I1:Inv X pins σ H { s with heap:=h1,toks:=s.toks }:=I.kept kp
 refine⟨I1.hok.fresh (c6 _),?_⟩
 have hoL:(h1.push (E2 "list" vs.toArray 0)).get? h1.objs.size=some (E2 "list" vs.toArray 0):=j3 _ rfl
 obtain⟨e,he⟩:=sortedHeap_at (out:=out) hoL
 refine I1.laid (t':=s.toks) (fun b o q=>?_) (c6 _) ⟨by rw[a9,D7];omega,out.toList,e,ai0 hi,by rw[aq8];exact he⟩
 have hb:b<h1.objs.size:=d9 q
 rw[sortedHeap_old (i8 hb) (by rw[bA4];exact D8 hb)]
 exact a8 _ q
theorem ay6 {p:Addr}{b:Bool}(I:Inv X pins σ H s)(hq:SqL X.K H p (ns.map V.int)\/SqT X.K H p (ns.map V.int))(h64:ns.length<64)
  (h:∀ (s':Shared) (D:Addr) (zs:List Int),H D=none->zs.Perm ns->Ordered b zs->Inv X pins σ (upd H D (.lst (zs.map V.int))) s'->Q (.ref D) s') :
  m5 (p0 X.prog X.w) A (call (.builtin "sorted") [.ref p] [(Str.ofString "reverse",.bool b)]) Q E s:=by
 obtain⟨vs,T,o,c,hT,ho,hc,hd,hI⟩:=bD8 I hq
 have hlen:=hI.length
 refine bK4 bk3 aX7 aX8 (args_sorted_rev _ _) ?_
 unfold av3.«sorted»
 refine a7 (m:=bA5 "sorted" 1 1 _) (b9 ?_)
 refine a7 (wpAny_collect_seq p hT ho hc hd (fun h1 kp=>?_) (by rw[d3,D7];omega))
 rw[aw1]
 refine a7 (O6 ?_ (by rw[D7];omega))
 have hoL:(h1.push (E2 "list" vs.toArray 0)).get? h1.objs.size=some (E2 "list" vs.toArray 0):=j3 _ rfl
 refine a7 (C1 (bZ2 aD2 (s:={ s with heap:=h1.push (E2 "list" vs.toArray 0) }) ⟨_,hoL,rfl⟩ av5 (list_sort_tree_rev (s:={ s with heap:=h1.push (E2 "list" vs.toArray 0) }) hoL hI (by omega) fun out ns' a1 a2 a3=>⟨_,rfl,?_⟩) (args_list_sort_rev _ _)))
 obtain⟨e1,e2⟩:=aZ4 (vs:=vs) I kp a1 (by rw[a2.length_eq];omega)
 exact b9 ⟨_,rfl,h _ _ ns' e1 a2 a3 e2⟩
def bP2 (K:W.Frag)(tr:TA):TE:=fun σ H Q=>tr σ H fun vs H1=>∃ (p:Addr) (ns:List Int),vs=[.ref p]/\(SqL K H1 p (ns.map V.int)\/SqT K H1 p (ns.map V.int))/\ns.length<64 /\
 ∀ (l:Addr) (zs:List Int),H1 l=none->zs.Perm ns->zs.Pairwise (·≥·)->Q (.ref l) (upd H1 l (.lst (zs.map V.int)))
theorem bt5 {np bpos kpos:Pos}{tr:TA}(K:W.Frag)(hK:X.K=K)(hg:Gl X "sorted")(hm:X.mg "sorted"=none)(ha:PA X [e] tr)
  (hs:Z0 pos (B3 [e] X.env)=(false,eval e X.env)::Z0 pos (B3 [] X.env):=by rfl)
  (hpl:(Z0 pos (B3 [e] X.env)).any (·.1)=false:=by rfl) :
  PE X (.Call (.Name "sorted" np) [e] [⟨some "reverse",.Constant (.bool true) j bpos,kpos⟩] pos) (bP2 K tr):=by
 subst hK
 intro pins s σ H Q I h
 refine P7 (Z6 I hg hm (show O4 "sorted"=some (.builtin "sorted") from rfl) ?_ (by decide) (by decide))
 refine callWith_kw (thn (ha pos pins s σ H _ I h) fun us s1 ⟨vs,H1,I1,r1,q1⟩=>?_) hs hpl rfl rfl
 obtain⟨p,ns,rfl,hq,h64,q⟩:=q1
 have hk:PK X [⟨some "reverse",.Constant (.bool true) j bpos,kpos⟩] (at7 (tC (.bl true)) aZ1):=bf5 an5 bt2
 refine thn (hk pos pins s1 σ H1 (fun zs H2=>zs=[.bl true]/\H2=H1) I1 ⟨rfl,rfl⟩) fun ws s2 ⟨zs,H2,I2,r2,ez,eH⟩=>?_
 subst ez eH
 obtain⟨w,rfl,rw⟩:=vals1 r2
 obtain⟨u,rfl,ru⟩:=vals1 r1
 cases rw
 cases ru
 exact ay6 (b:=true) I2 hq h64 fun s' D zs a1 a2 a3 I'=>⟨.ref D,_,I',rfl,q D zs a1 a2 a3⟩
theorem av7 {ip tp:Addr}{ys:Array Value}{x:Value}(hi:s.heap.IsTupleIter ip tp i)(ht:s.heap.IsTuple tp ys)(hx:ys[i]?=some x)
  (q:∀ h',h'.IsTupleIter ip tp (i+1)->Heap.SameBut ip s.heap h'->Q x { s with heap:=h' }):m5 (p0 prog w) A (Builtin.SmallTypes.nextOf (.ref ip)) Q E s:=by
 obtain⟨u,hu,cu,du⟩:=id hi
 obtain⟨v,hv,_,nv,dv⟩:=ht
 unfold Builtin.SmallTypes.nextOf
 refine a7 (F5 (name:=Str.ofString "__next__") hi.typeIs F.slot_tuple_iterator_next (F7 F.slot_tuple_iterator_next hi.typeIs F.entry_tuple_iterator_next ?_ (F.args_tuple_iterator_next_1 _)))
 show m5 _ _ (field (.ref ip) 0 >>= _) _ _ s;refine a7 (J0 hu du (x:=.ref tp) rfl ?_)
 show m5 _ _ (if (Value.ref tp == Value.none)=true then _ else _) _ _ s;rw[if_neg (show ¬ ((Value.ref tp == Value.none)=true) from g8)]
 show m5 _ _ (field (.ref ip) 1 >>= _) _ _ s;refine a7 (J0 hu du (x:=.int i 0) rfl ?_)
 show m5 _ _ (seqItems? (.ref tp) >>= _) _ _ s;refine a7 (aD1 hv dv ?_)
 simp only[i3,hx]
 refine a7 (Y0 hu du (by simp) (b9 ⟨x,rfl,b9 (q _ ?_ (Heap.SameBut.update ..))⟩))
 exact⟨_,P5 _ hu (Obj.isFreed_of_fields (Obj.data_mapFields du _)),(Obj.cls_mapFields ..).trans cu,by rw[Obj.data_mapFields du];simp[X7]⟩
theorem aA1 {ip tp:Addr}{ys:Array Value}(hh:A.handled=none)(hi:s.heap.IsTupleIter ip tp i)(ht:s.heap.IsTuple tp ys)(hx:ys[i]?=none)
  (q:∀ h' e,Heap.ExtBut ip s.heap h'->(∃ o,h'.get? e=some o/\o.cls=.type "StopIteration")->E (.ref e) { s with heap:=h' }):m5 (p0 prog w) A (Builtin.SmallTypes.nextOf (.ref ip)) Q E s:=by
 obtain⟨u,hu,cu,du⟩:=id hi
 obtain⟨v,hv,_,nv,dv⟩:=ht
 unfold Builtin.SmallTypes.nextOf
 refine a7 (F5 (name:=Str.ofString "__next__") hi.typeIs F.slot_tuple_iterator_next (F7 F.slot_tuple_iterator_next hi.typeIs F.entry_tuple_iterator_next ?_ (F.args_tuple_iterator_next_1 _)))
 show m5 _ _ (field (.ref ip) 0 >>= _) _ _ s;refine a7 (J0 hu du (x:=.ref tp) rfl ?_)
 show m5 _ _ (if (Value.ref tp == Value.none)=true then _ else _) _ _ s;rw[if_neg (show ¬ ((Value.ref tp == Value.none)=true) from g8)]
 show m5 _ _ (field (.ref ip) 1 >>= _) _ _ s;refine a7 (J0 hu du (x:=.int i 0) rfl ?_)
 show m5 _ _ (seqItems? (.ref tp) >>= _) _ _ s;refine a7 (aD1 hv dv ?_)
 simp only[i3,hx]
 refine a7 (aw3 (a7 (Y0 hu du (by simp) ?_)))
 show m5 _ _ (newExc (.type "StopIteration") [] >>= _) _ _ _;refine a7 ?_;simp only[newExc,newTuple]
 refine a7 (A7 ?_ (by size_fits));refine a7 (m:=aD3 _ _) (bk4 (a:=Value.none) (by first | rfl | (simp only[aD3];rfl)) ?_)
 refine A7 ?_ (by size_fits);simp only[raiseNew]
 refine a7 (wpAny_handled ?_);first | rw[show A.in1.handled=none from hh] | rw[hh]
 refine a7 (b9 (bZ3 ?_));exact q _ _ (((Heap.SameBut.update ..).extBut.push _).push _) ⟨_,j3 _ rfl,rfl⟩
theorem aH9 (hh:A.handled=none)(ip tp:Addr)(hne:tp≠ip)(ys:Array Value):Draws prog w A ip [ip,tp] ys.size (fun i v=>ys[i]?=some v) (fun i h=>h.IsTupleIter ip tp i/\h.IsTuple tp ys) where
 live:=fun _ _ z=>let ⟨o,ho,_⟩:=z.1;⟨o,ho⟩
 frame:=fun _ _ _ z k=>⟨z.1.at fun o e=>k ip (by simp) o e,z.2.at fun o e=>k tp (by simp) o e⟩
 item:=fun i s Q E hi z q=>av7 z.1 z.2 (x:=ys[i]) (by simp[hi]) fun h' a b=>q _ h' s.toks (by simp[hi]) ⟨a,z.2.extBut b.extBut hne⟩ b
 done:=fun s Q E z q=>aA1 hh z.1 z.2 (by simp) q
open AutoSeq1 (wpAny_loadPart') in
set_option maxRecDepth 100000 in
theorem aA2 (tp:Addr)(ys:Array Value)(n:Nat)(dd:Option Addr)(ss:Array (Option Value)) :
  Meets (av3.«enumerate.__new__» ⟨[.type "enumerate",.ref tp],[]⟩) (fun _ R s=>s.heap.get? tp=some { cls:=.type "tuple",dict:=dd,data:=.seq ys n,slots:=ss } /\
   R (.ok (.ret (.ref (s.heap.push { cls:=.type "tuple_iterator",data:=.fields #[.ref tp,.int 0 0] }).objs.size)))
    { s with heap:=(s.heap.push { cls:=.type "tuple_iterator",data:=.fields #[.ref tp,.int 0 0] }).push { cls:=.type "enumerate",data:=.fields #[.none,.bool false,.ref s.heap.objs.size,X7 0,.none,.none] } }) :=
 .of_wp fun prog w A R s h=>by
  obtain⟨hp,g,d,tk,os⟩:=s;obtain⟨hl,h⟩:=h
  have hsub:=sub_enumerate
  have hT:Heap.IsTuple (Shared.heap ⟨hp,g,d,tk,os⟩) tp ys:=⟨_,hl,rfl,n,rfl⟩
  wp_walk using wpAny_loadPart' hl
  refine wpAny_stack_any fun st=>b9 ?_
  split
  ·rename_i c _ _ _ _ _
   cases (c == Value.type "enumerate")
   ·wp_walk using wpAny_loadPart' hl,ah6 hT;exact⟨_,rfl,h⟩
   ·wp_walk using wpAny_loadPart' hl,ah6 hT;exact⟨_,rfl,h⟩
  ·wp_walk using wpAny_loadPart' hl,ah6 hT;exact⟨_,rfl,h⟩
theorem aF1 {tp:Addr}{ys:Array Value}(hT:s.heap.IsTuple tp ys)
  (q:∀ h',IsEnum h' (s.heap.objs.size+1) s.heap.objs.size 0 .none->h'.IsTupleIter s.heap.objs.size tp 0->h'.objs.size=s.heap.objs.size+2->(∀ b o,s.heap.get? b=some o->h'.get? b=some o)->Q (.ref (s.heap.objs.size+1)) { s with heap:=h' }) :
  m5 (p0 prog w) A (call (.type "enumerate") [.ref tp]) Q E s:=by
 obtain⟨⟨c,dd,dt,ss⟩,hl,hc,n,hd⟩:=hT
 replace hc:c=.type "tuple":=hc
 replace hd:dt=.seq ys n:=hd
 subst hc hd
 refine callType_new F.called_enumerate (by decide) (F.typeCall_enumerate_1 _) (F.newCall_enumerate_1 _) (fun obj=>F.args_object_init_2 obj _) F.entry_enumerate_new (aA2 tp ys n dd ss) ⟨hl,?_⟩
 have hz:(s.heap.push { cls:=.type "tuple_iterator",data:=.fields #[.ref tp,.int 0 0] }).objs.size=s.heap.objs.size+1:=L7 ..
 show _/\_
 rw[hz]
 have he:IsEnum ((s.heap.push { cls:=.type "tuple_iterator",data:=.fields #[.ref tp,.int 0 0] }).push { cls:=.type "enumerate",data:=.fields #[.none,.bool false,.ref s.heap.objs.size,X7 0,.none,.none] }) (s.heap.objs.size+1) s.heap.objs.size 0 .none:=by
  have:=j3 (s.heap.push { cls:=.type "tuple_iterator",data:=.fields #[.ref tp,.int 0 0] }) (o:={ cls:=.type "enumerate",data:=.fields #[.none,.bool false,.ref s.heap.objs.size,X7 0,.none,.none] }) rfl
  rw[hz]at this;exact this
 exact⟨⟨_,he,rfl⟩,q _ he ⟨_,a8 _ (j3 _ rfl),rfl,rfl⟩ (by rw[L7,hz]) fun b o x=>a8 _ (a8 _ x)⟩
def Itm (K:W.Frag)(a:Addr):It:=
 ⟨fun i H=>∃ xs x,SqT K H a xs/\xs[i]?=some x,fun i H x H'=>∃ t v,H t=none/\x=.ref t/\(∀ xs,SqT K H a xs->xs[i]?=some v)/\H'=upd H t (.tup [.int i,v]),fun i H=>∃ xs,SqT K H a xs/\xs.length=i⟩
def bV2 (K:W.Frag)(ta:TA):TI:=fun σ H R=>ta σ H fun vs H1=>∃ a,vs=[.ref a]/\(∃ xs,SqT K H1 a xs)/\R (Itm K a) H1
theorem aY9 {K:W.Frag}{elts:List Expr}{x1:Nat}(a ip e:Addr)(hne:e≠ip):Turn P w K (.Tuple elts x1 pos) (Itm K a) [e,ip] e (fun i h=>(∃ old,IsEnum h e ip (i:Int) old)/\h.IsTupleIter ip a i) where
 mem:=by simp
 obj:=fun i h st b hb=>by
  obtain⟨⟨old,he⟩,o,ho,hc,hd⟩:=st
  rcases g9.mp hb with rfl | hb
  ·exact⟨_,he,fun v z=>by cases z⟩
  ·obtain rfl:b=ip:=by simpa using hb
   exact⟨o,ho,fun v z=>by rw[hd]at z;cases z⟩
 keep:=fun i h h' st k=>⟨let ⟨old,he⟩:=st.1;⟨old,k e (by simp) _ he⟩,st.2.at fun o q=>k ip (by simp) o q⟩
 item:=by
  intro X hP hw hK hc i pins s σ H E I hf st hg
  subst hP hw hK
  obtain⟨xs,x,hq,hx⟩:=hg
  obtain⟨⟨old,he⟩,hit⟩:=st
  obtain⟨its,rv,p,hz⟩:=I.tuple hq
  obtain⟨u,hu,ru⟩:=rv.get hx
  obtain⟨f0,f1,f2,f3,f4,f5⟩:=hf e (by simp)
  obtain⟨g0,g1,g2,g3,g4,g5⟩:=hf ip (by simp)
  have pT:s.heap.IsTuple a its.toArray:=p
  have nai:a≠ip:=fun z=>by
   obtain⟨o1,h1,c1,_⟩:=id pT
   obtain⟨o2,h2,c2,_⟩:=id hit
   rw[z,h2]at h1;cases h1;rw[c2]at c1;injection c1 with c1;exact absurd c1 (by decide)
  have nae:a≠e:=fun z=>by
   obtain⟨o1,h1,c1,_⟩:=id pT
   rw[z,show s.heap.get? e=_ from he]at h1;cases h1;injection c1 with c1;exact absurd c1 (by decide)
  have ui:its.toArray[i]?=some u:=by simpa using hu
  have hlt':i<its.toArray.size:=by
   rcases E6 i its.toArray.size with h | h
   ·exact h
   ·rw[bp5 h]at ui;cases ui
  refine wpAny_pyNext_enum_itemD (aH9 (A:=X.A.in1) (I.ok.hd hc) ip a nai its.toArray) he ⟨hit,pT⟩ hlt' hne (by simp[hne,Ne.symm nae]) fun v h1 tk hv heo st1 ht1 hz1 hk1=>?_
  have ev:v=u:=by have:=hv.symm.trans ui;cases this;rfl
  subst ev
  have hit1:=st1.1
  refine⟨_,rfl,?_⟩
  refine bp6 heo fun h2 he2 hs2=>?_
  have hlt:e<s.heap.objs.size:=d9 he
  have hs2':Heap.SameBut e h1 h2:=hs2
  have ht2:h2.get? s.heap.objs.size=some { cls:=.type "tuple",data:=.seq #[.int i tk,v] }:=(hs2'.2 _ (S9 hlt)).trans ht1
  have kp:∀ b o,b≠e->b≠ip->s.heap.get? b=some o->h2.get? b=some o:=fun b o h1' h2' q=>(hs2'.2 b h1').trans (hk1 b o h1' h2' q)
  have hT:H s.heap.objs.size=none:=I.hok.fresh (c6 _)
  have nH:∀ b,H b≠none->b≠e/\b≠ip:=fun b hb=>⟨fun z=>hb (z ▸ f0),fun z=>hb (z ▸ g0)⟩
  have keepH:∀ b o,H b=some o->upd H s.heap.objs.size (.tup [.int i,x]) b=some o:=fun b o q=>by rw[m9 (u0 q hT)];exact q
  have hok2:HOk X.prog X.w (upd H s.heap.objs.size (.tup [.int i,x])) h2:=fun b o eb=>by
   by_cases hb:b=s.heap.objs.size
   ·subst hb
    rw[b8]at eb
    cases eb
    exact⟨by show 2<=c5;decide,[.int i tk,v],.cons ⟨_,rfl⟩ (.cons ru .nil),⟨_,ht2,rfl,_,rfl⟩⟩
   ·rw[m9 hb]at eb
    refine(I.hok b o eb).stay (fun c v hcc q=>kp c v ?_ ?_ q) (fun c q=>keepH c _ q) fun c ys q=>keepH c _ q
    ·rcases hcc with z | z
     ·exact(nH c (by rw[z,eb];simp)).1
     ·exact(nH c (by rw[z];simp)).1
    ·rcases hcc with z | z
     ·exact(nH c (by rw[z,eb];simp)).2
     ·exact(nH c (by rw[z];simp)).2
  have I2:Inv X pins σ (upd H s.heap.objs.size (.tup [.int i,x])) { s with heap:=h2,toks:=tk+1 }:=by
   refine I.step (g':=s.gens) (d':=s.drawn) (t':=tk+1) (ch:=[e,ip]) (fun b hb=>?_) (fun b o _ _ hcc q _=>kp b o (fun z=>hcc (by simp[z])) (fun z=>hcc (by simp[z])) q) (fun b o _ _ hcc q _=>⟨o.slots,kp b o (fun z=>hcc (by simp[z])) (fun z=>hcc (by simp[z])) q⟩) (fun b o _ q n=>?_)
    (fun b o hcc q=>⟨o,kp b o (fun z=>hcc (by simp[z])) (fun z=>hcc (by simp[z])) q⟩) (fun b ys q=>keepH b _ q) (fun b o v q=>keepH b _ q) (fun b ps q=>⟨#[],by rw[keepH b _ q];simp⟩) (fun m hm=>?_) hok2 I.bare
   ·rcases g9.mp hb with rfl | hb
    ·exact⟨f3,f1,f4,f5⟩
    ·obtain rfl:b=ip:=by simpa using hb
     exact⟨g3,g1,g4,g5⟩
   ·rw[m9 (i8 (d9 q))]
    exact n
   ·obtain⟨o,es,ep,ho,r⟩:=hm
    exact⟨o,es,ep,kp _ o (Ne.symm f1) (Ne.symm g1) ho,r⟩
  have hilt:ip<s.heap.objs.size:=by
   obtain⟨o,ho,_⟩:=id hit
   exact d9 ho
  refine⟨.ref s.heap.objs.size,_,I2,rfl,⟨s.heap.objs.size,x,hT,rfl,fun ys hy=>by rw[I.tuple_inj hy hq];exact hx,rfl⟩,⟨⟨v,?_⟩,?_⟩,fun b hb=>?_⟩
  ·have:=he2
   rw[show ((i:Int)+1)=(((i+1:Nat):Int)) by simp]at this
   exact this
  ·exact hit1.at fun o q=>(hs2'.2 ip (Ne.symm hne)).trans q
  ·rcases g9.mp hb with rfl | hb
   ·rw[m9 (i8 hlt)];exact f0
   ·obtain rfl:b=ip:=by simpa using hb
    rw[m9 (i8 hilt)]
    exact g0
 done:=by
  intro X hP hw hK hc i pins s σ H E I hf st hg
  subst hP hw hK
  obtain⟨xs,hq,hx⟩:=hg
  obtain⟨⟨old,he⟩,hit⟩:=st
  obtain⟨its,rv,p,hz⟩:=I.tuple hq
  obtain⟨g0,g1,g2,g3,g4,g5⟩:=hf ip (by simp)
  have hl:=rv.length
  have pT:s.heap.IsTuple a its.toArray:=p
  have nai:a≠ip:=fun z=>by
   obtain⟨o1,h1,c1,_⟩:=id pT
   obtain⟨o2,h2,c2,_⟩:=id hit
   rw[z,h2]at h1;cases h1;rw[c2]at c1;injection c1 with c1;exact absurd c1 (by decide)
  have ei:i=its.toArray.size:=by rw[d3];omega
  refine wpAny_pyNext_enum_endD (aH9 (A:=X.A.in1) (I.ok.hd hc) ip a nai its.toArray) he ⟨by rw[<- ei];exact hit,pT⟩ fun h' eb=>⟨rfl,I.turned (t':=s.toks) (fun b o hb q=>eb b o hb q) g0 g1 g3 g4 g5⟩
 self:=fun _ _ _ _ _ st h=>let ⟨⟨old,he⟩,_⟩:=st;al0 he h
theorem bt4 {a:Expr}{ta:TA}{elts:List Expr}{x1:Nat}{tpos p:Pos}(hg:Gl X "enumerate")(hm:X.mg "enumerate"=none)(ha:PA X [a] ta)(hv:O4 "enumerate"=some (.type "enumerate"):=by rfl)(hs:B3 [a] X.env=[(false,eval a X.env)]:=by rfl) :
  PI X (.Tuple elts x1 tpos) (.Call (.Name "enumerate" p) [a] [] pos) (bV2 X.K ta):=by
 intro pins s σ H R I h
 refine Call_ (Z6 I hg hm hv (PyProof.Rows.callWith_type1 (thn (ha pos pins s σ H _ I h) fun us s1 ⟨vs,H1,I1,r1,q1⟩=>?_) hs rfl))
 obtain⟨b,e,⟨xs,hq⟩,q⟩:=q1
 subst e
 obtain⟨u,rfl,rx⟩:=vals1 r1
 cases rx
 obtain⟨its,rv,pl,hz⟩:=I1.tuple hq
 refine aF1 (show s1.heap.IsTuple b its.toArray from pl) fun h' he hit hsz kp=>?_
 refine al0 he ?_
 have hne:s1.heap.objs.size+1≠s1.heap.objs.size:=Nat.succ_ne_self _
 refine⟨s1.heap.objs.size+1,[s1.heap.objs.size+1,s1.heap.objs.size],_,_,H1,rfl,I1.kept (t':=s1.toks) kp,aY9 b s1.heap.objs.size (s1.heap.objs.size+1) hne,⟨⟨_,he⟩,hit⟩,fun c hc=>?_,q⟩
 rcases g9.mp hc with rfl | hc
 ·exact I1.fpOk (W5 _) (I1.hok.fresh (W5 _))
 ·obtain rfl:c=s1.heap.objs.size:=by simpa using hc
  exact I1.fpOk (c6 _) (I1.hok.fresh (c6 _))
theorem bo4 (hc:X.calm=true):R9 X (.builtin "sum") (fun xs H Q=>∃ (p:Addr) (ns:List Int),xs=[.ref p]/\SqT X.K H p (ns.map V.int)/\Q (.int ns.sum) H):=by
 intro pins s σ H xs us Q I r h
 obtain⟨p,ns,rfl,hq,q⟩:=h
 obtain⟨u,rfl,rx⟩:=vals1 r
 cases rx
 obtain⟨its,r',pl,hz⟩:=I.tuple hq
 have hi:J5 its ns:=intsAre_of r'
 obtain⟨ys,e⟩:=hi.allInts.items
 refine PySem.W.ktm_sumG (xs:=ys) (I.ok.hd hc) (by rw[<- e];exact pl) fun h' tk t' hk=>⟨.int ns.sum,H,I.kept (t':=tk) hk,⟨t',?_⟩,q⟩
 have e2:numsOf (intItems ys).toList=ns:=by rw[<- e];exact hi.numsOf
 rw[nums_intItems]at e2
 rw[preSum_eq,l6 (by simp),e2]
end L2
namespace L2
open PySem PySem.Spec PyProof.Rows
def bZ9 (K:W.Frag)(CT:Addr)(tb:(St->XK)->TS)(th:TS):TS:=fun D σ H=>∃ E:St->XK,tb E D σ H/\∀ σ' cls H',E σ' cls none H'->PySem.W.exmOne K cls (.ref CT)=some true/\th D σ' H'
theorem bE7 {body suite:List Stmt}{b0:Stmt}{tn:Str}{np hpos:Pos}{CT:Addr}{tb:(St->XK)->TS}{th:TS}
  (hg:Gl X tn)(hm:X.mg tn=some (.ref CT))(hst:X.stack=X.env::X.outer)(hfr:X.env.frame=some X.env.locals)(hbody:∀ pins E,PSs (be1 X pins E) body (tb E))(hh:∀ v,PSs (bV5 X v) (b0::suite) th)
  (hd:(tn == ("__debug__":Str))=false:=by decide) :
  PS X (.Try body [.ExceptHandler (some (.Name tn np)) none (b0::suite) hpos] [] [] pos) (bZ9 X.K CT tb th):=by
 intro pins s σ H D I hw
 obtain⟨E,hb,hcatch⟩:=hw
 refine wpAny_Try_except (B6 (hbody pins E [] s σ H D I.toTry hb) (fun fl s1 q=>?_) fun e s1 hx=>?_)
 ·cases fl with
  | next =>
   obtain⟨σ',H',I',q⟩:=q
   exact ae7 ⟨σ',H',I'.ofTry,q⟩
  | brk=>obtain⟨σ',H',I',q⟩:=q;exact⟨σ',H',I'.ofTry,q⟩
  | cont=>obtain⟨σ',H',I',q⟩:=q;exact⟨σ',H',I'.ofTry,q⟩
  | ret u=>obtain⟨v,σ',H',I',r,q⟩:=q;exact⟨v,σ',H',I'.ofTry,r,q⟩
 ·obtain⟨σ1,H1,s0,I1,x,cls,H2,rfl,hos,hbare,u,hok,new,hxn,⟨B,a0,fl,st⟩,hE⟩:=hx
  obtain⟨hmat,hth⟩:=hcatch σ1 cls H2 hE
  have hfl:Heap.FlyingW B (X.env::X.outer) x cls a0 s1.heap:=by rw[hst]at fl;exact fl
  have frNone:∀ b∈frs X.stack,H2 b=none:=fun b hb=>by
   obtain⟨_,o,ho,_⟩:=I1.stack.mem hb
   exact u.free b o ho (I1.stkFree b hb) (by simp)
  have step:∀ h',B.StaysIn h'->s1.heap.UpToSlots h'->Un (frs X.stack) [] H1 H2 s0.heap h'/\HOk X.prog X.w H2 h':=fun h' hB hu=>by
   refine⟨u.onto (fun b o ho hh hno=>hB b o (st b o ho (.inr hh) hno)) fun b o ho hh hm'=>?_,hok.stays fun b o ho hh=>hB b o (st b o ho (.inl hh) fun hm'=>hh (frNone b hm'))⟩
   obtain⟨_,o',ho',hdd⟩:=hfl.2.2.1.mem (b:=b) (by rw[hst]at hm';exact hm')
   rw[ho]at ho'
   cases ho'
   exact hu b o ho hdd
  have inv:∀ h',B.StaysIn h'->s1.heap.UpToSlots h'->Inv X pins σ1 H2 { s1 with heap:=h' }:=fun h' hB hu=>by
   obtain⟨un,ok⟩:=step h' hB hu
   exact I1.call' (s':={ s1 with heap:=h' }) (ch:=[]) hos un ok hbare fun b hb=>by cases hb
  have hfrm:X.A.frames=some (X.env::X.outer):=by rw[<- hst];exact I1.ok.frames
  refine wpAny_looks_onW hfrm hfr hfl fun h4 held4 up4=>?_
  refine wpAny_landsW held4 fun h5 fl5 up5=>?_
  have up15:=up4.trans up5
  have I5:=inv h5 fl5.1 up15
  refine wpAny_handleBy_cons (codeAny_handlers_test ?_) (by intro q;cases q)
  refine ao3 (I5.toHd (.ref x)) hg hm ?_ hd
  have LT:PySem.W.Looks (p0 X.prog X.w) h5 (typeOf (.ref x)) cls:=by
   obtain⟨ob,hob,hc⟩:=fl5.there
   subst hc
   exact(PySem.W.Looks.ld hob).andThen .now
  refine(PySem.W.exm_one (M:=p0 X.prog X.w) I5.kIn LT hmat).here ?_
  refine codeAny_handlers_suite ?_
  refine lands_againW fl5 fun h6 fl6 up6=>?_
  have up16:=up15.trans up6
  have I7:=inv h6 fl6.1 up16
  refine B6 (hh (.ref x) pins { s1 with heap:=h6 } σ1 H2 D (I7.toHd _) hth) (fun fl' s9 q=>?_) (fun _ _ z=>False.elim z)
  have hdX:=I.ok.hd
  cases fl' with
  | next =>
   obtain⟨σ',H',I',q⟩:=q
   exact⟨σ',H',I'.ofHd hdX,q⟩
  | brk =>
   obtain⟨σ',H',I',q⟩:=q
   exact⟨σ',H',I'.ofHd hdX,q⟩
  | cont =>
   obtain⟨σ',H',I',q⟩:=q
   exact⟨σ',H',I'.ofHd hdX,q⟩
  | ret u' =>
   obtain⟨v,σ',H',I',r,q⟩:=q
   exact⟨v,σ',H',I'.ofHd hdX,r,q⟩
theorem bo2 {elt iter:Expr} {ifs:List Expr} {ipos:Pos} {wi:TI} {g:TG} {tt:TT} {use:Option (Value->Sem Unit)} {R:Value->Shared->Prop} {Q:VK}
  (hc:X.calm=true) (hi:PI X tg iter wi) (hclos:aw4 scope X.env=pure cl) (hkind:scope.kind=.function)
  (hnames:∀ y∈scope.names,y.2=.local->scope.names.lookup y.1=some .local) (hcl:aw0 X.env cl) (hfr:ap7 scope.names cl=true) (hlk:bo9 X N' lk scope cl)
  (hg:∀ s3 H3 fp,PG (B5 X scope cl N' s3 H3 fp fun _ _=>False) tg g) (ht:∀ s3 H3 fp,PTs (B5 X scope cl N' s3 H3 fp fun _ _=>False) ifs tt) (he:∀ s3 H3 fp,PE (B5 X scope cl N' s3 H3 fp fun _ _=>False) elt te)
  (hs:∀ x,X8 iter X.env x=pure x) (I:Inv X pins σ H s) (h:be2 wi lk g tt te σ H Q)
  (hend : ∀ (C D : Addr) (s' : Shared) (H' : Hp), Inv X pins σ H' s' -> Q (.ref D) H' -> H' C = none -> C ≠ X.env.locals -> X.s₀.heap.objs.size <= C -> (∀ x c, X.env.cells.lookup x = some c -> c ≠ C) -> (∀ p ∈ X.pn ++ pins, p.1 ≠ C) -> (∃ m, s'.heap.Ns C m) ->
   aw5 (p0 X.prog X.w) X.A X.xe use R (.ref D) C (.ok .next) s') :
  m5 (p0 X.prog X.w) X.A (comprehension (.ListComp elt [⟨tg,iter,ifs,0⟩] scope pos) scope X.env ipos (newList []) false (eval iter X.env) use) R X.xe s:=by
 have hcellN:∀ y∈scope.names,y.2≠.cell:=fun y hy=>by
  unfold ap7 at hfr
  rw[O3]at hfr
  have:=hfr y hy
  rw[B0]at this
  simpa using this.1
 refine ak9 (use:=use) rfl hs hclos hkind hnames (thn (hi pins s σ H _ I h) fun v s1 h1=>thn h1 fun itv s2 h2=>?_)
 obtain⟨it,fp,tn,J,H2,e,I2,T,st2,f2,q⟩:=h2
 subst e
 refine O6 ?_ (u7 _)
 have hD:H2 s2.heap.objs.size=none:=I2.hok.fresh (c6 _)
 have I3:=I2.lnew (ys:=[]) (its:=[]) (t':=s2.toks) .nil (u7 _)
 obtain⟨W,⟨m0,w0⟩,turn⟩:=q s2.heap.objs.size hD
 have fpl:∀ b∈fp,b<s2.heap.objs.size:=fun b hb=>by
  obtain⟨o,ho,_⟩:=T.obj 0 s2.heap st2 b hb
  exact d9 ho
 refine ab4 hcellN (by intro y hy;cases hy) (fun h1 hns1 hsb1=>?_) hkind
 dsimp only at hns1 hsb1 ⊢
 have e3:s2.heap.push { cls:=.type "list",dict:=none,data:=.seq ([]:List Value).toArray }=s2.heap.push { cls:=.type "list",data:=.seq ([]:List Value).toArray }:=rfl
 generalize hh3:s2.heap.push { cls:=.type "list",dict:=none,data:=.seq ([]:List Value).toArray }=h3 at *
 have I3':Inv X pins σ (upd H2 s2.heap.objs.size (.lst [])) { s2 with heap:=h3,toks:=s2.toks }:=I3
 have size3:h3.objs.size=s2.heap.objs.size+1:=by rw[<- hh3,L7]
 have f3:∀ b∈fp,O2 X pins (upd H2 s2.heap.objs.size (.lst [])) b:=fun b hb=>by
  obtain⟨f0,fr⟩:=f2 b hb
  exact⟨by rw[m9 (i8 (fpl b hb))];exact f0,fr⟩
 have up:∀ b u,h3.get? b=some u->h1.get? b=some u:=fun b u eb=>by
  rw[hsb1.2 b (i8 (d9 eb))]
  exact a8 _ eb
 have I4:Inv (B5 X scope cl N' { s2 with heap:=h3,toks:=s2.toks } (upd H2 s2.heap.objs.size (.lst [])) fp fun _ _=>False) [] (Z7 lk σ) (upd H2 s2.heap.objs.size (.lst [])) { s2 with heap:=h1,toks:=s2.toks+([]:List (Str × Value)).length }:=
  al4 (s3:={ s2 with heap:=h3,toks:=s2.toks }) I3' f3 hkind hcl hfr hlk hns1 up fun b hb=>by show b<h3.objs.size;rw[size3];exact D8 (fpl b hb)
 have st4:tn 0 h1:=T.keep 0 s2.heap h1 st2 fun b hb o eb=>up b o (by rw[<- hh3];exact a8 _ eb)
 have hCs:h3.objs.size=(L8 scope cl h3.objs.size X.env).locals:=rfl
 have stat:∀ {H':Hp},(∀ b∈fp,H' b=none)->∀ b∈fp,O2 (B5 X scope cl N' { s2 with heap:=h3,toks:=s2.toks } (upd H2 s2.heap.objs.size (.lst [])) fp fun _ _=>False) [] H' b:=fun {H'} hn b hb=>by
  obtain⟨f0,f1,f2',f3',f4,f5⟩:=f3 b hb
  refine⟨hn b hb,?_,fun z=>?_,.inl hb,fun x c ex=>f4 x c (hcl.get ex),fun p hp=>nomatch hp⟩
  ·show b≠h3.objs.size
   rw[size3]
   exact i8 (D8 (fpl b hb))
  ·rcases g9.mp (I3'.stkSub b z) with q | q
   ·exact f1 q
   ·exact f2' q
 have fin:∀ (s':Shared) (σ':St) (H':Hp),Inv (B5 X scope cl N' { s2 with heap:=h3,toks:=s2.toks } (upd H2 s2.heap.objs.size (.lst [])) fp fun _ _=>False) [] σ' H' s'->Q (.ref s2.heap.objs.size) H' ->
   aw5 (p0 X.prog X.w) X.A X.xe use R (.ref s2.heap.objs.size) h3.objs.size (.ok .next) s':=fun s' σ' H' I' q'=>by
  obtain⟨m,hm,_⟩:=id I'.loc
  have I5:Inv X pins σ H' s':=I3'.call' (ch:=fp) I'.os I'.base I'.hok I'.bare fun b hb=>by
   obtain⟨f0,f1,f2',f3',f4,f5⟩:=f3 b hb
   exact⟨f3',f1,f4,f5⟩
  exact hend h3.objs.size s2.heap.objs.size s' H' I5 q' I'.free (S9 I3'.lt) I3'.sz (fun x c ex z=>by
   obtain⟨v',q2⟩:=I3'.cell x c ex
   exact absurd q2.lt (by rw[z];exact C9 _)) (fun p hp z=>absurd (d9 (I3'.pin p hp).1) (by rw[z];exact C9 _)) ⟨m,hm⟩
 have loop:∀ s5:Shared,s5={ s2 with heap:=h1,toks:=s2.toks+([]:List (Str × Value)).length } ->
   aD8 (p0 X.prog X.w) X.A (.compLoop (.ListComp elt [⟨tg,iter,ifs,0⟩] scope pos) 0 (.ref it) (.ref s2.heap.objs.size) (L8 scope cl h3.objs.size X.env)) (aw5 (p0 X.prog X.w) X.A X.xe use R (.ref s2.heap.objs.size) h3.objs.size) s5:=by
  rintro s5 rfl
  refine bN8 rfl (fun n s'=>∃ i xs σ' H',Inv (B5 X scope cl N' { s2 with heap:=h3,toks:=s2.toks } (upd H2 s2.heap.objs.size (.lst [])) fp fun _ _=>False) [] σ' H' s'/\tn i s'.heap/\(∀ b∈fp,H' b=none)/\W i n xs σ' H')
   (fun n s6 hI=>?_) m0 ⟨0,[],Z7 lk σ,_,I4,st4,fun b hb=>(f3 b hb).1,w0⟩
  obtain⟨i,xs,σ6,H6,I6,st6,fr6,w6⟩:=hI
  show m5 _ X.A ((compTurn (.ListComp elt [⟨tg,iter,ifs,0⟩] scope pos) 0 (.ref it) (.ref s2.heap.objs.size) (L8 scope cl h3.objs.size X.env)).onRaise (fun x=>do av4 x (L8 scope cl h3.objs.size X.env);bk0 x)) _ _ s6
  refine bZ0 ?_
  rw[bC1]
  refine a7 (V0 (a7 ?_))
  obtain⟨hD6,hw⟩:=turn i n xs σ6 H6 w6
  rcases hw with⟨stop,qn⟩ | ⟨go,hlen,step⟩
  ·refine thn (T.done (B5 X scope cl N' { s2 with heap:=h3,toks:=s2.toks } (upd H2 s2.heap.objs.size (.lst [])) fp fun _ _=>False) rfl rfl rfl hc i [] s6 σ6 H6 _ I6 (stat fr6) st6 stop) fun r s7 ⟨hr,I7⟩=>?_
   subst hr
   exact b9 (fin s7 σ6 H6 I7 qn)
  ·refine thn (T.item (B5 X scope cl N' { s2 with heap:=h3,toks:=s2.toks } (upd H2 s2.heap.objs.size (.lst [])) fp fun _ _=>False) rfl rfl rfl hc i [] s6 σ6 H6 _ I6 (stat fr6) st6 go) fun r s7 ⟨u,hr,h7⟩=>?_
   subst hr
   refine a7 (thn h7 fun _ s8 ⟨x,H8,I8,r8,y8,st8,fr8⟩=>?_)
   have I8':=I8.pinned (stat fr8) (T.obj _ _ st8)
   refine a7 (B6 (hg _ _ _ _ s8 σ6 H8 x u _ I8' r8 (step x H8 y8)) (fun _ s9 ⟨σ9,H9,I9,q9⟩=>?_) (fun _ _ z=>False.elim z))
   refine a7 (B6 (ht _ _ _ _ s9 σ9 H9 _ I9 q9) (fun ok s10 ⟨H10,I10,q10⟩=>?_) (fun _ _ z=>False.elim z))
   have bj3:∀ {σ':St} {H':Hp} {ys:List V} {s':Shared},Inv (B5 X scope cl N' { s2 with heap:=h3,toks:=s2.toks } (upd H2 s2.heap.objs.size (.lst [])) fp fun _ _=>False) ([]++ag6 fp s8.heap) σ' H' s'->(∃ m',m'<n/\W (i+1) m' ys σ' H') ->
     ∃ m',m'<n/\∃ i xs σ' H',Inv (B5 X scope cl N' { s2 with heap:=h3,toks:=s2.toks } (upd H2 s2.heap.objs.size (.lst [])) fp fun _ _=>False) [] σ' H' s'/\tn i s'.heap/\(∀ b∈fp,H' b=none)/\W i m' xs σ' H':=fun {σ' H' ys s'} I' ⟨m',hm,w'⟩=>by
    refine⟨m',hm,i+1,ys,σ',H',I'.unpinned,T.keep _ _ _ st8 fun b hb o eb=>(I'.pin (b,o) (k6 _ (k6 _ (M0 hb eb)))).1,fun b hb=>?_,w'⟩
    obtain⟨o,eb,_⟩:=T.obj _ _ st8 b hb
    exact(I'.pin (b,o) (k6 _ (k6 _ (M0 hb eb)))).2.1
   cases ok with
   | false =>
    have q10':∃ m',m'<n/\W (i+1) m' xs σ9 H10:=by simpa using q10
    exact b9 ⟨rfl,bj3 I10 q10'⟩
   | true =>
    rw[if_pos rfl]at q10
    refine a7 (a7 (B6 (he _ _ _ _ s10 σ9 H10 _ I10 q10) (fun y s11 ⟨v11,H11,I11,r11,hD11,q11⟩=>?_) (fun _ _ z=>False.elim z)))
    refine a7 (B6 (F1 (X:=B5 X scope cl N' { s2 with heap:=h3,toks:=s2.toks } (upd H2 s2.heap.objs.size (.lst [])) fp fun _ _=>False) _ s11 σ9 H11 (.ref s2.heap.objs.size) [v11] (.ref s2.heap.objs.size) [y] (fun _ H'=>∃ m',m'<n/\W (i+1) m' (xs++[v11]) σ9 H') I11 rfl (.cons r11 .nil) ⟨s2.heap.objs.size,xs,v11,rfl,rfl,hD11,hlen,q11⟩) (fun _ s12 ⟨_,H12,I12,_,q12⟩=>?_) (fun _ _ z=>False.elim z))
    exact b9 (b9 ⟨rfl,bj3 I12 q12⟩)
 exact ar0 (loop _ rfl) (T.self X.A 0 _ _ _ st4 (loop _ rfl))
def ca0 (i:Nat)(t:TE):TS:=fun D σ H=>t σ H fun v H1=>D.nx (σ.set i (some v)) H1
theorem aM2 {y:Str}{py:Pos}{elt iter:Expr}{ifs:List Expr}{spos:Pos}{wi:TI}{g:TG}{tt:TT}
  (hN:X.N.Nodup)(hy:X.N[i]?=some y)(hyl:X.env.scope.names.lookup y=some .local)
  (hsw:bN4 (.ListComp elt [⟨tg,iter,ifs,0⟩] scope pos) (some (.Name y py)) spos.line X.env=pure true)
  (hc:X.calm=true)(hi:PI X tg iter wi)(hclos:aw4 scope X.env=pure cl)(hkind:scope.kind=.function)
  (hnames:∀ y∈scope.names,y.2=.local->scope.names.lookup y.1=some .local)(hcl:aw0 X.env cl)(hfr:ap7 scope.names cl=true)(hlk:bo9 X N' lk scope cl)
  (hg:∀ s3 H3 fp,PG (B5 X scope cl N' s3 H3 fp fun _ _=>False) tg g)(ht:∀ s3 H3 fp,PTs (B5 X scope cl N' s3 H3 fp fun _ _=>False) ifs tt)(he:∀ s3 H3 fp,PE (B5 X scope cl N' s3 H3 fp fun _ _=>False) elt te)
  (hs:∀ x,X8 iter X.env x=pure x:=by intro _;rfl):PS X (.Assign [.Name y py] (.ListComp elt [⟨tg,iter,ifs,0⟩] scope pos) spos) (ca0 i (be2 wi lk g tt te)):=by
 intro pins s σ H D I h
 rw[exec_Assign_Name_used _ _ _ _ hsw]
 refine a7 (V0 (a7 ?_))
 show m5 _ X.A (do let _ <- comprehension (.ListComp elt [⟨tg,iter,ifs,0⟩] scope pos) scope X.env _ (newList []) false (eval iter X.env) (some (bN5 (.Name y py) X.env))) _ _ s
 refine a7 (thn (bo2 (use:=some (bN5 (.Name y py) X.env)) (R:=fun _ s'=>SP X pins D .next s') hc hi hclos hkind hnames hcl hfr hlk hg ht he hs I h
  fun C Dd s' H' I' q' hC hCL hCs hCc hCp ⟨m,hm⟩=>?_) fun _ s' hq=>b9 (b9 hq))
 show m5 _ X.A (bN5 (.Name y py) X.env (.ref Dd)) _ _ s'
 refine wpAny_assign_Name (aG0 (v:=.ref Dd) I' hN hy (.inl hyl) rfl (fun s2 I2 ⟨a,hsb,ha⟩=>?_) (.inr hyl))
 have hCa:C≠a:=by
  rcases ha with z | z
  ·rw[z];exact hCL
  ·exact(hCc y a z).symm
 refine⟨m,hm.sameBut hsb hCa,fun h' hs'=>?_⟩
 obtain⟨h0,g0,d0,t0,o0⟩:=s2
 exact⟨_,H',I2.turned (t':=t0) (it:=C) (fun b o hb eb=>(hs'.2 b hb).trans eb) hC hCL (.inr hCs) hCc hCp,q'⟩
end L2
namespace Grf
def S:Nat->(Nat->Int)->Int
 | 0,_=>0
 | n+1,f=>S n f+f n
theorem A8 {f g:Nat->Int}:∀ {n:Nat},(∀ i,i<n->f i=g i)->S n f=S n g
 | 0,_=>rfl
 | n+1,h=>by
  show S n f+f n=S n g+g n
  rw[A8 fun i hi=>h i (by omega),h n (by omega)]
theorem as8 {f g:Nat->Int}:∀ {n:Nat},(∀ i,i<n->f i<=g i)->S n f<=S n g
 | 0,_=>K2 _
 | n+1,h=>by
  have h1:=as8 (n:=n) fun i hi=>h i (by omega)
  have h2:=h n (by omega)
  show S n f+f n<=S n g+g n
  omega
theorem X3 (f g:Nat->Int):∀ n:Nat,S n (fun i=>f i+g i)=S n f+S n g
 | 0=>rfl
 | n+1=>by
  show S n (fun i=>f i+g i)+(f n+g n)=S n f+f n+(S n g+g n)
  rw[X3 f g n]
  omega
theorem R8 (f g:Nat->Int):∀ n:Nat,S n (fun i=>f i - g i)=S n f - S n g
 | 0=>rfl
 | n+1=>by
  show S n (fun i=>f i - g i)+(f n - g n)=S n f+f n - (S n g+g n)
  rw[R8 f g n]
  omega
theorem O0:∀ n:Nat,S n (fun _=>0)=0
 | 0=>rfl
 | n+1=>by
  show S n (fun _=>0)+0=0
  rw[O0 n];rfl
theorem ad4 (c:Int):∀ n:Nat,S n (fun _=>c)=(n:Int)*c
 | 0=>by simp[S]
 | n+1=>by
  show S n (fun _=>c)+c=((n+1:Nat):Int)*c
  rw[ad4 c n,show ((n+1:Nat):Int)=(n:Int)+1 by omega,Int.add_mul,aY2]
theorem av0 (c:Int)(f:Nat->Int):∀ n:Nat,S n (fun i=>c*f i)=c*S n f
 | 0=>by simp[S]
 | n+1=>by
  show S n (fun i=>c*f i)+c*f n=c*(S n f+f n)
  rw[av0 c f n,Int.mul_add]
theorem O1 {f:Nat->Int}(h:∀ i,i<n->0<=f i):0<=S n f:=by
 have:=as8 (f:=fun _=>0) (g:=f) (n:=n) h
 rw[O0]at this
 exact this
theorem bz3 (f:Nat->Nat->Int)(m:Nat):∀ n:Nat,S n (fun i=>S m (fun j=>f i j))=S m (fun j=>S n (fun i=>f i j))
 | 0=>(O0 m).symm
 | n+1=>by
  show S n (fun i=>S m (fun j=>f i j))+S m (fun j=>f n j)=S m (fun j=>S n (fun i=>f i j)+f n j)
  rw[bz3 f m n,<- X3]
theorem ah0 (c:Int)(h:j<n):S n (fun i=>if i=j then c else 0)=c:=by
 induction n with
 | zero=>omega
 | succ n ih =>
  show S n (fun i=>if i=j then c else 0)+(if n=j then c else 0)=c
  by_cases e:n=j
  ·rw[if_pos e,A8 (g:=fun _=>0) fun i hi=>if_neg (by omega),O0];omega
  ·rw[if_neg e,ih (by omega)];omega
theorem Q2 {f g:Nat->Int}(h:j<n)(hf:∀ i,i<n->i≠j->f i=g i):S n f=S n g+(f j - g j):=by
 have:S n f=S n (fun i=>g i+(if i=j then f j - g j else 0)):=A8 fun i hi=>by
  by_cases e:i=j
  ·rw[if_pos e,e];omega
  ·rw[if_neg e,hf i hi e];omega
 rw[this,X3,ah0 _ h]
theorem aj5 {f:Nat->Int}(h:j<n)(hf:∀ i,i<n->0<=f i):f j<=S n f:=by
 have h1:=Q2 (f:=f) (g:=fun i=>if i=j then 0 else f i) h (fun i _ e=>by rw[if_neg e])
 have h2:0<=S n (fun i=>if i=j then 0 else f i):=O1 fun i hi=>by
  by_cases e:i=j
  ·rw[if_pos e];exact K2 _
  ·rw[if_neg e];exact hf i hi
 rw[if_pos rfl]at h1
 omega
theorem bz5 {f g:Nat->Int}(h:S n f<S n g):∃ i,i<n/\f i<g i:=by
 induction n with
 | zero=>exact absurd h (aD7 _)
 | succ n ih =>
  by_cases e:f n<g n
  ·exact⟨n,by omega,e⟩
  ·have h':S n f+f n<S n g+g n:=h
   obtain⟨i,hi,h2⟩:=ih (by omega)
   exact⟨i,by omega,h2⟩
def b2 (b:Bool):Int:=if b then 1 else 0
theorem U0:b2 true=1:=rfl
theorem P0:b2 false=0:=rfl
theorem B2 (b:Bool):0<=b2 b:=by cases b<;>decide
theorem aI6 (b:Bool):b2 b<=1:=by cases b<;>decide
structure Gph (g:Nat->Nat->Bool):Prop where
 sym:∀ i j,g i j=g j i
 irr:∀ i,g i i=false
def deg (n:Nat)(g:Nat->Nat->Bool)(i:Nat):Int:=S n fun j=>b2 (g i j)
def O7 (g:Nat->Nat->Bool)(a b:Nat)(v:Bool):Nat->Nat->Bool:=fun i j=>if (i=a/\j=b)\/(i=b/\j=a) then v else g i j
theorem J6 {a b:Nat}{v:Bool}(h:Gph g)(hab:a≠b):Gph (O7 g a b v) where
 sym:=fun i j=>by
  unfold O7
  by_cases e:(i=a/\j=b)\/(i=b/\j=a)
  ·rw[if_pos e,if_pos (by omega)]
  ·rw[if_neg e,if_neg (by omega)];exact h.sym i j
 irr:=fun i=>by
  unfold O7
  rw[if_neg (by omega)];exact h.irr i
theorem K4 {a b:Nat}{v:Bool}(e:¬ ((i=a/\j=b)\/(i=b/\j=a))):O7 g a b v i j=g i j:=if_neg e
theorem am8 {a b:Nat}{v:Bool}:O7 g a b v a b=v:=if_pos (.inl ⟨rfl,rfl⟩)
theorem N9 {a b:Nat}{v:Bool}(h:Gph g)(hab:a≠b)(ha:a<n)(hb:b<n)(i:Nat):deg n (O7 g a b v) i=deg n g i+(if i=a\/i=b then b2 v - b2 (g a b) else 0):=by
 unfold deg
 by_cases e1:i=a
 ·subst e1
  rw[if_pos (.inl rfl),Q2 (g:=fun j=>b2 (g i j)) hb (fun j _ hj=>by show b2 _=_;rw[K4 (by omega)])]
  show _+(b2 (O7 g i b v i b) - _)=_
  rw[am8]
 ·by_cases e2:i=b
  ·subst e2
   rw[if_pos (.inr rfl),Q2 (g:=fun j=>b2 (g i j)) ha (fun j _ hj=>by show b2 _=_;rw[K4 (by omega)])]
   show _+(b2 (O7 g a i v i a) - _)=_
   have:O7 g a i v i a=v:=if_pos (.inr ⟨rfl,rfl⟩)
   rw[this,h.sym i a]
  ·rw[if_neg (by omega),A8 (g:=fun j=>b2 (g i j)) fun j _=>by show b2 _=_;rw[K4 (by omega)]]
   omega
end Grf
namespace Grf
theorem ax6 {x y:Nat}(h:Gph g)(hy:y<n)(hxy:x≠y):S n (fun z=>if z=x\/z=y then 0 else b2 (g x z))=deg n g x - b2 (g x y):=by
 unfold deg
 rw[Q2 (f:=fun z=>if z=x\/z=y then 0 else b2 (g x z)) (g:=fun z=>b2 (g x z)) hy (fun i _ hi=>?_)]
 ·show _+((if y=x\/y=y then (0:Int) else _) - _)=_
  rw[if_pos (.inr rfl)];omega
 ·show (if i=x\/i=y then (0:Int) else _)=_
  by_cases e:i=x
  ·rw[if_pos (.inl e),e,h.irr];rfl
  ·rw[if_neg (by omega)]
theorem cf1 {x y:Nat}(h:Gph g)(hx:x<n)(hy:y<n)(hxy:x≠y)(hd:deg n g y<deg n g x):∃ z,z<n/\z≠x/\z≠y/\g x z=true/\g y z=false:=by
 have h1:=ax6 h hy hxy
 have h2:=ax6 h hx (Ne.symm hxy)
 have h3:S n (fun z=>if z=y\/z=x then 0 else b2 (g y z))<S n (fun z=>if z=x\/z=y then 0 else b2 (g x z)):=by
  rw[h1,h2,h.sym y x];omega
 obtain⟨z,hz,hlt⟩:=bz5 h3
 by_cases e:z=x\/z=y
 ·rw[if_pos (show z=y\/z=x by omega),if_pos e]at hlt
  exact absurd hlt (aD7 _)
 ·rw[if_neg (show ¬ (z=y\/z=x) by omega),if_neg e]at hlt
  refine⟨z,hz,by omega,by omega,?_⟩
  cases h4:g x z<;>cases h5:g y z<;>rw[h4,h5]at hlt<;>simp_all [b2]
theorem find3 {x y v:Nat}(h:Gph g)(hx:x<n)(hy:y<n)(hv:v<n)(hxy:x≠y)(hxv:x≠v)(hyv:y≠v)(hd:deg n g y<=deg n g x)(h1:g y v=true)(h2:g x v=false) :
  ∃ z,z<n/\z≠x/\z≠y/\z≠v/\g x z=true/\g y z=false:=by
 have e1:=ax6 h hy hxy
 have e2:=ax6 h hx (Ne.symm hxy)
 have f1:=Q2 (f:=fun z=>if z=v then 0 else (if z=x\/z=y then 0 else b2 (g x z))) (g:=fun z=>if z=x\/z=y then 0 else b2 (g x z)) hv (fun i _ hi=>by show (if i=v then (0:Int) else _)=_;rw[if_neg hi])
 have f2:=Q2 (f:=fun z=>if z=v then 0 else (if z=y\/z=x then 0 else b2 (g y z))) (g:=fun z=>if z=y\/z=x then 0 else b2 (g y z)) hv (fun i _ hi=>by show (if i=v then (0:Int) else _)=_;rw[if_neg hi])
 have g1:(if v=v then (0:Int) else (if v=x\/v=y then 0 else b2 (g x v))) - (if v=x\/v=y then 0 else b2 (g x v))=0:=by
  rw[if_pos rfl,if_neg (by omega),h2];rfl
 have g2:(if v=v then (0:Int) else (if v=y\/v=x then 0 else b2 (g y v))) - (if v=y\/v=x then 0 else b2 (g y v)) = -1:=by
  rw[if_pos rfl,if_neg (by omega),h1];rfl
 rw[g1,e1]at f1
 rw[g2,e2,h.sym y x]at f2
 have h3:S n (fun z=>if z=v then 0 else (if z=y\/z=x then 0 else b2 (g y z)))<S n (fun z=>if z=v then 0 else (if z=x\/z=y then 0 else b2 (g x z))):=by
  rw[f1,f2];omega
 obtain⟨z,hz,hlt⟩:=bz5 h3
 by_cases ev:z=v
 ·rw[if_pos ev,if_pos ev]at hlt
  exact absurd hlt (aD7 _)
 ·rw[if_neg ev,if_neg ev]at hlt
  by_cases e:z=x\/z=y
  ·rw[if_pos (show z=y\/z=x by omega),if_pos e]at hlt
   exact absurd hlt (aD7 _)
  ·rw[if_neg (show ¬ (z=y\/z=x) by omega),if_neg e]at hlt
   refine⟨z,hz,by omega,by omega,ev,?_⟩
   cases h4:g x z<;>cases h5:g y z<;>rw[h4,h5]at hlt<;>simp_all [b2]
def al3 (g:Nat->Nat->Bool)(a b c d:Nat):Nat->Nat->Bool:=O7 (O7 (O7 (O7 g a b false) c d false) a d true) c b true
structure Ex (g:Nat->Nat->Bool) (a b c d:Nat):Prop where
 ab:a≠b
 ac:a≠c
 ad:a≠d
 bc:b≠c
 bd:b≠d
 cd:c≠d
 t1:g a b=true
 t2:g c d=true
 n1:g a d=false
 n2:g c b=false
theorem aV8 {a b c d:Nat}(h:Gph g)(x:Ex g a b c d):Gph (al3 g a b c d):=
 J6 (J6 (J6 (J6 h x.ab) x.cd) x.ad) (Ne.symm x.bc)
theorem aV9 {a b c d:Nat}(h:Gph g)(x:Ex g a b c d)(ha:a<n)(hb:b<n)(hc:c<n)(hd:d<n)(i:Nat):deg n (al3 g a b c d) i=deg n g i:=by
 obtain⟨ab,ac,ad,bc,bd,cd,t1,t2,n1,n2⟩:=x
 unfold al3
 have h1:=J6 (v:=false) h ab
 have h2:=J6 (v:=false) h1 cd
 have h3:=J6 (v:=true) h2 ad
 rw[N9 h3 (Ne.symm bc) hc hb,N9 h2 ad ha hd,N9 h1 cd hc hd,N9 h ab ha hb]
 have v1:O7 g a b false c d=true:=by rw[K4 (by omega)];exact t2
 have v2:O7 (O7 g a b false) c d false a d=false:=by rw[K4 (by omega),K4 (by omega)];exact n1
 have v3:O7 (O7 (O7 g a b false) c d false) a d true c b=false:=by rw[K4 (by omega),K4 (by omega),K4 (by omega)];exact n2
 rw[t1,v1,v2,v3,U0,P0]
 by_cases ea:i=a
 ·subst ea
  rw[if_pos (.inl rfl),if_neg (by omega),if_pos (.inl rfl),if_neg (by omega)];omega
 ·by_cases eb:i=b
  ·subst eb
   rw[if_pos (.inr rfl),if_neg (by omega),if_neg (by omega),if_pos (.inr rfl)];omega
  ·by_cases ec:i=c
   ·subst ec
    rw[if_neg (by omega),if_pos (.inl rfl),if_neg (by omega),if_pos (.inl rfl)];omega
   ·by_cases ed:i=d
    ·subst ed
     rw[if_neg (by omega),if_pos (.inr rfl),if_pos (.inr rfl),if_neg (by omega)];omega
    ·rw[if_neg (by omega),if_neg (by omega),if_neg (by omega),if_neg (by omega)];omega
theorem ag9 {a b c d:Nat}(x:Ex g a b c d)(j:Nat):al3 g a b c d a j=if j=b then false else if j=d then true else g a j:=by
 obtain⟨ab,ac,ad,bc,bd,cd,t1,t2,n1,n2⟩:=x
 unfold al3
 rw[K4 (by omega)]
 by_cases e:j=d
 ·subst e
  rw[am8,if_neg (by omega),if_pos rfl]
 ·rw[K4 (by omega),K4 (by omega),if_neg e]
  by_cases e2:j=b
  ·subst e2
   rw[am8,if_pos rfl]
  ·rw[K4 (by omega),if_neg e2]
theorem ce8 {v:Nat}{N:Nat->Bool}(hv:v<n)(hNv:N v=false):∀ (m:Nat) (g:Nat->Nat->Bool),Gph g->S n (fun j=>b2 (N j))=deg n g v ->
  (∀ x y,x<n->y<n->N x=true->N y=false->y≠v->deg n g y<=deg n g x)->S n (fun j=>b2 (N j && !g v j))=(m:Int) ->
  ∃ g',Gph g'/\(∀ i,i<n->deg n g' i=deg n g i)/\∀ j,j<n->g' v j=N j:=by
 intro m
 induction m with
 | zero =>
  intro g h hs hd hm
  refine⟨g,h,fun _ _=>rfl,fun j hj=>?_⟩
  have all:∀ j,j<n->N j=true->g v j=true:=fun j hj hN=>by
   have:=aj5 (f:=fun j=>b2 (N j && !g v j)) hj (fun i _=>B2 _)
   rw[hm]at this
   cases hg:g v j with
   | true=>rfl
   | false =>
    have e:b2 (N j && !g v j)=1:=by rw[hN,hg];rfl
    have t:b2 (N j && !g v j)<=0:=this
    omega
  have dif:S n (fun j=>b2 (g v j) - b2 (N j))=0:=by rw[R8];unfold deg at hs;omega
  have pos:∀ i,i<n->0<=b2 (g v i) - b2 (N i):=fun i hi=>by
   cases hN:N i with
   | true=>rw[all i hi hN];decide
   | false=>have:=B2 (g v i);rw[P0];omega
  have:=aj5 (f:=fun j=>b2 (g v j) - b2 (N j)) hj pos
  rw[dif]at this
  have p:=pos j hj
  cases hN:N j with
  | true=>exact all j hj hN
  | false =>
   cases hg:g v j with
   | false=>rfl
   | true =>
    have t:b2 (g v j) - b2 (N j)<=0:=this
    rw[hN,hg,U0,P0]at t
    omega
 | succ m ih =>
  intro g h hs hd hm
  obtain⟨x,hx,hlt⟩:∃ x,x<n/\(fun _=>(0:Int)) x<b2 (N x && !g v x):=bz5 (f:=fun _=>0) (g:=fun j=>b2 (N j && !g v j)) (by rw[O0,hm];omega)
  have hNx:N x=true/\g v x=false:=by
   cases h1:N x<;>cases h2:g v x<;>rw[h1,h2]at hlt<;>simp_all [b2]
  obtain⟨y,hy,hlt2⟩:∃ y,y<n/\b2 (N y)<b2 (g v y):=by
   by_cases hc:∃ y,y<n/\b2 (N y)<b2 (g v y)
   ·exact hc
   ·have pos:∀ i,i<n->0<=b2 (N i) - b2 (g v i):=fun i hi=>by
     have:¬ b2 (N i)<b2 (g v i):=fun z=>hc ⟨i,hi,z⟩
     omega
    have t:=aj5 (f:=fun j=>b2 (N j) - b2 (g v j)) hx pos
    have e:S n (fun j=>b2 (N j) - b2 (g v j))=0:=by rw[R8];unfold deg at hs;omega
    rw[e,show b2 (N x) - b2 (g v x)=1 by rw[hNx.1,hNx.2];rfl]at t
    omega
  have hNy:N y=false/\g v y=true:=by
   cases h1:N y<;>cases h2:g v y<;>rw[h1,h2]at hlt2<;>simp_all [b2]
  have xv:x≠v:=fun e=>by rw[e,hNv]at hNx;exact absurd hNx.1 (by decide)
  have yv:y≠v:=fun e=>by rw[e,h.irr]at hNy;exact absurd hNy.2 (by decide)
  have xy:x≠y:=fun e=>by rw[e,hNy.1]at hNx;exact absurd hNx.1 (by decide)
  obtain⟨z,hz,zx,zy,zv,h1,h2⟩:=find3 h hx hy hv xy xv yv (hd x y hx hy hNx.1 hNy.1 yv) (by rw[h.sym];exact hNy.2) (by rw[h.sym];exact hNx.2)
  have ex:Ex g v y z x:=⟨Ne.symm yv,Ne.symm zv,Ne.symm xv,Ne.symm zy,Ne.symm xy,zx,hNy.2,by rw[h.sym];exact h1,hNx.2,by rw[h.sym];exact h2⟩
  have dg:=aV9 h ex hv hy hz hx
  obtain⟨g',k1,k2,k3⟩:=ih (al3 g v y z x) (aV8 h ex) (by rw[dg];exact hs) (fun a b ha hb n1 n2 n3=>by rw[dg,dg];exact hd a b ha hb n1 n2 n3) (by
   have:=Q2 (f:=fun j=>b2 (N j && !al3 g v y z x v j)) (g:=fun j=>b2 (N j && !g v j)) hx (fun j _ hj=>by
    show b2 (N j && !al3 g v y z x v j)=_
    rw[ag9 ex]
    by_cases e:j=y
    ·rw[if_pos e,e,hNy.1];rfl
    ·rw[if_neg e,if_neg hj])
   rw[this,hm]
   have e1:al3 g v y z x v x=true:=by rw[ag9 ex,if_neg xy,if_pos rfl]
   show _+(b2 (N x && !al3 g v y z x v x) - b2 (N x && !g v x))=_
   rw[e1,hNx.1,hNx.2]
   show ((m+1:Nat):Int)+(0 - 1)=_
   omega)
  exact⟨g',k1,fun i hi=>by rw[k2 i hi,dg],k3⟩
end Grf
namespace Grf
def cnt (n:Nat)(a:Nat->Bool):Int:=S n fun i=>b2 (a i)
def sm (n:Nat)(a:Nat->Bool)(d:Nat->Int):Int:=S n fun i=>if a i=true then d i else 0
def put (a:Nat->Bool)(j:Nat)(v:Bool):Nat->Bool:=fun i=>if i=j then v else a i
theorem ac5 {a:Nat->Bool}{v:Bool}:put a j v j=v:=if_pos rfl
theorem Q1 {a:Nat->Bool}{v:Bool}(h:i≠j):put a j v i=a i:=if_neg h
theorem P9 {a:Nat->Bool}{v:Bool}(h:j<n):cnt n (put a j v)=cnt n a+(b2 v - b2 (a j)):=by
 unfold cnt
 rw[Q2 (g:=fun i=>b2 (a i)) h (fun i _ hi=>by show b2 (put a j v i)=_;rw[Q1 hi])]
 show _+(b2 (put a j v j) - _)=_
 rw[ac5]
theorem U6 {a:Nat->Bool}{v:Bool}(h:j<n):sm n (put a j v) d=sm n a d+((if v=true then d j else 0) - (if a j=true then d j else 0)):=by
 unfold sm
 rw[Q2 (g:=fun i=>if a i=true then d i else 0) h (fun i _ hi=>by show (if put a j v i=true then d i else 0)=_;rw[Q1 hi])]
 show _+((if put a j v j=true then d j else 0) - _)=_
 rw[ac5]
theorem ad2 (n:Nat)(a:Nat->Bool):0<=cnt n a:=O1 fun i _=>B2 _
theorem ax7 {a b:Nat->Bool}(h:∀ i,a i=true->b i=false):cnt n a+cnt n b<=n:=by
 unfold cnt
 rw[<- X3]
 have:=as8 (f:=fun i=>b2 (a i)+b2 (b i)) (g:=fun _=>1) (n:=n) (fun i _=>by
  show b2 (a i)+b2 (b i)<=1
  cases ha:a i with
  | true=>rw[h i ha];decide
  | false=>have:=aI6 (b i);rw[P0];omega)
 rw[ad4]at this
 omega
theorem aO8 {a b:Nat->Bool}(h:∀ i,a i=true->b i=false)(hj:j<n)(ha:a j=false)(hb:b j=false):cnt n a+cnt n b+1<=n:=by
 have:=ax7 (n:=n) (a:=put a j true) (b:=b) (fun i hi=>by
  by_cases e:i=j
  ·rw[e];exact hb
  ·rw[Q1 e]at hi;exact h i hi)
 rw[P9 hj,ha,U0,P0]at this
 omega
theorem by2 {a:Nat->Bool}(h:∀ i,i<n->a i=false):cnt n a=0:=by
 unfold cnt
 rw[A8 (g:=fun _=>0) fun i hi=>by rw[h i hi];rfl]
 exact O0 n
theorem aw9 {a:Nat->Bool}(h:∀ i,i<n->a i=false):sm n a d=0:=by
 unfold sm
 rw[A8 (g:=fun _=>0) fun i hi=>by rw[h i hi];rfl]
 exact O0 n
theorem br6 {a:Nat->Bool}(hd:∀ i,i<n->0<=d i)(hj:j<n)(ha:a j=true):d j<=sm n a d:=by
 have:=aj5 (f:=fun i=>if a i=true then d i else 0) hj (fun i hi=>by
  cases a i with
  | true=>exact hd i hi
  | false=>exact K2 _)
 have e:(if a j=true then d j else 0)=d j:=if_pos ha
 unfold sm
 show d j<=_
 rw[<- e]
 exact this
theorem aG2 {a:Nat->Bool}(hd:∀ i,i<n->0<=d i):0<=sm n a d:=O1 fun i hi=>by
 cases a i with
 | true=>exact hd i hi
 | false=>exact K2 _
theorem bP9 {a:Nat->Bool}(hd:∀ i,i<n->0<=d i)(hi:i<n)(hj:j<n)(hij:i≠j)(h1:a i=true)(h2:a j=true):d i+d j<=sm n a d:=by
 have e:=U6 (d:=d) (a:=a) (v:=false) hi
 rw[h1,if_pos rfl,if_neg (by decide)]at e
 have:=br6 (a:=put a i false) hd hj (by rw[Q1 (Ne.symm hij)];exact h2)
 omega
theorem cb2 {a:Nat->Bool}{m:Int}(h:∀ i,i<n->a i=true->d i<=m):sm n a d<=cnt n a*m:=by
 have e:cnt n a*m=S n (fun i=>m*b2 (a i)):=by rw[av0,bA7];rfl
 rw[e]
 refine as8 fun i hi=>?_
 cases ha:a i with
 | true=>rw[if_pos rfl,U0,N3];exact h i hi ha
 | false=>rw[if_neg (by decide),P0,aq9];exact K2 _
theorem cb3 {a:Nat->Bool}{m:Int}(h:∀ i,i<n->a i=true->d i=m):sm n a d=cnt n a*m:=by
 have e:cnt n a*m=S n (fun i=>m*b2 (a i)):=by rw[av0,bA7];rfl
 rw[e]
 refine A8 fun i hi=>?_
 cases ha:a i with
 | true=>rw[if_pos rfl,U0,N3];exact h i hi ha
 | false=>rw[if_neg (by decide),P0,aq9]
theorem ax8 {a:Nat->Bool}(h:cnt n a≠0):∃ i,i<n/\a i=true:=by
 by_cases hc:∃ i,i<n/\a i=true
 ·exact hc
 ·exact absurd (by2 fun i hi=>by
   cases ha:a i with
   | false=>rfl
   | true=>exact absurd ⟨i,hi,ha⟩ hc) h
theorem cover {a b:Nat->Bool}(h:∀ i,a i=true->b i=false)(hc:cnt n a+cnt n b=n):sm n a d+sm n b d=S n d:=by
 unfold sm
 rw[<- X3]
 refine A8 fun i hi=>?_
 cases ha:a i with
 | true=>rw[h i ha,if_pos rfl,if_neg (by decide)];omega
 | false =>
  cases hb:b i with
  | true=>rw[if_neg (by decide),if_pos rfl];omega
  | false=>have:=aO8 h hi ha hb;omega
def ae3 (n:Nat)(d:Nat->Int):Prop:=∀ a b:Nat->Bool,(∀ i,a i=true->b i=false)->sm n a d<=cnt n a*((n:Int) - 1 - cnt n b)+sm n b d
theorem bh4 (k:Int):∃ q,k*(k - 1)=2*q:=by
 rcases Int.emod_two_eq k with h | h
 ·exact⟨(k / 2)*(k - 1),by
   have:k=2*(k / 2):=by omega
   rw[<- Int.mul_assoc,<- this]⟩
 ·exact⟨k*((k - 1) / 2),by
   have:k - 1=2*((k - 1) / 2):=by omega
   rw[Int.mul_left_comm,<- this]⟩
theorem bx8 {a b:Nat->Bool}(h:∀ i,a i=true->b i=false)(x y:Nat):∀ i,put a x false i=true->put b y false i=false:=fun i hi=>by
 by_cases e:i=x
 ·rw[e,ac5]at hi;cases hi
 ·rw[Q1 e]at hi
  by_cases e2:i=y
  ·rw[e2,ac5]
  ·rw[Q1 e2];exact h i hi
theorem bv9 {t u:Nat}(K:ae3 n d)(hd:∀ i,i<n->0<=d i)(ev:∃ q,S n d=2*q)(ht:t<n)(hu:u<n)(htu:t≠u)(hup:0<d u)(hmax:∀ i,i<n->d i<=d t)(hmin:∀ i,i<n->0<d i->d u<=d i) :
  ae3 n (fun i=>d i - (if i=t then 1 else 0) - (if i=u then 1 else 0)):=by
 intro a b hab
 have hdt:d u<=d t:=hmax u hu
 have lower:∀ c:Nat->Bool,sm n c (fun i=>d i - (if i=t then 1 else 0) - (if i=u then 1 else 0))=sm n c d - b2 (c t) - b2 (c u):=fun c=>by
  have e:sm n c (fun i=>d i - (if i=t then 1 else 0) - (if i=u then 1 else 0))=S n (fun i=>(if c i=true then d i else 0) - (if i=t then b2 (c t) else 0) - (if i=u then b2 (c u) else 0)):=A8 fun i hi=>by
   show (if c i=true then (d i - (if i=t then 1 else 0) - (if i=u then 1 else 0)) else 0)=_
   by_cases e1:i=t
   ·subst e1
    rw[if_pos rfl,if_pos rfl,if_neg htu,if_neg htu]
    cases c i with
    | true=>rfl
    | false=>rfl
   ·rw[if_neg e1,if_neg e1]
    by_cases e2:i=u
    ·subst e2
     rw[if_pos rfl,if_pos rfl]
     cases c i with
     | true=>rfl
     | false=>rfl
    ·rw[if_neg e2,if_neg e2]
     cases c i with
     | true=>rw[if_pos rfl,if_pos rfl]
     | false=>rw[if_neg (by decide),if_neg (by decide)];omega
  rw[e,R8,R8,ah0 _ ht,ah0 _ hu]
  rfl
 rw[lower a,lower b]
 have K0:=K a b hab
 have ka:=ad2 n a
 have kb:=ad2 n b
 have kr:=ax7 (n:=n) hab
 have sb:=aG2 (a:=b) hd
 have ba:=fun x=>B2 (a x)
 have ab:=fun x=>aI6 (a x)
 generalize hk:cnt n a=k at *
 generalize hl:cnt n b=l at *
 have pq:k*((n:Int) - 1 - l)=k*(n:Int) - k - k*l:=by rw[Int.mul_sub,Int.mul_sub,N3]
 have rem:∀ s,s<n->a s=true->b t=true->sm n a d+((n:Int) - k - l)+d t - d s<=k*((n:Int) - 1 - l)+sm n b d:=fun s hs has hbt=>by
  have:=K (put a s false) (put b t false) (bx8 hab s t)
  rw[U6 hs,U6 ht,P9 hs,P9 ht,has,hbt,hk,hl]at this
  simp only[if_true,U0,P0,j7,if_false]at this
  have e:(k+(0 - 1))*((n:Int) - 1 - (l+(0 - 1)))=k*((n:Int) - 1 - l)+k - (n:Int)+l:=by grind
  rw[e]at this
  omega
 have mov:b t=true->a t=false->sm n a d+d t<=(k+1)*((n:Int) - l)+sm n b d - d t:=fun hbt hat=>by
  have dj:∀ i,put a t true i=true->put b t false i=false:=fun i hi=>by
   by_cases e:i=t
   ·rw[e,ac5]
   ·rw[Q1 e]at hi;rw[Q1 e];exact hab i hi
  have:=K (put a t true) (put b t false) dj
  rw[U6 ht,U6 ht,P9 ht,P9 ht,hat,hbt,hk,hl]at this
  simp only[if_true,U0,P0,j7,if_false]at this
  have e:(k+(1 - 0))*((n:Int) - 1 - (l+(0 - 1)))=(k+1)*((n:Int) - l):=by grind
  rw[e]at this
  omega
 have nota:∀ i,b i=true->a i=false:=fun i hi=>by
  cases h:a i with
  | false=>rfl
  | true=>rw[hab i h]at hi;cases hi
 have empty:k=0->sm n a d=0:=fun hk0=>aw9 fun i hi=>by
  cases h:a i with
  | false=>rfl
  | true =>
   have:=aj5 (f:=fun i=>b2 (a i)) hi (fun i _=>B2 _)
   have e:b2 (a i)=1:=by rw[h];rfl
   unfold cnt at hk
   have t:b2 (a i)<=S n (fun i=>b2 (a i)):=this
   omega
 cases hbt:b t with
 | false =>
  cases hbu:b u with
  | false=>have h1:=ba t;have h2:=ba u;rw[P0];omega
  | true =>
   rw[U0,P0]
   cases hat:a t with
   | true=>have h2:=ba u;rw[U0];omega
   | false =>
    rw[nota u hbu,P0]
    have dub:=br6 hd hu hbu
    have out:=aO8 hab ht hat hbt
    rw[hk,hl]at out
    by_cases c1:k+1<=d u
    ·have:=K a (put b u false) (fun i hi=>by
      by_cases e:i=u
      ·rw[e,ac5]
      ·rw[Q1 e];exact hab i hi)
     rw[U6 hu,P9 hu,hbu,hk,hl]at this
     simp only[if_true,U0,P0,j7,if_false]at this
     have e:k*((n:Int) - 1 - (l+(0 - 1)))=k*((n:Int) - 1 - l)+k:=by grind
     rw[e]at this
     omega
    ·by_cases c2:(n:Int) - l<=d t
     ·have:=K (put a t true) b (fun i hi=>by
       by_cases e:i=t
       ·rw[e];exact hbt
       ·rw[Q1 e]at hi;exact hab i hi)
      rw[U6 ht,P9 ht,hat,hk,hl]at this
      simp only[if_true,U0,P0,j7,if_false]at this
      have e:(k+(1 - 0))*((n:Int) - 1 - l)=k*((n:Int) - 1 - l)+((n:Int) - 1 - l):=by grind
      rw[e]at this
      omega
     ·have h1:=cb2 (a:=a) (d:=d) (m:=(n:Int) - 1 - l) (n:=n) (fun i hi _=>by have:=hmax i hi;omega)
      rw[hk]at h1
      omega
 | true =>
  have hat:=nota t hbt
  rw[hat,U0,P0]
  cases hbu:b u with
  | false =>
   rw[P0]
   cases hau:a u with
   | true=>rw[U0];omega
   | false =>
    rw[P0]
    have out:=aO8 hab hu hau hbu
    rw[hk,hl]at out
    by_cases k0:k=0
    ·have h1:=empty k0
     have h2:=br6 hd ht hbt
     rw[h1,k0,bA8]
     omega
    ·obtain⟨s,hs,has⟩:=ax8 (n:=n) (a:=a) (by rw[hk];exact k0)
     have h1:=rem s hs has hbt
     have h2:=hmax s hs
     omega
  | true =>
   rw[nota u hbu,U0,P0]
   have two:=bP9 hd ht hu htu hbt hbu
   by_cases k0:k=0
   ·have h1:=empty k0
    rw[h1,k0,bA8]
    omega
   ·-- slack even where there is no place besides
    have par:(n:Int) - k - l=0->sm n a d<k*((n:Int) - 1 - l)+sm n b d->sm n a d+2<=k*((n:Int) - 1 - l)+sm n b d:=fun r0 hlt=>by
     obtain⟨q,hq⟩:=ev
     have cv:=cover (d:=d) hab (by rw[hk,hl];omega)
     obtain⟨q2,hq2⟩:=bh4 k
     have e:k*((n:Int) - 1 - l)=k*(k - 1):=by rw[show (n:Int) - 1 - l=k - 1 by omega]
     rw[e]at hlt ⊢
     omega
    by_cases hex:∃ s,s<n/\a s=true/\d s<d t
    ·obtain⟨s,hs,has,hlt⟩:=hex
     have h1:=rem s hs has hbt
     by_cases r0:(n:Int) - k - l=0
     ·have:=par r0 (by omega);omega
     ·omega
    ·have all:∀ i,i<n->a i=true->d i=d t:=fun i hi hai=>by
      have h1:=hmax i hi
      have h2:¬ d i<d t:=fun z=>hex ⟨i,hi,hai,z⟩
      omega
     obtain⟨s,hs,has⟩:=ax8 (n:=n) (a:=a) (by rw[hk];exact k0)
     have h1:=rem s hs has hbt
     have h2:=all s hs has
     have mv:=mov hbt hat
     have sa:=cb3 (a:=a) (d:=d) (n:=n) all
     rw[hk]at sa
     generalize d t=m at *
     by_cases r2:2<=(n:Int) - k - l
     ·omega
     ·by_cases r1:(n:Int) - k - l=1
      ·have e1:(n:Int) - 1 - l=k:=by omega
       have e2:(n:Int) - l=k+1:=by omega
       rw[e1]
       rw[e2,sa]at mv
       rw[sa]
       have x1:(k+1)*(k+1)=k*k+2*k+1:=by grind
       rw[x1]at mv
       by_cases c1:m<=k
       ·have:=aP9 c1 ka
        omega
       ·by_cases c2:m=k+1
        ·rw[c2,Int.mul_add,N3];omega
        ·omega
      ·have r0:(n:Int) - k - l=0:=by omega
       have e1:(n:Int) - 1 - l=k - 1:=by omega
       have e2:(n:Int) - l=k:=by omega
       have pr:=par r0
       rw[e1]at pr ⊢
       rw[e2,sa]at mv
       rw[sa]at pr ⊢
       have x1:(k+1)*k=k*k+k:=by grind
       have x2:k*(k - 1)=k*k - k:=by grind
       rw[x1]at mv
       rw[x2]at pr ⊢
       by_cases c1:m<=k - 1
       ·have:=aP9 c1 ka
        rw[x2]at this
        omega
       ·by_cases c2:m=k
        ·subst c2
         have:=pr (by omega)
         omega
        ·omega
end Grf
namespace Grf
theorem bd3 {p:Nat->Prop}{f:Nat->Int}:∀ {n:Nat},(∃ i,i<n/\p i)->∃ u,u<n/\p u/\∀ i,i<n->p i->f u<=f i:=by
 intro n
 induction n with
 | zero=>rintro⟨i,h,_⟩;omega
 | succ n ih =>
  rintro⟨i,hi,pi⟩
  by_cases h:∃ i,i<n/\p i
  ·obtain⟨u,hu,pu,hm⟩:=ih h
   by_cases c:p n/\f n<f u
   ·refine⟨n,by omega,c.1,fun j hj pj=>?_⟩
    by_cases e:j=n
    ·rw[e];exact K2 _
    ·have:=hm j (by omega) pj;have:=c.2;omega
   ·refine⟨u,by omega,pu,fun j hj pj=>?_⟩
    by_cases e:j=n
    ·subst e
     have:¬ f j<f u:=fun z=>c ⟨pj,z⟩
     omega
    ·exact hm j (by omega) pj
  ·have e:i=n:=by
    by_cases e:i=n
    ·exact e
    ·exact absurd ⟨i,by omega,pi⟩ h
   subst e
   refine⟨i,by omega,pi,fun j hj pj=>?_⟩
   by_cases e:j=i
   ·rw[e];exact K2 _
   ·exact absurd ⟨j,by omega,pj⟩ h
theorem bW6 {p:Nat->Prop}{f:Nat->Int}(h:∃ i,i<n/\p i):∃ u,u<n/\p u/\∀ i,i<n->p i->f i<=f u:=by
 obtain⟨u,h1,h2,h3⟩:=bd3 (f:=fun i=>-f i) h
 exact⟨u,h1,h2,fun i hi pi=>by have:=h3 i hi pi;omega⟩
theorem aV2:∀ (m n:Nat) (d:Nat->Int),(∀ i,i<n->0<=d i)->ae3 n d->S n d=2*(m:Int)->∃ g,Gph g/\∀ i,i<n->deg n g i=d i:=by
 intro m
 induction m with
 | zero =>
  intro n d hd K hs
  refine⟨fun _ _=>false,⟨fun _ _=>rfl,fun _=>rfl⟩,fun i hi=>?_⟩
  have h1:=aj5 hi hd
  have h2:=hd i hi
  have h3:deg n (fun _ _=>false) i=0:=O0 n
  rw[h3]
  have:S n d=0:=by rw[hs];rfl
  omega
 | succ m ih =>
  intro n d hd K hs
  have hpos:∃ i,i<n/\0<d i:=by
   have:=bz5 (f:=fun _=>0) (g:=d) (n:=n) (by rw[O0,hs];omega)
   exact this
  obtain⟨t,ht,htp,hmax0⟩:=bW6 (p:=fun i=>0<d i) (f:=d) hpos
  have hmax:∀ i,i<n->d i<=d t:=fun i hi=>by
   by_cases c:0<d i
   ·exact hmax0 i hi c
   ·omega
  have cb:cnt n (fun i=>decide (i≠t/\d i<=0))+cnt n (fun i=>decide (i≠t/\0<d i))+1=n:=by
   unfold cnt
   have e:=ah0 (n:=n) (j:=t) 1 ht
   rw[<- X3]
   have:S n (fun i=>(b2 (decide (i≠t/\d i<=0))+b2 (decide (i≠t/\0<d i)))+(if i=t then 1 else 0))=(n:Int)*1:=by
    rw[<- ad4]
    refine A8 fun i hi=>?_
    by_cases e1:i=t
    ·subst e1;simp[b2]
    ·by_cases c:0<d i
     ·have c':¬ d i<=0:=by omega
      simp[b2,e1,c,c']
     ·have c':d i<=0:=by omega
      simp[b2,e1,c,c']
   rw[X3,e]at this
   show S n (fun i=>b2 (decide (i≠t/\d i<=0))+b2 (decide (i≠t/\0<d i)))+1=_
   omega
  have ca:cnt n (fun i=>decide (i=t))=1:=by
   unfold cnt
   rw[A8 (g:=fun i=>if i=t then 1 else 0) fun i _=>by by_cases e:i=t<;>simp[b2,e]]
   exact ah0 1 ht
  have sa:sm n (fun i=>decide (i=t)) d=d t:=by
   unfold sm
   rw[A8 (g:=fun i=>if i=t then d t else 0) fun i _=>by by_cases e:i=t<;>simp[e]]
   exact ah0 _ ht
  have sb:sm n (fun i=>decide (i≠t/\d i<=0)) d=0:=by
   unfold sm
   rw[A8 (g:=fun _=>0) fun i hi=>by
    by_cases e:i≠t/\d i<=0
    ·have:=hd i hi
     rw[if_pos (decide_eq_true e)]
     have:=e.2
     omega
    ·rw[if_neg (show ¬ decide (i≠t/\d i<=0)=true by rw[decide_eq_false e];decide)]]
   exact O0 n
  have kt:=K (fun i=>decide (i=t)) (fun i=>decide (i≠t/\d i<=0)) (fun i hi=>by
   have:i=t:=of_decide_eq_true hi
   exact decide_eq_false fun z=>z.1 this)
  rw[ca,sa,sb,aY2]at kt
  have hoth:∃ i,i<n/\(i≠t/\0<d i):=by
   obtain⟨i,hi,h⟩:=ax8 (n:=n) (a:=fun i=>decide (i≠t/\0<d i)) (by omega)
   exact⟨i,hi,of_decide_eq_true h⟩
  obtain⟨u,hu,⟨hut,hup⟩,hmin0⟩:=bd3 (p:=fun i=>i≠t/\0<d i) (f:=d) hoth
  have hmin:∀ i,i<n->0<d i->d u<=d i:=fun i hi hp=>by
   by_cases e:i=t
   ·rw[e];exact hmax u hu
   ·exact hmin0 i hi ⟨e,hp⟩
  have htu:t≠u:=Ne.symm hut
  have K':=bv9 K hd ⟨_,hs⟩ ht hu htu hup hmax hmin
  obtain⟨g,hg,dg⟩:=ih n _ (fun i hi=>by
   show 0<=d i - (if i=t then 1 else 0) - (if i=u then 1 else 0)
   by_cases e1:i=t
   ·subst e1;rw[if_pos rfl,if_neg htu];omega
   ·by_cases e2:i=u
    ·subst e2;rw[if_neg e1,if_pos rfl];omega
    ·rw[if_neg e1,if_neg e2];have:=hd i hi;omega) K' (by
   rw[R8,R8,ah0 _ ht,ah0 _ hu,hs];omega)
  cases hgu:g t u with
  | false =>
   refine⟨O7 g t u true,J6 hg htu,fun i hi=>?_⟩
   rw[N9 hg htu ht hu,dg i hi,hgu,U0,P0]
   show d i - (if i=t then 1 else 0) - (if i=u then 1 else 0)+_=_
   by_cases e1:i=t
   ·subst e1;rw[if_pos rfl,if_neg htu,if_pos (.inl rfl)];omega
   ·by_cases e2:i=u
    ·subst e2;rw[if_neg e1,if_pos rfl,if_pos (.inr rfl)];omega
    ·rw[if_neg e1,if_neg e2,if_neg (by omega)];omega
  | true =>
   obtain⟨s,hs1,hst,hsp,hgs⟩:∃ s,s<n/\s≠t/\0<d s/\g t s=false:=by
    by_cases hc:∃ s,s<n/\s≠t/\0<d s/\g t s=false
    ·exact hc
    ·have le:cnt n (fun i=>decide (i≠t/\0<d i))<=deg n g t:=as8 fun i hi=>by
      show b2 (decide (i≠t/\0<d i))<=b2 (g t i)
      by_cases e:i≠t/\0<d i
      ·have:g t i=true:=by
        cases h:g t i with
        | true=>rfl
        | false=>exact absurd ⟨i,hi,e.1,e.2,h⟩ hc
       rw[this,decide_eq_true e];exact K2 _
      ·rw[decide_eq_false e];exact B2 _
     have dt:=dg t ht
     have dt':deg n g t=d t - 1 - 0:=by
      rw[dt]
      show d t - (if t=t then 1 else 0) - (if t=u then 1 else 0)=_
      rw[if_pos rfl,if_neg htu]
     omega
   have su:s≠u:=fun e=>by rw[e,hgu]at hgs;cases hgs
   have ds:deg n g s=d s:=by
    rw[dg s hs1]
    show d s - (if s=t then 1 else 0) - (if s=u then 1 else 0)=_
    rw[if_neg hst,if_neg su];omega
   have du:deg n g u=d u - 1:=by
    rw[dg u hu]
    show d u - (if u=t then 1 else 0) - (if u=u then 1 else 0)=_
    rw[if_neg hut,if_pos rfl];omega
   obtain⟨z,hz,zs,zu,h1,h2⟩:=cf1 hg hs1 hu su (by have:=hmin s hs1 hsp;omega)
   have zt:z≠t:=fun e=>by rw[e,hg.sym,hgs]at h1;cases h1
   have g1:=J6 (v:=false) hg (Ne.symm zs)
   have g2:=J6 (v:=true) g1 (Ne.symm hst)
   refine⟨O7 (O7 (O7 g s z false) t s true) u z true,J6 g2 (Ne.symm zu),fun i hi=>?_⟩
   rw[N9 g2 (Ne.symm zu) hu hz,N9 g1 (Ne.symm hst) ht hs1,N9 hg (Ne.symm zs) hs1 hz,dg i hi]
   have v1:O7 g s z false t s=false:=by rw[K4 (by omega)];exact hgs
   have v2:O7 (O7 g s z false) t s true u z=false:=by rw[K4 (by omega),K4 (by omega)];exact h2
   rw[h1,v1,v2,U0,P0]
   show d i - (if i=t then 1 else 0) - (if i=u then 1 else 0)+_+_+_=_
   by_cases e1:i=t
   ·subst e1;rw[if_pos rfl,if_neg htu,if_neg (by omega),if_pos (.inl rfl),if_neg (by omega)];omega
   ·by_cases e2:i=u
    ·subst e2;rw[if_neg e1,if_pos rfl,if_neg (by omega),if_neg (by omega),if_pos (.inl rfl)];omega
    ·rw[if_neg e1,if_neg e2]
     by_cases e3:i=s
     ·subst e3;rw[if_pos (.inl rfl),if_pos (.inr rfl),if_neg (by omega)];omega
     ·by_cases e4:i=z
      ·subst e4;rw[if_pos (.inr rfl),if_neg (by omega),if_pos (.inr rfl)];omega
      ·rw[if_neg (by omega),if_neg (by omega),if_neg (by omega)];omega
theorem aA4 (hg:Gph g)(dg:∀ i,i<n->deg n g i=d i):ae3 n d:=by
 intro a b hab
 have e1:sm n a d=S n (fun i=>S n (fun j=>if a i=true then (if b j=true then b2 (g i j) else 0) else 0))+S n (fun i=>S n (fun j=>if a i=true then (if b j=true then 0 else b2 (g i j)) else 0)):=by
  rw[<- X3]
  refine A8 fun i hi=>?_
  rw[<- X3]
  cases a i with
  | true =>
   rw[if_pos rfl,<- dg i hi]
   refine A8 fun j _=>?_
   cases b j with
   | true=>simp
   | false=>simp
  | false =>
   rw[if_neg (by decide),A8 (g:=fun _=>0) fun j _=>by simp,O0]
 have e2:S n (fun i=>S n (fun j=>if a i=true then (if b j=true then b2 (g i j) else 0) else 0))<=sm n b d:=by
  rw[bz3]
  refine as8 fun j hj=>?_
  cases hb:b j with
  | true =>
   rw[if_pos rfl,<- dg j hj]
   refine as8 fun i _=>?_
   show (if a i=true then (if true=true then b2 (g i j) else 0) else 0)<=b2 (g j i)
   rw[if_pos rfl,hg.sym j i]
   cases a i with
   | true=>rw[if_pos rfl];exact K2 _
   | false=>rw[if_neg (by decide)];exact B2 _
  | false =>
   rw[if_neg (by decide)]
   have:S n (fun i=>if a i=true then (if false=true then b2 (g i j) else 0) else 0)=0:=by
    rw[A8 (g:=fun _=>0) fun i _=>by simp]
    exact O0 n
   rw[this]
   exact K2 _
 have e3:S n (fun i=>S n (fun j=>if a i=true then (if b j=true then 0 else b2 (g i j)) else 0))<=cnt n a*((n:Int) - 1 - cnt n b):=by
  have:cnt n a*((n:Int) - 1 - cnt n b)=S n (fun i=>((n:Int) - 1 - cnt n b)*b2 (a i)):=by rw[av0,bA7];rfl
  rw[this]
  refine as8 fun i hi=>?_
  cases ha:a i with
  | true =>
   rw[U0,N3]
   have hbi:=hab i ha
   have t:S n (fun j=>if true=true then (if b j=true then 0 else b2 (g i j)) else 0)<=S n (fun j=>(1 - b2 (b j)) - (if j=i then 1 else 0)):=as8 fun j hj=>by
    show (if true=true then (if b j=true then 0 else b2 (g i j)) else 0)<=_
    rw[if_pos rfl]
    by_cases e:j=i
    ·subst e
     rw[hbi,if_neg (by decide),hg.irr,if_pos rfl];decide
    ·rw[if_neg e]
     cases b j with
     | true=>rw[if_pos rfl];decide
     | false=>rw[if_neg (by decide)];have:=aI6 (g i j);rw[P0];omega
   rw[R8,R8,ah0 _ hi,ad4,N3]at t
   unfold cnt
   omega
  | false =>
   rw[P0,aq9,A8 (g:=fun _=>0) fun j _=>by simp,O0]
   exact K2 _
 omega
end Grf
namespace Grf
def mnf (r x:Int):Int:=if r<x then r else x
theorem bH4 (r x:Int):mnf r x<=x:=by unfold mnf;split<;>omega
theorem bH3 (r x:Int):mnf r x<=r:=by unfold mnf;split<;>omega
theorem bv2 {r x y:Int}(h:x<=y):mnf r x<=mnf r y:=by unfold mnf;split<;>split<;>omega
def roomF (n:Nat)(d:Nat->Int)(A:Nat->Bool):Int:=cnt n A*(cnt n A - 1)+S n (fun i=>if A i=true then 0 else mnf (cnt n A) (d i)) - sm n A d
def Top (n:Nat)(d:Nat->Int)(A:Nat->Bool):Prop:=∀ i j,i<n->j<n->A i=true->A j=false->d j<=d i
theorem bq2 {A a:Nat->Bool}{φ:Int->Int}(hφ:∀ x y,x<=y->φ x<=φ y)(ht:Top n d A)(hc:cnt n a=cnt n A):sm n a (fun i=>φ (d i))<=sm n A (fun i=>φ (d i)):=by
 by_cases h0:cnt n A=0
 ·have za:∀ i,i<n->a i=false:=fun i hi=>by
   cases h:a i with
   | false=>rfl
   | true =>
    have:=aj5 (f:=fun i=>b2 (a i)) hi (fun i _=>B2 _)
    have e:b2 (a i)=1:=by rw[h];rfl
    have t:b2 (a i)<=cnt n a:=this
    omega
  have zA:∀ i,i<n->A i=false:=fun i hi=>by
   cases h:A i with
   | false=>rfl
   | true =>
    have:=aj5 (f:=fun i=>b2 (A i)) hi (fun i _=>B2 _)
    have e:b2 (A i)=1:=by rw[h];rfl
    have t:b2 (A i)<=cnt n A:=this
    omega
  rw[aw9 za,aw9 zA]
  exact K2 _
 ·obtain⟨m,hm,hAm,hmin⟩:=bd3 (p:=fun i=>A i=true) (f:=d) (ax8 h0)
  have key:S n (fun i=>(if a i=true then φ (d i) else 0) - (if A i=true then φ (d i) else 0))<=S n (fun i=>φ (d m)*b2 (a i) - φ (d m)*b2 (A i)):=as8 fun i hi=>by
   cases ha:a i with
   | true =>
    cases hA:A i with
    | true=>rw[if_pos rfl];omega
    | false =>
     rw[if_pos rfl,if_neg (by decide),U0,P0,N3,aq9]
     have:=hφ _ _ (ht m i hm hi hAm hA)
     omega
   | false =>
    cases hA:A i with
    | true =>
     rw[if_pos rfl,if_neg (by decide),U0,P0,N3,aq9]
     have:=hφ _ _ (hmin i hi hA)
     omega
    | false=>rw[if_neg (by decide)];omega
  rw[R8,R8,av0,av0]at key
  have e:φ (d m)*S n (fun i=>b2 (a i))=φ (d m)*S n (fun i=>b2 (A i)):=by
   show φ (d m)*cnt n a=φ (d m)*cnt n A
   rw[hc]
  show S n (fun i=>if a i=true then φ (d i) else 0)<=S n (fun i=>if A i=true then φ (d i) else 0)
  omega
theorem bb9 (hd:∀ i,i<n->0<=d i)(h:∀ r:Nat,1<=r->r<=n->∃ A,cnt n A=r/\Top n d A/\0<=roomF n d A):ae3 n d:=by
 intro a b hab
 have k0:=ad2 n a
 have kr:=ax7 (n:=n) hab
 have kb:=ad2 n b
 by_cases hz:cnt n a=0
 ·have za:∀ i,i<n->a i=false:=fun i hi=>by
   cases h:a i with
   | false=>rfl
   | true =>
    have:=aj5 (f:=fun i=>b2 (a i)) hi (fun i _=>B2 _)
    have e:b2 (a i)=1:=by rw[h];rfl
    have t:b2 (a i)<=cnt n a:=this
    omega
  have:=aG2 (a:=b) hd
  rw[aw9 za,hz,bA8]
  omega
 ·obtain⟨A,hc,ht,r1⟩:=h (cnt n a).toNat (by omega) (by omega)
  have hcA:cnt n A=cnt n a:=by omega
  have r2:=bq2 (φ:=fun x=>x+mnf (cnt n a) x) (fun x y hxy=>by have:=bv2 (r:=cnt n a) hxy;omega) ht hcA.symm
  have sp:∀ c:Nat->Bool,sm n c (fun i=>d i+mnf (cnt n a) (d i))=sm n c d+S n (fun i=>mnf (cnt n a) (d i)) - S n (fun i=>if c i=true then 0 else mnf (cnt n a) (d i)):=fun c=>by
   unfold sm
   rw[<- X3,<- R8]
   refine A8 fun i _=>?_
   show (if c i=true then d i+mnf (cnt n a) (d i) else 0)=(if c i=true then d i else 0)+mnf (cnt n a) (d i) - (if c i=true then 0 else mnf (cnt n a) (d i))
   cases c i with
   | true=>rw[if_pos rfl,if_pos rfl,if_pos rfl];omega
   | false=>rw[if_neg (by decide),if_neg (by decide),if_neg (by decide)];omega
  rw[sp a,sp A]at r2
  unfold roomF at r1
  rw[hcA]at r1
  have low:S n (fun i=>if a i=true then 0 else mnf (cnt n a) (d i))<=sm n b d+cnt n a*((n:Int) - cnt n a - cnt n b):=by
   have e:cnt n a*((n:Int) - cnt n a - cnt n b)=S n (fun i=>cnt n a*(1 - b2 (a i) - b2 (b i))):=by
    rw[av0,R8,R8,ad4,N3];rfl
   rw[e]
   unfold sm
   rw[<- X3]
   refine as8 fun i hi=>?_
   cases ha:a i with
   | true =>
    have hb:=hab i ha
    rw[if_pos rfl,hb,if_neg (by decide),U0,P0]
    simp
   | false =>
    rw[if_neg (by decide),P0]
    cases b i with
    | true =>
     rw[if_pos rfl,U0]
     have:=bH4 (cnt n a) (d i)
     simp
     exact this
    | false =>
     rw[if_neg (by decide),P0]
     have:=bH3 (cnt n a) (d i)
     simp
     exact this
  have x:cnt n a*((n:Int) - 1 - cnt n b)=cnt n a*(cnt n a - 1)+cnt n a*((n:Int) - cnt n a - cnt n b):=by grind
  rw[x]
  omega
theorem aZ6 (K:ae3 n d)(A:Nat->Bool):0<=roomF n d A:=by
 have k:=K A (fun i=>!A i && decide (d i<cnt n A)) (fun i hi=>by simp[hi])
 have e:S n (fun i=>if A i=true then 0 else mnf (cnt n A) (d i))=sm n (fun i=>!A i && decide (d i<cnt n A)) d+cnt n A*((n:Int) - cnt n A - cnt n (fun i=>!A i && decide (d i<cnt n A))):=by
  have e1:cnt n A*((n:Int) - cnt n A - cnt n (fun i=>!A i && decide (d i<cnt n A)))=S n (fun i=>cnt n A*(1 - b2 (A i) - b2 (!A i && decide (d i<cnt n A)))):=by
   rw[av0,R8,R8,ad4,N3];rfl
  rw[e1]
  unfold sm
  rw[<- X3]
  refine A8 fun i hi=>?_
  show (if A i=true then 0 else mnf (cnt n A) (d i))=(if (!A i && decide (d i<cnt n A))=true then d i else 0)+cnt n A*(1 - b2 (A i) - b2 (!A i && decide (d i<cnt n A)))
  cases hA:A i with
  | true=>simp[b2]
  | false =>
   generalize cnt n A=r
   by_cases c:d i<r
   ·rw[decide_eq_true c]
    simp[b2,mnf]
    omega
   ·rw[decide_eq_false c]
    simp[b2,mnf]
    omega
 unfold roomF
 rw[e]
 have x:cnt n A*((n:Int) - 1 - cnt n (fun i=>!A i && decide (d i<cnt n A)))=cnt n A*(cnt n A - 1)+cnt n A*((n:Int) - cnt n A - cnt n (fun i=>!A i && decide (d i<cnt n A))):=by grind
 rw[x]at k
 omega
theorem aW1 (hg:Gph g):∀ n:Nat,∃ q,S n (deg n g)=2*q:=by
 intro n
 induction n with
 | zero=>exact⟨0,rfl⟩
 | succ n ih =>
  obtain⟨q,hq⟩:=ih
  refine⟨q+S n (fun i=>b2 (g i n)),?_⟩
  show S n (deg (n+1) g)+deg (n+1) g n=_
  have e1:S n (deg (n+1) g)=S n (deg n g)+S n (fun i=>b2 (g i n)):=by rw[<- X3];rfl
  have e2:deg (n+1) g n=S n (fun i=>b2 (g i n)):=by
   show S n (fun j=>b2 (g n j))+b2 (g n n)=_
   rw[hg.irr,P0,A8 (g:=fun i=>b2 (g i n)) fun i _=>by rw[hg.sym]]
   omega
  rw[e1,e2,hq]
  omega
end Grf
namespace Web
def mn (r x:Int):Int:=if r<x then r else x
theorem aK1:∀ a b:List Int,(a++b).sum=a.sum+b.sum
 | [],b=>by simp
 | x::a,b=>by rw[bY4,N2,N2,aK1 a b,Int.add_assoc]
theorem am4:∀ a:List Int,a.reverse.sum=a.sum
 | []=>rfl
 | x::a=>by rw[V5,aK1,am4 a,N2,N2,List.sum_nil];omega
def up2 (ns:List Int):List Int:=PySem.W.sortI ns
theorem aw6 (ns:List Int):(up2 ns).length=ns.length:=(PySem.W.sortI_perm ns).length_eq
theorem bh3 (hp:zs.Perm ns)(hs:zs.Pairwise (·≥·)):zs=(up2 ns).reverse:=by
 have h:zs.reverse=up2 ns:=PySem.W.eq_sortI ((List.reverse_perm zs).trans hp) (by rw[List.pairwise_reverse];exact hs)
 rw[<- h,List.reverse_reverse]
def part (m:Nat)(r:Int)(g:List Int):Int:=((g.take m).map (mn r)).sum - (g.drop m).sum
def ak1 (ns:List Int)(r:Nat):Int:=(r:Int)*((r:Int) - 1)+part (ns.length - r) r (up2 ns)
theorem aZ7 {r:Nat}(e:zs=(up2 ns).reverse):(r:Int)*((r:Int) - 1)+((zs.drop r).map (mn r)).sum - (zs.take r).sum=ak1 ns r:=by
 unfold ak1 part
 rw[e,bX3,bX4,bY5,am4,am4,aw6]
 omega
end Web
namespace Web
inductive Wl where
 | below (p:Nat) | odd | wall (r:Nat) | free
 deriving DecidableEq
def AllP (ns:List Int):Prop:=∀ (j:Nat) (x:Int),ns[j]?=some x->0<=x
def ad6 (ns:List Int):Wl->Prop
 | .below p=>(∃ x,ns[p]?=some x/\x<0)/\∀ (j:Nat) (x:Int),j<p->ns[j]?=some x->0<=x
 | .odd=>AllP ns/\ns.sum % 2=1
 | .wall r=>AllP ns/\¬ ns.sum % 2=1/\1<=r/\r<=ns.length/\ak1 ns r<0/\∀ k,1<=k->k<r->0<=ak1 ns k
 | .free=>AllP ns/\¬ ns.sum % 2=1/\∀ k,1<=k->k<=ns.length->0<=ak1 ns k
end Web
namespace Web
open L2
def rng (n:Nat):List Int:=(aj7 0 n).map fun k:Nat=>(k:Int)
theorem M9 {x:Int}:x∈rng n↔0<=x/\x<n:=by
 unfold rng
 constructor
 ·intro h
  obtain⟨k,hk,rfl⟩:=m6.mp h
  have:=aF3.mp hk
  omega
 ·intro h
  exact m6.mpr ⟨x.toNat,aF3.mpr ⟨by omega,by omega⟩,by omega⟩
theorem Y4 (n:Nat):(rng n).length=n:=by unfold rng;rw[a9,aC8]
theorem O8 (n:Nat):(rng n).Nodup:=by
 unfold rng
 refine List.Pairwise.map _ (fun a b h=>?_) (List.nodup_range' (step:=1) (by decide))
 intro e
 exact h (by omega)
def rest (zs:List Int)(p:Int):List Int:=zs.filter fun x=>decide (x≠p)
theorem an2 {p x:Int}:x∈rest zs p↔x∈zs/\x≠p:=by unfold rest;rw[C5,decide_eq_true_iff]
theorem az3 {p:Int}(hp:zs.Perm (rng n))(h0:0<=p)(h1:p<n):(rest zs p).length=n - 1:=by
 have nd:zs.Nodup:=hp.nodup_iff.mpr (O8 n)
 have hm:p∈zs:=hp.mem_iff.mpr (M9.mpr ⟨h0,h1⟩)
 have e:rest zs p=zs.erase p:=by
  unfold rest
  rw[nd.erase_eq_filter]
  congr 1
  funext x
  by_cases h:x=p<;>simp[h]
 rw[e,bj0 hm,hp.length_eq,Y4]
def X1 (ns es:List Int)(i:Nat):Int:=if (i:Int)∈es then ns.getD i 0 - 1 else ns.getD i 0
def P4 (ns:List Int)(p:Nat)(es:List Int):List Int:=((x6 ns.length).filter fun i=>decide (i≠p)).map (X1 ns es)
open Grf (S b2 Gph deg cnt sm Top roomF)
theorem bi7 (f:Nat->Int):∀ n:Nat,S n f=((x6 n).map f).sum
 | 0=>rfl
 | n+1=>by
  rw[K1,r9,aK1,<- bi7 f n]
  show S n f+f n=_+(f n+0)
  omega
theorem map_getD (φ:Int->Int)(xs:List Int):(x6 xs.length).map (fun i=>φ (xs.getD i 0))=xs.map φ:=by
 refine V7 fun i=>?_
 rw[r6,r6]
 rcases E6 i xs.length with h | h
 ·rw[R4 h,d6 h]
  show some (φ (xs.getD i 0))=some (φ xs[i])
  rw[i9,d6 h]
  rfl
 ·rw[o5 h,o5 (by rw[F9];exact h)]
  rfl
theorem bW7 (φ:Int->Int)(xs:List Int):S xs.length (fun i=>φ (xs.getD i 0))=(xs.map φ).sum:=by rw[bi7,map_getD]
theorem bz4 (xs:List Int):S xs.length (fun i=>xs.getD i 0)=xs.sum:=by
 have:=bW7 (fun x=>x) xs
 rw[List.map_id']at this
 exact this
theorem bd5 {f:Nat->Int}:∀ {L:List Int},L.Nodup->(∀ z∈L,0<=z/\z<n)->S n (fun i=>if (i:Int)∈L then f i else 0)=(L.map fun z=>f z.toNat).sum
 | [],_,_=>by
  rw[Grf.A8 (g:=fun _=>0) fun i _=>by simp]
  exact Grf.O0 n
 | z::L,nd,h=>by
  obtain⟨h1,h2⟩:=E9.mp nd
  obtain⟨z0,z1⟩:=h z f9
  rw[j9,N2,<- bd5 h2 fun y hy=>h y (d4 _ hy)]
  rw[Grf.Q2 (j:=z.toNat) (f:=fun i=>if (i:Int)∈z::L then f i else 0) (g:=fun i=>if (i:Int)∈L then f i else 0) (by omega) (fun i _ hi=>by
   show (if (i:Int)∈z::L then f i else 0)=if (i:Int)∈L then f i else 0
   by_cases e:(i:Int)∈L
   ·rw[if_pos e,if_pos (d4 _ e)]
   ·rw[if_neg e,if_neg (fun c=>by
     rcases g9.mp c with c | c
     ·exact hi (by omega)
     ·exact e c)])]
  show _+((if ((z.toNat:Nat):Int)∈z::L then f z.toNat else 0) - (if ((z.toNat:Nat):Int)∈L then f z.toNat else 0))=_
  have ez:((z.toNat:Nat):Int)=z:=by omega
  rw[ez,if_pos f9,if_neg h1]
  omega
theorem bE3 (ns:List Int):(rng ns.length).map (fun z=>ns.getD z.toNat 0)=ns:=by
 unfold rng
 rw[S0,<- bA9]
 have:=map_getD (fun x=>x) ns
 rw[List.map_id']at this
 exact this
theorem ba5 (hp:zs.Perm (rng ns.length))(hs:zs.Pairwise (ole ns)):zs.map (fun z=>ns.getD z.toNat 0)=(up2 ns).reverse:=by
 refine bh3 ?_ ?_
 ·have:=hp.map (fun z:Int=>ns.getD z.toNat 0)
  rw[bE3]at this
  exact this
 ·refine List.Pairwise.map _ (fun a b h=>?_) hs
  have:=Y7.mp h
  show ns.getD b.toNat 0<=ns.getD a.toNat 0
  omega
theorem aG6 (hp:zs.Perm (rng ns.length))(hs:zs.Pairwise (ole ns)){r:Nat}(hr:r<=ns.length) :
  cnt ns.length (fun i=>decide ((i:Int)∈zs.take r))=r/\Top ns.length (fun i=>ns.getD i 0) (fun i=>decide ((i:Int)∈zs.take r))/\roomF ns.length (fun i=>ns.getD i 0) (fun i=>decide ((i:Int)∈zs.take r))=ak1 ns r:=by
 have nd:zs.Nodup:=hp.nodup_iff.mpr (O8 _)
 have hzl:zs.length=ns.length:=by rw[hp.length_eq,Y4]
 have hin:∀ z∈zs,0<=z/\z<(ns.length:Int):=fun z hz=>M9.mp (hp.mem_iff.mp hz)
 have ndA:(zs.take r).Nodup:=nd.sublist (M6 r zs)
 have ndB:(zs.drop r).Nodup:=nd.sublist (bX5 r zs)
 have inA:∀ z∈zs.take r,0<=z/\z<(ns.length:Int):=fun z hz=>hin z (C0 hz)
 have inB:∀ z∈zs.drop r,0<=z/\z<(ns.length:Int):=fun z hz=>hin z (bB0 hz)
 have app:=nd
 rw[<- G3 r zs]at app
 have cross:=(ah5.mp app).2.2
 have mem_or:∀ i:Nat,i<ns.length->(i:Int)∈zs.take r\/(i:Int)∈zs.drop r:=fun i hi=>by
  have:(i:Int)∈zs:=hp.mem_iff.mpr (M9.mpr ⟨by omega,by omega⟩)
  rw[<- G3 r zs]at this
  exact l9.mp this
 have hc:cnt ns.length (fun i=>decide ((i:Int)∈zs.take r))=r:=by
  have:=bd5 (n:=ns.length) (f:=fun _=>1) ndA inA
  have e:cnt ns.length (fun i=>decide ((i:Int)∈zs.take r))=S ns.length (fun i=>if (i:Int)∈zs.take r then 1 else 0):=Grf.A8 fun i _=>by
   by_cases c:(i:Int)∈zs.take r
   ·rw[if_pos c];simp[b2,c]
   ·rw[if_neg c];simp[b2,c]
  rw[e,this]
  have l:(zs.take r).length=r:=by rw[t7];omega
  have:∀ L:List Int,(L.map fun _=>(1:Int)).sum=L.length:=fun L=>by
   induction L with
   | nil=>rfl
   | cons a L ih=>rw[j9,N2,ih,o9];omega
  rw[this,l]
 refine⟨hc,fun i j hi hj h1 h2=>?_,?_⟩
 ·have a1:(i:Int)∈zs.take r:=of_decide_eq_true h1
  have a2:(j:Int)∈zs.drop r:=(mem_or j hj).resolve_left (of_decide_eq_false h2)
  have pw:=hs
  rw[<- G3 r zs]at pw
  have:=Y7.mp ((Q5.mp pw).2.2 _ a1 _ a2)
  rw[i3,i3]at this
  show ns.getD j 0<=ns.getD i 0
  omega
 ·have of:=ba5 hp hs
  have rm:=aZ7 (ns:=ns) (r:=r) of
  unfold roomF
  rw[hc,<- rm,<- bp2,<- bp3,S0]
  have s1:sm ns.length (fun i=>decide ((i:Int)∈zs.take r)) (fun i=>ns.getD i 0)=((zs.take r).map fun z=>ns.getD z.toNat 0).sum:=by
   rw[<- bd5 (n:=ns.length) (f:=fun i=>ns.getD i 0) ndA inA]
   refine Grf.A8 fun i _=>?_
   show (if decide ((i:Int)∈zs.take r)=true then ns.getD i 0 else 0)=_
   by_cases c:(i:Int)∈zs.take r
   ·rw[if_pos c,decide_eq_true c,if_pos rfl]
   ·rw[if_neg c,decide_eq_false c,if_neg (by decide)]
  have s2:S ns.length (fun i=>if decide ((i:Int)∈zs.take r)=true then 0 else Grf.mnf r (ns.getD i 0))=((zs.drop r).map (mn r ∘ fun z=>ns.getD z.toNat 0)).sum:=by
   have:=bd5 (n:=ns.length) (f:=fun i=>mn r (ns.getD i 0)) ndB inB
   show _=((zs.drop r).map fun z=>mn r (ns.getD z.toNat 0)).sum
   rw[<- this]
   refine Grf.A8 fun i hi=>?_
   by_cases c:(i:Int)∈zs.take r
   ·rw[decide_eq_true c,if_pos rfl,if_neg (fun z=>cross _ c _ z rfl)]
   ·rw[decide_eq_false c,if_neg (by decide),if_pos ((mem_or i hi).resolve_left c)]
    rfl
  rw[s1,s2]
theorem ar7 (ns:List Int):∃ zs:List Int,zs.Perm (rng ns.length)/\zs.Pairwise (ole ns):=by
 let le:Int->Int->Bool:=fun x y=>decide (ns.getD y.toNat 0<ns.getD x.toNat 0\/(ns.getD x.toNat 0=ns.getD y.toNat 0/\x<=y))
 refine⟨(rng ns.length).mergeSort le,List.mergeSort_perm _ _,?_⟩
 have:=List.pairwise_mergeSort (le:=le) (fun a b c h1 h2=>?_) (fun a b=>?_) (rng ns.length)
 ·exact this.imp fun h=>Y7.mpr (of_decide_eq_true h)
 ·have g1:=of_decide_eq_true h1
  have g2:=of_decide_eq_true h2
  exact decide_eq_true (by omega)
 ·rw[Bool.or_eq_true]
  by_cases h:ns.getD b.toNat 0<ns.getD a.toNat 0\/(ns.getD a.toNat 0=ns.getD b.toNat 0/\a<=b)
  ·exact .inl (decide_eq_true h)
  ·exact .inr (decide_eq_true (by omega))
def Gr (ns:List Int):Prop:=∃ g,Gph g/\∀ i,i<ns.length->deg ns.length g i=ns.getD i 0
theorem ab0 (h:AllP ns)(hi:i<ns.length):0<=ns.getD i 0:=by
 rw[i9,d6 hi]
 exact h i _ (d6 hi)
theorem aO3 (h:ad6 ns .free):Gr ns:=by
 obtain⟨h1,h2,h3⟩:=h
 obtain⟨zs,hp,hs⟩:=ar7 ns
 have hd:∀ i,i<ns.length->0<=ns.getD i 0:=fun i hi=>ab0 h1 hi
 have K:=Grf.bb9 (d:=fun i=>ns.getD i 0) hd fun r r1 r2=>by
  obtain⟨a1,a2,a3⟩:=aG6 hp hs r2
  exact⟨_,a1,a2,by rw[a3];exact h3 r r1 r2⟩
 have s0:0<=ns.sum:=by rw[<- bz4];exact Grf.O1 hd
 obtain⟨g,hg,dg⟩:=Grf.aV2 (ns.sum / 2).toNat ns.length (fun i=>ns.getD i 0) hd K (by rw[bz4];omega)
 exact⟨g,hg,dg⟩
theorem as2 (h:Gr ns):AllP ns:=by
 obtain⟨g,hg,dg⟩:=h
 intro j x hx
 have hj:j<ns.length:=by
  rcases E6 j ns.length with h | h
  ·exact h
  ·rw[o5 h]at hx;cases hx
 have:=dg j hj
 rw[i9,hx]at this
 have e:deg ns.length g j=x:=this
 rw[<- e]
 exact Grf.O1 fun i _=>Grf.B2 _
theorem aO2 (h:Gr ns):ad6 ns .free:=by
 have pos:=as2 h
 obtain⟨g,hg,dg⟩:=h
 refine⟨pos,?_,fun k k1 k2=>?_⟩
 ·obtain⟨q,hq⟩:=Grf.aW1 hg ns.length
  rw[Grf.A8 (g:=fun i=>ns.getD i 0) fun i hi=>dg i hi,bz4]at hq
  omega
 ·obtain⟨zs,hp,hs⟩:=ar7 ns
  obtain⟨_,_,a3⟩:=aG6 hp hs k2
  rw[<- a3]
  exact Grf.aZ6 (Grf.aA4 hg dg) _
end Web
namespace Web
open L2
open Grf (S b2 Gph deg O7)
def gW (ks:List (List Int))(i j:Nat):Bool:=decide ([(i:Int),(j:Int)]∈ks) || decide ([(j:Int),(i:Int)]∈ks)
theorem bI8 {a b:Nat}:gW ([(a:Int),(b:Int)]::ks)=O7 (gW ks) a b true:=by
 funext i j
 unfold gW O7
 have e1:([(i:Int),(j:Int)]=[(a:Int),(b:Int)])↔(i=a/\j=b):=by
  constructor
  ·intro h;injection h with h1 h2;injection h2 with h2;omega
  ·rintro⟨rfl,rfl⟩;rfl
 have e2:([(j:Int),(i:Int)]=[(a:Int),(b:Int)])↔(i=b/\j=a):=by
  constructor
  ·intro h;injection h with h1 h2;injection h2 with h2;omega
  ·rintro⟨rfl,rfl⟩;rfl
 by_cases c:(i=a/\j=b)\/(i=b/\j=a)
 ·rw[if_pos c]
  rcases c with c | c
  ·simp[e1.mpr c]
  ·simp[e2.mpr c]
 ·rw[if_neg c]
  have c1:¬ [(i:Int),(j:Int)]=[(a:Int),(b:Int)]:=fun z=>c (.inl (e1.mp z))
  have c2:¬ [(j:Int),(i:Int)]=[(a:Int),(b:Int)]:=fun z=>c (.inr (e2.mp z))
  simp only[g9,c1,c2,false_or]
theorem bx1 (h:∀ k∈ks,Up n k):Gph (gW ks) where
 sym:=fun i j=>by unfold gW;rw[Bool.or_comm]
 irr:=fun i=>by
  have:¬ [(i:Int),(i:Int)]∈ks:=fun z=>by
   obtain⟨a,b,h1,h2,e⟩:=h _ z
   injection e with e1 e2
   injection e2 with e2
   omega
  unfold gW
  rw[decide_eq_false this];rfl
theorem bc7:∀ {ks:List (List Int)},ks.Nodup->(∀ k∈ks,Up n k)->∀ i,deg n (gW ks) i=(M3 ks i:Int)
 | [],_,_,i=>by
  have:deg n (gW []) i=S n (fun _=>0):=Grf.A8 fun j _=>by simp[gW,b2]
  rw[this,Grf.O0]
  rfl
 | k::ks,nd,h,i=>by
  obtain⟨n1,n2⟩:=E9.mp nd
  obtain⟨a,b,h1,h2,e⟩:=h k f9
  subst e
  have hk:∀ k∈ks,Up n k:=fun k hk=>h k (d4 _ hk)
  have hf:gW ks a b=false:=by
   have:¬ [(b:Int),(a:Int)]∈ks:=fun z=>by
    obtain⟨x,y,u1,u2,e⟩:=hk _ z
    injection e with e1 e2
    injection e2 with e2
    omega
   unfold gW
   rw[decide_eq_false n1,decide_eq_false this];rfl
  rw[bI8,Grf.N9 (bx1 hk) (by omega) (by omega) h2,bc7 n2 hk i,hf]
  have ec:M3 ([(a:Int),(b:Int)]::ks) i=M3 ks i+(if i=a\/i=b then 1 else 0):=by
   show aw2 _ _=aw2 _ _+_
   rw[ak7]
   congr 1
   have:decide ((i:Int)∈[(a:Int),(b:Int)])=decide (i=a\/i=b):=by
    congr 1
    rw[g9,j0]
    exact propext ⟨fun z=>by omega,fun z=>by omega⟩
   rw[this]
   by_cases c:i=a\/i=b
   ·rw[decide_eq_true c,if_pos rfl,if_pos c]
   ·rw[decide_eq_false c,if_neg (by decide),if_neg c]
  rw[ec]
  by_cases c:i=a\/i=b
  ·rw[if_pos c,if_pos c];simp[b2]
  ·rw[if_neg c,if_neg c];simp
theorem aR1 (h:i<n):(tal n ks).getD i 0=(M3 ks i:Int):=by
 rw[i9,Q8 h];rfl
theorem bO4 (nd:ks.Nodup)(h:∀ k∈ks,Up n k):Gr (tal n ks):=by
 refine⟨gW ks,bx1 h,fun i hi=>?_⟩
 rw[L9]at hi ⊢
 rw[bc7 nd h,aR1 hi]
def C4:List (List Int)->Nat->List (List Int)
 | [],_=>[]
 | p::ps,m=>(if m % 2=1 then [p] else [])++C4 ps (m / 2)
theorem am5:∀ (ps:List (List Int)) (m:Nat),(C4 ps m).Sublist ps
 | [],_=>.slnil
 | p::ps,m=>by
  unfold C4
  by_cases c:m % 2=1
  ·rw[if_pos c];exact(am5 ps (m / 2)).cons₂ p
  ·rw[if_neg c];exact(am5 ps (m / 2)).cons p
theorem aF9:∀ (ps:List (List Int)) (i m:Nat) (q:List Int),ps[i]?=some q->C4 (ps.take (i+1)) m=C4 (ps.take i) m++(if m / 2 ^ i % 2=1 then [q] else [])
 | [],i,m,q,h=>by simp at h
 | p::ps,0,m,q,h=>by
  have e:p=q:=by simpa using h
  subst e
  simp[C4]
 | p::ps,i+1,m,q,h=>by
  have h':ps[i]?=some q:=by simpa using h
  rw[bK1,bK1]
  show _++C4 (ps.take (i+1)) (m / 2)=_++C4 (ps.take i) (m / 2)++_
  rw[aF9 ps i (m / 2) q h',ah4,al9,aP7,Nat.mul_comm 2]
theorem aR2 (p:List Int->Bool):∀ ps:List (List Int),∃ m,m<2 ^ ps.length/\C4 ps m=ps.filter p
 | []=>⟨0,by decide,rfl⟩
 | k::ps=>by
  obtain⟨m,hm,e⟩:=aR2 p ps
  cases hp:p k with
  | true =>
   refine⟨2*m+1,by rw[o9,aP7];omega,?_⟩
   unfold C4
   rw[if_pos (by omega),show (2*m+1) / 2=m by omega,e,aj8 hp]
   rfl
  | false =>
   refine⟨2*m,by rw[o9,aP7];omega,?_⟩
   unfold C4
   rw[if_neg (by omega),show (2*m) / 2=m by omega,e,aj9 (by rw[hp];decide)]
   rfl
theorem aN0 (h1:i<j)(h2:j<n):[(i:Int),(j:Int)]∈j5 n:=by
 unfold j5
 refine bY3.mpr ⟨i,A1.mpr (by omega),?_⟩
 unfold ac4
 exact m6.mpr ⟨j - (i+1),A1.mpr (by omega),by
  rw[show ((j - (i+1):Nat):Int)=(j:Int) - ((i:Int)+1) by omega]
  rw[show (i:Int)+1+((j:Int) - ((i:Int)+1))=(j:Int) by omega]⟩
theorem aB1:Gr ts↔∃ m,m<2 ^ (j5 ts.length).length/\tal ts.length (C4 (j5 ts.length) m)=ts:=by
 constructor
 ·rintro⟨g,hg,dg⟩
  obtain⟨m,hm,e⟩:=aR2 (fun k=>g (k.getD 0 0).toNat (k.getD 1 0).toNat) (j5 ts.length)
  refine⟨m,hm,?_⟩
  rw[e]
  have hU:∀ k∈(j5 ts.length).filter (fun k=>g (k.getD 0 0).toNat (k.getD 1 0).toNat),Up ts.length k:=fun k hk=>V9 (C5.mp hk).1
  have nd:((j5 ts.length).filter (fun k=>g (k.getD 0 0).toNat (k.getD 1 0).toNat)).Nodup:=(as7 (aI7 _)).filter _
  have mem:∀ i j:Nat,i<j->j<ts.length->([(i:Int),(j:Int)]∈(j5 ts.length).filter (fun k=>g (k.getD 0 0).toNat (k.getD 1 0).toNat)↔g i j=true):=fun i j h1 h2=>by
   rw[C5]
   have e:∀ x y:Nat,([(x:Int),(y:Int)].getD 0 0).toNat=x/\([(x:Int),(y:Int)].getD 1 0).toNat=y:=fun x y=>⟨i3 x,i3 y⟩
   rw[(e i j).1,(e i j).2]
   exact⟨fun z=>z.2,fun z=>⟨aN0 h1 h2,z⟩⟩
  have row:∀ i j:Nat,i<ts.length->j<ts.length->gW ((j5 ts.length).filter (fun k=>g (k.getD 0 0).toNat (k.getD 1 0).toNat)) i j=g i j:=fun i j hi hj=>by
   have up:∀ x y:Nat,[(x:Int),(y:Int)]∈(j5 ts.length).filter (fun k=>g (k.getD 0 0).toNat (k.getD 1 0).toNat)->x<y:=fun x y z=>by
    obtain⟨a,b,u1,u2,e⟩:=hU _ z
    injection e with e1 e2
    injection e2 with e2
    omega
   unfold gW
   rcases W4 i j with l | l | l
   ·rw[decide_eq_false (show ¬ [(j:Int),(i:Int)]∈(j5 ts.length).filter (fun k=>g (k.getD 0 0).toNat (k.getD 1 0).toNat) from fun z=>by have:=up j i z;omega),Z8]
    cases hgij:g i j with
    | true=>exact decide_eq_true ((mem i j l hj).mpr hgij)
    | false=>exact decide_eq_false fun z=>by rw[(mem i j l hj).mp z]at hgij;cases hgij
   ·subst l
    rw[hg.irr,decide_eq_false (fun z=>by have:=up i i z;omega)];rfl
   ·rw[decide_eq_false (show ¬ [(i:Int),(j:Int)]∈(j5 ts.length).filter (fun k=>g (k.getD 0 0).toNat (k.getD 1 0).toNat) from fun z=>by have:=up i j z;omega),aC7,hg.sym i j]
    cases hgij:g j i with
    | true=>exact decide_eq_true ((mem j i l hi).mpr hgij)
    | false=>exact decide_eq_false fun z=>by rw[(mem j i l hi).mp z]at hgij;cases hgij
  refine V7 fun i=>?_
  rcases E6 i ts.length with hi | hi
  ·rw[Q8 hi,<- bc7 nd hU i,d6 hi]
   congr 1
   have:=dg i hi
   rw[i9,d6 hi]at this
   have t:deg ts.length g i=ts[i]:=this
   rw[<- t]
   exact Grf.A8 fun j hj=>by rw[row i j hi hj]
  ·rw[o5 (by rw[L9];exact hi),o5 hi]
 ·rintro⟨m,_,e⟩
  rw[<- e]
  have s:=am5 (j5 ts.length) m
  refine bO4 ((as7 (aI7 _)).sublist s) fun k hk=>V9 (s.subset hk)
end Web
namespace Web
open L2
open Grf (S b2 Gph deg cnt sm Top roomF)
def sk (p i:Nat):Nat:=if i<p then i else i+1
theorem bL2 (p i:Nat):sk p i≠p:=by unfold sk;split<;>omega
theorem br7 {p:Nat}(h:i<n - 1)(hp:p<n):sk p i<n:=by unfold sk;split<;>omega
theorem aP2 {p:Nat}(f:Nat->Int):∀ {n:Nat},p<n->S n f=S (n - 1) (fun j=>f (sk p j))+f p
 | n+1,h=>by
  show S n f+f n=S n (fun j=>f (sk p j))+f p
  by_cases e:p=n
  ·subst e
   rw[Grf.A8 (g:=fun j=>f (sk p j)) fun i hi=>by show f i=f (sk p i);unfold sk;rw[if_pos hi]]
  ·have hp:p<n:=by omega
   rw[aP2 f hp]
   obtain⟨m,rfl⟩:∃ m,n=m+1:=⟨n - 1,by omega⟩
   have e1:sk p m=m+1:=by unfold sk;rw[if_neg (by omega)]
   show S m (fun j=>f (sk p j))+f p+f (m+1)=S m (fun j=>f (sk p j))+f (sk p m)+f p
   rw[e1]
   omega
theorem Y9 {p:Nat}:∀ {n:Nat},p<n->(x6 n).filter (fun i=>decide (i≠p))=(x6 (n - 1)).map (sk p)
 | n+1,h=>by
  rw[K1,P1,bX6]
  by_cases e:p=n
  ·subst e
   have e1:[p].filter (fun i=>decide (i≠p))=[]:=by simp
   rw[e1,G2,List.filter_eq_self.mpr fun a ha=>decide_eq_true (by have:=A1.mp ha;omega)]
   conv=>lhs;rw[<- List.map_id (x6 p)]
   exact R5 fun a ha=>by
    show a=sk p a
    unfold sk;rw[if_pos (A1.mp ha)]
  ·have hp:p<n:=by omega
   have e1:[n].filter (fun i=>decide (i≠p))=[n]:=by
    rw[bY6,if_pos (decide_eq_true (Ne.symm e))];rfl
   rw[e1,Y9 hp]
   obtain⟨m,rfl⟩:∃ m,n=m+1:=⟨n - 1,by omega⟩
   have e2:sk p m=m+1:=by unfold sk;rw[if_neg (by omega)]
   rw[bX6,K1 (n:=m),r9,List.map_singleton,e2]
theorem aU5 {es:List Int}{p:Nat}(h:p<ns.length):P4 ns p es=(x6 (ns.length - 1)).map fun i=>X1 ns es (sk p i):=by
 unfold P4
 rw[Y9 h,S0]
 rfl
theorem aa5 {es:List Int}{p:Nat}(h:p<ns.length):(P4 ns p es).length=ns.length - 1:=by rw[aU5 h,a9,F9]
theorem as0 {es:List Int}{p:Nat}(h:p<ns.length)(hi:i<ns.length - 1):(P4 ns p es).getD i 0=X1 ns es (sk p i):=by
 rw[aU5 h,i9,r6,R4 hi]
 rfl
theorem aB2 (h:Gr ns)(hi:i<ns.length):ns.getD i 0<ns.length:=by
 obtain⟨g,hg,hd⟩:=h
 rw[<- hd i hi]
 unfold deg
 rw[aP2 (p:=i) _ hi,hg.irr]
 have h1:S (ns.length - 1) (fun j=>b2 (g i (sk i j)))<=S (ns.length - 1) (fun _=>1):=Grf.as8 fun j _=>Grf.aI6 _
 rw[Grf.ad4]at h1
 have:b2 false=0:=rfl
 omega
theorem bI7 {es:List Int} {p:Nat} (h:Gr ns) (hp:p<ns.length) (nd:es.Nodup) (he:∀ z∈es,0<=z/\z<ns.length/\z≠p) (hl:(es.length:Int)=ns.getD p 0)
  (ht:∀ x∈es,∀ y:Nat,y<ns.length->(y:Int)∉es->y≠p->ns.getD y 0<=ns.getD x.toNat 0):Gr (P4 ns p es):=by
 obtain⟨g,hg,hd⟩:=h
 have hs:S ns.length (fun j=>b2 (decide ((j:Int)∈es)))=(es.length:Int):=by
  rw[Grf.A8 (g:=fun i=>if (i:Int)∈es then 1 else 0) fun i _=>by
   by_cases e:(i:Int)∈es
   ·rw[decide_eq_true e,if_pos e];rfl
   ·rw[decide_eq_false e,if_neg e];rfl]
  rw[bd5 (f:=fun _=>1) nd fun z hz=>⟨(he z hz).1,(he z hz).2.1⟩]
  clear he hl ht nd
  induction es with
  | nil=>rfl
  | cons a es ih=>rw[j9,N2,ih,o9];omega
 have hNp:decide ((p:Int)∈es)=false:=decide_eq_false fun m=>(he _ m).2.2 rfl
 have hm:0<=S ns.length (fun j=>b2 (decide ((j:Int)∈es) && !g p j)):=Grf.O1 fun i _=>Grf.B2 _
 obtain⟨g',k1,k2,k3⟩:=Grf.ce8 (N:=fun j=>decide ((j:Int)∈es)) hp hNp (S ns.length (fun j=>b2 (decide ((j:Int)∈es) && !g p j))).toNat g hg (by rw[hs,hl,hd p hp])
  (fun x y hx hy hNx hNy hyp => by
   rw[hd x hx,hd y hy]
   have:=ht x (of_decide_eq_true hNx) y hy (of_decide_eq_false hNy) hyp
   rw[i3]at this
   exact this) (by omega)
 refine⟨fun i j=>g' (sk p i) (sk p j),⟨fun i j=>k1.sym _ _,fun i=>k1.irr _⟩,fun i hi=>?_⟩
 rw[aa5 hp]at hi ⊢
 rw[as0 hp hi]
 have hsk:=br7 (p:=p) hi hp
 have e1:=k2 _ hsk
 rw[hd _ hsk]at e1
 have e2:deg ns.length g' (sk p i)=S (ns.length - 1) (fun j=>b2 (g' (sk p i) (sk p j)))+b2 (g' (sk p i) p):=aP2 (p:=p) _ hp
 rw[e2,k1.sym (sk p i) p,k3 _ hsk]at e1
 show S (ns.length - 1) (fun j=>b2 (g' (sk p i) (sk p j)))=_
 generalize S (ns.length - 1) (fun j=>b2 (g' (sk p i) (sk p j)))=q at e1
 unfold X1
 by_cases e:((sk p i:Nat):Int)∈es
 ·rw[decide_eq_true e]at e1
  rw[if_pos e]
  have:b2 true=1:=rfl
  omega
 ·rw[decide_eq_false e]at e1
  rw[if_neg e]
  have:b2 false=0:=rfl
  omega
theorem bx0 {p:Nat}(h:Gr ns)(hp:p<ns.length)(hz:zs.Perm (rng ns.length))(hs:zs.Pairwise (ole ns)):Gr (P4 ns p ((rest zs p).take (ns.getD p 0).toNat)):=by
 have nz:(rest zs p).Nodup:=(hz.nodup_iff.mpr (O8 ns.length)).filter _
 have srt:(rest zs p).Pairwise (ole ns):=hs.filter _
 have h1:=aB2 h hp
 have h0:=ab0 (as2 h) hp
 have hl:=az3 hz (p:=p) (by omega) (by omega)
 refine bI7 h hp (nz.sublist (M6 _ _)) (fun z m=>?_) ?_ (fun x hx y hy hny hyp=>?_)
 ·obtain⟨m1,m2⟩:=an2.mp (C0 m)
  obtain⟨c0,c1⟩:=M9.mp (hz.mem_iff.mp m1)
  exact⟨c0,c1,m2⟩
 ·rw[t7]
  omega
 ·have hyr:(y:Int)∈rest zs p:=an2.mpr ⟨hz.mem_iff.mpr (M9.mpr ⟨by omega,by omega⟩),by omega⟩
  have e:=G3 (ns.getD p 0).toNat (rest zs p)
  rw[<- e]at hyr srt
  rcases l9.mp hyr with m | m
  ·exact absurd m hny
  ·have:=(Q5.mp srt).2.2 x hx y m
   rcases Y7.mp this with t | t
   ·rw[i3]at t;omega
   ·rw[i3]at t;omega
end Web
namespace Grf
theorem bc3 {v q:Nat}{N:Nat->Bool}(hv:v<n)(hNv:N v=false):∀ (m:Nat) (g:Nat->Nat->Bool),Gph g->S n (fun j=>b2 (N j))=deg n g v->N q=g v q ->
  (∀ x y,x<n->y<n->N x=true->N y=false->y≠v->x≠q->y≠q->deg n g y<=deg n g x)->S n (fun j=>b2 (N j && !g v j))=(m:Int) ->
  ∃ g',Gph g'/\(∀ i,i<n->deg n g' i=deg n g i)/\∀ j,j<n->g' v j=N j:=by
 intro m
 induction m with
 | zero =>
  intro g h hs _ hd hm
  refine⟨g,h,fun _ _=>rfl,fun j hj=>?_⟩
  have all:∀ j,j<n->N j=true->g v j=true:=fun j hj hN=>by
   have:=aj5 (f:=fun j=>b2 (N j && !g v j)) hj (fun i _=>B2 _)
   rw[hm]at this
   cases hg:g v j with
   | true=>rfl
   | false =>
    have e:b2 (N j && !g v j)=1:=by rw[hN,hg];rfl
    have t:b2 (N j && !g v j)<=0:=this
    omega
  have dif:S n (fun j=>b2 (g v j) - b2 (N j))=0:=by rw[R8];unfold deg at hs;omega
  have pos:∀ i,i<n->0<=b2 (g v i) - b2 (N i):=fun i hi=>by
   cases hN:N i with
   | true=>rw[all i hi hN];decide
   | false=>have:=B2 (g v i);rw[P0];omega
  have:=aj5 (f:=fun j=>b2 (g v j) - b2 (N j)) hj pos
  rw[dif]at this
  have p:=pos j hj
  cases hN:N j with
  | true=>exact all j hj hN
  | false =>
   cases hg:g v j with
   | false=>rfl
   | true =>
    have t:b2 (g v j) - b2 (N j)<=0:=this
    rw[hN,hg,U0,P0]at t
    omega
 | succ m ih =>
  intro g h hs hq hd hm
  obtain⟨x,hx,hlt⟩:∃ x,x<n/\(fun _=>(0:Int)) x<b2 (N x && !g v x):=bz5 (f:=fun _=>0) (g:=fun j=>b2 (N j && !g v j)) (by rw[O0,hm];omega)
  have hNx:N x=true/\g v x=false:=by
   cases h1:N x<;>cases h2:g v x<;>rw[h1,h2]at hlt<;>simp_all [b2]
  obtain⟨y,hy,hlt2⟩:∃ y,y<n/\b2 (N y)<b2 (g v y):=by
   by_cases hc:∃ y,y<n/\b2 (N y)<b2 (g v y)
   ·exact hc
   ·have pos:∀ i,i<n->0<=b2 (N i) - b2 (g v i):=fun i hi=>by
     have:¬ b2 (N i)<b2 (g v i):=fun z=>hc ⟨i,hi,z⟩
     omega
    have t:=aj5 (f:=fun j=>b2 (N j) - b2 (g v j)) hx pos
    have e:S n (fun j=>b2 (N j) - b2 (g v j))=0:=by rw[R8];unfold deg at hs;omega
    rw[e,show b2 (N x) - b2 (g v x)=1 by rw[hNx.1,hNx.2];rfl]at t
    omega
  have hNy:N y=false/\g v y=true:=by
   cases h1:N y<;>cases h2:g v y<;>rw[h1,h2]at hlt2<;>simp_all [b2]
  have xv:x≠v:=fun e=>by rw[e,hNv]at hNx;exact absurd hNx.1 (by decide)
  have yv:y≠v:=fun e=>by rw[e,h.irr]at hNy;exact absurd hNy.2 (by decide)
  have xy:x≠y:=fun e=>by rw[e,hNy.1]at hNx;exact absurd hNx.1 (by decide)
  have xq:x≠q:=fun e=>by rw[e,hq]at hNx;rw[hNx.1]at hNx;exact absurd hNx.2 (by decide)
  have yq:y≠q:=fun e=>by rw[e,hq]at hNy;rw[hNy.1]at hNy;exact absurd hNy.2 (by decide)
  obtain⟨z,hz,zx,zy,zv,h1,h2⟩:=find3 h hx hy hv xy xv yv (hd x y hx hy hNx.1 hNy.1 yv xq yq) (by rw[h.sym];exact hNy.2) (by rw[h.sym];exact hNx.2)
  have ex:Ex g v y z x:=⟨Ne.symm yv,Ne.symm zv,Ne.symm xv,Ne.symm zy,Ne.symm xy,zx,hNy.2,by rw[h.sym];exact h1,hNx.2,by rw[h.sym];exact h2⟩
  have dg:=aV9 h ex hv hy hz hx
  obtain⟨g',k1,k2,k3⟩:=ih (al3 g v y z x) (aV8 h ex) (by rw[dg];exact hs) (by rw[ag9 ex,if_neg (Ne.symm yq),if_neg (Ne.symm xq)];exact hq) (fun a b ha hb n1 n2 n3 n4 n5=>by rw[dg,dg];exact hd a b ha hb n1 n2 n3 n4 n5) (by
   have:=Q2 (f:=fun j=>b2 (N j && !al3 g v y z x v j)) (g:=fun j=>b2 (N j && !g v j)) hx (fun j _ hj=>by
    show b2 (N j && !al3 g v y z x v j)=_
    rw[ag9 ex]
    by_cases e:j=y
    ·rw[if_pos e,e,hNy.1];rfl
    ·rw[if_neg e,if_neg hj])
   rw[this,hm]
   have e1:al3 g v y z x v x=true:=by rw[ag9 ex,if_neg xy,if_pos rfl]
   show _+(b2 (N x && !al3 g v y z x v x) - b2 (N x && !g v x))=_
   rw[e1,hNx.1,hNx.2]
   show ((m+1:Nat):Int)+(0 - 1)=_
   omega)
  exact⟨g',k1,fun i hi=>by rw[k2 i hi,dg],k3⟩
theorem aL2 {t:Nat}{e:Nat->Int}{c:Nat->Bool}{u:Int}(ht:t<n)(h:∀ i,i<n->e i=d i+(if i=t then u else 0)):sm n c e=sm n c d+u*b2 (c t):=by
 unfold sm
 rw[Q2 (f:=fun i=>if c i=true then e i else 0) (g:=fun i=>if c i=true then d i else 0) ht fun i hi hne=>by
  show (if c i=true then e i else 0)=if c i=true then d i else 0
  rw[h i hi,if_neg hne,Int.add_zero]]
 show S n (fun i=>if c i=true then d i else 0)+((if c t=true then e t else 0) - (if c t=true then d t else 0))=_
 rw[h t ht,if_pos rfl]
 cases c t with
 | true=>rw[if_pos rfl,if_pos rfl,U0];omega
 | false=>rw[if_neg (by decide),if_neg (by decide),P0];omega
theorem bI1 {x y:Nat}{g h r:Nat->Int}(Kg:ae3 n g)(Kh:ae3 n h)(hj:j<n)(hx:x<n)(hy:y<n)(hxy:x≠y)(hjy:j≠y)(hjx:j≠x)
  (hr1:∀ i,i<n->r i=g i+(if i=j then 1 else 0)+(if i=x then -1 else 0))(hr2:∀ i,i<n->r i=h i+(if i=j then -1 else 0)+(if i=y then 1 else 0))
  (hd:h y+1<=g x)(ev:∃ q,S n r=2*q):ae3 n r:=by
 intro a b hab
 have sg:∀ c,sm n c r=sm n c g+b2 (c j) - b2 (c x):=fun c=>by
  have e1:=aL2 (c:=c) (d:=g) (e:=fun i=>g i+(if i=j then 1 else 0)) (u:=1) hj fun i _=>rfl
  have e2:=aL2 (c:=c) (d:=fun i=>g i+(if i=j then 1 else 0)) (e:=r) (u:=-1) hx hr1
  omega
 have sh:∀ c,sm n c r=sm n c h - b2 (c j)+b2 (c y):=fun c=>by
  have e1:=aL2 (c:=c) (d:=h) (e:=fun i=>h i+(if i=j then -1 else 0)) (u:=-1) hj fun i _=>rfl
  have e2:=aL2 (c:=c) (d:=fun i=>h i+(if i=j then -1 else 0)) (e:=r) (u:=1) hy hr2
  omega
 apply Classical.byContradiction
 intro hn
 have k1:=Kg a b hab
 have k2:=Kh a b hab
 have ga:=sg a
 have gb:=sg b
 have ha:=sh a
 have hb:=sh b
 have B:∀ c:Bool,0<=b2 c/\b2 c<=1:=fun c=>⟨B2 c,aI6 c⟩
 have b1:=B (a j);have b2':=B (a x);have b3:=B (a y);have b4:=B (b j);have b5:=B (b x);have b6:=B (b y)
 generalize hP:cnt n a*((n:Int) - 1 - cnt n b)=PP at *
 have tr:∀ c:Bool,b2 c=1->c=true:=fun c h=>by cases c with | true=>rfl | false=>exact absurd h (by decide)
 have hbx:b x=true:=tr _ (by omega)
 have hay:a y=true:=tr _ (by omega)
 have hax:a x=false:=by
  cases e:a x with
  | false=>rfl
  | true=>rw[hab x e]at hbx;exact absurd hbx (by decide)
 have hby:b y=false:=hab y hay
 have Fg:sm n a g - sm n b g=PP:=by omega
 have Fh:sm n a h - sm n b h=PP:=by omega
 have Fr:sm n a r - sm n b r=PP+1:=by omega
 have kt:=ax7 (n:=n) hab
 generalize hp:cnt n a=p at *
 generalize hl:cnt n b=l at *
 have m1:2*g x<=p+((n:Int) - 1 - l)+1:=by
  have dj:∀ i,put a x true i=true->put b x false i=false:=fun i hi=>by
   by_cases e:i=x
   ·rw[e,ac5]
   ·rw[Q1 e]at hi;rw[Q1 e];exact hab i hi
  have:=Kg (put a x true) (put b x false) dj
  rw[U6 hx,U6 hx,P9 hx,P9 hx,hax,hbx,hp,hl]at this
  simp only[if_true,U0,P0,j7,if_false]at this
  have e:(p+(1 - 0))*((n:Int) - 1 - (l+(0 - 1)))=p*((n:Int) - 1 - l)+p+((n:Int) - 1 - l)+1:=by grind
  rw[e]at this
  omega
 have m2:p+((n:Int) - 1 - l) - 1<=2*h y:=by
  have dj:∀ i,put a y false i=true->put b y true i=false:=fun i hi=>by
   by_cases e:i=y
   ·rw[e,ac5]at hi;cases hi
   ·rw[Q1 e]at hi;rw[Q1 e];exact hab i hi
  have:=Kh (put a y false) (put b y true) dj
  rw[U6 hy,U6 hy,P9 hy,P9 hy,hay,hby,hp,hl]at this
  simp only[if_true,U0,P0,j7,if_false]at this
  have e:(p+(0 - 1))*((n:Int) - 1 - (l+(1 - 0)))=p*((n:Int) - 1 - l) - p - ((n:Int) - 1 - l)+1:=by grind
  rw[e]at this
  omega
 have m3:(n:Int) - 1 - l<=h y:=by
  have dj:∀ i,put a y false i=true->b i=false:=fun i hi=>by
   by_cases e:i=y
   ·rw[e,ac5]at hi;cases hi
   ·rw[Q1 e]at hi;exact hab i hi
  have:=Kh (put a y false) b dj
  rw[U6 hy,P9 hy,hay,hp,hl]at this
  simp only[if_true,U0,P0,j7,if_false]at this
  have e:(p+(0 - 1))*((n:Int) - 1 - l)=p*((n:Int) - 1 - l) - ((n:Int) - 1 - l):=by grind
  rw[e]at this
  omega
 have hpl:p+l=n:=by omega
 have hcv:=cover (n:=n) (a:=a) (b:=b) (d:=r) hab (by rw[hp,hl];exact hpl)
 obtain⟨q,hq⟩:=ev
 obtain⟨q2,hq2⟩:=bh4 p
 have e3:p*((n:Int) - 1 - l)=p*(p - 1):=by rw[show (n:Int) - 1 - l=p - 1 by omega]
 rw[e3]at hP
 omega
end Grf
namespace Web
open L2
open Grf (S b2 Gph deg cnt sm ae3)
def iso (g:Nat->Nat->Bool)(p:Nat):Nat->Nat->Bool:=fun u v=>g u v && decide (u≠p) && decide (v≠p)
theorem bg4 (h:Gph g)(p:Nat):Gph (iso g p):=⟨fun i j=>by unfold iso;rw[h.sym i j];cases g j i<;>simp[Bool.and_comm],fun i=>by unfold iso;rw[h.irr];rfl⟩
theorem bg5 {p:Nat}(h:Gph g)(hp:p<n)(v:Nat):deg n (iso g p) v=if v=p then 0 else deg n g v - b2 (g p v):=by
 unfold deg
 by_cases e:v=p
 ·rw[if_pos e]
  refine Eq.trans (Grf.A8 (g:=fun _=>0) fun j _=>?_) (Grf.O0 n)
  show b2 (g v j && decide (v≠p) && decide (j≠p))=0
  rw[decide_eq_false (show ¬ v≠p from fun z=>z e),Bool.and_false];rfl
 ·rw[if_neg e,Grf.Q2 (f:=fun j=>b2 (iso g p v j)) (g:=fun j=>b2 (g v j)) hp fun j _ hj=>by
   show b2 (g v j && decide (v≠p) && decide (j≠p))=b2 (g v j)
   rw[decide_eq_true e,decide_eq_true hj,bp4,bp4]]
  show _+(b2 (g v p && decide (v≠p) && decide (p≠p)) - b2 (g v p))=_
  rw[decide_eq_false (show ¬ p≠p from fun z=>z rfl),Bool.and_false,h.sym v p]
  have:b2 false=0:=rfl
  omega
theorem bM7 {es:List Int}(nd:es.Nodup)(he:∀ z∈es,0<=z/\z<n):S n (fun j=>b2 (decide ((j:Int)∈es)))=(es.length:Int):=by
 rw[Grf.A8 (g:=fun i=>if (i:Int)∈es then 1 else 0) fun i _=>by
  by_cases e:(i:Int)∈es
  ·rw[decide_eq_true e,if_pos e];rfl
  ·rw[decide_eq_false e,if_neg e];rfl]
 rw[bd5 (f:=fun _=>1) nd he]
 clear he nd
 induction es with
 | nil=>rfl
 | cons a es ih=>rw[j9,N2,ih,o9];omega
theorem aV4 (hi:i<ns.length) (hj:j<ns.length) (hij:i≠j) {h:Nat->Nat->Bool} (hg:Gph g) (dg:∀ v,v<ns.length->deg ns.length g v=ns.getD v 0)
  (hh:Gph h) (dh:∀ v,v<ns.length->deg ns.length h v=ns.getD v 0+(if v=i then 1 else 0)+(if v=j then 1 else 0)) :
  ∃ f,Gph f/\(∀ v,v<ns.length->deg ns.length f v=ns.getD v 0)/\f i j=false:=by
 cases hgij:g i j with
 | false=>exact⟨g,hg,dg,hgij⟩
 | true =>
 cases hhij:h i j with
 | true =>
  refine⟨Grf.O7 h i j false,Grf.J6 hh hij,fun v hv=>?_,Grf.am8⟩
  rw[Grf.N9 hh hij hi hj,dh v hv,hhij]
  have e1:b2 false=0:=rfl
  have e2:b2 true=1:=rfl
  by_cases c1:v=i
  ·rw[if_pos (show v=i\/v=j from .inl c1),if_pos c1,if_neg (show ¬ v=j by omega)];omega
  ·by_cases c2:v=j
   ·rw[if_pos (show v=i\/v=j from .inr c2),if_neg c1,if_pos c2];omega
   ·rw[if_neg (show ¬ (v=i\/v=j) from fun z=>z.elim c1 c2),if_neg c1,if_neg c2];omega
 | false =>
 generalize hn:ns.length=n at *
 obtain⟨zs,hz,hs⟩:=ar7 ns
 rw[hn]at hz
 have hLm:∀ z:Int,z∈zs.filter (fun z=>decide (z≠(i:Int)/\z≠(j:Int)))↔(0<=z/\z<n)/\z≠i/\z≠j:=fun z=>by
  rw[C5,hz.mem_iff,M9]
  simp
 have hLn:(zs.filter (fun z=>decide (z≠(i:Int)/\z≠(j:Int)))).Nodup:=(hz.nodup_iff.mpr (O8 n)).filter _
 have hLs:(zs.filter (fun z=>decide (z≠(i:Int)/\z≠(j:Int)))).Pairwise (ole ns):=hs.filter _
 generalize zs.filter (fun z=>decide (z≠(i:Int)/\z≠(j:Int)))=L at hLm hLn hLs
 have B:∀ c:Bool,0<=b2 c/\b2 c<=1:=fun c=>⟨Grf.B2 c,Grf.aI6 c⟩
 have d1:1<=ns.getD i 0:=by
  rw[<- dg i hi]
  have:=Grf.aj5 (f:=fun v=>b2 (g i v)) hj fun v _=>Grf.B2 _
  rw[hgij]at this
  exact this
 obtain⟨k,hk⟩:∃ k:Nat,ns.getD i 0=(k:Int)+1:=⟨(ns.getD i 0 - 1).toNat,by omega⟩
 have hLl:k+2<=L.length:=by
  have a1:deg n h i<=S n (fun v=>b2 (decide ((v:Int)∈L))):=Grf.as8 fun v hv=>by
   cases e:h i v with
   | false=>exact(B _).1
   | true =>
    rw[decide_eq_true ((hLm v).mpr ⟨⟨by omega,by omega⟩,fun z=>?_,fun z=>?_⟩)]
    ·exact K2 _
    ·rw[show v=i by omega,hh.irr]at e;cases e
    ·rw[show v=j by omega,hhij]at e;cases e
  rw[bM7 hLn fun z hz=>((hLm z).mp hz).1,dh i hi,if_pos rfl,if_neg hij,hk]at a1
  omega
 have hx':k<L.length:=by omega
 have hy':k+1<L.length:=by omega
 have mL:∀ (a:Nat) (ha:a<L.length),∃ v:Nat,L[a]=(v:Int)/\v<n/\v≠i/\v≠j:=fun a ha=>by
  obtain⟨⟨c1,c2⟩,c3,c4⟩:=(hLm _).mp (R3 ha)
  exact⟨L[a].toNat,by omega,by omega,by omega,by omega⟩
 obtain⟨x,ex,hx,hxi,hxj⟩:=mL k hx'
 obtain⟨y,ey,hy,hyi,hyj⟩:=mL (k+1) hy'
 have inL:∀ v,v<n->v≠i->v≠j->(v:Int)∈L:=fun v h1 h2 h3=>(hLm v).mpr ⟨⟨by omega,by omega⟩,by omega,by omega⟩
 have tk1:∀ v:Nat,((v:Int)∈L.take (k+1))↔((v:Int)∈L.take k\/v=x):=fun v=>by
  rw[C6,d6 hx']
  show (v:Int)∈L.take k++[L[k]]↔_
  rw[l9,j0,ex]
  exact or_congr Iff.rfl ⟨fun z=>by omega,fun z=>by omega⟩
 have tk2:∀ v:Nat,((v:Int)∈L.take (k+2))↔((v:Int)∈L.take (k+1)\/v=y):=fun v=>by
  rw[C6,d6 hy']
  show (v:Int)∈L.take (k+1)++[L[k+1]]↔_
  rw[l9,j0,ey]
  exact or_congr Iff.rfl ⟨fun z=>by omega,fun z=>by omega⟩
 have notk:∀ (a b:Nat) (hb:b<L.length),a<=b->L[b]∉L.take a:=fun a b hb hab hm=>by
  obtain⟨c,hc,e⟩:=List.mem_iff_getElem.mp hm
  rw[t7]at hc
  rw[List.getElem_take]at e
  have e2:L[c]?=L[b]?:=by rw[d6 (show c<L.length by omega),d6 hb,e]
  have e3:c=b:=(bX7 (show c<L.length by omega) hLn).mp e2
  have:c<a:=by omega
  omega
 have x1:(x:Int)∉L.take k:=by rw[<- ex];exact notk k k hx' (c6 _)
 have y1:(y:Int)∉L.take (k+1):=by rw[<- ey];exact notk (k+1) (k+1) hy' (c6 _)
 have nij:∀ a:Nat,(i:Int)∉L.take a/\(j:Int)∉L.take a:=fun a=>⟨fun m=>((hLm _).mp (C0 m)).2.1 rfl,fun m=>((hLm _).mp (C0 m)).2.2 rfl⟩
 have topL:∀ (a:Nat) (u v:Nat),(u:Int)∈L.take a->v<n->v≠i->v≠j->(v:Int)∉L.take a->ns.getD v 0<=ns.getD u 0:=fun a u v hu hv h1 h2 hnv=>by
  have e:=G3 a L
  have hvL:=inL v hv h1 h2
  rw[<- e]at hvL hLs
  rcases l9.mp hvL with m | m
  ·exact absurd m hnv
  ·have:=(Q5.mp hLs).2.2 _ hu _ m
   rcases Y7.mp this with t | t<;>rw[i3,i3]at t<;>omega
 have lenT:∀ a:Nat,a<=L.length->S n (fun v=>b2 (decide ((v:Int)∈L.take a)))=(a:Int):=fun a ha=>by
  rw[bM7 (hLn.sublist (M6 _ _)) fun z hz=>((hLm z).mp (C0 hz)).1,t7,aY0 ha]
 obtain⟨h1,hh1,dh1,rh1⟩:=Grf.bc3 (N:=fun v=>decide ((v:Int)∈L.take (k+2))) (q:=j) hi (decide_eq_false (nij _).1) (S n (fun v=>b2 (decide ((v:Int)∈L.take (k+2)) && !h i v))).toNat h hh (by rw[lenT _ hLl,dh i hi,if_pos rfl,if_neg hij,hk];omega) (by rw[hhij];exact decide_eq_false (nij _).2)
  (fun u v hu hv n1 n2 n3 n4 n5 => by
   have ui:u≠i:=fun z=>by rw[z]at n1;exact(nij _).1 (of_decide_eq_true n1)
   rw[dh u hu,dh v hv,if_neg ui,if_neg n4,if_neg n3,if_neg n5]
   have:=topL (k+2) u v (of_decide_eq_true n1) hv n3 n5 (of_decide_eq_false n2)
   omega) (by rw[ab6 (Grf.O1 fun v _=>Grf.B2 _)])
 obtain⟨g1,hg1,dg1,rg1⟩:=Grf.bc3 (N:=fun v=>decide ((v:Int)∈L.take k) || decide (v=j)) (q:=j) hi (by rw[decide_eq_false (nij _).1,decide_eq_false hij];rfl) (S n (fun v=>b2 ((decide ((v:Int)∈L.take k) || decide (v=j)) && !g i v))).toNat g hg (by
   rw[Grf.Q2 (f:=fun v=>b2 (decide ((v:Int)∈L.take k) || decide (v=j))) (g:=fun v=>b2 (decide ((v:Int)∈L.take k))) hj fun v _ hv=>by
    show b2 (decide ((v:Int)∈L.take k) || decide (v=j))=_
    rw[decide_eq_false hv,Z8]]
   rw[lenT k (by omega),dg i hi,hk,decide_eq_false (nij k).2,decide_eq_true rfl]
   rfl) (by rw[hgij,decide_eq_true rfl,Bool.or_true])
  (fun u v hu hv n1 n2 n3 n4 n5 => by
   rw[decide_eq_false n4,Z8]at n1
   rw[decide_eq_false n5,Z8]at n2
   rw[dg u hu,dg v hv]
   exact topL k u v (of_decide_eq_true n1) hv n3 n5 (of_decide_eq_false n2)) (by rw[ab6 (Grf.O1 fun v _=>Grf.B2 _)])
 have ig:=bg4 hg1 i
 have ih:=bg4 hh1 i
 have kg:=Grf.aA4 (d:=deg n (iso g1 i)) ig fun _ _=>rfl
 have kh:=Grf.aA4 (d:=deg n (iso h1 i)) ih fun _ _=>rfl
 have vg:∀ v,v<n->deg n (iso g1 i) v=if v=i then 0 else ns.getD v 0 - b2 (decide ((v:Int)∈L.take k) || decide (v=j)):=fun v hv=>by
  rw[bg5 hg1 hi,dg1 v hv,dg v hv,rg1 v hv]
 have vh:∀ v,v<n->deg n (iso h1 i) v=if v=i then 0 else ns.getD v 0+(if v=j then 1 else 0) - b2 (decide ((v:Int)∈L.take (k+2))):=fun v hv=>by
  rw[bg5 hh1 hi,dh1 v hv,dh v hv,rh1 v hv]
  by_cases e:v=i
  ·rw[if_pos e,if_pos e]
  ·rw[if_neg e,if_neg e,if_neg e,Int.add_zero]
 have T1:b2 true=1:=rfl
 have T0:b2 false=0:=rfl
 have xy:x≠y:=fun z=>y1 ((tk1 y).mpr (.inr z.symm))
 have hr1:∀ v,v<n->(if v=i then 0 else ns.getD v 0 - b2 (decide ((v:Int)∈L.take (k+1))))=deg n (iso g1 i) v+(if v=j then 1 else 0)+(if v=x then -1 else 0):=fun v hv=>by
  rw[vg v hv]
  by_cases e:v=i
  ·rw[if_pos e,if_pos e,if_neg (by omega),if_neg (by omega)];rfl
  ·rw[if_neg e,if_neg e]
   by_cases e2:v=j
   ·rw[if_pos e2,if_neg (by omega),e2,decide_eq_false (nij _).2,decide_eq_false (nij k).2,decide_eq_true rfl,aC7];omega
   ·rw[if_neg e2,decide_eq_false e2,Z8]
    by_cases e3:v=x
    ·rw[if_pos e3,e3,decide_eq_true ((tk1 x).mpr (.inr rfl)),decide_eq_false x1];omega
    ·rw[if_neg e3]
     have:decide ((v:Int)∈L.take (k+1))=decide ((v:Int)∈L.take k):=decide_eq_decide.mpr ((tk1 v).trans ⟨fun z=>z.resolve_right e3,.inl⟩)
     rw[this];omega
 have hr2:∀ v,v<n->(if v=i then 0 else ns.getD v 0 - b2 (decide ((v:Int)∈L.take (k+1))))=deg n (iso h1 i) v+(if v=j then -1 else 0)+(if v=y then 1 else 0):=fun v hv=>by
  rw[vh v hv]
  by_cases e:v=i
  ·rw[if_pos e,if_pos e,if_neg (by omega),if_neg (by omega)];rfl
  ·rw[if_neg e,if_neg e]
   by_cases e2:v=j
   ·rw[if_pos e2,if_pos e2,if_neg (by omega),e2,decide_eq_false (nij _).2,decide_eq_false (nij (k+2)).2];omega
   ·rw[if_neg e2,if_neg e2]
    by_cases e3:v=y
    ·rw[if_pos e3,e3,decide_eq_true ((tk2 y).mpr (.inr rfl)),decide_eq_false y1];omega
    ·rw[if_neg e3]
     have:decide ((v:Int)∈L.take (k+2))=decide ((v:Int)∈L.take (k+1)):=decide_eq_decide.mpr ((tk2 v).trans ⟨fun z=>z.resolve_right e3,.inl⟩)
     rw[this];omega
 have gx:deg n (iso g1 i) x=ns.getD x 0:=by
  rw[vg x hx,if_neg hxi,decide_eq_false x1,decide_eq_false hxj,aC7];omega
 have hyv:deg n (iso h1 i) y=ns.getD y 0 - 1:=by
  rw[vh y hy,if_neg hyi,if_neg hyj,decide_eq_true ((tk2 y).mpr (.inr rfl))];omega
 have hdxy:ns.getD y 0<=ns.getD x 0:=topL (k+1) x y ((tk1 x).mpr (.inr rfl)) hy hyi hyj y1
 have ev:∃ q,S n (fun v=>if v=i then 0 else ns.getD v 0 - b2 (decide ((v:Int)∈L.take (k+1))))=2*q:=by
  obtain⟨q,hq⟩:=Grf.aW1 ig n
  refine⟨q,?_⟩
  rw[Grf.A8 hr1,Grf.X3,Grf.X3,hq,Grf.ah0 1 hj,Grf.ah0 (-1) hx]
  omega
 have kr:=Grf.bI1 kg kh hj hx hy xy (Ne.symm hyj) (Ne.symm hxj) hr1 hr2 (by omega) ev
 have ge0:∀ (f:Nat->Nat->Bool) (v:Nat),0<=deg n f v:=fun f v=>Grf.O1 fun _ _=>Grf.B2 _
 have nnr:∀ v,v<n->0<=(if v=i then 0 else ns.getD v 0 - b2 (decide ((v:Int)∈L.take (k+1)))):=fun v hv=>by
  by_cases e3:v=x
  ·rw[hr2 v hv]
   have:=ge0 (iso h1 i) v
   rw[if_neg (by omega),if_neg (by omega)];omega
  ·rw[hr1 v hv,if_neg e3]
   have:=ge0 (iso g1 i) v
   split<;>omega
 obtain⟨q,hq⟩:=ev
 have q0:0<=q:=by
  have:=Grf.O1 nnr
  omega
 obtain⟨R,hR,dR⟩:=Grf.aV2 q.toNat n _ nnr kr (by rw[hq];omega)
 have Ri:∀ v,v<n->R i v=false:=fun v hv=>by
  have a:=Grf.aj5 (f:=fun v=>b2 (R i v)) hv fun _ _=>Grf.B2 _
  have b:=dR i hi
  rw[if_pos rfl]at b
  have c:b2 (R i v)<=deg n R i:=a
  cases e:R i v with
  | false=>rfl
  | true=>rw[e]at c;omega
 refine⟨fun u v=>if u=i then decide ((v:Int)∈L.take (k+1)) else if v=i then decide ((u:Int)∈L.take (k+1)) else R u v,⟨fun u v=>?_,fun u=>?_⟩,fun v hv=>?_,?_⟩
 ·by_cases c1:u=i
  ·by_cases c2:v=i
   ·rw[c1,c2]
   ·rw[if_pos c1,if_neg c2,if_pos c1]
  ·by_cases c2:v=i
   ·rw[if_neg c1,if_pos c2,if_pos c2]
   ·rw[if_neg c1,if_neg c2,if_neg c2,if_neg c1];exact hR.sym u v
 ·by_cases c1:u=i
  ·rw[if_pos c1,c1];exact decide_eq_false (nij _).1
  ·rw[if_neg c1,if_neg c1];exact hR.irr u
 ·by_cases c1:v=i
  ·subst c1
   have e:deg n (fun u w=>if u=v then decide ((w:Int)∈L.take (k+1)) else if w=v then decide ((u:Int)∈L.take (k+1)) else R u w) v=S n (fun w=>b2 (decide ((w:Int)∈L.take (k+1)))):=Grf.A8 fun w _=>by
    show b2 (if v=v then _ else _)=_
    rw[if_pos rfl]
   rw[e,lenT _ (by omega),hk];omega
  ·have e:deg n (fun u w=>if u=i then decide ((w:Int)∈L.take (k+1)) else if w=i then decide ((u:Int)∈L.take (k+1)) else R u w) v=deg n R v+(b2 (decide ((v:Int)∈L.take (k+1))) - b2 (R v i)):=by
    have:=Grf.Q2 (n:=n) (j:=i) (f:=fun w=>b2 (if v=i then decide ((w:Int)∈L.take (k+1)) else if w=i then decide ((v:Int)∈L.take (k+1)) else R v w)) (g:=fun w=>b2 (R v w)) hi fun w _ hw=>by
     show b2 (if v=i then _ else if w=i then _ else R v w)=_
     rw[if_neg c1,if_neg hw]
    rw[if_neg c1,if_pos rfl]at this
    exact this
   rw[e,dR v hv,if_neg c1,hR.sym v i,Ri v hv]
   omega
 ·show (if i=i then decide ((j:Int)∈L.take (k+1)) else _)=false
  rw[if_pos rfl]
  exact decide_eq_false (nij _).2
end Web
namespace Web
open L2
open Grf (S b2 Gph deg cnt sm ae3 O7)
def Mvd (ts us:List Int)(i j:Nat)(m:Int):Prop:=us.length=ts.length/\∀ v,v<ts.length->us.getD v 0=ts.getD v 0+(if v=i then m else 0)+(if v=j then m else 0)
theorem aR7 {us:List Int}{m:Int}(hm:Mvd ts us i j m)(hij:i≠j)(hi:i<ts.length)(hj:j<ts.length)(hg:Gph g)(dg:∀ v,v<ts.length->deg ts.length g v=ts.getD v 0){b:Bool}(hb:b2 b - b2 (g i j)=m) :
  ∀ v,v<us.length->deg us.length (O7 g i j b) v=us.getD v 0:=fun v hv=>by
 rw[hm.1]at hv ⊢
 rw[Grf.N9 hg hij hi hj,dg v hv,hm.2 v hv,hb]
 by_cases e1:v=i
 ·have e2:v≠j:=fun z=>hij (e1.symm.trans z)
  rw[if_pos (.inl e1),if_pos e1,if_neg e2];omega
 ·by_cases e2:v=j
  ·rw[if_pos (.inr e2),if_neg e1,if_pos e2];omega
  ·rw[if_neg (fun z=>z.elim e1 e2),if_neg e1,if_neg e2];omega
end Web
namespace Web
open L2
open Grf (S b2 Gph deg cnt sm ae3)
theorem aV3 {es:List Int} {p q:Nat} (hg:Gph g) (hd:∀ v,v<ns.length->deg ns.length g v=ns.getD v 0) (hq:decide ((q:Int)∈es)=g p q) (hp:p<ns.length) (nd:es.Nodup) (he:∀ z∈es,0<=z/\z<ns.length/\z≠p) (hl:(es.length:Int)=ns.getD p 0)
  (ht:∀ x∈es,∀ y:Nat,y<ns.length->(y:Int)∉es->y≠p->x≠q->y≠q->ns.getD y 0<=ns.getD x.toNat 0):Gr (P4 ns p es):=by
 have hs:S ns.length (fun j=>b2 (decide ((j:Int)∈es)))=(es.length:Int):=by
  rw[Grf.A8 (g:=fun i=>if (i:Int)∈es then 1 else 0) fun i _=>by
   by_cases e:(i:Int)∈es
   ·rw[decide_eq_true e,if_pos e];rfl
   ·rw[decide_eq_false e,if_neg e];rfl]
  rw[bd5 (f:=fun _=>1) nd fun z hz=>⟨(he z hz).1,(he z hz).2.1⟩]
  clear he hl ht nd hq
  induction es with
  | nil=>rfl
  | cons a es ih=>rw[j9,N2,ih,o9];omega
 have hNp:decide ((p:Int)∈es)=false:=decide_eq_false fun m=>(he _ m).2.2 rfl
 have hm:0<=S ns.length (fun j=>b2 (decide ((j:Int)∈es) && !g p j)):=Grf.O1 fun i _=>Grf.B2 _
 obtain⟨g',k1,k2,k3⟩:=Grf.bc3 (q:=q) (N:=fun j=>decide ((j:Int)∈es)) hp hNp (S ns.length (fun j=>b2 (decide ((j:Int)∈es) && !g p j))).toNat g hg (by rw[hs,hl,hd p hp]) hq
  (fun x y hx hy hNx hNy hyp hxq hyq => by
   rw[hd x hx,hd y hy]
   have:=ht x (of_decide_eq_true hNx) y hy (of_decide_eq_false hNy) hyp (by omega) hyq
   rw[i3]at this
   exact this) (by omega)
 refine⟨fun i j=>g' (sk p i) (sk p j),⟨fun i j=>k1.sym _ _,fun i=>k1.irr _⟩,fun i hi=>?_⟩
 rw[aa5 hp]at hi ⊢
 rw[as0 hp hi]
 have hsk:=br7 (p:=p) hi hp
 have e1:=k2 _ hsk
 rw[hd _ hsk]at e1
 have e2:deg ns.length g' (sk p i)=S (ns.length - 1) (fun j=>b2 (g' (sk p i) (sk p j)))+b2 (g' (sk p i) p):=aP2 (p:=p) _ hp
 rw[e2,k1.sym (sk p i) p,k3 _ hsk]at e1
 show S (ns.length - 1) (fun j=>b2 (g' (sk p i) (sk p j)))=_
 generalize S (ns.length - 1) (fun j=>b2 (g' (sk p i) (sk p j)))=q0 at e1
 unfold X1
 by_cases e:((sk p i:Nat):Int)∈es
 ·rw[decide_eq_true e]at e1
  rw[if_pos e]
  have:b2 true=1:=rfl
  omega
 ·rw[decide_eq_false e]at e1
  rw[if_neg e]
  have:b2 false=0:=rfl
  omega
def S7 (zs:List Int)(p q:Nat):List Int:=zs.filter fun x=>!decide (x∈[(p:Int),(q:Int)])
theorem an6 {p q:Nat}{z:Int}:z∈S7 zs p q↔z∈zs/\z≠p/\z≠q:=by
 unfold S7
 rw[C5]
 refine and_congr_right fun _=>?_
 rw[Bool.not_eq_true',decide_eq_false_iff_not,g9,j0]
 exact⟨fun h=>⟨fun e=>h (.inl e),fun e=>h (.inr e)⟩,fun h e=>e.elim h.1 h.2⟩
theorem bl6 (zs:List Int)(p q:Nat):S7 zs p q=rest (rest zs p) q:=by
 unfold S7 rest
 rw[List.filter_filter]
 refine List.filter_congr fun x _=>?_
 by_cases e1:x=(p:Int)
 ·by_cases e2:x=(q:Int)<;>simp[e1,e2]
 ·by_cases e2:x=(q:Int)<;>simp[e1,e2]
theorem aT4 {p q:Nat}(hz:zs.Perm (rng ns.length))(hp:p<ns.length)(hq:q<ns.length)(hpq:p≠q):(S7 zs p q).length+2=ns.length:=by
 have h1:=az3 hz (p:=p) (by omega) (by omega)
 have nz:(rest zs p).Nodup:=(hz.nodup_iff.mpr (O8 ns.length)).filter _
 have hm:(q:Int)∈rest zs p:=an2.mpr ⟨hz.mem_iff.mpr (M9.mpr ⟨by omega,by omega⟩),by omega⟩
 have e:=List.length_eq_countP_add_countP (fun x=>decide (x≠(q:Int))) (l:=rest zs p)
 have e2:aw2 (fun x=>decide ¬(decide (x≠(q:Int)))=true) (rest zs p)=1:=by
  have:aw2 (fun x=>decide ¬(decide (x≠(q:Int)))=true) (rest zs p)=(rest zs p).count (q:Int):=by
   rw[List.count]
   refine List.countP_congr fun x _=>?_
   by_cases h:x=(q:Int)<;>simp[h]
  rw[this,nz.count,if_pos hm]
 rw[e2,aQ0]at e
 rw[bl6]
 show ((rest zs p).filter fun x=>decide (x≠(q:Int))).length+2=_
 omega
theorem bI6 {p q:Nat}(hg:Gph g)(hd:∀ v,v<ns.length->deg ns.length g v=ns.getD v 0)(ht:g p q=true)(hp:p<ns.length)(hq:q<ns.length)(hpq:p≠q)(hz:zs.Perm (rng ns.length))(hs:zs.Pairwise (ole ns)) :
  1<=ns.getD p 0/\∀ es,es=(S7 zs p q).take (ns.getD p 0 - 1).toNat++[(q:Int)]->es.Nodup/\(∀ z∈es,0<=z/\z<ns.length/\z≠p)/\(es.length:Int)=ns.getD p 0/\Gr (P4 ns p es):=by
 have hG:Gr ns:=⟨g,hg,hd⟩
 have h1:=aB2 hG hp
 have h0:1<=ns.getD p 0:=by
  rw[<- hd p hp]
  have:=Grf.aj5 (f:=fun j=>b2 (g p j)) hq (fun i _=>Grf.B2 _)
  have e:b2 (g p q)=1:=by rw[ht];rfl
  have t:b2 (g p q)<=deg ns.length g p:=this
  omega
 have hl:=aT4 hz hp hq hpq
 have nz:(S7 zs p q).Nodup:=(hz.nodup_iff.mpr (O8 ns.length)).filter _
 have srt:(S7 zs p q).Pairwise (ole ns):=hs.filter _
 refine⟨h0,fun es ees=>?_⟩
 have hin:∀ z∈S7 zs p q,0<=z/\z<ns.length/\z≠p/\z≠q:=fun z m=>by
  obtain⟨m1,m2,m3⟩:=an6.mp m
  obtain⟨c0,c1⟩:=M9.mp (hz.mem_iff.mp m1)
  exact⟨c0,c1,m2,m3⟩
 have nd:es.Nodup:=by
  rw[ees]
  refine ah5.mpr ⟨nz.sublist (M6 _ _),by simp,fun a ha b hb e=>?_⟩
  rw[j0.mp hb]at e
  exact(hin a (C0 ha)).2.2.2 e
 have he:∀ z∈es,0<=z/\z<ns.length/\z≠p:=fun z m=>by
  rw[ees]at m
  rcases l9.mp m with m | m
  ·obtain⟨a,b,c,_⟩:=hin z (C0 m)
   exact⟨a,b,c⟩
  ·rw[j0.mp m]
   exact⟨by omega,by omega,by omega⟩
 have hlen:(es.length:Int)=ns.getD p 0:=by
  rw[ees,j6,t7,P6]
  omega
 refine⟨nd,he,hlen,aV3 (q:=q) hg hd ?_ hp nd he hlen fun x hx y hy hny hyp hxq hyq=>?_⟩
 ·rw[ht,ees]
  exact decide_eq_true (l9.mpr (.inr (j0.mpr rfl)))
 ·rw[ees]at hx hny
  have hxm:x∈(S7 zs p q).take (ns.getD p 0 - 1).toNat:=by
   rcases l9.mp hx with m | m
   ·exact m
   ·exact absurd (j0.mp m) hxq
  have hyr:(y:Int)∈S7 zs p q:=an6.mpr ⟨hz.mem_iff.mpr (M9.mpr ⟨by omega,by omega⟩),by omega,by omega⟩
  rw[<- G3 (ns.getD p 0 - 1).toNat (S7 zs p q)]at hyr srt
  rcases l9.mp hyr with m | m
  ·exact absurd (l9.mpr (.inl m)) hny
  ·have:=(Q5.mp srt).2.2 x hxm y m
   rcases Y7.mp this with t | t
   ·rw[i3]at t;omega
   ·rw[i3]at t;omega
theorem bc5 {p q:Nat}(hg:Gph g)(hd:∀ v,v<ns.length->deg ns.length g v=ns.getD v 0)(ht:g p q=false)(hp:p<ns.length)(hq:q<ns.length)(hpq:p≠q)(hz:zs.Perm (rng ns.length))(hs:zs.Pairwise (ole ns)) :
  ∀ es,es=(S7 zs p q).take (ns.getD p 0).toNat->es.Nodup/\(∀ z∈es,0<=z/\z<ns.length/\z≠p)/\(es.length:Int)=ns.getD p 0/\(q:Int)∉es/\Gr (P4 ns p es):=by
 have hG:Gr ns:=⟨g,hg,hd⟩
 have h0:=ab0 (as2 hG) hp
 have hl:=aT4 hz hp hq hpq
 have h1:ns.getD p 0+2<=ns.length:=by
  have:=aB2 ⟨Grf.O7 g p q true,Grf.J6 hg hpq,aR7 (us:=(ns.set p (ns.getD p 0+1)).set q (ns.getD q 0+1)) (m:=1) ⟨by rw[A5,A5],fun v hv=>?_⟩ hpq hp hq hg hd (by rw[ht];rfl)⟩ (i:=p) (by rw[A5,A5];exact hp)
  ·rw[A5,A5,i9,G8 (Ne.symm hpq),al5 hp]at this
   have t:ns.getD p 0+1<ns.length:=this
   omega
  ·rw[i9,V8,V8,A5]
   by_cases c1:q=v
   ·subst c1
    rw[if_pos rfl,if_pos hq,if_neg (Ne.symm hpq),if_pos rfl]
    show ns.getD q 0+1=_
    omega
   ·rw[if_neg c1,if_neg (Ne.symm c1)]
    by_cases c2:p=v
    ·subst c2
     rw[if_pos rfl,if_pos hp,if_pos rfl]
     show ns.getD p 0+1=_
     omega
    ·rw[if_neg c2,if_neg (Ne.symm c2),<- i9]
     omega
 have nz:(S7 zs p q).Nodup:=(hz.nodup_iff.mpr (O8 ns.length)).filter _
 have srt:(S7 zs p q).Pairwise (ole ns):=hs.filter _
 intro es ees
 have hin:∀ z∈S7 zs p q,0<=z/\z<ns.length/\z≠p/\z≠q:=fun z m=>by
  obtain⟨m1,m2,m3⟩:=an6.mp m
  obtain⟨c0,c1⟩:=M9.mp (hz.mem_iff.mp m1)
  exact⟨c0,c1,m2,m3⟩
 have nd:es.Nodup:=by rw[ees];exact nz.sublist (M6 _ _)
 have he:∀ z∈es,0<=z/\z<ns.length/\z≠p:=fun z m=>by
  rw[ees]at m
  obtain⟨a,b,c,_⟩:=hin z (C0 m)
  exact⟨a,b,c⟩
 have hqe:(q:Int)∉es:=fun m=>by
  rw[ees]at m
  exact(hin q (C0 m)).2.2.2 rfl
 have hlen:(es.length:Int)=ns.getD p 0:=by
  rw[ees,t7]
  omega
 refine⟨nd,he,hlen,hqe,aV3 (q:=q) hg hd ?_ hp nd he hlen fun x hx y hy hny hyp hxq hyq=>?_⟩
 ·rw[ht]
  exact decide_eq_false hqe
 ·rw[ees]at hx hny
  have hyr:(y:Int)∈S7 zs p q:=an6.mpr ⟨hz.mem_iff.mpr (M9.mpr ⟨by omega,by omega⟩),by omega,by omega⟩
  rw[<- G3 (ns.getD p 0).toNat (S7 zs p q)]at hyr srt
  rcases l9.mp hyr with m | m
  ·exact absurd m hny
  ·have:=(Q5.mp srt).2.2 x hx y m
   rcases Y7.mp this with t | t
   ·rw[i3]at t;omega
   ·rw[i3]at t;omega
end Web
namespace Web
open L2
theorem up_eq {a b c d:Int}(h:up [a,b]=up [c,d]):(a=c/\b=d)\/(a=d/\b=c):=by
 unfold up at h
 injection h with h1 h2
 injection h2 with h2 _
 split at h1<;>split at h1<;>split at h2<;>split at h2<;>omega
def star (a:Int)(bs:List Int):List (List Int):=bs.map fun b=>[a,b]
theorem aB7 {a:Int}{q:Nat}:∀ {bs:List Int},a∉bs->M3 (star a bs) q=if (q:Int)=a then bs.length else bs.count (q:Int)
 | [],_=>by
  split<;>rfl
 | b::bs,h=>by
  have hb:a≠b:=fun e=>h (e ▸ f9)
  have hbs:a∉bs:=fun m=>h (d4 _ m)
  have ih:=aB7 (q:=q) hbs
  unfold star M3 at ih ⊢
  rw[j9,ak7,ih,List.count_cons,o9]
  by_cases e:(q:Int)=a
  ·rw[if_pos e,if_pos e,if_pos (decide_eq_true (by rw[e];exact f9))]
  ·rw[if_neg e,if_neg e]
   by_cases e2:(q:Int)=b
   ·rw[if_pos (decide_eq_true (by rw[e2];exact d4 _ f9)),if_pos (by rw[e2];exact beq_self_eq_true b)]
   ·rw[if_neg (by
     intro z
     have:=of_decide_eq_true z
     rcases g9.mp this with t | t
     ·exact e t
     ·exact e2 (j0.mp t)),if_neg (by rw[beq_iff_eq];exact fun z=>e2 z.symm)]
theorem as4 {q:Int}:∀ {bs:List Int},bs.Nodup->bs.count q=if q∈bs then 1 else 0
 | [],_=>by rw[if_neg (by simp)];rfl
 | b::bs,nd=>by
  obtain⟨h1,h2⟩:=E9.mp nd
  rw[List.count_cons,as4 h2]
  by_cases e:b=q
  ·subst e
   rw[if_neg h1,if_pos f9,if_pos (beq_self_eq_true b)]
  ·rw[show (b == q)=false from beq_eq_false_iff_ne.mpr e]
   by_cases m:q∈bs
   ·rw[if_pos m,if_pos (d4 _ m)];rfl
   ·have m2:¬ q∈b::bs:=fun z=>by
     rcases g9.mp z with t | t
     ·exact e t.symm
     ·exact m t
    rw[if_neg m,if_neg m2];rfl
structure ah1 (ns ps left:List Int) (ks:List (List Int)):Prop where
 len:left.length=ps.length
 nd:ps.Nodup
 inn:∀ q∈ps,0<=q/\q<ns.length
 ends:∀ k∈ks,ab2 ns.length k
 nodup:(ks.map up).Nodup
 out:∀ a b:Int,[a,b]∈ks->¬ (a∈ps/\b∈ps)
 cnt:∀ i q:Nat,ps[i]?=some (q:Int)->(M3 ks q:Int)+left.getD i 0=ns.getD q 0
 done:∀ q:Nat,q<ns.length->(q:Int)∉ps->(M3 ks q:Int)=ns.getD q 0
theorem aU1 {ps:List Int}(nd:ps.Nodup){a:Int}(h1:ps[i]?=some a)(h2:ps[j]?=some a):i=j:=by
 have hi:i<ps.length:=by
  rcases E6 i ps.length with h | h
  ·exact h
  ·rw[o5 h]at h1;cases h1
 exact(bX7 hi nd).mp (h1.trans h2.symm)
theorem bh0 {ps:List Int}{a:Int}(h:ps[i]?=some a):ps.getD i 0=a:=by rw[i9,h];rfl
theorem bc6 {ps:List Int}(h:i<ps.length):ps[i]?=some (ps.getD i 0):=by
 rw[i9,d6 h];rfl
theorem ah1.step {ps left ps' es:List Int}{a:Int}(h:ah1 ns ps left ks)(hj:ps[j]?=some a)(sub:ps'.Sublist ps)(hl:ps'.length=ps.length - 1)(hix:∀ i,i<ps.length - 1->ps'[i]?=ps[sk j i]?)
  (ne:es.Nodup)(he:∀ z∈es,0<=z/\z<ps.length/\z≠j)(hn:(es.length:Int)=left.getD j 0) :
  ah1 ns ps' (P4 left j es) (ks++star a (es.map fun z=>ps.getD z.toNat 0)):=by
 have hjl:j<ps.length:=by
  rcases E6 j ps.length with h | h
  ·exact h
  ·rw[o5 h]at hj;cases hj
 have hjl':j<left.length:=by rw[h.len];exact hjl
 have haps:a∈ps:=d5 hj
 have bget:∀ z∈es,ps[z.toNat]?=some (ps.getD z.toNat 0):=fun z hz=>bc6 (by have:=he z hz;omega)
 have bmem:∀ b∈es.map (fun z=>ps.getD z.toNat 0),b∈ps:=fun b hb=>by
  obtain⟨z,hz,rfl⟩:=m6.mp hb
  exact d5 (bget z hz)
 have anb:a∉es.map (fun z=>ps.getD z.toNat 0):=fun m=>by
  obtain⟨z,hz,e⟩:=m6.mp m
  have h1:=bget z hz
  rw[e]at h1
  have:=aU1 h.nd h1 hj
  have:=he z hz
  omega
 have ndb:(es.map (fun z=>ps.getD z.toNat 0)).Nodup:=by
  refine K3.mpr ?_
  rw[E5]
  refine List.Pairwise.imp_of_mem ?_ (K3.mp ne)
  intro x y hx hy hxy e
  have h1:=bget x hx
  rw[e]at h1
  have:=aU1 h.nd h1 (bget y hy)
  have:=he x hx
  have:=he y hy
  exact hxy (by omega)
 have ap:a∉ps':=fun m=>by
  obtain⟨i,hi⟩:=C3.mp m
  have hil:i<ps.length - 1:=by
   rcases E6 i ps'.length with h | h
   ·omega
   ·rw[o5 h]at hi;cases hi
  rw[hix i hil]at hi
  exact bL2 j i (aU1 h.nd hi hj)
 have bin:∀ (i q:Nat),ps[i]?=some (q:Int)->((q:Int)∈es.map (fun z=>ps.getD z.toNat 0)↔(i:Int)∈es):=fun i q hi=>by
  constructor
  ·intro m
   obtain⟨z,hz,e⟩:=m6.mp m
   have h1:=bget z hz
   rw[e]at h1
   have:=aU1 h.nd h1 hi
   have:=he z hz
   rwa [show (i:Int)=z by omega]
  ·intro m
   refine m6.mpr ⟨i,m,?_⟩
   rw[i3]
   exact bh0 hi
 refine⟨by rw[aa5 hjl',hl,h.len],h.nd.sublist sub,fun q hq=>h.inn q (sub.subset hq),fun k hk=>?_,?_,fun c d hk=>?_,fun i q hi=>?_,fun q hq hnq=>?_⟩
 ·rcases l9.mp hk with hk | hk
  ·exact h.ends k hk
  ·obtain⟨b,hb,rfl⟩:=m6.mp hk
   have h1:=h.inn a haps
   have h2:=h.inn b (bmem b hb)
   have h3:a≠b:=fun e=>anb (e ▸ hb)
   exact⟨a.toNat,b.toNat,by omega,by omega,by omega,by rw[ab6 h1.1,ab6 h2.1]⟩
 ·rw[r9,ah5]
  refine⟨h.nodup,?_,fun x hx y hy e=>?_⟩
  ·unfold star
   rw[S0]
   refine K3.mpr ?_
   rw[E5]
   refine List.Pairwise.imp_of_mem ?_ (K3.mp ndb)
   intro x y hx hy hxy e
   rcases up_eq e with t | t
   ·exact hxy t.2
   ·exact anb (t.1 ▸ hy)
  ·obtain⟨k,hk,rfl⟩:=m6.mp hx
   obtain⟨k2,hk2,rfl⟩:=m6.mp hy
   obtain⟨b,hb,rfl⟩:=m6.mp hk2
   obtain⟨u,v,_,_,_,rfl⟩:=h.ends k hk
   refine h.out _ _ hk ?_
   rcases up_eq e with t | t
   ·rw[t.1,t.2];exact⟨haps,bmem b hb⟩
   ·rw[t.1,t.2];exact⟨bmem b hb,haps⟩
 ·rcases l9.mp hk with hk | hk
  ·exact fun z=>h.out c d hk ⟨sub.subset z.1,sub.subset z.2⟩
  ·obtain⟨b,hb,e⟩:=m6.mp hk
   injection e with e1 _
   intro z
   exact ap (e1 ▸ z.1)
 ·have hil:i<ps.length - 1:=by
   rcases E6 i ps'.length with h | h
   ·omega
   ·rw[o5 h]at hi;cases hi
  rw[hix i hil]at hi
  have hc:=h.cnt _ q hi
  have hqa:¬ (q:Int)=a:=fun e=>by
   rw[e]at hi
   exact bL2 j i (aU1 h.nd hi hj)
  rw[as0 hjl' (by rw[h.len];exact hil),aB8,aB7 anb,if_neg hqa,as4 ndb]
  unfold X1
  by_cases m:((sk j i:Nat):Int)∈es
  ·rw[if_pos ((bin _ q hi).mpr m),if_pos m];omega
  ·rw[if_neg (fun z=>m ((bin _ q hi).mp z)),if_neg m];omega
 ·rw[aB8,aB7 anb]
  by_cases e:(q:Int)=a
  ·have hc:=h.cnt j q (by rw[e];exact hj)
   rw[if_pos e,a9]
   omega
  ·rw[if_neg e,as4 ndb]
   have hq':(q:Int)∉ps:=fun m=>by
    obtain⟨m',hm'⟩:=C3.mp m
    have hml:m'<ps.length:=by
     rcases E6 m' ps.length with h | h
     ·exact h
     ·rw[o5 h]at hm';cases hm'
    have hmj:m'≠j:=fun z=>by rw[z,hj]at hm';injection hm' with hm';exact e hm'.symm
    obtain⟨i,hi,hik⟩:∃ i,i<ps.length - 1/\sk j i=m':=by
     rcases E6 m' j with t | t
     ·exact⟨m',by omega,by unfold sk;rw[if_pos t]⟩
     ·exact⟨m' - 1,by omega,by unfold sk;rw[if_neg (by omega)];omega⟩
    have:=hix i hi
    rw[hik,hm']at this
    exact hnq (d5 this)
   rw[if_neg (fun m=>hq' (bmem _ m)),h.done q hq hq' |>.symm]
   omega
theorem ah1.last {left:List Int}(h:ah1 ns [] left ks):tal ns.length ks=ns:=by
 apply V7
 intro i
 rcases E6 i ns.length with hi | hi
 ·rw[Q8 hi,h.done i hi (by simp),bc6 hi]
 ·rw[o5 (by rw[L9];exact hi),o5 hi]
theorem aM0 (h:i<n):(rng n)[i]?=some (i:Int):=by
 unfold rng
 rw[r6,List.getElem?_range' h]
 simp
theorem ah1.first (ns:List Int):ah1 ns (rng ns.length) ns [] where
 len:=(Y4 _).symm
 nd:=O8 _
 inn:=fun q hq=>M9.mp hq
 ends:=fun k hk=>absurd hk (by simp)
 nodup:=by simp
 out:=fun a b hk=>absurd hk (by simp)
 cnt:=fun i q hi=>by
  have hil:i<ns.length:=by
   rcases E6 i (rng ns.length).length with h | h
   ·rw[Y4]at h;exact h
   ·rw[o5 h]at hi;cases hi
  rw[aM0 hil]at hi
  injection hi with hi
  rw[show q=i by omega]
  show (0:Int)+_=_
  omega
 done:=fun q hq hn=>absurd (M9.mpr ⟨by omega,by omega⟩) hn
theorem az9:∀ {xs ys:List Int},xs.Perm ys->xs.Pairwise (ole ns)->ys.Pairwise (ole ns)->xs=ys
 | [],ys,p,_,_=>p.symm.eq_nil.symm
 | x::xs,[],p,_,_=>by
  have:=p.length_eq
  simp at this
 | x::xs,y::ys,p,h,q=>by
  have hxy:x=y:=by
   have h1:x∈y::ys:=p.mem_iff.mp f9
   have h2:y∈x::xs:=p.mem_iff.mpr f9
   rcases g9.mp h1 with e | e
   ·exact e
   ·rcases g9.mp h2 with e2 | e2
    ·exact e2.symm
    ·exact aT5 ((C7.mp h).1 y e2) ((C7.mp q).1 x e)
  subst hxy
  rw[az9 ((List.perm_cons x).mp p) (C7.mp h).2 (C7.mp q).2]
theorem an9:∀ {l m:List (List Int)},l.Nodup->(∀ x∈l,x∈m)->l.length<=m.length
 | [],m,_,_=>u7 _
 | x::l,m,nd,h=>by
  have h1:=E9.mp nd
  have hm:=h x f9
  have h2:∀ y∈l,y∈m.erase x:=fun y hy=>by
   have hne:y≠x:=fun e=>h1.1 (e ▸ hy)
   exact(List.mem_erase_of_ne hne).mpr (h y (d4 _ hy))
  have h3:=an9 h1.2 h2
  rw[bj0 hm]at h3
  have h4:0<m.length:=bp8 hm
  simp only[o9]
  omega
theorem by3 {q:Nat}:∀ {ks:List (List Int)},(∀ k∈ks,ab2 n k)->M3 (ks.map up) q=M3 ks q
 | [],_=>rfl
 | k::ks,h=>by
  have ih:=by3 (q:=q) fun k hk=>h k (d4 _ hk)
  unfold M3 at ih ⊢
  rw[j9,ak7,ak7,ih]
  congr 1
  obtain⟨i,j,_,_,_,rfl⟩:=h k f9
  have e:((q:Int)∈up [(i:Int),(j:Int)])↔(q:Int)∈[(i:Int),(j:Int)]:=by
   unfold up
   simp only[g9,K6,or_false]
   split<;>split<;>omega
  by_cases z:(q:Int)∈[(i:Int),(j:Int)]
  ·rw[decide_eq_true z,decide_eq_true (e.mpr z)]
  ·rw[decide_eq_false z,decide_eq_false (fun t=>z (e.mp t))]
theorem bP0 (h:∀ k∈ks,ab2 n k):tal n (ks.map up)=tal n ks:=by
 unfold tal
 refine R5 fun p _=>?_
 rw[by3 h]
noncomputable def bF5 (ns:List Int):List Int:=Classical.choose (ar7 ns)
theorem aa4 (ns:List Int):(bF5 ns).Perm (rng ns.length):=(Classical.choose_spec (ar7 ns)).1
theorem aG7 (ns:List Int):(bF5 ns).Pairwise (ole ns):=(Classical.choose_spec (ar7 ns)).2
theorem bF4 (hp:zs.Perm (rng ns.length))(hs:zs.Pairwise (ole ns)):zs=bF5 ns:=az9 (hp.trans (aa4 ns).symm) hs (aG7 ns)
noncomputable def chF (ns:List Int)(p:Nat):List Int:=(rest (bF5 ns) p).take (ns.getD p 0).toNat
theorem bW1 (ns:List Int)(p:Nat):(chF ns p).Nodup:=(((aa4 ns).nodup_iff.mpr (O8 ns.length)).filter _).sublist (M6 _ _)
theorem by6 {p:Nat}{z:Int}(h:z∈chF ns p):0<=z/\z<ns.length/\z≠p:=by
 obtain⟨m1,m2⟩:=an2.mp (C0 h)
 obtain⟨c0,c1⟩:=M9.mp ((aa4 ns).mem_iff.mp m1)
 exact⟨c0,c1,m2⟩
theorem bi2 {p:Nat}(h:Gr ns)(hp:p<ns.length):((chF ns p).length:Int)=ns.getD p 0:=by
 have h1:=aB2 h hp
 have h0:=ab0 (as2 h) hp
 have hl:=az3 (aa4 ns) (p:=(p:Int)) (by omega) (by omega)
 unfold chF
 rw[t7]
 omega
theorem bW2 {p:Nat}(h:Gr ns)(hp:p<ns.length):Gr (P4 ns p (chF ns p)):=bx0 h hp (aa4 ns) (aG7 ns)
noncomputable def bv8:Nat->List Int->List Int->List (List Int)
 | 0,_,_=>[]
 | m+1,left,ps=>star (ps.getD 0 0) ((chF left 0).map fun z=>ps.getD z.toNat 0)++bv8 m (P4 left 0 (chF left 0)) (ps.drop 1)
theorem ah1.go {ps left:List Int}(h:ah1 ns ps left ks)(hg:Gr left)(h0:0<left.length) :
  ah1 ns (ps.drop 1) (P4 left 0 (chF left 0)) (ks++star (ps.getD 0 0) ((chF left 0).map fun z=>ps.getD z.toNat 0)):=by
 have hl:=h.len
 refine h.step (bc6 (by omega)) (bX5 1 ps) (by rw[G6]) (fun i hi=>?_) (bW1 left 0) (fun z hz=>?_) (bi2 hg h0)
 ·rw[bN0]
  congr 1
  unfold sk
  rw[if_neg (by omega)]
  omega
 ·have:=by6 hz
  omega
def K9 (n p:Nat):List Int:=((x6 n).filter fun i=>decide (i≠p)).map fun i:Nat=>(i:Int)
theorem ah1.start {es:List Int}{p:Nat}(hp:p<ns.length)(ne:es.Nodup)(he:∀ z∈es,0<=z/\z<ns.length/\z≠p)(hn:(es.length:Int)=ns.getD p 0):ah1 ns (K9 ns.length p) (P4 ns p es) (star p es):=by
 have:=(ah1.first ns).step (j:=p) (a:=(p:Int)) (ps':=K9 ns.length p) (es:=es) (aM0 hp) ?_ ?_ ?_ ne (fun z hz=>by rw[Y4];exact he z hz) hn
 ·have e:es.map (fun z=>(rng ns.length).getD z.toNat 0)=es:=by
   conv=>rhs;rw[<- List.map_id es]
   refine R5 fun z hz=>?_
   have:=he z hz
   rw[bh0 (aM0 (n:=ns.length) (i:=z.toNat) (by omega))]
   show ((z.toNat:Nat):Int)=z
   omega
  rw[e,List.nil_append]at this
  exact this
 ·unfold K9 rng
  rw[<- bA9]
  exact List.Sublist.map _ List.filter_sublist
 ·unfold K9
  rw[Y9 hp,a9,a9,F9,Y4]
 ·intro i hi
  rw[Y4]at hi
  unfold K9
  rw[Y9 hp,r6,r6,R4 hi,aM0 (br7 hi hp)]
  rfl
end Web
namespace Tim
open PySem PyProof.Rows
theorem bm1:∀ n:Nat,n<64->minRun' n n 0=n:=by decide +kernel
section
variable {p:Array (Nat × Nat × Nat)} {O:aX6} {f:Keyed->O.α}
theorem aF4 (C:bJ8 prog w A E s κ a₀ f){st:SortSt}{Q:Unit->SortSt->Prop}(d:O.α)(h3:a₀.size<64)(hp:(n6 st).Perm a₀)(hk:kindOf st=κ)(hf:X9 st=none)(hpe:Z2 st=#[])
  (h:∀ st',(n6 st').Perm a₀->X9 st'=none->(n6 st').toList.Pairwise (le (Bf f))->Q () st'):wpS (p0 prog w) A E s sortRuns' Q st:=by
 have hsz:(n6 st).size=a₀.size:=hp.size_eq
 rw[sortRuns'_eq]
 refine C2 (bB9 ?_)
 dsimp only
 rw[hsz]
 have hmr:=bm1 a₀.size h3
 generalize minRun' a₀.size a₀.size 0=mr at hmr ⊢
 refine C2 (wpS_mono (ah8
  (I:=fun x c st'=>(c=(none,0)/\x=0/\SI a₀ κ #[] st')\/(c=(none,a₀.size)/\SI a₀ κ #[(0,a₀.size,0)] st'/\Q0 f d 0 (n6 st') a₀.size))
  (Q:=fun c st'=>c=(none,a₀.size)/\X9 st'=none/\(n6 st').Perm a₀/\(Z2 st').size<=1/\Q0 f d 0 (n6 st') a₀.size) ?step ?fin
  (.inl ⟨rfl,rfl,hp,hk,hf,hpe⟩)) ?post)
 case fin =>
  rintro c st' (⟨rfl,hx,I⟩ | ⟨rfl,I,hs⟩)
  ·have e0:a₀.size=0:=by omega
   refine⟨by rw[e0],I.failed,I.perm,by rw[I.pend];exact u7 _,fun i j _ hj=>?_⟩
   omega
  ·exact⟨rfl,I.failed,I.perm,by rw[I.pend];exact c6 _,hs⟩
 case step =>
  rintro x c st1 _ hx (⟨rfl,rfl,I⟩ | ⟨rfl,I,hs⟩)
  ·dsimp only
   have hpos:0<a₀.size:=by omega
   rw[if_neg (by omega)]
   refine C2 (wpS_countRun C d (p:=#[]) (by omega) (by omega) I fun n st2 hB2 hp2 hn1 hn2 hs2=>?_)
   dsimp only
   by_cases hlt:n<mr
   ·rw[if_pos hlt]
    refine C2 (aQ5 ?_)
    refine C2 (av6 C d (by omega) (by omega) hB2 hs2 fun st3 hB3 hp3 hs3=>?_)
    simp only[Z9,j7,if_false]
    have e:min (a₀.size - 0) mr=a₀.size:=by omega
    rw[e]at hs3 ⊢
    refine C2 (bB9 ?_)
    rw[hB3.pend]
    show wpS _ _ _ _ (do modify fun s=>setPending s ((Z2 s).push (0,a₀.size,0));pure (ForInStep.yield (none,0+a₀.size))) _ _
    refine C2 (wpS_modify (G4 (.inr ⟨by rw[af2],⟨hB3.perm,hB3.kind,hB3.failed,?_⟩,hs3⟩)))
    show (Z2 st3).push (0,a₀.size,0)=_
    rw[hB3.pend]
    rfl
   ·rw[if_neg hlt]
    have e:n=a₀.size:=by omega
    subst e
    refine C2 (bB9 ?_)
    rw[hB2.pend]
    show wpS _ _ _ _ (do modify fun s=>setPending s ((Z2 s).push (0,a₀.size,0));pure (ForInStep.yield (none,0+a₀.size))) _ _
    refine C2 (wpS_modify (G4 (.inr ⟨by rw[af2],⟨hB2.perm,hB2.kind,hB2.failed,?_⟩,hs2⟩)))
    show (Z2 st2).push (0,a₀.size,0)=_
    rw[hB2.pend]
    rfl
  ·dsimp only
   rw[if_pos (c6 _)]
   exact G4 ⟨rfl,I.failed,I.perm,by rw[I.pend];exact c6 _,hs⟩
 case post =>
  rintro c st1 ⟨rfl,I1,I2,I3,I4⟩
  try dsimp only
  refine C2 (wpS_mono (ah8
   (I:=fun x c st'=>c=(none,())/\st'=st1)
   (Q:=fun c st'=>c=(none,())/\st'=st1) ?fstep (fun _ _ q=>q) ⟨rfl,rfl⟩) ?fpost)
  case fstep =>
   rintro x c st2 _ hx ⟨rfl,rfl⟩
   refine C2 (bB9 ?_)
   try dsimp only
   rw[if_pos I3]
   exact G4 ⟨rfl,rfl⟩
  case fpost =>
   rintro c st2 ⟨rfl,rfl⟩
   refine G4 (h st2 I2 I1 ?_)
   have:=(bR0 I4 (by rw[I2.size_eq];omega)).1
   rw[av2,l6 (by rw[m8,I2.size_eq];exact c6 _)]at this
   exact this
end
theorem ay7 {P:PySem.Fin->Shared->Prop}(ho:s.heap.get? a=some (E2 "list" vs.toArray n))(hz:vs.length<=c5)(h64:vs.length<64)
  (hv:∀ v∈vs,∃ i k,IsK prog w s.heap (i::k) v)(hna:∀ v∈vs,v≠.ref a)
  (h:∀ out:List Value,out.Perm vs->out.Pairwise (fun x y=>F2 (N7 prog w s.heap y) (N7 prog w s.heap x)=false)->P (.done (.ret .none)) { s with heap:=U4 s.heap a vs out.toArray }) :
  m5 (p0 prog w) A (av3.«list.sort» ⟨[.ref a],[]⟩) P E s:=by
 rw[list_sort_plain]
 have ha:a<s.heap.objs.size:=d9 ho
 refine a7 (bO0 ho rfl ?_)
 refine a7 (ab8 ho rfl ?_ (by rw[d3];exact hz) (u7 _))
 obtain⟨e1,ho1⟩:∃ e1,(s.heap.update a (Obj.mapSeq fun _=>#[])).get? a=some (E2 "list" #[] e1):=⟨_,N1 ho (fun _=>#[])⟩
 refine a7 (bk1 ho1 rfl ?_)
 refine a7 (wpAny_newTuple ?_ (by show vs.length<=_;exact hz))
 refine a7 (O6 ?_ (u7 _))
 refine C1 ?_
 generalize hH:((s.heap.update a (Obj.mapSeq fun _=>#[])).push (E2 "tuple" vs.toArray 0)).push (E2 "list" #[] 0)=h6
 have ho6:h6.get? a=some (E2 "list" #[] e1):=by rw[<- hH];exact a8 _ (a8 _ ho1)
 have keep:∀ b o,b≠a->s.heap.get? b=some o->h6.get? b=some o:=fun b o hb e=>by
  rw[<- hH]
  exact a8 _ (a8 _ ((B7 s.heap _ (Ne.symm hb)).trans e))
 have up:∀ v∈vs,∀ k,IsK prog w s.heap k v->IsK prog w h6 k v:=fun v hv' k hk=>by
  obtain⟨c,rfl,o,items,n,h2,h3⟩:=hk
  exact⟨c,rfl,o,items,n,keep c o (fun z=>hna _ hv' (by rw[z])) h2,h3⟩
 have fin:∀ st':SortSt,(n6 st').Perm (bZ4 vs)->(n6 st').toList.Pairwise (le (Bf (O:=bb4) fun p=>N7 prog w s.heap p.1))->P (.done (.ret .none)) { s with heap:=U4 s.heap a vs ((n6 st').map (·.2)) }:=fun st' hp hs=>by
  have hl:(n6 st').toList.Perm (vs.zip vs):=by rw[<- pairsOf_toList];exact ab5.mp hp
  have hm:((n6 st').map (·.2)).toList=(n6 st').toList.map (·.2):=bX2 ..
  have hz2:(vs.zip vs).map (·.2)=vs:=List.map_snd_zip (c6 _)
  have:=h ((n6 st').toList.map (·.2)) (by have:=hl.map (·.2);rw[hz2]at this;exact this) ?_
  ·rw[show (n6 st').map (·.2)=((n6 st').toList.map (·.2)).toArray by rw[<- hm]]
   exact this
  ·rw[E5]
   refine List.Pairwise.imp_of_mem ?_ hs
   intro x y hx hy hxy
   have ex:=(ah9 (hl.mem_iff.mp hx)).1
   have ey:=(ah9 (hl.mem_iff.mp hy)).1
   rw[<- ex,<- ey]
   exact hxy
 have out:∀ st':SortSt,(n6 st').Perm (bZ4 vs)->X9 st'=none->(n6 st').toList.Pairwise (le (Bf (O:=bb4) fun p=>N7 prog w s.heap p.1)) ->
   m5 (p0 prog w) A (do
    let sorted:=(n6 st').map (·.2)
    let touched:=(<- seqEpoch a) != e1
    Builtin.List.listUpdate (.ref a) fun _=>sorted
    if let some e:=X9 st' then rule "list.sort.comparison-raised";throw e
    if touched then rule "list.sort.modified";raiseError "ValueError" "list modified during sort"
    ret .none) P E { s with heap:=h6 }:=fun st' hp hf hs=>by
  dsimp only
  refine a7 (bk1 (s:={ s with heap:=h6 }) ho6 rfl ?_)
  refine a7 (ab8 (s:={ s with heap:=h6 }) ho6 rfl ?_ (u7 _) (by refine n8 (aq7 ((ae6 ..).trans (hp.size_eq.trans (bO1 _)))) ?_;omega))
  rw[hf]
  simp only[bne_self_eq_false,j7,if_false]
  refine b9 ?_
  have:=fin st' hp hs
  unfold U4 at this
  rw[hH]at this
  exact this
 show m5 (p0 prog w) A _ P E { s with heap:=h6 }
 dsimp only
 by_cases h2:vs.toArray.size<2
 ·rw[if_pos h2,if_pos h2]
  refine a7 (b9 ?_)
  rw[StateT.run_pure]
  refine a7 (b9 ?_)
  refine out (SortSt.mk' general' (vs.toArray.zip vs.toArray) #[] 7 none) (Array.Perm.refl _) rfl ?_
  show (bZ4 vs).toList.Pairwise _
  rw[B4]
  intro i j hi hj hij
  rw[m8,bO1]at hj
  rw[d3]at h2
  omega
 ·rw[if_neg h2,if_neg h2]
  rw[d3]at h2
  refine a7 (aA5 (s:={ s with heap:=h6 }) (by omega) (fun v hv'=>?_) ?_)
  ·obtain⟨i,k,hk⟩:=hv v hv'
   exact⟨i,k,up v hv' _ hk⟩
  refine a7 (B6 (aF4 (s:={ s with heap:=h6 }) (a₀:=bZ4 vs) (κ:=bC0 true) (O:=bb4) (f:=fun p=>N7 prog w s.heap p.1) (st:=SortSt.mk' (bC0 true) (vs.toArray.zip vs.toArray) #[] 7 none)
   (Q:=fun _ st'=>(n6 st').Perm (bZ4 vs)/\X9 st'=none/\(n6 st').toList.Pairwise (le (Bf (O:=bb4) fun p=>N7 prog w s.heap p.1))) ?_ ([]:List Int) (by rw[bO1];exact h64) (Array.Perm.refl _) rfl rfl rfl fun st' a1 a2 a3=>⟨a1,a2,a3⟩) ?_ fun _ _ e=>e)
  ·intro x y hx hy Q hq
   rw[pairsOf_toList]at hx hy
   obtain⟨i,k,hk⟩:=hv x.1 (ah9 hx).2
   obtain⟨j,k',hk'⟩:=hv y.1 (ah9 hy).2
   refine aU4 (s:={ s with heap:=h6 }) (up _ (ah9 hx).2 _ hk) (up _ (ah9 hy).2 _ hk') ?_
   rw[<- M4 hk,<- M4 hk']
   exact hq
  ·rintro⟨⟨⟩,st'⟩ s' ⟨rfl,hp,hf,hs⟩
   exact out st' hp hf hs
theorem ay5 (hl:s.heap.IsList l vs.toArray) (hz:vs.length<=c5) (h64:vs.length<64) (hv:∀ v∈vs,∃ i k,IsK prog w s.heap (i::k) v)
  (h : ∀ (out : List Value) (h' : Heap) (n : Nat), out.Perm vs -> out.Pairwise (fun x y => F2 (N7 prog w s.heap y) (N7 prog w s.heap x) = false) -> (∀ b o, s.heap.get? b = some o -> h'.get? b = some o) ->
   h'.get? (s.heap.objs.size+1)=some { cls:=.type "list",data:=.seq out.toArray n }->Q (.ref (s.heap.objs.size+1)) { s with heap:=h' }) :
  m5 (p0 prog w) A (call (.builtin "sorted") [.ref l]) Q E s:=by
 refine Calls.call_function_entry bk3 aX7 aX8 (args_sorted1 _) ?_
 unfold av3.«sorted»
 refine a7 (m:=bA5 "sorted" 1 1 _) (b9 ?_)
 refine a7 (collect_list hl ?_ hz)
 refine a7 (O6 ?_ hz)
 have hsz:((s.heap.push (E2 "list" #[] 0)).update s.heap.objs.size (Obj.mapSeq (·++vs.toArray))).objs.size=s.heap.objs.size+1:=by
  rw[bY7,bA4]
 generalize hH:((s.heap.push (E2 "list" #[] 0)).update s.heap.objs.size (Obj.mapSeq (·++vs.toArray))).push (E2 "list" vs.toArray 0)=h2
 have hoL:h2.get? (s.heap.objs.size+1)=some (E2 "list" vs.toArray 0):=by
  rw[<- hH,<- hsz];exact j3 _ rfl
 have keep:∀ b o,s.heap.get? b=some o->h2.get? b=some o:=fun b o e=>by
  rw[<- hH]
  refine a8 _ ((B7 _ _ ?_).trans (a8 _ e))
  exact Ne.symm (i8 (d9 e))
 have hsz2:h2.objs.size=s.heap.objs.size+2:=by rw[<- hH,bA4,hsz]
 rw[hsz]
 have up:∀ v k,IsK prog w s.heap k v->IsK prog w h2 k v:=fun v k hk=>hk.up keep
 have kA:∀ v∈vs,N7 prog w h2 v=N7 prog w s.heap v:=fun v hv'=>by
  obtain⟨i,k,hk⟩:=hv v hv'
  rw[M4 hk,M4 (up v _ hk)]
 refine a7 (C1 (F7 aD2 (s:={ s with heap:=h2 }) ⟨_,hoL,rfl⟩ av5 (ay7 (s:={ s with heap:=h2 }) hoL hz h64 (fun v hv'=>?_) (fun v hv' z=>?_) fun out a1 a2=>⟨_,rfl,?_⟩) (args_list_sort _)))
 ·obtain⟨i,k,hk⟩:=hv v hv'
  exact⟨i,k,up v _ hk⟩
 ·obtain⟨i,k,a,rfl,o,items,n,ho,_⟩:=hv v hv'
  cases z
  exact absurd (d9 ho) (Nat.not_lt.mpr (W5 _))
 ·have hlast:∃ n,(U4 h2 (s.heap.objs.size+1) vs out.toArray).get? (s.heap.objs.size+1)=some (E2 "list" out.toArray n):=by
   unfold U4
   have g1:=N1 hoL (fun _=>(#[]:Array Value))
   have g2:(((h2.update (s.heap.objs.size+1) (Obj.mapSeq fun _=>#[])).push (E2 "tuple" vs.toArray 0)).push (E2 "list" #[] 0)).get? (s.heap.objs.size+1)=_:=a8 _ (a8 _ g1)
   exact⟨_,N1 g2 (fun _=>out.toArray)⟩
  obtain⟨n,hn⟩:=hlast
  refine b9 ⟨_,rfl,h out _ n a1 ?_ (fun b o e=>?_) hn⟩
  ·refine List.Pairwise.imp_of_mem ?_ a2
   intro x y hx hy hxy
   rw[kA x (a1.mem_iff.mp hx),kA y (a1.mem_iff.mp hy)]at hxy
   exact hxy
  ·have hb:b≠s.heap.objs.size+1:=i8 (D8 (d9 e))
   unfold U4
   refine(B7 _ _ (Ne.symm hb)).trans (a8 _ (a8 _ ((B7 _ _ (Ne.symm hb)).trans (keep b o e))))
end Tim
namespace L2
open PySem PySem.Spec PyProof.Rows
theorem aO9:R9 X (.builtin "sorted") (fun xs H Q=>∃ p ys ks,xs=[.ref p]/\SqL X.K H p ys/\y7 X.K H ys ks/\(∀ k∈ks,k≠[])/\ks.length<64 /\
  ∀ l zs ks',H l=none->ks'.Perm ks->ks'.Pairwise (fun a b=>Tim.F2 b a=false)->y7 X.K (upd H l (.lst zs)) zs ks'->Q (.ref l) (upd H l (.lst zs))):=by
 intro pins s σ H xs us Q I r h
 obtain⟨p,ys,ks,rfl,hq,ht,hne,h64,q⟩:=h
 obtain⟨u,rfl,rx⟩:=vals1 r
 cases rx
 obtain⟨its,r',pl,hz⟩:=I.list hq
 have hlen:=r'.length
 have hk:=S2 I ht r'
 have hv:∀ v∈its,∃ i k,Tim.IsK X.prog X.w s.heap (i::k) v:=fun v hv=>by
  obtain⟨j,hj⟩:=C3.mp hv
  obtain⟨k,h1,a,rfl,h2⟩:=S5 hk hj
  cases k with
  | nil=>exact absurd rfl (hne [] (d5 h1))
  | cons i k=>exact⟨i,k,a,rfl,h2⟩
 refine Tim.ay5 pl.isList (by omega) (by have:=hk.length;omega) hv fun out h' n hp hs kp e=>?_
 obtain⟨zs,pz,rz⟩:=Y6 hp (T9 r')
 have rz':B9 zs out:=T9 rz
 have hzl:zs.length<=c5:=by rw[pz.length_eq];exact hz
 have hfr:H (s.heap.objs.size+1)=none:=I.hok.fresh (W5 _)
 have keepS:∀ b o,H b=some o->upd H (s.heap.objs.size+1) (.lst zs) b=some o:=fun b o e=>by rw[m9 (u0 e hfr)];exact e
 refine⟨.ref (s.heap.objs.size+1),upd H (s.heap.objs.size+1) (.lst zs),I.laid (t':=s.toks) kp (W5 _) (show F3 X.prog X.w _ h' _ (.lst zs) from ⟨hzl,out,n,rz',e⟩),rfl,?_⟩
 obtain⟨ks',pk,hk'⟩:=Y6 pz (show X6 (fun y k=>∃ a,y=V.ref a/\SqT X.K H a (k.map V.int)) ys ks from ht)
 refine q _ zs ks' hfr pk ?_ (y7.same keepS hk')
 have hko:=S2 I (show y7 X.K H zs ks' from hk') rz'
 have eq:ks'=out.map (Tim.N7 X.prog X.w s.heap):=by
  clear hs hp rz rz' hk' pk e
  induction hko with
  | nil=>rfl
  | cons r t ih =>
   obtain⟨a,rfl,hka⟩:=r
   rw[j9,Tim.M4 ⟨a,rfl,hka⟩,<- ih]
 rw[eq,E5]
 exact hs
theorem bw1 {kS:Addr}{keys:Array Value}{e e1:Nat}{key:Int->List Int}{P:PySem.Fin->Shared->Prop}{H0:Hp}(I:Inv X pins σ H s)(hS:o7 H0 H)(hk:s.heap.get? kS=some (E2 "list" keys e))(ha:s.heap.get? a=some (E2 "list" #[] e1))
  (fk:O2 X pins H kS)(fa:O2 X pins H a)(hka:kS≠a)(hz:vs.length<=63)(hkl:keys.size=vs.length)(hi:J5 vs zs)
  (hK:X6 (fun u k=>Tim.IsK X.prog X.w s.heap k u) keys.toList (zs.map key))(hne:∀ z,∃ i k,key z=i::k)(h:aP6 X pins σ H0 a zs key P) :
  m5 (p0 X.prog X.w) A (ksk_end a false vs.toArray e1 (.ref kS) keys) P E s:=by
 obtain⟨k1,k2⟩:=aA6 hK hi
 have hzt:=ksk_zip keys vs
 unfold ksk_end
 dsimp only
 simp only[j7,if_false]
 by_cases h2:vs.toArray.size<2
 ·rw[if_pos h2,if_pos h2]
  refine a7 (b9 ?_)
  rw[StateT.run_pure]
  refine a7 (b9 ?_)
  refine aU7 (st:=SortSt.mk' general' (keys.zip vs.toArray) #[] 7 none) I hS hk ha fk fa hka (by omega) hkl hi hK (Array.Perm.refl _) rfl ?_ h
  show (keys.zip vs.toArray).toList.Pairwise _
  rw[B4]
  intro i j hi hj hij
  rw[m8,aY1,hkl]at hj
  rw[d3]at h2 hj
  omega
 ·rw[if_neg h2,if_neg h2]
  rw[d3]at h2
  have hmemK:∀ v∈keys.toList,∃ i k,Tim.IsK X.prog X.w s.heap (i::k) v:=fun v hv=>by
   obtain⟨j,hj⟩:=C3.mp hv
   obtain⟨k,q1,q2⟩:=S5 hK hj
   obtain⟨z,_,rfl⟩:=m6.mp (d5 q1)
   obtain⟨i,k',ek⟩:=hne z
   rw[ek]at q2
   exact⟨i,k',q2⟩
  have kk:keyKind' keys=keyKind' keys.toList.toArray:=by rw[aq8]
  rw[kk]
  refine a7 (Tim.aA5 (vs:=keys.toList) (by rw[m8,hkl];omega) hmemK ?_)
  refine a7 (B6 (Tim.aF4 (a₀:=keys.zip vs.toArray) (κ:=bC0 true) (O:=Tim.bb4) (f:=fun p=>Tim.N7 X.prog X.w s.heap p.1) (st:=SortSt.mk' (bC0 true) (keys.zip vs.toArray) #[] 7 none)
   (Q:=fun _ st'=>(n6 st').Perm (keys.zip vs.toArray)/\X9 st'=none/\(n6 st').toList.Pairwise (Tim.le (Tim.Bf (O:=Tim.bb4) fun p=>Tim.N7 X.prog X.w s.heap p.1))) ?_ ([]:List Int) (by rw[aY1,hkl,d3];omega) (Array.Perm.refl _) rfl rfl rfl fun st' a1 a2 a3=>⟨a1,a2,a3⟩) ?_ fun _ _ e=>e)
  ·intro x y hx hy Q hq
   rw[hzt]at hx hy
   refine Tim.aU4 (k1 x hx) (k1 y hy) ?_
   rw[<- Tim.M4 (k1 x hx),<- Tim.M4 (k1 y hy)]
   exact hq
  ·rintro⟨⟨⟩,st'⟩ s' ⟨rfl,hp,hf,hs⟩
   exact aU7 I hS hk ha fk fa hka (by omega) hkl hi hK hp hf hs h
theorem bm7 {kS:Addr}{f:Value}{e1:Nat}{key:Int->List Int}{P:PySem.Fin->Shared->Prop}(I:Inv X pins σ H s)(hk:s.heap.get? kS=some (E2 "list" #[] 0))(ha:s.heap.get? a=some (E2 "list" #[] e1))
  (fk:O2 X pins H kS)(fa:O2 X pins H a)(hka:kS≠a)(hz:vs.length<=63)(hi:J5 vs zs)(hne:∀ z,∃ i k,key z=i::k)(turn:∀ z∈zs,aP5 X A σ H f key z)(h:aP6 X pins σ H a zs key P) :
  m5 (p0 X.prog X.w) A (ksk_rest a f false vs.toArray e1 (.ref kS)) P E s:=by
 have hlen:=hi.length
 unfold ksk_rest
 refine a7 (aw3 ?_)
 first
  | rw[List.forIn_toArray]
  | (rw[<- ad8];simp only[aw1])
  | rw[<- ad8]
 refine a7 (ksk_fold (fun i s'=>∃ (kA:Array Value) (e:Nat) (H':Hp) (ys:List V),Inv X pins σ H' s'/\o7 H H'/\s'.heap.get? kS=some (E2 "list" kA e)/\s'.heap.get? a=some (E2 "list" #[] e1)/\O2 X pins H' kS/\O2 X pins H' a /\
   B9 ys kA.toList/\y7 X.K H' ys ((zs.take i).map key)) vs 0 s ⟨#[],0,H,[],I,o7.refl H,hk,ha,fk,fa,.nil,.nil⟩ ?step ?done)
 case step =>
  rintro j x s' hx ⟨kA,e,H',ys,I',hS,hk',ha',fk',fa',hv,ht⟩
  simp only[af2]at ht ⊢
  have hj:j<vs.length:=(m4.mp hx).1
  obtain⟨z,t,hzj,rfl⟩:=bw7 hi hx
  have hzA:kA.size<=vs.length:=by
   have h1:ys.length=kA.size:=by rw[<- m8];exact hv.length
   have h2:=ht.len
   rw[a9,t7]at h2
   omega
  have Ip:=I'.pinned (fp:=[kS,a]) (fun b hb=>by
   rcases g9.mp hb with rfl | hb
   ·exact fk'
   ·rw[j0.mp hb];exact fa') (fun b hb=>by
   rcases g9.mp hb with rfl | hb
   ·exact⟨_,hk',fun v q=>by cases q⟩
   ·rw[j0.mp hb];exact⟨_,ha',fun v q=>by cases q⟩)
  refine a7 (aJ6 (B6 (turn z (d5 hzj) t _ s' H' Ip hS) (fun v s'' he=>?_) fun _ _ hF=>hF.elim))
  obtain⟨k,H'',rfl,hk'',I'',hS'⟩:=he
  obtain⟨nk,fk0⟩:=bx2 I'' f9 hk'
  obtain⟨na,fa0⟩:=bx2 I'' (d4 _ f9) ha'
  have Iu:=I''.unpinned
  have fk'':O2 X pins H'' kS:=fk'.to fk0
  have fa'':O2 X pins H'' a:=fa'.to fa0
  have s1:=Heap.SameBut.update s''.heap kS (Obj.mapSeq (·.push (.ref k)))
  obtain⟨c2,hc2⟩:∃ c2,(s''.heap.update kS (Obj.mapSeq (·.push (Value.ref k)))).get? kS=some (E2 "list" (kA.push (.ref k)) c2):=⟨_,N1 nk (·.push (.ref k))⟩
  have ea:(kA.push (Value.ref k)).toList=kA.toList++[Value.ref k]:=by simp
  have ek:zs.take (j+1)=zs.take j++[z]:=by rw[C6,hzj];simp
  refine a7 (ab8 nk rfl ?_ (by rw[D7];omega) (n8 (aq7 (aP8 ..)) (by rw[D7];omega)))
  refine b9 ⟨rfl,kA.push (.ref k),c2,H'',ys++[.ref k],?_,hS.trans hS',hc2,(s1.2 a hka.symm).trans na,fk'',fa'',?_,?_⟩
  ·exact Iu.turn (t':=s''.toks) fk'' fun b o hb q=>(s1.2 b hb).trans q
  ·rw[ea]
   exact hv.append (.cons rfl .nil)
  ·rw[ek,r9]
   exact y7.append (y7.same hS' ht) (.cons ⟨k,rfl,.of hk''⟩ .nil)
 case done =>
  rintro s' ⟨kA,e,H',ys,I',hS,hk',ha',fk',fa',hv,ht⟩
  have e3:zs.take (0+vs.length)=zs:=l6 (by omega)
  rw[e3]at ht
  refine a7 (bO0 hk' rfl ?_)
  have h1:ys.length=kA.size:=by rw[<- m8];exact hv.length
  have h2:=ht.len
  rw[a9]at h2
  have hK:=S2 I' ht hv
  exact bw1 I' hS hk' ha' fk' fa' hka hz (by omega) hi (az6 (fun u k q=>q) hK) hne h
theorem bm6 {f:Value}{key:Int->List Int}{P:PySem.Fin->Shared->Prop}(I:Inv X pins σ H s)(ha:s.heap.get? a=some (E2 "list" vs.toArray n))
  (fa:O2 X pins H a)(hz:vs.length<=63)(hi:J5 vs zs)(hne:∀ z,∃ i k,key z=i::k)(turn:∀ z∈zs,aP5 X A σ H f key z)(h:aP6 X pins σ H a zs key P) :
  m5 (p0 X.prog X.w) A (ksk_tree a f false) P E s:=by
 have hlt:a<s.heap.objs.size:=d9 ha
 have s1:=Heap.SameBut.update s.heap a (Obj.mapSeq fun _=>(#[]:Array Value))
 obtain⟨e1,ho1⟩:∃ e1,(s.heap.update a (Obj.mapSeq fun _=>(#[]:Array Value))).get? a=some (E2 "list" #[] e1):=⟨_,N1 ha fun _=>#[]⟩
 have I1:Inv X pins σ H { s with heap:=s.heap.update a (Obj.mapSeq fun _=>(#[]:Array Value)),toks:=s.toks }:=I.turn fa fun b o hb q=>(s1.2 b hb).trans q
 unfold ksk_tree
 refine a7 (bO0 ha rfl ?_)
 refine a7 (ab8 ha rfl ?_ (by rw[d3,D7];omega) (u7 _))
 refine a7 (bk1 ho1 rfl ?_)
 refine a7 (wpAny_newTuple ?_ (by show vs.length<=_;rw[D7];omega))
 refine a7 (O6 ?_ (u7 _))
 refine C1 ?_
 generalize hh2:(s.heap.update a (Obj.mapSeq fun _=>(#[]:Array Value))).push (E2 "tuple" vs.toArray 0)=h2
 have hsz:h2.objs.size=s.heap.objs.size+1:=by rw[<- hh2,bA4,bY7]
 have I2:Inv X pins σ H { s with heap:=h2,toks:=s.toks }:=I1.kept (t':=s.toks) fun b o q=>by rw[<- hh2];exact a8 _ q
 have I3:Inv X pins σ H { s with heap:=h2.push (E2 "list" #[] 0),toks:=s.toks }:=I2.kept (t':=s.toks) fun b o q=>a8 _ q
 have fk:O2 X pins H h2.objs.size:=I2.fpOk (c6 _) (I2.hok.fresh (c6 _))
 refine bm7 (s:={ s with heap:=h2.push (E2 "list" #[] 0),toks:=s.toks }) (kS:=h2.objs.size) (e1:=e1) I3 (j3 _ rfl) ?_ fk fa (by rw[hsz];exact S9 (D8 hlt)) hz hi hne turn h
 refine a8 _ ?_
 rw[<- hh2]
 exact a8 _ ho1
theorem aR6 {r q:Addr}{key:Int->List Int}(I:Inv X pins σ H s)(hh:A.handled=none)(hr:∃ t u v,IsRange s.heap r 0 n 1 t u v)(hn:n<=63)(hne:∀ z,∃ i k,key z=i::k)
  (turn:∀ z∈(aj7 0 n).map (fun k:Nat=>(k:Int)),aP5 X A.in1.in1 σ H (.ref q) key z)
  (h:∀ (H':Hp) (s':Shared) (D:Addr) (zs:List Int),o7 H H'->H' D=none->zs.Perm ((aj7 0 n).map fun k:Nat=>(k:Int))->zs.Pairwise (fun x y=>Tim.F2 (key y) (key x)=false)->Inv X pins σ (upd H' D (.lst (zs.map V.int))) s'->Q (.ref D) s') :
  m5 (p0 X.prog X.w) A (call (.builtin "sorted") [.ref r] [(Str.ofString "key",.ref q)]) Q E s:=by
 obtain⟨t,u,v,hr⟩:=hr
 refine bK4 bk3 aX7 aX8 (ksk_s1 _ _) ?_
 unfold av3.«sorted»
 refine a7 (m:=bA5 "sorted" 1 1 _) (b9 ?_)
 refine a7 (aW2 (A:=A.in1) hh hr (n8 hn (by decide)) fun h1 tk vs kp hi=>?_)
 have hlen:=hi.length
 rw[a9,aC8]at hlen
 have I1:Inv X pins σ H { s with heap:=h1,toks:=tk }:=I.kept kp
 refine a7 (O6 ?_ (by rw[D7];omega))
 have fD:O2 X pins H h1.objs.size:=I1.fpOk (c6 _) (I1.hok.fresh (c6 _))
 have I2:Inv X pins σ H { s with heap:=h1.push (E2 "list" vs.toArray 0),toks:=tk }:=I1.kept (t':=tk) fun b o q=>a8 _ q
 have hoL:(h1.push (E2 "list" vs.toArray 0)).get? h1.objs.size=some (E2 "list" vs.toArray 0):=j3 _ rfl
 refine a7 (C1 (bZ2 aD2 (s:={ s with heap:=h1.push (E2 "list" vs.toArray 0),toks:=tk }) ⟨_,hoL,rfl⟩ av5 ?body (ksk_l1 _ _)))
 show m5 (p0 X.prog X.w) A.in1.in1 (av3.«list.sort» ⟨[.ref h1.objs.size],[(Str.ofString "key",.ref q)]⟩) _ _ _
 rw[ksk_t1]
 refine bm6 I2 hoL fD (by omega) hi hne turn fun H' s' out zs' c I' hS fa' hout hi' hp hs=>⟨_,rfl,?_⟩
 have hl2:zs'.length<=63:=by rw[hp.length_eq,a9,aC8];exact hn
 refine b9 ⟨_,rfl,h H' s' h1.objs.size zs' hS fa'.1 hp hs ?_⟩
 have:=I'.take (t':=s'.toks) (h':=s'.heap) (o:=.lst (zs'.map V.int)) fa' (fun b u _ q=>q) ⟨by rw[a9,D7];omega,out,c,ai0 hi',hout⟩
 exact this
def bD3 (P:Addr)(lpos:Pos)(qual:Str)(lk:List (Option Nat))(te:TE)(tr:TA):TE:=fun σ H Q=>tr σ H fun vs H1=>∃ (r:Addr) (n:Nat) (key:Int->List Int),vs=[.ref r]/\H1 r=some (.rng 0 n)/\n<=63/\(∀ z,∃ i k,key z=i::k)/\ak5 P lpos qual H1 /\
 ∀ H2,G5 P H1 H2->ak5 P lpos qual H2->(∀ (H3:Hp) (z:Nat),o7 H2 H3->z<n->te (some (.int z)::Z7 lk σ) H3 fun v H4=>∃ k,v=.ref k/\H4 k=some (.tup ((key z).map V.int))/\o7 H3 H4) /\
  ∀ (H':Hp) (D:Addr) (zs:List Int),o7 H2 H'->H' D=none->zs.Perm ((aj7 0 n).map fun k:Nat=>(k:Int))->zs.Pairwise (fun x y=>Tim.F2 (key y) (key x)=false)->Q (.ref D) (upd H' D (.lst (zs.map V.int)))
theorem bl3 {body:Expr}{p:Str}{np lpos kpos:Pos}{c P:Addr}{tr:TA}(hc:X.calm=true)(hd:X.A.depth<aC9)(hg:Gl X "sorted")(hm:X.mg "sorted"=none)(ha:PA X [e] tr)
  (B:aC6 X.base X.mg c P)(hcode:X.env.code=.ref c)(hcl:aw4 scope X.env=pure cl)(hdef:defaultsOf params X.env=([],[]))(hkind:scope.kind=.function)(hco:scope.isCoroutine=false)(hgen:scope.isGenerator=false)(hclo:aw0 X.env cl)(hfr:ap7 scope.names cl=true)(hlk:aI9 X N' lk scope cl)
  (hp:scope.names.lookup p=some .local)(hbind:∀ (pm ctv u:Value) (c':Addr),bB4 (PySem.W.kla_fn "<lambda>" (X.env.qual++"<lambda>") params body scope cl pm (.ref c') ctv) ⟨[u],[]⟩=pure [(p,u)])
  (he:∀ f c' s3 H3,PE (bv6 X X.A.in1.in1 (X.env.qual++"<lambda>") scope cl (p::N') f (.ref c') s3 H3) body te)
  (hs:Z0 pos (B3 [e] X.env)=(false,eval e X.env)::Z0 pos (B3 [] X.env):=by rfl)
  (hpl:(Z0 pos (B3 [e] X.env)).any (·.1)=false:=by rfl) :
  PE X (.Call (.Name "sorted" np) [e] [⟨some "key",.Lambda params body scope lpos,kpos⟩] pos) (bD3 P lpos (X.env.qual++"<lambda>") lk te tr):=by
 intro pins s σ H Q I h
 refine P7 (Z6 I hg hm (show O4 "sorted"=some (.builtin "sorted") from rfl) ?_ (by decide) (by decide))
 refine callWith_kw (thn (ha pos pins s σ H _ I h) fun us s1 ⟨vs,H1,I1,r1,q1⟩=>?_) hs hpl rfl rfl
 obtain⟨r,n,key,rfl,hr,hn,hne,tb,q⟩:=q1
 have hk:PK X [⟨some "key",.Lambda params body scope lpos,kpos⟩] (at7 (ca6 P lpos (X.env.qual++"<lambda>") params body scope cl ((X.mg "__name__").getD .none)) aZ1):=bf5 (bS0 B hcode hcl hdef) bt2
 refine thn (hk pos pins s1 σ H1 (fun zs H2=>∃ f c' ctv,zs=[.ref f]/\G5 P H1 H2/\ak5 P lpos (X.env.qual++"<lambda>") H2/\H2 f=some (bp0 f (PySem.W.kla_obj "<lambda>" (X.env.qual++"<lambda>") params body scope cl ((X.mg "__name__").getD .none) c' ctv))/\H2 c'=some (aW9 c' (X.env.qual++"<lambda>"))) I1
  ⟨tb,fun f c' ctv H2 g1 g2 g3 g4 g5=>⟨f,c',ctv,rfl,g1,g2,g4,g5⟩⟩) fun ws s2 ⟨zs,H2,I2,r2,f,c',ctv,ez,g1,g2,g4,g5⟩=>?_
 subst ez
 obtain⟨w,rfl,rw⟩:=vals1 r2
 obtain⟨u,rfl,ru⟩:=vals1 r1
 cases rw
 cases ru
 obtain⟨wish,fin⟩:=q H2 g1 g2
 have rP:r≠P:=fun z=>by
  obtain⟨ps,hP,_⟩:=tb
  rw[z,hP]at hr
  cases hr
 have hr2:H2 r=some (.rng 0 n):=g1 r _ rP hr
 obtain⟨t1,t2,t3,hro⟩:=I2.hok r _ hr2
 have hh:X.A.handled=none:=I.ok.hd hc
 refine aR6 (n:=n) (key:=key) I2 hh ⟨t1,t2,t3,hro⟩ hn hne (fun z hz=>?_) fun H' s' D zs' a1 a2 a3 a4 I'=>⟨.ref D,_,I',rfl,fin H' D zs' a1 a2 a3 a4⟩
 obtain⟨k,hk',rfl⟩:=m6.mp hz
 have hkn:k<n:=by
  have:=aF3.mp hk'
  omega
 intro t pins' s3 H3 I3 sm
 have ho:s3.heap.get? f=some (PySem.W.kla_obj "<lambda>" (X.env.qual++"<lambda>") params body scope cl ((X.mg "__name__").getD .none) c' ctv):=(I3.hok f _ (sm _ _ g4)).1
 have hcd:s3.heap.CodeRec (.ref c') (X.env.qual++"<lambda>"):=(I3.hok c' _ (sm _ _ g5)).1
 refine B6 (bv5 (A:=X.A.in1.in1) (v:=.int k) (u:=.int k t) I3 I3.ok.frames hh hd ho hcd (hbind _ _ _ _) hkind hco hgen hclo hfr hlk hp ⟨t,rfl⟩ (he f c' s3 H3) (wish H3 k sm hkn)) (fun u' s' hq=>?_) fun _ _ z=>z
 obtain⟨v',H',J,r',kk,rfl,hkk,sm'⟩:=hq
 cases r'
 exact⟨kk,H',rfl,hkk,J,sm'⟩
end L2
namespace HT
open PySem PyProof.Rows
theorem bs6 (A:Around)(s:Shared)(a:Int)(t:Tok)(c:Int)(u:Tok)(prog:Program)(w:World)(E:Value->Shared->Prop)(Q:Value->Shared->Prop)(h:Q (.bool (decide (a<=c))) s) :
  m5 (p0 prog w) A (richCompare .LtE (.int a t) (.int c u)) Q E s:=
 (PyProof.Rows.le_int h:m5 (p0 prog w) A (E1 .LtE (.int a t) (.int c u)) Q E s)
section
open PySem.SeqAt
open PySem.AutoSeq1 (wpAny_loadPart')
open PySem.MeetsSeq PySem.MeetsSeq2 PySem.MeetsSeq3
theorem aE4 (l b:Addr) (items items2:Array Value) (n n2:Nat) (dd dd2:Option Addr) (sl sl2:Array (Option Value)) (ns ms:List Int) (hi:J5 items.toList ns) (hj:J5 items2.toList ms) (hlm:ns.length=ms.length) :
  Meets (av3.«tuple.__le__» ⟨[.ref l,.ref b],[]⟩)
   (fun _ R s => s.heap.get? l = some { cls := .type "tuple", dict := dd, data := .seq items n, slots := sl } /\ s.heap.get? b = some { cls := .type "tuple", dict := dd2, data := .seq items2 n2, slots := sl2 } /\
    R (.ok (.ret (.bool (!lexLt ms ns)))) s):=
 .of_wp fun prog w A R s h=>by
  obtain⟨hp,g,d,tk,os⟩:=s;obtain⟨hl,hb,h⟩:=h
  have f2:=AutoSeq1.sub_tuple_tuple
  have z1:items.size=ns.length:=by rw[<- hi.length];simp
  have z2:items2.size=ms.length:=by rw[<- hj.length];simp
  wp_walk using wpAny_loadPart' hl,wpAny_loadPart' hb,aq3 _ (fun rest b s'=>b.1=none/\s'=⟨hp,g,d,tk,os⟩/\∃ (vs ws:List Value) (ns' ms':List Int),rest=vs.zip ws /\
   J5 vs ns'/\J5 ws ms'/\ns'.length=ms'.length/\R (.ok (.ret (.bool (!lexLt ms' ns')))) ⟨hp,g,d,tk,os⟩) _
  case turn =>
   rintro⟨y,x⟩ rest b s' ⟨hb',rfl,vs,ws,ns',ms',hz,hvi,hwi,hlen,hR⟩
   cases hvi with
   | nil=>rw[List.zip_nil_left]at hz;cases hz
   | cons a t hvi' =>
    cases hwi with
    | nil=>rw[List.zip_nil_right]at hz;cases hz
    | cons c u hwi' =>
     rw[U1]at hz
     injection hz with hyx hrest
     injection hyx with hy hx
     subst hy hx
     rw[ad0]at hR
     simp only[o9]at hlen
     obtain⟨e,he,hiff⟩:=bx6 A.in1 ⟨hp,g,d,tk,os⟩ a t c u
     refine a7 (he prog w _ _ ?_)
     cases e with
     | true =>
      rw[if_pos (hiff.mp rfl).symm]at hR
      wp_walk
      exact⟨rfl,rfl,_,_,_,_,hrest,hvi',hwi',by omega,hR⟩
     | false =>
      rw[if_neg (fun q=>absurd (hiff.mpr q.symm) g8)]at hR
      have hri:=bs6 A.in1 ⟨hp,g,d,tk,os⟩ a t c u prog w
      wp_walk using hri
      refine⟨_,rfl,?_⟩
      have e2:decide (a<=c)=!decide (c<a):=by
       by_cases q:c<a
       ·rw[decide_eq_true q,decide_eq_false (by omega)];rfl
       ·rw[decide_eq_false q,decide_eq_true (by omega)];rfl
      simpa [e2] using hR
  case fin =>
   rintro⟨b1,b2⟩ s' ⟨hb',rfl,vs,ws,ns',ms',hz,hvi,hwi,hlen,hR⟩
   simp only at hb'
   subst hb'
   have hv:lexLt ms' ns'=false:=by
    cases hvi with
    | nil =>
     cases hwi with
     | nil=>rfl
     | cons _ _ _=>simp at hlen
    | cons _ _ _ =>
     cases hwi with
     | nil=>simp at hlen
     | cons _ _ _=>rw[U1]at hz;cases hz
   rw[hv]at hR
   wp_walk
   refine⟨_,rfl,?_⟩
   simpa [z1,z2,hlm,Builtin.Tuple.tupleCompareSizes] using hR
  exact⟨rfl,rfl,_,_,_,_,rfl,hi,hj,hlm,h⟩
end
end HT
namespace L2
open PySem PySem.Spec PyProof.Rows
def ch9 (K:W.Frag):R2:=fun x y H Q=>∃ a b ns ms,x=.ref a/\y=.ref b/\SqT K H a (ns.map V.int)/\SqT K H b (ms.map V.int)/\ns.length=ms.length/\Q (.bl (!HT.lexLt ms ns)) H
theorem bS4 (hu:X.A.units<aa1):OpR X (E1 .LtE) (ch9 X.K):=by
 intro pins s σ H x y v u Q I rx ry h
 obtain⟨a,b,ns,ms,rfl,rfl,ha,hb,hl,q⟩:=h
 cases rx
 cases ry
 obtain⟨its,r1,p1,_⟩:=I.tuple ha
 obtain⟨its2,r2,p2,_⟩:=I.tuple hb
 have i1:J5 its.toArray.toList ns:=intsAre_of r1
 have i2:J5 its2.toArray.toList ms:=intsAre_of r2
 obtain⟨⟨cls,dd,data,sl⟩,ho,hc,n,hd⟩:=id p1
 obtain⟨⟨cls2,dd2,data2,sl2⟩,ho2,hc2,n2,hd2⟩:=id p2
 simp only at hc hd hc2 hd2
 subst hc hd hc2 hd2
 exact richCompare_meets_room (op:=.LtE) ⟨_,ho,rfl⟩ ⟨_,ho2,rfl⟩ PySem.F.slot_tuple_le PySem.F.entry_tuple_le (PySem.F.args_tuple_le_2 _ _) (HT.aE4 a b its.toArray its2.toArray n n2 dd dd2 sl sl2 ns ms i1 i2 hl)
  ⟨ho,ho2,show Value.bool (!HT.lexLt ms ns)≠Value.notImplemented/\_ from ⟨(fun x=>nomatch x),⟨.bl (!HT.lexLt ms ns),H,I,rfl,q⟩⟩⟩ hu
end L2
namespace L2
open PySem PySem.Spec PyProof.Rows PySem.SeqAt
theorem bF6:OpR X (O5 .Mult) (rI IntMulOk fun i j=>.int (i*j)):=opI fun _ _ _ _ _ _ _ hc q=>mul_int q hc
theorem ai6 {a b:Expr}{tb:TE}(K:W.Frag)(hK:X.K=K)(ha:PE X a ta)(hb:PE X b tb)(hs:aP4 b):PE X (.Subscript a b pos) (tOp (rIx K) ta tb):=by
 cases hK
 exact x9 bw3 ha hb hs
end L2
namespace L2
open PySem PySem.Spec PyProof.Rows
def cc8:R2:=fun x y H Q=>∃ l b xs zs,x=.ref l/\y=.ref b/\H l=some (.lst xs)/\H b=some (.lst zs)/\xs.length+zs.length<=1000/\Q (.ref l) (upd H l (.lst (xs++zs)))
theorem bc2:fillsInplaceSlot (.type "list") "add" true=pure false:=by
 unfold fillsInplaceSlot
 show (typeLookup (.type "list") (dunderI "add") >>= fun fi=>pure (fi.isSome && !isSeqSlot fi))=pure false
 rw[F.slot_list_iadd.lookup]
 rw[pure_bind]
 congr 1
theorem bn2:seqSlot? (.type "list") (dunderI "add")=pure (some (.builtin "list.__iadd__")):=by
 unfold seqSlot?
 rw[F.slot_list_iadd.lookup]
 rfl
theorem bV1:PIp X .Add cc8:=by
 intro pins s σ H x y v u Q I rx ry h
 obtain⟨l,b,xs,zs,rfl,rfl,hH,hB,hz,q⟩:=h
 cases rx
 cases ry
 obtain⟨z,its,n,r,hl,e⟩:=I.lstM hH
 obtain⟨z2,its2,n2,r2,hl2,e2⟩:=I.lstM hB
 have hln:=r.length
 have hln2:=r2.length
 unfold inplaceOp
 refine C1 ?_
 refine a7 (ah7 (T:="list") ⟨_,e,rfl⟩ (a7 (bk4 bc2 ?_)))
 show m5 _ _ (if false=true then _ else _) _ _ s
 rw[if_neg g8]
 refine a7 (wpAny_binaryOp1_none (a:=.ref l) (b:=.ref b) (s:=s) (nm:="add") (T:="list") ⟨_,e,rfl⟩ ⟨_,e2,rfl⟩ noFill_list_add ?_)
 refine a7 (bk4 bn2 ?_)
 refine a7 (aw3 ?_)
 have hd:¬(!its.toArray.isEmpty && Builtin.List.listTooLong (its.toArray.size+its2.toArray.size))=true:=extend_door (by rw[d3,d3,D7];omega)
 refine bA3 F.slot_list_iadd ⟨_,e,rfl⟩ F.entry_list_iadd (F.args_list_iadd_2 _ _) (PySem.AutoSeq1.list___iadd___list_list_0 l its.toArray n b its2.toArray n2 hd (by rw[d3,D7];omega) (by rw[d3,d3,D7];omega)) ⟨e,e2,?_⟩
 refine⟨.ref l,_,I.lset (its':=its++its2) hH e ?_ (r.append r2) ?_,rfl,q⟩
 ·show its.toArray++its2.toArray=_
  simp
 ·rw[j6,D7];omega
theorem bM1 {it:Expr}{w1 w2:TI}(h1:PI X tg it w1)(h2:PI X tg it w2):PI X tg it (fun σ H R=>w1 σ H R\/w2 σ H R):=
 fun pins s σ H R I h=>h.elim (h1 pins s σ H R I) (h2 pins s σ H R I)
theorem aI1 (hc:X.calm=true):R9 X (.builtin "sum") (fun xs H Q=>∃ (p:Addr) (ns:List Int),xs=[.ref p]/\(SqL X.K H p (ns.map V.int)\/SqT X.K H p (ns.map V.int))/\Q (.int ns.sum) H) :=
 fun pins s σ H xs us Q I r ⟨p,ns,e,hq,q⟩=>hq.elim (fun h=>aB9 hc pins s σ H xs us Q I r ⟨p,ns,e,h,q⟩) fun h=>bo4 hc pins s σ H xs us Q I r ⟨p,ns,e,h,q⟩
theorem aB6 {D:Addr}{J:It}{S:Hp->Prop}{g:TG}{tt:TT}{σ0:St}{H0:Hp}
  (hst:∀ i H,S H->ys.length=i->J.stop i H)(hgo:∀ i H,S H->i<ys.length->J.go i H)(hy:∀ i H x H'',S H->J.yld i H x H''->∃ (t:Addr) (v:V),H t=none/\x=.ref t/\ys[i]?=some v/\H''=upd H t (.tup [.int i,v]))
  (Pv:Nat->List V->St->Hp->Prop)(h0:Pv 0 [] σ0 H0)(hz:ys.length<=c5)(hl:∀ i xs σ H,i<=ys.length->Pv i xs σ H->S H/\H D=some (.lst xs)/\xs.length<=i)
  (hs:∀ i xs x t σ H (N:List V->St->Hp->Prop),(∀ xs' σ' H',Pv (i+1) xs' σ' H'->N xs' σ' H')->ys[i]?=some x->Pv i xs σ H->H t=none->g (.ref t) σ (upd H t (.tup [.int i,x])) fun σ2 H2=>tt σ2 H2 fun b H3=>if b=true then te σ2 H3 fun v H4=>H4 D=some (.lst xs)/\N (xs++[v]) σ2 (upd H4 D (.lst (xs++[v]))) else N xs σ2 H3)
  (hd:∀ xs σ H,Pv ys.length xs σ H->Qd H) :
  ∃ W:Nat->Nat->List V->St->Hp->Prop,(∃ m,W 0 m [] σ0 H0)/\∀ i m xs σ' H',W i m xs σ' H'->H' D=some (.lst xs)/\((J.stop i H'/\Qd H')\/(J.go i H'/\xs.length<c5/\∀ x H'',J.yld i H' x H''->g x σ' H'' fun σ2 H2=>tt σ2 H2 fun b H3 =>
   if b=true then te σ2 H3 fun v H4=>H4 D=some (.lst xs)/\∃ m',m'<m/\W (i+1) m' (xs++[v]) σ2 (upd H4 D (.lst (xs++[v]))) else ∃ m',m'<m/\W (i+1) m' xs σ2 H3)):=by
 refine⟨fun i m xs σ H=>m=ys.length - i/\i<=ys.length/\Pv i xs σ H,⟨ys.length,by simp,u7 _,h0⟩,?_⟩
 rintro i m xs σ H ⟨rfl,hi,p⟩
 obtain⟨q,hD,hx⟩:=hl i xs σ H hi p
 refine⟨hD,?_⟩
 by_cases hlt:i<ys.length
 ·refine .inr ⟨hgo i H q hlt,by omega,fun x H'' y=>?_⟩
  obtain⟨t,v,ht,e,hv,e'⟩:=hy i H x H'' q y
  subst e e'
  exact hs i xs v t σ _ (fun zs σ' H'=>∃ m',m'<ys.length - i/\m'=ys.length - (i+1)/\i+1<=ys.length/\Pv (i+1) zs σ' H') (fun zs σ' H' r=>⟨_,by omega,rfl,hlt,r⟩) hv p ht
 ·have e:i=ys.length:=by omega
  subst e
  exact .inl ⟨hst _ H q rfl,hd xs σ H p⟩
theorem bU7 {K:W.Frag}(i:Nat)(H:Hp)(q:SqL K H a ys)(h:ys.length=i):(Itn K a).stop i H:=⟨ys,q,aq7 h⟩
theorem bU8 {K:W.Frag}(i:Nat)(H:Hp)(q:SqL K H a ys)(h:i<ys.length):(Itn K a).go i H:=⟨ys,ys[i],q,by simp[h]⟩
theorem ce1 {K:W.Frag}(i:Nat)(H:Hp)(x:V)(H'':Hp)(q:SqL K H a ys)(y:(Itn K a).yld i H x H''):∃ (t:Addr) (v:V),H t=none/\x=.ref t/\ys[i]?=some v/\H''=upd H t (.tup [.int i,v]):=by
 obtain⟨t,v,ht,e,hv,e'⟩:=y
 exact⟨t,v,ht,e,hv ys q,e'⟩
theorem bU9 {K:W.Frag}(i:Nat)(H:Hp)(q:SqT K H a ys)(h:ys.length=i):(Itm K a).stop i H:=⟨ys,q,h⟩
theorem bV0 {K:W.Frag}(i:Nat)(H:Hp)(q:SqT K H a ys)(h:i<ys.length):(Itm K a).go i H:=⟨ys,ys[i],q,by simp[h]⟩
theorem ce2 {K:W.Frag}(i:Nat)(H:Hp)(x:V)(H'':Hp)(q:SqT K H a ys)(y:(Itm K a).yld i H x H''):∃ (t:Addr) (v:V),H t=none/\x=.ref t/\ys[i]?=some v/\H''=upd H t (.tup [.int i,v]):=by
 obtain⟨t,v,ht,e,hv,e'⟩:=y
 exact⟨t,v,ht,e,hv ys q,e'⟩
theorem bd0 {K:W.Frag} {g:TG} {tt:TT} {Qd:Addr->Hp->Prop} {σ0:St} (hS:SqL K H a ys\/SqT K H a ys) (hz:ys.length<=c5)
  (Pv:Addr->Nat->List V->St->Hp->Prop) (h0:∀ D,H D=none->Pv D 0 [] σ0 (upd H D (.lst []))) (hl:∀ D i xs σ H',H D=none->i<=ys.length->Pv D i xs σ H'->o7 H H'/\H' D=some (.lst xs)/\xs.length<=i)
  (hs:∀ D i xs x t σ H' (N:List V->St->Hp->Prop),H D=none->(∀ xs' σ' H'',Pv D (i+1) xs' σ' H''->N xs' σ' H'')->ys[i]?=some x->Pv D i xs σ H'->H' t=none->g (.ref t) σ (upd H' t (.tup [.int i,x])) fun σ2 H2=>tt σ2 H2 fun b H3=>if b=true then te σ2 H3 fun v H4=>H4 D=some (.lst xs)/\N (xs++[v]) σ2 (upd H4 D (.lst (xs++[v]))) else N xs σ2 H3)
  (hd:∀ D xs σ H',H D=none->Pv D ys.length xs σ H'->Qd D H') :
  (∃ b, [V.ref a] = [V.ref b] /\ (∃ xs, SqL K H b xs) /\ ∀ D, H D = none -> ∃ W : Nat -> Nat -> List V -> St -> Hp -> Prop, (∃ m, W 0 m [] σ0 (upd H D (.lst []))) /\ ∀ i m xs σ' H', W i m xs σ' H' -> H' D = some (.lst xs) /\ (((Itn K b).stop i H' /\ Qd D H') \/ ((Itn K b).go i H' /\ xs.length < c5 /\ ∀ x H'', (Itn K b).yld i H' x H'' -> g x σ' H'' fun σ2 H2 => tt σ2 H2 fun b H3 =>
   if b=true then te σ2 H3 fun v H4=>H4 D=some (.lst xs)/\∃ m',m'<m/\W (i+1) m' (xs++[v]) σ2 (upd H4 D (.lst (xs++[v]))) else ∃ m',m'<m/\W (i+1) m' xs σ2 H3))) \/
  (∃ b, [V.ref a] = [V.ref b] /\ (∃ xs, SqT K H b xs) /\ ∀ D, H D = none -> ∃ W : Nat -> Nat -> List V -> St -> Hp -> Prop, (∃ m, W 0 m [] σ0 (upd H D (.lst []))) /\ ∀ i m xs σ' H', W i m xs σ' H' -> H' D = some (.lst xs) /\ (((Itm K b).stop i H' /\ Qd D H') \/ ((Itm K b).go i H' /\ xs.length < c5 /\ ∀ x H'', (Itm K b).yld i H' x H'' -> g x σ' H'' fun σ2 H2 => tt σ2 H2 fun b H3 =>
   if b=true then te σ2 H3 fun v H4=>H4 D=some (.lst xs)/\∃ m',m'<m/\W (i+1) m' (xs++[v]) σ2 (upd H4 D (.lst (xs++[v]))) else ∃ m',m'<m/\W (i+1) m' xs σ2 H3))):=by
 rcases hS with hS | hS
 ·exact .inl ⟨a,rfl,⟨_,hS⟩,fun D hD=>aB6 (S:=fun H'=>SqL K H' a ys) bU7 bU8 ce1 (Pv D) (h0 D hD) hz (fun i xs σ H' hi p=>let ⟨s,g,l⟩:=hl D i xs σ H' hD hi p;⟨s.seq hS,g,l⟩) (fun i xs x t σ H' N kN hx p ht=>hs D i xs x t σ H' N hD kN hx p ht) (fun xs σ H' p=>hd D xs σ H' hD p)⟩
 ·exact .inr ⟨a,rfl,⟨_,hS⟩,fun D hD=>aB6 (S:=fun H'=>SqT K H' a ys) bU9 bV0 ce2 (Pv D) (h0 D hD) hz (fun i xs σ H' hi p=>let ⟨s,g,l⟩:=hl D i xs σ H' hD hi p;⟨s.seqT hS,g,l⟩) (fun i xs x t σ H' N kN hx p ht=>hs D i xs x t σ H' N hD kN hx p ht) (fun xs σ H' p=>hd D xs σ H' hD p)⟩
theorem bE9 (K:W.Frag)(hK:X.K=K){es:List Expr}{k:Nat}{t:TGs}(hc:X.calm=true)(h:PGs X es t)
  (hn:(ad9 es X.env).length=n:=by rfl)(hst:(ad9 es X.env).findIdx? (·.1)=none:=by rfl):PG X (.Tuple es k pos) (ce9 K n t):=by
 subst hK
 exact al1 hc h hn hst
theorem bo1 {K:W.Frag} {g:TG} {tt:TT} {Qd:Addr->Hp->Prop} {σ0:St} (hS:SqL K H a ys\/SqT K H a ys) (hz:ys.length<=c5)
  (Pv:Addr->Nat->List V->St->Hp->Prop) (h0:∀ D,H D=none->Pv D 0 [] σ0 (upd H D (.lst []))) (hl:∀ D i xs σ H',H D=none->i<=ys.length->Pv D i xs σ H'->o7 H H'/\H' D=some (.lst xs)/\xs.length<=i)
  (hs:∀ D i xs x σ H' (N:List V->St->Hp->Prop),H D=none->(∀ xs' σ' H'',Pv D (i+1) xs' σ' H''->N xs' σ' H'')->ys[i]?=some x->Pv D i xs σ H'->g x σ H' fun σ2 H2=>tt σ2 H2 fun b H3=>if b=true then te σ2 H3 fun v H4=>H4 D=some (.lst xs)/\N (xs++[v]) σ2 (upd H4 D (.lst (xs++[v]))) else N xs σ2 H3)
  (hd:∀ D xs σ H',H D=none->Pv D ys.length xs σ H'->Qd D H') :
  (∃ b, V.ref a = V.ref b /\ (∃ xs, SqL K H b xs) /\ ∀ D, H D = none -> ∃ W : Nat -> Nat -> List V -> St -> Hp -> Prop, (∃ m, W 0 m [] σ0 (upd H D (.lst []))) /\ ∀ i m xs σ' H', W i m xs σ' H' -> H' D = some (.lst xs) /\ (((Itl K b).stop i H' /\ Qd D H') \/ ((Itl K b).go i H' /\ xs.length < c5 /\ ∀ x H'', (Itl K b).yld i H' x H'' -> g x σ' H'' fun σ2 H2 => tt σ2 H2 fun b H3 =>
   if b=true then te σ2 H3 fun v H4=>H4 D=some (.lst xs)/\∃ m',m'<m/\W (i+1) m' (xs++[v]) σ2 (upd H4 D (.lst (xs++[v]))) else ∃ m',m'<m/\W (i+1) m' xs σ2 H3))) \/
  (∃ b, V.ref a = V.ref b /\ (∃ xs, SqT K H b xs) /\ ∀ D, H D = none -> ∃ W : Nat -> Nat -> List V -> St -> Hp -> Prop, (∃ m, W 0 m [] σ0 (upd H D (.lst []))) /\ ∀ i m xs σ' H', W i m xs σ' H' -> H' D = some (.lst xs) /\ (((Itt K b).stop i H' /\ Qd D H') \/ ((Itt K b).go i H' /\ xs.length < c5 /\ ∀ x H'', (Itt K b).yld i H' x H'' -> g x σ' H'' fun σ2 H2 => tt σ2 H2 fun b H3 =>
   if b=true then te σ2 H3 fun v H4=>H4 D=some (.lst xs)/\∃ m',m'<m/\W (i+1) m' (xs++[v]) σ2 (upd H4 D (.lst (xs++[v]))) else ∃ m',m'<m/\W (i+1) m' xs σ2 H3))):=by
 rcases hS with hS | hS
 ·exact .inl ⟨a,rfl,⟨_,hS⟩,fun D hD=>W3 (K:=K) (a:=a) (ys:=ys) (Pv D) (h0 D hD) hz (fun i xs σ H' hi p=>let ⟨s,g,l⟩:=hl D i xs σ H' hD hi p;⟨s.seq hS,g,l⟩) (fun i xs x σ H' N kN hx p=>hs D i xs x σ H' N hD kN hx p) (fun xs σ H' p=>hd D xs σ H' hD p)⟩
 ·exact .inr ⟨a,rfl,⟨_,hS⟩,fun D hD=>by1 (K:=K) (a:=a) (ys:=ys) (Pv D) (h0 D hD) hz (fun i xs σ H' hi p=>let ⟨s,g,l⟩:=hl D i xs σ H' hD hi p;⟨s.seqT hS,g,l⟩) (fun i xs x σ H' N kN hx p=>hs D i xs x σ H' N hD kN hx p) (fun xs σ H' p=>hd D xs σ H' hD p)⟩
section
variable {M:Model} {Er:Value->Shared->Prop}
theorem bb6 {B:Heap}{env:Env}{L e:Addr}{cls a0 fl:Value}{Q:Unit->Shared->Prop}(hfr:A.frames=some (env::outer))(hf:env.frame=some L)(h1:B.StaysIn s.heap)(h2:B.get? e=none)(h3:s.heap.FunFrames B (env::outer))(h4:s.heap.TracedAtW B e cls a0 fl)
  (hQ:∀ h',Heap.FlyingW B outer e cls a0 h'->s.heap.UpToSlots h'->Q () { s with heap:=h' }):m5 M A (leaving env (.ref e)) Q Er s:=by
 by_cases hfl:fl=X7 L
 ·subst hfl
  unfold leaving
  refine a7 (wpAny_noteFrame_againW hf h4 (wpAny_landsW (L:=L) ⟨h1,h2,h3,h4⟩ fun h' x1 x2=>hQ h' ⟨x1.1,x1.2.1,x1.2.2.1.2.2,x1.2.2.2⟩ x2))
 ·obtain⟨oe,vs,T,oT,ts,he,⟨hcl,h0⟩,hd,e1,nT,Te,hT,dT,e3⟩:=h4
  subst hcl
  have oth:∀ b,b≠T->(s.heap.update T (Obj.mapFields (·.setIfInBounds 3 Value.none))).get? b=s.heap.get? b:=fun b z=>B7 _ _ (Ne.symm z)
  have noT:∀ b o,s.heap.get? b=some o->(∀ vs,o.data≠.fields vs)->b≠T:=fun b o q n z=>by
   rw[z,hT]at q
   cases q
   exact n ts dT
  unfold leaving av4
  rw[hf]
  refine a7 (a7 (J0 he hd e1 ?_))
  rw[if_pos (by simp:(Value.ref T != Value.none)=true)]
  refine a7 (J0 hT dT e3 ?_)
  rw[if_neg (by simpa using hfl)]
  refine a7 (Y0 hT dT (ab7.mp e3).1 ?_)
  refine wpAny_newEntryW hfr (h3.of_keeps fun b o q n=>⟨o,by rw[oth b (noT b o q n)];exact q,rfl⟩) hf (by rw[oth e (Ne.symm Te)];exact he) (fun b o q=>?_) h2 hd (ab7.mp e1).1 h0 fun h' y=>?_
  ·rw[oth b (fun z=>by rw[z,nT]at q;cases q)]
   exact h1 b o q
  ·obtain⟨y1,y2,y3,y4⟩:=y
   exact hQ h' ⟨y1,h2,y2.2.2,y3⟩ fun b o q n=>y4 b o (by show (s.heap.update T _).get? b=_;rw[oth b (noT b o q n)];exact q) n
end
theorem au7 {B B':Heap}:∀ {l:List Env},(∀ b∈frs l,B.get? b=none->B'.get? b=none)->(∀ b∈frs l,∀ o,h.get? b=some o->(∀ vs,o.data≠.fields vs)->∃ o',h'.get? b=some o'/\∀ vs,o'.data≠.fields vs)->h.FunFrames B l->h'.FunFrames B' l
 | [],_,_,_=>trivial
 | env::r,k1,k2,⟨hk,⟨L,o,hf,hn,ho,hd⟩,hr⟩=>by
  have hL:L∈frs (env::r):=by unfold frs;rw[F8,hf];exact f9
  obtain⟨o',ho',hd'⟩:=k2 L hL o ho hd
  have up:∀ b∈frs r,b∈frs (env::r):=fun b hb=>by unfold frs;rw[F8,hf];exact d4 _ hb
  exact⟨hk,⟨L,o',hf,k1 L hL hn,ho',hd'⟩,au7 (fun b hb=>k1 b (up b hb)) (fun b hb=>k2 b (up b hb)) hr⟩
def CXA (P:Program)(w:World)(stack:List Env)(H:Hp)(s:Shared)(E:XK)(e:Value)(s':Shared):Prop:=
 ∃ x cls H2 fl,e=.ref x/\s'.os=s.os/\am0 s'.gens/\Un (frs stack) [] H H2 s.heap s'.heap/\HOk P w H2 s'.heap/\s.heap.get? x=none/\H2 x=none /\
  (∃ B a0,(B.StaysIn s'.heap/\B.get? x=none/\s'.heap.FunFrames B stack/\s'.heap.TracedAtW B x cls a0 fl)/\∀ b o,s'.heap.get? b=some o->(H2 b≠none\/s.heap.get? b≠none)->b∉frs stack->B.get? b=some o)/\E cls none H2
section
variable {K:W.Frag} {base:Heap} {cd:Value} {E:XK} {H1:Hp} {s1:Shared}
theorem cd2 {e:Value}{s2:Shared}(I:Inv (X2 (CXE P w) P w K mg base N qual scope f cd A outer s H E) pins σ H1 s1)(hc:CXA P w (X2 (CXE P w) P w K mg base N qual scope f cd A outer s H E).stack H1 s1 E e s2):(X2 (CXE P w) P w K mg base N qual scope f cd A outer s H E).xe e s2:=by
 obtain⟨x,cls,H2,fly,rfl,hos,hb2,u,hok,new,hxn,⟨B,a0,⟨k1,k2,k3,k4⟩,st⟩,hE⟩:=hc
 have hst:=I.stack
 have hfr:=I.ok.frames
 have hL:=I.free
 have hbs:Un (frs outer) [] H H1 s.heap s1.heap:=I.base
 change s1.heap.FunFrames base (F4 qual scope s.heap.objs.size f cd::outer) at hst
 change (A.deeper (F4 qual scope s.heap.objs.size f cd)).frames=some (F4 qual scope s.heap.objs.size f cd::outer) at hfr
 change H1 s.heap.objs.size=none at hL
 change Un (frs (F4 qual scope s.heap.objs.size f cd::outer)) [] H1 H2 s1.heap s2.heap at u
 change s2.heap.FunFrames B (F4 qual scope s.heap.objs.size f cd::outer) at k3
 have hff:frs (F4 qual scope s.heap.objs.size f cd::outer)=s.heap.objs.size::frs outer:=aB4 rfl
 have st':∀ b o,s2.heap.get? b=some o->(H2 b≠none\/s1.heap.get? b≠none)->b∉frs (F4 qual scope s.heap.objs.size f cd::outer)->B.get? b=some o:=st
 rw[hff]at u st'
 have hLo:∃ o,s1.heap.get? s.heap.objs.size=some o:=by
  obtain⟨m,⟨o,_,_,ho,_⟩,_⟩:=I.loc
  exact⟨o,ho⟩
 have hL2:H2 s.heap.objs.size=none:=by
  obtain⟨o,ho⟩:=hLo
  exact u.free _ o ho hL (by simp)
 have old:∀ b,(H2 b≠none\/s.heap.get? b≠none)->b∉frs outer->∃ o,s2.heap.get? b=some o/\B.get? b=some o:=fun b hb hno=>by
  have hne:b≠s.heap.objs.size:=by
   rcases hb with z | z
   ·intro q;rw[q]at z;exact z hL2
   ·obtain⟨o,z⟩:=G7 z
    exact i8 (d9 z)
  have hm:b∉s.heap.objs.size::frs outer:=fun hm=>by
   rcases g9.mp hm with q | q
   ·exact hne q
   ·exact hno q
  rcases hb with z | z
  ·obtain⟨o,z'⟩:=G7 z
   obtain⟨o',ho⟩:=(hok b o z').there
   exact⟨o',ho,st' b o' ho (.inl z) hm⟩
  ·obtain⟨o,z⟩:=G7 z
   obtain⟨o1,h1⟩:=hbs.there b o z (by simp)
   obtain⟨o2,h2⟩:=u.there b o1 h1 (by simp)
   exact⟨o2,h2,st' b o2 h2 (.inr (by rw[h1];simp)) hm⟩
 have u2:Un (frs outer) [] H H2 s.heap s2.heap:=by
  refine⟨fun b o e n hb hx=>?_,fun b o e n hb hx=>?_,fun b o e n hx=>?_,fun b o e hx=>?_,fun b xs e=>u.tups b xs (hbs.tups b xs e),fun b o v e=>u.frzs b o v (hbs.frzs b o v e),fun b ps e=>?_⟩
  ·refine u.keep b o (hbs.keep b o e n hb hx) (hbs.free b o e n hx) (fun hm=>?_) hx
   rcases g9.mp hm with q | q
   ·exact i8 (d9 e) q
   ·exact hb q
  ·obtain⟨sl,e1⟩:=hbs.slot b o e n hb hx
   obtain⟨sl2,e2⟩:=u.slot b _ e1 (hbs.free b o e n hx) (d4 _ hb) hx
   exact⟨sl2,e2⟩
  ·obtain⟨o',e1⟩:=hbs.there b o e hx
   exact u.free b o' e1 (hbs.free b o e n hx) hx
  ·obtain⟨o',e1⟩:=hbs.there b o e hx
   exact u.there b o' e1 hx
  ·obtain⟨m1,e1⟩:=hbs.tbls b ps e
   obtain⟨m2,e2⟩:=u.tbls b _ e1
   exact⟨m1++m2,by rw[e2,ay1]⟩
 have frNone:∀ b∈frs outer,H2 b=none:=fun b hb=>by
  have h1:=I.stkFree b (by
   show b∈frs (F4 qual scope s.heap.objs.size f cd::outer)
   rw[hff]
   exact d4 _ hb)
  obtain⟨_,o,ho,_⟩:=hst.mem (b:=b) (by
   show b∈frs (F4 qual scope s.heap.objs.size f cd::outer)
   rw[hff]
   exact d4 _ hb)
  exact u.free b o ho h1 (by simp)
 refine bb6 hfr rfl k1 k2 k3 k4 fun h' x1 x2=>?_
 have stay:∀ b o,s2.heap.get? b=some o->(H2 b≠none\/s.heap.get? b≠none)->b∉frs outer->h'.get? b=some o:=fun b o ho hb hno=>by
  obtain⟨o',ho',hB⟩:=old b hb hno
  rw[ho]at ho'
  cases ho'
  exact x1.1 b o hB
 refine⟨x,cls,H2,rfl,hos.trans I.os,hb2,u2.onto (fun b o ho hh hno=>stay b o ho (.inr hh) hno) (fun b o ho hh hm=>?_),hok.stays fun b o ho hh=>stay b o ho (.inl hh) fun hm=>hh (frNone b hm),?_,hxn,⟨B,a0,x1,fun b o ho hb hno=>?_⟩,hE⟩
 ·obtain⟨_,o',ho',hd⟩:=k3.mem (b:=b) (by
   show b∈frs (F4 qual scope s.heap.objs.size f cd::outer)
   rw[hff]
   exact d4 _ hm)
  rw[ho]at ho'
  cases ho'
  exact x2 b o ho hd
 ·cases q:s.heap.get? x with
  | none=>rfl
  | some o =>
   obtain⟨o',z⟩:=hbs.there x o q (by simp)
   rw[new]at z
   cases z
 ·obtain⟨o',ho',hB⟩:=old b hb hno
  have:=stay b o' ho' hb hno
  rw[ho]at this
  cases this
  exact hB
end
theorem bm0 {e:Value}{env env':Env}(h:env.frame=env'.frame):av4 e env=av4 e env':=by
 unfold av4 PySem.frameOf
 rw[h]
def XeC (X:Cx)(E:XK)(pins:List (Addr × Obj))(σ:St)(C:Addr)(e:Value)(s':Shared):Prop:=
 ∃ s1 H1 m,Inv X pins σ H1 s1/\O2 X pins H1 C/\s1.heap.Ns C m/\CXE X.prog X.w X.stack H1 s1 E e s'
section
variable {K:W.Frag} {base:Heap} {cd:Value} {E:XK}
theorem ap3 (eX:X=X2 (CXE P w) P w K mg base N qual scope f cd A outer s H E){cenv:Env}(hcf:cenv.frame=X.env.frame){e:Value}{s':Shared}{acc:Value}(h:XeC X E pins σ C e s') :
  notedBy (p0 X.prog X.w) X.A cenv (fun x s''=>aw5 (p0 X.prog X.w) X.A X.xe none Q acc C (.error x) s'') e s':=by
 obtain⟨s1,H1,m,I1,fC,hn,x,cls,H2,rfl,hos,hb2,u,hok,new,hxn,⟨B,a0,fl,st⟩,hE⟩:=h
 have hstk:X.stack=X.env::X.outer:=by rw[eX];rfl
 have hf:X.env.frame=some X.env.locals:=by rw[eX];rfl
 have hfr:X.A.frames=some (X.env::X.outer):=by rw[<- hstk];exact I1.ok.frames
 rw[hstk]at fl
 have nC:C∉frs X.stack:=fun z=>by
  rcases g9.mp (I1.stkSub C z) with q | q
  ·exact fC.2.1 q
  ·exact fC.2.2.1 q
 obtain⟨oC,es,ep,hC,dC,rC⟩:=hn
 have hC':s'.heap.get? C=some oC:=u.keep C oC hC fC.1 nC (by simp)
 have hC2:H2 C=none:=u.free C oC hC fC.1 (by simp)
 have frN:∀ b∈frs X.stack,H2 b=none:=fun b hb=>by
  obtain⟨_,o,ho,_⟩:=I1.stack.mem hb
  exact u.free b o ho (I1.stkFree b hb) (by simp)
 unfold notedBy
 rw[bm0 hcf]
 refine wpAny_looks_onW hfr hf fl fun h4 held up=>?_
 obtain⟨k1,k2,k3,oe,vs,T,oT,ts,he,hcl,hd,e1,nT,Te,hT,dT,e3⟩:=held
 have hsz3:3<ts.size:=(ab7.mp e3).1
 have hn4:h4.Ns C m:=up.ns ⟨oC,es,ep,hC',dC,rC⟩
 obtain⟨oC4,es4,ep4,hC4,dC4,_⟩:=id hn4
 have xC:x≠C:=fun z=>by
  rw[z,hC4]at he
  cases he
  rw[dC4]at hd
  cases hd
 have TC:T≠C:=fun z=>by
  rw[z,hC4]at hT
  cases hT
  rw[dC4]at dT
  cases dT
 refine⟨m,hn4,fun h5 hsb cenv' _=>?_⟩
 have g5:∀ b,b≠C->h5.get? b=h4.get? b:=fun b hb=>hsb.2 b hb
 have he5:=(g5 x xC).trans he
 have hT5:=(g5 T TC).trans hT
 unfold PySem.passOn
 refine a7 (J0 he5 hd e1 ?_)
 rw[if_neg (by simp:¬ ((Value.ref T == Value.none)=true))]
 refine a7 ?_
 unfold setFlight
 refine a7 (J0 he5 hd e1 ?_)
 rw[if_pos (by simp:(Value.ref T != Value.none)=true)]
 refine Y0 hT5 dT hsz3 (bZ3 ?_)
 generalize hfv:(cenv'.frame.elim Value.none fun f=>X7 f)=fv
 have oth:∀ b,b≠T->(h5.update T (Obj.mapFields (·.setIfInBounds 3 fv))).get? b=h5.get? b:=fun b z=>B7 _ _ (Ne.symm z)
 have inB:∀ b o,B.get? b=some o->b≠C->(h5.update T (Obj.mapFields (·.setIfInBounds 3 fv))).get? b=some o:=fun b o q z=>by
  rw[oth b (fun z'=>by rw[z',nT]at q;cases q),g5 b z]
  exact k1 b o q
 have frO:∀ b∈frs X.stack,∀ o,s'.heap.get? b=some o->∃ sl,(h5.update T (Obj.mapFields (·.setIfInBounds 3 fv))).get? b=some { o with slots:=sl }:=fun b hb o q=>by
  obtain⟨_,o',q',nf⟩:=fl.2.2.1.mem (b:=b) (by rw[hstk]at hb;exact hb)
  rw[q]at q'
  cases q'
  obtain⟨sl,q4⟩:=up b o q nf
  refine⟨sl,?_⟩
  rw[oth b (fun z=>by rw[z,hT]at q4;cases q4;exact nf _ dT),g5 b (fun z=>nC (by rw[<- z];exact hb))]
  exact q4
 generalize hh6:h5.update T (Obj.mapFields (·.setIfInBounds 3 fv))=h6 at oth inB frO
 have I1':Inv X pins σ H1 { s1 with heap:=PySem.W.hideAll s1.heap [C],toks:=s1.toks }:=I1.turn fC fun b o hb q=>PySem.W.hideAll_get _ q (by simpa using hb)
 have nh:∀ {g:Heap} {b:Addr} {o:Obj},(PySem.W.hideAll g [C]).get? b=some o->b≠C:=fun {g b o} q z=>by
  rw[z,PySem.W.hideAll_none _ (j0.mpr rfl)]at q
  cases q
 subst eX
 refine cd2 (s1:={ s1 with heap:=PySem.W.hideAll s1.heap [C],toks:=s1.toks }) I1' ⟨x,cls,H2,fv,rfl,hos,hb2,?_,?_,?_,hxn,⟨PySem.W.hideAll B [C],a0,⟨?_,?_,?_,?_⟩,?_⟩,hE⟩
 ·refine⟨fun b o q n hb hx=>?_,fun b o q n hb hx=>?_,fun b o q n hx=>u.free b o (PySem.W.of_hideAll _ q) n hx,fun b o q hx=>?_,u.tups,u.frzs,u.tbls⟩
  ·have q1:=PySem.W.of_hideAll _ q
   exact inB b o (st b o (u.keep b o q1 n hb hx) (.inr (by rw[q1];simp)) hb) (nh q)
  ·obtain⟨sl,q1⟩:=u.slot b o (PySem.W.of_hideAll _ q) n hb hx
   obtain⟨sl',q2⟩:=frO b hb _ q1
   exact⟨sl',q2⟩
  ·have q1:=PySem.W.of_hideAll _ q
   obtain⟨o',q2⟩:=u.there b o q1 hx
   by_cases hb:b∈frs (X2 (CXE P w) P w K mg base N qual scope f cd A outer s H E).stack
   ·obtain⟨sl,q3⟩:=frO b hb _ q2
    exact⟨_,q3⟩
   ·exact⟨o',inB b o' (st b o' q2 (.inr (by rw[q1];simp)) hb) (nh q)⟩
 ·refine hok.stays fun b o q hh=>inB b o (st b o q (.inl hh) fun z=>hh (frN b z)) fun z=>hh (by rw[z];exact hC2)
 ·cases q:(PySem.W.hideAll s1.heap [C]).get? x with
  | none=>rfl
  | some o =>
   rw[PySem.W.of_hideAll _ q]at new
   cases new
 ·exact fun b o q=>inB b o (PySem.W.of_hideAll _ q) (nh q)
 ·cases q:(PySem.W.hideAll B [C]).get? x with
  | none=>rfl
  | some o =>
   rw[PySem.W.of_hideAll _ q]at k2
   cases k2
 ·refine au7 (fun b hb n=>?_) (fun b hb o q nf=>?_) fl.2.2.1
  ·cases q:(PySem.W.hideAll B [C]).get? b with
   | none=>rfl
   | some o =>
    rw[PySem.W.of_hideAll _ q]at n
    cases n
  ·obtain⟨sl,q2⟩:=frO b hb o q
   exact⟨_,q2,nf⟩
 ·refine⟨oe,vs,T,_,_,(oth x (Ne.symm Te)).trans he5,hcl,hd,e1,?_,Te,by rw[<- hh6];exact P5 _ hT5 (Obj.isFreed_of_fields (Obj.data_mapFields dT _)),Obj.data_mapFields dT _,by simp[hsz3]⟩
  cases q:(PySem.W.hideAll B [C]).get? T with
  | none=>rfl
  | some o =>
   rw[PySem.W.of_hideAll _ q]at nT
   cases nT
 ·intro b o q hh hb
  have bC:b≠C:=fun z=>by
   rcases hh with z' | z'
   ·exact z' (by rw[z];exact hC2)
   ·exact z' (by rw[z];exact PySem.W.hideAll_none _ (j0.mpr rfl))
  have hin:∃ o',s'.heap.get? b=some o'/\B.get? b=some o':=by
   rcases hh with z' | z'
   ·obtain⟨ho,q'⟩:=G7 z'
    obtain⟨o',q2⟩:=(hok b ho q').there
    exact⟨o',q2,st b o' q2 (.inl z') hb⟩
   ·obtain⟨o1,q'⟩:=G7 z'
    have q1:=PySem.W.of_hideAll _ q'
    obtain⟨o',q2⟩:=u.there b o1 q1 (by simp)
    exact⟨o',q2,st b o' q2 (.inr (by rw[q1];simp)) hb⟩
  obtain⟨o',q2,qB⟩:=hin
  have:=inB b o' qB bC
  have q':h6.get? b=some o:=q
  rw[this]at q'
  cases q'
  exact PySem.W.hideAll_get _ qB (by simpa using bC)
end
theorem cd1 {E:XK}{s3:Shared}{H3:Hp}(I3:Inv X pins σ H3 s3)(f3:∀ b∈fp,O2 X pins H3 b) :
  as9 (CXE X.prog X.w) (B5 X scope cl N' s3 H3 fp (XeC X E pins σ s3.heap.objs.size)) E:=by
 intro pins' σ' H1 s1 e s' I' hc
 obtain⟨m,hm,_⟩:=I'.loc
 refine⟨s1,H1,m,I3.call' (ch:=fp) I'.os I'.base I'.hok I'.bare fun b hb=>?_,I3.fpOk (c6 _) I'.free,hm,hc⟩
 obtain⟨f0,f1,f2',f3',f4,f5⟩:=f3 b hb
 exact⟨f3',f1,f4,f5⟩
section
variable {K:W.Frag} {base:Heap} {scope0:Scope} {cd:Value} {s0:Shared} {H0:Hp} {E:XK}
theorem bt7 (eX:X=X2 (CXE P w) P w K mg base N qual scope0 f cd A outer s0 H0 E){elt iter:Expr}{ifs:List Expr}{wi:TI}{g:TG}{tt:TT}(hc:X.calm=true)(hi:PI X tg iter wi)(hclos:aw4 scope X.env=pure cl)(hkind:scope.kind=.function)
  (hnames:∀ y∈scope.names,y.2=.local->scope.names.lookup y.1=some .local)(hcl:aw0 X.env cl)(hfr:ap7 scope.names cl=true)(hlk:bo9 X N' lk scope cl)
  (hg:∀ pins σ s3 H3 fp,PG (B5 X scope cl N' s3 H3 fp (XeC X E pins σ s3.heap.objs.size)) tg g)(ht:∀ pins σ s3 H3 fp,PTs (B5 X scope cl N' s3 H3 fp (XeC X E pins σ s3.heap.objs.size)) ifs tt)(he:∀ pins σ s3 H3 fp,Inv X pins σ H3 s3->(∀ b∈fp,O2 X pins H3 b)->PE (B5 X scope cl N' s3 H3 fp (XeC X E pins σ s3.heap.objs.size)) elt te)
  (hs:∀ x,X8 iter X.env x=pure x:=by intro _;rfl):PE X (.ListComp elt [⟨tg,iter,ifs,0⟩] scope pos) (be2 wi lk g tt te):=by
 intro pins s σ H Q I h
 rw[eval_ListComp]
 have hcellN:∀ y∈scope.names,y.2≠.cell:=fun y hy=>by
  unfold ap7 at hfr
  rw[O3]at hfr
  have:=hfr y hy
  rw[B0]at this
  simpa using this.1
 refine ak9 (use:=none) rfl hs hclos hkind hnames (thn (hi pins s σ H _ I h) fun v s1 h1=>thn h1 fun itv s2 h2=>?_)
 obtain⟨it,fp,tn,J,H2,e,I2,T,st2,f2,q⟩:=h2
 subst e
 refine O6 ?_ (u7 _)
 have hD:H2 s2.heap.objs.size=none:=I2.hok.fresh (c6 _)
 have I3:=I2.lnew (ys:=[]) (its:=[]) (t':=s2.toks) .nil (u7 _)
 obtain⟨W,⟨m0,w0⟩,turn⟩:=q s2.heap.objs.size hD
 have fpl:∀ b∈fp,b<s2.heap.objs.size:=fun b hb=>by
  obtain⟨o,ho,_⟩:=T.obj 0 s2.heap st2 b hb
  exact d9 ho
 refine ab4 hcellN (by intro y hy;cases hy) (fun h1 hns1 hsb1=>?_) hkind
 dsimp only at hns1 hsb1 ⊢
 have e3:s2.heap.push { cls:=.type "list",dict:=none,data:=.seq ([]:List Value).toArray }=s2.heap.push { cls:=.type "list",data:=.seq ([]:List Value).toArray }:=rfl
 generalize hh3:s2.heap.push { cls:=.type "list",dict:=none,data:=.seq ([]:List Value).toArray }=h3 at *
 have I3':Inv X pins σ (upd H2 s2.heap.objs.size (.lst [])) { s2 with heap:=h3,toks:=s2.toks }:=I3
 have size3:h3.objs.size=s2.heap.objs.size+1:=by rw[<- hh3,L7]
 have f3:∀ b∈fp,O2 X pins (upd H2 s2.heap.objs.size (.lst [])) b:=fun b hb=>by
  obtain⟨f0,fr⟩:=f2 b hb
  exact⟨by rw[m9 (i8 (fpl b hb))];exact f0,fr⟩
 have up:∀ b u,h3.get? b=some u->h1.get? b=some u:=fun b u eb=>by
  rw[hsb1.2 b (i8 (d9 eb))]
  exact a8 _ eb
 have I4:Inv (B5 X scope cl N' { s2 with heap:=h3,toks:=s2.toks } (upd H2 s2.heap.objs.size (.lst [])) fp (XeC X E pins σ h3.objs.size)) [] (Z7 lk σ) (upd H2 s2.heap.objs.size (.lst [])) { s2 with heap:=h1,toks:=s2.toks+([]:List (Str × Value)).length }:=
  al4 (s3:={ s2 with heap:=h3,toks:=s2.toks }) I3' f3 hkind hcl hfr hlk hns1 up fun b hb=>by show b<h3.objs.size;rw[size3];exact D8 (fpl b hb)
 have st4:tn 0 h1:=T.keep 0 s2.heap h1 st2 fun b hb o eb=>up b o (by rw[<- hh3];exact a8 _ eb)
 have hCs:h3.objs.size=(L8 scope cl h3.objs.size X.env).locals:=rfl
 have stat:∀ {H':Hp},(∀ b∈fp,H' b=none)->∀ b∈fp,O2 (B5 X scope cl N' { s2 with heap:=h3,toks:=s2.toks } (upd H2 s2.heap.objs.size (.lst [])) fp (XeC X E pins σ h3.objs.size)) [] H' b:=fun {H'} hn b hb=>by
  obtain⟨f0,f1,f2',f3',f4,f5⟩:=f3 b hb
  refine⟨hn b hb,?_,fun z=>?_,.inl hb,fun x c ex=>f4 x c (hcl.get ex),fun p hp=>nomatch hp⟩
  ·show b≠h3.objs.size
   rw[size3]
   exact i8 (D8 (fpl b hb))
  ·rcases g9.mp (I3'.stkSub b z) with q | q
   ·exact f1 q
   ·exact f2' q
 have fin:∀ (s':Shared) (σ':St) (H':Hp),Inv (B5 X scope cl N' { s2 with heap:=h3,toks:=s2.toks } (upd H2 s2.heap.objs.size (.lst [])) fp (XeC X E pins σ h3.objs.size)) [] σ' H' s'->Q (.ref s2.heap.objs.size) H' ->
   aw5 (p0 X.prog X.w) X.A X.xe none (EP X pins σ Q) (.ref s2.heap.objs.size) h3.objs.size (.ok .next) s':=fun s' σ' H' I' q'=>by
  obtain⟨m,hm,_⟩:=id I'.loc
  have I5:Inv X pins σ H' s':=I3'.call' (ch:=fp) I'.os I'.base I'.hok I'.bare fun b hb=>by
   obtain⟨f0,f1,f2',f3',f4,f5⟩:=f3 b hb
   exact⟨f3',f1,f4,f5⟩
  refine⟨m,hm,fun h' hsb=>?_⟩
  refine⟨.ref s2.heap.objs.size,H',?_,rfl,q'⟩
  have hfc:H' h3.objs.size=none:=I'.free
  have hcl1:∀ b o,h3.get? b=some o->b≠h3.objs.size:=fun b o eb=>i8 (d9 eb)
  obtain⟨h0',g0,d0,t0,o0⟩:=s'
  refine I5.turned (t':=t0) (it:=h3.objs.size) (fun b o hb eb=>(hsb.2 b hb).trans eb) hfc ?_ (.inr I3'.sz) (fun x c ex z=>?_) (fun p hp z=>?_)
  ·exact S9 I3'.lt
  ·obtain⟨v',q2⟩:=I3'.cell x c ex
   exact absurd q2.lt (by rw[z];exact C9 _)
  ·exact absurd (d9 (I3'.pin p hp).1) (by rw[z];exact C9 _)
 have loop:∀ s5:Shared,s5={ s2 with heap:=h1,toks:=s2.toks+([]:List (Str × Value)).length } ->
   aD8 (p0 X.prog X.w) X.A (.compLoop (.ListComp elt [⟨tg,iter,ifs,0⟩] scope pos) 0 (.ref it) (.ref s2.heap.objs.size) (L8 scope cl h3.objs.size X.env)) (aw5 (p0 X.prog X.w) X.A X.xe none (EP X pins σ Q) (.ref s2.heap.objs.size) h3.objs.size) s5:=by
  rintro s5 rfl
  refine bN8 rfl (fun n s'=>∃ i xs σ' H',Inv (B5 X scope cl N' { s2 with heap:=h3,toks:=s2.toks } (upd H2 s2.heap.objs.size (.lst [])) fp (XeC X E pins σ h3.objs.size)) [] σ' H' s'/\tn i s'.heap/\(∀ b∈fp,H' b=none)/\W i n xs σ' H')
   (fun n s6 hI=>?_) m0 ⟨0,[],Z7 lk σ,_,I4,st4,fun b hb=>(f3 b hb).1,w0⟩
  obtain⟨i,xs,σ6,H6,I6,st6,fr6,w6⟩:=hI
  show m5 _ X.A ((compTurn (.ListComp elt [⟨tg,iter,ifs,0⟩] scope pos) 0 (.ref it) (.ref s2.heap.objs.size) (L8 scope cl h3.objs.size X.env)).onRaise (fun x=>do av4 x (L8 scope cl h3.objs.size X.env);bk0 x)) _ _ s6
  refine bZ0 ?_
  rw[bC1]
  refine a7 (V0 (a7 ?_))
  obtain⟨hD6,hw⟩:=turn i n xs σ6 H6 w6
  rcases hw with⟨stop,qn⟩ | ⟨go,hlen,step⟩
  ·refine thn (T.done (B5 X scope cl N' { s2 with heap:=h3,toks:=s2.toks } (upd H2 s2.heap.objs.size (.lst [])) fp (XeC X E pins σ h3.objs.size)) rfl rfl rfl hc i [] s6 σ6 H6 _ I6 (stat fr6) st6 stop) fun r s7 ⟨hr,I7⟩=>?_
   subst hr
   exact b9 (fin s7 σ6 H6 I7 qn)
  ·refine thn (T.item (B5 X scope cl N' { s2 with heap:=h3,toks:=s2.toks } (upd H2 s2.heap.objs.size (.lst [])) fp (XeC X E pins σ h3.objs.size)) rfl rfl rfl hc i [] s6 σ6 H6 _ I6 (stat fr6) st6 go) fun r s7 ⟨u,hr,h7⟩=>?_
   subst hr
   refine a7 (thn h7 fun _ s8 ⟨x,H8,I8,r8,y8,st8,fr8⟩=>?_)
   have I8':=I8.pinned (stat fr8) (T.obj _ _ st8)
   refine a7 (B6 (hg pins σ _ _ _ _ s8 σ6 H8 x u _ I8' r8 (step x H8 y8)) (fun _ s9 ⟨σ9,H9,I9,q9⟩=>?_) (fun _ _ z=>ap3 eX rfl z))
   refine a7 (B6 (ht pins σ _ _ _ _ s9 σ9 H9 _ I9 q9) (fun ok s10 ⟨H10,I10,q10⟩=>?_) (fun _ _ z=>ap3 eX rfl z))
   have bj3:∀ {σ':St} {H':Hp} {ys:List V} {s':Shared},Inv (B5 X scope cl N' { s2 with heap:=h3,toks:=s2.toks } (upd H2 s2.heap.objs.size (.lst [])) fp (XeC X E pins σ h3.objs.size)) ([]++ag6 fp s8.heap) σ' H' s'->(∃ m',m'<n/\W (i+1) m' ys σ' H') ->
     ∃ m',m'<n/\∃ i xs σ' H',Inv (B5 X scope cl N' { s2 with heap:=h3,toks:=s2.toks } (upd H2 s2.heap.objs.size (.lst [])) fp (XeC X E pins σ h3.objs.size)) [] σ' H' s'/\tn i s'.heap/\(∀ b∈fp,H' b=none)/\W i m' xs σ' H':=fun {σ' H' ys s'} I' ⟨m',hm,w'⟩=>by
    refine⟨m',hm,i+1,ys,σ',H',I'.unpinned,T.keep _ _ _ st8 fun b hb o eb=>(I'.pin (b,o) (k6 _ (k6 _ (M0 hb eb)))).1,fun b hb=>?_,w'⟩
    obtain⟨o,eb,_⟩:=T.obj _ _ st8 b hb
    exact(I'.pin (b,o) (k6 _ (k6 _ (M0 hb eb)))).2.1
   cases ok with
   | false =>
    have q10':∃ m',m'<n/\W (i+1) m' xs σ9 H10:=by simpa using q10
    exact b9 ⟨rfl,bj3 I10 q10'⟩
   | true =>
    rw[if_pos rfl]at q10
    refine a7 (a7 (B6 (he pins σ _ _ _ I3' f3 _ s10 σ9 H10 _ I10 q10) (fun y s11 ⟨v11,H11,I11,r11,hD11,q11⟩=>?_) (fun _ _ z=>ap3 eX rfl z)))
    refine a7 (B6 (F1 (X:=B5 X scope cl N' { s2 with heap:=h3,toks:=s2.toks } (upd H2 s2.heap.objs.size (.lst [])) fp (XeC X E pins σ h3.objs.size)) _ s11 σ9 H11 (.ref s2.heap.objs.size) [v11] (.ref s2.heap.objs.size) [y] (fun _ H'=>∃ m',m'<n/\W (i+1) m' (xs++[v11]) σ9 H') I11 rfl (.cons r11 .nil) ⟨s2.heap.objs.size,xs,v11,rfl,rfl,hD11,hlen,q11⟩) (fun _ s12 ⟨_,H12,I12,_,q12⟩=>?_) (fun _ _ z=>ap3 eX rfl z))
    exact b9 (b9 ⟨rfl,bj3 I12 q12⟩)
 exact ar0 (loop _ rfl) (T.self X.A 0 _ _ _ st4 (loop _ rfl))
end
def bR4 (K:W.Frag):R2:=fun x y H Q=>∃ a b xs ys,x=.ref a/\y=.ref b/\SqT K H a xs/\SqT K H b ys/\ys≠[]/\xs.length+ys.length<=c5 /\
 (xs=[]->Q (.ref b) H)/\(xs≠[]->∀ p,H p=none->Q (.ref p) (upd H p (.tup (xs++ys))))
theorem bt9:OpR X (O5 .Add) (bR4 X.K):=by
 intro pins s σ H x y v u Q I rx ry h
 obtain⟨a,b,xs,ys,e1,e2,ha,hb,hy,hz,q1,q2⟩:=h
 by_cases hx:xs=[]
 ·subst e1 e2
  cases rx
  cases ry
  obtain⟨its,r1,p1,_⟩:=I.tuple ha
  obtain⟨its2,r2,p2,_⟩:=I.tuple hb
  have hv:its=[]:=r1.nil_iff.mpr hx
  obtain⟨⟨cls,dd,data,sl⟩,ho,hc,n,hd⟩:=id p1
  obtain⟨⟨cls2,dd2,data2,sl2⟩,ho2,hc2,n2,hd2⟩:=id p2
  simp only at hc hd hc2 hd2
  subst hc hd hc2 hd2
  exact aX3 ⟨_,ho,rfl⟩ ⟨_,ho2,rfl⟩ aq2 aJ3 PySem.F.slot_tuple_add PySem.F.entry_tuple_add (PySem.F.args_tuple_add_2 _ _)
   (tuple_addW0 a b its.toArray its2.toArray n n2 dd dd2 sl sl2 (by simp[hv])) ⟨ho,ho2,⟨.ref b,H,I,rfl,q1 hx⟩⟩
 ·exact bf9 pins s σ H x y v u Q I rx ry ⟨a,b,xs,ys,e1,e2,ha,hb,hx,hz,fun z=>absurd z hy,fun _=>q2 hx⟩
end L2
namespace L2
open PySem PySem.Spec PyProof.Rows PySem.SeqAt
def aP3 (h:Heap)(d:Addr)(es:Array Z3)(ep:Nat):Prop:=∃ o,h.get? d=some o/\o.ExactDict/\o.data=.dict es ep
theorem aP3.typeIs {d:Addr}{es:Array Z3}{ep:Nat}(x:aP3 s.heap d es ep):s.TypeIs (.ref d) "dict":=let ⟨o,ho,hc,_⟩:=x;⟨o,ho,hc.1⟩
theorem aP3.at' {d:Addr}{es:Array Z3}{ep:Nat}(x:aP3 h d es ep)(e:∀ o,h.get? d=some o->h'.get? d=some o):aP3 h' d es ep:=let ⟨o,ho,r⟩:=x;⟨o,e _ ho,r⟩
theorem bs8 {d:Addr}{es:Array Z3}{ep:Nat}(hd:(d == Q6)=false)(hm:aP3 s.heap d es ep)
  (hQ:Q (.ref s.heap.objs.size) { s with heap:=s.heap.push { cls:=.type "dict_keyiterator",data:=.fields #[.ref d,.int 0 0,.int es.size 0,.int ep 0] } }) :
  m5 (p0 prog w) A (pyIter (.ref d)) Q E s:=by
 have hT:=hm.typeIs
 obtain⟨o,ho,hc,hdat⟩:=id hm
 refine wpAny_pyIter_slot hT PySem.F.slot_dict_iter (F7 PySem.F.slot_dict_iter hT PySem.F.entry_dict_iter ?_ (PySem.F.args_dict_iter_1 _))
 unfold av3.«dict.__iter__»
 refine a7 ?_
 unfold Builtin.Dict.dictSlotNone
 refine a7 (wpAny_notOrdered_dict hT ?_)
 show m5 _ _ (pure (Value.ref d)) _ _ s
 refine b9 ?_
 show m5 _ _ (Builtin.Dict.showsAll d >>= _) _ _ s
 unfold Builtin.Dict.showsAll
 rw[if_neg (by rw[hd];exact g8)]
 refine a7 (b9 ?_)
 refine a7 (aQ4 ho hdat ?_)
 refine a7 (bk5 ho hdat ?_)
 refine a7 (A7 (b9 ⟨_,rfl,"dict_keyiterator",_,⟨_,j3 _ rfl,rfl⟩,PySem.F.slot_dict_keyiterator_next.lookup,?_⟩))
 simpa [X7] using hQ
theorem bs7 {it d:Addr}{ep:Nat}{es:Array Z3}{e:Z3}{Q:Option Value->Shared->Prop}(hit:s.heap.IsKeyIter it d i es.size ep)
  (hm:aP3 s.heap d es ep)(hx:es[i]?=some e)(hQ:∀ h',h'.IsKeyIter it d (i+1) es.size ep->Heap.SameBut it s.heap h'->Q (some e.key) { s with heap:=h' }) :
  m5 (p0 prog w) A (bA0 (.ref it)) Q E s:=by
 obtain⟨o,ho,hc,hd⟩:=id hit
 obtain⟨od,hod,hcd,hdd⟩:=id hm
 unfold bA0
 refine a7 (aJ6 (F5 (name:=Str.ofString "__next__") hit.typeIs PySem.F.slot_dict_keyiterator_next
  (F7 PySem.F.slot_dict_keyiterator_next hit.typeIs PySem.F.entry_dict_keyiterator_next ?_ (PySem.F.args_dict_keyiterator_next_1 _))))
 refine a7 (b9 ?_)
 refine a7 ?_
 refine a7 ?_
 first | refine a7 (P2 hit.typeIs (b9 ?_)) | refine a7 (U5 hit.typeIs (b9 ?_))
 refine a7 (wpAny_fieldsOf ho hd ?_)
 have hown:Builtin.Dict_items.ownsTuple "dict_keyiterator"=false:=by decide
 simp only[hown,j7,if_false]
 show m5 _ _ (if (Value.ref d == Value.none)=true then _ else _) _ _ s
 rw[if_neg (show ¬ ((Value.ref d == Value.none)=true) from g8)]
 refine a7 (b9 ?_)
 refine a7 (aQ4 hod hdd ?_)
 rw[if_neg (by simp)]
 refine a7 (b9 ?_)
 refine a7 (bk5 hod hdd ?_)
 rw[if_neg (by simp)]
 refine b9 ?_
 simp only[show ¬ ((i:Int)<0) from by omega,if_false,i3,hx]
 refine a7 ?_
 first | refine a7 (P2 hit.typeIs (b9 ?_)) | refine a7 (U5 hit.typeIs (b9 ?_))
 refine a7 (bO2 hit.typeIs ?_)
 show m5 _ _ (setField (.ref it) 1 (X7 ((i:Int)+1)) >>= _) _ _ s
 refine a7 (Y0 ho hd (by simp) ?_)
 have hit':(s.heap.update it (Obj.mapFields (·.setIfInBounds 1 (X7 ((i:Int)+1))))).IsKeyIter it d (i+1) es.size ep:=
  ⟨_,P5 _ ho (Obj.isFreed_of_fields (Obj.data_mapFields hd _)),(Obj.cls_mapFields ..).trans hc,by rw[Obj.data_mapFields hd];simp[X7]⟩
 refine a7 (C1 ?_)
 refine a7 (bO2 (s:={ s with heap:=s.heap.update it (Obj.mapFields (·.setIfInBounds 1 (X7 ((i:Int)+1)))) }) hit'.typeIs ?_)
 show m5 _ _ (pure e.key) _ _ _
 exact b9 (b9 ⟨_,rfl,b9 (hQ _ hit' (Heap.SameBut.update ..))⟩)
theorem bE4 {it d:Addr}{ep:Nat}{es:Array Z3}{Q:Option Value->Shared->Prop}(hh:A.handled=none)(hit:s.heap.IsKeyIter it d i es.size ep)
  (hm:aP3 s.heap d es ep)(hx:es.size<=i)(hQ:∀ h',Heap.ExtBut it s.heap h'->Q none { s with heap:=h' }):m5 (p0 prog w) A (bA0 (.ref it)) Q E s:=by
 obtain⟨o,ho,hc,hd⟩:=id hit
 obtain⟨od,hod,hcd,hdd⟩:=id hm
 unfold bA0
 refine a7 (aJ6 (F5 (name:=Str.ofString "__next__") hit.typeIs PySem.F.slot_dict_keyiterator_next
  (F7 PySem.F.slot_dict_keyiterator_next hit.typeIs PySem.F.entry_dict_keyiterator_next ?_ (PySem.F.args_dict_keyiterator_next_1 _))))
 refine a7 (b9 ?_)
 refine a7 ?_
 refine a7 ?_
 first | refine a7 (P2 hit.typeIs (b9 ?_)) | refine a7 (U5 hit.typeIs (b9 ?_))
 refine a7 (wpAny_fieldsOf ho hd ?_)
 have hown:Builtin.Dict_items.ownsTuple "dict_keyiterator"=false:=by decide
 simp only[hown,j7,if_false]
 show m5 _ _ (if (Value.ref d == Value.none)=true then _ else _) _ _ s
 rw[if_neg (show ¬ ((Value.ref d == Value.none)=true) from g8)]
 refine a7 (b9 ?_)
 refine a7 (aQ4 hod hdd ?_)
 rw[if_neg (by simp)]
 refine a7 (b9 ?_)
 refine a7 (bk5 hod hdd ?_)
 rw[if_neg (by simp)]
 refine b9 ?_
 simp only[show ¬ ((i:Int)<0) from by omega,if_false,i3,bp5 hx]
 refine a7 ?_
 first | refine a7 (P2 hit.typeIs (b9 ?_)) | refine a7 (U5 hit.typeIs (b9 ?_))
 show m5 _ _ (setField (.ref it) 0 .none >>= _) _ _ s
 refine a7 (Y0 ho hd (by simp) ?_)
 show m5 _ _ (newExc (.type "StopIteration") [] >>= _) _ _ _
 refine a7 ?_
 simp only[newExc,newTuple]
 refine a7 (A7 ?_ (by size_fits))
 refine a7 (m:=aD3 _ _) (bk4 (a:=Value.none) (by first | rfl | (simp only[aD3];rfl)) ?_)
 refine A7 ?_ (by size_fits)
 simp only[raiseNew]
 refine a7 (wpAny_handled ?_)
 rw[show A.in1.handled=none from hh]
 refine a7 (b9 (bZ3 ?_))
 refine a7 (wpAny_isInstance (T:="StopIteration") (b:=true) ⟨_,j3 _ rfl,rfl⟩ isSubtype_stop ?_)
 exact b9 (hQ _ (((Heap.SameBut.update ..).extBut.push _).push _))
theorem aS7 (hh:A.handled=none)(I d:Addr)(hne:d≠I)(es:Array Z3)(ep:Nat) :
  Walks prog w A I [I,d] [I] es.size (fun i v=>∃ e,es[i]?=some e/\v=e.key) (fun i h=>h.IsKeyIter I d i es.size ep/\aP3 h d es ep) where
 sub:=fun b hb=>by simp at hb;simp[hb]
 frame:=fun _ _ _ st hk=>⟨st.1.at fun o e=>hk I (by simp) o e,st.2.at' fun o e=>hk d (by simp) o e⟩
 item:=fun i s Q E hi st hQ=>by
  obtain⟨e,hx⟩:∃ e,es[i]?=some e:=⟨es[i],by simp[hi]⟩
  refine bs7 st.1 st.2 hx fun h' hit' hs'=>?_
  exact hQ e.key h' s.toks ⟨e,hx,rfl⟩ ⟨hit',st.2.at' fun o q=>hs'.extBut d o hne q⟩ fun b o hb q=>hs'.extBut b o (fun h=>hb (by simp[h])) q
 done:=fun s Q E st hQ=>bE4 hh st.1 st.2 (c6 _) fun h' he'=>hQ h' s.toks fun b o hb e=>he' b o (fun h=>hb (by simp[h])) e
 self:=fun _ _ _ _ st hQ=>bY0 st.1 hQ
end L2
namespace PySem
section
variable {K:Type} [DecidableEq K] {knd:HeapKind prog w K}
end
end PySem
namespace PySem
section
variable {K:Type} [DecidableEq K] {knd:HeapKind prog w K}
end
end PySem
namespace L2
open PySem PySem.Spec PyProof.Rows
theorem freeze (I:Inv X pins σ H s)(e:H a=some (.dT kvs)):∃ o,Inv X pins σ (upd H a (.frz o (.dT kvs))) s:=by
 obtain⟨z,hd,xs,kt,o,es,ep,h1,h2,h3,h4,h5⟩:=(show F3 X.prog X.w H s.heap a (.dT kvs) from I.hok a _ e)
 refine⟨o,?_⟩
 have:=aO7 (ob:=.frz o (.dT kvs)) (h':=s.heap) (t':=s.toks) I (by rw[e];exact True.intro) (Heap.SameBut.refl _ _) ⟨o,h1⟩ ⟨h1,z,hd,xs,KT.keeps kt fun b ys eb=>by
  rw[m9 (fun q=>by rw[q,e]at eb;cases eb)]
  exact eb,o,es,ep,h1,h2,h3,h4,h5⟩
 exact this
theorem bS1 (h:PE X e te):PE X e (fun σ H Q=>te σ H fun x H1=>∃ (a:Addr) (kvs:List (List Key × V)),x=.ref a/\H1 a=some (.dT kvs)/\∀ o,Q x (upd H1 a (.frz o (.dT kvs)))):=by
 intro pins s σ H Q I hw
 refine thn (h pins s σ H _ I hw) fun v s1 ⟨x,H1,I1,r1,a,kvs,ex,ea,q⟩=>?_
 obtain⟨o,I2⟩:=freeze I1 ea
 exact⟨x,_,I2,r1,q o⟩
def Itd (a:Addr)(o:Obj)(kvs:List (List Key × V)):It:=
 ⟨fun i H=>H a=some (.frz o (.dT kvs))/\i<kvs.length,fun i H x H'=>H'=H/\∃ kv p,kvs[i]?=some kv/\x=.ref p/\H p=some (.tup (kv.1.map kV)),fun i H=>H a=some (.frz o (.dT kvs))/\kvs.length=i⟩
theorem bC7 {K:W.Frag}(a it:Addr)(hne:a≠it)(o:Obj)(kvs:List (List Key × V))(es:Array Z3)(ep:Nat)(hx:o.ExactDict)(hd:o.data=.dict es ep)(hes:es.size=kvs.length) :
  Turn P w K tg (Itd a o kvs) [it] it (fun i h=>h.IsKeyIter it a i es.size ep) where
 mem:=by simp
 obj:=fun i h st b hb=>by
  have e:b=it:=by simpa using hb
  subst e
  obtain⟨o,e,c,d⟩:=st
  exact⟨o,e,fun v z=>by rw[d]at z;cases z⟩
 keep:=fun i h h' st k=>st.at fun o e=>k it (by simp) o e
 item:=by
  intro X hP hw hK hc i pins s σ H E I hf st hg
  subst hP hw hK
  obtain⟨hH,hi⟩:=hg
  obtain⟨h1,z,hds,xs,kt,o',es',ep',g1,g2,g3,g4,g5⟩:=(show F3 X.prog X.w H s.heap a (.frz o (.dT kvs)) from I.hok a _ hH)
  have eo:o'=o:=by rw[h1]at g1;injection g1 with g1;exact g1.symm
  subst eo
  have ee:es'=es/\ep'=ep:=by rw[hd]at g3;cases g3;exact⟨rfl,rfl⟩
  obtain⟨rfl,rfl⟩:=ee
  obtain⟨f0,f1,f2,f3,f4,f5⟩:=hf it (by simp)
  have W:=aS7 (prog:=X.prog) (w:=X.w) (A:=X.A) (I.ok.hd hc) it a hne es' ep'
  refine W.item i s _ _ (by omega) ⟨st,o',h1,hx,hd⟩ fun v h' tk hv st' kk=>?_
  obtain⟨en,he,rfl⟩:=hv
  have I1:Inv X pins σ H { s with heap:=h',toks:=tk }:=I.turned (fun b o hb e=>kk b o (by simpa using hb) e) f0 f1 f3 f4 f5
  obtain⟨ot,e,c,d⟩:=id st'.1
  obtain⟨kv,hkv⟩:∃ kv,kvs[i]?=some kv:=⟨_,d6 hi⟩
  obtain⟨q,hq,hr⟩:=S5 kt hkv
  rw[entry_at g4 i,hq]at he
  cases he
  exact⟨_,rfl,bg8 (s:={ s with heap:=h',toks:=tk }) e c d (by decide) ⟨.ref q.2.1,H,I1,rfl,⟨rfl,kv,q.2.1,hkv,rfl,hr.2.1⟩,st'.1,fun b hb=>(hf b hb).1⟩⟩
 done:=by
  intro X hP hw hK hc i pins s σ H E I hf st hg
  subst hP hw hK
  obtain⟨hH,hi⟩:=hg
  obtain⟨h1,z,hds,xs,kt,o',es',ep',g1,g2,g3,g4,g5⟩:=(show F3 X.prog X.w H s.heap a (.frz o (.dT kvs)) from I.hok a _ hH)
  have eo:o'=o:=by rw[h1]at g1;injection g1 with g1;exact g1.symm
  subst eo
  have ee:es'=es/\ep'=ep:=by rw[hd]at g3;cases g3;exact⟨rfl,rfl⟩
  obtain⟨rfl,rfl⟩:=ee
  obtain⟨f0,f1,f2,f3,f4,f5⟩:=hf it (by simp)
  have W:=aS7 (prog:=X.prog) (w:=X.w) (A:=X.A) (I.ok.hd hc) it a hne es' ep'
  have ei:i=es'.size:=by omega
  subst ei
  exact W.done s _ _ ⟨st,o',h1,hx,hd⟩ fun h' tk kk=>⟨rfl,I.turned (fun b o hb e=>kk b o (by simpa using hb) e) f0 f1 f3 f4 f5⟩
 self:=fun _ _ _ _ _ st h=>bY0 st h
def ce7 (tl:TE):TI:=fun σ H R=>tl σ H fun x H1=>∃ (a:Addr) (o:Obj) (kvs:List (List Key × V)),x=.ref a/\H1 a=some (.frz o (.dT kvs))/\R (Itd a o kvs) H1
theorem bM2 {l:Expr}{tl:TE}(hl:PE X l tl):PI X tg l (ce7 tl):=by
 intro pins s σ H R I h
 refine thn (hl pins s σ H _ I h) fun v s1 ⟨x,H1,I1,r1,a,o,kvs,ex,hH,q⟩=>?_
 subst ex
 cases r1
 obtain⟨h1,z,hds,xs,kt,o',es,ep,g1,g2,g3,g4,g5⟩:=(show F3 X.prog X.w H1 s1.heap a (.frz o (.dT kvs)) from I1.hok a _ hH)
 have eo:o'=o:=by rw[h1]at g1;injection g1 with g1;exact g1.symm
 subst eo
 have hes:es.size=kvs.length:=by rw[size_of_entries g4];exact(Paired.length kt).symm
 refine bs8 hds ⟨o',h1,g2,g3⟩ ?_
 refine⟨s1.heap.objs.size,[s1.heap.objs.size],_,_,H1,rfl,I1.kept (t':=s1.toks) fun b o e=>a8 _ e,bC7 a _ (i8 (d9 h1)) o' kvs es ep g2 g3 hes,⟨_,j3 _ rfl,rfl,rfl⟩,fun b hb=>?_,q⟩
 have e:b=s1.heap.objs.size:=by simpa using hb
 subst e
 exact I1.fpOk (c6 _) (I1.hok.fresh (c6 _))
theorem bJ1 {D:Addr}{o:Obj}{g:TG}{tt:TT}{σ0:St}{H0:Hp}(Pv:Nat->List V->St->Hp->Prop)(h0:Pv 0 [] σ0 H0)(hz:kvs.length<=c5)(hl:∀ i xs σ H,i<=kvs.length->Pv i xs σ H->H a=some (.frz o (.dT kvs))/\H D=some (.lst xs)/\xs.length<=i)
  (hs:∀ i xs kv p σ H (N:List V->St->Hp->Prop),(∀ xs' σ' H',Pv (i+1) xs' σ' H'->N xs' σ' H')->kvs[i]?=some kv->H p=some (.tup (kv.1.map kV))->Pv i xs σ H->g (.ref p) σ H fun σ2 H2=>tt σ2 H2 fun b H3=>if b=true then te σ2 H3 fun v H4=>H4 D=some (.lst xs)/\N (xs++[v]) σ2 (upd H4 D (.lst (xs++[v]))) else N xs σ2 H3)
  (hd:∀ xs σ H,Pv kvs.length xs σ H->Qd H) :
  ∃ W:Nat->Nat->List V->St->Hp->Prop,(∃ m,W 0 m [] σ0 H0)/\∀ i m xs σ' H',W i m xs σ' H'->H' D=some (.lst xs)/\(((Itd a o kvs).stop i H'/\Qd H')\/((Itd a o kvs).go i H'/\xs.length<c5/\∀ x H'',(Itd a o kvs).yld i H' x H''->g x σ' H'' fun σ2 H2=>tt σ2 H2 fun b H3 =>
   if b=true then te σ2 H3 fun v H4=>H4 D=some (.lst xs)/\∃ m',m'<m/\W (i+1) m' (xs++[v]) σ2 (upd H4 D (.lst (xs++[v]))) else ∃ m',m'<m/\W (i+1) m' xs σ2 H3)):=by
 refine⟨fun i m xs σ H=>m=kvs.length - i/\i<=kvs.length/\Pv i xs σ H,⟨kvs.length,by simp,u7 _,h0⟩,?_⟩
 rintro i m xs σ H ⟨rfl,hi,p⟩
 obtain⟨q,hD,hx⟩:=hl i xs σ H hi p
 refine⟨hD,?_⟩
 by_cases hlt:i<kvs.length
 ·refine .inr ⟨⟨q,hlt⟩,by omega,fun x H'' y=>?_⟩
  obtain⟨e,kv,r,hkv,ex,hr⟩:=y
  subst e ex
  exact hs i xs kv r σ _ (fun zs σ' H'=>∃ m',m'<kvs.length - i/\m'=kvs.length - (i+1)/\i+1<=kvs.length/\Pv (i+1) zs σ' H') (fun zs σ' H' r=>⟨_,by omega,rfl,hlt,r⟩) hkv hr p
 ·have e:i=kvs.length:=by omega
  subst e
  exact .inl ⟨⟨q,rfl⟩,hd xs σ H p⟩
end L2
namespace Web
def W9 (ns:List Int)(M r:Nat):Int:=(M:Int)*(r:Int)*((r:Int) - 1)+part (ns.length - r) ((M:Int)*(r:Int)) (up2 ns)
theorem ai1 (ns:List Int)(r:Nat):W9 ns 1 r=ak1 ns r:=by
 unfold W9 ak1
 rw[Int.natCast_one,aY2]
theorem aS6 {M r:Nat}(e:zs=(up2 ns).reverse):(M:Int)*(r:Int)*((r:Int) - 1)+((zs.drop r).map (mn ((M:Int)*(r:Int)))).sum - (zs.take r).sum=W9 ns M r:=by
 unfold W9 part
 rw[e,bX3,bX4,bY5,am4,am4,aw6]
 omega
end Web
namespace Web
def as6 (ns:List Int)(i:Nat):List Nat:=(x6 i).filter fun j=>decide (ns.getD j 0<0)
def bd2 (ns:List Int):List Int:=(as6 ns ns.length).map Int.ofNat
theorem bo6 (ns:List Int)(i:Nat):as6 ns (i+1)=as6 ns i++(if ns.getD i 0<0 then [i] else []):=by
 unfold as6
 rw[K1,P1]
 congr 1
 by_cases h:ns.getD i 0<0
 ·rw[if_pos h,aj8 (by simpa using h),aX2]
 ·rw[if_neg h,aj9 (by simpa using h),aX2]
theorem by9 (ns:List Int)(i:Nat):(as6 ns i).length<=i:=by
 unfold as6
 exact n8 (L0 ..) (by rw[F9];exact c6 _)
theorem ap5 {x:Int}(h:ns[j]?=some x):ns.getD j 0=x:=by rw[i9,h];rfl
theorem bJ3 (h:as6 ns ns.length=[]):∀ (j:Nat) (x:Int),ns[j]?=some x->0<=x:=fun j x e=>by
 have hj:j<ns.length:=by
  rcases E6 j ns.length with l | l
  ·exact l
  ·rw[o5 l]at e;cases e
 have:=bp9.mp h j (A1.mpr hj)
 rw[ap5 e]at this
 have h2:¬ x<0:=fun q=>this (decide_eq_true q)
 omega
theorem by8 {p:Nat}{t:List Nat}(h:as6 ns ns.length=p::t):(∃ x,ns[p]?=some x/\x<0)/\∀ (j:Nat) (x:Int),j<p->ns[j]?=some x->0<=x:=by
 have hm:p∈as6 ns ns.length:=by rw[h];exact f9
 have hp:=C5.mp hm
 have hl:=A1.mp hp.1
 have h0:=of_decide_eq_true hp.2
 refine⟨⟨_,d6 hl,by rw[ap5 (d6 hl)]at h0;exact h0⟩,fun j x hj e=>?_⟩
 rcases Int.lt_or_le x 0 with q | q
 ·have hjm:j∈as6 ns ns.length:=C5.mpr ⟨A1.mpr (by omega),by rw[ap5 e];exact decide_eq_true q⟩
  have hs:(as6 ns ns.length).Pairwise (·<·):=List.Pairwise.filter _ U9
  rw[h]at hs hjm
  rcases g9.mp hjm with r | r
  ·omega
  ·have:=(C7.mp hs).1 j r
   omega
 ·exact q
theorem bi4 (ns:List Int)(z:Int):z∈bd2 ns↔0<=z/\z<ns.length/\ns.getD z.toNat 0<0:=by
 unfold bd2
 constructor
 ·intro h
  obtain⟨j,hj,rfl⟩:=m6.mp h
  have hp:=C5.mp hj
  have hl:=A1.mp hp.1
  have h0:=of_decide_eq_true hp.2
  exact⟨aD4 j,by show (j:Int)<_;omega,h0⟩
 ·rintro⟨h1,h2,h3⟩
  refine m6.mpr ⟨z.toNat,C5.mpr ⟨A1.mpr (by omega),decide_eq_true h3⟩,?_⟩
  show ((z.toNat:Nat):Int)=z
  omega
def bM8 (ns:List Int)(M:Nat):Wl->Prop
 | .below p=>(∃ x,ns[p]?=some x/\x<0)/\∀ (j:Nat) (x:Int),j<p->ns[j]?=some x->0<=x
 | .odd=>AllP ns/\ns.sum % 2=1
 | .wall r=>AllP ns/\¬ ns.sum % 2=1/\1<=r/\r<=ns.length/\W9 ns M r<0/\∀ k,1<=k->k<r->0<=W9 ns M k
 | .free=>AllP ns/\¬ ns.sum % 2=1/\∀ k,1<=k->k<=ns.length->0<=W9 ns M k
theorem bC4 {x:Wl}(h:bM8 ns 1 x):ad6 ns x:=by
 cases x with
 | below p=>exact h
 | odd=>exact h
 | wall r=>exact⟨h.1,h.2.1,h.2.2.1,h.2.2.2.1,by rw[<- ai1];exact h.2.2.2.2.1,fun k k1 k2=>by rw[<- ai1];exact h.2.2.2.2.2 k k1 k2⟩
 | free=>exact⟨h.1,h.2.1,fun k k1 k2=>by rw[<- ai1];exact h.2.2 k k1 k2⟩
end Web
namespace Web
open PySem L2
theorem bw6 {K:W.Frag}{Q:VK}{es:List Int}{z:Int}(hun:A.units+64<aa1)(hl:SqL K H l (es.map V.int))(q:Q (.bl (decide (z∈es))) H):aZ8 K A false (.int z) (.ref l) H Q:=by
 refine⟨l,_,.int z,es.map .int,rfl,.inl hl,Dt.mkInt,D0.ints es,by simp[PyData.canLay0],lay_ints es,ar1 hun (by simp[PyData.depth]),?_⟩
 rw[ap0,if_neg g8]
 exact q
inductive Wz where
 | odd | below (z:Int) | wall (z:Int)
def wzT:Wz->List V
 | .odd=>[.str "odd"]
 | .below z=>[.str "below",.int z]
 | .wall z=>[.str "wall",.int z]
def shw (ns:List Int):Wz->Bool
 | .odd=>decide (ns.sum % 2=1)
 | .below z=>decide (0<=z/\z<ns.length/\ns.getD z.toNat 0<0)
 | .wall z=>decide (1<=z/\z<=ns.length/\ak1 ns z.toNat<0)
def bD7 (ns:List Int)(M:Nat):Wz->Bool
 | .odd=>decide (ns.sum % 2=1)
 | .below z=>decide (z∈bd2 ns)
 | .wall z=>decide (1<=z/\z<=ns.length/\W9 ns M z.toNat<0)
theorem br8 (ns:List Int)(x:Wz):bD7 ns 1 x=shw ns x:=by
 cases x with
 | odd=>rfl
 | below z =>
  show decide (z∈bd2 ns)=decide _
  by_cases h:z∈bd2 ns
  ·rw[decide_eq_true h,decide_eq_true ((bi4 ns z).mp h)]
  ·rw[decide_eq_false h,decide_eq_false fun q=>h ((bi4 ns z).mpr q)]
 | wall z =>
  show decide (1<=z/\z<=ns.length/\W9 ns 1 z.toNat<0)=decide (1<=z/\z<=ns.length/\ak1 ns z.toNat<0)
  simp only[ai1]
theorem bM6 (a b:Int):decide (V.int a=V.int b)=decide (a=b):=by
 by_cases h:a=b
 ·rw[h,decide_eq_true rfl,decide_eq_true rfl]
 ·rw[decide_eq_false h,decide_eq_false (fun z=>h (by injection z))]
theorem cd7:¬ (V.str "below"=V.str "odd"):=by decide +kernel
theorem cd5:¬ (V.str "wall"=V.str "odd"):=by decide +kernel
theorem cd6:¬ (V.str "wall"=V.str "below"):=by decide +kernel
theorem bi5 {x y:V}:atI ([x,y]:List V) 0=some x:=n9 (j:=0) rfl
theorem bz0 {x y:V}:atI ([x,y]:List V) 1=some y:=n9 (j:=1) rfl
theorem cf6 {x:V}:atI ([x]:List V) 0=some x:=n9 (j:=0) rfl
end Web
namespace L2
open PySem PySem.Spec PyProof.Rows
theorem aB5 {lo:Int}{D:Addr}{g:TG}{tt:TT}{σ0:St}{H0:Hp}(Pv:Nat->List V->St->Hp->Prop)(h0:Pv 0 [] σ0 H0)(hz:n<=c5)(hl:∀ i xs σ H,i<=n->Pv i xs σ H->H D=some (.lst xs)/\xs.length<=i)
  (hs:∀ i xs σ H (N:List V->St->Hp->Prop),(∀ xs' σ' H',Pv (i+1) xs' σ' H'->N xs' σ' H')->i<n->Pv i xs σ H->g (.int (lo+i)) σ H fun σ2 H2=>tt σ2 H2 fun b H3=>if b=true then te σ2 H3 fun v H4=>H4 D=some (.lst xs)/\N (xs++[v]) σ2 (upd H4 D (.lst (xs++[v]))) else N xs σ2 H3)
  (hd:∀ xs σ H,Pv n xs σ H->Qd H) :
  ∃ W:Nat->Nat->List V->St->Hp->Prop,(∃ m,W 0 m [] σ0 H0)/\∀ i m xs σ' H',W i m xs σ' H'->H' D=some (.lst xs)/\(((Itr lo n).stop i H'/\Qd H')\/((Itr lo n).go i H'/\xs.length<c5/\∀ x H'',(Itr lo n).yld i H' x H''->g x σ' H'' fun σ2 H2=>tt σ2 H2 fun b H3 =>
   if b=true then te σ2 H3 fun v H4=>H4 D=some (.lst xs)/\∃ m',m'<m/\W (i+1) m' (xs++[v]) σ2 (upd H4 D (.lst (xs++[v]))) else ∃ m',m'<m/\W (i+1) m' xs σ2 H3)):=by
 refine⟨fun i m xs σ H=>m=n - i/\i<=n/\Pv i xs σ H,⟨n,by simp,u7 _,h0⟩,?_⟩
 rintro i m xs σ H ⟨rfl,hi,p⟩
 obtain⟨hD,hx⟩:=hl i xs σ H hi p
 refine⟨hD,?_⟩
 by_cases hlt:i<n
 ·refine .inr ⟨hlt,by omega,fun x H'' y=>?_⟩
  obtain⟨e,y⟩:=y
  subst e y
  exact hs i xs σ _ (fun zs σ' H'=>∃ m',m'<n - i/\m'=n - (i+1)/\i+1<=n/\Pv (i+1) zs σ' H') (fun zs σ' H' r=>⟨_,by omega,rfl,hlt,r⟩) hlt p
 ·obtain rfl:i=n:=by omega
  exact .inl ⟨c6 _,hd xs σ H p⟩
end L2
namespace Web
open PySem L2
def top (i:Nat):Stmt:=PySem.Challenge.pw_tallyweb_k24_pair_papers_looked_at.main.body.getD i (.Pass ⟨0,0,0,0⟩)
abbrev ar3:Stmt:=top 9
abbrev aE9:Stmt:=top 10
abbrev sUp:Stmt:=top 11
abbrev an0:Stmt:=top 12
abbrev ag3:Stmt:=top 13
abbrev au2:Stmt:=top 14
abbrev Y3:Stmt:=top 15
abbrev aj4:Stmt:=top 17
abbrev aE7:Stmt:=top 18
abbrev aS1:Stmt:=top 19
abbrev ae0:Stmt:=top 21
abbrev U7:Stmt:=top 22
abbrev ac2:Stmt:=top 23
abbrev W8:Stmt:=top 24
abbrev ag2:Stmt:=top 25
abbrev am9:Stmt:=top 26
abbrev aL7:Stmt:=top 27
abbrev Y2:Stmt:=top 28
abbrev ac1:Stmt:=top 29
abbrev Z5:Stmt:=top 31
abbrev au4:Stmt:=top 32
abbrev an1:Stmt:=top 33
abbrev ag4:Stmt:=top 34
abbrev aL9:Stmt:=top 36
abbrev aL6:Stmt:=top 37
abbrev au0:Stmt:=top 38
abbrev at9:Stmt:=top 39
abbrev sPT:Stmt:=top 40
abbrev au3:Stmt:=top 41
abbrev aL5:Stmt:=top 42
abbrev au5:Stmt:=top 44
abbrev ac3:Stmt:=top 45
abbrev au6:Stmt:=top 46
abbrev au1:Stmt:=top 47
abbrev aS3:Stmt:=top 48
abbrev Y1:Stmt:=top 49
abbrev aL8:Stmt:=top 50
abbrev aS0:Stmt:=top 51
abbrev aS4:Stmt:=top 52
abbrev aE8:Stmt:=top 53
structure Bn (mg:Str->Option Value):Prop where
 len:mg "len"=none
 range:mg "range"=none
 enum:mg "enumerate"=none
 list:mg "list"=none
 tuple:mg "tuple"=none
 sorted:mg "sorted"=none
 set:mg "set"=none
 isin:mg "isinstance"=none
 int:mg "int"=none
 bool:mg "bool"=none
 min:mg "min"=none
 max:mg "max"=none
 sum:mg "sum"=none
 str:mg "str"=none
 ve:mg "ValueError"=none
theorem M8:1000<=c5:=by decide
theorem c9 {o:HO}(h:H l=none):o7 H (upd H l o):=fun b u e=>by
 rw[m9 (u0 e h)]
 exact e
section
variable {K:W.Frag} {base:Heap}
def br2:Sp:=fun vs H Q _=>∃ a b:Int,vs=[.int a,.int b]/\Q (.bl (decide (0<=b) && decide (b<a))) H
theorem cb7:v7 ["places","number"] ["places","number"] (d8 ar3):=.mk'
theorem bu7 (F:Fun K "is_place" "is_place" ar3 f fd):o4 P w K mg base CX0 1 f fd ["places","number"] br2:=by
 refine F.ok cb7 (fun cdv A outer s H vs Q E hr h=>?_)
 obtain⟨a,b,rfl,k⟩:=h
 refine⟨_,i5 (u9 (aT3 an8 az8 c8 (pv 1) (pv 0))),?_⟩
 refine⟨_,rfl,_,_,rfl,rfl,_,rfl,?_⟩
 cases e:decide ((0:Int)<=b) with
 | true =>
  refine E7 ⟨_,rfl,_,_,rfl,rfl,?_⟩
  rw[e,bp1]at k
  exact k
 | false =>
  refine E8 ?_
  rw[e,Bool.false_and]at k
  exact k
theorem ch4:v7 ["places","tie"] ["places","tie"] (d8 sUp):=.mk'
theorem cc0:v7 ["places","number"] ["places","number"] (d8 aE9):=.mk'
def br4 (K:W.Frag):Sp:=fun vs H Q _=>∃ (a:Addr) (ns:List Int) (k:Nat),vs=[.ref a,.int k]/\SqL K H a (ns.map V.int)/\∀ r:Int,Q (.int r) H
theorem bQ8:v7 ["script","k"] ["script","k"] (d8 au5):=.mk'
theorem bG9 (F:Fun K "_law_cell_at" "_law_cell_at" au5 f fd)(B:Bn mg):o4 P w K mg base CX0 1 f fd ["script","k"] (br4 K):=by
 refine F.ok bQ8 (fun cdv A outer s H vs Q E hr h=>?_)
 obtain⟨a,ns,k,rfl,hS,q⟩:=h
 refine⟨_,c7 (E3 (A0 az8 (pv 1) (m7 o6 (by rfl) B.len PySem.boot_len (a6 (pv 0) b7)) (A9 _)) (i5 (u9 (x9 F6 (pv 0) (pv 1) (fun _ _=>rfl)))) A4)
  (i5 (u9 c8)),?_⟩
 refine⟨_,rfl,_,rfl,a,_,rfl,.inl hS,_,_,rfl,rfl,_,rfl,?_⟩
 refine aA7 (fun h=>?_) (fun h=>?_)
 ·have hl:k<ns.length:=by
   have:=of_decide_eq_true h
   rw[a9]at this
   omega
  refine⟨_,rfl,_,rfl,a,_,_,_,rfl,rfl,hS,n9 (j:=k) (v:=.int ns[k]) (by simp[hl]),?_⟩
  exact q _
 ·exact q _
def O9 (ns:List Int):Prop:=1<=ns.length/\ns.length<=24
def Sq (K:W.Frag)(H:Hp)(a:Addr)(ns:List Int):Prop:=SqL K H a (ns.map V.int)\/SqT K H a (ns.map V.int)
theorem Sq.same (h:Sq K H a ns)(s:o7 H H'):Sq K H' a ns:=h.elim (fun h=>.inl (s.seq h)) fun h=>.inr (s.seqT h)
def aG1 (K:W.Frag)(CB:Addr):Sp:=fun vs H Q E=>∃ (a:Addr) (ns:List Int),vs=[.ref a]/\Sq K H a ns/\(O9 ns->Q .non H)/\(¬ O9 ns->E (.ref CB) none H)
theorem cc1:v7 ["tally"] ["tally"] (d8 aj4):=.mk'
theorem aA0 (F:Fun K "check_tally" "check_tally" aj4 f fd)(B:Bn mg)(mM:mg "MOST_PLACES"=some (.int 24 tk))(mB:mg "BadTally"=some (.ref CB))(cB:S8 K CB):o4 P w K mg base (CXE P w) 1 f fd ["tally"] (aG1 K CB):=by
 refine F.okX cc1 (fun cdv A outer s H vs Q E hr h=>?_)
 obtain⟨a,ns,rfl,hS,h1,h2⟩:=h
 refine⟨_,i5 (E3 (P3 (az4 an8 an8 c8 (m7 o6 (by rfl) B.len PySem.boot_len (a6 (pv 0) b7)) (bf6 (v:=.int 24) (by rfl) mM ⟨tk,rfl⟩))) (i5 (T7 (by rfl) mB cB)) A4),?_⟩
 refine⟨_,rfl,a,_,rfl,hS,_,_,rfl,rfl,_,rfl,?_⟩
 rw[a9]
 by_cases hp:(1:Int)<=(ns.length:Int)
 ·rw[decide_eq_true hp]
  refine E7 ⟨_,_,rfl,rfl,_,rfl,?_⟩
  by_cases hp':(ns.length:Int)<=24
  ·rw[decide_eq_true hp']
   exact E8 (h1 ⟨by omega,by omega⟩)
  ·rw[decide_eq_false hp']
   exact E7 (h2 fun z=>hp' (by have:=z.2;omega))
 ·rw[decide_eq_false hp]
  exact E8 ⟨_,rfl,E7 (h2 fun z=>hp (by have:=z.1;omega))⟩
end
section
variable {K:W.Frag} {base:Heap}
def br0 (K:W.Frag):Sp:=fun vs H Q _=>∃ (n:Nat) (a:Addr) (ys:List V) (hs:List (List Int)),vs=[.int n,.ref a]/\1<=n/\n<=24/\(SqL K H a ys\/SqT K H a ys)/\y7 K H ys hs/\(∀ k∈hs,ab2 n k)/\(hs.map up).Nodup/\hs.length<64 /\
 ∀ p t zs ks H',o7 H H'->H' p=some (.tup [.int n,.ref t])->H' t=some (.tup zs)->y7 K H' zs ks->ks.Perm (hs.map up)->ks.Pairwise (fun a b=>Tim.F2 b a=false)->Q (.ref p) H'
theorem bs1:v7 ["places","ties","ascending"] ["places","ties"] (d8 an0):=.mk'
end
def ce0 (st:Stmt):Pos:=match (t9 st).getD 1 (.Pass ⟨0,0,0,0⟩) with
 | .Return (some (.Call _ _ [⟨_,.Lambda _ _ _ p,_⟩] _)) _=>p
 | _=>⟨0,0,0,0⟩
def ci1:Str:=(("order_of":Str)++(".<locals>.":Str))++("<lambda>":Str)
abbrev Tb (P:Addr)(H:Hp):Prop:=ak5 P (ce0 aE7) ci1 H
theorem G5.sqL {K:W.Frag}{P:Addr}(g:G5 P H H')(t:Tb P H)(h:SqL K H a xs):SqL K H' a xs:=by
 obtain⟨ps,hP,_⟩:=t
 rcases h with(h | ⟨o,h⟩) | h
 ·exact .inl (.inl (g a _ (fun z=>by rw[z,hP]at h;cases h) h))
 ·exact .inl (.inr ⟨o,g a _ (fun z=>by rw[z,hP]at h;cases h) h⟩)
 ·exact .inr h
theorem G5.sqT {K:W.Frag}{P:Addr}(g:G5 P H H')(t:Tb P H)(h:SqT K H a xs):SqT K H' a xs:=by
 obtain⟨ps,hP,_⟩:=t
 rcases h with(h | ⟨o,h⟩) | h
 ·exact .inl (.inl (g a _ (fun z=>by rw[z,hP]at h;cases h) h))
 ·exact .inl (.inr ⟨o,g a _ (fun z=>by rw[z,hP]at h;cases h) h⟩)
 ·exact .inr h
theorem Sq.grow {K:W.Frag}{P:Addr}(h:Sq K H a ns)(g:G5 P H H')(t:Tb P H):Sq K H' a ns:=h.elim (fun h=>.inl (G5.sqL g t h)) fun h=>.inr (G5.sqT g t h)
theorem aI9.one (h:X.N[j]?=some x/\(X.env.scope.names.lookup x=some .cell\/X.env.scope.names.lookup x=some .free)/\(cl.lookup x).isSome=true/\(scope.names.lookup x=some .cell\/scope.names.lookup x=some .free)) :
  aI9 X [x] [some j] scope cl:=⟨rfl,fun i j' y e1 e2=>by
 cases i with
 | zero =>
  have e1':x=y:=by simpa using e1
  have e2':j=j':=by simpa using e2
  subst e1' e2'
  exact h
 | succ i=>simp at e1⟩
theorem ba4 {a b:Expr}{tb:TE}(K:W.Frag)(hK:X.K=K)(ha:PE X a ta)(hb:PE X b tb)(hs:aP4 b):PE X (.Subscript a b pos) (tOp (rIx K) ta tb):=by
 cases hK
 exact x9 bw3 ha hb hs
section
variable {K:W.Frag} {base:Heap}
def bL0 (K:W.Frag)(CB PT:Addr):Sp:=fun vs H Q E=>∃ (a:Addr) (ns:List Int),vs=[.ref a]/\Sq K H a ns /\
 (O9 ns->Tb PT H/\∀ (zs:List Int) (D:Addr) (H':Hp),G5 PT H H'->Tb PT H'->H' D=some (.lst (zs.map V.int))->zs.Perm (rng ns.length)->zs.Pairwise (ole ns)->Q (.ref D) H')/\(¬ O9 ns->E (.ref CB) none H)
theorem cb5:v7 ["tally"] ["tally"] (d8 aE7):=.mk'
theorem bT2 {c PT:Addr} (F:Fun K "order_of" "order_of" aE7 f fd) (hc:fd.code=.ref c) (LB:aC6 base mg c PT) (B:Bn mg) (FT:Fun K "check_tally" "check_tally" aj4 fT fdT) (bT:Binds K fdT ["tally"] []) (mT:mg "check_tally"=some (.ref fT))
  (mM:mg "MOST_PLACES"=some (.int 24 tk)) (mB:mg "BadTally"=some (.ref CB)) (cB:S8 K CB):o4 P w K mg base (CXE P w) 2 f fd ["tally"] (bL0 K CB PT):=by
 have GT:o4 P w K mg base (CXE P w) 1 fT fdT ["tally"] (aG1 K CB):=aA0 FT B mM mB cB
 refine F.okXC hc cb5 (fun A outer s H vs Q E hr h=>?_)
 obtain⟨a,ns,rfl,hS,h1,h2⟩:=h
 have hsl:=M8
 refine⟨_,c7 (D6 (j8 GT hr (by rfl) mT FT.kp bT .nil Y5 (a6 (pv 0) b7)))
  (i5 (u9 (bl3 (p := "place") (N' := ["tally"]) (lk := [some 0]) rfl hr.depth (by rfl) B.sorted (a6 (bF0 (by rfl) B.range (a6 (m7 o6 (by rfl) B.len PySem.boot_len (a6 (pv 0) b7)) b7)) b7)
   LB rfl (by rfl) (by rfl) rfl rfl rfl (by exact⟨rfl,trivial⟩) (by rfl) (by exact aI9.one ⟨rfl,Or.inl rfl,rfl,Or.inr rfl⟩) rfl (fun _ _ _ _=>rfl)
   (fun _ _ _ _=>v9 (a6 (ak2 Z4 (ba4 K rfl (pv 1) (pv 0) (fun _ _=>rfl))) (a6 (pv 0) b7)))))),?_⟩
 refine⟨_,rfl,a,ns,rfl,hS,fun ht=>?_,h2⟩
 obtain⟨tb,q⟩:=h1 ht
 refine⟨_,rfl,a,_,rfl,hS,(ns.map V.int).length,rfl,by rw[a9];have:=ht.2;omega,fun r hr0=>?_⟩
 have s0:=c9 (o:=.rng 0 ((ns.map V.int).length:Int)) hr0
 have tb1:Tb PT (upd H r (.rng 0 ((ns.map V.int).length:Int))):=tb.same s0
 refine⟨r,(ns.map V.int).length,bl7 ns,rfl,b8,by rw[a9];have:=ht.2;omega,bF9 ns,tb1,fun H2 g2 tb2=>⟨fun H3 z sm hz=>?_,fun H' D zs sm hD hp hs=>?_⟩⟩
 ·have hS3:Sq K H3 a ns:=((hS.same s0).grow g2 tb1).same sm
  rw[a9]at hz
  have hat:atI (ns.map V.int) (z:Int)=some (.int (ns.getD z 0)):=n9 (j:=z) (by simp[hz])
  have fin:∀ k,H3 k=none->(∃ k',(V.ref k:V)=.ref k'/\(upd H3 k (.tup [.int (-(ns.getD z 0)),.int z])) k'=some (.tup ((bl7 ns z).map V.int))/\o7 H3 (upd H3 k (.tup [.int (-(ns.getD z 0)),.int z]))):=fun k hk=>⟨k,rfl,b8,c9 hk⟩
  rcases hS3 with h3 | h3
  ·exact⟨_,rfl,_,rfl,.inl ⟨a,_,_,_,rfl,rfl,h3,hat,_,rfl,_,rfl,(by show 2<=c5;decide),fin⟩⟩
  ·exact⟨_,rfl,_,rfl,.inr (.inl ⟨a,_,_,_,rfl,rfl,h3,hat,_,rfl,_,rfl,(by show 2<=c5;decide),fin⟩)⟩
 ·have sD:=c9 (o:=.lst (zs.map V.int)) hD
  rw[a9]at hp
  exact q zs D _ (((s0.grow PT).trans g2).trans ((sm.trans sD).grow PT)) (tb2.same (sm.trans sD)) b8 hp hs
end
theorem ak4 (ns:List Int)(k:Nat):aa9 (ns.map V.int) (some (k:Int)) none=(ns.drop k).map V.int:=by rw[bo0,bp2]
theorem au8 (ns:List Int)(k:Nat):aa9 (ns.map V.int) none (some (k:Int))=(ns.take k).map V.int:=by rw[bJ0,bp3]
theorem aj1 {x:V}(h:(ns.map V.int)[i]?=some x):∃ z:Int,ns[i]?=some z/\x=V.int z:=by
 rw[r6]at h
 cases e:ns[i]? with
 | none=>rw[e]at h;cases h
 | some z=>rw[e]at h;cases h;exact⟨z,rfl,rfl⟩
theorem aC2 (h:j<ns.length):atI (ns.map V.int) (j:Int)=some (.int (ns.getD j 0)):=n9 (j:=j) (by simp[h])
theorem aH2 {K:W.Frag}{Q:VK}(h:Sq K H a ns)(hj:j<ns.length)(q:Q (.int (ns.getD j 0)) H):rIx K (.ref a) (.int j) H Q:=
 h.elim (fun h=>.inl ⟨a,_,_,_,rfl,rfl,h,aC2 hj,q⟩) fun h=>.inr (.inl ⟨a,_,_,_,rfl,rfl,h,aC2 hj,q⟩)
theorem R7:as9 (CXE P w) X E0:=fun _ _ _ _ _ _ _ h=>by
 obtain⟨_,_,_,_,_,_,_,_,_,_,_,hE⟩:=h
 exact hE.elim
theorem bg1 (z:Int):(PyData.int z).canLay0=true:=by simp[PyData.canLay0]
theorem bh7 (z:Int):(PyData.int z).depth<=8:=by simp[PyData.depth]
theorem bI5 {K:W.Frag}{Q:VK}{es:List Int}{z:Int}(hun:A.units+64<aa1)(hl:SqL K H l (es.map V.int))(q:Q (.bl (decide (z∈es))) H):aZ8 K A false (.int z) (.ref l) H Q:=by
 refine⟨l,_,.int z,es.map .int,rfl,.inl hl,Dt.mkInt,D0.ints es,bg1 z,lay_ints es,ar1 hun (n8 (bh7 z) (by decide)),?_⟩
 rw[ap0,if_neg g8]
 exact q
theorem bb2 {K:W.Frag}{Q:VK}{es:List Int}{z:Int}(hun:A.units+64<aa1)(hl:SqL K H l (es.map V.int))(q:Q (.bl (!decide (z∈es))) H):aZ8 K A true (.int z) (.ref l) H Q:=by
 refine⟨l,_,.int z,es.map .int,rfl,.inl hl,Dt.mkInt,D0.ints es,bg1 z,lay_ints es,ar1 hun (n8 (bh7 z) (by decide)),?_⟩
 rw[ap0,if_pos rfl]
 exact q
def U8 (ps zs:List Int):List Int:=zs.filter fun x=>!decide (x∈ps)
theorem bl5 (p:Int)(zs:List Int):U8 [p] zs=rest zs p:=by
 unfold U8 rest
 congr 1
 funext x
 by_cases h:x=p<;>simp[h]
theorem bn5 {PT:Addr}(g:G5 PT H H')(t:Tb PT H')(h:H' l=none):H l=none:=by
 cases e:H l with
 | none=>rfl
 | some o =>
  by_cases z:l=PT
  ·obtain⟨ps,hP,_⟩:=t
   rw[z,hP]at h
   cases h
  ·rw[g l o z e]at h
   cases h
section
variable {K:W.Frag} {base:Heap}
def ac0 (K:W.Frag)(PT:Addr):Sp:=fun vs H Q _=>∃ (a pa:Addr) (ns ps:List Int) (k:Nat),vs=[.ref a,.int k,.ref pa]/\Sq K H a ns/\O9 ns/\SqL K H pa (ps.map V.int)/\Tb PT H /\
 ∀ (zs:List Int) (D:Addr) (H':Hp),G5 PT H H'->Tb PT H'->H D=none->zs.Perm (rng ns.length)->zs.Pairwise (ole ns)->H' D=some (.lst (((U8 ps zs).take k).map V.int))->Q (.ref D) H'
theorem bE1:v7 ["tally","many","passed_over"] ["tally","many","passed_over"] (d8 Z5):=.mk'
theorem aT7 {fO c PT:Addr} {fdO:FuncData} (F:Fun K "first_of_order" "first_of_order" Z5 f fd) (B:Bn mg) (FO:Fun K "order_of" "order_of" aE7 fO fdO) (bO:Binds K fdO ["tally"] []) (mO:mg "order_of"=some (.ref fO)) (hc:fdO.code=.ref c) (LB:aC6 base mg c PT)
  (FT:Fun K "check_tally" "check_tally" aj4 fT fdT) (bT:Binds K fdT ["tally"] []) (mT:mg "check_tally"=some (.ref fT)) (mM:mg "MOST_PLACES"=some (.int 24 tk)) (mB:mg "BadTally"=some (.ref CB)) (cB:S8 K CB):o4 P w K mg base (CXE P w) 3 f fd ["tally","many","passed_over"] (ac0 K PT):=by
 have GO:o4 P w K mg base (CXE P w) 2 fO fdO ["tally"] (bL0 K CB PT):=bT2 FO hc LB B FT bT mT mM mB cB
 refine F.okX bE1 (fun cdv A outer s H vs Q E hr h=>?_)
 obtain⟨a,pa,ns,ps,k,rfl,hS,ht,hpa,tb,q⟩:=h
 have hsl:=M8
 have hun:=hr.units
 have t2:=ht.2
 have nd2:(["place","passed_over"]:List Str).Nodup:=by decide +kernel
 refine⟨_,i5 (u9 (T8 am6 (ai7 (N':=["place","passed_over"]) (lk:=[none,some 2]) rfl (T4 (j8 GO hr (by rfl) mO FO.kp bO .nil (R7 (P:=P) (w:=w)) (a6 (pv 0) b7))) (by rfl) rfl (by decide +kernel) (by exact⟨rfl,trivial⟩) (by rfl) (by exact LkL.ok ⟨⟨rfl,Or.inl rfl,rfl,Or.inl rfl⟩,trivial⟩)
  (fun _ _ _=>B1 (i:=0) nd2 rfl (Or.inl rfl)) (fun _ _ _=>ax3 (A0 (ba7 K hr.around rfl rfl) (pv 0) (pv 1) (by rfl))) (fun _ _ _=>pv 0)) ac7 (V1 (pv 1)))),?_⟩
 refine⟨_,rfl,a,ns,rfl,hS,fun _=>⟨tb,fun zs D1 H1 g1 tb1 gD hp hs=>⟨D1,rfl,⟨_,SqL.of gD⟩,fun D hD=>?_⟩⟩,fun h=>absurd ht h⟩
 have hzl:zs.length=ns.length:=by rw[hp.length_eq,Y4]
 have hpa1:=G5.sqL g1 tb hpa
 refine W3 (K:=K) (a:=D1) (D:=D) (ys:=zs.map V.int) (fun i xs σ' H'=>(∃ v,σ'=[v,some (.ref pa)])/\o7 H1 H'/\H' D=some (.lst xs)/\xs=(U8 ps (zs.take i)).map V.int) ⟨⟨none,rfl⟩,c9 hD,b8,rfl⟩ (by rw[a9];omega)
  (fun i xs σ' H' hi ⟨_, s6, h6, e6⟩ => ⟨SqL.of (s6 _ _ gD), h6, by
   rw[e6,a9]
   have:=L0 (fun x=>!decide (x∈ps)) (zs.take i)
   rw[t7]at this
   unfold U8
   omega⟩) ?_ ?_
 ·rintro i xs x σ' H' N kN hx ⟨⟨v,rfl⟩,s6,h6,rfl⟩
  obtain⟨z,hz,rfl⟩:=aj1 hx
  refine y6 ?_
  refine⟨_,rfl,_,rfl,bb2 hun (s6.seq hpa1) ⟨_,rfl,?_⟩⟩
  have et:U8 ps (zs.take (i+1))=U8 ps (zs.take i)++U8 ps [z]:=by
   unfold U8
   rw[C6,hz,bB1,P1]
  by_cases hm:z∈ps
  ·rw[decide_eq_true hm]
   refine E8 ?_
   refine kN _ _ _ ⟨⟨_,rfl⟩,s6,h6,?_⟩
   have e0:U8 ps [z]=[]:=by unfold U8;rw[aj9 (by rw[decide_eq_true hm];decide)];rfl
   rw[et,e0,G2]
  ·rw[decide_eq_false hm]
   refine E7 ?_
   refine⟨_,rfl,h6,kN _ _ _ ⟨⟨_,rfl⟩,s6.upd hD,b8,?_⟩⟩
   have e0:U8 ps [z]=[z]:=by unfold U8;rw[aj8 (by rw[decide_eq_false hm];decide)];rfl
   rw[et,e0,r9]
   rfl
 ·rintro xs σ' H3 ⟨⟨v,rfl⟩,s6,h6,rfl⟩
  rw[l6 (by rw[a9];exact c6 _)]at h6
  refine⟨_,rfl,_,rfl,D,_,rfl,SqL.of h6,fun l hl=>?_⟩
  rw[au8]
  have s7:=s6.trans (c9 (o:=.lst (((U8 ps zs).take k).map V.int)) hl)
  exact q zs l _ (g1.trans (s7.grow PT)) (tb1.same s7) (bn5 (g1.trans (s6.grow PT)) (tb1.same s6) hl) hp hs b8
def br1 (K:W.Frag):Sp:=fun vs H Q _=>∃ (a ea:Addr) (ns es:List Int) (p:Nat),vs=[.ref a,.int p,.ref ea]/\Sq K H a ns/\ns.length<=24/\SqL K H ea (es.map V.int) /\
 ∀ (l:Addr) (H':Hp),o7 H H'->H l=none->H' l=some (.lst ((P4 ns p es).map V.int))->Q (.ref l) H'
theorem bs2:v7 ["tally","place","ends","others"] ["tally","place","ends"] (d8 au4):=.mk'
theorem bw2 {p:Nat}{z:Int}(h:z∈K9 n p):∃ j:Nat,z=(j:Int)/\j<n:=by
 obtain⟨j,hj,rfl⟩:=m6.mp h
 exact⟨j,rfl,A1.mp (C5.mp hj).1⟩
theorem bn0 (ns es:List Int)(p:Nat):(K9 ns.length p).map (fun z=>X1 ns es z.toNat)=P4 ns p es:=by
 unfold K9 P4
 rw[S0]
 refine R5 fun j _=>?_
 show X1 ns es (j:Int).toNat=_
 rw[i3]
set_option maxHeartbeats 1000000 in
theorem bG5 (F:Fun K "left_of_others" "left_of_others" au4 f fd) (B:Bn mg):o4 P w K mg base CX0 1 f fd ["tally","place","ends"] (br1 K):=by
 refine F.ok bs2 (fun cdv A outer s H vs Q E hr h=>?_)
 obtain⟨a,ea,ns,es,p,rfl,hS,hn,hea,q⟩:=h
 have hsl:=M8
 have hun:=hr.units
 have nd2:(["one","place"]:List Str).Nodup:=by decide +kernel
 have nd3:(["one","tally","ends"]:List Str).Nodup:=by decide +kernel
 refine⟨_,c7 (aM2 (i:=3) bs2.nd rfl rfl (by rfl) (N':=["one","place"]) (lk:=[none,some 1]) rfl (ai5 rfl B.range (a6 (m7 o6 (by rfl) B.len PySem.boot_len (a6 (pv 0) b7)) b7)) (by rfl) rfl (by decide +kernel) (by exact⟨rfl,trivial⟩) (by rfl) (by exact LkL.ok ⟨⟨rfl,Or.inl rfl,rfl,Or.inl rfl⟩,trivial⟩)
    (fun _ _ _=>B1 (i:=0) nd2 rfl (Or.inl rfl)) (fun _ _ _=>ax3 (A0 an7 (pv 0) (pv 1) (A9 _))) (fun _ _ _=>pv 0))
  (i5 (u9 (ai7 (N':=["one","tally","ends"]) (lk:=[none,some 0,some 2]) rfl (T4 (pv 3)) (by rfl) rfl (by decide +kernel) (by exact⟨rfl,rfl,trivial⟩) (by rfl) (by exact LkL.ok ⟨⟨rfl,Or.inl rfl,rfl,Or.inl rfl⟩,⟨rfl,Or.inl rfl,rfl,Or.inl rfl⟩,trivial⟩)
    (fun _ _ _=>B1 (i:=0) nd3 rfl (Or.inl rfl)) (fun _ _ _=>ai2) (fun _ _ _=>aT2 (A0 (bF7 K hr.around rfl rfl) (pv 0) (pv 2) (by rfl)) (v8 az7 (ai6 K rfl (pv 1) (pv 0) (fun _ _=>rfl)) c8) (ai6 K rfl (pv 1) (pv 0) (fun _ _=>rfl)))))),?_⟩
 refine⟨_,rfl,a,_,rfl,hS,(ns.length:Int),congrArg (fun z:Nat=>[V.int (z:Int)]) (a9 ..),by omega,by omega,fun D hD=>?_⟩
 rw[i3]
 refine aB5 (lo:=0) (n:=ns.length) (D:=D) (fun i xs σ' H'=>(∃ v,σ'=[v,some (.int p)])/\o7 H H'/\H' D=some (.lst xs)/\xs=(K9 i p).map V.int) ⟨⟨none,rfl⟩,c9 hD,b8,rfl⟩ (by omega)
  (fun i xs σ' H' hi ⟨_, s6, h6, e6⟩ => ⟨h6, by
   rw[e6,a9]
   unfold K9
   rw[a9]
   have:=L0 (fun j=>decide (j≠p)) (x6 i)
   rw[F9]at this
   exact this⟩) ?_ ?_
 ·rintro i xs σ' H' N kN hi ⟨⟨v,rfl⟩,s6,h6,rfl⟩
  have e0:((0:Int)+(i:Int))=(i:Int):=by omega
  rw[e0]
  refine y6 ?_
  refine⟨_,rfl,_,rfl,rfl,_,rfl,?_⟩
  have et:K9 (i+1) p=K9 i p++(if i=p then [] else [(i:Int)]):=by
   unfold K9
   rw[K1,P1,r9]
   congr 1
   by_cases h:i=p<;>simp[h]
  by_cases hm:i=p
  ·refine ao4 (by rw[hm]) ?_
   refine kN _ _ _ ⟨⟨_,rfl⟩,s6,h6,?_⟩
   rw[et,if_pos hm,G2]
  ·rw[decide_eq_false (show ¬ (V.int (i:Int)=V.int (p:Int)) from fun z=>hm (by injection z;omega))]
   refine E7 ?_
   refine⟨_,rfl,h6,kN _ _ _ ⟨⟨_,rfl⟩,s6.upd hD,b8,?_⟩⟩
   rw[et,if_neg hm,r9]
   rfl
 ·rintro xs σ' H3 ⟨⟨v,rfl⟩,s6,h6,rfl⟩
  have hkl:(K9 ns.length p).length<=24:=by
   unfold K9
   rw[a9]
   have:=L0 (fun j=>decide (j≠p)) (x6 ns.length)
   rw[F9]at this
   omega
  refine⟨_,rfl,D,rfl,⟨_,SqL.of h6⟩,fun D2 hD2=>?_⟩
  have hS3:=hS.same s6
  have hea3:=s6.seq hea
  refine W3 (K:=K) (a:=D) (D:=D2) (ys:=(K9 ns.length p).map V.int) (fun i xs σ' H'=>(∃ v,σ'=[v,some (.ref a),some (.ref ea)])/\o7 H3 H'/\H' D2=some (.lst xs)/\xs=(((K9 ns.length p).take i).map fun z=>X1 ns es z.toNat).map V.int) ⟨⟨none,rfl⟩,c9 hD2,b8,rfl⟩ (by rw[a9];omega)
   (fun i xs σ' H' hi ⟨_,s8,h8,e8⟩=>⟨SqL.of (s8 _ _ h6),h8,by rw[e8,a9,a9,t7];omega⟩) ?_ ?_
  ·rintro i xs x σ' H' N kN hx ⟨⟨v,rfl⟩,s8,h8,rfl⟩
   obtain⟨z,hz,rfl⟩:=aj1 hx
   obtain⟨j,rfl,hj⟩:=bw2 (d5 hz)
   refine y6 (af5 ?_)
   have fin:∀ y:Int,y=X1 ns es j->(H' D2=some (.lst ((((K9 ns.length p).take i).map fun z=>X1 ns es z.toNat).map V.int))/\N ((((K9 ns.length p).take i).map fun z=>X1 ns es z.toNat).map V.int++[.int y]) [some (.int j),some (.ref a),some (.ref ea)] (upd H' D2 (.lst ((((K9 ns.length p).take i).map fun z=>X1 ns es z.toNat).map V.int++[.int y])))):=fun y ey=>by
    refine⟨h8,kN _ _ _ ⟨⟨_,rfl⟩,s8.upd hD2,b8,?_⟩⟩
    rw[C6,hz,r9,r9,ey]
    rfl
   refine⟨_,rfl,_,rfl,bI5 hun (s8.seq hea3) ⟨_,rfl,?_⟩⟩
   by_cases hm:(j:Int)∈es
   ·rw[decide_eq_true hm]
    refine E7 ⟨_,rfl,_,rfl,aH2 (hS3.same s8) hj ⟨_,_,rfl,rfl,fin _ ?_⟩⟩
    unfold X1
    rw[if_pos hm]
   ·rw[decide_eq_false hm]
    refine E8 ⟨_,rfl,_,rfl,aH2 (hS3.same s8) hj (fin _ ?_)⟩
    unfold X1
    rw[if_neg hm]
  ·rintro xs σ' H4 ⟨⟨v,rfl⟩,s8,h8,rfl⟩
   rw[l6 (by rw[a9];exact c6 _),bn0]at h8
   exact q D2 H4 (s6.trans s8) (s6.free hD2) h8
end
theorem p40:(0:Int)<10 ^ (Int.toNat 40):=Int.pow_pos (by decide)
theorem af9 (ns:List Int)(j:Nat)(v:Int):(ns.map V.int).set j (.int v)=(ns.set j v).map V.int:=by rw[X5]
theorem bx4 {k:Int}(h0:0<=k)(h1:k<1000):-(2 ^ 63)<=k/\k<2 ^ 63:=by
 constructor<;>omega
theorem bL8 (n:Nat)(z:Int):(o8 n [V.int z]).flatten=(o8 n z).map V.int:=by
 induction n with
 | zero=>rfl
 | succ n ih=>rw[J9,V6,ih,J9];rfl
section
variable {K:W.Frag} {base:Heap}
def aZ3 (K:W.Frag):Sp:=fun vs H Q _=>∃ (a:Addr) (ns:List Int),vs=[.ref a]/\Sq K H a ns/\ns.length<64/\∀ (l:Addr) (H':Hp),o7 H H'->H l=none->H' l=some (.lst ((up2 ns).reverse.map V.int))->Q (.ref l) H'
theorem bQ7:v7 ["tally"] ["tally"] (d8 ae0):=.mk'
theorem bg0 (F:Fun K "falling" "falling" ae0 f fd)(B:Bn mg):o4 P w K mg base CX0 1 f fd ["tally"] (aZ3 K):=by
 refine F.ok bQ7 (fun cdv A outer s H vs Q E hr h=>?_)
 obtain⟨a,ns,rfl,hS,h64,q⟩:=h
 refine⟨_,i5 (u9 (bt5 K rfl (by rfl) B.sorted (a6 (pv 0) b7))),?_⟩
 refine⟨_,rfl,a,ns,rfl,hS,h64,fun l zs hl hp hs=>?_⟩
 rw[bh3 hp hs]
 exact q l _ (c9 hl) hl b8
def aL1 (K:W.Frag):Sp:=fun vs H Q _=>∃ (a:Addr) (ns:List Int) (M r:Nat),vs=[.ref a,.int M,.int r]/\SqL K H a ((up2 ns).reverse.map V.int)/\M<=1000000/\r<=100/\ns.length<64/\∀ (H':Hp),o7 H H'->Q (.int (W9 ns M r)) H'
theorem bf0:v7 ["numbers","most","r","from_others"] ["numbers","most","r"] (d8 U7):=.mk'
theorem aT9 (F:Fun K "room_among" "room_among" U7 f fd) (B:Bn mg):o4 P w K mg base CX0 1 f fd ["numbers","most","r"] (aL1 K):=by
 refine F.ok bf0 (fun cdv A outer s H vs Q E hr h=>?_)
 obtain⟨a,ns,M,r,rfl,hS,hM,hr1,h64,q⟩:=h
 have hsl:=M8
 have nd2:(["number","most","r"]:List Str).Nodup:=by decide +kernel
 have hlen:(up2 ns).reverse.length=ns.length:=by rw[R6,aw6]
 generalize hz:(up2 ns).reverse=zs at hS hlen
 refine⟨_,c7 (A3 (i:=3) bf0.nd rfl (Or.inl rfl) (m7 (aB9 rfl) (by rfl) B.sum (by rfl) (a6
   (ai7 (N' := ["number", "most", "r"]) (lk := [none, some 1, some 2]) rfl (T4 (T8 am6 (pv 0) (V1 (pv 2)) ac7)) (by rfl) rfl (by decide +kernel) (by exact ⟨rfl, rfl, trivial⟩) (by rfl) (by exact LkL.ok ⟨⟨rfl, Or.inl rfl, rfl, Or.inl rfl⟩, ⟨rfl, Or.inl rfl, rfl, Or.inl rfl⟩, trivial⟩)
    (fun _ _ _=>B1 (i:=0) nd2 rfl (Or.inl rfl)) (fun _ _ _=>ai2) (fun _ _ _=>m7 (aj2 rfl) (by rfl) B.min (by rfl) (a6 (pv 0) (a6 (v8 ba9 (pv 1) (pv 2)) b7)))) b7)))
  (i5 (u9 (v8 az7 (v8 N6 (v8 ba9 (v8 ba9 (pv 1) (pv 2)) (v8 az7 (pv 2) c8)) (pv 3)) (m7 (aB9 rfl) (by rfl) B.sum (by rfl) (a6 (T8 am6 (pv 0) ac7 (V1 (pv 2))) b7))))),?_⟩
 refine⟨_,rfl,_,rfl,_,rfl,a,_,rfl,hS,fun c hc=>?_⟩
 rw[ak4]
 have s1:=c9 (o:=.lst ((zs.drop r).map V.int)) hc
 refine⟨c,rfl,⟨_,SqL.of b8⟩,fun D hD=>W3 (K:=K) (a:=c) (D:=D) (ys:=(zs.drop r).map V.int) (fun i xs σ' H'=>∃ v,σ'=[v,some (.int M),some (.int r)]/\o7 H H'/\H' c=some (.lst ((zs.drop r).map V.int))/\xs=(((zs.drop r).take i).map (mn ((M:Int)*(r:Int)))).map V.int/\H' D=some (.lst xs))
   ⟨none,rfl,s1.trans (c9 hD),c9 hD _ _ b8,by simp,b8⟩ (by rw[a9,G6];omega) (fun i xs σ' H' hi ⟨_,_,s3,g3,e3,h3⟩=>⟨SqL.of g3,h3,by rw[e3,a9,a9,t7,G6];omega⟩) ?_ ?_⟩
 ·rintro i xs x σ' H' N kN hx ⟨v,rfl,s3,g3,rfl,h3⟩
  obtain⟨z,hz',rfl⟩:=aj1 hx
  refine y6 (af5 ?_)
  refine⟨_,rfl,_,rfl,_,rfl,_,_,rfl,rfl,.inl ⟨by omega,by omega⟩,_,_,rfl,?_⟩
  refine⟨h3,kN _ _ _ ⟨_,rfl,s3.upd (s1.free hD),?_,?_,b8⟩⟩
  ·rw[m9 (u0 b8 hD)];exact g3
  ·rw[C6,hz',r9,r9];rfl
 ·rintro xs σ' H3 ⟨v,rfl,s3,g3,rfl,h3⟩
  rw[l6 (by rw[a9];exact c6 _)]at h3
  refine⟨D,_,rfl,SqL.of h3,?_⟩
  refine⟨_,rfl,_,rfl,_,_,rfl,rfl,.inl ⟨by omega,by omega⟩,_,rfl,_,_,rfl,rfl,_,_,rfl,rfl,.inr ⟨by omega,by omega⟩,_,rfl,_,_,rfl,rfl,?_⟩
  refine⟨_,rfl,_,rfl,_,rfl,a,_,rfl,s3.seq hS,fun c2 hc2=>?_⟩
  rw[au8]
  refine⟨c2,_,rfl,SqL.of b8,_,_,rfl,rfl,?_⟩
  have fin:=q _ (s3.trans (c9 (o:=.lst ((zs.take r).map V.int)) hc2))
  rw[<- aS6 (M:=M) (r:=r) hz.symm]at fin
  exact fin
end
def wlT:Wl->List V
 | .below p=>[.str "below",.int p]
 | .odd=>[.str "odd"]
 | .wall r=>[.str "wall",.int r]
 | .free=>[]
def cf7 (H:Hp)(v:V)(x:Wl):Prop:=(x=.free/\v=.non)\/(x≠.free/\∃ a,v=.ref a/\H a=some (.tup (wlT x)))
theorem bI3 {a b:Int}(h:decide (V.int a=V.int b)=true):a=b:=by
 have:=of_decide_eq_true h
 injection this
theorem bw4 {a b:Int}(h:¬ decide (V.int a=V.int b)=true):¬ a=b:=fun e=>h (by rw[e];exact decide_eq_true rfl)
section
variable {K:W.Frag} {base:Heap}
def aL0 (K:W.Frag):Sp:=fun vs H Q _=>∃ (a:Addr) (ns:List Int),vs=[.ref a]/\Sq K H a ns/\ns.length<=100/\∀ (l:Addr) (H':Hp),o7 H H'->H l=none->H' l=some (.lst ((bd2 ns).map V.int))->Q (.ref l) H'
theorem bE2:v7 ["numbers"] ["numbers"] (d8 W8):=.mk'
theorem aT8 (F:Fun K "places_below" "places_below" W8 f fd)(B:Bn mg):o4 P w K mg base CX0 1 f fd ["numbers"] (aL0 K):=by
 refine F.ok bE2 (fun cdv A outer s H vs Q E hr h=>?_)
 obtain⟨a,ns,rfl,hS,hn,q⟩:=h
 have hsl:=M8
 have nd2:(["place","number"]:List Str).Nodup:=by decide +kernel
 refine⟨_,i5 (u9 (ai7 (N':=["place","number"]) (lk:=[none,none]) rfl (bM1 (aM5 (by rfl) B.enum (a6 (pv 0) b7)) (bt4 (by rfl) B.enum (a6 (pv 0) b7))) (by rfl) rfl (by decide +kernel) (by exact trivial) (by rfl) (by exact LkL.ok trivial)
    (fun _ _ _=>bE9 (n:=2) K rfl rfl (J7 (B1 (i:=0) nd2 rfl (Or.inl rfl)) (J7 (B1 (i:=1) nd2 rfl (Or.inl rfl)) ac8))) (fun _ _ _=>ax3 (A0 az8 (pv 1) c8 (A9 _))) (fun _ _ _=>pv 0))),?_⟩
 refine Or.imp (fun h=>⟨_,rfl,h⟩) (fun h=>⟨_,rfl,h⟩) (bd0 (K:=K) (a:=a) (ys:=ns.map V.int) hS (by rw[a9];omega)
  (fun D i xs σ' H'=>(∃ v u,σ'=[v,u])/\o7 H H'/\H' D=some (.lst xs)/\xs=((as6 ns i).map Int.ofNat).map V.int) (fun D hD=>⟨⟨none,none,rfl⟩,c9 hD,b8,rfl⟩)
  (fun D i xs σ' H' hD hi ⟨_,s1,h1,e1⟩=>⟨s1,h1,by rw[e1,a9,a9];exact by9 ns i⟩) ?_ ?_)
 ·rintro D i xs x t σ' H' N hD kN hx ⟨⟨v,u,rfl⟩,s1,h1,rfl⟩ ht
  obtain⟨z,hz,rfl⟩:=aj1 hx
  have s2:=c9 (o:=.tup [.int i,.int z]) ht
  refine⟨t,_,rfl,SqT.of b8,rfl,_,_,rfl,_,_,rfl,rfl,?_⟩
  refine⟨_,rfl,_,_,rfl,rfl,_,rfl,?_⟩
  have e3:=bo6 ns i
  rw[ap5 hz]at e3
  by_cases hb:z<0
  ·rw[decide_eq_true hb]
   refine E7 ⟨_,rfl,s2 _ _ h1,kN _ _ _ ⟨⟨_,_,rfl⟩,(s1.trans s2).upd hD,b8,?_⟩⟩
   rw[e3,if_pos hb,r9,r9]
   rfl
  ·rw[decide_eq_false hb]
   refine E8 (kN _ _ _ ⟨⟨_,_,rfl⟩,s1.trans s2,s2 _ _ h1,?_⟩)
   rw[e3,if_neg hb,G2]
 ·rintro D xs σ' H' hD ⟨⟨v,u,rfl⟩,s1,h1,rfl⟩
  rw[a9]at h1
  exact q D H' s1 hD h1
def be3 (K:W.Frag)(CB:Addr):Sp:=fun vs H Q E=>∃ (a:Addr) (ns:List Int) (M:Nat),vs=[.ref a,.int M]/\Sq K H a ns/\M<=1000000/\(O9 ns->∀ (v:V) (x:Wl) (H':Hp),o7 H H'->bM8 ns M x->cf7 H' v x->Q v H')/\(¬ O9 ns->E (.ref CB) none H)
theorem ax0:v7 ["tally","most","below","numbers","r"] ["tally","most"] (d8 ag2):=.mk'
set_option maxHeartbeats 1000000 in
theorem bu0 {fA fβ:Addr} (F:Fun K "wall_with" "wall_with" ag2 f fd) (B:Bn mg) (FT:Fun K "check_tally" "check_tally" aj4 fT fdT) (bT:Binds K fdT ["tally"] []) (mT:mg "check_tally"=some (.ref fT))
  (FF:Fun K "falling" "falling" ae0 fF fdF) (bF:Binds K fdF ["tally"] []) (mF:mg "falling"=some (.ref fF)) (FA:Fun K "room_among" "room_among" U7 fA fdA) (bA:Binds K fdA ["numbers","most","r"] []) (mA:mg "room_among"=some (.ref fA))
  (Fβ:Fun K "places_below" "places_below" W8 fβ fdβ) (bβ:Binds K fdβ ["numbers"] []) (mβ:mg "places_below"=some (.ref fβ))
  (mM:mg "MOST_PLACES"=some (.int 24 tk)) (mB:mg "BadTally"=some (.ref CB)) (cB:S8 K CB):o4 P w K mg base (CXE P w) 2 f fd ["tally","most"] (be3 K CB):=by
 have GT:o4 P w K mg base (CXE P w) 1 fT fdT ["tally"] (aG1 K CB):=aA0 FT B mM mB cB
 have GF:o4 P w K mg base CX0 1 fF fdF ["tally"] (aZ3 K):=bg0 FF B
 have GA:o4 P w K mg base CX0 1 fA fdA ["numbers","most","r"] (aL1 K):=aT9 FA B
 have GL:o4 P w K mg base CX0 1 fβ fdβ ["numbers"] (aL0 K):=aT8 Fβ B
 refine F.okX ax0 (fun cdv A outer s H vs Q E hr h=>?_)
 obtain⟨a,ns,M,rfl,hS,hM,h1,h2⟩:=h
 have hsl:=M8
 refine⟨_,c7 (D6 (j8 GT hr (by rfl) mT FT.kp bT .nil Y5 (a6 (pv 0) b7)))
   (c7 (A3 (i:=2) ax0.nd rfl (Or.inl rfl) (j8 GL hr (by rfl) mβ Fβ.kp bβ .nil E4 (a6 (pv 0) b7)))
   (c7 (E3 (aS9 (pv 2) (fun _=>rfl)) (i5 (u9 (v9 (a6 G0 (a6 (x9 F6 (pv 2) c8 (fun _ _=>rfl)) b7))))) A4)
   (c7 (E3 (A0 R0 (v8 K8 (m7 (aI1 rfl) (by rfl) B.sum (by rfl) (a6 (pv 0) b7)) c8) c8 (A9 _)) (i5 (u9 (v9 (a6 G0 b7)))) A4)
   (c7 (A3 (i:=3) ax0.nd rfl (Or.inl rfl) (j8 GF hr (by rfl) mF FF.kp bF .nil E4 (a6 (pv 0) b7)))
   (c7 (Q9 bt1 rfl (ar5 rfl B.range (a6 c8 (a6 (v8 N6 (m7 o6 (by rfl) B.len PySem.boot_len (a6 (pv 3) b7)) c8) b7))) (B1 (i := 4) ax0.nd rfl (Or.inl rfl))
    (i5 (E3 (A0 az8 (j8 GA hr (by rfl) mA FA.kp bA .nil E4 (a6 (pv 3) (a6 (pv 1) (a6 (pv 4) b7)))) c8 (A9 _)) (i5 (u9 (v9 (a6 G0 (a6 (pv 4) b7))))) A4)))
   (i5 (u9 aM7))))))),?_⟩
 refine⟨_,rfl,a,ns,rfl,hS,fun ht=>?_,h2⟩
 have t2:=ht.2
 refine⟨_,rfl,a,ns,rfl,hS,by omega,fun bl H1 s1 hbl g1=>?_⟩
 refine⟨_,rfl,_,.inl ⟨_,SqL.of g1,rfl⟩,?_⟩
 unfold bd2 at g1 ⊢
 cases hb:as6 ns ns.length with
 | cons p ps =>
  rw[hb]at g1
  refine E7 ⟨_,rfl,bl,_,_,_,rfl,rfl,SqL.of g1,n9 (j:=0) rfl,(by show 2<=c5;decide),fun q hq=>?_⟩
  exact h1 ht _ (.below p) _ (s1.trans (c9 hq)) (by8 hb) (.inr ⟨by simp,q,rfl,b8⟩)
 | nil =>
  have hall:AllP ns:=bJ3 hb
  refine E8 ?_
  refine⟨_,rfl,a,ns,rfl,hS.same s1,_,_,rfl,rfl,(by show (0:Int)<2;decide),rfl,_,rfl,?_⟩
  refine aA7 (fun h=>?_) (fun h=>?_)
  ·exact⟨(by show 1<=c5;decide),fun p hp=>h1 ht _ .odd _ (s1.trans (c9 hp)) ⟨hall,bI3 h⟩ (.inr ⟨by simp,p,rfl,b8⟩)⟩
  ·have hev:=bw4 h
   refine⟨_,rfl,a,ns,rfl,hS.same s1,by omega,fun l H2 s2 hl g2=>?_⟩
   refine⟨_,rfl,l,_,rfl,.inl (SqL.of g2),_,_,rfl,rfl,1,((ns.length:Int)+1),by rw[a9,R6,aw6],⟨by omega,by omega,by omega,by omega⟩,?_⟩
   rw[show ((ns.length:Int)+1 - 1).toNat=ns.length by omega]
   refine aa7 (lo:=1) (n:=ns.length) (fun i σ H3=>∃ e4,σ=[some (.ref a),some (.int M),some (.ref bl),some (.ref l),e4]/\o7 H2 H3/\∀ k,1<=k->k<i+1->0<=W9 ns M k) ⟨none,rfl,o7.refl H2,fun k k1 k2=>by omega⟩ ?_ ?_
   ·rintro i σ H3 hi ⟨e4,rfl,s3,hrm⟩
    have e0:((1:Int)+(i:Int))=((i+1:Nat):Int):=by omega
    rw[e0]
    refine y6 ?_
    refine⟨_,rfl,_,rfl,_,rfl,l,ns,M,i+1,rfl,SqL.of (s3 _ _ g2),hM,by omega,by omega,fun H4 s4=>⟨_,_,rfl,rfl,_,rfl,?_⟩⟩
    refine aA7 (fun h=>?_) (fun h=>?_)
    ·refine⟨_,rfl,(by show 2<=c5;decide),fun p hp=>?_⟩
     exact h1 ht _ (.wall (i+1)) _ ((((s1.trans s2).trans s3).trans s4).trans (c9 hp)) ⟨hall,hev,by omega,by omega,of_decide_eq_true h,hrm⟩ (.inr ⟨by simp,p,rfl,b8⟩)
    ·have h':¬ W9 ns M (i+1)<0:=fun q=>h (decide_eq_true q)
     refine⟨_,rfl,s3.trans s4,fun k k1 k2=>?_⟩
     rcases E6 k (i+1) with l1 | l1
     ·exact hrm k k1 l1
     ·rw[show k=i+1 by omega];omega
   ·rintro σ H3 ⟨e4,rfl,s3,hrm⟩
    exact h1 ht _ .free _ ((s1.trans s2).trans s3) ⟨hall,hev,fun k k1 k2=>hrm k k1 (by omega)⟩ (.inl ⟨rfl,rfl⟩)
def aK2 (K:W.Frag)(CB:Addr):Sp:=fun vs H Q E=>∃ (a:Addr) (ns:List Int),vs=[.ref a]/\Sq K H a ns/\(O9 ns->∀ (v:V) (x:Wl) (H':Hp),o7 H H'->ad6 ns x->cf7 H' v x->Q v H')/\(¬ O9 ns->E (.ref CB) none H)
theorem bQ2:v7 ["tally"] ["tally"] (d8 am9):=.mk'
theorem bG3 {fω fA fβ:Addr}{fdω:FuncData}(F:Fun K "wall_of" "wall_of" am9 f fd)(B:Bn mg)(FT:Fun K "check_tally" "check_tally" aj4 fT fdT)(bT:Binds K fdT ["tally"] [])(mT:mg "check_tally"=some (.ref fT))
  (FF:Fun K "falling" "falling" ae0 fF fdF)(bF:Binds K fdF ["tally"] [])(mF:mg "falling"=some (.ref fF))(FA:Fun K "room_among" "room_among" U7 fA fdA)(bA:Binds K fdA ["numbers","most","r"] [])(mA:mg "room_among"=some (.ref fA))
  (Fβ:Fun K "places_below" "places_below" W8 fβ fdβ)(bβ:Binds K fdβ ["numbers"] [])(mβ:mg "places_below"=some (.ref fβ))(Fω:Fun K "wall_with" "wall_with" ag2 fω fdω)(bω:Binds K fdω ["tally","most"] [])(mω:mg "wall_with"=some (.ref fω))
  (mM:mg "MOST_PLACES"=some (.int 24 tk))(mB:mg "BadTally"=some (.ref CB))(cB:S8 K CB):o4 P w K mg base (CXE P w) 3 f fd ["tally"] (aK2 K CB):=by
 have GW:o4 P w K mg base (CXE P w) 2 fω fdω ["tally","most"] (be3 K CB):=bu0 Fω B FT bT mT FF bF mF FA bA mA Fβ bβ mβ mM mB cB
 refine F.okX bQ2 (fun cdv A outer s H vs Q E hr h=>?_)
 obtain⟨a,ns,rfl,hS,h1,h2⟩:=h
 refine⟨_,i5 (u9 (j8 GW hr (by rfl) mω Fω.kp bω .nil Y5 (a6 (pv 0) (a6 c8 b7)))),?_⟩
 exact⟨_,rfl,a,ns,1,rfl,hS,by decide,fun ht v x H' s' hx hv=>h1 ht v x H' s' (bC4 hx) hv,h2⟩
end
theorem N8 {PT:Addr}(g:G5 PT H H')(t:Tb PT H)(h:H l=some (.lst xs)):H' l=some (.lst xs):=by
 obtain⟨ps,hP,_⟩:=t
 exact g l _ (fun z=>by rw[z,hP]at h;cases h) h
theorem aa6 {K:W.Frag}{PT:Addr}(g:G5 PT H H')(t:Tb PT H):∀ {zs:List V} {ks:List (List Int)},y7 K H zs ks->y7 K H' zs ks
 | _,_,.nil=>.nil
 | _,_,.cons ⟨a,e,h⟩ r=>.cons ⟨a,e,G5.sqT g t h⟩ (aa6 g t r)
section
variable {K:W.Frag} {base:Heap}
theorem bF3:∀ n:Nat,n<=11->(j5 n).length<=55:=by decide +kernel
theorem bZ6 (hn:n<=11)(nd:ks.Nodup)(h:∀ k∈ks,Up n k):ks.length<=55:=
 n8 (an9 nd fun k hk=>by
  obtain⟨i,j,h1,h2,rfl⟩:=h k hk
  exact aN0 h1 h2) (bF3 n hn)
theorem ah1.len55 {ps left:List Int}(h:ah1 ns ps left ks)(hn:ns.length<=11):ks.length<=55:=by
 have:=bZ6 hn h.nodup fun k hk=>by
  obtain⟨k',hk',rfl⟩:=m6.mp hk
  exact(h.ends k' hk').up
 rw[a9]at this
 exact this
noncomputable def bh1 (ns:List Int)(p:Nat)(es:List Int):List (List Int):=star p es++bv8 (ns.length - 1) (P4 ns p es) (K9 ns.length p)
def aK8 (K:W.Frag)(PT:Addr):Sp:=fun vs H Q _=>∃ (a ea:Addr) (ns es:List Int) (p:Nat),vs=[.ref a,.int p,.ref ea]/\Sq K H a ns/\O9 ns/\ns.length<=11/\p<ns.length/\SqL K H ea (es.map V.int)/\es.Nodup/\es.length<=24/\(∀ z∈es,0<=z/\z<ns.length/\z≠p)/\(es.length:Int)=ns.getD p 0/\Gr (P4 ns p es)/\Tb PT H /\
 ∀ (r t:Addr) (zs:List V) (ks:List (List Int)) (H':Hp),G5 PT H H'->Tb PT H'->H' r=some (.tup [.int ns.length,.ref t])->H' t=some (.tup zs)->y7 K H' zs ks->ks.Perm ((bh1 ns p es).map up)->ks.Pairwise (fun a b=>Tim.F2 b a=false)->tal ns.length ks=ns->(∀ k∈ks,Up ns.length k)->ks.Nodup->Q (.ref r) H'
theorem ag0:v7 ["tally","place","ends","ties","places","left","chosen"] ["tally","place","ends"] (d8 an1):=.mk'
set_option maxHeartbeats 2000000 in
theorem bG7 {fV fO fL c PT:Addr} {fdV fdO fdL:FuncData} (F:Fun K "laid_around" "laid_around" an1 f fd) (B:Bn mg) (FV:Fun K "made" "made" an0 fV fdV) (bV:Binds K fdV ["places","ties"] []) (mV:mg "made"=some (.ref fV)) (GV:o4 P w K mg base CX0 3 fV fdV ["places","ties"] (br0 K))
    (FO:Fun K "order_of" "order_of" aE7 fO fdO) (bO:Binds K fdO ["tally"] []) (mO:mg "order_of"=some (.ref fO)) (hc:fdO.code=.ref c) (LB:aC6 base mg c PT)
    (FT:Fun K "check_tally" "check_tally" aj4 fT fdT) (bT:Binds K fdT ["tally"] []) (mT:mg "check_tally"=some (.ref fT)) (FF:Fun K "first_of_order" "first_of_order" Z5 fF fdF) (bF:Binds K fdF ["tally","many","passed_over"] []) (mF:mg "first_of_order"=some (.ref fF))
    (FL:Fun K "left_of_others" "left_of_others" au4 fL fdL) (bL:Binds K fdL ["tally","place","ends"] []) (mL:mg "left_of_others"=some (.ref fL))
    (mM:mg "MOST_PLACES"=some (.int 24 tk)) (mB:mg "BadTally"=some (.ref CB)) (cB:S8 K CB):o4 P w K mg base CX0 4 f fd ["tally","place","ends"] (aK8 K PT):=by
  have GF:o4 P w K mg base (CXE P w) 3 fF fdF ["tally","many","passed_over"] (ac0 K PT):=aT7 FF B FO bO mO hc LB FT bT mT mM mB cB
  have GL:o4 P w K mg base CX0 3 fL fdL ["tally","place","ends"] (br1 K):=(bG5 FL B).mono (by decide)
  refine F.ok ag0 (fun cdv A outer s H vs Q E hr h=>?_)
  obtain⟨a,ea,ns,es,p,rfl,hS,ht,h11,hp,hea,ne,hel,he,hn,hg,tb,q⟩:=h
  have hsl:=M8
  have t2:=ht.2
  have nd1:(["end","place"]:List Str).Nodup:=by decide +kernel
  have nd2:(["one","place"]:List Str).Nodup:=by decide +kernel
  have nd3:(["one","places"]:List Str).Nodup:=by decide +kernel
  refine⟨_,c7 (aM2 (i:=3) ag0.nd rfl rfl (by rfl) (N':=["end","place"]) (lk:=[none,some 1]) rfl (T4 (pv 2)) (by rfl) rfl (by decide +kernel) (by exact⟨rfl,trivial⟩) (by rfl) (by exact LkL.ok ⟨⟨rfl,Or.inl rfl,rfl,Or.inl rfl⟩,trivial⟩)
        (fun _ _ _=>B1 (i:=0) nd1 rfl (Or.inl rfl)) (fun _ _ _=>ai2) (fun _ _ _=>v9 (a6 (pv 1) (a6 (pv 0) b7))))
    (c7 (A3 (i:=4) ag0.nd rfl (Or.inr rfl) (ai7 (N':=["one","place"]) (lk:=[none,some 1]) rfl (ai5 rfl B.range (a6 (m7 o6 (by rfl) B.len PySem.boot_len (a6 (pv 0) b7)) b7)) (by rfl) rfl (by decide +kernel) (by exact⟨rfl,trivial⟩) (by rfl) (by exact LkL.ok ⟨⟨rfl,Or.inl rfl,rfl,Or.inl rfl⟩,trivial⟩)
        (fun _ _ _=>B1 (i:=0) nd2 rfl (Or.inl rfl)) (fun _ _ _=>ax3 (A0 an7 (pv 0) (pv 1) (A9 _))) (fun _ _ _=>pv 0)))
    (c7 (A3 (i:=5) ag0.nd rfl (Or.inl rfl) (j8 GL hr (by rfl) mL FL.kp bL .nil E4 (a6 (pv 0) (a6 (pv 1) (a6 (pv 2) b7)))))
    (c7 (bt0 PassesOwn.never (aS9 (pv 5) (fun _=>rfl))
      (c7 (A3 (i:=6) ag0.nd rfl (Or.inl rfl) (j8 GF hr (by rfl) mF FF.kp bF .nil (R7 (P:=P) (w:=w)) (a6 (pv 5) (a6 (x9 F6 (pv 5) c8 (fun _ _=>rfl)) (a6 (K7 (a6 c8 b7)) b7)))))
      (c7 (bR7 (i:=3) ag0.nd rfl (Or.inl rfl) (ai7 (N':=["one","places"]) (lk:=[none,some 4]) rfl (T4 (pv 6)) (by rfl) rfl (by decide +kernel) (by exact⟨rfl,trivial⟩) (by rfl) (by exact LkL.ok ⟨⟨rfl,Or.inl rfl,rfl,Or.inl rfl⟩,trivial⟩)
          (fun _ _ _=>B1 (i:=0) nd3 rfl (Or.inl rfl)) (fun _ _ _=>ai2) (fun _ _ _=>v9 (a6 (ai6 K rfl (pv 1) c8 (fun _ _=>rfl)) (a6 (ai6 K rfl (pv 1) (pv 0) (fun _ _=>rfl)) b7)))) bV1)
      (c7 (A3 (i:=5) ag0.nd rfl (Or.inl rfl) (j8 GL hr (by rfl) mL FL.kp bL .nil E4 (a6 (pv 5) (a6 c8 (a6 (pv 6) b7)))))
      (i5 (A3 (i:=4) ag0.nd rfl (Or.inr rfl) (T8 am6 (pv 4) (V1 c8) ac7)))))))
    (i5 (u9 (j8 GV hr (by rfl) mV FV.kp bV .nil E4 (a6 (m7 o6 (by rfl) B.len PySem.boot_len (a6 (pv 0) b7)) (a6 (pv 3) b7)))))))),?_⟩
  have hun:=hr.units
  refine⟨_,rfl,ea,rfl,⟨_,hea⟩,fun D hD=>W3 (K:=K) (a:=ea) (D:=D) (ys:=es.map V.int) (fun i xs σ' H'=>(∃ v,σ'=[v,some (.int p)])/\o7 H H'/\H' D=some (.lst xs)/\y7 K H' xs (star p (es.take i)))
    ⟨⟨none, rfl⟩, c9 hD, b8, .nil⟩ (by rw [a9]; omega) (fun i xs σ' H' hi ⟨_, s6, h6, t6⟩ => ⟨s6.seq hea, h6, by
      have h7:=t6.len
      unfold star at h7
      rw[a9,t7]at h7
      omega⟩) ?_ ?_⟩
  · rintro i xs x σ' H' N kN hx ⟨⟨v,rfl⟩,s6,h6,t6⟩
    obtain⟨z,hz,rfl⟩:=aj1 hx
    refine y6 (af5 ?_)
    refine⟨_,rfl,_,rfl,(by show 2<=c5;decide),fun t ft=>?_⟩
    have st:=c9 (o:=.tup [.int (p:Int),.int z]) ft
    have h6':=st _ _ h6
    refine⟨h6',kN _ _ _ ⟨⟨_,rfl⟩,(s6.trans st).upd hD,b8,?_⟩⟩
    have et:star p (es.take (i+1))=star p (es.take i)++[[(p:Int),z]]:=by
      unfold star
      rw[C6,hz,r9]
      rfl
    rw[et]
    refine y7.updL h6' (y7.append (st.tups t6) (y7.one (SqT.of ?_)))
    exact b8
  · rintro xs σ' H1 ⟨⟨v,rfl⟩,s1,h1,t1⟩
    rw[l6 (by rw[a9];exact c6 _)]at t1
    have hS1:=hS.same s1
    refine⟨_,rfl,a,_,rfl,hS1,(ns.length:Int),congrArg (fun z:Nat=>[V.int (z:Int)]) (a9 ..),by omega,by omega,fun D2 hD2=>?_⟩
    rw[i3]
    refine aB5 (lo:=0) (n:=ns.length) (D:=D2) (fun i xs σ' H'=>(∃ v,σ'=[v,some (.int p)])/\o7 H1 H'/\H' D2=some (.lst xs)/\xs=(K9 i p).map V.int) ⟨⟨none,rfl⟩,c9 hD2,b8,rfl⟩ (by omega)
      (fun i xs σ' H' hi ⟨_,s6,h6,e6⟩=>⟨h6,by
        rw[e6,a9]
        unfold K9
        rw[a9]
        have:=L0 (fun j=>decide (j≠p)) (x6 i)
        rw[F9]at this
        exact this⟩) ?_ ?_
    · rintro i xs σ' H' N kN hi ⟨⟨v,rfl⟩,s6,h6,rfl⟩
      have e0:((0:Int)+(i:Int))=(i:Int):=by omega
      rw[e0]
      refine y6 ?_
      refine⟨_,rfl,_,rfl,rfl,_,rfl,?_⟩
      have et:K9 (i+1) p=K9 i p++(if i=p then [] else [(i:Int)]):=by
        unfold K9
        rw[K1,P1,r9]
        congr 1
        by_cases h:i=p<;>simp[h]
      by_cases hm:i=p
      · refine ao4 (by rw[hm]) ?_
        refine kN _ _ _ ⟨⟨_,rfl⟩,s6,h6,?_⟩
        rw[et,if_pos hm,G2]
      · rw[decide_eq_false (show ¬ (V.int (i:Int)=V.int (p:Int)) from fun z=>hm (by injection z;omega))]
        refine E7 ?_
        refine⟨_,rfl,h6,kN _ _ _ ⟨⟨_,rfl⟩,s6.upd hD2,b8,?_⟩⟩
        rw[et,if_neg hm,r9]
        rfl
    · rintro xs2 σ' H2 ⟨⟨v2,rfl⟩,s2,h2,rfl⟩
      have s12:=s1.trans s2
      refine⟨_,rfl,_,rfl,_,rfl,a,ea,ns,es,p,rfl,hS.same s12,t2,s12.seq hea,fun l3 H3 s3 f3 g3=>?_⟩
      have s23:=s2.trans s3
      refine⟨fun m σ Ha=>∃ (ks:List (List Int)) (ps left:List Int) (zs:List V) (pa la:Addr) (e6:Option V),σ=[some (.ref a),some (.int p),some (.ref ea),some (.ref D),some (.ref pa),some (.ref la),e6]/\left.length=m/\m<24/\ah1 ns ps left ks/\Gr left/\ks++bv8 m left ps=bh1 ns p es/\Ha D=some (.lst zs)/\y7 K Ha zs ks /\
          Ha pa=some (.lst (ps.map V.int))/\pa≠D/\Ha la=some (.lst (left.map V.int))/\la≠D/\G5 PT H Ha/\Tb PT Ha,
        ⟨ns.length - 1,star p es,K9 ns.length p,P4 ns p es,xs,D2,l3,none,rfl,aa5 hp,by omega,ah1.start hp ne he hn,hg,rfl,s23 _ _ h1,s23.tups t1,s3 _ _ h2,(u0 h1 hD2).symm,g3,(u0 (s2 _ _ h1) f3).symm,(s12.trans s3).grow PT,tb.same (s12.trans s3)⟩,?_⟩
      rintro m σ Ha ⟨ks,ps,left,zs,pa,la,e6,rfl,hm,hm2,hI,hG,hF,gD,tD,gp,np,gl,nl,gr,tbA⟩
      have hpl:=hI.len
      refine⟨_,rfl,!(left.map V.int).isEmpty,.inl ⟨_,SqL.of gl,rfl⟩,?_⟩
      cases m with
      | zero =>
        obtain rfl:left=[]:=ak0.mp hm
        obtain rfl:ps=[]:=ak0.mp hpl.symm
        have hF:ks=bh1 ns p es:=by
          have:ks++[]=bh1 ns p es:=hF
          rw[G2]at this
          exact this
        have hle:=hI.len55 h11
        refine E8 ?_
        refine⟨_,rfl,a,_,rfl,hS.grow gr tb,_,rfl,ns.length,D,zs,ks,by rw[a9];rfl,ht.1,t2,.inl (SqL.of gD),tD,hI.ends,hI.nodup,by omega,fun r t zs2 ks2 H' s' k1 k2 tt pm so=>?_⟩
        refine q r t zs2 ks2 H' (gr.trans (s'.grow PT)) (tbA.same s') k1 k2 tt (by rw[<- hF];exact pm) so ?_ (fun k hk=>?_) (pm.nodup_iff.mpr hI.nodup)
        · rw[bq3 pm,bP0 hI.ends]
          exact hI.last
        · obtain⟨k',hk',rfl⟩:=m6.mp (pm.mem_iff.mp hk)
          exact(hI.ends k' hk').up
      | succ m =>
        have h0:0<left.length:=by omega
        have hnn:=ab0 (as2 hG) h0
        obtain⟨k,hk⟩:∃ k:Nat,left.getD 0 0=(k:Int):=⟨(left.getD 0 0).toNat,by omega⟩
        have at0:atI (left.map V.int) 0=some (.int (k:Int)):=by
          rw[<- hk]
          exact aC2 (j:=0) h0
        have hne:(left.map V.int).isEmpty=false:=by
          cases left with
          | nil=>exact absurd h0 (C9 _)
          | cons _ _=>rfl
        rw[hne]
        refine E7 ⟨_,fun σ' H' h=>⟨m,Nat.lt_succ_self m,h⟩,?_⟩
        refine⟨_,rfl,_,rfl,la,_,_,_,rfl,rfl,SqL.of gl,at0,(by show 1<=c5;decide),fun lz fz=>?_⟩
        have sz:=c9 (o:=.lst [.int 0]) fz
        refine⟨la,lz,left,[0],k,rfl,.inl (SqL.of (sz _ _ gl)),⟨by omega,by omega⟩,SqL.of b8,tbA.same sz,fun os D4 Hc gc tbC f4 hp4 hs4 g4=>?_⟩
        have ech:(U8 [0] os).take k=chF left 0:=by
          rw[bl5,bF4 hp4 hs4]
          unfold chF
          rw[hk,i3]
          rfl
        rw[ech]at g4
        have tbz:=tbA.same sz
        have gDc:=N8 gc tbz (sz _ _ gD)
        have gpc:=N8 gc tbz (sz _ _ gp)
        have glc:=N8 gc tbz (sz _ _ gl)
        have tDc:=aa6 gc tbz (sz.tups tD)
        have grc:=gr.trans ((sz.grow PT).trans gc)
        have n4:D4≠D:=(u0 (sz _ _ gD) f4).symm
        have hcl:(chF left 0).length<=24:=by
          have h1:=bi2 hG h0
          have h2:=aB2 hG h0
          omega
        have hgo:=hI.go hG h0
        have hle:=hgo.len55 h11
        generalize upd Ha lz (.lst [.int 0])=Hz at gc f4
        refine⟨_,rfl,_,rfl,D4,rfl,⟨_,SqL.of g4⟩,fun D5 hD5=>W3 (K:=K) (a:=D4) (D:=D5) (ys:=(chF left 0).map V.int) (fun i xs σ' H'=>(∃ v,σ'=[v,some (.ref pa)])/\o7 Hc H'/\H' D5=some (.lst xs)/\y7 K H' xs (star (ps.getD 0 0) (((chF left 0).take i).map fun z=>ps.getD z.toNat 0)))
          ⟨⟨none, rfl⟩, c9 hD5, b8, .nil⟩ (by rw [a9]; omega) (fun i xs σ' H' hi ⟨_, s6, h6, t6⟩ => ⟨SqL.of (s6 _ _ g4), h6, by
            have h7:=t6.len
            unfold star at h7
            rw[a9,a9,t7]at h7
            omega⟩) ?_ ?_⟩
        · rintro i xs x σ' H' N kN hx ⟨⟨v,rfl⟩,s6,h6,t6⟩
          obtain⟨z,hz,rfl⟩:=aj1 hx
          have hz2:=by6 (d5 hz)
          obtain⟨j,rfl⟩:∃ j:Nat,z=(j:Int):=⟨z.toNat,by omega⟩
          refine y6 (af5 ?_)
          have hpa6:Sq K H' pa ps:=.inl (SqL.of (s6 _ _ gpc))
          refine⟨_,rfl,aH2 (j:=0) hpa6 (by omega) ⟨_,rfl,_,rfl,aH2 hpa6 (j:=j) (by omega) ⟨(by show 2<=c5;decide),fun t ft=>?_⟩⟩⟩
          have st:=c9 (o:=.tup [.int (ps.getD 0 0),.int (ps.getD j 0)]) ft
          have h6':=st _ _ h6
          refine⟨h6',kN _ _ _ ⟨⟨_,rfl⟩,(s6.trans st).upd hD5,b8,?_⟩⟩
          have et:star (ps.getD 0 0) (((chF left 0).take (i+1)).map fun z=>ps.getD z.toNat 0)=star (ps.getD 0 0) (((chF left 0).take i).map fun z=>ps.getD z.toNat 0)++[[ps.getD 0 0,ps.getD j 0]]:=by
            unfold star
            rw[C6,hz,r9,r9]
            rfl
          rw[et]
          refine y7.updL h6' (y7.append (st.tups t6) (y7.one (SqT.of ?_)))
          exact b8
        · rintro xs5 σ' H5 ⟨⟨v5,rfl⟩,s5,h5,t5⟩
          rw[l6 (by rw[a9];exact c6 _)]at t5
          have gD5:=s5 _ _ gDc
          have hl5:=t5.len
          have hlD:=tDc.len
          rw[j6]at hle
          refine⟨D,D5,zs,xs5,rfl,rfl,gD5,h5,by omega,?_⟩
          have fD:H D=none:=hD
          have gu:G5 PT H (upd H5 D (.lst (zs++xs5))):=by
            intro b o nb hb
            rw[m9 (u0 hb fD)]
            exact(grc.trans (s5.grow PT)) b o nb hb
          have tb6:Tb PT (upd H5 D (.lst (zs++xs5))):=by
            obtain⟨ps',hP,hx⟩:=tbC.same s5
            refine⟨ps',?_,hx.1,hx.2.imp id fun⟨c',e,h⟩=>⟨c',e,by rw[m9 (fun z=>by rw[z,gD5]at h;cases h)];exact h⟩⟩
            rw[m9 (fun z=>by rw[z,gD5]at hP;cases hP)]
            exact hP
          have gl6:(upd H5 D (.lst (zs++xs5))) la=some (.lst (left.map V.int)):=by rw[m9 nl];exact s5 _ _ glc
          have gp6:(upd H5 D (.lst (zs++xs5))) pa=some (.lst (ps.map V.int)):=by rw[m9 np];exact s5 _ _ gpc
          have g46:(upd H5 D (.lst (zs++xs5))) D4=some (.lst ((chF left 0).map V.int)):=by rw[m9 n4];exact s5 _ _ g4
          have gD6:(upd H5 D (.lst (zs++xs5))) D=some (.lst (zs++xs5)):=b8
          have t6:y7 K (upd H5 D (.lst (zs++xs5))) (zs++xs5) (ks++star (ps.getD 0 0) ((chF left 0).map fun z=>ps.getD z.toNat 0)):=y7.updL gD5 (y7.append (s5.tups tDc) t5)
          generalize upd H5 D (.lst (zs++xs5))=H6 at gu tb6 gl6 gp6 g46 gD6 t6 ⊢
          refine⟨_,rfl,_,rfl,la,D4,left,chF left 0,0,rfl,.inl (SqL.of gl6),by omega,SqL.of g46,fun l7 H7 s7 f7 g7=>?_⟩
          refine⟨_,rfl,_,rfl,pa,ps.map V.int,rfl,SqL.of (s7 _ _ gp6),fun l8 f8=>?_⟩
          have ec:aa9 (ps.map V.int) (some 1) none=(ps.drop 1).map V.int:=ak4 ps 1
          rw[ec]
          have s8:=c9 (o:=.lst ((ps.drop 1).map V.int)) f8
          have s78:=s7.trans s8
          refine⟨_,ps.drop 1,P4 left 0 (chF left 0),zs++xs5,l8,l7,_,rfl,by rw[aa5 h0];omega,by omega,hgo,bW2 hG h0,?_,s78 _ _ gD6,s78.tups t6,b8,(u0 (s7 _ _ gD6) f8).symm,s8 _ _ g7,(u0 gD6 f7).symm,gu.trans (s78.grow PT),tb6.same s78⟩
          rw[ah4]
          exact hF
end
section
variable {K:W.Frag} {base:Heap}
def aK6 (K:W.Frag):Sp:=fun vs H Q _=>∃ n:Nat,vs=[.int n]/\n<=24/\∀ l zs H',o7 H H'->H l=none->H' l=some (.lst zs)->y7 K H' zs (j5 n)->Q (.ref l) H'
theorem ax2:v7 ["places","pairs","one","other"] ["places"] (d8 ac3):=.mk'
theorem aT6 (F:Fun K "_law_pairs" "_law_pairs" ac3 f fd) (B:Bn mg):o4 P w K mg base CX0 1 f fd ["places"] (aK6 K):=by
 refine F.ok ax2 (fun cdv A outer s H vs Q E hr h=>?_)
 obtain⟨n,rfl,hn,q⟩:=h
 refine⟨_,c7 (A3 (i:=1) ax2.nd rfl (Or.inl rfl) (K7 b7))
  (c7 (Q9 PassesOwn.never rfl (ai5 rfl B.range (a6 (pv 0) b7)) (B1 (i := 2) ax2.nd rfl (Or.inl rfl))
   (i5 (Q9 PassesOwn.never rfl (ar5 rfl B.range (a6 (v8 N6 (pv 2) c8) (a6 (pv 0) b7))) (B1 (i := 3) ax2.nd rfl (Or.inl rfl))
    (i5 (D6 (ae2 PySem.F.plainAttrs_list PySem.F.slot_list_append PySem.F.type_list_append F1 (pv 1) (a6 (v9 (a6 (pv 2) (a6 (pv 3) b7))) b7)))))))
  (i5 (u9 (pv 1)))),?_⟩
 refine⟨by show 0<=c5;omega,fun l hl=>?_⟩
 have hlen:=aH0 n hn
 have hsl:=M8
 refine⟨_,rfl,n,rfl,by omega,by omega,aa7 (lo:=0) (n:=n) (fun i σ H1=>∃ a b zs,σ=[some (.int n),some (.ref l),a,b]/\o7 H H1/\H1 l=some (.lst zs)/\y7 K H1 zs ((x6 i).flatMap fun j=>ac4 j (n - (j+1))))
  ⟨none,none,[],rfl,c9 hl,b8,.nil⟩ ?_ ?_⟩
 ·rintro i σ H1 hi ⟨a,b,zs,rfl,s1,h1,t1⟩
  refine⟨_,rfl,_,_,rfl,rfl,_,rfl,_,_,rfl,⟨by omega,by omega,by omega,by omega⟩,aa7 (lo:=0+(i:Int)+1) (fun d σ H2=>∃ b zs,σ=[some (.int n),some (.ref l),some (.int (0+i)),b]/\o7 H H2/\H2 l=some (.lst zs)/\y7 K H2 zs (((x6 i).flatMap fun j=>ac4 j (n - (j+1)))++ac4 i d))
   ⟨b,zs,rfl,s1,h1,by simpa [ac4] using t1⟩ ?_ ?_⟩
  ·rintro d σ H2 hd ⟨b,zs,rfl,s2,h2,t2⟩
   have hlz:=t2.len
   have hpart:=bv3 n (i+1) (by omega)
   rw[az5,j6]at hpart
   have hrow:∀ m,(ac4 i m).length=m:=fun m=>by simp[ac4]
   rw[j6,hrow]at hlz
   rw[hrow]at hpart
   refine⟨_,rfl,.inl ⟨rfl,_,SqL.of h2⟩,_,rfl,_,rfl,(by show 2<=c5;decide),fun p hp=>?_⟩
   have hlp:l≠p:=u0 h2 hp
   have h2':(upd H2 p (.tup [.int (0+(i:Int)),.int (0+(i:Int)+1+(d:Int))])) l=some (.lst zs):=by rw[m9 hlp];exact h2
   refine⟨l,zs,_,rfl,rfl,h2',by omega,?_⟩
   refine⟨_,_,rfl,(s2.trans (c9 hp)).upd hl,b8,?_⟩
   rw[bl1,<- ah4]
   refine y7.updL h2' (y7.append (o7.tups (c9 hp) t2) (y7.one (SqT.of ?_)))
   rw[b8]
   simp
  ·rintro σ H2 ⟨b,zs,rfl,s2,h2,t2⟩
   refine⟨_,_,zs,rfl,s2,h2,?_⟩
   rw[az5]
   have e:((n:Int) - (0+(i:Int)+1)).toNat=n - (i+1):=by omega
   rw[e]at t2
   exact t2
 ·rintro σ H1 ⟨a,b,zs,rfl,s1,h1,t1⟩
  exact⟨_,rfl,q l zs H1 s1 hl h1 t1⟩
def aA8 (n:Nat)(a:Int):Prop:=0<=a/\a<n
def aK9 (CN:Addr):Sp:=fun vs H Q E=>∃ (n:Nat) (a:Int),vs=[.int n,.int a]/\(aA8 n a->Q .non H)/\(¬ aA8 n a->E (.ref CN) none H)
theorem aN4 {fI:Addr}(F:Fun K "check_place" "check_place" aE9 f fd)(FI:Fun K "is_place" "is_place" ar3 fI fdI)(bI:Binds K fdI ["places","number"] [])(mI:mg "is_place"=some (.ref fI))
  (mN:mg "NoPlace"=some (.ref CN))(cN:S8 K CN):o4 P w K mg base (CXE P w) 2 f fd ["places","number"] (aK9 CN):=by
 have GI:o4 P w K mg base CX0 1 fI fdI ["places","number"] br2:=bu7 FI
 refine F.okX cc0 (fun cdv A outer s H vs Q E hr h=>?_)
 obtain⟨n,a,rfl,h1,h2⟩:=h
 refine⟨_,i5 (E3 (P3 (S3 (j8 GI hr rfl mI FI.kp bI .nil E4 (a6 (pv 0) (a6 (pv 1) b7))))) (i5 (T7 (by rfl) mN cN)) A4),?_⟩
 refine⟨_,rfl,_,rfl,_,_,rfl,_,rfl,?_⟩
 by_cases hp:aA8 n a
 ·rw[decide_eq_true hp.1,decide_eq_true hp.2]
  exact E8 (h1 hp)
 ·have e:(decide ((0:Int)<=a) && decide (a<(n:Int)))=false:=by
   rw[bz9]
   by_cases z:(0:Int)<=a
   ·exact .inr (decide_eq_false fun z'=>hp ⟨z,z'⟩)
   ·exact .inl (decide_eq_false z)
  rw[e]
  exact E7 (h2 hp)
def mvd (ns:List Int)(p m:Int):List Int:=ns.set p.toNat (ns.getD p.toNat 0+m)
def bq9 (K:W.Frag)(CB CN:Addr):Sp:=fun vs H Q E=>∃ (a:Addr) (p m:Int) (ns:List Int),vs=[.ref a,.int p,.int m]/\Sq K H a ns /\
 (O9 ns->aA8 ns.length p->∀ (l:Addr) (H':Hp),o7 H H'->H l=none->H' l=some (.lst ((mvd ns p m).map V.int))->Q (.ref l) H')/\(¬ O9 ns->E (.ref CB) none H)/\(O9 ns->¬ aA8 ns.length p->E (.ref CN) none H)
theorem bL4:v7 ["tally","place","more","changed"] ["tally","place","more"] (d8 aS1):=.mk'
theorem bT4 {fC fI:Addr}{fdC:FuncData}(F:Fun K "moved" "moved" aS1 f fd)(B:Bn mg)(FT:Fun K "check_tally" "check_tally" aj4 fT fdT)(bT:Binds K fdT ["tally"] [])(mT:mg "check_tally"=some (.ref fT))
  (FC:Fun K "check_place" "check_place" aE9 fC fdC)(bC:Binds K fdC ["places","number"] [])(mC:mg "check_place"=some (.ref fC))(FI:Fun K "is_place" "is_place" ar3 fI fdI)(bI:Binds K fdI ["places","number"] [])(mI:mg "is_place"=some (.ref fI))
  (mM:mg "MOST_PLACES"=some (.int 24 tk))(mB:mg "BadTally"=some (.ref CB))(cB:S8 K CB)(mN:mg "NoPlace"=some (.ref CN))(cN:S8 K CN):o4 P w K mg base (CXE P w) 3 f fd ["tally","place","more"] (bq9 K CB CN):=by
 have GT:o4 P w K mg base (CXE P w) 2 fT fdT ["tally"] (aG1 K CB):=(aA0 FT B mM mB cB).mono (by decide)
 have GC:o4 P w K mg base (CXE P w) 2 fC fdC ["places","number"] (aK9 CN):=aN4 FC FI bI mI mN cN
 refine F.okX bL4 (fun cdv A outer s H vs Q E hr h=>?_)
 obtain⟨a,p,m,ns,rfl,hS,h1,h2,h3⟩:=h
 refine⟨_,c7 (D6 (j8 GT hr (by rfl) mT FT.kp bT .nil Y5 (a6 (pv 0) b7)))
  (c7 (D6 (j8 GC hr (by rfl) mC FC.kp bC .nil Y5 (a6 (m7 o6 (by rfl) B.len PySem.boot_len (a6 (pv 0) b7)) (a6 (pv 1) b7))))
  (c7 (A3 (i:=3) bL4.nd rfl (Or.inl rfl) (D3 R1 (by rfl) B.list (by rfl) (a6 (pv 0) b7)))
  (c7 (aM3 (pv 3) (pv 1) aB3 (pv 2) bc1 set_list)
  (i5 (u9 (pv 3)))))),?_⟩
 refine⟨_,rfl,a,ns,rfl,hS,fun ht=>?_,h2⟩
 refine⟨_,rfl,a,_,rfl,hS,_,rfl,(ns.map V.int).length,p,rfl,fun hp=>?_,fun hp=>h3 ht (by rw[a9]at hp;exact hp)⟩
 rw[a9]at hp
 refine⟨_,rfl,a,_,rfl,hS,fun l hl=>?_⟩
 obtain⟨j,rfl⟩:∃ j:Nat,p=(j:Int):=⟨p.toNat,by have:=hp.1;omega⟩
 have hj:j<ns.length:=by have:=hp.2;omega
 have hat:atI (ns.map V.int) (j:Int)=some (.int (ns.getD j 0)):=n9 (j:=j) (by simp[hj])
 refine⟨_,rfl,_,rfl,l,_,_,_,rfl,rfl,SqL.of b8,hat,_,rfl,_,_,rfl,rfl,l,_,_,j,rfl,rfl,b8,V2 (by rw[a9];exact hj),?_⟩
 refine⟨_,rfl,h1 ht hp l _ ?_ hl ?_⟩
 ·rw[am3];exact c9 hl
 ·rw[b8,af9];rfl
end
theorem ar8 {x:Wl}(h:ad6 ns x)(hx:x≠.free):¬ ad6 ns .free:=fun f=>by
 cases x with
 | below p =>
  obtain⟨⟨y,h1,h2⟩,_⟩:=h
  have:=f.1 p y h1
  omega
 | odd=>exact f.2.1 h.2
 | wall r =>
  have:=f.2.2 r h.2.2.1 h.2.2.2.1
  have:=h.2.2.2.2.1
  omega
 | free=>exact hx rfl
def mv2 (ns:List Int)(m:Int)(k:List Int):List Int:=mvd (mvd ns (k.getD 0 0) m) (k.getD 1 0) m
theorem aN5 (ns:List Int)(p m:Int):(mvd ns p m).length=ns.length:=by unfold mvd;rw[A5]
seal L2.PE L2.PA L2.PS L2.PSs L2.PT
section
variable {K:W.Frag} {base:Heap}
def be5 (K:W.Frag)(CW:Addr):Sp:=fun vs H Q E=>∃ (a:Addr) (ns:List Int),vs=[.ref a]/\Sq K H a ns/\O9 ns/\(ad6 ns .free->∀ H':Hp,o7 H H'->Q .non H')/\(¬ ad6 ns .free->∀ H':Hp,o7 H H'->E (.ref CW) none H')
theorem cb9:v7 ["tally"] ["tally"] (d8 aL7):=.mk'
theorem bT6 {fW CW:Addr}{fdW:FuncData}(F:Fun K "check_has_web" "check_has_web" aL7 f fd)(FW:Fun K "wall_of" "wall_of" am9 fW fdW)(bW:Binds K fdW ["tally"] [])(mW:mg "wall_of"=some (.ref fW))(GW:o4 P w K mg base (CXE P w) 3 fW fdW ["tally"] (aK2 K CB))
  (mX:mg "NoWeb"=some (.ref CW))(cX:S8 K CW):o4 P w K mg base (CXE P w) 4 f fd ["tally"] (be5 K CW):=by
 refine F.okX cb9 (fun cdv A outer s H vs Q E hr h=>?_)
 obtain⟨a,ns,rfl,hS,ht,q,e⟩:=h
 refine⟨_,i5 (E3 (A0 aN2 (j8 GW hr (by rfl) mW FW.kp bW .nil Y5 (a6 (pv 0) b7)) aM7 (by rfl)) (i5 (T7 (by rfl) mX cX)) A4),?_⟩
 refine⟨_,rfl,a,ns,rfl,hS,fun _ v x H' s' hx hv=>?_,fun h=>absurd ht h⟩
 rcases hv with⟨rfl,rfl⟩ | ⟨h,p,rfl,_⟩
 ·exact⟨rfl,_,rfl,E8 (q hx H' s')⟩
 ·exact⟨rfl,_,rfl,E7 (e (ar8 hx h) H' s')⟩
def aR4 (K:W.Frag):Sp:=fun vs H Q _=>∃ (a:Addr) (i j:Nat) (m:Int) (ns:List Int),vs=[.ref a,.int i,.int j,.int m]/\Sq K H a ns/\O9 ns/\i<ns.length/\j<ns.length /\
 ∀ (l:Addr) (H':Hp),o7 H H'->H l=none->H' l=some (.lst ((mv2 ns m [(i:Int),(j:Int)]).map V.int))->Q (.ref l) H'
theorem cb6:v7 ["tally","one","other","more"] ["tally","one","other","more"] (d8 aL6):=.mk'
theorem bT3 {fM:Addr}{fdM:FuncData}(F:Fun K "moved_both" "moved_both" aL6 f fd)(FM:Fun K "moved" "moved" aS1 fM fdM)(bM:Binds K fdM ["tally","place","more"] [])(mM:mg "moved"=some (.ref fM))(GM:o4 P w K mg base (CXE P w) 3 fM fdM ["tally","place","more"] (bq9 K CB CN)):o4 P w K mg base CX0 4 f fd ["tally","one","other","more"] (aR4 K):=by
 refine F.ok cb6 (fun cdv A outer s H vs Q E hr h=>?_)
 obtain⟨a,i,j,m,ns,rfl,hS,ht,hi,hj,q⟩:=h
 refine⟨_,i5 (u9 (j8 GM hr (by rfl) mM FM.kp bM .nil (R7 (P:=P) (w:=w)) (a6 (j8 GM hr (by rfl) mM FM.kp bM .nil (R7 (P:=P) (w:=w)) (a6 (pv 0) (a6 (pv 1) (a6 (pv 3) b7)))) (a6 (pv 2) (a6 (pv 3) b7))))),?_⟩
 refine⟨_,rfl,_,rfl,_,rfl,a,(i:Int),m,ns,rfl,hS,fun _ _ l1 H1 s1 f1 g1=>?_,fun h=>absurd ht h,fun _ h=>absurd ⟨by omega,by omega⟩ h⟩
 have e:=aN5 ns i m
 have ht1:O9 (mvd ns i m):=⟨by rw[e];exact ht.1,by rw[e];exact ht.2⟩
 refine⟨_,rfl,_,rfl,l1,(j:Int),m,mvd ns i m,rfl,.inl (SqL.of g1),fun _ _ l2 H2 s2 f2 g2=>?_,fun h=>absurd ht1 h,fun _ h=>absurd ⟨by omega,by rw[e];omega⟩ h⟩
 exact q l2 H2 (s1.trans s2) (s1.free f2) g2
end
end Web
namespace Web
open PySem L2
theorem aB0 {k:Nat}(hr:X4 k A):A.units+1<aa1:=by have:=hr.units;omega
theorem ay9:2000<=c5:=by decide
theorem bW3 (m k:Nat):decide (V.int (Builtin.bitAnd ((m:Int) / 2 ^ (k:Int).toNat) 1)=V.int 1)=decide (m / 2 ^ k % 2=1):=by
 have e:((m:Int) / 2 ^ (k:Int).toNat)=((m / 2 ^ k:Nat):Int):=by
  rw[i3]
  norm_cast
 rw[e]
 generalize m / 2 ^ k=q
 rw[PyProof.Rows.bitAnd_pp (by omega) (by decide),i3,show (1:Int).toNat=1 from rfl,Nat.and_one_is_mod]
 by_cases h:q % 2=1
 ·rw[h];rfl
 ·rw[decide_eq_false h,decide_eq_false fun z=>h (by injection z with z;omega)]
theorem ag8 (xs:List Int):(xs.map (Sum.inl:Int->Key)).map kV=xs.map V.int:=by rw[S0];rfl
theorem ad1:∀ {xs ys:List Int},xs.map (Sum.inl:Int->Key)=ys.map Sum.inl->xs=ys
 | [],[],_=>rfl
 | [],_::_,h=>by cases h
 | _::_,[],h=>by cases h
 | x::xs,y::ys,h=>by
  rw[j9,j9]at h
  injection h with h1 h2
  injection h1 with h1
  rw[h1,ad1 h2]
theorem ai4:∀ n:Nat,n<6->2 ^ (j5 n).length<=1024:=by decide +kernel
def TTa (K:W.Frag)(H:Hp)(a:Addr)(T:List (List Int)):Prop:=∃ ys,SqT K H a ys/\y7 K H ys T
theorem TTa.same {K:W.Frag}(h:TTa K H a T)(s:o7 H H'):TTa K H' a T:=let ⟨ys,h1,h2⟩:=h;⟨ys,s.seqT h1,s.tups h2⟩
theorem TTa.updL {K:W.Frag}{zs:List V}(h:TTa K H a T)(hl:H l=some (.lst xs)):TTa K (upd H l (.lst zs)) a T:=let ⟨ys,h1,h2⟩:=h;⟨ys,h1.updL hl,y7.updL hl h2⟩
def Wls (K:W.Frag)(H:Hp)(us:List V)(ws:List (List (List Int))):Prop:=us.length=ws.length/\∀ (i:Nat) (u:V) (T:List (List Int)),us[i]?=some u->ws[i]?=some T->∃ a,u=.ref a/\TTa K H a T
theorem Wls.same {K:W.Frag}(h:Wls K H us ws)(s:o7 H H'):Wls K H' us ws:=⟨h.1,fun i u T e1 e2=>let ⟨a,x,y⟩:=h.2 i u T e1 e2;⟨a,x,y.same s⟩⟩
theorem Wls.updL {K:W.Frag}{zs:List V}(h:Wls K H us ws)(hl:H l=some (.lst xs)):Wls K (upd H l (.lst zs)) us ws:=⟨h.1,fun i u T e1 e2=>let ⟨a,x,y⟩:=h.2 i u T e1 e2;⟨a,x,y.updL hl⟩⟩
theorem Wls.snoc {K:W.Frag}(h:Wls K H us ws)(t:TTa K H a T):Wls K H (us++[.ref a]) (ws++[T]):=by
 refine⟨by rw[j6,j6,h.1];rfl,fun i u U e1 e2=>?_⟩
 rcases E6 i us.length with z | z
 ·rw[af1 z]at e1
  rw[af1 (by rw[<- h.1];exact z)]at e2
  exact h.2 i u U e1 e2
 ·rw[ad7 z]at e1
  rw[ad7 (by rw[<- h.1];exact z),<- h.1]at e2
  cases hz:i - us.length with
  | zero =>
   rw[hz]at e1 e2
   cases e1
   cases e2
   exact⟨a,rfl,t⟩
  | succ n=>rw[hz]at e1;cases e1
def wks (n:Nat)(ts:List Int)(k:Nat):List (List (List Int)):=((x6 k).filter fun m=>decide (tal n (C4 (j5 n) m)=ts)).map (C4 (j5 n))
theorem aQ7 (n:Nat)(ts:List Int)(k:Nat):wks n ts (k+1)=wks n ts k++(if tal n (C4 (j5 n) k)=ts then [C4 (j5 n) k] else []):=by
 unfold wks
 rw[K1,P1,r9,bY6,aX2]
 by_cases h:tal n (C4 (j5 n) k)=ts
 ·rw[decide_eq_true h,if_pos rfl,if_pos h];rfl
 ·rw[decide_eq_false h,if_neg g8,if_neg h];rfl
structure AW (K:W.Frag) (H:Hp) (kvs:List (List Key × V)) (n m:Nat):Prop where
 has:∀ key:List Int,(M7 kvs (key.map Sum.inl)).isSome=true↔∃ q,q<m/\tal n (C4 (j5 n) q)=key
 val:∀ (key:List Int) (v:V),M7 kvs (key.map Sum.inl)=some v->∃ l us,v=.ref l/\H l=some (.lst us)/\Wls K H us (wks n key m)
 inj:∀ (key key':List Int) (l:Addr),M7 kvs (key.map Sum.inl)=some (.ref l)->M7 kvs (key'.map Sum.inl)=some (.ref l)->key=key'
 keys:∀ kv∈kvs,∃ q,q<m/\kv.1=(tal n (C4 (j5 n) q)).map Sum.inl
 len:kvs.length<=m
theorem AW.same {K:W.Frag}(h:AW K H kvs n m)(s:o7 H H'):AW K H' kvs n m:=
 ⟨h.has,fun key v e=>let ⟨l,us,e1,e2,e3⟩:=h.val key v e;⟨l,us,e1,s _ _ e2,e3.same s⟩,h.inj,h.keys,h.len⟩
theorem bE6 {k:List Key}{v:V}:∀ kv∈putK kvs k v,kv∈kvs\/kv.1=k:=fun kv hm=>by
 by_cases e:kv.1=k
 ·exact .inr e
 ·left
  unfold putK at hm
  split at hm
  ·obtain⟨x,hx,hxe⟩:=m6.mp hm
   split at hxe
   ·rename_i hk
    rw[<- hxe]at e;exact absurd hk e
   ·rw[<- hxe];exact hx
  ·rcases l9.mp hm with h | h
   ·exact h
   ·rw[j0.mp h]at e;exact absurd rfl e
theorem rep0 (n:Nat):(o8 n [V.int 0]).flatten=(tal n []).map V.int:=by
 rw[bD2]
 exact bL8 n 0
theorem SqT.updD {K:W.Frag}{d:Addr}{o:HO}(h:SqT K H a ys)(hd:H d=some (.dT kvs)):SqT K (upd H d o) a ys:=by
 rcases h with(h | ⟨u,h⟩) | h
 ·exact .inl (.inl (by rw[m9 (fun z=>by rw[z,hd]at h;cases h)];exact h))
 ·exact .inl (.inr ⟨u,by rw[m9 (fun z=>by rw[z,hd]at h;cases h)];exact h⟩)
 ·exact .inr h
theorem y7.updD {K:W.Frag}{d:Addr}{o:HO}(hd:H d=some (.dT kvs)):∀ {ys:List V} {ks:List (List Int)},y7 K H ys ks->y7 K (upd H d o) ys ks
 | _,_,.nil=>.nil
 | _,_,.cons r t=>by
  obtain⟨a,h1,h2⟩:=r
  exact .cons ⟨a,h1,SqT.updD h2 hd⟩ (y7.updD hd t)
theorem Wls.updD {K:W.Frag}{d:Addr}{o:HO}(h:Wls K H us ws)(hd:H d=some (.dT kvs)):Wls K (upd H d o) us ws:=
 ⟨h.1,fun i u T e1 e2=>let ⟨a,x,ys,y1,y2⟩:=h.2 i u T e1 e2;⟨a,x,ys,SqT.updD y1 hd,y7.updD hd y2⟩⟩
structure AX (K:W.Frag) (H:Hp) (kvs:List (List Key × V)) (n m:Nat):Prop where
 has:∀ key:List Int,(M7 kvs (key.map Sum.inl)).isSome=true↔∃ q,q<m+1/\tal n (C4 (j5 n) q)=key
 val:∀ (key:List Int) (v:V),M7 kvs (key.map Sum.inl)=some v->∃ l us,v=.ref l/\H l=some (.lst us)/\Wls K H us (wks n key m)
 inj:∀ (key key':List Int) (l:Addr),M7 kvs (key.map Sum.inl)=some (.ref l)->M7 kvs (key'.map Sum.inl)=some (.ref l)->key=key'
 keys:∀ kv∈kvs,∃ q,q<m+1/\kv.1=(tal n (C4 (j5 n) q)).map Sum.inl
 len:kvs.length<=m+1
theorem AX.same {K:W.Frag}(h:AX K H kvs n m)(s:o7 H H'):AX K H' kvs n m:=
 ⟨h.has,fun key v e=>let ⟨l,us,e1,e2,e3⟩:=h.val key v e;⟨l,us,e1,s _ _ e2,e3.same s⟩,h.inj,h.keys,h.len⟩
theorem be0 (n:Nat)(ts:List Int)(k:Nat):(wks n ts k).length<=k:=by
 unfold wks
 rw[a9]
 have:=L0 (fun m=>decide (tal n (C4 (j5 n) m)=ts)) (x6 k)
 rw[F9]at this
 exact this
theorem AX.step {K:W.Frag}(h:AX K H kvs n m)(hv:M7 kvs ((tal n (C4 (j5 n) m)).map Sum.inl)=some (.ref l))(hl:H l=some (.lst us))(hw:Wls K H us (wks n (tal n (C4 (j5 n) m)) m))(ht:TTa K H a (C4 (j5 n) m)) :
  AW K (upd H l (.lst (us++[.ref a]))) kvs n (m+1):=by
 refine⟨h.has,fun key v e=>?_,h.inj,h.keys,h.len⟩
 by_cases hk:tal n (C4 (j5 n) m)=key
 ·subst hk
  rw[hv]at e
  cases e
  refine⟨l,us++[.ref a],rfl,b8,?_⟩
  rw[aQ7,if_pos rfl]
  exact(hw.updL hl).snoc (ht.updL hl)
 ·obtain⟨l2,us2,rfl,e2,e3⟩:=h.val key v e
  have hne:l2≠l:=fun z=>hk (by rw[z]at e;exact(h.inj _ _ _ e hv).symm)
  refine⟨l2,us2,rfl,by rw[m9 hne];exact e2,?_⟩
  rw[aQ7,if_neg hk,G2]
  exact e3.updL hl
theorem AW.toX {K:W.Frag}(h:AW K H kvs n m)(hs:(M7 kvs ((tal n (C4 (j5 n) m)).map Sum.inl)).isSome=true):AX K H kvs n m:=by
 refine⟨fun key=>(h.has key).trans ⟨fun⟨q,h1,h2⟩=>⟨q,by omega,h2⟩,fun⟨q,h1,h2⟩=>?_⟩,h.val,h.inj,fun kv hk=>let ⟨q,h1,h2⟩:=h.keys kv hk;⟨q,by omega,h2⟩,Nat.le_succ_of_le h.len⟩
 by_cases e:q=m
 ·have:=(h.has (tal n (C4 (j5 n) m))).mp hs
  rw[e]at h2
  rw[h2]at this
  exact this
 ·exact⟨q,by omega,h2⟩
theorem AW.fresh {K:W.Frag}(h:AW K H kvs n m)(hno:M7 kvs ((tal n (C4 (j5 n) m)).map Sum.inl)=none)(hl:H l=some (.lst []))(hfr:∀ key w,M7 kvs ((key:List Int).map Sum.inl)=some w->w≠.ref l) :
  AX K H (putK kvs ((tal n (C4 (j5 n) m)).map Sum.inl) (.ref l)) n m:=by
 have none_wks:wks n (tal n (C4 (j5 n) m)) m=[]:=by
  unfold wks
  rw[List.map_eq_nil_iff,bp9]
  intro q hq hdq
  have:=(h.has (tal n (C4 (j5 n) m))).mpr ⟨q,A1.mp hq,of_decide_eq_true hdq⟩
  rw[hno]at this
  cases this
 refine⟨fun key=>?_,fun key w e=>?_,fun key key' l2 e1 e2=>?_,fun kv hk=>?_,n8 (ag7 _ _ _) (Nat.succ_le_succ h.len)⟩
 ·rw[af4]
  by_cases hkey:key=tal n (C4 (j5 n) m)
  ·rw[if_pos (by rw[hkey])]
   exact⟨fun _=>⟨m,by omega,hkey.symm⟩,fun _=>rfl⟩
  ·rw[if_neg (fun z=>hkey (ad1 z))]
   refine(h.has key).trans ⟨fun⟨m',h1,h2⟩=>⟨m',by omega,h2⟩,fun⟨m',h1,h2⟩=>?_⟩
   by_cases e:m'=m
   ·rw[e]at h2;exact absurd h2.symm hkey
   ·exact⟨m',by omega,h2⟩
 ·rw[af4]at e
  by_cases hkey:key=tal n (C4 (j5 n) m)
  ·rw[if_pos (by rw[hkey])]at e
   cases e
   refine⟨l,[],rfl,hl,?_⟩
   rw[hkey,none_wks]
   exact⟨rfl,fun i u T e1=>by cases e1⟩
  ·rw[if_neg (fun z=>hkey (ad1 z))]at e
   exact h.val key w e
 ·rw[af4]at e1 e2
  by_cases k1:key=tal n (C4 (j5 n) m)
  ·by_cases k2:key'=tal n (C4 (j5 n) m)
   ·rw[k1,k2]
   ·rw[if_pos (by rw[k1])]at e1
    rw[if_neg (fun z=>k2 (ad1 z))]at e2
    cases e1
    exact absurd rfl (hfr key' _ e2)
  ·by_cases k2:key'=tal n (C4 (j5 n) m)
   ·rw[if_neg (fun z=>k1 (ad1 z))]at e1
    rw[if_pos (by rw[k2])]at e2
    cases e2
    exact absurd rfl (hfr key _ e1)
   ·rw[if_neg (fun z=>k1 (ad1 z))]at e1
    rw[if_neg (fun z=>k2 (ad1 z))]at e2
    exact h.inj key key' l2 e1 e2
 ·rcases bE6 kv hk with hm | hm
  ·obtain⟨q,h1,h2⟩:=h.keys kv hm
   exact⟨q,by omega,h2⟩
  ·exact⟨m,by omega,hm⟩
seal L2.PE L2.PA L2.PS L2.PSs L2.PT
section
variable {K:W.Frag} {base:Heap}
def br5 (K:W.Frag):Sp:=fun vs H Q _=>∃ n:Nat,vs=[.int n]/\1<=n/\n<=5/\∀ (d:Addr) (kvs:List (List Key × V)) (H':Hp),o7 H H'->H d=none->H' d=some (.dT kvs)->AW K H' kvs n (2 ^ (j5 n).length)->Q (.ref d) H'
theorem ag1:v7 ["places","pairs","webs","number","counts","ties","k","pair"] ["places"] (d8 au6):=.mk'
set_option maxHeartbeats 4000000 in
theorem bH0 {fP:Addr} {fdP:FuncData} (F:Fun K "_law_all_webs" "_law_all_webs" au6 f fd) (B:Bn mg) (FP:Fun K "_law_pairs" "_law_pairs" ac3 fP fdP) (bP:Binds K fdP ["places"] []) (mP:mg "_law_pairs"=some (.ref fP)):o4 P w K mg base CX0 2 f fd ["places"] (br5 K):=by
 have GP:o4 P w K mg base CX0 1 fP fdP ["places"] (aK6 K):=aT6 FP B
 refine F.ok ag1 (fun cdv A outer s H vs Q E hr h=>?_)
 obtain⟨n,rfl,n1,n2,q⟩:=h
 have hsl:=ay9
 have hlen:=aH0 n (by omega)
 have hpw:=ai4 n (by omega)
 refine⟨_,c7 (A3 (i:=1) ag1.nd rfl (Or.inl rfl) (j8 GP hr (by rfl) mP FP.kp bP .nil E4 (a6 (pv 0) b7)))
  (c7 (A3 (i:=2) ag1.nd rfl (Or.inl rfl) bt6)
  (c7 (Q9 PassesOwn.never rfl (ai5 rfl B.range (a6 (v8 bS3 c8 (m7 o6 (by rfl) B.len PySem.boot_len (a6 (pv 1) b7))) b7)) (B1 (i := 3) ag1.nd rfl (Or.inl rfl))
   (c7 (A3 (i:=4) ag1.nd rfl (Or.inl rfl) (v8 aN1 (K7 (a6 c8 b7)) (pv 0)))
   (c7 (A3 (i:=5) ag1.nd rfl (Or.inl rfl) (K7 b7))
   (c7 (Q9 PassesOwn.never rfl (aM5 (by rfl) B.enum (a6 (pv 1) b7)) (al1 rfl (J7 (B1 (i := 6) ag1.nd rfl (Or.inl rfl)) (J7 (B1 (i := 7) ag1.nd rfl (Or.inl rfl)) ac8)))
    (i5 (E3 (A0 R0 (v8 bS5 (v8 bS2 (pv 3) (pv 6)) c8) c8 (A9 _))
     (c7 (ac6 (v8 N6 (x9 F6 (pv 4) (x9 y9 (pv 7) c8 (fun _ _=>rfl)) (fun _ _=>rfl)) c8) (ar6 (pv 4) (x9 y9 (pv 7) c8 (fun _ _=>rfl)) set_list))
     (c7 (ac6 (v8 N6 (x9 F6 (pv 4) (x9 y9 (pv 7) c8 (fun _ _=>rfl)) (fun _ _=>rfl)) c8) (ar6 (pv 4) (x9 y9 (pv 7) c8 (fun _ _=>rfl)) set_list))
     (i5 (D6 (ae2 PySem.F.plainAttrs_list PySem.F.slot_list_append PySem.F.type_list_append F1 (pv 5) (a6 (pv 7) b7)))))) A4)))
   (ai3 (E3 (bR5 (bl4 (aB0 hr) (D3 C8 (by rfl) B.tuple (by rfl) (a6 (pv 4) b7)) (pv 2))) (i5 (bE8 (aB0 hr) (pv 2) (D3 C8 (by rfl) B.tuple (by rfl) (a6 (pv 4) b7)) (K7 b7) rfl)) A4)
   (i5 (D6 (ae2 PySem.F.plainAttrs_list PySem.F.slot_list_append PySem.F.type_list_append F1 (aM8 (aB0 hr) (pv 2) (D3 C8 (by rfl) B.tuple (by rfl) (a6 (pv 4) b7)) (fun _ _=>rfl)) (a6 (D3 C8 (by rfl) B.tuple (by rfl) (a6 (pv 5) b7)) b7)))))))))
  (i5 (u9 (pv 2))))),?_⟩
 refine⟨_,rfl,n,rfl,by omega,fun l1 zs H1 s1 f1 g1 t1=>?_⟩
 have hz:=t1.len
 refine fun d fd=>?_
 have s2:=c9 (o:=.dT []) fd
 have fdH:H d=none:=s1.free fd
 have g2:=s2 _ _ g1
 have hpI:((2 ^ (j5 n).length:Nat):Int)<=1024:=by
  generalize 2 ^ (j5 n).length=q at hpw
  omega
 have hp0:(0:Int)<=((2 ^ (j5 n).length:Nat):Int):=aD4 _
 have hp62:((2 ^ (j5 n).length:Nat):Int)<2 ^ 62:=Int.lt_of_le_of_lt hpI (by decide)
 refine⟨_,rfl,l1,_,rfl,.inl (SqL.of g2),_,_,rfl,rfl,⟨by omega,by omega,by decide⟩,((2 ^ (j5 n).length:Nat):Int),?_,Int.le_trans (by decide) hp0,hp62,?_⟩
 ·show [V.int (1*2 ^ ((zs.length:Int)).toNat)]=_
  rw[aY2,i3,hz,Int.natCast_pow];rfl
 rw[i3]
 refine aa7 (lo:=0) (n:=2 ^ (j5 n).length) (fun m σ H2=>∃ (kvs:List (List Key × V)) (e3 e4 e5 e6 e7:Option V),σ=[some (.int n),some (.ref l1),some (.ref d),e3,e4,e5,e6,e7]/\o7 H1 H2/\H2 d=some (.dT kvs)/\AW K H2 kvs n m/\∀ (key:List Int) (l:Addr),M7 kvs (key.map Sum.inl)=some (.ref l)->H1 l=none)
  ⟨[],none,none,none,none,none,rfl,s2,b8,⟨fun key=>⟨fun h=>(by cases h),fun⟨m,hm,_⟩=>absurd hm (aq6 _)⟩,fun key v e=>(by cases e),fun key key' l e=>(by cases e),(fun kv hk=>absurd hk K6),c6 _⟩,fun key l e=>(by cases e)⟩ ?_ ?_
 ·rintro m σ H2 hm ⟨kvs,e3,e4,e5,e6,e7,rfl,sa,gd,hK,hfr⟩
  have e0:((0:Int)+(m:Int))=(m:Int):=by omega
  rw[e0]
  refine y6 ?_
  have hkl:=hK.len
  have hk:=bx4 (k:=(n:Int)) (by omega) (by omega)
  refine⟨(by show 1<=c5;decide),fun l0 f0=>⟨_,rfl,l0,_,_,rfl,rfl,b8,hk.1,hk.2,by show 1*_<=c5;omega,fun lc fc=>?_⟩⟩
  rw[i3,rep0]
  have s0:=c9 (o:=.lst [.int 0]) f0
  have s3:=s0.trans (c9 (o:=.lst ((tal n []).map V.int)) fc)
  have nld:d≠lc:=u0 (s0 _ _ gd) fc
  have fc1:H1 lc=none:=(sa.trans s0).free fc
  have fc2:H2 lc=none:=s0.free fc
  have gl3:(upd (upd H2 l0 (.lst [.int 0])) lc (.lst ((tal n []).map V.int))) lc=some (.lst ((tal n (C4 ((j5 n).take 0) m)).map V.int)):=b8
  generalize upd (upd H2 l0 (.lst [.int 0])) lc (.lst ((tal n []).map V.int))=H3 at s3 gl3
  refine⟨by show 0<=c5;omega,fun lt ft=>?_⟩
  have s4:=c9 (o:=.lst []) ft
  have ft1:H1 lt=none:=(sa.trans s3).free ft
  have ft2:H2 lt=none:=s3.free ft
  have nlt:lc≠lt:=u0 gl3 ft
  have gl4:=s4 _ _ gl3
  have gt4:(upd H3 lt (.lst [])) lt=some (.lst []):=b8
  have s24:=s3.trans s4
  generalize upd H3 lt (.lst [])=H4 at s24 gl4 gt4
  refine⟨_,rfl,l1,rfl,⟨_,SqL.of ((sa.trans s24) _ _ g1)⟩,aV7 (K:=K) (a:=l1) (xs:=zs) (fun i σ H5=>∃ e6 e7 ys,σ=[some (.int n),some (.ref l1),some (.ref d),some (.int (m:Int)),some (.ref lc),some (.ref lt),e6,e7]/\o7 H2 H5/\H5 lc=some (.lst ((tal n (C4 ((j5 n).take i) m)).map V.int))/\H5 lt=some (.lst ys)/\y7 K H5 ys (C4 ((j5 n).take i) m)/\ys.length<=i)
   ⟨e6,e7,[],rfl,s24,gl4,gt4,.nil,c6 _⟩ (fun i σ H5 _ ⟨_,_,_,_,s,_⟩=>SqL.of ((sa.trans s) _ _ g1)) ?_ ?_⟩
  ·rintro i x t σ H5 hx ⟨e6,e7,ys,rfl,sc,gl5,gt5,ty5,ly5⟩ ht
   obtain⟨pa,pk,rfl,hk',hq⟩:=t1.get hx
   obtain⟨u,v,huv,hvn,rfl⟩:=V9 (d5 hk')
   have st:=c9 (o:=.tup [.int i,.ref pa]) ht
   have sd:=sc.trans st
   have gl6:=st _ _ gl5
   have gt6:=st _ _ gt5
   have ty6:=st.tups ty5
   have q5:=(sa.trans sd).seqT hq
   have etk:=aF9 (j5 n) i m _ hk'
   have hil:i<zs.length:=(m4.mp hx).1
   refine⟨t,_,rfl,SqT.of b8,rfl,_,_,rfl,_,_,rfl,rfl,?_⟩
   generalize upd H5 t (.tup [.int i,.ref pa])=H6 at sd gl6 gt6 ty6 q5
   refine⟨_,rfl,_,rfl,_,_,rfl,rfl,by omega,_,_,rfl,rfl,rfl,_,rfl,?_⟩
   rw[bW3]
   have at0:atI (([(u:Int),(v:Int)]:List Int).map V.int) 0=some (.int u):=n9 (j:=0) rfl
   have at1:atI (([(u:Int),(v:Int)]:List Int).map V.int) 1=some (.int v):=n9 (j:=1) rfl
   by_cases hb:m / 2 ^ i % 2=1
   ·rw[decide_eq_true hb]
    rw[if_pos hb]at etk
    refine E7 ?_
    have t1':((tal n (C4 ((j5 n).take i) m)).map V.int)[u]?=some (.int (M3 (C4 ((j5 n).take i) m) u)):=by rw[r6,Q8 (by omega)];rfl
    have t2':(((tal n (C4 ((j5 n).take i) m)).map V.int).set u (.int ((M3 (C4 ((j5 n).take i) m) u:Int)+1)))[v]?=some (.int (M3 (C4 ((j5 n).take i) m) v)):=by
     rw[G8 (by omega),r6,Q8 hvn];rfl
    have lt':((tal n (C4 ((j5 n).take i) m)).map V.int).length=n:=by rw[a9,L9]
    refine⟨_,rfl,_,rfl,pa,_,_,_,rfl,rfl,q5,at0,lc,_,_,_,rfl,rfl,SqL.of gl6,n9 t1',_,_,rfl,rfl,_,rfl,_,rfl,pa,_,_,_,rfl,rfl,q5,at0,lc,_,_,u,rfl,rfl,gl6,by rw[lt'];exact V2 (by omega),?_⟩
    have q6:=q5.updL (zs:=((tal n (C4 ((j5 n).take i) m)).map V.int).set u (.int ((M3 (C4 ((j5 n).take i) m) u:Int)+1))) gl6
    refine⟨_,rfl,_,rfl,pa,_,_,_,rfl,rfl,q6,at1,lc,_,_,_,rfl,rfl,SqL.of b8,n9 t2',_,_,rfl,rfl,_,rfl,_,rfl,pa,_,_,_,rfl,rfl,q6,at1,lc,_,_,v,rfl,rfl,b8,by rw[A5,lt'];exact V2 hvn,?_⟩
    rw[am3]
    have el:(((tal n (C4 ((j5 n).take i) m)).map V.int).set u (.int ((M3 (C4 ((j5 n).take i) m) u:Int)+1))).set v (.int ((M3 (C4 ((j5 n).take i) m) v:Int)+1))=(tal n (C4 ((j5 n).take (i+1)) m)).map V.int:=by
     rw[etk,<- aK0 (n:=n) (i:=u) (j:=v) (by omega) hvn (by omega) (C4 ((j5 n).take i) m) _ _ rfl rfl,X5,X5]
    rw[el]
    have gt7:(upd H6 lc (.lst ((tal n (C4 ((j5 n).take (i+1)) m)).map V.int))) lt=some (.lst ys):=by rw[m9 (Ne.symm nlt)];exact gt6
    refine⟨_,rfl,.inl ⟨rfl,_,SqL.of gt7⟩,_,rfl,lt,ys,_,rfl,rfl,gt7,by omega,?_⟩
    refine⟨_,_,ys++[.ref pa],rfl,(sd.upd fc2).upd ft2,by rw[m9 nlt,b8],b8,?_,by rw[j6,P6];omega⟩
    have ty7:=y7.updL (zs:=ys++[.ref pa]) gt7 (y7.append (y7.updL (zs:=(tal n (C4 ((j5 n).take (i+1)) m)).map V.int) gl6 ty6) (y7.one (q5.updL gl6)))
    generalize upd (upd H6 lc _) lt _=H7 at ty7 ⊢
    rw[etk]
    exact ty7
   ·rw[decide_eq_false hb]
    rw[if_neg hb,G2]at etk
    refine E8 ⟨_,_,ys,rfl,sd,?_,gt6,?_,by omega⟩
    ·rw[etk];exact gl6
    ·rw[etk];exact ty6
  ·rintro σ H5 ⟨e6',e7',ys,rfl,sc,gl5,gt5,ty5,ly5⟩
   rw[l6 (by omega)]at gl5 ty5
   have gd5:=sc _ _ gd
   have K5:=hK.same sc
   have fd2:H1 d=none:=fd
   refine⟨fun σ Hn=>∃ kvs',σ=[some (.int n),some (.ref l1),some (.ref d),some (.int (m:Int)),some (.ref lc),some (.ref lt),e6',e7']/\o7 H1 Hn/\Hn d=some (.dT kvs')/\Hn lc=some (.lst ((tal n (C4 (j5 n) m)).map V.int))/\Hn lt=some (.lst ys)/\y7 K Hn ys (C4 (j5 n) m) /\
    AX K Hn kvs' n m/\(M7 kvs' ((tal n (C4 (j5 n) m)).map Sum.inl)).isSome=true/\∀ (key:List Int) (l:Addr),M7 kvs' (key.map Sum.inl)=some (.ref l)->H1 l=none,?_,?_⟩
   ·refine⟨_,rfl,lc,_,rfl,.inl ⟨SqL.of gl5,fun tu ftu=>?_⟩⟩
    have su:=c9 (o:=.tup ((tal n (C4 (j5 n) m)).map V.int)) ftu
    refine⟨_,rfl,d,_,rfl,at4.t (k:=(tal n (C4 (j5 n) m)).map Sum.inl) (su _ _ gd5) (by rw[ag8];exact b8),_,rfl,?_⟩
    cases hv:M7 kvs ((tal n (C4 (j5 n) m)).map Sum.inl) with
    | some w =>
     refine E8 ⟨kvs,rfl,sa.trans (sc.trans su),su _ _ gd5,su _ _ gl5,su _ _ gt5,su.tups ty5,(K5.same su).toX (by rw[hv];rfl),by rw[hv];rfl,hfr⟩
    | none =>
     refine E7 ⟨by show 0<=c5;omega,fun nl fnl=>?_⟩
     have sn:=c9 (o:=.lst []) fnl
     refine⟨_,rfl,_,rfl,lc,_,rfl,.inl ⟨SqL.of ((su.trans sn) _ _ gl5),fun tv ftv=>?_⟩⟩
     have sv:=c9 (o:=.tup ((tal n (C4 (j5 n) m)).map V.int)) ftv
     have s5v:=su.trans (sn.trans sv)
     have gdv:=s5v _ _ gd5
     refine⟨d,_,rfl,bz7.t (k:=(tal n (C4 (j5 n) m)).map Sum.inl) (v:=.ref nl) gdv (by rw[ag8];exact b8) (by omega),?_⟩
     have gnl:(upd (upd (upd H5 tu (.tup ((tal n (C4 (j5 n) m)).map V.int))) nl (.lst [])) tv (.tup ((tal n (C4 (j5 n) m)).map V.int))) nl=some (.lst []):=sv _ _ b8
     have fr5:H5 nl=none:=su.free fnl
     have fr1:H1 nl=none:=(sa.trans sc).free fr5
     have hx:=(K5.same s5v).fresh hv gnl fun key w e z=>by
      obtain⟨l2,us,rfl,e2,_⟩:=K5.val key w e
      injection z with z
      rw[z,fr5]at e2
      cases e2
     have ne:∀ {b:Addr} {xs:List V},(upd (upd (upd H5 tu (.tup ((tal n (C4 (j5 n) m)).map V.int))) nl (.lst [])) tv (.tup ((tal n (C4 (j5 n) m)).map V.int))) b=some (.lst xs)->b≠d:=fun {b xs} e z=>by rw[z,gdv]at e;cases e
     generalize upd (upd (upd H5 tu (.tup ((tal n (C4 (j5 n) m)).map V.int))) nl (.lst [])) tv (.tup ((tal n (C4 (j5 n) m)).map V.int))=H6 at s5v gdv gnl hx ne
     refine⟨_,rfl,((sa.trans sc).trans s5v).upd fd2,b8,by rw[m9 (ne (s5v _ _ gl5))];exact s5v _ _ gl5,by rw[m9 (ne (s5v _ _ gt5))];exact s5v _ _ gt5,y7.updD gdv (s5v.tups ty5),⟨hx.has,fun key w e=>?_,hx.inj,hx.keys,hx.len⟩,by rw[af4,if_pos rfl];rfl,fun key l e=>?_⟩
     ·obtain⟨l2,us,e1,e2,e3⟩:=hx.val key w e
      exact⟨l2,us,e1,by rw[m9 (ne e2)];exact e2,e3.updD gdv⟩
     ·rw[af4]at e
      split at e
      ·cases e;exact fr1
      ·exact hfr key l e
   ·rintro σ' Hn ⟨kvs',rfl,sN,gdN,glN,gtN,tyN,X,hsome,hfr'⟩
    obtain⟨w,hw⟩:=u4.mp hsome
    obtain⟨l,us,rfl,gl,wl⟩:=X.val _ _ hw
    refine⟨_,rfl,_,rfl,lc,_,rfl,.inl ⟨SqL.of glN,fun tu ftu=>?_⟩⟩
    have su:=c9 (o:=.tup ((tal n (C4 (j5 n) m)).map V.int)) ftu
    refine⟨d,.ref l,rfl,by rw[<- hw];exact at4.t (k:=(tal n (C4 (j5 n) m)).map Sum.inl) (su _ _ gdN) (by rw[ag8];exact b8),?_⟩
    refine⟨.inl ⟨rfl,_,SqL.of (su _ _ gl)⟩,_,rfl,lt,_,rfl,.inl ⟨SqL.of (su _ _ gtN),fun tt ftt=>?_⟩⟩
    have st:=c9 (o:=.tup ys) ftt
    have sut:=su.trans st
    have hul:=wl.1
    have hwl:=be0 n (tal n (C4 (j5 n) m)) m
    have gl2:=sut _ _ gl
    refine⟨l,us,_,rfl,rfl,gl2,by omega,?_⟩
    have hA:=(X.same sut).step (a:=tt) hw gl2 (wl.same sut) ⟨ys,SqT.of b8,sut.tups tyN⟩
    have hld:d≠l:=fun z=>by rw[<- z,gdN]at gl;cases gl
    refine⟨kvs',_,_,_,_,_,rfl,(sN.trans sut).upd (hfr' _ l hw),by rw[m9 hld];exact sut _ _ gdN,hA,hfr'⟩
 ·rintro σ H2 ⟨kvs,e3,e4,e5,e6,e7,rfl,sa,gd,hK,_⟩
  exact⟨_,rfl,q d kvs H2 (s1.trans sa) fdH gd hK⟩
end
end Web
namespace Web
open PySem L2
open Grf (Gph deg)
theorem bO5 (p z:Int):p∈up [p,z]:=by
 show p∈[if z<p then z else p,if z > p then z else p]
 by_cases h:z<p
 ·rw[if_pos h,if_neg (by omega)];simp
 ·rw[if_neg h];simp
theorem bU1 {p q:Nat}{es:List Int}(nd:es.Nodup)(hq:(q:Int)∉es)(hsub:∀ z∈es,up [(p:Int),z]∈ks)(hc:M3 ks p=es.length):up [(p:Int),(q:Int)]∉ks:=fun hm=>by
 have nd2:(es++[(q:Int)]).Nodup:=ah5.mpr ⟨nd,by simp,fun a ha b hb e=>hq (by rw[<- j0.mp hb,<- e];exact ha)⟩
 have l1:((es++[(q:Int)]).map fun z=>up [(p:Int),z]).Nodup:=E5.mpr (nd2.imp fun h e=>h (by
  rcases up_eq e with z | z
  ·exact z.2
  ·exact z.2.trans z.1))
 have:=an9 l1 (m:=ks.filter fun k=>decide ((p:Int)∈k)) fun x hx=>by
  obtain⟨z,hz,rfl⟩:=m6.mp hx
  refine C5.mpr ⟨?_,decide_eq_true (bO5 _ _)⟩
  rcases l9.mp hz with m | m
  ·exact hsub z m
  ·rw[j0.mp m];exact hm
 rw[a9,j6,P6,<- aQ0]at this
 have e:aw2 (fun k=>decide ((p:Int)∈k)) ks=es.length:=hc
 omega
theorem aG5 (zs:List Int)(p q:Nat):U8 [(p:Int),(q:Int)] zs=S7 zs p q:=rfl
structure Tld (n:Nat) (ks:List (List Int)):Prop where
 ups:∀ k∈ks,Up n k
 nd:ks.Nodup
 srt:ks.Pairwise (fun a b=>Tim.F2 b a=false)
structure aF2 (K:W.Frag) (H:Hp) (r:Addr) (ns:List Int) (ks:List (List Int)):Prop where
 at_:∃ t zs,H r=some (.tup [.int ns.length,.ref t])/\H t=some (.tup zs)/\y7 K H zs ks
 told:Tld ns.length ks
 tal:tal ns.length ks=ns
theorem aF2.grow {K:W.Frag}{PT r:Addr}(h:aF2 K H r ns ks)(g:G5 PT H H')(t:Tb PT H):aF2 K H' r ns ks:=by
 obtain⟨u,zs,h1,h2,h3⟩:=h.at_
 obtain⟨ps,hP,hx⟩:=id t
 exact⟨⟨u,zs,g _ _ (fun z=>by rw[z,hP]at h1;cases h1) h1,g _ _ (fun z=>by rw[z,hP]at h2;cases h2) h2,aa6 g t h3⟩,h.told,h.tal⟩
theorem aF2.same {K:W.Frag}{r:Addr}(h:aF2 K H r ns ks)(s:o7 H H'):aF2 K H' r ns ks:=by
 obtain⟨u,zs,h1,h2,h3⟩:=h.at_
 exact⟨⟨u,zs,s _ _ h1,s _ _ h2,s.tups h3⟩,h.told,h.tal⟩
seal L2.PE L2.PA L2.PS L2.PSs L2.PT
section
variable {K:W.Frag} {base:Heap}
def be7:Sp:=fun vs H Q _=>∃ n i j:Nat,vs=[.int n,.int i,.int j]/\i<n/\j<n/\i≠j/\Q .non H
theorem cc2:v7 ["places","one","other"] ["places","one","other"] (d8 aL9):=.mk'
theorem bU0 {fC fI:Addr}{fdC:FuncData}(F:Fun K "check_pair" "check_pair" aL9 f fd)(FC:Fun K "check_place" "check_place" aE9 fC fdC)(bC:Binds K fdC ["places","number"] [])(mC:mg "check_place"=some (.ref fC))(FI:Fun K "is_place" "is_place" ar3 fI fdI)(bI:Binds K fdI ["places","number"] [])(mI:mg "is_place"=some (.ref fI))
  (mN:mg "NoPlace"=some (.ref CN))(cN:S8 K CN):o4 P w K mg base CX0 3 f fd ["places","one","other"] be7:=by
 have GC:o4 P w K mg base (CXE P w) 2 fC fdC ["places","number"] (aK9 CN):=aN4 FC FI bI mI mN cN
 refine F.ok cc2 (fun cdv A outer s H vs Q E hr h=>?_)
 obtain⟨n,i,j,rfl,hi,hj,hij,q⟩:=h
 refine⟨_,c7 (D6 (j8 GC hr (by rfl) mC FC.kp bC .nil (R7 (P:=P) (w:=w)) (a6 (pv 0) (a6 (pv 1) b7))))
  (c7 (D6 (j8 GC hr (by rfl) mC FC.kp bC .nil (R7 (P:=P) (w:=w)) (a6 (pv 0) (a6 (pv 2) b7))))
  (i5 (E3 (A0 R0 (pv 1) (pv 2) (A9 _)) aa3 A4))),?_⟩
 refine⟨_,rfl,_,rfl,n,i,rfl,fun _=>?_,fun h=>absurd ⟨by omega,by omega⟩ h⟩
 refine⟨_,rfl,_,rfl,n,j,rfl,fun _=>?_,fun h=>absurd ⟨by omega,by omega⟩ h⟩
 refine⟨_,rfl,_,rfl,rfl,_,rfl,?_⟩
 rw[decide_eq_false (show ¬ (V.int (i:Int)=V.int (j:Int)) from fun z=>hij (by injection z with z;omega))]
 exact E8 q
def bk9 (K:W.Frag)(PT:Addr)(b:Bool):Sp:=fun vs H Q _=>∃ (a:Addr) (ns:List Int) (i j:Nat) (g:Nat->Nat->Bool),vs=[.ref a,.int i,.int j]/\Sq K H a ns/\O9 ns/\ns.length<=11/\i<ns.length/\j<ns.length/\i≠j/\Gph g/\(∀ v,v<ns.length->deg ns.length g v=ns.getD v 0)/\g i j=b/\Tb PT H /\
 ∀ (r:Addr) (ks:List (List Int)) (H':Hp),G5 PT H H'->Tb PT H'->aF2 K H' r ns ks->decide (up [(i:Int),(j:Int)]∈ks)=b->Q (.ref r) H'
theorem br9:v7 ["tally","one","other","ends"] ["tally","one","other"] (d8 au0):=.mk'
theorem bQ1:v7 ["tally","one","other"] ["tally","one","other"] (d8 at9):=.mk'
set_option maxHeartbeats 1000000 in
theorem bG1 {fY PT:Addr}{fdY:FuncData}(F:Fun K "laid_with" "laid_with" au0 f fd)(FF:Fun K "first_of_order" "first_of_order" Z5 fF fdF)(bF:Binds K fdF ["tally","many","passed_over"] [])(mF:mg "first_of_order"=some (.ref fF))(GF:o4 P w K mg base (CXE P w) 3 fF fdF ["tally","many","passed_over"] (ac0 K PT))
  (FY:Fun K "laid_around" "laid_around" an1 fY fdY)(bY:Binds K fdY ["tally","place","ends"] [])(mY:mg "laid_around"=some (.ref fY))(GY:o4 P w K mg base CX0 4 fY fdY ["tally","place","ends"] (aK8 K PT)):o4 P w K mg base CX0 5 f fd ["tally","one","other"] (bk9 K PT true):=by
 have GF':o4 P w K mg base (CXE P w) 4 fF fdF ["tally","many","passed_over"] (ac0 K PT):=GF.mono (by decide)
 refine F.ok br9 (fun cdv A outer s H vs Q E hr h=>?_)
 obtain⟨a,ns,i,j,g,rfl,hS,ht,h11,hi,hj,hij,hg,hd,hb,tb,q⟩:=h
 have hsl:=M8
 refine⟨_,c7 (A3 (i:=3) br9.nd rfl (Or.inl rfl) (j8 GF' hr (by rfl) mF FF.kp bF .nil (R7 (P:=P) (w:=w)) (a6 (pv 0) (a6 (v8 az7 (ba4 K rfl (pv 0) (pv 1) (fun _ _=>rfl)) c8) (a6 (K7 (a6 (pv 1) (a6 (pv 2) b7))) b7)))))
  (i5 (u9 (j8 GY hr (by rfl) mY FY.kp bY .nil E4 (a6 (pv 0) (a6 (pv 1) (a6 (v8 bb1 (pv 3) (K7 (a6 (pv 2) b7))) b7)))))),?_⟩
 refine⟨_,rfl,_,rfl,_,rfl,aH2 hS hi ⟨_,_,rfl,rfl,_,rfl,_,rfl,(by show 2<=c5;decide),fun pl fpl=>?_⟩⟩
 have s1:=c9 (o:=.lst [.int (i:Int),.int (j:Int)]) fpl
 have tb1:=tb.same s1
 have h0:1<=ns.getD i 0:=by
  rw[<- hd i hi]
  have:=Grf.aj5 (f:=fun v=>Grf.b2 (g i v)) hj (fun i _=>Grf.B2 _)
  have e:Grf.b2 (g i j)=1:=by rw[hb];rfl
  have t:Grf.b2 (g i j)<=deg ns.length g i:=this
  omega
 obtain⟨k,hk⟩:∃ k:Nat,ns.getD i 0 - 1=(k:Int):=⟨(ns.getD i 0 - 1).toNat,by omega⟩
 refine⟨a,pl,ns,[(i:Int),(j:Int)],k,by show [V.ref a,V.int (ns.getD i 0 - 1),V.ref pl]=_;rw[hk],hS.same s1,ht,SqL.of b8,tb1,fun zs D H2 g2 tb2 fD hp hs gD=>?_⟩
 rw[aG5]at gD
 obtain⟨_,hw⟩:=bI6 hg hd hb hi hj hij hp hs
 rw[hk,i3]at hw
 obtain⟨nd,he,hlen,hgr⟩:=hw _ rfl
 have hel:((S7 zs i j).take k++[(j:Int)]).length<=24:=by
  have h1:=aB2 ⟨g,hg,hd⟩ hi
  have:=ht.2
  omega
 refine⟨_,rfl,_,rfl,_,rfl,_,rfl,(by show 1<=c5;decide),fun l1 f1=>?_⟩
 have s3:=c9 (o:=.lst [.int (j:Int)]) f1
 refine⟨D,l1,_,_,rfl,rfl,s3 _ _ gD,b8,by rw[a9,P6];rw[j6]at hel;show _<=c5;simp at hel ⊢;omega,fun l2 f2=>?_⟩
 have s4:=c9 (o:=.lst (((S7 zs i j).take k).map V.int++[.int (j:Int)])) f2
 have e4:((S7 zs i j).take k).map V.int++[V.int (j:Int)]=((S7 zs i j).take k++[(j:Int)]).map V.int:=by rw[r9];rfl
 have s34:=s3.trans s4
 have g24:G5 PT H _:=((s1.grow PT).trans g2).trans (s34.grow PT)
 refine⟨a,l2,ns,(S7 zs i j).take k++[(j:Int)],i,rfl,hS.grow g24 tb,ht,h11,hi,by rw[<- e4];exact SqL.of b8,nd,hel,he,hlen,hgr,tb2.same s34,fun r t zs' ks H' gr' tb' k1 k2 tt pm so ta ups nd'=>?_⟩
 refine q r ks H' (g24.trans gr') tb' ⟨⟨t,zs',k1,k2,tt⟩,⟨ups,nd',so⟩,ta⟩ (decide_eq_true (pm.mem_iff.mpr ?_))
 refine m6.mpr ⟨[(i:Int),(j:Int)],l9.mpr (.inl ?_),rfl⟩
 exact m6.mpr ⟨(j:Int),l9.mpr (.inr (j0.mpr rfl)),rfl⟩
set_option maxHeartbeats 1000000 in
theorem bG0 {fY PT:Addr}{fdY:FuncData}(F:Fun K "laid_without" "laid_without" at9 f fd)(FF:Fun K "first_of_order" "first_of_order" Z5 fF fdF)(bF:Binds K fdF ["tally","many","passed_over"] [])(mF:mg "first_of_order"=some (.ref fF))(GF:o4 P w K mg base (CXE P w) 3 fF fdF ["tally","many","passed_over"] (ac0 K PT))
  (FY:Fun K "laid_around" "laid_around" an1 fY fdY)(bY:Binds K fdY ["tally","place","ends"] [])(mY:mg "laid_around"=some (.ref fY))(GY:o4 P w K mg base CX0 4 fY fdY ["tally","place","ends"] (aK8 K PT)):o4 P w K mg base CX0 5 f fd ["tally","one","other"] (bk9 K PT false):=by
 have GF':o4 P w K mg base (CXE P w) 4 fF fdF ["tally","many","passed_over"] (ac0 K PT):=GF.mono (by decide)
 refine F.ok bQ1 (fun cdv A outer s H vs Q E hr h=>?_)
 obtain⟨a,ns,i,j,g,rfl,hS,ht,h11,hi,hj,hij,hg,hd,hb,tb,q⟩:=h
 have hsl:=M8
 refine⟨_,i5 (u9 (j8 GY hr (by rfl) mY FY.kp bY .nil E4 (a6 (pv 0) (a6 (pv 1) (a6 (j8 GF' hr (by rfl) mF FF.kp bF .nil (R7 (P:=P) (w:=w)) (a6 (pv 0) (a6 (ba4 K rfl (pv 0) (pv 1) (fun _ _=>rfl)) (a6 (K7 (a6 (pv 1) (a6 (pv 2) b7))) b7)))) b7))))),?_⟩
 refine⟨_,rfl,_,rfl,_,rfl,_,rfl,_,rfl,aH2 hS hi ⟨_,rfl,_,rfl,(by show 2<=c5;decide),fun pl fpl=>?_⟩⟩
 have s1:=c9 (o:=.lst [.int (i:Int),.int (j:Int)]) fpl
 have tb1:=tb.same s1
 have h0:=ab0 (as2 ⟨g,hg,hd⟩) hi
 obtain⟨k,hk⟩:∃ k:Nat,ns.getD i 0=(k:Int):=⟨(ns.getD i 0).toNat,by omega⟩
 refine⟨a,pl,ns,[(i:Int),(j:Int)],k,by rw[hk];rfl,hS.same s1,ht,SqL.of b8,tb1,fun zs D H2 g2 tb2 fD hp hs gD=>?_⟩
 rw[aG5]at gD
 have hw:=bc5 hg hd hb hi hj hij hp hs
 rw[hk,i3]at hw
 obtain⟨nd,he,hlen,hqe,hgr⟩:=hw _ rfl
 have hlen':(((S7 zs i j).take k).length:Int)=ns.getD i 0:=by rw[hk];exact hlen
 have hel:((S7 zs i j).take k).length<=24:=by
  have h1:=aB2 ⟨g,hg,hd⟩ hi
  have:=ht.2
  omega
 have g12:G5 PT H H2:=(s1.grow PT).trans g2
 refine⟨a,D,ns,(S7 zs i j).take k,i,rfl,hS.grow g12 tb,ht,h11,hi,SqL.of gD,nd,hel,he,hlen',hgr,tb2,fun r t zs' ks H' gr' tb' k1 k2 tt pm so ta ups nd'=>?_⟩
 refine q r ks H' (g12.trans gr') tb' ⟨⟨t,zs',k1,k2,tt⟩,⟨ups,nd',so⟩,ta⟩ (decide_eq_false (bU1 nd hqe (fun z hz=>pm.mem_iff.mpr (m6.mpr ⟨[(i:Int),z],l9.mpr (.inl (m6.mpr ⟨z,hz,rfl⟩)),rfl⟩)) ?_))
 have e:=aR1 (n:=ns.length) (i:=i) (ks:=ks) hi
 rw[ta]at e
 omega
end
end Web
namespace Web
open PySem L2
open Grf (Gph deg)
theorem bv1 (hij:i≠j)(hi:i<ts.length)(hj:j<ts.length)(m:Int):Mvd ts (mv2 ts m [(i:Int),(j:Int)]) i j m:=by
 have e0:([(i:Int),(j:Int)]:List Int).getD 0 0=(i:Int):=rfl
 have e1:([(i:Int),(j:Int)]:List Int).getD 1 0=(j:Int):=rfl
 unfold mv2 mvd
 rw[e0,e1,i3,i3]
 refine⟨by rw[A5,A5],fun v hv=>?_⟩
 have g:∀ (xs:List Int) (k:Nat) (x:Int),k<xs.length->(xs.set k x).getD v 0=if v=k then x else xs.getD v 0:=fun xs k x hk=>by
  rw[i9,i9,V8]
  by_cases e:k=v
  ·rw[if_pos e,if_pos e.symm,if_pos hk];rfl
  ·rw[if_neg e,if_neg (Ne.symm e)]
 have g2:(ts.set i (ts.getD i 0+m)).getD j 0=ts.getD j 0:=by
  rw[i9,G8 (by omega),<- i9]
 rw[g _ _ _ (by rw[A5];exact hj),g2,g _ _ _ hi]
 by_cases c1:v=j
 ·rw[if_pos c1,if_neg (show ¬ v=i by omega),if_pos c1,c1];omega
 ·rw[if_neg c1,if_neg c1]
  by_cases c2:v=i
  ·rw[if_pos c2,if_pos c2,c2];omega
  ·rw[if_neg c2,if_neg c2];omega
theorem ai9 (ns:List Int)(m:Int)(k:List Int):(mv2 ns m k).length=ns.length:=by unfold mv2;rw[aN5,aN5]
theorem has_both (hij:i≠j)(hi:i<ns.length)(hj:j<ns.length)(h0:Gr ns) :
  (Gr (mv2 ns 1 [(i:Int),(j:Int)])->∃ g,Gph g/\(∀ v,v<ns.length->deg ns.length g v=ns.getD v 0)/\g i j=false)/\(Gr (mv2 ns (-1) [(i:Int),(j:Int)])->∃ g,Gph g/\(∀ v,v<ns.length->deg ns.length g v=ns.getD v 0)/\g i j=true):=by
 obtain⟨g,hg,dg⟩:=h0
 refine⟨fun⟨h,hh,dh⟩=>?_,fun⟨h,hh,dh⟩=>?_⟩
 ·have hm:=bv1 hij hi hj 1
  rw[hm.1]at dh
  exact aV4 hi hj hij hg dg hh fun v hv=>by rw[dh v hv];exact hm.2 v hv
 ·have hm:=bv1 hij hi hj (-1)
  have hl:=hm.1
  have hm':Mvd (mv2 ns (-1) [(i:Int),(j:Int)]) ns i j 1:=⟨hl.symm,fun v hv=>by
   rw[hl]at hv
   rw[hm.2 v hv]
   split<;>split<;>omega⟩
  obtain⟨f,hf,df,fij⟩:=aV4 (ns:=mv2 ns (-1) [(i:Int),(j:Int)]) (i:=i) (j:=j) (by omega) (by omega) hij hh dh hg fun v hv=>by rw[hl]at hv ⊢;rw[dg v hv];exact hm'.2 v (by omega)
  exact⟨Grf.O7 f i j true,Grf.J6 hf hij,aR7 hm' hij (by omega) (by omega) hf df (by rw[fij];rfl),Grf.am8⟩
seal L2.PE L2.PA L2.PS L2.PSs L2.PT
section
variable {K:W.Frag} {base:Heap}
def PTk (K:W.Frag)(PT:Addr)(ns:List Int)(i j:Nat)(H:Hp)(Q:VK):Prop:=
 (∀ (m:Int) (x:Str),(m=1/\x="all")\/(m = -1/\x="none"/\ad6 (mv2 ns 1 [(i:Int),(j:Int)]) .free)->¬ ad6 (mv2 ns m [(i:Int),(j:Int)]) .free->∀ (r p:Addr) (y:Wl) (H':Hp),G5 PT H H'->Tb PT H'->ad6 (mv2 ns m [(i:Int),(j:Int)]) y->y≠.free->H' r=some (.tup [.str x,.ref p])->H' p=some (.tup (wlT y))->Q (.ref r) H') /\
 (ad6 (mv2 ns 1 [(i:Int),(j:Int)]) .free->ad6 (mv2 ns (-1) [(i:Int),(j:Int)]) .free->∀ (r w1 w2:Addr) (k1 k2:List (List Int)) (H':Hp),G5 PT H H'->Tb PT H'->aF2 K H' w1 ns k1->aF2 K H' w2 ns k2->up [(i:Int),(j:Int)]∈k1->up [(i:Int),(j:Int)]∉k2->H' r=some (.tup [.str "some",.ref w1,.ref w2])->Q (.ref r) H')
def bP8 (K:W.Frag)(PT CW:Addr):Sp:=fun vs H Q E=>∃ (a:Addr) (ns:List Int) (i j:Nat),vs=[.ref a,.int i,.int j]/\Sq K H a ns/\O9 ns/\ns.length<=11/\i<ns.length/\j<ns.length/\i≠j/\Tb PT H/\(¬ ad6 ns .free->∀ H',o7 H H'->E (.ref CW) none H')/\(ad6 ns .free->PTk K PT ns i j H Q)
theorem bQ6:v7 ["tally","one","other","wall"] ["tally","one","other"] (d8 sPT):=.mk'
set_option maxHeartbeats 2000000 in
theorem cd3 {fH fP fW fM fL fO CW PT:Addr}{fdH fdP fdW fdM fdL fdO:FuncData}(F:Fun K "pair_told" "pair_told" sPT f fd)(B:Bn mg)(FH:Fun K "check_has_web" "check_has_web" aL7 fH fdH)(bH:Binds K fdH ["tally"] [])(mH:mg "check_has_web"=some (.ref fH))(GH:o4 P w K mg base (CXE P w) 5 fH fdH ["tally"] (be5 K CW))
  (FP:Fun K "check_pair" "check_pair" aL9 fP fdP)(bP:Binds K fdP ["places","one","other"] [])(mP:mg "check_pair"=some (.ref fP))(GP:o4 P w K mg base CX0 5 fP fdP ["places","one","other"] be7)
  (FW:Fun K "wall_of" "wall_of" am9 fW fdW)(bW:Binds K fdW ["tally"] [])(mW:mg "wall_of"=some (.ref fW))(GW:o4 P w K mg base (CXE P w) 5 fW fdW ["tally"] (aK2 K CB))
  (FM:Fun K "moved_both" "moved_both" aL6 fM fdM)(bM:Binds K fdM ["tally","one","other","more"] [])(mM:mg "moved_both"=some (.ref fM))(GM:o4 P w K mg base CX0 5 fM fdM ["tally","one","other","more"] (aR4 K))
  (FL:Fun K "laid_with" "laid_with" au0 fL fdL)(bL:Binds K fdL ["tally","one","other"] [])(mL:mg "laid_with"=some (.ref fL))(GL:o4 P w K mg base CX0 5 fL fdL ["tally","one","other"] (bk9 K PT true))
  (FO:Fun K "laid_without" "laid_without" at9 fO fdO)(bO:Binds K fdO ["tally","one","other"] [])(mO:mg "laid_without"=some (.ref fO))(GO:o4 P w K mg base CX0 5 fO fdO ["tally","one","other"] (bk9 K PT false)):o4 P w K mg base (CXE P w) 6 f fd ["tally","one","other"] (bP8 K PT CW):=by
 refine F.okX bQ6 (fun cdv A outer s H vs Q E hr h=>?_)
 obtain⟨a,ns,i,j,rfl,hS,ht,h11,hi,hj,hij,tb,qe,q⟩:=h
 have hsl:=M8
 refine⟨_,c7 (D6 (j8 GH hr (by rfl) mH FH.kp bH .nil Y5 (a6 (pv 0) b7)))
  (c7 (D6 (j8 GP hr (by rfl) mP FP.kp bP .nil E4 (a6 (m7 o6 (by rfl) B.len PySem.boot_len (a6 (pv 0) b7)) (a6 (pv 1) (a6 (pv 2) b7)))))
  (c7 (A3 (i:=3) bQ6.nd rfl (Or.inl rfl) (j8 GW hr (by rfl) mW FW.kp bW .nil (R7 (P:=P) (w:=w)) (a6 (j8 GM hr (by rfl) mM FM.kp bM .nil E4 (a6 (pv 0) (a6 (pv 1) (a6 (pv 2) (a6 c8 b7))))) b7)))
  (c7 (E3 (A0 aN2 (pv 3) aM7 (by rfl)) (i5 (u9 (v9 (a6 G0 (a6 (pv 3) b7))))) A4)
  (c7 (A3 (i:=3) bQ6.nd rfl (Or.inl rfl) (j8 GW hr (by rfl) mW FW.kp bW .nil (R7 (P:=P) (w:=w)) (a6 (j8 GM hr (by rfl) mM FM.kp bM .nil E4 (a6 (pv 0) (a6 (pv 1) (a6 (pv 2) (a6 (ak2 Z4 c8) b7))))) b7)))
  (c7 (E3 (A0 aN2 (pv 3) aM7 (by rfl)) (i5 (u9 (v9 (a6 G0 (a6 (pv 3) b7))))) A4)
  (i5 (u9 (v9 (a6 G0 (a6 (j8 GL hr (by rfl) mL FL.kp bL .nil E4 (a6 (pv 0) (a6 (pv 1) (a6 (pv 2) b7)))) (a6 (j8 GO hr (by rfl) mO FO.kp bO .nil E4 (a6 (pv 0) (a6 (pv 1) (a6 (pv 2) b7)))) b7))))))))))),?_⟩
 have tl2:∀ m:Int,O9 (mv2 ns m [(i:Int),(j:Int)]):=fun m=>⟨by rw[ai9];exact ht.1,by rw[ai9];exact ht.2⟩
 refine⟨_,rfl,a,ns,rfl,hS,ht,fun hf H1 s1=>?_,fun hn H1 s1=>qe hn H1 s1⟩
 obtain⟨qw,qs⟩:=q hf
 have hS1:=hS.same s1
 refine⟨_,rfl,a,_,rfl,hS1,_,rfl,_,rfl,ns.length,i,j,by rw[a9];rfl,hi,hj,hij,?_⟩
 refine⟨_,rfl,_,rfl,_,rfl,a,i,j,1,ns,rfl,hS1,ht,hi,hj,fun l2 H2 s2 f2 g2=>?_⟩
 refine⟨l2,_,rfl,.inl (SqL.of g2),fun _ v x H3 s3 hx3 hv3=>⟨_,rfl,rfl,_,rfl,?_⟩,fun h=>absurd (tl2 1) h⟩
 have s13:=s1.trans (s2.trans s3)
 rcases hv3 with⟨rfl,rfl⟩ | ⟨hx,p,rfl,gp⟩
 ·refine E8 ?_
  have hS3:=hS.same s13
  refine⟨_,rfl,_,rfl,_,rfl,_,rfl,a,i,j,-1,ns,rfl,hS3,ht,hi,hj,fun l4 H4 s4 f4 g4=>?_⟩
  refine⟨l4,_,rfl,.inl (SqL.of g4),fun _ v x H5 s5 hx5 hv5=>⟨_,rfl,rfl,_,rfl,?_⟩,fun h=>absurd (tl2 (-1)) h⟩
  have s15:=s13.trans (s4.trans s5)
  rcases hv5 with⟨rfl,rfl⟩ | ⟨hx,p,rfl,gp⟩
  ·refine E8 ?_
   obtain⟨b1,b2⟩:=has_both hij hi hj (aO3 hf)
   obtain⟨g,hg,dg,gij⟩:=b2 (aO3 hx5)
   obtain⟨g',hg',dg',gij'⟩:=b1 (aO3 hx3)
   have tb5:=tb.same s15
   refine⟨_,rfl,_,rfl,_,rfl,a,ns,i,j,g,rfl,hS.same s15,ht,h11,hi,hj,hij,hg,dg,gij,tb5,fun r1 k1 H6 g6 tb6 w1 d1=>?_⟩
   have g16:G5 PT H H6:=(s15.grow PT).trans g6
   refine⟨_,rfl,_,rfl,_,rfl,a,ns,i,j,g',rfl,hS.grow g16 tb,ht,h11,hi,hj,hij,hg',dg',gij',tb6,fun r2 k2 H7 g7 tb7 w2 d2=>?_⟩
   refine⟨by show 3<=c5;omega,fun r fr=>?_⟩
   have s8:=c9 (o:=.tup [.str "some",.ref r1,.ref r2]) fr
   exact qs hx3 hx5 r r1 r2 k1 k2 _ ((g16.trans g7).trans (s8.grow PT)) (tb7.same s8) ((w1.grow g7 tb6).same s8) (w2.same s8) (of_decide_eq_true d1) (of_decide_eq_false d2) b8
  ·refine E7 ⟨_,rfl,by show 2<=c5;omega,fun r fr=>?_⟩
   have s6:=c9 (o:=.tup [.str "none",.ref p]) fr
   exact qw (-1) "none" (.inr ⟨rfl,rfl,hx3⟩) (ar8 hx5 hx) r p x _ ((s15.trans s6).grow PT) (tb.same (s15.trans s6)) hx5 hx b8 (s6 _ _ gp)
 ·refine E7 ⟨_,rfl,by show 2<=c5;omega,fun r fr=>?_⟩
  have s6:=c9 (o:=.tup [.str "all",.ref p]) fr
  exact qw 1 "all" (.inl ⟨rfl,rfl⟩) (ar8 hx3 hx) r p x _ ((s13.trans s6).grow PT) (tb.same (s13.trans s6)) hx3 hx b8 (s6 _ _ gp)
end
end Web
namespace Web
open PySem L2
def aC4 (K:W.Frag)(H:Hp)(p:Addr)(n:Nat)(ks:List (List Int)):Prop:=∃ t zs,SqT K H p [.int n,.ref t]/\SqT K H t zs/\y7 K H zs ks
theorem aC4.same {K:W.Frag}{p:Addr}(h:aC4 K H p n ks)(s:o7 H H'):aC4 K H' p n ks:=by
 obtain⟨t,zs,h1,h2,h3⟩:=h
 exact⟨t,zs,s.seqT h1,s.seqT h2,s.tups h3⟩
theorem bH8 {a b:List Int}(ha:Up n a)(hb:Up n b)(hne:a≠b)(h:Tim.F2 b a=false):Tim.F2 a b=true:=by
 obtain⟨i,j,_,_,rfl⟩:=ha
 obtain⟨u,v,_,_,rfl⟩:=hb
 unfold Tim.F2 Tim.F2 at h ⊢
 by_cases e1:(u:Int)=i
 ·rw[if_pos e1]at h
  rw[if_pos e1.symm]
  by_cases e2:(v:Int)=j
  ·exact absurd (by rw[e1,e2]) hne
  ·rw[if_neg e2]at h
   rw[if_neg (Ne.symm e2)]
   have:=of_decide_eq_false h
   exact decide_eq_true (by omega)
 ·rw[if_neg e1]at h
  rw[if_neg (Ne.symm e1)]
  have:=of_decide_eq_false h
  exact decide_eq_true (by omega)
theorem bW5 (ups:∀ k∈ks,Up n k)(nd:ks.Nodup)(so:ks.Pairwise (fun a b=>Tim.F2 b a=false)):Asc ks:=by
 have h2:=K3.mp nd
 have h3:=so.and h2
 exact List.Pairwise.imp_of_mem (fun {a b} ha hb h=>bH8 (ups a ha) (ups b hb) h.2 h.1) h3
theorem aJ9:∀ {ks:List (List Int)},(∀ k∈ks,Up n k)->ks.map up=ks
 | [],_=>rfl
 | k::ks,h=>by
  rw[j9,aJ9 fun x hx=>h x (d4 _ hx)]
  rw[bZ7 (h k f9)]
def GoodW (n:Int)(hs:List (List Int)):Prop:=∃ m:Nat,n=m/\1<=m/\m<=24/\(∀ k∈hs,ab2 m k)/\(hs.map up).Nodup
def Wx (K:W.Frag)(H:Hp)(p:Addr)(z:Int)(ks:List (List Int)):Prop:=(∃ t zs,SqT K H p [.int z,.ref t]/\SqT K H t zs/\y7 K H zs ks)/\(∀ k∈ks,∃ a b,k=[a,b])/\ks.length<64
theorem Wx.same {K:W.Frag}{p:Addr}{z:Int}(h:Wx K H p z ks)(s:o7 H H'):Wx K H' p z ks:=by
 obtain⟨⟨t,zs,h1,h2,h3⟩,a,b⟩:=h
 exact⟨⟨t,zs,s.seqT h1,s.seqT h2,s.tups h3⟩,a,b⟩
structure Tl (z:Int) (n:Nat) (ks:List (List Int)):Prop where
 z:z=n
 n1:1<=n
 n2:n<=24
 t:Tld n ks
def bJ6 (ns:List Int)(z:Int)(ks:List (List Int)):Prop:=∃ n:Nat,Tl z n ks/\tal n ks=ns
theorem bO9 {z:Int}{hs:List (List Int)}(h:GoodW z hs)(pm:ks.Perm (hs.map up))(so:ks.Pairwise (fun a b=>Tim.F2 b a=false)):ks=hs↔∃ n:Nat,Tl z n hs:=by
 obtain⟨m,rfl,m1,m2,hE,hN⟩:=h
 constructor
 ·intro e
  subst e
  have hup:∀ k∈ks,Up m k:=fun k hk=>by
   obtain⟨k0,h0,rfl⟩:=m6.mp (pm.mem_iff.mp hk)
   exact(hE k0 h0).up
  exact⟨m,rfl,m1,m2,⟨hup,pm.nodup_iff.mpr hN,so⟩⟩
 ·rintro⟨n,e,_,_,T⟩
  have:n=m:=by omega
  subst this
  rw[aJ9 T.ups]at pm
  exact aW7 (bW5 T.ups T.nd T.srt) pm so
theorem bD1 {z:Int}{hs:List (List Int)}(h:Tl z n hs):GoodW z hs:=⟨n,h.z,h.n1,h.n2,fun k hk=>(h.t.ups k hk).ends,by rw[aJ9 h.t.ups];exact h.t.nd⟩
seal L2.PE L2.PA L2.PS L2.PSs L2.PT
section
variable {K:W.Frag} {base:Heap}
def bK8 (K:W.Frag):Sp:=fun vs H Q _=>∃ (p:Addr) (n:Nat) (ks:List (List Int)),vs=[.ref p]/\aC4 K H p n ks/\n<=24/\(∀ k∈ks,ab2 n k)/\∀ l H',o7 H H'->H l=none->H' l=some (.lst ((tal n ks).map V.int))->Q (.ref l) H'
def cg3 (K:W.Frag)(H:Hp)(p l:Addr)(n:Nat)(ks:List (List Int))(i:Nat)(σ:St)(H2:Hp):Prop:=∃ a b,σ=[some (.ref p),some (.ref l),a,b]/\o7 H H2/\H2 l=some (.lst ((tal n (ks.take i)).map V.int))
theorem ax1:v7 ["web","tally","one","other"] ["web"] (d8 ag3):=.mk'
theorem bS9 (F:Fun K "tally_of" "tally_of" ag3 f fd):o4 P w K mg base CX0 1 f fd ["web"] (bK8 K):=by
 refine F.ok ax1 (fun cdv A outer s H vs Q E hr h=>?_)
 obtain⟨p,n,ks,rfl,⟨t,zs,h1,h2,h3⟩,hn,hE,q⟩:=h
 have hsl:=M8
 refine⟨_,c7 (A3 (i:=1) ax1.nd rfl (Or.inl rfl) (v8 aN1 (K7 (a6 c8 b7)) (x9 y9 (pv 0) c8 (fun _ _=>rfl))))
  (c7 (Q9 PassesOwn.never rfl (ba3 (x9 y9 (pv 0) c8 (fun _ _ => rfl))) (al1 rfl (J7 (B1 (i := 2) ax1.nd rfl (Or.inl rfl)) (J7 (B1 (i := 3) ax1.nd rfl (Or.inl rfl)) ac8)))
   (c7 (aM3 (pv 1) (pv 2) aB3 c8 bc1 set_list) (i5 (aM3 (pv 1) (pv 3) aB3 c8 bc1 set_list))))
  (i5 (u9 (pv 1)))),?_⟩
 have a0:atI ([.int n,.ref t]:List V) 0=some (.int n):=n9 (j:=0) rfl
 have a1:atI ([.int n,.ref t]:List V) 1=some (.ref t):=n9 (j:=1) rfl
 refine⟨(by show 1<=c5;decide),fun l0 f0=>?_⟩
 have s0:=c9 (o:=.lst [.int 0]) f0
 refine⟨_,rfl,p,_,_,_,rfl,rfl,s0.seqT h1,a0,l0,n,[.int 0],rfl,rfl,b8,by omega,by omega,?_,fun l hl=>?_⟩
 ·show 1*(n:Int).toNat<=c5
  omega
 have en:(n:Int).toNat=n:=by omega
 rw[en,rep0]
 have s1:=s0.trans (c9 (o:=.lst ((tal n []).map V.int)) hl)
 have g1:(upd (upd H l0 (.lst [.int 0])) l (.lst ((tal n []).map V.int))) l=some (.lst ((tal n []).map V.int)):=b8
 have fl:H l=none:=s0.free hl
 generalize upd (upd H l0 (.lst [.int 0])) l (.lst ((tal n []).map V.int))=H1 at s1 g1 ⊢
 have hz:=h3.len
 refine⟨_,rfl,p,_,_,_,rfl,rfl,s1.seqT h1,a1,t,rfl,⟨_,s1.seqT h2⟩,?_⟩
 refine bh2 (K:=K) (a:=t) (xs:=zs) (cg3 K H p l n ks) ⟨none,none,rfl,s1,by rw[List.take_zero];exact g1⟩ (fun i σ H2 _ ⟨_,_,_,s2,_⟩=>s2.seqT h2) ?_ ?_
 ·rintro i x σ H2 hx ⟨ea,eb,rfl,s2,g2⟩
  obtain⟨pa,pk,rfl,hk,hq⟩:=h3.get hx
  obtain⟨i1,j1,u1,u2,u3,epk⟩:=hE pk (d5 hk)
  have hq2:=s2.seqT hq
  rw[epk]at hq2
  refine⟨pa,_,rfl,hq2,rfl,_,_,rfl,_,_,rfl,rfl,?_⟩
  have t1:((tal n (ks.take i)).map V.int)[i1]?=some (.int (M3 (ks.take i) i1)):=by rw[r6,Q8 u1];rfl
  have t2:(((tal n (ks.take i)).map V.int).set i1 (.int ((M3 (ks.take i) i1:Int)+1)))[j1]?=some (.int (M3 (ks.take i) j1)):=by
   rw[G8 u3,r6,Q8 u2];rfl
  have lt:((tal n (ks.take i)).map V.int).length=n:=by rw[a9,L9]
  refine⟨_,rfl,_,rfl,l,_,_,_,rfl,rfl,SqL.of g2,n9 t1,_,_,rfl,rfl,l,_,_,i1,rfl,rfl,g2,by rw[lt];exact V2 u1,?_⟩
  refine⟨_,rfl,_,rfl,l,_,_,_,rfl,rfl,SqL.of b8,n9 t2,_,_,rfl,rfl,l,_,_,j1,rfl,rfl,b8,by rw[A5,lt];exact V2 u2,?_⟩
  refine⟨_,_,rfl,?_,?_⟩
  ·rw[am3]
   exact s2.upd fl
  ·rw[b8,C6,hk,bB1,epk,<- aK0 u1 u2 u3 (ks.take i) _ _ rfl rfl,X5,X5]
 ·rintro σ H2 ⟨ea,eb,rfl,s2,g2⟩
  rw[l6 (by omega)]at g2
  exact⟨_,rfl,q l H2 s2 fl g2⟩
def bK7 (K:W.Frag)(CW:Addr):Sp:=fun vs H Q E=>∃ (n:Nat) (a:Addr) (p q:Int),vs=[.int n,.ref a]/\SqT K H a (([p,q]:List Int).map V.int) /\
 (ab2 n [p,q]->∀ t,H t=none->Q (.ref t) (upd H t (.tup ((up [p,q]).map V.int))))/\(¬ ab2 n [p,q]->E (.ref CW) none H)
theorem bu8 {p:Int}(h:¬ (0<=p/\p<(n:Int))):(decide ((0:Int)<=p) && decide (p<(n:Int)))=false:=by
 rw[bz9]
 by_cases z:(0:Int)<=p
 ·exact .inr (decide_eq_false fun z'=>h ⟨z,z'⟩)
 ·exact .inl (decide_eq_false z)
theorem ap1 {p q:Int}:ab2 n [p,q]↔(0<=p/\p<(n:Int))/\(0<=q/\q<(n:Int))/\p≠q:=by
 constructor
 ·rintro⟨i,j,h1,h2,h3,e⟩
  injection e with e1 e2
  injection e2 with e2 _
  subst e1 e2
  exact⟨⟨by omega,by omega⟩,⟨by omega,by omega⟩,by omega⟩
 ·rintro⟨⟨a,b⟩,⟨c,d⟩,e⟩
  exact⟨p.toNat,q.toNat,by omega,by omega,by omega,by congr 1;omega;congr 1;omega⟩
theorem bS8 {fI CW:Addr} (F:Fun K "turned_up" "turned_up" sUp f fd) (B:Bn mg) (FI:Fun K "is_place" "is_place" ar3 fI fdI) (bI:Binds K fdI ["places","number"] []) (mI:mg "is_place"=some (.ref fI)) (mW:mg "BadWeb"=some (.ref CW)) (cW:S8 K CW) :
  o4 P w K mg base (CXE P w) 2 f fd ["places","tie"] (bK7 K CW):=by
 have GI:o4 P w K mg base CX0 1 fI fdI ["places","number"] br2:=bu7 FI
 refine F.okX ch4 (fun cdv A outer s H vs Q E hr h=>?_)
 obtain⟨n,a,p,q,rfl,hS,h1,h2⟩:=h
 refine⟨_,c7 (E3 (PW.pt (ae1 (P3 (S3 (j8 GI hr rfl mI FI.kp bI .nil E4 (a6 (pv 0) (a6 (x9 y9 (pv 1) c8 (fun _ _=>rfl)) b7)))))
    (ag5 (P3 (S3 (j8 GI hr rfl mI FI.kp bI .nil E4 (a6 (pv 0) (a6 (x9 y9 (pv 1) c8 (fun _ _=>rfl)) b7)))))))) (i5 (T7 (by rfl) mW cW)) A4)
  (c7 (E3 (A0 R0 (x9 y9 (pv 1) c8 (fun _ _=>rfl)) (x9 y9 (pv 1) c8 (fun _ _=>rfl)) (A9 _)) (i5 (T7 (by rfl) mW cW)) A4)
  (i5 (u9 (v9 (a6 (m7 (aj2 rfl) (by rfl) B.min (by rfl) (a6 (x9 y9 (pv 1) c8 (fun _ _ => rfl)) (a6 (x9 y9 (pv 1) c8 (fun _ _ => rfl)) b7)))
   (a6 (m7 (as5 rfl) (by rfl) B.max (by rfl) (a6 (x9 y9 (pv 1) c8 (fun _ _=>rfl)) (a6 (x9 y9 (pv 1) c8 (fun _ _=>rfl)) b7))) b7)))))),?_⟩
 have a0:atI (([p,q]:List Int).map V.int) 0=some (.int p):=n9 (j:=0) rfl
 have a1:atI (([p,q]:List Int).map V.int) 1=some (.int q):=n9 (j:=1) rfl
 refine⟨_,rfl,_,rfl,a,_,_,_,rfl,rfl,hS,a0,_,_,rfl,?_⟩
 by_cases hp:0<=p/\p<(n:Int)
 ·rw[decide_eq_true hp.1,decide_eq_true hp.2]
  refine⟨_,rfl,E8 ?_⟩
  refine⟨_,rfl,_,rfl,a,_,_,_,rfl,rfl,hS,a1,_,_,rfl,?_⟩
  by_cases hq:0<=q/\q<(n:Int)
  ·rw[decide_eq_true hq.1,decide_eq_true hq.2]
   refine⟨_,rfl,E8 ?_⟩
   refine⟨_,rfl,a,_,_,_,rfl,rfl,hS,a0,_,rfl,a,_,_,_,rfl,rfl,hS,a1,rfl,_,rfl,?_⟩
   by_cases hpq:p=q
   ·rw[decide_eq_true (by rw[hpq])]
    exact E7 (h2 fun z=>(ap1.mp z).2.2 hpq)
   ·rw[decide_eq_false (show ¬ V.int p=V.int q by intro z;injection z;exact hpq ‹_›)]
    refine E8 ?_
    refine⟨_,rfl,a,_,_,_,rfl,rfl,hS,a0,_,rfl,a,_,_,_,rfl,rfl,hS,a1,_,_,rfl,?_⟩
    refine⟨_,rfl,a,_,_,_,rfl,rfl,hS,a0,_,rfl,a,_,_,_,rfl,rfl,hS,a1,_,_,rfl,(by show 2<=c5;decide),fun t ht=>?_⟩
    exact h1 (ap1.mpr ⟨hp,hq,hpq⟩) t ht
  ·rw[bu8 hq]
   exact⟨_,rfl,E7 (h2 fun z=>hq (ap1.mp z).2.1)⟩
 ·rw[bu8 hp]
  exact⟨_,rfl,E7 (E7 (h2 fun z=>hp (ap1.mp z).1))⟩
def aw8 (K:W.Frag)(CW:Addr):Sp:=fun vs H Q E=>∃ (n:Int) (a:Addr) (ys:List V) (hs:List (List Int)),vs=[.int n,.ref a]/\(SqL K H a ys\/SqT K H a ys)/\y7 K H ys hs/\(∀ k∈hs,∃ p q,k=[p,q])/\hs.length<64 /\
 (GoodW n hs->∀ (p t:Addr) (zs:List V) (ks:List (List Int)) (H':Hp),o7 H H'->H' p=some (.tup [.int n,.ref t])->H' t=some (.tup zs)->y7 K H' zs ks->ks.Perm (hs.map up)->ks.Pairwise (fun a b=>Tim.F2 b a=false)->Q (.ref p) H')/\(¬ GoodW n hs->∀ H',o7 H H'->E (.ref CW) none H')
theorem bu6 {fI fU CW:Addr} {fdU:FuncData} (F:Fun K "made" "made" an0 f fd) (B:Bn mg) (FI:Fun K "is_place" "is_place" ar3 fI fdI) (bI:Binds K fdI ["places","number"] []) (mI:mg "is_place"=some (.ref fI))
  (FU:Fun K "turned_up" "turned_up" sUp fU fdU) (bU:Binds K fdU ["places","tie"] []) (mU:mg "turned_up"=some (.ref fU)) (mM:mg "MOST_PLACES"=some (.int 24 tk)) (mW:mg "BadWeb"=some (.ref CW)) (cW:S8 K CW) :
  o4 P w K mg base (CXE P w) 3 f fd ["places","ties"] (aw8 K CW):=by
 have GU:o4 P w K mg base (CXE P w) 2 fU fdU ["places","tie"] (bK7 K CW):=bS8 FU B FI bI mI mW cW
 refine F.okX bs1 (fun cdv A outer s H vs Q E hr h=>?_)
 obtain⟨n,a,ys,hs,rfl,hS,hT,h2,hL,q,qE⟩:=h
 have hu8:=bX8 (Nat.add_le_add_left (by decide:8<=64) _) hr.units
 have hyl:=hT.len
 have nd2:(["tie","places"]:List Str).Nodup:=by decide +kernel
 refine⟨_,c7 (E3 (P3 (az4 an8 an8 c8 (pv 0) (bf6 (v:=.int 24) rfl mM ⟨_,rfl⟩))) (i5 (T7 (by rfl) mW cW)) A4)
   (c7 (A3 (i := 2) bs1.nd rfl (Or.inl rfl) (m7 aO9 (by rfl) B.sorted (by rfl) (a6
    (bt7 (E := E) rfl (N' := ["tie", "places"]) (lk := [none, some 0]) rfl (bM1 (T4 (pv 1)) (ba3 (pv 1))) (by rfl) rfl (by decide +kernel) (by exact ⟨rfl, trivial⟩) (by rfl) (by exact LkL.ok ⟨⟨rfl, Or.inl rfl, rfl, Or.inl rfl⟩, trivial⟩)
     (fun _ _ _ _ _=>B1 (i:=0) nd2 rfl (Or.inl rfl)) (fun _ _ _ _ _=>ai2) (fun _ _ _ _ _ I3 f3=>j8 GU hr (by rfl) mU FU.kp bU .nil (cd1 I3 f3) (a6 (pv 1) (a6 (pv 0) b7)))) b7)))
   (c7 (E3 (A0 az8 (m7 call_len_set (by rfl) B.len PySem.boot_len (a6 (D3 (by7 rfl hu8) (by rfl) B.set (by rfl) (a6 (pv 2) b7)) b7)) (m7 o6 (by rfl) B.len PySem.boot_len (a6 (pv 2) b7)) (A9 _)) (i5 (T7 (by rfl) mW cW)) A4)
   (i5 (u9 (v9 (a6 (pv 0) (a6 (D3 C8 (by rfl) B.tuple (by rfl) (a6 (pv 2) b7)) b7))))))),?_⟩
 refine⟨_,rfl,_,_,rfl,rfl,_,rfl,?_⟩
 by_cases n1:(1:Int)<=n
 ·rw[decide_eq_true n1]
  refine E7 ⟨_,_,rfl,rfl,_,rfl,?_⟩
  by_cases n2:n<=24
  ·rw[decide_eq_true n2]
   refine E8 ?_
   obtain⟨m,rfl⟩:∃ m:Nat,n=(m:Int):=⟨n.toNat,by omega⟩
   have m1:1<=m:=by omega
   have m2:m<=24:=by omega
   refine Or.imp (fun h=>⟨_,rfl,h⟩) (fun h=>⟨_,rfl,h⟩) (bo1 (K:=K) (a:=a) (ys:=ys) hS (by have:=M8;omega) (fun D i xs σ' H'=>∃ v,σ'=[v,some (.int m)]/\o7 H H'/\H' D=some (.lst xs)/\y7 K H' xs ((hs.take i).map up)/\∀ k∈hs.take i,ab2 m k) (fun D hD=>⟨none,rfl,c9 hD,b8,.nil,(fun k hk=>by simp at hk)⟩)
    (fun D i xs σ' H' hD hi ⟨_,_,s1,h1,h2,_⟩=>⟨s1,h1,by have:=h2.len;simp at this;omega⟩) ?_ ?_)
   ·rintro D i xs x σ' H' N hD kN hx ⟨v,rfl,s1,hd,ht,hE⟩
    refine y6 ?_
    refine af5 ?_
    obtain⟨b,kk,rfl,hk,hq⟩:=hT.get hx
    obtain⟨p,pq,rfl⟩:=h2 kk (d5 hk)
    refine⟨_,rfl,_,rfl,m,b,p,pq,rfl,s1.seqT hq,fun hend t htn=>?_,fun hbad=>qE (fun⟨m',em,_,_,g,_⟩=>hbad ?_) _ s1⟩
    ·have npd:D≠t:=u0 hd htn
     have hd':(upd H' t (.tup ((up [p,pq]).map V.int))) D=some (.lst xs):=by rw[m9 npd];exact hd
     have ek:hs.take (i+1)=hs.take i++[[p,pq]]:=by rw[C6,hk];rfl
     refine⟨hd',kN _ _ _ ⟨_,rfl,(s1.trans (c9 htn)).upd hD,b8,?_,fun k hk'=>?_⟩⟩
     ·rw[ek,r9]
      exact y7.updL hd' (y7.append (o7.tups (c9 htn) ht) (y7.one (SqT.of b8)))
     ·rw[ek]at hk'
      rcases l9.mp hk' with z | z
      ·exact hE k z
      ·rw[j0.mp z];exact hend
    ·have em':m'=m:=by omega
     subst em'
     exact g _ (d5 hk)
   ·rintro D xs σ' H1 hD ⟨v,rfl,s1,h1,h2',hE⟩
    rw[l6 (by omega)]at h2' hE
    have hup:∀ k∈hs.map up,Up m k:=fun k hk=>by
     obtain⟨k0,h0,rfl⟩:=m6.mp hk
     exact(hE k0 h0).up
    refine⟨D,xs,_,rfl,SqL.of h1,h2',(fun k hk z=>by have:=(hup k hk).len;rw[z]at this;cases this),(by rw[a9];omega),fun l zs ks hl pk hs1 ht1=>?_⟩
    have hkl:ks.length=hs.length:=by rw[pk.length_eq,a9]
    have hzl:=ht1.len
    have s2:o7 H (upd H1 l (.lst zs)):=s1.trans (c9 hl)
    refine⟨_,rfl,l,zs,ks,rfl,SqL.of b8,ht1,(fun k hk=>(hup k (pk.mem_iff.mp hk)).key m2),by omega,fun S hSn=>?_⟩
    have hlS:l≠S:=u0 b8 hSn
    have s3:=s2.trans (c9 (o:=bo8 P w S (ks.foldl Sett.V3 []).length) hSn)
    have l3:(upd (upd H1 l (.lst zs)) S (bo8 P w S (ks.foldl Sett.V3 []).length)) l=some (.lst zs):=by rw[m9 hlS,b8]
    refine⟨S,_,rfl,b8,_,rfl,l,zs,rfl,.inl (SqL.of l3),_,_,rfl,rfl,_,rfl,?_⟩
    by_cases hN:(hs.map up).Nodup
    ·have hfold:(ks.foldl Sett.V3 []).length=zs.length:=by
      have:=(Sett.as3 ks []).mpr ⟨(pk.nodup_iff).mpr hN,fun x _=>by simp⟩
      simp at this
      omega
     rw[decide_eq_false (by omega)]
     refine E8 ?_
     refine⟨_,rfl,_,rfl,l,zs,rfl,.inl ⟨SqL.of l3,fun t ht=>⟨(by show 2<=c5;decide),fun p hp=>?_⟩⟩⟩
     have st:=c9 (o:=.tup zs) ht
     have sp:=c9 (o:=.tup [.int (m:Int),.ref t]) hp
     exact q ⟨m,rfl,m1,m2,hE,hN⟩ p t zs ks _ ((s3.trans st).trans sp) b8 (sp _ _ b8) (((c9 (o:=bo8 P w S (ks.foldl Sett.V3 []).length) hSn).trans (st.trans sp)).tups ht1) pk hs1
    ·have hfold:(ks.foldl Sett.V3 []).length<zs.length:=by
      have h1:=Sett.ao8 ks []
      have h3:(ks.foldl Sett.V3 []).length≠([]:List (List Int)).length+ks.length:=fun z=>hN ((pk.nodup_iff).mp ((Sett.as3 ks []).mp z).1)
      simp at h1 h3
      omega
     rw[decide_eq_true (by omega)]
     refine E7 (qE (fun⟨m',em,_,_,_,g⟩=>hN g) _ s3)
  ·rw[decide_eq_false n2]
   exact E7 (qE (fun⟨m',em,_,z,_,_⟩=>n2 (by omega)) _ (o7.refl H))
 ·rw[decide_eq_false n1]
  exact E8 ⟨_,rfl,E7 (qE (fun⟨m',em,z,_,_,_⟩=>n1 (by omega)) _ (o7.refl H))⟩
theorem to0 {k:Nat} {sp sp':Sp} (F:o4 P w K mg base (CXE P w) k f fd ps sp) (h:∀ vs H Q E,sp' vs H Q E->sp vs H Q fun _ _ _=>False):o4 P w K mg base CX0 k f fd ps sp':=
 ⟨fun vs H Q E q => F.len vs H Q _ (h _ _ _ _ q), fun A outer s H args us vs Q E hr he hb hv hs => Z1 (F.run A outer s H args us vs Q _ hr he hb hv (h _ _ _ _ hs)) fun r s' hq => by
  cases r with
  | error e=>obtain⟨_,_,_,_,_,_,_,_,_,_,_,z⟩:=hq;exact z.elim
  | ok fl=>cases fl<;>exact hq⟩
theorem cd8 {CX:Addr}(G:o4 P w K mg base (CXE P w) 3 f fd ["places","ties"] (aw8 K CX)):o4 P w K mg base CX0 3 f fd ["places","ties"] (br0 K):=by
 refine to0 G fun vs H Q E h=>?_
 obtain⟨n,a,ys,hs,rfl,n1,n2,hS,hT,hE,hN,hl,q⟩:=h
 exact⟨n,a,ys,hs,rfl,hS,hT,fun k hk=>by obtain⟨i,j,_,_,_,e⟩:=hE k hk;exact⟨_,_,e⟩,hl,fun _=>q,fun z=>absurd ⟨n,rfl,n1,n2,hE,hN⟩ z⟩
def aK3 (K:W.Frag):Sp:=fun vs H Q _=>∃ (p:Addr) (z:Int) (ks:List (List Int)),vs=[.ref p]/\Wx K H p z ks/\∀ (b:Bool) (H':Hp),o7 H H'->(b=true↔∃ n:Nat,Tl z n ks)->Q (.bl b) H'
theorem bQ3:v7 ["web"] ["web"] (d8 Y3):=.mk'
theorem bu1 {fV CX:Addr}{fdV:FuncData}(F:Fun K "is_told" "is_told" Y3 f fd)(FV:Fun K "made" "made" an0 fV fdV)(bV:Binds K fdV ["places","ties"] [])(mV:mg "made"=some (.ref fV))(GV:o4 P w K mg base (CXE P w) 3 fV fdV ["places","ties"] (aw8 K CX))(mX:mg "BadWeb"=some (.ref CX))(xX:PySem.W.exmOne K (.ref CX) (.ref CX)=some true):o4 P w K mg base CX0 4 f fd ["web"] (aK3 K):=by
 refine F.ok bQ3 (fun cdv A outer s H vs Q E hr h=>?_)
 obtain⟨p,z,ks,rfl,⟨⟨t,zs,h1,h2,h3⟩,hp2,hkl⟩,q⟩:=h
 have hun:=hr.units
 refine⟨_,i5 (bE7 (by rfl) mX rfl rfl (fun _ _=>i5 (u9 (T5 (bF8 K hr.around rfl rfl) (bt8 GV hr (by rfl) mV FV.kp bV bF2 (a6 (ai6 K rfl (pv 0) c8 (fun _ _=>rfl)) (a6 (ai6 K rfl (pv 0) c8 (fun _ _=>rfl)) b7))) (pv 0) (A9 _)))) (fun _=>i5 (u9 an5))),?_⟩
 have a0:atI ([.int z,.ref t]:List V) 0=some (.int z):=n9 (j:=0) rfl
 have a1:atI ([.int z,.ref t]:List V) 1=some (.ref t):=n9 (j:=1) rfl
 refine⟨fun σ' cls _ H'=>o7 H H'/\cls=.ref CX/\¬ GoodW z ks,?_,?_⟩
 ·refine⟨_,rfl,.inr (.inl ⟨p,_,_,_,rfl,rfl,h1,a0,_,rfl,.inr (.inl ⟨p,_,_,_,rfl,rfl,h1,a1,?_⟩)⟩)⟩
  refine⟨z,t,zs,ks,rfl,.inr h2,h3,hp2,hkl,fun hg r t' zs2 ks2 H' s' k1 k2 tt pm so=>?_,fun hg H' s'=>⟨s',rfl,hg⟩⟩
  have hw:Dt K H' (dW z ks) (.ref p):=Dt.mkT (s'.seqT h1) (.mkC .mkInt (.mkC (Dt.mkT (s'.seqT h2) (s'.tups h3).dtAll) .mkN))
  have hw2:Dt K H' (dW z ks2) (.ref r):=Dt.mkT (SqT.of k1) (.mkC .mkInt (.mkC (Dt.mkT (SqT.of k2) tt.dtAll) .mkN))
  refine⟨_,rfl,_,_,hw2,hw,bM4 _ _,bM4 _ _,?_,?_⟩
  ·refine aF6 hun (n8 (aY3 _ _) ?_)
   have:=cf5 z ks2
   omega
  ·rw[if_neg g8,cf2,decide_eq_true rfl,bp1]
   refine q _ H' s' ?_
   rw[decide_eq_true_iff]
   exact bO9 hg pm so
 ·rintro σ' cls H' ⟨s',rfl,hg⟩
  exact⟨xX,q false H' s' ⟨fun h=>(by cases h),fun⟨n,h⟩=>absurd (bD1 h) hg⟩⟩
def aZ2 (K:W.Frag):Sp:=fun vs H Q _=>∃ (a p:Addr) (ns:List Int) (z:Int) (ks:List (List Int)),vs=[.ref a,.ref p]/\Sq K H a ns/\Wx K H p z ks/\∀ (b:Bool) (H':Hp),o7 H H'->(b=true↔bJ6 ns z ks)->Q (.bl b) H'
theorem cb8:v7 ["tally","web"] ["tally","web"] (d8 ag4):=.mk'
theorem bG8 {fL:Addr}{fdL:FuncData}(F:Fun K "is_web_of" "is_web_of" ag4 f fd)(B:Bn mg)(FT:Fun K "is_told" "is_told" Y3 fT fdT)(bT:Binds K fdT ["web"] [])(mT:mg "is_told"=some (.ref fT))(GT:o4 P w K mg base CX0 4 fT fdT ["web"] (aK3 K))
  (FL:Fun K "tally_of" "tally_of" ag3 fL fdL)(bL:Binds K fdL ["web"] [])(mL:mg "tally_of"=some (.ref fL)):o4 P w K mg base CX0 5 f fd ["tally","web"] (aZ2 K):=by
 have GL:o4 P w K mg base CX0 4 fL fdL ["web"] (bK8 K):=(bS9 FL).mono (by decide)
 refine F.ok cb8 (fun cdv A outer s H vs Q E hr h=>?_)
 obtain⟨a,p,ns,z,ks,rfl,hS,hw,q⟩:=h
 have hun:=hr.units
 refine⟨_,i5 (u9 (aM9 (j8 GT hr (by rfl) mT FT.kp bT .nil E4 (a6 (pv 1) b7)) (aM6 (T5 bb0 (j8 GL hr (by rfl) mL FL.kp bL .nil E4 (a6 (pv 1) b7)) (D3 R1 (by rfl) B.list (by rfl) (a6 (pv 0) b7)) (A9 _))))),?_⟩
 refine⟨_,rfl,p,z,ks,rfl,hw,fun b H1 s1 hb=>⟨_,rfl,?_⟩⟩
 cases b with
 | false =>
  refine E8 (q false H1 s1 ⟨fun h=>(by cases h),fun⟨n,h,_⟩=>?_⟩)
  exact hb.mpr ⟨n,h⟩
 | true =>
  obtain⟨n,T⟩:=hb.mp rfl
  obtain⟨⟨t,zs,w1,w2,w3⟩,_,_⟩:=hw.same s1
  have ez:=T.z
  subst ez
  refine E7 ⟨_,rfl,p,n,ks,rfl,⟨t,zs,w1,w2,w3⟩,T.n2,fun k hk=>(T.t.ups k hk).ends,fun l H2 s2 fl gl=>?_⟩
  have s12:=s1.trans s2
  refine⟨_,rfl,a,_,rfl,hS.same s12,fun l3 f3=>?_⟩
  have s3:=c9 (o:=.lst (ns.map V.int)) f3
  refine⟨.list ((tal n ks).map .int),.list (ns.map .int),Dt.mkLi (SqL.of (s3 _ _ gl)),Dt.mkLi (SqL.of b8),aN7 _,aN7 _,?_,?_⟩
  ·refine aF6 hun (n8 (aY3 _ _) ?_)
   have:=bx9 (tal n ks)
   omega
  ·rw[if_neg g8,bx5]
   refine q _ _ (s12.trans s3) ?_
   rw[decide_eq_true_iff]
   refine⟨fun h=>⟨n,T,h⟩,fun⟨n',T',h⟩=>?_⟩
   have:=T'.z
   have:n'=n:=by omega
   rw[<- this]
   exact h
end
end Web
namespace Web
open PySem L2
section
variable {K:W.Frag} {base:Heap}
def isR (ns:List Int)(r:Int):Prop:=0<=r/\r<=ns.length
def be4 (K:W.Frag)(CB CN:Addr):Sp:=fun vs H Q E=>∃ (a:Addr) (ns:List Int) (M:Nat) (r:Int),vs=[.ref a,.int M,.int r]/\Sq K H a ns/\M<=1000000/\(O9 ns->isR ns r->∀ H':Hp,o7 H H'->Q (.int (W9 ns M r.toNat)) H')/\(O9 ns->¬ isR ns r->E (.ref CN) none H)/\(¬ O9 ns->E (.ref CB) none H)
theorem bE0:v7 ["tally","most","r"] ["tally","most","r"] (d8 ac2):=.mk'
theorem bu5 {fA:Addr}(F:Fun K "room_with" "room_with" ac2 f fd)(B:Bn mg)(FT:Fun K "check_tally" "check_tally" aj4 fT fdT)(bT:Binds K fdT ["tally"] [])(mT:mg "check_tally"=some (.ref fT))
  (FF:Fun K "falling" "falling" ae0 fF fdF)(bF:Binds K fdF ["tally"] [])(mF:mg "falling"=some (.ref fF))(FA:Fun K "room_among" "room_among" U7 fA fdA)(bA:Binds K fdA ["numbers","most","r"] [])(mA:mg "room_among"=some (.ref fA))
  (mM:mg "MOST_PLACES"=some (.int 24 tk))(mB:mg "BadTally"=some (.ref CB))(cB:S8 K CB)(mN:mg "BadNumber"=some (.ref CN))(cN:S8 K CN):o4 P w K mg base (CXE P w) 2 f fd ["tally","most","r"] (be4 K CB CN):=by
 have GT:o4 P w K mg base (CXE P w) 1 fT fdT ["tally"] (aG1 K CB):=aA0 FT B mM mB cB
 have GF:o4 P w K mg base CX0 1 fF fdF ["tally"] (aZ3 K):=bg0 FF B
 have GA:o4 P w K mg base CX0 1 fA fdA ["numbers","most","r"] (aL1 K):=aT9 FA B
 refine F.okX bE0 (fun cdv A outer s H vs Q E hr h=>?_)
 obtain⟨a,ns,M,r,rfl,hS,hM,h1,h2,h3⟩:=h
 refine⟨_,c7 (D6 (j8 GT hr (by rfl) mT FT.kp bT .nil Y5 (a6 (pv 0) b7)))
  (c7 (E3 (P3 (az4 an8 an8 c8 (pv 2) (m7 o6 (by rfl) B.len PySem.boot_len (a6 (pv 0) b7)))) (i5 (T7 (by rfl) mN cN)) A4)
  (i5 (u9 (j8 GA hr (by rfl) mA FA.kp bA .nil E4 (a6 (j8 GF hr (by rfl) mF FF.kp bF .nil E4 (a6 (pv 0) b7)) (a6 (pv 1) (a6 (pv 2) b7))))))),?_⟩
 refine⟨_,rfl,a,ns,rfl,hS,fun ht=>?_,h3⟩
 have t2:=ht.2
 refine⟨_,rfl,_,_,rfl,rfl,_,rfl,?_⟩
 by_cases hp:(0:Int)<=r
 ·rw[decide_eq_true hp]
  refine E7 ⟨_,rfl,a,_,rfl,hS,_,_,rfl,rfl,_,rfl,?_⟩
  rw[a9]
  by_cases hp':r<=(ns.length:Int)
  ·rw[decide_eq_true hp']
   refine E8 ?_
   obtain⟨k,rfl⟩:∃ k:Nat,r=(k:Int):=⟨r.toNat,by omega⟩
   refine⟨_,rfl,a,ns,rfl,hS,by omega,fun l H1 s1 hl g1=>?_⟩
   refine⟨_,rfl,_,rfl,l,ns,M,k,rfl,SqL.of g1,hM,by omega,by omega,fun H2 s2=>?_⟩
   exact h1 ht ⟨hp,hp'⟩ H2 (s1.trans s2)
  ·rw[decide_eq_false hp']
   exact E7 (h2 ht fun z=>hp' z.2)
 ·rw[decide_eq_false hp]
  exact E8 ⟨_,rfl,E7 (h2 ht fun z=>hp z.1)⟩
end
section
variable {K:W.Frag} {base:Heap}
def aR3 (K:W.Frag)(CB:Addr):Sp:=fun vs H Q E=>∃ (a p:Addr) (ns:List Int) (M:Nat) (x:Wz),vs=[.ref a,.int M,.ref p]/\Sq K H a ns/\M<=1000000/\SqT K H p (wzT x)/\(O9 ns->∀ H':Hp,o7 H H'->Q (.bl (bD7 ns M x)) H')/\(¬ O9 ns->E (.ref CB) none H)
theorem bs0:v7 ["tally","most","wall"] ["tally","most","wall"] (d8 Y2):=.mk'
set_option maxHeartbeats 1000000 in
theorem bl8 {fA fρ fβ:Addr}{fdρ:FuncData}(F:Fun K "wall_shows_with" "wall_shows_with" Y2 f fd)(B:Bn mg)
  (FT:Fun K "check_tally" "check_tally" aj4 fT fdT)(bT:Binds K fdT ["tally"] [])(mT:mg "check_tally"=some (.ref fT))
  (FF:Fun K "falling" "falling" ae0 fF fdF)(bF:Binds K fdF ["tally"] [])(mF:mg "falling"=some (.ref fF))(FA:Fun K "room_among" "room_among" U7 fA fdA)(bA:Binds K fdA ["numbers","most","r"] [])(mA:mg "room_among"=some (.ref fA))
  (Fρ:Fun K "room_with" "room_with" ac2 fρ fdρ)(bρ:Binds K fdρ ["tally","most","r"] [])(mρ:mg "room_with"=some (.ref fρ))(Fβ:Fun K "places_below" "places_below" W8 fβ fdβ)(bβ:Binds K fdβ ["numbers"] [])(mβ:mg "places_below"=some (.ref fβ))
  (mM:mg "MOST_PLACES"=some (.int 24 tk))(mB:mg "BadTally"=some (.ref CB))(cB:S8 K CB)(mN:mg "BadNumber"=some (.ref CN))(cN:S8 K CN):o4 P w K mg base (CXE P w) 3 f fd ["tally","most","wall"] (aR3 K CB):=by
 have GT:o4 P w K mg base (CXE P w) 2 fT fdT ["tally"] (aG1 K CB):=(aA0 FT B mM mB cB).mono (by decide)
 have GL:o4 P w K mg base CX0 2 fβ fdβ ["numbers"] (aL0 K):=(aT8 Fβ B).mono (by decide)
 have GR:o4 P w K mg base (CXE P w) 2 fρ fdρ ["tally","most","r"] (be4 K CB CN):=bu5 Fρ B FT bT mT FF bF mF FA bA mA mM mB cB mN cN
 refine F.okX bs0 (fun cdv A outer s H vs Q E hr h=>?_)
 obtain⟨a,p,ns,M,x,rfl,hS,hM,hp,h1,h2⟩:=h
 have hsl:=M8
 have hun:=hr.units
 refine⟨_,c7 (D6 (j8 GT hr (by rfl) mT FT.kp bT .nil Y5 (a6 (pv 0) b7)))
   (c7 (E3 (A0 R0 (x9 y9 (pv 2) c8 (fun _ _=>rfl)) G0 (A9 _)) (i5 (u9 (T5 R0 (v8 K8 (m7 (aI1 rfl) (by rfl) B.sum (by rfl) (a6 (pv 0) b7)) c8) c8 (A9 _)))) A4)
   (c7 (E3 (A0 R0 (x9 y9 (pv 2) c8 (fun _ _=>rfl)) G0 (A9 _)) (i5 (u9 (T5 aN3 (x9 y9 (pv 2) c8 (fun _ _=>rfl)) (j8 GL hr (by rfl) mβ Fβ.kp bβ .nil E4 (a6 (pv 0) b7)) (by rfl)))) A4)
   (i5 (u9 (aM9 (aT3 an8 an8 c8 (x9 y9 (pv 2) c8 (fun _ _=>rfl)) (m7 o6 (by rfl) B.len PySem.boot_len (a6 (pv 0) b7)))
     (aM6 (T5 az8 (j8 GR hr (by rfl) mρ Fρ.kp bρ .nil Y5 (a6 (pv 0) (a6 (pv 1) (a6 (x9 y9 (pv 2) c8 (fun _ _=>rfl)) b7)))) c8 (A9 _)))))))),?_⟩
 refine⟨_,rfl,a,ns,rfl,hS,fun ht=>?_,h2⟩
 have t2:=ht.2
 have h1:=fun Q'=>h1 ht Q'
 cases x with
 | odd =>
  refine⟨_,rfl,p,_,_,_,rfl,rfl,hp,cf6,rfl,_,rfl,?_⟩
  rw[decide_eq_true rfl]
  refine E7 ⟨_,rfl,a,ns,rfl,hS,_,_,rfl,rfl,(by show (0:Int)<2;decide),rfl,?_⟩
  rw[bM6]
  exact h1 _ (o7.refl H)
 | below z =>
  refine⟨_,rfl,p,_,_,_,rfl,rfl,hp,bi5,rfl,_,rfl,?_⟩
  rw[decide_eq_false cd7]
  refine E8 ⟨_,rfl,p,_,_,_,rfl,rfl,hp,bi5,rfl,_,rfl,?_⟩
  rw[decide_eq_true rfl]
  refine E7 ⟨_,rfl,p,_,_,_,rfl,rfl,hp,bz0,_,rfl,a,ns,rfl,hS,by omega,fun l H1 s1 hl g1=>?_⟩
  exact bw6 hun (SqL.of g1) (h1 _ s1)
 | wall z =>
  refine⟨_,rfl,p,_,_,_,rfl,rfl,hp,bi5,rfl,_,rfl,?_⟩
  rw[decide_eq_false cd5]
  refine E8 ⟨_,rfl,p,_,_,_,rfl,rfl,hp,bi5,rfl,_,rfl,?_⟩
  rw[decide_eq_false cd6]
  refine E8 ⟨_,rfl,p,_,_,_,rfl,rfl,hp,bz0,_,_,rfl,rfl,_,rfl,?_⟩
  have no:¬ (1<=z/\z<=(ns.length:Int))->Q (.bl false) H:=fun hz=>by
   have e2:bD7 ns M (.wall z)=false:=decide_eq_false fun q=>hz ⟨q.1,q.2.1⟩
   have:=h1 _ (o7.refl H)
   rw[e2]at this
   exact this
  by_cases hz1:(1:Int)<=z
  ·rw[decide_eq_true hz1]
   refine E7 ⟨_,rfl,a,_,rfl,hS,_,_,rfl,rfl,_,rfl,?_⟩
   rw[a9]
   by_cases hz2:z<=(ns.length:Int)
   ·rw[decide_eq_true hz2]
    refine E7 ⟨_,rfl,_,rfl,_,rfl,p,_,_,_,rfl,rfl,hp,bz0,a,ns,M,z,rfl,hS,hM,fun _ _ H' s'=>?_,fun _ h=>absurd ⟨by omega,hz2⟩ h,fun h=>absurd ht h⟩
    refine⟨_,_,rfl,rfl,?_⟩
    have e:bD7 ns M (.wall z)=decide (W9 ns M z.toNat<0):=by
     show decide (_/\_/\_)=_
     by_cases h:W9 ns M z.toNat<0
     ·rw[decide_eq_true h,decide_eq_true ⟨hz1,hz2,h⟩]
     ·rw[decide_eq_false h,decide_eq_false fun q=>h q.2.2]
    have:=h1 _ s'
    rw[e]at this
    exact this
   ·rw[decide_eq_false hz2]
    exact E8 (no fun q=>hz2 q.2)
  ·rw[decide_eq_false hz1]
   refine E8 ⟨_,rfl,E8 (no fun q=>hz1 q.1)⟩
def aw7 (K:W.Frag)(CB:Addr):Sp:=fun vs H Q E=>∃ (a p:Addr) (ns:List Int) (x:Wz),vs=[.ref a,.ref p]/\Sq K H a ns/\SqT K H p (wzT x)/\(O9 ns->∀ H':Hp,o7 H H'->Q (.bl (shw ns x)) H')/\(¬ O9 ns->E (.ref CB) none H)
theorem bD9:v7 ["tally","wall"] ["tally","wall"] (d8 ac1):=.mk'
theorem bu4 {fσ fA fρ fβ:Addr}{fdσ fdρ:FuncData}(F:Fun K "wall_shows" "wall_shows" ac1 f fd)(B:Bn mg)
  (FT:Fun K "check_tally" "check_tally" aj4 fT fdT)(bT:Binds K fdT ["tally"] [])(mT:mg "check_tally"=some (.ref fT))
  (FF:Fun K "falling" "falling" ae0 fF fdF)(bF:Binds K fdF ["tally"] [])(mF:mg "falling"=some (.ref fF))(FA:Fun K "room_among" "room_among" U7 fA fdA)(bA:Binds K fdA ["numbers","most","r"] [])(mA:mg "room_among"=some (.ref fA))
  (Fρ:Fun K "room_with" "room_with" ac2 fρ fdρ)(bρ:Binds K fdρ ["tally","most","r"] [])(mρ:mg "room_with"=some (.ref fρ))(Fβ:Fun K "places_below" "places_below" W8 fβ fdβ)(bβ:Binds K fdβ ["numbers"] [])(mβ:mg "places_below"=some (.ref fβ))
  (Fσ:Fun K "wall_shows_with" "wall_shows_with" Y2 fσ fdσ)(bσ:Binds K fdσ ["tally","most","wall"] [])(mσ:mg "wall_shows_with"=some (.ref fσ))
  (mM:mg "MOST_PLACES"=some (.int 24 tk))(mB:mg "BadTally"=some (.ref CB))(cB:S8 K CB)(mN:mg "BadNumber"=some (.ref CN))(cN:S8 K CN):o4 P w K mg base (CXE P w) 4 f fd ["tally","wall"] (aw7 K CB):=by
 have GW:o4 P w K mg base (CXE P w) 3 fσ fdσ ["tally","most","wall"] (aR3 K CB):=bl8 Fσ B FT bT mT FF bF mF FA bA mA Fρ bρ mρ Fβ bβ mβ mM mB cB mN cN
 refine F.okX bD9 (fun cdv A outer s H vs Q E hr h=>?_)
 obtain⟨a,p,ns,x,rfl,hS,hp,h1,h2⟩:=h
 refine⟨_,i5 (u9 (j8 GW hr (by rfl) mσ Fσ.kp bσ .nil Y5 (a6 (pv 0) (a6 c8 (a6 (pv 1) b7))))),?_⟩
 refine⟨_,rfl,_,rfl,a,p,ns,1,x,rfl,hS,by decide,hp,fun ht H' s'=>?_,h2⟩
 rw[br8]
 exact h1 ht H' s'
end
end Web
namespace HT
open PySem PyProof.Rows
theorem ao6 {t sl:Addr}{vl vu:Value}{lo hi:Option Int}(ht:IsTup s.heap t items)(hs:s.heap.IsSliceOf sl vl vu .none)(pl:aX4 vl lo)(pu:aX4 vu hi)
  (hw:sIx items.size 0 lo=0/\sIx items.size items.size hi=items.size)
  (h:Q (.ref t) s):m5 (p0 prog w) A (aa0 (.ref t) (.ref sl)) Q E s:=by
 obtain⟨os,hos,hcs,hds⟩:=id hs
 have hTs:s.TypeIs (.ref sl) "slice":=⟨os,hos,hcs⟩
 unfold aa0
 try with_reducible refine C1 ?_
 first | refine a7 (b9 ?_) | skip
 refine a7 (aQ3 ht.typeIs (by decide) ?_)
 refine a7 (F5 (name:=Str.ofString "__getitem__") ht.typeIs PyProof.Rows.slot_tuple_getitem
  (F7 PyProof.Rows.slot_tuple_getitem ht.typeIs aE1 ?_ (aJ4 _ _)))
 show m5 _ _ (Builtin.Tuple.tupleItemsOf (.ref t) >>= _) _ _ s
 refine a7 (bB6 ht ?_)
 refine a7 (ah7 hTs ?_)
 rw[if_pos (by decide)]
 refine a7 (aa2 hs pl pu ?_)
 have hno:(((sIx items.size 0 lo:Nat):Int) == 0 && (1:Int) == 1 && (sIx items.size items.size hi - sIx items.size 0 lo) == items.size)=true:=by
  rw[hw.1,hw.2]
  simp
 show m5 _ _ (if (((sIx items.size 0 lo:Nat):Int) == 0 && (1:Int) == 1 && (sIx items.size items.size hi - sIx items.size 0 lo) == items.size)=true then _ else _) _ _ s
 rw[if_pos hno]
 refine a7 (m:=Builtin.Tuple.tupleIsExact _) (a7 (ah7 ht.typeIs (b9 ?_)))
 rw[if_pos (by decide)]
 exact a7 (aw3 (b9 ⟨_,rfl,b9 h⟩))
theorem aa8 {α β:Type}{f g:α->Option β}:∀ {l:List α},(∀ x∈l,f x=g x)->l.filterMap f=l.filterMap g
 | [],_=>rfl
 | x::l,h=>by
  rw[F8,F8,h x f9,aa8 fun y hy=>h y (d4 _ hy)]
theorem ba1 (n:Nat):Builtin.Slice.slicePlaces ((n:Int) - 1) (-1) (-1)=n:=by
 unfold Builtin.Slice.slicePlaces
 rw[if_neg (by decide)]
 by_cases h:(n:Int) - 1 > -1
 ·rw[if_pos h]
  show (((n:Int) - 1 - -1 - 1) / (1:Int)+1).toNat=n
  rw[Int.ediv_one]
  omega
 ·rw[if_neg h]
  show (0:Nat)=n
  omega
theorem aW8 {sl:Addr}{Q:Int × Int × Nat->Shared->Prop}(hs:s.heap.IsSliceOf sl .none .none (.int (-1) tk))(h:Q ((n:Int) - 1,-1,n) s):m5 (p0 prog w) A (Builtin.Slice.sliceApplied (.ref sl) (pure (n:Int))) Q E s:=by
 obtain⟨os,hos,hcs,hds⟩:=id hs
 unfold Builtin.Slice.sliceApplied Builtin.Slice.sliceFields
 refine a7 (a7 (J0 hos hds (x:=.none) rfl (a7 (J0 hos hds (x:=.none) rfl (a7 (J0 hos hds (x:=.int (-1) tk) rfl (b9 ?_)))))))
 refine a7 (slicePart_int ?_)
 show m5 _ _ (if ((-1:Int) == 0)=true then _ else _) _ _ s
 rw[if_neg (by decide)]
 refine a7 (aD0 (a7 (aD0 (a7 (b9 ?_)))))
 show m5 _ _ (pure (((n:Int) - 1),(-1:Int),Builtin.Slice.slicePlaces ((n:Int) - 1) (-1) (-1))) _ _ s
 rw[ba1]
 exact b9 h
theorem bt3 (xs:Array Value):((x6 xs.size).filterMap fun(m:Nat)=>xs[((xs.size:Int) - 1+(m:Int)*(-1)).toNat]?).toArray=xs.toList.reverse.toArray:=by
 have h:=aT1 xs.reverse 0 xs.size
 have e:((x6 xs.size).filterMap fun(m:Nat)=>xs[((xs.size:Int) - 1+(m:Int)*(-1)).toNat]?)=(x6 xs.size).filterMap fun(m:Nat)=>xs.reverse[(((0:Nat):Int)+(m:Int)*1).toNat]?:=by
  refine aa8 fun m hm=>?_
  have hm:=A1.mp hm
  have e1:(((0:Nat):Int)+(m:Int)*1).toNat=m:=by omega
  have e2:((xs.size:Int) - 1+(m:Int)*(-1)).toNat=xs.size - 1 - m:=by omega
  rw[e1,e2,Array.getElem?_reverse hm]
 rw[e,h,av2,Array.toList_reverse,l6 (by simp)]
theorem aV6 {t sl:Addr}(ht:IsTup s.heap t items)(hs:s.heap.IsSliceOf sl .none .none (.int (-1) tk))
  (h:Q (.ref s.heap.objs.size) { s with heap:=s.heap.push { cls:=.type "tuple",data:=.seq items.toList.reverse.toArray } })(hsz:items.size<=c5):m5 (p0 prog w) A (aa0 (.ref t) (.ref sl)) Q E s:=by
 have htake:sizeOk (.seq items.toList.reverse.toArray):=by
  show items.toList.reverse.toArray.size<=c5
  rw[d3,R6,m8]
  exact hsz
 obtain⟨os,hos,hcs,hds⟩:=id hs
 have hTs:s.TypeIs (.ref sl) "slice":=⟨os,hos,hcs⟩
 unfold aa0
 try with_reducible refine C1 ?_
 first | refine a7 (b9 ?_) | skip
 refine a7 (aQ3 ht.typeIs (by decide) ?_)
 refine a7 (F5 (name:=Str.ofString "__getitem__") ht.typeIs PyProof.Rows.slot_tuple_getitem
  (F7 PyProof.Rows.slot_tuple_getitem ht.typeIs aE1 ?_ (aJ4 _ _)))
 show m5 _ _ (Builtin.Tuple.tupleItemsOf (.ref t) >>= _) _ _ s
 refine a7 (bB6 ht ?_)
 refine a7 (ah7 hTs ?_)
 rw[if_pos (by decide)]
 refine a7 (aW8 hs ?_)
 show m5 _ _ (if (((items.size:Int) - 1) == 0 && (-1:Int) == 1 && items.size == items.size)=true then _ else _) _ _ s
 rw[if_neg (by simp)]
 show m5 _ _ ((Builtin.Tuple.tupleExact (((x6 items.size).filterMap fun(m:Nat)=>items[((items.size:Int) - 1+(m:Int)*(-1)).toNat]?).toArray)) >>= _) _ _ s
 rw[bt3]
 first
  | exact a7 (m:=Builtin.Tuple.tupleExact _) (A7 (b9 ⟨_,rfl,b9 h⟩) htake)
  | exact a7 (m:=Builtin.Tuple.tupleExact _) (A7 (a7 (b9 (b9 ⟨_,rfl,b9 h⟩))) htake)
  | exact a7 (a7 (m:=Builtin.Tuple.tupleExact _) (A7 (b9 (b9 ⟨_,rfl,b9 h⟩)) htake))
  | exact a7 (a7 (m:=Builtin.Tuple.tupleExact _) (A7 (b9 ⟨_,rfl,b9 h⟩) htake))
end HT
namespace L2
open PySem PySem.Spec PyProof.Rows
section
variable {st:Expr} {ts:TE} {p2:Pos}
def ch7 (K:W.Frag):V->Option Int->Option Int->Hp->VK->Prop:=fun x lo hi H Q=>∃ a xs,x=.ref a/\SqT K H a xs/\∀ (p:Addr) (H':Hp),o7 H H'->SqT K H' p (aa9 xs lo hi)->Q (.ref p) H'
theorem az2 {o:HO}(h:H l=none):o7 H (upd H l o):=fun b u e=>by
 rw[m9 (u0 e h)]
 exact e
theorem aL4:SlR X (ch7 X.K):=by
 intro pins s σ H x v vl vu lo hi sl Q I rx hs pl pu h
 obtain⟨a,xs,e,hx,q⟩:=h
 by_cases hw:HT.sIx xs.length 0 lo=0/\HT.sIx xs.length xs.length hi=xs.length
 ·subst e
  cases rx
  obtain⟨its,r,ht,hz⟩:=I.tuple hx
  have hlen:its.toArray.size=xs.length:=by rw[d3];exact r.length.symm
  refine⟨"tuple",_,PyProof.Rows.slot_tuple_getitem.lookup,ht.typeIs,?_⟩
  refine HT.ao6 ht hs pl pu (by rw[hlen];exact hw) ⟨.ref a,H,I,rfl,q a H (o7.refl H) ?_⟩
  have ec:aa9 xs lo hi=xs:=by
   unfold aa9
   rw[hw.1,hw.2,av2,l6 (by omega)]
  rw[ec]
  exact hx
 ·exact bQ0 pins s σ H x v vl vu lo hi sl Q I rx hs pl pu ⟨a,xs,e,hx,hw,fun p hp=>q p _ (az2 hp) (SqT.of b8)⟩
def bM0 (K:W.Frag):R2:=fun x y H Q=>∃ a b xs ys,x=.ref a/\y=.ref b/\SqT K H a xs/\SqT K H b ys/\xs.length+ys.length<=c5/\∀ (p:Addr) (H':Hp),o7 H H'->SqT K H' p (xs++ys)->Q (.ref p) H'
theorem ac9:OpR X (O5 .Add) (bM0 X.K):=by
 intro pins s σ H x y v u Q I rx ry h
 obtain⟨a,b,xs,ys,e1,e2,ha,hb,hz,q⟩:=h
 by_cases hx:xs=[]
 ·by_cases hy:ys=[]
  ·subst e1 e2
   cases rx
   cases ry
   obtain⟨its,r1,p1,_⟩:=I.tuple ha
   obtain⟨its2,r2,p2,_⟩:=I.tuple hb
   have hv:its=[]:=r1.nil_iff.mpr hx
   obtain⟨⟨cls,dd,data,sl⟩,ho,hc,n,hd⟩:=id p1
   obtain⟨⟨cls2,dd2,data2,sl2⟩,ho2,hc2,n2,hd2⟩:=id p2
   simp only at hc hd hc2 hd2
   subst hc hd hc2 hd2
   refine aX3 ⟨_,ho,rfl⟩ ⟨_,ho2,rfl⟩ aq2 aJ3 PySem.F.slot_tuple_add PySem.F.entry_tuple_add (PySem.F.args_tuple_add_2 _ _)
    (tuple_addW0 a b its.toArray its2.toArray n n2 dd dd2 sl sl2 (by simp[hv])) ⟨ho,ho2,⟨.ref b,H,I,rfl,q b H (o7.refl H) ?_⟩⟩
   rw[hx]
   exact hb
  ·exact bt9 pins s σ H x y v u Q I rx ry ⟨a,b,xs,ys,e1,e2,ha,hb,hy,hz,fun z=>q b H (o7.refl H) (by rw[z];exact hb),fun _ p hp=>q p _ (az2 hp) (SqT.of b8)⟩
 ·exact bf9 pins s σ H x y v u Q I rx ry ⟨a,b,xs,ys,e1,e2,ha,hb,hx,hz,fun z=>q a H (o7.refl H) (by rw[z,G2];exact ha),fun _ p hp=>q p _ (az2 hp) (SqT.of b8)⟩
def ca2 (K:W.Frag)(te ts:TE):TE:=fun σ H Q=>te σ H fun x H1=>ts σ H1 fun y H2=>y=.int (-1)/\∃ a xs,x=.ref a/\SqT K H2 a xs/\∀ p,H2 p=none->Q (.ref p) (upd H2 p (.tup xs.reverse))
theorem bF1 (he:PE X e te)(hst:PE X st ts)(hsu:∃ ops:Value->Value->List Value,∀ v u,aE2 (.Slice none none (some st) p2) false v u=operate (ops v u) (aa0 v u):=by exact⟨_,fun _ _=>by with_unfolding_all rfl⟩):PE X (.Subscript e (.Slice none none (some st) p2) pos) (ca2 X.K te ts):=by
 intro pins s σ H Q I h
 refine bA2 (thn (he pins s σ H _ I h) fun v s1 ⟨x,H1,I1,r1,q1⟩=>?_)
 refine wpAny_Slice ?_
 rw[bB7]
 refine b9 (b9 ?_)
 rw[evalPart_some]
 refine thn (hst pins s1 σ H1 _ I1 q1) fun w s2 ⟨y,H2,I2,r2,ey,a,xs,ex,hS,q⟩=>?_
 subst ey ex
 obtain⟨tk,rfl⟩:=r2
 cases r1
 have I4:Inv X pins σ H2 { s2 with heap:=s2.heap.push { cls:=.type "slice",data:=.fields #[.none,.none,.int (-1) tk] } }:=I2.kept (t':=s2.toks) fun b ob q=>a8 _ q
 obtain⟨its,r,ht,hz⟩:=I4.tuple hS
 show m5 (p0 X.prog X.w) X.A (aJ5 e (.Slice none none (some st) p2) (.ref a) (.ref s2.heap.objs.size)) (EP X pins σ Q) X.xe { s2 with heap:=s2.heap.push { cls:=.type "slice",data:=.fields #[.none,.none,.int (-1) tk] } }
 obtain⟨ops,hsu⟩:=hsu
 have hl:its.length=xs.length:=r.length.symm
 refine tail_any (ops:=ops (.ref a) (.ref s2.heap.objs.size)) ht.typeIs PyProof.Rows.slot_tuple_getitem.lookup (HT.aV6 ht (Heap.IsSliceOf.new ..) ?_ (by rw[d3,hl];exact hz)) (hsu _ _)
 exact⟨.ref _,_,I4.laid (t':=s2.toks) (o:=.tup xs.reverse) (fun b ob q=>a8 _ q) (c6 _) ⟨(by rw[R6];exact hz),its.reverse,r.reverse,IsTup.new _ _⟩,rfl,q _ (I4.hok.fresh (c6 _))⟩
end
end L2
namespace Tim
open PySem PyProof.Rows
theorem ay4 {T:String} {o:Obj} {c:Nat} (hT:T="list"\/T="tuple") (ho:s.heap.get? l=some o) (hc:o.cls=.type T) (hd:o.data=.seq vs.toArray c) (hz:vs.length<=c5) (h64:vs.length<64) (hv:∀ v∈vs,∃ i k,IsK prog w s.heap (i::k) v)
  (h : ∀ (out : List Value) (h1 h' : Heap) (n : Nat), (∀ b o, s.heap.get? b = some o -> h1.get? b = some o) -> out.Perm vs -> out.Pairwise (fun x y => F2 (N7 prog w s.heap y) (N7 prog w s.heap x) = false) -> (∀ b o, h1.get? b = some o -> h'.get? b = some o) ->
   h'.get? h1.objs.size=some { cls:=.type "list",data:=.seq out.toArray n }->Q (.ref h1.objs.size) { s with heap:=h' }) :
  m5 (p0 prog w) A (call (.builtin "sorted") [.ref l]) Q E s:=by
 refine Calls.call_function_entry bk3 aX7 aX8 (args_sorted1 _) ?_
 unfold av3.«sorted»
 refine a7 (m:=bA5 "sorted" 1 1 _) (b9 ?_)
 refine a7 (wpAny_collect_seq l hT ho hc hd (fun h1 kp=>?_) (by rw[d3];exact hz))
 rw[aw1]
 refine a7 (O6 ?_ hz)
 generalize hH:h1.push (E2 "list" vs.toArray 0)=h2
 have hoL:h2.get? h1.objs.size=some (E2 "list" vs.toArray 0):=by
  rw[<- hH];exact j3 _ rfl
 have keep1:∀ b o,h1.get? b=some o->h2.get? b=some o:=fun b o e=>by
  rw[<- hH]
  exact a8 _ e
 have keep:∀ b o,s.heap.get? b=some o->h2.get? b=some o:=fun b o e=>keep1 b o (kp b o e)
 have up:∀ v k,IsK prog w s.heap k v->IsK prog w h2 k v:=fun v k hk=>hk.up keep
 have kA:∀ v∈vs,N7 prog w h2 v=N7 prog w s.heap v:=fun v hv'=>by
  obtain⟨i,k,hk⟩:=hv v hv'
  rw[M4 hk,M4 (up v _ hk)]
 refine a7 (C1 (F7 aD2 (s:={ s with heap:=h2 }) ⟨_,hoL,rfl⟩ av5 (ay7 (s:={ s with heap:=h2 }) hoL hz h64 (fun v hv'=>?_) (fun v hv' z=>?_) fun out a1 a2=>⟨_,rfl,?_⟩) (args_list_sort _)))
 ·obtain⟨i,k,hk⟩:=hv v hv'
  exact⟨i,k,up v _ hk⟩
 ·obtain⟨i,k,a,rfl,o,items,n,ho,_⟩:=hv v hv'
  cases z
  exact absurd (d9 (kp _ _ ho)) (C9 _)
 ·have hlast:∃ n,(U4 h2 h1.objs.size vs out.toArray).get? h1.objs.size=some (E2 "list" out.toArray n):=by
   unfold U4
   have g1:=N1 hoL (fun _=>(#[]:Array Value))
   have g2:(((h2.update h1.objs.size (Obj.mapSeq fun _=>#[])).push (E2 "tuple" vs.toArray 0)).push (E2 "list" #[] 0)).get? h1.objs.size=_:=a8 _ (a8 _ g1)
   exact⟨_,N1 g2 (fun _=>out.toArray)⟩
  obtain⟨n,hn⟩:=hlast
  refine b9 ⟨_,rfl,h out h1 _ n kp a1 ?_ (fun b o e=>?_) hn⟩
  ·refine List.Pairwise.imp_of_mem ?_ a2
   intro x y hx hy hxy
   rw[kA x (a1.mem_iff.mp hx),kA y (a1.mem_iff.mp hy)]at hxy
   exact hxy
  ·have hb:b≠h1.objs.size:=i8 (d9 e)
   unfold U4
   refine(B7 _ _ (Ne.symm hb)).trans (a8 _ (a8 _ ((B7 _ _ (Ne.symm hb)).trans (keep1 b o e))))
end Tim
namespace L2
open PySem PySem.Spec PyProof.Rows
theorem V4:R9 X (.builtin "sorted") (fun xs H Q=>∃ p ys ks,xs=[.ref p]/\(SqL X.K H p ys\/SqT X.K H p ys)/\y7 X.K H ys ks/\(∀ k∈ks,k≠[])/\ks.length<64 /\
  ∀ l zs ks',H l=none->ks'.Perm ks->ks'.Pairwise (fun a b=>Tim.F2 b a=false)->y7 X.K (upd H l (.lst zs)) zs ks'->Q (.ref l) (upd H l (.lst zs))):=by
 intro pins s σ H xs us Q I r h
 obtain⟨p,ys,ks,rfl,hq,ht,hne,h64,q⟩:=h
 obtain⟨u,rfl,rx⟩:=vals1 r
 cases rx
 obtain⟨its,T,o,c,r',hT,ho,hc,hd,hz⟩:∃ (its:List Value) (T:String) (o:Obj) (c:Nat),B9 ys its/\(T="list"\/T="tuple")/\s.heap.get? p=some o/\o.cls=.type T/\o.data=.seq its.toArray c/\ys.length<=c5:=by
  rcases hq with hq | hq
  ·obtain⟨its,r',pl,hz⟩:=I.list hq
   obtain⟨o,ho,hc,n,hd⟩:=pl.isList
   exact⟨its,"list",o,n,r',.inl rfl,ho,hc,hd,hz⟩
  ·obtain⟨its,r',pl,hz⟩:=I.tuple hq
   obtain⟨o,ho,hc,n,hd⟩:=pl
   exact⟨its,"tuple",o,n,r',.inr rfl,ho,hc,hd,hz⟩
 have hlen:=r'.length
 have hk:=S2 I ht r'
 have hv:∀ v∈its,∃ i k,Tim.IsK X.prog X.w s.heap (i::k) v:=fun v hv=>by
  obtain⟨j,hj⟩:=C3.mp hv
  obtain⟨k,h1,a,rfl,h2⟩:=S5 hk hj
  cases k with
  | nil=>exact absurd rfl (hne [] (d5 h1))
  | cons i k=>exact⟨i,k,a,rfl,h2⟩
 refine Tim.ay4 hT ho hc hd (by omega) (by have:=hk.length;omega) hv fun out h1 h' n kp1 hp hs kp e=>?_
 have I1:Inv X pins σ H { s with heap:=h1,toks:=s.toks }:=I.kept kp1
 obtain⟨zs,pz,rz⟩:=Y6 hp (T9 r')
 have rz':B9 zs out:=T9 rz
 have hzl:zs.length<=c5:=by rw[pz.length_eq];exact hz
 have hfr:H h1.objs.size=none:=I1.hok.fresh (c6 _)
 have keepS:∀ b o,H b=some o->upd H h1.objs.size (.lst zs) b=some o:=fun b o e=>by rw[m9 (u0 e hfr)];exact e
 refine⟨.ref h1.objs.size,upd H h1.objs.size (.lst zs),I1.laid (t':=s.toks) kp (c6 _) (show F3 X.prog X.w _ h' _ (.lst zs) from ⟨hzl,out,n,rz',e⟩),rfl,?_⟩
 obtain⟨ks',pk,hk'⟩:=Y6 pz (show X6 (fun y k=>∃ a,y=V.ref a/\SqT X.K H a (k.map V.int)) ys ks from ht)
 refine q _ zs ks' hfr pk ?_ (y7.same keepS hk')
 have hko:=S2 I (show y7 X.K H zs ks' from hk') rz'
 have eq:ks'=out.map (Tim.N7 X.prog X.w s.heap):=by
  clear hs hp rz rz' hk' pk e
  induction hko with
  | nil=>rfl
  | cons r t ih =>
   obtain⟨a,rfl,hka⟩:=r
   rw[j9,Tim.M4 ⟨a,rfl,hka⟩,<- ih]
 rw[eq,E5]
 exact hs
end L2
namespace Web
open PySem L2
inductive Pap where
 | al:Wz->Pap
 | no:Wz->Pap
 | so:Int->List (List Int)->Int->List (List Int)->Pap
def ab1 (K:W.Frag)(H:Hp)(r:Addr):Pap->Prop
 | .al x=>∃ p,SqT K H r [.str "all",.ref p]/\SqT K H p (wzT x)
 | .no x=>∃ p,SqT K H r [.str "none",.ref p]/\SqT K H p (wzT x)
 | .so z1 k1 z2 k2=>∃ w1 w2,SqT K H r [.str "some",.ref w1,.ref w2]/\Wx K H w1 z1 k1/\Wx K H w2 z2 k2
theorem ab1.same {K:W.Frag}{r:Addr}{x:Pap}(h:ab1 K H r x)(s:o7 H H'):ab1 K H' r x:=by
 cases x with
 | al x=>obtain⟨p,h1,h2⟩:=h;exact⟨p,s.seqT h1,s.seqT h2⟩
 | no x=>obtain⟨p,h1,h2⟩:=h;exact⟨p,s.seqT h1,s.seqT h2⟩
 | so z1 k1 z2 k2=>obtain⟨w1,w2,h1,h2,h3⟩:=h;exact⟨w1,w2,s.seqT h1,h2.same s,h3.same s⟩
def bi6 (ns:List Int)(i j:Nat)(z1:Int)(k1:List (List Int))(z2:Int)(k2:List (List Int)):Prop:=bJ6 ns z1 k1/\bJ6 ns z2 k2/\up [(i:Int),(j:Int)]∈k1/\up [(i:Int),(j:Int)]∉k2
def aI8 (ns:List Int)(i j:Nat):Pap->Prop
 | .al x=>shw (mv2 ns 1 [(i:Int),(j:Int)]) x=true
 | .no x=>shw (mv2 ns (-1) [(i:Int),(j:Int)]) x=true
 | .so z1 k1 z2 k2=>bi6 ns i j z1 k1 z2 k2
theorem aG4 {K:W.Frag}{r:Addr}{x:Pap}{Q:VK}(hx:ab1 K H r x)(q:∀ (b:Bool) (H':Hp),o7 H H'->(b=true↔aI8 ns i j x)->Q (.bl b) H') :
  (∃ (z1:Int) (k1:List (List Int)) (z2:Int) (k2:List (List Int)) (w1 w2:Addr),SqT K H r [.str "some",.ref w1,.ref w2]/\Wx K H w1 z1 k1/\Wx K H w2 z2 k2/\∀ (b:Bool) (H':Hp),o7 H H'->(b=true↔bi6 ns i j z1 k1 z2 k2)->Q (.bl b) H') \/
  (∃ (p:Addr) (m:Int) (s:Str) (z:Wz),((m=1/\s="all")\/(m = -1/\s="none"))/\SqT K H r [.str s,.ref p]/\SqT K H p (wzT z)/\∀ H',o7 H H'->Q (.bl (shw (mv2 ns m [(i:Int),(j:Int)]) z)) H'):=by
 cases x with
 | al z=>obtain⟨p,h1,h2⟩:=hx;exact .inr ⟨p,1,"all",z,.inl ⟨rfl,rfl⟩,h1,h2,fun H' s'=>q _ H' s' Iff.rfl⟩
 | no z=>obtain⟨p,h1,h2⟩:=hx;exact .inr ⟨p,-1,"none",z,.inr ⟨rfl,rfl⟩,h1,h2,fun H' s'=>q _ H' s' Iff.rfl⟩
 | so z1 k1 z2 k2=>obtain⟨w1,w2,h1,h2,h3⟩:=hx;exact .inl ⟨z1,k1,z2,k2,w1,w2,h1,h2,h3,q⟩
theorem ff {p:Prop}(h:¬ p):false=true↔p:=⟨fun h=>(by cases h),fun g=>absurd g h⟩
seal L2.PE L2.PA L2.PS L2.PSs L2.PT
section
variable {K:W.Frag} {base:Heap}
def aK4 (K:W.Frag)(CN:Addr):Sp:=fun vs H Q E=>∃ (p:Addr) (n:Nat) (a b:Int) (ks:List (List Int)),vs=[.ref p,.int a,.int b]/\aC4 K H p n ks /\
 (aA8 n a/\aA8 n b->∀ H',o7 H H'->Q (.bl (decide (up [a,b]∈ks))) H')/\(¬ (aA8 n a/\aA8 n b)->E (.ref CN) none H)
theorem bQ4:v7 ["web","one","other"] ["web","one","other"] (d8 au2):=.mk'
theorem bu2 {fI fC:Addr} {fdC:FuncData} (F:Fun K "tied" "tied" au2 f fd) (B:Bn mg) (FI:Fun K "is_place" "is_place" ar3 fI fdI) (bI:Binds K fdI ["places","number"] []) (mI:mg "is_place"=some (.ref fI))
  (FC:Fun K "check_place" "check_place" aE9 fC fdC) (bC:Binds K fdC ["places","number"] []) (mC:mg "check_place"=some (.ref fC)) (mN:mg "NoPlace"=some (.ref CN)) (cN:S8 K CN):o4 P w K mg base (CXE P w) 3 f fd ["web","one","other"] (aK4 K CN):=by
 have GC:o4 P w K mg base (CXE P w) 2 fC fdC ["places","number"] (aK9 CN):=aN4 FC FI bI mI mN cN
 refine F.okX bQ4 (fun cdv A outer s H vs Q E hr h=>?_)
 obtain⟨p,n,a,b,ks,rfl,⟨t,zs,h1,h2,h3⟩,q,qE⟩:=h
 have hun:=hr.units
 refine⟨_,c7 (D6 (j8 GC hr (by rfl) mC FC.kp bC .nil Y5 (a6 (x9 y9 (pv 0) c8 (fun _ _=>rfl)) (a6 (pv 1) b7))))
  (c7 (D6 (j8 GC hr (by rfl) mC FC.kp bC .nil Y5 (a6 (x9 y9 (pv 0) c8 (fun _ _=>rfl)) (a6 (pv 2) b7))))
  (i5 (u9 (T5 aN3 (v9 (a6 (m7 (aj2 rfl) (by rfl) B.min (by rfl) (a6 (pv 1) (a6 (pv 2) b7))) (a6 (m7 (as5 rfl) (by rfl) B.max (by rfl) (a6 (pv 1) (a6 (pv 2) b7))) b7)))
   (x9 y9 (pv 0) c8 (fun _ _=>rfl)) (by rfl))))),?_⟩
 have a0:atI ([.int n,.ref t]:List V) 0=some (.int n):=n9 (j:=0) rfl
 have a1:atI ([.int n,.ref t]:List V) 1=some (.ref t):=n9 (j:=1) rfl
 refine⟨_,rfl,p,_,_,_,rfl,rfl,h1,a0,_,rfl,n,a,rfl,fun ha=>?_,fun ha=>qE fun z=>ha z.1⟩
 refine⟨_,rfl,p,_,_,_,rfl,rfl,h1,a0,_,rfl,n,b,rfl,fun hb=>?_,fun hb=>qE fun z=>hb z.2⟩
 refine⟨_,rfl,_,rfl,_,_,rfl,_,rfl,_,rfl,_,_,rfl,(by show 2<=c5;decide),fun x hx=>?_⟩
 have s1:=c9 (o:=.tup [.int (if b<a then b else a),.int (if b > a then b else a)]) hx
 refine⟨_,rfl,p,_,_,_,rfl,rfl,s1.seqT h1,a1,t,zs,dP (up [a,b]),ks.map dP,rfl,.inr (s1.seqT h2),Dt.mkP (SqT.of b8),(s1.tups h3).dtAll,bb7 _,Q3 ks,?_,?_⟩
 ·exact ar1 hun (n8 (bc9 _) (by decide))
 ·show Q (.bl ((ks.map dP).any fun d=>PyData.eqv d (dP (up [a,b])))) _
  rw[aP1]
  exact q ⟨ha,hb⟩ _ s1
def aK5 (K:W.Frag):Sp:=fun vs H Q _=>∃ (a w1 w2:Addr) (ns:List Int) (i j:Nat) (z1:Int) (k1:List (List Int)) (z2:Int) (k2:List (List Int)),vs=[.ref a,.int i,.int j,.ref w1,.ref w2]/\Sq K H a ns/\i<ns.length/\j<ns.length/\Wx K H w1 z1 k1/\Wx K H w2 z2 k2/\∀ (b:Bool) (H':Hp),o7 H H'->(b=true↔bi6 ns i j z1 k1 z2 k2)->Q (.bl b) H'
theorem bQ5:v7 ["tally","one","other","with_it","without"] ["tally","one","other","with_it","without"] (d8 au3):=.mk'
theorem bu3 {fO:Addr}{fdO:FuncData}(F:Fun K "some_shows" "some_shows" au3 f fd)(FO:Fun K "is_web_of" "is_web_of" ag4 fO fdO)(bO:Binds K fdO ["tally","web"] [])(mO:mg "is_web_of"=some (.ref fO))(GO:o4 P w K mg base CX0 5 fO fdO ["tally","web"] (aZ2 K))
  (FT:Fun K "tied" "tied" au2 fT fdT)(bT:Binds K fdT ["web","one","other"] [])(mT:mg "tied"=some (.ref fT))(GT:o4 P w K mg base (CXE P w) 5 fT fdT ["web","one","other"] (aK4 K CN)):o4 P w K mg base CX0 6 f fd ["tally","one","other","with_it","without"] (aK5 K):=by
 refine F.ok bQ5 (fun cdv A outer s H vs Q E hr h=>?_)
 obtain⟨a,w1,w2,ns,i,j,z1,k1,z2,k2,rfl,hS,hi,hj,x1,x2,q⟩:=h
 refine⟨_,c7 (E3 (PW.pt (ae1 (P3 (S3 (j8 GO hr (by rfl) mO FO.kp bO .nil E4 (a6 (pv 0) (a6 (pv 3) b7))))) (ag5 (P3 (S3 (j8 GO hr (by rfl) mO FO.kp bO .nil E4 (a6 (pv 0) (a6 (pv 4) b7)))))))) (i5 (u9 an5)) A4)
  (i5 (u9 (aM9 (j8 GT hr (by rfl) mT FT.kp bT .nil (R7 (P:=P) (w:=w)) (a6 (pv 3) (a6 (pv 1) (a6 (pv 2) b7)))) (aM6 (bR9 (j8 GT hr (by rfl) mT FT.kp bT .nil (R7 (P:=P) (w:=w)) (a6 (pv 4) (a6 (pv 1) (a6 (pv 2) b7))))))))),?_⟩
 refine⟨_,rfl,_,rfl,a,w1,ns,z1,k1,rfl,hS,x1,fun b1 H1 s1 hb1=>⟨_,rfl,?_⟩⟩
 cases b1 with
 | false=>exact E7 (E7 (q false H1 s1 (ff fun h=>absurd (hb1.mpr h.1) (by decide))))
 | true =>
 refine E8 ⟨_,rfl,_,rfl,a,w2,ns,z2,k2,rfl,hS.same s1,x2.same s1,fun b2 H2 s2 hb2=>⟨_,rfl,?_⟩⟩
 have s12:=s1.trans s2
 cases b2 with
 | false=>exact E7 (q false H2 s12 (ff fun h=>absurd (hb2.mpr h.2.1) (by decide)))
 | true =>
 have y1:=hb1.mp rfl
 have y2:=hb2.mp rfl
 obtain⟨n1,T1,e1⟩:=id y1
 obtain⟨n2,T2,e2⟩:=id y2
 have l1:n1=ns.length:=by rw[<- e1,L9]
 have l2:n2=ns.length:=by rw[<- e2,L9]
 subst l1
 subst l2
 obtain rfl:=T1.z
 obtain rfl:=T2.z
 have W1:aC4 K H w1 ns.length k1:=x1.1
 have W2:aC4 K H w2 ns.length k2:=x2.1
 have pl:aA8 ns.length (i:Int)/\aA8 ns.length (j:Int):=⟨⟨by omega,by omega⟩,by omega,by omega⟩
 refine E8 ⟨_,rfl,_,rfl,_,rfl,w1,ns.length,i,j,k1,rfl,W1.same s12,fun _ H3 s3=>⟨_,rfl,?_⟩,fun h=>absurd pl h⟩
 have s13:=s12.trans s3
 by_cases m1:up [(i:Int),(j:Int)]∈k1
 rotate_left
 ·rw[decide_eq_false m1]
  exact E8 (q false H3 s13 (ff fun h=>m1 h.2.2.1))
 rw[decide_eq_true m1]
 refine E7 ⟨_,rfl,_,rfl,_,rfl,w2,ns.length,i,j,k2,rfl,W2.same s13,fun _ H4 s4=>?_,fun h=>absurd pl h⟩
 refine⟨_,rfl,q _ H4 (s13.trans s4) ?_⟩
 by_cases m2:up [(i:Int),(j:Int)]∈k2
 ·rw[decide_eq_true m2]
  exact ff fun h=>h.2.2.2 m2
 ·rw[decide_eq_false m2]
  exact⟨fun _=>⟨y1,y2,m1,m2⟩,fun _=>rfl⟩
def aK7 (K:W.Frag):Sp:=fun vs H Q _=>∃ (a r:Addr) (ns:List Int) (i j:Nat) (x:Pap),vs=[.ref a,.int i,.int j,.ref r]/\Sq K H a ns/\O9 ns/\ad6 ns .free/\i<ns.length/\j<ns.length/\i≠j/\ab1 K H r x/\∀ (b:Bool) (H':Hp),o7 H H'->(b=true↔aI8 ns i j x)->Q (.bl b) H'
theorem bL3:v7 ["tally","one","other","told","more"] ["tally","one","other","told"] (d8 aL5):=.mk'
set_option maxHeartbeats 1000000 in
theorem bG4 {fH fP fM fS fZ CW CN:Addr}{fdH fdP fdM fdS fdZ:FuncData}(F:Fun K "pair_shows" "pair_shows" aL5 f fd)(B:Bn mg)(FH:Fun K "check_has_web" "check_has_web" aL7 fH fdH)(bH:Binds K fdH ["tally"] [])(mH:mg "check_has_web"=some (.ref fH))(GH:o4 P w K mg base (CXE P w) 6 fH fdH ["tally"] (be5 K CW))
  (FP:Fun K "check_pair" "check_pair" aL9 fP fdP)(bP:Binds K fdP ["places","one","other"] [])(mP:mg "check_pair"=some (.ref fP))(GP:o4 P w K mg base CX0 6 fP fdP ["places","one","other"] be7)
  (FM:Fun K "moved_both" "moved_both" aL6 fM fdM)(bM:Binds K fdM ["tally","one","other","more"] [])(mM:mg "moved_both"=some (.ref fM))(GM:o4 P w K mg base CX0 6 fM fdM ["tally","one","other","more"] (aR4 K))
  (FS:Fun K "some_shows" "some_shows" au3 fS fdS)(bS:Binds K fdS ["tally","one","other","with_it","without"] [])(mS:mg "some_shows"=some (.ref fS))(GS:o4 P w K mg base CX0 6 fS fdS ["tally","one","other","with_it","without"] (aK5 K))
  (FZ:Fun K "wall_shows" "wall_shows" ac1 fZ fdZ)(bZ:Binds K fdZ ["tally","wall"] [])(mZ:mg "wall_shows"=some (.ref fZ))(GZ:o4 P w K mg base (CXE P w) 6 fZ fdZ ["tally","wall"] (aw7 K CB)):o4 P w K mg base (CXE P w) 7 f fd ["tally","one","other","told"] (aK7 K):=by
 refine F.okX bL3 (fun cdv A outer s H vs Q E hr h=>?_)
 obtain⟨a,r,ns,i,j,x,rfl,hS,ht,hf,hi,hj,hij,hx,q⟩:=h
 refine⟨_,c7 (D6 (j8 GH hr (by rfl) mH FH.kp bH .nil Y5 (a6 (pv 0) b7)))
  (c7 (D6 (j8 GP hr (by rfl) mP FP.kp bP .nil E4 (a6 (m7 o6 (by rfl) B.len PySem.boot_len (a6 (pv 0) b7)) (a6 (pv 1) (a6 (pv 2) b7)))))
  (c7 (E3 (A0 R0 (x9 y9 (pv 3) c8 (fun _ _=>rfl)) G0 (A9 _)) (i5 (u9 (j8 GS hr (by rfl) mS FS.kp bS .nil E4 (a6 (pv 0) (a6 (pv 1) (a6 (pv 2) (a6 (x9 y9 (pv 3) c8 (fun _ _=>rfl)) (a6 (x9 y9 (pv 3) c8 (fun _ _=>rfl)) b7)))))))) A4)
  (c7 (A3 (i:=4) bL3.nd rfl (Or.inl rfl) (aT2 (A0 R0 (x9 y9 (pv 3) c8 (fun _ _=>rfl)) G0 (A9 _)) c8 (ak2 Z4 c8)))
  (i5 (u9 (j8 GZ hr (by rfl) mZ FZ.kp bZ .nil (R7 (P:=P) (w:=w)) (a6 (j8 GM hr (by rfl) mM FM.kp bM .nil E4 (a6 (pv 0) (a6 (pv 1) (a6 (pv 2) (a6 (pv 4) b7))))) (a6 (x9 y9 (pv 3) c8 (fun _ _=>rfl)) b7)))))))),?_⟩
 refine⟨_,rfl,a,ns,rfl,hS,ht,fun _ H1 s1=>?_,fun hn=>absurd hf hn⟩
 have hS1:=hS.same s1
 refine⟨_,rfl,a,_,rfl,hS1,_,rfl,_,rfl,ns.length,i,j,by rw[a9];rfl,hi,hj,hij,?_⟩
 rcases aG4 hx q with⟨z1,k1,z2,k2,w1,w2,gr,x1,x2,q⟩ | ⟨p,m,s,z,hms,gr,gp,q⟩
 ·have a0:atI ([.str "some",.ref w1,.ref w2]:List V) 0=some (.str "some"):=n9 (j:=0) rfl
  have a1:atI ([.str "some",.ref w1,.ref w2]:List V) 1=some (.ref w1):=n9 (j:=1) rfl
  have a2:atI ([.str "some",.ref w1,.ref w2]:List V) 2=some (.ref w2):=n9 (j:=2) rfl
  have gr1:=s1.seqT gr
  refine⟨_,rfl,r,_,_,_,rfl,rfl,gr1,a0,rfl,_,rfl,?_⟩
  rw[decide_eq_true rfl]
  refine E7 ?_
  exact⟨_,rfl,_,rfl,_,rfl,_,rfl,r,_,_,_,rfl,rfl,gr1,a1,_,rfl,r,_,_,_,rfl,rfl,gr1,a2,a,w1,w2,ns,i,j,z1,k1,z2,k2,rfl,hS1,hi,hj,x1.same s1,x2.same s1,fun b H2 s2 hb=>q b _ (s1.trans s2) hb⟩
 ·have a0:atI ([.str s,.ref p]:List V) 0=some (.str s):=n9 (j:=0) rfl
  have a1:atI ([.str s,.ref p]:List V) 1=some (.ref p):=n9 (j:=1) rfl
  have gr1:=s1.seqT gr
  have tl2:O9 (mv2 ns m [(i:Int),(j:Int)]):=⟨by rw[ai9];exact ht.1,by rw[ai9];exact ht.2⟩
  have go:∀ H2:Hp,H2=H1->aR4 K [.ref a,.int i,.int j,.int m] H2 (fun v H3=>aw7 K CB [v,.ref p] H3 Q E0) E0:=fun H2 e=>by
   subst e
   refine⟨a,i,j,m,ns,rfl,hS1,ht,hi,hj,fun l H3 s3 f3 g3=>?_⟩
   exact⟨l,p,_,z,rfl,.inl (SqL.of g3),s3.seqT (s1.seqT gp),fun _ H4 s4=>q _ ((s1.trans s3).trans s4),fun h=>absurd tl2 h⟩
  refine⟨_,rfl,r,_,_,_,rfl,rfl,gr1,a0,rfl,_,rfl,?_⟩
  rcases hms with⟨rfl,rfl⟩ | ⟨rfl,rfl⟩
  ·rw[decide_eq_false (by decide)]
   refine E8 ⟨_,rfl,r,_,_,_,rfl,rfl,gr1,a0,rfl,_,rfl,?_⟩
   rw[decide_eq_true rfl]
   refine E7 ?_
   obtain⟨a',i',j',m',ns',e,z1,z2,z3,z4,z5⟩:=go _ rfl
   refine⟨_,rfl,_,rfl,_,rfl,_,rfl,a',i',j',m',ns',e,z1,z2,z3,z4,fun l H3 s3 f3 g3=>?_⟩
   exact⟨_,rfl,r,_,_,_,rfl,rfl,s3.seqT gr1,a1,z5 l H3 s3 f3 g3⟩
  ·rw[decide_eq_false (by decide)]
   refine E8 ⟨_,rfl,r,_,_,_,rfl,rfl,gr1,a0,rfl,_,rfl,?_⟩
   rw[decide_eq_false (by decide)]
   refine E8 ⟨_,rfl,?_⟩
   obtain⟨a',i',j',m',ns',e,z1,z2,z3,z4,z5⟩:=go _ rfl
   refine⟨_,rfl,_,rfl,_,rfl,_,rfl,a',i',j',m',ns',e,z1,z2,z3,z4,fun l H3 s3 f3 g3=>?_⟩
   exact⟨_,rfl,r,_,_,_,rfl,rfl,s3.seqT gr1,a1,z5 l H3 s3 f3 g3⟩
end
end Web
namespace Web
open PySem L2
theorem bH6 {a b c d:Int}(h:Tim.F2 [c,d] [a,b]=false)(hne:([a,b]:List Int)≠[c,d]):HT.lexLt [a,b] [c,d]=true:=by
 unfold Tim.F2 Tim.F2 at h
 rw[HT.ad0]
 by_cases e1:c=a
 ·rw[if_pos e1]at h
  rw[if_pos e1.symm,HT.ad0]
  by_cases e2:d=b
  ·exact absurd (by rw[e1,e2]) hne
  ·rw[if_neg e2]at h
   rw[if_neg (Ne.symm e2)]
   have:=of_decide_eq_false h
   exact decide_eq_true (by omega)
 ·rw[if_neg e1]at h
  rw[if_neg (Ne.symm e1)]
  have:=of_decide_eq_false h
  exact decide_eq_true (by omega)
theorem bm3 {c d:Int}(h:0<=c):HT.lexLt [-1,-1] [c,d]=true:=by
 rw[HT.ad0,if_neg (by omega)]
 exact decide_eq_true (by omega)
def ak3 (ks:List (List Int)):Nat->List Int
 | 0=>[-1,-1]
 | i+1=>ks.getD i []
theorem bH9 (T:Tld n ks)(h:ks[i]?=some k):HT.lexLt (ak3 ks i) k=true/\(ak3 ks i).length=2:=by
 obtain⟨u,v,_,_,rfl⟩:=T.ups k (d5 h)
 cases i with
 | zero=>exact⟨bm3 (by omega),rfl⟩
 | succ i =>
  have hil:i+1<ks.length:=(m4.mp h).1
  have e1:ks[i]?=some ks[i]:=d6 (by omega)
  have el:ak3 ks (i+1)=ks[i]:=by show ks.getD i []=_;rw[i9,e1];rfl
  have e2:ks[i+1]=[(u:Int),(v:Int)]:=by
   have:=d6 hil
   rw[h]at this
   exact(Option.some.inj this).symm
  have p1:=B4.mp T.srt i (i+1) (by omega) hil (by omega)
  have p2:=B4.mp T.nd i (i+1) (by omega) hil (by omega)
  obtain⟨a,b,_,_,e3⟩:=T.ups ks[i] (R3 _)
  rw[el]
  rw[e2]at p1 p2
  rw[e3]at p1 p2 ⊢
  exact⟨bH6 p1 p2,rfl⟩
theorem cd9 (a b c d:Int):HT.lexLt [a,b] [c,d]=Tim.F2 [a,b] [c,d]:=by
 unfold HT.lexLt Tim.F2 HT.lexLt Tim.F2
 by_cases h:a=c
 ·rw[if_pos h,if_pos h]
  by_cases g:b=d
  ·rw[if_pos g,if_pos g]
   rfl
  ·rw[if_neg g,if_neg g]
 ·rw[if_neg h,if_neg h]
theorem bs9 {α:Type}{R:α->α->Prop}(tr:∀ a b c,R a b->R b c->R a c):∀ l:List α,(∀ (m:Nat) (a b:α),l[m]?=some a->l[m+1]?=some b->R a b)->l.Pairwise R
 | [],_=>.nil
 | x::l,h=>by
  have ih:=bs9 tr l fun m a b e1 e2=>h (m+1) a b (by simpa using e1) (by simpa using e2)
  refine C7.mpr ⟨?_,ih⟩
  cases l with
  | nil=>intro y hy;cases hy
  | cons y l =>
   have hxy:=h 0 x y rfl rfl
   intro z hz
   rcases g9.mp hz with e | e
   ·rw[e];exact hxy
   ·exact tr _ _ _ hxy ((C7.mp ih).1 z e)
theorem bD0 (hu:∀ k∈ks,Up n k)(h:∀ (m:Nat) (a b:List Int),ks[m]?=some a->ks[m+1]?=some b->HT.lexLt a b=true):Tld n ks:=by
 have hA:Asc ks:=bs9 (fun a b c=>Tim.ao1 a b c) ks fun m a b e1 e2=>by
  have hl:=h m a b e1 e2
  obtain⟨i,j,_,_,rfl⟩:=hu a (d5 e1)
  obtain⟨u,v,_,_,rfl⟩:=hu b (d5 e2)
  rw[cd9]at hl
  exact hl
 refine⟨hu,as7 hA,List.Pairwise.imp (fun {a b} e=>?_) hA⟩
 cases g:Tim.F2 b a with
 | false=>rfl
 | true =>
  have:=Tim.ao1 _ _ _ e g
  rw[Tim.ao2]at this
  cases this
theorem bv4 (h:∀ k∈ks,∃ a b,k=[a,b])(hi:i<ks.length):(ak3 ks i).length=2:=by
 cases i with
 | zero=>rfl
 | succ i =>
  have e1:ks[i]?=some ks[i]:=d6 (by omega)
  obtain⟨a,b,e⟩:=h ks[i] (R3 _)
  show (ks.getD i []).length=2
  rw[i9,e1,Option.getD_some,e]
  rfl
def Fnc (K:W.Frag)(H:Hp)(us:List V):Prop:=∀ u∈us,∃ (r:Addr) (x:Wz),u=.ref r/\SqT K H r (wzT x)
theorem Fnc.same {K:W.Frag}(h:Fnc K H us)(s:o7 H H'):Fnc K H' us:=fun u hu=>let ⟨r,x,e,a⟩:=h u hu;⟨r,x,e,s.seqT a⟩
theorem Fnc.app {K:W.Frag}{r:Addr}{x:Wz}(h:Fnc K H us)(hl:H l=some (.lst us))(hx:SqT K H r (wzT x)):Fnc K (upd H l (.lst (us++[.ref r]))) (us++[.ref r]):=by
 intro u hu
 rcases l9.mp hu with e | e
 ·obtain⟨r',y,e',a⟩:=h u e
  exact⟨r',y,e',SqT.updL a hl⟩
 ·exact⟨r,x,j0.mp e,SqT.updL hx hl⟩
seal L2.PE L2.PA L2.PS L2.PSs L2.PT
section
variable {K:W.Frag} {base:Heap}
def bq7 (K:W.Frag):Sp:=fun vs H Q _=>∃ (r ta:Addr) (ns:List Int) (z:Int) (ks:List (List Int)),vs=[.ref r,.ref ta]/\Wx K H r z ks/\H ta=some (.lst (ns.map V.int))/\O9 ns/\∀ (b:Bool) (H':Hp),o7 H H'->(b=true↔bJ6 ns z ks)->Q (.bl b) H'
theorem az1:v7 ["found","tally","counts","last","tie"] ["found","tally"] (d8 au1):=.mk'
set_option maxHeartbeats 2000000 in
theorem bG2 (F:Fun K "_law_web_right" "_law_web_right" au1 f fd) (B:Bn mg):o4 P w K mg base CX0 1 f fd ["found","tally"] (bq7 K):=by
 refine F.ok az1 (fun cdv A outer s H vs Q E hr h=>?_)
 obtain⟨r,ta,ns,z,ks,rfl,⟨⟨t,zs,gr,gt,tz⟩,hp2,hkl⟩,gta,ht,q⟩:=h
 have h11:=ht.2
 have qn:(¬ (z=ns.length/\Tld ns.length ks))->∀ Ha,o7 H Ha->Q (.bl false) Ha:=fun hno Ha sa=>q false Ha sa (ff fun⟨n,T,e⟩=>hno (by
  have l:n=ns.length:=by rw[<- e,L9]
  subst l
  exact⟨T.z,T.t⟩))
 have hsl:=M8
 have hun:=hr.units
 have hu8:=bX8 (al7 _ 64) hr.units
 have a0:atI ([.int z,.ref t]:List V) 0=some (.int z):=n9 (j:=0) rfl
 have a1:atI ([.int z,.ref t]:List V) 1=some (.ref t):=n9 (j:=1) rfl
 refine⟨_,c7 (E3 (PW.pt (ae1 (P3 (S3 (m7 ad3 (by rfl) B.isin (by rfl) (a6 (pv 0) (a6 (an4 (v:=.ty "tuple") (by rfl) B.tuple (by rfl) rfl) b7)))))
    (ae1 (A0 an7 (m7 o6 (by rfl) B.len PySem.boot_len (a6 (pv 0) b7)) c8 (A9 _))
    (ae1 (A0 an7 (x9 y9 (pv 0) c8 (fun _ _=>rfl)) (m7 o6 (by rfl) B.len PySem.boot_len (a6 (pv 1) b7)) (A9 _))
    (ag5 (P3 (S3 (m7 ad3 (by rfl) B.isin (by rfl) (a6 (x9 y9 (pv 0) c8 (fun _ _=>rfl)) (a6 (an4 (v:=.ty "tuple") (by rfl) B.tuple (by rfl) rfl) b7)))))))))) (i5 (u9 an5)) A4)
  (c7 (A3 (i:=2) az1.nd rfl (Or.inl rfl) (v8 aN1 (K7 (a6 c8 b7)) (m7 o6 (by rfl) B.len PySem.boot_len (a6 (pv 1) b7))))
  (c7 (A3 (i:=3) az1.nd rfl (Or.inl rfl) (v9 (a6 (ak2 Z4 c8) (a6 (ak2 Z4 c8) b7))))
  (c7 (Q9 PassesOwn.never rfl (ba3 (x9 y9 (pv 0) c8 (fun _ _ => rfl))) (B1 (i := 4) az1.nd rfl (Or.inl rfl))
   (c7 (E3 (PW.pt (ae1 (P3 (S3 (m7 ad3 (by rfl) B.isin (by rfl) (a6 (pv 4) (a6 (an4 (v:=.ty "tuple") (by rfl) B.tuple (by rfl) rfl) b7)))))
     (ae1 (A0 an7 (m7 o6 (by rfl) B.len PySem.boot_len (a6 (pv 4) b7)) c8 (A9 _))
     (ag5 (A0 (bS4 hu8) (pv 4) (pv 3) (A9 _)))))) (i5 (u9 an5)) A4)
   (c7 (E3 (PW.pt (ae1 (A0 az8 (x9 y9 (pv 4) c8 (fun _ _=>rfl)) c8 (A9 _))
     (ae1 (A0 bM3 (x9 y9 (pv 4) c8 (fun _ _=>rfl)) (x9 y9 (pv 4) c8 (fun _ _=>rfl)) (A9 _))
     (ag5 (A0 bM3 (x9 y9 (pv 4) c8 (fun _ _=>rfl)) (m7 o6 (by rfl) B.len PySem.boot_len (a6 (pv 1) b7)) (A9 _)))))) (i5 (u9 an5)) A4)
   (c7 (ac6 (v8 N6 (x9 F6 (pv 2) (x9 y9 (pv 4) c8 (fun _ _=>rfl)) (fun _ _=>rfl)) c8) (ar6 (pv 2) (x9 y9 (pv 4) c8 (fun _ _=>rfl)) set_list))
   (c7 (ac6 (v8 N6 (x9 F6 (pv 2) (x9 y9 (pv 4) c8 (fun _ _=>rfl)) (fun _ _=>rfl)) c8) (ar6 (pv 2) (x9 y9 (pv 4) c8 (fun _ _=>rfl)) set_list))
   (i5 (A3 (i:=3) az1.nd rfl (Or.inl rfl) (pv 4))))))))
  (i5 (u9 (T5 bb0 (pv 2) (pv 1) (A9 _))))))),?_⟩
 refine⟨_,rfl,r,_,_,true,rfl,gr,rfl,_,rfl,E8 ?_⟩
 refine⟨_,rfl,r,_,rfl,.inr (gr),rfl,_,rfl,ao4 rfl ?_⟩
 refine⟨_,rfl,r,_,_,_,rfl,rfl,gr,a0,_,rfl,ta,_,rfl,.inl (SqL.of gta),rfl,_,rfl,?_⟩
 rw[a9]
 by_cases hzn:(V.int z)=V.int (ns.length:Int)
 rotate_left
 ·rw[decide_eq_false hzn]
  exact E7 (E7 (qn (fun h=>hzn (by rw[h.1])) H (o7.refl H)))
 have hzn':z=(ns.length:Int):=by injection hzn
 subst hzn'
 refine ao4 rfl ?_
 refine⟨_,rfl,r,_,_,_,rfl,rfl,gr,a1,t,_,_,true,rfl,gt,rfl,_,rfl,E8 ?_⟩
 have hk:=bx4 (k:=(ns.length:Int)) (by omega) (by omega)
 refine⟨(by show 1<=c5;decide),fun l0 f0=>⟨_,rfl,ta,_,rfl,.inl (SqL.of (c9 f0 _ _ gta)),l0,_,_,rfl,congrArg (fun z:Nat=>V.int (z:Int)) (a9 ..),b8,hk.1,hk.2,by show 1*_<=c5;omega,fun lc fc=>?_⟩⟩
 rw[i3,rep0]
 have s0:=c9 (o:=.lst [.int 0]) f0
 have s1:=s0.trans (c9 (o:=.lst ((tal ns.length []).map V.int)) fc)
 have gc1:(upd (upd H l0 (.lst [.int 0])) lc (.lst ((tal ns.length []).map V.int))) lc=some (.lst ((tal ns.length (ks.take 0)).map V.int)):=b8
 have fcH:H lc=none:=s0.free fc
 generalize upd (upd H l0 (.lst [.int 0])) lc (.lst ((tal ns.length []).map V.int))=H1 at s1 gc1 ⊢
 refine⟨_,rfl,_,rfl,(by show 2<=c5;omega),fun lp flp=>?_⟩
 have s2:=c9 (o:=.tup [.int (-1),.int (-1)]) flp
 have gl2:(upd H1 lp (.tup [.int (-1),.int (-1)])) lp=some (.tup ((ak3 ks 0).map V.int)):=b8
 have gc2:=s2 _ _ gc1
 have s12:=s1.trans s2
 generalize upd H1 lp (.tup [.int (-1),.int (-1)])=H2 at s12 gl2 gc2 ⊢
 have hzl:=tz.len
 refine⟨_,rfl,r,_,_,_,rfl,rfl,s12.seqT gr,a1,t,rfl,⟨_,s12.seqT gt⟩,bh2 (K:=K) (a:=t) (xs:=zs) (fun i σ Ha=>∃ (lp:Addr) (e4:Option V),σ=[some (.ref r),some (.ref ta),some (.ref lc),some (.ref lp),e4]/\o7 H Ha/\Ha lc=some (.lst ((tal ns.length (ks.take i)).map V.int))/\(i<ks.length->SqT K Ha lp ((ak3 ks i).map V.int))/\(∀ k∈ks.take i,Up ns.length k)/\∀ (m:Nat) (x y:List Int),m+1<i->ks[m]?=some x->ks[m+1]?=some y->HT.lexLt x y=true)
  ⟨lp,none,rfl,s12,gc2,fun _=>SqT.of gl2,fun k hk=>absurd hk K6,fun m x y hm=>absurd hm (aq6 _)⟩ (fun i σ Ha _ ⟨_,_,_,s,_⟩=>s.seqT gt) ?_ ?_⟩
 ·rintro i x σ Ha hx ⟨lp,e4,rfl,sa,gca,gla,hup,hadj⟩
  obtain⟨pa,pk,rfl,hk',hq⟩:=tz.get hx
  have hil:i<ks.length:=(m4.mp hk').1
  have hl2:=bv4 hp2 hil
  have bad:(¬ Tld ns.length ks)->Q (.bl false) Ha:=fun hT=>qn (fun h=>hT h.2) Ha sa
  have gl3:=gla hil
  obtain⟨uz,vz,rfl⟩:=hp2 pk (d5 hk')
  have at0:atI (([uz,vz]:List Int).map V.int) 0=some (.int uz):=n9 (j:=0) rfl
  have at1:atI (([uz,vz]:List Int).map V.int) 1=some (.int vz):=n9 (j:=1) rfl
  have nup:(¬ Up ns.length [uz,vz])->Q (.bl false) Ha:=fun hb=>bad fun T=>hb (T.ups _ (d5 hk'))
  have upi:Up ns.length [uz,vz]->0<=uz/\uz<vz/\vz<ns.length:=fun⟨x,y,h1,h2,e⟩=>by
   injection e with e1 e2
   injection e2 with e2 _
   omega
  have q5:=sa.seqT hq
  refine y6 ?_
  refine⟨_,rfl,pa,_,_,true,rfl,q5,rfl,_,rfl,E8 ?_⟩
  refine⟨_,rfl,pa,_,rfl,.inr q5,rfl,_,rfl,ao4 rfl ?_⟩
  refine⟨_,rfl,_,rfl,pa,lp,[uz,vz],ak3 ks i,rfl,rfl,q5,gl3,hl2.symm,_,rfl,?_⟩
  cases hlt:HT.lexLt (ak3 ks i) [uz,vz] with
  | false=>exact E7 (bad fun T=>by rw[(bH9 T hk').1]at hlt;cases hlt)
  | true =>
  refine E8 ?_
  refine⟨_,rfl,pa,_,_,_,rfl,rfl,q5,at0,_,_,rfl,rfl,_,rfl,?_⟩
  by_cases c1:uz<0
  ·rw[decide_eq_true c1]
   exact E7 (E7 (nup fun h=>by have:=upi h;omega))
  rw[decide_eq_false c1]
  refine E8 ?_
  refine⟨_,rfl,pa,_,_,_,rfl,rfl,q5,at0,_,rfl,pa,_,_,_,rfl,rfl,q5,at1,_,_,rfl,rfl,_,rfl,?_⟩
  by_cases c2:vz<=uz
  ·rw[decide_eq_true c2]
   exact E7 (E7 (nup fun h=>by have:=upi h;omega))
  rw[decide_eq_false c2]
  refine E8 ?_
  refine⟨_,rfl,pa,_,_,_,rfl,rfl,q5,at1,_,rfl,ta,_,rfl,.inl (SqL.of (sa _ _ gta)),_,_,rfl,rfl,_,rfl,?_⟩
  rw[a9]
  by_cases c3:(ns.length:Int)<=vz
  ·rw[decide_eq_true c3]
   exact E7 (nup fun h=>by have:=upi h;omega)
  rw[decide_eq_false c3]
  refine E8 ?_
  obtain⟨u,rfl⟩:∃ u:Nat,uz=(u:Int):=⟨uz.toNat,by omega⟩
  obtain⟨v,rfl⟩:∃ v:Nat,vz=(v:Int):=⟨vz.toNat,by omega⟩
  have huv:u<v:=by omega
  have hvn:v<ns.length:=by omega
  have etk:ks.take (i+1)=ks.take i++[[(u:Int),(v:Int)]]:=by rw[C6,hk'];rfl
  have t1':((tal ns.length (ks.take i)).map V.int)[u]?=some (.int (M3 (ks.take i) u)):=by rw[r6,Q8 (by omega)];rfl
  have t2':(((tal ns.length (ks.take i)).map V.int).set u (.int ((M3 (ks.take i) u:Int)+1)))[v]?=some (.int (M3 (ks.take i) v)):=by
   rw[G8 (by omega),r6,Q8 hvn];rfl
  have lt':((tal ns.length (ks.take i)).map V.int).length=ns.length:=by rw[a9,L9]
  refine⟨_,rfl,_,rfl,pa,_,_,_,rfl,rfl,q5,at0,lc,_,_,_,rfl,rfl,SqL.of gca,n9 t1',_,_,rfl,rfl,_,rfl,_,rfl,pa,_,_,_,rfl,rfl,q5,at0,lc,_,_,u,rfl,rfl,gca,by rw[lt'];exact V2 (by omega),?_⟩
  have q6:=q5.updL (zs:=((tal ns.length (ks.take i)).map V.int).set u (.int ((M3 (ks.take i) u:Int)+1))) gca
  refine⟨_,rfl,_,rfl,pa,_,_,_,rfl,rfl,q6,at1,lc,_,_,_,rfl,rfl,SqL.of b8,n9 t2',_,_,rfl,rfl,_,rfl,_,rfl,pa,_,_,_,rfl,rfl,q6,at1,lc,_,_,v,rfl,rfl,b8,by rw[A5,lt'];exact V2 hvn,?_⟩
  rw[am3]
  have el:(((tal ns.length (ks.take i)).map V.int).set u (.int ((M3 (ks.take i) u:Int)+1))).set v (.int ((M3 (ks.take i) v:Int)+1))=(tal ns.length (ks.take (i+1))).map V.int:=by
   rw[etk,<- aK0 (n:=ns.length) (i:=u) (j:=v) (by omega) hvn (by omega) (ks.take i) _ _ rfl rfl,X5,X5]
  rw[el]
  refine⟨_,rfl,pa,_,rfl,sa.upd fcH,b8,fun _=>?_,fun k hk=>?_,fun m x y hm e1 e2=>?_⟩
  rotate_left
  ·rw[etk]at hk
   rcases l9.mp hk with h | h
   ·exact hup k h
   ·rw[j0.mp h]
    exact⟨u,v,huv,hvn,rfl⟩
  ·by_cases em:m+1=i
   ·subst em
    rw[hk']at e2
    cases e2
    have e3:ak3 ks (m+1)=x:=by show ks.getD m []=_;rw[i9,e1];rfl
    rw[<- e3]
    exact hlt
   ·exact hadj m x y (by omega) e1 e2
  have e2:ak3 ks (i+1)=[(u:Int),(v:Int)]:=by show ks.getD i []=_;rw[i9,hk'];rfl
  rw[e2]
  exact q5.updL gca
 ·rintro σ Ha ⟨lp,e4,rfl,sa,gca,_,hup,hadj⟩
  rw[l6 (by omega)]at gca hup
  have T:Tld ns.length ks:=bD0 hup fun m x y e1 e2=>by
   have hm:m+1<ks.length:=(m4.mp e2).1
   exact hadj m x y (by omega) e1 e2
  refine⟨_,rfl,_,rfl,.list ((tal ns.length ks).map .int),.list (ns.map .int),Dt.mkLi (SqL.of gca),Dt.mkLi (SqL.of (sa _ _ gta)),aN7 _,aN7 _,?_,?_⟩
  ·refine aF6 hun (n8 (aY3 _ _) ?_)
   have:=bx9 (tal ns.length ks)
   omega
  ·rw[if_neg g8,bx5]
   refine q _ Ha sa ?_
   rw[decide_eq_true_iff]
   refine⟨fun h=>⟨ns.length,⟨rfl,ht.1,ht.2,T⟩,h⟩,fun⟨n,T',h⟩=>?_⟩
   have l:n=ns.length:=by rw[<- h,L9]
   rw[l]at h
   exact h
def bL1 (K:W.Frag):Sp:=fun vs H Q _=>∃ n:Nat,vs=[.int n]/\n<=24/\∀ (l:Addr) (us:List V) (H':Hp),o7 H H'->H l=none->H' l=some (.lst us)->Fnc K H' us->us.length<=100->Q (.ref l) H'
theorem bs3:v7 ["places","fences","number"] ["places"] (d8 aS3):=.mk'
theorem bT7 (F:Fun K "_law_fences" "_law_fences" aS3 f fd) (B:Bn mg):o4 P w K mg base CX0 1 f fd ["places"] (bL1 K):=by
 refine F.ok bs3 (fun cdv A outer s H vs Q E hr h=>?_)
 obtain⟨n,rfl,hn,q⟩:=h
 have hsl:=M8
 refine⟨_,c7 (A3 (i:=1) bs3.nd rfl (Or.inl rfl) (K7 (a6 (v9 (a6 G0 b7)) b7)))
  (c7 (Q9 PassesOwn.never rfl (ar5 rfl B.range (a6 (ak2 Z4 c8) (a6 (v8 N6 (pv 0) c8) b7))) (B1 (i := 2) bs3.nd rfl (Or.inl rfl))
   (c7 (D6 (ae2 PySem.F.plainAttrs_list PySem.F.slot_list_append PySem.F.type_list_append F1 (pv 1) (a6 (v9 (a6 G0 (a6 (pv 2) b7))) b7)))
   (i5 (D6 (ae2 PySem.F.plainAttrs_list PySem.F.slot_list_append PySem.F.type_list_append F1 (pv 1) (a6 (v9 (a6 G0 (a6 (pv 2) b7))) b7))))))
  (i5 (u9 (pv 1)))),?_⟩
 refine⟨(by show 1<=c5;decide),fun t0 f0=>⟨(by show 1<=c5;decide),fun l fl=>?_⟩⟩
 have s0:=c9 (o:=.tup [.str "odd"]) f0
 have s1:=c9 (o:=.lst [.ref t0]) fl
 have flH:H l=none:=s0.free fl
 have an:Fnc K (upd (upd H t0 (.tup [.str "odd"])) l (.lst [.ref t0])) [.ref t0]:=fun u hu=>⟨t0,.odd,j0.mp hu,SqT.of (s1 _ _ b8)⟩
 have gl:upd (upd H t0 (.tup [.str "odd"])) l (.lst [.ref t0]) l=some (.lst [.ref t0]):=b8
 have s01:=s0.trans s1
 generalize upd (upd H t0 (.tup [.str "odd"])) l (.lst [.ref t0])=H1 at an gl s01 ⊢
 refine y6 ?_
 refine⟨_,rfl,_,rfl,_,_,rfl,rfl,-1,(n:Int)+2,rfl,⟨by omega,by omega,by omega,by omega⟩,?_⟩
 rw[show ((n:Int)+2 - -1).toNat=n+3 by omega]
 refine aa7 (lo:=-1) (n:=n+3) (fun i σ Ha=>∃ (us:List V) (e2:Option V),σ=[some (.int n),some (.ref l),e2]/\o7 H Ha/\Ha l=some (.lst us)/\Fnc K Ha us/\us.length<=1+2*i) ⟨_,none,rfl,s01,gl,an,c6 _⟩ ?_ ?_
 ·rintro i σ Ha hi ⟨us,e2,rfl,sa,ga,fa,la⟩
  refine y6 ?_
  refine⟨_,rfl,.inl ⟨rfl,_,SqL.of ga⟩,_,rfl,(by show 2<=c5;decide),fun t2 f2=>?_⟩
  have s2:=c9 (o:=.tup [.str "below",.int (-1+(i:Int))]) f2
  refine⟨l,us,_,rfl,rfl,s2 _ _ ga,(by omega),?_⟩
  have f2':=(fa.same s2).app (s2 _ _ ga) (r:=t2) (x:=.below (-1+(i:Int))) (SqT.of b8)
  have s3:=(sa.trans s2).upd (o:=.lst (us++[.ref t2])) flH
  have g3:upd (upd Ha t2 (.tup [.str "below",.int (-1+(i:Int))])) l (.lst (us++[.ref t2])) l=some (.lst (us++[.ref t2])):=b8
  generalize upd (upd Ha t2 (.tup [.str "below",.int (-1+(i:Int))])) l (.lst (us++[.ref t2]))=Hb at f2' s3 g3 ⊢
  refine⟨_,rfl,.inl ⟨rfl,_,SqL.of g3⟩,_,rfl,(by show 2<=c5;decide),fun t4 f4=>?_⟩
  have s4:=c9 (o:=.tup [.str "wall",.int (-1+(i:Int))]) f4
  refine⟨l,_,_,rfl,rfl,s4 _ _ g3,(by rw[j6];show _+1<_;omega),?_⟩
  exact⟨_,_,rfl,(s3.trans s4).upd flH,b8,(f2'.same s4).app (s4 _ _ g3) (r:=t4) (x:=.wall (-1+(i:Int))) (SqT.of b8),by rw[j6,j6];show _+1+1<=_;omega⟩
 ·rintro σ Ha ⟨us,e2,rfl,sa,ga,fa,la⟩
  exact⟨_,rfl,q l us Ha sa flH ga fa (by omega)⟩
end
end Web
namespace Web
open PySem L2
def APr (ks:List (List Int)):Prop:=∀ k∈ks,∃ a b,k=[a,b]
theorem APr.sub (h:APr ks)(s:∀ k∈ls,k∈ks):APr ls:=fun k hk=>h k (s k hk)
theorem APr.app (h:APr ks)(g:APr ls):APr (ks++ls):=fun k hk=>(l9.mp hk).elim (h k) (g k)
theorem APr.one (a b:Int):APr [[a,b]]:=fun k hk=>⟨a,b,j0.mp hk⟩
theorem aF8 {K:W.Frag}:∀ {ys:List V} {ks:List (List Int)} (n:Nat),y7 K H ys ks->y7 K H (ys.drop n) (ks.drop n)
 | _,_,0,t=>t
 | _,_,n+1,.nil=>.nil
 | _,_,n+1,.cons r t=>aF8 n t
theorem aF7 {K:W.Frag}:∀ {ys:List V} {ks:List (List Int)} (n:Nat),y7 K H ys ks->y7 K H (ys.take n) (ks.take n)
 | _,_,0,t=>.nil
 | _,_,n+1,.nil=>.nil
 | _,_,n+1,.cons r t=>.cons r (aF7 n t)
theorem aR0 {K:W.Frag}:∀ {ys:List V} {ks:List (List Int)},y7 K H ys ks->y7 K H ys.reverse ks.reverse
 | _,_,.nil=>.nil
 | _,_,.cons r t=>by
  rw[V5,V5]
  exact y7.append (aR0 t) (.cons r .nil)
theorem bf7 {K:W.Frag}{zs:List V}(t:y7 K H zs ks)(a:APr ks)(hm:m<ks.length):∃ (pa:Addr) (u v:Int),zs[m]?=some (.ref pa)/\ks[m]?=some [u,v]/\SqT K H pa (([u,v]:List Int).map V.int):=by
 have hl:=t.len
 have hz:zs[m]?=some (zs[m]'(by omega)):=d6 (by omega)
 obtain⟨pa,pk,e,hk,hq⟩:=t.get hz
 obtain⟨u,v,rfl⟩:=a pk (d5 hk)
 rw[e]at hz
 exact⟨pa,u,v,hz,hk,hq⟩
theorem tup_ne (ks:List (List Int)):PyData.eqv (.tuple (ks.map dP)) (.tuple [])=ks.isEmpty:=by
 cases ks<;>simp[PyData.eqv,PyData.eqvAll]
theorem bC6 (a b z:Int):∃ v:Int,atI ([.int a,.int b]:List V) (z % 2)=some (.int v):=by
 have:z % 2=0\/z % 2=1:=by omega
 rcases this with h | h
 ·exact⟨a,by rw[h];exact n9 (j:=0) rfl⟩
 ·exact⟨b,by rw[h];exact n9 (j:=1) rfl⟩
theorem ay2 {K:W.Frag}{zs:List V}(h:y7 K H zs ks)(lo hi:Option Int):∃ ks',y7 K H (aa9 zs lo hi) ks'/\(∀ k∈ks',k∈ks)/\ks'.length<=ks.length:=by
 unfold aa9
 refine⟨_,aF7 _ (aF8 _ h),fun k hk=>bB0 (C0 hk),?_⟩
 rw[t7,G6]
 omega
def Ots (K:W.Frag)(H:Hp)(us:List V):Prop:=us≠[]/\∀ u∈us,∃ (t:Addr) (zs:List V) (ks:List (List Int)),u=.ref t/\SqT K H t zs/\y7 K H zs ks/\APr ks/\ks.length<=10
theorem Ots.same {K:W.Frag}(h:Ots K H us)(s:o7 H H'):Ots K H' us:=⟨h.1,fun u hu=>let ⟨t,zs,ks,e,a,b,c,d⟩:=h.2 u hu;⟨t,zs,ks,e,s.seqT a,s.tups b,c,d⟩⟩
seal L2.PE L2.PA L2.PS L2.PSs L2.PT
section
variable {K:W.Frag} {base:Heap}
def bK9 (K:W.Frag):Sp:=fun vs H Q _=>∃ (p lo:Addr) (n:Nat) (ks:List (List Int)) (us:List V) (c:Int),vs=[.ref p,.ref lo,.int c]/\Wx K H p n ks/\ks.length<=10/\SqL K H lo us/\Ots K H us/\∀ (p':Addr) (z':Int) (ks':List (List Int)) (H':Hp),o7 H H'->Wx K H' p' z' ks'->Q (.ref p') H'
theorem be8:v7 ["web","others","cell","places","ties","way"] ["web","others","cell"] (d8 Y1):=.mk'
set_option maxHeartbeats 4000000 in
theorem bT0 (F:Fun K "_law_spoilt" "_law_spoilt" Y1 f fd)(B:Bn mg):o4 P w K mg base CX0 1 f fd ["web","others","cell"] (bK9 K):=by
 refine F.ok be8 (fun cdv A outer s H vs Q E hr h=>?_)
 obtain⟨p,lo,n,ks,us,c,rfl,hw,hk0,hlo,hus,q⟩:=h
 have hw0:=hw
 obtain⟨⟨t,zs,w1,w2,w3⟩,hp0,_⟩:=hw
 have hp0:APr ks:=hp0
 have w2H:=w2
 have w3H:=w3
 have hsl:=M8
 have hun:=hr.units
 have hzl:=w3.len
 refine⟨_,c7 (ac6 (pv 0) (al1 rfl (J7 (B1 (i:=3) be8.nd rfl (Or.inl rfl)) (J7 (B1 (i:=4) be8.nd rfl (Or.inl rfl)) ac8))))
  (c7 (A3 (i:=5) be8.nd rfl (Or.inl rfl) (v8 K8 (pv 2) c8))
  (ai3 (E3 (PW.pt (aZ9 (A0 R0 (pv 5) c8 (A9 _)) (aM1 (A0 ba8 (pv 4) (v9 b7) (A9 _))))) (i5 (u9 (v9 (a6 (pv 3) (a6 (T8 aL4 (pv 4) (V1 c8) ac7) b7))))) A4)
  (c7 (E3 (A0 R0 (pv 5) c8 (A9 _)) (i5 (u9 (v9 (a6 (pv 3) (a6 (bF1 (pv 4) (ak2 Z4 c8)) b7))))) A4)
  (ai3 (E3 (PW.pt (aZ9 (A0 R0 (pv 5) c8 (A9 _)) (aM1 (A0 ba8 (pv 4) (v9 b7) (A9 _))))) (i5 (u9 (v9 (a6 (pv 3) (a6 (v8 ac9 (v9 (a6 (v9 (a6 (x9 y9 (x9 y9 (pv 4) c8 (fun _ _=>rfl)) c8 (fun _ _=>rfl)) (a6 (x9 y9 (x9 y9 (pv 4) c8 (fun _ _=>rfl)) c8 (fun _ _=>rfl)) b7))) b7)) (T8 aL4 (pv 4) (V1 c8) ac7)) b7))))) A4)
  (c7 (E3 (A0 R0 (pv 5) c8 (A9 _)) (i5 (u9 (v9 (a6 (v8 N6 (pv 3) (x9 F6 (K7 (a6 c8 (a6 (ak2 Z4 c8) b7))) (v8 K8 (v8 P8 (pv 2) c8) c8) (fun _ _=>rfl))) (a6 (pv 4) b7))))) A4)
  (c7 (E3 (A0 R0 (pv 5) c8 (A9 _)) (i5 (u9 (v9 (a6 (pv 3) (a6 (x9 F6 (pv 1) (v8 K8 (v8 P8 (pv 2) c8) (m7 o6 (by rfl) B.len PySem.boot_len (a6 (pv 1) b7))) (fun _ _=>rfl)) b7))))) A4)
  (ai3 (E3 (PW.pt (aZ9 (A0 R0 (pv 5) c8 (A9 _)) (aM1 (A0 ba8 (pv 4) (v9 b7) (A9 _))))) (i5 (u9 (v9 (a6 (pv 3) (a6 (v8 ac9 (pv 4) (T8 aL4 (pv 4) (V1 (ak2 Z4 c8)) ac7)) b7))))) A4)
  (c7 (E3 (A0 R0 (pv 5) c8 (A9 _)) (i5 (u9 (v9 (a6 (pv 3) (a6 (v8 ac9 (pv 4) (v9 (a6 (v9 (a6 (v8 az7 (pv 3) c8) (a6 (pv 3) b7))) b7))) b7))))) A4)
  (i5 (u9 (pv 0))))))))))),?_⟩
 have fin:∀ (H':Hp) (t':Addr) (zs':List V) (ks':List (List Int)) (z':Int),o7 H H'->SqT K H' t' zs'->y7 K H' zs' ks'->APr ks'->ks'.length<64->2<=c5/\∀ p3,H' p3=none->Q (.ref p3) (upd H' p3 (.tup [.int z',.ref t'])):=fun H' t' zs' ks' z' s' g' u' a' l'=>⟨by decide,fun p3 f3=>by
  have s3:=c9 (o:=.tup [.int z',.ref t']) f3
  exact q p3 z' ks' _ (s'.trans s3) ⟨⟨t',zs',SqT.of b8,s3.seqT g',s3.tups u'⟩,a',l'⟩⟩
 refine⟨_,rfl,p,_,rfl,w1,rfl,_,_,rfl,_,_,rfl,rfl,?_⟩
 refine⟨_,rfl,_,_,rfl,rfl,(by show (0:Int)<8;decide),?_⟩
 refine aH5 fun way _=>?_
 refine⟨fun σ Hc=>σ=[some (.ref p),some (.ref lo),some (.int c),some (.int (n:Int)),some (.ref t),some (.int way)]/\o7 H Hc,?_,?_⟩
 ·refine⟨_,rfl,rfl,_,rfl,aA7 (fun _=>?_) (fun _=>E8 ⟨rfl,o7.refl H⟩)⟩
  refine⟨_,rfl,(by show 0<=c5;omega),fun l0 f0=>?_⟩
  have s0:=c9 (o:=.tup []) f0
  refine⟨.tuple (ks.map dP),.tuple [],Dt.mkT (s0.seqT w2) (s0.tups w3).dtAll,Dt.mkT (SqT.of b8) .mkN,by simp[PyData.canLay0,Q3],by simp[PyData.canLay0,PyData.canLayAll0],?_,_,rfl,?_⟩
  ·refine aF6 hun (n8 (al6 _ _) ?_)
   simp[PyData.depth,PyData.depthAll]
  rw[if_pos rfl,tup_ne]
  cases hks:ks.isEmpty with
  | true=>exact E8 ⟨rfl,(o7.refl H).trans s0⟩
  | false =>
  refine E7 ?_
  have hne:ks≠[]:=by intro z;rw[z]at hks;cases hks
  have hm3:0<ks.length:=ab3.mpr hne
  have sS:=(o7.refl H).trans s0
  have w2':=s0.seqT w2
  have w3':=s0.tups w3
  generalize upd H l0 (.tup [])=H9 at w2' w3' sS ⊢
  refine⟨_,rfl,_,rfl,_,rfl,t,_,rfl,w2',fun p1 H1 s1 g1=>?_⟩
  obtain⟨ks1,u1,m1,l1⟩:=ay2 (s1.tups w3') (some 1) none
  exact fin H1 p1 _ ks1 n (sS.trans s1) g1 u1 (hp0.sub m1) (by omega)
 rintro σ Hc ⟨rfl,sc⟩
 have w2:=sc.seqT w2H
 have w3:=sc.tups w3H
 refine⟨_,rfl,rfl,_,rfl,aA7 (fun _=>?_) (fun _=>?_)⟩
 ·refine⟨_,rfl,_,rfl,_,rfl,rfl,t,_,rfl,w2,fun p1 f1=>?_⟩
  have s1:=c9 (o:=.tup zs.reverse) f1
  exact fin _ p1 _ ks.reverse n (sc.trans s1) (SqT.of b8) (aR0 (s1.tups w3)) (hp0.sub fun k hk=>List.mem_reverse.mp hk) (by rw[R6];omega)
 refine⟨fun σ Hc=>σ=[some (.ref p),some (.ref lo),some (.int c),some (.int (n:Int)),some (.ref t),some (.int way)]/\o7 H Hc,?_,?_⟩
 ·refine⟨_,rfl,rfl,_,rfl,aA7 (fun _=>?_) (fun _=>E8 ⟨rfl,sc⟩)⟩
  refine⟨_,rfl,(by show 0<=c5;omega),fun l0 f0=>?_⟩
  have s0:=c9 (o:=.tup []) f0
  refine⟨.tuple (ks.map dP),.tuple [],Dt.mkT (s0.seqT w2) (s0.tups w3).dtAll,Dt.mkT (SqT.of b8) .mkN,by simp[PyData.canLay0,Q3],by simp[PyData.canLay0,PyData.canLayAll0],?_,_,rfl,?_⟩
  ·refine aF6 hun (n8 (al6 _ _) ?_)
   simp[PyData.depth,PyData.depthAll]
  rw[if_pos rfl,tup_ne]
  cases hks:ks.isEmpty with
  | true=>exact E8 ⟨rfl,(sc).trans s0⟩
  | false =>
  refine E7 ?_
  have hne:ks≠[]:=by intro z;rw[z]at hks;cases hks
  have hm3:0<ks.length:=ab3.mpr hne
  have sS:=(sc).trans s0
  have w2':=s0.seqT w2
  have w3':=s0.tups w3
  generalize upd Hc l0 (.tup [])=H9 at w2' w3' sS ⊢
  obtain⟨pa,u,v,hz,hkm,hq⟩:=bf7 w3' hp0 hm3
  have b0:atI (([u,v]:List Int).map V.int) 0=some (.int u):=n9 (j:=0) rfl
  have b1:atI (([u,v]:List Int).map V.int) 1=some (.int v):=n9 (j:=1) rfl
  have hz0:atI zs 0=some (.ref pa):=n9 (j:=0) hz
  refine⟨_,rfl,_,rfl,t,_,_,_,rfl,rfl,w2',hz0,pa,_,_,_,rfl,rfl,hq,b1,_,rfl,t,_,_,_,rfl,rfl,w2',hz0,pa,_,_,_,rfl,rfl,hq,b0,(by show 2<=c5;decide),fun a1 f1=>⟨(by show 1<=c5;decide),fun a2 f2=>?_⟩⟩
  have v1:=c9 (o:=.tup (([v,u]:List Int).map V.int)) f1
  have v2:=c9 (o:=.tup [.ref a1]) f2
  have v12:=v1.trans v2
  refine⟨_,rfl,_,rfl,t,_,rfl,v12.seqT w2',fun p4 H4 s4 g4=>?_⟩
  obtain⟨ks1,u1,m1,l1⟩:=ay2 ((v12.trans s4).tups w3') (some 1) none
  have hl1:=u1.len
  refine⟨a2,p4,_,_,rfl,rfl,SqT.of (s4 _ _ b8),g4,(by show 1+_<=_;omega),fun p5 H5 s5 g5=>?_⟩
  have sA:=(v12.trans s4).trans s5
  exact fin H5 p5 _ ([[v,u]]++ks1) n (sS.trans sA) g5 (y7.append (.cons ⟨a1,rfl,SqT.of (((v2.trans s4).trans s5) _ _ b8)⟩ .nil) (s5.tups u1)) ((APr.one v u).app (hp0.sub m1)) (by rw[j6];show 1+_<64;omega)
 rintro σ Hd ⟨rfl,sd⟩
 have w2:=sd.seqT w2H
 have w3:=sd.tups w3H
 refine⟨_,rfl,rfl,_,rfl,aA7 (fun _=>?_) (fun _=>?_)⟩
 ·obtain⟨v,hv⟩:=bC6 1 (-1) (c / 8)
  refine⟨_,rfl,_,rfl,(by show 2<=c5;decide),fun l1 f1=>?_⟩
  have s1:=c9 (o:=.lst [.int 1,.int (-1)]) f1
  refine⟨_,rfl,_,_,rfl,rfl,⟨by decide,by decide⟩,_,_,rfl,rfl,(by show (0:Int)<2;decide),l1,_,_,_,rfl,rfl,SqL.of b8,hv,_,_,rfl,rfl,_,rfl,?_⟩
  exact fin _ t _ ks ((n:Int)+v) (sd.trans s1) (s1.seqT w2) (s1.tups w3) hp0 (by omega)
 refine⟨_,rfl,rfl,_,rfl,aA7 (fun _=>?_) (fun _=>?_)⟩
 ·have hlo':=sd.seq hlo
  have hup:0<us.length:=ab3.mpr hus.1
  have q1:=aX9 (c / 8) (show ((us.length:Int))≠0 by omega)
  have q2:=aD5 (c / 8) (show (0:Int)<(us.length:Int) by omega)
  obtain⟨j,hj⟩:∃ j:Nat,c / 8 % (us.length:Int)=(j:Int):=⟨(c / 8 % (us.length:Int)).toNat,by omega⟩
  have hju:us[j]?=some (us[j]'(by omega)):=d6 (by omega)
  obtain⟨t5,z5,k5,e5,g5,u5,a5,l5⟩:=hus.2 _ (d5 hju)
  rw[e5]at hju
  refine⟨_,rfl,_,rfl,_,rfl,_,_,rfl,rfl,⟨by decide,by decide⟩,_,rfl,lo,_,rfl,.inl hlo',_,_,rfl,rfl,(by show (0:Int)<(us.length:Int);omega),lo,_,_,_,rfl,rfl,hlo',(by rw[hj];exact n9 hju),?_⟩
  exact fin _ t5 _ k5 n sd (sd.seqT g5) (sd.tups u5) a5 (by omega)
 refine⟨fun σ Hc=>σ=[some (.ref p),some (.ref lo),some (.int c),some (.int (n:Int)),some (.ref t),some (.int way)]/\o7 H Hc,?_,?_⟩
 ·refine⟨_,rfl,rfl,_,rfl,aA7 (fun _=>?_) (fun _=>E8 ⟨rfl,sd⟩)⟩
  refine⟨_,rfl,(by show 0<=c5;omega),fun l0 f0=>?_⟩
  have s0:=c9 (o:=.tup []) f0
  refine⟨.tuple (ks.map dP),.tuple [],Dt.mkT (s0.seqT w2) (s0.tups w3).dtAll,Dt.mkT (SqT.of b8) .mkN,by simp[PyData.canLay0,Q3],by simp[PyData.canLay0,PyData.canLayAll0],?_,_,rfl,?_⟩
  ·refine aF6 hun (n8 (al6 _ _) ?_)
   simp[PyData.depth,PyData.depthAll]
  rw[if_pos rfl,tup_ne]
  cases hks:ks.isEmpty with
  | true=>exact E8 ⟨rfl,(sd).trans s0⟩
  | false =>
  refine E7 ?_
  have hne:ks≠[]:=by intro z;rw[z]at hks;cases hks
  have hm3:0<ks.length:=ab3.mpr hne
  have sS:=(sd).trans s0
  have w2':=s0.seqT w2
  have w3':=s0.tups w3
  generalize upd Hd l0 (.tup [])=H9 at w2' w3' sS ⊢
  refine⟨_,rfl,_,rfl,_,rfl,_,rfl,_,rfl,t,_,rfl,w2',fun p4 H4 s4 g4=>?_⟩
  obtain⟨ks1,u1,m1,l1⟩:=ay2 (s4.tups w3') (some (-1)) none
  have hl1:=u1.len
  refine⟨t,p4,_,_,rfl,rfl,s4.seqT w2',g4,(by omega),fun p5 H5 s5 g5=>?_⟩
  have sA:=s4.trans s5
  exact fin H5 p5 _ (ks++ks1) n (sS.trans sA) g5 (y7.append (sA.tups w3') (s5.tups u1)) (APr.app hp0 (hp0.sub m1)) (by rw[j6];omega)
 rintro σ Hf ⟨rfl,sf⟩
 have w2:=sf.seqT w2H
 have w3:=sf.tups w3H
 refine⟨_,rfl,rfl,_,rfl,aA7 (fun _=>?_) (fun _=>?_)⟩
 ·refine⟨_,rfl,_,rfl,_,rfl,_,_,rfl,rfl,_,rfl,(by show 2<=c5;decide),fun a1 f1=>⟨(by show 1<=c5;decide),fun a2 f2=>?_⟩⟩
  have v1:=c9 (o:=.tup (([(n:Int) - 1,(n:Int)]:List Int).map V.int)) f1
  have v2:=c9 (o:=.tup [.ref a1]) f2
  have v12:=v1.trans v2
  refine⟨t,a2,_,_,rfl,rfl,v12.seqT w2,SqT.of b8,(by show _+1<=_;omega),fun p5 H5 s5 g5=>?_⟩
  have sA:=v12.trans s5
  exact fin H5 p5 _ (ks++[[(n:Int) - 1,(n:Int)]]) n (sf.trans sA) g5 (y7.append (sA.tups w3) (.cons ⟨a1,rfl,SqT.of ((v2.trans s5) _ _ b8)⟩ .nil)) (APr.app hp0 (APr.one _ _)) (by rw[j6];show _+1<64;omega)
 exact⟨_,rfl,q p n ks Hf sf (hw0.same sf)⟩
end
end Web
namespace L2
open PySem PySem.Spec PyProof.Rows
theorem bo5:R9 X (.type "int") (fun xs H Q=>∃ b:Bool,xs=[.bl b]/\Q (.int (if b then 1 else 0)) H):=by
 intro pins s σ H xs us Q I r h
 obtain⟨b,rfl,q⟩:=h
 obtain⟨u,rfl,ru⟩:=vals1 r
 cases ru
 exact PySem.call_int_bool ⟨.int _,H,I.tok _,⟨_,rfl⟩,q⟩
end L2
namespace Web
open PySem L2
theorem bH2 (ns:List Int)(m:Int)(i j:Nat):mv2 ns m [(i:Int),(j:Int)]=(ns.set i (ns.getD i 0+m)).set j ((ns.set i (ns.getD i 0+m)).getD j 0+m):=by
 unfold mv2
 show mvd (mvd ns (i:Int) m) (j:Int) m=_
 unfold mvd
 rw[i3,i3]
seal L2.PE L2.PA L2.PS L2.PSs L2.PT
section
variable {K:W.Frag} {base:Heap}
def be6 (K:W.Frag):Sp:=fun vs H Q _=>∃ (a r:Addr) (ns:List Int) (i j:Nat) (x:Pap),vs=[.ref a,.int i,.int j,.ref r]/\H a=some (.lst (ns.map V.int))/\O9 ns/\i<ns.length/\j<ns.length/\ab1 K H r x/\∀ (b:Bool) (H':Hp),o7 H H'->(b=true↔aI8 ns i j x)->Q (.bl b) H'
theorem be9:v7 ["tally","one","other","told","more","near","pair"] ["tally","one","other","told"] (d8 aL8):=.mk'
set_option maxHeartbeats 2000000 in
theorem bT8 {fZ fW:Addr}{fdZ fdW:FuncData}(F:Fun K "_law_due" "_law_due" aL8 f fd)(B:Bn mg)
  (FZ:Fun K "wall_shows" "wall_shows" ac1 fZ fdZ)(bZ:Binds K fdZ ["tally","wall"] [])(mZ:mg "wall_shows"=some (.ref fZ))(GZ:o4 P w K mg base (CXE P w) 5 fZ fdZ ["tally","wall"] (aw7 K CB))
  (FW:Fun K "_law_web_right" "_law_web_right" au1 fW fdW)(bW:Binds K fdW ["found","tally"] [])(mW:mg "_law_web_right"=some (.ref fW))(GW:o4 P w K mg base CX0 5 fW fdW ["found","tally"] (bq7 K)):o4 P w K mg base CX0 6 f fd ["tally","one","other","told"] (be6 K):=by
 refine F.ok be9 (fun cdv A outer s H vs Q E hr h=>?_)
 obtain⟨a,r,ns,i,j,x,rfl,gA,ht,hi,hj,hx,q⟩:=h
 have hsl:=M8
 have hun:=hr.units
 refine⟨_,c7 (E3 (A0 an7 (x9 y9 (pv 3) c8 (fun _ _=>rfl)) G0 (A9 _)) (c7 (A3 (i:=4) be9.nd rfl (Or.inl rfl) (x9 F6 (K7 (a6 c8 (a6 (ak2 Z4 c8) b7))) (D3 bo5 (by rfl) B.int (by rfl) (a6 (T5 R0 (x9 y9 (pv 3) c8 (fun _ _=>rfl)) G0 (A9 _)) b7)) (fun _ _=>rfl)))
  (c7 (A3 (i:=5) be9.nd rfl (Or.inl rfl) (D3 R1 (by rfl) B.list (by rfl) (a6 (pv 0) b7)))
  (c7 (ac6 (v8 N6 (x9 F6 (pv 5) (pv 1) (fun _ _=>rfl)) (pv 4)) (ar6 (pv 5) (pv 1) set_list))
  (c7 (ac6 (v8 N6 (x9 F6 (pv 5) (pv 2) (fun _ _=>rfl)) (pv 4)) (ar6 (pv 5) (pv 2) set_list))
  (i5 (u9 (j8 GZ hr (by rfl) mZ FZ.kp bZ .nil (R7 (P:=P) (w:=w)) (a6 (pv 5) (a6 (x9 y9 (pv 3) c8 (fun _ _=>rfl)) b7))))))))) A4)
  (c7 (A3 (i:=6) be9.nd rfl (Or.inl rfl) (v9 (a6 (m7 (aj2 rfl) (by rfl) B.min (by rfl) (a6 (pv 1) (a6 (pv 2) b7))) (a6 (m7 (as5 rfl) (by rfl) B.max (by rfl) (a6 (pv 1) (a6 (pv 2) b7))) b7))))
  (c7 (E3 (PW.pt (ae1 (P3 (S3 (j8 GW hr (by rfl) mW FW.kp bW .nil E4 (a6 (x9 y9 (pv 3) c8 (fun _ _=>rfl)) (a6 (pv 0) b7))))) (ag5 (P3 (S3 (j8 GW hr (by rfl) mW FW.kp bW .nil E4 (a6 (x9 y9 (pv 3) c8 (fun _ _=>rfl)) (a6 (pv 0) b7)))))))) (i5 (u9 an5)) A4)
  (i5 (u9 (aM9 (T5 aN3 (pv 6) (x9 y9 (x9 y9 (pv 3) c8 (fun _ _=>rfl)) c8 (fun _ _=>rfl)) (by rfl)) (aM6 (T5 aG8 (pv 6) (x9 y9 (x9 y9 (pv 3) c8 (fun _ _=>rfl)) c8 (fun _ _=>rfl)) (by rfl)))))))),?_⟩
 rcases aG4 hx q with⟨z1,k1,z2,k2,w1,w2,gr,x1,x2,q⟩ | ⟨p,m,s,z,hms,gr,gp,q⟩
 ·have a0:atI ([.str "some",.ref w1,.ref w2]:List V) 0=some (.str "some"):=n9 (j:=0) rfl
  have a1:atI ([.str "some",.ref w1,.ref w2]:List V) 1=some (.ref w1):=n9 (j:=1) rfl
  have a2:atI ([.str "some",.ref w1,.ref w2]:List V) 2=some (.ref w2):=n9 (j:=2) rfl
  refine⟨_,rfl,r,_,_,_,rfl,rfl,gr,a0,rfl,_,rfl,ao4 rfl ?_⟩
  refine⟨_,rfl,_,rfl,_,_,rfl,_,rfl,_,rfl,_,_,rfl,(by show 2<=c5;decide),fun tp fp=>?_⟩
  have s0:=c9 (o:=.tup [.int (if (j:Int)<i then (j:Int) else i),.int (if (j:Int) > i then (j:Int) else i)]) fp
  have gp:upd H tp (.tup [.int (if (j:Int)<i then (j:Int) else i),.int (if (j:Int) > i then (j:Int) else i)]) tp=some (.tup ((up [(i:Int),(j:Int)]).map V.int)):=b8
  generalize upd H tp (.tup [.int (if (j:Int)<i then (j:Int) else i),.int (if (j:Int) > i then (j:Int) else i)])=H0 at s0 gp ⊢
  refine y6 ?_
  have gr0:=s0.seqT gr
  refine⟨_,rfl,r,_,_,_,rfl,rfl,gr0,a1,_,rfl,w1,a,ns,z1,k1,rfl,x1.same s0,s0 _ _ gA,ht,fun b1 H1 s1 hb1=>⟨_,rfl,?_⟩⟩
  have s01:=s0.trans s1
  cases b1 with
  | false=>exact E7 (E7 (q false H1 s01 (ff fun h=>absurd (hb1.mpr h.1) (by decide))))
  | true =>
  refine E8 ⟨_,rfl,r,_,_,_,rfl,rfl,s01.seqT gr,a2,_,rfl,w2,a,ns,z2,k2,rfl,x2.same s01,s01 _ _ gA,ht,fun b2 H2 s2 hb2=>⟨_,rfl,?_⟩⟩
  have s02:=s01.trans s2
  cases b2 with
  | false=>exact E7 (q false H2 s02 (ff fun h=>absurd (hb2.mpr h.2.1) (by decide)))
  | true =>
  obtain⟨⟨t1,zs1,y1,y2,y3⟩,_,_⟩:=x1.same s02
  obtain⟨⟨t2,zs2,v1,v2,v3⟩,_,_⟩:=x2.same s02
  have c1:atI ([.int z1,.ref t1]:List V) 1=some (.ref t1):=n9 (j:=1) rfl
  have c2:atI ([.int z2,.ref t2]:List V) 1=some (.ref t2):=n9 (j:=1) rfl
  have gp2:=(s1.trans s2) _ _ gp
  refine E8 ⟨_,rfl,_,rfl,r,_,_,_,rfl,rfl,s02.seqT gr,a1,w1,_,_,_,rfl,rfl,y1,c1,t1,zs1,dP (up [(i:Int),(j:Int)]),k1.map dP,rfl,.inr y2,Dt.mkP (SqT.of gp2),y3.dtAll,bb7 _,Q3 k1,?_,?_⟩
  ·exact ar1 hun (n8 (bc9 _) (by decide))
  rw[if_neg g8,aP1]
  refine⟨_,rfl,?_⟩
  by_cases m1:up [(i:Int),(j:Int)]∈k1
  rotate_left
  ·rw[decide_eq_false m1]
   exact E8 (q false H2 s02 (ff fun h=>m1 h.2.2.1))
  rw[decide_eq_true m1]
  refine E7 ⟨_,rfl,_,rfl,r,_,_,_,rfl,rfl,s02.seqT gr,a2,w2,_,_,_,rfl,rfl,v1,c2,t2,zs2,dP (up [(i:Int),(j:Int)]),k2.map dP,rfl,.inr v2,Dt.mkP (SqT.of gp2),v3.dtAll,bb7 _,Q3 k2,?_,?_⟩
  ·exact ar1 hun (n8 (bc9 _) (by decide))
  rw[if_pos rfl,aP1]
  refine q _ H2 s02 ?_
  by_cases m2:up [(i:Int),(j:Int)]∈k2
  ·rw[decide_eq_true m2]
   exact ff fun h=>h.2.2.2 m2
  ·rw[decide_eq_false m2]
   exact⟨fun _=>⟨hb1.mp rfl,hb2.mp rfl,m1,m2⟩,fun _=>rfl⟩
 ·have a0:atI ([.str s,.ref p]:List V) 0=some (.str s):=n9 (j:=0) rfl
  have a1:atI ([.str s,.ref p]:List V) 1=some (.ref p):=n9 (j:=1) rfl
  have hs:decide (V.str s=V.str "some")=false:=by
   rcases hms with⟨_,rfl⟩ | ⟨_,rfl⟩
   ·exact decide_eq_false (by decide)
   ·exact decide_eq_false (by decide)
  refine⟨_,rfl,r,_,_,_,rfl,rfl,gr,a0,rfl,_,rfl,?_⟩
  rw[hs]
  refine E7 ?_
  refine⟨_,rfl,(by show 2<=c5;decide),fun l1 f1=>?_⟩
  have s1:=c9 (o:=.lst [.int 1,.int (-1)]) f1
  have hm:atI ([.int 1,.int (-1)]:List V) (if decide (V.str s=V.str "none") then 1 else 0)=some (.int m):=by
   rcases hms with⟨rfl,rfl⟩ | ⟨rfl,rfl⟩
   ·rw[decide_eq_false (show ¬ (V.str "all"=V.str "none") by decide)]
    exact n9 (j:=0) rfl
   ·rw[decide_eq_true (show V.str "none"=V.str "none" from rfl)]
    exact n9 (j:=1) rfl
  refine⟨_,rfl,r,_,_,_,rfl,rfl,s1.seqT gr,a0,rfl,_,rfl,l1,_,_,_,rfl,rfl,SqL.of b8,hm,?_⟩
  refine y6 ?_
  refine⟨_,rfl,a,_,rfl,.inl (SqL.of (s1 _ _ gA)),fun l2 f2=>?_⟩
  have s2:=c9 (o:=.lst (ns.map V.int)) f2
  have fH:H l2=none:=s1.free f2
  have s12:=s1.trans s2
  have g2:upd (upd H l1 (.lst [.int 1,.int (-1)])) l2 (.lst (ns.map V.int)) l2=some (.lst (ns.map V.int)):=b8
  generalize upd (upd H l1 (.lst [.int 1,.int (-1)])) l2 (.lst (ns.map V.int))=H2 at s12 g2 ⊢
  refine y6 ?_
  refine⟨_,rfl,_,rfl,l2,_,_,_,rfl,rfl,SqL.of g2,aC2 hi,_,rfl,_,_,rfl,rfl,_,rfl,_,rfl,l2,_,_,i,rfl,rfl,g2,V2 (by rw[a9];exact hi),?_⟩
  rw[af9]
  refine⟨_,rfl,_,rfl,l2,_,_,_,rfl,rfl,SqL.of b8,aC2 (by rw[A5];exact hj),_,rfl,_,_,rfl,rfl,_,rfl,_,rfl,l2,_,_,j,rfl,rfl,b8,V2 (by rw[a9,A5];exact hj),?_⟩
  rw[af9,am3,<- bH2]
  have s3:o7 H (upd H2 l2 (.lst ((mv2 ns m [(i:Int),(j:Int)]).map V.int))):=s12.upd fH
  have tl2:O9 (mv2 ns m [(i:Int),(j:Int)]):=⟨by rw[ai9];exact ht.1,by rw[ai9];exact ht.2⟩
  exact⟨_,rfl,_,rfl,r,_,_,_,rfl,rfl,s3.seqT gr,a1,l2,p,_,z,rfl,.inl (SqL.of b8),s3.seqT gp,fun _ H4 s4=>q _ (s3.trans s4),fun h=>absurd tl2 h⟩
end
end Web
namespace L2
open PySem PySem.Spec PyProof.Rows
theorem bV7 {o:Obj}{g:TG}{tb:TS}{D:Ends}(Pv:Nat->St->Hp->Prop)(h0:Pv 0 σ H)(hl:∀ i σ H,i<=kvs.length->Pv i σ H->H a=some (.frz o (.dT kvs)))
  (hs:∀ i kv p σ H,kvs[i]?=some kv->H p=some (.tup (kv.1.map kV))->Pv i σ H->g (.ref p) σ H fun σ2 H2=>tb { D with nx:=Pv (i+1),ct:=Pv (i+1),bk:=D.nx } σ2 H2)(hd:∀ σ H,Pv kvs.length σ H->D.nx σ H) :
  ∃ W:Nat->Nat->St->Hp->Prop,(∃ m,W 0 m σ H)/\∀ i m σ H,W i m σ H ->
   ((Itd a o kvs).stop i H/\D.nx σ H)\/((Itd a o kvs).go i H/\∃ N:St->Hp->Prop,(∀ σ' H',N σ' H'->∃ m',m'<m/\W (i+1) m' σ' H')/\∀ x H',(Itd a o kvs).yld i H x H'->g x σ H' fun σ2 H2=>tb { D with nx:=N,ct:=N,bk:=D.nx } σ2 H2):=by
 refine⟨fun i m σ H=>m=kvs.length - i/\i<=kvs.length/\Pv i σ H,⟨kvs.length,by simp,u7 _,h0⟩,?_⟩
 rintro i m σ H ⟨rfl,hi,p⟩
 have q:=hl i σ H hi p
 by_cases hlt:i<kvs.length
 ·refine .inr ⟨⟨q,hlt⟩,Pv (i+1),fun σ' H' p'=>⟨kvs.length - (i+1),by omega,rfl,hlt,p'⟩,fun x H' y=>?_⟩
  obtain⟨e,kv,r,hkv,ex,hr⟩:=y
  subst e ex
  exact hs i kv r σ _ hkv hr p
 ·have e:i=kvs.length:=by omega
  subst e
  exact .inl ⟨⟨q,rfl⟩,hd σ H p⟩
end L2
namespace Web
open PySem L2
theorem bZ5 {x:Wl}(h:x≠.free):∃ z:Wz,wzT z=wlT x:=by
 cases x with
 | free=>exact absurd rfl h
 | odd=>exact⟨.odd,rfl⟩
 | below p=>exact⟨.below p,rfl⟩
 | wall r=>exact⟨.wall r,rfl⟩
theorem Wx.updL {K:W.Frag}{p:Addr}{z:Int}{zs:List V}(h:Wx K H p z ks)(hl:H l=some (.lst xs)):Wx K (upd H l (.lst zs)) p z ks:=by
 obtain⟨⟨t,ys,h1,h2,h3⟩,a,b⟩:=h
 exact⟨⟨t,ys,h1.updL hl,h2.updL hl,y7.updL hl h3⟩,a,b⟩
theorem ab1.updL {K:W.Frag}{r:Addr}{x:Pap}{zs:List V}(h:ab1 K H r x)(hl:H l=some (.lst xs)):ab1 K (upd H l (.lst zs)) r x:=by
 cases x with
 | al x=>obtain⟨p,h1,h2⟩:=h;exact⟨p,h1.updL hl,h2.updL hl⟩
 | no x=>obtain⟨p,h1,h2⟩:=h;exact⟨p,h1.updL hl,h2.updL hl⟩
 | so z1 k1 z2 k2=>obtain⟨w1,w2,h1,h2,h3⟩:=h;exact⟨w1,w2,h1.updL hl,h2.updL hl,h3.updL hl⟩
theorem Ots.updL {K:W.Frag}{zs:List V}(h:Ots K H us)(hl:H l=some (.lst xs)):Ots K (upd H l (.lst zs)) us:=⟨h.1,fun u hu=>let ⟨t,ys,ks,e,a,b,c,d⟩:=h.2 u hu;⟨t,ys,ks,e,a.updL hl,y7.updL hl b,c,d⟩⟩
def bz6 (K:W.Frag)(H:Hp)(us:List V):Prop:=∀ u∈us,∃ (r:Addr) (x:Pap),u=.ref r/\ab1 K H r x
theorem bz6.same {K:W.Frag}(h:bz6 K H us)(s:o7 H H'):bz6 K H' us:=fun u hu=>let ⟨r,x,e,a⟩:=h u hu;⟨r,x,e,a.same s⟩
structure PpI (K:W.Frag) (HB H:Hp) (l:Addr) (us:List V) (m:Nat):Prop where
 s:o7 HB H
 g:H l=some (.lst us)
 t:bz6 K H us
 l:us.length<=m
theorem PpI.same {K:W.Frag}{HB:Hp}(h:PpI K HB H l us m)(s:o7 H H'):PpI K HB H' l us m:=⟨h.s.trans s,s _ _ h.g,h.t.same s,h.l⟩
theorem PpI.app {K:W.Frag} {HB:Hp} {r:Addr} {x:Pap} (h:PpI K HB H l us m) (f:HB l=none) (hx:ab1 K H r x):PpI K HB (upd H l (.lst (us++[.ref r]))) l (us++[.ref r]) (m+1):=
 ⟨h.s.upd f, b8, fun u hu => by
  rcases l9.mp hu with z | z
  ·obtain⟨r',x',e,a⟩:=h.t u z
   exact⟨r',x',e,a.updL h.g⟩
  ·exact⟨r,x,j0.mp z,hx.updL h.g⟩,by rw[j6];exact Nat.succ_le_succ h.l⟩
theorem AW.grow {K:W.Frag}{PT:Addr}(h:AW K H kvs n m)(g:G5 PT H H')(t:Tb PT H):AW K H' kvs n m:=
 ⟨h.has,fun key v e=>let ⟨l,us,e1,e2,e3⟩:=h.val key v e;⟨l,us,e1,N8 g t e2,⟨e3.1,fun i u T f1 f2=>let ⟨a,x,ys,y1,y2⟩:=e3.2 i u T f1 f2;⟨a,x,ys,G5.sqT g t y1,aa6 g t y2⟩⟩⟩,h.inj,h.keys,h.len⟩
theorem AW.same' {K:W.Frag}(h:AW K H kvs n m)(s:o7 H H'):AW K H' kvs n m:=
 ⟨h.has,fun key v e=>let ⟨l,us,e1,e2,e3⟩:=h.val key v e;⟨l,us,e1,s _ _ e2,e3.same s⟩,h.inj,h.keys,h.len⟩
theorem at4.z {b:Addr}{k:List Key}{o:Obj}(e:H a=some (.frz o (.dT kvs)))(eb:H b=some (.tup (k.map kV))):at4 H a (.ref b) (M7 kvs k):=.inr ⟨kvs,k,b,.inr ⟨o,e⟩,rfl,eb,rfl⟩
theorem aV1 {PT:Addr}{o:Obj}(g:G5 PT H H')(t:Tb PT H)(h:H l=some (.frz o (.dT kvs))):H' l=some (.frz o (.dT kvs)):=by
 obtain⟨ps,hP,_⟩:=t
 exact g l _ (fun z=>by rw[z,hP]at h;cases h) h
theorem cd0:∀ n:Nat,n<6->(j5 n).length<=10:=by decide +kernel
theorem aY5 {K:W.Frag}(hn:n<=5)(h:Wls K H us (wks n ts m)){u:V}(hu:us[i]?=some u):∃ (t:Addr) (zs:List V) (ks:List (List Int)),u=.ref t/\SqT K H t zs/\y7 K H zs ks/\APr ks/\ks.length<=10:=by
 have hi:i<(wks n ts m).length:=by rw[<- h.1];exact(m4.mp hu).1
 obtain⟨a,e,ys,h1,h2⟩:=h.2 i u _ hu (d6 hi)
 refine⟨a,ys,_,e,h1,h2,?_⟩
 have hm:(wks n ts m)[i]∈wks n ts m:=R3 hi
 obtain⟨q,_,hq⟩:=m6.mp hm
 rw[<- hq]
 have hs:=am5 (j5 n) q
 have h5:=cd0 n (by omega)
 refine⟨fun k hk=>?_,n8 hs.length_le h5⟩
 obtain⟨i,j,_,_,e⟩:=V9 (hs.subset hk)
 exact⟨i,j,e⟩
theorem bq1 {q:Nat}(hq:q<m)(h:tal n (C4 (j5 n) q)=ts):0<(wks n ts m).length:=by
 unfold wks
 rw[a9]
 exact bp8 (C5.mpr ⟨A1.mpr hq,decide_eq_true h⟩)
theorem aN6 (c:Int)(h:0<n):∃ j:Nat,c % (n:Int)=(j:Int)/\j<n:=by
 have h1:=aX9 c (show (n:Int)≠0 by omega)
 have h2:=aD5 c (show (0:Int)<(n:Int) by omega)
 exact⟨(c % (n:Int)).toNat,by omega,by omega⟩
seal L2.PE L2.PA L2.PS L2.PSs L2.PT
section
variable {K:W.Frag} {base:Heap}
def bq8 (K:W.Frag)(PT:Addr):Sp:=fun vs H Q _=>∃ (a d:Addr) (ns:List Int) (i j:Nat) (c:Int) (o:Obj) (kvs:List (List Key × V)),vs=[.ref a,.ref d,.int i,.int j,.int c]/\H a=some (.lst (ns.map V.int))/\H d=some (.frz o (.dT kvs))/\AW K H kvs ns.length (2 ^ (j5 ns.length).length)/\2<=ns.length/\ns.length<=5/\Gr ns/\i<ns.length/\j<ns.length/\i≠j/\Tb PT H /\
 ∀ (l:Addr) (us:List V) (H':Hp),G5 PT H H'->Tb PT H'->H' l=some (.lst us)->bz6 K H' us->us.length<=210->Q (.ref l) H'
theorem at8:v7 ["tally","webs","one","other","cell","mine","papers","fence","every","key","first","second"] ["tally","webs","one","other","cell"] (d8 aS0):=.mk'
set_option maxHeartbeats 4000000 in
theorem bT1 {fX fE fS CW PT:Addr}{fdX fdE fdS:FuncData}(F:Fun K "_law_papers" "_law_papers" aS0 f fd)(B:Bn mg)
  (FX:Fun K "pair_told" "pair_told" sPT fX fdX)(bX:Binds K fdX ["tally","one","other"] [])(mX:mg "pair_told"=some (.ref fX))(GX:o4 P w K mg base (CXE P w) 6 fX fdX ["tally","one","other"] (bP8 K PT CW))
  (FE:Fun K "_law_fences" "_law_fences" aS3 fE fdE)(bE:Binds K fdE ["places"] [])(mE:mg "_law_fences"=some (.ref fE))(GE:o4 P w K mg base CX0 6 fE fdE ["places"] (bL1 K))
  (FS:Fun K "_law_spoilt" "_law_spoilt" Y1 fS fdS)(bS:Binds K fdS ["web","others","cell"] [])(mS:mg "_law_spoilt"=some (.ref fS))(GS:o4 P w K mg base CX0 6 fS fdS ["web","others","cell"] (bK9 K)):o4 P w K mg base CX0 7 f fd ["tally","webs","one","other","cell"] (bq8 K PT):=by
 refine F.ok at8 (fun cdv A outer s H vs Q E hr h=>?_)
 obtain⟨a,d,ns,i,j,c,o,kvs,rfl,ga,gd,hK,n2,n5,hG,hi,hj,hij,tb,q⟩:=h
 have hsl:=ay9
 have hsl3:3000<=c5:=by decide
 refine⟨_,c7 (A3 (i:=5) at8.nd rfl (Or.inl rfl) (aM8 (aB0 hr) (pv 1) (D3 C8 (by rfl) B.tuple (by rfl) (a6 (pv 0) b7)) (fun _ _=>rfl)))
  (ai3 (A3 (i:=6) at8.nd rfl (Or.inl rfl) (K7 (a6 (j8 GX hr (by rfl) mX FX.kp bX .nil (R7 (P:=P) (w:=w)) (a6 (pv 0) (a6 (pv 2) (a6 (pv 3) b7)))) b7)))
  (c7 (Q9 PassesOwn.never rfl (T4 (j8 GE hr (by rfl) mE FE.kp bE .nil E4 (a6 (m7 o6 (by rfl) B.len PySem.boot_len (a6 (pv 0) b7)) b7))) (B1 (i:=7) at8.nd rfl (Or.inl rfl)) (c7 (D6 (ae2 PySem.F.plainAttrs_list PySem.F.slot_list_append PySem.F.type_list_append F1 (pv 6) (a6 (v9 (a6 G0 (a6 (pv 7) b7))) b7)))
  (i5 (D6 (ae2 PySem.F.plainAttrs_list PySem.F.slot_list_append PySem.F.type_list_append F1 (pv 6) (a6 (v9 (a6 G0 (a6 (pv 7) b7))) b7))))))
  (c7 (A3 (i:=8) at8.nd rfl (Or.inl rfl) (D3 R1 (by rfl) B.list (by rfl) (a6 (pv 5) b7)))
  (c7 (Q9 PassesOwn.never rfl (bM2 (pv 1)) (B1 (i:=9) at8.nd rfl (Or.inl rfl)) (i5 (D6 (ae2 PySem.F.plainAttrs_list PySem.F.slot_list_append PySem.F.type_list_append F1 (pv 8) (a6 (x9 F6 (aM8 (aB0 hr) (pv 1) (pv 9) (fun _ _=>rfl)) c8 (fun _ _=>rfl)) b7)))))
  (c7 (A3 (i:=10) at8.nd rfl (Or.inl rfl) (v9 (a6 (m7 o6 (by rfl) B.len PySem.boot_len (a6 (pv 0) b7)) (a6 (x9 F6 (pv 5) (v8 K8 (v8 P8 (pv 4) c8) (m7 o6 (by rfl) B.len PySem.boot_len (a6 (pv 5) b7))) (fun _ _=>rfl)) b7))))
  (c7 (A3 (i:=11) at8.nd rfl (Or.inl rfl) (v9 (a6 (m7 o6 (by rfl) B.len PySem.boot_len (a6 (pv 0) b7)) (a6 (x9 F6 (pv 5) (v8 K8 (v8 P8 (pv 4) c8) (m7 o6 (by rfl) B.len PySem.boot_len (a6 (pv 5) b7))) (fun _ _=>rfl)) b7))))
  (c7 (D6 (ae2 PySem.F.plainAttrs_list PySem.F.slot_list_append PySem.F.type_list_append F1 (pv 6) (a6 (v9 (a6 G0 (a6 (pv 10) (a6 (pv 11) b7)))) b7)))
  (c7 (D6 (ae2 PySem.F.plainAttrs_list PySem.F.slot_list_append PySem.F.type_list_append F1 (pv 6) (a6 (v9 (a6 G0 (a6 (pv 11) (a6 (pv 10) b7)))) b7)))
  (c7 (D6 (ae2 PySem.F.plainAttrs_list PySem.F.slot_list_append PySem.F.type_list_append F1 (pv 6) (a6 (v9 (a6 G0 (a6 (j8 GS hr (by rfl) mS FS.kp bS .nil E4 (a6 (pv 10) (a6 (pv 8) (a6 (v8 P8 (pv 4) c8) b7)))) (a6 (pv 11) b7)))) b7)))
  (c7 (D6 (ae2 PySem.F.plainAttrs_list PySem.F.slot_list_append PySem.F.type_list_append F1 (pv 6) (a6 (v9 (a6 G0 (a6 (pv 10) (a6 (j8 GS hr (by rfl) mS FS.kp bS .nil E4 (a6 (pv 11) (a6 (pv 8) (a6 (v8 P8 (pv 4) c8) b7)))) b7)))) b7)))
  (i5 (u9 (pv 6))))))))))))),?_⟩
 have ht:O9 ns:=⟨by omega,by omega⟩
 have hf:ad6 ns .free:=aO2 hG
 obtain⟨mq,hmq,emq⟩:=aB1.mp hG
 obtain⟨v,hv⟩:=u4.mp ((hK.has ns).mpr ⟨mq,hmq,emq⟩)
 obtain⟨lm,um,rfl,glm,wlm⟩:=hK.val ns v hv
 have hum:0<um.length:=by rw[wlm.1];exact bq1 hmq emq
 have huM:um.length<=1024:=by
  rw[wlm.1]
  exact n8 (be0 ..) (ai4 _ (by omega))
 refine⟨_,rfl,_,rfl,a,_,rfl,.inl ⟨SqL.of ga,fun tw ftw=>?_⟩⟩
 have s1:=c9 (o:=.tup (ns.map V.int)) ftw
 refine⟨d,.ref lm,rfl,by rw[<- hv];exact at4.z (k:=ns.map Sum.inl) (s1 _ _ gd) (by rw[ag8];exact b8),?_⟩
 generalize upd H tw (.tup (ns.map V.int))=H1 at s1 ⊢
 refine y6 ?_
 have tb1:=tb.same s1
 refine⟨fun σ Hc=>∃ (l:Addr) (us:List V) (HB:Hp),σ=[some (.ref a),some (.ref d),some (.int i),some (.int j),some (.int c),some (.ref lm),some (.ref l),none,none,none,none,none]/\G5 PT H HB/\Tb PT HB/\HB l=none/\PpI K HB Hc l us 1,?_,?_⟩
 ·have fin:∀ (r:Addr) (x:Pap) (H':Hp),G5 PT H1 H'->Tb PT H'->ab1 K H' r x->1<=c5/\∀ l,H' l=none->∃ (l':Addr) (us:List V) (HB:Hp),[some (.ref a),some (.ref d),some (.int i),some (.int j),some (.int c),some (.ref lm),some (V.ref l),none,none,none,none,none]=[some (.ref a),some (.ref d),some (.int i),some (.int j),some (.int c),some (.ref lm),some (V.ref l'),none,none,none,none,none]/\G5 PT H HB/\Tb PT HB/\HB l'=none/\PpI K HB (upd H' l (.lst [.ref r])) l' us 1:=fun r x H' g' tb' hx=>⟨by omega,fun l fl=>⟨l,[.ref r],H',rfl,(s1.grow PT).trans g',tb',fl,c9 fl,b8,fun u hu=>⟨r,x,j0.mp hu,hx.same (c9 fl)⟩,c6 _⟩⟩
  refine⟨_,rfl,_,rfl,_,rfl,a,ns,i,j,rfl,.inl (SqL.of (s1 _ _ ga)),ht,by omega,hi,hj,hij,tb1,fun hn=>absurd hf hn,fun _=>⟨fun m x hm hnf r p y H' g' tb' hy hne gr gp=>?_,fun h1 h2 r w1 w2 k1 k2 H' g' tb' W1 W2 m1 m2 gr=>?_⟩⟩
  ·obtain⟨z,hz⟩:=bZ5 hne
   rw[<- hz]at gp
   rcases hm with⟨rfl,rfl⟩ | ⟨rfl,rfl,_⟩
   ·exact fin r (.al z) H' g' tb' ⟨p,SqT.of gr,SqT.of gp⟩
   ·exact fin r (.no z) H' g' tb' ⟨p,SqT.of gr,SqT.of gp⟩
  ·have wx:∀ (w0:Addr) (k0:List (List Int)),aF2 K H' w0 ns k0->Wx K H' w0 ns.length k0:=fun w0 k0 W0=>by
    obtain⟨t0,z0,x1,x2,x3⟩:=W0.at_
    refine⟨⟨t0,z0,SqT.of x1,SqT.of x2,x3⟩,fun k hk=>let ⟨i,j,_,_,e⟩:=W0.told.ups k hk;⟨i,j,e⟩,?_⟩
    have h1:k0.length<=(j5 ns.length).length:=an9 W0.told.nd fun k hk=>by
     obtain⟨i,j,hi,hj,e⟩:=W0.told.ups k hk
     rw[e]
     exact aN0 hi hj
    have:=cd0 ns.length (by omega)
    omega
   exact fin r (.so ns.length k1 ns.length k2) H' g' tb' ⟨w1,w2,SqT.of gr,wx w1 k1 W1,wx w2 k2 W2⟩
 rintro σ Hc ⟨l,us,HB,rfl,gB,tbB,flB,I0⟩
 have gaB:=N8 gB tb ga
 have gdB:=aV1 gB tb gd
 have KB:=hK.grow gB tb
 have gmB:=N8 gB tb glm
 have wmB:Wls K HB um (wks ns.length ns (2 ^ (j5 ns.length).length)):=⟨wlm.1,fun i u T f1 f2=>let ⟨a,x,ys,y1,y2⟩:=wlm.2 i u T f1 f2;⟨a,x,ys,G5.sqT gB tb y1,aa6 gB tb y2⟩⟩
 have hkl:kvs.length<=1024:=n8 hK.len (ai4 _ (by omega))
 refine⟨_,rfl,a,_,rfl,.inl (SqL.of (I0.s _ _ gaB)),ns.length,(by rw[a9];rfl),by omega,fun lf uf H2 s2 flf glf hfn hfl=>?_⟩
 have I1:=I0.same s2
 have nlf:lf≠l:=(u0 I0.g flf).symm
 refine⟨lf,rfl,⟨_,SqL.of glf⟩,ao7 (K:=K) (a:=lf) (xs:=uf) (fun m σ Ha=>∃ (us:List V) (e7:Option V),σ=[some (.ref a),some (.ref d),some (.int i),some (.int j),some (.int c),some (.ref lm),some (.ref l),e7,none,none,none,none]/\PpI K HB Ha l us (1+2*m)/\Ha lf=some (.lst uf)/\Fnc K Ha uf) ⟨us,none,rfl,I1,glf,hfn⟩ (fun i σ Ha _ ⟨_,_,_,_,g,_⟩=>SqL.of g) ?_ ?_⟩
 ·rintro m x σ Ha hx ⟨us,e7,rfl,I,gf,hn⟩
  have hm:m<uf.length:=(m4.mp hx).1
  obtain⟨p,z,rfl,gp⟩:=hn x (d5 hx)
  refine y6 ?_
  refine⟨_,rfl,.inl ⟨rfl,_,SqL.of I.g⟩,_,rfl,(by show 2<=c5;decide),fun t2 f2=>?_⟩
  have s3:=c9 (o:=.tup [.str "all",.ref p]) f2
  have I3:=I.same s3
  refine⟨l,us,_,rfl,rfl,I3.g,(by have:=I.l;omega),?_⟩
  have I4:=I3.app flB (x:=.al z) ⟨p,SqT.of b8,s3.seqT gp⟩
  have gf4:upd (upd Ha t2 (.tup [.str "all",.ref p])) l (.lst (us++[.ref t2])) lf=some (.lst uf):=by rw[m9 nlf];exact s3 _ _ gf
  have hn4:Fnc K (upd (upd Ha t2 (.tup [.str "all",.ref p])) l (.lst (us++[.ref t2]))) uf:=fun u hu=>let ⟨r,x,e,b⟩:=(hn.same s3) u hu;⟨r,x,e,b.updL I3.g⟩
  have gp4:SqT K (upd (upd Ha t2 (.tup [.str "all",.ref p])) l (.lst (us++[.ref t2]))) p (wzT z):=(s3.seqT gp).updL I3.g
  generalize upd (upd Ha t2 (.tup [.str "all",.ref p])) l (.lst (us++[.ref t2]))=Hb at I4 gf4 hn4 gp4 ⊢
  refine⟨_,rfl,.inl ⟨rfl,_,SqL.of I4.g⟩,_,rfl,(by show 2<=c5;decide),fun t5 f5=>?_⟩
  have s5:=c9 (o:=.tup [.str "none",.ref p]) f5
  have I5:=I4.same s5
  refine⟨l,_,_,rfl,rfl,I5.g,(by have:=I4.l;omega),?_⟩
  have I6:=I5.app flB (x:=.no z) ⟨p,SqT.of b8,s5.seqT gp4⟩
  exact⟨_,_,rfl,⟨I6.s,I6.g,I6.t,by have:=I6.l;omega⟩,by rw[m9 nlf];exact s5 _ _ gf4,fun u hu=>let ⟨r,x,e,b⟩:=(hn4.same s5) u hu;⟨r,x,e,b.updL I5.g⟩⟩
 rintro σ Ha ⟨us1,e7,rfl,I2,_,_⟩
 refine⟨_,rfl,lm,um,rfl,.inl (SqL.of (I2.s _ _ gmB)),fun le fle=>?_⟩
 have s3:=c9 (o:=.lst um) fle
 have I3:=I2.same s3
 have nle:le≠l:=(u0 I2.g fle).symm
 have fleB:HB le=none:=I2.s.free fle
 have gle:upd Ha le (.lst um) le=some (.lst um):=b8
 have ots0:Ots K (upd Ha le (.lst um)) um:=⟨fun z=>by rw[z]at hum;exact absurd hum (C9 _),fun u hu=>by
  obtain⟨m,hm⟩:=List.getElem?_of_mem hu
  obtain⟨t,zs,ks,e,x1,x2,x3,x4⟩:=aY5 n5 wmB hm
  exact⟨t,zs,ks,e,I3.s.seqT x1,I3.s.tups x2,x3,x4⟩⟩
 generalize upd Ha le (.lst um)=H3 at I3 gle ots0 ⊢
 refine y6 ?_
 refine⟨_,rfl,d,o,kvs,rfl,I3.s _ _ gdB,bV7 (a:=d) (o:=o) (kvs:=kvs) (fun m σ Hb=>∃ (e9:Option V) (ue:List V),σ=[some (.ref a),some (.ref d),some (.int i),some (.int j),some (.int c),some (.ref lm),some (.ref l),e7,some (.ref le),e9,none,none]/\PpI K HB Hb l us1 (1+2*uf.length)/\Hb le=some (.lst ue)/\Ots K Hb ue/\ue.length<=um.length+m) ⟨none,um,rfl,I3,gle,ots0,c6 _⟩ (fun m σ Hb _ ⟨_,_,_,I,_⟩=>I.s _ _ gdB) ?_ ?_⟩
 ·rintro m kv p σ Hb hx hp ⟨e9,ue,rfl,I,ge,ot,hl⟩
  have hm:m<kvs.length:=(m4.mp hx).1
  obtain⟨mk,hmk,ek⟩:=KB.keys kv (d5 hx)
  obtain⟨vk,hvk⟩:=u4.mp ((KB.has (tal ns.length (C4 (j5 ns.length) mk))).mpr ⟨mk,hmk,rfl⟩)
  obtain⟨lk,uk,rfl,glk,wlk⟩:=KB.val _ vk hvk
  have huk:0<uk.length:=by rw[wlk.1];exact bq1 hmk rfl
  refine y6 ?_
  refine⟨_,rfl,.inl ⟨rfl,_,SqL.of ge⟩,_,rfl,_,rfl,d,.ref lk,rfl,by rw[<- hvk,<- ek];exact at4.z (I.s _ _ gdB) hp,?_⟩
  obtain⟨t0,z0,k0,e0,x1,x2,x3,x4⟩:=aY5 n5 wlk (d6 huk)
  refine⟨lk,_,_,_,rfl,rfl,SqL.of (I.s _ _ glk),n9 (j:=0) (d6 huk),?_⟩
  rw[e0]
  refine⟨le,ue,_,rfl,rfl,ge,(by omega),?_⟩
  have hle:∀ {r:Addr} {ys:List V},SqT K Hb r ys->SqT K (upd Hb le (.lst (ue++[.ref t0]))) r ys:=fun h=>h.updL ge
  refine⟨_,_,rfl,⟨I.s.upd fleB,by rw[m9 (Ne.symm nle)];exact I.g,fun u hu=>let ⟨r,x,e,b⟩:=I.t u hu;⟨r,x,e,b.updL ge⟩,I.l⟩,b8,⟨by simp,fun u hu=>?_⟩,by rw[j6];show _+1<=_;omega⟩
  rcases l9.mp hu with z | z
  ·obtain⟨t,zs,ks,e,y1,y2,y3,y4⟩:=ot.2 u z
   exact⟨t,zs,ks,e,y1.updL ge,y7.updL ge y2,y3,y4⟩
  ·exact⟨t0,z0,k0,j0.mp z,(I.s.seqT x1).updL ge,y7.updL ge (I.s.tups x2),x3,x4⟩
 rintro σ Hb ⟨e9,ue,rfl,I4,ge,ot,hel⟩
 have step:∀ (Hx:Hp) (I:PpI K HB Hx l us1 (1+2*uf.length)) (jm:Nat),jm<um.length->∃ t zs ks,um[jm]?=some (.ref t)/\SqT K Hx t zs/\y7 K Hx zs ks/\APr ks/\ks.length<=10:=fun Hx I jm hjm=>by
  obtain⟨t,zs,ks,e,x1,x2,x3,x4⟩:=aY5 n5 wmB (d6 hjm)
  exact⟨t,zs,ks,by rw[d6 hjm,e],I.s.seqT x1,I.s.tups x2,x3,x4⟩
 obtain⟨j1,ej1,hj1⟩:=aN6 (c / 3) hum
 obtain⟨j2,ej2,hj2⟩:=aN6 (c / 5) hum
 obtain⟨ta,za,ka,ea,xa1,xa2,xa3,xa4⟩:=step Hb I4 j1 hj1
 refine⟨_,rfl,a,_,rfl,.inl (SqL.of (I4.s _ _ gaB)),_,rfl,_,rfl,_,_,rfl,rfl,⟨by decide,by decide⟩,_,rfl,lm,_,rfl,.inl (SqL.of (I4.s _ _ gmB)),_,_,rfl,rfl,(by show (0:Int)<(um.length:Int);omega),lm,_,_,_,rfl,rfl,SqL.of (I4.s _ _ gmB),(by rw[ej1];exact n9 ea),(by show 2<=c5;decide),fun pf ff=>?_⟩
 have s5:=c9 (o:=.tup [.int ((ns.map V.int).length:Int),.ref ta]) ff
 have I5:=I4.same s5
 have hlen:((ns.map V.int).length:Int)=(ns.length:Int):=by rw[a9]
 have wf:Wx K (upd Hb pf (.tup [.int ((ns.map V.int).length:Int),.ref ta])) pf ns.length ka:=⟨⟨ta,za,by rw[<- hlen];exact SqT.of b8,s5.seqT xa1,s5.tups xa2⟩,xa3,by omega⟩
 have ge5:=s5 _ _ ge
 have ot5:=ot.same s5
 generalize upd Hb pf (.tup [.int ((ns.map V.int).length:Int),.ref ta])=H5 at I5 wf ge5 ot5 ⊢
 refine y6 ?_
 obtain⟨tb',zb,kb,eb,xb1,xb2,xb3,xb4⟩:=step H5 I5 j2 hj2
 refine⟨_,rfl,a,_,rfl,.inl (SqL.of (I5.s _ _ gaB)),_,rfl,_,rfl,_,_,rfl,rfl,⟨by decide,by decide⟩,_,rfl,lm,_,rfl,.inl (SqL.of (I5.s _ _ gmB)),_,_,rfl,rfl,(by show (0:Int)<(um.length:Int);omega),lm,_,_,_,rfl,rfl,SqL.of (I5.s _ _ gmB),(by rw[ej2];exact n9 eb),(by show 2<=c5;decide),fun ps fs=>?_⟩
 have s6:=c9 (o:=.tup [.int ((ns.map V.int).length:Int),.ref tb']) fs
 have I6:=I5.same s6
 have ws:Wx K (upd H5 ps (.tup [.int ((ns.map V.int).length:Int),.ref tb'])) ps ns.length kb:=⟨⟨tb',zb,by rw[<- hlen];exact SqT.of b8,s6.seqT xb1,s6.tups xb2⟩,xb3,by omega⟩
 have wf6:=wf.same s6
 have ge6:=s6 _ _ ge5
 have ot6:=ot5.same s6
 generalize upd H5 ps (.tup [.int ((ns.map V.int).length:Int),.ref tb'])=H6 at I6 ws wf6 ge6 ot6 ⊢
 refine y6 ?_
 have hI6:=I6.l
 refine⟨_,rfl,.inl ⟨rfl,_,SqL.of I6.g⟩,_,rfl,_,rfl,(by show 3<=c5;decide),fun r1 f1=>?_⟩
 have v1:=c9 (o:=.tup [.str "some",.ref pf,.ref ps]) f1
 have J1:=I6.same v1
 refine⟨l,_,_,rfl,rfl,J1.g,(by omega),?_⟩
 have L1:=J1.app flB (x:=.so ns.length ka ns.length kb) ⟨pf,ps,SqT.of b8,wf6.same v1,ws.same v1⟩
 have wf7:=(wf6.same v1).updL (zs:=us1++[.ref r1]) J1.g
 have ws7:=(ws.same v1).updL (zs:=us1++[.ref r1]) J1.g
 have ge7:upd (upd H6 r1 (.tup [.str "some",.ref pf,.ref ps])) l (.lst (us1++[.ref r1])) le=some (.lst ue):=by rw[m9 nle];exact v1 _ _ ge6
 have ot7:=(ot6.same v1).updL (zs:=us1++[.ref r1]) J1.g
 generalize upd (upd H6 r1 (.tup [.str "some",.ref pf,.ref ps])) l (.lst (us1++[.ref r1]))=H7 at L1 wf7 ws7 ge7 ot7 ⊢
 refine⟨_,rfl,.inl ⟨rfl,_,SqL.of L1.g⟩,_,rfl,_,rfl,(by show 3<=c5;decide),fun r2 f2=>?_⟩
 have v2:=c9 (o:=.tup [.str "some",.ref ps,.ref pf]) f2
 have J2:=L1.same v2
 have hl1:=L1.l
 refine⟨l,_,_,rfl,rfl,J2.g,(by omega),?_⟩
 have L2:=J2.app flB (x:=.so ns.length kb ns.length ka) ⟨ps,pf,SqT.of b8,ws7.same v2,wf7.same v2⟩
 have wf8:=(wf7.same v2).updL (zs:=(us1++[.ref r1])++[.ref r2]) J2.g
 have ws8:=(ws7.same v2).updL (zs:=(us1++[.ref r1])++[.ref r2]) J2.g
 have ge8:upd (upd H7 r2 (.tup [.str "some",.ref ps,.ref pf])) l (.lst ((us1++[.ref r1])++[.ref r2])) le=some (.lst ue):=by rw[m9 nle];exact v2 _ _ ge7
 have ot8:=(ot7.same v2).updL (zs:=(us1++[.ref r1])++[.ref r2]) J2.g
 generalize upd (upd H7 r2 (.tup [.str "some",.ref ps,.ref pf])) l (.lst ((us1++[.ref r1])++[.ref r2]))=H8 at L2 wf8 ws8 ge8 ot8 ⊢
 have hl2:=L2.l
 generalize (us1++[.ref r1])++[.ref r2]=us2 at L2 hl2
 refine⟨_,rfl,.inl ⟨rfl,_,SqL.of L2.g⟩,_,rfl,_,rfl,_,rfl,_,_,rfl,rfl,⟨by decide,by decide⟩,pf,le,ns.length,ka,ue,_,rfl,wf8,xa4,SqL.of ge8,ot8,fun p3 z3 k3 H9 s9 w9=>?_⟩
 have L3:=L2.same s9
 refine⟨_,rfl,(by show 3<=c5;decide),fun r3 f3=>?_⟩
 have v3:=c9 (o:=.tup [.str "some",.ref p3,.ref ps]) f3
 have J3:=L3.same v3
 refine⟨l,_,_,rfl,rfl,J3.g,(by omega),?_⟩
 have L4:=J3.app flB (x:=.so z3 k3 ns.length kb) ⟨p3,ps,SqT.of b8,w9.same v3,(ws8.same s9).same v3⟩
 have wf9:=((wf8.same s9).same v3).updL (zs:=us2++[.ref r3]) J3.g
 have ws9:=((ws8.same s9).same v3).updL (zs:=us2++[.ref r3]) J3.g
 have ot9:=((ot8.same s9).same v3).updL (zs:=us2++[.ref r3]) J3.g
 have ge9:upd (upd H9 r3 (.tup [.str "some",.ref p3,.ref ps])) l (.lst (us2++[.ref r3])) le=some (.lst ue):=by rw[m9 nle];exact v3 _ _ (s9 _ _ ge8)
 generalize upd (upd H9 r3 (.tup [.str "some",.ref p3,.ref ps])) l (.lst (us2++[.ref r3]))=HA at L4 wf9 ws9 ge9 ot9 ⊢
 have hl4:=L4.l
 generalize us2++[.ref r3]=us3 at L4 hl4
 refine⟨_,rfl,.inl ⟨rfl,_,SqL.of L4.g⟩,_,rfl,_,rfl,_,rfl,_,rfl,_,_,rfl,rfl,⟨by decide,by decide⟩,ps,le,ns.length,kb,ue,_,rfl,ws9,xb4,SqL.of ge9,ot9,fun p4 z4 k4 HC sC wC=>?_⟩
 have L5:=L4.same sC
 refine⟨(by show 3<=c5;decide),fun r4 f4=>?_⟩
 have v4:=c9 (o:=.tup [.str "some",.ref pf,.ref p4]) f4
 have J4:=L5.same v4
 refine⟨l,_,_,rfl,rfl,J4.g,(by omega),?_⟩
 have L6:=J4.app flB (x:=.so ns.length ka z4 k4) ⟨pf,p4,SqT.of b8,(wf9.same sC).same v4,wC.same v4⟩
 have hl6:=L6.l
 exact⟨_,rfl,q l _ _ (gB.trans (L6.s.grow PT)) (tbB.same L6.s) L6.g L6.t (by omega)⟩
end
end Web
namespace Web
open PySem L2
theorem aP0 {b c:Bool}{p:Prop}(h:b=true↔p)(g:c=true↔p):b=c:=by
 cases b<;>cases c
 ·rfl
 ·exact absurd (h.mpr (g.mp rfl)) (by decide)
 ·exact absurd (g.mpr (h.mp rfl)) (by decide)
 ·rfl
theorem aZ0 {K:W.Frag}{b r:Addr}{k1 k2:List Int}(fa:H a=none)(fb:upd H a (.tup (k1.map V.int)) b=none)(fr:upd (upd H a (.tup (k1.map V.int))) b (.tup (k2.map V.int)) r=none) :
  o7 H (upd (upd (upd H a (.tup (k1.map V.int))) b (.tup (k2.map V.int))) r (.tup [.ref a,.ref b]))/\TTa K (upd (upd (upd H a (.tup (k1.map V.int))) b (.tup (k2.map V.int))) r (.tup [.ref a,.ref b])) r [k1,k2]:=by
 have s1:=c9 (o:=.tup (k1.map V.int)) fa
 have s2:=c9 (o:=.tup (k2.map V.int)) fb
 have s3:=c9 (o:=.tup [.ref a,.ref b]) fr
 exact⟨(s1.trans s2).trans s3,[.ref a,.ref b],SqT.of b8,.cons ⟨a,rfl,SqT.of (s3 _ _ (s2 _ _ b8))⟩ (.cons ⟨b,rfl,SqT.of (s3 _ _ b8)⟩ .nil)⟩
def rwL:List (List (List Int)):=[[[0,1],[2,3]],[[0,2],[1,3]],[[0,3],[1,2]]]
theorem aG3:∀ T∈rwL,T.length=2/\∀ k∈T,k∈j5 4:=by decide +kernel
theorem bf2 (h:T∈rwL):∀ k∈T,Up 4 k:=fun k hk=>V9 ((aG3 T h).2 k hk)
theorem bL5 {U:List (List Int)}(h:T∈rwL)(g:U∈rwL):∀ k∈T++U,∃ a b,k=[a,b]:=fun k hk=>by
 have:Up 4 k:=(l9.mp hk).elim (bf2 h k) (bf2 g k)
 obtain⟨i,j,_,_,e⟩:=this
 exact⟨i,j,e⟩
theorem cc4 {U:List (List Int)}(h:T∈rwL)(g:U∈rwL):∀ k∈T++U,k≠[]:=fun k hk z=>by
 obtain⟨a,b,e⟩:=bL5 h g k hk
 rw[z]at e
 cases e
theorem bs4 {U:List (List Int)}(h:T∈rwL)(g:U∈rwL):(T++U).length<64:=by
 have h1:=(aG3 T h).1
 have h2:=(aG3 U g).1
 rw[j6]
 omega
theorem bs5 {K:W.Frag}(h:Wls K H us rwL)(z:Int):∃ (r:Addr) (T:List (List Int)),atI us (z % 3)=some (.ref r)/\T∈rwL/\TTa K H r T:=by
 obtain⟨j,e,hj⟩:∃ j:Nat,z % 3=(j:Int)/\j<3:=⟨(z % 3).toNat,by omega,by omega⟩
 have hl:us.length=3:=h.1
 have hu:us[j]?=some (us[j]'(by omega)):=d6 (by omega)
 have hT:rwL[j]?=some (rwL[j]'(by show j<3;exact hj)):=d6 _
 obtain⟨a,e1,e2⟩:=h.2 j _ _ hu hT
 rw[e1]at hu
 exact⟨a,_,by rw[e];exact n9 hu,d5 hT,e2⟩
theorem bV6:∀ k:Nat,k<3->Gr ([2,2,2,2]++o8 k 0)
 | 0,_=>aB1.mpr ⟨51,by decide +kernel,by decide +kernel⟩
 | 1,_=>aB1.mpr ⟨163,by decide +kernel,by decide +kernel⟩
 | 2,_=>aB1.mpr ⟨579,by decide +kernel,by decide +kernel⟩
 | k+3,h=>absurd h (by omega)
theorem bC5 (i j:Nat):up [(i:Int),(j:Int)]=up [(j:Int),(i:Int)]:=by
 show [if (j:Int)<i then (j:Int) else i,if (j:Int) > i then (j:Int) else i]=[if (i:Int)<j then (i:Int) else j,if (i:Int) > j then (i:Int) else j]
 rcases W4 i j with h | h | h
 ·rw[if_neg (by omega),if_pos (by omega),if_pos (by omega),if_neg (by omega)]
 ·subst h;rfl
 ·rw[if_pos (by omega),if_neg (by omega),if_neg (by omega),if_pos (by omega)]
def Sos (K:W.Frag)(H:Hp)(us:List V):Prop:=∀ u∈us,∃ (r:Addr) (z1:Int) (k1:List (List Int)) (z2:Int) (k2:List (List Int)),u=.ref r/\ab1 K H r (.so z1 k1 z2 k2)
theorem aT0 {st:Stmt}{t t':TS}(h:PS X st t)(i:∀ D σ H,t' D σ H->t D σ H):PS X st t':=fun pins s σ H D I hw=>h pins s σ H D I (i D σ H hw)
def rTO (K:W.Frag):List V->Hp->VK->Prop:=fun xs H Q=>∃ p ys,xs=[.ref p]/\((SqL K H p ys/\∀ l,H l=none->Q (.ref l) (upd H l (.tup ys)))\/(SqT K H p ys/\Q (.ref p) H))
def rST (K:W.Frag):List V->Hp->VK->Prop:=fun xs H Q=>∃ p ys ks,xs=[.ref p]/\(SqL K H p ys\/SqT K H p ys)/\y7 K H ys ks/\(∀ k∈ks,k≠[])/\ks.length<64 /\
  ∀ l zs ks',H l=none->ks'.Perm ks->ks'.Pairwise (fun a b=>Tim.F2 b a=false)->y7 K (upd H l (.lst zs)) zs ks'->Q (.ref l) (upd H l (.lst zs))
def tPp (K:W.Frag)(t i j:Nat):TS:=fun D σ H=>∃ (n:Nat) (p q:Addr) (T U:List (List Int)),σ[6]?=some (some (.int (n:Int)))/\σ[i]?=some (some (.ref p))/\σ[j]?=some (some (.ref q))/\TTa K H p T/\TTa K H q U/\T∈rwL/\U∈rwL/\∀ (r:Addr) (k:List (List Int)) (H':Hp),o7 H H'->Wx K H' r n k->D.nx (σ.set t (some (.ref r))) H'
theorem aO6 {K:W.Frag}{t:Nat}(D:Ends)(σ:St)(H:Hp)(h:tPp K t i j D σ H):bP7 (bZ8 (at7 (bq5 6) (at7 (tCB (rTO K) (at7 (tCB (rST K) (at7 (tOp (bM0 K) (bq5 i) (bq5 j)) aZ1)) aZ1)) aZ1))) (aH6 t) D σ H:=by
 obtain⟨n,p,q,T,U,e6,ei,ej,⟨zm,xm1,xm2⟩,⟨zy,xy1,xy2⟩,hm,hy,Q⟩:=h
 have hsl:=ay9
 have la7:=xm2.len
 have lb7:=xy2.len
 refine⟨_,e6,_,ei,_,ej,p,q,_,_,rfl,rfl,xm1,xy1,(by have:=(aG3 _ hm).1;have:=(aG3 _ hy).1;omega),fun p1 Hp s1 g1=>?_⟩
 refine⟨p1,_,T++U,rfl,.inr g1,y7.append (s1.tups xm2) (s1.tups xy2),cc4 hm hy,(bs4 hm hy),fun l2 z2 k2 f2 pm2 _ t2=>?_⟩
 refine⟨l2,_,rfl,.inl ⟨SqL.of b8,fun t3 f3=>⟨(by show 2<=c5;decide),fun p7 f4=>?_⟩⟩⟩
 have s2:=c9 (o:=.lst z2) f2
 have s3:=c9 (o:=.tup z2) f3
 have s4:=c9 (o:=.tup [.int (n:Int),.ref t3]) f4
 exact Q p7 k2 _ (s1.trans (s2.trans (s3.trans s4))) ⟨⟨t3,z2,SqT.of b8,SqT.of (s4 _ _ b8),s4.tups (s3.tups t2)⟩,fun k hk=>bL5 hm hy k (pm2.mem_iff.mp hk),by rw[pm2.length_eq];exact bs4 hm hy⟩
seal L2.PE L2.PA L2.PS L2.PSs L2.PT
section
variable {K:W.Frag} {base:Heap}
def br3 (K:W.Frag):Sp:=fun vs H Q _=>∃ c:Int,vs=[.int c]/\∀ H',o7 H H'->Q (.bl true) H'
theorem W7:v7 ["cell","tally","rows","mine","yours","rest","places","good","lacking","twice","other","one","two","told","found"] ["cell"] (d8 aS4):=.mk'
set_option maxHeartbeats 4000000 in
theorem bT9 {fS fD:Addr}{fdS fdD:FuncData}(F:Fun K "_law_doubled_right" "_law_doubled_right" aS4 f fd)(B:Bn mg)
  (FS:Fun K "pair_shows" "pair_shows" aL5 fS fdS)(bS:Binds K fdS ["tally","one","other","told"] [])(mS:mg "pair_shows"=some (.ref fS))(GS:o4 P w K mg base (CXE P w) 7 fS fdS ["tally","one","other","told"] (aK7 K))
  (FD:Fun K "_law_due" "_law_due" aL8 fD fdD)(bD:Binds K fdD ["tally","one","other","told"] [])(mD:mg "_law_due"=some (.ref fD))(GD:o4 P w K mg base CX0 7 fD fdD ["tally","one","other","told"] (be6 K)):o4 P w K mg base CX0 8 f fd ["cell"] (br3 K):=by
 refine F.ok W7 (fun cdv A outer s H vs Q E hr h=>?_)
 obtain⟨c,rfl,q⟩:=h
 have hsl:=ay9
 refine⟨_,c7 (A3 (i:=1) W7.nd rfl (Or.inl rfl) (v8 bb1 (K7 (a6 c8 (a6 c8 (a6 c8 (a6 c8 b7))))) (v8 aN1 (K7 (a6 c8 b7)) (v8 K8 (v8 P8 (pv 0) c8) c8))))
  (c7 (A3 (i:=2) W7.nd rfl (Or.inl rfl) (K7 (a6 (v9 (a6 (v9 (a6 c8 (a6 c8 b7))) (a6 (v9 (a6 c8 (a6 c8 b7))) b7))) (a6 (v9 (a6 (v9 (a6 c8 (a6 c8 b7))) (a6 (v9 (a6 c8 (a6 c8 b7))) b7))) (a6 (v9 (a6 (v9 (a6 c8 (a6 c8 b7))) (a6 (v9 (a6 c8 (a6 c8 b7))) b7))) b7)))))
  (c7 (A3 (i:=3) W7.nd rfl (Or.inl rfl) (x9 F6 (pv 2) (v8 K8 (pv 0) c8) (fun _ _=>rfl)))
  (c7 (A3 (i:=4) W7.nd rfl (Or.inl rfl) (x9 F6 (pv 2) (v8 K8 (v8 N6 (pv 0) c8) c8) (fun _ _=>rfl)))
  (c7 (A3 (i:=5) W7.nd rfl (Or.inl rfl) (x9 F6 (pv 2) (v8 K8 (v8 N6 (pv 0) c8) c8) (fun _ _=>rfl)))
  (c7 (A3 (i:=6) W7.nd rfl (Or.inl rfl) (m7 o6 (by rfl) B.len PySem.boot_len (a6 (pv 1) b7)))
  (c7 (aT0 (A3 (i:=7) W7.nd rfl (Or.inl rfl) (v9 (a6 (pv 6) (a6 (D3 C8 (by rfl) B.tuple (by rfl) (a6 (m7 V4 (by rfl) B.sorted (by rfl) (a6 (v8 ac9 (pv 3) (pv 4)) b7)) b7)) b7)))) aO6)
  (c7 (aT0 (A3 (i:=8) W7.nd rfl (Or.inl rfl) (v9 (a6 (pv 6) (a6 (D3 C8 (by rfl) B.tuple (by rfl) (a6 (m7 V4 (by rfl) B.sorted (by rfl) (a6 (v8 ac9 (pv 4) (pv 5)) b7)) b7)) b7)))) aO6)
  (c7 (aT0 (A3 (i:=9) W7.nd rfl (Or.inl rfl) (v9 (a6 (pv 6) (a6 (D3 C8 (by rfl) B.tuple (by rfl) (a6 (m7 V4 (by rfl) B.sorted (by rfl) (a6 (v8 ac9 (pv 3) (pv 3)) b7)) b7)) b7)))) aO6)
  (c7 (aT0 (A3 (i:=10) W7.nd rfl (Or.inl rfl) (v9 (a6 (pv 6) (a6 (D3 C8 (by rfl) B.tuple (by rfl) (a6 (m7 V4 (by rfl) B.sorted (by rfl) (a6 (v8 ac9 (pv 4) (pv 4)) b7)) b7)) b7)))) aO6)
  (c7 (ac6 (x9 y9 (pv 3) (v8 K8 (v8 P8 (pv 0) c8) c8) (fun _ _=>rfl)) (al1 rfl (J7 (B1 (i:=11) W7.nd rfl (Or.inl rfl)) (J7 (B1 (i:=12) W7.nd rfl (Or.inl rfl)) ac8))))
  (c7 (Q9 PassesOwn.never rfl (T4 (K7 (a6 (v9 (a6 G0 (a6 (pv 7) (a6 (pv 8) b7)))) (a6 (v9 (a6 G0 (a6 (pv 9) (a6 (pv 8) b7)))) (a6 (v9 (a6 G0 (a6 (pv 7) (a6 (pv 10) b7)))) (a6 (v9 (a6 G0 (a6 (pv 9) (a6 (pv 10) b7)))) b7)))))) (B1 (i:=13) W7.nd rfl (Or.inl rfl)) (c7 (A3 (i:=14) W7.nd rfl (Or.inl rfl) (j8 GS hr (by rfl) mS FS.kp bS .nil (R7 (P:=P) (w:=w)) (a6 (D3 C8 (by rfl) B.tuple (by rfl) (a6 (pv 1) b7)) (a6 (pv 12) (a6 (pv 11) (a6 (pv 13) b7))))))
  (c7 (E3 (A0 an7 (j8 GS hr (by rfl) mS FS.kp bS .nil (R7 (P:=P) (w:=w)) (a6 (pv 1) (a6 (pv 12) (a6 (pv 11) (a6 (pv 13) b7))))) (pv 14) (A9 _)) aa3 A4)
  (i5 (E3 (PW.pt (ae1 (P3 (S3 (m7 (ap4 K rfl) (by rfl) B.isin (by rfl) (a6 (pv 14) (a6 (an4 (v:=.ty "bool") (by rfl) B.bool (by rfl) rfl) b7))))) (ag5 (A0 an7 (pv 14) (j8 GD hr (by rfl) mD FD.kp bD .nil E4 (a6 (pv 1) (a6 (pv 11) (a6 (pv 12) (a6 (pv 13) b7))))) (A9 _))))) aa3 A4)))))
  (i5 (u9 an5))))))))))))),?_⟩
 obtain⟨kz,ekz,hkz⟩:∃ j:Nat,c / 3 % 3=(j:Int)/\j<3:=⟨(c / 3 % 3).toNat,by omega,by omega⟩
 have hk:=bx4 (k:=c / 3 % 3) (by omega) (by omega)
 refine⟨(by show 4<=c5;decide),fun l1 f1=>⟨(by show 1<=c5;decide),fun l0 f0=>⟨_,rfl,_,_,rfl,rfl,⟨by decide,by decide⟩,_,_,rfl,rfl,(by show (0:Int)<3;decide),l0,_,_,rfl,rfl,b8,hk.1,hk.2,(by show 1*_<=c5;omega),fun l2 f2=>?_⟩⟩⟩
 rw[ekz,i3,bL8]
 have s1:=c9 (o:=.lst [.int 2,.int 2,.int 2,.int 2]) f1
 have s0:=c9 (o:=.lst [.int 0]) f0
 have s2:=c9 (o:=.lst ((o8 kz (0:Int)).map V.int)) f2
 refine⟨l1,l2,_,_,rfl,rfl,s2 _ _ (s0 _ _ b8),b8,(by rw[a9,aq0];show 4+_<=_;omega),fun lt flt=>?_⟩
 have s3:=c9 (o:=.lst ([V.int 2,.int 2,.int 2,.int 2]++(o8 kz (0:Int)).map V.int)) flt
 have S1:=((s1.trans s0).trans s2).trans s3
 have hG:=bV6 kz hkz
 have gt:upd (upd (upd (upd H l1 (.lst [.int 2,.int 2,.int 2,.int 2])) l0 (.lst [.int 0])) l2 (.lst ((o8 kz (0:Int)).map V.int))) lt (.lst ([V.int 2,.int 2,.int 2,.int 2]++(o8 kz (0:Int)).map V.int)) lt=some (.lst ((([2,2,2,2]:List Int)++o8 kz 0).map V.int)):=by rw[r9];exact b8
 generalize upd (upd (upd (upd H l1 (.lst [.int 2,.int 2,.int 2,.int 2])) l0 (.lst [.int 0])) l2 (.lst ((o8 kz (0:Int)).map V.int))) lt (.lst ([V.int 2,.int 2,.int 2,.int 2]++(o8 kz (0:Int)).map V.int))=H1 at S1 gt ⊢
 clear s0 s1 s2 s3
 have hn:(([2,2,2,2]:List Int)++o8 kz 0).length=4+kz:=by rw[j6,aq0];rfl
 generalize (([2,2,2,2]:List Int)++o8 kz 0)=ns at gt hG hn
 have ht:O9 ns:=⟨by omega,by omega⟩
 have hf:ad6 ns .free:=aO2 hG
 refine y6 ?_
 refine⟨(by show 2<=c5;decide),fun a0 fa0=>⟨(by show 2<=c5;decide),fun b0 fb0=>⟨(by show 2<=c5;decide),fun r0 fr0=>?_⟩⟩⟩
 obtain⟨sr0,xr0⟩:=aZ0 (K:=K) (k1:=[0,1]) (k2:=[2,3]) fa0 fb0 fr0
 have sr0:o7 H1 (upd (upd (upd H1 a0 (.tup [.int 0,.int 1])) b0 (.tup [.int 2,.int 3])) r0 (.tup [.ref a0,.ref b0])):=sr0
 have xr0:TTa K (upd (upd (upd H1 a0 (.tup [.int 0,.int 1])) b0 (.tup [.int 2,.int 3])) r0 (.tup [.ref a0,.ref b0])) r0 [[0,1],[2,3]]:=xr0
 generalize (upd (upd (upd H1 a0 (.tup [.int 0,.int 1])) b0 (.tup [.int 2,.int 3])) r0 (.tup [.ref a0,.ref b0]))=H2 at sr0 xr0 ⊢
 refine⟨(by show 2<=c5;decide),fun a1 fa1=>⟨(by show 2<=c5;decide),fun b1 fb1=>⟨(by show 2<=c5;decide),fun r1 fr1=>?_⟩⟩⟩
 obtain⟨sr1,xr1⟩:=aZ0 (K:=K) (k1:=[0,2]) (k2:=[1,3]) fa1 fb1 fr1
 have sr1:o7 H2 (upd (upd (upd H2 a1 (.tup [.int 0,.int 2])) b1 (.tup [.int 1,.int 3])) r1 (.tup [.ref a1,.ref b1])):=sr1
 have xr1:TTa K (upd (upd (upd H2 a1 (.tup [.int 0,.int 2])) b1 (.tup [.int 1,.int 3])) r1 (.tup [.ref a1,.ref b1])) r1 [[0,2],[1,3]]:=xr1
 generalize (upd (upd (upd H2 a1 (.tup [.int 0,.int 2])) b1 (.tup [.int 1,.int 3])) r1 (.tup [.ref a1,.ref b1]))=H3 at sr1 xr1 ⊢
 refine⟨(by show 2<=c5;decide),fun a2 fa2=>⟨(by show 2<=c5;decide),fun b2 fb2=>⟨(by show 2<=c5;decide),fun r2 fr2=>?_⟩⟩⟩
 obtain⟨sr2,xr2⟩:=aZ0 (K:=K) (k1:=[0,3]) (k2:=[1,2]) fa2 fb2 fr2
 have sr2:o7 H3 (upd (upd (upd H3 a2 (.tup [.int 0,.int 3])) b2 (.tup [.int 1,.int 2])) r2 (.tup [.ref a2,.ref b2])):=sr2
 have xr2:TTa K (upd (upd (upd H3 a2 (.tup [.int 0,.int 3])) b2 (.tup [.int 1,.int 2])) r2 (.tup [.ref a2,.ref b2])) r2 [[0,3],[1,2]]:=xr2
 generalize (upd (upd (upd H3 a2 (.tup [.int 0,.int 3])) b2 (.tup [.int 1,.int 2])) r2 (.tup [.ref a2,.ref b2]))=H4 at sr2 xr2 ⊢
 refine⟨(by show 3<=c5;decide),fun lr flr=>?_⟩
 have s5:=c9 (o:=.lst [.ref r0,.ref r1,.ref r2]) flr
 have S4:=((sr0.trans sr1).trans sr2).trans s5
 have glr:upd H4 lr (.lst [.ref r0,.ref r1,.ref r2]) lr=some (.lst [.ref r0,.ref r1,.ref r2]):=b8
 have hW:Wls K (upd H4 lr (.lst [.ref r0,.ref r1,.ref r2])) [.ref r0,.ref r1,.ref r2] rwL:=⟨rfl,fun i u T e1 e2=>by
  match i,e1,e2 with
  | 0,e1,e2=>cases e1;cases e2;exact⟨r0,rfl,xr0.same ((sr1.trans sr2).trans s5)⟩
  | 1,e1,e2=>cases e1;cases e2;exact⟨r1,rfl,xr1.same (sr2.trans s5)⟩
  | 2,e1,e2=>cases e1;cases e2;exact⟨r2,rfl,xr2.same s5⟩
  | (n+3),e1,e2=>cases e1⟩
 have gt6:=S4 _ _ gt
 have S6:=S1.trans S4
 generalize upd H4 lr (.lst [.ref r0,.ref r1,.ref r2])=H6 at glr hW gt6 S6 ⊢
 generalize ([.ref r0,.ref r1,.ref r2]:List V)=ur at glr hW
 clear sr0 sr1 sr2 s5 S4 S1
 refine y6 ?_
 obtain⟨rm,Tm,em,hm,xm⟩:=bs5 hW c
 obtain⟨ry,Ty,ey,hy,xy⟩:=bs5 hW (c+1)
 obtain⟨re,Te,ee,he,xe⟩:=bs5 hW (c+2)
 refine⟨_,rfl,_,rfl,_,_,rfl,rfl,(by show (0:Int)<3;decide),lr,_,_,_,rfl,rfl,SqL.of glr,em,?_⟩
 refine y6 ?_
 refine⟨_,rfl,_,rfl,_,_,rfl,rfl,_,_,rfl,rfl,(by show (0:Int)<3;decide),lr,_,_,_,rfl,rfl,SqL.of glr,ey,?_⟩
 refine y6 ?_
 refine⟨_,rfl,_,rfl,_,_,rfl,rfl,_,_,rfl,rfl,(by show (0:Int)<3;decide),lr,_,_,_,rfl,rfl,SqL.of glr,ee,?_⟩
 refine y6 ?_
 refine⟨_,rfl,lt,_,rfl,.inl (SqL.of gt6),?_⟩
 rw[show ((ns.map V.int).length:Int)=(ns.length:Int) by rw[a9]]
 refine y6 ?_
 refine⟨ns.length,rm,ry,Tm,Ty,rfl,rfl,rfl,xm,xy,hm,hy,fun p7 k7 H7 SH7 w7=>?_⟩
 refine⟨ns.length,ry,re,Ty,Te,rfl,rfl,rfl,xy.same SH7,xe.same SH7,hy,he,fun p8 k8 H8 s8 w8=>?_⟩
 have SH8:=SH7.trans s8
 refine⟨ns.length,rm,rm,Tm,Tm,rfl,rfl,rfl,xm.same SH8,xm.same SH8,hm,hm,fun p9 k9 H9 s9 w9=>?_⟩
 have SH9:=SH8.trans s9
 refine⟨ns.length,ry,ry,Ty,Ty,rfl,rfl,rfl,xy.same SH9,xy.same SH9,hy,hy,fun p10 k10 HA sA w10=>?_⟩
 have SHA:=SH9.trans sA
 have w7:=w7.same (s8.trans (s9.trans sA))
 have w8:=w8.same (s9.trans sA)
 have w9:=w9.same sA
 clear s8 s9 sA SH7 SH8 SH9
 obtain⟨jz,ejz,hjz⟩:∃ j:Nat,c / 9 % 2=(j:Int)/\j<2:=⟨(c / 9 % 2).toNat,by omega,by omega⟩
 obtain⟨zm,xm1,xm2⟩:=xm.same SHA
 have hTl:=(aG3 Tm hm).1
 obtain⟨pa,pu,pv,hz,hkm,hq⟩:=bf7 xm2 (fun k hk=>let ⟨i,j,_,_,e⟩:=bf2 hm k hk;⟨i,j,e⟩) (show jz<Tm.length by omega)
 obtain⟨u,v,huv,hv4,euv⟩:=bf2 hm _ (d5 hkm)
 injection euv with e1 e2
 injection e2 with e2 _
 subst e1 e2
 refine⟨_,rfl,_,rfl,_,_,rfl,rfl,⟨by decide,by decide⟩,_,_,rfl,rfl,(by show (0:Int)<2;decide),rm,_,_,_,rfl,rfl,xm1,(by rw[ejz];exact n9 hz),pa,_,rfl,hq,rfl,_,_,rfl,_,_,rfl,rfl,?_⟩
 refine⟨_,rfl,_,rfl,(by show 3<=c5;decide),fun t1 q1=>⟨_,rfl,_,rfl,(by show 3<=c5;decide),fun t2 q2=>⟨_,rfl,_,rfl,(by show 3<=c5;decide),fun t3 q3=>⟨_,rfl,_,rfl,(by show 3<=c5;decide),fun t4 q4=>⟨(by show 4<=c5;decide),fun ll fll=>⟨ll,rfl,⟨_,SqL.of b8⟩,?_⟩⟩⟩⟩⟩⟩
 have y1:=c9 (o:=.tup [.str "some",.ref p7,.ref p8]) q1
 have y2:=c9 (o:=.tup [.str "some",.ref p9,.ref p8]) q2
 have y3:=c9 (o:=.tup [.str "some",.ref p7,.ref p10]) q3
 have y4:=c9 (o:=.tup [.str "some",.ref p9,.ref p10]) q4
 have y5:=c9 (o:=.lst [.ref t1,.ref t2,.ref t3,.ref t4]) fll
 have Y:=(((y1.trans y2).trans y3).trans y4).trans y5
 have gll:upd (upd (upd (upd (upd HA t1 (.tup [.str "some",.ref p7,.ref p8])) t2 (.tup [.str "some",.ref p9,.ref p8])) t3 (.tup [.str "some",.ref p7,.ref p10])) t4 (.tup [.str "some",.ref p9,.ref p10])) ll (.lst [.ref t1,.ref t2,.ref t3,.ref t4]) ll=some (.lst [.ref t1,.ref t2,.ref t3,.ref t4]):=b8
 have so:Sos K (upd (upd (upd (upd (upd HA t1 (.tup [.str "some",.ref p7,.ref p8])) t2 (.tup [.str "some",.ref p9,.ref p8])) t3 (.tup [.str "some",.ref p7,.ref p10])) t4 (.tup [.str "some",.ref p9,.ref p10])) ll (.lst [.ref t1,.ref t2,.ref t3,.ref t4])) [.ref t1,.ref t2,.ref t3,.ref t4]:=fun x hx=>by
  have hx:x=.ref t1\/x=.ref t2\/x=.ref t3\/x=.ref t4:=by simpa using hx
  rcases hx with rfl | rfl | rfl | rfl
  ·exact⟨t1,_,k7,_,k8,rfl,p7,p8,SqT.of ((((y2.trans y3).trans y4).trans y5) _ _ b8),w7.same Y,w8.same Y⟩
  ·exact⟨t2,_,k9,_,k8,rfl,p9,p8,SqT.of (((y3.trans y4).trans y5) _ _ b8),w9.same Y,w8.same Y⟩
  ·exact⟨t3,_,k7,_,k10,rfl,p7,p10,SqT.of ((y4.trans y5) _ _ b8),w7.same Y,w10.same Y⟩
  ·exact⟨t4,_,k9,_,k10,rfl,p9,p10,SqT.of (y5 _ _ b8),w9.same Y,w10.same Y⟩
 have gtY:=(SHA.trans Y) _ _ gt6
 have SY:=S6.trans (SHA.trans Y)
 generalize upd (upd (upd (upd (upd HA t1 (.tup [.str "some",.ref p7,.ref p8])) t2 (.tup [.str "some",.ref p9,.ref p8])) t3 (.tup [.str "some",.ref p7,.ref p10])) t4 (.tup [.str "some",.ref p9,.ref p10])) ll (.lst [.ref t1,.ref t2,.ref t3,.ref t4])=HB at gll so gtY SY ⊢
 generalize ([.ref t1,.ref t2,.ref t3,.ref t4]:List V)=us at gll so
 clear y1 y2 y3 y4 y5 Y
 refine ao7 (K:=K) (a:=ll) (xs:=us) (fun i σ Ha=>∃ (e13 e14:Option V),σ=[some (.int c),some (.ref lt),some (.ref lr),some (.ref rm),some (.ref ry),some (.ref re),some (.int (ns.length:Int)),some (.ref p7),some (.ref p8),some (.ref p9),some (.ref p10),some (.int (u:Int)),some (.int (v:Int)),e13,e14]/\o7 HB Ha) ⟨none,none,rfl,o7.refl HB⟩ (fun i σ Ha _ ⟨_,_,_,sa⟩=>SqL.of (sa _ _ gll)) ?_ ?_
 ·rintro i x σ Ha hx ⟨e13,e14,rfl,sa⟩
  obtain⟨r,z1,k1,z2,k2,rfl,hp⟩:=so x (d5 hx)
  have hun:u<ns.length:=by omega
  have hvn:v<ns.length:=by omega
  have ga:=sa _ _ gtY
  have hp:=hp.same sa
  refine y6 ?_
  refine⟨_,rfl,lt,_,rfl,.inl ⟨SqL.of ga,fun tw ftw=>?_⟩⟩
  have s1:=c9 (o:=.tup (ns.map V.int)) ftw
  refine⟨_,rfl,_,rfl,_,rfl,tw,r,ns,v,u,_,rfl,.inr (SqT.of b8),ht,hf,hvn,hun,by omega,hp.same s1,fun b1 Hb sb hb1=>?_⟩
  have s2:=s1.trans sb
  refine y6 ?_
  refine⟨_,rfl,_,rfl,_,rfl,_,rfl,lt,r,ns,v,u,_,rfl,.inl (SqL.of (s2 _ _ ga)),ht,hf,hvn,hun,by omega,hp.same s2,fun b2 Hc sc hb2=>?_⟩
  obtain rfl:=aP0 hb1 hb2
  refine⟨_,rfl,rfl,_,rfl,ao4 rfl ?_⟩
  have s3:=s2.trans sc
  refine⟨_,rfl,_,_,_,true,rfl,.bl b1,rfl,_,rfl,E8 ?_⟩
  refine⟨_,rfl,_,rfl,_,rfl,_,rfl,_,rfl,lt,r,ns,u,v,_,rfl,s3 _ _ ga,ht,hun,hvn,hp.same s3,fun b3 Hd sd hb3=>?_⟩
  have sym:aI8 ns u v (.so z1 k1 z2 k2)↔aI8 ns v u (.so z1 k1 z2 k2):=by
   unfold aI8 bi6
   rw[bC5 u v]
  obtain rfl:=aP0 hb1 (hb3.trans sym)
  refine⟨rfl,_,rfl,ao4 rfl ?_⟩
  exact⟨_,_,rfl,sa.trans (s3.trans sd)⟩
 ·rintro σ Ha ⟨e13,e14,rfl,sa⟩
  exact q Ha (SY.trans sa)
end
end Web
namespace Web
open PySem L2
def plc (c p:Int):Int:=if c / 3 % 6=5 then 5 else p
def tPl:TS:=fun D σ H=>∃ (sc:V) (c p:Int) (rest:St),σ=some sc::some (.int c)::some (.int p)::rest/\D.nx (some sc::some (.int c)::some (.int (plc c p))::rest) H
theorem AW.frz {K:W.Frag}{H:Hp}{kvs:List (List Key × V)}{n m:Nat}{d:Addr}{kvs':List (List Key × V)}{u:HO}(h:AW K H kvs n m)(hd:H d=some (.dT kvs')):AW K (upd H d u) kvs n m:=
 ⟨h.has,fun key v e=>let ⟨l,us,e1,e2,e3⟩:=h.val key v e;⟨l,us,e1,by rw[m9 (fun z=>by rw[z,hd]at e2;cases e2)];exact e2,e3.updD hd⟩,h.inj,h.keys,h.len⟩
def KPs (H:Hp)(xs:List V)(n:Nat):Prop:=∀ x∈xs,∃ (p:Addr) (ts:List Int),x=.ref p/\H p=some (.tup (ts.map V.int))/\ts.length=n/\Gr ts
theorem KPs.upd {zs:List V}(h:KPs H xs n)(hl:H l=some (.lst ys)):KPs (upd H l (.lst zs)) xs n:=fun x hx=>by
 obtain⟨p,ts,e1,e2,e3⟩:=h x hx
 exact⟨p,ts,e1,by rw[m9 (fun z=>by rw[z,hl]at e2;cases e2)];exact e2,e3⟩
theorem KPs.snoc {p:Addr}(h:KPs H xs n)(hp:H p=some (.tup (ts.map V.int)))(hl:ts.length=n)(hg:Gr ts):KPs H (xs++[.ref p]) n:=fun x hx=>by
 rcases l9.mp hx with z | z
 ·exact h x z
 ·exact⟨p,ts,j0.mp z,hp,hl,hg⟩
theorem bw9 {PT:Addr}(g:G5 PT H H')(t:Tb PT H)(h:H l=some (.tup xs)):H' l=some (.tup xs):=by
 obtain⟨ps,hP,_⟩:=t
 exact g l _ (fun z=>by rw[z,hP]at h;cases h) h
seal L2.PE L2.PA L2.PS L2.PSs L2.PT
section
variable {K:W.Frag} {base:Heap}
def aR5 (K:W.Frag)(PT:Addr):Sp:=fun vs H Q _=>∃ (a:Addr) (ns:List Int),vs=[.ref a]/\SqL K H a (ns.map V.int)/\ns.length<=63/\Tb PT H/\∀ H',Q (.bl true) H'
theorem W6:v7 ["script","base","places","webs","kinds","cell","tally","k","pair","one","other","told","found"] ["script"] (d8 aE8):=.mk'
set_option maxHeartbeats 4000000 in
theorem bG6 {fC fK fP fY fS fD fE PT:Addr}{fdC fdK fdP fdY fdS fdD fdE:FuncData}(F:Fun K "law" "law" aE8 f fd)(B:Bn mg)
  (FC:Fun K "_law_cell_at" "_law_cell_at" au5 fC fdC)(bC:Binds K fdC ["script","k"] [])(mC:mg "_law_cell_at"=some (.ref fC))(GC:o4 P w K mg base CX0 8 fC fdC ["script","k"] (br4 K))
  (FK:Fun K "_law_all_webs" "_law_all_webs" au6 fK fdK)(bK:Binds K fdK ["places"] [])(mK:mg "_law_all_webs"=some (.ref fK))(GK:o4 P w K mg base CX0 8 fK fdK ["places"] (br5 K))
  (FP:Fun K "_law_pairs" "_law_pairs" ac3 fP fdP)(bP:Binds K fdP ["places"] [])(mP:mg "_law_pairs"=some (.ref fP))(GP:o4 P w K mg base CX0 8 fP fdP ["places"] (aK6 K))
  (FY:Fun K "_law_papers" "_law_papers" aS0 fY fdY)(bY:Binds K fdY ["tally","webs","one","other","cell"] [])(mY:mg "_law_papers"=some (.ref fY))(GY:o4 P w K mg base CX0 8 fY fdY ["tally","webs","one","other","cell"] (bq8 K PT))
  (FS:Fun K "pair_shows" "pair_shows" aL5 fS fdS)(bS:Binds K fdS ["tally","one","other","told"] [])(mS:mg "pair_shows"=some (.ref fS))(GS:o4 P w K mg base (CXE P w) 8 fS fdS ["tally","one","other","told"] (aK7 K))
  (FD:Fun K "_law_due" "_law_due" aL8 fD fdD)(bD:Binds K fdD ["tally","one","other","told"] [])(mD:mg "_law_due"=some (.ref fD))(GD:o4 P w K mg base CX0 8 fD fdD ["tally","one","other","told"] (be6 K))
  (FE:Fun K "_law_doubled_right" "_law_doubled_right" aS4 fE fdE)(bE:Binds K fdE ["cell"] [])(mE:mg "_law_doubled_right"=some (.ref fE))(GE:o4 P w K mg base CX0 8 fE fdE ["cell"] (br3 K)):o4 P w K mg base CX0 9 f fd ["script"] (aR5 K PT):=by
 refine F.ok W6 (fun cdv A outer s H vs Q E hr h=>?_)
 obtain⟨sc,ns,rfl,hS,hlen,tb,q⟩:=h
 have hsl:=ay9
 have nd1:(["key"]:List Str).Nodup:=by decide +kernel
 refine⟨_,c7 (A3 (i:=1) W6.nd rfl (Or.inl rfl) (v8 K8 (j8 GC hr (by rfl) mC FC.kp bC .nil E4 (a6 (pv 0) (a6 c8 b7))) (v8 ba6 c8 c8)))
  (c7 (A3 (i:=2) W6.nd rfl (Or.inl rfl) (v8 N6 c8 (v8 K8 (pv 1) c8)))
  (c7 (aT0 (t':=tPl) (E3 (A0 R0 (v8 K8 (v8 P8 (pv 1) c8) c8) c8 (A9 _)) (i5 (A3 (i:=2) W6.nd rfl (Or.inl rfl) c8)) A4) (fun D σ H h=>?pl))
  (c7 (A3 (i:=3) W6.nd rfl (Or.inl rfl) (bS1 (j8 GK hr (by rfl) mK FK.kp bK .nil E4 (a6 (pv 2) b7))))
  (c7 (aM2 (i:=4) W6.nd rfl rfl (by rfl) (N':=["key"]) (lk:=[none]) rfl (bM2 (pv 3)) (by rfl) rfl (by decide +kernel) (by exact trivial) (by rfl) (by exact LkL.ok trivial) (fun _ _ _=>B1 (i:=0) nd1 rfl (Or.inl rfl)) (fun _ _ _=>ai2) (fun _ _ _=>pv 0))
  (c7 (Q9 PassesOwn.never rfl (T4 (v8 bb1 (K7 (a6 (v8 P8 (pv 1) c8) b7)) (T8 am6 (pv 0) (V1 c8) (V1 c8)))) (B1 (i:=5) W6.nd rfl (Or.inl rfl)) (c7 (A3 (i:=6) W6.nd rfl (Or.inl rfl) (D3 R1 (by rfl) B.list (by rfl) (a6 (x9 F6 (pv 4) (v8 K8 (pv 5) (m7 o6 (by rfl) B.len PySem.boot_len (a6 (pv 4) b7))) (fun _ _=>rfl)) b7)))
  (c7 (Q9 PassesOwn.never rfl (aM5 (by rfl) B.enum (a6 (j8 GP hr (by rfl) mP FP.kp bP .nil E4 (a6 (pv 2) b7)) b7)) (al1 rfl (J7 (B1 (i:=7) W6.nd rfl (Or.inl rfl)) (J7 (B1 (i:=8) W6.nd rfl (Or.inl rfl)) ac8))) (c7 (ac6 (pv 8) (al1 rfl (J7 (B1 (i:=9) W6.nd rfl (Or.inl rfl)) (J7 (B1 (i:=10) W6.nd rfl (Or.inl rfl)) ac8))))
  (ai3 (E3 (A0 R0 (v8 K8 (v8 N6 (pv 5) (pv 7)) c8) c8 (A9 _)) (i5 (bR6 (i:=9) (j:=10) rfl W6.nd rfl rfl (by decide) (by rfl) (by rfl) (a6 (pv 10) (a6 (pv 9) b7)) (by rfl))) A4)
  (i5 (Q9 PassesOwn.never rfl (T4 (j8 GY hr (by rfl) mY FY.kp bY .nil E4 (a6 (pv 6) (a6 (pv 3) (a6 (pv 9) (a6 (pv 10) (a6 (v8 N6 (v8 K8 (v8 P8 (pv 5) c8) (v8 ba6 c8 c8)) (v8 bF6 c8 (pv 7))) b7))))))) (B1 (i:=11) W6.nd rfl (Or.inl rfl)) (c7 (A3 (i:=12) W6.nd rfl (Or.inl rfl) (j8 GS hr (by rfl) mS FS.kp bS .nil (R7 (P:=P) (w:=w)) (a6 (x9 F6 (K7 (a6 (pv 6) (a6 (D3 C8 (by rfl) B.tuple (by rfl) (a6 (pv 6) b7)) b7))) (v8 P8 (v8 K8 (v8 N6 (pv 5) (pv 7)) c8) c8) (fun _ _=>rfl)) (a6 (pv 9) (a6 (pv 10) (a6 (pv 11) b7))))))
  (i5 (E3 (PW.pt (ae1 (P3 (S3 (m7 (ap4 K rfl) (by rfl) B.isin (by rfl) (a6 (pv 12) (a6 (an4 (v:=.ty "bool") (by rfl) B.bool (by rfl) rfl) b7))))) (ag5 (A0 an7 (pv 12) (j8 GD hr (by rfl) mD FD.kp bD .nil E4 (a6 (pv 6) (a6 (pv 9) (a6 (pv 10) (a6 (pv 11) b7))))) (A9 _))))) aa3 A4))))))))
  (i5 (E3 (P3 (S3 (j8 GE hr (by rfl) mE FE.kp bE .nil E4 (a6 (v8 K8 (pv 5) (v8 ba6 c8 c8)) b7)))) aa3 A4)))))
  (i5 (u9 an5))))))),?_⟩
 case pl =>
  obtain⟨s0,c,p,rest,rfl,hx⟩:=h
  refine⟨_,rfl,_,_,rfl,rfl,⟨by decide,by decide⟩,_,_,rfl,rfl,(by show (0:Int)<6;decide),rfl,_,rfl,?_⟩
  rw[bM6]
  unfold plc at hx
  by_cases e:c / 3 % 6=5
  ·rw[if_pos e]at hx
   rw[decide_eq_true e]
   exact E7 hx
  ·rw[if_neg e]at hx
   rw[decide_eq_false e]
   exact E8 hx
 refine⟨_,rfl,sc,ns,0,rfl,hS,fun r0=>?_⟩
 refine⟨_,_,rfl,rfl,⟨by decide,by decide,by decide⟩,_,_,rfl,rfl,p40,?_⟩
 refine aH5 fun c _=>?_
 refine⟨_,rfl,_,_,rfl,rfl,(by show (0:Int)<3;decide),_,_,rfl,rfl,?_⟩
 refine y6 ?_
 refine⟨_,c,2+c % 3,_,rfl,?_⟩
 obtain⟨n,hn,n1,n2⟩:∃ n:Nat,plc c (2+c % 3)=(n:Int)/\1<=n/\n<=5:=by
  unfold plc
  split
  ·exact⟨5,rfl,by decide,by decide⟩
  ·exact⟨(2+c % 3).toNat,by omega,by omega,by omega⟩
 rw[hn]
 refine⟨_,rfl,n,rfl,n1,n2,fun d kvs H0 s0 fd0 gd0 hK0=>⟨d,kvs,rfl,gd0,fun o=>?_⟩⟩
 have s1:o7 H (upd H0 d (.frz o (.dT kvs))):=s0.upd fd0
 have gd:(upd H0 d (.frz o (.dT kvs))) d=some (.frz o (.dT kvs)):=b8
 have hK:=hK0.frz (u:=.frz o (.dT kvs)) gd0
 generalize upd H0 d (.frz o (.dT kvs))=H1 at s1 gd hK ⊢
 have n2:2<=n:=by
  have:(2:Int)<=plc c (2+c % 3):=by unfold plc;split<;>omega
  omega
 have n5:n<=5:=by
  have:plc c (2+c % 3)<=(5:Int):=by unfold plc;split<;>omega
  omega
 have hpw:=ai4 n (by omega)
 have hk2:kvs.length<=1024:=n8 hK.len hpw
 have hk1:1<=kvs.length:=by
  rcases bX1 kvs.length with z | z
  ·have h0:=(hK.has (tal n (C4 (j5 n) 0))).mpr ⟨0,Nat.one_le_two_pow,rfl⟩
   rw[ak0.mp z]at h0
   cases h0
  ·exact z
 refine⟨_,rfl,d,o,kvs,rfl,gd,fun lk hlk=>bJ1 (a:=d) (D:=lk) (o:=o) (kvs:=kvs) (fun i xs σ' H'=>(∃ v,σ'=[v])/\o7 H1 H'/\H' lk=some (.lst xs)/\xs.length=i/\KPs H' xs n)
  ⟨⟨none,rfl⟩,c9 hlk,b8,rfl,fun x hx=>absurd hx K6⟩ (by omega) (fun i xs σ' H' hi ⟨_,s6,h6,h7,_⟩=>⟨s6 _ _ gd,h6,by omega⟩) ?_ ?_⟩
 ·rintro i xs kv p σ' H' N kN hx hp ⟨⟨v,rfl⟩,s6,h6,h7,h8⟩
  obtain⟨mq,hmq,ek⟩:=hK.keys kv (d5 hx)
  rw[ek,ag8]at hp
  have hg:Gr (tal n (C4 (j5 n) mq)):=aB1.mpr (by rw[L9];exact⟨mq,hmq,rfl⟩)
  refine y6 ?_
  refine E7 (B:=N xs ([v].set 0 (some (V.ref p))) H') ⟨_,rfl,h6,kN _ _ _ ⟨⟨_,rfl⟩,s6.upd hlk,b8,by rw[j6,h7];rfl,(h8.snoc hp (L9 ..) hg).upd h6⟩⟩
 rintro xk σ' Hk ⟨⟨v,rfl⟩,sk,gk,lk1,tk1⟩
 have tb1:=tb.same s1
 have sHk:=s1.trans sk
 have gdk:=sk _ _ gd
 have hKk:=hK.same' sk
 refine⟨_,rfl,_,_,rfl,rfl,⟨by decide,by decide⟩,(by show 1<=c5;decide),fun l2 f2=>?_⟩
 have s2:=c9 (o:=.lst [.int (c / 18)]) f2
 obtain⟨ms,hms,hml⟩:=bn9 ns (some 1) (some 3)
 refine⟨_,rfl,_,rfl,_,rfl,sc,ns.map V.int,rfl,(sHk.trans s2).seq hS,fun p3 f3=>?_⟩
 rw[hms]
 have s3:=c9 (o:=.lst (ms.map V.int)) f3
 refine⟨l2,p3,_,_,rfl,rfl,s3 _ _ b8,b8,by rw[a9];simp;omega,fun lt flt=>⟨lt,rfl,⟨_,SqL.of b8⟩,?_⟩⟩
 have s4:=c9 (o:=.lst ([V.int (c / 18)]++ms.map V.int)) flt
 have gt:(upd (upd (upd Hk l2 (.lst [.int (c / 18)])) p3 (.lst (ms.map V.int))) lt (.lst ([V.int (c / 18)]++ms.map V.int))) lt=some (.lst ((c / 18::ms).map V.int)):=b8
 have s14:=(s2.trans s3).trans s4
 generalize upd (upd (upd Hk l2 (.lst [.int (c / 18)])) p3 (.lst (ms.map V.int))) lt (.lst ([V.int (c / 18)]++ms.map V.int))=HL at s14 gt ⊢
 have tbL:=(tb1.same sk).same s14
 have gdL:=s14 _ _ gdk
 have gkL:=s14 _ _ gk
 have hKL:=hKk.same' s14
 have tkL:KPs HL xk n:=fun x hx=>let ⟨p,ts,e1,e2,e3⟩:=tk1 x hx;⟨p,ts,e1,s14 _ _ e2,e3⟩
 have hxk:0<xk.length:=by omega
 refine ao7 (K:=K) (a:=lt) (xs:=(c / 18::ms).map V.int) (fun _ σ Ha=>∃ e5 e6 e7 e8 e9 e10 e11 e12,σ=[some (.ref sc),some (.int c),some (.int n),some (.ref d),some (.ref lk),e5,e6,e7,e8,e9,e10,e11,e12]/\G5 PT HL Ha/\Tb PT Ha) ⟨none,none,none,none,none,none,none,none,rfl,G5.refl PT HL,tbL⟩ (fun i σ Ha _ ⟨_,_,_,_,_,_,_,_,_,g,_⟩=>SqL.of (N8 g tbL gt)) ?_ ?_
 ·rintro i x σ Ha hx ⟨e5,e6,e7,e8,e9,e10,e11,e12,rfl,ga,tba⟩
  obtain⟨cz,rfl⟩:=int_at hx
  refine y6 ?_
  have gka:=N8 ga tbL gkL
  obtain⟨jk,ejk,hjk⟩:=aN6 cz hxk
  obtain⟨p,ts,ep,gp,hl,hG⟩:=tkL _ (R3 hjk)
  have hat:xk[jk]?=some (.ref p):=by rw[d6 hjk,ep]
  have gpa:=bw9 ga tbL gp
  refine⟨_,rfl,_,rfl,_,rfl,lk,_,rfl,.inl (SqL.of gka),_,_,rfl,rfl,(by show (0:Int)<(xk.length:Int);omega),lk,_,_,_,rfl,rfl,SqL.of gka,(by rw[ejk];exact n9 hat),p,_,rfl,.inr (SqT.of gpa),fun tl ftl=>?_⟩
  have sb:=c9 (o:=.lst (ts.map V.int)) ftl
  have gtl:upd Ha tl (.lst (ts.map V.int)) tl=some (.lst (ts.map V.int)):=b8
  have tbb:=tba.same sb
  have gab:=ga.trans (sb.grow PT)
  generalize upd Ha tl (.lst (ts.map V.int))=Hb at gtl tbb gab ⊢
  clear sb
  refine y6 ?_
  subst hl
  have ht:O9 ts:=⟨by omega,by omega⟩
  have hf:ad6 ts .free:=aO2 hG
  refine⟨_,rfl,ts.length,rfl,by omega,fun lp zp Hc sc1 fp gp2 tp=>?_⟩
  have gac:=gab.trans (sc1.grow PT)
  have tbc:=tbb.same sc1
  have gtc:=sc1 _ _ gtl
  refine⟨lp,rfl,⟨_,SqL.of gp2⟩,aV7 (K:=K) (a:=lp) (xs:=zp) (fun m σ Hd=>∃ e7 e8 e9 e10 e11 e12,σ=[some (.ref sc),some (.int c),some (.int ts.length),some (.ref d),some (.ref lk),some (.int cz),some (.ref tl),e7,e8,e9,e10,e11,e12]/\G5 PT Hc Hd/\Tb PT Hd) ⟨_,_,_,_,_,_,rfl,G5.refl PT Hc,tbc⟩ (fun i σ Hd _ ⟨_,_,_,_,_,_,_,g,_⟩=>SqL.of (N8 g tbc gp2)) ?_ ?_⟩
  ·rintro m x t8 σ Hd hx ⟨e7,e8,e9,e10,e11,e12,rfl,gd',tbd⟩ ht8
   obtain⟨pa,pk,rfl,hk',hq⟩:=tp.get hx
   obtain⟨u,v,huv,hvn,rfl⟩:=V9 (d5 hk')
   have st8:=c9 (o:=.tup [.int (m:Int),.ref pa]) ht8
   refine⟨t8,_,rfl,SqT.of b8,rfl,_,_,rfl,_,_,rfl,rfl,?_⟩
   have gce:=gd'.trans (st8.grow PT)
   have tbe:=tbd.same st8
   generalize upd Hd t8 (.tup [.int (m:Int),.ref pa])=He at gce tbe ⊢
   clear st8
   have hqe:=G5.sqT gce tbc hq
   refine⟨_,rfl,pa,_,rfl,hqe,rfl,_,_,rfl,_,_,rfl,rfl,?_⟩
   refine⟨fun σ Hf=>∃ (i1 i2:Nat),σ=[some (.ref sc),some (.int c),some (.int ts.length),some (.ref d),some (.ref lk),some (.int cz),some (.ref tl),some (.int (m:Int)),some (.ref pa),some (.int (i1:Int)),some (.int (i2:Int)),e11,e12]/\i1<ts.length/\i2<ts.length/\i1≠i2/\G5 PT Hc Hf/\Tb PT Hf,?_,?_⟩
   ·refine⟨_,rfl,_,rfl,_,_,rfl,rfl,_,_,rfl,rfl,(by show (0:Int)<2;decide),rfl,_,rfl,aA7 (fun _=>?_) (fun _=>⟨u,v,rfl,by omega,hvn,by omega,gce,tbe⟩)⟩
    exact⟨_,rfl,_,rfl,_,_,rfl,v,u,rfl,hvn,by omega,by omega,gce,tbe⟩
   rintro σ Hf ⟨i1,i2,rfl,h1,h2,h12,gcf,tbf⟩
   have gLf:=gac.trans gcf
   have gtf:=N8 gcf tbc gtc
   refine⟨_,rfl,_,rfl,_,rfl,_,rfl,_,rfl,_,_,rfl,rfl,⟨by decide,by decide⟩,_,_,rfl,rfl,⟨by decide,by decide,by decide⟩,_,_,rfl,rfl,p40,_,rfl,_,_,rfl,rfl,IntMulOk.of_left (by decide),_,_,rfl,rfl,tl,d,ts,i1,i2,_,o,kvs,rfl,gtf,aV1 gLf tbL gdL,hKL.grow gLf tbL,n2,n5,hG,h1,h2,h12,tbf,fun l us Hg gg tbg glu hP hul=>?_⟩
   have gcg:=gcf.trans gg
   have gtg:=N8 gcg tbc gtc
   refine⟨l,rfl,⟨_,SqL.of glu⟩,ao7 (K:=K) (a:=l) (xs:=us) (fun i σ Hh=>∃ e11 e12,σ=[some (.ref sc),some (.int c),some (.int ts.length),some (.ref d),some (.ref lk),some (.int cz),some (.ref tl),some (.int (m:Int)),some (.ref pa),some (.int (i1:Int)),some (.int (i2:Int)),e11,e12]/\o7 Hg Hh) ⟨_,_,rfl,o7.refl Hg⟩ (fun i σ Hh _ ⟨_,_,_,sh⟩=>SqL.of (sh _ _ glu)) ?_ ?_⟩
   ·rintro iu x σ Hh hx ⟨e11,e12,rfl,sh⟩
    obtain⟨r,y,rfl,hy⟩:=hP x (d5 hx)
    have gth:=sh _ _ gtg
    have hy:=hy.same sh
    refine y6 ?_
    refine⟨_,rfl,_,rfl,tl,_,rfl,.inl ⟨SqL.of gth,fun tw ftw=>⟨(by show 2<=c5;decide),fun lh flh=>?_⟩⟩⟩
    have s1':=c9 (o:=.tup (ts.map V.int)) ftw
    have s2':=c9 (o:=.lst [.ref tl,.ref tw]) flh
    have s12:=s1'.trans s2'
    have gtw:=s2' _ _ (b8 (H:=Hh) (a:=tw) (o:=.tup (ts.map V.int)))
    have glh:upd (upd Hh tw (.tup (ts.map V.int))) lh (.lst [.ref tl,.ref tw]) lh=some (.lst [.ref tl,.ref tw]):=b8
    generalize upd (upd Hh tw (.tup (ts.map V.int))) lh (.lst [.ref tl,.ref tw])=Hi at s12 gtw glh ⊢
    clear s1' s2'
    obtain⟨th,hth,hSq⟩:∃ th:Addr,atI ([.ref tl,.ref tw]:List V) ((cz+(m:Int)) % 3 / 2)=some (.ref th)/\Sq K Hi th ts:=by
     have:(cz+(m:Int)) % 3 / 2=0\/(cz+(m:Int)) % 3 / 2=1:=by omega
     rcases this with z | z
     ·exact⟨tl,by rw[z];exact n9 (j:=0) rfl,.inl (SqL.of (s12 _ _ gth))⟩
     ·exact⟨tw,by rw[z];exact n9 (j:=1) rfl,.inr (SqT.of gtw)⟩
    refine⟨_,rfl,_,rfl,_,_,rfl,rfl,_,_,rfl,rfl,(by show (0:Int)<3;decide),_,_,rfl,rfl,⟨by decide,by decide⟩,lh,_,_,_,rfl,rfl,SqL.of glh,hth,_,rfl,_,rfl,_,rfl,th,r,ts,i1,i2,y,rfl,hSq,ht,hf,h1,h2,h12,hy.same s12,fun b1 Hj sj hb1=>?_⟩
    have s1j:=s12.trans sj
    refine y6 ?_
    refine⟨_,rfl,_,_,_,true,rfl,.bl b1,rfl,_,rfl,E8 ?_⟩
    refine⟨_,rfl,_,rfl,_,rfl,_,rfl,_,rfl,tl,r,ts,i1,i2,y,rfl,s1j _ _ gth,ht,h1,h2,hy.same s1j,fun b3 Hl sl hb3=>?_⟩
    obtain rfl:=aP0 hb1 hb3
    refine⟨rfl,_,rfl,ao4 rfl ?_⟩
    exact⟨_,_,rfl,sh.trans (s1j.trans sl)⟩
   ·rintro σ Hh ⟨e11,e12,rfl,sh⟩
    exact⟨_,_,_,_,_,_,rfl,gcg.trans (sh.grow PT),tbg.same sh⟩
  rintro σ Hd ⟨e7,e8,e9,e10,e11,e12,rfl,gd',tbd⟩
  refine⟨_,rfl,_,_,rfl,rfl,⟨by decide,by decide,by decide⟩,_,_,rfl,rfl,p40,_,rfl,fun Hf sf=>⟨_,rfl,E8 ?_⟩⟩
  exact⟨_,_,_,_,_,_,_,_,rfl,(gac.trans gd').trans (sf.grow PT),tbd.same sf⟩
 ·rintro σ Ha ⟨e5,e6,e7,e8,e9,e10,e11,e12,rfl,sa⟩
  exact q Ha
set_option maxHeartbeats 2000000 in
theorem bT5 {fI fC fU fV fℓ fτ fι fO fM fG fA fδ fβ fω fW fH fσ fγ fL fY fν fJ fB fD fE fX fS fκ fQ fP fK fR fφ fψ fη fρ fζ CX CT CW c PT:Addr}{fdC fdU fdV fdℓ fdτ fdι fdO fdM fdG fdδ fdω fdW fdH fdσ fdγ fdL fdY fdν fdJ fdB fdD fdE fdX fdS fdκ fdQ fdP fdK fdR fdφ fdψ fdη fdρ fdζ:FuncData}(F0:Fun K "law" "law" aE8 f fd)(Bx:Bn mg)(mo:mg "MOST_PLACES"=some (.int 24 tk))
  (FI:Fun K "is_place" "is_place" ar3 fI fdI)(bI:Binds K fdI ["places","number"] [])(mI:mg "is_place"=some (.ref fI))
  (FC:Fun K "check_place" "check_place" aE9 fC fdC)(bC:Binds K fdC ["places","number"] [])(mC:mg "check_place"=some (.ref fC))
  (FU:Fun K "turned_up" "turned_up" sUp fU fdU)(bU:Binds K fdU ["places","tie"] [])(mU:mg "turned_up"=some (.ref fU))
  (FV:Fun K "made" "made" an0 fV fdV)(bV:Binds K fdV ["places","ties"] [])(mV:mg "made"=some (.ref fV))
  (Fℓ:Fun K "tally_of" "tally_of" ag3 fℓ fdℓ)(bℓ:Binds K fdℓ ["web"] [])(mℓ:mg "tally_of"=some (.ref fℓ))
  (Fτ:Fun K "tied" "tied" au2 fτ fdτ)(bτ:Binds K fdτ ["web","one","other"] [])(mτ:mg "tied"=some (.ref fτ))
  (Fι:Fun K "is_told" "is_told" Y3 fι fdι)(bι:Binds K fdι ["web"] [])(mι:mg "is_told"=some (.ref fι))
  (FT:Fun K "check_tally" "check_tally" aj4 fT fdT)(bT:Binds K fdT ["tally"] [])(mT:mg "check_tally"=some (.ref fT))
  (FO:Fun K "order_of" "order_of" aE7 fO fdO)(bO:Binds K fdO ["tally"] [])(mO:mg "order_of"=some (.ref fO))
  (FM:Fun K "moved" "moved" aS1 fM fdM)(bM:Binds K fdM ["tally","place","more"] [])(mM:mg "moved"=some (.ref fM))
  (FG:Fun K "falling" "falling" ae0 fG fdG)(bG:Binds K fdG ["tally"] [])(mG:mg "falling"=some (.ref fG))
  (FA:Fun K "room_among" "room_among" U7 fA fdA)(bA:Binds K fdA ["numbers","most","r"] [])(mA:mg "room_among"=some (.ref fA))
  (Fδ:Fun K "room_with" "room_with" ac2 fδ fdδ)(bδ:Binds K fdδ ["tally","most","r"] [])(mδ:mg "room_with"=some (.ref fδ))
  (Fβ:Fun K "places_below" "places_below" W8 fβ fdβ)(bβ:Binds K fdβ ["numbers"] [])(mβ:mg "places_below"=some (.ref fβ))
  (Fω:Fun K "wall_with" "wall_with" ag2 fω fdω)(bω:Binds K fdω ["tally","most"] [])(mω:mg "wall_with"=some (.ref fω))
  (FW:Fun K "wall_of" "wall_of" am9 fW fdW)(bW:Binds K fdW ["tally"] [])(mW:mg "wall_of"=some (.ref fW))
  (FH:Fun K "check_has_web" "check_has_web" aL7 fH fdH)(bH:Binds K fdH ["tally"] [])(mH:mg "check_has_web"=some (.ref fH))
  (Fσ:Fun K "wall_shows_with" "wall_shows_with" Y2 fσ fdσ)(bσ:Binds K fdσ ["tally","most","wall"] [])(mσ:mg "wall_shows_with"=some (.ref fσ))
  (Fγ:Fun K "wall_shows" "wall_shows" ac1 fγ fdγ)(bγ:Binds K fdγ ["tally","wall"] [])(mγ:mg "wall_shows"=some (.ref fγ))
  (FF:Fun K "first_of_order" "first_of_order" Z5 fF fdF)(bF:Binds K fdF ["tally","many","passed_over"] [])(mF:mg "first_of_order"=some (.ref fF))
  (FL:Fun K "left_of_others" "left_of_others" au4 fL fdL)(bL:Binds K fdL ["tally","place","ends"] [])(mL:mg "left_of_others"=some (.ref fL))
  (FY:Fun K "laid_around" "laid_around" an1 fY fdY)(bY:Binds K fdY ["tally","place","ends"] [])(mY:mg "laid_around"=some (.ref fY))
  (Fν:Fun K "is_web_of" "is_web_of" ag4 fν fdν)(bν:Binds K fdν ["tally","web"] [])(mν:mg "is_web_of"=some (.ref fν))
  (FJ:Fun K "check_pair" "check_pair" aL9 fJ fdJ)(bJ:Binds K fdJ ["places","one","other"] [])(mJ:mg "check_pair"=some (.ref fJ))
  (FB:Fun K "moved_both" "moved_both" aL6 fB fdB)(bB:Binds K fdB ["tally","one","other","more"] [])(mB:mg "moved_both"=some (.ref fB))
  (FD:Fun K "laid_with" "laid_with" au0 fD fdD)(bD:Binds K fdD ["tally","one","other"] [])(mD:mg "laid_with"=some (.ref fD))
  (FE:Fun K "laid_without" "laid_without" at9 fE fdE)(bE:Binds K fdE ["tally","one","other"] [])(mE:mg "laid_without"=some (.ref fE))
  (FX:Fun K "pair_told" "pair_told" sPT fX fdX)(bX:Binds K fdX ["tally","one","other"] [])(mX:mg "pair_told"=some (.ref fX))
  (FS:Fun K "some_shows" "some_shows" au3 fS fdS)(bS:Binds K fdS ["tally","one","other","with_it","without"] [])(mS:mg "some_shows"=some (.ref fS))
  (Fκ:Fun K "pair_shows" "pair_shows" aL5 fκ fdκ)(bκ:Binds K fdκ ["tally","one","other","told"] [])(mκ:mg "pair_shows"=some (.ref fκ))
  (FQ:Fun K "_law_cell_at" "_law_cell_at" au5 fQ fdQ)(bQ:Binds K fdQ ["script","k"] [])(mQ:mg "_law_cell_at"=some (.ref fQ))
  (FP:Fun K "_law_pairs" "_law_pairs" ac3 fP fdP)(bP:Binds K fdP ["places"] [])(mP:mg "_law_pairs"=some (.ref fP))
  (FK:Fun K "_law_all_webs" "_law_all_webs" au6 fK fdK)(bK:Binds K fdK ["places"] [])(mK:mg "_law_all_webs"=some (.ref fK))
  (FR:Fun K "_law_web_right" "_law_web_right" au1 fR fdR)(bR:Binds K fdR ["found","tally"] [])(mR:mg "_law_web_right"=some (.ref fR))
  (Fφ:Fun K "_law_fences" "_law_fences" aS3 fφ fdφ)(bφ:Binds K fdφ ["places"] [])(mφ:mg "_law_fences"=some (.ref fφ))
  (Fψ:Fun K "_law_spoilt" "_law_spoilt" Y1 fψ fdψ)(bψ:Binds K fdψ ["web","others","cell"] [])(mψ:mg "_law_spoilt"=some (.ref fψ))
  (Fη:Fun K "_law_due" "_law_due" aL8 fη fdη)(bη:Binds K fdη ["tally","one","other","told"] [])(mη:mg "_law_due"=some (.ref fη))
  (Fρ:Fun K "_law_papers" "_law_papers" aS0 fρ fdρ)(bρ:Binds K fdρ ["tally","webs","one","other","cell"] [])(mρ:mg "_law_papers"=some (.ref fρ))
  (Fζ:Fun K "_law_doubled_right" "_law_doubled_right" aS4 fζ fdζ)(bζ:Binds K fdζ ["cell"] [])(mζ:mg "_law_doubled_right"=some (.ref fζ))
  (mCX:mg "BadWeb"=some (.ref CX))(cCX:S8 K CX)(xCX:PySem.W.exmOne K (.ref CX) (.ref CX)=some true)(mCB:mg "BadTally"=some (.ref CB))(cCB:S8 K CB)(mCN:mg "NoPlace"=some (.ref CN))(cCN:S8 K CN)(mCT:mg "BadNumber"=some (.ref CT))(cCT:S8 K CT)(mCW:mg "NoWeb"=some (.ref CW))(cCW:S8 K CW)(hc:fdO.code=.ref c)(LB:aC6 base mg c PT):o4 P w K mg base CX0 9 f fd ["script"] (aR5 K PT):=by
 have GW:o4 P w K mg base (CXE P w) 3 fW fdW ["tally"] (aK2 K CB):=bG3 FW Bx FT bT mT FG bG mG FA bA mA Fβ bβ mβ Fω bω mω mo mCB cCB
 have GM:o4 P w K mg base (CXE P w) 3 fM fdM ["tally","place","more"] (bq9 K CB CN):=bT4 FM Bx FT bT mT FC bC mC FI bI mI mo mCB cCB mCN cCN
 have GH:o4 P w K mg base (CXE P w) 4 fH fdH ["tally"] (be5 K CW):=bT6 FH FW bW mW GW mCW cCW
 have GB:o4 P w K mg base CX0 4 fB fdB ["tally","one","other","more"] (aR4 K):=bT3 FB FM bM mM GM
 have GJ:o4 P w K mg base CX0 3 fJ fdJ ["places","one","other"] be7:=bU0 FJ FC bC mC FI bI mI mCN cCN
 have GF:o4 P w K mg base (CXE P w) 3 fF fdF ["tally","many","passed_over"] (ac0 K PT):=aT7 FF Bx FO bO mO hc LB FT bT mT mo mCB cCB
 have GV:o4 P w K mg base (CXE P w) 3 fV fdV ["places","ties"] (aw8 K CX):=bu6 FV Bx FI bI mI FU bU mU mo mCX cCX
 have GY:o4 P w K mg base CX0 4 fY fdY ["tally","place","ends"] (aK8 K PT):=bG7 FY Bx FV bV mV (cd8 GV) FO bO mO hc LB FT bT mT FF bF mF FL bL mL mo mCB cCB
 have GD:o4 P w K mg base CX0 5 fD fdD ["tally","one","other"] (bk9 K PT true):=bG1 FD FF bF mF GF FY bY mY GY
 have GE:o4 P w K mg base CX0 5 fE fdE ["tally","one","other"] (bk9 K PT false):=bG0 FE FF bF mF GF FY bY mY GY
 have GX:o4 P w K mg base (CXE P w) 6 fX fdX ["tally","one","other"] (bP8 K PT CW):=cd3 FX Bx FH bH mH (GH.mono (by decide)) FJ bJ mJ (GJ.mono (by decide)) FW bW mW (GW.mono (by decide)) FB bB mB (GB.mono (by decide)) FD bD mD GD FE bE mE GE
 have Gι:o4 P w K mg base CX0 4 fι fdι ["web"] (aK3 K):=bu1 Fι FV bV mV GV mCX xCX
 have Gν:o4 P w K mg base CX0 5 fν fdν ["tally","web"] (aZ2 K):=bG8 Fν Bx Fι bι mι Gι Fℓ bℓ mℓ
 have Gτ:o4 P w K mg base (CXE P w) 3 fτ fdτ ["web","one","other"] (aK4 K CN):=bu2 Fτ Bx FI bI mI FC bC mC mCN cCN
 have GS:o4 P w K mg base CX0 6 fS fdS ["tally","one","other","with_it","without"] (aK5 K):=bu3 FS Fν bν mν Gν Fτ bτ mτ (Gτ.mono (by decide))
 have Gγ:=bu4 (P:=P) (w:=w) (base:=base) Fγ Bx FT bT mT FG bG mG FA bA mA Fδ bδ mδ Fβ bβ mβ Fσ bσ mσ mo mCB cCB mCT cCT
 have Gκ:o4 P w K mg base (CXE P w) 7 fκ fdκ ["tally","one","other","told"] (aK7 K):=bG4 (CN:=CN) Fκ Bx FH bH mH (GH.mono (by decide)) FJ bJ mJ (GJ.mono (by decide)) FB bB mB (GB.mono (by decide)) FS bS mS GS Fγ bγ mγ (Gγ.mono (by decide))
 have Gη:o4 P w K mg base CX0 6 fη fdη ["tally","one","other","told"] (be6 K):=bT8 Fη Bx Fγ bγ mγ (Gγ.mono (by decide)) FR bR mR ((bG2 FR Bx).mono (by decide))
 have Gρ:o4 P w K mg base CX0 7 fρ fdρ ["tally","webs","one","other","cell"] (bq8 K PT):=bT1 Fρ Bx FX bX mX GX Fφ bφ mφ ((bT7 Fφ Bx).mono (by decide)) Fψ bψ mψ ((bT0 Fψ Bx).mono (by decide))
 have Gζ:o4 P w K mg base CX0 8 fζ fdζ ["cell"] (br3 K):=bT9 Fζ Bx Fκ bκ mκ Gκ Fη bη mη (Gη.mono (by decide))
 exact bG6 F0 Bx FQ bQ mQ ((bG9 FQ Bx).mono (by decide)) FK bK mK ((bH0 FK Bx FP bP mP).mono (by decide)) FP bP mP ((aT6 FP Bx).mono (by decide)) Fρ bρ mρ (Gρ.mono (by decide)) Fκ bκ mκ (Gκ.mono (by decide)) Fη bη mη (Gη.mono (by decide)) Fζ bζ mζ Gζ
end
end Web
namespace Web
open PySem L2
def ay3 (K:W.Frag):List (Addr × Addr):=match PySem.W.tabIn K "order_of" with
 | some q=>[q]
 | none=>[]
def ba0 (K:W.Frag):Addr:=((PySem.W.tabIn K "order_of").getD (0,0)).2
theorem ls1 (h:∀ x0,p [x0]):∀ us,us.length=1->p us
 | [x0],_=>h x0
theorem ls2 (h:∀ x0 x1,p [x0,x1]):∀ us,us.length=2->p us
 | [x0,x1],_=>h x0 x1
theorem ls3 (h:∀ x0 x1 x2,p [x0,x1,x2]):∀ us,us.length=3->p us
 | [x0,x1,x2],_=>h x0 x1 x2
theorem ls4 (h:∀ x0 x1 x2 x3,p [x0,x1,x2,x3]):∀ us,us.length=4->p us
 | [x0,x1,x2,x3],_=>h x0 x1 x2 x3
theorem ls5 (h:∀ x0 x1 x2 x3 x4,p [x0,x1,x2,x3,x4]):∀ us,us.length=5->p us
 | [x0,x1,x2,x3,x4],_=>h x0 x1 x2 x3 x4
set_option maxHeartbeats 0 in
theorem all_mk {l:PySem.W.OpenLaw}{K:W.Frag}{fa fI fC fU fV fℓ fτ fι fO fM fG fA fδ fβ fω fW fH fσ fγ fL fY fν fJ fB fD fE fX fS fκ fQ fP fK fR fφ fψ fη fρ fζ fZ CBadWeb CBadTally CNoPlace CBadNumber CNoWeb:Addr}(X:K.In h)(G:h.Ns d7 mg)(hfa:mg "law"=some (.ref fa))
  {odI anI odC anC odU anU odV anV odℓ anℓ odτ anτ odι anι odT anT odO anO odM anM odG anG odA anA odδ anδ odβ anβ odω anω odW anW odH anH odσ anσ odγ anγ odF anF odL anL odY anY odν anν odJ anJ odB anB odD anD odE anE odX anX odS anS odκ anκ odQ anQ odP anP odK anK odR anR odφ anφ odψ anψ odη anη odρ anρ odζ anζ odZ anZ:Option Addr}{slI slC slU slV slℓ slτ slι slT slO slM slG slA slδ slβ slω slW slH slσ slγ slF slL slY slν slJ slB slD slE slX slS slκ slQ slP slK slR slφ slψ slη slρ slζ slZ:Array (Option Value)}
  {ocI kVI dcI pmI cdI ctI ocC kVC dcC pmC cdC ctC ocU kVU dcU pmU cdU ctU ocV kVV dcV pmV cdV ctV ocℓ kVℓ dcℓ pmℓ cdℓ ctℓ ocτ kVτ dcτ pmτ cdτ ctτ ocι kVι dcι pmι cdι ctι ocT kVT dcT pmT cdT ctT ocO kVO dcO pmO cdO ctO ocM kVM dcM pmM cdM ctM ocG kVG dcG pmG cdG ctG ocA kVA dcA pmA cdA ctA ocδ kVδ dcδ pmδ cdδ ctδ ocβ kVβ dcβ pmβ cdβ ctβ ocω kVω dcω pmω cdω ctω ocW kVW dcW pmW cdW ctW ocH kVH dcH pmH cdH ctH ocσ kVσ dcσ pmσ cdσ ctσ ocγ kVγ dcγ pmγ cdγ ctγ ocF kVF dcF pmF cdF ctF ocL kVL dcL pmL cdL ctL ocY kVY dcY pmY cdY ctY ocν kVν dcν pmν cdν ctν ocJ kVJ dcJ pmJ cdJ ctJ ocB kVB dcB pmB cdB ctB ocD kVD dcD pmD cdD ctD ocE kVE dcE pmE cdE ctE ocX kVX dcX pmX cdX ctX ocS kVS dcS pmS cdS ctS ocκ kVκ dcκ pmκ cdκ ctκ ocQ kVQ dcQ pmQ cdQ ctQ ocP kVP dcP pmP cdP ctP ocK kVK dcK pmK cdK ctK ocR kVR dcR pmR cdR ctR ocφ kVφ dcφ pmφ cdφ ctφ ocψ kVψ dcψ pmψ cdψ ctψ ocη kVη dcη pmη cdη ctη ocρ kVρ dcρ pmρ cdρ ctρ ocζ kVζ dcζ pmζ cdζ ctζ ocZ kVZ dcZ pmZ cdZ ctZ:Value}
  (aI:f6 K d7 "is_place"=some (some (.ref fI)))(lI:K.lookup fI=some ⟨ocI,odI,.func (j4 "is_place" "is_place" (x8 ar3) (t9 ar3) (d8 ar3) .none kVI dcI pmI anI cdI ctI),slI⟩)(cI:i6 K cdI "is_place"=true)(kI:i4 K (.ref fI)=true)
  (aC:f6 K d7 "check_place"=some (some (.ref fC)))(lC:K.lookup fC=some ⟨ocC,odC,.func (j4 "check_place" "check_place" (x8 aE9) (t9 aE9) (d8 aE9) .none kVC dcC pmC anC cdC ctC),slC⟩)(cC:i6 K cdC "check_place"=true)(kC:i4 K (.ref fC)=true)
  (aU:f6 K d7 "turned_up"=some (some (.ref fU)))(lU:K.lookup fU=some ⟨ocU,odU,.func (j4 "turned_up" "turned_up" (x8 sUp) (t9 sUp) (d8 sUp) .none kVU dcU pmU anU cdU ctU),slU⟩)(cU:i6 K cdU "turned_up"=true)(kU:i4 K (.ref fU)=true)
  (aV:f6 K d7 "made"=some (some (.ref fV)))(lV:K.lookup fV=some ⟨ocV,odV,.func (j4 "made" "made" (x8 an0) (t9 an0) (d8 an0) .none kVV dcV pmV anV cdV ctV),slV⟩)(cV:i6 K cdV "made"=true)(kV:i4 K (.ref fV)=true)
  (aℓ:f6 K d7 "tally_of"=some (some (.ref fℓ)))(lℓ:K.lookup fℓ=some ⟨ocℓ,odℓ,.func (j4 "tally_of" "tally_of" (x8 ag3) (t9 ag3) (d8 ag3) .none kVℓ dcℓ pmℓ anℓ cdℓ ctℓ),slℓ⟩)(cℓ:i6 K cdℓ "tally_of"=true)(kℓ:i4 K (.ref fℓ)=true)
  (aτ:f6 K d7 "tied"=some (some (.ref fτ)))(lτ:K.lookup fτ=some ⟨ocτ,odτ,.func (j4 "tied" "tied" (x8 au2) (t9 au2) (d8 au2) .none kVτ dcτ pmτ anτ cdτ ctτ),slτ⟩)(cτ:i6 K cdτ "tied"=true)(kτ:i4 K (.ref fτ)=true)
  (aι:f6 K d7 "is_told"=some (some (.ref fι)))(lι:K.lookup fι=some ⟨ocι,odι,.func (j4 "is_told" "is_told" (x8 Y3) (t9 Y3) (d8 Y3) .none kVι dcι pmι anι cdι ctι),slι⟩)(cι:i6 K cdι "is_told"=true)(kι:i4 K (.ref fι)=true)
  (aT:f6 K d7 "check_tally"=some (some (.ref fT)))(lT:K.lookup fT=some ⟨ocT,odT,.func (j4 "check_tally" "check_tally" (x8 aj4) (t9 aj4) (d8 aj4) .none kVT dcT pmT anT cdT ctT),slT⟩)(cT:i6 K cdT "check_tally"=true)(kT:i4 K (.ref fT)=true)
  (aO:f6 K d7 "order_of"=some (some (.ref fO)))(lO:K.lookup fO=some ⟨ocO,odO,.func (j4 "order_of" "order_of" (x8 aE7) (t9 aE7) (d8 aE7) .none kVO dcO pmO anO cdO ctO),slO⟩)(cO:i6 K cdO "order_of"=true)(kO:i4 K (.ref fO)=true)
  (aM:f6 K d7 "moved"=some (some (.ref fM)))(lM:K.lookup fM=some ⟨ocM,odM,.func (j4 "moved" "moved" (x8 aS1) (t9 aS1) (d8 aS1) .none kVM dcM pmM anM cdM ctM),slM⟩)(cM:i6 K cdM "moved"=true)(kM:i4 K (.ref fM)=true)
  (aG:f6 K d7 "falling"=some (some (.ref fG)))(lG:K.lookup fG=some ⟨ocG,odG,.func (j4 "falling" "falling" (x8 ae0) (t9 ae0) (d8 ae0) .none kVG dcG pmG anG cdG ctG),slG⟩)(cG:i6 K cdG "falling"=true)(kG:i4 K (.ref fG)=true)
  (aA:f6 K d7 "room_among"=some (some (.ref fA)))(lA:K.lookup fA=some ⟨ocA,odA,.func (j4 "room_among" "room_among" (x8 U7) (t9 U7) (d8 U7) .none kVA dcA pmA anA cdA ctA),slA⟩)(cA:i6 K cdA "room_among"=true)(kA:i4 K (.ref fA)=true)
  (aδ:f6 K d7 "room_with"=some (some (.ref fδ)))(lδ:K.lookup fδ=some ⟨ocδ,odδ,.func (j4 "room_with" "room_with" (x8 ac2) (t9 ac2) (d8 ac2) .none kVδ dcδ pmδ anδ cdδ ctδ),slδ⟩)(cδ:i6 K cdδ "room_with"=true)(kδ:i4 K (.ref fδ)=true)
  (aβ:f6 K d7 "places_below"=some (some (.ref fβ)))(lβ:K.lookup fβ=some ⟨ocβ,odβ,.func (j4 "places_below" "places_below" (x8 W8) (t9 W8) (d8 W8) .none kVβ dcβ pmβ anβ cdβ ctβ),slβ⟩)(cβ:i6 K cdβ "places_below"=true)(kβ:i4 K (.ref fβ)=true)
  (aω:f6 K d7 "wall_with"=some (some (.ref fω)))(lω:K.lookup fω=some ⟨ocω,odω,.func (j4 "wall_with" "wall_with" (x8 ag2) (t9 ag2) (d8 ag2) .none kVω dcω pmω anω cdω ctω),slω⟩)(cω:i6 K cdω "wall_with"=true)(kω:i4 K (.ref fω)=true)
  (aW:f6 K d7 "wall_of"=some (some (.ref fW)))(lW:K.lookup fW=some ⟨ocW,odW,.func (j4 "wall_of" "wall_of" (x8 am9) (t9 am9) (d8 am9) .none kVW dcW pmW anW cdW ctW),slW⟩)(cW:i6 K cdW "wall_of"=true)(kW:i4 K (.ref fW)=true)
  (aH:f6 K d7 "check_has_web"=some (some (.ref fH)))(lH:K.lookup fH=some ⟨ocH,odH,.func (j4 "check_has_web" "check_has_web" (x8 aL7) (t9 aL7) (d8 aL7) .none kVH dcH pmH anH cdH ctH),slH⟩)(cH:i6 K cdH "check_has_web"=true)(kH:i4 K (.ref fH)=true)
  (aσ:f6 K d7 "wall_shows_with"=some (some (.ref fσ)))(lσ:K.lookup fσ=some ⟨ocσ,odσ,.func (j4 "wall_shows_with" "wall_shows_with" (x8 Y2) (t9 Y2) (d8 Y2) .none kVσ dcσ pmσ anσ cdσ ctσ),slσ⟩)(cσ:i6 K cdσ "wall_shows_with"=true)(kσ:i4 K (.ref fσ)=true)
  (aγ:f6 K d7 "wall_shows"=some (some (.ref fγ)))(lγ:K.lookup fγ=some ⟨ocγ,odγ,.func (j4 "wall_shows" "wall_shows" (x8 ac1) (t9 ac1) (d8 ac1) .none kVγ dcγ pmγ anγ cdγ ctγ),slγ⟩)(cγ:i6 K cdγ "wall_shows"=true)(kγ:i4 K (.ref fγ)=true)
  (aF:f6 K d7 "first_of_order"=some (some (.ref fF)))(lF:K.lookup fF=some ⟨ocF,odF,.func (j4 "first_of_order" "first_of_order" (x8 Z5) (t9 Z5) (d8 Z5) .none kVF dcF pmF anF cdF ctF),slF⟩)(cF:i6 K cdF "first_of_order"=true)(kF:i4 K (.ref fF)=true)
  (aL:f6 K d7 "left_of_others"=some (some (.ref fL)))(lL:K.lookup fL=some ⟨ocL,odL,.func (j4 "left_of_others" "left_of_others" (x8 au4) (t9 au4) (d8 au4) .none kVL dcL pmL anL cdL ctL),slL⟩)(cL:i6 K cdL "left_of_others"=true)(kL:i4 K (.ref fL)=true)
  (aY:f6 K d7 "laid_around"=some (some (.ref fY)))(lY:K.lookup fY=some ⟨ocY,odY,.func (j4 "laid_around" "laid_around" (x8 an1) (t9 an1) (d8 an1) .none kVY dcY pmY anY cdY ctY),slY⟩)(cY:i6 K cdY "laid_around"=true)(kY:i4 K (.ref fY)=true)
  (aν:f6 K d7 "is_web_of"=some (some (.ref fν)))(lν:K.lookup fν=some ⟨ocν,odν,.func (j4 "is_web_of" "is_web_of" (x8 ag4) (t9 ag4) (d8 ag4) .none kVν dcν pmν anν cdν ctν),slν⟩)(cν:i6 K cdν "is_web_of"=true)(kν:i4 K (.ref fν)=true)
  (aJ:f6 K d7 "check_pair"=some (some (.ref fJ)))(lJ:K.lookup fJ=some ⟨ocJ,odJ,.func (j4 "check_pair" "check_pair" (x8 aL9) (t9 aL9) (d8 aL9) .none kVJ dcJ pmJ anJ cdJ ctJ),slJ⟩)(cJ:i6 K cdJ "check_pair"=true)(kJ:i4 K (.ref fJ)=true)
  (aB:f6 K d7 "moved_both"=some (some (.ref fB)))(lB:K.lookup fB=some ⟨ocB,odB,.func (j4 "moved_both" "moved_both" (x8 aL6) (t9 aL6) (d8 aL6) .none kVB dcB pmB anB cdB ctB),slB⟩)(cB:i6 K cdB "moved_both"=true)(kB:i4 K (.ref fB)=true)
  (aD:f6 K d7 "laid_with"=some (some (.ref fD)))(lD:K.lookup fD=some ⟨ocD,odD,.func (j4 "laid_with" "laid_with" (x8 au0) (t9 au0) (d8 au0) .none kVD dcD pmD anD cdD ctD),slD⟩)(cD:i6 K cdD "laid_with"=true)(kD:i4 K (.ref fD)=true)
  (aE:f6 K d7 "laid_without"=some (some (.ref fE)))(lE:K.lookup fE=some ⟨ocE,odE,.func (j4 "laid_without" "laid_without" (x8 at9) (t9 at9) (d8 at9) .none kVE dcE pmE anE cdE ctE),slE⟩)(cE:i6 K cdE "laid_without"=true)(kE:i4 K (.ref fE)=true)
  (aX:f6 K d7 "pair_told"=some (some (.ref fX)))(lX:K.lookup fX=some ⟨ocX,odX,.func (j4 "pair_told" "pair_told" (x8 sPT) (t9 sPT) (d8 sPT) .none kVX dcX pmX anX cdX ctX),slX⟩)(cX:i6 K cdX "pair_told"=true)(kX:i4 K (.ref fX)=true)
  (aS:f6 K d7 "some_shows"=some (some (.ref fS)))(lS:K.lookup fS=some ⟨ocS,odS,.func (j4 "some_shows" "some_shows" (x8 au3) (t9 au3) (d8 au3) .none kVS dcS pmS anS cdS ctS),slS⟩)(cS:i6 K cdS "some_shows"=true)(kS:i4 K (.ref fS)=true)
  (aκ:f6 K d7 "pair_shows"=some (some (.ref fκ)))(lκ:K.lookup fκ=some ⟨ocκ,odκ,.func (j4 "pair_shows" "pair_shows" (x8 aL5) (t9 aL5) (d8 aL5) .none kVκ dcκ pmκ anκ cdκ ctκ),slκ⟩)(cκ:i6 K cdκ "pair_shows"=true)(kκ:i4 K (.ref fκ)=true)
  (aQ:f6 K d7 "_law_cell_at"=some (some (.ref fQ)))(lQ:K.lookup fQ=some ⟨ocQ,odQ,.func (j4 "_law_cell_at" "_law_cell_at" (x8 au5) (t9 au5) (d8 au5) .none kVQ dcQ pmQ anQ cdQ ctQ),slQ⟩)(cQ:i6 K cdQ "_law_cell_at"=true)(kQ:i4 K (.ref fQ)=true)
  (aP:f6 K d7 "_law_pairs"=some (some (.ref fP)))(lP:K.lookup fP=some ⟨ocP,odP,.func (j4 "_law_pairs" "_law_pairs" (x8 ac3) (t9 ac3) (d8 ac3) .none kVP dcP pmP anP cdP ctP),slP⟩)(cP:i6 K cdP "_law_pairs"=true)(kP:i4 K (.ref fP)=true)
  (aK:f6 K d7 "_law_all_webs"=some (some (.ref fK)))(lK:K.lookup fK=some ⟨ocK,odK,.func (j4 "_law_all_webs" "_law_all_webs" (x8 au6) (t9 au6) (d8 au6) .none kVK dcK pmK anK cdK ctK),slK⟩)(cK:i6 K cdK "_law_all_webs"=true)(kK:i4 K (.ref fK)=true)
  (aR:f6 K d7 "_law_web_right"=some (some (.ref fR)))(lR:K.lookup fR=some ⟨ocR,odR,.func (j4 "_law_web_right" "_law_web_right" (x8 au1) (t9 au1) (d8 au1) .none kVR dcR pmR anR cdR ctR),slR⟩)(cR:i6 K cdR "_law_web_right"=true)(kR:i4 K (.ref fR)=true)
  (aφ:f6 K d7 "_law_fences"=some (some (.ref fφ)))(lφ:K.lookup fφ=some ⟨ocφ,odφ,.func (j4 "_law_fences" "_law_fences" (x8 aS3) (t9 aS3) (d8 aS3) .none kVφ dcφ pmφ anφ cdφ ctφ),slφ⟩)(cφ:i6 K cdφ "_law_fences"=true)(kφ:i4 K (.ref fφ)=true)
  (aψ:f6 K d7 "_law_spoilt"=some (some (.ref fψ)))(lψ:K.lookup fψ=some ⟨ocψ,odψ,.func (j4 "_law_spoilt" "_law_spoilt" (x8 Y1) (t9 Y1) (d8 Y1) .none kVψ dcψ pmψ anψ cdψ ctψ),slψ⟩)(cψ:i6 K cdψ "_law_spoilt"=true)(kψ:i4 K (.ref fψ)=true)
  (aη:f6 K d7 "_law_due"=some (some (.ref fη)))(lη:K.lookup fη=some ⟨ocη,odη,.func (j4 "_law_due" "_law_due" (x8 aL8) (t9 aL8) (d8 aL8) .none kVη dcη pmη anη cdη ctη),slη⟩)(cη:i6 K cdη "_law_due"=true)(kη:i4 K (.ref fη)=true)
  (aρ:f6 K d7 "_law_papers"=some (some (.ref fρ)))(lρ:K.lookup fρ=some ⟨ocρ,odρ,.func (j4 "_law_papers" "_law_papers" (x8 aS0) (t9 aS0) (d8 aS0) .none kVρ dcρ pmρ anρ cdρ ctρ),slρ⟩)(cρ:i6 K cdρ "_law_papers"=true)(kρ:i4 K (.ref fρ)=true)
  (aζ:f6 K d7 "_law_doubled_right"=some (some (.ref fζ)))(lζ:K.lookup fζ=some ⟨ocζ,odζ,.func (j4 "_law_doubled_right" "_law_doubled_right" (x8 aS4) (t9 aS4) (d8 aS4) .none kVζ dcζ pmζ anζ cdζ ctζ),slζ⟩)(cζ:i6 K cdζ "_law_doubled_right"=true)(kζ:i4 K (.ref fζ)=true)
  (aZ:f6 K d7 "law"=some (some (.ref fZ)))(lZ:K.lookup fZ=some ⟨ocZ,odZ,.func (j4 "law" "law" (x8 aE8) (t9 aE8) (d8 aE8) .none kVZ dcZ pmZ anZ cdZ ctZ),slZ⟩)(cZ:i6 K cdZ "law"=true)(kZ:i4 K (.ref fZ)=true)
  (mo:f6 K d7 "MOST_PLACES"=some (some (.int 24 tk)))
  (aBadWeb:f6 K d7 "BadWeb"=some (some (.ref CBadWeb)))
  (aBadTally:f6 K d7 "BadTally"=some (some (.ref CBadTally)))
  (aNoPlace:f6 K d7 "NoPlace"=some (some (.ref CNoPlace)))
  (aBadNumber:f6 K d7 "BadNumber"=some (some (.ref CBadNumber)))
  (aNoWeb:f6 K d7 "NoWeb"=some (some (.ref CNoWeb)))
  (qBadWeb:PySem.W.excIn K CBadWeb [.type "ValueError",.type "Exception",.type "BaseException",.type "object"] "ValueError.__new__"=true)
  (xmBadWeb:PySem.W.exmOne K (.ref CBadWeb) (.ref CBadWeb)=some true)
  (qBadTally:PySem.W.excIn K CBadTally [.type "ValueError",.type "Exception",.type "BaseException",.type "object"] "ValueError.__new__"=true)
  (xmBadTally:PySem.W.exmOne K (.ref CBadTally) (.ref CBadTally)=some true)
  (qNoPlace:PySem.W.excIn K CNoPlace [.type "ValueError",.type "Exception",.type "BaseException",.type "object"] "ValueError.__new__"=true)
  (xmNoPlace:PySem.W.exmOne K (.ref CNoPlace) (.ref CNoPlace)=some true)
  (qBadNumber:PySem.W.excIn K CBadNumber [.type "ValueError",.type "Exception",.type "BaseException",.type "object"] "ValueError.__new__"=true)
  (xmBadNumber:PySem.W.exmOne K (.ref CBadNumber) (.ref CBadNumber)=some true)
  (qNoWeb:PySem.W.excIn K CNoWeb [.type "ValueError",.type "Exception",.type "BaseException",.type "object"] "ValueError.__new__"=true)
  (xmNoWeb:PySem.W.exmOne K (.ref CNoWeb) (.ref CNoWeb)=some true)
  (tb:(PySem.W.tabIn K "order_of").isSome=true)
  (z1:f6 K d7 "len"=some none)
  (z2:f6 K d7 "range"=some none)
  (z3:f6 K d7 "enumerate"=some none)
  (z4:f6 K d7 "list"=some none)
  (z5:f6 K d7 "tuple"=some none)
  (z6:f6 K d7 "sorted"=some none)
  (z7:f6 K d7 "set"=some none)
  (z8:f6 K d7 "isinstance"=some none)
  (z9:f6 K d7 "int"=some none)
  (z10:f6 K d7 "bool"=some none)
  (z11:f6 K d7 "min"=some none)
  (z12:f6 K d7 "max"=some none)
  (z13:f6 K d7 "sum"=some none)
  (z14:f6 K d7 "str"=some none)
  (z15:f6 K d7 "ValueError"=some none) :
  ∃ fd:FuncData,(∀ (s:Shared) (v:Value),bj4 s fd ⟨[v],[]⟩ [("script",v)])/\∀ base:Heap,K.In base->base.Ns d7 mg->(∀ q∈ay3 K,aC6 base mg q.1 q.2)->o4 l.prog w K mg base CX0 9 fa fd ["script"] (aR5 K (ba0 K)):=by
 have e:=hfa.symm.trans (i7 X G aZ)
 cases e
 have B:Bn mg:=⟨A2 X G z1,A2 X G z2,A2 X G z3,A2 X G z4,A2 X G z5,A2 X G z6,A2 X G z7,A2 X G z8,A2 X G z9,A2 X G z10,A2 X G z11,A2 X G z12,A2 X G z13,A2 X G z14,A2 X G z15⟩
 have FI:=B8 (st:=ar3) lI cI kI
 have bI:=FI.binds (ps:=["places","number"]) fun _ _ _ _ _ _=>ls2 fun _ _=>rfl
 have FC:=B8 (st:=aE9) lC cC kC
 have bC:=FC.binds (ps:=["places","number"]) fun _ _ _ _ _ _=>ls2 fun _ _=>rfl
 have FU:=B8 (st:=sUp) lU cU kU
 have bU:=FU.binds (ps:=["places","tie"]) fun _ _ _ _ _ _=>ls2 fun _ _=>rfl
 have FV:=B8 (st:=an0) lV cV kV
 have bV:=FV.binds (ps:=["places","ties"]) fun _ _ _ _ _ _=>ls2 fun _ _=>rfl
 have Fℓ:=B8 (st:=ag3) lℓ cℓ kℓ
 have bℓ:=Fℓ.binds (ps:=["web"]) fun _ _ _ _ _ _=>ls1 fun _=>rfl
 have Fτ:=B8 (st:=au2) lτ cτ kτ
 have bτ:=Fτ.binds (ps:=["web","one","other"]) fun _ _ _ _ _ _=>ls3 fun _ _ _=>rfl
 have Fι:=B8 (st:=Y3) lι cι kι
 have bι:=Fι.binds (ps:=["web"]) fun _ _ _ _ _ _=>ls1 fun _=>rfl
 have FT:=B8 (st:=aj4) lT cT kT
 have bT:=FT.binds (ps:=["tally"]) fun _ _ _ _ _ _=>ls1 fun _=>rfl
 have FO:=B8 (st:=aE7) lO cO kO
 have bO:=FO.binds (ps:=["tally"]) fun _ _ _ _ _ _=>ls1 fun _=>rfl
 have FM:=B8 (st:=aS1) lM cM kM
 have bM:=FM.binds (ps:=["tally","place","more"]) fun _ _ _ _ _ _=>ls3 fun _ _ _=>rfl
 have FG:=B8 (st:=ae0) lG cG kG
 have bG:=FG.binds (ps:=["tally"]) fun _ _ _ _ _ _=>ls1 fun _=>rfl
 have FA:=B8 (st:=U7) lA cA kA
 have bA:=FA.binds (ps:=["numbers","most","r"]) fun _ _ _ _ _ _=>ls3 fun _ _ _=>rfl
 have Fδ:=B8 (st:=ac2) lδ cδ kδ
 have bδ:=Fδ.binds (ps:=["tally","most","r"]) fun _ _ _ _ _ _=>ls3 fun _ _ _=>rfl
 have Fβ:=B8 (st:=W8) lβ cβ kβ
 have bβ:=Fβ.binds (ps:=["numbers"]) fun _ _ _ _ _ _=>ls1 fun _=>rfl
 have Fω:=B8 (st:=ag2) lω cω kω
 have bω:=Fω.binds (ps:=["tally","most"]) fun _ _ _ _ _ _=>ls2 fun _ _=>rfl
 have FW:=B8 (st:=am9) lW cW kW
 have bW:=FW.binds (ps:=["tally"]) fun _ _ _ _ _ _=>ls1 fun _=>rfl
 have FH:=B8 (st:=aL7) lH cH kH
 have bH:=FH.binds (ps:=["tally"]) fun _ _ _ _ _ _=>ls1 fun _=>rfl
 have Fσ:=B8 (st:=Y2) lσ cσ kσ
 have bσ:=Fσ.binds (ps:=["tally","most","wall"]) fun _ _ _ _ _ _=>ls3 fun _ _ _=>rfl
 have Fγ:=B8 (st:=ac1) lγ cγ kγ
 have bγ:=Fγ.binds (ps:=["tally","wall"]) fun _ _ _ _ _ _=>ls2 fun _ _=>rfl
 have FF:=B8 (st:=Z5) lF cF kF
 have bF:=FF.binds (ps:=["tally","many","passed_over"]) fun _ _ _ _ _ _=>ls3 fun _ _ _=>rfl
 have FL:=B8 (st:=au4) lL cL kL
 have bL:=FL.binds (ps:=["tally","place","ends"]) fun _ _ _ _ _ _=>ls3 fun _ _ _=>rfl
 have FY:=B8 (st:=an1) lY cY kY
 have bY:=FY.binds (ps:=["tally","place","ends"]) fun _ _ _ _ _ _=>ls3 fun _ _ _=>rfl
 have Fν:=B8 (st:=ag4) lν cν kν
 have bν:=Fν.binds (ps:=["tally","web"]) fun _ _ _ _ _ _=>ls2 fun _ _=>rfl
 have FJ:=B8 (st:=aL9) lJ cJ kJ
 have bJ:=FJ.binds (ps:=["places","one","other"]) fun _ _ _ _ _ _=>ls3 fun _ _ _=>rfl
 have FB:=B8 (st:=aL6) lB cB kB
 have bB:=FB.binds (ps:=["tally","one","other","more"]) fun _ _ _ _ _ _=>ls4 fun _ _ _ _=>rfl
 have FD:=B8 (st:=au0) lD cD kD
 have bD:=FD.binds (ps:=["tally","one","other"]) fun _ _ _ _ _ _=>ls3 fun _ _ _=>rfl
 have FE:=B8 (st:=at9) lE cE kE
 have bE:=FE.binds (ps:=["tally","one","other"]) fun _ _ _ _ _ _=>ls3 fun _ _ _=>rfl
 have FX:=B8 (st:=sPT) lX cX kX
 have bX:=FX.binds (ps:=["tally","one","other"]) fun _ _ _ _ _ _=>ls3 fun _ _ _=>rfl
 have FS:=B8 (st:=au3) lS cS kS
 have bS:=FS.binds (ps:=["tally","one","other","with_it","without"]) fun _ _ _ _ _ _=>ls5 fun _ _ _ _ _=>rfl
 have Fκ:=B8 (st:=aL5) lκ cκ kκ
 have bκ:=Fκ.binds (ps:=["tally","one","other","told"]) fun _ _ _ _ _ _=>ls4 fun _ _ _ _=>rfl
 have FQ:=B8 (st:=au5) lQ cQ kQ
 have bQ:=FQ.binds (ps:=["script","k"]) fun _ _ _ _ _ _=>ls2 fun _ _=>rfl
 have FP:=B8 (st:=ac3) lP cP kP
 have bP:=FP.binds (ps:=["places"]) fun _ _ _ _ _ _=>ls1 fun _=>rfl
 have FK:=B8 (st:=au6) lK cK kK
 have bK:=FK.binds (ps:=["places"]) fun _ _ _ _ _ _=>ls1 fun _=>rfl
 have FR:=B8 (st:=au1) lR cR kR
 have bR:=FR.binds (ps:=["found","tally"]) fun _ _ _ _ _ _=>ls2 fun _ _=>rfl
 have Fφ:=B8 (st:=aS3) lφ cφ kφ
 have bφ:=Fφ.binds (ps:=["places"]) fun _ _ _ _ _ _=>ls1 fun _=>rfl
 have Fψ:=B8 (st:=Y1) lψ cψ kψ
 have bψ:=Fψ.binds (ps:=["web","others","cell"]) fun _ _ _ _ _ _=>ls3 fun _ _ _=>rfl
 have Fη:=B8 (st:=aL8) lη cη kη
 have bη:=Fη.binds (ps:=["tally","one","other","told"]) fun _ _ _ _ _ _=>ls4 fun _ _ _ _=>rfl
 have Fρ:=B8 (st:=aS0) lρ cρ kρ
 have bρ:=Fρ.binds (ps:=["tally","webs","one","other","cell"]) fun _ _ _ _ _ _=>ls5 fun _ _ _ _ _=>rfl
 have Fζ:=B8 (st:=aS4) lζ cζ kζ
 have bζ:=Fζ.binds (ps:=["cell"]) fun _ _ _ _ _ _=>ls1 fun _=>rfl
 have FZ:=B8 (st:=aE8) lZ cZ kZ
 obtain⟨⟨c,PT⟩,hcp⟩:=u4.mp tb
 have hc:=bq4 hcp aO lO
 have ept:ba0 K=PT:=by unfold ba0;rw[hcp];rfl
 have ets:ay3 K=[(c,PT)]:=by unfold ay3;rw[hcp]
 rw[ept,ets]
 exact⟨j4 "law" "law" (x8 aE8) (t9 aE8) (d8 aE8) .none kVZ dcZ pmZ anZ cdZ ctZ,fun s v=>.of_eq rfl,fun base _ _ hL=>bT5 FZ B (i7 X G mo) FI bI (i7 X G aI) FC bC (i7 X G aC) FU bU (i7 X G aU) FV bV (i7 X G aV) Fℓ bℓ (i7 X G aℓ) Fτ bτ (i7 X G aτ) Fι bι (i7 X G aι) FT bT (i7 X G aT) FO bO (i7 X G aO) FM bM (i7 X G aM) FG bG (i7 X G aG) FA bA (i7 X G aA) Fδ bδ (i7 X G aδ) Fβ bβ (i7 X G aβ) Fω bω (i7 X G aω) FW bW (i7 X G aW) FH bH (i7 X G aH) Fσ bσ (i7 X G aσ) Fγ bγ (i7 X G aγ) FF bF (i7 X G aF) FL bL (i7 X G aL) FY bY (i7 X G aY) Fν bν (i7 X G aν) FJ bJ (i7 X G aJ) FB bB (i7 X G aB) FD bD (i7 X G aD) FE bE (i7 X G aE) FX bX (i7 X G aX) FS bS (i7 X G aS) Fκ bκ (i7 X G aκ) FQ bQ (i7 X G aQ) FP bP (i7 X G aP) FK bK (i7 X G aK) FR bR (i7 X G aR) Fφ bφ (i7 X G aφ) Fψ bψ (i7 X G aψ) Fη bη (i7 X G aη) Fρ bρ (i7 X G aρ) Fζ bζ (i7 X G aζ) (i7 X G aBadWeb) ⟨qBadWeb⟩ xmBadWeb (i7 X G aBadTally) ⟨qBadTally⟩ (i7 X G aNoPlace) ⟨qNoPlace⟩ (i7 X G aBadNumber) ⟨qBadNumber⟩ (i7 X G aNoWeb) ⟨qNoWeb⟩ hc (hL (c,PT) f9)⟩
theorem walk {l:PySem.W.OpenLaw} {q:Program} {loose:List Str} {d:DefRec} {K:Params->PySem.W.Frag} (hn:l.most=some 63) (hdf:d.params.defaults=[])
  (hY:∀ (w:World) (h:Heap),YP w h->(K w.params).In h) (hK0:∀ w:World,PySem.W.noTabs (K w.params)=true) (hrec:((PyProof.Rows.recsOf q).find? (fun e=>e.name == ("order_of":Str))).isSome=true) (htb:∀ w:World,(PySem.W.tabIn (K w.params) "order_of").isSome=true)
  (F : ∀ (w : World) (mg : Str -> Option Value) (fa : Addr) (h : Heap), (K w.params).In h -> h.Ns d7 mg -> mg d.name = some (.ref fa) ->
   ∃ fd:FuncData,(∀ (s:Shared) (u:Value),bj4 s fd ⟨[u],[]⟩ [("script",u)])/\∀ base:Heap,(K w.params).In base->base.Ns d7 mg->(∀ q∈ay3 (K w.params),aC6 base mg q.1 q.2)->o4 l.prog w (K w.params) mg base CX0 9 fa fd ["script"] (aR5 (K w.params) (ba0 (K w.params)))) :
  PySem.W.WalkO q loose XP YP l.row.toRowW d [] (fun f vs=>PySem.call f vs):=by
 refine L2.walk_ofT (n:=63) (k:=9) (x:="script") (CX:=fun _=>CX0) (sp:=fun w _=>aR5 (K w.params) (ba0 (K w.params))) (ts:=fun w=>ay3 (K w.params)) hn (by decide) hdf ⟨rfl,by decide,by decide⟩ hY hK0 (fun w loose mean mg mb h T X=>?_) F (fun w H a ns hl hT hS=>?_) fun _ _ _ _ _ z=>z
 ·obtain⟨⟨c,PT⟩,hcp⟩:=u4.mp (htb w)
  obtain⟨d',hd'⟩:=u4.mp hrec
  have ets:ay3 (K w.params)=[(c,PT)]:=by unfold ay3;rw[hcp]
  show PySem.W.TabsAt (ay3 (K w.params)) h
  rw[ets]
  intro r hr
  rw[j0.mp hr]
  exact PySem.W.tab_of T X hd' hcp
 ·obtain⟨⟨c,PT⟩,hcp⟩:=u4.mp (htb w)
  have ets:ay3 (K w.params)=[(c,PT)]:=by unfold ay3;rw[hcp]
  have ept:ba0 (K w.params)=PT:=by unfold ba0;rw[hcp];rfl
  refine⟨a,ns,rfl,hS,hl,?_,fun _=>rfl⟩
  rw[ept]
  exact⟨#[],hT (c,PT) (by show (c,PT)∈ay3 (K w.params);rw[ets];exact f9),trivial,.inl rfl⟩
end Web
set_option Elab.async false
namespace PySem.W.Fast
def tw12499726547390579017:=0
def tw13214722699276346875:=0
def tw14059060741948705130:=0
def tw18286337029293521486:=0
def tw10852548955842397685:=0
def tw15760433727550075662:=0
def tw17612243662293464577:=0
def tw14980525790317937778:=0
def tw16200324757653516978:=0
def tw11622180186119408024:=0
def tw16425561863386112815:=0
def tw11994319467920835092:=0
def tw2687514713426545401:=0
def tw8585379087432972739:=0
def tw7756846236015778542:=0
def tw10395346956932025448:=0
def tw12864233921402650420:=0
def tw6778699059817155673:=0
def tw2589319853692905106:=0
def tw9677691390321829488:=0
def tw3857733340018335028:=0
def tw17794397100089580300:=0
def tw18125037090324983534:=0
def tw14016199164271894042:=0
def tw7221627793781668767:=0
def tw17254472182405650953:=0
def tw2355138297554189826:=0
def tw18263157458004229642:=0
def tw16115345418927991562:=0
def tw13304841386780270777:=0
def tw5226740525208510875:=0
def tw7448331196385655938:=0
def tw7253868526641196444:=0
def tw3522571417952052775:=0
def tw14403512218356377753:=0
def tw7283416725426346347:=0
def tw1558487504451385559:=0
def tw4598953965318652811:=0
def tw14519422565933246402:=0
def tw1151976985326945263:=0
def tw462171990414151659:=0
def tw16206324538775830009:=0
def tw1518238631151905449:=0
def tw587813188498262120:=0
def tw3707423638020930292:=0
def tw490461526567190885:=0
def tw11776199361127171104:=0
def tw1601037630146206057:=0
def tw7780115297393163374:=0
def tw13707188257042495581:=0
def tw2451171577469418916:=0
def tw11121748835259708538:=0
def tw5458021364618298629:=0
def tw4341253565772803667:=0
def tw16779372699521443418:=0
def tw4761867861941462476:=0
def tw64676449963097201:=0
def tw17448744577723927905:=0
def tw3601759512513642415:=0
def tw657890775818942430:=0
def tw16267145060003599815:=0
def tw6940876975476762667:=0
def tw17127581548040988532:=0
def tw547002918796631183:=0
def tw7416440081284992439:=0
def tw866195618825499215:=0
def tw8479013066356791035:=0
def tw17693183879853293272:=0
def tw10266609553563513914:=0
def tw13684550928866347526:=0
def tw4250148924066243943:=0
def tw6848933322529649346:=0
def tw6266711279497759132:=0
def tw8720700591129704520:=0
def tw8515658917964407424:=0
def tw1388912730519231314:=0
def tw8969684493666788934:=0
def tw13890995893516095905:=0
def tw1552277145858220148:=0
def tw16480403527833340846:=0
def tw13104993195724450275:=0
def tw16569191384585119795:=0
def tw4235272776667409379:=0
def tw3376362291788557881:=0
def tw7920375071228375706:=0
def tw218327164985120817:=0
def tw14054835256369808856:=0
def tw13838821728204216430:=0
def tw3485886370213269979:=0
def tw15187133335259387718:=0
def tw17163783485170493831:=0
def tw15474865232724037209:=0
def tw5573572020150043737:=0
def tw4046646816393841185:=0
def tw5739528613072010287:=0
def tw8473201608947217330:=0
def tw10263875707835301109:=0
def tw8891988981818194108:=0
def tw15098331893708401900:=0
def tw4572060022740345668:=0
def tw565666510626042237:=0
def tw7598746195873080658:=0
def tw1342981217365953751:=0
def tw2251398885296118209:=0
def tw10368626611107969898:=0
def tw18120724188926487760:=0
def tw4634624488735414818:=0
def tw5046370077117956894:=0
def tw1621095782005665238:=0
def tw3115182117928003261:=0
def tw11745201501708806828:=0
def tw11769671693446119752:=0
def tw16339802832609203066:=0
def tw11128483591037980712:=0
def tw13132957930667428568:=0
def tw8826965499025708799:=0
def tw8844289043423887013:=0
def tw6225076304427336180:=0
def tw12563549745558010757:=0
def tw12594724810861906123:=0
def tw16037068181126966688:=0
def tw16041137210249364398:=0
def tw8055246062284245178:=0
def tw8808317226230283637:=0
def tw14508271980562069888:=0
def tw9984523342485993732:=0
def tw9689278046397937006:=0
def tw5465757505957235322:=0
def tw8776858965543034448:=0
def tw524445988822805489:=0
def tw11496581052265692758:=0
def tw370500714893059545:=0
def tw9044732635162776820:=0
def tw12320449833812003180:=0
def tw8782075719375612634:=0
def tw4503350028927740869:=0
def tw12698910073758697148:=0
def tw4604328875917681945:=0
def tw9122253262931274175:=0
def tw4105742174397362838:=0
def tw9379933467630901850:=0
def tw465902558661646186:=0
def tw5785675875409894515:=0
def tw4874614114388877946:=0
def tw11110339335467638440:=0
def tw5385058912118230685:=0
def tw14718041910937478835:=0
def tw966493820301610909:=0
def tw9331065582470659240:=0
def tw2908623230471304208:=0
def tw9999084664044969224:=0
def tw16359885217138395078:=0
def tw3137792496587117047:=0
def tw11834281596065858595:=0
def tw8534682644120360260:=0
def tw9232792355205366878:=0
def tw14528381741955052671:=0
def tw12553174760976471270:=0
def tw7347670354718762123:=0
def tw14385061543308806900:=0
def tw18098201637081632232:=0
def tw3902504986633871487:=0
def tw15356663034566806458:=0
def tw12094676100880783249:=0
def tw6895246103534938990:=0
def tw13604301192926777002:=0
def tw11209794734062054276:=0
def tw8547535829561509432:=0
def tw9551571265891500980:=0
def tw8722715525561913082:=0
def tw16397667076798719393:=0
def tw17553760184808970982:=0
def tw13078986910363116212:=0
def tw2019006937875975729:=0
def tw1997239193567162478:=0
def tw14572565743125684085:=0
def tw6416374366042510376:=0
def tw11194605548217656823:=0
def tw8397791985474506220:=0
def tw10643000461709757042:=0
def tw15147699736674235478:=0
def tw13700011191422709113:=0
def tw1732849408652872235:=0
def tw13486900771559745468:=0
def tw10218431941018832796:=0
def tw2762069793653775891:=0
def tw4252363667666128577:=0
def tw2076217356147388019:=0
def tw14542225184994831876:=0
def tw4446152217519466107:=0
def tw6833948385992716260:=0
def tw16153130642534753480:=0
def tw9851369539889894021:=0
def tw12562996438816983103:=0
def tw4298426641472624928:=0
def tw9348728822486551705:=0
def tw5312411877749598088:=0
def tw4744307019538760381:=0
def tw15527018845345868046:=0
def tw1855735225876722004:=0
def tw4243114625046332425:=0
def tw6891285000541326968:=0
def tw18384913792098154491:=0
def tw10794104687349116766:=0
def tw12697172259152615139:=0
def tw17257866828803430106:=0
def tw14412610667705412608:=0
def tw5775913290926145007:=0
def tw4480893083988953435:=0
def tw17988875168434364978:=0
def tw13725014060867287071:=0
def tw10533950687815229762:=0
def tw14831105116456250080:=0
def tw11577011778934759063:=0
def tw6746104589197439495:=0
def tw17906273290465008507:=0
end PySem.W.Fast
open PySem PySem.W PyProof.Rows
set_option maxRecDepth 100000 in
set_option maxHeartbeats 0 in
theorem PySem.Challenge.cw_tallyweb_k24_pair_papers_looked_at_holds : PySem.Challenge.rw_tallyweb_k24_pair_papers_looked_at.Holds := by
 w_on; o_law; k_head; (case hw => w_witness2)
 k_fill
 refine Web.walk (l := PySem.Challenge.rw_tallyweb_k24_pair_papers_looked_at) rfl rfl (fun w h Y => PySem.W.km_in_of Y) ?hN0 ?hR0 ?hT0 ?F
 case hN0 => intro w; kernel_rfl
 case hR0 => kernel_rfl
 case hT0 => intro w; kernel_rfl
 case F =>
  intro w mg fa h KX G hmg
  refine' Web.all_mk KX G hmg ?aI ?lI ?cI ?kI ?aC ?lC ?cC ?kC ?aU ?lU ?cU ?kU ?aV ?lV ?cV ?kV ?aℓ ?lℓ ?cℓ ?kℓ ?aτ ?lτ ?cτ ?kτ ?aι ?lι ?cι ?kι ?aT ?lT ?cT ?kT ?aO ?lO ?cO ?kO ?aM ?lM ?cM ?kM ?aG ?lG ?cG ?kG ?aA ?lA ?cA ?kA ?aδ ?lδ ?cδ ?kδ ?aβ ?lβ ?cβ ?kβ ?aω ?lω ?cω ?kω ?aW ?lW ?cW ?kW ?aH ?lH ?cH ?kH ?aσ ?lσ ?cσ ?kσ ?aγ ?lγ ?cγ ?kγ ?aF ?lF ?cF ?kF ?aL ?lL ?cL ?kL ?aY ?lY ?cY ?kY ?aν ?lν ?cν ?kν ?aJ ?lJ ?cJ ?kJ ?aB ?lB ?cB ?kB ?aD ?lD ?cD ?kD ?aE ?lE ?cE ?kE ?aX ?lX ?cX ?kX ?aS ?lS ?cS ?kS ?aκ ?lκ ?cκ ?kκ ?aQ ?lQ ?cQ ?kQ ?aP ?lP ?cP ?kP ?aK ?lK ?cK ?kK ?aR ?lR ?cR ?kR ?aφ ?lφ ?cφ ?kφ ?aψ ?lψ ?cψ ?kψ ?aη ?lη ?cη ?kη ?aρ ?lρ ?cρ ?kρ ?aζ ?lζ ?cζ ?kζ ?aZ ?lZ ?cZ ?kZ ?mo ?aBadWeb ?aBadTally ?aNoPlace ?aBadNumber ?aNoWeb ?qBadWeb ?xmBadWeb ?qBadTally ?xmBadTally ?qNoPlace ?xmNoPlace ?qBadNumber ?xmBadNumber ?qNoWeb ?xmNoWeb ?tb ?z1 ?z2 ?z3 ?z4 ?z5 ?z6 ?z7 ?z8 ?z9 ?z10 ?z11 ?z12 ?z13 ?z14 ?z15
  (case aI => k_is); (case lI => k_is); (case cI => k_is); (case kI => k_is)
  (case aC => k_is); (case lC => k_is); (case cC => k_is); (case kC => k_is)
  (case aU => k_is); (case lU => k_is); (case cU => k_is); (case kU => k_is)
  (case aV => k_is); (case lV => k_is); (case cV => k_is); (case kV => k_is)
  (case aℓ => k_is); (case lℓ => k_is); (case cℓ => k_is); (case kℓ => k_is)
  (case aτ => k_is); (case lτ => k_is); (case cτ => k_is); (case kτ => k_is)
  (case aι => k_is); (case lι => k_is); (case cι => k_is); (case kι => k_is)
  (case aT => k_is); (case lT => k_is); (case cT => k_is); (case kT => k_is)
  (case aO => k_is); (case lO => k_is); (case cO => k_is); (case kO => k_is)
  (case aM => k_is); (case lM => k_is); (case cM => k_is); (case kM => k_is)
  (case aG => k_is); (case lG => k_is); (case cG => k_is); (case kG => k_is)
  (case aA => k_is); (case lA => k_is); (case cA => k_is); (case kA => k_is)
  (case aδ => k_is); (case lδ => k_is); (case cδ => k_is); (case kδ => k_is)
  (case aβ => k_is); (case lβ => k_is); (case cβ => k_is); (case kβ => k_is)
  (case aω => k_is); (case lω => k_is); (case cω => k_is); (case kω => k_is)
  (case aW => k_is); (case lW => k_is); (case cW => k_is); (case kW => k_is)
  (case aH => k_is); (case lH => k_is); (case cH => k_is); (case kH => k_is)
  (case aσ => k_is); (case lσ => k_is); (case cσ => k_is); (case kσ => k_is)
  (case aγ => k_is); (case lγ => k_is); (case cγ => k_is); (case kγ => k_is)
  (case aF => k_is); (case lF => k_is); (case cF => k_is); (case kF => k_is)
  (case aL => k_is); (case lL => k_is); (case cL => k_is); (case kL => k_is)
  (case aY => k_is); (case lY => k_is); (case cY => k_is); (case kY => k_is)
  (case aν => k_is); (case lν => k_is); (case cν => k_is); (case kν => k_is)
  (case aJ => k_is); (case lJ => k_is); (case cJ => k_is); (case kJ => k_is)
  (case aB => k_is); (case lB => k_is); (case cB => k_is); (case kB => k_is)
  (case aD => k_is); (case lD => k_is); (case cD => k_is); (case kD => k_is)
  (case aE => k_is); (case lE => k_is); (case cE => k_is); (case kE => k_is)
  (case aX => k_is); (case lX => k_is); (case cX => k_is); (case kX => k_is)
  (case aS => k_is); (case lS => k_is); (case cS => k_is); (case kS => k_is)
  (case aκ => k_is); (case lκ => k_is); (case cκ => k_is); (case kκ => k_is)
  (case aQ => k_is); (case lQ => k_is); (case cQ => k_is); (case kQ => k_is)
  (case aP => k_is); (case lP => k_is); (case cP => k_is); (case kP => k_is)
  (case aK => k_is); (case lK => k_is); (case cK => k_is); (case kK => k_is)
  (case aR => k_is); (case lR => k_is); (case cR => k_is); (case kR => k_is)
  (case aφ => k_is); (case lφ => k_is); (case cφ => k_is); (case kφ => k_is)
  (case aψ => k_is); (case lψ => k_is); (case cψ => k_is); (case kψ => k_is)
  (case aη => k_is); (case lη => k_is); (case cη => k_is); (case kη => k_is)
  (case aρ => k_is); (case lρ => k_is); (case cρ => k_is); (case kρ => k_is)
  (case aζ => k_is); (case lζ => k_is); (case cζ => k_is); (case kζ => k_is)
  (case aZ => k_is); (case lZ => k_is); (case cZ => k_is); (case kZ => k_is)
  (case mo => k_is); (case aBadWeb => k_is); (case aBadTally => k_is); (case aNoPlace => k_is)
  (case aBadNumber => k_is); (case aNoWeb => k_is); (case qBadWeb => k_exc); (case xmBadWeb => kts_exm)
  (case qBadTally => k_exc); (case xmBadTally => kts_exm); (case qNoPlace => k_exc); (case xmNoPlace => kts_exm)
  (case qBadNumber => k_exc); (case xmBadNumber => kts_exm); (case qNoWeb => k_exc); (case xmNoWeb => kts_exm)
  (case tb => kernel_rfl); (case z1 => k_is); (case z2 => k_is); (case z3 => k_is)
  (case z4 => k_is); (case z5 => k_is); (case z6 => k_is); (case z7 => k_is)
  (case z8 => k_is); (case z9 => k_is); (case z10 => k_is); (case z11 => k_is)
  (case z12 => k_is); (case z13 => k_is); (case z14 => k_is); (case z15 => k_is)
#print axioms PySem.Challenge.cw_tallyweb_k24_pair_papers_looked_at_holds

