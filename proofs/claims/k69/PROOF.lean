import PyProof.Rows.All
import Wide.All
import OpenK.AllK
import Wide.FinOn
import Lean
import PyProof.EqAt
import PyProof.EqKinds
import PyProof.TupleCall
import PyProof.Rows.SortRunsK
import PyProof.Rows.SortShellK
import KE.KSortTup
import PyProof.TupleKey
import PySem.SetOps
import PyProof.Rows.SetFrom
import PyProof.EnumFor
import PyProof.EnumStmt
import PyProof.EnumMake
import PyProof.P3Eq
import PyProof.NeData
import PyProof.P3In
import PyProof.Rows.SumAny
import KE.KLam
import KE.KSortKey
import PyProof.ListRange
import KE.KTryMore
import PyProof.NsDelKeeps
import PyProof.RulesAs
import PyProof.ExcBaseAll.ValueError
import PyProof.ExcArgsOwn
import KE.KIsAll
import PyProof.Rows.SortRev
import PyProof.TupleOfSeq
import PyProof.Draws
import KE.KTupSum
import PyProof.Cells
import PyProof.Rows.TupAdd
import PyProof.DictWalks
import PyProof.ConsumeWalk
import PyProof.DictKeyH
import PyProof.ListNew
import PyProof.ConsumeS
import PyProof.WalksMore
import Wide.Txt2
import PyProof.ListOps
import PyProof.AutoSeq1
import PyProof.DictRoadsH
import PyProof.MeetsDictList
import KE.KDictOf
import PyProof.DictUpdate
import PyProof.DictCopy
import PyProof.ZipIter
import KE.KMinKey
import KE.RegKIsAll
import KE.RegKTryMore
import PySem.Challenge.RW_tallyweb_k69_whole_most_one_is_webs
local macro_rules | `(tactic| omega) => `(tactic| lia)
set_option autoImplicit false
set_option linter.all false
set_option Elab.async false
set_option maxRecDepth 100000
open PySem renaming wpAny_bind->b7,wpAny_pure->d4,mainGlobals->i9,sizeLine->j8,wpAny->p9,starEach->u4,model->x8,tupleKeyHash->y9,intKind->B7,wpAny_holding->C9,wpAny_mono->E3,sizeLine_eq->E8,wpAny_seqItems->J1,wpAny_Call_Name_kw->J3,compareOp->K8,wpAny_field->K9,bootBuiltins->L5,IsTupleKey->M6,backTo->N6,wpAny_truthy_bool->N7,codeAny_builtin->O1,wpAny_pyIter_list->Q8,wpAny_newObj_type->Q9,keywordEach->S0,wpAny_callSpecial?_slot->S3,wpAny_passesOwn->V0,wpAny_newList->V1,wpAny_setState_of->V2,compEnvC->V3,wpAny_pyIter_enum->V4,wpAny_call_entry->Y5,codeAny_mono->Z5,wpAny_setField_rec->aa4,rawInt->ac5,binaryOp->ad0,IsPair->ae4,Paired->ag5,wpAny_newFunctionEnv->ag6,PyData->ag7,wpAny_standAt->ag8,backToKw->ag9,plainId_quiet->ah1,assignEach->ai6,wpAny_execs_nil->aj4,sliceBounds->aj5,unsupported->aj6,wpAny_letGo->aj7,argBest->aj8,wpAny_letOwnedTupleGo_enum->al0,wpAny_pyIter_tuple->an1,wpAny_tryCatch->ao8,foldedSetIterable->aq3,wpAny_rule->aq4,ofAClassStatement->aq6,codeAny->ar9,intItems->as0,cLine->av2,Keyword->az0,codeAny_call_builtin->aC4,recursionLimit->aI3,holding->aI5,wpAny_of_eq->aI7,pyNext->aM9,behindInMarks->aN0,NameKind->aN1,wpAny_attempt->aN2,setSearchFrom->aN4,builtinsNs->aT9,wpAny_call->aU0,call_meets->aU1,closureFor->aU2,seqIndex_neg->bc6,wpAny_execs_cons->bc8,wpAny_forIn_list->bc9,IsZip->bd0,bindArgs->bi7,letOwnedTupleGo->bn7,BindsTo->bn8,seqIndex_of->bn9,callerA->bo0,hashByValue->bo4,seqItems?->bo5,wpAny_updateSeq->bo6,wpAny_newTuple->bt6,IsPart->bF8,wpAny_comprehension_free->bG1,GenState->bG5,getItem->bG6,attributeBase->bG7,compPost->bG9,ReadsAll->bH0,wpAny_pyNext_enum_itemD->bH1,wpAny_onRaise->bH2,wpAny_getItem_list_neg->bP8,codeAny_compStart_list->bP9,wpAny_pyNext_enum_endD->bQ1,assign->bT3,again->bT4,wpAny_typeOf->bT5,setSearch->bT9,wpAny_eqIsQuiet_tuple->bU0,weight_type_call_type->bU1,IsEnum->bU2,codeAmong->bU3,wpAny_loadName_local->cc8,wpAny_updateSeq_pair->cc9,wpAny_loadName_cell->cd7,intItems_at->ce3
open List renaming length_map->b8,mem_cons_of_mem->c7,mem_cons_self->c9,size_toArray->d7,mem_cons->d8,mem_of_getElem?->i7,getD_eq_getElem?_getD->i8,getElem?_eq_some_iff->j5,take_of_length_le->j7,map_append->k8,getElem?_eq_getElem->k9,length_append->m6,mem_append_right->m9,length_cons->o4,getElem?_eq_none->o6,length_take->o8,map_cons->o9,mem_iff_getElem?->p6,getElem?_map->p8,mem_map->u5,range->u7,take_add_one->u9,length_range->v8,pairwise_iff_getElem->A2,pairwise_append->A5,mem_append->A7,mem_singleton->B5,mem_range->B9,replicate->C0,append_assoc->C3,take_append_drop->C4,lookup->C8,append_nil->D9,nodup_cons->E6,length_drop->E7,pairwise_map->F5,range_succ->G2,pairwise_cons->G4,sum_cons->G5,mem_append_left->G8,mem_of_mem_take->G9,all_eq_true->J2,getElem?_append_right->J7,nodup_iff_pairwise_ne->J8,drop_of_length_le->K1,take_sublist->K3,length_set->N4,replicate_succ->N5,mem_nil_iff->O4,length_filter_le->O7,mem_of_mem_drop->P7,mem_filter->P9,flatten_cons->Q0,nil_append->Q1,ext_getElem?->Q2,getElem?_range->R1,map_congr_left->R3,not_mem_nil->R8,take_zero->R9,getElem?_drop->S7,getElem?_take->S8,filter_append->S9,extract_eq_take_drop->W2,filterMap_cons->W6,getElem?_take_of_lt->X1,map_map->X3,reverse_perm->ab1,drop_sublist->ab2,pairwise_reverse->ac4,drop_append->ac8,take_append_of_le_length->ac9,getElem?_set_ne->ae3,foldl->ae9,foldl_cons->ag4,mem_filterMap->aj0,getElem_range->aj2,map_set->aj3,getElem?_append_left->ak1,drop_eq_getElem_cons->ak2,length->ap2,range'->ap3,length_eq_zero_iff->ap4,any_toArray->aq0,countP_cons->aq2,of_mem_zip->au6,range_eq_range'->ax8,length_pos_iff->az6,getD_cons_succ->az8,getD_cons_zero->az9,zip_cons_cons->aH9,map_drop->aI0,map_take->aI1,length_range'->aI2,mem_range'_1->aJ4,getElem?_set->aJ5,nodup_append->aJ6,mem_reverse->aS6,zipIdx_cons->aS7,drop_append_of_le_length->aT0,eq_nil_of_length_eq_zero->aT1,getElem_mem->aT2,filter_cons->aT3,take->bc4,drop_drop->bi2,drop_zero->bi3,nodup_nil->bi6,length_erase_of_mem->bn6,getElem?_replicate->bs8,any_cons->bs9,filter_cons_of_pos->bt0,filter_cons_of_neg->bt1,getElem?_cons_succ->bt2,getElem?_set_self->bt3,pairwise_lt_range->bt4,drop_eq_nil_of_le->bt5,length_replicate->bF3,length_singleton->bF4,perm_append_comm->bF5,mem_iff_getElem->bG4,reverse_append->bP1,flatMap_append->bP3,toList_toArray->bP4,filter_sublist->bP5,length_reverse->bP6,drop_reverse->cc5,take_reverse->cc6,cons_append->cd0,take_append->cd1,lookup_cons->cd4,mem_flatMap->cd5,map_reverse->cd6
open PySem.Heap renaming get?_push_of_some->c5,lt_size->d6,get?_push_size->l5,get?_update_other->B8,size_push->G0,get?_update_self->U0,get?_none_of_le->ax7,size_update->cd2
open Nat renaming le_refl->c8,ne_of_lt->l6,lt_of_lt_of_le->p7,zero_le->v9,le_trans->A8,lt_or_ge->B3,lt_irrefl->C7,lt_succ_of_lt->E1,ne_of_gt->L0,lt_or_eq_of_le->L6,zero_add->O8,le_succ->P3,add_sub_cancel_left->R4,le_add_right->W7,add_le_add_left->X2,lt_trichotomy->ab5,add_sub_cancel->ak3,le_of_eq->ak4,succ_pos->ak5,le_of_succ_le->ao6,le_of_lt_succ->ao7,le_of_lt->au7,min_le_left->av0,sub_self->aS8,add_zero->aS9,lt_succ_self->aT6,succ_ne_self->aT7,min_eq_left->bc7,div_div_eq_div_mul->bF6,sub_zero->bG2,testBit_two_pow->bS7,mod_lt->cd3
open Array renaming getElem?_toList->d9,length_toList->l4,size_push->B6,toList_append->C5,size_extract->F9,size_append->K2,perm_iff_toList_perm->O0,toList_push->aa2,toList_extract->ac6,toList_reverse->ac7,forIn_toList->ai5,size_map->aj1,getElem?_eq_none->aq1,toArray_toList->au9,toList_setIfInBounds->bc3,getElem?_append_left->bc5,size_setIfInBounds->bi4,getElem?_replicate->bi5,mem_toList_iff->bF7,setIfInBounds->bG3,append_assoc->bP0,size_reverse->bP2,getD->bS8,toList_map->cc4
open PySem.W renaming nsIn->j6,mg_none_of->A1,keepIn->U9,fnOf->W3,mg_of->X4,codeIn->aT8
open PyProof.Rows renaming wpS_bind->j9,wpS_pure->m5,arrOf->m8,pendingOf->C6,wpS_forRange->F2,seqObj->J4,envOfC->P4,failedOf->P5,IntsAre->R0,wpS_mono->Y6,get?_update_seq->aa3,listUpdate_at->ah0,elem'->ak9,mem_zip_self->an2,sortedHeap->aq5,AllBare->ay9,wpS_get->az1,wpS_modify->aA0,wpS_reverse->aI6,KeyOrd->aN3,mirror_perm->bo1,seqEpoch_at->bo2,entry_list_sort->bo3,slot_list_sort->bt7,setPending->bF9,size_push'->bG0,tuples'->bG8,subscriptTail_builtinR->bP7,call_function_entry_kw->bQ0,listItems_at->bT6,plain_sorted->bT7,entry_sorted->bT8,getElem?_mirror_all->cd8,pairsOf->cd9,kind_sorted->ce0,wpAny_call_entry_kw->ce1,callWith_kw->ce2
open Bool renaming false_ne_true->k7,false_eq_true->m7,and_eq_true->B4,not_true->U6,eq_iff_iff->ag3,not_eq_true'->cc3
open Option renaming isSome_iff_exists->o7,toList_some->az7,getD_none->bS6
open Int renaming toNat_natCast->p0,le_refl->E2,mul_le_mul_of_nonneg_left->F3,mul_comm->J6,mul_one->K7,mul_le_mul_of_nonneg_right->L1,mul_sub->L7,mul_assoc->M7,mul_zero->M9,zero_mul->Y3,le_trans->Y4,one_mul->ab6,mul_add->ab7,emod_lt_of_pos->ak6,sub_self->ak7,mul_nonneg->ak8,emod_nonneg->au8,toNat->av1,sub_mul->aC3,lt_irrefl->aI4,add_zero->aT4,sub_zero->aT5,add_mul->bS9,toNat_of_nonneg->bT0,neg_mul->bT1,pow_pos->bT2,natCast_nonneg->cc7
variable {A:PySem.Around}{B:PyProof.Rows.Keyed->PyProof.Rows.Keyed->Bool}{C CB a c f fA fT:PySem.Addr}{E Q:PySem.Value->PySem.Shared->Prop}{M:PySem.Model}{N N' ps:List PySem.Str}{P prog:PySem.Program}{R:PyProof.Rows.Keyed->PyProof.Rows.Keyed->Prop}{XP:(PySem.Str->Option PySem.Value)->PySem.Heap->Prop}{YP:PySem.World->PySem.Heap->Prop}{a₀:Array PyProof.Rows.Keyed}{b:Nat->Option (Option Nat) × Nat × Nat->StateT PyProof.Rows.SortSt PySem.Sem (ForInStep (Option (Option Nat) × Nat × Nat))}{cl:List (PySem.Str × PySem.Addr)}{d:Nat->Int}{e o tg:PySem.Expr}{elts es:List PySem.Expr}{fd fdA fdF fdI fdL fdO fdT fdW fdβ fdω:PySem.FuncData}{fp:List PySem.Addr}{g:Nat->Nat->Bool}{h h':PySem.Heap}{i j n p t':Nat}{its us vs:List PySem.Value}{k k' ns zs:List Int}{ks:List (List Int)}{l:PySem.Addr->Option PySem.Obj}{lk:List (Option Nat)}{out ra rb:List PyProof.Rows.Keyed}{params:PySem.Arguments}{pins:List (PySem.Addr × PySem.Obj)}{pos:PySem.Pos}{qual x:PySem.Str}{s:PySem.Shared}{scope:PySem.Scope}{t:PySem.SetTable}{tk:PySem.Tok}{u v:PySem.Value}{w:PySem.World}{κ:PyProof.Rows.SortKind}{σ τ:Nat->Bool}
namespace L2
open PySem PySem.Spec PyProof.Rows
abbrev Key:=Sum Int Str
def bS2:Key->Value->Bool
 | .inl k,v=>Value.isInt k v
 | .inr x,v=>Value.isStrOf x v
def cm5 (w:World):Key->Int
 | .inl k=>hashInt k
 | .inr x=>hashStr w x
theorem N3:∀ {k:Key} {v:Value},bS2 k v=true->(∃ i t,k=Sum.inl i/\v=Value.int i t)\/(∃ x t,k=Sum.inr x/\v=Value.str x t)
 | .inl i,v,h=>by
  obtain⟨t,e⟩:=Value.isInt_shape (k:=i) (v:=v) h
  exact .inl ⟨i,t,rfl,e⟩
 | .inr x,v,h=>by
  obtain⟨t,e⟩:=Value.isStrOf_shape (x:=x) (v:=v) h
  exact .inr ⟨x,t,rfl,e⟩
theorem ca3 (a b:Int):decide ((Sum.inl a:Key)=Sum.inl b)=(a == b):=by
 by_cases e:a=b
 ·subst e;simp
 ·have h:¬ (Sum.inl a:Key)=Sum.inl b:=fun q=>e (Sum.inl.inj q)
  rw[decide_eq_false h]
  exact(beq_eq_false_iff_ne.mpr e).symm
theorem ca0 (a b:Str):decide ((Sum.inr a:Key)=Sum.inr b)=decide (a=b):=by
 by_cases e:a=b
 ·subst e;simp
 ·have h:¬ (Sum.inr a:Key)=Sum.inr b:=fun q=>e (Sum.inr.inj q)
  rw[decide_eq_false h,decide_eq_false e]
theorem ca2 (a:Int)(b:Str):decide ((Sum.inl a:Key)=Sum.inr b)=false:=decide_eq_false (fun q=>nomatch q)
theorem ca1 (a:Str)(b:Int):decide ((Sum.inr a:Key)=Sum.inl b)=false:=decide_eq_false (fun q=>nomatch q)
def aQ6 (prog:Program) (w:World):PySem.KeyKind prog w Key where
  is:=bS2
  hash:=cm5 w
  inj:=fun v a b ha hb=>by
    rcases N3 ha with⟨i,t,rfl,rfl⟩ | ⟨x,t,rfl,rfl⟩
    · rcases N3 hb with⟨j,u,rfl,e⟩ | ⟨y,u,rfl,e⟩
      · injection e with e1 _;rw[e1]
      · exact nomatch e
    · rcases N3 hb with⟨j,u,rfl,e⟩ | ⟨y,u,rfl,e⟩
      · exact nomatch e
      · injection e with e1 _;rw[e1]
  byValue := fun k v h => by
    rcases N3 h with⟨i,t,rfl,rfl⟩ | ⟨x,t,rfl,rfl⟩<;>rfl
  pyHash:=fun hv h=>by
    rcases N3 hv with⟨i,t,rfl,rfl⟩ | ⟨x,t,rfl,rfl⟩
    · exact wpAny_pyHash_int h
    · exact wpAny_pyHash_str h
  eqBool:=fun hu hv h=>by
    rcases N3 hu with⟨i,t,rfl,rfl⟩ | ⟨x,t,rfl,rfl⟩
    · rcases N3 hv with⟨j,u,rfl,rfl⟩ | ⟨y,u,rfl,rfl⟩
      · rw[ca3]at h;exact wpAny_eqBool_int h
      · rw[ca2]at h;exact SeqAt.EqAt.int_str i t y u _ _ _ _ h
    · rcases N3 hv with⟨j,u,rfl,rfl⟩ | ⟨y,u,rfl,rfl⟩
      · rw[ca1]at h;exact SeqAt.EqAt.str_int x t j u _ _ _ _ h
      · rw[ca0]at h;exact wpAny_eqBool_str h
  «strs»:=fun k x t v h=>by
    rcases N3 h with⟨i,u,rfl,e⟩ | ⟨y,u,rfl,e⟩
    · exact nomatch e
    · injection e with e1 _
      subst e1
      cases v<;>rfl
inductive V where
 | non | bl (b:Bool) | int (i:Int) | str (x:Str) | byt (b:Array UInt8) | flt (b:UInt64) | ref (a:Addr) | ty (n:String)
 deriving DecidableEq
def RelV:V->Value->Prop
 | .non,u=>u=Value.none
 | .bl b,u=>u=Value.bool b
 | .int i,u=>∃ t,u=Value.int i t
 | .str x,u=>∃ t,u=Value.str x t
 | .byt b,u=>∃ t,u=Value.bytes b t
 | .flt b,u=>∃ t,u=Value.float b t
 | .ref a,u=>u=Value.ref a
 | .ty n,u=>u=Value.type n
abbrev D3:List V->List Value->Prop:=ag5 RelV
theorem D3.length {xs:List V}(r:D3 xs us):xs.length=us.length:=Paired.length r
theorem D3.get:∀ {xs:List V} {us:List Value} {i:Nat} {x:V},D3 xs us->xs[i]?=some x->∃ u,us[i]?=some u/\RelV x u
 | _,_,_,_,.nil,e=>by simp at e
 | _,_,0,_,.cons r _,e=>by simp at e;subst e;exact⟨_,rfl,r⟩
 | _,_,i+1,x,.cons _ t,e=>by
  obtain⟨u,h1,h2⟩:=D3.get (i:=i) (x:=x) t (by simpa using e)
  exact⟨u,by simpa using h1,h2⟩
theorem D3.set {x:V}(r:RelV x u):∀ {xs:List V} {us:List Value} (i:Nat),D3 xs us->D3 (xs.set i x) (us.set i u)
 | _,_,_,.nil=>.nil
 | _,_,0,.cons _ t=>.cons r t
 | _,_,i+1,.cons q t=>.cons q (D3.set r i t)
theorem D3.append:∀ {xs ys:List V} {us ws:List Value},D3 xs us->D3 ys ws->D3 (xs++ys) (us++ws)
 | _,_,_,_,.nil,s=>s
 | _,_,_,_,.cons r t,s=>.cons r (D3.append t s)
theorem D3.take:∀ {xs:List V} {us:List Value} (n:Nat),D3 xs us->D3 (xs.take n) (us.take n)
 | _,_,0,_=>.nil
 | _,_,_+1,.nil=>.nil
 | _,_,n+1,.cons r t=>.cons r (D3.take n t)
theorem D3.drop:∀ {xs:List V} {us:List Value} (n:Nat),D3 xs us->D3 (xs.drop n) (us.drop n)
 | _,_,0,r=>r
 | _,_,_+1,.nil=>.nil
 | _,_,n+1,.cons _ t=>D3.drop n t
def ck3:Option V->Option Value->Prop
 | some v,some u=>RelV v u
 | none,none=>True
 | _,_=>False
def KV {κ:Type}:List (κ × V)->List (κ × Value)->Prop:=ag5 fun(p:κ × V) (q:κ × Value)=>p.1=q.1/\RelV p.2 q.2
def kV:Key->V
 | .inl i=>.int i
 | .inr x=>.str x
inductive HO where
  | lst (xs:List V)
  | tup (xs:List V)
  | dK (kvs:List (Key × V)) | dT (kvs:List (List Key × V))
  | set (S:Int->Bool) (n:Nat)
  | ins (C dx:Addr) (fs:List (Str × V))
  | own (x:Addr)
  | xd (fs:List (Str × V))
  | met (f x:Addr)
  | rng (lo hi:Int)
  | frz (o:Obj) (u:HO)
  | tbl (ps:Array Value)
  | ext (φ:Heap->Prop)
abbrev Hp:=Addr->Option HO
def upd (H:Hp)(a:Addr)(o:HO):Hp:=fun b=>if b=a then some o else H b
theorem c6 {H:Hp}{o:HO}:upd H a o a=some o:=by unfold upd;rw[if_pos rfl]
theorem q8 {H:Hp}{b:Addr}{o:HO}(h:b≠a):upd H a o b=H b:=by unfold upd;rw[if_neg h]
theorem aN9 {H:Hp}{o u:HO}:upd (upd H a o) a u=upd H a u:=by
 funext b;unfold upd;split<;>rfl
theorem bR9 {H:Hp}{b:Addr}{o u:HO}(h:H a=some o)(h':H b=some u)(d:o≠u):a≠b:=by
 intro e;subst e;rw[h]at h';exact d (Option.some.inj h')
theorem q0 {H:Hp}{b:Addr}{o:HO}(h:H a=some o)(h':H b=none):a≠b:=by
 intro e;subst e;rw[h]at h';cases h'
section
variable (P:Program) (w:World)
def W1 (H:Hp)(h:Heap)(a:Addr):HO->Prop
 | .lst xs=>xs.length<=j8/\∃ (its:List Value) (n:Nat),D3 xs its/\h.get? a=some { cls:=.type "list",data:=.seq its.toArray n }
 | .tup xs=>xs.length<=j8/\∃ its:List Value,D3 xs its/\IsTup h a its.toArray
 | .dK kvs=>kvs.length<=j8/\(a == sysModules)=false/\∃ vs,KV kvs vs/\h.DictOf (aQ6 P w) a vs
 | .dT kvs=>kvs.length<=j8/\(a == sysModules)=false/\∃ xs:List (List Key × Addr × Value),
   ag5 (fun(p:List Key × V) (q:List Key × Addr × Value)=>p.1=q.1/\H q.2.1=some (.tup (p.1.map kV))/\RelV p.2 q.2.2) kvs xs /\
   ∃ o es ep,h.get? a=some o/\o.ExactDict/\o.data=.dict es ep/\es.toList=xs.map (entryOfKey (tupleKind (aQ6 P w)))/\(xs.map (·.1)).Nodup
 | .set S n=>h.SetOf (B7 P w) a S n
 | .ins C dx fs=>H dx=some (.own a)/\fs.length<=1000/\dx≠a/\h.get? a=some (PySem.W.instObj C dx) /\
   ∃ mA,h.Ns1 dx mA/\(∀ f,ck3 (fs.lookup f) (mA f))/\PySem.Within mA (fs.map (·.1))
 | .own _=>∃ o,h.get? a=some o
 | .xd fs=>∃ mA,h.Ns1 a mA/\∀ f,ck3 (fs.lookup f) (mA f)
 | .rng lo hi=>∃ t u v,h.get? a=some { cls:=.type "range",data:=.fields #[.int lo t,.int hi u,.int 1 v] }
 | .frz o u=>h.get? a=some o/\W1 H h a u
 | .tbl ps=>h.get? a=some { cls:=.none,data:=.fields ps }
 | .met f x=>h.get? a=some (PySem.W.methodObj (.ref f) (.ref x))
 | .ext φ=>φ h/\(∃ o,h.get? a=some o)/\∀ h1 h2:Heap,φ h1->(∀ o,h1.get? a=some o->h2.get? a=some o)->φ h2
def HOk (H:Hp)(h:Heap):Prop:=∀ a o,H a=some o->W1 P w H h a o
end
section
variable {H H':Hp} {o:HO}
theorem W1.lt (x:W1 P w H h a o):a<h.objs.size:=by
 cases o with
 | lst xs=>obtain⟨_,_,_,_,e⟩:=x;exact d6 e
 | tup xs=>obtain⟨_,_,_,p⟩:=x;exact p.lt
 | dK kvs=>obtain⟨_,_,_,_,o,_,_,e,_⟩:=x;exact d6 e
 | dT kvs=>obtain⟨_,_,_,_,o,_,_,e,_⟩:=x;exact d6 e
 | set S n=>obtain⟨o,_,_,_,e,_⟩:=x;exact d6 e
 | ins C dx fs=>obtain⟨_,_,_,e,_⟩:=x;exact d6 e
 | own y=>obtain⟨_,e⟩:=x;exact d6 e
 | xd fs=>obtain⟨_,⟨_,_,_,e,_⟩,_⟩:=x;exact d6 e
 | rng lo hi=>obtain⟨_,_,_,e⟩:=x;exact d6 e
 | frz ob u=>obtain⟨e,_⟩:=x;exact d6 e
 | tbl ps=>exact d6 (show h.get? a=some _ from x)
 | met f y=>exact d6 (show h.get? a=some _ from x)
 | ext φ=>obtain⟨_,⟨_,e⟩,_⟩:=x;exact d6 e
theorem Paired.mapP {α β:Type}{F G:α->β->Prop}:∀ {l₁:List α} {l₂:List β},ag5 F l₁ l₂->(∀ a b,F a b->G a b)->ag5 G l₁ l₂
 | _,_,.nil,_=>.nil
 | _,_,.cons r t,f=>.cons (f _ _ r) (Paired.mapP t f)
theorem W1.stay (x:W1 P w H h a o)(k:∀ b u,(b=a\/H b=some (.own a))->h.get? b=some u->h'.get? b=some u)
  (ho:∀ b,H b=some (.own a)->H' b=some (.own a))(ht:∀ b xs,H b=some (.tup xs)->H' b=some (.tup xs)):W1 P w H' h' a o:=by
 induction o with
 | lst xs=>obtain⟨z,its,n,r,e⟩:=x;exact⟨z,its,n,r,k _ _ (.inl rfl) e⟩
 | tup xs=>obtain⟨z,its,r,ob,e,c⟩:=x;exact⟨z,its,r,ob,k _ _ (.inl rfl) e,c⟩
 | dK kvs=>obtain⟨z,y,vs,r,ob,es,ep,e,c⟩:=x;exact⟨z,y,vs,r,ob,es,ep,k _ _ (.inl rfl) e,c⟩
 | dT kvs =>
  obtain⟨z,y,xs,r,ob,es,ep,e,c⟩:=x
  exact⟨z,y,xs,Paired.mapP r fun p q z=>⟨z.1,ht _ _ z.2.1,z.2.2⟩,ob,es,ep,k _ _ (.inl rfl) e,c⟩
 | set S n=>obtain⟨ob,es,ep,t,e,c⟩:=x;exact⟨ob,es,ep,t,k _ _ (.inl rfl) e,c⟩
 | ins C dx fs =>
  obtain⟨d,z,ne,e,mA,⟨od,es,ep,e2,c⟩,r⟩:=x
  exact⟨ho _ d,z,ne,k _ _ (.inl rfl) e,mA,⟨od,es,ep,k _ _ (.inr d) e2,c⟩,r⟩
 | own y=>obtain⟨ob,e⟩:=x;exact⟨ob,k _ _ (.inl rfl) e⟩
 | xd fs=>obtain⟨mA,⟨od,es,ep,e,c⟩,r⟩:=x;exact⟨mA,⟨od,es,ep,k _ _ (.inl rfl) e,c⟩,r⟩
 | rng lo hi=>obtain⟨t,u,v,e⟩:=x;exact⟨t,u,v,k _ _ (.inl rfl) e⟩
 | frz ob u ih=>obtain⟨e,q⟩:=x;exact⟨k _ _ (.inl rfl) e,ih q⟩
 | tbl ps =>
  have e:h.get? a=some { cls:=.none,data:=.fields ps }:=x
  show h'.get? a=some { cls:=.none,data:=.fields ps }
  exact k a _ (.inl rfl) e
 | met f y =>
  have e:h.get? a=some (PySem.W.methodObj (.ref f) (.ref y)):=x
  show h'.get? a=some (PySem.W.methodObj (.ref f) (.ref y))
  exact k a _ (.inl rfl) e
 | ext φ=>obtain⟨p,⟨o,e⟩,st⟩:=x;exact⟨st _ _ p fun o q=>k _ _ (.inl rfl) q,⟨o,k _ _ (.inl rfl) e⟩,st⟩
theorem HOk.lt (x:HOk P w H h)(e:H a=some o):a<h.objs.size:=(x a o e).lt
theorem HOk.fresh (x:HOk P w H h)(e:h.objs.size<=a):H a=none:=by
 cases q:H a with
 | none=>rfl
 | some u=>exact absurd (p7 (x.lt q) e) (C7 _)
theorem HOk.kept (x:HOk P w H h)(k:∀ b u,h.get? b=some u->h'.get? b=some u):HOk P w H h':=fun a o e =>
 (x a o e).stay (fun b u _ q=>k b u q) (fun _ q=>q) fun _ _ q=>q
theorem HOk.laid (x:HOk P w H h)(k:∀ b u,h.get? b=some u->h'.get? b=some u)(hp:h.objs.size<=a)(new:W1 P w (upd H a o) h' a o):HOk P w (upd H a o) h':=fun b u e=>by
 have hn:=x.fresh hp
 by_cases hb:b=a
 ·subst hb;rw[c6]at e;cases e;exact new
 ·rw[q8 hb]at e
  exact(x b u e).stay (fun c v _ q=>k c v q) (fun c q=>by rw[q8 (q0 q hn)];exact q) fun c xs q=>by rw[q8 (q0 q hn)];exact q
end
def Rd (H:Hp)(a:Addr)(u:HO):Prop:=H a=some u\/∃ o,H a=some (.frz o u)
theorem Rd.ok {H:Hp}{u:HO}(r:Rd H a u)(x:HOk P w H h):W1 P w H h a u:=by
 rcases r with r | ⟨o,r⟩
 ·exact x a u r
 ·obtain⟨_,q⟩:=x a _ r
  exact q
def Mut:Option HO->Prop
 | some (.lst _)=>True
 | some (.dK _)=>True
 | some (.dT _)=>True
 | some (.set _ _)=>True
 | some (.ins _ _ _)=>True
 | some (.ext _)=>True
 | _=>False
section
variable {H:Hp} {x e:Addr} {o':HO}
theorem HOk.write (ok:HOk P w H h)(mu:Mut (H x))(he:e=x\/H e=some (.own x))(k:∀ b u,b≠e->h.get? b=some u->h'.get? b=some u)(heo:∃ u,h'.get? e=some u)
  (new:W1 P w (upd H x o') h' x o'):HOk P w (upd H x o') h':=fun b u q=>by
 have nown:∀ c y,H c=some (.own y)->c≠x:=fun c y r z=>by subst z;rw[r]at mu;exact mu
 have ntup:∀ c xs,H c=some (.tup xs)->c≠x:=fun c xs r z=>by subst z;rw[r]at mu;exact mu
 by_cases hb:b=x
 ·subst hb;rw[c6]at q;cases q;exact new
 ·rw[q8 hb]at q
  by_cases hbe:b=e
  ·have q':H b=some (.own x):=by
    rcases he with z | z
    ·exact absurd (hbe.trans z) hb
    ·rw[hbe];exact z
   rw[q]at q';cases q'
   obtain⟨v,hv⟩:=heo
   exact⟨v,by rw[hbe];exact hv⟩
  ·refine(ok b u q).stay (fun c v hc r=>k c v ?_ r) (fun c r=>by rw[q8 (nown c b r)];exact r) fun c xs r=>by rw[q8 (ntup c xs r)];exact r
   rcases hc with rfl | hc
   ·exact hbe
   ·rintro rfl
    rcases he with z | z
    ·exact nown c b hc z
    ·rw[hc]at z;cases z;exact hb rfl
end
structure Un (fs ex:List Addr) (H H':Hp) (h h':Heap):Prop where
 keep:∀ b o,h.get? b=some o->H b=none->b∉fs->b∉ex->h'.get? b=some o
 slot:∀ b o,h.get? b=some o->H b=none->b∈fs->b∉ex->∃ sl,h'.get? b=some { o with slots:=sl }
 free:∀ b o,h.get? b=some o->H b=none->b∉ex->H' b=none
 there:∀ b o,h.get? b=some o->b∉ex->∃ o',h'.get? b=some o'
 tups:∀ b xs,H b=some (.tup xs)->H' b=some (.tup xs)
 frzs:∀ b o u,H b=some (.frz o u)->H' b=some (.frz o u)
 tbls:∀ b ps,H b=some (.tbl ps)->∃ more,H' b=some (.tbl (ps++more))
section
variable {fs fs' ex ex':List Addr} {H H1 H2:Hp} {h1 h2:Heap} {x e:Addr} {o:HO}
theorem Un.any (u:Un fs ex H H1 h h1){b:Addr}{ob:Obj}(q:h.get? b=some ob)(n:H b=none)(hx:b∉ex):∃ sl,h1.get? b=some { ob with slots:=sl }:=by
 by_cases hb:b∈fs
 ·exact u.slot b ob q n hb hx
 ·exact⟨ob.slots,u.keep b ob q n hb hx⟩
theorem Un.kept (k:∀ b u,h.get? b=some u->h'.get? b=some u):Un fs ex H H h h':=
 ⟨fun b ob q _ _ _=>k b ob q,fun b ob q _ _ _=>⟨ob.slots,k b ob q⟩,fun _ _ _ n _=>n,fun b ob q _=>⟨ob,k b ob q⟩,fun _ _ q=>q,fun _ _ _ q=>q,fun _ ps q=>⟨#[],by rw[q];simp⟩⟩
theorem Un.refl:Un fs ex H H h h:=Un.kept fun _ _ q=>q
theorem Un.laid (k:∀ b u,h.get? b=some u->h'.get? b=some u)(hp:h.objs.size<=a)(hn:H a=none):Un fs ex H (upd H a o) h h' where
 keep:=fun b u q _ _ _=>k b u q
 slot:=fun b u q _ _ _=>⟨u.slots,k b u q⟩
 free:=fun b u q n _=>by rw[q8 (l6 (p7 (d6 q) hp))];exact n
 there:=fun b u q _=>⟨u,k b u q⟩
 tups:=fun b xs q=>by rw[q8 (q0 q hn)];exact q
 frzs:=fun b u xs q=>by rw[q8 (q0 q hn)];exact q
 tbls:=fun b ps q=>⟨#[],by rw[q8 (q0 q hn),q];simp⟩
theorem Un.write (mu:Mut (H x))(he:e=x\/H e=some (.own x))(k:∀ b u,b≠e->h.get? b=some u->h'.get? b=some u)(heo:∃ u,h'.get? e=some u):Un fs ex H (upd H x o) h h':=by
 have hx:∀ b,H b=none->b≠x:=fun b n z=>by subst z;rw[n]at mu;exact mu
 have hb:∀ b,H b=none->b≠e:=fun b n z=>by
  subst z
  rcases he with r | r
  ·exact hx b n r
  ·rw[n]at r;cases r
 have hm:∀ b u,H b=some u->¬ Mut (some u)->b≠x:=fun b u q nm z=>by subst z;rw[q]at mu;exact nm mu
 refine⟨fun b u q n _ _=>k b u (hb b n) q,fun b u q n _ _=>⟨u.slots,k b u (hb b n) q⟩,fun b u q n _=>by rw[q8 (hx b n)];exact n,fun b u q _=>?_,
  fun b xs q=>by rw[q8 (hm b _ q fun z=>z)];exact q,fun b u xs q=>by rw[q8 (hm b _ q fun z=>z)];exact q,fun b ps q=>⟨#[],by rw[q8 (hm b _ q fun z=>z),q];simp⟩⟩
 by_cases hbe:b=e
 ·subst hbe;exact heo
 ·exact⟨u,k b u hbe q⟩
end
def trk (h:Heap)(H:Hp):List Addr:=(u7 h.objs.size).filter fun a=>(H a).isSome
def aJ1 (h:Heap)(H:Hp):Heap:=PySem.W.hideAll h (trk h H)
theorem bq9 (h:Heap)(H:Hp):(aJ1 h H).objs.size=h.objs.size:=PySem.W.hideAll_size _ _
theorem bB4 {H:Hp}{b:Addr}{o:Obj}(e:h.get? b=some o)(n:H b=none):(aJ1 h H).get? b=some o:=
 PySem.W.hideAll_get _ e fun hm=>by
  have q:(H b).isSome=true:=(P9.mp hm).2
  rw[n]at q;simp at q
theorem bL9 {H:Hp}{b:Addr}{o:Obj}(e:(aJ1 h H).get? b=some o):h.get? b=some o/\H b=none:=by
 have e':h.get? b=some o:=PySem.W.of_hideAll (trk h H) e
 refine⟨e',?_⟩
 cases q:H b with
 | none=>rfl
 | some x =>
  have hm:b∈trk h H:=P9.mpr ⟨B9.mpr (d6 e'),by simp[q]⟩
  have z:(aJ1 h H).get? b=none:=PySem.W.hideAll_none (trk h H) hm
  rw[z]at e;cases e
def bO4 (g h:Heap)(L:Addr):List (Addr × Obj):=(u7 h.objs.size).filterMap fun a=>if a=L\/(g.get? a).isSome=true then none else (h.get? a).map fun o=>(a,o)
def rest (g h:Heap)(L d:Addr):List (Addr × Obj):=(bO4 g h L).filter fun p=>decide (p.1≠d)
end L2
variable {H H':L2.Hp}{Qd:L2.Hp->Prop}{gV:List L2.V->List L2.V->List L2.V}{xs ys:List L2.V}
namespace L2
open PySem PySem.Spec PyProof.Rows
structure Mod (K:W.Frag) (mg:Str->Option Value) (base:Heap):Prop where
 kin:K.In base
 glob:base.Ns i9 mg
 blt:∃ mb,base.Ns aT9 mb/\∀ x:Str,x≠"__name__"->mb x=L5 x
 nolimit:base.NoLimit
structure Cx where
 prog:Program
 w:World
 K:W.Frag
 mg:Str->Option Value
 base:Heap
 A:Around
 N:List Str
 s₀:Shared
 H₀:Hp
 env:Env
 outer:List Env
 stack:List Env
 ex:List Addr
 fn:Str->Bool
 calm:Bool
 pn:List (Addr × Obj)
 xe:Value->Shared->Prop
def frs (l:List Env):List Addr:=l.filterMap (·.frame)
abbrev Cx.fs (X:Cx):List Addr:=frs X.outer
def Vis (sc:Scope)(x:Str):Prop:=sc.names.lookup x=some .local\/sc.names.lookup x=some .cell\/sc.names.lookup x=some .free
def Loc (sc:Scope)(x:Str):Prop:=sc.names.lookup x=some .local\/sc.names.lookup x=some .cell
def Look (env:Env)(h:Heap)(m:Str->Option Value)(x:Str)(u:Value):Prop:=
 (env.kindOf x=some .local/\m x=some u)\/((env.kindOf x=some .cell\/env.kindOf x=some .free)/\∃ c,env.cells.lookup x=some c/\h.IsCell c (some u))
structure Cx.Ok (X:Cx):Prop where
 mod:Mod X.K X.mg X.base
 kind:X.env.scope.kind=.function
 glob:X.env.globals=i9
 blt:X.env.builtins=aT9
 above:X.s₀.heap.objs.size<=X.env.locals
 inj:∀ x y c,X.env.cells.lookup x=some c->X.env.cells.lookup y=some c->x=y
 has:∀ x,(X.env.kindOf x=some .cell\/X.env.kindOf x=some .free)->∃ c,X.env.cells.lookup x=some c
 cab:∀ x c,X.fn x=true->X.env.cells.lookup x=some c->X.s₀.heap.objs.size<=c
 hd:X.calm=true->X.A.handled=none
 frames:X.A.frames=some X.stack
 stk:X.stack=X.outer\/(X.stack=X.env::X.outer/\X.env.frame=some X.env.locals)
 exf:∀ b∈X.ex,b≠X.env.locals/\∀ x c,X.env.cells.lookup x=some c->c≠b
 bs:∀ b o,X.base.get? b=some o->X.s₀.heap.get? b=some o/\X.H₀ b=none
 bsz:X.base.objs.size<=X.s₀.heap.objs.size
 noex:∀ b o,X.base.get? b=some o->b∉X.ex
 exfs:∀ b∈X.ex,b∉X.fs
 funs:X.s₀.heap.FunFrames X.base X.outer
 frf:∀ b∈X.fs,X.H₀ b=none
structure Inv (X:Cx) (pins:List (Addr × Obj)) (σ:List (Option V)) (H:Hp) (s:Shared):Prop where
 ok:X.Ok
 os:s.os=X.s₀.os
 bare:ay9 s.gens
 base:Un X.fs X.ex X.H₀ H X.s₀.heap s.heap
 loc:∃ m,s.heap.Ns X.env.locals m/\∀ (i:Nat) (x:Str) (v:V),X.N[i]?=some x->σ[i]?=some (some v)->Vis X.env.scope x->∃ u,RelV v u/\Look X.env s.heap m x u
 cell:∀ x c,X.env.cells.lookup x=some c->∃ v,s.heap.IsCell c v
 free:H X.env.locals=none
 freeC:∀ x c,X.env.cells.lookup x=some c->H c=none
 pin:∀ p∈X.pn++pins,s.heap.get? p.1=some p.2/\H p.1=none/\p.1≠X.env.locals/\p.1∉X.fs/\∀ v,p.2.data≠.cell v
 hok:HOk X.prog X.w H s.heap
 len:σ.length=X.N.length
section
variable {X:Cx} {σ:List (Option V)}
theorem Cx.Ok.nofr (ok:X.Ok){b:Addr}{o:Obj}(e:X.base.get? b=some o):b∉X.fs:=fun hb=>by
 have:=(ok.funs.mem hb).1
 rw[e]at this;cases this
theorem Inv.bs (I:Inv X pins σ H s):∀ b o,X.base.get? b=some o->s.heap.get? b=some o/\H b=none:=fun b o e =>
 ⟨I.base.keep b o (I.ok.bs b o e).1 (I.ok.bs b o e).2 (I.ok.nofr e) (I.ok.noex b o e),I.base.free b o (I.ok.bs b o e).1 (I.ok.bs b o e).2 (I.ok.noex b o e)⟩
theorem Inv.bk (I:Inv X pins σ H s):∀ b o,X.base.get? b=some o->s.heap.get? b=some o:=fun b o e=>(I.bs b o e).1
theorem Inv.mod (I:Inv X pins σ H s):Mod X.K X.mg X.base:=I.ok.mod
theorem Inv.kIn (I:Inv X pins σ H s):X.K.In s.heap:=I.ok.mod.kin.keeps I.bk
theorem Inv.nolimit (I:Inv X pins σ H s):s.heap.NoLimit:=I.ok.mod.nolimit.keeps I.bk
theorem Inv.lt (I:Inv X pins σ H s):X.env.locals<s.heap.objs.size:=let ⟨_,hn,_⟩:=I.loc;hn.lt
theorem Inv.sz (I:Inv X pins σ H s):X.s₀.heap.objs.size<=s.heap.objs.size:=A8 I.ok.above (au7 I.lt)
theorem Inv.nofs (I:Inv X pins σ H s)(h:s.heap.objs.size<=a):a∉X.fs:=fun hb=>by
 obtain⟨_,o,ho,_⟩:=I.ok.funs.mem hb
 exact absurd (p7 (d6 ho) (A8 I.sz h)) (C7 _)
theorem Inv.cne (I:Inv X pins σ H s):∀ x c,X.env.cells.lookup x=some c->c≠X.env.locals:=fun x c e z=>by
 obtain⟨v,o,ho,hd⟩:=I.cell x c e
 obtain⟨m,⟨o',es,ep,ho',hd',_⟩,_⟩:=I.loc
 rw[z,ho']at ho;cases ho;rw[hd']at hd;cases hd
theorem Inv.funs (I:Inv X pins σ H s):s.heap.FunFrames X.base X.outer:=by
 have all:∀ (l:List Env),(∀ b∈frs l,b∈X.fs)->X.s₀.heap.FunFrames X.base l->s.heap.FunFrames X.base l:=by
  intro l
  induction l with
  | nil=>intro _ _;trivial
  | cons env r ih =>
   intro hs hl
   obtain⟨hk,⟨L,o,hf,hn,ho,hd⟩,hr⟩:=hl
   have hL:L∈X.fs:=hs L (by unfold frs;rw[W6,hf];exact c9)
   obtain⟨sl,e⟩:=I.base.slot L o ho (I.ok.frf L hL) hL fun z=>I.ok.exfs L z hL
   exact⟨hk,⟨L,_,hf,hn,e,hd⟩,ih (fun b hb=>hs b (by unfold frs;rw[W6,hf];exact c7 _ hb)) hr⟩
 exact all X.outer (fun _ hb=>hb) I.ok.funs
theorem Inv.stack (I:Inv X pins σ H s):s.heap.FunFrames X.base X.stack:=by
 rcases I.ok.stk with e | ⟨e,hf⟩
 ·rw[e];exact I.funs
 ·rw[e]
  obtain⟨m,hn,_⟩:=I.loc
  refine .cons (by rw[I.ok.kind];decide) hf hn ?_ I.funs
  exact ax7 (A8 I.ok.bsz I.ok.above)
theorem Inv.stkSub (I:Inv X pins σ H s):∀ b∈frs X.stack,b∈X.env.locals::X.fs:=fun b hb=>by
 rcases I.ok.stk with e | ⟨e,hf⟩
 ·rw[e]at hb;exact c7 _ hb
 ·rw[e]at hb
  unfold frs at hb
  rw[W6,hf]at hb
  exact hb
theorem Inv.stkFree (I:Inv X pins σ H s):∀ b∈frs X.stack,H b=none:=fun b hb=>by
 rcases d8.mp (I.stkSub b hb) with e | hb
 ·rw[e];exact I.free
 ·obtain⟨_,o,ho,_⟩:=I.ok.funs.mem hb
  exact I.base.free b o ho (I.ok.frf b hb) fun z=>I.ok.exfs b z hb
theorem Inv.step {g':Array bG5}{d':Drawn}{ch:List Addr}(I:Inv X pins σ H s)
  (hch:∀ b∈ch,(b∈X.ex\/X.s₀.heap.objs.size<=b)/\b≠X.env.locals/\(∀ x c,X.env.cells.lookup x=some c->c≠b)/\∀ p∈X.pn++pins,p.1≠b)
  (keep:∀ b o,b≠X.env.locals->b∉X.fs->b∉ch->s.heap.get? b=some o->H b=none->h'.get? b=some o)
  (slot:∀ b o,b≠X.env.locals->b∈X.fs->b∉ch->s.heap.get? b=some o->H b=none->∃ sl,h'.get? b=some { o with slots:=sl })(free:∀ b o,b∉ch->s.heap.get? b=some o->H b=none->H' b=none)
  (there:∀ b o,b∉ch->s.heap.get? b=some o->∃ o',h'.get? b=some o')
  (tups:∀ b xs,H b=some (.tup xs)->H' b=some (.tup xs))(frzs:∀ b o u,H b=some (.frz o u)->H' b=some (.frz o u))(tbls:∀ b ps,H b=some (.tbl ps)->∃ more,H' b=some (.tbl (ps++more)))
  (ns:∀ m,s.heap.Ns X.env.locals m->h'.Ns X.env.locals m)(hok:HOk X.prog X.w H' h')(hg:ay9 g') :
  Inv X pins σ H' { s with heap:=h',gens:=g',drawn:=d',toks:=t' }:=by
 have neL:∀ b o,X.s₀.heap.get? b=some o->b≠X.env.locals:=fun b o e=>l6 (p7 (d6 e) I.ok.above)
 have neC:∀ b o,X.s₀.heap.get? b=some o->b∉X.ex->b∉ch:=fun b o e hx hb=>by
  rcases(hch b hb).1 with z | z
  ·exact hx z
  ·exact absurd (p7 (d6 e) z) (C7 _)
 have cellK:∀ x c,X.env.cells.lookup x=some c->∀ v,s.heap.IsCell c v->h'.IsCell c v:=fun x c e v ⟨o,ho,hd⟩=>by
  have nch:c∉ch:=fun z=>(hch c z).2.2.1 x c e rfl
  by_cases hc:c∈X.fs
  ·obtain⟨sl,q⟩:=slot c o (I.cne x c e) hc nch ho (I.freeC x c e)
   exact⟨_,q,hd⟩
  ·exact⟨o,keep c o (I.cne x c e) hc nch ho (I.freeC x c e),hd⟩
 refine⟨I.ok,I.os,hg,⟨fun b o e n hb hx=>?_,fun b o e n hb hx=>?_,fun b o e n hx=>?_,fun b o e hx=>?_,fun b xs e=>tups b xs (I.base.tups b xs e),fun b o xs e=>frzs b o xs (I.base.frzs b o xs e),fun b ps e=>?_⟩,?_,fun x c e=>?_,?_,fun x c e=>?_,fun p hp=>?_,hok,I.len⟩
 ·exact keep b o (neL b o e) hb (neC b o e hx) (I.base.keep b o e n hb hx) (I.base.free b o e n hx)
 ·obtain⟨sl,e1⟩:=I.base.slot b o e n hb hx
  obtain⟨sl',e2⟩:=slot b _ (neL b o e) hb (neC b o e hx) e1 (I.base.free b o e n hx)
  exact⟨sl',e2⟩
 ·obtain⟨o',e1⟩:=I.base.there b o e hx
  exact free b o' (neC b o e hx) e1 (I.base.free b o e n hx)
 ·obtain⟨o',e1⟩:=I.base.there b o e hx
  exact there b o' (neC b o e hx) e1
 ·obtain⟨m1,e1⟩:=I.base.tbls b ps e
  obtain⟨m2,e2⟩:=tbls b _ e1
  exact⟨m1++m2,by rw[e2,bP0]⟩
 ·obtain⟨m,hn,hl⟩:=I.loc
  refine⟨m,ns m hn,fun i x v e1 e2 e3=>?_⟩
  obtain⟨u,r,l⟩:=hl i x v e1 e2 e3
  refine⟨u,r,?_⟩
  rcases l with l | ⟨k,c,e,z⟩
  ·exact .inl l
  ·exact .inr ⟨k,c,e,cellK x c e _ z⟩
 ·obtain⟨v,z⟩:=I.cell x c e
  exact⟨v,cellK x c e v z⟩
 ·obtain⟨m,⟨o,_,_,ho,_⟩,_⟩:=I.loc
  exact free _ o (fun z=>(hch _ z).2.1 rfl) ho I.free
 ·obtain⟨v,o,ho,hd⟩:=I.cell x c e
  exact free c o (fun z=>(hch c z).2.2.1 x c e rfl) ho (I.freeC x c e)
 ·obtain⟨e,n,ne,nf,d⟩:=I.pin p hp
  have nch:p.1∉ch:=fun z=>(hch p.1 z).2.2.2 p hp rfl
  exact⟨keep p.1 p.2 ne nf nch e n,free p.1 p.2 nch e n,ne,nf,d⟩
theorem Inv.un (I:Inv X pins σ H s)(u:Un X.fs [] H H' s.heap h')(hok:HOk X.prog X.w H' h'):Inv X pins σ H' { s with heap:=h',toks:=t' }:=by
 obtain⟨m,⟨o,es,ep,ho,r⟩,_⟩:=id I.loc
 obtain⟨sl,hL⟩:=u.any ho I.free (by simp)
 exact I.step (g':=s.gens) (d':=s.drawn) (ch:=[]) (fun _ z=>nomatch z) (fun b o _ hb _ e n=>u.keep b o e n hb (by simp)) (fun b o _ hb _ e n=>u.slot b o e n hb (by simp)) (fun b o _ e n=>u.free b o e n (by simp)) (fun b o _ e=>u.there b o e (by simp)) u.tups u.frzs u.tbls (fun m' hm=>by
  obtain⟨o',es',ep',ho',r'⟩:=hm
  rw[ho]at ho';cases ho'
  exact⟨_,es',ep',hL,r'⟩) hok I.bare
theorem Inv.call {g':Array bG5}{d':Drawn}{ch:List Addr}(I:Inv X pins σ H s)(u:Un (frs X.stack) ch H H' s.heap h')(hok:HOk X.prog X.w H' h')(hg:ay9 g')
  (hch:∀ b∈ch,(b∈X.ex\/X.s₀.heap.objs.size<=b)/\b≠X.env.locals/\(∀ x c,X.env.cells.lookup x=some c->c≠b)/\∀ p∈X.pn++pins,p.1≠b) :
  Inv X pins σ H' { s with heap:=h',gens:=g',drawn:=d',toks:=t' }:=by
 obtain⟨m,⟨o,es,ep,ho,r⟩,_⟩:=id I.loc
 obtain⟨sl,hL⟩:=u.any ho I.free fun z=>(hch _ z).2.1 rfl
 exact I.step (ch:=ch) hch (fun b o hL hb hc e n=>u.keep b o e n (fun z=>(d8.mp (I.stkSub b z)).elim hL hb) hc) (fun b o _ _ hc e n=>u.any e n hc) (fun b o hc e n=>u.free b o e n hc) (fun b o hc e=>u.there b o e hc) u.tups u.frzs u.tbls (fun m' hm=>by
  obtain⟨o',es',ep',ho',r'⟩:=hm
  rw[ho]at ho';cases ho'
  exact⟨_,es',ep',hL,r'⟩) hok hg
theorem Inv.turned {it:Addr}(I:Inv X pins σ H s)(k:∀ b o,b≠it->s.heap.get? b=some o->h'.get? b=some o)(hn:H it=none)(hL:it≠X.env.locals)
  (h1:it∈X.ex\/X.s₀.heap.objs.size<=it)(h2:∀ x c,X.env.cells.lookup x=some c->c≠it)(h3:∀ p∈X.pn++pins,p.1≠it):Inv X pins σ H { s with heap:=h',toks:=t' }:=by
 have nit:∀ b u,H b=some u->b≠it:=fun b u e z=>by rw[z,hn]at e;cases e
 refine I.step (g':=s.gens) (d':=s.drawn) (ch:=[it]) (fun b hb=>?_) (fun b o _ _ hc e _=>k b o (fun z=>hc (by simp[z])) e) (fun b o _ _ hc e _=>⟨o.slots,k b o (fun z=>hc (by simp[z])) e⟩) (fun _ _ _ _ n=>n)
  (fun b o hc e=>⟨o,k b o (fun z=>hc (by simp[z])) e⟩) (fun _ _ e=>e) (fun _ _ _ e=>e) (fun b ps e=>⟨#[],by rw[e];simp⟩) (fun m hm=>?_) (fun b u e=>?_) I.bare
 ·have e:b=it:=by simpa using hb
  subst e
  exact⟨h1,hL,h2,h3⟩
 ·obtain⟨o,es,ep,ho,r⟩:=hm
  exact⟨o,es,ep,k _ o (Ne.symm hL) ho,r⟩
 ·refine(I.hok b u e).stay (fun c v hc q=>k c v ?_ q) (fun _ q=>q) fun _ _ q=>q
  rcases hc with z | z
  ·rw[z];exact nit b u e
  ·exact nit c _ z
theorem Inv.tok (I:Inv X pins σ H s)(t:Nat):Inv X pins σ H { s with toks:=t }:=I.un (h':=s.heap) (t':=t) Un.refl I.hok
theorem Inv.kept (I:Inv X pins σ H s)(k:∀ b u,s.heap.get? b=some u->h'.get? b=some u):Inv X pins σ H { s with heap:=h',toks:=t' }:=I.un (Un.kept k) (I.hok.kept k)
theorem Inv.laid {o:HO}(I:Inv X pins σ H s)(k:∀ b u,s.heap.get? b=some u->h'.get? b=some u)(hp:s.heap.objs.size<=a)(new:W1 X.prog X.w (upd H a o) h' a o) :
  Inv X pins σ (upd H a o) { s with heap:=h',toks:=t' }:=I.un (Un.laid k hp (I.hok.fresh hp)) (I.hok.laid k hp new)
theorem Inv.write {x e:Addr}{o:HO}(I:Inv X pins σ H s)(mu:Mut (H x))(he:e=x\/H e=some (.own x))(k:∀ b u,b≠e->s.heap.get? b=some u->h'.get? b=some u)(heo:∃ u,h'.get? e=some u)
  (new:W1 X.prog X.w (upd H x o) h' x o):Inv X pins σ (upd H x o) { s with heap:=h',toks:=t' }:=I.un (Un.write mu he k heo) (I.hok.write mu he k heo new)
theorem Inv.pins_of {pins':List (Addr × Obj)}(I:Inv X pins σ H s)(h:∀ p∈pins',s.heap.get? p.1=some p.2/\H p.1=none/\p.1≠X.env.locals/\p.1∉X.fs/\∀ v,p.2.data≠.cell v):Inv X pins' σ H s:=
 ⟨I.ok,I.os,I.bare,I.base,I.loc,I.cell,I.free,I.freeC,fun p hp=>(A7.mp hp).elim (fun z=>I.pin p (G8 _ z)) (h p),I.hok,I.len⟩
theorem aY9 (hN:N.Nodup)(a:N[i]?=some x)(b:N[j]?=some x):i=j:=by
 obtain⟨h1,e1⟩:=j5.mp a
 obtain⟨h2,e2⟩:=j5.mp b
 exact(List.getElem_inj hN).mp (e1.trans e2.symm)
theorem aJ8 {v:V}{Q:Unit->Shared->Prop}(I:Inv X pins σ H s)(hN:X.N.Nodup)(hi:X.N[i]?=some x)(hx:Loc X.env.scope x)(r:RelV v u)
  (h:∀ s',Inv X pins (σ.set i (some v)) H s'->(∃ a,Heap.SameBut a s.heap s'.heap/\(a=X.env.locals\/X.env.cells.lookup x=some a))->Q () s')(hf:X.fn x=true\/X.env.scope.names.lookup x=some .local:=by first | exact .inl rfl | exact .inr rfl | assumption):p9 M A (storeName X.env x u) Q E s:=by
 obtain⟨m,hn,hl⟩:=id I.loc
 have hcls:(X.env.scope.kind == .class || (X.env.scope.kind == .module && X.env.locals != X.env.globals))=false:=by rw[I.ok.kind];rfl
 have hiσ:i<σ.length:=by rw[I.len];exact(j5.mp hi).1
 have cne:=I.cne
 have tracked:∀ {a:Addr} {h':Heap},(∃ o,s.heap.get? a=some o/\H a=none)->Heap.SameBut a s.heap h'->HOk X.prog X.w H h':=fun {a h'} ha hs b ob e=>by
  obtain⟨_,_,hfree⟩:=ha
  refine(I.hok b ob e).stay (fun c w' hc q=>(hs.2 c ?_).trans q) (fun _ q=>q) fun _ _ q=>q
  rintro rfl
  rcases hc with rfl | hc
  ·rw[hfree]at e;cases e
  ·rw[hfree]at hc;cases hc
 rcases hx with hk | hk
 ·refine wpAny_storeName_local hk hn (fun h' hn' hs=>?_) hcls
  obtain⟨oL,_,_,hoL,_⟩:=id hn
  refine h _ ⟨I.ok,I.os,I.bare,⟨fun b o e n hb hx=>?_,fun b o e n hb hx=>?_,I.base.free,fun b o e hx=>?_,I.base.tups,I.base.frzs,I.base.tbls⟩,⟨_,hn',fun j y v' e1 e2 e3=>?_⟩,fun y c e=>?_,I.free,I.freeC,fun p hp=>?_,tracked ⟨oL,hoL,I.free⟩ hs,by simpa using I.len⟩ ⟨_,hs,.inl rfl⟩
  ·exact(hs.2 b (l6 (p7 (d6 e) I.ok.above))).trans (I.base.keep b o e n hb hx)
  ·obtain⟨sl,e1⟩:=I.base.slot b o e n hb hx
   exact⟨sl,(hs.2 b (l6 (p7 (d6 e) I.ok.above))).trans e1⟩
  ·obtain⟨o',e1⟩:=I.base.there b o e hx
   exact⟨o',(hs.2 b (l6 (p7 (d6 e) I.ok.above))).trans e1⟩
  ·by_cases hj:j=i
   ·subst hj
    rw[hi]at e1;cases e1
    rw[bt3 hiσ]at e2
    cases e2
    exact⟨u,r,.inl ⟨hk,by simp⟩⟩
   ·rw[ae3 (Ne.symm hj)]at e2
    obtain⟨u',r',q⟩:=hl j y v' e1 e2 e3
    refine⟨u',r',?_⟩
    rcases q with⟨k,e⟩ | ⟨k,c,e,z⟩
    ·refine .inl ⟨k,?_⟩
     have:y≠x:=fun e=>hj (aY9 hN e1 (e ▸ hi))
     simp[this,e]
    ·exact .inr ⟨k,c,e,z.sameBut hs (cne y c e)⟩
  ·obtain⟨w',z⟩:=I.cell y c e
   exact⟨w',z.sameBut hs (cne y c e)⟩
  ·obtain⟨e,n,ne,nf,d⟩:=I.pin p hp
   exact⟨(hs.2 p.1 ne).trans e,n,ne,nf,d⟩
 ·have hfn:X.fn x=true:=by
   rcases hf with z | z
   ·exact z
   ·rw[z]at hk;cases hk
  obtain⟨c,hc⟩:=I.ok.has x (.inl hk)
  obtain⟨w',z⟩:=I.cell x c hc
  refine wpAny_storeName_cell I.ok.kind hk hc z (fun h' hc' hs=>?_)
  obtain⟨oc,hoc,hocd⟩:=id z
  refine h { s with heap:=h' } ⟨I.ok,I.os,I.bare,⟨fun b o e n hb hx=>?_,fun b o e n hb hx=>?_,I.base.free,fun b o e hx=>?_,I.base.tups,I.base.frzs,I.base.tbls⟩,⟨m,hn.sameBut hs (Ne.symm (cne x c hc)),fun j y v' e1 e2 e3=>?_⟩,fun y c' e=>?_,I.free,I.freeC,fun p hp=>?_,tracked ⟨oc,hoc,I.freeC x c hc⟩ hs,by simpa using I.len⟩ ⟨c,hs,.inr hc⟩
  ·exact(hs.2 b (l6 (p7 (d6 e) (I.ok.cab x c hfn hc)))).trans (I.base.keep b o e n hb hx)
  ·obtain⟨sl,e1⟩:=I.base.slot b o e n hb hx
   exact⟨sl,(hs.2 b (l6 (p7 (d6 e) (I.ok.cab x c hfn hc)))).trans e1⟩
  ·obtain⟨o',e1⟩:=I.base.there b o e hx
   exact⟨o',(hs.2 b (l6 (p7 (d6 e) (I.ok.cab x c hfn hc)))).trans e1⟩
  ·by_cases hj:j=i
   ·subst hj
    rw[hi]at e1;cases e1
    rw[bt3 hiσ]at e2
    cases e2
    exact⟨u,r,.inr ⟨.inl hk,c,hc,hc'⟩⟩
   ·rw[ae3 (Ne.symm hj)]at e2
    obtain⟨u',r',q⟩:=hl j y v' e1 e2 e3
    refine⟨u',r',?_⟩
    rcases q with q | ⟨k,c',e,z'⟩
    ·exact .inl q
    ·refine .inr ⟨k,c',e,z'.sameBut hs ?_⟩
     rintro rfl
     exact hj (aY9 hN e1 (I.ok.inj _ _ _ e hc ▸ hi))
  ·by_cases hcc:c'=c
   ·subst hcc;exact⟨_,hc'⟩
   ·obtain⟨w2,z2⟩:=I.cell y c' e
    exact⟨w2,z2.sameBut hs hcc⟩
  ·obtain⟨e,n,ne,nf,d⟩:=I.pin p hp
   refine⟨(hs.2 p.1 ?_).trans e,n,ne,nf,d⟩
   intro q
   rw[q,hoc]at e
   have q':oc=p.2:=Option.some.inj e
   exact d w' (by rw[<- q'];exact hocd)
theorem aC8 {v:V}{Q:Unit->Shared->Prop}(I:Inv X pins σ H s)(hN:X.N.Nodup)(hi:X.N[i]?=some x)(hx:Loc X.env.scope x)(r:RelV v u)
  (h:∀ s',Inv X pins (σ.set i (some v)) H s'->Q () s')(hf:X.fn x=true\/X.env.scope.names.lookup x=some .local:=by first | exact .inl rfl | exact .inr rfl | assumption):p9 M A (storeName X.env x u) Q E s:=
 aJ8 I hN hi hx r (fun s' I' _=>h s' I') hf
theorem Inv.call' {s':Shared}{ch:List Addr}(I:Inv X pins σ H s)(ho:s'.os=s.os)(u:Un (frs X.stack) ch H H' s.heap s'.heap)(hok:HOk X.prog X.w H' s'.heap)(hg:ay9 s'.gens)
  (hch:∀ b∈ch,(b∈X.ex\/X.s₀.heap.objs.size<=b)/\b≠X.env.locals/\(∀ x c,X.env.cells.lookup x=some c->c≠b)/\∀ p∈X.pn++pins,p.1≠b):Inv X pins σ H' s':=by
 obtain⟨h',g',d',t',o'⟩:=s'
 have e:o'=s.os:=ho
 subst e
 exact I.call (g':=g') (t':=t') (d':=d') u hok hg hch
end
abbrev XK:=Value->Option Addr->Hp->Prop
abbrev St:=List (Option V)
abbrev VK:=V->Hp->Prop
abbrev TE:=St->Hp->VK->Prop
abbrev TT:=St->Hp->(Bool->Hp->Prop)->Prop
abbrev TA:=St->Hp->(List V->Hp->Prop)->Prop
structure Ends where
 nx:St->Hp->Prop
 rt:VK
 bk:St->Hp->Prop:=fun _ _=>False
 ct:St->Hp->Prop:=fun _ _=>False
abbrev TS:=Ends->St->Hp->Prop
def EP (X:Cx)(pins:List (Addr × Obj))(σ:St)(Q:VK)(u:Value)(s':Shared):Prop:=∃ v H',Inv X pins σ H' s'/\RelV v u/\Q v H'
def TP (X:Cx)(pins:List (Addr × Obj))(σ:St)(Q:Bool->Hp->Prop)(b:Bool)(s':Shared):Prop:=∃ H',Inv X pins σ H' s'/\Q b H'
def AP (X:Cx)(pins:List (Addr × Obj))(σ:St)(Q:List V->Hp->Prop)(us:List Value)(s':Shared):Prop:=∃ vs H',Inv X pins σ H' s'/\D3 vs us/\Q vs H'
def SP (X:Cx)(pins:List (Addr × Obj))(D:Ends)(f:Flow)(s':Shared):Prop:=
 match f with
 | .next=>∃ σ' H',Inv X pins σ' H' s'/\D.nx σ' H'
 | .brk=>∃ σ' H',Inv X pins σ' H' s'/\D.bk σ' H'
 | .cont=>∃ σ' H',Inv X pins σ' H' s'/\D.ct σ' H'
 | .ret u=>∃ v σ' H',Inv X pins σ' H' s'/\RelV v u/\D.rt v H'
def PE (X:Cx)(e:Expr)(t:TE):Prop:=
 ∀ (pins:List (Addr × Obj)) (s:Shared) (σ:St) (H:Hp) (Q:VK),Inv X pins σ H s->t σ H Q->p9 (x8 X.prog X.w) X.A (eval e X.env) (EP X pins σ Q) X.xe s
def PT (X:Cx)(e:Expr)(t:TT):Prop:=
 ∀ (pins:List (Addr × Obj)) (s:Shared) (σ:St) (H:Hp) (Q:Bool->Hp->Prop),Inv X pins σ H s->t σ H Q->p9 (x8 X.prog X.w) X.A (isTrue e X.env (eval e X.env)) (TP X pins σ Q) X.xe s
def PW (X:Cx)(e:Expr)(t:TT):Prop:=
 ∀ (whole:Sem Value) (pins:List (Addr × Obj)) (s:Shared) (σ:St) (H:Hp) (Q:Bool->Hp->Prop),Inv X pins σ H s->t σ H Q->p9 (x8 X.prog X.w) X.A (isTrue e X.env whole) (TP X pins σ Q) X.xe s
theorem PW.pt {X:Cx}{t:TT}(h:PW X e t):PT X e t:=h _
def PA (X:Cx)(es:List Expr)(t:TA):Prop:=
 ∀ (pos:Pos) (pins:List (Addr × Obj)) (s:Shared) (σ:St) (H:Hp) (Q:List V->Hp->Prop),Inv X pins σ H s->t σ H Q->p9 (x8 X.prog X.w) X.A (spliced (N6 pos (u4 es X.env))) (AP X pins σ Q) X.xe s
def PS (X:Cx)(st:Stmt)(t:TS):Prop:=
 ∀ (pins:List (Addr × Obj)) (s:Shared) (σ:St) (H:Hp) (D:Ends),Inv X pins σ H s->t D σ H->p9 (x8 X.prog X.w) X.A (exec st X.env) (SP X pins D) X.xe s
def PSs (X:Cx)(st:List Stmt)(t:TS):Prop:=
 ∀ (pins:List (Addr × Obj)) (s:Shared) (σ:St) (H:Hp) (D:Ends),Inv X pins σ H s->t D σ H->p9 (x8 X.prog X.w) X.A (execs st X.env) (SP X pins D) X.xe s
theorem thn {α:Type}{t:Sem α}{Q Q':α->Shared->Prop}(h:p9 M A t Q E s)(hQ:∀ a s,Q a s->Q' a s):p9 M A t Q' E s:=E3 h hQ fun _ _ x=>x
end L2
variable {X:L2.Cx}{r:L2.V->List L2.V->L2.Hp->L2.VK->Prop}{ta te:L2.TE}
namespace L2
open PySem PySem.Spec PyProof.Rows
section
def ce6 (i:Nat):TE:=fun σ H Q=>∃ v,σ[i]?=some (some v)/\Q v H
def tC (v:V):TE:=fun _ H Q=>Q v H
theorem bx9 (hN:X.N[i]?=some x)(hv:Vis X.env.scope x)(hd:(x == ("__debug__":Str))=false:=by decide)(hcd:(x == ("__classdict__":Str))=false:=by decide):PE X (.Name x pos) (ce6 i):=by
 intro pins s σ H Q I h
 obtain⟨v,e,h⟩:=h
 obtain⟨m,hn,hl⟩:=I.loc
 obtain⟨u,r,l⟩:=hl i x v hN e hv
 have fin:EP X pins σ Q u s:=⟨v,H,I,r,h⟩
 rcases l with⟨hk,hm⟩ | ⟨hk,c,hc,hcell⟩
 ·exact wpAny_Name (cc8 I.ok.kind hk hn hm fin) hd
 ·rcases hk with hk | hk
  ·exact wpAny_Name (cd7 I.ok.kind hk hc hcell fin) hd
  ·exact wpAny_Name (wpAny_loadName_free I.ok.kind hk hc hcell fin hcd) hd
theorem i6 {i j pos}:PE X (.Constant (.int i) j pos) (tC (.int i)):=fun _ _ _ H _ I h=>wpAny_Constant_int ⟨.int i,H,I.tok _,⟨_,rfl⟩,h⟩
theorem by3 {b j pos}:PE X (.Constant (.bool b) j pos) (tC (.bl b)):=fun _ _ _ H _ I h=>Constant_bool ⟨.bl b,H,I,rfl,h⟩
theorem aw3 {j pos}:PE X (.Constant .none j pos) (tC .non):=fun _ _ _ H _ I h=>Constant_none ⟨.non,H,I,rfl,h⟩
theorem U2 {x j pos}:PE X (.Constant (.str x) j pos) (tC (.str x)):=fun _ _ _ H _ I h=>Calls.Constant_str ⟨.str x,H,I.tok _,⟨_,rfl⟩,h⟩
def Gl (X:Cx)(x:Str):Prop:=X.env.kindOf x=some .globalImplicit
theorem at8 {σ:St}(I:Inv X pins σ H s)(hg:Gl X x)(hm:X.mg x=some u)(h:Q u s)
  (hd:(x == ("__debug__":Str))=false:=by decide):p9 (x8 X.prog X.w) X.A (eval (.Name x pos) X.env) Q E s :=
 Calls.Name_function_global I.ok.kind hg (Calls.loadGlobal_global (by rw[I.ok.glob];exact I.mod.glob.keeps I.bk) hm h) hd
theorem Z8 {σ:St}(I:Inv X pins σ H s)(hg:Gl X x)(hm:X.mg x=none)(hv:L5 x=some u)(h:Q u s)
  (hn:x≠"__name__":=by decide)(hd:(x == ("__debug__":Str))=false:=by decide):p9 (x8 X.prog X.w) X.A (eval (.Name x pos) X.env) Q E s:=by
 obtain⟨mb,h1,h2⟩:=I.mod.blt
 exact Calls.Name_function_global I.ok.kind hg (Calls.loadGlobal_builtin (by rw[I.ok.glob];exact I.mod.glob.keeps I.bk) hm (by rw[I.ok.blt];exact h1.keeps I.bk) ((h2 x hn).trans hv) h) hd
theorem an9 {v:V}(hg:Gl X x)(hm:X.mg x=some u)(r:RelV v u)(hd:(x == ("__debug__":Str))=false:=by decide):PE X (.Name x pos) (tC v) :=
 fun _ _ _ H _ I h=>at8 I hg hm ⟨v,H,I,r,h⟩ hd
variable {a b:Expr} {tb:TE}
def tB (t:TE):TT:=fun σ H Q=>t σ H fun x H1=>∃ c,x=.bl c/\Q c H1
theorem ar0 {t:TE}(h:PE X e t)(he:∀ whole,isTrue e X.env whole=(do let v <- whole;standAt e.pos;aI5 [v] (truthy v)):=by intro _;rfl):PT X e (tB t):=by
 intro pins s σ H Q I hw
 refine isTrue_plain (thn (h pins s σ H _ I hw) fun v s1 ⟨x,H1,I1,r1,q1⟩=>?_) (he _)
 obtain⟨d,rfl,q⟩:=q1
 cases r1
 exact N7 ⟨H1,I1,q⟩
variable {tA tB':TT} {rest:List Expr}
def tOr (t u:TT):TT:=fun σ H Q=>t σ H fun c H1=>if c=true then Q true H1 else u σ H1 Q
def cl2 (t:TT):TT:=fun σ H Q=>t σ H fun c H1=>Q (!c) H1
theorem bf3 (ha:PT X a tA):PW X (.BoolOp .Or [a] pos) tA:=by
 intro wh pins s σ H Q I h
 refine isTrue_or (thn (ha pins s σ H Q I h) fun c s1 e=>?_)
 cases c with
 | false=>exact isTrue_or_nil e
 | true=>exact e
theorem bx4 (ha:PT X a tA)(hb:PW X (.BoolOp .Or (b::rest) pos) tB'):PW X (.BoolOp .Or (a::b::rest) pos) (tOr tA tB'):=by
 intro wh pins s σ H Q I h
 refine isTrue_or (thn (ha pins s σ H _ I h) fun c s1 ⟨H1,I1,q1⟩=>?_)
 cases c with
 | true=>exact⟨H1,I1,q1⟩
 | false=>exact hb wh pins s1 σ H1 Q I1 q1
theorem ab8 (ha:PT X a tA):PT X (.UnaryOp .Not a pos) (cl2 tA):=by
 intro pins s σ H Q I h
 exact isTrue_not (ha pins s σ H (fun c H1=>Q (!c) H1) I h)
def cf7 (ta tb:TE):TE:=fun σ H Q=>ta σ H fun x H1=>∃ c,x=.bl c/\if c=true then tb σ H1 Q else Q (.bl false) H1
theorem bX6 {op}{t:TE}(h:PE X a t):PE X (.BoolOp op [a] pos) t:=fun pins s σ H Q I hw=>BoolOp_one (h pins s σ H Q I hw)
theorem bX8 (ha:PE X a ta)(hb:PE X (.BoolOp .And (b::rest) pos) tb):PE X (.BoolOp .And (a::b::rest) pos) (cf7 ta tb):=by
 intro pins s σ H Q I h
 refine BoolOp_and (thn (ha pins s σ H _ I h) fun v s1 ⟨x,H1,I1,r1,q1⟩=>?_)
 obtain⟨c,rfl,q1⟩:=q1
 cases r1
 refine N7 ?_
 cases c with
 | true=>exact hb pins s1 σ H1 Q I1 q1
 | false=>exact⟨.bl false,H1,I1,rfl,q1⟩
def tIf (t:TT)(ta tb:TE):TE:=fun σ H Q=>t σ H fun c H1=>if c=true then ta σ H1 Q else tb σ H1 Q
theorem aX8 {c:Expr}(hc:PT X c tA)(ha:PE X a ta)(hb:PE X b tb):PE X (.IfExp c a b pos) (tIf tA ta tb):=by
 intro pins s σ H Q I h
 refine wpAny_IfExp (thn (hc pins s σ H _ I h) fun d s1 ⟨H1,I1,q1⟩=>?_)
 cases d with
 | true=>exact ha pins s1 σ H1 Q I1 q1
 | false=>exact hb pins s1 σ H1 Q I1 q1
end
def SqL (K:W.Frag)(H:Hp)(a:Addr)(xs:List V):Prop:=
 Rd H a (.lst xs) \/
  ∃ (o:Obj) (its:Array Value) (n:Nat),K.lookup a=some o/\o.cls=.type "list"/\o.dict=none/\o.data=.seq its n/\its.size<=j8/\D3 xs its.toList
def SqT (K:W.Frag)(H:Hp)(a:Addr)(xs:List V):Prop:=
 Rd H a (.tup xs) \/
  ∃ (o:Obj) (its:Array Value) (n:Nat),K.lookup a=some o/\o.cls=.type "tuple"/\o.data=.seq its n/\its.size<=j8/\D3 xs its.toList
def cn1:Value->Option V
 | .none=>some .non
 | .bool b=>some (.bl b)
 | .int i _=>some (.int i)
 | .str x _=>some (.str x)
 | .bytes b _=>some (.byt b)
 | .float b _=>some (.flt b)
 | .ref a=>some (.ref a)
 | .type n=>some (.ty n)
 | _=>none
theorem RelV.abs {x:V}(r:RelV x u):cn1 u=some x:=by
 cases x with
 | non=>cases r;rfl
 | bl _=>cases r;rfl
 | int _=>obtain⟨t,rfl⟩:=r;rfl
 | str _=>obtain⟨t,rfl⟩:=r;rfl
 | byt _=>obtain⟨t,rfl⟩:=r;rfl
 | flt _=>obtain⟨t,rfl⟩:=r;rfl
 | ref _=>cases r;rfl
 | ty _=>cases r;rfl
theorem RelV.inj {x y:V}(r:RelV x u)(q:RelV y u):x=y:=Option.some.inj (r.abs.symm.trans q.abs)
theorem D3.inj:∀ {xs ys:List V} {us:List Value},D3 xs us->D3 ys us->xs=ys
 | _,_,_,.nil,.nil=>rfl
 | _,_,_,.cons r t,.cons r' t'=>by rw[r.inj r',D3.inj t t']
section
variable {σ:St}
theorem SqL.of {K:W.Frag}(h:H a=some (.lst xs)):SqL K H a xs:=.inl (.inl h)
theorem SqT.of {K:W.Frag}(h:H a=some (.tup xs)):SqT K H a xs:=.inl (.inl h)
theorem Inv.list (I:Inv X pins σ H s)(h:SqL X.K H a xs):∃ its:List Value,D3 xs its/\PlainL s.heap a its.toArray/\xs.length<=j8:=by
 rcases h with h | ⟨o,its,n,hk,hc,hd,hs,hz,r⟩
 ·obtain⟨z,its,n,r,e⟩:=h.ok I.hok
  exact⟨its,r,⟨_,n,e,rfl,rfl,rfl⟩,z⟩
 ·refine⟨its.toList,r,⟨o,n,I.kIn a o hk,hc,hd,by simpa using hs⟩,?_⟩
  have e:=r.length
  simp only[l4]at e
  omega
theorem Inv.tuple (I:Inv X pins σ H s)(h:SqT X.K H a xs):∃ its:List Value,D3 xs its/\IsTup s.heap a its.toArray/\xs.length<=j8:=by
 rcases h with h | ⟨o,its,n,hk,hc,hs,hz,r⟩
 ·obtain⟨z,its,r,p⟩:=h.ok I.hok
  exact⟨its,r,p,z⟩
 ·refine⟨its.toList,r,⟨o,I.kIn a o hk,hc,n,by simpa using hs⟩,?_⟩
  have e:=r.length
  simp only[l4]at e
  omega
theorem Inv.list_inj (I:Inv X pins σ H s)(h:SqL X.K H a xs)(h':SqL X.K H a ys):xs=ys:=by
 obtain⟨its,r,⟨o,n,e,_,_,d⟩,_⟩:=I.list h
 obtain⟨its',r',⟨o',n',e',_,_,d'⟩,_⟩:=I.list h'
 rw[e]at e';cases e'
 rw[d]at d'
 injection d' with d1 _
 have:its=its':=by simpa using congrArg Array.toList d1
 subst this
 exact r.inj r'
theorem Inv.tuple_inj (I:Inv X pins σ H s)(h:SqT X.K H a xs)(h':SqT X.K H a ys):xs=ys:=by
 obtain⟨its,r,⟨o,e,_,n,d⟩,_⟩:=I.tuple h
 obtain⟨its',r',⟨o',e',_,n',d'⟩,_⟩:=I.tuple h'
 rw[e]at e';cases e'
 rw[d]at d'
 injection d' with d1 _
 have:its=its':=by simpa using congrArg Array.toList d1
 subst this
 exact r.inj r'
end
abbrev Cx.wish (X:Cx)(E:Value->Shared->Prop):Cx:={ X with xe:=E }
abbrev Cx.nox (X:Cx):Cx:=X.wish fun _ _=>False
theorem Cx.Ok.wish (ok:X.Ok)(E:Value->Shared->Prop):(X.wish E).Ok:=
 ⟨ok.mod,ok.kind,ok.glob,ok.blt,ok.above,ok.inj,ok.has,ok.cab,ok.hd,ok.frames,ok.stk,ok.exf,ok.bs,ok.bsz,ok.noex,ok.exfs,ok.funs,ok.frf⟩
theorem Cx.Ok.unwish (ok:(X.wish E).Ok):X.Ok:=
 ⟨ok.mod,ok.kind,ok.glob,ok.blt,ok.above,ok.inj,ok.has,ok.cab,ok.hd,ok.frames,ok.stk,ok.exf,ok.bs,ok.bsz,ok.noex,ok.exfs,ok.funs,ok.frf⟩
section
variable {σ:St}
theorem Inv.wish (I:Inv X pins σ H s)(E:Value->Shared->Prop):Inv (X.wish E) pins σ H s:=⟨I.ok.wish E,I.os,I.bare,I.base,I.loc,I.cell,I.free,I.freeC,I.pin,I.hok,I.len⟩
theorem Inv.unwish (I:Inv (X.wish E) pins σ H s):Inv X pins σ H s:=⟨I.ok.unwish,I.os,I.bare,I.base,I.loc,I.cell,I.free,I.freeC,I.pin,I.hok,I.len⟩
theorem SP.unwish {D:Ends}{f:Flow}{s':Shared}(h:SP (X.wish E) pins D f s'):SP X pins D f s':=by
 cases f with
 | next=>obtain⟨σ',H',I,q⟩:=h;exact⟨σ',H',I.unwish,q⟩
 | brk=>obtain⟨σ',H',I,q⟩:=h;exact⟨σ',H',I.unwish,q⟩
 | cont=>obtain⟨σ',H',I,q⟩:=h;exact⟨σ',H',I.unwish,q⟩
 | ret u=>obtain⟨v,σ',H',I,r,q⟩:=h;exact⟨v,σ',H',I.unwish,r,q⟩
theorem PSs.nox {st:List Stmt}{t:TS}(h:PSs X.nox st t):PSs X st t:=fun pins s σ H D I hw =>
 E3 (h pins s σ H D (I.wish _) hw) (fun _ _ q=>q.unwish) fun _ _ z=>False.elim z
end
section
variable {st:Stmt} {rest:List Stmt} {t u:TS}
def cf1:TS:=fun D σ H=>D.nx σ H
def ck9 (t u:TS):TS:=fun D σ H=>t { D with nx:=u D } σ H
theorem F1:PSs X [] cf1:=fun _ _ σ H _ I h=>aj4 ⟨σ,H,I,h⟩
theorem j0 (h1:PS X st t)(h2:PSs X rest u):PSs X (st::rest) (ck9 t u):=by
 intro pins s σ H D I h
 refine bc8 (thn (h1 pins s σ H { D with nx:=u D } I h) fun f s1 q=>?_)
 cases f with
 | next =>
  obtain⟨σ',H',I',q⟩:=q
  exact h2 pins s1 σ' H' D I' q
 | ret v=>exact q
 | brk=>exact q
 | cont=>exact q
theorem o5 (h1:PS X st t):PSs X [st] t:=by
 intro pins s σ H D I h
 refine bc8 (thn (h1 pins s σ H D I h) fun f s1 q=>?_)
 cases f with
 | next=>exact aj4 q
 | ret v=>exact q
 | brk=>exact q
 | cont=>exact q
theorem Inv.quiet {σ:St}(I:Inv X pins σ H s):interactive X.env=false:=by simp[interactive,I.ok.kind]
def cf4 (te:TE):TS:=fun D σ H=>te σ H fun _ H1=>D.nx σ H1
theorem S5 (he:PE X e te)(hs:swapsWith e none pos.line X.env=pure false:=by rfl):PS X (.Expr e pos) (cf4 te):=by
 intro pins s σ H D I h
 exact wpAny_Expr_any (thn (he pins s σ H _ I h) fun v s1 ⟨x,H1,I1,r1,q1⟩=>⟨σ,H1,I1,q1⟩) I.quiet hs
def cl0 (te:TE):TS:=fun D σ H=>te σ H D.rt
theorem C1 (he:PE X e te):PS X (.Return (some e) pos) (cl0 te):=by
 intro pins s σ H D I h
 exact wpAny_Return_some (thn (he pins s σ H _ I h) fun v s1 ⟨x,H1,I1,r1,q1⟩=>⟨x,σ,H1,I1,r1,q1⟩)
def cl4 (c:TT)(t u:TS):TS:=fun D σ H=>c σ H fun b H1=>if b=true then t D σ H1 else u D σ H1
theorem N1 {c:Expr}{a b:List Stmt}{tc:TT}(hc:PT X c tc)(ha:PSs X a t)(hb:PSs X b u):PS X (.If c a b pos) (cl4 tc t u):=by
 intro pins s σ H D I h
 refine wpAny_If (thn (hc pins s σ H _ I h) fun d s1 ⟨H1,I1,q1⟩=>?_)
 cases d with
 | true=>exact ha pins s1 σ H1 D I1 q1
 | false=>exact hb pins s1 σ H1 D I1 q1
def bV5:TS:=fun _ _ _=>False
theorem K5 {sts:List Stmt}:PSs X sts bV5:=fun _ _ _ _ _ _ h=>h.elim
end
abbrev TG:=V->St->Hp->(St->Hp->Prop)->Prop
abbrev TGs:=List V->St->Hp->(St->Hp->Prop)->Prop
def PG (X:Cx)(target:Expr)(t:TG):Prop:=
 ∀ (pins:List (Addr × Obj)) (s:Shared) (σ:St) (H:Hp) (v:V) (u:Value) (Q:St->Hp->Prop),Inv X pins σ H s->RelV v u->t v σ H Q ->
  p9 (x8 X.prog X.w) X.A (bT3 target X.env u) (fun _ s'=>∃ σ' H',Inv X pins σ' H' s'/\Q σ' H') X.xe s
def PGs (X:Cx)(ts:List Expr)(t:TGs):Prop:=
 ∀ (pins:List (Addr × Obj)) (s:Shared) (σ:St) (H:Hp) (vs:List V) (us:List Value) (Q:St->Hp->Prop),Inv X pins σ H s->D3 vs us->t vs σ H Q ->
  p9 (x8 X.prog X.w) X.A (assignInOrder ((ai6 ts X.env).map (·.2)) us) (fun _ s'=>∃ σ' H',Inv X pins σ' H' s'/\Q σ' H') X.xe s
abbrev bE6:=V->V->V->Hp->(Hp->Prop)->Prop
def cc0 (X:Cx)(t:bE6):Prop:=
 ∀ (pins:List (Addr × Obj)) (s:Shared) (σ:St) (H:Hp) (o i v:V) (ov iv u:Value) (Q:Hp->Prop),Inv X pins σ H s->RelV o ov->RelV i iv->RelV v u->t o i v H Q ->
  p9 (x8 X.prog X.w) X.A (setItem ov iv u) (fun _ s'=>∃ H',Inv X pins σ H' s'/\Q H') X.xe s
abbrev TIp:=V->V->Hp->VK->Prop
def PIp (X:Cx)(op:Operator)(t:TIp):Prop:=
 ∀ (pins:List (Addr × Obj)) (s:Shared) (σ:St) (H:Hp) (x y:V) (v u:Value) (Q:VK),Inv X pins σ H s->RelV x v->RelV y u->t x y H Q ->
  p9 (x8 X.prog X.w) X.A (inplaceOp op v u) (EP X pins σ Q) X.xe s
def aG0 (i:Nat):TG:=fun v σ H Q=>Q (σ.set i (some v)) H
theorem B0 (hN:X.N.Nodup)(hi:X.N[i]?=some x)(hx:Loc X.env.scope x)(hf:X.fn x=true\/X.env.scope.names.lookup x=some .local:=by first | exact .inl rfl | exact .inr rfl | assumption):PG X (.Name x pos) (aG0 i):=by
 intro pins s σ H v u Q I r h
 exact wpAny_assign_Name (aC8 I hN hi hx r (fun s' I'=>⟨_,H,I',h⟩) hf)
def cn0:TGs:=fun vs σ H Q=>vs=[]/\Q σ H
def cj1 (t:TG)(u:TGs):TGs:=fun vs σ H Q=>∃ v r,vs=v::r/\t v σ H fun σ' H'=>u r σ' H' Q
theorem ah5:PGs X [] cn0:=by
 intro pins s σ H vs us Q I r h
 obtain⟨e,h⟩:=h
 subst e
 cases r
 exact assignInOrder_nil ⟨σ,H,I,h⟩
theorem L9 {t:TG}{u:TGs}(h1:PG X e t)(h2:PGs X es u)
  (hs:(ai6 (e::es) X.env).map (·.2)=bT3 e X.env::(ai6 es X.env).map (·.2):=by rfl):PGs X (e::es) (cj1 t u):=by
 intro pins s σ H vs us Q I r h
 obtain⟨v,vr,e1,h⟩:=h
 subst e1
 cases r with
 | cons r rr =>
  rw[hs]
  refine assignInOrder_cons (thn (h1 pins s σ H _ _ _ I r h) fun _ s1 ⟨σ1,H1,I1,q1⟩=>?_)
  exact h2 pins s1 σ1 H1 _ _ Q I1 rr q1
def cj0 (K:W.Frag)(n:Nat)(t:TGs):TG:=fun v σ H Q=>∃ a xs,v=.ref a/\SqT K H a xs/\xs.length=n/\t xs σ H Q
theorem aQ1 {k:Nat}{t:TGs}(hc:X.calm=true)(h:PGs X es t)
  (hn:(ai6 es X.env).length=n:=by rfl)(hst:(ai6 es X.env).findIdx? (·.1)=none:=by rfl):PG X (.Tuple es k pos) (cj0 X.K n t):=by
 intro pins s σ H v u Q I r hw
 obtain⟨a,xs,e1,hq,hl,hw⟩:=hw
 subst e1
 cases r
 obtain⟨its,rv,ht,hz⟩:=I.tuple hq
 refine assign_Tuple_tuple (I.ok.hd hc) ht (by simp[hn,<- hl,rv.length]) hst fun h' hx=>?_
 have I1:Inv X pins σ H { s with heap:=h' }:=I.kept (t':=s.toks) fun b o e=>hx b o (l6 (d6 e)) e
 exact h pins _ σ H xs _ Q I1 (by simpa using rv) hw
def cm9 (to ti:TE)(t:bE6):TG:=fun v σ H Q=>to σ H fun o H1=>ti σ H1 fun i H2=>t o i v H2 fun H3=>Q σ H3
theorem bf6 {i:Expr} {to ti:TE} {t:bE6} (ho:PE X o to) (hi:PE X i ti) (hs:cc0 X t)
  (ha : ∀ v, bT3 (.Subscript o i pos) X.env v = (do
   let ov <- aI5 [v] (eval o X.env)
   let iv <- aI5 [v,ov] (eval i X.env)
   standAt pos
   aI5 [v,ov,iv] (setItem ov iv v)
   release [v,ov,iv] []):=by intro _;rfl):PG X (.Subscript o i pos) (cm9 to ti t):=by
 intro pins s σ H v u Q I r h
 rw[ha]
 refine b7 (C9 (thn (ho pins s σ H _ I h) fun ov s1 ⟨x,H1,I1,r1,q1⟩=>?_))
 refine b7 (C9 (thn (hi pins s1 σ H1 _ I1 q1) fun iv s2 ⟨y,H2,I2,r2,q2⟩=>?_))
 refine b7 (ag8 (b7 (C9 (thn (hs pins s2 σ H2 x y v ov iv u _ I2 r1 r2 r q2) fun _ s3 ⟨H3,I3,q3⟩=>?_))))
 exact wpAny_release ⟨σ,H3,I3,q3⟩
def cf6 (te:TE)(g:TG):TS:=fun D σ H=>te σ H fun x H1=>g x σ H1 D.nx
theorem bf4 {g:TG}(he:PE X e te)(hg:PG X tg g)(hs:swapsWithSole [tg] e pos.line X.env=pure false:=by rfl)(hw:swappedStores [tg] e X.env=pure none:=by rfl)
  (h1:(ai6 [tg] X.env).map (·.2)=[bT3 tg X.env]:=by rfl):PS X (.Assign [tg] e pos) (cf6 te g):=by
 intro pins s σ H D I h
 refine wpAny_Assign_stores (thn (he pins s σ H _ I h) fun v s1 ⟨x,H1,I1,r1,q1⟩=>?_) hs hw
 rw[h1]
 exact thn (hg pins s1 σ H1 x v _ I1 r1 q1) fun _ s2 q=>q
theorem A9 {pos':Pos}(hN:X.N.Nodup)(hi:X.N[i]?=some x)(hx:Loc X.env.scope x)(he:PE X e te)(hs:swapsWith e (some (.Name x pos')) pos.line X.env=pure false:=by rfl)(hf:X.fn x=true\/X.env.scope.names.lookup x=some .local:=by first | exact .inl rfl | exact .inr rfl | assumption) :
  PS X (.Assign [.Name x pos'] e pos) (cf6 te (aG0 i)):=by
 intro pins s σ H D I h
 refine wpAny_Assign_Name (thn (he pins s σ H _ I h) fun v s1 ⟨y,H1,I1,r1,q1⟩=>?_) hs
 exact aC8 I1 hN hi hx r1 (fun s2 I2=>⟨_,H1,I2,q1⟩) hf
def cl7 (i:Nat)(te:TE)(ti:TIp):TS:=fun D σ H=>∃ x,σ[i]?=some (some x)/\te σ H fun y H1=>ti x y H1 fun z H2=>D.nx (σ.set i (some z)) H2
theorem bx5 {op:Operator}{ti:TIp}{pos':Pos}(hN:X.N.Nodup)(hi:X.N[i]?=some x)(hx:Loc X.env.scope x)(he:PE X e te)(ho:PIp X op ti)(hf:X.fn x=true\/X.env.scope.names.lookup x=some .local:=by first | exact .inl rfl | exact .inr rfl | assumption) :
  PS X (.AugAssign (.Name x pos') op e pos) (cl7 i te ti):=by
 intro pins s σ H D I h
 obtain⟨v,e1,h⟩:=h
 obtain⟨m,hn,hl⟩:=I.loc
 have vis:Vis X.env.scope x:=by rcases hx with k | k;exact .inl k;exact .inr (.inl k)
 obtain⟨u,r,l⟩:=hl i x v hi e1 vis
 refine wpAny_AugAssign_Name ?_
 have go:p9 (x8 X.prog X.w) X.A (eval e X.env) (fun w s₂=>p9 (x8 X.prog X.w) X.A (inplaceOp op u w) (fun r s₃=>p9 (x8 X.prog X.w) X.A (storeName X.env x r) (fun _=>SP X pins D .next) X.xe s₃) X.xe s₂) X.xe s:=by
  refine thn (he pins s σ H _ I h) fun w s1 ⟨y,H1,I1,r1,q1⟩=>?_
  refine thn (ho pins s1 σ H1 v y u w _ I1 r r1 q1) fun z s2 ⟨zv,H2,I2,r2,q2⟩=>?_
  exact aC8 I2 hN hi hx r2 (fun s3 I3=>⟨_,H2,I3,q2⟩) hf
 rcases l with⟨hk,hm⟩ | ⟨hk,c,hc,hcell⟩
 ·exact cc8 I.ok.kind hk hn hm go
 ·rcases hk with hk | hk
  ·exact cd7 I.ok.kind hk hc hcell go
  ·rcases hx with k | k
   ·have:X.env.scope.names.lookup x=some .free:=hk
    rw[k]at this;cases this
   ·have:X.env.scope.names.lookup x=some .free:=hk
    rw[k]at this;cases this
def cf5 (to ti te:TE)(tget:V->V->Hp->VK->Prop)(tip:TIp)(tset:bE6):TS:=fun D σ H=>to σ H fun o H1=>ti σ H1 fun i H2=>tget o i H2 fun x H3=>te σ H3 fun y H4=>tip x y H4 fun z H5=>tset o i z H5 fun H6=>D.nx σ H6
def ck4 (X:Cx)(t:V->V->Hp->VK->Prop):Prop:=
 ∀ (pins:List (Addr × Obj)) (s:Shared) (σ:St) (H:Hp) (o i:V) (ov iv:Value) (Q:VK),Inv X pins σ H s->RelV o ov->RelV i iv->t o i H Q ->
  p9 (x8 X.prog X.w) X.A (bG6 ov iv) (EP X pins σ Q) X.xe s
theorem aA7 {i:Expr}{to ti:TE}{tget:V->V->Hp->VK->Prop}{tip:TIp}{tset:bE6}{op:Operator}{tpos:Pos}(ho:PE X o to)(hi:PE X i ti)(hg:ck4 X tget)(he:PE X e te)(hp:PIp X op tip)(hs:cc0 X tset)
  (ha:∀ ov iv new,augStore i ov iv new=(do aI5 [new,ov,iv] (setItem ov iv new);release [new,ov,iv] [];pure .next):=by intros;rfl):PS X (.AugAssign (.Subscript o i tpos) op e pos) (cf5 to ti te tget tip tset):=by
 intro pins s σ H D I h
 refine wpAny_AugAssign_SubscriptAny (thn (ho pins s σ H _ I h) fun ov s1 ⟨x1,H1,I1,r1,q1⟩=>?_) ha
 refine thn (hi pins s1 σ H1 _ I1 q1) fun iv s2 ⟨x2,H2,I2,r2,q2⟩=>?_
 refine thn (hg pins s2 σ H2 x1 x2 ov iv _ I2 r1 r2 q2) fun old s3 ⟨x3,H3,I3,r3,q3⟩=>?_
 refine thn (he pins s3 σ H3 _ I3 q3) fun v s4 ⟨x4,H4,I4,r4,q4⟩=>?_
 refine thn (hp pins s4 σ H4 x3 x4 old v _ I4 r3 r4 q4) fun new s5 ⟨x5,H5,I5,r5,q5⟩=>?_
 exact thn (hs pins s5 σ H5 x1 x2 x5 ov iv new _ I5 r1 r2 r5 q5) fun _ s6 ⟨H6,I6,q6⟩=>⟨σ,H6,I6,q6⟩
def ipI (f:Int->Int->Int):TIp:=fun x y H Q=>∃ i j,x=.int i/\y=.int j/\Q (.int (f i j)) H
theorem aR5:PIp X .Add (ipI fun i j=>i+j):=by
 intro pins s σ H x y v u Q I r1 r2 h
 obtain⟨i,j,e1,e2,q⟩:=h
 subst e1;subst e2
 obtain⟨t,rfl⟩:=r1
 obtain⟨t',rfl⟩:=r2
 exact iadd_int ⟨.int _,H,I.tok _,⟨_,rfl⟩,q⟩
def bV1 (c:TT)(tb:TS):TS:=fun D σ H=>∃ W:Nat->St->Hp->Prop,(∃ m,W m σ H)/\∀ m σ H,W m σ H ->
 c σ H fun b H1=>if b=true then ∃ N:St->Hp->Prop,(∀ σ' H',N σ' H'->∃ m',m'<m/\W m' σ' H')/\tb { D with nx:=N,ct:=N,bk:=D.nx } σ H1 else D.nx σ H1
theorem aX5 {c:Expr}{body:List Stmt}{tc:TT}{tb:TS}(hp:PassesOwn (x8 X.prog X.w) X.A X.env X.xe)(hc:PT X c tc)(hb:PSs X body tb):PS X (.While c body [] pos) (bV1 tc tb):=by
 intro pins s σ H D I h
 obtain⟨W,⟨m0,w0⟩,turn⟩:=h
 refine wpAny_While (codeAny_whileLoop (fun n s'=>∃ σ' H',Inv X pins σ' H' s'/\W n σ' H') ?_ m0 ⟨σ,H,I,w0⟩)
 rintro n s1 ⟨σ1,H1,I1,w1⟩
 refine V0 hp (thn (hc pins s1 σ1 H1 _ I1 (turn n σ1 H1 w1)) fun b s2 ⟨H2,I2,q2⟩=>?_)
 cases b with
 | true =>
  obtain⟨N,hN,q2⟩:=q2
  rw[if_pos rfl]
  refine V0 hp (thn (hb pins s2 σ1 H2 _ I2 q2) fun f s3 q3=>?_)
  cases f with
  | next =>
   obtain⟨σ3,H3,I3,n3⟩:=q3
   obtain⟨m',hm,w3⟩:=hN σ3 H3 n3
   exact⟨m',hm,σ3,H3,I3,w3⟩
  | cont =>
   obtain⟨σ3,H3,I3,n3⟩:=q3
   obtain⟨m',hm,w3⟩:=hN σ3 H3 n3
   exact⟨m',hm,σ3,H3,I3,w3⟩
  | brk=>exact q3
  | ret v=>exact q3
 | false =>
  rw[if_neg k7]
  exact aj4 ⟨σ1,H2,I2,q2⟩
structure It where
 go:Nat->Hp->Prop
 yld:Nat->Hp->V->Hp->Prop
 stop:Nat->Hp->Prop
def S6 (X:Cx)(pins:List (Addr × Obj))(H:Hp)(b:Addr):Prop:=
 H b=none/\b≠X.env.locals/\b∉X.fs/\(b∈X.ex\/X.s₀.heap.objs.size<=b)/\(∀ x c,X.env.cells.lookup x=some c->c≠b)/\∀ p∈X.pn++pins,p.1≠b
theorem Inv.fpOk {σ:St}{b:Addr}(I:Inv X pins σ H s)(hb:s.heap.objs.size<=b)(hn:H' b=none):S6 X pins H' b:=by
 refine⟨hn,L0 (p7 I.lt hb),I.nofs hb,.inr (A8 I.sz hb),fun x c e z=>?_,fun p hp z=>?_⟩
 ·obtain⟨v,q⟩:=I.cell x c e
  exact absurd (p7 q.lt (by rw[z];exact hb)) (C7 _)
 ·exact absurd (p7 (d6 (I.pin p hp).1) (by rw[z];exact hb)) (C7 _)
structure Turn (P:Program) (w:World) (K:W.Frag) (tg:Expr) (J:It) (fp:List Addr) (it:Addr) (tn:Nat->Heap->Prop):Prop where
 mem:it∈fp
 obj:∀ i h,tn i h->∀ b∈fp,∃ o,h.get? b=some o/\∀ v,o.data≠.cell v
 keep:∀ i h h',tn i h->(∀ b∈fp,∀ o,h.get? b=some o->h'.get? b=some o)->tn i h'
 item:∀ (X:Cx),X.prog=P->X.w=w->X.K=K->X.calm=true->∀ (i:Nat) (pins:List (Addr × Obj)) (s:Shared) (σ:St) (H:Hp) (E:Value->Shared->Prop),Inv X pins σ H s->(∀ b∈fp,S6 X pins H b)->tn i s.heap->J.go i H ->
  p9 (x8 P w) X.A (aM9 (.ref it)) (fun r s1=>∃ u,r=some u /\
   p9 (x8 P w) X.A (bn7 tg (.ref it) u) (fun _ s2=>∃ x H',Inv X pins σ H' s2/\RelV x u/\J.yld i H x H'/\tn (i+1) s2.heap/\∀ b∈fp,H' b=none) E s1) E s
 done:∀ (X:Cx),X.prog=P->X.w=w->X.K=K->X.calm=true->∀ (i:Nat) (pins:List (Addr × Obj)) (s:Shared) (σ:St) (H:Hp) (E:Value->Shared->Prop),Inv X pins σ H s->(∀ b∈fp,S6 X pins H b)->tn i s.heap->J.stop i H ->
  p9 (x8 P w) X.A (aM9 (.ref it)) (fun r s1=>r=none/\Inv X pins σ H s1) E s
 self:∀ (A:Around) (i:Nat) (s:Shared) (Q:Value->Shared->Prop) (E:Value->Shared->Prop),tn i s.heap->Q (.ref it) s->p9 (x8 P w) A (pyIter (.ref it)) Q E s
abbrev TI:=St->Hp->(It->Hp->Prop)->Prop
def PIE (X:Cx)(pins:List (Addr × Obj))(σ:St)(tg:Expr)(R:It->Hp->Prop)(itv:Value)(s2:Shared):Prop:=
 ∃ (it:Addr) (fp:List Addr) (tn:Nat->Heap->Prop) (J:It) (H':Hp),itv=.ref it/\Inv X pins σ H' s2/\Turn X.prog X.w X.K tg J fp it tn/\tn 0 s2.heap/\(∀ b∈fp,S6 X pins H' b)/\R J H'
def PI (X:Cx)(tg iter:Expr)(wi:TI):Prop:=
 ∀ (pins:List (Addr × Obj)) (s:Shared) (σ:St) (H:Hp) (R:It->Hp->Prop),Inv X pins σ H s->wi σ H R ->
  p9 (x8 X.prog X.w) X.A (eval iter X.env) (fun v s1=>p9 (x8 X.prog X.w) X.A (pyIter v) (PIE X pins σ tg R) X.xe s1) X.xe s
theorem bB7 {it:Addr} {o:Obj} {n:String} {vs:Array Value} {Q:Unit->Shared->Prop} (ho:s.heap.get? it=some o) (hc:o.cls=.type n) (hd:o.data=.fields vs)
    (hn:["enumerate","zip","dict_itemiterator","dict_reverseitemiterator","odict_iterator","itertools.zip_longest","itertools.pairwise"].contains n=false) (hQ:Q () s):p9 M A (bn7 tg (.ref it) u) Q E s:=by
  unfold bn7
  cases tg<;>first
    | exact d4 hQ
    | (cases u<;>first
        | exact d4 hQ
        | (refine b7 (wpAny_load ho ?_)
           rw[hc,hd]
           show p9 M A (if (["enumerate","zip","dict_itemiterator","dict_reverseitemiterator","odict_iterator","itertools.zip_longest","itertools.pairwise"].contains n && vs[0]? == some (ac5 _))=true then _ else _) Q E s
           rw[if_neg (by intro h;rw[hn,Bool.false_and]at h;cases h)]
           exact d4 hQ))
def Itl (K:W.Frag)(a:Addr):It:=
 ⟨fun i H=>∃ xs x,SqL K H a xs/\xs[i]?=some x,fun i H x H'=>H'=H/\∀ xs,SqL K H a xs->xs[i]?=some x,fun i H=>∃ xs,SqL K H a xs/\xs.length<=i⟩
def Itt (K:W.Frag)(a:Addr):It:=
 ⟨fun i H=>∃ xs x,SqT K H a xs/\xs[i]?=some x,fun i H x H'=>H'=H/\∀ xs,SqT K H a xs->xs[i]?=some x,fun i H=>∃ xs,SqT K H a xs/\xs.length<=i⟩
def Itr (lo:Int)(n:Nat):It:=⟨fun i _=>i<n,fun i H x H'=>H'=H/\x=.int (lo+i),fun i _=>n<=i⟩
theorem bo9 {K:W.Frag}(a it:Addr):Turn P w K tg (Itl K a) [it] it (fun i h=>h.IsListIter it a i) where
 mem:=by simp
 obj:=fun i h st b hb=>by
  have e:b=it:=by simpa using hb
  subst e
  obtain⟨o,e,c,d⟩:=st
  exact⟨o,e,fun v z=>by rw[d]at z;cases z⟩
 keep:=fun i h h' st k=>st.at fun o e=>k it (by simp) o e
 item:=by
  intro X hP hw hK hc i pins s σ H E I hf st hg
  subst hP hw hK
  obtain⟨xs,x,hq,hx⟩:=hg
  obtain⟨its,rv,p,hz⟩:=I.list hq
  obtain⟨u,hu,ru⟩:=rv.get hx
  obtain⟨f0,f1,f2,f3,f4,f5⟩:=hf it (by simp)
  refine wpAny_pyNext_list_item st p.isList (x:=u) (by simpa using hu) fun h' st' sb=>?_
  have I1:Inv X pins σ H { s with heap:=h' }:=I.turned (t':=s.toks) (fun b o hb e=>(sb.2 b hb).trans e) f0 f1 f3 f4 f5
  obtain⟨o,e,c,d⟩:=id st'
  exact⟨u,rfl,bB7 (s:={ s with heap:=h' }) e c d (by decide) ⟨x,H,I1,ru,⟨rfl,fun ys hy=>by rw[I.list_inj hy hq];exact hx⟩,st',fun b hb=>(hf b hb).1⟩⟩
 done:=by
  intro X hP hw hK hc i pins s σ H E I hf st hg
  subst hP hw hK
  obtain⟨xs,hq,hx⟩:=hg
  obtain⟨its,rv,p,hz⟩:=I.list hq
  obtain⟨f0,f1,f2,f3,f4,f5⟩:=hf it (by simp)
  have hl:=rv.length
  exact wpAny_pyNext_list_end (I.ok.hd hc) st p.isList (by simp;omega) fun h' eb=>⟨rfl,I.turned (t':=s.toks) (fun b o hb e=>eb b o hb e) f0 f1 f3 f4 f5⟩
 self:=fun _ _ _ _ _ st h=>wpAny_pyIter_listiter st h
theorem bd3 {K:W.Frag}(a it:Addr):Turn P w K tg (Itt K a) [it] it (fun i h=>h.IsTupleIter it a i) where
 mem:=by simp
 obj:=fun i h st b hb=>by
  have e:b=it:=by simpa using hb
  subst e
  obtain⟨o,e,c,d⟩:=st
  exact⟨o,e,fun v z=>by rw[d]at z;cases z⟩
 keep:=fun i h h' st k=>st.at fun o e=>k it (by simp) o e
 item:=by
  intro X hP hw hK hc i pins s σ H E I hf st hg
  subst hP hw hK
  obtain⟨xs,x,hq,hx⟩:=hg
  obtain⟨its,rv,p,hz⟩:=I.tuple hq
  obtain⟨u,hu,ru⟩:=rv.get hx
  obtain⟨f0,f1,f2,f3,f4,f5⟩:=hf it (by simp)
  refine wpAny_pyNext_tuple_item st (show s.heap.IsTuple a its.toArray from p) (x:=u) (by simpa using hu) fun h' st' sb=>?_
  have I1:Inv X pins σ H { s with heap:=h' }:=I.turned (t':=s.toks) (fun b o hb e=>(sb.2 b hb).trans e) f0 f1 f3 f4 f5
  obtain⟨o,e,c,d⟩:=id st'
  exact⟨u,rfl,bB7 (s:={ s with heap:=h' }) e c d (by decide) ⟨x,H,I1,ru,⟨rfl,fun ys hy=>by rw[I.tuple_inj hy hq];exact hx⟩,st',fun b hb=>(hf b hb).1⟩⟩
 done:=by
  intro X hP hw hK hc i pins s σ H E I hf st hg
  subst hP hw hK
  obtain⟨xs,hq,hx⟩:=hg
  obtain⟨its,rv,p,hz⟩:=I.tuple hq
  obtain⟨f0,f1,f2,f3,f4,f5⟩:=hf it (by simp)
  have hl:=rv.length
  exact wpAny_pyNext_tuple_end (I.ok.hd hc) st (show s.heap.IsTuple a its.toArray from p) (by simp;omega) fun h' eb=>⟨rfl,I.turned (t':=s.toks) (fun b o hb e=>eb b o hb e) f0 f1 f3 f4 f5⟩
 self:=fun _ _ _ _ _ st h=>wpAny_pyIter_tupleiter st h
theorem bd4 {K:W.Frag}(it:Addr)(lo:Int)(n:Nat):Turn P w K tg (Itr lo n) [it] it (fun i h=>IsRangeIter h it (lo+(i:Nat)*1) ((n:Int) - (i:Nat)) 1) where
 mem:=by simp
 obj:=fun i h st b hb=>by
  have e:b=it:=by simpa using hb
  subst e
  exact⟨_,st,fun v z=>by
   have z':Data.fields _=Data.cell v:=z
   cases z'⟩
 keep:=fun i h h' st k=>k it (by simp) _ st
 item:=by
  intro X hP hw hK hc i pins s σ H E I hf st hg
  subst hP hw hK
  obtain⟨f0,f1,f2,f3,f4,f5⟩:=hf it (by simp)
  have W:=Walks.range (prog:=X.prog) (w:=X.w) (I.ok.hd hc) it lo 1 n
  refine W.item i s _ _ hg st fun v h' tk hv st' kk=>?_
  obtain⟨t,rfl⟩:=hv
  have I1:Inv X pins σ H { s with heap:=h',toks:=tk }:=I.turned (fun b o hb e=>kk b o (by simpa using hb) e) f0 f1 f3 f4 f5
  refine⟨_,rfl,bB7 (s:={ s with heap:=h',toks:=tk }) (n:="range_iterator") st' rfl rfl (by decide) ⟨.int (lo+i),H,I1,⟨t,?_⟩,⟨rfl,rfl⟩,st',fun b hb=>(hf b hb).1⟩⟩
  rw[K7]
 done:=by
  intro X hP hw hK hc i pins s σ H E I hf st hg
  subst hP hw hK
  obtain⟨f0,f1,f2,f3,f4,f5⟩:=hf it (by simp)
  exact wpAny_pyNext_range_end (I.ok.hd hc) st (by have:n<=i:=hg;omega) fun h' eb=>⟨rfl,I.turned (t':=s.toks) (fun b o hb e=>eb b o hb e) f0 f1 f3 f4 f5⟩
 self:=fun _ _ _ _ _ st h=>wpAny_pyIter_rangeiter st h
def ci6 (K:W.Frag)(tl:TE):TI:=fun σ H R=>tl σ H fun x H1=>∃ a,x=.ref a/\(∃ xs,SqL K H1 a xs)/\R (Itl K a) H1
def cm7 (K:W.Frag)(tl:TE):TI:=fun σ H R=>tl σ H fun x H1=>∃ a,x=.ref a/\(∃ xs,SqT K H1 a xs)/\R (Itt K a) H1
theorem aa5 {l:Expr}{tl:TE}(hl:PE X l tl):PI X tg l (ci6 X.K tl):=by
 intro pins s σ H R I h
 refine thn (hl pins s σ H _ I h) fun v s1 ⟨x,H1,I1,r1,q1⟩=>?_
 obtain⟨a,e,⟨xs,hq⟩,q⟩:=q1
 subst e
 cases r1
 obtain⟨its,rv,p,hz⟩:=I1.list hq
 refine Q8 p.isList ?_
 refine⟨s1.heap.objs.size,[s1.heap.objs.size],_,_,H1,rfl,I1.kept (t':=s1.toks) fun b o e=>c5 _ e,bo9 a _,⟨_,l5 _ rfl,rfl,rfl⟩,fun b hb=>?_,q⟩
 have e:b=s1.heap.objs.size:=by simpa using hb
 subst e
 exact I1.fpOk (c8 _) (I1.hok.fresh (c8 _))
theorem am0 {l:Expr}{tl:TE}(hl:PE X l tl):PI X tg l (cm7 X.K tl):=by
 intro pins s σ H R I h
 refine thn (hl pins s σ H _ I h) fun v s1 ⟨x,H1,I1,r1,q1⟩=>?_
 obtain⟨a,e,⟨xs,hq⟩,q⟩:=q1
 subst e
 cases r1
 obtain⟨its,rv,p,hz⟩:=I1.tuple hq
 refine an1 (show s1.heap.IsTuple a its.toArray from p) ?_
 refine⟨s1.heap.objs.size,[s1.heap.objs.size],_,_,H1,rfl,I1.kept (t':=s1.toks) fun b o e=>c5 _ e,bd3 a _,⟨_,l5 _ rfl,rfl,rfl⟩,fun b hb=>?_,q⟩
 have e:b=s1.heap.objs.size:=by simpa using hb
 subst e
 exact I1.fpOk (c8 _) (I1.hok.fresh (c8 _))
theorem aX3 {σ:St}{R:It->Hp->Prop}{lo hi:Int}{t u v:Tok}{tk:Nat}(I:Inv X pins σ H s)(h1:-(2 ^ 62)<=lo)(h2:lo<2 ^ 62)(h3:-(2 ^ 62)<=hi)(h4:hi<2 ^ 62)
  (q:R (Itr lo (hi - lo).toNat) H):p9 (x8 X.prog X.w) X.A (pyIter (.ref s.heap.objs.size)) (PIE X pins σ tg R) E { s with heap:=s.heap.push { cls:=.type "range",data:=.fields #[.int lo t,.int hi u,.int 1 v] },toks:=tk }:=by
 refine wpAny_pyIter_range (IsRange.new ..) (small_one h1 h2 h3 h4) ?_
 have I1:Inv X pins σ H { s with heap:=s.heap.push { cls:=.type "range",data:=.fields #[.int lo t,.int hi u,.int 1 v] },toks:=tk }:=I.kept fun b o e=>c5 _ e
 refine⟨(s.heap.push { cls:=.type "range",data:=.fields #[.int lo t,.int hi u,.int 1 v] }).objs.size,[(s.heap.push { cls:=.type "range",data:=.fields #[.int lo t,.int hi u,.int 1 v] }).objs.size],_,_,H,rfl,
  I1.kept (t':=tk) fun b o e=>c5 _ e,bd4 _ lo (hi - lo).toNat,?_,fun b hb=>?_,q⟩
 ·have e1:lo+((0:Nat):Int)*1=lo:=by simp
  have e2:(((hi - lo).toNat:Nat):Int) - ((0:Nat):Int)=Builtin.Range.rangeSize lo hi 1:=by rw[rangeSize_one];split<;>omega
  show IsRangeIter _ _ (lo+((0:Nat):Int)*1) ((((hi - lo).toNat:Nat):Int) - ((0:Nat):Int)) 1
  rw[e1,e2]
  exact l5 _ rfl
 ·have e:b=(s.heap.push { cls:=.type "range",data:=.fields #[.int lo t,.int hi u,.int 1 v] }).objs.size:=by simpa using hb
  subst e
  exact I1.fpOk (c8 _) (I1.hok.fresh (c8 _))
def ci5 (ta:TA):TI:=fun σ H R=>ta σ H fun vs H1=>∃ j:Int,vs=[.int j] /\ -(2 ^ 62)<=j/\j<2 ^ 62/\R (Itr 0 j.toNat) H1
def ci4 (ta:TA):TI:=fun σ H R=>ta σ H fun vs H1=>∃ i j:Int,vs=[.int i,.int j]/\(-(2 ^ 62)<=i/\i<2 ^ 62 /\ -(2 ^ 62)<=j/\j<2 ^ 62)/\R (Itr i (j - i).toNat) H1
theorem U7 {a:Expr}{ta:TA}{p:Pos}(hg:Gl X "range")(hm:X.mg "range"=none)(ha:PA X [a] ta)(hs:u4 [a] X.env=[(false,eval a X.env)]:=by rfl):PI X tg (.Call (.Name "range" p) [a] [] pos) (ci5 ta):=by
 intro pins s σ H R I h
 refine Call_ (Z8 I hg hm boot_range (PyProof.Rows.callWith_type1 (thn (ha pos pins s σ H _ I h) fun us s1 ⟨vs,H1,I1,r1,q1⟩=>?_) hs rfl))
 obtain⟨j,e,q1,q2,q⟩:=q1
 subst e
 cases r1 with
 | cons r rr =>
  cases rr
  obtain⟨t,rfl⟩:=r
  exact call_range_1 (aX3 I1 (by omega) (by omega) q1 q2 (by simpa using q))
theorem aK2 {a b:Expr}{ta:TA}{p:Pos}(hg:Gl X "range")(hm:X.mg "range"=none)(ha:PA X [a,b] ta)(hs:u4 [a,b] X.env=[(false,eval a X.env),(false,eval b X.env)]:=by rfl)(hs2:u4 [b] X.env=[(false,eval b X.env)]:=by rfl) :
  PI X tg (.Call (.Name "range" p) [a,b] [] pos) (ci4 ta):=by
 intro pins s σ H R I h
 refine Call_ (Z8 I hg hm boot_range (PyProof.Rows.callWith_type1 (thn (ha pos pins s σ H _ I h) fun us s1 ⟨vs,H1,I1,r1,q1⟩=>?_) (by rw[hs,hs2]) (by rw[hs2];rfl)))
 obtain⟨i,j,e,⟨q1,q2,q3,q4⟩,q⟩:=q1
 subst e
 cases r1 with
 | cons r rr =>
  cases rr with
  | cons r' rr =>
   cases rr
   obtain⟨t,rfl⟩:=r
   obtain⟨t',rfl⟩:=r'
   exact call_range_2 (aX3 I1 q1 q2 q3 q4 q)
def cl5 (wi:TI)(g:TG)(tb:TS):TS:=fun D σ H=>wi σ H fun J H1=>∃ W:Nat->Nat->St->Hp->Prop,(∃ m,W 0 m σ H1)/\∀ i m σ H,W i m σ H ->
 (J.stop i H/\D.nx σ H)\/(J.go i H/\∃ N:St->Hp->Prop,(∀ σ' H',N σ' H'->∃ m',m'<m/\W (i+1) m' σ' H')/\∀ x H',J.yld i H x H'->g x σ H' fun σ2 H2=>tb { D with nx:=N,ct:=N,bk:=D.nx } σ2 H2)
def ar1 (fp:List Addr)(h:Heap):List (Addr × Obj):=fp.filterMap fun b=>(h.get? b).map fun o=>(b,o)
theorem U4 {b:Addr}{o:Obj}(hb:b∈fp)(e:h.get? b=some o):(b,o)∈ar1 fp h:=aj0.mpr ⟨b,hb,by rw[e];rfl⟩
theorem bp9 {p:Addr × Obj}(hp:p∈ar1 fp h):p.1∈fp/\h.get? p.1=some p.2:=by
 obtain⟨b,hb,e⟩:=aj0.mp hp
 cases q:h.get? b with
 | none=>rw[q]at e;cases e
 | some o =>
  rw[q]at e
  have e':(b,o)=p:=Option.some.inj e
  subst e'
  exact⟨hb,q⟩
theorem Inv.pinned {σ:St}(I:Inv X pins σ H s)(hf:∀ b∈fp,S6 X pins H b)(ho:∀ b∈fp,∃ o,s.heap.get? b=some o/\∀ v,o.data≠.cell v):Inv X (pins++ar1 fp s.heap) σ H s:=
 I.pins_of fun p hp=>(A7.mp hp).elim (fun z=>I.pin p (m9 _ z)) fun z=>by
  obtain⟨hb,e⟩:=bp9 z
  obtain⟨f0,f1,f2,_⟩:=hf p.1 hb
  obtain⟨o,e',d⟩:=ho p.1 hb
  rw[e]at e';cases e'
  exact⟨e,f0,f1,f2,d⟩
theorem Inv.unpinned {pl:List (Addr × Obj)}{σ:St}(I:Inv X (pins++pl) σ H s):Inv X pins σ H s:=I.pins_of fun p hp=>I.pin p (m9 _ (G8 _ hp))
theorem ab9 {iter:Expr}{body:List Stmt}{wi:TI}{g:TG}{tb:TS}(hp:PassesOwn (x8 X.prog X.w) X.A X.env X.xe)(hc:X.calm=true)(hi:PI X tg iter wi)(hg:PG X tg g)(hb:PSs X body tb)
  (hs:∀ x,aq3 iter X.env x=pure x:=by intro _;rfl):PS X (.For tg iter body [] pos) (cl5 wi g tb):=by
 intro pins s σ H D I h
 refine wpAny_For (thn (hi pins s σ H _ I h) fun v s1 h1=>thn h1 fun itv s2 h2=>?_) hs
 obtain⟨it,fp,tn,J,H2,e,I2,T,st2,f2,W,⟨m0,w0⟩,turn⟩:=h2
 subst e
 have stat:∀ {H':Hp},(∀ b∈fp,H' b=none)->∀ b∈fp,S6 X pins H' b:=fun hn b hb=>⟨hn b hb,(f2 b hb).2⟩
 refine codeAny_forLoop_any (fun n s'=>∃ i σ' H',Inv X pins σ' H' s'/\tn i s'.heap/\(∀ b∈fp,H' b=none)/\W i n σ' H') ?_ m0 ⟨0,σ,H2,I2,st2,fun b hb=>(f2 b hb).1,w0⟩
 rintro n s3 ⟨i,σ3,H3,I3,st3,fr3,w3⟩
 rcases turn i n σ3 H3 w3 with⟨stop,qn⟩ | ⟨go,N,hN,step⟩
 ·refine V0 hp (thn (T.done X rfl rfl rfl hc i pins s3 σ3 H3 X.xe I3 (stat fr3) st3 stop) fun r s4 ⟨hr,I4⟩=>?_)
  subst hr
  exact aj4 ⟨σ3,H3,I4,qn⟩
 ·refine V0 hp (thn (T.item X rfl rfl rfl hc i pins s3 σ3 H3 X.xe I3 (stat fr3) st3 go) fun r s4 ⟨u,hr,h4⟩=>?_)
  subst hr
  refine V0 hp (thn h4 fun _ s5 ⟨x,H5,I5,r5,y5,st5,fr5⟩=>?_)
  have I5':=I5.pinned (stat fr5) (T.obj _ _ st5)
  refine V0 hp (thn (hg _ s5 σ3 H5 x u _ I5' r5 (step x H5 y5)) fun _ s6 ⟨σ6,H6,I6,q6⟩=>?_)
  refine V0 hp (thn (hb _ s6 σ6 H6 _ I6 q6) fun f s7 q7=>?_)
  have bT4:∀ {σ7:St} {H7:Hp},Inv X (pins++ar1 fp s5.heap) σ7 H7 s7->N σ7 H7->∃ m,m<n/\∃ i σ' H',Inv X pins σ' H' s7/\tn i s7.heap/\(∀ b∈fp,H' b=none)/\W i m σ' H':=fun {σ7 H7} I7 n7=>by
   obtain⟨m',hm,w7⟩:=hN σ7 H7 n7
   refine⟨m',hm,i+1,σ7,H7,I7.unpinned,T.keep _ _ _ st5 fun b hb o e=>(I7.pin (b,o) (m9 _ (m9 _ (U4 hb e)))).1,fun b hb=>?_,w7⟩
   obtain⟨o,e,d⟩:=T.obj _ _ st5 b hb
   exact(I7.pin (b,o) (m9 _ (m9 _ (U4 hb e)))).2.1
  cases f with
  | next=>obtain⟨σ7,H7,I7,n7⟩:=q7;exact bT4 I7 n7
  | cont=>obtain⟨σ7,H7,I7,n7⟩:=q7;exact bT4 I7 n7
  | brk=>obtain⟨σ7,H7,I7,q7⟩:=q7;exact⟨σ7,H7,I7.unpinned,q7⟩
  | ret v=>obtain⟨x7,σ7,H7,I7,r7,q7⟩:=q7;exact⟨x7,σ7,H7,I7.unpinned,r7,q7⟩
theorem bb1 {K:W.Frag}{g:TG}{tb:TS}{D:Ends}{σ:St}(Pv:Nat->St->Hp->Prop)(h0:Pv 0 σ H)(hl:∀ i σ H,i<=xs.length->Pv i σ H->SqL K H a xs)
  (hs:∀ i x σ H,xs[i]?=some x->Pv i σ H->g x σ H fun σ2 H2=>tb { D with nx:=Pv (i+1),ct:=Pv (i+1),bk:=D.nx } σ2 H2)(hd:∀ σ H,Pv xs.length σ H->D.nx σ H) :
  ∃ W:Nat->Nat->St->Hp->Prop,(∃ m,W 0 m σ H)/\∀ i m σ H,W i m σ H ->
   ((Itl K a).stop i H/\D.nx σ H)\/((Itl K a).go i H/\∃ N:St->Hp->Prop,(∀ σ' H',N σ' H'->∃ m',m'<m/\W (i+1) m' σ' H')/\∀ x H',(Itl K a).yld i H x H'->g x σ H' fun σ2 H2=>tb { D with nx:=N,ct:=N,bk:=D.nx } σ2 H2):=by
 refine⟨fun i m σ H=>m=xs.length - i/\i<=xs.length/\Pv i σ H,⟨xs.length,by simp,v9 _,h0⟩,?_⟩
 rintro i m σ H ⟨rfl,hi,p⟩
 have q:=hl i σ H hi p
 by_cases hlt:i<xs.length
 ·refine .inr ⟨⟨xs,xs[i],q,by simp[hlt]⟩,Pv (i+1),fun σ' H' p'=>⟨xs.length - (i+1),by omega,rfl,hlt,p'⟩,fun x H' y=>?_⟩
  obtain⟨e,y⟩:=y
  subst e
  exact hs i x σ _ (y xs q) p
 ·have e:i=xs.length:=by omega
  subst e
  exact .inl ⟨⟨xs,q,c8 _⟩,hd σ H p⟩
theorem aR7 {K:W.Frag}{g:TG}{tb:TS}{D:Ends}{σ:St}(Pv:Nat->St->Hp->Prop)(h0:Pv 0 σ H)(hl:∀ i σ H,i<=xs.length->Pv i σ H->SqT K H a xs)
  (hs:∀ i x σ H,xs[i]?=some x->Pv i σ H->g x σ H fun σ2 H2=>tb { D with nx:=Pv (i+1),ct:=Pv (i+1),bk:=D.nx } σ2 H2)(hd:∀ σ H,Pv xs.length σ H->D.nx σ H) :
  ∃ W:Nat->Nat->St->Hp->Prop,(∃ m,W 0 m σ H)/\∀ i m σ H,W i m σ H ->
   ((Itt K a).stop i H/\D.nx σ H)\/((Itt K a).go i H/\∃ N:St->Hp->Prop,(∀ σ' H',N σ' H'->∃ m',m'<m/\W (i+1) m' σ' H')/\∀ x H',(Itt K a).yld i H x H'->g x σ H' fun σ2 H2=>tb { D with nx:=N,ct:=N,bk:=D.nx } σ2 H2):=by
 refine⟨fun i m σ H=>m=xs.length - i/\i<=xs.length/\Pv i σ H,⟨xs.length,by simp,v9 _,h0⟩,?_⟩
 rintro i m σ H ⟨rfl,hi,p⟩
 have q:=hl i σ H hi p
 by_cases hlt:i<xs.length
 ·refine .inr ⟨⟨xs,xs[i],q,by simp[hlt]⟩,Pv (i+1),fun σ' H' p'=>⟨xs.length - (i+1),by omega,rfl,hlt,p'⟩,fun x H' y=>?_⟩
  obtain⟨e,y⟩:=y
  subst e
  exact hs i x σ _ (y xs q) p
 ·have e:i=xs.length:=by omega
  subst e
  exact .inl ⟨⟨xs,q,c8 _⟩,hd σ H p⟩
theorem ab4 {lo:Int}{g:TG}{tb:TS}{D:Ends}{σ:St}(Pv:Nat->St->Hp->Prop)(h0:Pv 0 σ H)
  (hs:∀ i σ H,i<n->Pv i σ H->g (.int (lo+i)) σ H fun σ2 H2=>tb { D with nx:=Pv (i+1),ct:=Pv (i+1),bk:=D.nx } σ2 H2)(hd:∀ σ H,Pv n σ H->D.nx σ H) :
  ∃ W:Nat->Nat->St->Hp->Prop,(∃ m,W 0 m σ H)/\∀ i m σ H,W i m σ H ->
   ((Itr lo n).stop i H/\D.nx σ H)\/((Itr lo n).go i H/\∃ N:St->Hp->Prop,(∀ σ' H',N σ' H'->∃ m',m'<m/\W (i+1) m' σ' H')/\∀ x H',(Itr lo n).yld i H x H'->g x σ H' fun σ2 H2=>tb { D with nx:=N,ct:=N,bk:=D.nx } σ2 H2):=by
 refine⟨fun i m σ H=>m=n - i/\i<=n/\Pv i σ H,⟨n,by simp,v9 _,h0⟩,?_⟩
 rintro i m σ H ⟨rfl,hi,p⟩
 by_cases hlt:i<n
 ·refine .inr ⟨hlt,Pv (i+1),fun σ' H' p'=>⟨n - (i+1),by omega,rfl,hlt,p'⟩,fun x H' y=>?_⟩
  obtain⟨e,y⟩:=y
  subst e y
  exact hs i σ _ hlt p
 ·have e:i=n:=by omega
  subst e
  exact .inl ⟨c8 _,hd σ H p⟩
abbrev R2:=V->V->Hp->VK->Prop
def OpR (X:Cx)(f:Value->Value->Sem Value)(r:R2):Prop:=
 ∀ (pins:List (Addr × Obj)) (s:Shared) (σ:St) (H:Hp) (x y:V) (v u:Value) (Q:VK),Inv X pins σ H s->RelV x v->RelV y u->r x y H Q ->
  p9 (x8 X.prog X.w) X.A (f v u) (EP X pins σ Q) X.xe s
def UnR (X:Cx)(f:Value->Sem Value)(r:V->Hp->VK->Prop):Prop:=
 ∀ (pins:List (Addr × Obj)) (s:Shared) (σ:St) (H:Hp) (x:V) (v:Value) (Q:VK),Inv X pins σ H s->RelV x v->r x H Q ->
  p9 (x8 X.prog X.w) X.A (f v) (EP X pins σ Q) X.xe s
def ac3 (X:Cx)(f:Value)(r:List V->Hp->VK->Prop):Prop:=
 ∀ (pins:List (Addr × Obj)) (s:Shared) (σ:St) (H:Hp) (xs:List V) (us:List Value) (Q:VK),Inv X pins σ H s->D3 xs us->r xs H Q ->
  p9 (x8 X.prog X.w) X.A (call f us) (EP X pins σ Q) X.xe s
def cn2 (X:Cx)(r:V->Hp->(Bool->Hp->Prop)->Prop):Prop:=
 ∀ (pins:List (Addr × Obj)) (s:Shared) (σ:St) (H:Hp) (x:V) (v:Value) (Q:Bool->Hp->Prop),Inv X pins σ H s->RelV x v->r x H Q ->
  p9 (x8 X.prog X.w) X.A (truthy v) (TP X pins σ Q) X.xe s
def tOp (r:R2)(ta tb:TE):TE:=fun σ H Q=>ta σ H fun x H1=>tb σ H1 fun y H2=>r x y H2 Q
def tUn (r:V->Hp->VK->Prop)(ta:TE):TE:=fun σ H Q=>ta σ H fun x H1=>r x H1 Q
def rI (C:Int->Int->Prop)(g:Int->Int->V):R2:=fun x y H Q=>∃ i j,x=.int i/\y=.int j/\C i j/\Q (g i j) H
def rI0 (g:Int->Int->V):R2:=fun x y H Q=>∃ i j,x=.int i/\y=.int j/\Q (g i j) H
def rU (g:Int->V):V->Hp->VK->Prop:=fun x H Q=>∃ i,x=.int i/\Q (g i) H
section
variable {a b c:Expr} {tb tc:TE}
theorem cb7 (ha:PE X a ta)(hb:PE X b tb){σ:St}{R:V->V->Hp->Prop}(I:Inv X pins σ H s)
  (h:ta σ H fun x H1=>tb σ H1 fun y H2=>R x y H2){f:Value->Value->Sem Value}
  (hf:∀ v u s2 x y H2,Inv X pins σ H2 s2->RelV x v->RelV y u->R x y H2->p9 (x8 X.prog X.w) X.A (f v u) Q X.xe s2) :
  p9 (x8 X.prog X.w) X.A (eval a X.env) (fun v s₁=>p9 (x8 X.prog X.w) X.A (eval b X.env) (fun u s₂=>p9 (x8 X.prog X.w) X.A (f v u) Q X.xe s₂) X.xe s₁) X.xe s:=by
 refine thn (ha pins s σ H _ I h) fun v s1 ⟨x,H1,I1,r1,q1⟩=>?_
 refine thn (hb pins s1 σ H1 _ I1 q1) fun u s2 ⟨y,H2,I2,r2,q2⟩=>?_
 exact hf v u s2 x y H2 I2 r1 r2 q2
theorem x9 {op:Operator}{r:R2}(ho:OpR X (ad0 op) r)(ha:PE X a ta)(hb:PE X b tb):PE X (.BinOp a op b pos) (tOp r ta tb):=by
 intro pins s σ H Q I h
 exact wpAny_BinOp (cb7 ha hb I h fun v u s2 x y H2 I2 rx ry q=>ho pins s2 σ H2 x y v u Q I2 rx ry q)
theorem ch5 {op:UnaryOp}{r:V->Hp->VK->Prop}(ho:UnR X (unaryOp op) r)(ha:PE X a ta):PE X (.UnaryOp op a pos) (tUn r ta):=by
 intro pins s σ H Q I h
 exact UnaryOp_ (thn (ha pins s σ H _ I h) fun v s1 ⟨x,H1,I1,r1,q1⟩=>ho pins s1 σ H1 x v Q I1 r1 q1)
theorem opI {f:Value->Value->Sem Value}{C:Int->Int->Prop}{g:Int->Int->Int}
  (rule:∀ (i j:Int) (t u:Tok) (s:Shared) (Q:Value->Shared->Prop) (E:Value->Shared->Prop),C i j->Q (.int (g i j) s.toks) { s with toks:=s.toks+1 }->p9 (x8 X.prog X.w) X.A (f (.int i t) (.int j u)) Q E s) :
  OpR X f (rI C fun i j=>.int (g i j)):=by
 intro pins s σ H x y v u Q I rx ry h
 obtain⟨i,j,rfl,rfl,hc,q⟩:=h
 obtain⟨t,rfl⟩:=rx
 obtain⟨t',rfl⟩:=ry
 exact rule i j t t' s _ _ hc ⟨.int (g i j),H,I.tok _,⟨_,rfl⟩,q⟩
theorem ch6 {f:Value->Value->Sem Value}{g:Int->Int->Int}
  (rule:∀ (i j:Int) (t u:Tok) (s:Shared) (Q:Value->Shared->Prop) (E:Value->Shared->Prop),Q (.int (g i j) s.toks) { s with toks:=s.toks+1 }->p9 (x8 X.prog X.w) X.A (f (.int i t) (.int j u)) Q E s) :
  OpR X f (rI0 fun i j=>.int (g i j)):=by
 intro pins s σ H x y v u Q I rx ry h
 obtain⟨i,j,rfl,rfl,q⟩:=h
 obtain⟨t,rfl⟩:=rx
 obtain⟨t',rfl⟩:=ry
 exact rule i j t t' s _ _ ⟨.int (g i j),H,I.tok _,⟨_,rfl⟩,q⟩
theorem bY3 {f:Value->Value->Sem Value}{g:Int->Int->Bool}
  (rule:∀ (i j:Int) (t u:Tok) (s:Shared) (Q:Value->Shared->Prop) (E:Value->Shared->Prop),Q (.bool (g i j)) s->p9 (x8 X.prog X.w) X.A (f (.int i t) (.int j u)) Q E s) :
  OpR X f (rI0 fun i j=>.bl (g i j)):=by
 intro pins s σ H x y v u Q I rx ry h
 obtain⟨i,j,rfl,rfl,q⟩:=h
 obtain⟨t,rfl⟩:=rx
 obtain⟨t',rfl⟩:=ry
 exact rule i j t t' s _ _ ⟨.bl (g i j),H,I,rfl,q⟩
def cn5 (i j:Int):Prop:=0<j/\j<1073741824
def cn4 (i j:Int):Prop:=0<=j/\j<=1000000/\i.natAbs<2 ^ 64
def cc2 (i j:Int):Prop:=(-(2 ^ 64)<i/\i<2 ^ 64)\/(-(2 ^ 64)<j/\j<2 ^ 64)
theorem cc2.ok {i j:Int}(h:cc2 i j):IntMulOk i j:=by
 rcases h with⟨h1,h2⟩ | ⟨h1,h2⟩
 ·exact .of_left (intBits_le_64 h1 h2)
 ·exact .of_right (intBits_le_64 h1 h2)
theorem U3:OpR X (ad0 .Add) (rI0 fun i j=>.int (i+j)):=ch6 fun _ _ _ _ _ _ _ q=>add_int q
theorem ah7:OpR X (ad0 .Sub) (rI0 fun i j=>.int (i - j)):=ch6 fun _ _ _ _ _ _ _ q=>sub_int q
theorem ah8:OpR X (ad0 .Mult) (rI cc2 fun i j=>.int (i*j)):=opI fun _ _ _ _ _ _ _ hc q=>mul_int q hc.ok
theorem Q5:OpR X (ad0 .FloorDiv) (rI cn5 fun i j=>.int (i / j)):=opI fun i j _ _ _ _ _ hc q=>by
 have h1:(0:Int)<j:=hc.1
 have h2:j<1073741824:=hc.2
 exact floordiv_int (by omega) (by rw[Int.fdiv_eq_ediv_of_nonneg i (by omega)];exact q) (.inl (PyProof.noPylong_small (by omega)))
theorem M8:OpR X (ad0 .Mod) (rI (fun _ j=>0<j) fun i j=>.int (i % j)):=opI fun i j _ _ _ _ _ hc q=>by
 have h1:(0:Int)<j:=hc
 exact mod_int' (by omega) (by rw[Int.fmod_eq_emod_of_nonneg i (by omega)];exact q)
theorem ar2:OpR X (ad0 .Pow) (rI cn4 fun i j=>.int (i ^ j.toNat)):=opI fun _ _ _ _ _ _ _ hc q=>pow_int_small hc.1 hc.2.1 hc.2.2 q
theorem unI {f:Value->Sem Value}{g:Int->Int}
  (rule:∀ (i:Int) (t:Tok) (s:Shared) (Q:Value->Shared->Prop) (E:Value->Shared->Prop),Q (.int (g i) s.toks) { s with toks:=s.toks+1 }->p9 (x8 X.prog X.w) X.A (f (.int i t)) Q E s) :
  UnR X f (rU fun i=>.int (g i)):=by
 intro pins s σ H x v Q I rx h
 obtain⟨i,rfl,q⟩:=h
 obtain⟨t,rfl⟩:=rx
 exact rule i t s _ _ ⟨.int (g i),H,I.tok _,⟨_,rfl⟩,q⟩
theorem bU6:UnR X (unaryOp .USub) (rU fun i=>.int (-i)):=unI fun _ _ _ _ _ q=>neg_int q
end
def bW4:V->V->Bool
 | .non,.non=>true | .non,.int _=>true | .int _,.non=>true | .non,.bl _=>true | .bl _,.non=>true | .non,.str _=>true | .str _,.non=>true
 | .int _,.int _=>true | .bl _,.bl _=>true | .str _,.str _=>true | .byt _,.byt _=>true
 | .int _,.str _=>true | .str _,.int _=>true | .bl _,.str _=>true | .str _,.bl _=>true
 | _,_=>false
def rEq:R2:=fun x y H Q=>bW4 x y=true/\Q (.bl (decide (x=y))) H
def rNe:R2:=fun x y H Q=>bW4 x y=true/\Q (.bl (!decide (x=y))) H
theorem bm4 {i j:Int}:decide (V.int i=V.int j)=(i == j):=by
 rw[ag3]
 simp
theorem bD1 {i j:Bool}:decide (V.bl i=V.bl j)=(i == j):=by
 rw[ag3]
 simp
theorem bm3 {i j:Str}:decide (V.str i=V.str j)=(i == j):=by
 rw[ag3]
 simp
theorem bm5 {i j:Array UInt8}:decide (V.byt i=V.byt j)=(i.toList == j.toList):=by
 rw[ag3]
 cases i
 cases j
 simp
section
variable {a b c:Expr} {tb tc:TE}
theorem F0 {σ:St}{Q:VK}{k k':Bool}(I:Inv X pins σ H s)(q:Q (.bl k) H)(e:k=k'):EP X pins σ Q (.bool k') s:=by
 subst e
 exact⟨.bl k,H,I,rfl,q⟩
theorem ai7:OpR X (K8 .Eq) rEq:=by
 intro pins s σ H x y v u Q I rx ry h
 obtain⟨hs,q⟩:=h
 cases x with
 | non =>
  cases rx
  cases y with
  | non=>cases ry;exact PySem.EqNone.eq_none_none (F0 I q (by simp))
  | bl j=>cases ry;exact PySem.EqNone.eq_none_bool (F0 I q (by simp))
  | int j=>obtain⟨t',rfl⟩:=ry;exact PySem.EqNone.eq_none_int (F0 I q (by simp))
  | str j=>obtain⟨t',rfl⟩:=ry;exact PySem.EqNone.eq_none_str (F0 I q (by simp))
  | _=>exact absurd (show false=true from hs) k7
 | bl i =>
  cases rx
  cases y with
  | non=>cases ry;exact PySem.EqNone.eq_bool_none (F0 I q (by simp))
  | bl j=>cases ry;exact eq_bool (F0 I q bD1)
  | str j=>obtain⟨t',rfl⟩:=ry;exact PySem.EqMixed.eq_bool_str (F0 I q (by simp))
  | _=>exact absurd (show false=true from hs) k7
 | int i =>
  obtain⟨t,rfl⟩:=rx
  cases y with
  | non=>cases ry;exact PySem.EqNone.eq_int_none (F0 I q (by simp))
  | int j=>obtain⟨t',rfl⟩:=ry;exact eq_int (F0 I q bm4)
  | str j=>obtain⟨t',rfl⟩:=ry;exact PySem.EqMixed.eq_int_str (F0 I q (by simp))
  | _=>exact absurd (show false=true from hs) k7
 | str i =>
  obtain⟨t,rfl⟩:=rx
  cases y with
  | non=>cases ry;exact PySem.EqNone.eq_str_none (F0 I q (by simp))
  | bl j=>cases ry;exact PySem.EqMixed.eq_str_bool (F0 I q (by simp))
  | int j=>obtain⟨t',rfl⟩:=ry;exact PySem.EqMixed.eq_str_int (F0 I q (by simp))
  | str j=>obtain⟨t',rfl⟩:=ry;exact eq_str (F0 I q bm3)
  | _=>exact absurd (show false=true from hs) k7
 | byt i =>
  obtain⟨t,rfl⟩:=rx
  cases y with
  | byt j=>obtain⟨t',rfl⟩:=ry;exact PySem.W.eq_bytes (F0 I q bm5)
  | _=>exact absurd (show false=true from hs) k7
 | _=>cases y<;>exact absurd (show false=true from hs) k7
theorem aY1:OpR X (K8 .NotEq) rNe:=by
 intro pins s σ H x y v u Q I rx ry h
 obtain⟨hs,q⟩:=h
 cases x with
 | non =>
  cases rx
  cases y with
  | non=>cases ry;exact PySem.EqNone.ne_none_none (F0 I q (by simp))
  | bl j=>cases ry;exact PySem.EqNone.ne_none_bool (F0 I q (by simp))
  | int j=>obtain⟨t',rfl⟩:=ry;exact PySem.EqNone.ne_none_int (F0 I q (by simp))
  | str j=>obtain⟨t',rfl⟩:=ry;exact PySem.EqNone.ne_none_str (F0 I q (by simp))
  | _=>exact absurd (show false=true from hs) k7
 | bl i =>
  cases rx
  cases y with
  | non=>cases ry;exact PySem.EqNone.ne_bool_none (F0 I q (by simp))
  | bl j=>cases ry;exact ne_bool (F0 I q (congrArg not bD1))
  | str j=>obtain⟨t',rfl⟩:=ry;exact PySem.EqMixed.ne_bool_str (F0 I q (by simp))
  | _=>exact absurd (show false=true from hs) k7
 | int i =>
  obtain⟨t,rfl⟩:=rx
  cases y with
  | non=>cases ry;exact PySem.EqNone.ne_int_none (F0 I q (by simp))
  | int j=>obtain⟨t',rfl⟩:=ry;exact ne_int (F0 I q (congrArg not bm4))
  | str j=>obtain⟨t',rfl⟩:=ry;exact PySem.EqMixed.ne_int_str (F0 I q (by simp))
  | _=>exact absurd (show false=true from hs) k7
 | str i =>
  obtain⟨t,rfl⟩:=rx
  cases y with
  | non=>cases ry;exact PySem.EqNone.ne_str_none (F0 I q (by simp))
  | bl j=>cases ry;exact PySem.EqMixed.ne_str_bool (F0 I q (by simp))
  | int j=>obtain⟨t',rfl⟩:=ry;exact PySem.EqMixed.ne_str_int (F0 I q (by simp))
  | str j=>obtain⟨t',rfl⟩:=ry;exact ne_str (F0 I q (congrArg not bm3))
  | _=>exact absurd (show false=true from hs) k7
 | byt i =>
  obtain⟨t,rfl⟩:=rx
  cases y with
  | byt j=>obtain⟨t',rfl⟩:=ry;exact PySem.W.ne_bytes (F0 I q (congrArg not bm5))
  | _=>exact absurd (show false=true from hs) k7
 | _=>cases y<;>exact absurd (show false=true from hs) k7
theorem aE3:OpR X (K8 .Lt) (rI0 fun i j=>.bl (decide (i<j))):=bY3 fun _ _ _ _ _ _ _ q=>lt_int q
theorem ad6:OpR X (K8 .LtE) (rI0 fun i j=>.bl (decide (i<=j))):=bY3 fun _ _ _ _ _ _ _ q=>le_int q
theorem by5:OpR X (K8 .Gt) (rI0 fun i j=>.bl (decide (j<i))):=bY3 fun _ _ _ _ _ _ _ q=>gt_int q
theorem bY0:OpR X (K8 .Is) (fun x y H Q=>y=.non/\Q (.bl (decide (x=.non))) H):=by
 intro pins s σ H x y v u Q I rx ry h
 obtain⟨rfl,q⟩:=h
 cases ry
 refine is_none_gen (F0 I q ?_)
 cases x<;>first
  | (cases rx;rfl)
  | (obtain⟨t,rfl⟩:=rx;rfl)
theorem aQ3:OpR X (K8 .IsNot) (fun x y H Q=>y=.non/\Q (.bl (!decide (x=.non))) H):=by
 intro pins s σ H x y v u Q I rx ry h
 obtain⟨rfl,q⟩:=h
 cases ry
 refine isnot_none_gen (F0 I q ?_)
 cases x<;>first
  | (cases rx;rfl)
  | (obtain⟨t,rfl⟩:=rx;rfl)
theorem E9 (b:Expr){op:CmpOp}(h:op≠.In:=by decide)(h2:op≠.NotIn:=by decide):aN0 op b=false:=by
 have e1:(op == CmpOp.In)=false:=by cases op<;>first | rfl | exact absurd rfl h
 have e2:(op == CmpOp.NotIn)=false:=by cases op<;>first | rfl | exact absurd rfl h2
 cases b<;>simp[aN0,e1,e2]
theorem aa6 {op:CmpOp}{r:R2}(ho:OpR X (K8 op) r)(ha:PE X a ta)(hb:PE X b tb)(hm:aN0 op b=false):PE X (.Compare a [op] [b] pos) (tOp r ta tb):=by
 intro pins s σ H Q I h
 exact wpAny_Compare1 (cb7 ha hb I h fun v u s2 x y H2 I2 rx ry q=>ho pins s2 σ H2 x y v u Q I2 rx ry q) hm
def bQ3 (t:TE):TT:=fun σ H Q=>t σ H fun x H'=>∃ k,x=.bl k/\Q k H'
theorem D6 {op:CmpOp}{r:R2}(ho:OpR X (K8 op) r)(ha:PE X a ta)(hb:PE X b tb)(hm:aN0 op b=false):PT X (.Compare a [op] [b] pos) (bQ3 (tOp r ta tb)):=by
 intro pins s σ H Q I h
 refine wpAny_isTrue_Compare1 (thn (ha pins s σ H _ I h) fun v s1 ⟨x,H1,I1,r1,q1⟩=>thn (hb pins s1 σ H1 _ I1 q1) fun u s2 ⟨y,H2,I2,r2,q2⟩ =>
  thn (ho pins s2 σ H2 x y v u _ I2 r1 r2 q2) fun c s3 ⟨z,H3,I3,r3,k,e,q3⟩=>?_) hm
 subst e
 cases r3
 exact N7 ⟨H3,I3,q3⟩
def bu3 (r r':R2)(ta tb tc:TE):TE:=fun σ H Q=>ta σ H fun x H1=>tb σ H1 fun y H2=>r x y H2 fun z H3=>∃ k,z=.bl k /\
 (if k=true then tc σ H3 fun w' H4=>r' y w' H4 Q else Q (.bl false) H3)
theorem aX9 {op op':CmpOp}{r r':R2}(ho:OpR X (K8 op) r)(ho':OpR X (K8 op') r')(ha:PE X a ta)(hb:PE X b tb)(hc:PE X c tc)
  (hm:lastMarks [op,op'] [b,c]=false:=by with_unfolding_all rfl):PE X (.Compare a [op,op'] [b,c] pos) (bu3 r r' ta tb tc):=by
 intro pins s σ H Q I h
 refine Compare_chain (thn (ha pins s σ H _ I h) fun v s1 ⟨x,H1,I1,r1,q1⟩=>chain_link (thn (hb pins s1 σ H1 _ I1 q1) fun u s2 ⟨y,H2,I2,r2,q2⟩ =>
  thn (ho pins s2 σ H2 x y v u _ I2 r1 r2 q2) fun d s3 ⟨z,H3,I3,r3,k,e,q3⟩=>?_)) hm
 subst e
 cases r3
 refine N7 ?_
 cases k with
 | false=>exact ite_ff ⟨.bl false,H3,I3,rfl,q3⟩
 | true=>exact ite_tt (chain_last (thn (hc pins s3 σ H3 _ I3 q3) fun w' s4 ⟨z',H4,I4,r4,q4⟩=>ho' pins s4 σ H4 y z' u w' Q I4 r2 r4 q4))
theorem al9 {op op':CmpOp}{r r':R2}(ho:OpR X (K8 op) r)(ho':OpR X (K8 op') r')(ha:PE X a ta)(hb:PE X b tb)(hc:PE X c tc)
  (hm:lastMarks [op,op'] [b,c]=false:=by with_unfolding_all rfl):PT X (.Compare a [op,op'] [b,c] pos) (bQ3 (bu3 r r' ta tb tc)):=by
 intro pins s σ H Q I h
 refine isTrue_chain (thn (ha pins s σ H _ I h) fun v s1 ⟨x,H1,I1,r1,q1⟩=>test_link (thn (hb pins s1 σ H1 _ I1 q1) fun u s2 ⟨y,H2,I2,r2,q2⟩ =>
  thn (ho pins s2 σ H2 x y v u _ I2 r1 r2 q2) fun d s3 ⟨z,H3,I3,r3,k,e,q3⟩=>?_)) hm
 subst e
 cases r3
 refine N7 ?_
 cases k with
 | false =>
  obtain⟨k',e',q'⟩:=q3
  cases e'
  exact ite_ff ⟨H3,I3,q'⟩
 | true =>
  refine ite_tt (test_last (thn (hc pins s3 σ H3 _ I3 q3) fun w' s4 ⟨z',H4,I4,r4,q4⟩=>thn (ho' pins s4 σ H4 y z' u w' _ I4 r2 r4 q4) fun d' s5 ⟨z2,H5,I5,r5,k2,e2,q5⟩=>?_))
  subst e2
  cases r5
  exact N7 ⟨H5,I5,q5⟩
def ck2 (K:W.Frag)(x:V)(H:Hp)(k:Bool):Prop:=
 match x with
 | .non=>k=false
 | .bl b=>k=b
 | .int i=>k=(i != 0)
 | .str y=>y.length<=j8/\k=((y.length:Int) != 0)
 | .byt y=>y.size<=j8/\k=((y.size:Int) != 0)
 | .ref p=>(∃ xs,SqL K H p xs/\k=!xs.isEmpty)\/(∃ xs,SqT K H p xs/\k=!xs.isEmpty)\/∃ kvs,H p=some (.dK kvs)/\k=!kvs.isEmpty
 | _=>False
theorem bg8 {κ:Type}{kvs:List (κ × V)}{vs:List (κ × Value)}(r:KV kvs vs):(!vs.isEmpty)=!kvs.isEmpty:=by
 cases r<;>rfl
theorem aF7 (r:D3 xs its):(!its.toArray.isEmpty)=!xs.isEmpty:=by
 cases r<;>simp
theorem ar4:(j8:Nat)<2 ^ 63:=by rw[E8];decide
theorem bU9:cn2 X (fun x H Q=>∃ k,ck2 X.K x H k/\Q k H):=by
 intro pins s σ H x v Q I rx h
 obtain⟨k,e,q⟩:=h
 have hl:=ar4
 have hs:j8=16777216:=E8
 cases x with
 | non =>
  cases rx
  have e':k=false:=e
  subst e'
  exact truthy_none ⟨H,I,q⟩
 | bl b =>
  cases rx
  have e':k=b:=e
  subst e'
  exact N7 ⟨H,I,q⟩
 | int i =>
  obtain⟨t,rfl⟩:=rx
  have e':k=(i != 0):=e
  subst e'
  exact PySem.P.truthy_int ⟨H,I,q⟩
 | str y =>
  obtain⟨t,rfl⟩:=rx
  obtain⟨hy,e'⟩:y.length<=j8/\k=((y.length:Int) != 0):=e
  subst e'
  exact PySem.P.truthy_str (by omega) ⟨H,I.tok _,q⟩
 | byt y =>
  obtain⟨t,rfl⟩:=rx
  obtain⟨hy,e'⟩:y.size<=j8/\k=((y.size:Int) != 0):=e
  subst e'
  exact PySem.W.truthy_bytes (by omega) ⟨H,I.tok _,q⟩
 | ref p =>
  cases rx
  have e':(∃ xs,SqL X.K H p xs/\k=!xs.isEmpty)\/(∃ xs,SqT X.K H p xs/\k=!xs.isEmpty)\/∃ kvs,H p=some (.dK kvs)/\k=!kvs.isEmpty:=e
  rcases e' with⟨xs,hx,e'⟩ | ⟨xs,hx,e'⟩ | ⟨kvs,hx,e'⟩
  ·subst e'
   obtain⟨its,r,pl,hz⟩:=I.list hx
   have hlen:=r.length
   exact wpAny_truthy_list pl.isList (by simp only[d7];omega) ⟨H,I.tok _,by rw[aF7 r];exact q⟩
  ·subst e'
   obtain⟨its,r,pl,hz⟩:=I.tuple hx
   have hlen:=r.length
   exact truthy_tuple pl (by simp only[d7];omega) ⟨H,I.tok _,by rw[aF7 r];exact q⟩
  ·subst e'
   obtain⟨hz,hS,vs,r,m⟩:kvs.length<=j8/\(p == sysModules)=false/\∃ vs,KV kvs vs/\s.heap.DictOf (aQ6 X.prog X.w) p vs:=I.hok p _ hx
   have hlen:kvs.length=vs.length:=Paired.length r
   exact wpAny_truthy_dict hS m (by omega) ⟨H,I.tok _,by rw[bg8 r];exact q⟩
 | _=>exact(show False from e).elim
theorem aX4 (ha:PE X a ta)(he:∀ whole,isTrue a X.env whole=(do let v <- whole;standAt a.pos;aI5 [v] (truthy v))) :
  PT X a (fun σ H Q=>ta σ H fun x H'=>∃ k,ck2 X.K x H' k/\Q k H'):=by
 intro pins s σ H Q I h
 exact isTrue_plain (thn (ha pins s σ H _ I h) fun v s1 ⟨x,H1,I1,r1,q1⟩=>bU9 pins s1 σ H1 x v Q I1 r1 q1) (he _)
theorem vals1 {x:V}(r:D3 [x] us):∃ u,us=[u]/\RelV x u:=by
 cases r with
 | cons r1 r2=>cases r2;exact⟨_,rfl,r1⟩
theorem vals2 {x y:V}(r:D3 [x,y] us):∃ u w',us=[u,w']/\RelV x u/\RelV y w':=by
 cases r with
 | cons r1 r2 =>
  cases r2 with
  | cons r3 r4=>cases r4;exact⟨_,_,rfl,r1,r3⟩
theorem aL9 (hc:X.calm=true):ac3 X (.builtin "max") (fun xs H Q=>∃ i j,xs=[.int i,.int j]/\Q (.int (if j > i then j else i)) H):=by
 intro pins s σ H xs us Q I r h
 obtain⟨i,j,rfl,q⟩:=h
 obtain⟨u,w',rfl,⟨t,rfl⟩,⟨t',rfl⟩⟩:=vals2 r
 refine max_two_ints (I.ok.hd hc) fun h' tk k=>⟨_,H,I.kept k,?_,q⟩
 by_cases hj:j > i
 ·rw[if_pos hj,if_pos hj];exact⟨_,rfl⟩
 ·rw[if_neg hj,if_neg hj];exact⟨_,rfl⟩
theorem ax3 (hc:X.calm=true):ac3 X (.builtin "min") (fun xs H Q=>∃ i j,xs=[.int i,.int j]/\Q (.int (if j<i then j else i)) H):=by
 intro pins s σ H xs us Q I r h
 obtain⟨i,j,rfl,q⟩:=h
 obtain⟨u,w',rfl,⟨t,rfl⟩,⟨t',rfl⟩⟩:=vals2 r
 refine min_two_ints (I.ok.hd hc) fun h' tk k=>⟨_,H,I.kept k,?_,q⟩
 by_cases hj:j<i
 ·rw[if_pos hj,if_pos hj];exact⟨_,rfl⟩
 ·rw[if_neg hj,if_neg hj];exact⟨_,rfl⟩
end
structure cn6 (h:Heap) (x dx C:Addr) (mA:Str->Option Value):Prop where
 obj:h.get? x=some (PySem.W.instObj C dx)
 ns:h.Ns1 dx mA
 ne:dx≠x
section
variable {K:W.Frag} {x dx:Addr} {mA:Str->Option Value} {name:Str}
end
section
variable {dx:Addr} {fs fs':List (Str × V)}
end
structure Cls (K:W.Frag) (C:Addr):Prop where
 pg:PySem.W.plainGet K C Str.empty=true
 hd:PySem.W.hasDictIn K C=true
 po:PySem.W.plainOver K C=true
 sa:PySem.W.findIn K (.ref C) "__setattr__"=some (some (.builtin "object.__setattr__"))
structure Con (K:W.Frag) (C:Addr) (f:Str) (v:V) (u:Value):Prop where
 at_:PySem.W.findIn K (.ref C) f=some (some u)
 rel:RelV v u
 get:PySem.W.specialIn K u "__get__"=some none
 cp:PySem.W.copiedNames.contains f=false
structure cn7 (K:W.Frag) (C:Addr) (m:Str) (f:Addr):Prop where
 at_:PySem.W.findIn K (.ref C) m=some (some (.ref f))
 fn:PySem.W.isFn K (.ref f)=true
 kp:U9 K (.ref f)=true
section
variable {σ:St} {dx:Addr} {fs:List (Str × V)} {f:Str} {v:V}
end
section
variable {value:Expr} {f:Str} {pos' tpos:Pos} {tv:TE}
end
section
variable {σ:St} {c:Value} {b:Bool}
inductive aH4 (K:W.Frag) (H:Hp):V->Value->Prop where
 | non:aH4 K H .non (.type "NoneType")
 | bl (x:Bool):aH4 K H (.bl x) (.type "bool")
 | int (i:Int):aH4 K H (.int i) (.type "int")
 | str (x:Str):aH4 K H (.str x) (.type "str")
 | flt (x:UInt64):aH4 K H (.flt x) (.type "float")
 | lst {a:Addr} {xs:List V} (e:H a=some (.lst xs)):aH4 K H (.ref a) (.type "list")
 | frz {a:Addr} {o:Obj} {xs:List V} (e:H a=some (.frz o (.lst xs))):aH4 K H (.ref a) (.type "list")
 | tup {a:Addr} {xs:List V} (e:H a=some (.tup xs)):aH4 K H (.ref a) (.type "tuple")
 | dK {a:Addr} {kvs:List (Key × V)} (e:H a=some (.dK kvs)):aH4 K H (.ref a) (.type "dict")
 | dT {a:Addr} {kvs:List (List Key × V)} (e:H a=some (.dT kvs)):aH4 K H (.ref a) (.type "dict")
 | ins {a C dx:Addr} {fs:List (Str × V)} (e:H a=some (.ins C dx fs)) (cl:Cls K C) (ha:PySem.W.findIn K (.ref C) "__class__"=some (some (.builtin "object.__class__")))
   (hn:PySem.W.specialIn K (.builtin "object.__class__") "__get__"=some (some (.builtin "getset_descriptor.__get__"))) (htk:PySem.W.takesIn K (.builtin "object.__class__")=some true)
   (hm:PySem.W.mroIn K C (.type "object")=some true):aH4 K H (.ref a) (.ref C)
end
structure Z9 (k:Nat) (A:Around):Prop where
 hd:A.handled=none
 dp:A.depth+3*k+5<aI3
 un:A.units+16*k+200<av2
theorem Z9.mono {k:Nat}(r:Z9 k A)(h:j<=k):Z9 j A:=⟨r.hd,by have:=r.dp;omega,by have:=r.un;omega⟩
theorem Z9.deeper {k:Nat}(r:Z9 (k+1) A)(env:Env):Z9 k (A.deeper env):=
 ⟨r.hd,by have:=r.dp;show A.depth+1+3*k+5<_;omega,by have:=r.un;show A.units+3+16*k+200<_;omega⟩
theorem Z9.depth {k:Nat}(r:Z9 k A):A.depth<aI3:=by have:=r.dp;omega
theorem Z9.units {k:Nat}(r:Z9 k A):A.units+64<av2:=by have:=r.un;omega
def bd7:TA:=fun _ H Q=>Q [] H
def aC7 (ta:TE)(tr:TA):TA:=fun σ H Q=>ta σ H fun x H1=>tr σ H1 fun xs H2=>Q (x::xs) H2
section
variable {t:TA}
theorem d5:PA X [] bd7:=fun _ _ _ _ H Q I h=>Calls.spliced_nil ⟨[],H,I,.nil,h⟩
theorem b9 (ha:PE X e te)(hr:PA X es t)(hs:u4 (e::es) X.env=(false,eval e X.env)::u4 es X.env:=by rfl):PA X (e::es) (aC7 te t):=by
 intro pos pins s σ H Q I h
 rw[hs]
 show p9 _ _ (spliced ((false,eval e X.env)::N6 pos (u4 es X.env))) _ _ s
 refine Calls.spliced_cons (thn (ha pins s σ H _ I h) fun u s1 ⟨x,H1,I1,r1,q1⟩=>?_)
 exact thn (hr pos pins s1 σ H1 _ I1 q1) fun us s2 ⟨xs,H2,I2,r2,q2⟩=>⟨x::xs,H2,I2,.cons r1 r2,q2⟩
def ck8 (t:TA):TE:=fun σ H Q=>t σ H fun xs H1=>xs.length<=j8/\∀ p,H1 p=none->Q (.ref p) (upd H1 p (.tup xs))
def cl3 (t:TA):TE:=fun σ H Q=>t σ H fun xs H1=>xs.length<=j8/\∀ p,H1 p=none->Q (.ref p) (upd H1 p (.lst xs))
theorem M3 {x1}(h:PA X es t):PE X (.Tuple es x1 pos) (ck8 t):=by
 intro pins s σ H Q I hq
 refine wpAny_Tuple_spliced (thn (h pos pins s σ H _ I hq) fun us s1 ⟨xs,H1,I1,r,z,q⟩=>⟨by rw[<- r.length];exact z,?_⟩)
 have hf:H1 s1.heap.objs.size=none:=I1.hok.fresh (c8 _)
 refine⟨.ref s1.heap.objs.size,upd H1 s1.heap.objs.size (.tup xs),I1.laid (t':=s1.toks) (fun b u e=>c5 _ e) (c8 _) ?_,rfl,q _ hf⟩
 exact⟨z,us,r,⟨_,l5 _ rfl,rfl,_,rfl⟩⟩
theorem X9 (h:PA X es t):PE X (.List es pos) (cl3 t):=by
 intro pins s σ H Q I hq
 refine wpAny_List_spliced (thn (h pos pins s σ H _ I hq) fun us s1 ⟨xs,H1,I1,r,z,q⟩=>⟨by rw[<- r.length];exact z,?_⟩)
 have hf:H1 s1.heap.objs.size=none:=I1.hok.fresh (c8 _)
 refine⟨.ref s1.heap.objs.size,upd H1 s1.heap.objs.size (.lst xs),I1.laid (t':=s1.toks) (fun b u e=>c5 _ e) (c8 _) ?_,rfl,q _ hf⟩
 exact⟨z,us,0,r,l5 _ rfl⟩
end
abbrev Sp:=List V->Hp->VK->XK->Prop
abbrev CXT:=List Env->Hp->Shared->XK->Value->Shared->Prop
structure bF2 (P:Program) (w:World) (K:W.Frag) (mg:Str->Option Value) (base:Heap) (A:Around) (outer:List Env) (s:Shared) (H:Hp):Prop where
 frames:A.frames=some outer
 mod:Mod K mg base
 bs:∀ b o,base.get? b=some o->s.heap.get? b=some o/\H b=none
 bsz:base.objs.size<=s.heap.objs.size
 funs:s.heap.FunFrames base outer
 frf:∀ b∈frs outer,H b=none
 hok:HOk P w H s.heap
 bare:ay9 s.gens
def CE (outer:List Env)(P:Program)(w:World)(H:Hp)(s:Shared)(Q:VK)(u:Value)(s':Shared):Prop:=
 ∃ v H',s'.os=s.os/\ay9 s'.gens/\Un (frs outer) [] H H' s.heap s'.heap/\HOk P w H' s'.heap/\RelV v u/\Q v H'
def CR (CX:CXT)(outer:List Env)(P:Program)(w:World)(H:Hp)(s:Shared)(Q:VK)(E:XK)(r:Result)(s':Shared):Prop:=
 match r with
 | .ok (.ret u)=>CE outer P w H s Q u s'
 | .ok _=>False
 | .error e=>CX outer H s E e s'
structure x6 (P:Program) (w:World) (K:W.Frag) (mg:Str->Option Value) (base:Heap) (CX:CXT) (k:Nat) (f:Addr) (fd:FuncData) (ps:List Str) (sp:Sp):Prop where
 len:∀ vs H Q E,sp vs H Q E->vs.length=ps.length
 run:∀ (A:Around) (outer:List Env) (s:Shared) (H:Hp) (args:Args) (us:List Value) (vs:List V) (Q:VK) (E:XK),Z9 k A->bF2 P w K mg base A outer s H->bn8 s fd args (ps.zip us)->D3 vs us->sp vs H Q E ->
  ar9 (x8 P w) A (.call (.ref f) args) (CR CX outer P w H s Q E) s
theorem x6.mono {K:W.Frag}{mg:Str->Option Value}{base:Heap}{CX:CXT}{k:Nat}{sp:Sp}(F:x6 P w K mg base CX j f fd ps sp)(h:j<=k) :
  x6 P w K mg base CX k f fd ps sp:=⟨F.len,fun A outer s H args us vs Q E hr=>F.run A outer s H args us vs Q E (hr.mono h)⟩
section
variable {σ:St} {s':Shared}
theorem Inv.env0 (I:Inv X pins σ H s):bF2 X.prog X.w X.K X.mg X.base X.A X.stack s H:=
 ⟨I.ok.frames,I.ok.mod,I.bs,A8 I.ok.bsz I.sz,I.stack,I.stkFree,I.hok,I.bare⟩
theorem Inv.after {Q:VK}(I:Inv X pins σ H s)(h:CE X.stack X.prog X.w H s Q u s'):EP X pins σ Q u s':=by
 obtain⟨v,H',os,bare,un,hok,r,q⟩:=h
 obtain⟨hh,g,d,t,os'⟩:=s'
 obtain rfl:os'=s.os:=os
 exact⟨v,H',I.call (h':=hh) (g':=g) (d':=d) (t':=t) (ch:=[]) un hok bare (fun b z=>absurd z (by simp)),r,q⟩
end
def bQ4 (sp:Sp)(dvs:List V)(E:XK)(t:TA):TE:=fun σ H Q=>t σ H fun vs H1=>sp (vs++dvs) H1 Q E
def Binds (K:W.Frag)(fd:FuncData)(ps:List Str)(ds:List Value):Prop:=
 ∀ (s:Shared) (us:List Value),K.In s.heap->(us++ds).length=ps.length->bn8 s fd ⟨us,[]⟩ (ps.zip (us++ds))
theorem Binds.all {K:W.Frag}(h:∀ us:List Value,us.length=ps.length->bi7 fd ⟨us,[]⟩=pure (ps.zip us)):Binds K fd ps []:=fun s us _ hl=>by
 rw[D9]at hl ⊢
 exact .of_eq (h us hl)
def ax5 (CX:CXT)(X:Cx)(E:XK):Prop:=∀ (pins:List (Addr × Obj)) (σ:St) (H:Hp) (s:Shared) (e:Value) (s':Shared),Inv X pins σ H s->CX X.stack H s E e s'->X.xe e s'
section
variable {CX:CXT} {k:Nat} {sp:Sp} {dvs:List V} {ds:List Value} {E:XK} {m:Str} {p apos:Pos} {t:TA}
theorem bx3 {σ:St}{Q:VK}{vs:List V}(F:x6 X.prog X.w X.K X.mg X.base CX k f fd ps sp)(hr:Z9 k X.A)(hb:Binds X.K fd ps ds)(hd:D3 dvs ds)(hx:ax5 CX X E)
  (I:Inv X pins σ H s)(r:D3 vs us)(h:sp (vs++dvs) H Q E):p9 (x8 X.prog X.w) X.A (call (.ref f) us) (EP X pins σ Q) X.xe s:=by
 have r2:D3 (vs++dvs) (us++ds):=r.append hd
 have hl:(us++ds).length=ps.length:=by rw[<- r2.length];exact F.len _ _ _ _ h
 refine aU0 (Z5 (F.run X.A X.stack s H ⟨us,[]⟩ (us++ds) (vs++dvs) Q E hr I.env0 (hb s us I.kIn hl) r2 h) fun r s' hq=>?_)
 cases r with
 | error e=>exact hx pins σ H s e s' I hq
 | ok fl =>
  cases fl with
  | ret u=>exact I.after hq
  | next=>exact False.elim hq
  | brk=>exact False.elim hq
  | cont=>exact False.elim hq
theorem ao0 (F:x6 X.prog X.w X.K X.mg X.base CX k f fd ps sp)(hr:Z9 k X.A)(hg:Gl X x)(hm:X.mg x=some (.ref f))(hk:U9 X.K (.ref f)=true)(hb:Binds X.K fd ps ds)(hd:D3 dvs ds)(hx:ax5 CX X E)
  (ha:PA X (e::es) t)(hdb:(x == ("__debug__":Str))=false:=by decide)(he:u4 (e::es) X.env=(false,eval e X.env)::u4 es X.env:=by rfl)(hpl:(N6 pos (u4 es X.env)).any (·.1)=false:=by rfl) :
  PE X (.Call (.Name x p) (e::es) [] pos) (bQ4 sp dvs E t):=by
 intro pins s σ H Q I h
 refine J3 (at8 I hg hm ?_ hdb)
 refine PySem.W.callWith_K (h₀:=X.base) I.ok.mod.kin hk (thn (ha pos pins s σ H _ I h) fun us s1 ⟨vs,H1,I1,r,q⟩=>⟨I1.kIn,?_⟩) he hpl
 exact bx3 F hr hb hd hx I1 r q
structure Mk (K:W.Frag) (C f:Addr):Prop where
 makes:PySem.W.makesIn K C=true
 init:PySem.W.findIn K (.ref C) "__init__"=some (some (.ref f))
 fn:PySem.W.isFn K (.ref f)=true
 kp:U9 K (.ref C)=true
end
def PK (X:Cx)(kws:List az0)(t:TA):Prop:=
 ∀ (pos:Pos) (pins:List (Addr × Obj)) (s:Shared) (σ:St) (H:Hp) (Q:List V->Hp->Prop),Inv X pins σ H s->t σ H Q->p9 (x8 X.prog X.w) X.A (evalAll ((ag9 pos (S0 kws X.env)).map (·.2))) (AP X pins σ Q) X.xe s
section
variable {CX:CXT} {k:Nat} {ks:List Str} {sp:Sp} {E:XK} {m:Str} {p apos kpos:Pos} {kws:List az0} {t tk:TA} {nm:Option Str}
theorem aP9:PK X [] bd7:=fun _ _ _ _ H Q I h=>wpAny_evalAll_nil ⟨[],H,I,.nil,h⟩
theorem aA8 (ha:PE X e te)(hr:PK X kws t):PK X (⟨nm,e,kpos⟩::kws) (aC7 te t):=by
 intro pos pins s σ H Q I h
 show p9 _ _ (evalAll ((do let v <- eval e X.env;standAt pos;pure v)::(ag9 pos (S0 kws X.env)).map (·.2))) _ _ s
 refine wpAny_evalAll_cons (b7 (thn (ha pins s σ H _ I h) fun u s1 ⟨x,H1,I1,r1,q1⟩=>b7 (ag8 (d4 ?_))))
 exact thn (hr pos pins s1 σ H1 _ I1 q1) fun us s2 ⟨xs,H2,I2,r2,q2⟩=>⟨x::xs,H2,I2,.cons r1 r2,q2⟩
structure cn3 (K:W.Frag) (fd:FuncData) (ps ks:List Str) (g:List Value->List Value->List Value) (gV:List V->List V->List V):Prop where
 to:∀ (s:Shared) (us ws:List Value),K.In s.heap->(g us ws).length=ps.length->bn8 s fd ⟨us,ks.zip ws⟩ (ps.zip (g us ws))
 rel:∀ {vs:List V} {us:List Value} {zs:List V} {ws:List Value},D3 vs us->D3 zs ws->D3 (gV vs zs) (g us ws)
variable {g:List Value->List Value->List Value}
end
structure A4 (N P:List Str) (sc:Scope):Prop where
 kind:sc.kind=.function
 co:sc.isCoroutine=false
 gen:sc.isGenerator=false
 nd:N.Nodup
 pre:N.take P.length=P
 par:∀ x∈P,sc.names.lookup x=some .local\/sc.names.lookup x=some .cell
 nofree:∀ y∈sc.names,y.2≠.free
theorem A4.mk' {P:List Str}{sc:Scope}(a:sc.kind=.function:=by rfl)(b:sc.isCoroutine=false:=by rfl)(c:sc.isGenerator=false:=by rfl)(d:N.Nodup:=by decide +kernel)(e:N.take P.length=P:=by rfl)(f:∀ x∈P,sc.names.lookup x=some .local\/sc.names.lookup x=some .cell:=by decide +kernel)(g:∀ y∈sc.names,y.2≠.free:=by decide +kernel):A4 N P sc:=⟨a,b,c,d,e,f,g⟩
theorem aM0 {kindOf:Str->Option aN1}:∀ {binds:List (Str × Value)} {m:Str->Option Value},(∀ v,(x,v)∉binds)->bindL kindOf binds m x=m x
 | [],_,_=>rfl
 | (n,v)::r,m,h=>by
  unfold bindL
  rw[aM0 fun w hw=>h w (c7 _ hw)]
  split
  ·have:x≠n:=by rintro rfl;exact h v c9
   simp[this]
  ·rfl
theorem aM2 {kindOf:Str->Option aN1}:∀ {binds:List (Str × Value)} {m:Str->Option Value},(∀ v,(x,v)∉binds)->bindC kindOf binds m x=m x
 | [],_,_=>rfl
 | (n,v)::r,m,h=>by
  unfold bindC
  rw[aM2 fun w hw=>h w (c7 _ hw)]
  split
  ·rfl
  ·have:x≠n:=by rintro rfl;exact h v c9
   simp[this]
theorem aM1 {kindOf:Str->Option aN1}:∀ {P:List Str} {vs:List Value} {i:Nat} {m:Str->Option Value},P.Nodup->P[i]?=some x->vs[i]?=some v->kindOf x=some .local ->
  bindL kindOf (P.zip vs) m x=some v
 | [],_,_,_,_,h,_,_=>by simp at h
 | _::_,[],_,_,_,_,h,_=>by simp at h
 | p::P,w::vs,0,m,nd,h1,h2,hk=>by
  simp at h1 h2;subst h1;subst h2
  show bindL kindOf ((p,w)::P.zip vs) m p=_
  unfold bindL
  rw[aM0 fun v hv=>(E6.mp nd).1 (au6 hv).1,if_pos hk]
  simp
 | p::P,w::vs,i+1,m,nd,h1,h2,hk=>by
  show bindL kindOf ((p,w)::P.zip vs) m x=_
  unfold bindL
  exact aM1 (i:=i) (E6.mp nd).2 (by simpa using h1) (by simpa using h2) hk
theorem aM3 {kindOf:Str->Option aN1}:∀ {P:List Str} {vs:List Value} {i:Nat} {m:Str->Option Value},P.Nodup->P[i]?=some x->vs[i]?=some v->kindOf x≠some .local ->
  bindC kindOf (P.zip vs) m x=some v
 | [],_,_,_,_,h,_,_=>by simp at h
 | _::_,[],_,_,_,_,h,_=>by simp at h
 | p::P,w::vs,0,m,nd,h1,h2,hk=>by
  simp at h1 h2;subst h1;subst h2
  show bindC kindOf ((p,w)::P.zip vs) m p=_
  unfold bindC
  rw[aM2 fun v hv=>(E6.mp nd).1 (au6 hv).1,if_neg hk]
  simp
 | p::P,w::vs,i+1,m,nd,h1,h2,hk=>by
  show bindC kindOf ((p,w)::P.zip vs) m x=_
  unfold bindC
  exact aM3 (i:=i) (E6.mp nd).2 (by simpa using h1) (by simpa using h2) hk
def start (N:List Str)(vs:List V):St:=vs.map some++C0 (N.length - vs.length) none
def am3 (CX:CXT)(P:Program)(w:World)(K:W.Frag)(mg:Str->Option Value)(base:Heap)(N:List Str)(qual:Str)(scope:Scope)(f:Addr)(cd:Value)(A:Around)(outer:List Env)(s:Shared)(H:Hp)(E:XK):Cx where
 prog:=P
 w:=w
 K:=K
 mg:=mg
 base:=base
 A:=A.deeper (P4 qual scope s.heap.objs.size f cd)
 N:=N
 s₀:=s
 H₀:=H
 env:=P4 qual scope s.heap.objs.size f cd
 outer:=outer
 stack:=P4 qual scope s.heap.objs.size f cd::outer
 ex:=[]
 calm:=true
 fn:=fun _=>true
 pn:=[]
 xe:=fun e s'=>p9 (x8 P w) (A.deeper (P4 qual scope s.heap.objs.size f cd)) (leaving (P4 qual scope s.heap.objs.size f cd) e) (fun _ s''=>CX outer H s E e s'') (fun e' s''=>CX outer H s E e' s'') s'
theorem bb8 {sc:Scope}(h:sc.names.lookup x=some .cell):∃ c,(cellsFrom n sc.names []).lookup x=some c:=by
 have q:=PySem.W.cellsFrom_some sc.names n [] (.inl h)
 exact o7.mp q
theorem bq8 {CX:CXT}{K:W.Frag}{mg:Str->Option Value}{base:Heap}{cd:Value}{outer:List Env}{s1:Shared}{E:XK}{vs:List V}
  (S:A4 N ps scope)(hd:A.handled=none)(e0:bF2 P w K mg base A outer s H)(hl:vs.length=ps.length)(r:D3 vs us)
  (x:InCallC s s.heap.objs.size (bindL (P4 qual scope s.heap.objs.size f cd).kindOf (ps.zip us) fun _=>none) (cellsFrom (s.heap.objs.size+1) scope.names []) (bindC (P4 qual scope s.heap.objs.size f cd).kindOf (ps.zip us) fun _=>none) s1) :
  Inv (am3 CX P w K mg base N qual scope f cd A outer s H E) [] (start N vs) H s1:=by
 have hpl:ps.length<=N.length:=by have:=congrArg ap2 S.pre;rw[o8]at this;omega
 obtain⟨h1,tk,rfl,hk⟩:=x.done
 have noA:∀ b:Addr,b∉(am3 CX P w K mg base N qual scope f cd A outer s H E).ex:=fun b z=>absurd (show b∈([]:List Addr) from z) (by simp)
 refine⟨⟨e0.mod,S.kind,rfl,rfl,c8 _,fun y z c h1 h2=>?_,fun y hy=>?_,fun y c _ h=>?_,fun _=>hd,Around.frames_deeper e0.frames,.inr ⟨rfl,rfl⟩,fun b z=>absurd z (noA b),e0.bs,e0.bsz,fun b _ _=>noA b,fun b z=>absurd z (noA b),e0.funs,e0.frf⟩,
  rfl,e0.bare,Un.kept hk,⟨_,x.toInCall.ns,fun i y v h1 h2 h3=>?_⟩,fun y c h=>⟨_,x.cell y c h⟩,e0.hok.fresh (c8 _),fun y c h=>?_,fun p hp=>absurd (show p∈([]:List (Addr × Obj)) from hp) (by simp),e0.hok.kept hk,?_⟩
 ·exact name_of_addr x.apart (PySem.mem_of_lookup h1) (PySem.mem_of_lookup h2)
 ·have hy:scope.names.lookup y=some .cell\/scope.names.lookup y=some .free:=hy
  rcases hy with hy | hy
  ·exact bb8 hy
  ·exact absurd rfl (S.nofree _ (PySem.mem_of_lookup hy))
 ·exact au7 (x.above y c (PySem.mem_of_lookup h))
 ·have hi:i<vs.length:=by
   unfold start at h2
   by_cases hi:i<vs.length
   ·exact hi
   ·rw[J7 (by simpa using hi)]at h2
    rw[bs8]at h2
    split at h2<;>cases h2
  have ha:vs[i]?=some v:=by
   unfold start at h2
   rw[ak1 (by simpa using hi),p8]at h2
   cases e:vs[i]? with
   | none=>rw[e]at h2;cases h2
   | some a=>rw[e]at h2;cases h2;rfl
  obtain⟨u,hu,rv⟩:=r.get ha
  have hp:ps[i]?=some y:=by
   rw[<- S.pre,X1 (by omega)];exact h1
  have ndP:ps.Nodup:=by rw[<- S.pre];exact S.nd.sublist (K3 _ _)
  refine⟨u,rv,?_⟩
  rcases S.par y (i7 hp) with k | k
  ·exact .inl ⟨k,aM1 ndP hp hu k⟩
  ·obtain⟨c,e⟩:=bb8 (n:=s.heap.objs.size+1) k
   refine .inr ⟨.inl k,c,e,?_⟩
   have q:=x.cell y c e
   rw[aM3 ndP hp hu (by show scope.names.lookup y≠_;rw[k];decide)]at q
   exact q
 ·exact e0.hok.fresh (au7 (x.above y c (PySem.mem_of_lookup h)))
 ·unfold start
  show _=N.length
  rw[m6,b8,bF3]
  omega
theorem bC0 {CX:CXT} {K:W.Frag} {mg:Str->Option Value} {base:Heap} {k:Nat} {name:Str} {body:List Stmt} {dV kV doc pm cdv ct oc:Value} {an od:Option Addr}
  {osl:Array (Option Value)} {sp:Sp} (lk:K.lookup f=some ⟨oc,od,.func (W3 name qual params body scope dV kV doc pm an cdv ct),osl⟩) (hcd:aT8 K cdv qual=true) (S:A4 N ps scope)
  (len:∀ vs H Q E,sp vs H Q E->vs.length=ps.length)
  (hbody : ∀ (A : Around) (outer : List Env) (s : Shared) (H : Hp) (vs : List V) (Q : VK) (E : XK), Z9 k (A.deeper (P4 qual scope s.heap.objs.size f cdv)) -> sp vs H Q E ->
   ∃ t,PSs (am3 CX P w K mg base N qual scope f cdv A outer s H E) body t/\t { nx:=fun _ H'=>Q .non H',rt:=Q } (start N vs) H) :
  x6 P w K mg base CX (k+1) f (W3 name qual params body scope dV kV doc pm an cdv ct) ps sp:=by
 refine⟨len,fun A outer s H args us vs Q E hr e0 hb r hsp=>?_⟩
 have hl:=len _ _ _ _ hsp
 have KX:K.In s.heap:=e0.mod.kin.keeps fun b o e=>(e0.bs b o e).1
 have lim:s.heap.NoLimit:=e0.mod.nolimit.keeps fun b o e=>(e0.bs b o e).1
 have hkind:∀ y∈ps.zip us,scope.names.lookup y.1=some .local\/(scope.names.lookup y.1=some .cell/\((cellsFrom (s.heap.objs.size+1) scope.names []).lookup y.1).isSome=true):=fun⟨n,v⟩ hy=>by
  rcases S.par n (au6 hy).1 with q | q
  ·exact .inl q
  ·exact .inr ⟨q,PySem.W.cellsFrom_some _ _ _ (.inl q)⟩
 refine codeAny_call_function hr.depth (KX _ _ lk) rfl S.co S.gen rfl (PySem.W.codeRec_of KX hcd) (hb _ _ _ _ ?_)
 refine wpAny_newFunctionEnv_cells S.kind hkind fun env he s1 x=>?_
 subst he
 refine⟨lim.keeps x.toInCall.keep,codeAny_func ?_⟩
 obtain⟨t,ht,hq⟩:=hbody A outer s H vs Q E (hr.deeper _) hsp
 have I:Inv (am3 CX P w K mg base N qual scope f cdv A outer s H E) [] (start N vs) H s1:=bq8 S hr.hd e0 hl r x
 refine E3 (ht [] s1 (start N vs) H _ I hq) (fun fl s' hs=>?_) fun e s' hs=>hs
 have fin:∀ {σ':St} {H':Hp} {v:V} {u:Value},Inv (am3 CX P w K mg base N qual scope f cdv A outer s H E) [] σ' H' s'->RelV v u->Q v H'->CE outer P w H s Q u s':=
  fun {σ' H' v u} J rv q=>⟨v,H',J.os,J.bare,J.base,J.hok,rv,q⟩
 cases fl with
 | ret u =>
  obtain⟨v,σ',H',J,rv,q⟩:=hs
  exact fin J rv q
 | next =>
  obtain⟨σ',H',J,q⟩:=hs
  exact fin (v:=V.non) (u:=Value.none) J rfl q
 | brk =>
  obtain⟨_,_,_,q⟩:=hs
  exact False.elim q
 | cont =>
  obtain⟨_,_,_,q⟩:=hs
  exact False.elim q
section
variable {p:Pos} {t:TA} {id T:String} {r:List V->Hp->VK->Prop}
def tCB (r:List V->Hp->VK->Prop)(t:TA):TE:=fun σ H Q=>t σ H fun vs H1=>r vs H1 Q
theorem A6 (hc:ac3 X (.builtin id) r)(hg:Gl X x)(hm:X.mg x=none)(hv:L5 x=some (.builtin id))(ha:PA X (e::es) t)(hn:x≠"__name__":=by decide)(hdb:(x == ("__debug__":Str))=false:=by decide)
  (he:u4 (e::es) X.env=(false,eval e X.env)::u4 es X.env:=by rfl)(hpl:(N6 pos (u4 es X.env)).any (·.1)=false:=by rfl):PE X (.Call (.Name x p) (e::es) [] pos) (tCB r t):=by
 intro pins s σ H Q I h
 refine J3 (Z8 I hg hm hv ?_ hn hdb)
 exact PyProof.Rows.callWith_builtin1 (thn (ha pos pins s σ H _ I h) fun us s1 ⟨vs,H1,I1,r1,q1⟩=>hc pins s1 σ H1 vs us Q I1 r1 q1) he hpl
theorem N0 (hc:ac3 X (.type T) r)(hg:Gl X x)(hm:X.mg x=none)(hv:L5 x=some (.type T))(ha:PA X (e::es) t)(hn:x≠"__name__":=by decide)(hdb:(x == ("__debug__":Str))=false:=by decide)
  (he:u4 (e::es) X.env=(false,eval e X.env)::u4 es X.env:=by rfl)(hpl:(N6 pos (u4 es X.env)).any (·.1)=false:=by rfl):PE X (.Call (.Name x p) (e::es) [] pos) (tCB r t):=by
 intro pins s σ H Q I h
 refine J3 (Z8 I hg hm hv ?_ hn hdb)
 exact PyProof.Rows.callWith_type1 (thn (ha pos pins s σ H _ I h) fun us s1 ⟨vs,H1,I1,r1,q1⟩=>hc pins s1 σ H1 vs us Q I1 r1 q1) he hpl
end
end L2
namespace HT
open PySem PyProof.Rows
section
open PySem.SeqAt
open PySem.AutoSeq1 (wpAny_loadPart')
open PySem.MeetsSeq PySem.MeetsSeq2 PySem.MeetsSeq3
end
theorem bO2 {t b:Addr}{ws:List Value}(ht:IsTup s.heap t vs.toArray)(hb:IsTup s.heap b ws.toArray)(hv:vs≠[])
  (h1:ws=[]->Q (.ref t) s)(h2:ws≠[]->Q (.ref s.heap.objs.size) { s with heap:=s.heap.push { cls:=.type "tuple",data:=.seq (vs++ws).toArray } })
  (hsz:vs.length+ws.length<=j8):p9 (x8 prog w) A (ad0 .Add (.ref t) (.ref b)) Q E s:=by
 obtain⟨⟨cls,dd,data,sl⟩,ho,hc,n,hd⟩:=id ht
 obtain⟨⟨cls2,dd2,data2,sl2⟩,ho2,hc2,n2,hd2⟩:=id hb
 simp only at hc hd hc2 hd2
 subst hc hd hc2 hd2
 have e:vs.toArray++ws.toArray=(vs++ws).toArray:=by simp
 by_cases hw:ws=[]
 ·exact concat_meets ⟨_,ho,rfl⟩ ⟨_,ho2,rfl⟩ noFill_tuple_add seq_tuple_add PySem.F.slot_tuple_add PySem.F.entry_tuple_add (PySem.F.args_tuple_add_2 _ _)
   (tuple_addW1 t b vs.toArray ws.toArray n n2 dd dd2 sl sl2 (by simpa using hv) (by simp[hw])) ⟨ho,ho2,h1 hw⟩
 ·refine concat_meets ⟨_,ho,rfl⟩ ⟨_,ho2,rfl⟩ noFill_tuple_add seq_tuple_add PySem.F.slot_tuple_add PySem.F.entry_tuple_add (PySem.F.args_tuple_add_2 _ _)
   (tuple_addW2 t b vs.toArray ws.toArray n n2 dd dd2 sl sl2 (by simpa using hv) (by simpa using hw) (by rw[d7,d7];exact hsz)) ⟨ho,ho2,?_⟩
  rw[e]
  exact h2 hw
def sIx (n d:Nat):Option Int->Nat
 | none=>d
 | some v=>if v<0 then (v+(n:Int)).toNat else min v.toNat n
theorem aW7 (n d:Nat):sIx n d none=d:=rfl
theorem bj7 (n d k:Nat):sIx n d (some (k:Int))=min k n:=by
 show (if (k:Int)<0 then ((k:Int)+(n:Int)).toNat else min (k:Int).toNat n)=min k n
 rw[if_neg (by omega),p0]
theorem bX1 (n d:Nat)(hd:d<=n)(o:Option Int):sIx n d o<=n:=by
 cases o with
 | none=>exact hd
 | some v =>
  show (if v<0 then (v+(n:Int)).toNat else min v.toNat n)<=n
  by_cases hv:v<0
  ·rw[if_pos hv];omega
  ·rw[if_neg hv];exact Nat.min_le_right _ _
theorem bm8 (v:Int)(n d:Nat):(if v<0 then max (v+(n:Int)) 0 else min v (n:Int))=((sIx n d (some v):Nat):Int):=by
 show (if v<0 then max (v+(n:Int)) 0 else min v (n:Int))=(((if v<0 then (v+(n:Int)).toNat else min v.toNat n):Nat):Int)
 by_cases hv:v<0
 ·simp only[if_pos hv];omega
 ·simp only[if_neg hv];omega
theorem bh8 (lo hi:Option Int)(n:Nat):Builtin.Slice.sliceAdjust lo hi 1 (n:Int)=(((sIx n 0 lo:Nat):Int),((sIx n n hi:Nat):Int)):=by
 have h1:¬ ((1:Int)<0):=by omega
 unfold Builtin.Slice.sliceAdjust
 simp only[h1,if_false]
 refine Prod.ext ?_ ?_
 ·cases lo with
  | none=>rfl
  | some v=>exact bm8 v n 0
 ·cases hi with
  | none=>rfl
  | some v=>exact bm8 v n n
theorem bf5 (i j:Nat):Builtin.Slice.slicePlaces (i:Int) (j:Int) 1=j - i:=by
 unfold Builtin.Slice.slicePlaces
 have h1:(1:Int) > 0:=by omega
 simp only[h1,if_true,Int.ediv_one]
 split<;>omega
theorem aD1 {o:Option Int}{Q:Option Int->Shared->Prop}(p:bF8 v o)(h:Q o s):p9 (x8 prog w) A (Builtin.Slice.slicePartIndex v) Q E s:=by
 cases p with
 | none=>exact slicePart_none h
 | int i t=>exact slicePart_int h
theorem av6 {sl:Addr}{vl vu:Value}{lo hi:Option Int}{Q:Int × Int × Nat->Shared->Prop}(hs:s.heap.IsSliceOf sl vl vu .none)(pl:bF8 vl lo)(pu:bF8 vu hi)
  (h:Q (((sIx n 0 lo:Nat):Int),1,sIx n n hi - sIx n 0 lo) s):p9 (x8 prog w) A (Builtin.Slice.sliceApplied (.ref sl) (pure (n:Int))) Q E s:=by
 obtain⟨os,hos,hcs,hds⟩:=id hs
 unfold Builtin.Slice.sliceApplied Builtin.Slice.sliceFields
 refine b7 (b7 (K9 hos hds (x:=vl) rfl (b7 (K9 hos hds (x:=vu) rfl (b7 (K9 hos hds (x:=.none) rfl (d4 ?_)))))))
 refine b7 (slicePart_none ?_)
 show p9 _ _ (if ((1:Int) == 0)=true then _ else _) _ _ s
 rw[if_neg (by decide)]
 refine b7 (aD1 pl (b7 (aD1 pu (b7 (d4 ?_)))))
 show p9 _ _ (match Builtin.Slice.sliceAdjust lo hi 1 (n:Int) with | (lo,hi)=>pure (lo,(1:Int),Builtin.Slice.slicePlaces lo hi 1)) _ _ s
 rw[bh8 lo hi n]
 show p9 _ _ (pure (((sIx n 0 lo:Nat):Int),(1:Int),Builtin.Slice.slicePlaces ((sIx n 0 lo:Nat):Int) ((sIx n n hi:Nat):Int) 1)) _ _ s
 rw[bf5]
 exact d4 h
theorem bx7 (xs:Array Value)(i k:Nat):((u7 k).filterMap fun(m:Nat)=>xs[((i:Int)+(m:Int)*1).toNat]?).toArray=((xs.toList.drop i).take k).toArray:=by
 have e:(fun(m:Nat)=>xs[((i:Int)+(m:Int)*1).toNat]?)=fun m=>xs[i+m]?:=by
  funext m
  have:((i:Int)+(m:Int)*1).toNat=i+m:=by omega
  rw[this]
 rw[e]
 have:=pick_run xs i k
 rw[List.filterMap_map]at this
 have e2:((fun x=>xs[x]?) ∘ fun x=>i+x)=fun m=>xs[i+m]?:=rfl
 rw[e2]at this
 rw[this]
theorem au0 {t sl:Addr}{items:Array Value}{vl vu:Value}{lo hi:Option Int}(ht:IsTup s.heap t items)(hs:s.heap.IsSliceOf sl vl vu .none)(pl:bF8 vl lo)(pu:bF8 vu hi)
  (hw:¬ (sIx items.size 0 lo=0/\sIx items.size items.size hi=items.size))
  (h:Q (.ref s.heap.objs.size) { s with heap:=s.heap.push { cls:=.type "tuple",data:=.seq ((items.toList.drop (sIx items.size 0 lo)).take (sIx items.size items.size hi - sIx items.size 0 lo)).toArray } })
  (hsz:items.size<=j8):p9 (x8 prog w) A (bG6 (.ref t) (.ref sl)) Q E s:=by
 have htake:sizeOk (.seq ((items.toList.drop (sIx items.size 0 lo)).take (sIx items.size items.size hi - sIx items.size 0 lo)).toArray):=by
  show ((items.toList.drop (sIx items.size 0 lo)).take (sIx items.size items.size hi - sIx items.size 0 lo)).toArray.size<=j8
  rw[d7,o8,E7,l4]
  omega
 have hj:sIx items.size items.size hi<=items.size:=bX1 _ _ (c8 _) hi
 obtain⟨os,hos,hcs,hds⟩:=id hs
 have hTs:s.TypeIs (.ref sl) "slice":=⟨os,hos,hcs⟩
 unfold bG6
 try with_reducible refine C9 ?_
 first | refine b7 (d4 ?_) | skip
 refine b7 (wpAny_sequenceKey ht.typeIs (by decide) ?_)
 refine b7 (S3 (name:=Str.ofString "__getitem__") ht.typeIs PyProof.Rows.slot_tuple_getitem
  (Y5 PyProof.Rows.slot_tuple_getitem ht.typeIs entry_tuple_getitem ?_ (args_tuple_getitem _ _)))
 show p9 _ _ (Builtin.Tuple.tupleItemsOf (.ref t) >>= _) _ _ s
 refine b7 (tupleItemsOf_ ht ?_)
 refine b7 (bT5 hTs ?_)
 rw[if_pos (by decide)]
 refine b7 (av6 hs pl pu ?_)
 have hno:¬ ((((sIx items.size 0 lo:Nat):Int) == 0 && (1:Int) == 1 && (sIx items.size items.size hi - sIx items.size 0 lo) == items.size)=true):=by
  intro q
  rw[B4,B4]at q
  have q1:((sIx items.size 0 lo:Nat):Int)=0:=eq_of_beq q.1.1
  have q2:sIx items.size items.size hi - sIx items.size 0 lo=items.size:=eq_of_beq q.2
  exact hw ⟨by omega,by omega⟩
 show p9 _ _ (if (((sIx items.size 0 lo:Nat):Int) == 0 && (1:Int) == 1 && (sIx items.size items.size hi - sIx items.size 0 lo) == items.size)=true then _ else _) _ _ s
 rw[if_neg hno,bx7]
 first
  | exact b7 (m:=Builtin.Tuple.tupleExact _) (Q9 (d4 ⟨_,rfl,d4 h⟩) htake)
  | exact b7 (m:=Builtin.Tuple.tupleExact _) (Q9 (b7 (d4 (d4 ⟨_,rfl,d4 h⟩))) htake)
  | exact b7 (b7 (m:=Builtin.Tuple.tupleExact _) (Q9 (d4 (d4 ⟨_,rfl,d4 h⟩)) htake))
  | exact b7 (b7 (m:=Builtin.Tuple.tupleExact _) (Q9 (d4 ⟨_,rfl,d4 h⟩) htake))
end HT
namespace L2
open PySem PySem.Spec PyProof.Rows
abbrev TO:=St->Hp->(Option Int->Hp->Prop)->Prop
def PO (X:Cx)(e:Option Expr)(t:TO):Prop:=
 ∀ (pins:List (Addr × Obj)) (s:Shared) (σ:St) (H:Hp) (Q:Option Int->Hp->Prop),Inv X pins σ H s->t σ H Q ->
  p9 (x8 X.prog X.w) X.A (evalPart e X.env) (fun u s'=>∃ o H',Inv X pins σ H' s'/\bF8 u o/\Q o H') X.xe s
def bI6:TO:=fun _ H Q=>Q none H
def cf0 (t:TE):TO:=fun σ H Q=>t σ H fun x H1=>∃ i,x=.int i/\Q (some i) H1
theorem intsAre_of:∀ {us:List Value},D3 (ns.map V.int) us->R0 us ns:=by
 induction ns with
 | nil=>intro us r;rw[List.map_nil]at r;cases r;exact .nil
 | cons n ns ih =>
  intro us r
  rw[o9]at r
  cases r with
  | cons r1 r2 =>
   obtain⟨t,e⟩:=r1
   subst e
   exact .cons n t (ih r2)
section
variable {lo hi:Option Expr} {tl th:TO} {p2:Pos}
theorem ad5:PO X none bI6:=by
 intro pins s σ H Q I h
 rw[evalPart_none]
 exact d4 ⟨none,H,I,.none,h⟩
theorem ad4 (h:PE X e te):PO X (some e) (cf0 te):=by
 intro pins s σ H Q I hw
 rw[evalPart_some]
 refine thn (h pins s σ H _ I hw) fun u s1 ⟨x,H1,I1,r1,q1⟩=>?_
 obtain⟨i,rfl,q⟩:=q1
 obtain⟨t,rfl⟩:=r1
 exact⟨some i,H1,I1,.int i t,q⟩
def SlR (X:Cx)(r:V->Option Int->Option Int->Hp->VK->Prop):Prop:=
 ∀ (pins:List (Addr × Obj)) (s:Shared) (σ:St) (H:Hp) (x:V) (v vl vu:Value) (lo hi:Option Int) (sl:Addr) (Q:VK),Inv X pins σ H s->RelV x v->s.heap.IsSliceOf sl vl vu .none->bF8 vl lo->bF8 vu hi->r x lo hi H Q ->
  ∃ T id,typeLookup (.type T) "__getitem__"=pure (some (.builtin id))/\s.TypeIs v T/\p9 (x8 X.prog X.w) X.A (bG6 v (.ref sl)) (EP X pins σ Q) X.xe s
def tSl (r:V->Option Int->Option Int->Hp->VK->Prop)(te:TE)(tl th:TO):TE:=fun σ H Q=>te σ H fun x H1=>tl σ H1 fun l H2=>th σ H2 fun u H3=>r x l u H3 Q
theorem Y8 {r:V->Option Int->Option Int->Hp->VK->Prop}(hr:SlR X r)(he:PE X e te)(hl:PO X lo tl)(hu:PO X hi th):PE X (.Subscript e (.Slice lo hi none p2) pos) (tSl r te tl th):=by
 intro pins s σ H Q I h
 refine Subscript_ (thn (he pins s σ H _ I h) fun v s1 ⟨x,H1,I1,r1,q1⟩=>?_)
 refine wpAny_Slice (thn (hl pins s1 σ H1 _ I1 q1) fun vl s2 ⟨l,H2,I2,pl,q2⟩=>thn (hu pins s2 σ H2 _ I2 q2) fun vu s3 ⟨u,H3,I3,pu,q3⟩=>?_)
 rw[evalPart_none]
 refine d4 ?_
 have I4:Inv X pins σ H3 { s3 with heap:=s3.heap.push { cls:=.type "slice",data:=.fields #[vl,vu,.none] } }:=I3.kept (t':=s3.toks) fun b ob q=>c5 _ q
 obtain⟨T,id,hT,ht,hg⟩:=hr pins { s3 with heap:=s3.heap.push { cls:=.type "slice",data:=.fields #[vl,vu,.none] } } σ H3 x v vl vu l u s3.heap.objs.size Q I4 r1 (Heap.IsSliceOf.new ..) pl pu q3
 show p9 (x8 X.prog X.w) X.A (subscriptTail e (.Slice lo hi none p2) v (.ref s3.heap.objs.size)) (EP X pins σ Q) X.xe { s3 with heap:=s3.heap.push { cls:=.type "slice",data:=.fields #[vl,vu,.none] } }
 exact tail_any (ops:=[.ref s3.heap.objs.size,v]) ht hT hg (by with_unfolding_all rfl)
def am5 (xs:List V)(lo hi:Option Int):List V:=(xs.drop (HT.sIx xs.length 0 lo)).take (HT.sIx xs.length xs.length hi - HT.sIx xs.length 0 lo)
theorem ay6 (xs:List V)(lo hi:Option Int):(am5 xs lo hi).length<=xs.length:=by
 unfold am5
 rw[o8,E7]
 omega
def cg9 (K:W.Frag):V->Option Int->Option Int->Hp->VK->Prop:=fun x lo hi H Q=>∃ a xs,x=.ref a/\SqT K H a xs /\
 ¬ (HT.sIx xs.length 0 lo=0/\HT.sIx xs.length xs.length hi=xs.length)/\∀ p,H p=none->Q (.ref p) (upd H p (.tup (am5 xs lo hi)))
theorem bW1:SlR X (cg9 X.K):=by
 intro pins s σ H x v vl vu lo hi sl Q I rx hs pl pu h
 obtain⟨a,xs,rfl,hx,hw,q⟩:=h
 cases rx
 obtain⟨its,r,ht,hz⟩:=I.tuple hx
 have hlen:its.toArray.size=xs.length:=by rw[d7];exact r.length.symm
 refine⟨"tuple",_,PyProof.Rows.slot_tuple_getitem.lookup,ht.typeIs,?_⟩
 refine HT.au0 ht hs pl pu (by rw[hlen];exact hw) ?_ (by rw[hlen];exact hz)
 rw[hlen]
 refine⟨.ref s.heap.objs.size,_,I.laid (t':=s.toks) (o:=.tup (am5 xs lo hi)) (fun b ob q=>c5 _ q) (c8 _) ?_,rfl,q _ (I.hok.fresh (c8 _))⟩
 exact⟨A8 (ay6 xs lo hi) hz,_,(r.drop (HT.sIx xs.length 0 lo)).take (HT.sIx xs.length xs.length hi - HT.sIx xs.length 0 lo),IsTup.new _ _⟩
def bR6 (K:W.Frag):R2:=fun x y H Q=>∃ a b xs ys,x=.ref a/\y=.ref b/\SqT K H a xs/\SqT K H b ys/\xs≠[]/\xs.length+ys.length<=j8 /\
 (ys=[]->Q (.ref a) H)/\(ys≠[]->∀ p,H p=none->Q (.ref p) (upd H p (.tup (xs++ys))))
theorem D3.nil_iff (r:D3 xs us):us=[]↔xs=[]:=by
 cases r with
 | nil=>simp
 | cons _ _=>simp
theorem bK6:OpR X (ad0 .Add) (bR6 X.K):=by
 intro pins s σ H x y v u Q I rx ry h
 obtain⟨a,b,xs,ys,rfl,rfl,ha,hb,hx,hz,q1,q2⟩:=h
 cases rx
 cases ry
 obtain⟨its,r1,p1,_⟩:=I.tuple ha
 obtain⟨its2,r2,p2,_⟩:=I.tuple hb
 refine HT.bO2 p1 p2 (fun z=>hx (r1.nil_iff.mp z)) (fun z=>⟨.ref a,H,I,rfl,q1 (r2.nil_iff.mp z)⟩) (fun z=>?_) (by rw[<- r1.length,<- r2.length];exact hz)
 refine⟨.ref s.heap.objs.size,_,I.laid (t':=s.toks) (o:=.tup (xs++ys)) (fun b ob q=>c5 _ q) (c8 _) ?_,rfl,q2 (fun w=>z (r2.nil_iff.mpr w)) _ (I.hok.fresh (c8 _))⟩
 exact⟨by rw[m6];exact hz,_,r1.append r2,IsTup.new _ _⟩
end
def ixN (n:Nat)(i:Int):Option Nat:=if 0<=i then (if i<n then some i.toNat else none) else if -(n:Int)<=i then some (i+n).toNat else none
def atI {α:Type}(xs:List α)(i:Int):Option α:=(ixN xs.length i).bind fun j=>xs[j]?
theorem aR0 {i:Int}(h:ixN n i=some j):seqIndex? i n=some j/\j<n /\ -(n:Int)<=i/\i<n:=by
 unfold ixN at h
 by_cases h0:0<=i
 ·rw[if_pos h0]at h
  by_cases h1:i<n
  ·rw[if_pos h1]at h
   have e:i.toNat=j:=Option.some.inj h
   exact⟨by rw[bn9 h0 h1,e],by omega,by omega,h1⟩
  ·rw[if_neg h1]at h;cases h
 ·rw[if_neg h0]at h
  by_cases h1:-(n:Int)<=i
  ·rw[if_pos h1]at h
   have e:(i+n).toNat=j:=Option.some.inj h
   exact⟨by rw[bc6 (by omega) h1,e],by omega,h1,by omega⟩
  ·rw[if_neg h1]at h;cases h
theorem aC0 {α:Type}{xs:List α}{i:Int}{v:α}(h:atI xs i=some v):∃ j,seqIndex? i xs.length=some j/\xs[j]?=some v/\j<xs.length /\ -(xs.length:Int)<=i/\i<xs.length:=by
 unfold atI at h
 cases e:ixN xs.length i with
 | none=>rw[e]at h;cases h
 | some j =>
  rw[e]at h
  obtain⟨h1,h2,h3,h4⟩:=aR0 e
  exact⟨j,h1,h,h2,h3,h4⟩
theorem y7 {α:Type}{xs:List α}{v:α}(h:xs[j]?=some v):atI xs (j:Int)=some v:=by
 have hj:j<xs.length:=(j5.mp h).1
 have e:ixN xs.length (j:Int)=some j:=by
  unfold ixN
  rw[if_pos (by omega),if_pos (by omega)];simp
 unfold atI;rw[e];exact h
def aC1 (b:Expr):Prop:=∀ o i,subscripted b false o i=operate [o,i] (bG6 o i)
def IxR (X:Cx)(r:R2):Prop:=
 ∀ (value slice:Expr) (pins:List (Addr × Obj)) (s:Shared) (σ:St) (H:Hp) (x y:V) (v u:Value) (Q:VK),Inv X pins σ H s->RelV x v->RelV y u->r x y H Q ->
  subscripted slice false v u=operate [v,u] (bG6 v u)->p9 (x8 X.prog X.w) X.A (subscriptTail value slice v u) (EP X pins σ Q) X.xe s
def MtR (X:Cx)(id:String)(r:V->List V->Hp->VK->Prop):Prop:=
 ∀ (pins:List (Addr × Obj)) (s:Shared) (σ:St) (H:Hp) (x:V) (xs:List V) (v:Value) (us:List Value) (Q:VK),Inv X pins σ H s->RelV x v->D3 xs us->r x xs H Q ->
  p9 (x8 X.prog X.w) X.A (call (.builtin id) (v::us)) (EP X pins σ Q) X.xe s
section
variable {a b:Expr} {tb:TE}
theorem IxR.or {r r':R2}(h:IxR X r)(h':IxR X r'):IxR X (fun x y H Q=>r x y H Q\/r' x y H Q):=by
 intro value slice pins s σ H x y v u Q I rx ry q hs
 rcases q with q | q
 ·exact h value slice pins s σ H x y v u Q I rx ry q hs
 ·exact h' value slice pins s σ H x y v u Q I rx ry q hs
theorem F6 {r:R2}(hr:IxR X r)(ha:PE X a ta)(hb:PE X b tb)(hs:aC1 b):PE X (.Subscript a b pos) (tOp r ta tb):=by
 intro pins s σ H Q I h
 exact Subscript_ (cb7 ha hb I h fun v u s2 x y H2 I2 rx ry q=>hr a b pins s2 σ H2 x y v u Q I2 rx ry q (hs _ _))
def bX5 (K:W.Frag):R2:=fun x y H Q=>∃ p xs i v,x=.ref p/\y=.int i/\SqL K H p xs/\atI xs i=some v/\Q v H
def bX4 (K:W.Frag):R2:=fun x y H Q=>∃ p xs i v,x=.ref p/\y=.int i/\SqT K H p xs/\atI xs i=some v/\Q v H
def ch1:R2:=fun x y H Q=>∃ z i c,x=.str z/\y=.int i/\z.length<=j8/\atI z.cps.toList i=some c/\Q (.str ⟨#[c]⟩) H
theorem aa7:IxR X (bX5 X.K):=by
 intro value slice pins s σ H x y v u Q I rx ry h hs
 obtain⟨p,xs,i,z,rfl,rfl,hq,he,q⟩:=h
 cases rx
 obtain⟨t,rfl⟩:=ry
 obtain⟨its,r,pl,hz⟩:=I.list hq
 obtain⟨j,h1,h2,h3,h4,h5⟩:=aC0 he
 obtain⟨w,ew,rw'⟩:=r.get h2
 have hl:=r.length
 have hn:=ar4
 have fin:EP X pins σ Q w s:=⟨z,H,I,rw',q⟩
 by_cases h0:0<=i
 ·have hj:i.toNat=j:=by
   rw[bn9 h0 h5]at h1
   exact Option.some.inj h1
  exact item_listR pl.isList h0 (by omega) (by rw[hj];simpa using ew) fin hs
 ·have hj:(i+(its.toArray.size:Int)).toNat=j:=by
   rw[bc6 (by omega) h4]at h1
   rw[d7,<- hl]
   exact Option.some.inj h1
  exact bP7 (x:=w) pl.isList.typeIs slot_list_getitem.lookup
   (bP8 (Q:=fun r s'=>r=w/\EP X pins σ Q r s') pl.isList (by omega) (by rw[d7]<;>omega) (by omega) (by rw[hj];simpa using ew) ⟨rfl,fin⟩) hs
theorem F4:IxR X (bX4 X.K):=by
 intro value slice pins s σ H x y v u Q I rx ry h hs
 obtain⟨p,xs,i,z,rfl,rfl,hq,he,q⟩:=h
 cases rx
 obtain⟨t,rfl⟩:=ry
 obtain⟨its,r,pl,hz⟩:=I.tuple hq
 obtain⟨j,h1,h2,h3,h4,h5⟩:=aC0 he
 obtain⟨w,ew,rw'⟩:=r.get h2
 have hl:=r.length
 have hn:=ar4
 have fin:EP X pins σ Q w s:=⟨z,H,I,rw',q⟩
 exact bP7 (x:=w) pl.typeIs slot_tuple_getitem.lookup
  (getItem_tuple (j:=j) (Q:=fun r s'=>r=w/\EP X pins σ Q r s') pl (by omega) (by omega) (by rw[d7,<- hl];exact h1) (by simpa using ew) ⟨rfl,fin⟩) hs
theorem ca4:IxR X ch1:=by
 intro value slice pins s σ H x y v u Q I rx ry h hs
 obtain⟨z,i,c,rfl,rfl,hz,he,q⟩:=h
 obtain⟨t,rfl⟩:=rx
 obtain⟨t',rfl⟩:=ry
 obtain⟨j,h1,h2,h3,h4,h5⟩:=aC0 he
 have hl:z.cps.toList.length=z.length:=by simp[Str.length]
 rw[hl]at h1 h4 h5
 have hn:=ar4
 exact tail_any (typeIs_str s z t) slot_str_getitem.lookup (getItem_str (c:=c) (by
  have e1:decide (i < -(2 ^ 63:Int))=false:=decide_eq_false (by omega)
  have e2:decide (i≥2 ^ 63)=false:=decide_eq_false (by omega)
  rw[e1,e2,Bool.or_false]) (by rw[h1];simpa using h2) ⟨.str ⟨#[c]⟩,H,I.tok _,⟨_,rfl⟩,q⟩) hs
def rIx (K:W.Frag):R2:=fun x y H Q=>bX5 K x y H Q\/bX4 K x y H Q\/ch1 x y H Q
theorem bA8:IxR X (rIx X.K):=aa7.or (F4.or ca4)
theorem bg3 (its:List Value)(n j:Nat)(u:Value):Obj.mapSeq (·.setIfInBounds j u) { cls:=.type "list",data:=.seq its.toArray n }={ cls:=.type "list",data:=.seq (its.set j u).toArray n }:=by
 simp[Obj.mapSeq]
theorem Inv.lst {σ:St}{p:Addr}(I:Inv X pins σ H s)(h:H p=some (.lst xs)) :
  ∃ (its:List Value) (n:Nat),D3 xs its/\s.heap.get? p=some { cls:=.type "list",data:=.seq its.toArray n }/\xs.length<=j8:=by
 obtain⟨z,its,n,r,e⟩:=I.hok p _ h
 exact⟨its,n,r,e,z⟩
theorem Inv.lstUpd {σ:St}{p:Addr}{its':List Value}{n':Nat}{f:Obj->Obj}(I:Inv X pins σ H s)(h:H p=some (.lst xs))
  (ho:s.heap.get? p=some { cls:=.type "list",data:=.seq its.toArray n })(hf:f { cls:=.type "list",data:=.seq its.toArray n }={ cls:=.type "list",data:=.seq its'.toArray n' })(r:D3 ys its')(hz:ys.length<=j8)(t:Nat) :
  Inv X pins σ (upd H p (.lst ys)) { s with heap:=s.heap.update p f,toks:=t }:=by
 have e:(s.heap.update p f).get? p=some { cls:=.type "list",data:=.seq its'.toArray n' }:=by
  rw[U0 f ho (by rw[hf]<;>rfl),hf]
 refine I.write (x:=p) (e:=p) (by rw[h];trivial) (.inl rfl) (fun b u hb q=>(B8 _ _ (Ne.symm hb)).trans q) ⟨_,e⟩ ?_
 exact⟨hz,its',n',r,e⟩
def ch0:V->V->V->Hp->(Hp->Prop)->Prop:=fun o i v H Q=>∃ p xs k j,o=.ref p/\i=.int k/\H p=some (.lst xs)/\ixN xs.length k=some j/\Q (upd H p (.lst (xs.set j v)))
theorem set_list:cc0 X ch0:=by
 intro pins s σ H o i v ov iv u Q I ro ri rv h
 obtain⟨p,xs,k,j,rfl,rfl,hp,hj,q⟩:=h
 cases ro
 obtain⟨t,rfl⟩:=ri
 obtain⟨its,n,r,ho,hz⟩:=I.lst hp
 obtain⟨h1,h2,h3,h4⟩:=aR0 hj
 have hl:=r.length
 have hn:=ar4
 have I':Inv X pins σ (upd H p (.lst (xs.set j v))) { s with heap:=s.heap.update p (Obj.mapSeq (·.setIfInBounds j u)) }:=
  I.lstUpd hp ho (bg3 its n j u) (r.set rv j) (by rw[N4];exact hz) s.toks
 by_cases h0:0<=k
 ·have hk:k.toNat=j:=by
   rw[bn9 h0 h4]at h1
   exact Option.some.inj h1
  exact PySem.W.ki_setAt ho h0 (by omega) (by rw[d7,<- hl];exact h4) (by rw[hk];exact⟨_,I',q⟩)
 ·have hk:(k+(its.toArray.size:Int)).toNat=j:=by
   rw[bc6 (by omega) h3]at h1
   rw[d7,<- hl]
   exact Option.some.inj h1
  exact PySem.W.ki_setBack ho (by omega) (by rw[d7,<- hl];exact h3) (by omega) (by rw[hk];exact⟨_,I',q⟩)
theorem aO8 (lo hi:Option Int)(n:Nat):(aj5 lo hi none n).1=((HT.sIx n 0 lo:Nat):Int)/\(aj5 lo hi none n).2.1=((HT.sIx n n hi:Nat):Int)/\(aj5 lo hi none n).2.2=1:=by
 refine⟨?_,?_,rfl⟩
 ·cases lo with
  | none=>simp[aj5,HT.sIx]
  | some i =>
   simp only[aj5,HT.sIx,bS6,show (1:Int) > 0 by decide,if_true]
   by_cases h:i<0
   ·simp only[h,if_true]<;>omega
   ·simp only[h,if_false]<;>omega
 ·cases hi with
  | none=>simp[aj5,HT.sIx]
  | some i =>
   simp only[aj5,HT.sIx,bS6,show (1:Int) > 0 by decide,if_true]
   by_cases h:i<0
   ·simp only[h,if_true]<;>omega
   ·simp only[h,if_false]<;>omega
theorem aI9 (its:List Value)(lo hi:Option Int):slicePick its.toArray lo hi none=((its.drop (HT.sIx its.length 0 lo)).take (HT.sIx its.length its.length hi - HT.sIx its.length 0 lo)).toArray:=by
 obtain⟨h1,h2,h3⟩:=aO8 lo hi its.toArray.size
 unfold slicePick
 rw[h1,h2,h3]
 simp only[sliceRange_one,pick_run,d7]<;>rfl
def cl9 (K:W.Frag):V->Option Int->Option Int->Hp->VK->Prop:=fun x lo hi H Q=>∃ a xs,x=.ref a/\SqL K H a xs/\∀ p,H p=none->Q (.ref p) (upd H p (.lst (am5 xs lo hi)))
theorem ah3:SlR X (cl9 X.K):=by
 intro pins s σ H x v vl vu lo hi sl Q I rx hs pl pu h
 obtain⟨a,xs,rfl,hx,q⟩:=h
 cases rx
 obtain⟨its,r,ht,hz⟩:=I.list hx
 have hlen:=r.length
 refine⟨"list",_,slot_list_getitem.lookup,ht.isList.typeIs,?_⟩
 refine wpAny_getItem_list_slice ht.isList hs pl pu .none (by simp) ?_ (by rw[d7]<;>omega)
 rw[aI9,<- hlen]
 refine⟨.ref s.heap.objs.size,_,I.laid (t':=s.toks) (o:=.lst (am5 xs lo hi)) (fun b ob q=>c5 _ q) (c8 _) ?_,rfl,q _ (I.hok.fresh (c8 _))⟩
 exact⟨A8 (ay6 xs lo hi) hz,_,0,(r.drop (HT.sIx xs.length 0 lo)).take (HT.sIx xs.length xs.length hi - HT.sIx xs.length 0 lo),l5 _ rfl⟩
theorem B1:ac3 X (.builtin "len") (fun xs H Q=>∃ p ys,xs=[.ref p]/\(SqL X.K H p ys\/SqT X.K H p ys)/\Q (.int ys.length) H):=by
 intro pins s σ H xs us Q I r h
 obtain⟨p,ys,rfl,hq,q⟩:=h
 obtain⟨u,rfl,rx⟩:=vals1 r
 cases rx
 have hn:=ar4
 rcases hq with hq | hq
 ·obtain⟨its,r',pl,hz⟩:=I.list hq
  have hlen:=r'.length
  exact Calls.call_len_list pl.isList (by simp only[d7]<;>omega) ⟨.int ys.length,H,I.tok _,⟨s.toks+1,by rw[d7,hlen]⟩,q⟩
 ·obtain⟨its,r',pl,hz⟩:=I.tuple hq
  have hlen:=r'.length
  exact len_tuple pl (by simp only[d7]<;>omega) ⟨.int ys.length,H,I.tok _,⟨s.toks+1,by rw[d7,hlen]⟩,q⟩
theorem ai2:ac3 X (.type "list") (fun xs H Q=>∃ p ys,xs=[.ref p]/\(SqL X.K H p ys\/SqT X.K H p ys)/\∀ l,H l=none->Q (.ref l) (upd H l (.lst ys))):=by
 intro pins s σ H xs us Q I r h
 obtain⟨p,ys,rfl,hq,q⟩:=h
 obtain⟨u,rfl,rx⟩:=vals1 r
 cases rx
 have fin:∀ (its:List Value),D3 ys its->ys.length<=j8->∀ (h':Heap) (c':Nat),(∀ b o',s.heap.get? b=some o'->h'.get? b=some o') ->
   h'.get? s.heap.objs.size=some { cls:=.type "list",dict:=none,data:=.seq its.toArray c',slots:=#[] }->EP X pins σ Q (.ref s.heap.objs.size) { s with heap:=h' }:=fun its r' hz h' c' kp e =>
  ⟨.ref s.heap.objs.size,_,I.laid (t':=s.toks) kp (c8 _) (show W1 X.prog X.w _ h' _ (.lst ys) from ⟨hz,its,c',r',e⟩),rfl,q _ (I.hok.fresh (c8 _))⟩
 rcases hq with hq | hq
 ·obtain⟨its,r',pl,hz⟩:=I.list hq
  have hlen:=r'.length
  obtain⟨o,ho,hc,n,hd⟩:=pl.isList
  exact call_list_seq p (.inl rfl) ho hc hd (fun h' c' kp e=>fin its r' hz h' c' kp e) (by simp only[d7]<;>omega)
 ·obtain⟨its,r',pl,hz⟩:=I.tuple hq
  have hlen:=r'.length
  obtain⟨o,ho,hc,n,hd⟩:=pl
  exact call_list_seq p (.inr rfl) ho hc hd (fun h' c' kp e=>fin its r' hz h' c' kp e) (by simp only[d7]<;>omega)
theorem N9:ac3 X (.type "tuple") (fun xs H Q=>∃ p ys,xs=[.ref p]/\((SqL X.K H p ys/\∀ l,H l=none->Q (.ref l) (upd H l (.tup ys)))\/(SqT X.K H p ys/\Q (.ref p) H))):=by
 intro pins s σ H xs us Q I r h
 obtain⟨p,ys,rfl,h⟩:=h
 obtain⟨u,rfl,rx⟩:=vals1 r
 cases rx
 rcases h with⟨hq,q⟩ | ⟨hq,q⟩
 ·obtain⟨its,r',pl,hz⟩:=I.list hq
  have hlen:=r'.length
  refine call_tuple_list pl.isList (fun h' kp=>?_) (by simp only[d7]<;>omega)
  have I1:Inv X pins σ H { s with heap:=h' }:=I.kept (t':=s.toks) kp
  have I2:Inv X pins σ (upd H h'.objs.size (.tup ys)) { s with heap:=h'.push { cls:=.type "tuple",data:=.seq its.toArray } } :=
   I1.laid (t':=s.toks) (fun b o e=>c5 _ e) (c8 _) (show W1 X.prog X.w _ _ _ (.tup ys) from ⟨hz,its,r',IsTup.new _ _⟩)
  exact⟨.ref h'.objs.size,_,I2,rfl,q _ (I1.hok.fresh (c8 _))⟩
 ·obtain⟨its,r',pl,hz⟩:=I.tuple hq
  exact call_tuple_same pl ⟨.ref p,H,I,rfl,q⟩
def tyV (K:W.Frag)(T:String)(x:V)(H:Hp):Prop:=match x with
 | .str _=>T="str"
 | .int _=>T="int"
 | .ref p=>(T="list"/\∃ xs,SqL K H p xs)\/(T="tuple"/\∃ o,K.lookup p=some o/\o.cls=.type "tuple"/\o.dict=none) \/
   (T="dict"/\((∃ kvs,H p=some (.dK kvs))\/∃ kvs,H p=some (.dT kvs)))\/(T="set"/\∃ S n,H p=some (.set S n))
 | _=>False
theorem bU7 {σ:St}{T:String}{x:V}(I:Inv X pins σ H s)(r:RelV x v)(ty:tyV X.K T x H) :
  s.TypeIs v T/\∀ a,v=.ref a->∃ ob,s.heap.get? a=some ob/\ob.dict=none:=by
 cases x with
 | str z =>
  obtain⟨t,rfl⟩:=r
  cases (show T="str" from ty)
  exact⟨typeIs_str s z t,fun _ e=>nomatch e⟩
 | int i =>
  obtain⟨t,rfl⟩:=r
  cases (show T="int" from ty)
  exact⟨typeIs_int s i t,fun _ e=>nomatch e⟩
 | ref p =>
  cases r
  rcases ty with⟨rfl,xs,hq⟩ | ⟨rfl,o,hk,hc,hd⟩ | ⟨rfl,hk⟩ | ⟨rfl,S,n,hk⟩
  ·obtain⟨its,_,pl,_⟩:=I.list hq
   refine⟨pl.isList.typeIs,fun a e=>?_⟩
   cases e
   obtain⟨o,n,e,c,hd,_⟩:=pl
   exact⟨o,e,hd⟩
  ·refine⟨⟨o,I.kIn p o hk,hc⟩,fun a e=>?_⟩
   cases e
   exact⟨o,I.kIn _ o hk,hd⟩
  ·have z:∃ o,s.heap.get? p=some o/\o.ExactDict:=by
    rcases hk with⟨kvs,hk⟩ | ⟨kvs,hk⟩
    ·obtain⟨_,_,_,_,o,_,_,e,ex,_⟩:=I.hok p _ hk
     exact⟨o,e,ex⟩
    ·obtain⟨_,_,_,_,o,_,_,e,ex,_⟩:=I.hok p _ hk
     exact⟨o,e,ex⟩
   obtain⟨o,e,ex⟩:=z
   refine⟨⟨o,e,ex.1⟩,fun a e2=>?_⟩
   cases e2
   exact⟨o,e,ex.2.1⟩
  ·obtain⟨o,_,_,_,e,ex,_⟩:=I.hok p _ hk
   refine⟨⟨o,e,ex.1⟩,fun a e2=>?_⟩
   cases e2
   exact⟨o,e,ex.2.1⟩
 | _=>exact False.elim ty
def tBM (K:W.Frag)(T:String)(r:V->List V->Hp->VK->Prop)(to:TE)(t:TA):TE:=fun σ H Q=>to σ H fun x H1=>tyV K T x H1/\t σ H1 fun xs H2=>r x xs H2 Q
variable {to:TE} {t:TA} {name:Str} {apos cpos:Pos} {T id:String}
theorem aK3 (pa:PlainAttrs T) (slot:Slot T name id) (hty:typeOf (.builtin id)=pure (.type "method_descriptor")) (hm:MtR X id r) (ho:PE X o to) (ha:PA X (e::es) t)
  (hbase:bG7 o name X.env (eval o X.env)=eval o X.env:=by rfl)
  (hfew : ((N6 cpos (u4 (e :: es) X.env)).all (fun x => !x.1) && (ag9 cpos (S0 [] X.env)).all (fun x => x.1.isSome)
   && decide ((e::es).length+([]:List az0).length+(if ([]:List az0).isEmpty then 0 else 1)<30))=true:=by rfl)
  (hline:(apos.endLine == cpos.line)=true:=by rfl) (hs:u4 (e::es) X.env=(false,eval e X.env)::u4 es X.env:=by rfl) (hplain:(N6 cpos (u4 es X.env)).any (·.1)=false:=by rfl) :
  PE X (.Call (.Attribute o name apos) (e::es) [] cpos) (tBM X.K T r to t):=by
 intro pins s σ H Q I h
 refine wpAny_Call_method_late hbase hfew hline rfl (thn (ho pins s σ H _ I h) fun v s1 ⟨x,H1,I1,r1,ty,q1⟩=>?_)
 obtain⟨h1,h2⟩:=bU7 I1 r1 ty
 refine⟨T,id,pa,slot,hty,h1,h2,?_⟩
 have hA:=ha cpos pins s1 σ H1 _ I1 q1
 rw[hs]at hA ⊢
 refine Calls.callWith_builtin (by show (false || (N6 cpos (u4 es X.env)).any (·.1))=false;rw[hplain]<;>rfl) (Calls.evalArgs_plain ?_)
 exact thn hA fun us s2 ⟨vs,H2,I2,r2,q2⟩=>hm pins s2 σ H2 x vs v us Q I2 r1 r2 q2
/- xs.append(e),list.index on a module's tuple .. are MtR facts of 06m -/
end
def MtM (X:Cx)(id:String)(r:V->List V->Hp->VK->Prop):Prop:=
 ∀ (pins:List (Addr × Obj)) (s:Shared) (σ:St) (H:Hp) (x:V) (xs:List V) (v:Value) (us:List Value) (Q:VK),Inv X pins σ H s->RelV x v->D3 xs us->r x xs H Q ->
  p9 (x8 X.prog X.w) X.A (call (.builtin id) (v::us)) (EP X pins σ Q) X.xe s
theorem D3.one:∀ {x:V} {us:List Value},D3 [x] us->∃ u,us=[u]/\RelV x u
 | _,_,.cons r .nil=>⟨_,rfl,r⟩
theorem D3.eraseIdx:∀ {xs:List V} {us:List Value} (i:Nat),D3 xs us->D3 (xs.eraseIdx i) (us.eraseIdx i)
 | _,_,_,.nil=>.nil
 | _,_,0,.cons _ t=>t
 | _,_,i+1,.cons r t=>.cons r (D3.eraseIdx i t)
theorem D3.rep (h:D3 xs us):∀ k:Nat,D3 (C0 k xs).flatten (C0 k us).flatten
 | 0=>.nil
 | k+1=>by
  rw[N5,N5,Q0,Q0]
  exact D3.append h (D3.rep h k)
theorem aK8 {α:Type}:∀ (l:List α) (i:Nat),(l.eraseIdx i).length<=l.length
 | [],_=>c8 _
 | _::_,0=>P3 _
 | _::r,i+1=>Nat.succ_le_succ (aK8 r i)
theorem foldl_rep (its:List Value):∀ (k:Nat) (acc:List Value),
  ae9 (fun x1 x2=>x1++x2) acc.toArray (C0 k its.toArray)=(acc++(C0 k its).flatten).toArray
 | 0,acc=>by simp
 | k+1,acc=>by
  have e:acc.toArray++its.toArray=(acc++its).toArray:=by simp
  have e2:(acc++its)++(C0 k its).flatten=acc++(C0 (k+1) its).flatten:=by
   rw[N5,Q0,C3]
  rw[<- e2,<- foldl_rep its k (acc++its),<- e,N5,ag4]
section
variable {σ:St} {l b:Addr} {zs:List V}
theorem Inv.lset {its':List Value}{f:Array Value->Array Value}(I:Inv X pins σ H s)(hH:H l=some (.lst xs))
  (e:s.heap.get? l=some { cls:=.type "list",data:=.seq its.toArray n })(hf:f its.toArray=its'.toArray)(hv:D3 ys its')(hz:ys.length<=j8) :
  Inv X pins σ (upd H l (.lst ys)) { s with heap:=s.heap.update l (Obj.mapSeq f),toks:=t' }:=by
 have q:=PySem.IsL.update e f
 rw[hf]at q
 refine I.write (x:=l) (e:=l) (by rw[hH];exact trivial) (.inl rfl) (fun b' u hb hu=>(B8 s.heap (Obj.mapSeq f) (Ne.symm hb)).trans hu) ⟨_,q⟩ ?_
 exact⟨hz,its',_,hv,q⟩
theorem Inv.lnew (I:Inv X pins σ H s)(hv:D3 ys its)(hz:ys.length<=j8) :
  Inv X pins σ (upd H s.heap.objs.size (.lst ys)) { s with heap:=s.heap.push { cls:=.type "list",data:=.seq its.toArray },toks:=t' } :=
 I.laid (fun _ _ q=>c5 _ q) (c8 _) ⟨hz,its,0,hv,l5 _ rfl⟩
theorem Inv.fresh (I:Inv X pins σ H s):H s.heap.objs.size=none:=I.hok.fresh (c8 _)
theorem Inv.lstM (I:Inv X pins σ H s)(hH:H l=some (.lst xs)):xs.length<=j8/\∃ (its:List Value) (n:Nat),D3 xs its/\xs.length=its.length/\s.heap.get? l=some { cls:=.type "list",data:=.seq its.toArray n }:=by
 obtain⟨z,its,n,r,e⟩:=I.hok l _ hH
 exact⟨z,its,n,r,r.length,e⟩
theorem bz0 (h:n<=j8):Builtin.List.listTooLong n=false:=by
 unfold Builtin.List.listTooLong
 exact decide_eq_false (by omega)
end
def bJ7:V->List V->Hp->VK->Prop:=fun x vs H Q=>∃ l xs y,x=.ref l/\vs=[y]/\H l=some (.lst xs)/\xs.length<j8/\Q .non (upd H l (.lst (xs++[y])))
theorem Y0:MtM X "list.append" bJ7:=by
 intro pins s σ H x vs v us Q I rx rv h
 obtain⟨l,xs,y,rfl,rfl,hH,hz,q⟩:=h
 cases rx
 obtain⟨u,rfl,ru⟩:=rv.one
 obtain⟨z,its,n,r,hl,e⟩:=I.lstM hH
 refine aU1 F.slot_list_append ⟨_,e,rfl⟩ F.entry_list_append (F.args_list_append_2 _ _) (PySem.list_append l its.toArray n u (by rw[d7];omega)) ⟨e,?_⟩
 refine⟨.non,_,I.lset (its':=its++[u]) hH e (by simp) (r.append (.cons ru .nil)) ?_,rfl,q⟩
 rw[m6,bF4]
 omega
def bX3:V->List V->Hp->VK->Prop:=fun x vs H Q=>∃ l xs i k y,x=.ref l/\vs=[.int i]/\H l=some (.lst xs) /\ -(2 ^ 63)<=i/\i<2 ^ 63/\seqIndex? i xs.length=some k/\xs[k]?=some y/\Q y (upd H l (.lst (xs.eraseIdx k)))
theorem bz3:MtM X "list.pop" bX3:=by
 intro pins s σ H x vs v us Q I rx rv h
 obtain⟨l,xs,i,k,y,rfl,rfl,hH,h1,h2,hk,hy,q⟩:=h
 cases rx
 obtain⟨u,rfl,ru⟩:=rv.one
 obtain⟨t,rfl⟩:=ru
 obtain⟨z,its,n,r,hl,e⟩:=I.lstM hH
 obtain⟨w,hw,rw'⟩:=r.get hy
 refine aU1 F.slot_list_pop ⟨_,e,rfl⟩ F.entry_list_pop (F.args_list_pop_2 _ _)
  (MeetsSeq.list_pop_at l its.toArray n i t k w (fitsIndex_both h1 h2) (by rw[d7,<- hl];exact hk) (by rw[<- d9];exact hw) (by rw[d7];omega)) ⟨e,?_⟩
 refine⟨y,_,I.lset (its':=its.eraseIdx k) hH e ?_ (r.eraseIdx k) ?_,rw',q⟩
 ·show its.toArray.eraseIdxIfInBounds k=(its.eraseIdx k).toArray
  rw[List.eraseIdxIfInBounds_toArray]
 ·have:=aK8 xs k
  omega
def cm1:R2:=fun x y H Q=>∃ l b xs zs,x=.ref l/\y=.ref b/\H l=some (.lst xs)/\H b=some (.lst zs)/\xs.length+zs.length<=j8/\∀ p,H p=none->Q (.ref p) (upd H p (.lst (xs++zs)))
theorem bY2:OpR X (ad0 .Add) cm1:=by
 intro pins s σ H x y v u Q I rx ry h
 obtain⟨l,b,xs,zs,rfl,rfl,hH,hB,hz,q⟩:=h
 cases rx
 cases ry
 obtain⟨z,its,n,r,hl,e⟩:=I.lstM hH
 obtain⟨z2,its2,n2,r2,hl2,e2⟩:=I.lstM hB
 refine PySem.P.add_list e e2 ?_ (by rw[d7,d7];omega)
 have ea:its.toArray++its2.toArray=(its++its2).toArray:=by simp
 rw[ea]
 exact⟨.ref _,_,I.lnew (t':=s.toks) (r.append r2) (by rw[m6];omega),rfl,q _ I.fresh⟩
def cm0:R2:=fun x y H Q=>∃ l k xs,x=.ref l/\y=.int k/\H l=some (.lst xs) /\ -(2 ^ 63)<=k/\k<2 ^ 63/\xs.length*k.toNat<=j8 /\
 ∀ p,H p=none->Q (.ref p) (upd H p (.lst (C0 k.toNat xs).flatten))
theorem len_rep {α:Type}(xs:List α)(k:Nat):(C0 k xs).flatten.length=k*xs.length:=by
 induction k with
 | zero=>simp
 | succ k ih=>rw[N5,Q0,m6,ih,Nat.succ_mul,Nat.add_comm]
theorem bf9:OpR X (ad0 .Mult) cm0:=by
 intro pins s σ H x y v u Q I rx ry h
 obtain⟨l,k,xs,rfl,rfl,hH,h1,h2,hz,q⟩:=h
 cases rx
 obtain⟨t,rfl⟩:=ry
 obtain⟨z,its,n,r,hl,e⟩:=I.lstM hH
 have hlen:its.toArray.size*k.toNat<=j8:=by rw[d7,<- hl];exact hz
 have hcap:¬ its.toArray.size*k.toNat > (2 ^ 63 - 1) / 8:=by
  have:(j8:Nat)<=(2 ^ 63 - 1) / 8:=by decide
  omega
 have hfit:¬ (!Builtin.List.listFitsIndex k)=true:=by
  rw[fitsIndex_both h1 h2]
  exact k7
 have hlong:¬ Builtin.List.listTooLong (its.toArray.size*k.toNat)=true:=by
  rw[bz0 hlen]
  exact k7
 have hnew:ae9 (fun x1 x2=>x1++x2) #[] (C0 (if its.toArray.isEmpty=true then 0 else k.toNat) its.toArray)=(C0 k.toNat its).flatten.toArray:=by
  have f0:∀ m:Nat,ae9 (fun x1 x2=>x1++x2) #[] (C0 m its.toArray)=(C0 m its).flatten.toArray:=fun m=>by
   have:=foldl_rep its m []
   rw[Q1]at this
   exact this
  rw[f0]
  cases its with
  | nil=>simp
  | cons a r'=>rw[if_neg (by simp)]
 refine wpAny_binaryOp_repeat_ref (T:="list") (U:="int") (by decide) ⟨_,e,rfl⟩ (fun s'=>typeIs_int s' k t) noFill_list_mul F.fills_int_mul F.slot_int_rmul repeat_list F.slot_int_index.lookup
  (aU1 F.slot_int_rmul (typeIs_int s k t) F.entry_int_rmul (F.args_int_rmul_2 _ _) (int___rmul___int_list k t l its.toArray n)
   ⟨e,rfl,⟨_,e,rfl⟩,aU1 F.slot_list_mul ⟨_,e,rfl⟩ F.entry_list_mul (F.args_list_mul_2 _ _) (AutoListH.list___mul___list_int_3 l its.toArray n k t hfit hcap hlong) ⟨e,?_⟩⟩)
 rw[hnew]
 exact⟨.ref _,_,I.lnew (t':=s.toks) (r.rep k.toNat) (by rw[len_rep,Nat.mul_comm];exact hz),rfl,q _ I.fresh⟩
end L2
namespace Att
open PySem PySem.W PySem.Calls PyProof.Rows
theorem az4 {P:Params}:∀ (ns:List Int) (vs:List Value),WellAll P h vs (ns.map WData.int)->R0 vs ns:=by
 intro ns
 induction ns with
 | nil =>
  intro vs w
  rw[List.map_nil]at w
  cases w
  exact .nil
 | cons n ns ih =>
  intro vs w
  rw[o9]at w
  cases w with
  | cons a b =>
   cases a
   exact .cons _ _ (ih _ b)
theorem bp2 {l:OpenLaw}(hn:l.most=some n){P:Params}{args:List WData}{vals:List Value}
  (hpre:l.row.toRowW.claim.pre args=true)(hwl:WellAll P h vals args) :
  ∃ a vs ns,vals=[Value.ref a]/\args=[WData.list (ns.map WData.int)]/\h.get? a=some { cls:=.type "list",data:=.seq vs.toArray }/\R0 vs ns/\ns.length<=n:=by
 have hsh:WShape.hasAll [] args [.list .int]=true:=(pre_splitW hpre).1
 have hc:l.pre.holds [] { args:=args }=true:=(pre_splitW hpre).2
 obtain⟨d,r,rfl,h1,h2⟩:=hasAllW_cons hsh
 obtain rfl:=hasAllW_nil h2
 obtain⟨xs,rfl,h3⟩:=hasW_list h1
 obtain⟨ns,rfl⟩:=items_int h3
 have hlen:ns.length<=n:=by
  unfold OpenLaw.pre at hc
  have h4:(WTm.not (.lt (.lit (.int (n:Int))) (.len (.arg 0)))).holds [] { args:=[.list (ns.map .int)] }=true:=by
   have h4:=(holds_andW hc).1
   rw[hn]at h4
   exact h4
  have h5:=condW_of h4 (w_not (w_lt w_lit (w_len_list (w_arg rfl))))
  rw[b8]at h5
  refine Nat.le_of_not_lt fun q=>?_
  have q':(n:Int)<((ns.length:Nat):Int):=by omega
  first
   | (rw[decide_eq_true q']at h5;exact absurd h5 (by decide))
   | (simp at h5;omega)
 cases hwl with
 | cons w1 w2 =>
  cases w2
  cases w1 with
  | list ho hall=>exact⟨_,_,ns,rfl,rfl,ho,az4 ns _ hall,hlen⟩
theorem bp5 (l:OpenLaw)(args:List WData):l.row.toRowW.claim.post args (.bool true) args=true:=
 postW_of (r:=l.row.toRowW) (X:=(true == true))
  (show WShape.has [] (.bool true) .bool=true by first | rfl | decide | simp[WShape.has,WShape.arms,WShape.armsAll])
  (show (WTm.eq .res (.lit (.bool true))).value [] { args:=args,res:=some (.bool true),after:=args }=some (.bool (true == true)) from w_eq_bool (w_res rfl) w_lit) rfl
theorem attach_call {l:OpenLaw} {q:Program} {loose:List Str} {d:DefRec}
  (hn:l.most=some n) (hdf:d.params.defaults=[])
  (call : ∀ (w : World) (s₀ s₁ : Shared) (mg mb : Str -> Option Value) (fa : Addr) (o : Obj) (pm cd doc : Value) (a : Addr) (vs : List Value) (ns : List Int),
   Ground q loose [] XP w s₀ mg mb s₁.heap->YP w s₁.heap ->
   s₁.heap.get? fa=some o->o.data=.func (docDef d.name d.params d.body d.scope pm cd doc)->s₁.heap.CodeRec cd d.name->mg d.name=some (.ref fa) ->
   s₁.heap.get? a=some { cls:=.type "list",data:=.seq vs.toArray }->R0 vs ns->ns.length<=n->s₁.gens=#[] ->
   ar9 (x8 l.prog w) bo0 (.call (.ref fa) ⟨[.ref a],[]⟩) (fun r s'=>r=.ok (.ret (.bool true))/\OldK s₁.heap s'.heap/\s'.os=s₁.os/\ay9 s'.gens) s₁) :
  WalkO q loose XP YP l.row.toRowW d [] (fun f vs=>PySem.call f vs):=by
 intro w s₀ s₁ mg mb G Y fa o pm cd doc dV kV ho hd hcd hD hmg hg args vals as hpre hlay hrd hwl hlo
 obtain rfl:dV=.none:=Dflts.none hD hdf
 obtain rfl:kV=.none:=Dflts.noKw hD
 obtain⟨a,vs,ns,rfl,rfl,hobj,hints,hlen⟩:=bp2 hn hpre hwl
 refine enter_call (Z5 (call w s₀ s₁ mg mb fa o pm cd doc a vs ns G Y ho (fd_plain hd) hcd hmg hobj hints hlen hg) fun r s' hq=>?_)
 obtain⟨rfl,h2,h3,h4⟩:=hq
 exact⟨.inl ⟨.bool true,.bool true,[],rfl,fun _=>rfl,.bool true,bp5 l _,fun _=>⟨List.Pairwise.nil,fun _ hm=>(nomatch hm)⟩⟩,h2,h3,h4⟩
section
variable {K:Frag}
end
end Att
namespace L2
open PySem PySem.Spec PyProof.Rows
theorem an7:∀ {vs:List Value} {ns:List Int},R0 vs ns->D3 (ns.map V.int) vs
 | _,_,.nil=>.nil
 | _,_,.cons n t h=>.cons ⟨t,rfl⟩ (an7 h)
end L2
namespace L2
open PySem PySem.Spec PyProof.Rows
def ao5 (s:Stmt):Arguments:=match s with
 | .FunctionDef _ a _ _ _ _ _ _ _ _=>a
 | _=>{ posonlyargs:=[],args:=[],vararg:=none,kwonlyargs:=[],kw_defaults:=[],kwarg:=none,defaults:=[] }
def Q6 (s:Stmt):List Stmt:=match s with
 | .FunctionDef _ _ b _ _ _ _ _ _ _=>b
 | _=>[]
def p5 (s:Stmt):Scope:=match s with
 | .FunctionDef _ _ _ _ _ _ sc _ _ _=>sc
 | _=>{ kind:=.function,names:=[],isGenerator:=false,isCoroutine:=false }
abbrev CX0:CXT:=fun _ _ _ _ _ _=>False
abbrev E0:XK:=fun _ _ _=>False
theorem K6:ax5 CX0 X E0:=fun _ _ _ _ _ _ _ h=>h.elim
structure Fun (K:W.Frag) (x qual:Str) (st:Stmt) (f:Addr) (fd:FuncData):Prop where
 ex:∃ (oc:Value) (od:Option Addr) (kV doc pm:Value) (an:Option Addr) (cdv ct:Value) (osl:Array (Option Value)),
  fd=W3 x qual (ao5 st) (Q6 st) (p5 st) .none kV doc pm an cdv ct/\K.lookup f=some ⟨oc,od,.func fd,osl⟩/\aT8 K cdv qual=true
 kp:U9 K (.ref f)=true
section
variable {K:W.Frag} {mg:Str->Option Value} {base:Heap}
theorem Fun.ok {st:Stmt} {k:Nat} {sp:Sp} (F:Fun K x qual st f fd) (S:A4 N ps (p5 st))
  (hbody : ∀ (cdv : Value) (A : Around) (outer : List Env) (s : Shared) (H : Hp) (vs : List V) (Q : VK) (E : XK), Z9 k (A.deeper (P4 qual (p5 st) s.heap.objs.size f cdv)) -> sp vs H Q E ->
   ∃ t,PSs (am3 CX0 P w K mg base N qual (p5 st) f cdv A outer s H E).nox (Q6 st) t/\t { nx:=fun _ H'=>Q .non H',rt:=Q } (start N vs) H) (len:∀ vs H Q E,sp vs H Q E->vs.length=ps.length:=by intro _ _ _ _ h;repeat first | (obtain⟨rfl,_⟩:=h;rfl) | obtain⟨_,h⟩:=h):x6 P w K mg base CX0 (k+1) f fd ps sp:=by
 obtain⟨oc,od,kV,doc,pm,an,cdv,ct,osl,rfl,lk,hcd⟩:=F.ex
 refine bC0 lk hcd S len fun A outer s H vs Q E hr hsp=>?_
 obtain⟨t,h,q⟩:=hbody cdv A outer s H vs Q E hr hsp
 exact⟨t,h.nox,q⟩
theorem Fun.binds {st:Stmt}(F:Fun K x qual st f fd)
  (h:∀ (kV doc pm:Value) (an:Option Addr) (cdv ct:Value) (us:List Value),us.length=ps.length->bi7 (W3 x qual (ao5 st) (Q6 st) (p5 st) .none kV doc pm an cdv ct) ⟨us,[]⟩=pure (ps.zip us)):Binds K fd ps []:=by
 obtain⟨oc,od,kV,doc,pm,an,cdv,ct,osl,rfl,lk,hcd⟩:=F.ex
 exact .all (h kV doc pm an cdv ct)
theorem fun_mk {st:Stmt}{oc:Value}{od an:Option Addr}{osl:Array (Option Value)}{kV doc pm cdv ct:Value}(l:K.lookup f=some ⟨oc,od,.func (W3 x qual (ao5 st) (Q6 st) (p5 st) .none kV doc pm an cdv ct),osl⟩)
  (c:aT8 K cdv qual=true)(k:U9 K (.ref f)=true):Fun K x qual st f (W3 x qual (ao5 st) (Q6 st) (p5 st) .none kV doc pm an cdv ct):=⟨⟨oc,od,kV,doc,pm,an,cdv,ct,osl,rfl,l,c⟩,k⟩
structure Fq (K:W.Frag) (mg:Str->Option Value) (x:Str) (st:Stmt) (f:Addr) (fd:FuncData) (ps:List Str):Prop where
 F:Fun K x x st f fd
 b:Binds K fd ps []
 m:mg x=some (.ref f)
theorem D0 {CX:CXT}{k:Nat}{sp:Sp}{t:TA}{E:XK}{p:Pos}{st:Stmt}(F:x6 X.prog X.w X.K X.mg X.base CX k f fd ps sp)(hr:Z9 k X.A)(hg:Gl X x)(q:Fq X.K X.mg x st f fd ps)(hx:ax5 CX X E)
  (ha:PA X (e::es) t)(hdb:(x == ("__debug__":Str))=false:=by decide)(he:u4 (e::es) X.env=(false,eval e X.env)::u4 es X.env:=by rfl)(hpl:(N6 pos (u4 es X.env)).any (·.1)=false:=by rfl) :
  PE X (.Call (.Name x p) (e::es) [] pos) (bQ4 sp [] E t):=ao0 F hr hg q.m q.F.kp q.b .nil hx ha hdb he hpl
end
theorem pv (i:Nat)(hN:X.N[i]?=some x:=by rfl)(hv:Vis X.env.scope x:=by first | exact Or.inl rfl | exact Or.inr (Or.inl rfl) | exact Or.inr (Or.inr rfl))(hd:(x == ("__debug__":Str))=false:=by decide)
  (hcd:(x == ("__classdict__":Str))=false:=by decide):PE X (.Name x pos) (ce6 i):=bx9 hN hv hd hcd
theorem T9 {A B:Prop}(h:B):if false=true then A else B:=by
 rw[if_neg k7]
 exact h
theorem T8 {A B:Prop}(h:A):if true=true then A else B:=by
 rw[if_pos rfl]
 exact h
theorem aR1 {c A B:Prop}[Decidable c](h1:c->A)(h2:¬ c->B):if c then A else B:=by
 by_cases h:c
 ·rw[if_pos h]
  exact h1 h
 ·rw[if_neg h]
  exact h2 h
theorem aF6 {c A B:Prop}[Decidable c](hc:c)(h:B):if (!decide c)=true then A else B:=by
 rw[decide_eq_true hc]
 exact T9 h
def A3 (H H':Hp):Prop:=∀ b o,H b=some o->H' b=some o
theorem A3.refl (H:Hp):A3 H H:=fun _ _ h=>h
theorem A3.trans {H1 H2:Hp}(a:A3 H H1)(b:A3 H1 H2):A3 H H2:=fun c o h=>b c o (a c o h)
theorem A3.free (e:A3 H H'){l:Addr}(h:H' l=Option.none):H l=Option.none:=by
 cases q:H l with
 | none=>rfl
 | some o =>
  rw[e l o q]at h
  cases h
theorem A3.seq {K:W.Frag}(e:A3 H H')(h:SqL K H a xs):SqL K H' a xs:=by
 rcases h with(h | ⟨o,h⟩) | h
 ·exact .inl (.inl (e _ _ h))
 ·exact .inl (.inr ⟨o,e _ _ h⟩)
 ·exact .inr h
end L2
namespace Tim
open PySem PyProof.Rows
def aa9:Bool->Keyed->Array Keyed->Nat->Nat->Nat->StateT SortSt Sem (Option Nat):=sortPriv% PySem.Builtin.gallop
def Q3:Nat->StateT SortSt Sem Unit:=sortPriv% PySem.Builtin.setMinGallop
def aF0:Array Keyed->Array Keyed->StateT SortSt Sem (Array Keyed):=sortPriv% PySem.Builtin.mergeLo
def aF1:Array Keyed->Array Keyed->StateT SortSt Sem (Array Keyed):=sortPriv% PySem.Builtin.mergeHi
def ai3 (left:Bool)(key:Keyed)(arr:Array Keyed)(base:Nat)(i:Nat):StateT SortSt Sem (Option Bool):=do
 let x <- ak9 arr (base+i)
 if left then lt' x key else return (<- lt' key x).map (!·)
theorem bh2 (left:Bool)(key:Keyed)(arr:Array Keyed)(base n hint:Nat):aa9 left key arr base n hint=(do
 let mut lastofs:=0
 let mut ofs:=1
 let mut lo:=0
 let mut hi:=0
 let some right <- ai3 left key arr base hint | return none
 if right then
  let maxofs:=n - hint
  for _ in [0:n] do
   if ofs≥maxofs then break
   let some more <- ai3 left key arr base (hint+ofs) | return none
   if !more then break
   lastofs:=ofs
   ofs:=2*ofs+1
  lo:=hint+lastofs+1
  hi:=hint+min ofs maxofs
 else
  let maxofs:=hint+1
  for _ in [0:n] do
   if ofs≥maxofs then break
   let some found <- ai3 left key arr base (hint - ofs) | return none
   if found then break
   lastofs:=ofs
   ofs:=2*ofs+1
  lo:=hint+1 - min ofs maxofs
  hi:=hint - lastofs
 for _ in [0:n] do
  if lo≥hi then break
  let m:=lo+(hi - lo) / 2
  let some more <- ai3 left key arr base m | return none
  if more then lo:=m+1 else hi:=m
 return some hi):=rfl
theorem av7 (g:Nat):Q3 g=modify (fun s=>SortSt.mk' (kindOf s) (m8 s) (C6 s) g (P5 s)):=rfl
structure Ord (B:Keyed->Keyed->Bool):Prop where
 irr:∀ x,B x x=false
 tr:∀ x y z,B x y=true->B y z=true->B x z=true
 ng:∀ x y z,B x z=true->B x y=true\/B y z=true
def le (B:Keyed->Keyed->Bool)(x y:Keyed):Prop:=B y x=false
theorem Ord.rf (o:Ord B)(x:Keyed):le B x x:=o.irr x
theorem Ord.of_lt (o:Ord B){x y:Keyed}(h:B x y=true):le B x y:=by
 unfold le
 cases e:B y x with
 | false=>rfl
 | true =>
  have:=o.tr _ _ _ h e
  rw[o.irr]at this
  cases this
theorem Ord.trans (o:Ord B){x y z:Keyed}(h1:le B x y)(h2:le B y z):le B x z:=by
 unfold le at *
 cases e:B z x with
 | false=>rfl
 | true =>
  rcases o.ng _ y _ e with h | h
  ·rw[h2]at h;cases h
  ·rw[h1]at h;cases h
theorem Ord.lt_le (o:Ord B){x y z:Keyed}(h1:B x y=true)(h2:le B y z):B x z=true:=by
 unfold le at h2
 rcases o.ng _ z _ h1 with h | h
 ·exact h
 ·rw[h2]at h;cases h
theorem Ord.le_lt (o:Ord B){x y z:Keyed}(h1:le B x y)(h2:B y z=true):B x z=true:=by
 unfold le at h1
 rcases o.ng _ x _ h2 with h | h
 ·rw[h1]at h;cases h
 ·exact h
section
variable {S:Keyed->Prop}
def Cmp (prog:Program)(w:World)(A:Around)(E:Value->Shared->Prop)(s:Shared)(κ:SortKind)(S:Keyed->Prop)(B:Keyed->Keyed->Bool):Prop:=
 ∀ (x y:Keyed),S x->S y->∀ (Q:Bool->Shared->Prop),Q (B x y) s->p9 (x8 prog w) A (keyLt' κ x.1 y.1) Q (fun _ _=>False) s
theorem aC5 (C:Cmp prog w A E s κ S B){x y:Keyed}{st:SortSt}{Q:Option Bool->SortSt->Prop}(hk:kindOf st=κ)(hx:S x)(hy:S y)(h:Q (some (B x y)) st):wpS (x8 prog w) A E s (lt' x y) Q st:=by
 rw[lt'_eq]
 refine j9 (az1 ?_)
 rw[hk]
 refine j9 (wpS_lift (aN2 ?_))
 refine E3 (C x y hx hy (fun b s'=>s'=s/\b=B x y) ⟨rfl,rfl⟩) (fun b s' hb=>?_) (fun _ _ f=>f.elim)
 obtain⟨rfl,rfl⟩:=hb
 exact⟨rfl,m5 h⟩
theorem E4 {arr:Array Keyed}{x:Keyed}{st:SortSt}{Q:Keyed->SortSt->Prop}(hi:arr[i]?=some x)(h:Q x st):wpS (x8 prog w) A E s (ak9 arr i) Q st:=by
 rw[elem'_eq,hi]
 exact m5 h
theorem bo7 (C:Cmp prog w A E s κ S B){x y:Keyed}{st:SortSt}{Q:Option Bool->SortSt->Prop}(hk:kindOf st=κ)(hi:(m8 st)[i]?=some x)(hj:(m8 st)[j]?=some y)(hx:S x)(hy:S y)(h:Q (some (B x y)) st) :
  wpS (x8 prog w) A E s (ltAt' i j) Q st:=by
 rw[ltAt'_eq]
 refine j9 (az1 ?_)
 show wpS _ _ _ _ (do let x <- ak9 (m8 st) i;let y <- ak9 (m8 st) j;lt' x y) Q st
 exact j9 (E4 hi (j9 (E4 hj (aC5 C hk hx hy h))))
theorem af0 {n:String}{st:SortSt}{Q:Unit->SortSt->Prop}(h:Q () st):wpS (x8 prog w) A E s (liftM (rule n):StateT SortSt Sem Unit) Q st:=wpS_lift (aq4 ⟨rfl,h⟩)
def byn (B:Keyed->Keyed->Bool)(left:Bool)(key x:Keyed):Bool:=if left=true then B x key else !B key x
theorem bd1 (C:Cmp prog w A E s κ S B){left:Bool}{key x:Keyed}{arr:Array Keyed}{base:Nat}{st:SortSt}{Q:Option Bool->SortSt->Prop}(hk:kindOf st=κ)(hi:arr[base+i]?=some x)(hx:S x)(hy:S key)
  (h:Q (some (byn B left key x)) st):wpS (x8 prog w) A E s (ai3 left key arr base i) Q st:=by
 unfold ai3
 refine j9 (E4 hi ?_)
 cases left with
 | true=>exact aC5 C hk hx hy h
 | false=>exact j9 (aC5 C hk hy hx (m5 h))
theorem aJ7 {st:SortSt} {Q:Option Nat->SortSt->Prop} (P:Nat->Bool) {f:Nat->Option (Option Nat) × Nat × Nat->StateT SortSt Sem (ForInStep (Option (Option Nat) × Nat × Nat))} {k:Option (Option Nat) × Nat × Nat->StateT SortSt Sem (Option Nat)}
  (mono:∀ i j,i<=j->j<n->P j=true->P i=true)
  (hf : ∀ x lo hi (R : ForInStep (Option (Option Nat) × Nat × Nat) -> SortSt -> Prop), hi <= n -> (hi <= lo -> R (.done (none, lo, hi)) st) -> (lo < hi -> P (lo + (hi - lo) / 2) = true -> R (.yield (none, lo + (hi - lo) / 2 + 1, hi)) st) ->
   (lo<hi->P (lo+(hi - lo) / 2)=false->R (.yield (none,lo,lo+(hi - lo) / 2)) st)->wpS (x8 prog w) A E s (f x (none,lo,hi)) R st)
  (hk:∀ lo hi (R:Option Nat->SortSt->Prop),R (some hi) st->wpS (x8 prog w) A E s (k (none,lo,hi)) R st)
  (h:∀ k,k<=n->(∀ i,i<k->P i=true)->(∀ i,k<=i->i<n->P i=false)->Q (some k) st) {lo hi:Nat}
  (h1:lo<=hi) (h2:hi<=n) (h3:∀ i,i<lo->P i=true) (h4:∀ i,hi<=i->i<n->P i=false) :
  wpS (x8 prog w) A E s (forIn [:n] ((none,lo,hi):Option (Option Nat) × Nat × Nat) f >>= k) Q st:=by
 have anti:∀ i j,i<=j->j<n->P i=false->P j=false:=fun i j h1 h2 h3=>by
  cases e:P j with
  | false=>rfl
  | true=>rw[mono i j h1 h2 e]at h3;cases h3
 refine j9 (Y6 (F2 (I:=fun x c st'=>st'=st/\∃ lo hi,c=(none,lo,hi)/\lo<=hi/\hi<=n/\hi - lo<=n - x/\(∀ i,i<lo->P i=true)/\(∀ i,hi<=i->i<n->P i=false))
  (Q:=fun c st'=>st'=st/\∃ k,c=(none,k,k)/\k<=n/\(∀ i,i<k->P i=true)/\(∀ i,k<=i->i<n->P i=false)) ?step ?fin ⟨rfl,lo,hi,rfl,h1,h2,by omega,h3,h4⟩) ?post)
 case fin =>
  rintro c st' ⟨rfl,lo,hi,rfl,h1,h2,hm,h3,h4⟩
  have:lo=hi:=by omega
  subst this
  exact⟨rfl,lo,rfl,h2,h3,h4⟩
 case post =>
  rintro c st' ⟨rfl,k,rfl,h2,h3,h4⟩
  exact hk _ _ _ (h k h2 h3 h4)
 case step =>
  rintro x c st' _ hx ⟨rfl,lo,hi,rfl,h1,h2,hm,h3,h4⟩
  refine hf x lo hi _ h2 (fun hge=>?_) (fun hlt e=>?_) (fun hlt e=>?_)
  ·have:lo=hi:=by omega
   subst this
   exact⟨rfl,lo,rfl,h2,h3,h4⟩
  ·exact⟨rfl,_,hi,rfl,by omega,h2,by omega,fun i hi'=>mono i _ (by omega) (by omega) e,h4⟩
  ·exact⟨rfl,lo,_,rfl,by omega,by omega,by omega,h3,fun i h5 h6=>anti _ i h5 h6 e⟩
theorem aN5 {left:Bool} {key:Keyed} {arr:Array Keyed} {base hint:Nat} {st:SortSt} {Q:Option Nat->SortSt->Prop} (P:Nat->Bool)
  (hP:∀ i,i<n->∀ R:Option Bool->SortSt->Prop,R (some (P i)) st->wpS (x8 prog w) A E s (ai3 left key arr base i) R st)
  (mono:∀ i j,i<=j->j<n->P j=true->P i=true) (hh:hint<n)
  (h:∀ k,k<=n->(∀ i,i<k->P i=true)->(∀ i,k<=i->i<n->P i=false)->Q (some k) st) :
  wpS (x8 prog w) A E s (aa9 left key arr base n hint) Q st:=by
 have anti:∀ i j,i<=j->j<n->P i=false->P j=false:=fun i j h1 h2 h3=>by
  cases e:P j with
  | false=>rfl
  | true=>rw[mono i j h1 h2 e]at h3;cases h3
 rw[bh2]
 dsimp only
 refine j9 (hP hint hh _ ?_)
 cases e0:P hint with
 | true =>
  dsimp only
  rw[if_pos rfl]
  refine j9 (Y6 (F2 (I:=fun x c st'=>st'=st/\∃ l o,c=(none,l,o)/\l<o/\x+1<=o/\hint+l<n/\P (hint+l)=true)
   (Q:=fun c st'=>st'=st/\∃ l o,c=(none,l,o)/\l<o/\hint+l<n/\P (hint+l)=true/\(n - hint<=o\/(hint+o<n/\P (hint+o)=false))) ?step ?fin ⟨rfl,0,1,rfl,by omega,by omega,by omega,e0⟩) ?post)
  case fin =>
   rintro c st' ⟨rfl,l,o,rfl,h1,h2,h3,h4⟩
   exact⟨rfl,l,o,rfl,h1,h3,h4,.inl (by omega)⟩
  case post =>
   rintro c st' ⟨rfl,l,o,rfl,h1,h3,h4,h5⟩
   dsimp only
   refine aJ7 P mono
    (fun x lo hi R hn a b c => by
     dsimp only
     by_cases hge:lo≥hi
     ·rw[if_pos hge]
      exact m5 (a hge)
     ·rw[if_neg hge]
      refine j9 (hP _ (by omega) _ ?_)
      cases e:P (lo+(hi - lo) / 2) with
      | true =>
       dsimp only
       rw[if_pos rfl]
       exact m5 (b (by omega) e)
      | false =>
       dsimp only
       rw[if_neg k7]
       exact m5 (c (by omega) e)) (fun lo hi R hR=>m5 hR) h (lo:=hint+l+1) (hi:=hint+min o (n - hint)) (by omega) (by omega) (fun i hi=>mono i _ (by omega) h3 h4) (fun i h6 h7=>?_)
   rcases h5 with h5 | ⟨h5,h8⟩
   ·omega
   ·exact anti _ i (by omega) h7 h8
  case step =>
   rintro x c st' _ hx ⟨rfl,l,o,rfl,h1,h2,h3,h4⟩
   dsimp only
   by_cases hge:o≥n - hint
   ·rw[if_pos hge]
    exact m5 ⟨rfl,l,o,rfl,h1,h3,h4,.inl hge⟩
   ·rw[if_neg hge]
    refine j9 (hP _ (by omega) _ ?_)
    cases e:P (hint+o) with
    | true =>
     dsimp only
     rw[if_neg (by simp)]
     exact m5 ⟨rfl,o,2*o+1,rfl,by omega,by omega,by omega,e⟩
    | false =>
     dsimp only
     rw[if_pos (by simp)]
     exact m5 ⟨rfl,l,o,rfl,h1,h3,h4,.inr ⟨by omega,e⟩⟩
 | false =>
  dsimp only
  rw[if_neg k7]
  refine j9 (Y6 (F2 (I:=fun x c st'=>st'=st/\∃ l o,c=(none,l,o)/\l<o/\x+1<=o/\l<=hint/\P (hint - l)=false)
   (Q:=fun c st'=>st'=st/\∃ l o,c=(none,l,o)/\l<o/\l<=hint/\P (hint - l)=false/\(hint+1<=o\/(o<=hint/\P (hint - o)=true))) ?step ?fin ⟨rfl,0,1,rfl,by omega,by omega,by omega,e0⟩) ?post)
  case fin =>
   rintro c st' ⟨rfl,l,o,rfl,h1,h2,h3,h4⟩
   exact⟨rfl,l,o,rfl,h1,h3,h4,.inl (by omega)⟩
  case post =>
   rintro c st' ⟨rfl,l,o,rfl,h1,h3,h4,h5⟩
   dsimp only
   refine aJ7 P mono
    (fun x lo hi R hn a b c => by
     dsimp only
     by_cases hge:lo≥hi
     ·rw[if_pos hge]
      exact m5 (a hge)
     ·rw[if_neg hge]
      refine j9 (hP _ (by omega) _ ?_)
      cases e:P (lo+(hi - lo) / 2) with
      | true =>
       dsimp only
       rw[if_pos rfl]
       exact m5 (b (by omega) e)
      | false =>
       dsimp only
       rw[if_neg k7]
       exact m5 (c (by omega) e)) (fun lo hi R hR=>m5 hR) h (lo:=hint+1 - min o (hint+1)) (hi:=hint - l) (by omega) (by omega) (fun i hi=>?_) (fun i h6 h7=>anti _ i h6 h7 h4)
   rcases h5 with h5 | ⟨h5,h8⟩
   ·omega
   ·exact mono i _ (by omega) (by omega) h8
  case step =>
   rintro x c st' _ hx ⟨rfl,l,o,rfl,h1,h2,h3,h4⟩
   dsimp only
   by_cases hge:o≥hint+1
   ·rw[if_pos hge]
    exact m5 ⟨rfl,l,o,rfl,h1,h3,h4,.inl hge⟩
   ·rw[if_neg hge]
    refine j9 (hP _ (by omega) _ ?_)
    cases e:P (hint - o) with
    | true =>
     dsimp only
     rw[if_pos rfl]
     exact m5 ⟨rfl,l,o,rfl,h1,h3,h4,.inr ⟨by omega,e⟩⟩
    | false =>
     dsimp only
     rw[if_neg k7]
     exact m5 ⟨rfl,o,2*o+1,rfl,by omega,by omega,by omega,e⟩
theorem X5 (o:Ord B)(C:Cmp prog w A E s κ S B){left:Bool}{key:Keyed}{arr:Array Keyed}{base hint:Nat}{st:SortSt}{Q:Option Nat->SortSt->Prop}(hk:kindOf st=κ)(hkey:S key)(hb:base+n<=arr.size)
  (hS:∀ (i:Nat) (x:Keyed),i<n->arr[base+i]?=some x->S x)
  (hs:∀ (i j:Nat) (x y:Keyed),i<=j->j<n->arr[base+i]?=some x->arr[base+j]?=some y->le B x y)(hh:hint<n)
  (h:∀ k,k<=n->(∀ (i:Nat) (x:Keyed),i<k->arr[base+i]?=some x->byn B left key x=true)->(∀ (i:Nat) (x:Keyed),k<=i->i<n->arr[base+i]?=some x->byn B left key x=false)->Q (some k) st) :
  wpS (x8 prog w) A E s (aa9 left key arr base n hint) Q st:=by
 have ex:∀ i,i<n->∃ x,arr[base+i]?=some x:=fun i hi=>⟨arr[base+i]'(by omega),getElem?_pos arr _ (by omega)⟩
 have ev:∀ (i:Nat) (x:Keyed),arr[base+i]?=some x->((arr[base+i]?).getD key)=x:=fun i x e=>by rw[e];rfl
 refine aN5 (fun i=>byn B left key ((arr[base+i]?).getD key)) (fun i hi R hR=>?_) (fun i j hij hj hp=>?_) hh (fun k hk' h1 h2=>h k hk' (fun i x hi e=>?_) (fun i x h3 h4 e=>?_))
 ·obtain⟨x,e⟩:=ex i hi
  rw[ev i x e]at hR
  exact bd1 C hk e (hS i x hi e) hkey hR
 ·obtain⟨x,e⟩:=ex i (by omega)
  obtain⟨y,e'⟩:=ex j hj
  rw[ev j y e']at hp
  rw[ev i x e]
  have l:=hs i j x y hij hj e e'
  unfold byn at hp ⊢
  cases left with
  | true =>
   simp only[if_true]at hp ⊢
   exact o.le_lt l hp
  | false =>
   simp only[m7,if_false,cc3]at hp ⊢
   exact o.trans l hp
 ·have:=h1 i hi;rw[ev i x e]at this;exact this
 ·have:=h2 i h3 h4;rw[ev i x e]at this;exact this
end
theorem aZ5 (a b:Array Keyed):aF0 a b=(do
 rule "list.sort.merge-lo"
 let total:=a.size+b.size
 let done (out:Array Keyed) (ia ib:Nat):=out++a.extract ia a.size++b.extract ib b.size
 let lastOfA (out:Array Keyed) (ia ib:Nat):=out++b.extract ib b.size++a.extract ia a.size
 let mut out:Array Keyed:=#[<- ak9 b 0]
 let mut ia:=0
 let mut ib:=1
 if ib == b.size then return done out ia ib
 if ia+1 == a.size then return lastOfA out ia ib
 let mut minGallop:=gallopOf (<- get)
 for _ in [0:total] do
  let mut acount:=0
  let mut bcount:=0
  for _ in [0:total] do
   let some bWins <- lt' (<- ak9 b ib) (<- ak9 a ia) | return done out ia ib
   if bWins then
    out:=out.push (<- ak9 b ib);ib:=ib+1;bcount:=bcount+1;acount:=0
    if ib == b.size then return done out ia ib
    if bcount≥minGallop then break
   else
    out:=out.push (<- ak9 a ia);ia:=ia+1;acount:=acount+1;bcount:=0
    if ia+1 == a.size then return lastOfA out ia ib
    if acount≥minGallop then break
  rule "list.sort.gallop"
  minGallop:=minGallop+1
  for _ in [0:total] do
   if minGallop > 1 then minGallop:=minGallop - 1
   Q3 minGallop
   let some k <- aa9 false (<- ak9 b ib) a ia (a.size - ia) 0 | return done out ia ib
   acount:=k
   if k > 0 then
    out:=out++a.extract ia (ia+k);ia:=ia+k
    if ia+1 == a.size then return lastOfA out ia ib
    if ia == a.size then return done out ia ib
   out:=out.push (<- ak9 b ib);ib:=ib+1
   if ib == b.size then return done out ia ib
   let some k <- aa9 true (<- ak9 a ia) b ib (b.size - ib) 0 | return done out ia ib
   bcount:=k
   if k > 0 then
    out:=out++b.extract ib (ib+k);ib:=ib+k
    if ib == b.size then return done out ia ib
   out:=out.push (<- ak9 a ia);ia:=ia+1
   if ia+1 == a.size then return lastOfA out ia ib
   if acount<7 && bcount<7 then break
  minGallop:=minGallop+1
  Q3 minGallop
 aj6 "internal:list.sort.merge-bound"):=rfl
theorem aZ6 (a b:Array Keyed):aF1 a b=(do
 rule "list.sort.merge-hi"
 let total:=a.size+b.size
 let done (out:Array Keyed) (na nb:Nat):=a.extract 0 na++b.extract 0 nb++out.reverse
 let firstOfB (out:Array Keyed) (na nb:Nat):=b.extract 0 nb++a.extract 0 na++out.reverse
 let mut na:=a.size - 1
 let mut nb:=b.size
 let mut out:Array Keyed:=#[<- ak9 a na]
 if na == 0 then return done out na nb
 if nb == 1 then return firstOfB out na nb
 let mut minGallop:=gallopOf (<- get)
 for _ in [0:total] do
  let mut acount:=0
  let mut bcount:=0
  for _ in [0:total] do
   let some aWins <- lt' (<- ak9 b (nb - 1)) (<- ak9 a (na - 1)) | return done out na nb
   if aWins then
    na:=na - 1;out:=out.push (<- ak9 a na);acount:=acount+1;bcount:=0
    if na == 0 then return done out na nb
    if acount≥minGallop then break
   else
    nb:=nb - 1;out:=out.push (<- ak9 b nb);bcount:=bcount+1;acount:=0
    if nb == 1 then return firstOfB out na nb
    if bcount≥minGallop then break
  rule "list.sort.gallop"
  minGallop:=minGallop+1
  for _ in [0:total] do
   if minGallop > 1 then minGallop:=minGallop - 1
   Q3 minGallop
   let some at_ <- aa9 false (<- ak9 b (nb - 1)) a 0 na (na - 1) | return done out na nb
   let k:=na - at_
   acount:=k
   if k > 0 then
    out:=out++(a.extract at_ na).reverse;na:=at_
    if na == 0 then return done out na nb
   nb:=nb - 1;out:=out.push (<- ak9 b nb)
   if nb == 1 then return firstOfB out na nb
   let some at_ <- aa9 true (<- ak9 a (na - 1)) b 0 nb (nb - 1) | return done out na nb
   let k:=nb - at_
   bcount:=k
   if k > 0 then
    out:=out++(b.extract at_ nb).reverse;nb:=at_
    if nb == 1 then return firstOfB out na nb
    if nb == 0 then return done out na nb
   na:=na - 1;out:=out.push (<- ak9 a na)
   if na == 0 then return done out na nb
   if acount<7 && bcount<7 then break
  minGallop:=minGallop+1
  Q3 minGallop
 aj6 "internal:list.sort.merge-bound"):=rfl
structure MI (R:Keyed->Keyed->Prop) (out ra rb all:List Keyed):Prop where
 so:out.Pairwise R
 oa:∀ x∈out,∀ y∈ra,R x y
 ob:∀ x∈out,∀ y∈rb,R x y
 sa:ra.Pairwise R
 sb:rb.Pairwise R
 pm:(out++(ra++rb)).Perm all
theorem MI.blkA {blk all:List Keyed}(m:MI R out (blk++ra) rb all)(h:∀ x∈blk,∀ y∈rb,R x y):MI R (out++blk) ra rb all:=by
 obtain⟨s1,s2,s3⟩:=A5.mp m.sa
 refine⟨A5.mpr ⟨m.so,s1,fun x hx y hy=>m.oa x hx y (G8 _ hy)⟩,fun x hx y hy=>?_,fun x hx y hy=>?_,s2,m.sb,?_⟩
 ·rcases A7.mp hx with hx | hx
  ·exact m.oa x hx y (m9 _ hy)
  ·exact s3 x hx y hy
 ·rcases A7.mp hx with hx | hx
  ·exact m.ob x hx y hy
  ·exact h x hx y hy
 ·have:=m.pm
  simpa [C3] using this
theorem MI.blkB {blk all:List Keyed}(m:MI R out ra (blk++rb) all)(h:∀ x∈blk,∀ y∈ra,R x y):MI R (out++blk) ra rb all:=by
 obtain⟨s1,s2,s3⟩:=A5.mp m.sb
 refine⟨A5.mpr ⟨m.so,s1,fun x hx y hy=>m.ob x hx y (G8 _ hy)⟩,fun x hx y hy=>?_,fun x hx y hy=>?_,m.sa,s2,?_⟩
 ·rcases A7.mp hx with hx | hx
  ·exact m.oa x hx y hy
  ·exact h x hx y hy
 ·rcases A7.mp hx with hx | hx
  ·exact m.ob x hx y (m9 _ hy)
  ·exact s3 x hx y hy
 ·refine List.Perm.trans ?_ m.pm
  rw[C3]
  refine List.Perm.append_left _ ?_
  rw[<- C3,<- C3]
  exact List.Perm.append_right _ bF5
theorem MI.oneA {x:Keyed}{all:List Keyed}(m:MI R out (x::ra) rb all)(h:∀ y∈rb,R x y):MI R (out++[x]) ra rb all:=
 MI.blkA (blk:=[x]) m fun z hz y hy=>by rw[B5.mp hz];exact h y hy
theorem MI.oneB {x:Keyed}{all:List Keyed}(m:MI R out ra (x::rb) all)(h:∀ y∈ra,R x y):MI R (out++[x]) ra rb all:=
 MI.blkB (blk:=[x]) m fun z hz y hy=>by rw[B5.mp hz];exact h y hy
theorem MI.endAB {all:List Keyed}(m:MI R out ra rb all)(h:∀ x∈ra,∀ y∈rb,R x y):(out++(ra++rb)).Pairwise R/\(out++(ra++rb)).Perm all:=by
 refine⟨A5.mpr ⟨m.so,A5.mpr ⟨m.sa,m.sb,h⟩,fun x hx y hy=>?_⟩,m.pm⟩
 rcases A7.mp hy with hy | hy
 ·exact m.oa x hx y hy
 ·exact m.ob x hx y hy
theorem MI.endBA {all:List Keyed}(m:MI R out ra rb all)(h:∀ x∈rb,∀ y∈ra,R x y):(out++(rb++ra)).Pairwise R/\(out++(rb++ra)).Perm all:=by
 refine⟨A5.mpr ⟨m.so,A5.mpr ⟨m.sb,m.sa,h⟩,fun x hx y hy=>?_⟩,List.Perm.trans (List.Perm.append_left _ bF5) m.pm⟩
 rcases A7.mp hy with hy | hy
 ·exact m.ob x hx y hy
 ·exact m.oa x hx y hy
theorem drop_cons {α:Type}{l:List α}{x:α}(h:l[i]?=some x):l.drop i=x::l.drop (i+1):=by
 obtain⟨hi,rfl⟩:=j5.mp h
 exact ak2 hi
theorem ar7 {α:Type}(l:List α)(i k:Nat):l.drop i=(l.drop i).take k++l.drop (i+k):=by
 rw[<- bi2]
 exact(C4 k (l.drop i)).symm
theorem J5 {α:Type}{l:List α}{x:α}(h:x∈l.drop i):∃ j,i<=j/\j<l.length/\l[j]?=some x:=by
 obtain⟨k,hk⟩:=p6.mp h
 rw[S7]at hk
 exact⟨i+k,by omega,(j5.mp hk).1,hk⟩
theorem Y7 {α:Type}{l:List α}{k:Nat}{x:α}(h:x∈(l.drop i).take k):∃ j,j<k/\l[i+j]?=some x:=by
 obtain⟨j,hj⟩:=p6.mp h
 rw[S8]at hj
 split at hj
 ·rename_i hlt
  rw[S7]at hj
  exact⟨j,hlt,hj⟩
 ·cases hj
theorem bb3 (a:Array Keyed)(i k:Nat):(a.extract i (i+k)).toList=(a.toList.drop i).take k:=by
 rw[ac6,W2,R4]
theorem aB5 (a:Array Keyed)(i:Nat):(a.extract i a.size).toList=a.toList.drop i:=by
 rw[ac6,W2]
 exact j7 (by simp)
theorem aR9 (a:Array Keyed)(i:Nat):(a.extract 0 i).toList=a.toList.take i:=by
 rw[ac6,W2,bi3,bG2]
structure Sm (st st':SortSt):Prop where
 k:kindOf st'=kindOf st
 a:m8 st'=m8 st
 p:C6 st'=C6 st
 f:P5 st'=P5 st
theorem Sm.rfl' (st:SortSt):Sm st st:=⟨rfl,rfl,rfl,rfl⟩
theorem Sm.mg {st st':SortSt}(h:Sm st st')(g:Nat):Sm st (SortSt.mk' (kindOf st') (m8 st') (C6 st') g (P5 st')):=⟨h.k,h.a,h.p,h.f⟩
section
variable {S:Keyed->Prop}
theorem an4 {g:Nat}{st:SortSt}{Q:Unit->SortSt->Prop}(h:Q () (SortSt.mk' (kindOf st) (m8 st) (C6 st) g (P5 st))):wpS (x8 prog w) A E s (Q3 g) Q st:=by
 rw[av7]
 exact aA0 h
structure LoI (B:Keyed->Keyed->Bool) (a b out:Array Keyed) (ia ib:Nat):Prop where
 m:MI (le B) out.toList (a.toList.drop ia) (b.toList.drop ib) (a.toList++b.toList)
 ha:ia+1<a.size
 hb:ib<b.size
 sz:out.size=ia+ib
def Good (B:Keyed->Keyed->Bool)(a b r:Array Keyed):Prop:=r.toList.Pairwise (le B)/\r.toList.Perm (a.toList++b.toList)
theorem L3 {α σ:Type}{c:Prop}[Decidable c]{X Y:StateT σ Sem α}{Q:α->σ->Prop}{st:σ}(h:c)(k:wpS M A E s X Q st):wpS M A E s (if c then X else Y) Q st:=by
 rw[if_pos h]
 exact k
theorem K4 {α σ:Type}{c:Prop}[Decidable c]{X Y:StateT σ Sem α}{Q:α->σ->Prop}{st:σ}(h:¬ c)(k:wpS M A E s Y Q st):wpS M A E s (if c then X else Y) Q st:=by
 rw[if_neg h]
 exact k
theorem an3 {α σ:Type}{c:Prop}[Decidable c]{X Y:StateT σ Sem α}{Q:α->σ->Prop}{st:σ}(h:wpS M A E s X Q st)(k:wpS M A E s Y Q st):wpS M A E s (if c then X else Y) Q st:=by
 split
 ·exact h
 ·exact k
theorem aU5 {α σ:Type}{c:Nat->Prop}[∀ m,Decidable (c m)]{X Y:Nat->StateT σ Sem α}{Q:α->σ->Prop}{st:σ}(hX:∀ m,X m=Y (m - 1))(h:∀ m,wpS M A E s (Y m) Q st):∀ m,wpS M A E s (if c m then X m else Y m) Q st:=fun m=>by
 split
 ·rw[hX]
  exact h _
 ·exact h m
theorem as1 {α σ β γ:Type}{u0:β}{v0:γ}{c:β->γ->Prop}[∀ u v,Decidable (c u v)]{X Y:β->γ->StateT σ Sem α}{Q:α->σ->Prop}{st:σ}{R:β->γ->Prop}(J:∀ u v,R u v->wpS M A E s (Y u v) Q st)(h1:c u0 v0->(∀ u v,R u v->wpS M A E s (Y u v) Q st)->wpS M A E s (X u0 v0) Q st)(h2:¬ c u0 v0->R u0 v0):∀ u,u0=u->∀ v,v0=v->wpS M A E s (if c u v then X u v else Y u v) Q st:=by
 rintro _ rfl _ rfl
 by_cases h:c u0 v0
 ·rw[if_pos h]
  exact h1 h J
 ·rw[if_neg h]
  exact J u0 v0 (h2 h)
theorem aU3 (o:Ord B)(C:Cmp prog w A E s κ S B){a b:Array Keyed}{st:SortSt}{Q:Array Keyed->SortSt->Prop}(hk:kindOf st=κ)(hSa:∀ x∈a.toList,S x)(hSb:∀ x∈b.toList,S x)
  (sa:a.toList.Pairwise (le B))(sb:b.toList.Pairwise (le B))(ha:0<a.size)(hb:0<b.size)
  (h0:∀ x y,b[0]?=some x->a[0]?=some y->B x y=true)(hl:∀ x∈b.toList,∀ y,a[a.size - 1]?=some y->B x y=true)
  (h:∀ r st',Sm st st'->Good B a b r->Q r st'):wpS (x8 prog w) A E s (aF0 a b) Q st:=by
 have ga:∀ i,i<a.size->∃ x,a[i]?=some x/\a.toList[i]?=some x/\S x:=fun i hi=>by
  refine⟨a[i],getElem?_pos a i hi,by rw[d9];exact getElem?_pos a i hi,hSa _ (by simp)⟩
 have gb:∀ i,i<b.size->∃ x,b[i]?=some x/\b.toList[i]?=some x/\S x:=fun i hi=>by
  refine⟨b[i],getElem?_pos b i hi,by rw[d9];exact getElem?_pos b i hi,hSb _ (by simp)⟩
 have leA:∀ (i j:Nat) (x y:Keyed),i<=j->a.toList[i]?=some x->a.toList[j]?=some y->le B x y:=fun i j x y hij hx hy=>by
  obtain⟨h1,rfl⟩:=j5.mp hx
  obtain⟨h2,rfl⟩:=j5.mp hy
  rcases L6 hij with hlt | rfl
  ·exact A2.mp sa i j h1 h2 hlt
  ·exact o.rf _
 have leB:∀ (i j:Nat) (x y:Keyed),i<=j->b.toList[i]?=some x->b.toList[j]?=some y->le B x y:=fun i j x y hij hx hy=>by
  obtain⟨h1,rfl⟩:=j5.mp hx
  obtain⟨h2,rfl⟩:=j5.mp hy
  rcases L6 hij with hlt | rfl
  ·exact A2.mp sb i j h1 h2 hlt
  ·exact o.rf _
 have tl:∀ (z:Array Keyed) (i:Nat),z[i]?=z.toList[i]?:=fun z i=>(d9 ..).symm
 have goodDone:∀ (out:Array Keyed) (ia ib:Nat),MI (le B) out.toList (a.toList.drop ia) (b.toList.drop ib) (a.toList++b.toList)->ib=b.size->Good B a b (out++a.extract ia a.size++b.extract ib b.size):=fun out ia ib m e=>by
  have en:b.toList.drop ib=[]:=by rw[e];exact K1 (by simp)
  have:=m.endAB (fun x _ y hy=>by rw[en]at hy;cases hy)
  unfold Good
  rw[C5,C5,aB5,aB5,C3]
  exact this
 have lastA:∀ (ia:Nat) (x:Keyed),ia+1=a.size->x∈a.toList.drop ia->a[a.size - 1]?=some x:=fun ia x e hx=>by
  obtain⟨j,h1,h2,h3⟩:=J5 hx
  have:j=a.size - 1:=by rw[l4]at h2;omega
  rw[<- this,tl]
  exact h3
 have goodLast:∀ (out:Array Keyed) (ia ib:Nat),MI (le B) out.toList (a.toList.drop ia) (b.toList.drop ib) (a.toList++b.toList)->ia+1=a.size->Good B a b (out++b.extract ib b.size++a.extract ia a.size):=fun out ia ib m e=>by
  have:=m.endBA (fun x hx y hy=>o.of_lt (hl x (P7 hx) y (lastA ia y e hy)))
  unfold Good
  rw[C5,C5,aB5,aB5,C3]
  exact this
 have pushB:∀ (out:Array Keyed) (ia ib:Nat) (x:Keyed),MI (le B) out.toList (a.toList.drop ia) (b.toList.drop ib) (a.toList++b.toList)->b.toList[ib]?=some x->(∀ y∈a.toList.drop ia,le B x y) ->
   MI (le B) (out.push x).toList (a.toList.drop ia) (b.toList.drop (ib+1)) (a.toList++b.toList):=fun out ia ib x m e hx=>by
  rw[drop_cons e]at m
  rw[aa2]
  exact m.oneB hx
 have pushA:∀ (out:Array Keyed) (ia ib:Nat) (x:Keyed),MI (le B) out.toList (a.toList.drop ia) (b.toList.drop ib) (a.toList++b.toList)->a.toList[ia]?=some x->(∀ y∈b.toList.drop ib,le B x y) ->
   MI (le B) (out.push x).toList (a.toList.drop (ia+1)) (b.toList.drop ib) (a.toList++b.toList):=fun out ia ib x m e hx=>by
  rw[drop_cons e]at m
  rw[aa2]
  exact m.oneA hx
 have blkA:∀ (out:Array Keyed) (ia ib k:Nat),MI (le B) out.toList (a.toList.drop ia) (b.toList.drop ib) (a.toList++b.toList)->(∀ x∈(a.toList.drop ia).take k,∀ y∈b.toList.drop ib,le B x y) ->
   MI (le B) (out++a.extract ia (ia+k)).toList (a.toList.drop (ia+k)) (b.toList.drop ib) (a.toList++b.toList):=fun out ia ib k m hx=>by
  rw[ar7 a.toList ia k]at m
  rw[C5,bb3]
  exact m.blkA hx
 have blkB:∀ (out:Array Keyed) (ia ib k:Nat),MI (le B) out.toList (a.toList.drop ia) (b.toList.drop ib) (a.toList++b.toList)->(∀ x∈(b.toList.drop ib).take k,∀ y∈a.toList.drop ia,le B x y) ->
   MI (le B) (out++b.extract ib (ib+k)).toList (a.toList.drop ia) (b.toList.drop (ib+k)) (a.toList++b.toList):=fun out ia ib k m hx=>by
  rw[ar7 b.toList ib k]at m
  rw[C5,bb3]
  exact m.blkB hx
 rw[aZ5]
 refine j9 (af0 ?_)
 obtain⟨b0,eb0,eb0',Sb0⟩:=gb 0 hb
 obtain⟨a0,ea0,ea0',Sa0⟩:=ga 0 ha
 have lt0:=h0 b0 a0 eb0 ea0
 refine j9 (E4 eb0 ?_)
 have m0:MI (le B) ([]:List Keyed) (a.toList.drop 0) (b.toList.drop 0) (a.toList++b.toList):=⟨List.Pairwise.nil,(fun _ hx=>nomatch hx),(fun _ hx=>nomatch hx),sa,sb,List.Perm.refl _⟩
 have m1:MI (le B) (#[b0]:Array Keyed).toList (a.toList.drop 0) (b.toList.drop 1) (a.toList++b.toList):=pushB #[] 0 0 b0 m0 eb0' fun y hy=>by
  obtain⟨j,h1,h2,h3⟩:=J5 hy
  exact o.of_lt (o.lt_le lt0 (leA 0 j a0 y (v9 _) ea0' h3))
 by_cases e1:1=b.size
 ·refine L3 (by simpa using e1) ?_
  exact m5 (h _ st (Sm.rfl' st) (goodDone _ 0 1 m1 e1))
 refine K4 (by simpa using e1) ?_
 by_cases e2:0+1=a.size
 ·refine L3 (by simpa using e2) ?_
  exact m5 (h _ st (Sm.rfl' st) (goodLast _ 0 1 m1 e2))
 refine K4 (by simpa using e2) ?_
 refine j9 (az1 ?_)
 have I0:LoI B a b #[b0] 0 1:=⟨m1,by omega,by omega,rfl⟩
 refine j9 (Y6 (F2
  (I:=fun x c st'=>Sm st st'/\∃ out ia ib mg,c=(none,out,ia,ib,mg)/\LoI B a b out ia ib/\x+1<=out.size)
  (Q:=fun c st'=>Sm st st'/\∃ r out ia ib mg,c=(some r,out,ia,ib,mg)/\Good B a b r) ?step ?fin ⟨Sm.rfl' st,#[b0],0,1,_,rfl,I0,by simp⟩) ?post)
 case fin =>
  rintro c st' ⟨hS,out,ia,ib,mg,rfl,I,hx⟩
  have h1:=I.sz
  have h2:=I.ha
  have h3:=I.hb
  exfalso
  omega
 case post =>
  rintro c st' ⟨hS,r,out,ia,ib,mg,rfl,hg⟩
  exact m5 (h r st' hS hg)
 case step =>
  rintro x c st1 _ hx ⟨hS1,out,ia,ib,mg,rfl,I,hsz⟩
  refine j9 (Y6 (F2
   (I:=fun j c st'=>Sm st st'/\∃ out' ia' ib' ac bc,c=(none,out',ia',ib',ac,bc)/\LoI B a b out' ia' ib'/\x+1<=out'.size/\(1<=j->x+2<=out'.size))
   (Q:=fun c st'=>Sm st st'/\((∃ r out' ia' ib' ac bc,c=(some r,out',ia',ib',ac,bc)/\Good B a b r)\/(∃ out' ia' ib' ac bc,c=(none,out',ia',ib',ac,bc)/\LoI B a b out' ia' ib'/\x+2<=out'.size)))
   ?istep ?ifin ⟨hS1,out,ia,ib,0,0,rfl,I,hsz,by omega⟩) ?ipost)
  case ifin =>
   rintro c st' ⟨hS,out',ia',ib',ac,bc,rfl,I',h1,h2⟩
   exact⟨hS,.inr ⟨out',ia',ib',ac,bc,rfl,I',h2 (by omega)⟩⟩
  case istep =>
   rintro j c st' _ hj ⟨hS,out',ia',ib',ac,bc,rfl,I',h1,_⟩
   obtain⟨bx,eb,eb',Sb⟩:=gb ib' I'.hb
   obtain⟨ax,ea,ea',Sa⟩:=ga ia' (by have:=I'.ha;omega)
   refine j9 (E4 eb (j9 (E4 ea (j9 (aC5 C (hS.k.trans hk) Sb Sa ?_)))))
   cases ew:B bx ax with
   | true =>
    refine L3 rfl ?_
    refine j9 (E4 eb ?_)
    have m2:=pushB out' ia' ib' bx I'.m eb' fun y hy=>by
     obtain⟨j,h1,h2,h3⟩:=J5 hy
     exact o.of_lt (o.lt_le ew (leA ia' j ax y h1 ea' h3))
    by_cases e3:ib'+1=b.size
    ·refine L3 (by simpa using e3) ?_
     exact m5 ⟨hS,.inl ⟨_,_,_,_,_,_,rfl,goodDone _ _ _ m2 e3⟩⟩
    refine K4 (by simpa using e3) ?_
    have I2:LoI B a b (out'.push bx) ia' (ib'+1):=⟨m2,I'.ha,by have:=I'.hb;omega,by rw[B6,I'.sz];omega⟩
    have z2:x+2<=(out'.push bx).size:=by rw[B6];omega
    refine an3 ?_ ?_
    ·exact m5 ⟨hS,.inr ⟨_,_,_,_,_,rfl,I2,z2⟩⟩
    ·exact m5 ⟨hS,_,_,_,_,_,rfl,I2,ao6 z2,fun _=>z2⟩
   | false =>
    refine K4 k7 ?_
    refine j9 (E4 ea ?_)
    have m2:=pushA out' ia' ib' ax I'.m ea' fun y hy=>by
     obtain⟨j,h1,h2,h3⟩:=J5 hy
     exact o.trans ew (leB ib' j bx y h1 eb' h3)
    by_cases e3:ia'+1+1=a.size
    ·refine L3 (by simpa using e3) ?_
     exact m5 ⟨hS,.inl ⟨_,_,_,_,_,_,rfl,goodLast _ _ _ m2 e3⟩⟩
    refine K4 (by simpa using e3) ?_
    have I2:LoI B a b (out'.push ax) (ia'+1) ib':=⟨m2,by have:=I'.ha;omega,I'.hb,by rw[B6,I'.sz];omega⟩
    have z2:x+2<=(out'.push ax).size:=by rw[B6];omega
    refine an3 ?_ ?_
    ·exact m5 ⟨hS,.inr ⟨_,_,_,_,_,rfl,I2,z2⟩⟩
    ·exact m5 ⟨hS,_,_,_,_,_,rfl,I2,ao6 z2,fun _=>z2⟩
  case ipost =>
   rintro c st2 ⟨hS2,⟨r,out',ia',ib',ac,bc,rfl,hg⟩ | ⟨out',ia',ib',ac,bc,rfl,I',hz⟩⟩
   ·exact m5 ⟨hS2,r,_,_,_,_,rfl,hg⟩
   refine j9 (af0 ?_)
   refine j9 (Y6 (F2
    (I:=fun j c st'=>Sm st st'/\∃ out' ia' ib' mg ac bc,c=(none,out',ia',ib',mg,ac,bc)/\LoI B a b out' ia' ib'/\x+2<=out'.size)
    (Q:=fun c st'=>Sm st st'/\((∃ r out' ia' ib' mg ac bc,c=(some r,out',ia',ib',mg,ac,bc)/\Good B a b r)\/(∃ out' ia' ib' mg ac bc,c=(none,out',ia',ib',mg,ac,bc)/\LoI B a b out' ia' ib'/\x+2<=out'.size)))
    ?gstep ?gfin ⟨hS2,out',ia',ib',_,ac,bc,rfl,I',hz⟩) ?gpost)
   case gfin =>
    rintro c st' ⟨hS,out',ia',ib',mg,ac,bc,rfl,I',h1⟩
    exact⟨hS,.inr ⟨out',ia',ib',mg,ac,bc,rfl,I',h1⟩⟩
   case gpost =>
    rintro c st3 ⟨hS3,⟨r,out',ia',ib',mg,ac,bc,rfl,hg⟩ | ⟨out',ia',ib',mg,ac,bc,rfl,I',hz⟩⟩
    ·exact m5 ⟨hS3,r,_,_,_,_,rfl,hg⟩
    exact j9 (an4 (m5 ⟨hS3.mg _,_,_,_,_,rfl,I',by omega⟩))
   case gstep =>
    rintro j c st' _ hj ⟨hS,out',ia',ib',mg,ac,bc,rfl,I',hz⟩
    dsimp (config:={ zeta:=false }) only
    obtain⟨bx,eb,eb',Sb⟩:=gb ib' I'.hb
    obtain⟨al,eal,eal',Sal⟩:=ga (a.size - 1) (by omega)
    revert mg
    refine aU5 (fun _=>rfl) fun mg1=>?_
    try dsimp (config:={ zeta:=false }) only
    refine j9 (an4 (j9 (E4 eb ?_)))
    refine j9 (X5 o C (hS.k.trans hk) Sb (by have:=I'.ha;omega) (fun i y hi e=>hSa y (i7 (by rw[<- tl];exact e))) (fun i j y z hij hj e e'=>leA _ _ y z (X2 hij _) (by rw[<- tl];exact e) (by rw[<- tl];exact e')) (by have:=I'.ha;omega) fun k hkn hlt hge=>?_)
    dsimp (config:={ zeta:=false }) only
    have hS':=hS
    have hlt':∀ y∈(a.toList.drop ia').take k,∀ z∈b.toList.drop ib',le B y z:=fun y hy z hz'=>by
     obtain⟨i,hi,e⟩:=Y7 hy
     have q:=hlt i y hi (by rw[tl];exact e)
     obtain⟨j',h1,h2,h3⟩:=J5 hz'
     simp only[byn,m7,if_false,cc3]at q
     exact o.trans q (leB ib' j' bx z h1 eb' h3)
    have m1':=blkA out' ia' ib' k I'.m hlt'
    have hge':∀ y∈a.toList.drop (ia'+k),B bx y=true:=fun y hy=>by
     obtain⟨j',h1,h2,h3⟩:=J5 hy
     have q:=hge (j' - ia') y (by omega) (by rw[l4]at h2;omega) (by rw[show ia'+(j' - ia')=j' by omega,tl];exact h3)
     simpa [byn] using q
    have hka:ia'+k<a.size:=by
     rcases B3 (ia'+k) a.size with q | q
     ·exact q
     ·exfalso
      have h9:=I'.ha
      have q1:=hlt (a.size - 1 - ia') al (by omega) (by rw[show ia'+(a.size - 1 - ia')=a.size - 1 by omega];exact eal)
      have q2:=hl bx (i7 eb') al eal
      simp[byn,q2]at q1
    generalize eo:out'=o
    generalize en:ia'=n
    revert o n
    refine as1 (R:=fun out1 ia1=>MI (le B) out1.toList (a.toList.drop ia1) (b.toList.drop ib') (a.toList++b.toList)/\(∀ y∈a.toList.drop ia1,B bx y=true)/\ia1+1<a.size/\out1.size=ia1+ib'/\x+2<=out1.size) ?_ (fun hk J=>?_) (fun hk=>?_)
    rotate_left
    ·by_cases e4:ia'+k+1=a.size
     ·refine L3 (by simpa using e4) ?_
      exact m5 ⟨hS.mg _,.inl ⟨_,_,_,_,_,_,_,rfl,goodLast _ _ _ m1' e4⟩⟩
     refine K4 (by simpa using e4) (K4 (by simp;omega) ?_)
     exact J (out'++a.extract ia' (ia'+k)) (ia'+k) ⟨m1',hge',by omega,by rw[K2,F9,I'.sz];omega,by rw[K2];omega⟩
    ·have e9:k=0:=by omega
     rw[e9]at hge'
     exact⟨I'.m,hge',I'.ha,I'.sz,hz⟩
    rintro out1 ia1 ⟨m1,hge1,hne1,sz1,z1⟩
    refine j9 (E4 eb ?_)
    have m2:=pushB out1 ia1 ib' bx m1 eb' fun y hy=>o.of_lt (hge1 y hy)
    by_cases e5:ib'+1=b.size
    ·refine L3 (by simpa using e5) ?_
     exact m5 ⟨hS.mg _,.inl ⟨_,_,_,_,_,_,_,rfl,goodDone _ _ _ m2 e5⟩⟩
    refine K4 (by simpa using e5) ?_
    generalize ho:out1.push bx=o2 at m2 ⊢
    have so2:o2.size=out1.size+1:=by rw[<- ho,B6]
    generalize hn:ib'+1=n2 at m2 e5 ⊢
    obtain⟨ax,ea,ea',Sa⟩:=ga ia1 (by omega)
    have hib:=I'.hb
    refine j9 (E4 ea ?_)
    refine j9 (X5 o C (hS.k.trans hk) Sa (by omega) (fun i y hi e=>hSb y (i7 (by rw[<- tl];exact e))) (fun i j y z hij hj e e'=>leB _ _ y z (X2 hij _) (by rw[<- tl];exact e) (by rw[<- tl];exact e')) (by omega) fun k' hkn' hlt2 hge2=>?_)
    dsimp (config:={ zeta:=false }) only
    have hlt2':∀ y∈(b.toList.drop n2).take k',∀ z∈a.toList.drop ia1,le B y z:=fun y hy z hz'=>by
     obtain⟨i,hi,e⟩:=Y7 hy
     have q:=hlt2 i y hi (by rw[tl];exact e)
     obtain⟨j',h1,h2,h3⟩:=J5 hz'
     simp only[byn,if_true]at q
     exact o.of_lt (o.lt_le q (leA ia1 j' ax z h1 ea' h3))
    have m3':=blkB o2 ia1 n2 k' m2 hlt2'
    have hge2':∀ y∈b.toList.drop (n2+k'),le B ax y:=fun y hy=>by
     obtain⟨j',h1,h2,h3⟩:=J5 hy
     have q:=hge2 (j' - n2) y (by omega) (by rw[l4]at h2;omega) (by rw[show n2+(j' - n2)=j' by omega,tl];exact h3)
     show B y ax=false
     simpa [byn] using q
    have sz2:o2.size=ia1+n2:=by omega
    generalize eo:o2=o
    generalize en:n2=n
    revert o n
    refine as1 (R:=fun out2 ib2=>MI (le B) out2.toList (a.toList.drop ia1) (b.toList.drop ib2) (a.toList++b.toList)/\(∀ y∈b.toList.drop ib2,le B ax y)/\ib2<b.size/\out2.size=ia1+ib2/\x+2<=out2.size) ?_ (fun hk J=>?_) (fun hk=>?_)
    rotate_left
    ·by_cases e6:n2+k'=b.size
     ·refine L3 (by simpa using e6) ?_
      exact m5 ⟨hS.mg _,.inl ⟨_,_,_,_,_,_,_,rfl,goodDone _ _ _ m3' e6⟩⟩
     refine K4 (by simpa using e6) ?_
     exact J (o2++b.extract n2 (n2+k')) (n2+k') ⟨m3',hge2',by omega,by rw[K2,F9,sz2];omega,by rw[K2];omega⟩
    ·have e8:k'=0:=by omega
     rw[e8]at hge2'
     exact⟨m2,hge2',by omega,sz2,by omega⟩
    rintro out2 ib2 ⟨m3,hge3,hne3,sz3,z3⟩
    refine j9 (E4 ea ?_)
    have m4:=pushA out2 ia1 ib2 ax m3 ea' hge3
    by_cases e7:ia1+1+1=a.size
    ·refine L3 (by simpa using e7) ?_
     exact m5 ⟨hS.mg _,.inl ⟨_,_,_,_,_,_,_,rfl,goodLast _ _ _ m4 e7⟩⟩
    refine K4 (by simpa using e7) ?_
    have I4:LoI B a b (out2.push ax) (ia1+1) ib2:=⟨m4,by omega,hne3,by rw[B6,sz3];omega⟩
    have z4:x+2<=(out2.push ax).size:=by
     rw[B6,sz3]
     have:=I'.sz
     omega
    refine an3 ?_ ?_
    ·exact m5 ⟨hS.mg _,.inr ⟨_,_,_,_,_,_,rfl,I4,z4⟩⟩
    ·exact m5 ⟨hS.mg _,_,_,_,_,_,_,rfl,I4,z4⟩
end
theorem aU8 {α:Type}{l:List α}{x:α}(h:l[n]?=some x):(l.take (n+1)).reverse=x::(l.take n).reverse:=by
 rw[u9,h,bP1]
 rfl
theorem al3 {α:Type}(l:List α){k:Nat}(h:k<=n):(l.take n).reverse=((l.drop k).take (n - k)).reverse++(l.take k).reverse:=by
 rw[<- bP1]
 congr 1
 obtain⟨d,rfl⟩:=Nat.le.dest h
 rw[R4,List.take_add]
theorem L4 {α:Type}{l:List α}{x:α}(h:x∈(l.take n).reverse):∃ j,j<n/\j<l.length/\l[j]?=some x:=by
 rw[aS6]at h
 obtain⟨j,hj⟩:=p6.mp h
 rw[S8]at hj
 split at hj
 ·rename_i hlt
  exact⟨j,hlt,(j5.mp hj).1,hj⟩
 ·cases hj
theorem aB4 (a:Array Keyed)(i k:Nat):(a.extract i k).toList=(a.toList.drop i).take (k - i):=by
 rw[ac6,W2]
section
variable {S:Keyed->Prop}
abbrev HM (B:Keyed->Keyed->Bool)(a b out:Array Keyed)(na nb:Nat):Prop:=MI (fun x y=>le B y x) out.toList (a.toList.take na).reverse (b.toList.take nb).reverse (a.toList++b.toList)
structure HiI (B:Keyed->Keyed->Bool) (a b out:Array Keyed) (na nb:Nat):Prop where
 m:HM B a b out na nb
 ha:0<na
 ha':na<=a.size
 hb:1<nb
 hb':nb<=b.size
 sz:out.size+na+nb=a.size+b.size
theorem aU4 (o:Ord B)(C:Cmp prog w A E s κ S B){a b:Array Keyed}{st:SortSt}{Q:Array Keyed->SortSt->Prop}(hk:kindOf st=κ)(hSa:∀ x∈a.toList,S x)(hSb:∀ x∈b.toList,S x)
  (sa:a.toList.Pairwise (le B))(sb:b.toList.Pairwise (le B))(ha:0<a.size)(hb:0<b.size)
  (h0:∀ x y,b[0]?=some x->a[0]?=some y->B x y=true)(hl:∀ x∈b.toList,∀ y,a[a.size - 1]?=some y->B x y=true)
  (h:∀ r st',Sm st st'->Good B a b r->Q r st'):wpS (x8 prog w) A E s (aF1 a b) Q st:=by
 have ga:∀ i,i<a.size->∃ x,a[i]?=some x/\a.toList[i]?=some x/\S x:=fun i hi=>by
  refine⟨a[i],getElem?_pos a i hi,by rw[d9];exact getElem?_pos a i hi,hSa _ (by simp)⟩
 have gb:∀ i,i<b.size->∃ x,b[i]?=some x/\b.toList[i]?=some x/\S x:=fun i hi=>by
  refine⟨b[i],getElem?_pos b i hi,by rw[d9];exact getElem?_pos b i hi,hSb _ (by simp)⟩
 have leA:∀ (i j:Nat) (x y:Keyed),i<=j->a.toList[i]?=some x->a.toList[j]?=some y->le B x y:=fun i j x y hij hx hy=>by
  obtain⟨h1,rfl⟩:=j5.mp hx
  obtain⟨h2,rfl⟩:=j5.mp hy
  rcases L6 hij with hlt | rfl
  ·exact A2.mp sa i j h1 h2 hlt
  ·exact o.rf _
 have leB:∀ (i j:Nat) (x y:Keyed),i<=j->b.toList[i]?=some x->b.toList[j]?=some y->le B x y:=fun i j x y hij hx hy=>by
  obtain⟨h1,rfl⟩:=j5.mp hx
  obtain⟨h2,rfl⟩:=j5.mp hy
  rcases L6 hij with hlt | rfl
  ·exact A2.mp sb i j h1 h2 hlt
  ·exact o.rf _
 have tl:∀ (z:Array Keyed) (i:Nat),z[i]?=z.toList[i]?:=fun z i=>(d9 ..).symm
 have rel:∀ {l:List Keyed},l.Pairwise (fun x y=>le B y x)->l.reverse.Pairwise (le B):=fun {l} hp=>ac4.mpr hp
 have goodDone:∀ (out:Array Keyed) (na nb:Nat),HM B a b out na nb->(na=0\/nb=0)->Good B a b (a.extract 0 na++b.extract 0 nb++out.reverse):=fun out na nb m e=>by
  have:=m.endBA (fun x hx y hy=>by
   rcases e with rfl | rfl
   ·simp at hy
   ·simp at hx)
  unfold Good
  rw[C5,C5,aR9,aR9,ac7]
  have q:(out.toList++((b.toList.take nb).reverse++(a.toList.take na).reverse)).reverse=a.toList.take na++b.toList.take nb++out.toList.reverse:=by simp
  exact⟨by rw[<- q];exact rel this.1,by rw[<- q];exact(ab1 _).trans this.2⟩
 obtain⟨b0,eb0,eb0',Sb0⟩:=gb 0 hb
 obtain⟨a0,ea0,ea0',Sa0⟩:=ga 0 ha
 have lt0:=h0 b0 a0 eb0 ea0
 have goodFirst:∀ (out:Array Keyed) (na nb:Nat),HM B a b out na nb->nb=1->Good B a b (b.extract 0 nb++a.extract 0 na++out.reverse):=fun out na nb m e=>by
  have:=m.endAB (fun x hx y hy=>by
   subst e
   obtain⟨i,h1,h2,h3⟩:=L4 hx
   obtain⟨j,h4,h5,h6⟩:=L4 hy
   have:j=0:=by omega
   subst this
   rw[eb0']at h6
   cases h6
   exact o.of_lt (o.lt_le lt0 (leA 0 i a0 x (v9 _) ea0' h3)))
  unfold Good
  rw[C5,C5,aR9,aR9,ac7]
  have q:(out.toList++((a.toList.take na).reverse++(b.toList.take nb).reverse)).reverse=b.toList.take nb++a.toList.take na++out.toList.reverse:=by simp
  exact⟨by rw[<- q];exact rel this.1,by rw[<- q];exact(ab1 _).trans this.2⟩
 have pushA:∀ (out:Array Keyed) (na nb:Nat) (x:Keyed),0<na->HM B a b out na nb->a.toList[na - 1]?=some x->(∀ y∈(b.toList.take nb).reverse,le B y x)->HM B a b (out.push x) (na - 1) nb:=fun out na nb x hn m e hx=>by
  obtain⟨n,rfl⟩:∃ n,na=n+1:=⟨na - 1,by omega⟩
  unfold HM at m ⊢
  rw[ak3]at e ⊢
  rw[aU8 e]at m
  rw[aa2]
  exact m.oneA hx
 have pushB:∀ (out:Array Keyed) (na nb:Nat) (x:Keyed),0<nb->HM B a b out na nb->b.toList[nb - 1]?=some x->(∀ y∈(a.toList.take na).reverse,le B y x)->HM B a b (out.push x) na (nb - 1):=fun out na nb x hn m e hx=>by
  obtain⟨n,rfl⟩:∃ n,nb=n+1:=⟨nb - 1,by omega⟩
  unfold HM at m ⊢
  rw[ak3]at e ⊢
  rw[aU8 e]at m
  rw[aa2]
  exact m.oneB hx
 have blkA:∀ (out:Array Keyed) (na nb k:Nat),k<=na->HM B a b out na nb->(∀ x∈((a.toList.drop k).take (na - k)).reverse,∀ y∈(b.toList.take nb).reverse,le B y x)->HM B a b (out++(a.extract k na).reverse) k nb:=fun out na nb k hkn m hx=>by
  unfold HM at m ⊢
  rw[al3 a.toList hkn]at m
  rw[C5,ac7,aB4]
  exact m.blkA hx
 have blkB:∀ (out:Array Keyed) (na nb k:Nat),k<=nb->HM B a b out na nb->(∀ x∈((b.toList.drop k).take (nb - k)).reverse,∀ y∈(a.toList.take na).reverse,le B y x)->HM B a b (out++(b.extract k nb).reverse) na k:=fun out na nb k hkn m hx=>by
  unfold HM at m ⊢
  rw[al3 b.toList hkn]at m
  rw[C5,ac7,aB4]
  exact m.blkB hx
 rw[aZ6]
 refine j9 (af0 ?_)
 obtain⟨al,eal,eal',Sal⟩:=ga (a.size - 1) (by omega)
 refine j9 (E4 eal ?_)
 have m0:HM B a b #[] a.size b.size:=by
  unfold HM
  rw[j7 (by simp),j7 (by simp)]
  refine⟨List.Pairwise.nil,(fun _ hx=>nomatch hx),(fun _ hx=>nomatch hx),ac4.mpr sa,ac4.mpr sb,?_⟩
  rw[Q1]
  exact List.Perm.append (ab1 _) (ab1 _)
 have m1:HM B a b #[al] (a.size - 1) b.size:=pushA #[] a.size b.size al ha m0 eal' fun y hy=>by
  obtain⟨j,h1,h2,h3⟩:=L4 hy
  exact o.of_lt (hl y (i7 h3) al eal)
 by_cases e1:a.size - 1=0
 ·refine L3 (by simpa using e1) ?_
  exact m5 (h _ st (Sm.rfl' st) (goodDone _ _ _ m1 (.inl e1)))
 refine K4 (by simpa using e1) ?_
 by_cases e2:b.size=1
 ·refine L3 (by simpa using e2) ?_
  exact m5 (h _ st (Sm.rfl' st) (goodFirst _ _ _ m1 e2))
 refine K4 (by simpa using e2) ?_
 refine j9 (az1 ?_)
 have I0:HiI B a b #[al] (a.size - 1) b.size:=⟨m1,by omega,by omega,by omega,by omega,by simp;omega⟩
 refine j9 (Y6 (F2
  (I:=fun x c st'=>Sm st st'/\∃ na nb out mg,c=(none,na,nb,out,mg)/\HiI B a b out na nb/\x+1<=out.size)
  (Q:=fun c st'=>Sm st st'/\∃ r na nb out mg,c=(some r,na,nb,out,mg)/\Good B a b r) ?step ?fin ⟨Sm.rfl' st,_,_,#[al],_,rfl,I0,by simp⟩) ?post)
 case fin =>
  rintro c st' ⟨hS,na,nb,out,mg,rfl,I,hx⟩
  have h1:=I.sz
  have h2:=I.ha
  have h3:=I.hb
  exfalso
  omega
 case post =>
  rintro c st' ⟨hS,r,na,nb,out,mg,rfl,hg⟩
  exact m5 (h r st' hS hg)
 case step =>
  rintro x c st1 _ hx ⟨hS1,na,nb,out,mg,rfl,I,hsz⟩
  refine j9 (Y6 (F2
   (I:=fun j c st'=>Sm st st'/\∃ na' nb' out' ac bc,c=(none,na',nb',out',ac,bc)/\HiI B a b out' na' nb'/\x+1<=out'.size/\(1<=j->x+2<=out'.size))
   (Q:=fun c st'=>Sm st st'/\((∃ r na' nb' out' ac bc,c=(some r,na',nb',out',ac,bc)/\Good B a b r)\/(∃ na' nb' out' ac bc,c=(none,na',nb',out',ac,bc)/\HiI B a b out' na' nb'/\x+2<=out'.size)))
   ?istep ?ifin ⟨hS1,na,nb,out,0,0,rfl,I,hsz,by omega⟩) ?ipost)
  case ifin =>
   rintro c st' ⟨hS,na',nb',out',ac,bc,rfl,I',h1,h2⟩
   exact⟨hS,.inr ⟨na',nb',out',ac,bc,rfl,I',h2 (by omega)⟩⟩
  case istep =>
   rintro j c st' _ hj ⟨hS,na',nb',out',ac,bc,rfl,I',h1,_⟩
   have i1:=I'.ha
   have i2:=I'.ha'
   have i3:=I'.hb
   have i4:=I'.hb'
   have i5:=I'.sz
   obtain⟨bx,eb,eb',Sb⟩:=gb (nb' - 1) (by omega)
   obtain⟨ax,ea,ea',Sa⟩:=ga (na' - 1) (by omega)
   refine j9 (E4 eb (j9 (E4 ea (j9 (aC5 C (hS.k.trans hk) Sb Sa ?_)))))
   cases ew:B bx ax with
   | true =>
    refine L3 rfl ?_
    refine j9 (E4 ea ?_)
    have m2:=pushA out' na' nb' ax i1 I'.m ea' fun y hy=>by
     obtain⟨j,h1,h2,h3⟩:=L4 hy
     exact o.of_lt (o.le_lt (leB j (nb' - 1) y bx (by omega) h3 eb') ew)
    by_cases e3:na' - 1=0
    ·refine L3 (by simpa using e3) ?_
     exact m5 ⟨hS,.inl ⟨_,_,_,_,_,_,rfl,goodDone _ _ _ m2 (.inl e3)⟩⟩
    refine K4 (by simpa using e3) ?_
    have I2:HiI B a b (out'.push ax) (na' - 1) nb':=⟨m2,by omega,by omega,i3,i4,by rw[B6];omega⟩
    have z2:x+2<=(out'.push ax).size:=by rw[B6];omega
    refine an3 ?_ ?_
    ·exact m5 ⟨hS,.inr ⟨_,_,_,_,_,rfl,I2,z2⟩⟩
    ·exact m5 ⟨hS,_,_,_,_,_,rfl,I2,ao6 z2,fun _=>z2⟩
   | false =>
    refine K4 k7 ?_
    refine j9 (E4 eb ?_)
    have m2:=pushB out' na' nb' bx (by omega) I'.m eb' fun y hy=>by
     obtain⟨j,h1,h2,h3⟩:=L4 hy
     exact o.trans (leA j (na' - 1) y ax (by omega) h3 ea') ew
    by_cases e3:nb' - 1=1
    ·refine L3 (by simpa using e3) ?_
     exact m5 ⟨hS,.inl ⟨_,_,_,_,_,_,rfl,goodFirst _ _ _ m2 e3⟩⟩
    refine K4 (by simpa using e3) ?_
    have I2:HiI B a b (out'.push bx) na' (nb' - 1):=⟨m2,i1,i2,by omega,by omega,by rw[B6];omega⟩
    have z2:x+2<=(out'.push bx).size:=by rw[B6];omega
    refine an3 ?_ ?_
    ·exact m5 ⟨hS,.inr ⟨_,_,_,_,_,rfl,I2,z2⟩⟩
    ·exact m5 ⟨hS,_,_,_,_,_,rfl,I2,ao6 z2,fun _=>z2⟩
  case ipost =>
   rintro c st2 ⟨hS2,⟨r,na',nb',out',ac,bc,rfl,hg⟩ | ⟨na',nb',out',ac,bc,rfl,I',hz⟩⟩
   ·exact m5 ⟨hS2,r,_,_,_,_,rfl,hg⟩
   refine j9 (af0 ?_)
   refine j9 (Y6 (F2
    (I:=fun j c st'=>Sm st st'/\∃ na' nb' out' mg ac bc,c=(none,na',nb',out',mg,ac,bc)/\HiI B a b out' na' nb'/\x+2<=out'.size)
    (Q:=fun c st'=>Sm st st'/\((∃ r na' nb' out' mg ac bc,c=(some r,na',nb',out',mg,ac,bc)/\Good B a b r)\/(∃ na' nb' out' mg ac bc,c=(none,na',nb',out',mg,ac,bc)/\HiI B a b out' na' nb'/\x+2<=out'.size)))
    ?gstep ?gfin ⟨hS2,na',nb',out',_,ac,bc,rfl,I',hz⟩) ?gpost)
   case gfin =>
    rintro c st' ⟨hS,na',nb',out',mg,ac,bc,rfl,I',h1⟩
    exact⟨hS,.inr ⟨na',nb',out',mg,ac,bc,rfl,I',h1⟩⟩
   case gpost =>
    rintro c st3 ⟨hS3,⟨r,na',nb',out',mg,ac,bc,rfl,hg⟩ | ⟨na',nb',out',mg,ac,bc,rfl,I',hz⟩⟩
    ·exact m5 ⟨hS3,r,_,_,_,_,rfl,hg⟩
    exact j9 (an4 (m5 ⟨hS3.mg _,_,_,_,_,rfl,I',by omega⟩))
   case gstep =>
    rintro j c st' _ hj ⟨hS,na',nb',out',mg,ac,bc,rfl,I',hz⟩
    dsimp (config:={ zeta:=false }) only
    have i1:=I'.ha
    have i2:=I'.ha'
    have i3:=I'.hb
    have i4:=I'.hb'
    have i5:=I'.sz
    obtain⟨bx,eb,eb',Sb⟩:=gb (nb' - 1) (by omega)
    revert mg
    refine aU5 (fun _=>rfl) fun mg1=>?_
    try dsimp (config:={ zeta:=false }) only
    refine j9 (an4 (j9 (E4 eb ?_)))
    refine j9 (X5 o C (hS.k.trans hk) Sb (by omega) (fun i y hi e=>hSa y (i7 (by rw[<- tl];exact e))) (fun i j y z hij hj e e'=>leA _ _ y z (X2 hij _) (by rw[<- tl];exact e) (by rw[<- tl];exact e')) (by omega) fun k hkn hlt hge=>?_)
    dsimp (config:={ zeta:=false }) only
    have hlt':∀ y∈(a.toList.take k).reverse,le B y bx:=fun y hy=>by
     obtain⟨i,h1,h2,h3⟩:=L4 hy
     have q:=hlt i y h1 (by rw[O8,tl];exact h3)
     show B bx y=false
     simpa [byn] using q
    have hge':∀ y∈((a.toList.drop k).take (na' - k)).reverse,∀ z∈(b.toList.take nb').reverse,le B z y:=fun y hy z hz'=>by
     rw[aS6]at hy
     obtain⟨i,h1,h3⟩:=Y7 hy
     have q:=hge (k+i) y (by omega) (by omega) (by rw[O8,tl];exact h3)
     obtain⟨j',h4,h5,h6⟩:=L4 hz'
     have q':B bx y=true:=by simpa [byn] using q
     exact o.of_lt (o.le_lt (leB j' (nb' - 1) z bx (by omega) h6 eb') q')
    have m1':=blkA out' na' nb' k hkn I'.m hge'
    generalize hd:na' - k=d
    generalize eo:out'=o
    generalize en:na'=n
    revert o n
    refine as1 (R:=fun out1 na1=>HM B a b out1 na1 nb'/\(∀ y∈(a.toList.take na1).reverse,le B y bx)/\0<na1/\na1<=a.size/\out1.size+na1+nb'=a.size+b.size/\x+2<=out1.size) ?_ (fun hk J=>?_) (fun hk=>?_)
    rotate_left
    ·by_cases e4:k=0
     ·refine L3 (by simpa using e4) ?_
      exact m5 ⟨hS.mg _,.inl ⟨_,_,_,_,_,_,_,rfl,goodDone _ _ _ m1' (.inl e4)⟩⟩
     refine K4 (by simpa using e4) ?_
     exact J (out'++(a.extract k na').reverse) k ⟨m1',hlt',by omega,by omega,by rw[K2,bP2,F9];omega,by rw[K2];omega⟩
    ·have e9:k=na':=by omega
     exact⟨I'.m,by rw[<- e9];exact hlt',i1,i2,i5,hz⟩
    rintro out1 na1 ⟨m1,hge1,hne1,hle1,sz1,z1⟩
    refine j9 (E4 eb ?_)
    have m2:=pushB out1 na1 nb' bx (by omega) m1 eb' hge1
    by_cases e5:nb' - 1=1
    ·refine L3 (by simpa using e5) ?_
     exact m5 ⟨hS.mg _,.inl ⟨_,_,_,_,_,_,_,rfl,goodFirst _ _ _ m2 e5⟩⟩
    refine K4 (by simpa using e5) ?_
    generalize ho:out1.push bx=o2 at m2 ⊢
    have so2:o2.size=out1.size+1:=by rw[<- ho,B6]
    generalize hn:nb' - 1=n2 at m2 e5 ⊢
    obtain⟨ax,ea,ea',Sa⟩:=ga (na1 - 1) (by omega)
    refine j9 (E4 ea ?_)
    refine j9 (X5 o C (hS.k.trans hk) Sa (by omega) (fun i y hi e=>hSb y (i7 (by rw[<- tl];exact e))) (fun i j y z hij hj e e'=>leB _ _ y z (X2 hij _) (by rw[<- tl];exact e) (by rw[<- tl];exact e')) (by omega) fun k' hkn' hlt2 hge2=>?_)
    dsimp (config:={ zeta:=false }) only
    have hlt2':∀ y∈(b.toList.take k').reverse,le B y ax:=fun y hy=>by
     obtain⟨i,h1,h2,h3⟩:=L4 hy
     have q:=hlt2 i y h1 (by rw[O8,tl];exact h3)
     have q':B y ax=true:=by simpa [byn] using q
     exact o.of_lt q'
    have hge2':∀ y∈((b.toList.drop k').take (n2 - k')).reverse,∀ z∈(a.toList.take na1).reverse,le B z y:=fun y hy z hz'=>by
     rw[aS6]at hy
     obtain⟨i,h1,h3⟩:=Y7 hy
     have q:=hge2 (k'+i) y (by omega) (by omega) (by rw[O8,tl];exact h3)
     obtain⟨j',h4,h5,h6⟩:=L4 hz'
     have q':B y ax=false:=by simpa [byn] using q
     exact o.trans (leA j' (na1 - 1) z ax (by omega) h6 ea') q'
    have m3':=blkB o2 na1 n2 k' hkn' m2 hge2'
    have sz2:o2.size+na1+n2=a.size+b.size:=by omega
    generalize hd2:n2 - k'=d2
    generalize eo:o2=o
    generalize en:n2=n
    revert o n
    refine as1 (R:=fun out2 nb2=>HM B a b out2 na1 nb2/\(∀ y∈(b.toList.take nb2).reverse,le B y ax)/\1<nb2/\nb2<=b.size/\out2.size+na1+nb2=a.size+b.size/\x+2<=out2.size) ?_ (fun hk J=>?_) (fun hk=>?_)
    rotate_left
    ·by_cases e6:k'=1
     ·refine L3 (by simpa using e6) ?_
      exact m5 ⟨hS.mg _,.inl ⟨_,_,_,_,_,_,_,rfl,goodFirst _ _ _ m3' e6⟩⟩
     refine K4 (by simpa using e6) ?_
     by_cases e7:k'=0
     ·refine L3 (by simpa using e7) ?_
      exact m5 ⟨hS.mg _,.inl ⟨_,_,_,_,_,_,_,rfl,goodDone _ _ _ m3' (.inr e7)⟩⟩
     refine K4 (by simpa using e7) ?_
     exact J (o2++(b.extract k' n2).reverse) k' ⟨m3',hlt2',by omega,by omega,by rw[K2,bP2,F9];omega,by rw[K2];omega⟩
    ·have e8:k'=n2:=by omega
     exact⟨m2,by rw[<- e8];exact hlt2',by omega,by omega,sz2,by omega⟩
    rintro out2 nb2 ⟨m3,hge3,hne3,hle3,sz3,z3⟩
    refine j9 (E4 ea ?_)
    have m4:=pushA out2 na1 nb2 ax hne1 m3 ea' hge3
    by_cases e7:na1 - 1=0
    ·refine L3 (by simpa using e7) ?_
     exact m5 ⟨hS.mg _,.inl ⟨_,_,_,_,_,_,_,rfl,goodDone _ _ _ m4 (.inl e7)⟩⟩
    refine K4 (by simpa using e7) ?_
    have I4:HiI B a b (out2.push ax) (na1 - 1) nb2:=⟨m4,by omega,by omega,hne3,hle3,by rw[B6];omega⟩
    have z4:x+2<=(out2.push ax).size:=by
     rw[B6]
     omega
    refine an3 ?_ ?_
    ·exact m5 ⟨hS.mg _,.inr ⟨_,_,_,_,_,_,rfl,I4,z4⟩⟩
    ·exact m5 ⟨hS.mg _,_,_,_,_,_,_,rfl,I4,z4⟩
end
def KF {O:aN3}(f:Keyed->O.α)(d:O.α)(xs:Array Keyed)(i:Nat):O.α:=match xs[i]? with
 | some p=>f p
 | none=>d
def Bf {O:aN3}(f:Keyed->O.α)(x y:Keyed):Bool:=O.blt (f x) (f y)
theorem Bf.ord {O:aN3}(f:Keyed->O.α):Ord (Bf f):=⟨fun x=>O.irrefl _,fun x y z=>O.trans _ _ _,fun x y z=>O.negTrans _ _ _⟩
section
variable {O:aN3} {f:Keyed->O.α} {d:O.α}
theorem am9 {xs ys:Array Keyed}(h:xs[i]?=ys[j]?):KF f d xs i=KF f d ys j:=by unfold KF;rw[h]
theorem aC2 {xs:Array Keyed}{x:Keyed}(h:xs[i]?=some x):KF f d xs i=f x:=by unfold KF;rw[h]
theorem aM8 {xs:Array Keyed}{src dd:Nat}(hs:src<xs.size)(hd:dd<=src)(k:Nat) :
  KF f d (bubble xs src dd) k=if k=src - dd then KF f d xs src else if src - dd<k/\k<=src then KF f d xs (k - 1) else KF f d xs k:=by
 have e:=getElem?_bubble hs dd hd k
 repeat' split at e
 all_goals first
  | (rw[if_pos (by assumption)];exact am9 e)
  | (rw[if_neg (by assumption),if_pos (by assumption)];exact am9 e)
  | (rw[if_neg (by assumption),if_neg (by assumption)];exact am9 e)
theorem ax6 {xs:Array Keyed}(hj:j<=xs.size)(k:Nat):KF f d (mirror xs i j ((j - i) / 2)) k=if i<=k/\k<j then KF f d xs (i+j - 1 - k) else KF f d xs k:=by
 have e:=cd8 (i:=i) hj k
 split at e
 ·rw[if_pos (by assumption)];exact am9 e
 ·rw[if_neg (by assumption)];exact am9 e
theorem P8 {xs:Array Keyed}(hj:j<=xs.size)(heq:∀ k,i<=k->k<j->KF f d xs k=KF f d xs (j - 1))(k:Nat):KF f d (mirror xs i j ((j - i) / 2)) k=KF f d xs k:=by
 rw[ax6 hj]
 split
 ·rw[heq _ (by omega) (by omega),heq k (by omega) (by omega)]
 ·rfl
end
def V9 {O:aN3}(f:Keyed->O.α)(d:O.α)(lo:Nat)(xs:Array Keyed)(k:Nat):Prop:=∀ i j,i<=j->j<k->O.kle (KF f d xs (lo+i)) (KF f d xs (lo+j))
def ai4 {O:aN3}(f:Keyed->O.α)(d:O.α)(lo:Nat)(xs:Array Keyed)(k:Nat):Prop:=∀ i j,i<=j->j<k->O.kle (KF f d xs (lo+j)) (KF f d xs (lo+i))
def Pre (lo:Nat)(xs ys:Array Keyed):Prop:=∀ k,k<lo->ys[k]?=xs[k]?
theorem Pre.rf (lo:Nat)(xs:Array Keyed):Pre lo xs xs:=fun _ _=>rfl
theorem Pre.trans {lo:Nat}{xs ys zs:Array Keyed}(a:Pre lo xs ys)(b:Pre lo ys zs):Pre lo xs zs:=fun k hk=>(b k hk).trans (a k hk)
theorem Pre.mirror {lo:Nat}{xs:Array Keyed}(hj:j<=xs.size)(hi:lo<=i):Pre lo xs (mirror xs i j ((j - i) / 2)):=fun k hk=>by
 rw[cd8 hj,if_neg (by omega)]
theorem Pre.bubble {lo src dd:Nat}{xs:Array Keyed}(hs:src<xs.size)(hd:dd<=src)(hl:lo<=src - dd):Pre lo xs (bubble xs src dd):=fun k hk=>by
 rw[getElem?_bubble hs dd hd,if_neg (by omega),if_neg (by omega)]
structure SI (a₀:Array Keyed) (κ:SortKind) (p:Array (Nat × Nat × Nat)) (st:SortSt):Prop where
 perm:(m8 st).Perm a₀
 kind:kindOf st=κ
 failed:P5 st=none
 pend:C6 st=p
section
variable {p:Array (Nat × Nat × Nat)} {O:aN3} {f:Keyed->O.α} {d:O.α}
theorem SI.size {st:SortSt}(h:SI a₀ κ p st):(m8 st).size=a₀.size:=h.perm.size_eq
theorem SI.setArr {st:SortSt}(h:SI a₀ κ p st){xs:Array Keyed}(hp:xs.Perm (m8 st)):SI a₀ κ p (setArr st xs):=⟨hp.trans h.perm,h.kind,h.failed,h.pend⟩
theorem SI.at {st:SortSt}(h:SI a₀ κ p st)(hi:i<a₀.size):∃ x,(m8 st)[i]?=some x/\x∈a₀.toList:=by
 have hi':i<(m8 st).size:=by rw[h.size];exact hi
 exact⟨(m8 st)[i],getElem?_pos _ i hi',(O0.mp h.perm).mem_iff.mp (by simp)⟩
abbrev bO9 (prog:Program)(w:World)(A:Around)(E:Value->Shared->Prop)(s:Shared)(κ:SortKind)(a₀:Array Keyed){O:aN3}(f:Keyed->O.α):Prop:=Cmp prog w A E s κ (·∈a₀.toList) (Bf f)
theorem ah2 (C:bO9 prog w A E s κ a₀ f){st:SortSt}{Q:Option Bool->SortSt->Prop}(hB:SI a₀ κ p st)(hi:i<a₀.size)(hj:j<a₀.size)
  (h:Q (some (O.blt (KF f d (m8 st) i) (KF f d (m8 st) j))) st):wpS (x8 prog w) A E s (ltAt' i j) Q st:=by
 obtain⟨x,e1,hx⟩:=hB.at hi
 obtain⟨y,e2,hy⟩:=hB.at hj
 rw[aC2 e1,aC2 e2]at h
 exact bo7 C hB.kind e1 e2 hx hy h
theorem bi8 {st:SortSt} {lo a nrem:Nat} {Q:Option (Option Nat) × Nat->SortSt->Prop} {b:Nat->Option (Option Nat) × Nat->StateT SortSt Sem (ForInStep (Option (Option Nat) × Nat))} (ha:1<=a) (han:a<=nrem)
  (hb : ∀ x n (R : ForInStep (Option (Option Nat) × Nat) -> SortSt -> Prop), 1 <= n -> n < nrem -> (O.klt (KF f d (m8 st) (lo + n)) (KF f d (m8 st) (lo + n - 1)) -> R (.done (none, n)) st) ->
   (O.kle (KF f d (m8 st) (lo+n - 1)) (KF f d (m8 st) (lo+n))->R (.yield (none,n+1)) st)->wpS (x8 prog w) A E s (b x (none,n)) R st)
  (hs:V9 f d lo (m8 st) a)
  (h:∀ n,a<=n->n<=nrem->V9 f d lo (m8 st) n->(n=nrem\/O.klt (KF f d (m8 st) (lo+n)) (KF f d (m8 st) (lo+n - 1)))->Q (none,n) st) :
  wpS (x8 prog w) A E s (forIn [a:nrem] (none,a) b) Q st:=by
 refine F2 (I:=fun x c st'=>st'=st/\c=(none,x)/\V9 f d lo (m8 st) x) ?step ?fin ⟨rfl,rfl,hs⟩
 case fin =>
  rintro c st' ⟨rfl,rfl,hs'⟩
  rw[show max a nrem=nrem by omega]at hs' ⊢
  exact h nrem han (c8 _) hs' (.inl rfl)
 case step =>
  rintro x c st' hax hxn ⟨rfl,rfl,hs'⟩
  refine hb x x _ (by omega) hxn (fun q=>h x hax (by omega) hs' (.inr q)) (fun q=>⟨rfl,rfl,fun i j hij hj=>?_⟩)
  by_cases hjx:j<x
  ·exact hs' i j hij hjx
  ·have hj':j=x:=by omega
   subst hj'
   by_cases hi':i=j
   ·subst hi';exact KeyOrd.kle_refl _
   ·refine KeyOrd.kle_trans (hs' i (j - 1) (by omega) (by omega)) ?_
    rw[show lo+(j - 1)=lo+j - 1 by omega]
    exact q
theorem bt8 {st:SortSt} {lo nrem:Nat} {Q:Option (Option Nat) × Nat × Nat->SortSt->Prop} (hn:lo+nrem<=a₀.size) (h1:1<=n) (hnn:n<=nrem) (hB:SI a₀ κ p st)
  (hb : ∀ y x neq st' (R : ForInStep (Option (Option Nat) × Nat × Nat) -> SortSt -> Prop), SI a₀ κ p st' -> 1 <= x -> x < nrem ->
   (O.klt (KF f d (m8 st') (lo+x)) (KF f d (m8 st') (lo+x - 1))->0<neq->R (.yield (none,x+1,0)) (setArr st' (mirror (m8 st') (lo+x - (neq+1)) (lo+x) ((lo+x - (lo+x - (neq+1))) / 2)))) ->
   (O.klt (KF f d (m8 st') (lo+x)) (KF f d (m8 st') (lo+x - 1))->R (.yield (none,x+1,0)) st') ->
   (R (.done (none,x,neq)) st') ->
   (O.kle (KF f d (m8 st') (lo+x - 1)) (KF f d (m8 st') (lo+x))->O.kle (KF f d (m8 st') (lo+x)) (KF f d (m8 st') (lo+x - 1))->R (.yield (none,x+1,neq+1)) st')->wpS (x8 prog w) A E s (b y (none,x,neq)) R st')
  (hs:ai4 f d lo (m8 st) n)
  (h:∀ m neq st',SI a₀ κ p st'->Pre lo (m8 st) (m8 st')->n<=m->m<=nrem->ai4 f d lo (m8 st') m->neq+1<=m->(∀ i,m - (neq+1)<=i->i<m->KF f d (m8 st') (lo+i)=KF f d (m8 st') (lo+m - 1))->Q (none,m,neq) st') :
  wpS (x8 prog w) A E s (forIn [n:nrem] (none,n,0) b) Q st:=by
 refine F2 (I:=fun x c st'=>∃ neq,c=(none,x,neq)/\SI a₀ κ p st'/\Pre lo (m8 st) (m8 st')/\ai4 f d lo (m8 st') x/\neq+1<=x /\
   (∀ i,x - (neq+1)<=i->i<x->KF f d (m8 st') (lo+i)=KF f d (m8 st') (lo+x - 1))) ?step ?fin ⟨0,rfl,hB,Pre.rf _ _,hs,by omega,fun i h1 h2=>by congr 1;omega⟩
 case fin =>
  rintro c st' ⟨neq,rfl,hB',hp',hs',hq,he⟩
  rw[show max n nrem=nrem by omega]at hs' hq he ⊢
  exact h nrem neq st' hB' hp' hnn (c8 _) hs' hq he
 case step =>
  rintro x c st' hax hxn ⟨neq,rfl,hB',hp',hs',hq,he⟩
  have hsz:lo+x<=(m8 st').size:=by rw[hB'.size];omega
  have step1:O.klt (KF f d (m8 st') (lo+x)) (KF f d (m8 st') (lo+x - 1))->∀ xs:Array Keyed,(∀ k,KF f d xs k=KF f d (m8 st') k)->ai4 f d lo xs (x+1):=by
   intro hless xs hk i j hij hj
   rw[hk,hk]
   by_cases hjx:j<x
   ·exact hs' i j hij hjx
   ·have hj':j=x:=by omega
    subst hj'
    by_cases hi':i=j
    ·subst hi';exact KeyOrd.kle_refl _
    ·refine KeyOrd.kle_trans (KeyOrd.kle_of_klt hless) ?_
     rw[show lo+j - 1=lo+(j - 1) by omega]
     exact hs' i (j - 1) (by omega) (by omega)
  have he':∀ k,lo+x - (neq+1)<=k->k<lo+x->KF f d (m8 st') k=KF f d (m8 st') (lo+x - 1):=fun k h1 h2=>by
   have:=he (k - lo) (by omega) (by omega)
   rw[show lo+(k - lo)=k by omega]at this
   exact this
  refine hb x x neq st' _ hB' (by omega) hxn (fun q hneq=>?_) (fun q=>?_) (h x neq st' hB' hp' hax (by omega) hs' hq he) (fun q q'=>?_)
  ·exact⟨0,rfl,hB'.setArr (bo1 _ _ _ _),hp'.trans (Pre.mirror hsz (by omega)),step1 q _ (P8 hsz he'),by omega,fun i h1 h2=>by congr 1;omega⟩
  ·exact⟨0,rfl,hB',hp',step1 q _ (fun _=>rfl),by omega,fun i h1 h2=>by congr 1;omega⟩
  ·have heqx:KF f d (m8 st') (lo+x)=KF f d (m8 st') (lo+x - 1):=KeyOrd.kle_antisymm q' q
   refine⟨neq+1,rfl,hB',hp',fun i j hij hj=>?_,by omega,fun i h1 h2=>?_⟩
   ·by_cases hjx:j<x
    ·exact hs' i j hij hjx
    ·have hj':j=x:=by omega
     subst hj'
     by_cases hi':i=j
     ·subst hi';exact KeyOrd.kle_refl _
     ·rw[heqx,show lo+j - 1=lo+(j - 1) by omega];exact hs' i (j - 1) (by omega) (by omega)
   ·rw[show lo+(x+1) - 1=lo+x by omega]
    by_cases hix:i=x
    ·subst hix;rfl
    ·rw[heqx];exact he i (by omega) (by omega)
theorem wpS_countRun (C:bO9 prog w A E s κ a₀ f) {st:SortSt} {lo nrem:Nat} {Q:Option Nat->SortSt->Prop} (d:O.α) (hn:lo+nrem<=a₀.size) (h1:1<=nrem) (hB:SI a₀ κ p st)
    (h:∀ m st',SI a₀ κ p st'->Pre lo (m8 st) (m8 st')->1<=m->m<=nrem->V9 f d lo (m8 st') m->Q (some m) st') :
    wpS (x8 prog w) A E s (countRun' lo nrem) Q st:=by
  rw[countRun'_eq]
  dsimp only
  refine j9 (bi8 (f:=f) (d:=d) (lo:=lo) (c8 1) h1 (fun x n R hn1 hn2 q1 q2=>?_) (fun i j hij hj=>by have:i=j:=(by omega);subst this;exact KeyOrd.kle_refl _) fun n hn1 hn2 hsn hor=>?_)
  · dsimp only
    refine j9 (ah2 (d:=d) C hB (by omega) (by omega) ?_)
    cases e:O.blt (KF f d (m8 st) (lo+n)) (KF f d (m8 st) (lo+n - 1)) with
    | true=>exact m5 (q1 e)
    | false=>exact m5 (q2 e)
  dsimp only
  by_cases hnn:n=nrem
  · rw[if_pos (by simpa using hnn)]
    exact m5 (h n st hB (Pre.rf _ _) hn1 hn2 hsn)
  rw[if_neg (by simpa using hnn)]
  have hlt:=hor.resolve_left hnn
  by_cases hrose:1<n/\O.blt (KF f d (m8 st) lo) (KF f d (m8 st) (lo+n - 1))=true
  · rw[if_pos hrose.1]
    refine j9 (ah2 (d:=d) C hB (by omega) (by omega) ?_)
    rw[hrose.2]
    exact m5 (h n st hB (Pre.rf _ _) hn1 hn2 hsn)
  have hfell:1<n->O.blt (KF f d (m8 st) lo) (KF f d (m8 st) (lo+n - 1))=false:=fun hgt=>by
    cases e:O.blt (KF f d (m8 st) lo) (KF f d (m8 st) (lo+n - 1)) with
    | false=>rfl
    | true=>exact absurd ⟨hgt,e⟩ hrose
  have fall:∃ st2,SI a₀ κ p st2/\Pre lo (m8 st) (m8 st2)/\ai4 f d lo (m8 st2) (n+1)/\(n > 1->st2=setArr st (mirror (m8 st) lo (lo+n) ((lo+n - lo) / 2)))/\(¬ n > 1->st2=st):=by
    by_cases hgt:1<n
    · have hfell:=hfell hgt
      have hsz:lo+n<=(m8 st).size:=by rw[hB.size];omega
      have hall:∀ k,lo<=k->k<lo+n->KF f d (m8 st) k=KF f d (m8 st) (lo+n - 1):=by
        intro k hk0 hk
        have a1:=hsn 0 (k - lo) (by omega) (by omega)
        have a2:=hsn (k - lo) (n - 1) (by omega) (by omega)
        rw[show lo+0=lo by omega,show lo+(k - lo)=k by omega]at a1
        rw[show lo+(k - lo)=k by omega,show lo+(n - 1)=lo+n - 1 by omega]at a2
        exact KeyOrd.kle_antisymm a2 (KeyOrd.kle_trans hfell a1)
      refine⟨_,hB.setArr (bo1 _ _ _ _),Pre.mirror hsz (c8 _),?_,fun _=>rfl,fun e=>by omega⟩
      intro i j hij hj
      show O.kle (KF f d (mirror (m8 st) _ _ _) (lo+j)) (KF f d (mirror (m8 st) _ _ _) (lo+i))
      rw[P8 hsz hall,P8 hsz hall]
      by_cases hjn:j<n
      · rw[hall (lo+i) (by omega) (by omega),hall (lo+j) (by omega) (by omega)];exact KeyOrd.kle_refl _
      · have hj':j=n:=by omega
        subst hj'
        by_cases hi':i=j
        · subst hi';exact KeyOrd.kle_refl _
        · rw[hall (lo+i) (by omega) (by omega)];exact KeyOrd.kle_of_klt hlt
    · have hn1':n=1:=by omega
      subst hn1'
      refine⟨st,hB,Pre.rf _ _,?_,fun q=>by omega,fun _=>rfl⟩
      intro i j hij hj
      by_cases hi':i=j
      · subst hi';exact KeyOrd.kle_refl _
      · have hi0:i=0:=by omega
        have hj1:j=1:=by omega
        subst hi0;subst hj1
        rw[show lo+0=lo+1 - 1 by omega]
        exact KeyOrd.kle_of_klt hlt
  obtain⟨st2,hB2,hp2,hs2,e2,e3⟩:=fall
  by_cases hgt:n > 1
  all_goals first
    | (rw [if_pos hgt]
       refine j9 (ah2 (d:=d) C hB (by omega) (by omega) ?_)
       rw[hfell hgt]
       dsimp only
       rw[if_neg k7]
       refine j9 (aI6 ?_)
       rw[<- e2 hgt])
    | (rw [if_neg hgt]
       have e3:=e3 hgt
       rw[<- e3])
  all_goals
    clear e2 e3
    refine j9 (af0 ?_)
    refine j9 (bt8 (f:=f) (d:=d) (lo:=lo) hn (by omega) (by omega) hB2 (fun y x neq st' R hB' x1 x2 q1 q2 q3 q4=>?_) hs2 fun m neq st' hB' hp' hm1 hm2 hs' hq he=>?_)
    · dsimp only
      refine j9 (ah2 (d:=d) C hB' (by omega) (by omega) ?_)
      cases e:O.blt (KF f d (m8 st') (lo+x)) (KF f d (m8 st') (lo+x - 1)) with
      | true =>
        dsimp only
        rw[if_pos rfl]
        split
        · rename_i hz
          exact j9 (aI6 (m5 (q1 e hz)))
        · exact m5 (q2 e)
      | false =>
        dsimp only
        rw[if_neg k7]
        refine j9 (ah2 (d:=d) C hB' (by omega) (by omega) ?_)
        cases e':O.blt (KF f d (m8 st') (lo+x - 1)) (KF f d (m8 st') (lo+x)) with
        | true=>exact m5 q3
        | false=>exact m5 (q4 e e')
    · dsimp only
      have hsz:lo+m<=(m8 st').size:=by rw[hB'.size];omega
      have he':∀ k,lo+m - (neq+1)<=k->k<lo+m->KF f d (m8 st') k=KF f d (m8 st') (lo+m - 1):=fun k h1 h2=>by
        have:=he (k - lo) (by omega) (by omega)
        rw[show lo+(k - lo)=k by omega]at this
        exact this
      have tailOk:∀ st3,SI a₀ κ p st3->Pre lo (m8 st) (m8 st3)->ai4 f d lo (m8 st3) m->SI a₀ κ p (setArr st3 (mirror (m8 st3) lo (lo+m) ((lo+m - lo) / 2)))/\Pre lo (m8 st) (mirror (m8 st3) lo (lo+m) ((lo+m - lo) / 2))/\V9 f d lo (mirror (m8 st3) lo (lo+m) ((lo+m - lo) / 2)) m:=fun st3 hB3 hp3 hs3=>by
        have hsz3:lo+m<=(m8 st3).size:=by rw[hB3.size];omega
        refine⟨hB3.setArr (bo1 _ _ _ _),hp3.trans (Pre.mirror hsz3 (c8 _)),fun i j hij hj=>?_⟩
        rw[ax6 hsz3,ax6 hsz3,if_pos (by omega),if_pos (by omega),show lo+(lo+m) - 1 - (lo+i)=lo+(m - 1 - i) by omega,show lo+(lo+m) - 1 - (lo+j)=lo+(m - 1 - j) by omega]
        exact hs3 _ _ (by omega) (by omega)
      have mm:ai4 f d lo (mirror (m8 st') (lo+m - (neq+1)) (lo+m) ((lo+m - (lo+m - (neq+1))) / 2)) m:=fun i j hij hj=>by
        rw[P8 hsz he',P8 hsz he']
        exact hs' i j hij hj
      by_cases hneq:neq > 0
      all_goals first
        | (rw [if_pos hneq]
           refine j9 (aI6 (j9 (aI6 ?_)))
           obtain⟨hB4,hp4,hs4⟩:=tailOk (setArr st' (mirror (m8 st') (lo+m - (neq+1)) (lo+m) ((lo+m - (lo+m - (neq+1))) / 2))) (hB'.setArr (bo1 _ _ _ _)) ((hp2.trans hp').trans (Pre.mirror hsz (by omega))) mm)
        | (rw [if_neg hneq]
           refine j9 (aI6 ?_)
           obtain⟨hB4,hp4,hs4⟩:=tailOk st' hB' (hp2.trans hp') hs')
      all_goals
        refine j9 (bi8 (f:=f) (d:=d) (lo:=lo) (by omega) hm2 (fun x n R hn1 hn2 q1 q2=>?_) hs4 fun n' hn1' hn2' hsn' _=>m5 (h n' _ hB4 hp4 (by omega) hn2' hsn'))
        dsimp only
        refine j9 (ah2 (d:=d) C hB4 (by omega) (by omega) ?_)
        revert q1 q2
        generalize KF f d (m8 _) (lo+n)=u
        generalize KF f d (m8 _) (lo+n - 1)=v
        intro q1 q2
        cases e:O.blt u v with
        | true=>exact m5 (q1 e)
        | false=>exact m5 (q2 e)
theorem az2 (C:bO9 prog w A E s κ a₀ f) {st:SortSt} {lo ok:Nat} {Q:Bool->SortSt->Prop} (d:O.α) (hn:lo+n<=a₀.size) (hok:ok<=n) (hB:SI a₀ κ p st) (hs:V9 f d lo (m8 st) ok)
  (h:∀ st',SI a₀ κ p st'->Pre lo (m8 st) (m8 st')->V9 f d lo (m8 st') n->Q true st'):wpS (x8 prog w) A E s (binarySort' lo n ok) Q st:=by
 rw[binarySort'_eq]
 refine j9 (Y6 (F2 (I:=fun k c st'=>c=(none,())/\SI a₀ κ p st'/\Pre lo (m8 st) (m8 st')/\V9 f d lo (m8 st') (min k n))
  (Q:=fun c st'=>c=(none,())/\SI a₀ κ p st'/\Pre lo (m8 st) (m8 st')/\V9 f d lo (m8 st') n) ?step ?fin ?init) ?post)
 case post =>
  rintro c st' ⟨rfl,hB',hp',hs'⟩
  exact m5 (h st' hB' hp' hs')
 case init =>
  refine⟨rfl,hB,Pre.rf _ _,fun i j hij hj=>?_⟩
  by_cases h1:ok=0
  ·have:i=j:=by omega
   subst this;exact KeyOrd.kle_refl _
  ·exact hs i j hij (by omega)
 case fin =>
  rintro c st' ⟨hc,hB',hp',hs'⟩
  refine⟨hc,hB',hp',?_⟩
  rwa [show min (max (max ok 1) n) n=n by omega]at hs'
 case step =>
  rintro k c st' hak hkn ⟨rfl,hB',hp',hs'⟩
  rw[show min k n=k by omega]at hs'
  have hk:lo+k<a₀.size:=by omega
  refine j9 (Y6 (F2 (I:=fun x c st''=>st''=st'/\∃ l r,c=(none,l,r)/\l<=r/\r<=k/\r - l<=k - x /\
    (∀ i,i<l->O.kle (KF f d (m8 st') (lo+i)) (KF f d (m8 st') (lo+k)))/\(∀ i,r<=i->i<k->O.klt (KF f d (m8 st') (lo+k)) (KF f d (m8 st') (lo+i))))
   (Q := fun c st'' => st'' = st' /\ ∃ l r, c = (none, l, r) /\ l <= k /\
    (∀ i,i<l->O.kle (KF f d (m8 st') (lo+i)) (KF f d (m8 st') (lo+k)))/\(∀ i,l<=i->i<k->O.klt (KF f d (m8 st') (lo+k)) (KF f d (m8 st') (lo+i)))) ?istep ?ifin ?iinit) ?ipost)
  case iinit=>exact⟨rfl,0,k,rfl,by omega,by omega,by omega,fun i hi=>by omega,fun i h1 h2=>by omega⟩
  case ifin =>
   rintro c st'' ⟨rfl,l,r,rfl,hlr,hrk,hm,hlo,hhi⟩
   have:l=r:=by omega
   subst this
   exact⟨rfl,l,l,rfl,hrk,hlo,hhi⟩
  case istep =>
   rintro x c st'' _ hxk ⟨rfl,l,r,rfl,hlr,hrk,hm,hlo,hhi⟩
   dsimp only
   by_cases hge:l≥r
   ·rw[if_pos hge]
    have:l=r:=by omega
    subst this
    exact m5 ⟨rfl,l,l,rfl,hrk,hlo,hhi⟩
   ·rw[if_neg hge]
    refine j9 (ah2 (d:=d) C hB' hk (by omega) ?_)
    cases hless:O.blt (KF f d (m8 st'') (lo+k)) (KF f d (m8 st'') (lo+(l+r) / 2))
    case true =>
     simp only[if_true]
     refine m5 ⟨rfl,l,(l+r) / 2,rfl,by omega,by omega,by omega,hlo,fun i h1 h2=>?_⟩
     exact KeyOrd.klt_of_klt_of_kle hless (hs' _ _ h1 h2)
    case false =>
     simp only[m7,if_false]
     refine m5 ⟨rfl,(l+r) / 2+1,r,rfl,by omega,by omega,by omega,fun i h1=>?_,hhi⟩
     exact KeyOrd.kle_trans (hs' i ((l+r) / 2) (by omega) (by omega)) (show O.kle _ _ from hless)
  case ipost =>
   rintro c st'' ⟨rfl,l,r,rfl,hlk,hlo,hhi⟩
   show wpS _ _ _ _ (do moveDown' (lo+k) (lo+l);pure (ForInStep.yield (none,()))) _ _
   rw[moveDown'_eq]
   have hks:lo+k<(m8 st'').size:=by rw[hB'.size];exact hk
   refine j9 (aA0 (m5 ⟨rfl,hB'.setArr (bubble_perm _ _ _),hp'.trans (Pre.bubble hks (by omega) (by omega)),?_⟩))
   rw[show min (k+1) n=k+1 by omega]
   intro i j hij hj
   show O.kle (KF f d (bubble (m8 st'') (lo+k) (lo+k - (lo+l))) (lo+i)) (KF f d (bubble (m8 st'') (lo+k) (lo+k - (lo+l))) (lo+j))
   rw[aM8 hks (by omega),aM8 hks (by omega),show lo+k - (lo+k - (lo+l))=lo+l by omega]
   have e1:∀ t:Nat,0<t->lo+t - 1=lo+(t - 1):=fun t ht=>by omega
   repeat' split
   all_goals first
    | (exfalso;omega)
    | exact KeyOrd.kle_refl _
    | exact hlo _ (by omega)
    | (rw[e1 _ (by omega)];exact KeyOrd.kle_of_klt (hhi _ (by omega) (by omega)))
    | exact KeyOrd.kle_of_klt (hhi _ (by omega) (by omega))
    | exact hs' _ _ (by omega) (by omega)
    | (rw[e1 _ (by omega)];exact hs' _ _ (by omega) (by omega))
    | (rw[e1 _ (by omega),e1 _ (by omega)];exact hs' _ _ (by omega) (by omega))
end
theorem aZ7 (i:Nat):mergeAt' i=(do
 let s <- get
 let (some (sa,na,power),some (sb,nb,_)):=((C6 s)[i]?,(C6 s)[i+1]?) | aj6 "internal:list.sort.pending"
 set (bF9 s (((C6 s).setIfInBounds i (sa,na+nb,power)).eraseIdxIfInBounds (i+1)))
 let some k <- aa9 false (<- ak9 (m8 s) sb) (m8 s) sa na 0 | return false
 let (sa,na):=(sa+k,na - k)
 if na == 0 then return true
 let some nb <- aa9 true (<- ak9 (m8 s) (sa+na - 1)) (m8 s) sb nb (nb - 1) | return false
 if nb == 0 then return true
 let x:=(m8 s).extract sa sb
 let y:=(m8 s).extract sb (sb+nb)
 let merged <- if na<=nb then aF0 x y else aF1 x y
 modify fun s=>setArr s (merged.toList.zipIdx.foldl (fun a (p,j)=>a.setIfInBounds (sa+j) p) (m8 s))
 return (P5 (<- get)).isNone):=rfl
def shape (ps:List (Nat × Nat × Nat)):List (Nat × Nat):=ps.map fun x=>(x.1,x.2.1)
def at4:Nat->List (List Keyed)->List (Nat × Nat)
 | _,[]=>[]
 | k,r::rs=>(k,r.length)::at4 (k+r.length) rs
theorem ad8:∀ (k:Nat) (rs ts:List (List Keyed)),at4 k (rs++ts)=at4 k rs++at4 (k+rs.flatten.length) ts
 | k,[],ts=>by simp[at4]
 | k,r::rs,ts=>by
  rw[cd0]
  show (k,r.length)::at4 (k+r.length) (rs++ts)=(k,r.length)::(at4 (k+r.length) rs++_)
  rw[ad8 (k+r.length) rs ts,Q0,m6,Nat.add_assoc]
theorem ad7:∀ (k:Nat) (rs:List (List Keyed)),(at4 k rs).length=rs.length
 | _,[]=>rfl
 | k,r::rs=>by
  show (at4 (k+r.length) rs).length+1=rs.length+1
  rw[ad7]
theorem aV0 {α:Type}{l:List α}(h:i+1<l.length):∃ l1 u v l2,l=l1++u::v::l2/\l1.length=i:=by
 refine⟨l.take i,l[i],l[i+1],l.drop (i+2),?_,by rw[o8];omega⟩
 rw[<- ak2,<- ak2,C4]
theorem bb2 (b:Nat):∀ (m:List Keyed) (k:Nat) (arr:Array Keyed),b+k+m.length<=arr.size ->
  (ae9 (fun a x=>match x with | (p,j)=>bG3 a (b+j) p) arr (m.zipIdx k)).toList=arr.toList.take (b+k)++(m++arr.toList.drop (b+k+m.length))
 | [],k,arr,h=>by simp
 | x::m,k,arr,h=>by
  rw[o4]at h
  rw[aS7,ag4,bb2 b m (k+1) _ (by rw[bi4];omega)]
  dsimp only
  rw[bc3]
  have hl:b+k<arr.toList.length:=by rw[l4];omega
  rw[List.set_eq_take_append_cons_drop,if_pos hl]
  have e1:(bc4 (b+k) arr.toList).length=b+k:=by rw[o8];omega
  have e2:(bc4 (b+k) arr.toList++x::List.drop (b+k+1) arr.toList).take (b+(k+1))=bc4 (b+k) arr.toList++[x]:=by
   rw[cd1,e1,show b+(k+1) - (b+k)=1 by omega,j7 (by rw[e1];omega)]
   rfl
  have e3:(bc4 (b+k) arr.toList++x::List.drop (b+k+1) arr.toList).drop (b+(k+1)+m.length)=arr.toList.drop (b+k+(m.length+1)):=by
   rw[ac8,e1,K1 (by rw[e1];omega),Q1,show b+(k+1)+m.length - (b+k)=m.length+1 by omega,List.drop_succ_cons,bi2]
   congr 1
   omega
  rw[e2,e3,C3]
  rfl
theorem bH7 {σ:Type}{x:σ}{Q:PUnit->σ->Prop}{st:σ}(h:Q ⟨⟩ x):wpS M A E s (set x:StateT σ Sem PUnit) Q st:=by
 unfold wpS;rw[StateT.run_set];exact d4 ⟨rfl,h⟩
structure SR (a₀:Array Keyed) (κ:SortKind) (B:Keyed->Keyed->Bool) (runs:List (List Keyed)) (suf:List Keyed) (st:SortSt):Prop where
 perm:(m8 st).Perm a₀
 kind:kindOf st=κ
 failed:P5 st=none
 sh:shape (C6 st).toList=at4 0 runs
 ok:∀ r∈runs,r≠[]/\r.Pairwise (le B)
 arr:(m8 st).toList=runs.flatten++suf
theorem af9 {l:List Keyed}(h:l.Pairwise R)(rf:∀ x,R x x){x y:Keyed}(hij:i<=j)(hx:l[i]?=some x)(hy:l[j]?=some y):R x y:=by
 obtain⟨h1,rfl⟩:=j5.mp hx
 obtain⟨h2,rfl⟩:=j5.mp hy
 rcases L6 hij with hlt | rfl
 ·exact A2.mp h i j h1 h2 hlt
 ·exact rf _
theorem ay0 (o:Ord B)(C:Cmp prog w A E s κ (·∈a₀.toList) B){st:SortSt}{runs:List (List Keyed)}{suf:List Keyed}{Q:Bool->SortSt->Prop}(I:SR a₀ κ B runs suf st)(hi:i+1<runs.length)
  (h:∀ runs' st',SR a₀ κ B runs' suf st'->runs'.length+1=runs.length->runs'.flatten.length=runs.flatten.length->Q true st'):wpS (x8 prog w) A E s (mergeAt' i) Q st:=by
 obtain⟨r1,R,R',r2,rfl,hr1⟩:=aV0 hi
 have hpl:(C6 st).toList.length=(r1++R::R'::r2).length:=by
  have:=congrArg ap2 I.sh
  rw[ad7]at this
  unfold shape at this
  rw[b8]at this
  exact this
 obtain⟨l1,u,v,l2,hp,hl1⟩:=aV0 (l:=(C6 st).toList) (i:=i) (by rw[hpl];exact hi)
 have hsh:=I.sh
 rw[hp,ad8]at hsh
 unfold shape at hsh
 rw[k8]at hsh
 obtain⟨s1,s2⟩:=List.append_inj hsh (by rw[b8,ad7,hl1,hr1])
 rw[o9,o9]at s2
 simp only[at4,List.cons.injEq,O8]at s2
 obtain⟨su,sv,s2⟩:=s2
 obtain⟨sa,na,pw⟩:=u
 obtain⟨sb,nb,pw2⟩:=v
 simp only[Prod.mk.injEq]at su sv
 obtain⟨hsa,hna⟩:=su
 obtain⟨hsb,hnb⟩:=sv
 have okR:=I.ok R (by simp)
 have okR':=I.ok R' (by simp)
 have nR:0<R.length:=az6.mpr okR.1
 have nR':0<R'.length:=az6.mpr okR'.1
 have g1:(C6 st)[i]?=some (sa,na,pw):=by
  rw[<- d9,hp,J7 (by omega),hl1,aS8]
  rfl
 have g2:(C6 st)[i+1]?=some (sb,nb,pw2):=by
  rw[<- d9,hp,J7 (by omega),hl1,show i+1 - i=1 by omega]
  rfl
 have harr:(m8 st).toList=r1.flatten++(R++(R'++(r2.flatten++suf))):=by
  rw[I.arr]
  simp
 have hsize:(m8 st).size=sa+(na+(nb+(r2.flatten++suf).length)):=by
  rw[<- l4,harr,m6,m6,m6,hsa,hna,hnb]
 have atR:∀ k,k<na->(m8 st)[sa+k]?=R[k]?:=fun k hk=>by
  rw[<- d9,harr,J7 (by omega),hsa,R4,ak1 (by omega)]
 have atR':∀ k,k<nb->(m8 st)[sb+k]?=R'[k]?:=fun k hk=>by
  rw[<- d9,harr,J7 (by omega),J7 (by omega),ak1 (by omega)]
  congr 1
  omega
 have inS:∀ x∈(m8 st).toList,x∈a₀.toList:=fun x hx=>(O0.mp I.perm).mem_iff.mp hx
 have hpend:∀ M:List Keyed,M.length=na+nb->shape (((C6 st).setIfInBounds i (sa,na+nb,pw)).eraseIdxIfInBounds (i+1)).toList=at4 0 (r1++M::r2):=fun M hM=>by
  have e:(((C6 st).setIfInBounds i (sa,na+nb,pw)).eraseIdxIfInBounds (i+1)).toList=l1++(sa,na+nb,pw)::l2:=by
   rw[Array.toList_eraseIdxIfInBounds,bc3,hp]
   subst hl1
   rw[List.set_append_right _ _ (c8 _),aS8,List.set_cons_zero,List.eraseIdx_append_of_length_le (by omega)]
   rw[show l1.length+1 - l1.length=1 by omega]
   rfl
  unfold shape
  rw[e,k8,s1,ad8,o9]
  show _++(sa,na+nb)::_=_++(0+r1.flatten.length,M.length)::at4 (0+r1.flatten.length+M.length) r2
  rw[hM,s2,O8,hsa,hna,hnb,Nat.add_assoc]
 have fin:∀ (st':SortSt) (M:List Keyed),kindOf st'=κ->P5 st'=none->C6 st'=((C6 st).setIfInBounds i (sa,na+nb,pw)).eraseIdxIfInBounds (i+1) ->
   (m8 st').toList=r1.flatten++(M++(r2.flatten++suf))->M.Perm (R++R')->M.Pairwise (le B)->Q true st':=fun st' M k1 k2 k3 k4 k5 k6=>by
  have hM:M.length=na+nb:=by rw[k5.length_eq,m6,hna,hnb]
  refine h (r1++M::r2) st' ⟨?_,k1,k2,by rw[k3];exact hpend M hM,fun r hr=>?_,?_⟩ (by simp;omega) (by simp;omega)
  ·refine Array.Perm.trans ?_ I.perm
   rw[O0,k4,harr]
   refine List.Perm.append_left _ ?_
   rw[<- C3 R]
   exact List.Perm.append_right _ k5
  ·rcases A7.mp hr with hr | hr
   ·exact I.ok r (G8 _ hr)
   ·rcases d8.mp hr with rfl | hr
    ·exact⟨by intro e;rw[e]at hM;simp at hM;omega,k6⟩
    ·exact I.ok r (m9 _ (c7 _ (c7 _ hr)))
  ·rw[k4];simp
 have both:(∀ x∈R,∀ y∈R',le B x y)->(R++R').Pairwise (le B):=fun hxy=>A5.mpr ⟨okR.2,okR'.2,hxy⟩
 rw[aZ7]
 refine j9 (az1 ?_)
 rw[g1,g2]
 dsimp only
 refine j9 (bH7 ?_)
 obtain⟨y0,ey0⟩:∃ y0,R'[0]?=some y0:=⟨R'[0],k9 nR'⟩
 have ey:(m8 st)[sb]?=some y0:=by
  have:=atR' 0 (by omega)
  rw[aS9]at this
  rw[this,ey0]
 refine j9 (E4 ey ?_)
 have hy0:y0∈a₀.toList:=inS y0 (i7 (by rw[d9];exact ey))
 refine j9 (X5 o C (by exact I.kind) hy0 (by omega) (fun i x hi' e=>inS x (i7 (by rw[d9];exact e)))
  (fun i j x y hij hj e e'=>af9 okR.2 o.rf hij (by rw[<- atR i (by omega)];exact e) (by rw[<- atR j hj];exact e')) (by omega) fun k hk hlt hge=>?_)
 dsimp only
 have leR:∀ (j:Nat) (x:Keyed),j<k->R[j]?=some x->le B x y0:=fun j x hj e=>by
  have q:=hlt j x hj (by rw[atR j (by omega)];exact e)
  show B y0 x=false
  simpa [byn] using q
 have gtR:∀ (j:Nat) (x:Keyed),k<=j->R[j]?=some x->B y0 x=true:=fun j x hj e=>by
  have hjl:j<R.length:=(j5.mp e).1
  have q:=hge j x hj (by omega) (by rw[atR j (by omega)];exact e)
  simpa [byn] using q
 have leY:∀ y∈R',le B y0 y:=fun y hy=>by
  obtain⟨j,hj⟩:=p6.mp hy
  exact af9 okR'.2 o.rf (v9 j) ey0 hj
 by_cases e0:na - k=0
 ·rw[if_pos (by simpa using e0)]
  refine m5 (fin _ (R++R') I.kind I.failed rfl ?_ (List.Perm.refl _) (both fun x hx y hy=>?_))
  ·show (m8 st).toList=_
   rw[harr];simp
  ·obtain⟨j,hj⟩:=p6.mp hx
   have hjl:j<R.length:=(j5.mp hj).1
   exact o.trans (leR j x (by omega) hj) (leY y hy)
 rw[if_neg (by simpa using e0)]
 obtain⟨xl,exl⟩:∃ xl,R[na - 1]?=some xl:=⟨R[na - 1]'(by omega),k9 (by omega)⟩
 have ex:(m8 st)[sa+k+(na - k) - 1]?=some xl:=by
  rw[show sa+k+(na - k) - 1=sa+(na - 1) by omega,atR _ (by omega),exl]
 refine j9 (E4 ex ?_)
 have hxl:xl∈a₀.toList:=inS xl (i7 (by rw[d9];exact ex))
 refine j9 (X5 o C (by exact I.kind) hxl (by omega) (fun i x hi' e=>inS x (i7 (by rw[d9];exact e)))
  (fun i j x y hij hj e e'=>af9 okR'.2 o.rf hij (by rw[<- atR' i (by omega)];exact e) (by rw[<- atR' j hj];exact e')) (by omega) fun k2 hk2 hlt2 hge2=>?_)
 dsimp only
 have ltY:∀ (j:Nat) (x:Keyed),j<k2->R'[j]?=some x->B x xl=true:=fun j x hj e=>by
  have q:=hlt2 j x hj (by rw[atR' j (by omega)];exact e)
  simpa [byn] using q
 have geY:∀ (j:Nat) (x:Keyed),k2<=j->R'[j]?=some x->le B xl x:=fun j x hj e=>by
  have hjl:j<R'.length:=(j5.mp e).1
  have q:=hge2 j x hj (by omega) (by rw[atR' j (by omega)];exact e)
  show B x xl=false
  simpa [byn] using q
 have leX:∀ x∈R,le B x xl:=fun x hx=>by
  obtain⟨j,hj⟩:=p6.mp hx
  have hjl:j<R.length:=(j5.mp hj).1
  exact af9 okR.2 o.rf (by omega) hj exl
 by_cases e1:k2=0
 ·rw[if_pos (by simpa using e1)]
  refine m5 (fin _ (R++R') I.kind I.failed rfl ?_ (List.Perm.refl _) (both fun x hx y hy=>?_))
  ·show (m8 st).toList=_
   rw[harr];simp
  ·obtain⟨j,hj⟩:=p6.mp hy
   exact o.trans (leX x hx) (geY j y (by omega) hj)
 rw[if_neg (by simpa using e1)]
 have ex1:((m8 st).extract (sa+k) sb).toList=R.drop k:=by
  rw[aB4,harr,hsa,ac8,K1 (by omega),Q1,R4,aT0 (by omega),ac9 (by rw[E7];omega)]
  exact j7 (by rw[E7];omega)
 have ey1:((m8 st).extract sb (sb+k2)).toList=R'.take k2:=by
  rw[aB4,harr,hsb,<- C3,ac8,K1 (by rw[m6];omega),Q1,m6,aS8,bi3,R4,ac9 (by omega)]
 have sx:((m8 st).extract (sa+k) sb).size=na - k:=by rw[<- l4,ex1,E7];omega
 have sy:((m8 st).extract sb (sb+k2)).size=k2:=by rw[<- l4,ey1,o8];omega
 have pre1:∀ x y,((m8 st).extract sb (sb+k2))[0]?=some x->((m8 st).extract (sa+k) sb)[0]?=some y->B x y=true:=fun x y hx hy=>by
  rw[<- d9,ey1,X1 (by omega),ey0]at hx
  cases hx
  rw[<- d9,ex1,S7]at hy
  exact gtR (k+0) y (by omega) hy
 have pre2:∀ x∈((m8 st).extract sb (sb+k2)).toList,∀ y,((m8 st).extract (sa+k) sb)[((m8 st).extract (sa+k) sb).size - 1]?=some y->B x y=true:=fun x hx y hy=>by
  rw[<- d9,ex1,S7,sx,show k+(na - k - 1)=na - 1 by omega,exl]at hy
  cases hy
  rw[ey1]at hx
  obtain⟨j,hj⟩:=p6.mp hx
  rw[S8]at hj
  split at hj
  ·rename_i hlt'
   exact ltY j x hlt' hj
  ·cases hj
 have sS1:∀ x∈((m8 st).extract (sa+k) sb).toList,x∈a₀.toList:=fun x hx=>by
  rw[ex1]at hx
  refine inS x ?_
  rw[harr]
  exact m9 _ (G8 _ (P7 hx))
 have sS2:∀ x∈((m8 st).extract sb (sb+k2)).toList,x∈a₀.toList:=fun x hx=>by
  rw[ey1]at hx
  refine inS x ?_
  rw[harr]
  exact m9 _ (m9 _ (G8 _ (G9 hx)))
 have so1:((m8 st).extract (sa+k) sb).toList.Pairwise (le B):=by rw[ex1];exact okR.2.sublist (ab2 _ _)
 have so2:((m8 st).extract sb (sb+k2)).toList.Pairwise (le B):=by rw[ey1];exact okR'.2.sublist (K3 _ _)
 have done:∀ (r:Array Keyed) (st3:SortSt),Sm (bF9 st (((C6 st).setIfInBounds i (sa,na+nb,pw)).eraseIdxIfInBounds (i+1))) st3->Good B ((m8 st).extract (sa+k) sb) ((m8 st).extract sb (sb+k2)) r ->
   wpS (x8 prog w) A E s (do
    modify fun s=>setArr s (ae9 (fun a x=>match x with | (p,j)=>bG3 a (sa+k+j) p) (m8 s) r.toList.zipIdx)
    let __do_lift <- get
    pure (P5 __do_lift).isNone) Q st3:=fun r st3 hS hg=>by
  refine j9 (aA0 (j9 (az1 (m5 ?_))))
  have hf:P5 st3=none:=hS.f.trans I.failed
  show Q (P5 st3).isNone _
  rw[hf]
  obtain⟨g1,g2⟩:=hg
  rw[ex1,ey1]at g2
  have hrl:r.toList.length=na - k+k2:=by rw[g2.length_eq,m6,E7,o8];omega
  refine fin _ (R.take k++(r.toList++R'.drop k2)) (hS.k.trans I.kind) hf hS.p ?_ ?_ ?_
  ·show (ae9 _ (m8 st3) (r.toList.zipIdx 0)).toList=_
   rw[hS.a]
   show (ae9 _ (m8 st) (r.toList.zipIdx 0)).toList=_
   rw[bb2 (sa+k) r.toList 0 (m8 st) (by omega),harr,aS9,hrl]
   have t1:bc4 (sa+k) (r1.flatten++(R++(R'++(r2.flatten++suf))))=r1.flatten++R.take k:=by
    rw[cd1,j7 (by omega),show sa+k - r1.flatten.length=k by omega,ac9 (by omega)]
   have t2:List.drop (sa+k+(na - k+k2)) (r1.flatten++(R++(R'++(r2.flatten++suf))))=R'.drop k2++(r2.flatten++suf):=by
    rw[ac8,K1 (by omega),Q1,ac8,K1 (by omega),Q1,aT0 (by omega)]
    congr 2
    omega
   rw[t1,t2]
   simp
  ·have:(R.take k++(r.toList++R'.drop k2)).Perm (R.take k++((R.drop k++R'.take k2)++R'.drop k2)):=List.Perm.append_left _ (List.Perm.append_right _ g2)
   refine this.trans (List.Perm.of_eq ?_)
   rw[C3,C4,<- C3,C4]
  ·have inM:∀ z∈r.toList,z∈R.drop k\/z∈R'.take k2:=fun z hz=>A7.mp (g2.mem_iff.mp hz)
   have tk:∀ {l:List Keyed} {n:Nat} {x:Keyed},x∈l.take n->∃ j,j<n/\l[j]?=some x:=fun {l n x} hx=>by
    obtain⟨j,hj⟩:=p6.mp hx
    rw[S8]at hj
    split at hj
    ·rename_i hlt'
     exact⟨j,hlt',hj⟩
    ·cases hj
   refine A5.mpr ⟨okR.2.sublist (K3 _ _),A5.mpr ⟨g1,okR'.2.sublist (ab2 _ _),fun x hx y hy=>?_⟩,fun x hx y hy=>?_⟩
   ·obtain⟨j,h1,h2,h3⟩:=J5 hy
    rcases inM x hx with hx | hx
    ·exact o.trans (leX x (P7 hx)) (geY j y h1 h3)
    ·obtain⟨i',h4,h5⟩:=tk hx
     exact af9 okR'.2 o.rf (by omega) h5 h3
   ·obtain⟨i',h4,h5⟩:=tk hx
    rcases A7.mp hy with hy | hy
    ·rcases inM y hy with hy | hy
     ·obtain⟨j,h1,h2,h3⟩:=J5 hy
      exact af9 okR.2 o.rf (by omega) h5 h3
     ·exact o.trans (leR i' x h4 h5) (leY y (G9 hy))
    ·exact o.trans (leR i' x h4 h5) (leY y (P7 hy))
 by_cases e2:na - k<=k2
 ·rw[if_pos e2]
  exact j9 (aU3 o C (by exact I.kind) sS1 sS2 so1 so2 (by omega) (by omega) pre1 pre2 fun r st3 hS hg=>done r st3 hS hg)
 ·rw[if_neg e2]
  exact j9 (aU4 o C (by exact I.kind) sS1 sS2 so1 so2 (by omega) (by omega) pre1 pre2 fun r st3 hS hg=>done r st3 hS hg)
theorem aX7 {runs:List (List Keyed)}{suf:List Keyed}{st:SortSt}(I:SR a₀ κ B runs suf st):(C6 st).size=runs.length:=by
 have:=congrArg ap2 I.sh
 rw[ad7]at this
 unfold shape at this
 rw[b8,l4]at this
 exact this
theorem bj8:∀ (runs:List (List Keyed)),(∀ r∈runs,r≠[]/\r.Pairwise (le B))->runs.length<=runs.flatten.length
 | [],_=>c8 _
 | r::rs,h=>by
  have h1:=bj8 rs fun r hr=>h r (c7 _ hr)
  have h2:0<r.length:=az6.mpr (h r c9).1
  rw[o4,Q0,m6]
  omega
section
variable {O:aN3} {f:Keyed->O.α}
theorem bX2 {d:O.α}{xs:Array Keyed}{lo:Nat}(hs:V9 f d lo xs n)(hn:lo+n<=xs.size):((xs.toList.drop lo).take n).Pairwise (le (Bf f))/\((xs.toList.drop lo).take n).length=n:=by
 refine⟨A2.mpr fun i j hi hj hij=>?_,by rw[o8,E7,l4];omega⟩
 have hjn:j<n:=by rw[o8]at hj;omega
 have gi:∀ k,(hk:k<n)->(xs.toList.drop lo)[k]?=some (xs[lo+k]'(by omega)):=fun k hk=>by
  rw[S7,d9]
  exact getElem?_pos xs _ _
 have e1:((xs.toList.drop lo).take n)[i]=xs[lo+i]'(by omega):=by
  have:=gi i (by omega)
  rw[<- X1 (show i<n by omega),k9 hi]at this
  exact Option.some.inj this
 have e2:((xs.toList.drop lo).take n)[j]=xs[lo+j]'(by omega):=by
  have:=gi j hjn
  rw[<- X1 hjn,k9 hj]at this
  exact Option.some.inj this
 rw[e1,e2]
 have:=hs i j (au7 hij) hjn
 rw[aC2 (getElem?_pos xs (lo+i) (by omega)),aC2 (getElem?_pos xs (lo+j) (by omega))]at this
 exact this
theorem aU9 {lo:Nat}{xs ys:Array Keyed}(h:Pre lo xs ys)(hz:ys.size=xs.size):ys.toList.take lo=xs.toList.take lo:=by
 apply Q2
 intro k
 rw[S8,S8]
 split
 ·rw[d9,d9]
  exact h k (by assumption)
 ·rfl
theorem ax9 (C:bO9 prog w A E s κ a₀ f) {st:SortSt} {Q:Unit->SortSt->Prop} (d:O.α) (hp:(m8 st).Perm a₀) (hk:kindOf st=κ) (hf:P5 st=none) (hpe:C6 st=#[])
    (h:∀ st',(m8 st').Perm a₀->P5 st'=none->(m8 st').toList.Pairwise (le (Bf f))->Q () st'):wpS (x8 prog w) A E s sortRuns' Q st:=by
  have o:Ord (Bf f):=Bf.ord f
  have hsz:(m8 st).size=a₀.size:=hp.size_eq
  rw[sortRuns'_eq]
  refine j9 (az1 ?_)
  dsimp only
  rw[hsz]
  refine j9 (Y6 (F2
    (I:=fun x c st'=>∃ runs suf lo,c=(none,lo)/\SR a₀ κ (Bf f) runs suf st'/\lo=runs.flatten.length/\(x<=lo\/lo=a₀.size)/\lo<=a₀.size)
    (Q:=fun c st'=>∃ runs,c=(none,a₀.size)/\SR a₀ κ (Bf f) runs [] st') ?step ?fin
    ⟨[],(m8 st).toList,0,rfl,⟨hp,hk,hf,by rw[hpe];rfl,(fun _ hr=>nomatch hr),by simp⟩,rfl,.inl (c8 _),v9 _⟩) ?post)
  case fin =>
    rintro c st' ⟨runs,suf,lo,rfl,I,h1,h2,h3⟩
    have e:lo=a₀.size:=by omega
    have hl:=congrArg ap2 I.arr
    rw[l4,I.perm.size_eq,m6]at hl
    have:suf=[]:=aT1 (by omega)
    subst this
    exact⟨runs,by rw[e],I⟩
  case step =>
    rintro x c st1 _ hx ⟨runs,suf,lo,rfl,I,h1,h2,h3⟩
    dsimp only
    by_cases hge:lo≥a₀.size
    · rw[if_pos hge]
      have e:lo=a₀.size:=by omega
      have hl:=congrArg ap2 I.arr
      rw[l4,I.perm.size_eq,m6]at hl
      have:suf=[]:=aT1 (by omega)
      subst this
      exact m5 ⟨runs,by rw[e],I⟩
    rw[if_neg hge]
    refine j9 (wpS_countRun C d (p:=C6 st1) (by omega) (by omega) ⟨I.perm,I.kind,I.failed,rfl⟩ fun n st2 hB2 hp2 hn1 hn2 hs2=>?_)
    dsimp only
    have cont:∀ (n':Nat) (st3:SortSt),SI a₀ κ (C6 st1) st3->Pre lo (m8 st1) (m8 st3)->1<=n'->n'<=a₀.size - lo->V9 f d lo (m8 st3) n' ->
        ∃ run suf',SR a₀ κ (Bf f) runs (run++suf') st3/\run.length=n'/\run.Pairwise (le (Bf f)):=fun n' st3 hB3 hp3 k1 k2 hs3=>by
      obtain⟨q1,q2⟩:=bX2 hs3 (by rw[hB3.size];omega)
      refine⟨((m8 st3).toList.drop lo).take n',(m8 st3).toList.drop (lo+n'),⟨hB3.perm,hB3.kind,hB3.failed,by rw[hB3.pend];exact I.sh,I.ok,?_⟩,q2,q1⟩
      rw[<- ar7]
      refine(C4 lo (m8 st3).toList).symm.trans ?_
      congr 1
      rw[aU9 hp3 (by rw[hB3.size,I.perm.size_eq]),I.arr,h1]
      exact List.take_left
    have more:∀ (rs:List (List Keyed)) (run suf':List Keyed) (n':Nat) (st3:SortSt),SR a₀ κ (Bf f) rs (run++suf') st3->rs.flatten.length=lo->run.length=n'->run.Pairwise (le (Bf f))->1<=n'->n'<=a₀.size - lo ->
        ∃ runs suf lo',((none,lo+n'):Option Unit × Nat)=(none,lo')/\SR a₀ κ (Bf f) runs suf (bF9 st3 ((C6 st3).push (lo,n',0)))/\lo'=runs.flatten.length/\(x+1<=lo'\/lo'=a₀.size)/\lo'<=a₀.size:=fun rs run suf' n' st3 I3 e1 e2 e3 k1 k2=>by
      refine⟨rs++[run],suf',lo+n',rfl,⟨I3.perm,I3.kind,I3.failed,?_,fun r hr=>?_,?_⟩,by simp[e1,e2],by omega,by omega⟩
      · show shape ((C6 st3).push (lo,n',0)).toList=_
        rw[aa2,ad8,<- I3.sh]
        unfold shape
        rw[k8,O8,e1]
        simp[at4,e2]
      · rcases A7.mp hr with hr | hr
        · exact I3.ok r hr
        · rw[B5.mp hr]
          exact⟨by intro z;rw[z]at e2;simp at e2;omega,e3⟩
      · show (m8 st3).toList=_
        rw[I3.arr]
        simp
    by_cases hlt:n<minRun' a₀.size a₀.size 0
    all_goals first
      | (rw [if_pos hlt]
         refine j9 (af0 ?_)
         refine j9 (az2 C d (by omega) (by omega) hB2 hs2 fun st3 hB3 hp3 hs3=>?_)
         simp only[U6,m7,if_false]
         obtain⟨run,suf',I3,e2,e3⟩:=cont _ st3 hB3 (hp2.trans hp3) (by omega) (by omega) hs3
         have k1:1<=min (a₀.size - lo) (minRun' a₀.size a₀.size 0):=by omega
         have k2:min (a₀.size - lo) (minRun' a₀.size a₀.size 0)<=a₀.size - lo:=by omega
         revert e2 k1 k2
         generalize min (a₀.size - lo) (minRun' a₀.size a₀.size 0)=n'
         intro e2 k1 k2)
      | (rw [if_neg hlt]
         obtain⟨run,suf',I3,e2,e3⟩:=cont n st2 hB2 hp2 hn1 hn2 hs2
         have k1:1<=n:=hn1
         have k2:n<=a₀.size - lo:=hn2
         revert e2 k1 k2
         generalize n=n'
         intro e2 k1 k2)
    all_goals
      refine j9 (az1 ?_)
      split
      ·
        rename_i s1 n1 pw1 hback
        refine j9 (Y6 (F2
          (I:=fun _ c st'=>c=(none,())/\∃ rs,SR a₀ κ (Bf f) rs (run++suf') st'/\rs.flatten.length=lo)
          (Q:=fun c st'=>c=(none,())/\∃ rs,SR a₀ κ (Bf f) rs (run++suf') st'/\rs.flatten.length=lo) ?mstep (fun _ _ q=>q) ⟨rfl,runs,I3,h1.symm⟩) ?mpost)
        case mstep =>
          rintro y c st4 _ _ ⟨rfl,rs,I4,e4⟩
          refine j9 (az1 ?_)
          try dsimp only
          by_cases hz:(C6 st4).size > 1
          · rw[if_pos hz]
            split
            · split
              · exact m5 ⟨rfl,rs,I4,e4⟩
              · refine j9 (ay0 o C I4 (by rw[<- aX7 I4];omega) fun rs' st5 I5 _ e5=>?_)
                simp only[U6,m7,if_false]
                exact m5 ⟨rfl,rs',I5,e5.trans e4⟩
            · exact m5 ⟨rfl,rs,I4,e4⟩
          · rw[if_neg hz]
            exact m5 ⟨rfl,rs,I4,e4⟩
        case mpost =>
          rintro c st4 ⟨rfl,rs,I4,e4⟩
          try dsimp only
          refine j9 (aA0 ?_)
          have I5:SR a₀ κ (Bf f) rs (run++suf') (bF9 st4 ((C6 st4).modify ((C6 st4).size - 1) fun x=>match x with | (st,len,snd)=>(st,len,power' a₀.size (2*s1+n1) (2*s1+n1+n1+n') a₀.size))):=by
            refine⟨I4.perm,I4.kind,I4.failed,?_,I4.ok,I4.arr⟩
            rw[<- I4.sh]
            show shape ((C6 st4).modify _ _).toList=_
            rw[Array.toList_modify]
            unfold shape
            apply Q2
            intro k
            rw[p8,p8,List.getElem?_modify]
            cases (C6 st4).toList[k]? with
            | none=>rfl
            | some v =>
              obtain⟨v1,v2,v3⟩:=v
              simp only[Option.map_some]
              split<;>rfl
          exact j9 (aA0 (m5 (more rs run suf' n' _ I5 e4 e2 e3 k1 k2)))
      · exact j9 (aA0 (m5 (more runs run suf' n' _ I3 h1.symm e2 e3 k1 k2)))
  case post =>
    rintro c st1 ⟨runs,rfl,I⟩
    try dsimp only
    refine j9 (Y6 (F2
      (I:=fun x c st'=>c=(none,())/\∃ rs,SR a₀ κ (Bf f) rs [] st'/\(rs.length+x<=a₀.size\/rs.length<=1))
      (Q:=fun c st'=>c=(none,())/\∃ rs,SR a₀ κ (Bf f) rs [] st'/\rs.length<=1) ?fstep ?ffin ⟨rfl,runs,I,.inl ?fst⟩) ?fpost)
    case fst =>
      have h1:=bj8 runs I.ok
      have hl:=congrArg ap2 I.arr
      rw[l4,I.perm.size_eq,D9]at hl
      omega
    case ffin =>
      rintro c st' ⟨rfl,rs,I',q⟩
      exact⟨rfl,rs,I',by omega⟩
    case fstep =>
      rintro x c st2 _ hx ⟨rfl,rs,I2,q⟩
      refine j9 (az1 ?_)
      try dsimp only
      have hpl:=aX7 I2
      by_cases hz:(C6 st2).size<=1
      · rw[if_pos hz]
        exact m5 ⟨rfl,rs,I2,by omega⟩
      rw[if_neg hz]
      refine j9 (ay0 o C I2 ?_ fun rs' st3 I3 e3 _=>?_)
      · (repeat' split)<;>omega
      · simp only[U6,m7,if_false]
        exact m5 ⟨rfl,rs',I3,by omega⟩
    case fpost =>
      rintro c st2 ⟨rfl,rs,I2,q⟩
      refine m5 (h st2 I2.perm I2.failed ?_)
      rw[I2.arr,D9]
      match rs,I2.ok,q with
      | [],_,_=>exact List.Pairwise.nil
      | [r],ok,_=>simpa using (ok r (by simp)).2
end
end Tim
namespace Tim
open PySem PyProof.Rows PySem.W
def M4:List Int->List Int->Bool
 | [],[]=>false
 | [],_::_=>true
 | _::_,[]=>false
 | a::x,b::y=>if a=b then M4 x y else decide (a<b)
theorem aZ9:∀ x,M4 x x=false
 | []=>rfl
 | a::x=>by unfold M4;rw[if_pos rfl];exact aZ9 x
theorem aQ7:∀ x y z,M4 x y=true->M4 y z=true->M4 x z=true
 | [],[],z,h,_=>by cases h
 | [],_::_,[],_,h=>by cases h
 | [],_::_,_::_,_,_=>rfl
 | _::_,[],z,h,_=>by cases h
 | _::_,_::_,[],_,h=>by cases h
 | a::x,b::y,c::z,h1,h2=>by
  unfold M4 at h1 h2 ⊢
  by_cases e1:a=b
  ·subst e1
   rw[if_pos rfl]at h1
   by_cases e2:a=c
   ·rw[if_pos e2]at h2 ⊢
    exact aQ7 x y z h1 h2
   ·rw[if_neg e2]at h2 ⊢
    exact h2
  ·rw[if_neg e1,decide_eq_true_eq]at h1
   by_cases e2:b=c
   ·subst e2
    rw[if_neg e1,decide_eq_true_eq]
    exact h1
   ·rw[if_neg e2,decide_eq_true_eq]at h2
    rw[if_neg (by omega),decide_eq_true_eq]
    omega
theorem aF3:∀ x y,M4 x y=false->M4 y x=false->x=y
 | [],[],_,_=>rfl
 | [],_::_,h,_=>by cases h
 | _::_,[],_,h=>by cases h
 | a::x,b::y,h1,h2=>by
  unfold M4 at h1 h2
  by_cases e:a=b
  ·subst e
   rw[if_pos rfl]at h1 h2
   rw[aF3 x y h1 h2]
  ·rw[if_neg e,decide_eq_false_iff_not]at h1
   rw[if_neg (Ne.symm e),decide_eq_false_iff_not]at h2
   omega
theorem bM3 (x y z:List Int)(h:M4 x z=true):M4 x y=true\/M4 y z=true:=by
 cases e1:M4 x y with
 | true=>exact .inl rfl
 | false =>
  cases e2:M4 y x with
  | true=>exact .inr (aQ7 _ _ _ e2 h)
  | false=>rw[aF3 x y e1 e2]at h;exact .inr h
def bg4:aN3:=⟨List Int,M4,aZ9,aQ7,bM3,aF3⟩
def IsK (prog:Program)(w:World)(h:Heap)(k:List Int)(v:Value):Prop:=∃ a,v=.ref a/\M6 (B7 prog w) h k a
theorem IsK.inj (x:IsK prog w h k v)(y:IsK prog w h k' v):k=k':=by
 obtain⟨a,rfl,h1⟩:=x
 obtain⟨b,e,h2⟩:=y
 cases e
 exact h1.inj h2
open Classical in
noncomputable def W9 (prog:Program)(w:World)(h:Heap)(v:Value):List Int:=if q:∃ k,IsK prog w h k v then Classical.choose q else []
theorem V7 (x:IsK prog w h k v):W9 prog w h v=k:=by
 unfold W9
 rw[dif_pos ⟨k,x⟩]
 exact(Classical.choose_spec (⟨k,x⟩:∃ k,IsK prog w h k v)).inj x
theorem IsK.up (x:IsK prog w h k v)(hs:∀ b o,h.get? b=some o->h'.get? b=some o):IsK prog w h' k v:=by
 obtain⟨a,e,o,items,n,h2,h3⟩:=x
 exact⟨a,e,o,items,n,hs a o h2,h3⟩
theorem aK6 {b:Bool}{Q:Bool->Shared->Prop}(hb:b=true):∀ (x y:List Int) (vs us:List Value) (i:Nat) (fin:Bool),ItemsAre (B7 prog w) x vs->ItemsAre (B7 prog w) y us->(x.length<y.length↔fin=true)->Q (M4 x y) s->KatLex prog w A b fin Q (vs.zip us) i s
 | [],[],_,_,i,fin,.nil,.nil,hf,h=>by
  have:fin=false:=by cases fin with | false=>rfl | true=>exact absurd (hf.mpr rfl) (by simp)
  subst this
  exact kat_nil h
 | [],_::_,_,_,i,fin,.nil,.cons _ _,hf,h=>by
  have:fin=true:=hf.mp (by simp)
  subst this
  exact kat_nil h
 | _::_,[],_,_,i,fin,.cons _ _,.nil,hf,h=>by
  have:fin=false:=by cases fin with | false=>rfl | true=>exact absurd (hf.mpr rfl) (by simp)
  subst this
  exact kat_nil h
 | a::x,c::y,_,_,i,fin,.cons h1 t1,.cons h2 t2,hf,h=>by
  obtain⟨t,rfl⟩:=Value.isInt_shape h1
  obtain⟨u,rfl⟩:=Value.isInt_shape h2
  rw[aH9]
  refine kat_cons (wpAny_eqBool_int ?_)
  unfold M4 at h
  by_cases e:a=c
  ·subst e
   rw[if_pos rfl]at h
   rw[show (a == a)=true by simp]
   exact kat_yes (aK6 hb x y _ _ (i+1) fin t1 t2 (by rw[<- hf];simp) h)
  ·rw[if_neg e]at h
   rw[show (a == c)=false by simpa using e]
   refine kat_no ?_
   cases hi:(b && i == 0) with
   | true=>exact oneLt_int h
   | false=>exact kat_one _ _ (lt_int h)
theorem aZ8 {x y:Value}{Q:Bool->Shared->Prop}(hx:IsK prog w s.heap k x)(hy:IsK prog w s.heap k' y)(h:Q (M4 k k') s):p9 (x8 prog w) A (keyLt' (bG8 true) x y) Q E s:=by
 obtain⟨a,rfl,o,xs,n,ho,hc,hd,hi⟩:=hx
 obtain⟨b,rfl,o',ys,n',ho',hc',hd',hi'⟩:=hy
 refine kat_lt ho hd ho' hd' (aK6 rfl k k' _ _ 0 _ hi hi' ?_ h)
 have e1:k.length=xs.size:=by have:=hi.length;simpa using this
 have e2:k'.length=ys.size:=by have:=hi'.length;simpa using this
 rw[e1,e2]
 simp
theorem aF4 {Q:SortKind->Shared->Prop}(hne:0<vs.length)(hv:∀ v∈vs,∃ i k,IsK prog w s.heap (i::k) v)(h:Q (bG8 true) s):p9 (x8 prog w) A (keyKind' vs.toArray) Q E s:=by
 have ex:∀ l:List Value,(∀ v∈l,∃ i k,IsK prog w s.heap (i::k) v)->∃ fs:List Value,KatTups s.heap l fs/\fs.length=l.length/\∀ v∈fs,∃ i t,v=.int i t:=fun l=>by
  induction l with
  | nil=>intro _;exact⟨[],KatTups.nil,rfl,(fun _ h=>nomatch h)⟩
  | cons v l ih =>
   intro hl
   obtain⟨i,k,a,rfl,o,xs,n,ho,hc,hd,hi⟩:=hl v c9
   obtain⟨fs,f1,f2,f3⟩:=ih fun v hv=>hl v (c7 _ hv)
   obtain⟨f,hf,t,rfl⟩:∃ f,xs[0]?=some f/\∃ t,f=.int i t:=by
    cases e:xs.toList with
    | nil=>rw[e]at hi;cases hi
    | cons f r =>
     rw[e]at hi
     cases hi with
     | cons h1 _ =>
      obtain⟨t,et⟩:=Value.isInt_shape h1
      exact⟨f,by rw[<- d9,e];rfl,t,et⟩
   refine⟨.int i t::fs,KatTups.cons ho hc hd hf f1,by rw[o4,f2,o4],fun v hv=>?_⟩
   rcases d8.mp hv with rfl | hv
   ·exact⟨i,t,rfl⟩
   ·exact f3 v hv
 obtain⟨fs,f1,f2,f3⟩:=ex vs hv
 refine kat_kind (T:=.type "int") f1 (by omega) (fun v hv=>?_) (by decide) ?_
 ·obtain⟨i,t,rfl⟩:=f3 v hv
  exact .now
 ·exact h
theorem bp1 {P:PySem.Fin->Shared->Prop}(ho:s.heap.get? a=some (J4 "list" vs.toArray n))(hz:vs.length<=j8)
  (hv:∀ v∈vs,∃ i k,IsK prog w s.heap (i::k) v)(hna:∀ v∈vs,v≠.ref a)
  (h:∀ out:List Value,out.Perm vs->out.Pairwise (fun x y=>M4 (W9 prog w s.heap y) (W9 prog w s.heap x)=false)->P (.done (.ret .none)) { s with heap:=aq5 s.heap a vs out.toArray }) :
  p9 (x8 prog w) A (Builtin.«list.sort» ⟨[.ref a],[]⟩) P E s:=by
 rw[list_sort_plain]
 have ha:a<s.heap.objs.size:=d6 ho
 refine b7 (bT6 ho rfl ?_)
 refine b7 (ah0 ho rfl ?_ (by rw[d7];exact hz) (v9 _))
 obtain⟨e1,ho1⟩:∃ e1,(s.heap.update a (Obj.mapSeq fun _=>#[])).get? a=some (J4 "list" #[] e1):=⟨_,aa3 ho (fun _=>#[])⟩
 refine b7 (bo2 ho1 rfl ?_)
 refine b7 (bt6 ?_ (by show vs.length<=_;exact hz))
 refine b7 (V1 ?_ (v9 _))
 refine C9 ?_
 generalize hH:((s.heap.update a (Obj.mapSeq fun _=>#[])).push (J4 "tuple" vs.toArray 0)).push (J4 "list" #[] 0)=h6
 have ho6:h6.get? a=some (J4 "list" #[] e1):=by rw[<- hH];exact c5 _ (c5 _ ho1)
 have keep:∀ b o,b≠a->s.heap.get? b=some o->h6.get? b=some o:=fun b o hb e=>by
  rw[<- hH]
  exact c5 _ (c5 _ ((B8 s.heap _ (Ne.symm hb)).trans e))
 have up:∀ v∈vs,∀ k,IsK prog w s.heap k v->IsK prog w h6 k v:=fun v hv' k hk=>by
  obtain⟨c,rfl,o,items,n,h2,h3⟩:=hk
  exact⟨c,rfl,o,items,n,keep c o (fun z=>hna _ hv' (by rw[z])) h2,h3⟩
 have fin:∀ st':SortSt,(m8 st').Perm (cd9 vs)->(m8 st').toList.Pairwise (le (Bf (O:=bg4) fun p=>W9 prog w s.heap p.1))->P (.done (.ret .none)) { s with heap:=aq5 s.heap a vs ((m8 st').map (·.2)) }:=fun st' hp hs=>by
  have hl:(m8 st').toList.Perm (vs.zip vs):=by rw[<- pairsOf_toList];exact O0.mp hp
  have hm:((m8 st').map (·.2)).toList=(m8 st').toList.map (·.2):=cc4 ..
  have hz2:(vs.zip vs).map (·.2)=vs:=List.map_snd_zip (c8 _)
  have:=h ((m8 st').toList.map (·.2)) (by have:=hl.map (·.2);rw[hz2]at this;exact this) ?_
  ·rw[show (m8 st').map (·.2)=((m8 st').toList.map (·.2)).toArray by rw[<- hm]]
   exact this
  ·rw[F5]
   refine List.Pairwise.imp_of_mem ?_ hs
   intro x y hx hy hxy
   have ex:=(an2 (hl.mem_iff.mp hx)).1
   have ey:=(an2 (hl.mem_iff.mp hy)).1
   rw[<- ex,<- ey]
   exact hxy
 have out:∀ st':SortSt,(m8 st').Perm (cd9 vs)->P5 st'=none->(m8 st').toList.Pairwise (le (Bf (O:=bg4) fun p=>W9 prog w s.heap p.1)) ->
   p9 (x8 prog w) A (do
    let sorted:=(m8 st').map (·.2)
    let touched:=(<- seqEpoch a) != e1
    Builtin.List.listUpdate (.ref a) fun _=>sorted
    if let some e:=P5 st' then rule "list.sort.comparison-raised";throw e
    if touched then rule "list.sort.modified";raiseError "ValueError" "list modified during sort"
    ret .none) P E { s with heap:=h6 }:=fun st' hp hf hs=>by
  dsimp only
  refine b7 (bo2 (s:={ s with heap:=h6 }) ho6 rfl ?_)
  refine b7 (ah0 (s:={ s with heap:=h6 }) ho6 rfl ?_ (v9 _) (by refine A8 (ak4 ((aj1 ..).trans (hp.size_eq.trans (pairsOf_size _)))) ?_;omega))
  rw[hf]
  simp only[bne_self_eq_false,m7,if_false]
  refine d4 ?_
  have:=fin st' hp hs
  unfold aq5 at this
  rw[hH]at this
  exact this
 show p9 (x8 prog w) A _ P E { s with heap:=h6 }
 dsimp only
 by_cases h2:vs.toArray.size<2
 ·rw[if_pos h2,if_pos h2]
  refine b7 (d4 ?_)
  rw[StateT.run_pure]
  refine b7 (d4 ?_)
  refine out (SortSt.mk' general' (vs.toArray.zip vs.toArray) #[] 7 none) (Array.Perm.refl _) rfl ?_
  show (cd9 vs).toList.Pairwise _
  rw[A2]
  intro i j hi hj hij
  rw[l4,pairsOf_size]at hj
  rw[d7]at h2
  omega
 ·rw[if_neg h2,if_neg h2]
  rw[d7]at h2
  refine b7 (aF4 (s:={ s with heap:=h6 }) (by omega) (fun v hv'=>?_) ?_)
  ·obtain⟨i,k,hk⟩:=hv v hv'
   exact⟨i,k,up v hv' _ hk⟩
  refine b7 (E3 (ax9 (s:={ s with heap:=h6 }) (a₀:=cd9 vs) (κ:=bG8 true) (O:=bg4) (f:=fun p=>W9 prog w s.heap p.1) (st:=SortSt.mk' (bG8 true) (vs.toArray.zip vs.toArray) #[] 7 none)
   (Q:=fun _ st'=>(m8 st').Perm (cd9 vs)/\P5 st'=none/\(m8 st').toList.Pairwise (le (Bf (O:=bg4) fun p=>W9 prog w s.heap p.1))) ?_ ([]:List Int) (Array.Perm.refl _) rfl rfl rfl fun st' a1 a2 a3=>⟨a1,a2,a3⟩) ?_ fun _ _ e=>e)
  ·intro x y hx hy Q hq
   rw[pairsOf_toList]at hx hy
   obtain⟨i,k,hk⟩:=hv x.1 (an2 hx).2
   obtain⟨j,k',hk'⟩:=hv y.1 (an2 hy).2
   refine aZ8 (s:={ s with heap:=h6 }) (up _ (an2 hx).2 _ hk) (up _ (an2 hy).2 _ hk') ?_
   rw[<- V7 hk,<- V7 hk']
   exact hq
  ·rintro⟨⟨⟩,st'⟩ s' ⟨rfl,hp,hf,hs⟩
   exact out st' hp hf hs
theorem aI8 {l:Addr} (hl:s.heap.IsList l vs.toArray) (hz:vs.length<=j8) (hv:∀ v∈vs,∃ i k,IsK prog w s.heap (i::k) v)
  (h : ∀ (out : List Value) (h' : Heap) (n : Nat), out.Perm vs -> out.Pairwise (fun x y => M4 (W9 prog w s.heap y) (W9 prog w s.heap x) = false) -> (∀ b o, s.heap.get? b = some o -> h'.get? b = some o) ->
   h'.get? (s.heap.objs.size+1)=some { cls:=.type "list",data:=.seq out.toArray n }->Q (.ref (s.heap.objs.size+1)) { s with heap:=h' }) :
  p9 (x8 prog w) A (call (.builtin "sorted") [.ref l]) Q E s:=by
 refine Calls.call_function_entry ce0 bT7 bT8 (args_sorted1 _) ?_
 unfold Builtin.«sorted»
 refine b7 (m:=checkCount "sorted" 1 1 _) (d4 ?_)
 refine b7 (collect_list hl ?_ hz)
 refine b7 (V1 ?_ hz)
 have hsz:((s.heap.push (J4 "list" #[] 0)).update s.heap.objs.size (Obj.mapSeq (·++vs.toArray))).objs.size=s.heap.objs.size+1:=by
  rw[cd2,bG0]
 generalize hH:((s.heap.push (J4 "list" #[] 0)).update s.heap.objs.size (Obj.mapSeq (·++vs.toArray))).push (J4 "list" vs.toArray 0)=h2
 have hoL:h2.get? (s.heap.objs.size+1)=some (J4 "list" vs.toArray 0):=by
  rw[<- hH,<- hsz];exact l5 _ rfl
 have keep:∀ b o,s.heap.get? b=some o->h2.get? b=some o:=fun b o e=>by
  rw[<- hH]
  refine c5 _ ((B8 _ _ ?_).trans (c5 _ e))
  exact Ne.symm (l6 (d6 e))
 have hsz2:h2.objs.size=s.heap.objs.size+2:=by rw[<- hH,bG0,hsz]
 rw[hsz]
 have up:∀ v k,IsK prog w s.heap k v->IsK prog w h2 k v:=fun v k hk=>hk.up keep
 have kA:∀ v∈vs,W9 prog w h2 v=W9 prog w s.heap v:=fun v hv'=>by
  obtain⟨i,k,hk⟩:=hv v hv'
  rw[V7 hk,V7 (up v _ hk)]
 refine b7 (C9 (Y5 bt7 (s:={ s with heap:=h2 }) ⟨_,hoL,rfl⟩ bo3 (bp1 (s:={ s with heap:=h2 }) hoL hz (fun v hv'=>?_) (fun v hv' z=>?_) fun out a1 a2=>⟨_,rfl,?_⟩) (args_list_sort _)))
 ·obtain⟨i,k,hk⟩:=hv v hv'
  exact⟨i,k,up v _ hk⟩
 ·obtain⟨i,k,a,rfl,o,items,n,ho,_⟩:=hv v hv'
  cases z
  exact absurd (d6 ho) (Nat.not_lt.mpr (P3 _))
 ·have hlast:∃ n,(aq5 h2 (s.heap.objs.size+1) vs out.toArray).get? (s.heap.objs.size+1)=some (J4 "list" out.toArray n):=by
   unfold aq5
   have g1:=aa3 hoL (fun _=>(#[]:Array Value))
   have g2:(((h2.update (s.heap.objs.size+1) (Obj.mapSeq fun _=>#[])).push (J4 "tuple" vs.toArray 0)).push (J4 "list" #[] 0)).get? (s.heap.objs.size+1)=_:=c5 _ (c5 _ g1)
   exact⟨_,aa3 g2 (fun _=>out.toArray)⟩
  obtain⟨n,hn⟩:=hlast
  refine d4 ⟨_,rfl,h out _ n a1 ?_ (fun b o e=>?_) hn⟩
  ·refine List.Pairwise.imp_of_mem ?_ a2
   intro x y hx hy hxy
   rw[kA x (a1.mem_iff.mp hx),kA y (a1.mem_iff.mp hy)]at hxy
   exact hxy
  ·have hb:b≠s.heap.objs.size+1:=l6 (E1 (d6 e))
   unfold aq5
   refine(B8 _ _ (Ne.symm hb)).trans (c5 _ (c5 _ ((B8 _ _ (Ne.symm hb)).trans (keep b o e))))
end Tim
namespace Sett
open PySem PySem.SetTable
theorem bh3 {P:Nat->Prop}(h:∃ n,P n):∃ n,P n/\∀ m,m<n->¬ P m:=by
 obtain⟨n,hn⟩:=h
 induction n using Nat.strongRecOn with
 | ind n ih =>
  by_cases q:∃ m,m<n/\P m
  ·obtain⟨m,hm,pm⟩:=q
   exact ih m hm pm
  ·exact⟨n,hn,fun m hm pm=>q ⟨m,hm,pm⟩⟩
def st (m i pt:Nat):Probe:={ j:=i,more:=runEnd m i - i,i:=i,perturb:=pt,dummy:=none }
def it (t:SetTable):Nat->Probe->Probe
 | 0,p=>p
 | n+1,p=>it t n (t.advance p)
theorem aR4 (t:SetTable):∀ (a b:Nat) (p:Probe),it t (a+b) p=it t b (it t a p)
 | 0,b,p=>by rw[O8];rfl
 | a+1,b,p=>by
  rw[show a+1+b=(a+b)+1 by omega]
  exact aR4 t a b (t.advance p)
theorem ao4 (t:SetTable)(n:Nat)(p:Probe):it t (n+1) p=t.advance (it t n p):=aR4 t n 1 p
theorem aw1 (m i:Nat):i<=runEnd m i/\runEnd m i<=i+9:=by unfold runEnd;split<;>omega
theorem aX1 {m:Nat}(h:i<=m):runEnd m i<=m:=by unfold runEnd;split<;>omega
theorem aR2 (t:SetTable)(i pt:Nat):∀ k,k<=runEnd t.mask i - i->it t k (st t.mask i pt)={ j:=i+k,more:=runEnd t.mask i - i - k,i:=i,perturb:=pt,dummy:=none }
 | 0,_=>rfl
 | k+1,h=>by
  rw[ao4,aR2 t i pt k (by omega)]
  unfold advance
  dsimp only
  rw[if_pos (by omega)]
  simp only[Probe.mk.injEq,and_true,true_and]
  omega
theorem aR3 (t:SetTable)(i pt:Nat):it t (runEnd t.mask i - i+1) (st t.mask i pt)=st t.mask (leap t.mask i pt).1 (leap t.mask i pt).2:=by
 rw[ao4,aR2 t i pt _ (c8 _)]
 unfold advance
 dsimp only
 rw[if_neg (by omega)]
 rfl
def rn (m i pt:Nat):Nat->Nat × Nat
 | 0=>(i,pt)
 | r+1=>leap m (rn m i pt r).1 (rn m i pt r).2
theorem bR3 (m i pt:Nat):∀ r,(rn m i pt r).2=pt / 32 ^ r
 | 0=>by simp[rn]
 | r+1=>by
  show (rn m i pt r).2 / 32=_
  rw[bR3 m i pt r,bF6,Nat.pow_succ]
theorem bR4 (m i pt:Nat)(h:i<=m):∀ r,(rn m i pt r).1<=m
 | 0=>h
 | r+1=>ao7 (cd3 _ (ak5 m))
theorem bS3 (t:SetTable)(i pt:Nat):∀ r,∃ n,n<=10*r/\it t n (st t.mask i pt)=st t.mask (rn t.mask i pt r).1 (rn t.mask i pt r).2
 | 0=>⟨0,c8 _,rfl⟩
 | r+1=>by
  obtain⟨n,hn,e⟩:=bS3 t i pt r
  have h9:=aw1 t.mask (rn t.mask i pt r).1
  refine⟨n+(runEnd t.mask (rn t.mask i pt r).1 - (rn t.mask i pt r).1+1),by omega,?_⟩
  rw[aR4,e,aR3]
  rfl
def f5 (m i:Nat):Nat:=(i*5+1) % (m+1)
def orb (m:Nat):Nat->Nat->List Nat
 | 0,_=>[]
 | k+1,i=>i::orb m k (f5 m i)
def Full (m:Nat):Prop:=∀ b,b<=m->∀ a,a<=m->∃ n,n<=m/\Nat.repeat (f5 m) n a=b
def chk (m:Nat):Bool:=(orb m (m+1) 0).foldl (fun acc i=>acc ||| 2 ^ i) 0 == 2 ^ (m+1) - 1
theorem bc0:∀ (l:List Nat) (acc b:Nat),(l.foldl (fun acc i=>acc ||| 2 ^ i) acc).testBit b=true->acc.testBit b=true\/b∈l
 | [],acc,b,h=>.inl h
 | i::l,acc,b,h=>by
  rcases bc0 l _ b h with q | q
  ·rw[Nat.testBit_or,Bool.or_eq_true]at q
   rcases q with q | q
   ·exact .inl q
   ·rw[bS7]at q
    exact .inr (by rw[of_decide_eq_true q];exact c9)
  ·exact .inr (c7 _ q)
theorem at1 (f:Nat->Nat)(a:Nat):∀ n k,Nat.repeat f (n+k) a=Nat.repeat f k (Nat.repeat f n a)
 | n,0=>rfl
 | n,k+1=>by
  show f (Nat.repeat f (n+k) a)=f (Nat.repeat f k (Nat.repeat f n a))
  rw[at1 f a n k]
theorem bk3 (m:Nat):∀ k i x,x∈orb m k i->∃ n,n<k/\Nat.repeat (f5 m) n i=x
 | 0,i,x,h=>by cases h
 | k+1,i,x,h=>by
  rcases d8.mp h with rfl | h
  ·exact⟨0,ak5 _,rfl⟩
  ·obtain⟨n,hn,e⟩:=bk3 m k (f5 m i) x h
   refine⟨n+1,by omega,?_⟩
   rw[Nat.add_comm n 1,at1]
   exact e
theorem aB1 {m:Nat}(hc:chk m=true)(hz:Nat.repeat (f5 m) (m+1) 0=0):Full m:=by
 intro b hb a ha
 unfold chk at hc
 have hc:=eq_of_beq hc
 have get:∀ x,x<=m->∃ n,n<m+1/\Nat.repeat (f5 m) n 0=x:=fun x hx=>by
  have hb:(2 ^ (m+1) - 1).testBit x=true:=by rw[Nat.testBit_two_pow_sub_one];exact decide_eq_true (by omega)
  rw[<- hc]at hb
  rcases bc0 _ _ _ hb with q | q
  ·simp at q
  ·exact bk3 m (m+1) 0 x q
 obtain⟨p,hp,ep⟩:=get a ha
 obtain⟨q,hq,eq⟩:=get b hb
 by_cases h:p<=q
 ·refine⟨q - p,by omega,?_⟩
  rw[<- ep,<- at1,show p+(q - p)=q by omega,eq]
 ·refine⟨m+1 - p+q,by omega,?_⟩
  rw[<- ep,<- at1,show p+(m+1 - p+q)=(m+1)+q by omega,at1,hz,eq]
def Good (m:Nat):Prop:=m=7\/m=31\/m=127\/m=511
set_option maxRecDepth 100000 in
theorem Good.full {m:Nat}(h:Good m):Full m:=by
 rcases h with rfl | rfl | rfl | rfl
 ·exact aB1 (by decide +kernel) (by decide +kernel)
 ·exact aB1 (by decide +kernel) (by decide +kernel)
 ·exact aB1 (by decide +kernel) (by decide +kernel)
 ·exact aB1 (by decide +kernel) (by decide +kernel)
theorem bj9 (m i pt:Nat)(hp:pt<2 ^ 64):∀ k,(rn m i pt (13+k)).1=Nat.repeat (f5 m) k (rn m i pt 13).1
 | 0=>rfl
 | k+1=>by
  show (leap m (rn m i pt (13+k)).1 (rn m i pt (13+k)).2).1=f5 m (Nat.repeat (f5 m) k (rn m i pt 13).1)
  rw[<- bj9 m i pt hp k]
  unfold leap f5
  have:(rn m i pt (13+k)).2 / 32=0:=by
   rw[bR3,Nat.pow_add,<- bF6]
   have:pt / 32 ^ 13=0:=Nat.div_eq_of_lt (Nat.lt_trans hp (by decide))
   rw[this]
   simp
  dsimp only
  rw[this,aS9]
theorem bk0 {m pt b:Nat}(g:Good m)(hi:i<=m)(hp:pt<2 ^ 64)(hb:b<=m):∃ r,r<turns m/\(rn m i pt r).1=b:=by
 obtain⟨n,hn,e⟩:=g.full b hb (rn m i pt 13).1 (bR4 m i pt hi 13)
 exact⟨13+n,by unfold turns;omega,by rw[bj9 m i pt hp];exact e⟩
theorem bN1 (t:SetTable){pt b:Nat}(g:Good t.mask)(hi:i<=t.mask)(hp:pt<2 ^ 64)(hb:b<=t.mask):∃ n,n<10*turns t.mask/\(it t n (st t.mask i pt)).j=b:=by
 obtain⟨r,hr,e⟩:=bk0 g hi hp hb
 obtain⟨n,hn,e'⟩:=bS3 t i pt r
 refine⟨n,by omega,?_⟩
 rw[e']
 exact e
theorem ba6 (t:SetTable):∀ (n:Nat) (p:Probe),(it t n p).dummy=p.dummy
 | 0,p=>rfl
 | n+1,p=>by
  show (it t n (t.advance p)).dummy=_
  rw[ba6 t n]
  unfold advance
  split<;>rfl
theorem bn1 (h:Int):bits h<2 ^ 64:=by
 unfold bits
 have h1:=au8 h (show (2 ^ 64:Int)≠0 by decide)
 have h2:=ak6 h (show (0:Int)<2 ^ 64 by decide)
 omega
theorem al5 (t:SetTable)(h:Int):t.probeStart h=st t.mask (bits h % (t.mask+1)) (bits h):=rfl
theorem aB0 {t':SetTable}(h:t'.mask=t.mask):∀ (n:Nat) (p:Probe),it t' n p=it t n p
 | 0,p=>rfl
 | n+1,p=>by
  show it t' n (t'.advance p)=it t n (t.advance p)
  have:t'.advance p=t.advance p:=by unfold advance;rw[h]
  rw[this,aB0 h n]
def Asc (xs:Array Nat):Prop:=∀ (i j a b:Nat),i<j->xs[i]?=some a->xs[j]?=some b->a<b
theorem aH2 {xs:Array Nat}(asc:Asc xs)(j:Nat):∀ (fuel lo hi:Nat),hi - lo<=fuel->lo<=hi->hi<=xs.size->(∀ i a,i<lo->xs[i]?=some a->a<j)->(∀ i a,hi<=i->xs[i]?=some a->j<=a) ->
  (below.go xs j fuel lo hi)<=xs.size/\(∀ i a,i<below.go xs j fuel lo hi->xs[i]?=some a->a<j)/\(∀ i a,below.go xs j fuel lo hi<=i->xs[i]?=some a->j<=a)
 | 0,lo,hi,h0,h1,h2,h3,h4=>by
  have:lo=hi:=by omega
  subst this
  exact⟨h2,h3,h4⟩
 | fuel+1,lo,hi,h0,h1,h2,h3,h4=>by
  unfold below.go
  by_cases hlt:lo<hi
  ·rw[if_pos hlt]
   dsimp only
   have hm:(lo+hi) / 2<xs.size:=by omega
   have hg:xs.getD ((lo+hi) / 2) j=xs[(lo+hi) / 2]:=by simp[bS8,hm]
   have hq:xs[(lo+hi) / 2]?=some xs[(lo+hi) / 2]:=getElem?_pos xs _ hm
   by_cases hc:xs.getD ((lo+hi) / 2) j<j
   ·rw[if_pos hc]
    refine aH2 asc j fuel _ hi (by omega) (by omega) h2 (fun i a hi' e=>?_) h4
    rw[hg]at hc
    by_cases he:i=(lo+hi) / 2
    ·subst he;rw[hq]at e;cases e;exact hc
    ·have:=asc i _ a _ (by omega) e hq
     omega
   ·rw[if_neg hc]
    refine aH2 asc j fuel lo _ (by omega) (by omega) (by omega) h3 (fun i a hi' e=>?_)
    rw[hg]at hc
    by_cases he:i=(lo+hi) / 2
    ·subst he;rw[hq]at e;cases e;omega
    ·have:=asc _ i _ a (by omega) hq e
     omega
  ·rw[if_neg hlt]
   have:lo=hi:=by omega
   subst this
   exact⟨h2,h3,h4⟩
theorem aH1 {xs:Array Nat}(asc:Asc xs)(j:Nat):below xs j<=xs.size/\(∀ i a,i<below xs j->xs[i]?=some a->a<j)/\(∀ i a,below xs j<=i->xs[i]?=some a->j<=a):=
 aH2 asc j xs.size 0 xs.size (by omega) (by omega) (c8 _) (fun i a h=>by omega) fun i a h e=>by
  have:=(getElem?_eq_some_iff.mp e).1
  omega
theorem below_at {xs:Array Nat}(asc:Asc xs)(h:xs[i]?=some j):below xs j=i:=by
 obtain⟨h1,h2,h3⟩:=aH1 asc j
 rcases ab5 (below xs j) i with q | q | q
 ·exfalso
  have hlt:below xs j<xs.size:=Nat.lt_trans q (getElem?_eq_some_iff.mp h).1
  have e:=getElem?_pos xs (below xs j) hlt
  have a1:=h3 (below xs j) _ (c8 _) e
  have a2:=asc _ _ _ _ q e h
  omega
 ·exact q
 ·have:=h2 i j q h
  omega
theorem av5 (asc:Asc t.place)(h:t.place[i]?=some j):t.slot j=.live i:=by
 unfold slot
 dsimp only
 rw[below_at asc h,h]
 simp
theorem be4 (hd:t.dummies=#[])(h:∀ i:Nat,t.place[i]?≠some j):t.slot j=.empty:=by
 unfold slot
 dsimp only
 rw[if_neg (by simpa using h _),if_neg (by rw[hd];simp[has])]
theorem ba8 {hashAt:Nat->Int}{h:Int}:∀ (n fuel:Nat) (p:Probe),n<fuel->(∀ k,k<n->∃ i,t.slot (it t k p).j=.live i/\hashAt i≠h)->t.slot (it t n p).j=.empty ->
  probe.go t hashAt h fuel p=some (.empty (it t n p).j (it t n p).dummy)
 | 0,fuel+1,p,_,_,he=>by
  unfold probe.go
  have he':t.slot p.j=.empty:=he
  rw[he']
  rfl
 | n+1,fuel+1,p,hl,hk,he=>by
  obtain⟨i,e,hne⟩:=hk 0 (ak5 _)
  have e':t.slot p.j=.live i:=e
  unfold probe.go
  rw[e']
  dsimp only
  rw[if_neg (by simpa using hne)]
  exact ba8 n fuel (t.advance p) (by omega) (fun k hk'=>hk (k+1) (by omega)) he
theorem bl4 {hashAt:Nat->Int}{h:Int}:∀ (n fuel:Nat) (p:Probe),n<fuel->(∀ k,k<n->∃ i,t.slot (it t k p).j=.live i/\hashAt i≠h)->t.slot (it t n p).j=.live i->hashAt i=h ->
  ∃ q,probe.go t hashAt h fuel p=some (.candidate (it t n p).j i q)
 | 0,fuel+1,p,_,_,he,hh=>by
  unfold probe.go
  have he':t.slot p.j=.live i:=he
  rw[he']
  dsimp only
  rw[if_pos (by simpa using hh)]
  exact⟨_,rfl⟩
 | n+1,fuel+1,p,hl,hk,he,hh=>by
  obtain⟨i',e,hne⟩:=hk 0 (ak5 _)
  have e':t.slot p.j=.live i':=e
  unfold probe.go
  rw[e']
  dsimp only
  rw[if_neg (by simpa using hne)]
  exact bl4 n fuel (t.advance p) (by omega) (fun k hk'=>hk (k+1) (by omega)) he hh
abbrev En:=Int × Value
structure Tb (t:SetTable) (es:Array En):Prop where
 dum:t.dummies=#[]
 len:t.place.size=es.size
 asc:Asc t.place
 bnd:∀ (i j:Nat),t.place[i]?=some j->j<=t.mask
 good:Good t.mask
 nf:es.size*5<t.mask*3
 path:∀ (i:Nat) (e:En),es[i]?=some e->∃ n,n<10*turns t.mask/\t.place[i]?=some (it t n (t.probeStart e.1)).j/\∀ k,k<n->∃ i':Nat,t.place[i']?=some (it t k (t.probeStart e.1)).j
theorem bE3 {xs:Array Nat}(asc:Asc xs):∀ (i a:Nat),xs[i]?=some a->i<=a
 | 0,a,_=>v9 _
 | i+1,a,h=>by
  have hi:i+1<xs.size:=(getElem?_eq_some_iff.mp h).1
  have e:=getElem?_pos xs i (by omega)
  have h1:=bE3 asc i _ e
  have h2:=asc i (i+1) _ a (by omega) e h
  omega
theorem br0 {xs:Array Nat}(asc:Asc xs){m:Nat}(h:xs.size<=m):∃ b,b<=m/\∀ i:Nat,xs[i]?≠some b:=by
 by_cases q:∃ i,i<xs.size/\xs[i]?≠some i
 ·obtain⟨i,⟨hi,hne⟩,hmin⟩:=bh3 q
  refine⟨i,by omega,fun k e=>?_⟩
  have hk:=bE3 asc k i e
  rcases L6 hk with hlt | rfl
  ·have ek:xs[k]?=some k:=Classical.byContradiction fun z=>hmin k hlt ⟨by omega,z⟩
   rw[ek]at e
   cases e
   omega
  ·exact hne e
 ·refine⟨xs.size,h,fun k e=>?_⟩
  have hk:k<xs.size:=(getElem?_eq_some_iff.mp e).1
  have ek:xs[k]?=some k:=Classical.byContradiction fun z=>q ⟨k,hk,z⟩
  rw[ek]at e
  cases e
  omega
theorem Tb.small {es:Array En}(T:Tb t es):es.size<=t.mask:=by
 have:=T.nf
 omega
theorem Tb.fits {es:Array En}(T:Tb t es):t.fits es.size=true:=by
 unfold SetTable.fits fill
 rw[T.dum,T.len]
 have:=T.small
 simp
 exact this
theorem Tb.odd {es:Array En}(T:Tb t es):t.gaveWay=false:=by
 unfold gaveWay
 rcases T.good with e | e | e | e<;>rw[e]<;>rfl
def hashOf (es:Array En)(i:Nat):Int:=(es[i]?.map (·.1)).getD 0
theorem ae1 {es:Array En}{e:En}(h:es[i]?=some e):hashOf es i=e.1:=by unfold hashOf;rw[h];rfl
theorem al4 (t:SetTable)(h:Int):bits h % (t.mask+1)<=t.mask:=ao7 (cd3 _ (ak5 _))
theorem Tb.absent {es:Array En}(T:Tb t es){h:Int}(hh:∀ e∈es.toList,e.1≠h):∃ n,n<10*turns t.mask/\(∀ i:Nat,t.place[i]?≠some (it t n (t.probeStart h)).j)/\(it t n (t.probeStart h)).j<=t.mask /\
  (∀ k,k<n->∃ i':Nat,t.place[i']?=some (it t k (t.probeStart h)).j)/\t.probe (hashOf es) h (t.probeStart h)=some (.empty (it t n (t.probeStart h)).j none):=by
 obtain⟨b,hb,hfree⟩:=br0 T.asc (m:=t.mask) (by rw[T.len];exact T.small)
 obtain⟨n0,hn0,e0⟩:=bN1 t T.good (al4 t h) (bn1 h) hb
 rw[<- al5]at e0
 obtain⟨n,⟨hfr,hn,hle⟩,hmin⟩:=bh3 (P:=fun n=>(∀ i:Nat,t.place[i]?≠some (it t n (t.probeStart h)).j)/\n<=n0/\(it t n (t.probeStart h)).j<=t.mask) ⟨n0,by rw[e0];exact hfree,c8 _,by rw[e0];exact hb⟩
 have hocc:∀ k,k<n->∃ i':Nat,t.place[i']?=some (it t k (t.probeStart h)).j:=fun k hk=>Classical.byContradiction fun z=>by
  have hk':∀ i:Nat,t.place[i]?≠some (it t k (t.probeStart h)).j:=fun i e=>z ⟨i,e⟩
  by_cases hkm:(it t k (t.probeStart h)).j<=t.mask
  ·exact hmin k hk ⟨hk',by omega,hkm⟩
  ·-- every place on the way is a slot
   exact hkm (by
    clear z hk' hkm hmin hfr hle hn hk
    rw[al5]
    induction k with
    | zero=>exact al4 t h
    | succ k ih =>
     have key:∀ k,∃ r c,c<=runEnd t.mask (rn t.mask (bits h % (t.mask+1)) (bits h) r).1 - (rn t.mask (bits h % (t.mask+1)) (bits h) r).1 /\
       it t k (st t.mask (bits h % (t.mask+1)) (bits h))=it t c (st t.mask (rn t.mask (bits h % (t.mask+1)) (bits h) r).1 (rn t.mask (bits h % (t.mask+1)) (bits h) r).2):=fun k=>by
      induction k with
      | zero=>exact⟨0,0,v9 _,rfl⟩
      | succ k ih =>
       obtain⟨r,c,hc,e⟩:=ih
       rcases L6 hc with hlt | heq
       ·exact⟨r,c+1,hlt,by rw[ao4,e,<- ao4]⟩
       ·refine⟨r+1,0,v9 _,?_⟩
        rw[ao4,e,<- ao4,heq,aR3]
        rfl
     obtain⟨r,c,hc,e⟩:=key (k+1)
     rw[e,aR2 t _ _ c hc]
     have h1:=bR4 t.mask (bits h % (t.mask+1)) (bits h) (al4 t h) r
     have h2:=aX1 h1
     have h3:=aw1 t.mask (rn t.mask (bits h % (t.mask+1)) (bits h) r).1
     show (rn t.mask (bits h % (t.mask+1)) (bits h) r).1+c<=t.mask
     omega)
 refine⟨n,by omega,hfr,hle,hocc,?_⟩
 unfold probe
 have:=ba8 (hashAt:=hashOf es) (h:=h) n (10*turns t.mask) (t.probeStart h) (by omega) (fun k hk=>?_) (be4 T.dum hfr)
 ·rw[this,ba6]
  rfl
 ·obtain⟨i',e⟩:=hocc k hk
  refine⟨i',av5 T.asc e,?_⟩
  have hi:i'<es.size:=by rw[<- T.len];exact(getElem?_eq_some_iff.mp e).1
  have e2:=getElem?_pos es i' hi
  rw[ae1 e2]
  exact hh _ (by simp)
theorem Tb.present {es:Array En}(T:Tb t es){e:En}(he:es[i]?=some e)(hu:∀ (k:Nat) (e':En),es[k]?=some e'->e'.1=e.1->k=i):∃ j q,t.probe (hashOf es) e.1 (t.probeStart e.1)=some (.candidate j i q):=by
 obtain⟨n,hn,hp,hocc⟩:=T.path i e he
 unfold probe
 obtain⟨m,⟨hm,i1,hi1,hs1⟩,hmin⟩:=bh3 (P:=fun m=>m<=n/\∃ i1:Nat,t.place[i1]?=some (it t m (t.probeStart e.1)).j/\hashOf es i1=e.1) ⟨n,c8 _,i,hp,ae1 he⟩
 have hi2:i1<es.size:=by rw[<- T.len];exact(getElem?_eq_some_iff.mp hi1).1
 have e2:=getElem?_pos es i1 hi2
 rw[ae1 e2]at hs1
 have hii:i1=i:=hu i1 _ e2 hs1
 subst hii
 obtain⟨q,hq⟩:=bl4 (hashAt:=hashOf es) (h:=e.1) (i:=i1) m (10*turns t.mask) (t.probeStart e.1) (by omega) (fun k hk=>by
  obtain⟨i',e3⟩:=hocc k (by omega)
  exact⟨i',av5 T.asc e3,fun z=>hmin k hk ⟨by omega,i',e3,z⟩⟩) (av5 T.asc hi1) (ae1 he)
 exact⟨_,q,hq⟩
theorem get_ins {α:Type}{xs:Array α}{x:α}(hp:p<=xs.size)(i:Nat):(insertAt xs p x)[i]?=if i<p then xs[i]? else if i=p then some x else xs[i - 1]?:=by
 unfold insertAt
 have e0:((xs.extract 0 p).push x).size=p+1:=by rw[B6,F9];omega
 by_cases h1:i<p
 ·rw[if_pos h1,bc5 (by omega),Array.getElem?_push_lt (by rw[F9];omega)]
  rw[Array.getElem_extract]
  simp only[O8]
  exact(getElem?_pos xs i (by omega)).symm
 ·rw[if_neg h1]
  by_cases h2:i=p
  ·subst h2
   rw[if_pos rfl,bc5 (by omega)]
   have e1:(xs.extract 0 i).size=i:=by rw[F9];omega
   rw[Array.getElem?_push,e1,if_pos rfl]
  ·rw[if_neg h2,Array.getElem?_append_right (by omega),e0,Array.getElem?_extract]
   split
   ·congr 1;omega
   ·rw[getElem?_neg]
    omega
theorem as5 {α:Type}{xs:Array α}{x:α}(hp:p<=xs.size):(insertAt xs p x).size=xs.size+1:=by
 unfold insertAt
 rw[K2,B6,F9,F9]
 omega
theorem bM2 {α:Type}{xs:Array α}{x:α}(hp:p<=xs.size)(y:α):y∈(insertAt xs p x).toList↔y=x\/y∈xs.toList:=by
 constructor
 ·intro h
  obtain⟨i,hi⟩:=p6.mp h
  rw[d9,get_ins hp]at hi
  split at hi
  ·exact .inr (i7 (by rw[d9];exact hi))
  ·split at hi
   ·cases hi;exact .inl rfl
   ·exact .inr (i7 (by rw[d9];exact hi))
 ·rintro(rfl | h)
  ·exact i7 (i:=p) (by rw[d9,get_ins hp,if_neg (C7 _),if_pos rfl])
  ·obtain⟨i,hi⟩:=p6.mp h
   rw[d9]at hi
   have hi':i<xs.size:=(getElem?_eq_some_iff.mp hi).1
   by_cases q:i<p
   ·exact i7 (i:=i) (by rw[d9,get_ins hp,if_pos q];exact hi)
   ·exact i7 (i:=i+1) (by rw[d9,get_ins hp,if_neg (by omega),if_neg (by omega)];simpa using hi)
structure Tb' (t:SetTable) (es:Array En):Prop where
 dum:t.dummies=#[]
 len:t.place.size=es.size
 asc:Asc t.place
 bnd:∀ (i j:Nat),t.place[i]?=some j->j<=t.mask
 good:Good t.mask
 fil:es.size<=t.mask
 path:∀ (i:Nat) (e:En),es[i]?=some e->∃ n,n<10*turns t.mask/\t.place[i]?=some (it t n (t.probeStart e.1)).j/\∀ k,k<n->∃ i':Nat,t.place[i']?=some (it t k (t.probeStart e.1)).j
theorem Tb'.full {es:Array En}(T:Tb' t es)(h:es.size*5<t.mask*3):Tb t es:=⟨T.dum,T.len,T.asc,T.bnd,T.good,h,T.path⟩
theorem Tb'.fits {es:Array En}(T:Tb' t es):t.fits es.size=true:=by
 unfold SetTable.fits fill
 rw[T.dum,T.len]
 have:=T.fil
 simp
 exact this
theorem Tb'.plain {es:Array En}(T:Tb' t es)(b:Bool):Tb' { t with plain:=b } es:=by
 have e:∀ n (p:Probe),it { t with plain:=b } n p=it t n p:=fun n p=>aB0 (t:=t) (t':={ t with plain:=b }) rfl n p
 refine⟨T.dum,T.len,T.asc,T.bnd,T.good,T.fil,fun i x hx=>?_⟩
 obtain⟨n,h1,h2,h3⟩:=T.path i x hx
 exact⟨n,h1,by rw[e];exact h2,fun k hk=>by rw[e];exact h3 k hk⟩
theorem Tb.put {es:Array En}(T:Tb t es){h:Int}{x:Value}(hn:n<10*turns t.mask)(hfr:∀ i:Nat,t.place[i]?≠some (it t n (t.probeStart h)).j)(hle:(it t n (t.probeStart h)).j<=t.mask)
  (hocc:∀ k,k<n->∃ i':Nat,t.place[i']?=some (it t k (t.probeStart h)).j) :
  (t.put (it t n (t.probeStart h)).j).2<=es.size/\Tb' (t.put (it t n (t.probeStart h)).j).1 (insertAt es (t.put (it t n (t.probeStart h)).j).2 (h,x)):=by
 generalize hj:(it t n (t.probeStart h)).j=j at *
 obtain⟨b1,b2,b3⟩:=aH1 T.asc j
 have hp:(t.put j).2=below t.place j:=rfl
 have hd:has t.dummies j=false:=by rw[T.dum];simp[has]
 have ht:(t.put j).1={ t with place:=insertAt t.place (below t.place j) j }:=by
  unfold SetTable.put
  dsimp only
  rw[if_neg (by rw[hd];exact k7)]
 have hm:(t.put j).1.mask=t.mask:=by rw[ht]
 have hpl:(t.put j).1.place=insertAt t.place (below t.place j) j:=by rw[ht]
 have hsz:=T.nf
 have old:∀ (i a:Nat),t.place[i]?=some a->∃ i':Nat,(insertAt t.place (below t.place j) j)[i']?=some a:=fun i a e=>by
  by_cases q:i<below t.place j
  ·exact⟨i,by rw[get_ins b1,if_pos q];exact e⟩
  ·exact⟨i+1,by rw[get_ins b1,if_neg (by omega),if_neg (by omega)];simpa using e⟩
 have hit:∀ k (p:Probe),it (t.put j).1 k p=it t k p:=fun k p=>aB0 hm k p
 have hst:∀ z:Int,(t.put j).1.probeStart z=t.probeStart z:=fun z=>by rw[al5,al5,hm]
 refine⟨by rw[hp,<- T.len];exact b1,?_⟩
 rw[hp]
 refine⟨by rw[ht];exact T.dum,by rw[hpl,as5 b1,as5 (by rw[<- T.len];exact b1),T.len],?_,?_,by rw[hm];exact T.good,?_,?_⟩
 ·rw[hpl]
  intro i k a c hik ea ec
  rw[get_ins b1]at ea ec
  split at ea
  ·rename_i hi
   split at ec
   ·exact T.asc i k a c hik ea ec
   ·split at ec
    ·cases ec;exact b2 i a hi ea
    ·exact T.asc i (k - 1) a c (by omega) ea ec
  ·split at ea
   ·rename_i hi1 hi2
    cases ea
    rw[if_neg (by omega),if_neg (by omega)]at ec
    have h1:=b3 (k - 1) c (by omega) ec
    rcases L6 h1 with h2 | h2
    ·exact h2
    ·subst h2;exact absurd ec (hfr (k - 1))
   ·rw[if_neg (by omega),if_neg (by omega)]at ec
    exact T.asc (i - 1) (k - 1) a c (by omega) ea ec
 ·rw[hpl,hm]
  intro i a ea
  rw[get_ins b1]at ea
  split at ea
  ·exact T.bnd i a ea
  ·split at ea
   ·cases ea;exact hle
   ·exact T.bnd _ a ea
 ·rw[hm,as5 (by rw[<- T.len];exact b1)]
  have:=T.good
  unfold Good at this
  omega
 ·intro i e he
  rw[hpl,hm]
  have b1':below t.place j<=es.size:=by rw[<- T.len];exact b1
  rw[get_ins b1']at he
  have lift:∀ (i0:Nat) (i':Nat),es[i0]?=some e->(∀ a,t.place[i0]?=some a->(insertAt t.place (below t.place j) j)[i']?=some a) ->
    ∃ n,n<10*turns t.mask/\(insertAt t.place (below t.place j) j)[i']?=some (it (t.put j).1 n ((t.put j).1.probeStart e.1)).j/\∀ k,k<n->∃ i':Nat,(insertAt t.place (below t.place j) j)[i']?=some (it (t.put j).1 k ((t.put j).1.probeStart e.1)).j:=fun i0 i' h0 h1=>by
   obtain⟨n',q1,q2,q3⟩:=T.path i0 e h0
   refine⟨n',q1,?_,fun k hk=>?_⟩
   ·rw[hit,hst];exact h1 _ q2
   ·obtain⟨i2,e2⟩:=q3 k hk
    rw[hit,hst]
    exact old i2 _ e2
  split at he
  ·rename_i hi
   exact lift i i he fun a ea=>by rw[get_ins b1,if_pos hi];exact ea
  ·split at he
   ·rename_i hi1 hi2
    cases he
    refine⟨n,hn,?_,fun k hk=>?_⟩
    ·rw[hit,hst,hj,get_ins b1,if_neg hi1,if_pos hi2]
    ·obtain⟨i2,e2⟩:=hocc k hk
     rw[hit,hst]
     exact old i2 _ e2
   ·rename_i hi1 hi2
    exact lift (i - 1) i he fun a ea=>by rw[get_ins b1,if_neg hi1,if_neg hi2];exact ea
theorem aQ0:∀ (k n:Nat) (g:Nat->Nat),(∀ i,i<n->g i<k)->(∀ i j,i<n->j<n->g i=g j->i=j)->n<=k
 | 0,n,g,h,_=>by
  rcases Nat.eq_zero_or_pos n with e | e
  ·omega
  ·exact absurd (h 0 e) (Nat.not_lt_zero _)
 | k+1,0,g,_,_=>v9 _
 | k+1,n+1,g,h,inj=>by
  by_cases q:∃ i0,i0<n+1/\g i0=k
  ·obtain⟨i0,h0,e0⟩:=q
   have:=aQ0 k n (fun i=>if i=i0 then g n else g i) (fun i hi=>?_) (fun i j hi hj e=>?_)
   ·omega
   ·try dsimp only
    split
    ·rename_i hii
     have h1:=h n (by omega)
     have h2:g n≠k:=fun z=>by have:=inj n i0 (by omega) h0 (by rw[z,e0]);omega
     omega
    ·have h1:=h i (by omega)
     have h2:g i≠k:=fun z=>by have:=inj i i0 (by omega) h0 (by rw[z,e0]);omega
     omega
   ·try dsimp only at e
    split at e
    ·split at e
     ·omega
     ·have:=inj n j (by omega) (by omega) e;omega
    ·split at e
     ·have:=inj i n (by omega) (by omega) e;omega
     ·exact inj i j (by omega) (by omega) e
  ·have:=aQ0 k (n+1) g (fun i hi=>?_) inj
   ·omega
   ·have h1:=h i hi
    have h2:g i≠k:=fun z=>q ⟨i,hi,z⟩
    omega
structure LI (t:SetTable) (hs:Array Int) (owner:Array (Option Nat)) (k:Nat):Prop where
 size:owner.size=t.mask+1
 lt:∀ (j i:Nat),owner[j]?=some (some i)->i<k
 inj:∀ (j j' i:Nat),owner[j]?=some (some i)->owner[j']?=some (some i)->j=j'
 has:∀ (i:Nat) (h:Int),i<k->hs[i]?=some h->∃ n,n<10*turns t.mask/\owner[(it t n (t.probeStart h)).j]?=some (some i)/\∀ c,c<n->∃ i':Nat,owner[(it t c (t.probeStart h)).j]?=some (some i')
theorem LI.free {hs:Array Int}{owner:Array (Option Nat)}{k:Nat}(L:LI t hs owner k)(hk:k<=t.mask):∃ b,b<=t.mask/\owner[b]?=some none:=by
 apply Classical.byContradiction
 intro z
 have all:∀ b,b<=t.mask->∃ i,owner[b]?=some (some i):=fun b hb=>by
  have e:=getElem?_pos owner b (by rw[L.size];omega)
  cases q:owner[b]'(by rw[L.size];omega) with
  | none=>rw[q]at e;exact absurd ⟨b,hb,e⟩ z
  | some i=>rw[q]at e;exact⟨i,e⟩
 have:=aQ0 k (t.mask+1) (fun b=>match owner[b]? with | some (some i)=>i | _=>0) (fun b hb=>?_) (fun b b' hb hb' e=>?_)
 ·omega
 ·obtain⟨i,e⟩:=all b (by omega)
  try dsimp only
  rw[e]
  exact L.lt b i e
 ·obtain⟨i,e1⟩:=all b (by omega)
  obtain⟨i',e2⟩:=all b' (by omega)
  try dsimp only at e
  rw[e1,e2]at e
  dsimp only at e
  subst e
  exact L.inj b b' i e1 e2
theorem aL4 (t:SetTable)(owner:Array (Option Nat))(hz:owner.size=t.mask+1):∀ (fuel i pt:Nat),i<=t.mask->(∃ r,r<fuel/\∃ b,b=(rn t.mask i pt r).1/\owner[b]?=some none) ->
  ∃ n,n<10*fuel/\layClean.free t.mask owner fuel i pt=some (it t n (st t.mask i pt)).j/\owner[(it t n (st t.mask i pt)).j]?=some none/\∀ c,c<n->∃ i':Nat,owner[(it t c (st t.mask i pt)).j]?=some (some i')
 | 0,i,pt,_,⟨r,hr,_⟩=>absurd hr (Nat.not_lt_zero _)
 | fuel+1,i,pt,hi,⟨r,hr,b,hb,hbo⟩=>by
  have h9:=aw1 t.mask i
  have hm:=aX1 hi
  unfold layClean.free
  have slotOf:∀ k,k<=runEnd t.mask i - i->(it t k (st t.mask i pt)).j=i+k:=fun k hk=>by rw[aR2 t i pt k hk]
  have getS:∀ k,k<=runEnd t.mask i - i->(owner.getD (i+k) (some 0)).isNone=false->∃ i':Nat,owner[i+k]?=some (some i'):=fun k hk e=>by
   have hlt:i+k<owner.size:=by omega
   have e1:=getElem?_pos owner (i+k) hlt
   have e2:owner.getD (i+k) (some 0)=owner[i+k]:=by simp[bS8,hlt]
   rw[e2]at e
   cases q:owner[i+k] with
   | none=>rw[q]at e;cases e
   | some i'=>rw[q]at e1;exact⟨i',e1⟩
  cases hf:(u7 (runEnd t.mask i+1 - i)).find? (fun k=>(owner.getD (i+k) (some 0)).isNone) with
  | some k =>
   dsimp only
   rw[List.find?_eq_some_iff_getElem]at hf
   obtain⟨hp,k',hk',ek,hbef⟩:=hf
   rw[v8]at hk'
   rw[aj2]at ek
   subst ek
   refine⟨k',by omega,by rw[slotOf k' (by omega)],?_,fun c hc=>?_⟩
   ·rw[slotOf k' (by omega)]
    have hlt:i+k'<owner.size:=by omega
    have e2:owner.getD (i+k') (some 0)=owner[i+k']:=by simp[bS8,hlt]
    rw[e2]at hp
    rw[getElem?_pos owner _ hlt]
    cases q:owner[i+k'] with
    | none=>rfl
    | some z=>rw[q]at hp;cases hp
   ·rw[slotOf c (by omega)]
    have:=hbef c hc
    rw[aj2]at this
    exact getS c (by omega) (by simpa using this)
  | none =>
   dsimp only
   rw[List.find?_eq_none]at hf
   have all:∀ c,c<=runEnd t.mask i - i->∃ i':Nat,owner[i+c]?=some (some i'):=fun c hc=>getS c hc (by simpa only [Bool.not_eq_true] using hf c (B9.mpr (by omega)))
   have hr0:r≠0:=fun z=>by
    subst z
    obtain⟨i',e⟩:=all 0 (v9 _)
    have hb':b=i:=hb
    rw[hb']at hbo
    rw[aS9,hbo]at e
    cases e
   obtain⟨r',rfl⟩:∃ r',r=r'+1:=⟨r - 1,by omega⟩
   have shift:∀ r,rn t.mask (leap t.mask i pt).1 (leap t.mask i pt).2 r=rn t.mask i pt (r+1):=fun r=>by
    induction r with
    | zero=>rfl
    | succ r ih =>
     show leap t.mask _ _=leap t.mask _ _
     rw[ih]
   obtain⟨n,hn,e1,e2,e3⟩:=aL4 t owner hz fuel (leap t.mask i pt).1 (leap t.mask i pt).2 (ao7 (cd3 _ (ak5 _))) ⟨r',by omega,b,by rw[hb,shift],hbo⟩
   have sh:∀ c,it t (runEnd t.mask i - i+1+c) (st t.mask i pt)=it t c (st t.mask (leap t.mask i pt).1 (leap t.mask i pt).2):=fun c=>by rw[aR4,aR3]
   refine⟨runEnd t.mask i - i+1+n,by omega,by rw[sh];exact e1,by rw[sh];exact e2,fun c hc=>?_⟩
   by_cases q:c<=runEnd t.mask i - i
   ·rw[slotOf c q]
    exact all c q
   ·have:=e3 (c - (runEnd t.mask i - i+1)) (by omega)
    rw[<- sh,show runEnd t.mask i - i+1+(c - (runEnd t.mask i - i+1))=c by omega]at this
    exact this
theorem ba2 (t:SetTable)(g:Good t.mask)(hs:Array Int)(hsz:hs.size<=t.mask):∀ (l:List Int) (k:Nat) (owner:Array (Option Nat)),LI t hs owner k->hs.toList.drop k=l ->
  ∃ owner',(l.foldl (fun acc h=>do
   let (owner,k) <- acc
   let j <- layClean.free t.mask owner (turns t.mask) (bits h % (t.mask+1)) (bits h)
   pure (owner.setIfInBounds j (some k),k+1)) (some (owner,k)))=some (owner',k+l.length)/\LI t hs owner' (k+l.length)
 | [],k,owner,L,_=>⟨owner,rfl,L⟩
 | h::l,k,owner,L,hd=>by
  have hk:k<hs.size:=by
   apply Classical.byContradiction
   intro z
   rw[K1 (by rw[l4];omega)]at hd
   cases hd
  have hget:hs[k]?=some h:=by
   rw[<- d9]
   have:=congrArg (fun l=>l[0]?) hd
   simpa using this
  obtain⟨b,hb,hbo⟩:=L.free (by omega)
  obtain⟨r,hr,er⟩:=bk0 g (al4 t h) (bn1 h) hb
  obtain⟨n,hn,e1,e2,e3⟩:=aL4 t owner L.size (turns t.mask) (bits h % (t.mask+1)) (bits h) (al4 t h) ⟨r,hr,b,er.symm,hbo⟩
  rw[<- al5]at e1 e2 e3
  have hjs:(it t n (t.probeStart h)).j<owner.size:=(getElem?_eq_some_iff.mp e2).1
  have gs:∀ x,(owner.setIfInBounds (it t n (t.probeStart h)).j (some k))[x]?=if (it t n (t.probeStart h)).j=x then some (some k) else owner[x]?:=fun x=>by
   rw[Array.getElem?_setIfInBounds]
   split
   ·rename_i hx;subst hx;simp[hjs]
   ·rfl
  have occ:∀ (x i:Nat),owner[x]?=some (some i)->∃ i':Nat,(owner.setIfInBounds (it t n (t.probeStart h)).j (some k))[x]?=some (some i'):=fun x i e=>by
   rw[gs];split
   ·exact⟨k,rfl⟩
   ·exact⟨i,e⟩
  have L':LI t hs (owner.setIfInBounds (it t n (t.probeStart h)).j (some k)) (k+1):=by
   refine⟨by rw[bi4];exact L.size,fun j i e=>?_,fun j j' i ea ec=>?_,fun i h' hi hh=>?_⟩
   ·rw[gs]at e
    split at e
    ·cases e;omega
    ·have:=L.lt j i e;omega
   ·rw[gs]at ea ec
    split at ea
    ·rename_i q1
     cases ea
     split at ec
     ·rename_i q2;rw[<- q1,<- q2]
     ·have:=L.lt j' k ec;omega
    ·split at ec
     ·cases ec
      have:=L.lt j k ea;omega
     ·exact L.inj j j' i ea ec
   ·by_cases q:i=k
    ·subst q
     rw[hget]at hh
     cases hh
     refine⟨n,hn,by rw[gs,if_pos rfl],fun c hc=>?_⟩
     obtain⟨i',e⟩:=e3 c hc
     exact occ _ i' e
    ·obtain⟨n',q1,q2,q3⟩:=L.has i h' (by omega) hh
     refine⟨n',q1,?_,fun c hc=>?_⟩
     ·rw[gs]
      split
      ·rename_i q4
       rw[q4]at e2
       rw[e2]at q2
       cases q2
      ·exact q2
     ·obtain⟨i',e⟩:=q3 c hc
      exact occ _ i' e
  obtain⟨owner',f1,f2⟩:=ba2 t g hs hsz l (k+1) _ L' (by
   have e5:hs.toList.drop (k+1)=(hs.toList.drop k).drop 1:=by rw[bi2]
   rw[e5,hd]
   rfl)
  refine⟨owner',?_,?_⟩
  ·rw[ag4]
   have:(do
     let (owner,k) <- some (owner,k)
     let j <- layClean.free t.mask owner (turns t.mask) (bits h % (t.mask+1)) (bits h)
     pure (owner.setIfInBounds j (some k),k+1))=some (owner.setIfInBounds (it t n (t.probeStart h)).j (some k),k+1):=by
    show (layClean.free t.mask owner (turns t.mask) (bits h % (t.mask+1)) (bits h) >>= fun j=>pure (owner.setIfInBounds j (some k),k+1))=_
    rw[e1]
    rfl
   rw[this,f1,o4]
   congr 2
   omega
  ·rw[o4,show k+(l.length+1)=k+1+l.length by omega]
   exact f2
theorem bA0 {M finger moves:Nat}{led plain:Bool}{es:Array En}(g:Good M)(hsz:es.size*5<M*3) :
  ∃ t2 order,laid M finger moves led plain (es.map (·.1))=some (t2,order)/\Tb t2 (order.filterMap (es[·]?))/\(order.filterMap (es[·]?)).toList.Perm es.toList/\order.toList.Perm (u7 es.size)/\t2.led=led/\t2.plain=plain:=by
 let t:SetTable:={ mask:=M,place:=#[],dummies:=#[],finger:=finger,led:=led,moves:=moves,plain:=plain }
 have ht:t.mask=M:=rfl
 have h0:LI t (es.map (·.1)) (Array.replicate (M+1) none) 0:=by
  refine⟨by simp[ht],fun j i e=>?_,fun j j' i e=>?_,fun i h hi=>by omega⟩
  ·rw[bi5]at e;split at e<;>cases e
  ·rw[bi5]at e;split at e<;>cases e
 obtain⟨owner,f1,L⟩:=ba2 t g (es.map (·.1)) (by rw[aj1,ht];omega) (es.map (·.1)).toList 0 _ h0 rfl
 rw[O8,l4,aj1]at f1 L
 have hlay:layClean M (es.map (·.1))=some owner:=by
  unfold layClean
  rw[<- Array.foldl_toList]
  have:(ae9 _ _ (es.map (·.1)).toList)=some (owner,es.size):=f1
  rw[this]
  rfl
 let live:List (Nat × Nat):=(u7 (M+1)).filterMap fun j=>(owner.getD j none).map (j,·)
 have hlive:∀ p:Nat × Nat,p∈live↔owner[p.1]?=some (some p.2):=fun p=>by
  obtain⟨j,i⟩:=p
  have hg:∀ j,owner.getD j none=(owner[j]?).getD none:=fun j=>by simp
  show (j,i)∈List.filterMap _ _↔_
  rw[aj0]
  constructor
  ·rintro⟨j',hj',e⟩
   rw[hg]at e
   cases q:owner[j']? with
   | none=>rw[q]at e;cases e
   | some z =>
    rw[q]at e
    cases z with
    | none=>cases e
    | some i' =>
     have e':(j',i')=(j,i):=Option.some.inj e
     cases e'
     exact q
  ·intro e
   have hj:j<owner.size:=(getElem?_eq_some_iff.mp e).1
   refine⟨j,B9.mpr (by rw[L.size,ht]at hj;exact hj),?_⟩
   rw[hg,e]
   rfl
 have hpw:live.Pairwise (fun a b=>a.1<b.1):=by
  show (List.filterMap _ _).Pairwise _
  rw[List.pairwise_filterMap]
  refine List.Pairwise.imp ?_ bt4
  intro a b hab p hp q hq
  cases h1:owner.getD a none with
  | none=>rw[h1]at hp;cases hp
  | some i =>
   cases h2:owner.getD b none with
   | none=>rw[h2]at hq;cases hq
   | some i' =>
    rw[h1]at hp
    rw[h2]at hq
    have e1:(a,i)=p:=Option.some.inj hp
    have e2:(b,i')=q:=Option.some.inj hq
    subst e1 e2
    exact hab
 have hnd:(live.map (·.2)).Nodup:=by
  unfold List.Nodup
  rw[F5]
  refine List.Pairwise.imp_of_mem ?_ hpw
  intro a b ha hb hab e
  have h1:=(hlive a).mp ha
  have h2:=(hlive b).mp hb
  rw[<- e]at h2
  have:=L.inj _ _ _ h1 h2
  omega
 have hord:(live.map (·.2)).Perm (u7 es.size):=by
  refine(List.perm_ext_iff_of_nodup hnd List.nodup_range).mpr fun i=>?_
  rw[B9,u5]
  constructor
  ·rintro⟨p,hp,rfl⟩
   exact L.lt _ _ ((hlive p).mp hp)
  ·intro hi
   obtain⟨n,_,q,_⟩:=L.has i ((es.map (·.1))[i]'(by rw[aj1];exact hi)) hi (getElem?_pos _ _ _)
   exact⟨(_,i),(hlive _).mpr q,rfl⟩
 have hlen:live.length=es.size:=by have:=hord.length_eq;simpa using this
 have hes:∀ i,i∈live.map (·.2)->∃ e,es[i]?=some e:=fun i hi=>by
  have:=hord.mem_iff.mp hi
  rw[B9]at this
  exact⟨es[i],getElem?_pos es i this⟩
 have fm:∀ (l:List Nat),(∀ i∈l,∃ e,es[i]?=some e)->(l.filterMap (es[·]?)).length=l.length/\∀ (p:Nat),(l.filterMap (es[·]?))[p]?=(l[p]?).bind (es[·]?):=fun l=>by
  induction l with
  | nil=>intro _;exact⟨rfl,fun p=>rfl⟩
  | cons a l ih =>
   intro h
   obtain⟨e,he⟩:=h a c9
   obtain⟨i1,i2⟩:=ih fun i hi=>h i (c7 _ hi)
   rw[List.filterMap_cons_some he]
   refine⟨by rw[o4,i1,o4],fun p=>?_⟩
   cases p with
   | zero=>simp[he]
   | succ p=>simpa using i2 p
 obtain⟨fl,fg⟩:=fm _ hes
 have hperm:((live.map (·.2)).filterMap (es[·]?)).Perm es.toList:=by
  refine(hord.filterMap _).trans (List.Perm.of_eq ?_)
  apply Q2
  intro p
  obtain⟨_,g2⟩:=fm (u7 es.size) fun i hi=>⟨es[i]'(B9.mp hi),getElem?_pos es i (B9.mp hi)⟩
  rw[g2,show es.toList[p]?=es[p]? from d9 ..]
  by_cases hp:p<es.size
  ·rw[R1 hp];rfl
  ·rw[o6 (by simp;omega),getElem?_neg es p hp];rfl
 let t2:SetTable:={ mask:=M,place:=(live.map (·.1)).toArray,dummies:=#[],finger:=finger,led:=led,moves:=moves,plain:=plain }
 have hes':((live.map (·.2)).toArray.filterMap (es[·]?)).toList=(live.map (·.2)).filterMap (es[·]?):=by simp
 have getE:∀ (p:Nat) (e:En),((live.map (·.2)).toArray.filterMap (es[·]?))[p]?=some e->∃ j i:Nat,live[p]?=some (j,i)/\es[i]?=some e:=fun p e h=>by
  rw[<- d9,hes',fg,p8]at h
  cases q:live[p]? with
  | none=>rw[q]at h;cases h
  | some ji=>rw[q]at h;exact⟨ji.1,ji.2,rfl,h⟩
 have getP:∀ (p:Nat) (j:Nat),t2.place[p]?=some j↔∃ i,live[p]?=some (j,i):=fun p j=>by
  show (live.map (·.1)).toArray[p]?=some j↔_
  rw[List.getElem?_toArray,p8]
  cases q:live[p]? with
  | none=>simp
  | some ji =>
   obtain⟨a,b⟩:=ji
   simp
 have itE:∀ n (p:Probe),it t2 n p=it t n p:=fun n p=>aB0 (t:=t) (t':=t2) rfl n p
 refine⟨t2,(live.map (·.2)).toArray,?_,?_,(by rw[hes'];exact hperm),hord,rfl,rfl⟩
 ·unfold laid
  rw[hlay]
  rfl
 ·refine⟨rfl,?_,?_,?_,g,?_,?_⟩
  ·show (live.map (·.1)).toArray.size=_
   rw[d7,b8,<- l4,hes',fl,b8]
  ·intro i j a b hij ea eb
   obtain⟨_,ea⟩:=(getP i a).mp ea
   obtain⟨_,eb⟩:=(getP j b).mp eb
   obtain⟨h1,e1⟩:=j5.mp ea
   obtain⟨h2,e2⟩:=j5.mp eb
   have:=A2.mp hpw i j h1 h2 hij
   rw[e1,e2]at this
   exact this
  ·intro i j e
   obtain⟨i',e⟩:=(getP i j).mp e
   have:=(hlive _).mp (i7 e)
   have hj:j<owner.size:=(getElem?_eq_some_iff.mp this).1
   rw[L.size]at hj
   show j<=M
   exact ao7 hj
  ·rw[<- l4,hes',fl,b8,hlen]
   exact hsz
  ·intro p e he
   obtain⟨j,i,hl,hi⟩:=getE p e he
   have ho:=(hlive _).mp (i7 hl)
   have hi':i<es.size:=(getElem?_eq_some_iff.mp hi).1
   obtain⟨n,q1,q2,q3⟩:=L.has i e.1 hi' (by rw[Array.getElem?_map,hi];rfl)
   have ej:=L.inj _ _ _ ho q2
   refine⟨n,q1,?_,fun c hc=>?_⟩
   ·rw[itE]
    exact(getP p _).mpr ⟨i,by rw[hl];congr 2⟩
   ·obtain⟨i',e'⟩:=q3 c hc
    obtain⟨p',hp'⟩:=p6.mp ((hlive (_,i')).mpr e')
    exact⟨p',by rw[itE];exact(getP p' _).mpr ⟨i',hp'⟩⟩
theorem bM8 {M finger moves:Nat}{led plain:Bool}{es:Array En}(g:Good M)(hsz:es.size*5<M*3) :
  ∃ t2 order,laid M finger moves led plain (es.map (·.1))=some (t2,order)/\Tb t2 (order.filterMap (es[·]?))/\(order.filterMap (es[·]?)).toList.Perm es.toList:=
 let ⟨a,b,c,d,e,_⟩:=bA0 (finger:=finger) (moves:=moves) (led:=led) (plain:=plain) g hsz;⟨a,b,c,d,e⟩
end Sett
namespace Sett
open PySem PySem.SetTable PyProof.Rows
def ao2:List Nat->Nat->Bool
 | [],_=>true
 | x::l,acc=>!acc.testBit x && ao2 l (acc ||| 2 ^ x)
theorem at6:∀ (l:List Nat) (acc:Nat),ao2 l acc=true->l.Nodup/\∀ x∈l,acc.testBit x=false
 | [],_,_=>⟨bi6,(fun _ h=>nomatch h)⟩
 | x::l,acc,h=>by
  unfold ao2 at h
  rw[B4]at h
  obtain⟨h1,h2⟩:=h
  obtain⟨n,m⟩:=at6 l _ h2
  have m':∀ y∈l,acc.testBit y=false/\x≠y:=fun y hy=>by
   have:=m y hy
   rw[Nat.testBit_or,Bool.or_eq_false_iff,bS7]at this
   exact⟨this.1,of_decide_eq_false this.2⟩
  refine⟨E6.mpr ⟨fun hx=>(m' x hx).2 rfl,n⟩,fun y hy=>?_⟩
  rcases d8.mp hy with rfl | hy
  ·simpa using h1
  ·exact(m' y hy).1
def hp (n:Nat):Nat:=bits (reduceHash (Builtin.Tuple.tupleHashOf [hashInt ((n / 24:Nat):Int),hashInt ((n % 24:Nat):Int)])) % 3708
set_option maxRecDepth 100000 in
theorem cb2:ao2 ((u7 576).map hp) 0=true:=by decide +kernel
theorem cb1 {a b:Nat}(ha:a<576)(hb:b<576)(h:hp a=hp b):a=b:=by
 have:=(at6 _ _ cb2).1
 unfold List.Nodup at this
 rw[F5]at this
 rw[A2]at this
 rcases ab5 a b with q | q | q
 ·have:=this a b (by simpa using ha) (by simpa using hb) q
  simp only[aj2]at this
  exact absurd h this
 ·exact q
 ·have:=this b a (by simpa using hb) (by simpa using ha) q
  simp only[aj2]at this
  exact absurd h.symm this
def ay8 (ks:List Int):Prop:=∃ i j:Nat,i<24/\j<24/\ks=[(i:Int),(j:Int)]
theorem ba7 (h1:ay8 k)(h2:ay8 k')(e:y9 (B7 prog w) k=y9 (B7 prog w) k'):k=k':=by
 obtain⟨i,j,hi,hj,rfl⟩:=h1
 obtain⟨i',j',hi',hj',rfl⟩:=h2
 have e2:hp (24*i+j)=hp (24*i'+j'):=by
  unfold hp
  rw[show (24*i+j) / 24=i by omega,show (24*i+j) % 24=j by omega,show (24*i'+j') / 24=i' by omega,show (24*i'+j') % 24=j' by omega]
  exact congrArg (fun z=>bits z % 3708) e
 have:=cb1 (by omega) (by omega) e2
 have h3:i=i':=by omega
 have h4:j=j':=by omega
 rw[h3,h4]
def ap1 (prog:Program)(w:World)(h:Heap)(k:List Int)(e:En):Prop:=∃ a,e.2=.ref a/\M6 (B7 prog w) h k a/\e.1=y9 (B7 prog w) k
def az5 (prog:Program)(w:World)(hk h:Heap)(S:Addr)(ks:List (List Int)):Prop:=
 ∃ o es ep t,h.get? S=some o/\o.ExactSet/\o.data=.set es ep t/\Tb t es/\es.size=ks.length/\ks.Nodup/\(∀ k∈ks,ay8 k)/\(∀ k∈ks,∃ e∈es.toList,ap1 prog w hk k e)/\∀ e∈es.toList,∃ k∈ks,ap1 prog w hk k e
theorem bA4 (x:M6 (B7 prog w) h k a)(hs:∀ b o,h.get? b=some o->h'.get? b=some o):M6 (B7 prog w) h' k a:=by
 obtain⟨o,items,n,h2,h3⟩:=x
 exact⟨o,items,n,hs a o h2,h3⟩
theorem ap1.up {e:En}(x:ap1 prog w h k e)(hs:∀ b o,h.get? b=some o->h'.get? b=some o):ap1 prog w h' k e:=by
 obtain⟨a,h1,h2,h6⟩:=x
 exact⟨a,h1,bA4 h2 hs,h6⟩
theorem ap1.inj {e:En}(x:ap1 prog w h k e)(y:ap1 prog w h k' e):k=k':=by
 obtain⟨a,h1,h2,_⟩:=x
 obtain⟨b,h3,h4,_⟩:=y
 rw[h1]at h3
 cases h3
 exact h2.inj h4
theorem bh6 (x:Addr)(es:Array En):byScan (.ref x) es=false:=by
 unfold byScan Value.scannable
 rfl
theorem aw8 {x:Addr}{Q:Bool->Shared->Prop}(hx:M6 (B7 prog w) s.heap k x)(h:Q true s):p9 (x8 prog w) A (bo4 8 (.ref x)) Q E s:=by
 have hT:=hx.typeIs
 obtain⟨o,items,n,ho,hc,hd,hi⟩:=hx
 unfold bo4
 refine b7 (wpAny_specialOf hT F.slot_tuple_hash.lookup ?_)
 dsimp only
 refine b7 (J1 ho hd ?_)
 show p9 _ _ (forIn items _ _ >>= _) _ _ s
 rw[<- ai5]
 have hv:∀ v∈items.toList,∃ i t,v=.int i t:=fun v hv=>by
  clear ho hd
  generalize items.toList=l at hi hv
  induction hi with
  | nil=>cases hv
  | cons h1 _ ih =>
   rcases d8.mp hv with rfl | hv
   ·obtain⟨t,e⟩:=Value.isInt_shape h1
    exact⟨_,t,e⟩
   ·exact ih hv
 refine b7 (bc9 _ (fun rest r s'=>r.1=none/\s'=s/\∀ v∈rest,∃ i t,v=.int i t) _ ?_ ?_ _ _ ⟨rfl,rfl,hv⟩)
 ·rintro v rest r s' ⟨hr,rfl,hall⟩
  obtain⟨i,t,rfl⟩:=hall v c9
  have e:bo4 7 (.int i t)=pure true:=by unfold bo4;rfl
  rw[e]
  refine b7 (d4 ?_)
  simp only[U6,m7,if_false]
  exact d4 ⟨rfl,rfl,fun u hu'=>hall u (c7 _ hu')⟩
 ·rintro⟨r1,r2⟩ s' ⟨hr,rfl,_⟩
  simp only at hr
  subst hr
  exact d4 h
theorem aJ0 {S x:Addr}{o:Obj}{es:Array En}{ep:Nat}{h:Int}{Q:SetFound->Shared->Prop}(ho:s.heap.get? S=some o)(hd:o.data=.set es ep t)(T:Tb t es)(hh:∀ e∈es.toList,e.1≠h)
  (hq:∀ n,n<10*turns t.mask->(∀ i:Nat,t.place[i]?≠some (it t n (t.probeStart h)).j)->(it t n (t.probeStart h)).j<=t.mask->(∀ k,k<n->∃ i':Nat,t.place[i']?=some (it t k (t.probeStart h)).j)->Q (.free (it t n (t.probeStart h)).j false) s) :
  p9 (x8 prog w) A (bT9 S (.ref x) h true) Q E s:=by
 obtain⟨n,h1,h2,h3,h4,h5⟩:=T.absent hh
 unfold bT9 aN4
 refine b7 (V2 ho hd T.fits ?_)
 dsimp only
 rw[T.odd]
 simp only[m7,if_false]
 split
 ·rename_i met hm
  have e:=hm.symm.trans h5
  cases e
  exact d4 (hq n h1 h2 h3 h4)
 ·rename_i hm
  exact absurd h5 (fun z=>hm _ z)
theorem bb7 {x:Addr}{Q:Bool->Shared->Prop}(hx:M6 (B7 prog w) s.heap k x)(h:Q false s):p9 (x8 prog w) A (aq6 8 (.ref x)) Q E s:=by
 have hT:=hx.typeIs
 obtain⟨o,items,n,ho,hc,hd,hi⟩:=hx
 unfold aq6
 refine b7 (bT5 hT ?_)
 dsimp only
 rw[if_pos (by decide)]
 refine b7 (d4 ?_)
 simp only[U6,m7,if_false]
 refine b7 (J1 ho hd ?_)
 dsimp only
 rw[<- ai5]
 have hv:∀ v∈items.toList,∃ i t,v=.int i t:=fun v hv=>by
  clear ho hd
  generalize items.toList=l at hi hv
  induction hi with
  | nil=>cases hv
  | cons h1 _ ih =>
   rcases d8.mp hv with rfl | hv
   ·obtain⟨t,e⟩:=Value.isInt_shape h1
    exact⟨_,t,e⟩
   ·exact ih hv
 refine b7 (bc9 _ (fun rest r s'=>r.1=none/\s'=s/\∀ v∈rest,∃ i t,v=.int i t) _ ?_ ?_ _ _ ⟨rfl,rfl,hv⟩)
 ·rintro v rest r s' ⟨hr,rfl,hall⟩
  obtain⟨i,t,rfl⟩:=hall v c9
  have e:aq6 7 (.int i t)=pure false:=by unfold aq6;rfl
  rw[e]
  refine b7 (d4 ?_)
  simp only[m7,if_false]
  exact d4 ⟨rfl,rfl,fun u hu'=>hall u (c7 _ hu')⟩
 ·rintro⟨r1,r2⟩ s' ⟨hr,rfl,_⟩
  simp only at hr
  subst hr
  exact d4 h
theorem bU5 {x:Addr}{l:List Value}{Q:Bool->Shared->Prop}(hx:M6 (B7 prog w) s.heap k x)(hl:∀ v∈l,∃ a k',v=.ref a/\M6 (B7 prog w) s.heap k' a)(h:Q false s) :
  p9 (x8 prog w) A (searchCouldBeSeen (.ref x) l) Q E s:=by
 unfold searchCouldBeSeen
 refine b7 (bc9 _ (fun rest r s'=>r.1=none/\s'=s/\∀ v∈rest,∃ a k',v=.ref a/\M6 (B7 prog w) s.heap k' a) _ ?_ ?_ _ _ ⟨rfl,rfl,hl⟩)
 ·rintro v rest r s' ⟨hr,rfl,hall⟩
  obtain⟨a,k',rfl,ha⟩:=hall v c9
  have hrest:∀ v∈rest,∃ a k',v=.ref a/\M6 (B7 prog w) s'.heap k' a:=fun u hu'=>hall u (c7 _ hu')
  dsimp only
  split
  ·exact d4 ⟨rfl,rfl,hrest⟩
  ·refine b7 (bU0 hx ?_)
   simp only[U6,m7,if_false]
   refine b7 (bU0 ha ?_)
   simp only[U6,m7,if_false]
   refine b7 (bb7 hx ?_)
   simp only[m7,if_false]
   refine b7 (bb7 ha ?_)
   simp only[m7,if_false]
   exact d4 ⟨rfl,rfl,hrest⟩
 ·rintro⟨r1,r2⟩ s' ⟨hr,rfl,_⟩
  simp only at hr
  subst hr
  exact d4 h
theorem aD2 {S x:Addr}{o:Obj}{es:Array En}{ep:Nat}{e:En}{Q:SetFound->Shared->Prop}(hu:A.units<av2)(ho:s.heap.get? S=some o)(hd:o.data=.set es ep t)(T:Tb t es)
  (hx:M6 (B7 prog w) s.heap k x)(he:es[i]?=some e)(hk:ap1 prog w s.heap k e)(hall:∀ e∈es.toList,∃ k,ap1 prog w s.heap k e)(huq:∀ (c:Nat) (e':En),es[c]?=some e'->e'.1=e.1->c=i)
  (hq:Q (.there none) s):p9 (x8 prog w) A (bT9 S (.ref x) (y9 (B7 prog w) k) true) Q E s:=by
 obtain⟨y,hy1,hy2,hy3⟩:=hk
 obtain⟨j,q,hp⟩:=T.present he huq
 rw[hy3]at hp
 unfold bT9 aN4
 refine b7 (V2 ho hd T.fits ?_)
 dsimp only
 rw[T.odd]
 simp only[m7,if_false]
 have fin:p9 (x8 prog w) A (do
   let some (_,y):=es[i]? | aj6 "internal:set-entry"
   let equal <- aI5 [y] (eqBool y (.ref x))
   let (es',_,t') <- setState S
   if true && equal then return .there none
   let some same:=t'.sameMemory t.moves t.mask | aj6 "set.changed-during-lookup:is-the-new-block-at-the-old-address"
   let still <- match (if same then t'.slot j else .empty) with
    | .live i'=>match es'[i']? with
     | some (_,y')=>do pure (if <- isSame y' y then some i' else none)
     | none=>pure none
    | _=>pure none
   match still with
   | none=>rule "set.search.anew";aN4 S (.ref x) (y9 (B7 prog w) k) true 99999 none
   | some i'=>if equal then return .there (some i') else aN4 S (.ref x) (y9 (B7 prog w) k) true 99999 (some q)) Q E s:=by
  rw[he]
  obtain⟨e1,e2⟩:=e
  have hy1:e2=.ref y:=hy1
  subst hy1
  dsimp only
  refine b7 (C9 (wpAny_eqBool_tuple hu hy2 hx ?_))
  refine b7 (V2 ho hd T.fits ?_)
  dsimp only
  rw[decide_eq_true rfl]
  simp only[Bool.and_self,if_true]
  exact d4 hq
 split
 ·rename_i met hm
  have e9:=hm.symm.trans hp
  cases e9
  dsimp only
  cases hled:t.led with
  | true =>
   simp only[U6,m7,if_false]
   exact fin
  | false =>
   simp only[Bool.not_false,if_true]
   refine b7 (bU5 hx (fun v hv=>?_) ?_)
   ·rw[u5]at hv
    obtain⟨e',he',rfl⟩:=hv
    have he'':e'∈es.toList:=by
     have:=Array.mem_filter.mp (bF7.mp he')
     exact bF7.mpr this.1
    obtain⟨k',a,h1,h2,_⟩:=hall e' he''
    exact⟨a,k',h1,h2⟩
   ·simp only[m7,if_false]
    exact fin
 ·rename_i hm
  exact absurd hp (fun z=>hm _ z)
theorem thr {m:Nat}(g:Good m)(h1:n*5<m*3)(h2:m*3<=(n+1)*5)(h3:n<300):(m=7/\n+1=5)\/(m=31/\n+1=19)\/(m=127/\n+1=77):=by
 rcases g with rfl | rfl | rfl | rfl<;>omega
theorem bh0 {m:Nat}(g:Good m)(h1:n*5<m*3)(h2:m*3<=(n+1)*5)(h3:n<300):Good (sizeAbove (grown (n+1)) - 1)/\(n+1)*5<(sizeAbove (grown (n+1)) - 1)*3/\sizeAbove (grown (n+1))<=4096:=by
 rcases thr g h1 h2 h3 with⟨_,e⟩ | ⟨_,e⟩ | ⟨_,e⟩<;>rw[e]<;>refine⟨?_,by decide +kernel,by decide +kernel⟩
 ·exact .inr (.inl (by decide +kernel))
 ·exact .inr (.inr (.inl (by decide +kernel)))
 ·exact .inr (.inr (.inr (by decide +kernel)))
theorem bI0 {es:Array En}(T:Tb' t es):t.tooFull=decide (t.mask*3<=es.size*5):=by
 unfold tooFull PySem.SetTable.fill
 rw[T.dum,T.len]
 rfl
theorem stored {S:Addr}{o:Obj}{es es':Array En}{ep:Nat}{t':SetTable}(ho:h.get? S=some o)(hd:o.data=.set es ep t) :
  (h.update S (Obj.putSet es' t')).get? S=some { o with data:=.set es' (ep+1) t' }:=by
 have:=U0 (Obj.putSet es' t') ho (by rw[putSet_of es' t' hd];rfl)
 rw[putSet_of es' t' hd]at this
 exact this
theorem aV5 {S x:Addr}{Q:Bool->Shared->Prop}{hp:Heap}(hup:∀ b o,hp.get? b=some o->s.heap.get? b=some o)(hu:A.units<av2)(hS:az5 prog w hp s.heap S ks)(hx0:M6 (B7 prog w) hp k x)(hk:ay8 k)(hn:ks.length<300)
  (hq:∀ (b:Bool) (h':Heap) (tk:Nat),s.toks<=tk->Heap.SameBut S s.heap h'->az5 prog w hp h' S (if k∈ks then ks else k::ks)->Q b { s with heap:=h',toks:=tk }) :
  p9 (x8 prog w) A (setAdd S (.ref x)) Q E s:=by
 have hx:=bA4 hx0 hup
 unfold setAdd
 refine C9 (b7 (wpAny_pyHash_tuple hu hx ?_))
 obtain⟨o,es,ep,t,ho,hex,hd,T,hsz,hnd,hok,hto,hfrom⟩:=hS
 unfold setAddHashed
 refine C9 ?_
 unfold setAddHashedIn
 refine b7 (V2 (s:={ s with toks:=s.toks+(k.length+1) }) ho hd T.fits ?_)
 dsimp only
 rw[bh6]
 simp only[m7,if_false]
 by_cases hmem:k∈ks
 ·-- it is there
  obtain⟨e,he,hek⟩:=hto k hmem
  obtain⟨i,hi⟩:=p6.mp he
  rw[d9]at hi
  have huq:∀ (c:Nat) (e':En),es[c]?=some e'->e'.1=e.1->c=i:=fun c e' hc hh=>by
   apply Classical.byContradiction
   intro hci
   have hkey:∀ (c:Nat),c<es.size->∃ kk,kk∈ks/\∃ e,es[c]?=some e/\ap1 prog w hp kk e:=fun c hc=>by
    have e:=getElem?_pos es c hc
    obtain⟨kk,h1,h2⟩:=hfrom es[c] (by simp)
    exact⟨kk,h1,_,e,h2⟩
   have e'k:ap1 prog w hp k e':=by
    obtain⟨kk,h1,h2⟩:=hfrom e' (i7 (by rw[d9];exact hc))
    have h3:=h2
    obtain⟨_,_,_,h4⟩:=h2
    have h5:=hek
    obtain⟨_,_,_,h6⟩:=h5
    have:kk=k:=ba7 (prog:=prog) (w:=w) (hok kk h1) hk (by rw[<- h4,hh,h6])
    rw[<- this]
    exact h3
   have hch:∀ n,n<ks.length->∃ c,c<es.size/\∃ e,es[c]?=some e/\∃ kk,ks[n]?=some kk/\ap1 prog w hp kk e:=fun n hn'=>by
    obtain⟨e,he,hek⟩:=hto ks[n] (aT2 hn')
    obtain⟨c,hc⟩:=p6.mp he
    rw[d9]at hc
    exact⟨c,(getElem?_eq_some_iff.mp hc).1,e,hc,ks[n],k9 hn',hek⟩
   have:=aQ0 (es.size - 1) ks.length (fun n=>if hn':n<ks.length then (let c0:=Classical.choose (hch n hn');let c1:=if c0=c then i else c0;if c1<c then c1 else c1 - 1) else 0) ?_ ?_
   ·have hc':=(getElem?_eq_some_iff.mp hc).1
    omega
   ·intro n hn'
    dsimp only
    rw[dif_pos hn']
    have hp:=Classical.choose_spec (hch n hn')
    generalize Classical.choose (hch n hn')=c0 at hp
    obtain⟨p1,_⟩:=hp
    have hc':=(getElem?_eq_some_iff.mp hc).1
    have hi':=(getElem?_eq_some_iff.mp hi).1
    split<;>split<;>omega
   ·intro n n' hn1 hn2 eqn
    dsimp only at eqn
    rw[dif_pos hn1,dif_pos hn2]at eqn
    have hp:=Classical.choose_spec (hch n hn1)
    have hp':=Classical.choose_spec (hch n' hn2)
    generalize Classical.choose (hch n hn1)=c0 at hp eqn
    generalize Classical.choose (hch n' hn2)=c0' at hp' eqn
    obtain⟨p1,e1,p2,kk,p3,p4⟩:=hp
    obtain⟨p1',e1',p2',kk',p3',p4'⟩:=hp'
    have same:kk=kk':=by
     have r1:ap1 prog w hp kk (if c0=c then e else e1):=by
      split
      ·rename_i hcc
       subst hcc
       rw[hc]at p2
       cases p2
       have:=p4.inj e'k
       rw[this]
       exact hek
      ·exact p4
     have r2:ap1 prog w hp kk' (if c0'=c then e else e1'):=by
      split
      ·rename_i hcc
       subst hcc
       rw[hc]at p2'
       cases p2'
       have:=p4'.inj e'k
       rw[this]
       exact hek
      ·exact p4'
     have g1:es[if c0=c then i else c0]?=some (if c0=c then e else e1):=by split<;>assumption
     have g2:es[if c0'=c then i else c0']?=some (if c0'=c then e else e1'):=by split<;>assumption
     have ne1:(if c0=c then i else c0)≠c:=by split<;>omega
     have ne2:(if c0'=c then i else c0')≠c:=by split<;>omega
     have eqc:(if c0=c then i else c0)=(if c0'=c then i else c0'):=by
      generalize (if c0=c then i else c0)=u at eqn ne1
      generalize (if c0'=c then i else c0')=v at eqn ne2
      split at eqn<;>split at eqn<;>omega
     rw[eqc,g2]at g1
     rw[<- Option.some.inj g1]at r1
     exact r1.inj r2
    subst same
    obtain⟨q1,q2⟩:=j5.mp p3
    obtain⟨q3,q4⟩:=j5.mp p3'
    rcases ab5 n n' with z | z | z
    ·exact absurd (q2.trans q4.symm) (A2.mp hnd n n' q1 q3 z)
    ·exact z
    ·exact absurd (q4.trans q2.symm) (A2.mp hnd n' n q3 q1 z)
  refine b7 (aD2 (s:={ s with toks:=s.toks+(k.length+1) }) hu ho hd T hx hi (hek.up hup) (fun e he=>?_) huq ?_)
  ·obtain⟨kk,_,h2⟩:=hfrom e he
   exact⟨kk,h2.up hup⟩
  ·refine d4 ?_
   have:=hq false s.heap (s.toks+(k.length+1)) (W7 _ _) (Heap.SameBut.refl S s.heap)
   rw[if_pos hmem]at this
   exact this ⟨o,es,ep,t,ho,hex,hd,T,hsz,hnd,hok,hto,hfrom⟩
 ·-- it is new
  have hh:∀ e∈es.toList,e.1≠y9 (B7 prog w) k:=fun e he z=>by
   obtain⟨kk,h1,h2⟩:=hfrom e he
   obtain⟨_,_,_,h4⟩:=h2
   have:kk=k:=ba7 (prog:=prog) (w:=w) (hok kk h1) hk (by rw[<- h4,z])
   exact hmem (this ▸ h1)
  refine b7 (aJ0 (s:={ s with toks:=s.toks+(k.length+1) }) ho hd T hh fun n hn1 hfr hle hocc=>?_)
  dsimp only
  refine b7 (V2 (s:={ s with toks:=s.toks+(k.length+1) }) ho hd T.fits ?_)
  dsimp only
  obtain⟨hp1,T1⟩:=T.put (h:=y9 (B7 prog w) k) (x:=Value.ref x) hn1 hfr hle hocc
  generalize hpt:t.put (it t n (t.probeStart (y9 (B7 prog w) k))).j=tp at hp1 T1 ⊢
  have hled:tp.1.mask=t.mask:=by
   rw[<- hpt]
   unfold SetTable.put
   rfl
  obtain⟨t1,p⟩:=tp
  dsimp only at hp1 T1 hled ⊢
  have hsz1:(insertAt es p (y9 (B7 prog w) k,Value.ref x)).size=es.size+1:=as5 hp1
  have fits1:(insertAt es p (y9 (B7 prog w) k,Value.ref x)).size<=j8:=by rw[hsz1,hsz,E8];omega
  have made:∀ (h':Heap) (o':Obj) (es':Array En) (ep':Nat) (t':SetTable),Heap.SameBut S s.heap h'->h'.get? S=some o'->o'.ExactSet->o'.data=.set es' ep' t'->Tb t' es' ->
    es'.toList.Perm (insertAt es p (y9 (B7 prog w) k,Value.ref x)).toList->az5 prog w hp h' S (k::ks):=fun h' o' es' ep' t' hsb ho' hex' hd' T' hpm=>by
   have hmemE:∀ e,e∈es'.toList↔e=(y9 (B7 prog w) k,Value.ref x)\/e∈es.toList:=fun e=>by rw[hpm.mem_iff];exact bM2 hp1 e
   have hnew:ap1 prog w hp k (y9 (B7 prog w) k,Value.ref x):=⟨x,rfl,hx0,rfl⟩
   refine⟨o',es',ep',t',ho',hex',hd',T',?_,E6.mpr ⟨hmem,hnd⟩,fun kk hkk=>?_,fun kk hkk=>?_,fun e he=>?_⟩
   ·have:=hpm.length_eq
    rw[l4,l4,hsz1,hsz]at this
    rw[this,o4]
   ·rcases d8.mp hkk with rfl | hkk
    ·exact hk
    ·exact hok kk hkk
   ·rcases d8.mp hkk with rfl | hkk
    ·exact⟨_,(hmemE _).mpr (.inl rfl),hnew⟩
    ·obtain⟨e,he,hek⟩:=hto kk hkk
     exact⟨e,(hmemE e).mpr (.inr he),hek⟩
   ·rcases(hmemE e).mp he with rfl | he
    ·exact⟨k,c9,hnew⟩
    ·obtain⟨kk,h1,h2⟩:=hfrom e he
     exact⟨kk,c7 _ h1,h2⟩
  have rest:∀ b:Bool,p9 (x8 prog w) A (do
    storeSet S (insertAt es p (y9 (B7 prog w) k,Value.ref x)) (if b=true then t1 else { t1 with plain:=false })
    if (!false && (if b=true then t1 else { t1 with plain:=false }).tooFull)=true then do
     setRelay S (grown (es.size+1))
     pure true
    else pure true) Q E { s with toks:=s.toks+(k.length+1) }:=fun b=>by
   have T2:Tb' (if b=true then t1 else { t1 with plain:=false }) (insertAt es p (y9 (B7 prog w) k,Value.ref x)):=by
    split
    ·exact T1
    ·exact T1.plain false
   have hm2:(if b=true then t1 else { t1 with plain:=false }).mask=t.mask:=by split<;>exact hled
   generalize (if b=true then t1 else { t1 with plain:=false })=t2 at T2 hm2
   refine b7 (wpAny_storeSet_of (s:={ s with toks:=s.toks+(k.length+1) }) ho hd ?_ fits1)
   have ho1:=stored (es':=insertAt es p (y9 (B7 prog w) k,Value.ref x)) (t':=t2) ho hd
   have hsb1:=Heap.SameBut.update s.heap S (Obj.putSet (insertAt es p (y9 (B7 prog w) k,Value.ref x)) t2)
   rw[bI0 T2]
   simp only[Bool.not_false,Bool.true_and,decide_eq_true_eq]
   by_cases hful:t2.mask*3<=(insertAt es p (y9 (B7 prog w) k,Value.ref x)).size*5
   ·rw[if_pos hful]
    rw[hsz1,hm2]at hful
    obtain⟨g1,g2,g3⟩:=bh0 T.good T.nf hful (by rw[hsz];exact hn)
    unfold setRelay
    refine b7 (b7 (V2 (s:={ s with heap:=s.heap.update S (Obj.putSet (insertAt es p (y9 (B7 prog w) k,Value.ref x)) t2),toks:=s.toks+(k.length+1) }) ho1 rfl T2.fits ?_))
    dsimp only
    rw[if_neg (by rw[E8];omega)]
    obtain⟨t3,order,hl3,T3,hpm3⟩:=bM8 (M:=sizeAbove (grown (es.size+1)) - 1) (finger:=t2.finger) (moves:=t2.movedTo (sizeAbove (grown (es.size+1)) - 1)) (led:=t2.led) (plain:=t2.plain) (es:=insertAt es p (y9 (B7 prog w) k,Value.ref x)) g1 (by rw[hsz1];exact g2)
    have hrel:t2.relaid ((insertAt es p (y9 (B7 prog w) k,Value.ref x)).map (·.1)) (grown (es.size+1))=some (t3,order):=by
     unfold relaid
     exact hl3
    rw[hrel]
    have hsz3:(order.filterMap ((insertAt es p (y9 (B7 prog w) k,Value.ref x))[·]?)).size=(insertAt es p (y9 (B7 prog w) k,Value.ref x)).size:=by
     rw[<- l4,hpm3.length_eq,l4]
    refine b7 ?_
    show p9 _ _ (if ((order.filterMap ((insertAt es p (y9 (B7 prog w) k,Value.ref x))[·]?)).size != (insertAt es p (y9 (B7 prog w) k,Value.ref x)).size)=true then _ else _) _ _ _
    rw[if_neg (by rw[hsz3];simp)]
    first | refine d4 ?_ | refine b7 (d4 (d4 ?_))
    dsimp only
    refine wpAny_storeSet_of (s:={ s with heap:=s.heap.update S (Obj.putSet (insertAt es p (y9 (B7 prog w) k,Value.ref x)) t2),toks:=s.toks+(k.length+1) }) ho1 rfl ?_ (by rw[hsz3];exact fits1)
    refine d4 ?_
    have ho2:=stored (es':=order.filterMap ((insertAt es p (y9 (B7 prog w) k,Value.ref x))[·]?)) (t':=t3) ho1 rfl
    have hsb2:=hsb1.trans (Heap.SameBut.update _ S (Obj.putSet (order.filterMap ((insertAt es p (y9 (B7 prog w) k,Value.ref x))[·]?)) t3))
    have:=hq true _ (s.toks+(k.length+1)) (W7 _ _) hsb2
    rw[if_neg hmem]at this
    exact this (made _ _ _ _ _ hsb2 ho2 hex rfl T3 hpm3)
   ·rw[if_neg hful]
    refine d4 ?_
    have:=hq true _ (s.toks+(k.length+1)) (W7 _ _) hsb1
    rw[if_neg hmem]at this
    exact this (made _ _ _ _ _ hsb1 ho1 hex rfl (T2.full (by omega)) (List.Perm.refl _))
  cases hpl:t1.plain with
  | true =>
   rw[if_pos rfl]
   refine b7 (aw8 (s:={ s with toks:=s.toks+(k.length+1) }) hx ?_)
   exact rest true
  | false =>
   rw[if_neg k7]
   refine b7 (d4 ?_)
   exact rest true
def aa8 (ks:List (List Int))(k:List Int):List (List Int):=if k∈ks then ks else k::ks
theorem bB1 (ks:List (List Int))(k:List Int):(aa8 ks k).length<=ks.length+1:=by unfold aa8;split<;>simp
theorem aB2:∀ (l ks:List (List Int)),(l.foldl aa8 ks).length<=ks.length+l.length
 | [],ks=>by simp
 | k::l,ks=>by
  rw[ag4]
  have h1:=aB2 l (aa8 ks k)
  have h2:=bB1 ks k
  rw[o4]
  omega
theorem ax1:∀ (l ks:List (List Int)),(l.foldl aa8 ks).length=ks.length+l.length↔l.Nodup/\∀ x∈l,x∉ks
 | [],ks=>by simp
 | k::l,ks=>by
  rw[ag4,o4,E6]
  by_cases h:k∈ks
  ·have e:aa8 ks k=ks:=by unfold aa8;rw[if_pos h]
   rw[e]
   have:=aB2 l ks
   constructor
   ·intro q;omega
   ·rintro⟨_,q⟩
    exact absurd h (q k c9)
  ·have e:aa8 ks k=k::ks:=by unfold aa8;rw[if_neg h]
   rw[e]
   have:=ax1 l (k::ks)
   rw[o4]at this
   constructor
   ·intro q
    obtain⟨q1,q2⟩:=this.mp (by omega)
    refine⟨⟨fun hk=>q2 k hk c9,q1⟩,fun x hx=>?_⟩
    rcases d8.mp hx with rfl | hx
    ·exact h
    ·exact fun z=>q2 x hx (c7 _ z)
   ·rintro⟨⟨q1,q2⟩,q3⟩
    have:=this.mpr ⟨q2,fun x hx z=>by
     rcases d8.mp z with rfl | z
     ·exact q1 hx
     ·exact q3 x (c7 _ hx) z⟩
    omega
theorem aU6 {R:Result->Shared->Prop}{I:Addr}{wr:List Addr}{G:Array bG5->Array bG5->Prop}{P:Nat->Value->Prop}{St:Nat->Shared->Prop}
  (W:WalksS prog w A.in1 I fp wr G n P St)(hu:A.in1.units<av2)(S:Addr)(hSf:S∉fp)(hp:Heap)(hS0:hp.get? S=none)(hw0:∀ b∈wr,hp.get? b=none)(keys:List (List Int))(hn:keys.length=n)(hb:n<300)
  (hkey:∀ i v,P i v->∃ x k,v=.ref x/\keys[i]?=some k/\ay8 k/\M6 (B7 prog w) hp k x) :
  ∀ (c i:Nat) (s:Shared),n - i=c->i<=n->St i s->(∀ b o,hp.get? b=some o->s.heap.get? b=some o)->az5 prog w hp s.heap S ((keys.take i).foldl aa8 []) ->
   (∀ s',Moved (S::wr) G s s'->az5 prog w hp s'.heap S (keys.foldl aa8 [])->R (.ok (.ret .none)) s') ->
   ar9 (x8 prog w) A (.builtin "set.update.loop" ⟨[.ref S,.ref I],[]⟩) R s:=by
 have hSw:S∉wr:=fun h=>hSf (W.sub _ h)
 have hsub:∀ b∈wr,b∈S::wr:=fun b hb=>c7 _ hb
 have nw:∀ b o,hp.get? b=some o->b∉wr:=fun b o e hm=>by rw[hw0 b hm]at e;cases e
 have nS:∀ b o,hp.get? b=some o->b≠S:=fun b o e hm=>by rw[hm,hS0]at e;cases e
 have setKept:∀ {s s':Shared} {ks:List (List Int)},az5 prog w hp s.heap S ks->(∀ b o,b∉wr->s.heap.get? b=some o->s'.heap.get? b=some o)->az5 prog w hp s'.heap S ks:=fun {s s' ks} hS hk=>by
  obtain⟨o,es,ep,t,ho,rest⟩:=hS
  exact⟨o,es,ep,t,hk S o hSw ho,rest⟩
 intro c
 induction c with
 | zero =>
  intro i s hk hi hst hup hS hR
  have hin:i=n:=by omega
  subst hin
  refine O1 PyProof.Rows.F.entry_set_update_loop ?_
  rw[Around.under_plainId PyProof.Rows.F.plain_set_update_loop _]
  show p9 _ A.in1 (aM9 (.ref I) >>= _) _ _ s
  refine b7 (W.done s _ _ hst fun s' hm=>?_)
  show p9 _ A.in1 (ret Value.none) _ _ s'
  refine d4 (hR s' (hm.mono hsub) ?_)
  have:=setKept hS hm.heap
  rw[j7 (by omega)]at this
  exact this
 | succ c ih =>
  intro i s hk hi hst hup hS hR
  have hlt:i<n:=by omega
  refine O1 PyProof.Rows.F.entry_set_update_loop ?_
  rw[Around.under_plainId PyProof.Rows.F.plain_set_update_loop _]
  show p9 _ A.in1 (aM9 (.ref I) >>= _) _ _ s
  refine b7 (W.item i s _ _ hlt hst fun v s' hP hst' hm=>?_)
  obtain⟨x,k,rfl,hki,hok,hx⟩:=hkey i v hP
  have hup':∀ b o,hp.get? b=some o->s'.heap.get? b=some o:=fun b o e=>hm.heap b o (nw b o e) (hup b o e)
  have hS':=setKept (s':=s') hS hm.heap
  show p9 _ A.in1 (aI5 [Value.ref x] (setAdd S (.ref x)) >>= _) _ _ s'
  refine b7 (C9 ?_)
  have hlen:((keys.take i).foldl aa8 []).length<300:=by
   have:=aB2 (keys.take i) []
   rw[o8]at this
   simp only[List.length_nil]at this
   omega
  refine aV5 hup' hu hS' hx hok hlen fun b h' tk htk hsb hS2=>?_
  have hS3:az5 prog w hp h' S ((keys.take (i+1)).foldl aa8 []):=by
   rw[u9,hki,List.foldl_append]
   exact hS2
  refine d4 ⟨ah1 PyProof.Rows.F.plain_set_update_loop _,ih (i+1) _ (by omega) hlt (W.frame _ s' _ _ hst' htk fun b hb o e=>?_) (fun b o e=>?_) hS3 fun s'' hm'' hS''=>?_⟩
  ·rw[hsb.2 b (fun h:b=S=>hSf (h ▸ hb))];exact e
  ·show h'.get? b=some o
   rw[hsb.2 b (nS b o e)]
   exact hup' b o e
  ·refine hR s'' (Moved.trans W.gtrans ((hm.mono hsub).then_heap htk fun b o hb e=>?_) hm'') hS''
   rw[hsb.2 b (fun h:b=S=>hb (h ▸ c9))];exact e
set_option maxRecDepth 100000 in
set_option maxHeartbeats 3200000 in
theorem aV4 {l:Addr}{items:Array Value}{keys:List (List Int)}(hh:A.handled=none)(hu:A.units+8<av2)(hl:s.heap.IsList l items)(hn:keys.length=items.size)(hb:items.size<300)
  (hkey:∀ (i:Nat) (v:Value),items[i]?=some v->∃ x k,v=.ref x/\keys[i]?=some k/\ay8 k/\M6 (B7 prog w) s.heap k x)
  (h:∀ (h':Heap) (tk:Nat),az5 prog w s.heap h' s.heap.objs.size (keys.foldl aa8 [])->(∀ b o,s.heap.get? b=some o->h'.get? b=some o)->Q (.ref s.heap.objs.size) { s with heap:=h',toks:=tk }) :
  p9 (x8 prog w) A (call (.type "set") [.ref l]) Q E s:=by
 obtain⟨c,tl,hmro⟩:=F.called_set.mro
 have hmade:=F.called_set.made
 have hsub:=F.called_set.sub
 refine aU0 (codeAny_of_tree ?_)
 show p9 _ _ (callAny (.type "set") _) _ _ _
 refine d4 ⟨Code.quiet_builtin _ (by decide +kernel),O1 F.entry_type_call ?_⟩
 rw[Around.under_plain (bU1 "set" [.ref l] []) rfl]
 have h1:=F.called_set.notType
 have h2:=F.called_set.canCreate
 have hct:=F.typeCall_set_1 (.ref l)
 repeat (any_goals (first | assumption | wp_step))
 refine Z5 (code_set_new_1 (.ref l) (E:=E) (Q₁:=fun obj s₁=>∃ led:Bool,obj=.ref s.heap.objs.size/\s₁={ s with heap:=s.heap.push { cls:=.type "set",dict:=none,data:=.set #[] 0 (.fresh 0 0 led) } }) fun led=>⟨led,rfl,rfl⟩) fun r s₁ hr=>?_
 cases r with
 | error e=>exact hr
 | ok fl =>
  cases fl with
  | ret obj =>
   obtain⟨led,rfl,rfl⟩:=hr
   have hS:(s.heap.push { cls:=.type "set",dict:=none,data:=.set #[] 0 (.fresh 0 0 led) }).get? s.heap.objs.size=some { cls:=.type "set",dict:=none,data:=.set #[] 0 (.fresh 0 0 led) }:=l5 _ rfl
   have hT:Shared.TypeIs { s with heap:=s.heap.push { cls:=.type "set",dict:=none,data:=.set #[] 0 (.fresh 0 0 led) } } (.ref s.heap.objs.size) "set":=⟨_,hS,rfl⟩
   have hli:=F.called_set.init.lookup
   have hbi:=F.called_set.init.bind (.ref s.heap.objs.size)
   repeat (any_goals (first | assumption | wp_step))
   refine Z5 (aC4 (R:=wants (fun r s₂=>r=.none/\∃ h' tk,s₂={ s with heap:=h',toks:=tk }/\az5 prog w s.heap h' s.heap.objs.size (keys.foldl aa8 [])/\(∀ b o,s.heap.get? b=some o->h'.get? b=some o)) E) F.called_set.init.plain F.entry_set_init (check_set_init_1 hT ?_)) fun r₂ s₂ hr₂=>?_
   ·obtain⟨ol,hol,hcl,nl,hdl⟩:=hl
    obtain⟨ocls,odict,odata,oslots⟩:=ol
    simp only at hcl hdl
    subst hcl;subst hdl
    have hol':(s.heap.push { cls:=.type "set",dict:=none,data:=.set #[] 0 (.fresh 0 0 led) }).get? l=some { cls:=.type "list",dict:=odict,data:=.seq items nl,slots:=oslots }:=c5 _ hol
    have hsls:=F.sub_list_set
    have hslf:=F.sub_list_frozenset
    have hne:(Value.type "list" == Value.type "dict")=false:=by decide
    have hl1:(s.heap.push { cls:=.type "set",dict:=none,data:=.set #[] 0 (.fresh 0 0 led) }).IsList l items:=⟨_,hol',rfl,nl,rfl⟩
    unfold Builtin.«set.__init__» noKeywords Builtin.Frozenset.updateFrom
    generalize hPI:pyIter=PI
    wp_walk
    subst hPI
    refine Q8 hl1 ?_
    refine b7 (wpAny_runValue ?_)
    have hlS:l<s.heap.objs.size:=d6 hol
    have hh3:A.in1.in1.in1.handled=none:=by simp[hh]
    have hneI:l≠(s.heap.push { cls:=.type "set",dict:=none,data:=.set #[] 0 (.fresh 0 0 led) }).objs.size:=by
     rw[G0];exact l6 (E1 hlS)
    have hSf:s.heap.objs.size∉[(s.heap.push { cls:=.type "set",dict:=none,data:=.set #[] 0 (.fresh 0 0 led) }).objs.size,l]:=by
     rw[G0];simp only[d8,B5,R8,or_false,not_or]
     exact⟨l6 (aT6 _),L0 hlS⟩
    refine aU6 ((Walks.list hh3 _ l hneI items).toS) ?hu s.heap.objs.size hSf s.heap ?hn ?hw keys hn hb hkey (items.size - 0) 0 _ (by omega) (v9 _)
     ⟨⟨_,l5 _ rfl,rfl,rfl⟩,(hl1.push _)⟩ (fun b o e=>c5 _ (c5 _ e)) ?hS0 ?hR
    case hu=>show A.units+1+1+1<av2;omega
    case hn=>exact ax7 (c8 _)
    case hw =>
     intro b hb
     have e:b=(s.heap.push { cls:=.type "set",dict:=none,data:=.set #[] 0 (.fresh 0 0 led) }).objs.size:=by simpa using hb
     rw[e]
     exact ax7 (by rw[G0];exact P3 _)
    case hS0 =>
     have hget:((s.heap.push { cls:=.type "set",dict:=none,data:=.set #[] 0 (.fresh 0 0 led) }).push { cls:=.type "list_iterator",data:=.fields #[.ref l,.int 0 0] }).get? s.heap.objs.size
       = some { cls:=.type "set",dict:=none,data:=.set #[] 0 (.fresh 0 0 led) }:=c5 _ hS
     refine⟨_,_,_,_,hget,⟨rfl,rfl,rfl⟩,rfl,⟨rfl,rfl,?_,?_,.inl rfl,by show 0*5<7*3;decide,?_⟩,rfl,bi6,(fun _ h=>nomatch h),(fun _ h=>nomatch h),(fun _ h=>nomatch h)⟩
     ·intro i j a b hij ea
      simp[SetTable.fresh]at ea
     ·intro i j ea
      simp[SetTable.fresh]at ea
     ·intro i e ea
      simp at ea
    case hR =>
     intro s' hm hS'
     obtain⟨h',g',d',tk',os'⟩:=s'
     have eg:g'=s.gens:=hm.gens
     have ed:d'=s.drawn:=hm.drawn
     have eo:os'=s.os:=hm.os
     subst eg;subst ed;subst eo
     show p9 _ _ _ _ _ _
     refine d4 ?_
     show p9 _ _ (ret Value.none) _ _ _
     refine d4 ⟨rfl,h',tk',rfl,hS',fun b o e=>?_⟩
     have hlt:=d6 e
     have hb1:b≠s.heap.objs.size:=l6 hlt
     have hb2:b≠(s.heap.push { cls:=.type "set",dict:=none,data:=.set #[] 0 (.fresh 0 0 led) }).objs.size:=by
      rw[G0];exact l6 (E1 hlt)
     exact hm.heap b o (by simp only[d8,B5,R8,or_false,not_or];exact⟨hb1,hb2⟩) (c5 _ (c5 _ e))
   ·cases r₂ with
    | error e=>exact hr₂
    | ok fl₂ =>
     cases fl₂ with
     | ret r =>
      obtain⟨rfl,h',tk,rfl,hS',hk'⟩:=hr₂
      repeat (any_goals (first | assumption | wp_step))
      exact h _ _ hS' hk'
     | _=>exact hr₂.elim
  | _=>exact hr.elim
theorem bg5 {S:Addr}{hp:Heap}(hS:az5 prog w hp s.heap S ks)(hn:ks.length<300)(h:∀ t tk,Q (.int ks.length t) { s with toks:=tk }) :
  p9 (x8 prog w) A (call (.builtin "len") [.ref S]) Q E s:=by
 obtain⟨o,es,ep,t,ho,hex,hd,T,hsz,_⟩:=hS
 refine call_len_set ho hex hd T.fits (by omega) ?_
 rw[hsz]
 exact h _ _
end Sett
namespace L2
open PySem PySem.Spec PyProof.Rows
def B2 (K:W.Frag)(H:Hp)(ys:List V)(ks:List (List Int)):Prop:=ag5 (fun y k=>∃ a,y=V.ref a/\SqT K H a (k.map V.int)) ys ks
theorem B2.len {K:W.Frag}(t:B2 K H ys ks):ys.length=ks.length:=Paired.length t
theorem B2.get {K:W.Frag}:∀ {ys:List V} {ks:List (List Int)} {i:Nat} {y:V},B2 K H ys ks->ys[i]?=some y->∃ a k,y=V.ref a/\ks[i]?=some k/\SqT K H a (k.map V.int)
 | _,_,_,_,.nil,e=>by simp at e
 | _,_,0,_,.cons r _,e=>by
  simp at e
  subst e
  obtain⟨a,h1,h2⟩:=r
  exact⟨a,_,h1,rfl,h2⟩
 | _,_,i+1,y,.cons _ t,e=>by
  obtain⟨a,k,h1,h2,h3⟩:=B2.get (i:=i) (y:=y) t (by simpa using e)
  exact⟨a,k,h1,by simpa using h2,h3⟩
theorem B2.same {K:W.Frag}(hs:∀ b o,H b=some o->H' b=some o):∀ {ys:List V} {ks:List (List Int)},B2 K H ys ks->B2 K H' ys ks
 | _,_,.nil=>.nil
 | _,_,.cons r t=>by
  obtain⟨a,h1,h2⟩:=r
  refine .cons ⟨a,h1,?_⟩ (B2.same hs t)
  rcases h2 with(h | ⟨o,h⟩) | h
  ·exact .inl (.inl (hs _ _ h))
  ·exact .inl (.inr ⟨o,hs _ _ h⟩)
  ·exact .inr h
theorem B2.append {K:W.Frag}:∀ {ys zs:List V} {ks ls:List (List Int)},B2 K H ys ks->B2 K H zs ls->B2 K H (ys++zs) (ks++ls)
 | _,_,_,_,.nil,s=>s
 | _,_,_,_,.cons r t,s=>.cons r (B2.append t s)
section
variable {σ:St}
theorem ba5:∀ {k:List Int} {its:List Value},D3 (k.map V.int) its->ItemsAre (B7 prog w) k its
 | [],_,.nil=>.nil
 | i::k,_,.cons r t=>by
  obtain⟨tk,rfl⟩:=r
  exact .cons (by simp[B7,Value.isInt]) (ba5 t)
theorem bH9 (I:Inv X pins σ H s)(h:SqT X.K H a (k.map V.int)):M6 (B7 X.prog X.w) s.heap k a:=by
 obtain⟨its,r,⟨o,ho,hc,n,hd⟩,_⟩:=I.tuple h
 exact⟨o,its.toArray,n,ho,hc,hd,by simpa using ba5 r⟩
theorem af1 (I:Inv X pins σ H s):∀ {ys:List V} {ks:List (List Int)} {us:List Value},B2 X.K H ys ks->D3 ys us->ag5 (fun u k=>∃ a,u=Value.ref a/\M6 (B7 X.prog X.w) s.heap k a) us ks
 | _,_,_,.nil,.nil=>.nil
 | _,_,_,.cons r t,.cons q v=>by
  obtain⟨a,rfl,h⟩:=r
  cases q
  exact .cons ⟨a,rfl,bH9 I h⟩ (af1 I t v)
theorem ah6 {α β:Type}{R:α->β->Prop}:∀ {l:List α} {m:List β} {i:Nat} {x:α},ag5 R l m->l[i]?=some x->∃ y,m[i]?=some y/\R x y
 | _,_,_,_,.nil,e=>by simp at e
 | _,_,0,_,.cons r _,e=>by simp at e;subst e;exact⟨_,rfl,r⟩
 | _,_,i+1,x,.cons _ t,e=>by
  obtain⟨y,h1,h2⟩:=ah6 (i:=i) (x:=x) t (by simpa using e)
  exact⟨y,by simpa using h1,h2⟩
theorem ay4 {α β:Type}{R:α->β->Prop}{l l':List α}(p:l'.Perm l):∀ {m:List β},ag5 R l m->∃ m',m'.Perm m/\ag5 R l' m':=by
 induction p with
 | nil=>intro m h;exact⟨m,List.Perm.refl _,h⟩
 | cons x _ ih =>
  intro m h
  cases h with
  | cons r t =>
   obtain⟨m',p',h'⟩:=ih t
   exact⟨_::m',p'.cons _,.cons r h'⟩
 | swap x y l =>
  intro m h
  cases h with
  | cons r t =>
   cases t with
   | cons r' t'=>exact⟨_::_::_,List.Perm.swap _ _ _,.cons r' (.cons r t')⟩
 | trans _ _ ih1 ih2 =>
  intro m h
  obtain⟨m1,p1,h1⟩:=ih2 h
  obtain⟨m2,p2,h2⟩:=ih1 h1
  exact⟨m2,p2.trans p1,h2⟩
theorem am1 {α β:Type}{R:α->β->Prop}:∀ {l:List α} {m:List β},ag5 R l m->ag5 (fun b a=>R a b) m l
 | _,_,.nil=>.nil
 | _,_,.cons r t=>.cons r (am1 t)
theorem aE1 {α β:Type}{R S:α->β->Prop}(f:∀ a b,R a b->S a b):∀ {l:List α} {m:List β},ag5 R l m->ag5 S l m
 | _,_,.nil=>.nil
 | _,_,.cons r t=>.cons (f _ _ r) (aE1 f t)
end
theorem ay7:ac3 X (.builtin "sorted") (fun xs H Q=>∃ p ys ks,xs=[.ref p]/\SqL X.K H p ys/\B2 X.K H ys ks/\(∀ k∈ks,k≠[]) /\
  ∀ l zs ks',H l=none->ks'.Perm ks->ks'.Pairwise (fun a b=>Tim.M4 b a=false)->B2 X.K (upd H l (.lst zs)) zs ks'->Q (.ref l) (upd H l (.lst zs))):=by
 intro pins s σ H xs us Q I r h
 obtain⟨p,ys,ks,rfl,hq,ht,hne,q⟩:=h
 obtain⟨u,rfl,rx⟩:=vals1 r
 cases rx
 obtain⟨its,r',pl,hz⟩:=I.list hq
 have hlen:=r'.length
 have hk:=af1 I ht r'
 have hv:∀ v∈its,∃ i k,Tim.IsK X.prog X.w s.heap (i::k) v:=fun v hv=>by
  obtain⟨j,hj⟩:=p6.mp hv
  obtain⟨k,h1,a,rfl,h2⟩:=ah6 hk hj
  cases k with
  | nil=>exact absurd rfl (hne [] (i7 h1))
  | cons i k=>exact⟨i,k,a,rfl,h2⟩
 refine Tim.aI8 pl.isList (by omega) hv fun out h' n hp hs kp e=>?_
 obtain⟨zs,pz,rz⟩:=ay4 hp (am1 r')
 have rz':D3 zs out:=am1 rz
 have hzl:zs.length<=j8:=by rw[pz.length_eq];exact hz
 have hfr:H (s.heap.objs.size+1)=none:=I.hok.fresh (P3 _)
 have keepS:∀ b o,H b=some o->upd H (s.heap.objs.size+1) (.lst zs) b=some o:=fun b o e=>by rw[q8 (q0 e hfr)];exact e
 refine⟨.ref (s.heap.objs.size+1),upd H (s.heap.objs.size+1) (.lst zs),I.laid (t':=s.toks) kp (P3 _) (show W1 X.prog X.w _ h' _ (.lst zs) from ⟨hzl,out,n,rz',e⟩),rfl,?_⟩
 obtain⟨ks',pk,hk'⟩:=ay4 pz (show ag5 (fun y k=>∃ a,y=V.ref a/\SqT X.K H a (k.map V.int)) ys ks from ht)
 refine q _ zs ks' hfr pk ?_ (B2.same keepS hk')
 have hko:=af1 I (show B2 X.K H zs ks' from hk') rz'
 have eq:ks'=out.map (Tim.W9 X.prog X.w s.heap):=by
  clear hs hp rz rz' hk' pk e
  induction hko with
  | nil=>rfl
  | cons r t ih =>
   obtain⟨a,rfl,hka⟩:=r
   rw[o9,Tim.V7 ⟨a,rfl,hka⟩,<- ih]
 rw[eq,F5]
 exact hs
def bh9 (P:Program)(w:World)(S:Addr)(n:Nat):HO:=.ext fun h=>∃ hk ks,ks.length=n/\n<300/\Sett.az5 P w hk h S ks
theorem bb9 (hc:X.calm=true)(hu:X.A.units+8<av2):ac3 X (.type "set") (fun xs H Q=>∃ p ys ks,xs=[.ref p]/\SqL X.K H p ys/\B2 X.K H ys ks/\(∀ k∈ks,Sett.ay8 k)/\ks.length<300 /\
  ∀ S,H S=none->Q (.ref S) (upd H S (bh9 X.prog X.w S (ks.foldl Sett.aa8 []).length))):=by
 intro pins s σ H xs us Q I r h
 obtain⟨p,ys,ks,rfl,hq,ht,hok,hb,q⟩:=h
 obtain⟨u,rfl,rx⟩:=vals1 r
 cases rx
 obtain⟨its,r',pl,hz⟩:=I.list hq
 have hlen:=r'.length
 have hk:=af1 I ht r'
 have hkl:=ht.len
 refine Sett.aV4 (keys:=ks) (I.ok.hd hc) hu pl.isList (by simp;omega) (by simp;omega) (fun i v hv=>?_) fun h' tk hS kp=>?_
 ·obtain⟨k,h1,a,rfl,h2⟩:=ah6 hk (by simpa using hv)
  exact⟨a,k,rfl,h1,hok k (i7 h1),h2⟩
 ·have hle:=Sett.aB2 ks []
  simp only[List.length_nil]at hle
  refine⟨.ref s.heap.objs.size,_,I.laid (o:=bh9 X.prog X.w s.heap.objs.size (ks.foldl Sett.aa8 []).length) (t':=tk) kp (c8 _) ?_,rfl,q _ (I.hok.fresh (c8 _))⟩
  refine⟨⟨s.heap,ks.foldl Sett.aa8 [],rfl,by omega,hS⟩,?_,fun h1 h2 ⟨hk1,ks1,e1,e2,hS1⟩ hkeep=>⟨hk1,ks1,e1,e2,?_⟩⟩
  ·obtain⟨o,_,_,_,ho,_⟩:=hS
   exact⟨o,ho⟩
  ·obtain⟨o,es,ep,t,ho,rest⟩:=hS1
   exact⟨o,es,ep,t,hkeep o ho,rest⟩
theorem call_len_set:ac3 X (.builtin "len") (fun xs H Q=>∃ S n,xs=[.ref S]/\H S=some (bh9 X.prog X.w S n)/\Q (.int n) H):=by
 intro pins s σ H xs us Q I r h
 obtain⟨S,n,rfl,hS,q⟩:=h
 obtain⟨u,rfl,rx⟩:=vals1 r
 cases rx
 obtain⟨⟨hk,ks,e1,e2,hS1⟩,_⟩:=I.hok S _ hS
 refine Sett.bg5 hS1 (by omega) fun t tk=>?_
 exact⟨.int n,H,I.tok _,⟨t,by rw[e1]⟩,q⟩
def F8 (X:Cx)(scope:Scope)(cl:List (Str × Addr))(N':List Str)(s₃:Shared)(H₃:Hp)(fp:List Addr)(xe':Value->Shared->Prop):Cx:=
 { X with N:=N',s₀:=s₃,H₀:=H₃,env:=V3 scope cl s₃.heap.objs.size X.env,outer:=X.stack,ex:=fp,fn:=fun _=>false,pn:=[],xe:=xe' }
def aH8 (env:Env):List (Str × Addr)->Prop
 | []=>True
 | (x,c)::r=>env.cells.lookup x=some c/\aH8 env r
theorem aH8.get {env:Env}:∀ {cl:List (Str × Addr)} {x:Str} {c:Addr},aH8 env cl->cl.lookup x=some c->env.cells.lookup x=some c
 | [],_,_,_,h=>by cases h
 | (y,d)::r,x,c,⟨h1,h2⟩,h=>by
  rw[cd4]at h
  cases e:x == y with
  | true =>
   rw[e]at h
   cases h
   rw[eq_of_beq e]
   exact h1
  | false =>
   rw[e]at h
   exact aH8.get h2 h
def au5 (names:List (Str × aN1))(cl:List (Str × Addr)):Bool:=names.all fun y=>y.2 != .cell && (y.2 != .free || (cl.lookup y.1).isSome)
theorem ac0 {env:Env}:∀ {names:List (Str × aN1)} {x:Str} {k:aN1},(names.map fun(n,k)=>if (k == NameKind.free && env.scope.kind == .function && env.kindOf n == some .cell) then (n,NameKind.cell) else (n,k)).lookup x=some k ->
  ∃ k',(x,k')∈names/\(k'=k\/(k'=.free/\k=.cell))
 | [],_,_,h=>by cases h
 | (n,k0)::r,x,k,h=>by
  rw[o9]at h
  have hn:∀ k1,(C8 x ((n,k1)::r.map fun(n,k)=>if (k == NameKind.free && env.scope.kind == .function && env.kindOf n == some .cell) then (n,NameKind.cell) else (n,k)))=some k->(x=n/\k1=k)\/∃ k',(x,k')∈r/\(k'=k\/(k'=.free/\k=.cell)):=fun k1 h=>by
   rw[cd4]at h
   cases e:x == n with
   | true=>rw[e]at h;cases h;exact .inl ⟨eq_of_beq e,rfl⟩
   | false=>rw[e]at h;exact .inr (ac0 h)
  dsimp only at h
  by_cases hc:(k0 == NameKind.free && env.scope.kind == .function && env.kindOf n == some .cell)=true
  ·rw[if_pos hc]at h
   rcases hn _ h with⟨rfl,rfl⟩ | ⟨k',h1,h2⟩
   ·simp only[B4]at hc
    have e0:k0=.free:=eq_of_beq hc.1.1
    exact⟨k0,c9,.inr ⟨e0,rfl⟩⟩
   ·exact⟨k',c7 _ h1,h2⟩
  ·rw[if_neg hc]at h
   rcases hn _ h with⟨rfl,rfl⟩ | ⟨k',h1,h2⟩
   ·exact⟨k0,c9,.inl rfl⟩
   ·exact⟨k',c7 _ h1,h2⟩
def ai1 (lk:List (Option Nat))(σ:St):St:=lk.map fun o=>o.bind fun j=>(σ[j]?).join
def bF0 (X:Cx)(N':List Str)(lk:List (Option Nat))(scope:Scope)(cl:List (Str × Addr)):Prop:=
 lk.length=N'.length/\∀ (i j:Nat) (x:Str),N'[i]?=some x->lk[i]?=some (some j)->X.N[j]?=some x/\(X.env.scope.names.lookup x=some .cell\/X.env.scope.names.lookup x=some .free)/\(cl.lookup x).isSome=true /\
  ((V3 scope cl 0 X.env).kindOf x=some .cell\/(V3 scope cl 0 X.env).kindOf x=some .free)
theorem aG5 {σ:St}{H3:Hp}{s3:Shared}{h1:Heap}{tk:Nat}{xe':Value->Shared->Prop}{m0:Str->Option Value}
  (I:Inv X pins σ H3 s3)(hf:∀ b∈fp,S6 X pins H3 b)(hkind:scope.kind=.function)(hcl:aH8 X.env cl)(hfr:au5 scope.names cl=true)(hlk:bF0 X N' lk scope cl)
  (hn:h1.Ns s3.heap.objs.size m0)(hk:∀ b u,s3.heap.get? b=some u->h1.get? b=some u)(hfs:∀ b∈fp,b<s3.heap.objs.size):Inv (F8 X scope cl N' s3 H3 fp xe') [] (ai1 lk σ) H3 { s3 with heap:=h1,toks:=tk }:=by
 have hC:H3 s3.heap.objs.size=none:=I.hok.fresh (c8 _)
 have hmem:∀ y∈scope.names,y.2≠.cell/\(y.2=.free->(cl.lookup y.1).isSome=true):=fun y hy=>by
  unfold au5 at hfr
  rw[J2]at hfr
  have:=hfr y hy
  rw[B4]at this
  refine⟨by simpa using this.1,fun e=>?_⟩
  have h2:=this.2
  rw[e]at h2
  simpa using h2
 have hcell:∀ x c,cl.lookup x=some c->X.env.cells.lookup x=some c:=fun x c e=>hcl.get e
 have clt:∀ x c,cl.lookup x=some c->c<s3.heap.objs.size:=fun x c e=>by
  obtain⟨v,q⟩:=I.cell x c (hcell x c e)
  exact q.lt
 refine⟨⟨I.ok.mod,hkind,I.ok.glob,I.ok.blt,c8 _,fun x y c e1 e2=>I.ok.inj x y c (hcell x c e1) (hcell y c e2),fun x hx=>?_,(fun x c e=>by cases e),I.ok.hd,I.ok.frames,.inl rfl,fun b hb=>?_,fun b o e=>I.bs b o e,A8 I.ok.bsz I.sz,fun b o e hb=>?_,fun b hb z=>?_,I.stack,I.stkFree⟩,
  rfl,I.bare,Un.kept hk,⟨m0,hn,fun i x v e1 e2 e3=>?_⟩,fun x c e=>?_,hC,fun x c e=>?_,(fun p hp=>nomatch hp),I.hok.kept hk,?_⟩
 ·have hx':(relabel scope X.env).names.lookup x=some .cell\/(relabel scope X.env).names.lookup x=some .free:=hx
  have:∃ k',(x,k')∈scope.names/\k'=.free:=by
   rcases hx' with h | h
   ·obtain⟨k',h1,h2⟩:=ac0 h
    rcases h2 with h2 | h2
    ·exact absurd h2 (hmem _ h1).1
    ·exact⟨k',h1,h2.1⟩
   ·obtain⟨k',h1,h2⟩:=ac0 h
    rcases h2 with h2 | h2
    ·exact⟨k',h1,h2⟩
    ·exact⟨k',h1,h2.1⟩
  obtain⟨k',h1,h2⟩:=this
  exact o7.mp ((hmem _ h1).2 h2)
 ·obtain⟨f0,f1,f2,f3,f4,f5⟩:=hf b hb
  exact⟨l6 (hfs b hb),fun x c e=>f4 x c (hcell x c e)⟩
 ·obtain⟨f0,f1,f2,f3,f4,f5⟩:=hf b hb
  rcases f3 with f3 | f3
  ·exact I.ok.noex b o e f3
  ·exact absurd (p7 (d6 e) (A8 I.ok.bsz f3)) (C7 _)
 ·obtain⟨f0,f1,f2,f3,f4,f5⟩:=hf b hb
  rcases d8.mp (I.stkSub b z) with e | e
  ·exact f1 e
  ·exact f2 e
 ·-- a captured name
  have e2':(ai1 lk σ)[i]?=some (some v):=e2
  unfold ai1 at e2'
  rw[p8]at e2'
  cases hq:lk[i]? with
  | none=>rw[hq]at e2';cases e2'
  | some o =>
   rw[hq]at e2'
   have e2'':(o.bind fun j=>(σ[j]?).join)=some v:=Option.some.inj e2'
   cases o with
   | none=>cases e2''
   | some j =>
    obtain⟨q1,q2,q3,q4⟩:=hlk.2 i j x e1 hq
    have hσ:σ[j]?=some (some v):=by
     have z:(σ[j]?).join=some v:=e2''
     cases hh:σ[j]? with
     | none=>rw[hh]at z;cases z
     | some o=>rw[hh]at z;rw[show o=some v from z]
    obtain⟨m,hnX,hl⟩:=I.loc
    obtain⟨u,r,lo⟩:=hl j x v q1 hσ (q2.elim (fun a=>.inr (.inl a)) (fun a=>.inr (.inr a)))
    refine⟨u,r,.inr ?_⟩
    obtain⟨c,hc⟩:=o7.mp q3
    refine⟨q4,c,hc,?_⟩
    have hcX:=hcell x c hc
    rcases lo with⟨k,_⟩ | ⟨_,c',hc',z⟩
    ·have k':X.env.scope.names.lookup x=some .local:=k
     rw[k']at q2
     rcases q2 with q2 | q2<;>cases q2
    ·rw[hcX]at hc'
     cases hc'
     obtain⟨o,ho,hd⟩:=z
     exact⟨o,hk c o ho,hd⟩
 ·obtain⟨v,o,ho,hd⟩:=I.cell x c (hcell x c e)
  exact⟨v,o,hk c o ho,hd⟩
 ·exact I.freeC x c (hcell x c e)
 ·show (ai1 lk σ).length=N'.length
  unfold ai1
  rw[b8]
  exact hlk.1
def PTs (X:Cx)(ifs:List Expr)(t:TT):Prop:=
 ∀ (pins:List (Addr × Obj)) (s:Shared) (σ:St) (H:Hp) (Q:Bool->Hp->Prop),Inv X pins σ H s->t σ H Q->p9 (x8 X.prog X.w) X.A (forIn ifs true fun c r=>if r=true then do let ok <- isTrue c X.env (eval c X.env);pure (ForInStep.yield ok) else pure (ForInStep.yield r)) (TP X pins σ Q) X.xe s
def bQ2:TT:=fun _ H Q=>Q true H
theorem S4:PTs X [] bQ2:=fun pins s σ H Q I h=>wpAny_tests_nil ⟨H,I,h⟩
theorem ah4 {c:Expr}{t:TT}(h:PT X c t):PTs X [c] t:=fun pins s σ H Q I q=>wpAny_tests_one (h pins s σ H Q I q)
def bu2 (wi:TI)(lk:List (Option Nat))(g:TG)(tt:TT)(te:TE):TE:=fun σ H Q=>wi σ H fun J H1=>∀ D,H1 D=none->∃ W:Nat->Nat->List V->St->Hp->Prop,(∃ m,W 0 m [] (ai1 lk σ) (upd H1 D (.lst [])))/\∀ i m xs σ' H',W i m xs σ' H' ->
 H' D=some (.lst xs)/\((J.stop i H'/\Q (.ref D) H')\/(J.go i H'/\xs.length<j8/\∀ x H'',J.yld i H' x H''->g x σ' H'' fun σ2 H2=>tt σ2 H2 fun b H3 =>
  if b=true then te σ2 H3 fun v H4=>H4 D=some (.lst xs)/\∃ m',m'<m/\W (i+1) m' (xs++[v]) σ2 (upd H4 D (.lst (xs++[v]))) else ∃ m',m'<m/\W (i+1) m' xs σ2 H3))
theorem N2 {elt iter:Expr}{ifs:List Expr}{wi:TI}{g:TG}{tt:TT}(hc:X.calm=true)(hi:PI X tg iter wi)(hclos:aU2 scope X.env=pure cl)(hkind:scope.kind=.function)
  (hnames:∀ y∈scope.names,y.2=.local->scope.names.lookup y.1=some .local)(hcl:aH8 X.env cl)(hfr:au5 scope.names cl=true)(hlk:bF0 X N' lk scope cl)
  (hg:∀ s3 H3 fp,PG (F8 X scope cl N' s3 H3 fp fun _ _=>False) tg g)(ht:∀ s3 H3 fp,PTs (F8 X scope cl N' s3 H3 fp fun _ _=>False) ifs tt)(he:∀ s3 H3 fp,PE (F8 X scope cl N' s3 H3 fp fun _ _=>False) elt te)
  (hs:∀ x,aq3 iter X.env x=pure x:=by intro _;rfl):PE X (.ListComp elt [⟨tg,iter,ifs,0⟩] scope pos) (bu2 wi lk g tt te):=by
 intro pins s σ H Q I h
 rw[eval_ListComp]
 have hcellN:∀ y∈scope.names,y.2≠.cell:=fun y hy=>by
  unfold au5 at hfr
  rw[J2]at hfr
  have:=hfr y hy
  rw[B4]at this
  simpa using this.1
 refine bG1 (use:=none) rfl hs hclos hkind hnames (thn (hi pins s σ H _ I h) fun v s1 h1=>thn h1 fun itv s2 h2=>?_)
 obtain⟨it,fp,tn,J,H2,e,I2,T,st2,f2,q⟩:=h2
 subst e
 refine V1 ?_ (v9 _)
 have hD:H2 s2.heap.objs.size=none:=I2.hok.fresh (c8 _)
 have I3:=I2.lnew (ys:=[]) (its:=[]) (t':=s2.toks) .nil (v9 _)
 obtain⟨W,⟨m0,w0⟩,turn⟩:=q s2.heap.objs.size hD
 have fpl:∀ b∈fp,b<s2.heap.objs.size:=fun b hb=>by
  obtain⟨o,ho,_⟩:=T.obj 0 s2.heap st2 b hb
  exact d6 ho
 refine ag6 hcellN (by intro y hy;cases hy) (fun h1 hns1 hsb1=>?_) hkind
 dsimp only at hns1 hsb1 ⊢
 have e3:s2.heap.push { cls:=.type "list",dict:=none,data:=.seq ([]:List Value).toArray }=s2.heap.push { cls:=.type "list",data:=.seq ([]:List Value).toArray }:=rfl
 generalize hh3:s2.heap.push { cls:=.type "list",dict:=none,data:=.seq ([]:List Value).toArray }=h3 at *
 have I3':Inv X pins σ (upd H2 s2.heap.objs.size (.lst [])) { s2 with heap:=h3,toks:=s2.toks }:=I3
 have size3:h3.objs.size=s2.heap.objs.size+1:=by rw[<- hh3,G0]
 have f3:∀ b∈fp,S6 X pins (upd H2 s2.heap.objs.size (.lst [])) b:=fun b hb=>by
  obtain⟨f0,fr⟩:=f2 b hb
  exact⟨by rw[q8 (l6 (fpl b hb))];exact f0,fr⟩
 have up:∀ b u,h3.get? b=some u->h1.get? b=some u:=fun b u eb=>by
  rw[hsb1.2 b (l6 (d6 eb))]
  exact c5 _ eb
 have I4:Inv (F8 X scope cl N' { s2 with heap:=h3,toks:=s2.toks } (upd H2 s2.heap.objs.size (.lst [])) fp fun _ _=>False) [] (ai1 lk σ) (upd H2 s2.heap.objs.size (.lst [])) { s2 with heap:=h1,toks:=s2.toks+([]:List (Str × Value)).length }:=
  aG5 (s3:={ s2 with heap:=h3,toks:=s2.toks }) I3' f3 hkind hcl hfr hlk hns1 up fun b hb=>by show b<h3.objs.size;rw[size3];exact E1 (fpl b hb)
 have st4:tn 0 h1:=T.keep 0 s2.heap h1 st2 fun b hb o eb=>up b o (by rw[<- hh3];exact c5 _ eb)
 have hCs:h3.objs.size=(V3 scope cl h3.objs.size X.env).locals:=rfl
 have stat:∀ {H':Hp},(∀ b∈fp,H' b=none)->∀ b∈fp,S6 (F8 X scope cl N' { s2 with heap:=h3,toks:=s2.toks } (upd H2 s2.heap.objs.size (.lst [])) fp fun _ _=>False) [] H' b:=fun {H'} hn b hb=>by
  obtain⟨f0,f1,f2',f3',f4,f5⟩:=f3 b hb
  refine⟨hn b hb,?_,fun z=>?_,.inl hb,fun x c ex=>f4 x c (hcl.get ex),fun p hp=>nomatch hp⟩
  ·show b≠h3.objs.size
   rw[size3]
   exact l6 (E1 (fpl b hb))
  ·rcases d8.mp (I3'.stkSub b z) with q | q
   ·exact f1 q
   ·exact f2' q
 have fin:∀ (s':Shared) (σ':St) (H':Hp),Inv (F8 X scope cl N' { s2 with heap:=h3,toks:=s2.toks } (upd H2 s2.heap.objs.size (.lst [])) fp fun _ _=>False) [] σ' H' s'->Q (.ref s2.heap.objs.size) H' ->
   bG9 (x8 X.prog X.w) X.A X.xe none (EP X pins σ Q) (.ref s2.heap.objs.size) h3.objs.size (.ok .next) s':=fun s' σ' H' I' q'=>by
  obtain⟨m,hm,_⟩:=id I'.loc
  have I5:Inv X pins σ H' s':=I3'.call' (ch:=fp) I'.os I'.base I'.hok I'.bare fun b hb=>by
   obtain⟨f0,f1,f2',f3',f4,f5⟩:=f3 b hb
   exact⟨f3',f1,f4,f5⟩
  refine⟨m,hm,fun h' hsb=>?_⟩
  refine⟨.ref s2.heap.objs.size,H',?_,rfl,q'⟩
  have hfc:H' h3.objs.size=none:=I'.free
  have hcl1:∀ b o,h3.get? b=some o->b≠h3.objs.size:=fun b o eb=>l6 (d6 eb)
  obtain⟨h0',g0,d0,t0,o0⟩:=s'
  refine I5.turned (t':=t0) (it:=h3.objs.size) (fun b o hb eb=>(hsb.2 b hb).trans eb) hfc ?_ (.inr I3'.sz) (fun x c ex z=>?_) (fun p hp z=>?_)
  ·exact L0 I3'.lt
  ·obtain⟨v',q2⟩:=I3'.cell x c ex
   exact absurd q2.lt (by rw[z];exact C7 _)
  ·exact absurd (d6 (I3'.pin p hp).1) (by rw[z];exact C7 _)
 have loop:∀ s5:Shared,s5={ s2 with heap:=h1,toks:=s2.toks+([]:List (Str × Value)).length } ->
   ar9 (x8 X.prog X.w) X.A (.compLoop (.ListComp elt [⟨tg,iter,ifs,0⟩] scope pos) 0 (.ref it) (.ref s2.heap.objs.size) (V3 scope cl h3.objs.size X.env)) (bG9 (x8 X.prog X.w) X.A X.xe none (EP X pins σ Q) (.ref s2.heap.objs.size) h3.objs.size) s5:=by
  rintro s5 rfl
  refine codeAny_loop rfl (fun n s'=>∃ i xs σ' H',Inv (F8 X scope cl N' { s2 with heap:=h3,toks:=s2.toks } (upd H2 s2.heap.objs.size (.lst [])) fp fun _ _=>False) [] σ' H' s'/\tn i s'.heap/\(∀ b∈fp,H' b=none)/\W i n xs σ' H')
   (fun n s6 hI=>?_) m0 ⟨0,[],ai1 lk σ,_,I4,st4,fun b hb=>(f3 b hb).1,w0⟩
  obtain⟨i,xs,σ6,H6,I6,st6,fr6,w6⟩:=hI
  show p9 _ X.A ((compTurn (.ListComp elt [⟨tg,iter,ifs,0⟩] scope pos) 0 (.ref it) (.ref s2.heap.objs.size) (V3 scope cl h3.objs.size X.env)).onRaise (fun x=>do noteFrame x (V3 scope cl h3.objs.size X.env);theTreesLotGoes x)) _ _ s6
  refine wpAny_noted ?_
  rw[compTurn_list]
  refine b7 (ag8 (b7 ?_))
  obtain⟨hD6,hw⟩:=turn i n xs σ6 H6 w6
  rcases hw with⟨stop,qn⟩ | ⟨go,hlen,step⟩
  ·refine thn (T.done (F8 X scope cl N' { s2 with heap:=h3,toks:=s2.toks } (upd H2 s2.heap.objs.size (.lst [])) fp fun _ _=>False) rfl rfl rfl hc i [] s6 σ6 H6 _ I6 (stat fr6) st6 stop) fun r s7 ⟨hr,I7⟩=>?_
   subst hr
   exact d4 (fin s7 σ6 H6 I7 qn)
  ·refine thn (T.item (F8 X scope cl N' { s2 with heap:=h3,toks:=s2.toks } (upd H2 s2.heap.objs.size (.lst [])) fp fun _ _=>False) rfl rfl rfl hc i [] s6 σ6 H6 _ I6 (stat fr6) st6 go) fun r s7 ⟨u,hr,h7⟩=>?_
   subst hr
   refine b7 (thn h7 fun _ s8 ⟨x,H8,I8,r8,y8,st8,fr8⟩=>?_)
   have I8':=I8.pinned (stat fr8) (T.obj _ _ st8)
   refine b7 (E3 (hg _ _ _ _ s8 σ6 H8 x u _ I8' r8 (step x H8 y8)) (fun _ s9 ⟨σ9,H9,I9,q9⟩=>?_) (fun _ _ z=>False.elim z))
   refine b7 (E3 (ht _ _ _ _ s9 σ9 H9 _ I9 q9) (fun ok s10 ⟨H10,I10,q10⟩=>?_) (fun _ _ z=>False.elim z))
   have bT4:∀ {σ':St} {H':Hp} {ys:List V} {s':Shared},Inv (F8 X scope cl N' { s2 with heap:=h3,toks:=s2.toks } (upd H2 s2.heap.objs.size (.lst [])) fp fun _ _=>False) ([]++ar1 fp s8.heap) σ' H' s'->(∃ m',m'<n/\W (i+1) m' ys σ' H') ->
     ∃ m',m'<n/\∃ i xs σ' H',Inv (F8 X scope cl N' { s2 with heap:=h3,toks:=s2.toks } (upd H2 s2.heap.objs.size (.lst [])) fp fun _ _=>False) [] σ' H' s'/\tn i s'.heap/\(∀ b∈fp,H' b=none)/\W i m' xs σ' H':=fun {σ' H' ys s'} I' ⟨m',hm,w'⟩=>by
    refine⟨m',hm,i+1,ys,σ',H',I'.unpinned,T.keep _ _ _ st8 fun b hb o eb=>(I'.pin (b,o) (m9 _ (m9 _ (U4 hb eb)))).1,fun b hb=>?_,w'⟩
    obtain⟨o,eb,_⟩:=T.obj _ _ st8 b hb
    exact(I'.pin (b,o) (m9 _ (m9 _ (U4 hb eb)))).2.1
   cases ok with
   | false =>
    have q10':∃ m',m'<n/\W (i+1) m' xs σ9 H10:=by simpa using q10
    exact d4 ⟨rfl,bT4 I10 q10'⟩
   | true =>
    rw[if_pos rfl]at q10
    refine b7 (b7 (E3 (he _ _ _ _ s10 σ9 H10 _ I10 q10) (fun y s11 ⟨v11,H11,I11,r11,hD11,q11⟩=>?_) (fun _ _ z=>False.elim z)))
    refine b7 (E3 (Y0 (X:=F8 X scope cl N' { s2 with heap:=h3,toks:=s2.toks } (upd H2 s2.heap.objs.size (.lst [])) fp fun _ _=>False) _ s11 σ9 H11 (.ref s2.heap.objs.size) [v11] (.ref s2.heap.objs.size) [y] (fun _ H'=>∃ m',m'<n/\W (i+1) m' (xs++[v11]) σ9 H') I11 rfl (.cons r11 .nil) ⟨s2.heap.objs.size,xs,v11,rfl,rfl,hD11,hlen,q11⟩) (fun _ s12 ⟨_,H12,I12,_,q12⟩=>?_) (fun _ _ z=>False.elim z))
    exact d4 (d4 ⟨rfl,bT4 I12 q12⟩)
 exact bP9 (loop _ rfl) (T.self X.A 0 _ _ _ st4 (loop _ rfl))
def Itn (K:W.Frag)(a:Addr):It:=
 ⟨fun i H=>∃ xs x,SqL K H a xs/\xs[i]?=some x,fun i H x H'=>∃ t v,H t=none/\x=.ref t/\(∀ xs,SqL K H a xs->xs[i]?=some v)/\H'=upd H t (.tup [.int i,v]),fun i H=>∃ xs,SqL K H a xs/\xs.length<=i⟩
def ci7 (K:W.Frag)(ta:TA):TI:=fun σ H R=>ta σ H fun vs H1=>∃ a,vs=[.ref a]/\(∃ xs,SqL K H1 a xs)/\R (Itn K a) H1
theorem bp0 {K:W.Frag}{x1:Nat}(a it e:Addr)(hne:e≠it):Turn P w K (.Tuple elts x1 pos) (Itn K a) [e,it] e (fun i h=>(∃ old,bU2 h e it (i:Int) old)/\h.IsListIter it a i) where
 mem:=by simp
 obj:=fun i h st b hb=>by
  obtain⟨⟨old,he⟩,o,ho,hc,hd⟩:=st
  rcases d8.mp hb with rfl | hb
  ·exact⟨_,he,fun v z=>by cases z⟩
  ·have eb:b=it:=by simpa using hb
   subst eb
   exact⟨o,ho,fun v z=>by rw[hd]at z;cases z⟩
 keep:=fun i h h' st k=>by
  obtain⟨⟨old,he⟩,hit⟩:=st
  exact⟨⟨old,k e (by simp) _ he⟩,hit.at fun o q=>k it (by simp) o q⟩
 item:=by
  intro X hP hw hK hc i pins s σ H E I hf st hg
  subst hP hw hK
  obtain⟨xs,x,hq,hx⟩:=hg
  obtain⟨⟨old,he⟩,hit⟩:=st
  obtain⟨its,rv,p,hz⟩:=I.list hq
  obtain⟨u,hu,ru⟩:=rv.get hx
  obtain⟨f0,f1,f2,f3,f4,f5⟩:=hf e (by simp)
  obtain⟨g0,g1,g2,g3,g4,g5⟩:=hf it (by simp)
  refine wpAny_pyNext_enum_item he hit p.isList (x:=u) (by simpa using hu) hne fun h1 heo hit1 ht1 hz1 hk1=>?_
  refine⟨_,rfl,?_⟩
  refine al0 heo fun h2 he2 hs2=>?_
  have hlt:e<s.heap.objs.size:=d6 he
  have hs2':Heap.SameBut e h1 h2:=hs2
  have ht2:h2.get? s.heap.objs.size=some { cls:=.type "tuple",data:=.seq #[.int i s.toks,u] }:=(hs2'.2 _ (L0 hlt)).trans ht1
  have kp:∀ b o,b≠e->b≠it->s.heap.get? b=some o->h2.get? b=some o:=fun b o h1' h2' q=>(hs2'.2 b h1').trans (hk1 b o h1' h2' q)
  have hT:H s.heap.objs.size=none:=I.hok.fresh (c8 _)
  have nH:∀ b,H b≠none->b≠e/\b≠it:=fun b hb=>⟨fun z=>hb (z ▸ f0),fun z=>hb (z ▸ g0)⟩
  have keepH:∀ b o,H b=some o->upd H s.heap.objs.size (.tup [.int i,x]) b=some o:=fun b o q=>by rw[q8 (q0 q hT)];exact q
  have hok2:HOk X.prog X.w (upd H s.heap.objs.size (.tup [.int i,x])) h2:=fun b o eb=>by
   by_cases hb:b=s.heap.objs.size
   ·subst hb
    rw[c6]at eb
    cases eb
    exact⟨by show 2<=j8;decide,[.int i s.toks,u],.cons ⟨_,rfl⟩ (.cons ru .nil),⟨_,ht2,rfl,_,rfl⟩⟩
   ·rw[q8 hb]at eb
    refine(I.hok b o eb).stay (fun c v hcc q=>kp c v ?_ ?_ q) (fun c q=>keepH c _ q) fun c ys q=>keepH c _ q
    ·rcases hcc with z | z
     ·exact(nH c (by rw[z,eb];simp)).1
     ·exact(nH c (by rw[z];simp)).1
    ·rcases hcc with z | z
     ·exact(nH c (by rw[z,eb];simp)).2
     ·exact(nH c (by rw[z];simp)).2
  have I2:Inv X pins σ (upd H s.heap.objs.size (.tup [.int i,x])) { s with heap:=h2,toks:=s.toks+1 }:=by
   refine I.step (g':=s.gens) (d':=s.drawn) (t':=s.toks+1) (ch:=[e,it]) (fun b hb=>?_) (fun b o _ _ hcc q _=>kp b o (fun z=>hcc (by simp[z])) (fun z=>hcc (by simp[z])) q) (fun b o _ _ hcc q _=>⟨o.slots,kp b o (fun z=>hcc (by simp[z])) (fun z=>hcc (by simp[z])) q⟩) (fun b o _ q n=>?_)
    (fun b o hcc q=>⟨o,kp b o (fun z=>hcc (by simp[z])) (fun z=>hcc (by simp[z])) q⟩) (fun b ys q=>keepH b _ q) (fun b o v q=>keepH b _ q) (fun b ps q=>⟨#[],by rw[keepH b _ q];simp⟩) (fun m hm=>?_) hok2 I.bare
   ·rcases d8.mp hb with rfl | hb
    ·exact⟨f3,f1,f4,f5⟩
    ·have eb:b=it:=by simpa using hb
     subst eb
     exact⟨g3,g1,g4,g5⟩
   ·rw[q8 (l6 (d6 q))]
    exact n
   ·obtain⟨o,es,ep,ho,r⟩:=hm
    exact⟨o,es,ep,kp _ o (Ne.symm f1) (Ne.symm g1) ho,r⟩
  have hilt:it<s.heap.objs.size:=by
   obtain⟨o,ho,_⟩:=id hit
   exact d6 ho
  refine⟨.ref s.heap.objs.size,_,I2,rfl,⟨s.heap.objs.size,x,hT,rfl,fun ys hy=>by rw[I.list_inj hy hq];exact hx,rfl⟩,⟨⟨u,?_⟩,?_⟩,fun b hb=>?_⟩
  ·have:=he2
   rw[show ((i:Int)+1)=(((i+1:Nat):Int)) by simp]at this
   exact this
  ·exact hit1.at fun o q=>(hs2'.2 it (Ne.symm hne)).trans q
  ·rcases d8.mp hb with rfl | hb
   ·rw[q8 (l6 hlt)];exact f0
   ·have eb:b=it:=by simpa using hb
    subst eb
    rw[q8 (l6 hilt)]
    exact g0
 done:=by
  intro X hP hw hK hc i pins s σ H E I hf st hg
  subst hP hw hK
  obtain⟨xs,hq,hx⟩:=hg
  obtain⟨⟨old,he⟩,hit⟩:=st
  obtain⟨its,rv,p,hz⟩:=I.list hq
  obtain⟨g0,g1,g2,g3,g4,g5⟩:=hf it (by simp)
  have hl:=rv.length
  exact wpAny_pyNext_enum_end (I.ok.hd hc) he hit p.isList (by simp;omega) fun h' eb=>⟨rfl,I.turned (t':=s.toks) (fun b o hb q=>eb b o hb q) g0 g1 g3 g4 g5⟩
 self:=fun _ _ _ _ _ st h=>by
  obtain⟨⟨old,he⟩,_⟩:=st
  exact V4 he h
theorem bk1 {a:Expr}{ta:TA}{x1:Nat}{tpos p:Pos}(hg:Gl X "enumerate")(hm:X.mg "enumerate"=none)(ha:PA X [a] ta)(hv:L5 "enumerate"=some (.type "enumerate"):=by rfl)(hs:u4 [a] X.env=[(false,eval a X.env)]:=by rfl) :
  PI X (.Tuple elts x1 tpos) (.Call (.Name "enumerate" p) [a] [] pos) (ci7 X.K ta):=by
 intro pins s σ H R I h
 refine Call_ (Z8 I hg hm hv (PyProof.Rows.callWith_type1 (thn (ha pos pins s σ H _ I h) fun us s1 ⟨vs,H1,I1,r1,q1⟩=>?_) hs rfl))
 obtain⟨b,e,⟨xs,hq⟩,q⟩:=q1
 subst e
 obtain⟨u,rfl,rx⟩:=vals1 r1
 cases rx
 obtain⟨its,rv,pl,hz⟩:=I1.list hq
 refine call_enumerate_list pl.isList fun h' he hit hsz kp=>?_
 refine V4 he ?_
 have hne:s1.heap.objs.size+1≠s1.heap.objs.size:=aT7 _
 refine⟨s1.heap.objs.size+1,[s1.heap.objs.size+1,s1.heap.objs.size],_,_,H1,rfl,I1.kept (t':=s1.toks) kp,bp0 b s1.heap.objs.size (s1.heap.objs.size+1) hne,⟨⟨_,he⟩,hit⟩,fun c hc=>?_,q⟩
 rcases d8.mp hc with rfl | hc
 ·exact I1.fpOk (P3 _) (I1.hok.fresh (P3 _))
 ·have e:c=s1.heap.objs.size:=by simpa using hc
  subst e
  exact I1.fpOk (c8 _) (I1.hok.fresh (c8 _))
theorem Y1 {K:W.Frag}{D:Addr}{g:TG}{tt:TT}{σ0:St}{H0:Hp}(Pv:Nat->List V->St->Hp->Prop)(h0:Pv 0 [] σ0 H0)(hz:ys.length<=j8)(hl:∀ i xs σ H,i<=ys.length->Pv i xs σ H->SqL K H a ys/\H D=some (.lst xs)/\xs.length<=i)
  (hs:∀ i xs x σ H (N:List V->St->Hp->Prop),(∀ xs' σ' H',Pv (i+1) xs' σ' H'->N xs' σ' H')->ys[i]?=some x->Pv i xs σ H->g x σ H fun σ2 H2=>tt σ2 H2 fun b H3=>if b=true then te σ2 H3 fun v H4=>H4 D=some (.lst xs)/\N (xs++[v]) σ2 (upd H4 D (.lst (xs++[v]))) else N xs σ2 H3)
  (hd:∀ xs σ H,Pv ys.length xs σ H->Qd H) :
  ∃ W:Nat->Nat->List V->St->Hp->Prop,(∃ m,W 0 m [] σ0 H0)/\∀ i m xs σ' H',W i m xs σ' H'->H' D=some (.lst xs)/\(((Itl K a).stop i H'/\Qd H')\/((Itl K a).go i H'/\xs.length<j8/\∀ x H'',(Itl K a).yld i H' x H''->g x σ' H'' fun σ2 H2=>tt σ2 H2 fun b H3 =>
   if b=true then te σ2 H3 fun v H4=>H4 D=some (.lst xs)/\∃ m',m'<m/\W (i+1) m' (xs++[v]) σ2 (upd H4 D (.lst (xs++[v]))) else ∃ m',m'<m/\W (i+1) m' xs σ2 H3)):=by
 refine⟨fun i m xs σ H=>m=ys.length - i/\i<=ys.length/\Pv i xs σ H,⟨ys.length,by simp,v9 _,h0⟩,?_⟩
 rintro i m xs σ H ⟨rfl,hi,p⟩
 obtain⟨q,hD,hx⟩:=hl i xs σ H hi p
 refine⟨hD,?_⟩
 by_cases hlt:i<ys.length
 ·refine .inr ⟨⟨ys,ys[i],q,by simp[hlt]⟩,by omega,fun x H'' y=>?_⟩
  obtain⟨e,y⟩:=y
  subst e
  exact hs i xs x σ _ (fun zs σ' H'=>∃ m',m'<ys.length - i/\m'=ys.length - (i+1)/\i+1<=ys.length/\Pv (i+1) zs σ' H') (fun zs σ' H' r=>⟨_,by omega,rfl,hlt,r⟩) (y ys q) p
 ·have e:i=ys.length:=by omega
  subst e
  exact .inl ⟨⟨ys,q,c8 _⟩,hd xs σ H p⟩
theorem am6 {K:W.Frag}{D:Addr}{g:TG}{tt:TT}{σ0:St}{H0:Hp}(Pv:Nat->List V->St->Hp->Prop)(h0:Pv 0 [] σ0 H0)(hz:ys.length<=j8)(hl:∀ i xs σ H,i<=ys.length->Pv i xs σ H->SqT K H a ys/\H D=some (.lst xs)/\xs.length<=i)
  (hs:∀ i xs x σ H (N:List V->St->Hp->Prop),(∀ xs' σ' H',Pv (i+1) xs' σ' H'->N xs' σ' H')->ys[i]?=some x->Pv i xs σ H->g x σ H fun σ2 H2=>tt σ2 H2 fun b H3=>if b=true then te σ2 H3 fun v H4=>H4 D=some (.lst xs)/\N (xs++[v]) σ2 (upd H4 D (.lst (xs++[v]))) else N xs σ2 H3)
  (hd:∀ xs σ H,Pv ys.length xs σ H->Qd H) :
  ∃ W:Nat->Nat->List V->St->Hp->Prop,(∃ m,W 0 m [] σ0 H0)/\∀ i m xs σ' H',W i m xs σ' H'->H' D=some (.lst xs)/\(((Itt K a).stop i H'/\Qd H')\/((Itt K a).go i H'/\xs.length<j8/\∀ x H'',(Itt K a).yld i H' x H''->g x σ' H'' fun σ2 H2=>tt σ2 H2 fun b H3 =>
   if b=true then te σ2 H3 fun v H4=>H4 D=some (.lst xs)/\∃ m',m'<m/\W (i+1) m' (xs++[v]) σ2 (upd H4 D (.lst (xs++[v]))) else ∃ m',m'<m/\W (i+1) m' xs σ2 H3)):=by
 refine⟨fun i m xs σ H=>m=ys.length - i/\i<=ys.length/\Pv i xs σ H,⟨ys.length,by simp,v9 _,h0⟩,?_⟩
 rintro i m xs σ H ⟨rfl,hi,p⟩
 obtain⟨q,hD,hx⟩:=hl i xs σ H hi p
 refine⟨hD,?_⟩
 by_cases hlt:i<ys.length
 ·refine .inr ⟨⟨ys,ys[i],q,by simp[hlt]⟩,by omega,fun x H'' y=>?_⟩
  obtain⟨e,y⟩:=y
  subst e
  exact hs i xs x σ _ (fun zs σ' H'=>∃ m',m'<ys.length - i/\m'=ys.length - (i+1)/\i+1<=ys.length/\Pv (i+1) zs σ' H') (fun zs σ' H' r=>⟨_,by omega,rfl,hlt,r⟩) (y ys q) p
 ·have e:i=ys.length:=by omega
  subst e
  exact .inl ⟨⟨ys,q,c8 _⟩,hd xs σ H p⟩
mutual
def Dt (K:W.Frag)(H:Hp):ag7->V->Prop
 | .none,v=>v=.non
 | .bool b,v=>v=.bl b
 | .int i,v=>v=.int i
 | .str x,v=>v=.str x
 | .list ds,v=>∃ a xs,v=.ref a/\SqL K H a xs/\E5 K H ds xs
 | .tuple ds,v=>∃ a xs,v=.ref a/\SqT K H a xs/\E5 K H ds xs
 | .dict _,_=>False
def E5 (K:W.Frag)(H:Hp):List ag7->List V->Prop
 | [],xs=>xs=[]
 | d::ds,xs=>∃ y ys,xs=y::ys/\Dt K H d y/\E5 K H ds ys
end
section
variable {σ:St}
mutual
theorem Dt.reads (I:Inv X pins σ H s):∀ (d:ag7) (v:V) (u:Value),Dt X.K H d v->RelV v u->∃ as,Reads s.heap u d as
 | .none,v,u,h,r=>by unfold Dt at h;subst h;cases r;exact⟨_,.none⟩
 | .bool b,v,u,h,r=>by unfold Dt at h;subst h;cases r;exact⟨_,.bool b⟩
 | .int i,v,u,h,r=>by unfold Dt at h;subst h;obtain⟨t,rfl⟩:=r;exact⟨_,.int i t⟩
 | .str x,v,u,h,r=>by unfold Dt at h;subst h;obtain⟨t,rfl⟩:=r;exact⟨_,.str x t⟩
 | .list ds,v,u,h,r=>by
  unfold Dt at h
  obtain⟨a,xs,rfl,hq,hd⟩:=h
  cases r
  obtain⟨its,rv,⟨o,n,ho,hc,_,hdd⟩,_⟩:=I.list hq
  obtain⟨as,ra⟩:=E5.reads I ds xs its hd rv
  exact⟨_,.list ho hc hdd (by simpa using ra)⟩
 | .tuple ds,v,u,h,r=>by
  unfold Dt at h
  obtain⟨a,xs,rfl,hq,hd⟩:=h
  cases r
  obtain⟨its,rv,⟨o,ho,hc,n,hdd⟩,_⟩:=I.tuple hq
  obtain⟨as,ra⟩:=E5.reads I ds xs its hd rv
  exact⟨_,.tuple ho hc hdd (by simpa using ra)⟩
 | .dict _,v,u,h,r=>by unfold Dt at h;exact h.elim
theorem E5.reads (I:Inv X pins σ H s):∀ (ds:List ag7) (xs:List V) (us:List Value),E5 X.K H ds xs->D3 xs us->∃ as,bH0 s.heap us ds as
 | [],xs,us,h,r=>by unfold E5 at h;subst h;cases r;exact⟨_,.nil⟩
 | d::ds,xs,us,h,r=>by
  unfold E5 at h
  obtain⟨y,ys,rfl,h1,h2⟩:=h
  cases r with
  | cons q t =>
   obtain⟨as,ra⟩:=Dt.reads I d y _ h1 q
   obtain⟨bs,rb⟩:=E5.reads I ds ys _ h2 t
   exact⟨_,.cons ra rb⟩
end
end
mutual
theorem Dt.same {K:W.Frag}(hs:∀ b o,H b=some o->H' b=some o):∀ (d:ag7) (v:V),Dt K H d v->Dt K H' d v
 | .none,v,h=>by unfold Dt at h ⊢;exact h
 | .bool b,v,h=>by unfold Dt at h ⊢;exact h
 | .int i,v,h=>by unfold Dt at h ⊢;exact h
 | .str x,v,h=>by unfold Dt at h ⊢;exact h
 | .list ds,v,h=>by
  unfold Dt at h ⊢
  obtain⟨a,xs,rfl,hq,hd⟩:=h
  refine⟨a,xs,rfl,?_,E5.same hs ds xs hd⟩
  rcases hq with(h | ⟨o,h⟩) | h
  ·exact .inl (.inl (hs _ _ h))
  ·exact .inl (.inr ⟨o,hs _ _ h⟩)
  ·exact .inr h
 | .tuple ds,v,h=>by
  unfold Dt at h ⊢
  obtain⟨a,xs,rfl,hq,hd⟩:=h
  refine⟨a,xs,rfl,?_,E5.same hs ds xs hd⟩
  rcases hq with(h | ⟨o,h⟩) | h
  ·exact .inl (.inl (hs _ _ h))
  ·exact .inl (.inr ⟨o,hs _ _ h⟩)
  ·exact .inr h
 | .dict _,v,h=>by unfold Dt at h;exact h.elim
theorem E5.same {K:W.Frag}(hs:∀ b o,H b=some o->H' b=some o):∀ (ds:List ag7) (xs:List V),E5 K H ds xs->E5 K H' ds xs
 | [],xs,h=>by unfold E5 at h ⊢;exact h
 | d::ds,xs,h=>by
  unfold E5 at h ⊢
  obtain⟨y,ys,rfl,h1,h2⟩:=h
  exact⟨y,ys,rfl,Dt.same hs d y h1,E5.same hs ds ys h2⟩
end
def dP (k:List Int):ag7:=.tuple (k.map .int)
theorem E5.ints {K:W.Frag}:∀ (k:List Int),E5 K H (k.map PyData.int) (k.map V.int)
 | []=>by unfold E5;rfl
 | i::k=>by
  rw[o9,o9]
  unfold E5
  exact⟨_,_,rfl,by unfold Dt;rfl,E5.ints k⟩
theorem E5.tups {K:W.Frag}:∀ {ys:List V} {ks:List (List Int)},B2 K H ys ks->E5 K H (ks.map dP) ys
 | _,_,.nil=>by unfold E5;rfl
 | _,_,.cons r t=>by
  obtain⟨a,rfl,h⟩:=r
  rw[o9]
  unfold E5
  refine⟨_,_,rfl,?_,E5.tups t⟩
  unfold dP Dt
  exact⟨a,_,rfl,h,E5.ints _⟩
theorem lay_ints:∀ k:List Int,PyData.canLayAll0 (k.map .int)=true
 | []=>by simp[PyData.canLayAll0]
 | i::k=>by rw[o9];simp[PyData.canLayAll0,PyData.canLay0,lay_ints k]
theorem aL0:∀ ks:List (List Int),PyData.canLayAll0 (ks.map dP)=true
 | []=>by simp[PyData.canLayAll0]
 | k::ks=>by rw[o9];simp[PyData.canLayAll0,PyData.canLay0,dP,lay_ints k,aL0 ks]
theorem aG2:∀ k k':List Int,PyData.eqvAll (k.map .int) (k'.map .int)=decide (k=k')
 | [],[]=>by simp[PyData.eqvAll]
 | [],_::_=>by simp[PyData.eqvAll]
 | _::_,[]=>by simp[PyData.eqvAll]
 | i::k,j::k'=>by
  rw[o9,o9]
  simp only[PyData.eqvAll,PyData.eqv,aG2 k k']
  by_cases h:i=j
  ·subst h;simp
  ·simp[h]
theorem aL6:∀ ks ks':List (List Int),PyData.eqvAll (ks.map dP) (ks'.map dP)=decide (ks=ks')
 | [],[]=>by simp[PyData.eqvAll]
 | [],_::_=>by simp[PyData.eqvAll]
 | _::_,[]=>by simp[PyData.eqvAll]
 | k::ks,k'::ks'=>by
  rw[o9,o9]
  simp only[PyData.eqvAll,PyData.eqv,dP,aG2 k k']
  rw[aL6 ks ks']
  by_cases h:k=k'
  ·subst h;simp
  ·simp[h]
theorem aG3:∀ k:List Int,PyData.depthAll (k.map .int)<=1
 | []=>by simp[PyData.depthAll]
 | i::k=>by
  have:=aG3 k
  rw[o9]
  simp only[PyData.depthAll,PyData.depth]
  omega
theorem aL8:∀ ks:List (List Int),PyData.depthAll (ks.map dP)<=2
 | []=>by simp[PyData.depthAll]
 | k::ks=>by
  have h1:=aG3 k
  have h2:=aL8 ks
  rw[o9]
  simp only[PyData.depthAll,PyData.depth,dP]at h2 ⊢
  omega
def bJ6 (K:W.Frag)(A:Around)(neg:Bool):R2:=fun x y H Q=>∃ dx dy,Dt K H dx x/\Dt K H dy y/\dx.canLay0=true/\dy.canLay0=true/\A.units+min dx.depth dy.depth<av2/\Q (.bl (if neg then !PyData.eqv dx dy else PyData.eqv dx dy)) H
theorem bg1:OpR X (K8 .Eq) (bJ6 X.K X.A false):=by
 intro pins s σ H x y v u Q I rx ry h
 obtain⟨dx,dy,h1,h2,h3,h4,h5,q⟩:=h
 obtain⟨as,ra⟩:=h1.reads I dx x v rx
 obtain⟨bs,rb⟩:=h2.reads I dy y u ry
 exact SeqAt.compareEq_reads ra rb h3 h4 h5 ⟨.bl _,H,I,rfl,q⟩
theorem bX9:OpR X (K8 .NotEq) (bJ6 X.K X.A true):=by
 intro pins s σ H x y v u Q I rx ry h
 obtain⟨dx,dy,h1,h2,h3,h4,h5,q⟩:=h
 obtain⟨as,ra⟩:=h1.reads I dx x v rx
 obtain⟨bs,rb⟩:=h2.reads I dy y u ry
 exact SeqAt.compareNe_reads ra rb h3 h4 h5 ⟨.bl _,H,I,rfl,q⟩
def bf2 (K:W.Frag)(A:Around)(neg:Bool):R2:=fun x y H Q=>∃ p xs dx ds,y=.ref p/\(SqL K H p xs\/SqT K H p xs)/\Dt K H dx x/\E5 K H ds xs/\dx.canLay0=true/\PyData.canLayAll0 ds=true/\A.units+1+dx.depth<av2 /\
 Q (.bl (if neg then !ds.any (fun d=>PyData.eqv d dx) else ds.any (fun d=>PyData.eqv d dx))) H
open Classical in
noncomputable def aS1 (h:Heap)(dx:ag7)(v:Value):Bool:=if q:∃ d as,d.canLay0=true/\Reads h v d as then PyData.eqv (Classical.choose q) dx else false
theorem aS0 {dx d:ag7}{as:List Addr}(hl:d.canLay0=true)(r:Reads h v d as):aS1 h dx v=PyData.eqv d dx:=by
 unfold aS1
 have q:∃ d as,d.canLay0=true/\Reads h v d as:=⟨d,as,hl,r⟩
 rw[dif_pos q]
 obtain⟨as',h1,h2⟩:=Classical.choose_spec q
 rw[SeqAt.Reads.unique _ _ _ _ _ h1 h2 r]
theorem aH3 {dx:ag7}:∀ {ds:List ag7} {us:List Value} {as:List Addr},PyData.canLayAll0 ds=true->bH0 h us ds as->us.any (aS1 h dx)=ds.any (fun d=>PyData.eqv d dx)
 | _,_,_,_,.nil=>rfl
 | d::ds,u::us,_,hl,.cons r t=>by
  have hl':d.canLay0=true/\PyData.canLayAll0 ds=true:=by simpa [PyData.canLayAll0] using hl
  rw[bs9,bs9,aS0 hl'.1 r,aH3 hl'.2 t]
theorem aw6:∀ {ds:List ag7} {us:List Value} {as:List Addr} {u:Value},PyData.canLayAll0 ds=true->bH0 h us ds as->u∈us->∃ d as,d.canLay0=true/\Reads h u d as
 | _,_,_,_,_,.nil,hu=>by cases hu
 | d::ds,_::us,_,u,hl,.cons r t,hu=>by
  have hl':d.canLay0=true/\PyData.canLayAll0 ds=true:=by simpa [PyData.canLayAll0] using hl
  rcases d8.mp hu with rfl | hu
  ·exact⟨d,_,hl'.1,r⟩
  ·exact aw6 hl'.2 t hu
theorem bY1:OpR X (K8 .In) (bf2 X.K X.A false):=by
 intro pins s σ H x y v u Q I rx ry h
 obtain⟨p,xs,dx,ds,rfl,hq,h1,h2,h3,h4,h5,q⟩:=h
 cases ry
 obtain⟨bs,rb⟩:=h1.reads I dx x v rx
 have he:∀ (its:List Value) (as:List Addr),bH0 s.heap its ds as->∀ y,y∈its.toArray->SeqAt.EqAt X.A.in1 s y v (aS1 s.heap dx y):=fun its as ra y hy=>by
  obtain⟨d,cs,hl,rd⟩:=aw6 h4 ra (by simpa using hy)
  rw[aS0 hl rd]
  refine SeqAt.eqAt_reads d dx X.A.in1 s y v cs bs rd rb hl h3 ?_
  show X.A.units+1+min d.depth dx.depth<av2
  omega
 rcases hq with hq | hq
 ·obtain⟨its,rv,pl,hz⟩:=I.list hq
  obtain⟨as,ra⟩:=h2.reads I ds xs its rv
  refine SeqAt.in_listAt (aS1 s.heap dx) pl.isList (he its as ra) ⟨.bl _,H,I,rfl,?_⟩
  rw[aq0,aH3 h4 ra]
  exact q
 ·obtain⟨its,rv,pl,hz⟩:=I.tuple hq
  obtain⟨as,ra⟩:=h2.reads I ds xs its rv
  refine SeqAt.in_tupleAt (aS1 s.heap dx) pl (he its as ra) ⟨.bl _,H,I,rfl,?_⟩
  rw[aq0,aH3 h4 ra]
  exact q
theorem bp6:OpR X (K8 .NotIn) (bf2 X.K X.A true):=by
 intro pins s σ H x y v u Q I rx ry h
 obtain⟨p,xs,dx,ds,rfl,hq,h1,h2,h3,h4,h5,q⟩:=h
 cases ry
 obtain⟨bs,rb⟩:=h1.reads I dx x v rx
 have he:∀ (its:List Value) (as:List Addr),bH0 s.heap its ds as->∀ y,y∈its.toArray->SeqAt.EqAt X.A.in1 s y v (aS1 s.heap dx y):=fun its as ra y hy=>by
  obtain⟨d,cs,hl,rd⟩:=aw6 h4 ra (by simpa using hy)
  rw[aS0 hl rd]
  refine SeqAt.eqAt_reads d dx X.A.in1 s y v cs bs rd rb hl h3 ?_
  show X.A.units+1+min d.depth dx.depth<av2
  omega
 rcases hq with hq | hq
 ·obtain⟨its,rv,pl,hz⟩:=I.list hq
  obtain⟨as,ra⟩:=h2.reads I ds xs its rv
  refine SeqAt.notIn_listAt (aS1 s.heap dx) pl.isList (he its as ra) ⟨.bl _,H,I,rfl,?_⟩
  rw[aq0,aH3 h4 ra]
  exact q
 ·obtain⟨its,rv,pl,hz⟩:=I.tuple hq
  obtain⟨as,ra⟩:=h2.reads I ds xs its rv
  refine SeqAt.notIn_tupleAt (aS1 s.heap dx) pl (he its as ra) ⟨.bl _,H,I,rfl,?_⟩
  rw[aq0,aH3 h4 ra]
  exact q
end L2
namespace L2
open PySem PySem.Spec PyProof.Rows
theorem am7 (hc:X.calm=true):ac3 X (.builtin "sum") (fun xs H Q=>∃ (p:Addr) (ns:List Int),xs=[.ref p]/\SqL X.K H p (ns.map V.int)/\Q (.int ns.sum) H):=by
 intro pins s σ H xs us Q I r h
 obtain⟨p,ns,rfl,hq,q⟩:=h
 obtain⟨u,rfl,rx⟩:=vals1 r
 cases rx
 obtain⟨its,r',pl,hz⟩:=I.list hq
 have hi:R0 its ns:=intsAre_of r'
 obtain⟨ys,e⟩:=hi.allInts.items
 refine sum_intListG (xs:=ys) (I.ok.hd hc) (by rw[<- e];exact pl.isList) fun h' tk t' hk=>⟨.int ns.sum,H,I.kept (t':=tk) hk,⟨t',?_⟩,q⟩
 have e2:numsOf (as0 ys).toList=ns:=by rw[<- e];exact hi.numsOf
 rw[nums_intItems]at e2
 rw[preSum_eq,j7 (by simp),e2]
theorem at9:ck4 X (bX5 X.K):=by
 intro pins s σ H o i ov iv Q I ro ri h
 obtain⟨p,xs,k,z,rfl,rfl,hq,he,q⟩:=h
 cases ro
 obtain⟨t,rfl⟩:=ri
 obtain⟨its,r,pl,hz⟩:=I.list hq
 obtain⟨j,h1,h2,h3,h4,h5⟩:=aC0 he
 obtain⟨w,ew,rw'⟩:=r.get h2
 have hl:=r.length
 have hn:=ar4
 have fin:EP X pins σ Q w s:=⟨z,H,I,rw',q⟩
 by_cases h0:0<=k
 ·have hj:k.toNat=j:=by
   rw[bn9 h0 h5]at h1
   exact Option.some.inj h1
  exact wpAny_getItem_list pl.isList h0 (by omega) (by rw[hj];simpa using ew) fin
 ·have hj:(k+(its.toArray.size:Int)).toNat=j:=by
   rw[bc6 (by omega) h4]at h1
   rw[d7,<- hl]
   exact Option.some.inj h1
  exact bP8 pl.isList (by omega) (by rw[d7];omega) (by omega) (by rw[hj];simpa using ew) fin
def LkL (X:Cx)(scope:Scope)(cl:List (Str × Addr)):List Str->List (Option Nat)->Prop
 | [],[]=>True
 | _::N,none::lk=>LkL X scope cl N lk
 | x::N,some j::lk=>(X.N[j]?=some x/\(X.env.scope.names.lookup x=some .cell\/X.env.scope.names.lookup x=some .free)/\(cl.lookup x).isSome=true /\
  ((V3 scope cl 0 X.env).kindOf x=some .cell\/(V3 scope cl 0 X.env).kindOf x=some .free))/\LkL X scope cl N lk
 | _,_=>False
theorem LkL.len:∀ {N:List Str} {lk:List (Option Nat)},LkL X scope cl N lk->lk.length=N.length
 | [],[],_=>rfl
 | _::N,none::lk,h=>congrArg (·+1) (LkL.len (N:=N) (lk:=lk) h)
 | _::N,some _::lk,h=>congrArg (·+1) (LkL.len (N:=N) (lk:=lk) h.2)
 | [],_::_,h=>h.elim
 | _::_,[],h=>h.elim
theorem LkL.get:∀ {N:List Str} {lk:List (Option Nat)},LkL X scope cl N lk->∀ (i j:Nat) (x:Str),N[i]?=some x->lk[i]?=some (some j) ->
  X.N[j]?=some x/\(X.env.scope.names.lookup x=some .cell\/X.env.scope.names.lookup x=some .free)/\(cl.lookup x).isSome=true/\((V3 scope cl 0 X.env).kindOf x=some .cell\/(V3 scope cl 0 X.env).kindOf x=some .free)
 | [],[],_,i,j,x,h1,_=>by simp at h1
 | _::N,none::lk,h,0,j,x,h1,h2=>by simp at h2
 | _::N,none::lk,h,i+1,j,x,h1,h2=>LkL.get (N:=N) (lk:=lk) h i j x (by simpa using h1) (by simpa using h2)
 | y::N,some k::lk,h,0,j,x,h1,h2=>by
  simp at h1 h2
  subst h1 h2
  exact h.1
 | _::N,some _::lk,h,i+1,j,x,h1,h2=>LkL.get (N:=N) (lk:=lk) h.2 i j x (by simpa using h1) (by simpa using h2)
 | [],_::_,h,_,_,_,_,_=>h.elim
 | _::_,[],h,_,_,_,_,_=>h.elim
theorem LkL.ok (h:LkL X scope cl N lk):bF0 X N lk scope cl:=⟨h.len,h.get⟩
theorem O5 {σ:St}{A B:Hp->Prop}(h:A H):bQ2 σ H (fun b H3=>if b=true then A H3 else B H3):=by
 show if true=true then A H else B H
 exact T8 h
theorem C2 {v:V}{σ:St}{Q:St->Hp->Prop}(h:Q (σ.set i (some v)) H):aG0 i v σ H Q:=h
theorem SqT.updL {K:W.Frag}{l:Addr}{zs:List V}(h:SqT K H a ys)(hl:H l=some (.lst xs)):SqT K (upd H l (.lst zs)) a ys:=by
 rcases h with(h | ⟨o,h⟩) | h
 ·exact .inl (.inl (by rw[q8 (bR9 h hl (by intro z;cases z))];exact h))
 ·exact .inl (.inr ⟨o,by rw[q8 (bR9 h hl (by intro z;cases z))];exact h⟩)
 ·exact .inr h
theorem B2.updL {K:W.Frag}{l:Addr}{zs:List V}(hl:H l=some (.lst xs)):∀ {ys:List V} {ks:List (List Int)},B2 K H ys ks->B2 K (upd H l (.lst zs)) ys ks
 | _,_,.nil=>.nil
 | _,_,.cons r t=>by
  obtain⟨a,h1,h2⟩:=r
  exact .cons ⟨a,h1,h2.updL hl⟩ (B2.updL hl t)
theorem B2.one {K:W.Frag}(h:SqT K H a (k.map V.int)):B2 K H [.ref a] [k]:=.cons ⟨a,rfl,h⟩ .nil
theorem A3.seqT {K:W.Frag}(e:A3 H H')(h:SqT K H a xs):SqT K H' a xs:=by
 rcases h with(h | ⟨o,h⟩) | h
 ·exact .inl (.inl (e _ _ h))
 ·exact .inl (.inr ⟨o,e _ _ h⟩)
 ·exact .inr h
theorem A3.tups {K:W.Frag}(e:A3 H H')(h:B2 K H ys ks):B2 K H' ys ks:=B2.same e h
theorem A3.upd {l:Addr}{o:HO}(e:A3 H H')(h:H l=none):A3 H (upd H' l o):=fun b u q=>by
 rw[q8 (q0 q h)]
 exact e b u q
end L2
namespace L2
open PySem
theorem bB8 {v v':V}{σ:St}{Q:St->Hp->Prop}(e:v=v')(h:aG0 i v' σ H Q):aG0 i v σ H Q:=by
 rw[e]
 exact h
theorem br5 (xs:List V)(k:Nat):am5 xs (some (k:Int)) none=xs.drop k:=by
 unfold am5
 rw[HT.bj7,HT.aW7]
 rcases Nat.le_total k xs.length with h | h
 ·rw[bc7 h]
  exact j7 (by rw[E7];omega)
 ·rw[Nat.min_eq_right h,bt5 h,bt5 (c8 _)]
  simp
theorem bm6 (xs:List V)(k:Nat):am5 xs none (some (k:Int))=xs.take k:=by
 unfold am5
 rw[HT.bj7,HT.aW7,bi3,bG2]
 rcases Nat.le_total k xs.length with h | h
 ·rw[bc7 h]
 ·rw[Nat.min_eq_right h,j7 h,j7 (c8 _)]
theorem bd2 {u d:Nat}(h:u+64<av2)(hd:d<=60):u+1+d<av2:=by omega
theorem bj0 {u d:Nat}(h:u+64<av2)(hd:d<=64):u+d<av2:=by omega
theorem Dt.mkInt {K:W.Frag}{i:Int}:Dt K H (.int i) (.int i):=by unfold Dt;rfl
theorem Dt.mkL {K:W.Frag}{ds:List ag7}(h:SqL K H a xs)(d:E5 K H ds xs):Dt K H (.list ds) (.ref a):=by unfold Dt;exact⟨a,xs,rfl,h,d⟩
theorem Dt.mkT {K:W.Frag}{ds:List ag7}(h:SqT K H a xs)(d:E5 K H ds xs):Dt K H (.tuple ds) (.ref a):=by unfold Dt;exact⟨a,xs,rfl,h,d⟩
theorem E5.mkN {K:W.Frag}:E5 K H [] []:=by unfold E5;rfl
theorem E5.mkC {K:W.Frag}{d:ag7}{x:V}{ds:List ag7}(h:Dt K H d x)(t:E5 K H ds xs):E5 K H (d::ds) (x::xs):=by unfold E5;exact⟨x,xs,rfl,h,t⟩
theorem Q4 {z:Int}{σ:St}{Q:St->Hp->Prop}(h:∀ c:Int,c=z->aG0 i (.int c) σ H Q):aG0 i (.int z) σ H Q:=h z rfl
theorem int_at {x:V}(h:(ns.map V.int)[i]?=some x):∃ z:Int,x=V.int z:=by
 rw[p8]at h
 cases e:ns[i]? with
 | none=>rw[e]at h;cases h
 | some z=>rw[e]at h;exact⟨z,(Option.some.inj h).symm⟩
theorem br4 (ns:List Int)(lo hi:Option Int):∃ ms:List Int,am5 (ns.map V.int) lo hi=ms.map V.int/\ms.length<=ns.length:=by
 unfold am5
 rw[<- aI0,<- aI1]
 exact⟨_,rfl,by rw[o8,E7];omega⟩
theorem ae0 (h:j<n):ixN n (j:Int)=some j:=by
 unfold ixN
 rw[if_pos (by omega),if_pos (by omega)]
 simp
theorem aQ9 (k:List Int):(PyData.list (k.map .int)).canLay0=true:=by simp[PyData.canLay0,lay_ints]
theorem bC9 (k:List Int):(PyData.list (k.map .int)).depth<=2:=by
 have:=aG3 k
 simp only[PyData.depth]
 omega
theorem bC3 (a b:List Int):PyData.eqv (.list (a.map .int)) (.list (b.map .int))=decide (a=b):=by
 simp only[PyData.eqv]
 exact aG2 a b
theorem Dt.mkLi {K:W.Frag}(h:SqL K H a (k.map V.int)):Dt K H (.list (k.map .int)) (.ref a):=Dt.mkL h (E5.ints k)
theorem B2.dtAll {K:W.Frag}(t:B2 K H ys ks):E5 K H (ks.map dP) ys:=E5.tups t
def dW (n:Int)(ks:List (List Int)):ag7:=.tuple [.int n,.tuple (ks.map dP)]
theorem bS0 (n:Int)(ks:List (List Int)):(dW n ks).canLay0=true:=by simp[dW,PyData.canLay0,PyData.canLayAll0,aL0]
theorem cj7 (n:Int)(ks:List (List Int)):(dW n ks).depth<=4:=by
 have:=aL8 ks
 simp only[dW,PyData.depth,PyData.depthAll]
 omega
theorem cj6 (n m:Int)(ks ls:List (List Int)):PyData.eqv (dW n ks) (dW m ls)=(decide (n=m) && decide (ks=ls)):=by
 simp only[dW,PyData.eqv,PyData.eqvAll,aL6,Bool.and_true]
 by_cases h:n=m
 ·subst h;simp
 ·simp[h]
end L2
namespace Web
open PySem L2
def ao9 (i m:Nat):List (List Int):=(u7 m).map fun(d:Nat)=>([(i:Int),(i:Int)+1+(d:Int)]:List Int)
def ae7 (n:Nat):List (List Int):=(u7 n).flatMap fun i=>ao9 i (n - (i+1))
def Up (n:Nat)(k:List Int):Prop:=∃ i j:Nat,i<j/\j<n/\k=[(i:Int),(j:Int)]
theorem bq2 (h:k∈ae7 n):Up n k:=by
 unfold ae7 at h
 obtain⟨i,hi,hk⟩:=cd5.mp h
 unfold ao9 at hk
 obtain⟨d,hd,rfl⟩:=u5.mp hk
 rw[B9]at hi hd
 exact⟨i,i+1+d,by omega,by omega,by simp⟩
def Asc (ks:List (List Int)):Prop:=ks.Pairwise fun a b=>Tim.M4 a b=true
theorem aK7:∀ n:Nat,n<=24->(ae7 n).length<=276:=by decide +kernel
theorem aE0 (n i:Nat):((u7 (i+1)).flatMap fun j=>ao9 j (n - (j+1)))=((u7 i).flatMap fun j=>ao9 j (n - (j+1)))++ao9 i (n - (i+1)):=by
 rw[G2,bP3]
 simp
theorem bp4 (i m:Nat):ao9 i (m+1)=ao9 i m++[[(i:Int),(i:Int)+1+(m:Int)]]:=by
 unfold ao9
 rw[G2,k8]
 rfl
theorem bz5 (n:Nat):∀ i:Nat,i<=n->((u7 i).flatMap fun j=>ao9 j (n - (j+1))).length<=(ae7 n).length:=by
 intro i hi
 unfold ae7
 obtain⟨d,rfl⟩:=Nat.exists_eq_add_of_le hi
 rw[List.range_add,bP3,m6]
 omega
theorem bc1:∀ {ks ls:List (List Int)},Asc ks->ls.Perm ks->ls.Pairwise (fun a b=>Tim.M4 b a=false)->ls=ks
 | [],ls,_,p,_=>p.eq_nil
 | k::ks,[],_,p,_=>by
  have:=p.length_eq
  simp at this
 | k::ks,l::ls,h,p,q=>by
  have hkl:l=k:=by
   have h1:l∈k::ks:=p.mem_iff.mp c9
   have h2:k∈l::ls:=p.mem_iff.mpr c9
   rcases d8.mp h1 with e | e
   ·exact e
   ·rcases d8.mp h2 with e2 | e2
    ·exact e2.symm
    ·have a1:=(G4.mp h).1 l e
     have a2:=(G4.mp q).1 k e2
     rw[a1]at a2
     cases a2
  subst hkl
  rw[bc1 (G4.mp h).2 ((List.perm_cons _).mp p) (G4.mp q).2]
def up:List Int->List Int
 | [a,b]=>[if b<a then b else a,if b > a then b else a]
 | k=>k
theorem ce4 (h:Up n k):up k=k:=by
 obtain⟨i,j,h1,h2,rfl⟩:=h
 show [if (j:Int)<i then (j:Int) else i,if (j:Int) > i then (j:Int) else i]=_
 rw[if_neg (by omega),if_pos (by omega)]
theorem Up.key (h:Up n k)(hn:n<=24):Sett.ay8 k:=by
 obtain⟨i,j,h1,h2,rfl⟩:=h
 exact⟨i,j,by omega,by omega,rfl⟩
theorem Up.len (h:Up n k):k.length=2:=by
 obtain⟨i,j,h1,h2,rfl⟩:=h
 rfl
def an0 (n:Nat)(k:List Int):Prop:=∃ i j:Nat,i<n/\j<n/\i≠j/\k=[(i:Int),(j:Int)]
theorem an0.up (h:an0 n k):Up n (up k):=by
 obtain⟨i,j,h1,h2,h3,rfl⟩:=h
 show Up n [if (j:Int)<i then (j:Int) else i,if (j:Int) > i then (j:Int) else i]
 by_cases h:i<j
 ·rw[if_neg (by omega),if_pos (by omega)]
  exact⟨i,j,h,h2,rfl⟩
 ·rw[if_pos (by omega),if_neg (by omega)]
  exact⟨j,i,by omega,h1,rfl⟩
theorem Up.ends (h:Up n k):an0 n k:=by
 obtain⟨i,j,h1,h2,rfl⟩:=h
 exact⟨i,j,by omega,h2,by omega,rfl⟩
end Web
namespace L2
open PySem
def Z9.around {k:Nat}{A:Around}(_:Z9 k A):Around:=A
theorem bK5 (K:W.Frag)(A:Around)(hK:X.K=K)(hA:X.A=A):OpR X (K8 .Eq) (bJ6 K A false):=by subst hK hA;exact bg1
theorem bk4 (K:W.Frag)(A:Around)(hK:X.K=K)(hA:X.A=A):OpR X (K8 .In) (bf2 K A false):=by subst hK hA;exact bY1
theorem bg0 (K:W.Frag)(A:Around)(hK:X.K=K)(hA:X.A=A):OpR X (K8 .NotIn) (bf2 K A true):=by subst hK hA;exact bp6
end L2
namespace L2
open PySem PySem.Spec PyProof.Rows
section
variable {to:TE} {t:TA} {name:Str} {apos cpos:Pos} {T id:String}
theorem au1 (p:Int):∀ k:List Int,(k.map PyData.int).any (fun d=>PyData.eqv d (.int p))=decide (p∈k)
 | []=>by simp
 | i::k=>by
  rw[o9,bs9,au1 p k]
  by_cases h:i=p
  ·subst h;simp[PyData.eqv]
  ·have h':p≠i:=fun e=>h e.symm
   simp[PyData.eqv,h,h']
end
theorem bl1:∀ {vs:List Value} {n i:Nat},vs.length=n->(∀ j v,vs[j]?=some v->∃ t,v=Value.int (((i+j:Nat):Int)) t)->R0 vs ((ap3 i n).map fun k:Nat=>(k:Int))
 | [],n,i,e,_=>by subst e;exact .nil
 | v::vs,0,i,e,_=>by cases e
 | v::vs,n+1,i,e,h=>by
  obtain⟨t,rfl⟩:=h 0 v rfl
  rw[List.range'_succ,o9]
  refine .cons _ t (bl1 (by simpa using e) fun j v hv=>?_)
  obtain⟨t',e'⟩:=h (j+1) v (by simpa using hv)
  exact⟨t',by rw[e'];congr 2;omega⟩
theorem bb6 {r:Addr}{t u v:Tok}{Q:List Value->Shared->Prop}(hh:A.handled=none)(hr:IsRange s.heap r 0 n 1 t u v)(hn:n<=1000)
  (h:∀ h' tk vs,(∀ b o,s.heap.get? b=some o->h'.get? b=some o)->R0 vs ((ap3 0 n).map fun k:Nat=>(k:Int))->Q vs { s with heap:=h',toks:=tk }) :
  p9 (x8 prog w) A (collect (.ref r)) Q E s:=by
 unfold collect
 refine b7 (wpAny_runValue (O1 F.entry_proto_collect ?_))
 rw[Around.under_plainId F.plain_proto_collect _]
 show p9 _ A.in1 (newList [] >>= fun l=>bT4 (.builtin "list.__iadd__" ⟨[l,.ref r],[]⟩)) _ _ s
 refine b7 (Q9 ?_)
 refine d4 ⟨ah1 F.plain_list_iadd _,O1 F.entry_list_iadd ?_⟩
 rw[Around.under_plainId F.plain_list_iadd _]
 show p9 _ A.in1 (Builtin.List.listExtendWith (.ref s.heap.objs.size) (.ref r) (.ref s.heap.objs.size)) _ _ _
 have hS:(s.heap.push { cls:=.type "list",data:=.seq ([]:List Value).toArray }).get? s.heap.objs.size=some { cls:=.type "list",data:=.seq #[] }:=l5 _ rfl
 have hrs:Builtin.Range.rangeSize 0 n 1=(n:Int):=by rw[rangeSize_one];split<;>omega
 refine wpAny_extend_range (R:=fun rr s'=>match rr with
  | .ok (.ret v)=>p9 (x8 prog w) A (match v with
   | .ref a=>(do
    let o <- load a
    match o.data with
    | .seq xs _=>pure xs.toList
    | _=>aj6 "internal:collect")
   | _=>aj6 "internal:collect") Q E s'
  | .ok _=>False
  | .error e=>E e s') (s:={ s with heap:=s.heap.push { cls:=.type "list",data:=.seq ([]:List Value).toArray } }) (n:=n) hh (c5 _ hr) (small_one (by omega) (by omega) (by omega) (by omega)) hrs (by omega) s.heap.objs.size _ 0 hS fun h' tk acc' c' hk hS' hacc=>?_
 show p9 _ A (load s.heap.objs.size >>= _) _ _ _
 refine b7 (wpAny_load hS' ?_)
 refine d4 (h h' tk _ (fun b o e=>hk b o (l6 (d6 e)) (c5 _ e)) (bl1 (by rw[l4];exact hacc.1) fun j v hj=>?_))
 obtain⟨t',e⟩:=hacc.2 j v (by rw[<- d9];exact hj)
 exact⟨t',by rw[e];congr 1;omega⟩
section
variable {σ:St}
theorem S6.to {b:Addr}(f:S6 X pins H b)(h:H' b=none):S6 X pins H' b:=⟨h,f.2⟩
theorem Inv.turn {it:Addr}(I:Inv X pins σ H s)(f:S6 X pins H it)(k:∀ b o,b≠it->s.heap.get? b=some o->h'.get? b=some o):Inv X pins σ H { s with heap:=h',toks:=t' }:=
 I.turned k f.1 f.2.1 f.2.2.2.1 f.2.2.2.2.1 f.2.2.2.2.2
theorem Inv.take {o:HO}(I:Inv X pins σ H s)(f:S6 X pins H a)(k:∀ b u,b≠a->s.heap.get? b=some u->h'.get? b=some u)(new:W1 X.prog X.w (upd H a o) h' a o):Inv X pins σ (upd H a o) { s with heap:=h',toks:=t' }:=by
 have hn:=f.1
 have ne:∀ b u,H b=some u->b≠a:=fun b u e=>q0 e hn
 have kp:∀ b u,H b=some u->upd H a o b=some u:=fun b u e=>by rw[q8 (ne b u e)];exact e
 refine I.step (g':=s.gens) (d':=s.drawn) (ch:=[a]) (fun b hb=>?_) (fun b u _ _ hc e _=>k b u (fun z=>hc (by simp[z])) e) (fun b u _ _ hc e _=>⟨u.slots,k b u (fun z=>hc (by simp[z])) e⟩) (fun b u hc _ n=>by rw[q8 (fun z=>hc (by simp[z]))];exact n)
  (fun b u hc e=>⟨u,k b u (fun z=>hc (by simp[z])) e⟩) (fun b xs e=>kp b _ e) (fun b u xs e=>kp b _ e) (fun b ps e=>⟨#[],by rw[kp b _ e];simp⟩) (fun m hm=>?_) (fun b u e=>?_) I.bare
 ·have e:b=a:=by simpa using hb
  subst e
  exact⟨f.2.2.2.1,f.2.1,f.2.2.2.2.1,f.2.2.2.2.2⟩
 ·obtain⟨o',es,ep,ho,r⟩:=hm
  exact⟨o',es,ep,k _ o' (Ne.symm f.2.1) ho,r⟩
 ·by_cases hb:b=a
  ·subst hb
   rw[c6]at e
   cases e
   exact new
  ·rw[q8 hb]at e
   refine(I.hok b u e).stay (fun c v hc q=>k c v ?_ q) (fun c q=>?_) fun c xs q=>?_
   ·rcases hc with z | z
    ·rw[z];exact hb
    ·exact ne c _ z
   ·exact kp _ _ q
   ·exact kp _ _ q
end
section
variable {σ:St}
abbrev aS4 (X:Cx)(A:Around)(σ:St)(H:Hp)(f:Value)(key:Int->List Int)(z:Int):Prop:=∀ (t:Tok) (pins':List (Addr × Obj)) (s':Shared) (H':Hp),Inv X pins' σ H' s'->A3 H H' ->
 p9 (x8 X.prog X.w) A (call f [.int z t]) (fun u s''=>∃ k H'',u=.ref k/\H'' k=some (.tup ((key z).map V.int))/\Inv X pins' σ H'' s''/\A3 H' H'') (fun _ _=>False) s'
abbrev aS5 (X:Cx)(pins:List (Addr × Obj))(σ:St)(H:Hp)(a:Addr)(zs:List Int)(key:Int->List Int)(P:PySem.Fin->Shared->Prop):Prop:=∀ (H':Hp) (s':Shared) (out:List Value) (zs':List Int) (c:Nat),Inv X pins σ H' s'->A3 H H'->S6 X pins H' a ->
 s'.heap.get? a=some (J4 "list" out.toArray c)->R0 out zs'->zs'.Perm zs->zs'.Pairwise (fun x y=>Tim.M4 (key y) (key x)=false)->P (.done (.ret .none)) s'
theorem aF5 {key:Int->List Int}:∀ {ks vs:List Value} {zs:List Int},ag5 (fun u k=>Tim.IsK prog w h k u) ks (zs.map key)->R0 vs zs ->
  (∀ p∈ks.zip vs,Tim.IsK prog w h (key (numOf p.2)) p.1)/\(ks.zip vs).map (fun p=>numOf p.2)=zs
 | _,_,[],.nil,.nil=>⟨fun p h=>(nomatch h),rfl⟩
 | _,_,z::zs,.cons r t,.cons _ t' q=>by
  obtain⟨h1,h2⟩:=aF5 t q
  refine⟨fun p hp=>?_,by rw[aH9,o9,h2];rfl⟩
  rw[aH9]at hp
  rcases d8.mp hp with rfl | hp
  ·exact r
  ·exact h1 p hp
theorem aL2:∀ {vs:List Value} {zs:List Int},R0 vs zs->∀ v∈vs,∃ t,v=.int (numOf v) t
 | _,_,.nil,v,h=>by cases h
 | _,_,.cons z t q,v,h=>by
  rcases d8.mp h with rfl | h
  ·exact⟨t,rfl⟩
  ·exact aL2 q v h
theorem bl2:∀ {vs:List Value},(∀ v∈vs,∃ t,v=.int (numOf v) t)->R0 vs (vs.map numOf)
 | [],_=>.nil
 | v::vs,h=>by
  obtain⟨t,e⟩:=h v c9
  rw[o9]
  rw[e]
  exact .cons _ t (bl2 fun v hv=>h v (c7 _ hv))
set_option maxHeartbeats 2000000 in
theorem ba3 {kS:Addr}{keys:Array Value}{e e1:Nat}{key:Int->List Int}{P:PySem.Fin->Shared->Prop}{st:SortSt}{H0:Hp}(I:Inv X pins σ H s)(hS:A3 H0 H)(hk:s.heap.get? kS=some (J4 "list" keys e))(ha:s.heap.get? a=some (J4 "list" #[] e1))
  (fk:S6 X pins H kS)(fa:S6 X pins H a)(hka:kS≠a)(hz:vs.length<=1000)(hkl:keys.size=vs.length)(hi:R0 vs zs)
  (hK:ag5 (fun u k=>Tim.IsK X.prog X.w s.heap k u) keys.toList (zs.map key))(hp:(m8 st).Perm (keys.zip vs.toArray))(hf:P5 st=none)
  (hs:(m8 st).toList.Pairwise (Tim.le (Tim.Bf (O:=Tim.bg4) fun p=>Tim.W9 X.prog X.w s.heap p.1)))(h:aS5 X pins σ H0 a zs key P) :
  p9 (x8 X.prog X.w) A (ksk_tail a false e1 (.ref kS) st) P E s:=by
 obtain⟨k1,k2⟩:=aF5 hK hi
 have hl:(m8 st).toList.Perm (keys.toList.zip vs):=by rw[<- ksk_zip];exact O0.mp hp
 have hsz2:(m8 st).size=vs.length:=by rw[hp.size_eq,Array.size_zip,hkl,d7,Nat.min_self]
 have s1:=Heap.SameBut.update s.heap kS (Obj.mapSeq fun _=>(#[]:Array Value))
 have na1:(s.heap.update kS (Obj.mapSeq fun _=>(#[]:Array Value))).get? a=some (J4 "list" #[] e1):=(s1.2 a hka.symm).trans ha
 have hout:((m8 st).map (·.2)).size=vs.length:=by rw[aj1];exact hsz2
 have hmem:∀ v∈(m8 st).toList.map (·.2),∃ t,v=.int (numOf v) t:=fun v hv=>by
  obtain⟨p,hp',rfl⟩:=u5.mp hv
  exact aL2 hi _ (au6 (hl.mem_iff.mp hp')).2
 unfold ksk_tail
 dsimp only
 refine b7 (ah0 hk rfl ?_ (by rw[hkl,E8];omega) (v9 _))
 refine b7 (aj7 ?_)
 refine b7 (bo2 na1 rfl ?_)
 refine b7 (ah0 na1 rfl ?_ (v9 _) (A8 (ak4 hout) (by rw[E8];omega)))
 rw[hf]
 simp only[bne_self_eq_false,m7,if_false]
 have I1:Inv X pins σ H { s with heap:=s.heap.update kS (Obj.mapSeq fun _=>(#[]:Array Value)),toks:=s.toks }:=I.turn fk fun b o hb q=>(s1.2 b hb).trans q
 have s2:=Heap.SameBut.update (s.heap.update kS (Obj.mapSeq fun _=>(#[]:Array Value))) a (Obj.mapSeq fun _=>(m8 st).map (·.2))
 have I2:Inv X pins σ H { s with heap:=(s.heap.update kS (Obj.mapSeq fun _=>(#[]:Array Value))).update a (Obj.mapSeq fun _=>(m8 st).map (·.2)),toks:=s.toks }:=
  I1.turn (t':=s.toks) fa fun b o hb q=>(s2.2 b hb).trans q
 obtain⟨c2,hc2⟩:∃ c2,((s.heap.update kS (Obj.mapSeq fun _=>(#[]:Array Value))).update a (Obj.mapSeq fun _=>(m8 st).map (·.2))).get? a=some (J4 "list" ((m8 st).map (·.2)) c2):=⟨_,aa3 na1 fun _=>(m8 st).map (·.2)⟩
 have eo:((m8 st).toList.map (·.2)).toArray=(m8 st).map (·.2):=by rw[<- cc4,au9]
 refine d4 (h H _ ((m8 st).toList.map (·.2)) (((m8 st).toList.map (·.2)).map numOf) c2 I2 hS fa (by rw[eo];exact hc2) (bl2 hmem) ?_ ?_)
 ·have:=hl.map fun p=>numOf p.2
  rw[k2]at this
  rw[X3]
  exact this
 ·rw[X3,F5]
  refine List.Pairwise.imp_of_mem ?_ hs
  intro x y hx hy hxy
  have ex:=Tim.V7 (k1 x (hl.mem_iff.mp hx))
  have ey:=Tim.V7 (k1 y (hl.mem_iff.mp hy))
  have hxy':Tim.M4 (Tim.W9 X.prog X.w s.heap y.1) (Tim.W9 X.prog X.w s.heap x.1)=false:=hxy
  rw[ex,ey]at hxy'
  exact hxy'
theorem bN0 {kS:Addr}{keys:Array Value}{e e1:Nat}{key:Int->List Int}{P:PySem.Fin->Shared->Prop}{H0:Hp}(I:Inv X pins σ H s)(hS:A3 H0 H)(hk:s.heap.get? kS=some (J4 "list" keys e))(ha:s.heap.get? a=some (J4 "list" #[] e1))
  (fk:S6 X pins H kS)(fa:S6 X pins H a)(hka:kS≠a)(hz:vs.length<=1000)(hkl:keys.size=vs.length)(hi:R0 vs zs)
  (hK:ag5 (fun u k=>Tim.IsK X.prog X.w s.heap k u) keys.toList (zs.map key))(hne:∀ z,∃ i k,key z=i::k)(h:aS5 X pins σ H0 a zs key P) :
  p9 (x8 X.prog X.w) A (ksk_end a false vs.toArray e1 (.ref kS) keys) P E s:=by
 obtain⟨k1,k2⟩:=aF5 hK hi
 have hzt:=ksk_zip keys vs
 unfold ksk_end
 dsimp only
 simp only[m7,if_false]
 by_cases h2:vs.toArray.size<2
 ·rw[if_pos h2,if_pos h2]
  refine b7 (d4 ?_)
  rw[StateT.run_pure]
  refine b7 (d4 ?_)
  refine ba3 (st:=SortSt.mk' general' (keys.zip vs.toArray) #[] 7 none) I hS hk ha fk fa hka hz hkl hi hK (Array.Perm.refl _) rfl ?_ h
  show (keys.zip vs.toArray).toList.Pairwise _
  rw[A2]
  intro i j hi hj hij
  rw[l4,Array.size_zip,hkl]at hj
  rw[d7]at h2 hj
  omega
 ·rw[if_neg h2,if_neg h2]
  rw[d7]at h2
  have hmemK:∀ v∈keys.toList,∃ i k,Tim.IsK X.prog X.w s.heap (i::k) v:=fun v hv=>by
   obtain⟨j,hj⟩:=p6.mp hv
   obtain⟨k,q1,q2⟩:=ah6 hK hj
   obtain⟨z,_,rfl⟩:=u5.mp (i7 q1)
   obtain⟨i,k',ek⟩:=hne z
   rw[ek]at q2
   exact⟨i,k',q2⟩
  have kk:keyKind' keys=keyKind' keys.toList.toArray:=by rw[au9]
  rw[kk]
  refine b7 (Tim.aF4 (vs:=keys.toList) (by rw[l4,hkl];omega) hmemK ?_)
  refine b7 (E3 (Tim.ax9 (a₀:=keys.zip vs.toArray) (κ:=bG8 true) (O:=Tim.bg4) (f:=fun p=>Tim.W9 X.prog X.w s.heap p.1) (st:=SortSt.mk' (bG8 true) (keys.zip vs.toArray) #[] 7 none)
   (Q:=fun _ st'=>(m8 st').Perm (keys.zip vs.toArray)/\P5 st'=none/\(m8 st').toList.Pairwise (Tim.le (Tim.Bf (O:=Tim.bg4) fun p=>Tim.W9 X.prog X.w s.heap p.1))) ?_ ([]:List Int) (Array.Perm.refl _) rfl rfl rfl fun st' a1 a2 a3=>⟨a1,a2,a3⟩) ?_ fun _ _ e=>e)
  ·intro x y hx hy Q hq
   rw[hzt]at hx hy
   refine Tim.aZ8 (k1 x hx) (k1 y hy) ?_
   rw[<- Tim.V7 (k1 x hx),<- Tim.V7 (k1 y hy)]
   exact hq
  ·rintro⟨⟨⟩,st'⟩ s' ⟨rfl,hp,hf,hs⟩
   exact ba3 I hS hk ha fk fa hka hz hkl hi hK hp hf hs h
theorem bB3:∀ {vs:List Value} {zs:List Int} {j:Nat} {x:Value},R0 vs zs->vs[j]?=some x->∃ z t,zs[j]?=some z/\x=.int z t
 | _,_,_,_,.nil,h=>by simp at h
 | _,_,0,_,.cons n t q,h=>by simp at h;exact⟨n,t,rfl,h.symm⟩
 | _,_,j+1,_,.cons n t q,h=>by
  obtain⟨z,t',h1,h2⟩:=bB3 q (by simpa using h)
  exact⟨z,t',by simpa using h1,h2⟩
theorem bB9 {s':Shared}{b:Addr}{o:Obj}(I:Inv X (pins++ar1 fp h) σ H' s')(hb:b∈fp)(e:h.get? b=some o):s'.heap.get? b=some o/\H' b=none:=
 let p:=I.pin (b,o) (m9 _ (m9 _ (U4 hb e)))
 ⟨p.1,p.2.1⟩
theorem bA6 {kS:Addr}{f:Value}{e1:Nat}{key:Int->List Int}{P:PySem.Fin->Shared->Prop}(I:Inv X pins σ H s)(hk:s.heap.get? kS=some (J4 "list" #[] 0))(ha:s.heap.get? a=some (J4 "list" #[] e1))
  (fk:S6 X pins H kS)(fa:S6 X pins H a)(hka:kS≠a)(hz:vs.length<=1000)(hi:R0 vs zs)(hne:∀ z,∃ i k,key z=i::k)(turn:∀ z∈zs,aS4 X A σ H f key z)(h:aS5 X pins σ H a zs key P) :
  p9 (x8 X.prog X.w) A (ksk_rest a f false vs.toArray e1 (.ref kS)) P E s:=by
 have hlen:=hi.length
 unfold ksk_rest
 refine b7 (aq4 ?_)
 first
  | rw[List.forIn_toArray]
  | (rw[<- ai5];simp only[bP4])
  | rw[<- ai5]
 refine b7 (ksk_fold (fun i s'=>∃ (kA:Array Value) (e:Nat) (H':Hp) (ys:List V),Inv X pins σ H' s'/\A3 H H'/\s'.heap.get? kS=some (J4 "list" kA e)/\s'.heap.get? a=some (J4 "list" #[] e1)/\S6 X pins H' kS/\S6 X pins H' a /\
   D3 ys kA.toList/\B2 X.K H' ys ((zs.take i).map key)) vs 0 s ⟨#[],0,H,[],I,A3.refl H,hk,ha,fk,fa,.nil,.nil⟩ ?step ?done)
 case step =>
  rintro j x s' hx ⟨kA,e,H',ys,I',hS,hk',ha',fk',fa',hv,ht⟩
  simp only[O8]at ht ⊢
  have hj:j<vs.length:=(j5.mp hx).1
  obtain⟨z,t,hzj,rfl⟩:=bB3 hi hx
  have hzA:kA.size<=vs.length:=by
   have h1:ys.length=kA.size:=by rw[<- l4];exact hv.length
   have h2:=ht.len
   rw[b8,o8]at h2
   omega
  have Ip:=I'.pinned (fp:=[kS,a]) (fun b hb=>by
   rcases d8.mp hb with rfl | hb
   ·exact fk'
   ·rw[B5.mp hb];exact fa') (fun b hb=>by
   rcases d8.mp hb with rfl | hb
   ·exact⟨_,hk',fun v q=>by cases q⟩
   ·rw[B5.mp hb];exact⟨_,ha',fun v q=>by cases q⟩)
  refine b7 (aN2 (E3 (turn z (i7 hzj) t _ s' H' Ip hS) (fun v s'' he=>?_) fun _ _ hF=>hF.elim))
  obtain⟨k,H'',rfl,hk'',I'',hS'⟩:=he
  obtain⟨nk,fk0⟩:=bB9 I'' c9 hk'
  obtain⟨na,fa0⟩:=bB9 I'' (c7 _ c9) ha'
  have Iu:=I''.unpinned
  have fk'':S6 X pins H'' kS:=fk'.to fk0
  have fa'':S6 X pins H'' a:=fa'.to fa0
  have s1:=Heap.SameBut.update s''.heap kS (Obj.mapSeq (·.push (.ref k)))
  obtain⟨c2,hc2⟩:∃ c2,(s''.heap.update kS (Obj.mapSeq (·.push (Value.ref k)))).get? kS=some (J4 "list" (kA.push (.ref k)) c2):=⟨_,aa3 nk (·.push (.ref k))⟩
  have ea:(kA.push (Value.ref k)).toList=kA.toList++[Value.ref k]:=by simp
  have ek:zs.take (j+1)=zs.take j++[z]:=by rw[u9,hzj];simp
  refine b7 (ah0 nk rfl ?_ (by rw[E8];omega) (A8 (ak4 (B6 ..)) (by rw[E8];omega)))
  refine d4 ⟨rfl,kA.push (.ref k),c2,H'',ys++[.ref k],?_,hS.trans hS',hc2,(s1.2 a hka.symm).trans na,fk'',fa'',?_,?_⟩
  ·exact Iu.turn (t':=s''.toks) fk'' fun b o hb q=>(s1.2 b hb).trans q
  ·rw[ea]
   exact hv.append (.cons rfl .nil)
  ·rw[ek,k8]
   exact B2.append (B2.same hS' ht) (.cons ⟨k,rfl,.of hk''⟩ .nil)
 case done =>
  rintro s' ⟨kA,e,H',ys,I',hS,hk',ha',fk',fa',hv,ht⟩
  have e3:zs.take (0+vs.length)=zs:=j7 (by omega)
  rw[e3]at ht
  refine b7 (bT6 hk' rfl ?_)
  have h1:ys.length=kA.size:=by rw[<- l4];exact hv.length
  have h2:=ht.len
  rw[b8]at h2
  have hK:=af1 I' ht hv
  exact bN0 I' hS hk' ha' fk' fa' hka hz (by omega) hi (aE1 (fun u k q=>q) hK) hne h
end
section
variable {σ:St}
theorem bA5 {f:Value}{key:Int->List Int}{P:PySem.Fin->Shared->Prop}(I:Inv X pins σ H s)(ha:s.heap.get? a=some (J4 "list" vs.toArray n))
  (fa:S6 X pins H a)(hz:vs.length<=1000)(hi:R0 vs zs)(hne:∀ z,∃ i k,key z=i::k)(turn:∀ z∈zs,aS4 X A σ H f key z)(h:aS5 X pins σ H a zs key P) :
  p9 (x8 X.prog X.w) A (ksk_tree a f false) P E s:=by
 have hlt:a<s.heap.objs.size:=d6 ha
 have s1:=Heap.SameBut.update s.heap a (Obj.mapSeq fun _=>(#[]:Array Value))
 obtain⟨e1,ho1⟩:∃ e1,(s.heap.update a (Obj.mapSeq fun _=>(#[]:Array Value))).get? a=some (J4 "list" #[] e1):=⟨_,aa3 ha fun _=>#[]⟩
 have I1:Inv X pins σ H { s with heap:=s.heap.update a (Obj.mapSeq fun _=>(#[]:Array Value)),toks:=s.toks }:=I.turn fa fun b o hb q=>(s1.2 b hb).trans q
 unfold ksk_tree
 refine b7 (bT6 ha rfl ?_)
 refine b7 (ah0 ha rfl ?_ (by rw[d7,E8];omega) (v9 _))
 refine b7 (bo2 ho1 rfl ?_)
 refine b7 (bt6 ?_ (by show vs.length<=_;rw[E8];omega))
 refine b7 (V1 ?_ (v9 _))
 refine C9 ?_
 generalize hh2:(s.heap.update a (Obj.mapSeq fun _=>(#[]:Array Value))).push (J4 "tuple" vs.toArray 0)=h2
 have hsz:h2.objs.size=s.heap.objs.size+1:=by rw[<- hh2,bG0,cd2]
 have I2:Inv X pins σ H { s with heap:=h2,toks:=s.toks }:=I1.kept (t':=s.toks) fun b o q=>by rw[<- hh2];exact c5 _ q
 have I3:Inv X pins σ H { s with heap:=h2.push (J4 "list" #[] 0),toks:=s.toks }:=I2.kept (t':=s.toks) fun b o q=>c5 _ q
 have fk:S6 X pins H h2.objs.size:=I2.fpOk (c8 _) (I2.hok.fresh (c8 _))
 refine bA6 (s:={ s with heap:=h2.push (J4 "list" #[] 0),toks:=s.toks }) (kS:=h2.objs.size) (e1:=e1) I3 (l5 _ rfl) ?_ fk fa (by rw[hsz];exact L0 (E1 hlt)) hz hi hne turn h
 refine c5 _ ?_
 rw[<- hh2]
 exact c5 _ ho1
theorem be2 {r q:Addr}{key:Int->List Int}(I:Inv X pins σ H s)(hh:A.handled=none)(hr:∃ t u v,IsRange s.heap r 0 n 1 t u v)(hn:n<=1000)(hne:∀ z,∃ i k,key z=i::k)
  (turn:∀ z∈(ap3 0 n).map (fun k:Nat=>(k:Int)),aS4 X A.in1.in1 σ H (.ref q) key z)
  (h:∀ (H':Hp) (s':Shared) (D:Addr) (zs:List Int),A3 H H'->H' D=none->zs.Perm ((ap3 0 n).map fun k:Nat=>(k:Int))->zs.Pairwise (fun x y=>Tim.M4 (key y) (key x)=false)->Inv X pins σ (upd H' D (.lst (zs.map V.int))) s'->Q (.ref D) s') :
  p9 (x8 X.prog X.w) A (call (.builtin "sorted") [.ref r] [(Str.ofString "key",.ref q)]) Q E s:=by
 obtain⟨t,u,v,hr⟩:=hr
 refine bQ0 ce0 bT7 bT8 (ksk_s1 _ _) ?_
 unfold Builtin.«sorted»
 refine b7 (m:=checkCount "sorted" 1 1 _) (d4 ?_)
 refine b7 (bb6 (A:=A.in1) hh hr hn fun h1 tk vs kp hi=>?_)
 have hlen:=hi.length
 rw[b8,aI2]at hlen
 have I1:Inv X pins σ H { s with heap:=h1,toks:=tk }:=I.kept kp
 refine b7 (V1 ?_ (by rw[E8];omega))
 have fD:S6 X pins H h1.objs.size:=I1.fpOk (c8 _) (I1.hok.fresh (c8 _))
 have I2:Inv X pins σ H { s with heap:=h1.push (J4 "list" vs.toArray 0),toks:=tk }:=I1.kept (t':=tk) fun b o q=>c5 _ q
 have hoL:(h1.push (J4 "list" vs.toArray 0)).get? h1.objs.size=some (J4 "list" vs.toArray 0):=l5 _ rfl
 refine b7 (C9 (ce1 bt7 (s:={ s with heap:=h1.push (J4 "list" vs.toArray 0),toks:=tk }) ⟨_,hoL,rfl⟩ bo3 ?body (ksk_l1 _ _)))
 show p9 (x8 X.prog X.w) A.in1.in1 (Builtin.«list.sort» ⟨[.ref h1.objs.size],[(Str.ofString "key",.ref q)]⟩) _ _ _
 rw[ksk_t1]
 refine bA5 I2 hoL fD (by omega) hi hne turn fun H' s' out zs' c I' hS fa' hout hi' hp hs=>⟨_,rfl,?_⟩
 have hl2:zs'.length<=1000:=by rw[hp.length_eq,b8,aI2];exact hn
 refine d4 ⟨_,rfl,h H' s' h1.objs.size zs' hS fa'.1 hp hs ?_⟩
 have:=I'.take (t':=s'.toks) (h':=s'.heap) (o:=.lst (zs'.map V.int)) fa' (fun b u _ q=>q) ⟨by rw[b8,E8];omega,out,c,an7 hi',hout⟩
 exact this
end
abbrev ar6 (qual:Str)(scope:Scope)(cl:List (Str × Addr))(f:Addr)(cv:Value)(s:Shared):Env:=PySem.W.envX qual scope s.heap.objs.size f cv cl
def bz9 (X:Cx)(A:Around)(qual:Str)(scope:Scope)(cl:List (Str × Addr))(N':List Str)(f:Addr)(cv:Value)(s:Shared)(H:Hp):Cx:=
 { X with A:=A.deeper (ar6 qual scope cl f cv s),N:=N',s₀:=s,H₀:=H,env:=ar6 qual scope cl f cv s,outer:=X.stack,stack:=List.cons (ar6 qual scope cl f cv s) X.stack,ex:=[],fn:=fun _=>false,calm:=true,pn:=[],xe:=fun _ _=>False }
def aM6 (X:Cx)(N':List Str)(lk:List (Option Nat))(scope:Scope)(cl:List (Str × Addr)):Prop:=
 lk.length=N'.length/\∀ (i j:Nat) (x:Str),N'[i]?=some x->lk[i]?=some (some j)->X.N[j]?=some x/\(X.env.scope.names.lookup x=some .cell\/X.env.scope.names.lookup x=some .free)/\(cl.lookup x).isSome=true /\
  (scope.names.lookup x=some .cell\/scope.names.lookup x=some .free)
section
variable {σ:St}
theorem bq5 {h1:Heap}{tk:Nat}{p:Str}{cv:Value}{v:V}(I:Inv X pins σ H s)(hA:A.frames=some X.stack)(hh:A.handled=none)(hkind:scope.kind=.function)(hcl:aH8 X.env cl)(hfr:au5 scope.names cl=true)(hlk:aM6 X N' lk scope cl)
  (hp:scope.names.lookup p=some .local)(rv:RelV v u)(hn:h1.Ns s.heap.objs.size (fun y=>[(p,u)].reverse.lookup y))(hk:∀ b o,s.heap.get? b=some o->h1.get? b=some o) :
  Inv (bz9 X A qual scope cl (p::N') f cv s H) [] (some v::ai1 lk σ) H { s with heap:=h1,toks:=tk }:=by
 have hC:H s.heap.objs.size=none:=I.hok.fresh (c8 _)
 have hmem:∀ y∈scope.names,y.2≠.cell/\(y.2=.free->(cl.lookup y.1).isSome=true):=fun y hy=>by
  unfold au5 at hfr
  rw[J2]at hfr
  have:=hfr y hy
  rw[B4]at this
  refine⟨by simpa using this.1,fun e=>?_⟩
  have h2:=this.2
  rw[e]at h2
  simpa using h2
 have hcell:∀ x c,cl.lookup x=some c->X.env.cells.lookup x=some c:=fun x c e=>hcl.get e
 have noE:∀ b:Addr,b∉([]:List Addr):=fun b z=>nomatch z
 refine⟨⟨I.ok.mod,hkind,rfl,rfl,c8 _,fun x y c e1 e2=>I.ok.inj x y c (hcell x c e1) (hcell y c e2),fun x hx=>?_,(fun x c e=>by cases e),fun _=>hh,Around.frames_deeper hA,.inr ⟨rfl,rfl⟩,fun b z=>absurd z (noE b),fun b o e=>I.bs b o e,A8 I.ok.bsz I.sz,fun b _ _=>noE b,fun b z=>absurd z (noE b),I.stack,I.stkFree⟩,
  rfl,I.bare,Un.kept hk,⟨_,hn,fun i x w e1 e2 e3=>?_⟩,fun x c e=>?_,hC,fun x c e=>I.freeC x c (hcell x c e),(fun q hq=>nomatch hq),I.hok.kept hk,?_⟩
 ·have hx':scope.names.lookup x=some .cell\/scope.names.lookup x=some .free:=hx
  rcases hx' with h | h
  ·exact absurd rfl (hmem _ (PySem.mem_of_lookup h)).1
  ·exact o7.mp ((hmem _ (PySem.mem_of_lookup h)).2 rfl)
 ·cases i with
  | zero =>
   have e1':p=x:=by simpa using (show (p::N')[0]?=some x from e1)
   have e2':v=w:=by simpa using (show (some v::ai1 lk σ)[0]?=some (some w) from e2)
   subst e1' e2'
   refine⟨u,rv,.inl ⟨hp,?_⟩⟩
   show [(p,u)].reverse.lookup p=some u
   simp[C8]
  | succ i =>
   have e1':N'[i]?=some x:=by simpa using (show (p::N')[i+1]?=some x from e1)
   have e2':(ai1 lk σ)[i]?=some (some w):=by simpa using (show (some v::ai1 lk σ)[i+1]?=some (some w) from e2)
   unfold ai1 at e2'
   rw[p8]at e2'
   cases hq:lk[i]? with
   | none=>rw[hq]at e2';cases e2'
   | some o =>
    rw[hq]at e2'
    have e2'':(o.bind fun j=>(σ[j]?).join)=some w:=Option.some.inj e2'
    cases o with
    | none=>cases e2''
    | some j =>
     obtain⟨q1,q2,q3,q4⟩:=hlk.2 i j x e1' hq
     have hσ:σ[j]?=some (some w):=by
      have z:(σ[j]?).join=some w:=e2''
      cases hh:σ[j]? with
      | none=>rw[hh]at z;cases z
      | some o=>rw[hh]at z;rw[show o=some w from z]
     obtain⟨m,hnX,hl⟩:=I.loc
     obtain⟨u',r,lo⟩:=hl j x w q1 hσ (q2.elim (fun a=>.inr (.inl a)) (fun a=>.inr (.inr a)))
     refine⟨u',r,.inr ?_⟩
     obtain⟨c,hc⟩:=o7.mp q3
     refine⟨q4,c,hc,?_⟩
     have hcX:=hcell x c hc
     rcases lo with⟨k,_⟩ | ⟨_,c',hc',z⟩
     ·have k':X.env.scope.names.lookup x=some .local:=k
      rw[k']at q2
      rcases q2 with q2 | q2<;>cases q2
     ·rw[hcX]at hc'
      cases hc'
      obtain⟨o,ho,hd⟩:=z
      exact⟨o,hk c o ho,hd⟩
 ·obtain⟨w,o,ho,hd⟩:=I.cell x c (hcell x c e)
  exact⟨w,o,hk c o ho,hd⟩
 ·show (some v::ai1 lk σ).length=(p::N').length
  unfold ai1
  rw[o4,b8,o4,hlk.1]
theorem bz8 {name p:Str}{body:Expr}{c':Addr}{pm ctv:Value}{v:V}{Q:VK}(I:Inv X pins σ H s)(hA:A.frames=some X.stack)(hh:A.handled=none)(hroom:A.depth<aI3)
  (ho:s.heap.get? f=some (PySem.W.kla_obj name qual params body scope cl pm c' ctv))(hcd:s.heap.CodeRec (.ref c') qual)(hbind:bi7 (PySem.W.kla_fn name qual params body scope cl pm (.ref c') ctv) ⟨[u],[]⟩=pure [(p,u)])
  (hkind:scope.kind=.function)(hco:scope.isCoroutine=false)(hgen:scope.isGenerator=false)(hcl:aH8 X.env cl)(hfr:au5 scope.names cl=true)(hlk:aM6 X N' lk scope cl)(hp:scope.names.lookup p=some .local)(rv:RelV v u)
  (he:PE (bz9 X A qual scope cl (p::N') f (.ref c') s H) body te)(ht:te (some v::ai1 lk σ) H Q) :
  p9 (x8 X.prog X.w) A (call (.ref f) [u]) (fun u' s'=>∃ v' H',Inv X pins σ H' s'/\RelV v' u'/\Q v' H') (fun _ _=>False) s:=by
 have hcellN:∀ y∈scope.names,y.2≠.cell:=fun y hy=>by
  unfold au5 at hfr
  rw[J2]at hfr
  have:=hfr y hy
  rw[B4]at this
  simpa using this.1
 refine aU0 (PySem.W.kla_callFunE hroom ho rfl hco hgen rfl hcd ?_)
 show p9 _ _ (bi7 (PySem.W.kla_fn name qual params body scope cl pm (.ref c') ctv) ⟨[u],[]⟩) _ _ s
 rw[hbind]
 refine d4 (ag6 hcellN (fun y hy=>by rw[B5.mp hy];exact hp) (fun h1 hns hsb=>?_) hkind)
 have hk₁:∀ b o,s.heap.get? b=some o->h1.get? b=some o:=fun b o e=>hsb.extBut b o (l6 (d6 e)) (c5 _ e)
 refine⟨I.nolimit.keeps hk₁,?_⟩
 show ar9 _ _ (.expr body (PySem.W.envX qual scope s.heap.objs.size f (.ref c') cl)) _ _
 have I1:=bq5 (tk:=s.toks+[(p,u)].length) (qual:=qual) (f:=f) (cv:=.ref c') I hA hh hkind hcl hfr hlk hp rv hns hk₁
 refine PySem.W.kla_codeExpr (E3 (he [] _ _ H Q I1 ht) (fun u' s' hq=>?_) fun _ _ z=>False.elim z)
 obtain⟨v',H',J,r',q⟩:=hq
 exact⟨v',H',I.call' (ch:=[]) J.os J.base J.hok J.bare (fun b z=>nomatch z),r',q⟩
end
def ap9 (c:Addr)(qual:Str):HO:=.ext fun h=>h.CodeRec (.ref c) qual
def O2 (f:Addr)(o:Obj):HO:=.ext fun h=>h.get? f=some o
def R7 (P:Addr)(pos:Pos)(qual:Str)(H:Hp):Prop:=∃ ps,H P=some (.tbl ps)/\TriplesOk ps.toList/\(bU3 pos ps.toList=none\/∃ c',bU3 pos ps.toList=some (.ref c')/\H c'=some (ap9 c' qual))
def P0 (P:Addr)(H H':Hp):Prop:=∀ b o,b≠P->H b=some o->H' b=some o
theorem P0.trans {P:Addr}{H1 H2:Hp}(a:P0 P H H1)(b:P0 P H1 H2):P0 P H H2:=fun c o n h=>b c o n (a c o n h)
theorem A3.grow (P:Addr)(h:A3 H H'):P0 P H H':=fun b o _ q=>h b o q
theorem R7.same {P:Addr}(t:R7 P pos qual H)(h:A3 H H'):R7 P pos qual H':=by
 obtain⟨ps,h1,h2,h3⟩:=t
 refine⟨ps,h _ _ h1,h2,?_⟩
 rcases h3 with h3 | ⟨c',h3,h4⟩
 ·exact .inl h3
 ·exact .inr ⟨c',h3,h _ _ h4⟩
structure ap0 (base:Heap) (mg:Str->Option Value) (c P:Addr):Prop where
 hd:PySem.W.CodeHd base c P
 blt:base.BuiltinsAt mg P
 ne:i9≠P
theorem bs7 {c:Value}{l:List Value}(h:TriplesOk l)(hn:bU3 pos l=none):bU3 pos (l++[ac5 pos.line,ac5 pos.col,c])=some c:=codeAmong_snoc l h hn
def cf3 (P:Addr)(pos:Pos)(qual:Str)(params:Arguments)(body:Expr)(scope:Scope)(cl:List (Str × Addr))(pm:Value):TE:=fun σ H Q=>R7 P pos qual H/\∀ f c' ctv H',P0 P H H'->R7 P pos qual H'->H f=none ->
 H' f=some (O2 f (PySem.W.kla_obj "<lambda>" qual params body scope cl pm c' ctv))->H' c'=some (ap9 c' qual)->Q (.ref f) H'
theorem bf7 {body:Expr}{P:Addr}(B:ap0 X.base X.mg c P)(hcode:X.env.code=.ref c)(hcl:aU2 scope X.env=pure cl)(hdef:defaultsOf params X.env=([],[])) :
  PE X (.Lambda params body scope pos) (cf3 P pos (X.env.qual++"<lambda>") params body scope cl ((X.mg "__name__").getD .none)):=by
 intro pins s σ H Q I h
 obtain⟨⟨ps,hP,ht,hin⟩,q⟩:=h
 have hPh:s.heap.get? P=some (PySem.W.tabObj ps):=I.hok P _ hP
 have C:=B.hd.keeps I.bk
 have hb:s.heap.BuiltinsAt X.mg P:=by
  obtain⟨bm,ob,b1,b2,b3,b4,b5,b6⟩:=B.blt
  exact⟨bm,ob,b1,b2,b3,b4,I.bk _ _ b5,b6⟩
 refine PySem.W.kla_eval hdef ?_
 rcases hin with hnf | ⟨c',hf,hc'⟩
 ·refine PySem.W.kla_makeFunction hcl I.ok.glob (I.mod.glob.keeps I.bk) hcode C hPh ht hnf B.ne hb fun c' ctv h' tk hx hge hlt hrec htb=>?_
  have hPlt:P<s.heap.objs.size:=d6 hPh
  have hsz:s.heap.objs.size<=h'.objs.size:=A8 hge (au7 hlt)
  have cP:P≠c':=l6 (p7 hPlt hge)
  have fP:P≠h'.objs.size:=l6 (p7 hPlt hsz)
  have fc:c'≠h'.objs.size:=l6 hlt
  have hcn:H c'=none:=I.hok.fresh hge
  have hfn:H h'.objs.size=none:=I.hok.fresh hsz
  have hfr:(PySem.W.kla_obj "<lambda>" (X.env.qual++"<lambda>") params body scope cl ((X.mg "__name__").getD .none) c' ctv).isFreed=false:=rfl
  generalize hobj:PySem.W.kla_obj "<lambda>" (X.env.qual++"<lambda>") params body scope cl ((X.mg "__name__").getD .none) c' ctv=ob at *
  generalize hps:ps++#[ac5 pos.line,ac5 pos.col,.ref c']=ps' at *
  have hps2:ps'.toList=ps.toList++[ac5 pos.line,ac5 pos.col,.ref c']:=by rw[<- hps];simp
  generalize hH1:upd (upd (upd H P (.tbl ps')) c' (ap9 c' (X.env.qual++"<lambda>"))) h'.objs.size (O2 h'.objs.size ob)=H1
  have v1:H1 h'.objs.size=some (O2 h'.objs.size ob):=by rw[<- hH1];exact c6
  have v2:H1 c'=some (ap9 c' (X.env.qual++"<lambda>")):=by rw[<- hH1,q8 fc];exact c6
  have v3:H1 P=some (.tbl ps'):=by rw[<- hH1,q8 fP,q8 cP];exact c6
  have v4:∀ b,b≠P->b≠c'->b≠h'.objs.size->H1 b=H b:=fun b n1 n2 n3=>by rw[<- hH1,q8 n3,q8 n2,q8 n1]
  have v5:∀ b u,b≠P->H b=some u->H1 b=some u:=fun b u n e=>by rw[v4 b n (q0 e hcn) (q0 e hfn)];exact e
  have k1:∀ b o,b≠P->s.heap.get? b=some o->(h'.push ob).get? b=some o:=fun b o n e=>c5 _ (hx b o n e)
  have neP:∀ b,H b=none->b≠P:=fun b n z=>by rw[z,hP]at n;cases n
  have hPn:(h'.push ob).get? P=some (PySem.W.tabObj ps'):=c5 _ htb
  have un:Un X.fs [] H H1 s.heap (h'.push ob):=by
   refine⟨fun b o e n _ _=>k1 b o (neP b n) e,fun b o e n _ _=>⟨o.slots,k1 b o (neP b n) e⟩,fun b o e n _=>?_,fun b o e _=>?_,fun b xs e=>v5 b _ (fun z=>by rw[z,hP]at e;cases e) e,fun b o u e=>v5 b _ (fun z=>by rw[z,hP]at e;cases e) e,fun b qs e=>?_⟩
   ·rw[v4 b (neP b n) (l6 (p7 (d6 e) hge)) (l6 (p7 (d6 e) hsz))]
    exact n
   ·by_cases hb:b=P
    ·rw[hb];exact⟨_,hPn⟩
    ·exact⟨o,k1 b o hb e⟩
   ·by_cases hb:b=P
    ·rw[hb,hP]at e
     cases e
     rw[hb]
     exact⟨#[ac5 pos.line,ac5 pos.col,.ref c'],by rw[v3,<- hps]⟩
    ·exact⟨#[],by rw[v5 b _ hb e];simp⟩
  have hok:HOk X.prog X.w H1 (h'.push ob):=by
   intro b u e
   by_cases hb1:b=h'.objs.size
   ·subst hb1
    rw[v1]at e
    cases e
    exact⟨l5 _ hfr,⟨_,l5 _ hfr⟩,fun h1 h2 q z=>z _ q⟩
   ·by_cases hb2:b=c'
    ·subst hb2
     rw[v2]at e
     cases e
     obtain⟨c2,oc,vs,tq,e1,e2,e3,e4⟩:=hrec
     cases e1
     exact⟨⟨_,oc,vs,tq,rfl,c5 _ e2,e3,e4⟩,⟨oc,c5 _ e2⟩,fun h1 h2 ⟨c3,o3,vs3,t3,q1,q2,q3,q4⟩ z=>by cases q1;exact⟨_,o3,vs3,t3,rfl,z _ q2,q3,q4⟩⟩
    ·by_cases hb3:b=P
     ·subst hb3
      rw[v3]at e
      cases e
      exact hPn
     ·rw[v4 b hb3 hb2 hb1]at e
      refine(I.hok b u e).stay (fun d v hd z=>k1 d v ?_ z) (fun d z=>v5 _ _ ?_ z) fun d xs z=>v5 _ _ ?_ z
      ·rcases hd with hd | hd
       ·rw[hd];exact hb3
       ·intro zz;rw[zz,hP]at hd;cases hd
      ·intro zz;rw[zz,hP]at z;cases z
      ·intro zz;rw[zz,hP]at z;cases z
  have I1:Inv X pins σ H1 { s with heap:=h'.push ob,toks:=tk }:=I.un un hok
  refine⟨.ref h'.objs.size,H1,I1,rfl,q _ c' ctv H1 (fun b o n e=>v5 b o n e) ⟨ps',v3,?_,.inr ⟨c',?_,v2⟩⟩ hfn ?_ v2⟩
  ·rw[hps2];exact TriplesOk_snoc _ _ _ _ ht
  ·rw[hps2];exact bs7 ht hnf
  ·rw[hobj];exact v1
 ·refine PySem.W.kla_makeFunctionHit hcl I.ok.glob (I.mod.glob.keeps I.bk) hcode C hPh ht hf hb fun ctv h' tk hk hsz=>?_
  have hfn:H h'.objs.size=none:=I.hok.fresh hsz
  have hfr:(PySem.W.kla_obj "<lambda>" (X.env.qual++"<lambda>") params body scope cl ((X.mg "__name__").getD .none) c' ctv).isFreed=false:=rfl
  generalize hobj:PySem.W.kla_obj "<lambda>" (X.env.qual++"<lambda>") params body scope cl ((X.mg "__name__").getD .none) c' ctv=ob at *
  have I1:Inv X pins σ (upd H h'.objs.size (O2 h'.objs.size ob)) { s with heap:=h'.push ob,toks:=tk }:=I.laid (fun b o e=>c5 _ (hk b o e)) hsz ⟨l5 _ hfr,⟨_,l5 _ hfr⟩,fun h1 h2 q z=>z _ q⟩
  have sm:A3 H (upd H h'.objs.size (O2 h'.objs.size ob)):=fun b o e=>by rw[q8 (q0 e hfn)];exact e
  refine⟨.ref h'.objs.size,_,by rw[<- hobj]at I1;rw[<- hobj];exact I1,rfl,q _ c' ctv _ (sm.grow P) (R7.same ⟨ps,hP,ht,.inr ⟨c',hf,hc'⟩⟩ sm) hfn (by rw[hobj];exact c6) (sm _ _ hc')⟩
def ce9 (ta:TA):TE:=fun σ H Q=>ta σ H fun vs H1=>∃ n:Nat,vs=[.int n]/\n<=1000/\∀ r,H1 r=none->Q (.ref r) (upd H1 r (.rng 0 n))
def bV3 (P:Addr)(lpos:Pos)(qual:Str)(lk:List (Option Nat))(te:TE)(tr:TA):TE:=fun σ H Q=>tr σ H fun vs H1=>∃ (r:Addr) (n:Nat) (key:Int->List Int),vs=[.ref r]/\H1 r=some (.rng 0 n)/\n<=1000/\(∀ z,∃ i k,key z=i::k)/\R7 P lpos qual H1 /\
 ∀ H2,P0 P H1 H2->R7 P lpos qual H2->(∀ (H3:Hp) (z:Nat),A3 H2 H3->z<n->te (some (.int z)::ai1 lk σ) H3 fun v H4=>∃ k,v=.ref k/\H4 k=some (.tup ((key z).map V.int))/\A3 H3 H4) /\
  ∀ (H':Hp) (D:Addr) (zs:List Int),A3 H2 H'->H' D=none->zs.Perm ((ap3 0 n).map fun k:Nat=>(k:Int))->zs.Pairwise (fun x y=>Tim.M4 (key y) (key x)=false)->Q (.ref D) (upd H' D (.lst (zs.map V.int)))
theorem bK1 {a:Expr}{ta:TA}{p:Pos}(hg:Gl X "range")(hm:X.mg "range"=none)(ha:PA X [a] ta)(hs:u4 [a] X.env=[(false,eval a X.env)]:=by rfl):PE X (.Call (.Name "range" p) [a] [] pos) (ce9 ta):=by
 intro pins s σ H Q I h
 refine Call_ (Z8 I hg hm boot_range (PyProof.Rows.callWith_type1 (thn (ha pos pins s σ H _ I h) fun us s1 ⟨vs,H1,I1,r1,q1⟩=>?_) hs rfl))
 obtain⟨n,e,hn,q⟩:=q1
 subst e
 cases r1 with
 | cons r rr =>
  cases rr
  obtain⟨t,rfl⟩:=r
  refine call_range_1 ?_
  have hf:H1 s1.heap.objs.size=none:=I1.hok.fresh (c8 _)
  exact⟨.ref s1.heap.objs.size,upd H1 s1.heap.objs.size (.rng 0 n),I1.laid (fun b o e=>c5 _ e) (c8 _) ⟨_,_,_,l5 _ rfl⟩,rfl,q _ hf⟩
theorem by1 {body:Expr}{p:Str}{np lpos kpos:Pos}{P:Addr}{tr:TA}(hc:X.calm=true)(hd:X.A.depth<aI3)(hg:Gl X "sorted")(hm:X.mg "sorted"=none)(ha:PA X [e] tr)
  (B:ap0 X.base X.mg c P)(hcode:X.env.code=.ref c)(hcl:aU2 scope X.env=pure cl)(hdef:defaultsOf params X.env=([],[]))(hkind:scope.kind=.function)(hco:scope.isCoroutine=false)(hgen:scope.isGenerator=false)(hclo:aH8 X.env cl)(hfr:au5 scope.names cl=true)(hlk:aM6 X N' lk scope cl)
  (hp:scope.names.lookup p=some .local)(hbind:∀ (pm ctv u:Value) (c':Addr),bi7 (PySem.W.kla_fn "<lambda>" (X.env.qual++"<lambda>") params body scope cl pm (.ref c') ctv) ⟨[u],[]⟩=pure [(p,u)])
  (he:∀ f c' s3 H3,PE (bz9 X X.A.in1.in1 (X.env.qual++"<lambda>") scope cl (p::N') f (.ref c') s3 H3) body te)
  (hs:N6 pos (u4 [e] X.env)=(false,eval e X.env)::N6 pos (u4 [] X.env):=by rfl)
  (hpl:(N6 pos (u4 [e] X.env)).any (·.1)=false:=by rfl) :
  PE X (.Call (.Name "sorted" np) [e] [⟨some "key",.Lambda params body scope lpos,kpos⟩] pos) (bV3 P lpos (X.env.qual++"<lambda>") lk te tr):=by
 intro pins s σ H Q I h
 refine J3 (Z8 I hg hm (show L5 "sorted"=some (.builtin "sorted") from rfl) ?_ (by decide) (by decide))
 refine ce2 (thn (ha pos pins s σ H _ I h) fun us s1 ⟨vs,H1,I1,r1,q1⟩=>?_) hs hpl rfl rfl
 obtain⟨r,n,key,rfl,hr,hn,hne,tb,q⟩:=q1
 have hk:PK X [⟨some "key",.Lambda params body scope lpos,kpos⟩] (aC7 (cf3 P lpos (X.env.qual++"<lambda>") params body scope cl ((X.mg "__name__").getD .none)) bd7):=aA8 (bf7 B hcode hcl hdef) aP9
 refine thn (hk pos pins s1 σ H1 (fun zs H2=>∃ f c' ctv,zs=[.ref f]/\P0 P H1 H2/\R7 P lpos (X.env.qual++"<lambda>") H2/\H2 f=some (O2 f (PySem.W.kla_obj "<lambda>" (X.env.qual++"<lambda>") params body scope cl ((X.mg "__name__").getD .none) c' ctv))/\H2 c'=some (ap9 c' (X.env.qual++"<lambda>"))) I1
  ⟨tb,fun f c' ctv H2 g1 g2 g3 g4 g5=>⟨f,c',ctv,rfl,g1,g2,g4,g5⟩⟩) fun ws s2 ⟨zs,H2,I2,r2,f,c',ctv,ez,g1,g2,g4,g5⟩=>?_
 subst ez
 obtain⟨w,rfl,rw⟩:=vals1 r2
 obtain⟨u,rfl,ru⟩:=vals1 r1
 cases rw
 cases ru
 obtain⟨wish,fin⟩:=q H2 g1 g2
 have rP:r≠P:=fun z=>by
  obtain⟨ps,hP,_⟩:=tb
  rw[z,hP]at hr
  cases hr
 have hr2:H2 r=some (.rng 0 n):=g1 r _ rP hr
 obtain⟨t1,t2,t3,hro⟩:=I2.hok r _ hr2
 have hh:X.A.handled=none:=I.ok.hd hc
 refine be2 (n:=n) (key:=key) I2 hh ⟨t1,t2,t3,hro⟩ hn hne (fun z hz=>?_) fun H' s' D zs' a1 a2 a3 a4 I'=>⟨.ref D,_,I',rfl,fin H' D zs' a1 a2 a3 a4⟩
 obtain⟨k,hk',rfl⟩:=u5.mp hz
 have hkn:k<n:=by
  have:=aJ4.mp hk'
  omega
 intro t pins' s3 H3 I3 sm
 have ho:s3.heap.get? f=some (PySem.W.kla_obj "<lambda>" (X.env.qual++"<lambda>") params body scope cl ((X.mg "__name__").getD .none) c' ctv):=(I3.hok f _ (sm _ _ g4)).1
 have hcd:s3.heap.CodeRec (.ref c') (X.env.qual++"<lambda>"):=(I3.hok c' _ (sm _ _ g5)).1
 refine E3 (bz8 (A:=X.A.in1.in1) (v:=.int k) (u:=.int k t) I3 I3.ok.frames hh hd ho hcd (hbind _ _ _ _) hkind hco hgen hclo hfr hlk hp ⟨t,rfl⟩ (he f c' s3 H3) (wish H3 k sm hkn)) (fun u' s' hq=>?_) fun _ _ z=>z
 obtain⟨v',H',J,r',kk,rfl,hkk,sm'⟩:=hq
 cases r'
 exact⟨kk,H',rfl,hkk,J,sm'⟩
theorem W1.there {o:HO}(x:W1 P w H h a o):∃ ob,h.get? a=some ob:=by
 cases o with
 | lst xs=>obtain⟨_,_,_,_,e⟩:=x;exact⟨_,e⟩
 | tup xs=>obtain⟨_,_,_,ob,e,_⟩:=x;exact⟨_,e⟩
 | dK kvs=>obtain⟨_,_,_,_,o,_,_,e,_⟩:=x;exact⟨_,e⟩
 | dT kvs=>obtain⟨_,_,_,_,o,_,_,e,_⟩:=x;exact⟨_,e⟩
 | set S n=>obtain⟨o,_,_,_,e,_⟩:=x;exact⟨_,e⟩
 | ins C dx fs=>obtain⟨_,_,_,e,_⟩:=x;exact⟨_,e⟩
 | own y=>obtain⟨ob,e⟩:=x;exact⟨ob,e⟩
 | xd fs=>obtain⟨_,⟨_,_,_,e,_⟩,_⟩:=x;exact⟨_,e⟩
 | rng lo hi=>obtain⟨_,_,_,e⟩:=x;exact⟨_,e⟩
 | frz ob u=>obtain⟨e,_⟩:=x;exact⟨_,e⟩
 | tbl ps=>exact⟨_,(show h.get? a=some _ from x)⟩
 | met f y=>exact⟨_,(show h.get? a=some _ from x)⟩
 | ext φ=>obtain⟨_,⟨ob,e⟩,_⟩:=x;exact⟨ob,e⟩
theorem HOk.stays (ok:HOk P w H h) (k:∀ b o,h.get? b=some o->H b≠none->h'.get? b=some o):HOk P w H h':=fun a o e =>
 (ok a o e).stay (fun b u hb q => k b u q (by
  rcases hb with z | z
  ·rw[z,e];simp
  ·rw[z];simp)) (fun _ q=>q) fun _ _ q=>q
def ck5 (outer:List Env)(x:Addr)(cls:Value)(h0:Heap)(H':Hp)(h':Heap):Prop:=
 ∃ (B:Heap) (a0:Value),Heap.FlyingW B outer x cls a0 h'/\∀ b o,h'.get? b=some o->(H' b≠none\/h0.get? b≠none)->b∉frs outer->B.get? b=some o
def CXE (P:Program)(w:World):CXT:=fun outer H s E e s' =>
 ∃ (x:Addr) (cls:Value) (H':Hp),e=.ref x/\s'.os=s.os/\ay9 s'.gens/\Un (frs outer) [] H H' s.heap s'.heap/\HOk P w H' s'.heap/\s.heap.get? x=none/\H' x=none/\ck5 outer x cls s.heap H' s'.heap/\E cls none H'
theorem Un.onto {fs:List Addr}{h'':Heap}(u:Un fs [] H H' h h')(stay:∀ b o,h'.get? b=some o->h.get? b≠none->b∉fs->h''.get? b=some o)
  (slots:∀ b o,h'.get? b=some o->h.get? b≠none->b∈fs->∃ sl,h''.get? b=some { o with slots:=sl }):Un fs [] H H' h h'' where
 keep:=fun b o e n hb hx=>stay b o (u.keep b o e n hb hx) (by rw[e];simp) hb
 slot:=fun b o e n hb hx=>by
  obtain⟨sl,e1⟩:=u.slot b o e n hb hx
  obtain⟨sl2,e2⟩:=slots b _ e1 (by rw[e];simp) hb
  exact⟨sl2,e2⟩
 free:=u.free
 there:=fun b o e hx=>by
  obtain⟨o',e1⟩:=u.there b o e hx
  by_cases hb:b∈fs
  ·obtain⟨sl,e2⟩:=slots b o' e1 (by rw[e];simp) hb
   exact⟨_,e2⟩
  ·exact⟨o',stay b o' e1 (by rw[e];simp) hb⟩
 tups:=u.tups
 frzs:=u.frzs
 tbls:=u.tbls
theorem X6 {α:Type}{o:Option α}(h:o≠none):∃ x,o=some x:=by
 cases o with
 | none=>exact absurd rfl h
 | some x=>exact⟨x,rfl⟩
theorem bb0 {env:Env}{outer:List Env}{L:Addr}(h:env.frame=some L):frs (env::outer)=L::frs outer:=by
 unfold frs
 rw[W6,h]
section
variable {K:W.Frag} {mg:Str->Option Value} {base:Heap} {cd:Value} {outer:List Env} {E:XK} {σ:St} {H1:Hp} {s1:Shared}
theorem bH6 {e:Addr}{cls:Value}{h2:Heap}(I:Inv (am3 (CXE P w) P w K mg base N qual scope f cd A outer s H E) pins σ H1 s1)(hx:Heap.MadeExcOf s1.heap h2 e cls vs)(hE:E cls none H1) :
  (am3 (CXE P w) P w K mg base N qual scope f cd A outer s H E).xe (.ref e) { s1 with heap:=h2 }:=by
 have hst:=I.stack
 have hfr:=I.ok.frames
 have hlt:=I.lt
 have hL:=I.free
 have hab:=I.ok.above
 have hbs:Un (frs outer) [] H H1 s.heap s1.heap:=I.base
 change s1.heap.FunFrames base (P4 qual scope s.heap.objs.size f cd::outer) at hst
 change (A.deeper (P4 qual scope s.heap.objs.size f cd)).frames=some (P4 qual scope s.heap.objs.size f cd::outer) at hfr
 change H1 s.heap.objs.size=none at hL
 have hff:frs (P4 qual scope s.heap.objs.size f cd::outer)=s.heap.objs.size::frs outer:=bb0 rfl
 have hin:∀ env∈(P4 qual scope s.heap.objs.size f cd::outer),∀ b,env.frame=some b->b∈frs (P4 qual scope s.heap.objs.size f cd::outer):=fun env he b hb=>aj0.mpr ⟨env,he,hb⟩
 have old:∀ b,(H1 b≠none\/s.heap.get? b≠none)->b∉frs outer->∃ o,s1.heap.get? b=some o/\b∉frs (P4 qual scope s.heap.objs.size f cd::outer):=fun b hb hno=>by
  have hne:b≠s.heap.objs.size:=by
   rcases hb with z | z
   ·intro q;rw[q]at z;exact z hL
   ·obtain⟨o,z⟩:=X6 z
    exact l6 (d6 z)
  have hex:∃ o,s1.heap.get? b=some o:=by
   rcases hb with z | z
   ·obtain⟨o,z⟩:=X6 z
    exact(I.hok b o z).there
   ·obtain⟨o,z⟩:=X6 z
    exact hbs.there b o z (by simp)
  obtain⟨o,ho⟩:=hex
  refine⟨o,ho,?_⟩
  rw[hff]
  intro hm
  rcases d8.mp hm with q | q
  ·exact hne q
  ·exact hno q
 have eNew:s.heap.get? e=none:=by
  cases q:s.heap.get? e with
  | none=>rfl
  | some o =>
   obtain⟨o',z⟩:=hbs.there e o q (by simp)
   rw[hx.new]at z
   cases z
 have eFree:H1 e=none:=by
  cases q:H1 e with
  | none=>rfl
  | some o =>
   obtain⟨o',z⟩:=(I.hok e o q).there
   rw[hx.new]at z
   cases z
 refine wpAny_leaves_madeW (base:=PySem.W.hideAll s1.heap (frs (P4 qual scope s.heap.objs.size f cd::outer))) hfr rfl (fun b o q=>PySem.W.of_hideAll _ q) (PySem.W.funFrames_hide hst hin) hx fun h' t x1 x2 x3 x4=>?_
 have stay:∀ b o,s1.heap.get? b=some o->(H1 b≠none\/s.heap.get? b≠none)->b∉frs outer->h'.get? b=some o:=fun b o ho hb hno=>by
  obtain⟨o',ho',hm⟩:=old b hb hno
  rw[ho]at ho'
  cases ho'
  exact x1.1 b o (PySem.W.hideAll_get _ ho hm)
 have frNone:∀ b∈frs outer,H1 b=none:=fun b hb=>I.stkFree b (by
  show b∈frs (P4 qual scope s.heap.objs.size f cd::outer)
  rw[hff]
  exact c7 _ hb)
 refine⟨e,cls,H1,rfl,I.os,I.bare,hbs.onto (fun b o ho hh hno=>stay b o ho (.inr hh) hno) (fun b o ho hh hm=>?_),I.hok.stays fun b o ho hh=>stay b o ho (.inl hh) fun hm=>hh (frNone b hm),eNew,eFree,⟨_,_,x1,fun b o ho hb hno=>?_⟩,hE⟩
 ·obtain⟨_,o',ho',hd⟩:=hst.mem (b:=b) (by
   show b∈frs (P4 qual scope s.heap.objs.size f cd::outer)
   rw[hff]
   exact c7 _ hm)
  rw[ho]at ho'
  cases ho'
  exact x4 b o (hx.keeps b o ho) hd
 ·obtain⟨o',ho',hm⟩:=old b hb hno
  have:=stay b o' ho' hb hno
  rw[ho]at this
  cases this
  exact PySem.W.hideAll_get _ ho' hm
theorem ap8:ax5 (CXE P w) (am3 (CXE P w) P w K mg base N qual scope f cd A outer s H E) E:=by
 intro pins σ H1 s1 e s2 I hc
 obtain⟨x,cls,H2,rfl,hos,hb2,u,hok,new,hxn,⟨B,a0,fl,st⟩,hE⟩:=hc
 have hst:=I.stack
 have hfr:=I.ok.frames
 have hL:=I.free
 have hbs:Un (frs outer) [] H H1 s.heap s1.heap:=I.base
 change s1.heap.FunFrames base (P4 qual scope s.heap.objs.size f cd::outer) at hst
 change (A.deeper (P4 qual scope s.heap.objs.size f cd)).frames=some (P4 qual scope s.heap.objs.size f cd::outer) at hfr
 change H1 s.heap.objs.size=none at hL
 change Un (frs (P4 qual scope s.heap.objs.size f cd::outer)) [] H1 H2 s1.heap s2.heap at u
 change Heap.FlyingW B (P4 qual scope s.heap.objs.size f cd::outer) x cls a0 s2.heap at fl
 have hff:frs (P4 qual scope s.heap.objs.size f cd::outer)=s.heap.objs.size::frs outer:=bb0 rfl
 have st':∀ b o,s2.heap.get? b=some o->(H2 b≠none\/s1.heap.get? b≠none)->b∉frs (P4 qual scope s.heap.objs.size f cd::outer)->B.get? b=some o:=st
 rw[hff]at u st'
 have hLo:∃ o,s1.heap.get? s.heap.objs.size=some o:=by
  obtain⟨m,⟨o,_,_,ho,_⟩,_⟩:=I.loc
  exact⟨o,ho⟩
 have hL2:H2 s.heap.objs.size=none:=by
  obtain⟨o,ho⟩:=hLo
  exact u.free _ o ho hL (by simp)
 have old:∀ b,(H2 b≠none\/s.heap.get? b≠none)->b∉frs outer->∃ o,s2.heap.get? b=some o/\B.get? b=some o:=fun b hb hno=>by
  have hne:b≠s.heap.objs.size:=by
   rcases hb with z | z
   ·intro q;rw[q]at z;exact z hL2
   ·obtain⟨o,z⟩:=X6 z
    exact l6 (d6 z)
  have hm:b∉s.heap.objs.size::frs outer:=fun hm=>by
   rcases d8.mp hm with q | q
   ·exact hne q
   ·exact hno q
  rcases hb with z | z
  ·obtain⟨o,z'⟩:=X6 z
   obtain⟨o',ho⟩:=(hok b o z').there
   exact⟨o',ho,st' b o' ho (.inl z) hm⟩
  ·obtain⟨o,z⟩:=X6 z
   obtain⟨o1,h1⟩:=hbs.there b o z (by simp)
   obtain⟨o2,h2⟩:=u.there b o1 h1 (by simp)
   exact⟨o2,h2,st' b o2 h2 (.inr (by rw[h1];simp)) hm⟩
 have u2:Un (frs outer) [] H H2 s.heap s2.heap:=by
  refine⟨fun b o e n hb hx=>?_,fun b o e n hb hx=>?_,fun b o e n hx=>?_,fun b o e hx=>?_,fun b xs e=>u.tups b xs (hbs.tups b xs e),fun b o v e=>u.frzs b o v (hbs.frzs b o v e),fun b ps e=>?_⟩
  ·refine u.keep b o (hbs.keep b o e n hb hx) (hbs.free b o e n hx) (fun hm=>?_) hx
   rcases d8.mp hm with q | q
   ·exact l6 (d6 e) q
   ·exact hb q
  ·obtain⟨sl,e1⟩:=hbs.slot b o e n hb hx
   obtain⟨sl2,e2⟩:=u.slot b _ e1 (hbs.free b o e n hx) (c7 _ hb) hx
   exact⟨sl2,e2⟩
  ·obtain⟨o',e1⟩:=hbs.there b o e hx
   exact u.free b o' e1 (hbs.free b o e n hx) hx
  ·obtain⟨o',e1⟩:=hbs.there b o e hx
   exact u.there b o' e1 hx
  ·obtain⟨m1,e1⟩:=hbs.tbls b ps e
   obtain⟨m2,e2⟩:=u.tbls b _ e1
   exact⟨m1++m2,by rw[e2,bP0]⟩
 have frNone:∀ b∈frs outer,H2 b=none:=fun b hb=>by
  have h1:=I.stkFree b (by
   show b∈frs (P4 qual scope s.heap.objs.size f cd::outer)
   rw[hff]
   exact c7 _ hb)
  obtain⟨_,o,ho,_⟩:=hst.mem (b:=b) (by
   show b∈frs (P4 qual scope s.heap.objs.size f cd::outer)
   rw[hff]
   exact c7 _ hb)
  exact u.free b o ho h1 (by simp)
 refine wpAny_leaves_onW hfr rfl fl fun h' x1 x2=>?_
 have stay:∀ b o,s2.heap.get? b=some o->(H2 b≠none\/s.heap.get? b≠none)->b∉frs outer->h'.get? b=some o:=fun b o ho hb hno=>by
  obtain⟨o',ho',hB⟩:=old b hb hno
  rw[ho]at ho'
  cases ho'
  exact x1.1 b o hB
 refine⟨x,cls,H2,rfl,hos.trans I.os,hb2,u2.onto (fun b o ho hh hno=>stay b o ho (.inr hh) hno) (fun b o ho hh hm=>?_),hok.stays fun b o ho hh=>stay b o ho (.inl hh) fun hm=>hh (frNone b hm),?_,hxn,⟨B,a0,x1,fun b o ho hb hno=>?_⟩,hE⟩
 ·obtain⟨_,o',ho',hd⟩:=fl.2.2.1.mem (b:=b) (by
   show b∈frs (P4 qual scope s.heap.objs.size f cd::outer)
   rw[hff]
   exact c7 _ hm)
  rw[ho]at ho'
  cases ho'
  exact x2 b o ho hd
 ·cases q:s.heap.get? x with
  | none=>rfl
  | some o =>
   obtain⟨o',z⟩:=hbs.there x o q (by simp)
   rw[new]at z
   cases z
 ·obtain⟨o',ho',hB⟩:=old b hb hno
  have:=stay b o' ho' hb hno
  rw[ho]at this
  cases this
  exact hB
end
theorem Fun.okX {K:W.Frag} {mg:Str->Option Value} {base:Heap} {st:Stmt} {k:Nat} {sp:Sp} (F:Fun K x qual st f fd) (S:A4 N ps (p5 st))
  (hbody : ∀ (cdv : Value) (A : Around) (outer : List Env) (s : Shared) (H : Hp) (vs : List V) (Q : VK) (E : XK), Z9 k (A.deeper (P4 qual (p5 st) s.heap.objs.size f cdv)) -> sp vs H Q E ->
   ∃ t,PSs (am3 (CXE P w) P w K mg base N qual (p5 st) f cdv A outer s H E) (Q6 st) t/\t { nx:=fun _ H'=>Q .non H',rt:=Q } (start N vs) H) (len:∀ vs H Q E,sp vs H Q E->vs.length=ps.length:=by intro _ _ _ _ h;repeat first | (obtain⟨rfl,_⟩:=h;rfl) | obtain⟨_,h⟩:=h):x6 P w K mg base (CXE P w) (k+1) f fd ps sp:=by
 obtain⟨oc,od,kV,doc,pm,an,cdv,ct,osl,rfl,lk,hcd⟩:=F.ex
 exact bC0 lk hcd S len fun A outer s H vs Q E hr hsp=>hbody cdv A outer s H vs Q E hr hsp
theorem bx6 {K:W.Frag}{mg:Str->Option Value}{base:Heap}{cd:Value}{outer:List Env}{E:XK} :
  PassesOwn (x8 P w) (am3 (CXE P w) P w K mg base N qual scope f cd A outer s H E).A (am3 (CXE P w) P w K mg base N qual scope f cd A outer s H E).env (am3 (CXE P w) P w K mg base N qual scope f cd A outer s H E).xe:=PassesOwn.leaving
structure ak0 (K:W.Frag) (C:Addr):Prop where
 q:PySem.W.excIn K C [.type "ValueError",.type "Exception",.type "BaseException",.type "object"] "ValueError.__new__"=true
abbrev bmV:List Value:=[.type "ValueError",.type "Exception",.type "BaseException",.type "object"]
theorem cb5 {K:W.Frag}(KI:K.In h)(c:ak0 K C):∃ bm N nm q bs hd sn sub ab col dd k0 k1 k2 k3 k5 mN,h.get? C=some (excClassObj nm q C N bs bm hd sn sub ab col dd k0 k1 k2 k3 k5 "ValueError.__new__") /\
  h.Ns N mN/\mN "__init__"=none/\OwnTail h bmV bm:=by
 have z:=c.q
 revert z
 unfold PySem.W.excIn
 split
 ·rename_i d1 c1 s1 hl
  split
  ·rename_i D bm y0 y1 y2 y3 nn y5 e1 e2
   intro z
   rw[B4,B4,B4,B4,B4]at z
   obtain⟨⟨⟨⟨⟨z1,z2⟩,z3⟩,z4⟩,z5⟩,z6⟩:=z
   have z1':D=C:=beq_iff_eq.mp z1
   have z2':nn="ValueError.__new__":=beq_iff_eq.mp z2
   have z6':=beq_iff_eq.mp z6
   subst z1' z2'
   obtain⟨w1,w2,w3,w4,w5,w6,w7,w8,w9,w10,w11⟩:=c1
   dsimp only at e1 z3 z5 z6'
   subst e1
   have z3':w11=false:=by simpa using z3
   subst z3'
   have e3:s1=#[y0,y1,y2,y3,some (.builtin "ValueError.__new__"),y5]:=by
    obtain⟨l1⟩:=s1
    exact congrArg Array.mk e2
   subst e3
   exact⟨bm,w4,w1,w5,w2,w6,w7,w8,w9,w10,d1,y0,y1,y2,y3,y5,_,KI _ _ hl,.of_isNs (PySem.W.isNs_of_in KI z5),PySem.W.nsMap_none_of_in KI z5 z6',PySem.W.tail_of_in KI z4⟩
  ·intro z;cases z
 ·intro z;cases z
section
variable {K:W.Frag} {mg:Str->Option Value} {base:Heap} {cd:Value} {outer:List Env} {E:XK}
def bV4 (E:XK)(C:Addr):TS:=fun _ _ H=>E (.ref C) none H
theorem aD9 {txt:Str}{np cp ep:Pos}(hg:Gl (am3 (CXE P w) P w K mg base N qual scope f cd A outer s H E) x)(hm:mg x=some (.ref C))(c:ak0 K C)(hd:(x == ("__debug__":Str))=false:=by decide) :
  PS (am3 (CXE P w) P w K mg base N qual scope f cd A outer s H E) (.Raise (some (.Call (.Name x np) [.Constant (.str txt) j cp] [] ep)) none pos) (bV4 E C):=by
 intro pins s1 σ H1 D I hE
 have hh:(am3 (CXE P w) P w K mg base N qual scope f cd A outer s H E).A.handled=none:=I.ok.hd rfl
 obtain⟨bm,N',nm,q,bs,hdc,sn,sub,ab,col,dd,k0,k1,k2,k3,k5,mN,hC,hN,hni,T⟩:=cb5 I.kIn c
 refine wpAny_Raise_call_subT (C:=C) (nm:=nm) (q:=q) (N:=N') (bs:=bs) (bm:=bm) (hdct:=hdc) (sn:=sn) (sub:=sub) (ab:=ab) (col:=col) (dd:=dd) (k0:=k0) (k1:=k1) (k2:=k2) (k3:=k3) (k5:=k5)
  PySem.F.excBase_ValueError (mN:=mN) (T.hasType (by decide +kernel)) hh rfl hni (at8 I hg hm ⟨rfl,?_⟩ hd)
 refine Calls.evalArgs_plain ?_
 refine PyProof.Rows.spliced_more (Calls.Constant_str ?_)
 refine PyProof.Rows.spliced_none ⟨rfl,by show 1<=j8;decide,hC,hN,T,fun h' e hx=>?_⟩
 exact bH6 (I.tok _) hx hE
end
def bt9 (X:Cx)(pins:List (Addr × Obj))(E:St->XK):Cx:={ X with pn:=X.pn++pins,xe:=fun e s'=>∃ σ H s,Inv X pins σ H s/\CXE X.prog X.w X.stack H s (E σ) e s' }
def cb3 (X:Cx)(v:Value):Cx:={ X with A:=X.A.mark (some v),calm:=false,xe:=fun _ _=>False }
section
variable {pins':List (Addr × Obj)} {σ:St} {E:St->XK}
theorem Inv.toTry (I:Inv X pins σ H s):Inv (bt9 X pins E) [] σ H s:=
  ⟨⟨I.ok.mod, I.ok.kind, I.ok.glob, I.ok.blt, I.ok.above, I.ok.inj, I.ok.has, I.ok.cab, I.ok.hd, I.ok.frames, I.ok.stk, I.ok.exf, I.ok.bs, I.ok.bsz, I.ok.noex, I.ok.exfs, I.ok.funs, I.ok.frf⟩,
    I.os,I.bare,I.base,I.loc,I.cell,I.free,I.freeC,fun p hp=>I.pin p (by
      rcases A7.mp hp with z | z
      · exact z
      · cases z),I.hok,I.len⟩
theorem Inv.ofTry (I:Inv (bt9 X pins E) pins' σ H s):Inv X pins σ H s:=
  ⟨⟨I.ok.mod, I.ok.kind, I.ok.glob, I.ok.blt, I.ok.above, I.ok.inj, I.ok.has, I.ok.cab, I.ok.hd, I.ok.frames, I.ok.stk, I.ok.exf, I.ok.bs, I.ok.bsz, I.ok.noex, I.ok.exfs, I.ok.funs, I.ok.frf⟩,
    I.os,I.bare,I.base,I.loc,I.cell,I.free,I.freeC,fun p hp=>I.pin p (G8 _ hp),I.hok,I.len⟩
theorem Inv.toHd (I:Inv X pins σ H s) (v:Value):Inv (cb3 X v) pins σ H s:=
  ⟨⟨I.ok.mod, I.ok.kind, I.ok.glob, I.ok.blt, I.ok.above, I.ok.inj, I.ok.has, I.ok.cab, (fun z => by cases z), I.ok.frames, I.ok.stk, I.ok.exf, I.ok.bs, I.ok.bsz, I.ok.noex, I.ok.exfs, I.ok.funs, I.ok.frf⟩,
    I.os,I.bare,I.base,I.loc,I.cell,I.free,I.freeC,I.pin,I.hok,I.len⟩
theorem Inv.ofHd (I:Inv (cb3 X v) pins σ H s) (hd:X.calm=true->X.A.handled=none):Inv X pins σ H s:=
  ⟨⟨I.ok.mod, I.ok.kind, I.ok.glob, I.ok.blt, I.ok.above, I.ok.inj, I.ok.has, I.ok.cab, hd, I.ok.frames, I.ok.stk, I.ok.exf, I.ok.bs, I.ok.bsz, I.ok.noex, I.ok.exfs, I.ok.funs, I.ok.frf⟩,
    I.os,I.bare,I.base,I.loc,I.cell,I.free,I.freeC,I.pin,I.hok,I.len⟩
end
section
variable {CX:CXT} {k:Nat} {sp:Sp} {E:St->XK} {p:Pos} {t:TA}
end
section
variable {σ:St}
end
end L2
set_option maxRecDepth 100000
namespace L2
open PySem PySem.Spec PyProof.Rows PySem.W
structure cn8 (K:W.Frag) (C:Addr):Prop where
 ga:findIn K (.ref C) "__getattribute__"=some (some (.builtin "BaseException.__getattribute__"))
 na:findIn K (.ref C) "__getattr__"=some none
 cl:findIn K (.ref C) "__class__"=some (some (.builtin "object.__class__"))
 sb:subIn K (.ref C) (.type "BaseException")=some true
 so:subIn K (.ref C) (.type "object")=some true
 cs:(clsIn K C).isSome=true
section
variable {g:Array bG5} {d:Drawn} {t:Nat} {os:OsState} {o:Obj} {K:W.Frag}
end
end L2
namespace L2
open PySem PySem.Spec PyProof.Rows
theorem Fun.okXC {K:W.Frag} {mg:Str->Option Value} {base:Heap} {st:Stmt} {k:Nat} {sp:Sp} (F:Fun K x qual st f fd) (hc:fd.code=.ref c) (S:A4 N ps (p5 st))
  (hbody : ∀ (A : Around) (outer : List Env) (s : Shared) (H : Hp) (vs : List V) (Q : VK) (E : XK), Z9 k (A.deeper (P4 qual (p5 st) s.heap.objs.size f (.ref c))) -> sp vs H Q E ->
   ∃ t,PSs (am3 (CXE P w) P w K mg base N qual (p5 st) f (.ref c) A outer s H E) (Q6 st) t/\t { nx:=fun _ H'=>Q .non H',rt:=Q } (start N vs) H) (len:∀ vs H Q E,sp vs H Q E->vs.length=ps.length:=by intro _ _ _ _ h;repeat first | (obtain⟨rfl,_⟩:=h;rfl) | obtain⟨_,h⟩:=h):x6 P w K mg base (CXE P w) (k+1) f fd ps sp:=by
 obtain⟨oc,od,kV,doc,pm,an,cdv,ct,osl,rfl,lk,hcd⟩:=F.ex
 have hc':cdv=.ref c:=hc
 subst hc'
 exact bC0 lk hcd S len fun A outer s H vs Q E hr hsp=>hbody A outer s H vs Q E hr hsp
theorem aC6 {K:W.Frag}{P:Addr}{oc:Value}{od:Option Addr}{sl:Array (Option Value)}(ht:PySem.W.tabIn K x=some (c,P))(hn:j6 K i9 x=some (some (.ref f)))(hl:K.lookup f=some ⟨oc,od,.func fd,sl⟩):fd.code=.ref c:=by
 unfold PySem.W.tabIn at ht
 rw[hn]at ht
 dsimp only at ht
 rw[hl]at ht
 dsimp only at ht
 split at ht
 ·rename_i c₂ hc
  split at ht
  ·split at ht
   ·cases ht;exact hc
   ·cases ht
  ·cases ht
 ·cases ht
theorem bq4 {K:W.Frag}{mg mb:Str->Option Value}{CX:CXT}{k:Nat}{fa:Addr}{sp:Sp}{s₁:Shared}{ts:List (Addr × Addr)}(hT:PySem.W.TabsAt ts s₁.heap)(hK0:PySem.W.noTabs K=true)
  (hbm:∃ bm ob,mg "__builtins__"=some (.ref bm)/\bm≠aT9/\s₁.heap.get? bm=some ob/\ob.cls=.type "module"/\ob.dict=some aT9/\ob.data=.plain)
  (KX:K.In s₁.heap)(hns:s₁.heap.Ns i9 mg)(hb:s₁.heap.Ns aT9 mb)(hbb:∀ x:Str,x≠"__name__"->mb x=L5 x)(hlim:s₁.heap.NoLimit)(hg:s₁.gens=#[])
  (ha:s₁.heap.get? a=some { cls:=.type "list",data:=.seq vs.toArray })(hi:R0 vs ns)(hl:ns.length<=j8)(hr:Z9 k bo0)
  (F:∀ base:Heap,K.In base->base.Ns i9 mg->(∀ q∈ts,ap0 base mg q.1 q.2)->x6 P w K mg base CX k fa fd [x] sp)(hbind:∀ (s:Shared) (u:Value),bn8 s fd ⟨[u],[]⟩ [(x,u)])
  (hsp:∀ H:Hp,(∀ q∈ts,H q.2=some (.tbl #[]))->SqL K H a (ns.map V.int)->sp [.ref a] H (fun v _=>v=.bl true) fun _ _ _=>False)
  (hCX:∀ H e s',CX [] H s₁ (fun _ _ _=>False) e s'->False) :
  ar9 (x8 P w) bo0 (.call (.ref fa) ⟨[.ref a],[]⟩) (fun r s'=>r=.ok (.ret (.bool true))/\OldK s₁.heap s'.heap/\s'.os=s₁.os/\ay9 s'.gens) s₁:=by
 have rv:=an7 hi
 have lenV:=hi.length
 have tabO:∀ b,b∈ts.map (·.2)->s₁.heap.get? b=some (PySem.W.tabObj #[]):=fun b hb=>by
  obtain⟨q,hq,rfl⟩:=u5.mp hb
  exact(hT q hq).2
 have aT:a∉ts.map (·.2):=fun z=>by
  have e:=tabO a z
  rw[ha]at e
  cases e
 have core:∀ H:Hp,(∀ b,b∈ts.map (·.2)->H b=some (.tbl #[]))->(∀ b,b∉ts.map (·.2)->H b=none\/∃ o xs,H b=some (.frz o (.lst xs)))->SqL K H a (ns.map V.int)->HOk P w H s₁.heap->(∀ b,H b≠none->b=a\/b∈ts.map (·.2))->(H a≠none->K.lookup a=none) ->
   ar9 (x8 P w) bo0 (.call (.ref fa) ⟨[.ref a],[]⟩) (fun r s'=>r=.ok (.ret (.bool true))/\OldK s₁.heap s'.heap/\s'.os=s₁.os/\ay9 s'.gens) s₁:=by
  intro H hHt hO hS hok hA hK
  have base_of:∀ {b:Addr} {o:Obj},s₁.heap.get? b=some o->H b=none->(aJ1 s₁.heap H).get? b=some o:=fun e n=>bB4 e n
  have free_of:∀ {b:Addr} {o:Obj},s₁.heap.get? b=some o->(∀ xs n,o≠{ cls:=.type "list",data:=.seq xs n })->o≠PySem.W.tabObj #[]->H b=none:=fun {b o} e n1 n2=>by
   cases q:H b with
   | none=>rfl
   | some u =>
    rcases hA b (by rw[q];simp) with e' | e'
    ·subst e'
     rw[ha]at e;cases e
     exact absurd rfl (n1 _ _)
    ·rw[tabO b e']at e;cases e
     exact absurd rfl n2
  have noA:∀ {b:Addr} {o:Obj} {es:Array DictEntry} {ep:Nat},s₁.heap.get? b=some o->o.data=.dict es ep->H b=none:=fun {b o es ep} e d=>free_of e (fun xs n z=>by subst z;cases d) (fun z=>by subst z;cases d)
  have nsK:∀ {b:Addr} {m:Str->Option Value},s₁.heap.Ns b m->(aJ1 s₁.heap H).Ns b m:=fun {b m} ⟨o,es,ep,e,d,r⟩=>⟨o,es,ep,base_of e (noA e d),d,r⟩
  have hKb:K.In (aJ1 s₁.heap H):=fun b o e=>base_of (KX b o e) (by
   cases q:H b with
   | none=>rfl
   | some u =>
    rcases hA b (by rw[q];simp) with e' | e'
    ·subst e'
     rw[hK (by rw[q];simp)]at e;cases e
    ·have e1:=KX b o e
     rw[tabO b e']at e1
     cases e1
     have h2:=J2.mp hK0 _ (PySem.W.mem_of_lookupK e)
     exact absurd (show false=true from h2) k7)
  have hM:Mod K mg (aJ1 s₁.heap H):=⟨hKb,nsK hns,⟨mb,nsK hb,hbb⟩,let ⟨mc,h1,h2⟩:=hlim;⟨mc,nsK h1,h2⟩⟩
  have hLB:∀ q∈ts,ap0 (aJ1 s₁.heap H) mg q.1 q.2:=fun q hq=>by
   obtain⟨C,eP⟩:=hT q hq
   refine⟨?_,?_,?_⟩
   ·obtain⟨o,vs,file,tf,flags,tg,inF,text,tt,e1,r1,r2⟩:=C
    exact⟨o,vs,file,tf,flags,tg,inF,text,tt,base_of e1 (free_of e1 (fun xs n z=>by subst z;exact absurd (show Value.type "list"=Value.type "code" from r1) (by decide)) (fun z=>by subst z;cases r1)),r1,r2⟩
   ·obtain⟨bm,ob,b1,b2,b3,b4,b5,b6⟩:=hbm
    refine⟨bm,ob,b1,b2,fun z=>?_,fun z=>?_,base_of b3 (free_of b3 (fun xs n z=>by subst z;exact absurd (show Value.type "list"=Value.type "module" from b4) (by decide)) (fun z=>by subst z;cases b4)),b4,b5,b6⟩
    ·obtain⟨o,es,ep,e,d,_⟩:=hns
     rw[z,e]at b3;cases b3;rw[d]at b6;cases b6
    ·rw[z,eP]at b3;cases b3;cases b4
   ·intro z
    obtain⟨o,es,ep,e,d,_⟩:=hns
    rw[z,eP]at e;cases e;cases d
  have e0:bF2 P w K mg (aJ1 s₁.heap H) bo0 [] s₁ H:=⟨rfl,hM,fun b o e=>bL9 e,ak4 (bq9 _ _),trivial,fun b hb=>absurd (show b∈([]:List Addr) from hb) (by simp),hok,.of_eq hg⟩
  refine Z5 ((F _ hKb (nsK hns) hLB).run bo0 [] s₁ H ⟨[.ref a],[]⟩ [.ref a] [.ref a] _ _ hr e0 (hbind s₁ (.ref a)) (.cons rfl .nil) (hsp H (fun q hq=>hHt _ (List.mem_map_of_mem hq)) hS)) fun r s' h=>?_
  cases r with
  | error e=>exact(hCX H e s' h).elim
  | ok fl =>
   cases fl with
   | next=>exact False.elim h
   | brk=>exact False.elim h
   | cont=>exact False.elim h
   | ret u =>
    obtain⟨v,H',os,bare,un,hok',r',q⟩:=h
    have q':v=.bl true:=q
    subst q'
    obtain rfl:u=Value.bool true:=r'
    have keep:∀ b o,b∉ts.map (·.2)->s₁.heap.get? b=some o->s'.heap.get? b=some o:=fun b o hb e=>by
     rcases hO b hb with z | ⟨ob,xs,z⟩
     ·exact un.keep b o e z (by intro z;exact absurd (show b∈([]:List Addr) from z) (by simp)) (by simp)
     ·have z2:=un.frzs b ob _ z
      obtain⟨e1,_⟩:=hok b _ z
      obtain⟨e2,_⟩:=hok' b _ z2
      rw[e]at e1;cases e1
      exact e2
    have grown:∀ b o,b∈ts.map (·.2)->s₁.heap.get? b=some o->isCodeTable s₁.heap b/\o=PySem.W.tabObj #[]/\∃ ps,s'.heap.get? b=some (PySem.W.tabObj ps):=fun b o hb e=>by
     obtain⟨ps,hp⟩:=un.tbls b #[] (hHt b hb)
     have e2:=tabO b hb
     rw[e]at e2
     obtain⟨q,hq,eq⟩:=u5.mp hb
     have e3:s'.heap.get? b=some (PySem.W.tabObj (#[]++ps)):=hok' b _ hp
     refine⟨?_,Option.some.inj e2,_,e3⟩
     rw[<- eq]
     exact((hT q hq).1.tab (hT q hq).2).isCodeTable
    refine⟨rfl,⟨fun b o e=>?_,fun b o e=>?_⟩,os,bare⟩
    ·by_cases hb:b∈ts.map (·.2)
     ·obtain⟨ht,rfl,ps,hP⟩:=grown b o hb e
      exact .inr (.inl ⟨ht,rfl,#[],ps,rfl,by rw[Array.empty_append];exact hP⟩)
     ·exact .inl (keep b o hb e)
    ·by_cases hb:b∈ts.map (·.2)
     ·obtain⟨_,_,ps,hP⟩:=grown b o hb e
      exact⟨_,hP⟩
     ·exact⟨o,keep b o hb e⟩
 cases hk:K.lookup a with
 | some o =>
  have e:=KX a o hk
  rw[ha]at e
  cases e
  refine core (fun b=>if b∈ts.map (·.2) then some (.tbl #[]) else none) (fun b hb=>if_pos hb) (fun b hb=>.inl (if_neg hb)) (.inr ⟨_,vs.toArray,_,hk,rfl,rfl,rfl,by rw[d7,lenV];exact hl,by simpa using rv⟩) (fun b u z=>?_) (fun b z=>?_) fun z=>absurd (if_neg aT) z
  ·by_cases hb:b∈ts.map (·.2)
   ·have z':=(if_pos hb).symm.trans z
    cases z'
    exact tabO b hb
   ·have z':=(if_neg hb).symm.trans z
    cases z'
  ·by_cases hb:b∈ts.map (·.2)
   ·exact .inr hb
   ·exact absurd (if_neg hb) z
 | none =>
  have e1:∀ b,b∈ts.map (·.2)->(if b∈ts.map (·.2) then some (HO.tbl #[]) else if b=a then some (.frz { cls:=.type "list",data:=.seq vs.toArray } (.lst (ns.map V.int))) else none)=some (HO.tbl #[]):=fun b hb=>if_pos hb
  have e2:∀ b,b∉ts.map (·.2)->(if b∈ts.map (·.2) then some (HO.tbl #[]) else if b=a then some (.frz { cls:=.type "list",data:=.seq vs.toArray } (.lst (ns.map V.int))) else none)=(if b=a then some (.frz { cls:=.type "list",data:=.seq vs.toArray } (.lst (ns.map V.int))) else none):=fun b hb=>if_neg hb
  refine core (fun b=>if b∈ts.map (·.2) then some (HO.tbl #[]) else if b=a then some (.frz { cls:=.type "list",data:=.seq vs.toArray } (.lst (ns.map V.int))) else none) e1 (fun b hb=>?_) (.inl (.inr ⟨{ cls:=.type "list",data:=.seq vs.toArray },(e2 a aT).trans (if_pos rfl)⟩)) (fun b u z=>?_) (fun b z=>?_) fun _=>hk
  ·rw[e2 b hb]
   by_cases hba:b=a
   ·exact .inr ⟨_,_,if_pos hba⟩
   ·exact .inl (if_neg hba)
  ·by_cases hb:b∈ts.map (·.2)
   ·have z':=(e1 b hb).symm.trans z
    cases z'
    exact tabO b hb
   ·have z1:=(e2 b hb).symm.trans z
    by_cases hba:b=a
    ·have z':=(if_pos hba).symm.trans z1
     cases z'
     subst hba
     exact⟨ha,by rw[b8];exact hl,vs,_,rv,ha⟩
    ·have z':=(if_neg hba).symm.trans z1
     cases z'
  ·by_cases hb:b∈ts.map (·.2)
   ·exact .inr hb
   ·by_cases hba:b=a
    ·exact .inl hba
    ·exact absurd ((e2 b hb).trans (if_neg hba)) z
theorem walk_ofT {l:PySem.W.OpenLaw} {k:Nat} {q:Program} {loose:List Str} {d:DefRec} {K:Params->PySem.W.Frag} {CX:World->CXT} {sp:World->List (Addr × Addr)->Sp} {ts:World->List (Addr × Addr)}
  (hn:l.most=some n) (hn2:n<=j8) (hdf:d.params.defaults=[]) (hr:Z9 k bo0)
  (hY:∀ (w:World) (h:Heap),YP w h->(K w.params).In h) (hK0:∀ w:World,PySem.W.noTabs (K w.params)=true)
  (hts:∀ (w:World) (loose:List Str) (mean:ExcName->Option Value) (mg mb:Str->Option Value) (h:Heap),Top q loose mean mg mb h->(K w.params).In h->PySem.W.TabsAt (ts w) h)
  (F : ∀ (w : World) (mg : Str -> Option Value) (fa : Addr) (h : Heap), (K w.params).In h -> h.Ns i9 mg -> mg d.name = some (.ref fa) ->
   ∃ fd:FuncData,(∀ (s:Shared) (u:Value),bn8 s fd ⟨[u],[]⟩ [(x,u)]) /\
    ∀ base:Heap,(K w.params).In base->base.Ns i9 mg->(∀ q∈ts w,ap0 base mg q.1 q.2)->x6 l.prog w (K w.params) mg base (CX w) k fa fd [x] (sp w (ts w)))
  (hsp:∀ (w:World) (H:Hp) (a:Addr) (ns:List Int),ns.length<=n->(∀ q∈ts w,H q.2=some (.tbl #[]))->SqL (K w.params) H a (ns.map V.int)->sp w (ts w) [.ref a] H (fun v _=>v=.bl true) fun _ _ _=>False)
  (hCX:∀ (w:World) (H:Hp) (s:Shared) (e:Value) (s':Shared),CX w [] H s (fun _ _ _=>False) e s'->False) :
  PySem.W.WalkO q loose XP YP l.row.toRowW d [] (fun f vs=>PySem.call f vs):=by
 refine Att.attach_call hn hdf fun w s₀ s₁ mg mb fa o pm cd doc a vs ns G Y ho hd hcd hmg hobj hints hlen hg=>?_
 have KX:=hY w _ Y
 obtain⟨fd,hb,hF⟩:=F w mg fa _ KX G.T.g hmg
 exact bq4 (hts w _ _ _ _ _ G.T KX) (hK0 w) G.T.bmain KX G.T.g G.T.b G.T.builtins G.T.nolimit hg hobj hints (A8 hlen hn2) hr hF hb (fun H hO hS=>hsp w H a ns hlen hO hS) fun H e s'=>hCX w H s₁ e s'
def bp7 (ns:List Int)(z:Int):List Int:=[-(ns.getD z.toNat 0),z]
theorem bK7 (ns:List Int)(z:Int):∃ i k,bp7 ns z=i::k:=⟨_,_,rfl⟩
def ole (ns:List Int)(x y:Int):Prop:=Tim.M4 (bp7 ns y) (bp7 ns x)=false
theorem at3 {x y:Int}:ole ns x y↔(ns.getD y.toNat 0<ns.getD x.toNat 0\/(ns.getD x.toNat 0=ns.getD y.toNat 0/\x<=y)):=by
 unfold ole bp7 Tim.M4
 by_cases h:-(ns.getD y.toNat 0) = -(ns.getD x.toNat 0)
 ·rw[if_pos h]
  unfold Tim.M4
  by_cases h2:y=x
  ·rw[if_pos h2]
   simp only[Tim.M4,true_iff]
   exact .inr ⟨by omega,by omega⟩
  ·rw[if_neg h2,decide_eq_false_iff_not]
   constructor
   ·intro h3;exact .inr ⟨by omega,by omega⟩
   ·intro h3 h4;omega
 ·rw[if_neg h,decide_eq_false_iff_not]
  constructor
  ·intro h3;exact .inl (by omega)
  ·intro h3 h4;omega
theorem aY2 {x y:Int}(h1:ole ns x y)(h2:ole ns y x):x=y:=by
 rw[at3]at h1 h2
 omega
theorem aE4 {zs' l:List Int}(p1:zs.Perm l)(p2:zs'.Perm l)(s1:zs.Pairwise (ole ns))(s2:zs'.Pairwise (ole ns)):zs=zs':=
 (p1.trans p2.symm).eq_of_pairwise (fun x y _ _ h1 h2=>aY2 h1 h2) s1 s2
end L2
namespace Web
open PySem L2
def W4 (ks:List (List Int))(p:Nat):Nat:=ks.countP fun k=>decide ((p:Int)∈k)
def tal (n:Nat)(ks:List (List Int)):List Int:=(u7 n).map fun p=>(W4 ks p:Int)
theorem ad1 (n:Nat)(ks:List (List Int)):(tal n ks).length=n:=by simp[tal]
theorem ad2 (h:p<n):(tal n ks)[p]?=some (W4 ks p:Int):=by
 unfold tal
 rw[p8,R1 h]
 rfl
theorem br9 {ls:List (List Int)}(h:ks.Perm ls)(p:Nat):W4 ks p=W4 ls p:=h.countP_eq _
theorem bu0 {ls:List (List Int)}(h:ks.Perm ls)(n:Nat):tal n ks=tal n ls:=by
 unfold tal
 exact R3 fun p _=>by rw[br9 h]
theorem aG9 (ks ls:List (List Int))(p:Nat):W4 (ks++ls) p=W4 ks p+W4 ls p:=List.countP_append
theorem bD5 (i j p:Nat):W4 [[(i:Int),(j:Int)]] p=if p=i\/p=j then 1 else 0:=by
 unfold W4
 rw[List.countP_singleton]
 by_cases h:p=i\/p=j
 ·rw[if_pos h,if_pos]
  simp only[decide_eq_true_eq,d8,R8,or_false]
  omega
 ·rw[if_neg h,if_neg]
  simp only[decide_eq_true_eq,d8,R8,or_false]
  omega
theorem bI5 (n:Nat):tal n []=C0 n 0:=by
 unfold tal W4
 rw[List.eq_replicate_iff]
 simp
theorem bj2 (hi:i<n)(hj:j<n)(h:i≠j)(ks:List (List Int))(z1 z2:Int)(e1:z1=W4 ks i)(e2:z2=W4 ks j) :
  ((tal n ks).set i (z1+1)).set j (z2+1)=tal n (ks++[[(i:Int),(j:Int)]]):=by
 subst e1 e2
 refine Q2 fun p=>?_
 by_cases hp:p<n
 ·rw[ad2 hp,aG9,bD5,aJ5,aJ5,N4,ad1,ad2 hp]
  by_cases q1:j=p
  ·subst q1
   rw[if_pos rfl,if_pos hj,if_pos (.inr rfl)]
   simp
  ·rw[if_neg q1]
   by_cases q2:i=p
   ·subst q2
    rw[if_pos rfl,if_pos hi,if_pos (.inl rfl)]
    simp
   ·rw[if_neg q2,if_neg (by omega)]
    simp
 ·rw[o6 (by simp[ad1];omega),o6 (by rw[ad1];omega)]
end Web
namespace HT
open PySem PyProof.Rows
end HT
namespace L2
open PySem PySem.Spec PyProof.Rows
section
variable {st:Expr} {ts:TE} {p2:Pos}
def cl6 (t u:TS):TS:=fun D σ H=>∃ Mid:St->Hp->Prop,t { D with nx:=Mid } σ H/\∀ σ' H',Mid σ' H'->u D σ' H'
theorem bJ8 {stm:Stmt}{rest:List Stmt}{t u:TS}(h1:PS X stm t)(h2:PSs X rest u):PSs X (stm::rest) (cl6 t u):=by
 intro pins s σ H D I ⟨Mid,h,k⟩
 refine bc8 (thn (h1 pins s σ H { D with nx:=Mid } I h) fun f s1 q=>?_)
 cases f with
 | next =>
  obtain⟨σ',H',I',q⟩:=q
  exact h2 pins s1 σ' H' D I' (k _ _ q)
 | ret v=>exact q
 | brk=>exact q
 | cont=>exact q
end
end L2
set_option Elab.async false
set_option maxRecDepth 100000
namespace L2
open PySem PySem.Spec PyProof.Rows
section
variable (P:Program) (w:World)
end
section
variable {o:HO}
end
section
variable {x e:Addr} {o':HO}
end
section
variable {fs fs' ex ex':List Addr} {H1 H2:Hp} {h1 h2:Heap} {x e:Addr} {o:HO}
end
section
variable {σ:List (Option V)}
end
section
variable {a b:Expr} {tb:TE}
variable {tA tB':TT} {rest:List Expr}
end
section
variable {σ:St}
end
section
variable {σ:St}
end
section
variable {st:Stmt} {rest:List Stmt} {t u:TS}
end
section
variable {a b c:Expr} {tb tc:TE}
end
section
variable {a b c:Expr} {tb tc:TE}
end
section
variable {K:W.Frag} {x dx:Addr} {mA:Str->Option Value} {name:Str}
end
section
variable {dx:Addr} {fs fs':List (Str × V)}
end
section
variable {σ:St} {dx:Addr} {fs:List (Str × V)} {f:Str} {v:V}
end
section
variable {value:Expr} {f:Str} {pos' tpos:Pos} {tv:TE}
end
section
variable {σ:St} {c:Value} {b:Bool}
end
section
variable {t:TA}
end
section
variable {σ:St} {s':Shared}
end
section
variable {CX:CXT} {k:Nat} {sp:Sp} {dvs:List V} {ds:List Value} {E:XK} {m:Str} {p apos:Pos} {t:TA}
end
section
variable {CX:CXT} {k:Nat} {ks:List Str} {sp:Sp} {E:XK} {m:Str} {p apos kpos:Pos} {kws:List az0} {t tk:TA} {nm:Option Str}
variable {g:List Value->List Value->List Value}
end
section
variable {p:Pos} {t:TA} {id T:String} {r:List V->Hp->VK->Prop}
end
section
variable {κ:Type} [DecidableEq κ]
end
section
variable {σ:St} {y v:V} {r:Value} {o:Option V}
end
section
variable {σ:St} {kvs:List (Key × V)} {k:Key}
end
section
variable {i value:Expr} {pos' tpos:Pos} {td ty tv:TE}
end
structure M1 (X:Cx) (o:Expr) (m:Str) (apos:Pos) (e:Expr) (cpos:Pos):Prop where
 base:bG7 o m X.env (eval o X.env)=eval o X.env
 few:((N6 cpos (u4 [e] X.env)).all (fun x=>!x.1) && (ag9 cpos (S0 [] X.env)).all (fun x=>x.1.isSome)
  && decide (([e]:List Expr).length+([]:List az0).length+(if ([]:List az0).isEmpty then 0 else 1)<30))=true
 line:(apos.endLine == cpos.line)=true
 trees:N6 cpos (u4 [e] X.env)=[(false,eval e X.env)]
structure M2 (X:Cx) (o:Expr) (m:Str) (apos:Pos) (e f:Expr) (cpos:Pos):Prop where
 base:bG7 o m X.env (eval o X.env)=eval o X.env
 few:((N6 cpos (u4 [e,f] X.env)).all (fun x=>!x.1) && (ag9 cpos (S0 [] X.env)).all (fun x=>x.1.isSome)
  && decide (([e,f]:List Expr).length+([]:List az0).length+(if ([]:List az0).isEmpty then 0 else 1)<30))=true
 line:(apos.endLine == cpos.line)=true
 trees:N6 cpos (u4 [e,f] X.env)=[(false,eval e X.env),(false,eval f X.env)]
section
variable {σ:St} {y d:V} {r:Value} {o:Option V}
end
section
variable {f:Expr} {apos cpos:Pos} {td ty tx:TE}
end
section
variable {σ:St} {kvs:List (Key × V)}
end
section
variable {σ:St} {y:V}
end
end L2
namespace Att
open PySem PySem.W PySem.Calls PyProof.Rows
section
variable {K:Frag}
end
end Att
namespace L2
open PySem PySem.Spec PyProof.Rows
section
variable {K:W.Frag} {mg:Str->Option Value} {base:Heap}
end
section
variable {κ:Type} [DecidableEq κ]
end
section
variable {σ:St}
theorem bI9 (I:Inv X pins σ H s){p:Addr}(hq:SqL X.K H p (ns.map V.int)\/SqT X.K H p (ns.map V.int)):∃ (vs:List Value) (T:String) (o:Obj) (c:Nat),(T="list"\/T="tuple")/\s.heap.get? p=some o/\o.cls=.type T/\o.data=.seq vs.toArray c/\R0 vs ns:=by
 rcases hq with hq | hq
 ·obtain⟨its,r',pl,hz⟩:=I.list hq
  obtain⟨o,ho,hc,n,hd⟩:=pl.isList
  exact⟨its,"list",o,n,.inl rfl,ho,hc,hd,intsAre_of r'⟩
 ·obtain⟨its,r',pl,hz⟩:=I.tuple hq
  obtain⟨o,ho,hc,n,hd⟩:=pl
  exact⟨its,"tuple",o,n,.inr rfl,ho,hc,hd,intsAre_of r'⟩
theorem be3 (I:Inv X pins σ H s){h1:Heap}{out:Array Value}(kp:∀ b o',s.heap.get? b=some o'->h1.get? b=some o')(hi:R0 out.toList zs)(hz:zs.length<=1000) :
  H h1.objs.size=none/\Inv X pins σ (upd H h1.objs.size (.lst (zs.map V.int))) { s with heap:=aq5 (h1.push (J4 "list" vs.toArray 0)) h1.objs.size vs out }:=by
 have I1:Inv X pins σ H { s with heap:=h1,toks:=s.toks }:=I.kept kp
 refine⟨I1.hok.fresh (c8 _),?_⟩
 have hoL:(h1.push (J4 "list" vs.toArray 0)).get? h1.objs.size=some (J4 "list" vs.toArray 0):=l5 _ rfl
 obtain⟨e,he⟩:=sortedHeap_at (out:=out) hoL
 refine I1.laid (t':=s.toks) (fun b o q=>?_) (c8 _) ⟨by rw[b8,E8];omega,out.toList,e,an7 hi,by rw[au9];exact he⟩
 have hb:b<h1.objs.size:=d6 q
 rw[sortedHeap_old (l6 hb) (by rw[bG0];exact E1 hb)]
 exact c5 _ q
theorem aD0 {p:Addr}{b:Bool}(I:Inv X pins σ H s)(hq:SqL X.K H p (ns.map V.int)\/SqT X.K H p (ns.map V.int))(h64:ns.length<64)
  (h:∀ (s':Shared) (D:Addr) (zs:List Int),H D=none->zs.Perm ns->Ordered b zs->Inv X pins σ (upd H D (.lst (zs.map V.int))) s'->Q (.ref D) s') :
  p9 (x8 X.prog X.w) A (call (.builtin "sorted") [.ref p] [(Str.ofString "reverse",.bool b)]) Q E s:=by
 obtain⟨vs,T,o,c,hT,ho,hc,hd,hI⟩:=bI9 I hq
 have hlen:=hI.length
 refine bQ0 ce0 bT7 bT8 (args_sorted_rev _ _) ?_
 unfold Builtin.«sorted»
 refine b7 (m:=checkCount "sorted" 1 1 _) (d4 ?_)
 refine b7 (wpAny_collect_seq p hT ho hc hd (fun h1 kp=>?_) (by rw[d7,E8];omega))
 rw[bP4]
 refine b7 (V1 ?_ (by rw[E8];omega))
 have hoL:(h1.push (J4 "list" vs.toArray 0)).get? h1.objs.size=some (J4 "list" vs.toArray 0):=l5 _ rfl
 refine b7 (C9 (ce1 bt7 (s:={ s with heap:=h1.push (J4 "list" vs.toArray 0) }) ⟨_,hoL,rfl⟩ bo3 (list_sort_tree_rev (s:={ s with heap:=h1.push (J4 "list" vs.toArray 0) }) hoL hI (by omega) fun out ns' a1 a2 a3=>⟨_,rfl,?_⟩) (args_list_sort_rev _ _)))
 obtain⟨e1,e2⟩:=be3 (vs:=vs) I kp a1 (by rw[a2.length_eq];omega)
 exact d4 ⟨_,rfl,h _ _ ns' e1 a2 a3 e2⟩
end
def bV2 (K:W.Frag)(tr:TA):TE:=fun σ H Q=>tr σ H fun vs H1=>∃ (p:Addr) (ns:List Int),vs=[.ref p]/\(SqL K H1 p (ns.map V.int)\/SqT K H1 p (ns.map V.int))/\ns.length<64 /\
 ∀ (l:Addr) (zs:List Int),H1 l=none->zs.Perm ns->zs.Pairwise (·≥·)->Q (.ref l) (upd H1 l (.lst (zs.map V.int)))
theorem by0 {np bpos kpos:Pos}{tr:TA}(K:W.Frag)(hK:X.K=K)(hg:Gl X "sorted")(hm:X.mg "sorted"=none)(ha:PA X [e] tr)
  (hs:N6 pos (u4 [e] X.env)=(false,eval e X.env)::N6 pos (u4 [] X.env):=by rfl)
  (hpl:(N6 pos (u4 [e] X.env)).any (·.1)=false:=by rfl) :
  PE X (.Call (.Name "sorted" np) [e] [⟨some "reverse",.Constant (.bool true) j bpos,kpos⟩] pos) (bV2 K tr):=by
 subst hK
 intro pins s σ H Q I h
 refine J3 (Z8 I hg hm (show L5 "sorted"=some (.builtin "sorted") from rfl) ?_ (by decide) (by decide))
 refine ce2 (thn (ha pos pins s σ H _ I h) fun us s1 ⟨vs,H1,I1,r1,q1⟩=>?_) hs hpl rfl rfl
 obtain⟨p,ns,rfl,hq,h64,q⟩:=q1
 have hk:PK X [⟨some "reverse",.Constant (.bool true) j bpos,kpos⟩] (aC7 (tC (.bl true)) bd7):=aA8 by3 aP9
 refine thn (hk pos pins s1 σ H1 (fun zs H2=>zs=[.bl true]/\H2=H1) I1 ⟨rfl,rfl⟩) fun ws s2 ⟨zs,H2,I2,r2,ez,eH⟩=>?_
 subst ez eH
 obtain⟨w,rfl,rw⟩:=vals1 r2
 obtain⟨u,rfl,ru⟩:=vals1 r1
 cases rw
 cases ru
 exact aD0 (b:=true) I2 hq h64 fun s' D zs a1 a2 a3 I'=>⟨.ref D,_,I',rfl,q D zs a1 a2 a3⟩
theorem az3 {ip tp:Addr}{ys:Array Value}{x:Value}(hi:s.heap.IsTupleIter ip tp i)(ht:s.heap.IsTuple tp ys)(hx:ys[i]?=some x)
  (q:∀ h',h'.IsTupleIter ip tp (i+1)->Heap.SameBut ip s.heap h'->Q x { s with heap:=h' }):p9 (x8 prog w) A (Builtin.SmallTypes.nextOf (.ref ip)) Q E s:=by
 obtain⟨u,hu,cu,du⟩:=id hi
 obtain⟨v,hv,_,nv,dv⟩:=ht
 unfold Builtin.SmallTypes.nextOf
 refine b7 (S3 (name:=Str.ofString "__next__") hi.typeIs F.slot_tuple_iterator_next (Y5 F.slot_tuple_iterator_next hi.typeIs F.entry_tuple_iterator_next ?_ (F.args_tuple_iterator_next_1 _)))
 show p9 _ _ (field (.ref ip) 0 >>= _) _ _ s;refine b7 (K9 hu du (x:=.ref tp) rfl ?_)
 show p9 _ _ (if (Value.ref tp == Value.none)=true then _ else _) _ _ s;rw[if_neg (show ¬ ((Value.ref tp == Value.none)=true) from k7)]
 show p9 _ _ (field (.ref ip) 1 >>= _) _ _ s;refine b7 (K9 hu du (x:=.int i 0) rfl ?_)
 show p9 _ _ (bo5 (.ref tp) >>= _) _ _ s;refine b7 (J1 hv dv ?_)
 simp only[p0,hx]
 refine b7 (wpAny_setField hu du (by simp) (d4 ⟨x,rfl,d4 (q _ ?_ (Heap.SameBut.update ..))⟩))
 exact⟨_,U0 _ hu (Obj.isFreed_of_fields (Obj.data_mapFields du _)),(Obj.cls_mapFields ..).trans cu,by rw[Obj.data_mapFields du];simp[ac5]⟩
theorem aE9 {ip tp:Addr}{ys:Array Value}(hh:A.handled=none)(hi:s.heap.IsTupleIter ip tp i)(ht:s.heap.IsTuple tp ys)(hx:ys[i]?=none)
  (q:∀ h' e,Heap.ExtBut ip s.heap h'->(∃ o,h'.get? e=some o/\o.cls=.type "StopIteration")->E (.ref e) { s with heap:=h' }):p9 (x8 prog w) A (Builtin.SmallTypes.nextOf (.ref ip)) Q E s:=by
 obtain⟨u,hu,cu,du⟩:=id hi
 obtain⟨v,hv,_,nv,dv⟩:=ht
 unfold Builtin.SmallTypes.nextOf
 refine b7 (S3 (name:=Str.ofString "__next__") hi.typeIs F.slot_tuple_iterator_next (Y5 F.slot_tuple_iterator_next hi.typeIs F.entry_tuple_iterator_next ?_ (F.args_tuple_iterator_next_1 _)))
 show p9 _ _ (field (.ref ip) 0 >>= _) _ _ s;refine b7 (K9 hu du (x:=.ref tp) rfl ?_)
 show p9 _ _ (if (Value.ref tp == Value.none)=true then _ else _) _ _ s;rw[if_neg (show ¬ ((Value.ref tp == Value.none)=true) from k7)]
 show p9 _ _ (field (.ref ip) 1 >>= _) _ _ s;refine b7 (K9 hu du (x:=.int i 0) rfl ?_)
 show p9 _ _ (bo5 (.ref tp) >>= _) _ _ s;refine b7 (J1 hv dv ?_)
 simp only[p0,hx]
 refine b7 (aq4 (b7 (wpAny_setField hu du (by simp) ?_)))
 show p9 _ _ (newExc (.type "StopIteration") [] >>= _) _ _ _;refine b7 ?_;simp only[newExc,newTuple]
 refine b7 (Q9 ?_ (by size_fits));refine b7 (m:=firstArgMember _ _) (aI7 (a:=Value.none) (by first | rfl | (simp only[firstArgMember];rfl)) ?_)
 refine Q9 ?_ (by size_fits);simp only[raiseNew]
 refine b7 (wpAny_handled ?_);first | rw[show A.in1.handled=none from hh] | rw[hh]
 refine b7 (d4 (wpAny_throw ?_));exact q _ _ (((Heap.SameBut.update ..).extBut.push _).push _) ⟨_,l5 _ rfl,rfl⟩
theorem aL7 (hh:A.handled=none)(ip tp:Addr)(hne:tp≠ip)(ys:Array Value):Draws prog w A ip [ip,tp] ys.size (fun i v=>ys[i]?=some v) (fun i h=>h.IsTupleIter ip tp i/\h.IsTuple tp ys) where
 live:=fun _ _ z=>let ⟨o,ho,_⟩:=z.1;⟨o,ho⟩
 frame:=fun _ _ _ z k=>⟨z.1.at fun o e=>k ip (by simp) o e,z.2.at fun o e=>k tp (by simp) o e⟩
 item:=fun i s Q E hi z q=>az3 z.1 z.2 (x:=ys[i]) (by simp[hi]) fun h' a b=>q _ h' s.toks (by simp[hi]) ⟨a,z.2.extBut b.extBut hne⟩ b
 done:=fun s Q E z q=>aE9 hh z.1 z.2 (by simp) q
open AutoSeq1 (wpAny_loadPart') in
set_option maxRecDepth 100000 in
theorem aF2 (tp:Addr)(ys:Array Value)(n:Nat)(dd:Option Addr)(ss:Array (Option Value)) :
  Meets (Builtin.«enumerate.__new__» ⟨[.type "enumerate",.ref tp],[]⟩) (fun _ R s=>s.heap.get? tp=some { cls:=.type "tuple",dict:=dd,data:=.seq ys n,slots:=ss } /\
   R (.ok (.ret (.ref (s.heap.push { cls:=.type "tuple_iterator",data:=.fields #[.ref tp,.int 0 0] }).objs.size)))
    { s with heap:=(s.heap.push { cls:=.type "tuple_iterator",data:=.fields #[.ref tp,.int 0 0] }).push { cls:=.type "enumerate",data:=.fields #[.none,.bool false,.ref s.heap.objs.size,ac5 0,.none,.none] } }) :=
 .of_wp fun prog w A R s h=>by
  obtain⟨hp,g,d,tk,os⟩:=s;obtain⟨hl,h⟩:=h
  have hsub:=sub_enumerate
  have hT:Heap.IsTuple (Shared.heap ⟨hp,g,d,tk,os⟩) tp ys:=⟨_,hl,rfl,n,rfl⟩
  wp_walk using wpAny_loadPart' hl
  refine wpAny_stack_any fun st=>d4 ?_
  split
  ·rename_i c _ _ _ _ _
   cases (c == Value.type "enumerate")
   ·wp_walk using wpAny_loadPart' hl,an1 hT;exact⟨_,rfl,h⟩
   ·wp_walk using wpAny_loadPart' hl,an1 hT;exact⟨_,rfl,h⟩
  ·wp_walk using wpAny_loadPart' hl,an1 hT;exact⟨_,rfl,h⟩
theorem aJ3 {tp:Addr}{ys:Array Value}(hT:s.heap.IsTuple tp ys)
  (q:∀ h',bU2 h' (s.heap.objs.size+1) s.heap.objs.size 0 .none->h'.IsTupleIter s.heap.objs.size tp 0->h'.objs.size=s.heap.objs.size+2->(∀ b o,s.heap.get? b=some o->h'.get? b=some o)->Q (.ref (s.heap.objs.size+1)) { s with heap:=h' }) :
  p9 (x8 prog w) A (call (.type "enumerate") [.ref tp]) Q E s:=by
 obtain⟨⟨c,dd,dt,ss⟩,hl,hc,n,hd⟩:=hT
 replace hc:c=.type "tuple":=hc
 replace hd:dt=.seq ys n:=hd
 subst hc hd
 refine callType_new F.called_enumerate (by decide) (F.typeCall_enumerate_1 _) (F.newCall_enumerate_1 _) (fun obj=>F.args_object_init_2 obj _) F.entry_enumerate_new (aF2 tp ys n dd ss) ⟨hl,?_⟩
 have hz:(s.heap.push { cls:=.type "tuple_iterator",data:=.fields #[.ref tp,.int 0 0] }).objs.size=s.heap.objs.size+1:=G0 ..
 show _/\_
 rw[hz]
 have he:bU2 ((s.heap.push { cls:=.type "tuple_iterator",data:=.fields #[.ref tp,.int 0 0] }).push { cls:=.type "enumerate",data:=.fields #[.none,.bool false,.ref s.heap.objs.size,ac5 0,.none,.none] }) (s.heap.objs.size+1) s.heap.objs.size 0 .none:=by
  have:=l5 (s.heap.push { cls:=.type "tuple_iterator",data:=.fields #[.ref tp,.int 0 0] }) (o:={ cls:=.type "enumerate",data:=.fields #[.none,.bool false,.ref s.heap.objs.size,ac5 0,.none,.none] }) rfl
  rw[hz]at this;exact this
 exact⟨⟨_,he,rfl⟩,q _ he ⟨_,c5 _ (l5 _ rfl),rfl,rfl⟩ (by rw[G0,hz]) fun b o x=>c5 _ (c5 _ x)⟩
def Itm (K:W.Frag)(a:Addr):It:=
 ⟨fun i H=>∃ xs x,SqT K H a xs/\xs[i]?=some x,fun i H x H'=>∃ t v,H t=none/\x=.ref t/\(∀ xs,SqT K H a xs->xs[i]?=some v)/\H'=upd H t (.tup [.int i,v]),fun i H=>∃ xs,SqT K H a xs/\xs.length=i⟩
def ca9 (K:W.Frag)(ta:TA):TI:=fun σ H R=>ta σ H fun vs H1=>∃ a,vs=[.ref a]/\(∃ xs,SqT K H1 a xs)/\R (Itm K a) H1
theorem bd5 {K:W.Frag}{x1:Nat}(a ip e:Addr)(hne:e≠ip):Turn P w K (.Tuple elts x1 pos) (Itm K a) [e,ip] e (fun i h=>(∃ old,bU2 h e ip (i:Int) old)/\h.IsTupleIter ip a i) where
 mem:=by simp
 obj:=fun i h st b hb=>by
  obtain⟨⟨old,he⟩,o,ho,hc,hd⟩:=st
  rcases d8.mp hb with rfl | hb
  ·exact⟨_,he,fun v z=>by cases z⟩
  ·obtain rfl:b=ip:=by simpa using hb
   exact⟨o,ho,fun v z=>by rw[hd]at z;cases z⟩
 keep:=fun i h h' st k=>⟨let ⟨old,he⟩:=st.1;⟨old,k e (by simp) _ he⟩,st.2.at fun o q=>k ip (by simp) o q⟩
 item:=by
  intro X hP hw hK hc i pins s σ H E I hf st hg
  subst hP hw hK
  obtain⟨xs,x,hq,hx⟩:=hg
  obtain⟨⟨old,he⟩,hit⟩:=st
  obtain⟨its,rv,p,hz⟩:=I.tuple hq
  obtain⟨u,hu,ru⟩:=rv.get hx
  obtain⟨f0,f1,f2,f3,f4,f5⟩:=hf e (by simp)
  obtain⟨g0,g1,g2,g3,g4,g5⟩:=hf ip (by simp)
  have pT:s.heap.IsTuple a its.toArray:=p
  have nai:a≠ip:=fun z=>by
   obtain⟨o1,h1,c1,_⟩:=id pT
   obtain⟨o2,h2,c2,_⟩:=id hit
   rw[z,h2]at h1;cases h1;rw[c2]at c1;injection c1 with c1;exact absurd c1 (by decide)
  have nae:a≠e:=fun z=>by
   obtain⟨o1,h1,c1,_⟩:=id pT
   rw[z,show s.heap.get? e=_ from he]at h1;cases h1;injection c1 with c1;exact absurd c1 (by decide)
  have ui:its.toArray[i]?=some u:=by simpa using hu
  have hlt':i<its.toArray.size:=by
   rcases B3 i its.toArray.size with h | h
   ·exact h
   ·rw[aq1 h]at ui;cases ui
  refine bH1 (aL7 (A:=X.A.in1) (I.ok.hd hc) ip a nai its.toArray) he ⟨hit,pT⟩ hlt' hne (by simp[hne,Ne.symm nae]) fun v h1 tk hv heo st1 ht1 hz1 hk1=>?_
  have ev:v=u:=by have:=hv.symm.trans ui;cases this;rfl
  subst ev
  have hit1:=st1.1
  refine⟨_,rfl,?_⟩
  refine al0 heo fun h2 he2 hs2=>?_
  have hlt:e<s.heap.objs.size:=d6 he
  have hs2':Heap.SameBut e h1 h2:=hs2
  have ht2:h2.get? s.heap.objs.size=some { cls:=.type "tuple",data:=.seq #[.int i tk,v] }:=(hs2'.2 _ (L0 hlt)).trans ht1
  have kp:∀ b o,b≠e->b≠ip->s.heap.get? b=some o->h2.get? b=some o:=fun b o h1' h2' q=>(hs2'.2 b h1').trans (hk1 b o h1' h2' q)
  have hT:H s.heap.objs.size=none:=I.hok.fresh (c8 _)
  have nH:∀ b,H b≠none->b≠e/\b≠ip:=fun b hb=>⟨fun z=>hb (z ▸ f0),fun z=>hb (z ▸ g0)⟩
  have keepH:∀ b o,H b=some o->upd H s.heap.objs.size (.tup [.int i,x]) b=some o:=fun b o q=>by rw[q8 (q0 q hT)];exact q
  have hok2:HOk X.prog X.w (upd H s.heap.objs.size (.tup [.int i,x])) h2:=fun b o eb=>by
   by_cases hb:b=s.heap.objs.size
   ·subst hb
    rw[c6]at eb
    cases eb
    exact⟨by show 2<=j8;decide,[.int i tk,v],.cons ⟨_,rfl⟩ (.cons ru .nil),⟨_,ht2,rfl,_,rfl⟩⟩
   ·rw[q8 hb]at eb
    refine(I.hok b o eb).stay (fun c v hcc q=>kp c v ?_ ?_ q) (fun c q=>keepH c _ q) fun c ys q=>keepH c _ q
    ·rcases hcc with z | z
     ·exact(nH c (by rw[z,eb];simp)).1
     ·exact(nH c (by rw[z];simp)).1
    ·rcases hcc with z | z
     ·exact(nH c (by rw[z,eb];simp)).2
     ·exact(nH c (by rw[z];simp)).2
  have I2:Inv X pins σ (upd H s.heap.objs.size (.tup [.int i,x])) { s with heap:=h2,toks:=tk+1 }:=by
   refine I.step (g':=s.gens) (d':=s.drawn) (t':=tk+1) (ch:=[e,ip]) (fun b hb=>?_) (fun b o _ _ hcc q _=>kp b o (fun z=>hcc (by simp[z])) (fun z=>hcc (by simp[z])) q) (fun b o _ _ hcc q _=>⟨o.slots,kp b o (fun z=>hcc (by simp[z])) (fun z=>hcc (by simp[z])) q⟩) (fun b o _ q n=>?_)
    (fun b o hcc q=>⟨o,kp b o (fun z=>hcc (by simp[z])) (fun z=>hcc (by simp[z])) q⟩) (fun b ys q=>keepH b _ q) (fun b o v q=>keepH b _ q) (fun b ps q=>⟨#[],by rw[keepH b _ q];simp⟩) (fun m hm=>?_) hok2 I.bare
   ·rcases d8.mp hb with rfl | hb
    ·exact⟨f3,f1,f4,f5⟩
    ·obtain rfl:b=ip:=by simpa using hb
     exact⟨g3,g1,g4,g5⟩
   ·rw[q8 (l6 (d6 q))]
    exact n
   ·obtain⟨o,es,ep,ho,r⟩:=hm
    exact⟨o,es,ep,kp _ o (Ne.symm f1) (Ne.symm g1) ho,r⟩
  have hilt:ip<s.heap.objs.size:=by
   obtain⟨o,ho,_⟩:=id hit
   exact d6 ho
  refine⟨.ref s.heap.objs.size,_,I2,rfl,⟨s.heap.objs.size,x,hT,rfl,fun ys hy=>by rw[I.tuple_inj hy hq];exact hx,rfl⟩,⟨⟨v,?_⟩,?_⟩,fun b hb=>?_⟩
  ·have:=he2
   rw[show ((i:Int)+1)=(((i+1:Nat):Int)) by simp]at this
   exact this
  ·exact hit1.at fun o q=>(hs2'.2 ip (Ne.symm hne)).trans q
  ·rcases d8.mp hb with rfl | hb
   ·rw[q8 (l6 hlt)];exact f0
   ·obtain rfl:b=ip:=by simpa using hb
    rw[q8 (l6 hilt)]
    exact g0
 done:=by
  intro X hP hw hK hc i pins s σ H E I hf st hg
  subst hP hw hK
  obtain⟨xs,hq,hx⟩:=hg
  obtain⟨⟨old,he⟩,hit⟩:=st
  obtain⟨its,rv,p,hz⟩:=I.tuple hq
  obtain⟨g0,g1,g2,g3,g4,g5⟩:=hf ip (by simp)
  have hl:=rv.length
  have pT:s.heap.IsTuple a its.toArray:=p
  have nai:a≠ip:=fun z=>by
   obtain⟨o1,h1,c1,_⟩:=id pT
   obtain⟨o2,h2,c2,_⟩:=id hit
   rw[z,h2]at h1;cases h1;rw[c2]at c1;injection c1 with c1;exact absurd c1 (by decide)
  have ei:i=its.toArray.size:=by rw[d7];omega
  refine bQ1 (aL7 (A:=X.A.in1) (I.ok.hd hc) ip a nai its.toArray) he ⟨by rw[<- ei];exact hit,pT⟩ fun h' eb=>⟨rfl,I.turned (t':=s.toks) (fun b o hb q=>eb b o hb q) g0 g1 g3 g4 g5⟩
 self:=fun _ _ _ _ _ st h=>let ⟨⟨old,he⟩,_⟩:=st;V4 he h
theorem aX6 {a:Expr}{ta:TA}{x1:Nat}{tpos p:Pos}(hg:Gl X "enumerate")(hm:X.mg "enumerate"=none)(ha:PA X [a] ta)(hv:L5 "enumerate"=some (.type "enumerate"):=by rfl)(hs:u4 [a] X.env=[(false,eval a X.env)]:=by rfl) :
  PI X (.Tuple elts x1 tpos) (.Call (.Name "enumerate" p) [a] [] pos) (ca9 X.K ta):=by
 intro pins s σ H R I h
 refine Call_ (Z8 I hg hm hv (PyProof.Rows.callWith_type1 (thn (ha pos pins s σ H _ I h) fun us s1 ⟨vs,H1,I1,r1,q1⟩=>?_) hs rfl))
 obtain⟨b,e,⟨xs,hq⟩,q⟩:=q1
 subst e
 obtain⟨u,rfl,rx⟩:=vals1 r1
 cases rx
 obtain⟨its,rv,pl,hz⟩:=I1.tuple hq
 refine aJ3 (show s1.heap.IsTuple b its.toArray from pl) fun h' he hit hsz kp=>?_
 refine V4 he ?_
 have hne:s1.heap.objs.size+1≠s1.heap.objs.size:=aT7 _
 refine⟨s1.heap.objs.size+1,[s1.heap.objs.size+1,s1.heap.objs.size],_,_,H1,rfl,I1.kept (t':=s1.toks) kp,bd5 b s1.heap.objs.size (s1.heap.objs.size+1) hne,⟨⟨_,he⟩,hit⟩,fun c hc=>?_,q⟩
 rcases d8.mp hc with rfl | hc
 ·exact I1.fpOk (P3 _) (I1.hok.fresh (P3 _))
 ·obtain rfl:c=s1.heap.objs.size:=by simpa using hc
  exact I1.fpOk (c8 _) (I1.hok.fresh (c8 _))
theorem bs0 (hc:X.calm=true):ac3 X (.builtin "sum") (fun xs H Q=>∃ (p:Addr) (ns:List Int),xs=[.ref p]/\SqT X.K H p (ns.map V.int)/\Q (.int ns.sum) H):=by
 intro pins s σ H xs us Q I r h
 obtain⟨p,ns,rfl,hq,q⟩:=h
 obtain⟨u,rfl,rx⟩:=vals1 r
 cases rx
 obtain⟨its,r',pl,hz⟩:=I.tuple hq
 have hi:R0 its ns:=intsAre_of r'
 obtain⟨ys,e⟩:=hi.allInts.items
 refine PySem.W.ktm_sumG (xs:=ys) (I.ok.hd hc) (by rw[<- e];exact pl) fun h' tk t' hk=>⟨.int ns.sum,H,I.kept (t':=tk) hk,⟨t',?_⟩,q⟩
 have e2:numsOf (as0 ys).toList=ns:=by rw[<- e];exact hi.numsOf
 rw[nums_intItems]at e2
 rw[preSum_eq,j7 (by simp),e2]
end L2
namespace L2
open PySem PySem.Spec PyProof.Rows
def ce7 (K:W.Frag)(CT:Addr)(tb:(St->XK)->TS)(th:TS):TS:=fun D σ H=>∃ E:St->XK,tb E D σ H/\∀ σ' cls H',E σ' cls none H'->PySem.W.exmOne K cls (.ref CT)=some true/\th D σ' H'
theorem bJ9 {body suite:List Stmt}{b0:Stmt}{tn:Str}{np hpos:Pos}{CT:Addr}{tb:(St->XK)->TS}{th:TS}
  (hg:Gl X tn)(hm:X.mg tn=some (.ref CT))(hst:X.stack=X.env::X.outer)(hfr:X.env.frame=some X.env.locals)(hbody:∀ pins E,PSs (bt9 X pins E) body (tb E))(hh:∀ v,PSs (cb3 X v) (b0::suite) th)
  (hd:(tn == ("__debug__":Str))=false:=by decide) :
  PS X (.Try body [.ExceptHandler (some (.Name tn np)) none (b0::suite) hpos] [] [] pos) (ce7 X.K CT tb th):=by
 intro pins s σ H D I hw
 obtain⟨E,hb,hcatch⟩:=hw
 refine wpAny_Try_except (E3 (hbody pins E [] s σ H D I.toTry hb) (fun fl s1 q=>?_) fun e s1 hx=>?_)
 ·cases fl with
  | next =>
   obtain⟨σ',H',I',q⟩:=q
   exact aj4 ⟨σ',H',I'.ofTry,q⟩
  | brk=>obtain⟨σ',H',I',q⟩:=q;exact⟨σ',H',I'.ofTry,q⟩
  | cont=>obtain⟨σ',H',I',q⟩:=q;exact⟨σ',H',I'.ofTry,q⟩
  | ret u=>obtain⟨v,σ',H',I',r,q⟩:=q;exact⟨v,σ',H',I'.ofTry,r,q⟩
 ·obtain⟨σ1,H1,s0,I1,x,cls,H2,rfl,hos,hbare,u,hok,new,hxn,⟨B,a0,fl,st⟩,hE⟩:=hx
  obtain⟨hmat,hth⟩:=hcatch σ1 cls H2 hE
  have hfl:Heap.FlyingW B (X.env::X.outer) x cls a0 s1.heap:=by rw[hst]at fl;exact fl
  have frNone:∀ b∈frs X.stack,H2 b=none:=fun b hb=>by
   obtain⟨_,o,ho,_⟩:=I1.stack.mem hb
   exact u.free b o ho (I1.stkFree b hb) (by simp)
  have step:∀ h',B.StaysIn h'->s1.heap.UpToSlots h'->Un (frs X.stack) [] H1 H2 s0.heap h'/\HOk X.prog X.w H2 h':=fun h' hB hu=>by
   refine⟨u.onto (fun b o ho hh hno=>hB b o (st b o ho (.inr hh) hno)) fun b o ho hh hm'=>?_,hok.stays fun b o ho hh=>hB b o (st b o ho (.inl hh) fun hm'=>hh (frNone b hm'))⟩
   obtain⟨_,o',ho',hdd⟩:=hfl.2.2.1.mem (b:=b) (by rw[hst]at hm';exact hm')
   rw[ho]at ho'
   cases ho'
   exact hu b o ho hdd
  have inv:∀ h',B.StaysIn h'->s1.heap.UpToSlots h'->Inv X pins σ1 H2 { s1 with heap:=h' }:=fun h' hB hu=>by
   obtain⟨un,ok⟩:=step h' hB hu
   exact I1.call' (s':={ s1 with heap:=h' }) (ch:=[]) hos un ok hbare fun b hb=>by cases hb
  have hfrm:X.A.frames=some (X.env::X.outer):=by rw[<- hst];exact I1.ok.frames
  refine wpAny_looks_onW hfrm hfr hfl fun h4 held4 up4=>?_
  refine wpAny_landsW held4 fun h5 fl5 up5=>?_
  have up15:=up4.trans up5
  have I5:=inv h5 fl5.1 up15
  refine wpAny_handleBy_cons (codeAny_handlers_test ?_) (by intro q;cases q)
  refine at8 (I5.toHd (.ref x)) hg hm ?_ hd
  have LT:PySem.W.Looks (x8 X.prog X.w) h5 (typeOf (.ref x)) cls:=by
   obtain⟨ob,hob,hc⟩:=fl5.there
   subst hc
   exact(PySem.W.Looks.ld hob).andThen .now
  refine(PySem.W.exm_one (M:=x8 X.prog X.w) I5.kIn LT hmat).here ?_
  refine codeAny_handlers_suite ?_
  refine lands_againW fl5 fun h6 fl6 up6=>?_
  have up16:=up15.trans up6
  have I7:=inv h6 fl6.1 up16
  refine E3 (hh (.ref x) pins { s1 with heap:=h6 } σ1 H2 D (I7.toHd _) hth) (fun fl' s9 q=>?_) (fun _ _ z=>False.elim z)
  have hdX:=I.ok.hd
  cases fl' with
  | next =>
   obtain⟨σ',H',I',q⟩:=q
   exact⟨σ',H',I'.ofHd hdX,q⟩
  | brk =>
   obtain⟨σ',H',I',q⟩:=q
   exact⟨σ',H',I'.ofHd hdX,q⟩
  | cont =>
   obtain⟨σ',H',I',q⟩:=q
   exact⟨σ',H',I'.ofHd hdX,q⟩
  | ret u' =>
   obtain⟨v,σ',H',I',r,q⟩:=q
   exact⟨v,σ',H',I'.ofHd hdX,r,q⟩
theorem br8 {elt iter:Expr} {ifs:List Expr} {ipos:Pos} {wi:TI} {g:TG} {tt:TT} {use:Option (Value->Sem Unit)} {R:Value->Shared->Prop} {Q:VK} {σ:St}
  (hc:X.calm=true) (hi:PI X tg iter wi) (hclos:aU2 scope X.env=pure cl) (hkind:scope.kind=.function)
  (hnames:∀ y∈scope.names,y.2=.local->scope.names.lookup y.1=some .local) (hcl:aH8 X.env cl) (hfr:au5 scope.names cl=true) (hlk:bF0 X N' lk scope cl)
  (hg:∀ s3 H3 fp,PG (F8 X scope cl N' s3 H3 fp fun _ _=>False) tg g) (ht:∀ s3 H3 fp,PTs (F8 X scope cl N' s3 H3 fp fun _ _=>False) ifs tt) (he:∀ s3 H3 fp,PE (F8 X scope cl N' s3 H3 fp fun _ _=>False) elt te)
  (hs:∀ x,aq3 iter X.env x=pure x) (I:Inv X pins σ H s) (h:bu2 wi lk g tt te σ H Q)
  (hend : ∀ (C D : Addr) (s' : Shared) (H' : Hp), Inv X pins σ H' s' -> Q (.ref D) H' -> H' C = none -> C ≠ X.env.locals -> X.s₀.heap.objs.size <= C -> (∀ x c, X.env.cells.lookup x = some c -> c ≠ C) -> (∀ p ∈ X.pn ++ pins, p.1 ≠ C) -> (∃ m, s'.heap.Ns C m) ->
   bG9 (x8 X.prog X.w) X.A X.xe use R (.ref D) C (.ok .next) s') :
  p9 (x8 X.prog X.w) X.A (comprehension (.ListComp elt [⟨tg,iter,ifs,0⟩] scope pos) scope X.env ipos (newList []) false (eval iter X.env) use) R X.xe s:=by
 have hcellN:∀ y∈scope.names,y.2≠.cell:=fun y hy=>by
  unfold au5 at hfr
  rw[J2]at hfr
  have:=hfr y hy
  rw[B4]at this
  simpa using this.1
 refine bG1 (use:=use) rfl hs hclos hkind hnames (thn (hi pins s σ H _ I h) fun v s1 h1=>thn h1 fun itv s2 h2=>?_)
 obtain⟨it,fp,tn,J,H2,e,I2,T,st2,f2,q⟩:=h2
 subst e
 refine V1 ?_ (v9 _)
 have hD:H2 s2.heap.objs.size=none:=I2.hok.fresh (c8 _)
 have I3:=I2.lnew (ys:=[]) (its:=[]) (t':=s2.toks) .nil (v9 _)
 obtain⟨W,⟨m0,w0⟩,turn⟩:=q s2.heap.objs.size hD
 have fpl:∀ b∈fp,b<s2.heap.objs.size:=fun b hb=>by
  obtain⟨o,ho,_⟩:=T.obj 0 s2.heap st2 b hb
  exact d6 ho
 refine ag6 hcellN (by intro y hy;cases hy) (fun h1 hns1 hsb1=>?_) hkind
 dsimp only at hns1 hsb1 ⊢
 have e3:s2.heap.push { cls:=.type "list",dict:=none,data:=.seq ([]:List Value).toArray }=s2.heap.push { cls:=.type "list",data:=.seq ([]:List Value).toArray }:=rfl
 generalize hh3:s2.heap.push { cls:=.type "list",dict:=none,data:=.seq ([]:List Value).toArray }=h3 at *
 have I3':Inv X pins σ (upd H2 s2.heap.objs.size (.lst [])) { s2 with heap:=h3,toks:=s2.toks }:=I3
 have size3:h3.objs.size=s2.heap.objs.size+1:=by rw[<- hh3,G0]
 have f3:∀ b∈fp,S6 X pins (upd H2 s2.heap.objs.size (.lst [])) b:=fun b hb=>by
  obtain⟨f0,fr⟩:=f2 b hb
  exact⟨by rw[q8 (l6 (fpl b hb))];exact f0,fr⟩
 have up:∀ b u,h3.get? b=some u->h1.get? b=some u:=fun b u eb=>by
  rw[hsb1.2 b (l6 (d6 eb))]
  exact c5 _ eb
 have I4:Inv (F8 X scope cl N' { s2 with heap:=h3,toks:=s2.toks } (upd H2 s2.heap.objs.size (.lst [])) fp fun _ _=>False) [] (ai1 lk σ) (upd H2 s2.heap.objs.size (.lst [])) { s2 with heap:=h1,toks:=s2.toks+([]:List (Str × Value)).length }:=
  aG5 (s3:={ s2 with heap:=h3,toks:=s2.toks }) I3' f3 hkind hcl hfr hlk hns1 up fun b hb=>by show b<h3.objs.size;rw[size3];exact E1 (fpl b hb)
 have st4:tn 0 h1:=T.keep 0 s2.heap h1 st2 fun b hb o eb=>up b o (by rw[<- hh3];exact c5 _ eb)
 have hCs:h3.objs.size=(V3 scope cl h3.objs.size X.env).locals:=rfl
 have stat:∀ {H':Hp},(∀ b∈fp,H' b=none)->∀ b∈fp,S6 (F8 X scope cl N' { s2 with heap:=h3,toks:=s2.toks } (upd H2 s2.heap.objs.size (.lst [])) fp fun _ _=>False) [] H' b:=fun {H'} hn b hb=>by
  obtain⟨f0,f1,f2',f3',f4,f5⟩:=f3 b hb
  refine⟨hn b hb,?_,fun z=>?_,.inl hb,fun x c ex=>f4 x c (hcl.get ex),fun p hp=>nomatch hp⟩
  ·show b≠h3.objs.size
   rw[size3]
   exact l6 (E1 (fpl b hb))
  ·rcases d8.mp (I3'.stkSub b z) with q | q
   ·exact f1 q
   ·exact f2' q
 have fin:∀ (s':Shared) (σ':St) (H':Hp),Inv (F8 X scope cl N' { s2 with heap:=h3,toks:=s2.toks } (upd H2 s2.heap.objs.size (.lst [])) fp fun _ _=>False) [] σ' H' s'->Q (.ref s2.heap.objs.size) H' ->
   bG9 (x8 X.prog X.w) X.A X.xe use R (.ref s2.heap.objs.size) h3.objs.size (.ok .next) s':=fun s' σ' H' I' q'=>by
  obtain⟨m,hm,_⟩:=id I'.loc
  have I5:Inv X pins σ H' s':=I3'.call' (ch:=fp) I'.os I'.base I'.hok I'.bare fun b hb=>by
   obtain⟨f0,f1,f2',f3',f4,f5⟩:=f3 b hb
   exact⟨f3',f1,f4,f5⟩
  exact hend h3.objs.size s2.heap.objs.size s' H' I5 q' I'.free (L0 I3'.lt) I3'.sz (fun x c ex z=>by
   obtain⟨v',q2⟩:=I3'.cell x c ex
   exact absurd q2.lt (by rw[z];exact C7 _)) (fun p hp z=>absurd (d6 (I3'.pin p hp).1) (by rw[z];exact C7 _)) ⟨m,hm⟩
 have loop:∀ s5:Shared,s5={ s2 with heap:=h1,toks:=s2.toks+([]:List (Str × Value)).length } ->
   ar9 (x8 X.prog X.w) X.A (.compLoop (.ListComp elt [⟨tg,iter,ifs,0⟩] scope pos) 0 (.ref it) (.ref s2.heap.objs.size) (V3 scope cl h3.objs.size X.env)) (bG9 (x8 X.prog X.w) X.A X.xe use R (.ref s2.heap.objs.size) h3.objs.size) s5:=by
  rintro s5 rfl
  refine codeAny_loop rfl (fun n s'=>∃ i xs σ' H',Inv (F8 X scope cl N' { s2 with heap:=h3,toks:=s2.toks } (upd H2 s2.heap.objs.size (.lst [])) fp fun _ _=>False) [] σ' H' s'/\tn i s'.heap/\(∀ b∈fp,H' b=none)/\W i n xs σ' H')
   (fun n s6 hI=>?_) m0 ⟨0,[],ai1 lk σ,_,I4,st4,fun b hb=>(f3 b hb).1,w0⟩
  obtain⟨i,xs,σ6,H6,I6,st6,fr6,w6⟩:=hI
  show p9 _ X.A ((compTurn (.ListComp elt [⟨tg,iter,ifs,0⟩] scope pos) 0 (.ref it) (.ref s2.heap.objs.size) (V3 scope cl h3.objs.size X.env)).onRaise (fun x=>do noteFrame x (V3 scope cl h3.objs.size X.env);theTreesLotGoes x)) _ _ s6
  refine wpAny_noted ?_
  rw[compTurn_list]
  refine b7 (ag8 (b7 ?_))
  obtain⟨hD6,hw⟩:=turn i n xs σ6 H6 w6
  rcases hw with⟨stop,qn⟩ | ⟨go,hlen,step⟩
  ·refine thn (T.done (F8 X scope cl N' { s2 with heap:=h3,toks:=s2.toks } (upd H2 s2.heap.objs.size (.lst [])) fp fun _ _=>False) rfl rfl rfl hc i [] s6 σ6 H6 _ I6 (stat fr6) st6 stop) fun r s7 ⟨hr,I7⟩=>?_
   subst hr
   exact d4 (fin s7 σ6 H6 I7 qn)
  ·refine thn (T.item (F8 X scope cl N' { s2 with heap:=h3,toks:=s2.toks } (upd H2 s2.heap.objs.size (.lst [])) fp fun _ _=>False) rfl rfl rfl hc i [] s6 σ6 H6 _ I6 (stat fr6) st6 go) fun r s7 ⟨u,hr,h7⟩=>?_
   subst hr
   refine b7 (thn h7 fun _ s8 ⟨x,H8,I8,r8,y8,st8,fr8⟩=>?_)
   have I8':=I8.pinned (stat fr8) (T.obj _ _ st8)
   refine b7 (E3 (hg _ _ _ _ s8 σ6 H8 x u _ I8' r8 (step x H8 y8)) (fun _ s9 ⟨σ9,H9,I9,q9⟩=>?_) (fun _ _ z=>False.elim z))
   refine b7 (E3 (ht _ _ _ _ s9 σ9 H9 _ I9 q9) (fun ok s10 ⟨H10,I10,q10⟩=>?_) (fun _ _ z=>False.elim z))
   have bT4:∀ {σ':St} {H':Hp} {ys:List V} {s':Shared},Inv (F8 X scope cl N' { s2 with heap:=h3,toks:=s2.toks } (upd H2 s2.heap.objs.size (.lst [])) fp fun _ _=>False) ([]++ar1 fp s8.heap) σ' H' s'->(∃ m',m'<n/\W (i+1) m' ys σ' H') ->
     ∃ m',m'<n/\∃ i xs σ' H',Inv (F8 X scope cl N' { s2 with heap:=h3,toks:=s2.toks } (upd H2 s2.heap.objs.size (.lst [])) fp fun _ _=>False) [] σ' H' s'/\tn i s'.heap/\(∀ b∈fp,H' b=none)/\W i m' xs σ' H':=fun {σ' H' ys s'} I' ⟨m',hm,w'⟩=>by
    refine⟨m',hm,i+1,ys,σ',H',I'.unpinned,T.keep _ _ _ st8 fun b hb o eb=>(I'.pin (b,o) (m9 _ (m9 _ (U4 hb eb)))).1,fun b hb=>?_,w'⟩
    obtain⟨o,eb,_⟩:=T.obj _ _ st8 b hb
    exact(I'.pin (b,o) (m9 _ (m9 _ (U4 hb eb)))).2.1
   cases ok with
   | false =>
    have q10':∃ m',m'<n/\W (i+1) m' xs σ9 H10:=by simpa using q10
    exact d4 ⟨rfl,bT4 I10 q10'⟩
   | true =>
    rw[if_pos rfl]at q10
    refine b7 (b7 (E3 (he _ _ _ _ s10 σ9 H10 _ I10 q10) (fun y s11 ⟨v11,H11,I11,r11,hD11,q11⟩=>?_) (fun _ _ z=>False.elim z)))
    refine b7 (E3 (Y0 (X:=F8 X scope cl N' { s2 with heap:=h3,toks:=s2.toks } (upd H2 s2.heap.objs.size (.lst [])) fp fun _ _=>False) _ s11 σ9 H11 (.ref s2.heap.objs.size) [v11] (.ref s2.heap.objs.size) [y] (fun _ H'=>∃ m',m'<n/\W (i+1) m' (xs++[v11]) σ9 H') I11 rfl (.cons r11 .nil) ⟨s2.heap.objs.size,xs,v11,rfl,rfl,hD11,hlen,q11⟩) (fun _ s12 ⟨_,H12,I12,_,q12⟩=>?_) (fun _ _ z=>False.elim z))
    exact d4 (d4 ⟨rfl,bT4 I12 q12⟩)
 exact bP9 (loop _ rfl) (T.self X.A 0 _ _ _ st4 (loop _ rfl))
def ce8 (i:Nat)(t:TE):TS:=fun D σ H=>t σ H fun v H1=>D.nx (σ.set i (some v)) H1
theorem aP8 {y:Str}{py:Pos}{elt iter:Expr}{ifs:List Expr}{spos:Pos}{wi:TI}{g:TG}{tt:TT}
  (hN:X.N.Nodup)(hy:X.N[i]?=some y)(hyl:X.env.scope.names.lookup y=some .local)
  (hsw:swapsWith (.ListComp elt [⟨tg,iter,ifs,0⟩] scope pos) (some (.Name y py)) spos.line X.env=pure true)
  (hc:X.calm=true)(hi:PI X tg iter wi)(hclos:aU2 scope X.env=pure cl)(hkind:scope.kind=.function)
  (hnames:∀ y∈scope.names,y.2=.local->scope.names.lookup y.1=some .local)(hcl:aH8 X.env cl)(hfr:au5 scope.names cl=true)(hlk:bF0 X N' lk scope cl)
  (hg:∀ s3 H3 fp,PG (F8 X scope cl N' s3 H3 fp fun _ _=>False) tg g)(ht:∀ s3 H3 fp,PTs (F8 X scope cl N' s3 H3 fp fun _ _=>False) ifs tt)(he:∀ s3 H3 fp,PE (F8 X scope cl N' s3 H3 fp fun _ _=>False) elt te)
  (hs:∀ x,aq3 iter X.env x=pure x:=by intro _;rfl):PS X (.Assign [.Name y py] (.ListComp elt [⟨tg,iter,ifs,0⟩] scope pos) spos) (ce8 i (bu2 wi lk g tt te)):=by
 intro pins s σ H D I h
 rw[exec_Assign_Name_used _ _ _ _ hsw]
 refine b7 (ag8 (b7 ?_))
 show p9 _ X.A (do let _ <- comprehension (.ListComp elt [⟨tg,iter,ifs,0⟩] scope pos) scope X.env _ (newList []) false (eval iter X.env) (some (bT3 (.Name y py) X.env))) _ _ s
 refine b7 (thn (br8 (use:=some (bT3 (.Name y py) X.env)) (R:=fun _ s'=>SP X pins D .next s') hc hi hclos hkind hnames hcl hfr hlk hg ht he hs I h
  fun C Dd s' H' I' q' hC hCL hCs hCc hCp ⟨m,hm⟩=>?_) fun _ s' hq=>d4 (d4 hq))
 show p9 _ X.A (bT3 (.Name y py) X.env (.ref Dd)) _ _ s'
 refine wpAny_assign_Name (aJ8 (v:=.ref Dd) I' hN hy (.inl hyl) rfl (fun s2 I2 ⟨a,hsb,ha⟩=>?_) (.inr hyl))
 have hCa:C≠a:=by
  rcases ha with z | z
  ·rw[z];exact hCL
  ·exact(hCc y a z).symm
 refine⟨m,hm.sameBut hsb hCa,fun h' hs'=>?_⟩
 obtain⟨h0,g0,d0,t0,o0⟩:=s2
 exact⟨_,H',I2.turned (t':=t0) (it:=C) (fun b o hb eb=>(hs'.2 b hb).trans eb) hC hCL (.inr hCs) hCc hCp,q'⟩
end L2
namespace L2
open PySem PySem.Spec PyProof.Rows PySem.SeqAt
theorem bi9:∀ {bs:List Bool} {its:List Value},D3 (bs.map V.bl) its->its=bs.map Value.bool
 | [],_,.nil=>rfl
 | b::bs,_,.cons r t=>by rw[bi9 t,show _=Value.bool b from r];rfl
theorem aQ2 {a b:Expr}{tb:TE}(K:W.Frag)(hK:X.K=K)(ha:PE X a ta)(hb:PE X b tb)(hs:aC1 b):PE X (.Subscript a b pos) (tOp (bX4 K) ta tb):=by
 cases hK
 exact F6 F4 ha hb hs
theorem V6 {a b:Expr}{tb:TE}(K:W.Frag)(hK:X.K=K)(ha:PE X a ta)(hb:PE X b tb)(hs:aC1 b):PE X (.Subscript a b pos) (tOp (rIx K) ta tb):=by
 cases hK
 exact F6 bA8 ha hb hs
end L2
namespace L2
open PySem PySem.Spec PyProof.Rows
theorem bR8 {it:Expr}{w1 w2:TI}(h1:PI X tg it w1)(h2:PI X tg it w2):PI X tg it (fun σ H R=>w1 σ H R\/w2 σ H R):=
 fun pins s σ H R I h=>h.elim (h1 pins s σ H R I) (h2 pins s σ H R I)
theorem bs1 (hc:X.calm=true):ac3 X (.builtin "sum") (fun xs H Q=>∃ (p:Addr) (ns:List Int),xs=[.ref p]/\(SqL X.K H p (ns.map V.int)\/SqT X.K H p (ns.map V.int))/\Q (.int ns.sum) H) :=
 fun pins s σ H xs us Q I r ⟨p,ns,e,hq,q⟩=>hq.elim (fun h=>am7 hc pins s σ H xs us Q I r ⟨p,ns,e,h,q⟩) fun h=>bs0 hc pins s σ H xs us Q I r ⟨p,ns,e,h,q⟩
theorem aG7 {D:Addr}{J:It}{S:Hp->Prop}{g:TG}{tt:TT}{σ0:St}{H0:Hp}
  (hst:∀ i H,S H->ys.length=i->J.stop i H)(hgo:∀ i H,S H->i<ys.length->J.go i H)(hy:∀ i H x H'',S H->J.yld i H x H''->∃ (t:Addr) (v:V),H t=none/\x=.ref t/\ys[i]?=some v/\H''=upd H t (.tup [.int i,v]))
  (Pv:Nat->List V->St->Hp->Prop)(h0:Pv 0 [] σ0 H0)(hz:ys.length<=j8)(hl:∀ i xs σ H,i<=ys.length->Pv i xs σ H->S H/\H D=some (.lst xs)/\xs.length<=i)
  (hs:∀ i xs x t σ H (N:List V->St->Hp->Prop),(∀ xs' σ' H',Pv (i+1) xs' σ' H'->N xs' σ' H')->ys[i]?=some x->Pv i xs σ H->H t=none->g (.ref t) σ (upd H t (.tup [.int i,x])) fun σ2 H2=>tt σ2 H2 fun b H3=>if b=true then te σ2 H3 fun v H4=>H4 D=some (.lst xs)/\N (xs++[v]) σ2 (upd H4 D (.lst (xs++[v]))) else N xs σ2 H3)
  (hd:∀ xs σ H,Pv ys.length xs σ H->Qd H) :
  ∃ W:Nat->Nat->List V->St->Hp->Prop,(∃ m,W 0 m [] σ0 H0)/\∀ i m xs σ' H',W i m xs σ' H'->H' D=some (.lst xs)/\((J.stop i H'/\Qd H')\/(J.go i H'/\xs.length<j8/\∀ x H'',J.yld i H' x H''->g x σ' H'' fun σ2 H2=>tt σ2 H2 fun b H3 =>
   if b=true then te σ2 H3 fun v H4=>H4 D=some (.lst xs)/\∃ m',m'<m/\W (i+1) m' (xs++[v]) σ2 (upd H4 D (.lst (xs++[v]))) else ∃ m',m'<m/\W (i+1) m' xs σ2 H3)):=by
 refine⟨fun i m xs σ H=>m=ys.length - i/\i<=ys.length/\Pv i xs σ H,⟨ys.length,by simp,v9 _,h0⟩,?_⟩
 rintro i m xs σ H ⟨rfl,hi,p⟩
 obtain⟨q,hD,hx⟩:=hl i xs σ H hi p
 refine⟨hD,?_⟩
 by_cases hlt:i<ys.length
 ·refine .inr ⟨hgo i H q hlt,by omega,fun x H'' y=>?_⟩
  obtain⟨t,v,ht,e,hv,e'⟩:=hy i H x H'' q y
  subst e e'
  exact hs i xs v t σ _ (fun zs σ' H'=>∃ m',m'<ys.length - i/\m'=ys.length - (i+1)/\i+1<=ys.length/\Pv (i+1) zs σ' H') (fun zs σ' H' r=>⟨_,by omega,rfl,hlt,r⟩) hv p ht
 ·have e:i=ys.length:=by omega
  subst e
  exact .inl ⟨hst _ H q rfl,hd xs σ H p⟩
theorem ca5 {K:W.Frag}(i:Nat)(H:Hp)(q:SqL K H a ys)(h:ys.length=i):(Itn K a).stop i H:=⟨ys,q,ak4 h⟩
theorem ca6 {K:W.Frag}(i:Nat)(H:Hp)(q:SqL K H a ys)(h:i<ys.length):(Itn K a).go i H:=⟨ys,ys[i],q,by simp[h]⟩
theorem ci1 {K:W.Frag}(i:Nat)(H:Hp)(x:V)(H'':Hp)(q:SqL K H a ys)(y:(Itn K a).yld i H x H''):∃ (t:Addr) (v:V),H t=none/\x=.ref t/\ys[i]?=some v/\H''=upd H t (.tup [.int i,v]):=by
 obtain⟨t,v,ht,e,hv,e'⟩:=y
 exact⟨t,v,ht,e,hv ys q,e'⟩
theorem ca7 {K:W.Frag}(i:Nat)(H:Hp)(q:SqT K H a ys)(h:ys.length=i):(Itm K a).stop i H:=⟨ys,q,h⟩
theorem ca8 {K:W.Frag}(i:Nat)(H:Hp)(q:SqT K H a ys)(h:i<ys.length):(Itm K a).go i H:=⟨ys,ys[i],q,by simp[h]⟩
theorem ci2 {K:W.Frag}(i:Nat)(H:Hp)(x:V)(H'':Hp)(q:SqT K H a ys)(y:(Itm K a).yld i H x H''):∃ (t:Addr) (v:V),H t=none/\x=.ref t/\ys[i]?=some v/\H''=upd H t (.tup [.int i,v]):=by
 obtain⟨t,v,ht,e,hv,e'⟩:=y
 exact⟨t,v,ht,e,hv ys q,e'⟩
theorem aG6 {K:W.Frag} {g:TG} {tt:TT} {Qd:Addr->Hp->Prop} {σ0:St} (hS:SqL K H a ys\/SqT K H a ys) (hz:ys.length<=j8)
  (Pv:Addr->Nat->List V->St->Hp->Prop) (h0:∀ D,H D=none->Pv D 0 [] σ0 (upd H D (.lst []))) (hl:∀ D i xs σ H',H D=none->i<=ys.length->Pv D i xs σ H'->A3 H H'/\H' D=some (.lst xs)/\xs.length<=i)
  (hs:∀ D i xs x t σ H' (N:List V->St->Hp->Prop),H D=none->(∀ xs' σ' H'',Pv D (i+1) xs' σ' H''->N xs' σ' H'')->ys[i]?=some x->Pv D i xs σ H'->H' t=none->g (.ref t) σ (upd H' t (.tup [.int i,x])) fun σ2 H2=>tt σ2 H2 fun b H3=>if b=true then te σ2 H3 fun v H4=>H4 D=some (.lst xs)/\N (xs++[v]) σ2 (upd H4 D (.lst (xs++[v]))) else N xs σ2 H3)
  (hd:∀ D xs σ H',H D=none->Pv D ys.length xs σ H'->Qd D H') :
  (∃ b, [V.ref a] = [V.ref b] /\ (∃ xs, SqL K H b xs) /\ ∀ D, H D = none -> ∃ W : Nat -> Nat -> List V -> St -> Hp -> Prop, (∃ m, W 0 m [] σ0 (upd H D (.lst []))) /\ ∀ i m xs σ' H', W i m xs σ' H' -> H' D = some (.lst xs) /\ (((Itn K b).stop i H' /\ Qd D H') \/ ((Itn K b).go i H' /\ xs.length < j8 /\ ∀ x H'', (Itn K b).yld i H' x H'' -> g x σ' H'' fun σ2 H2 => tt σ2 H2 fun b H3 =>
   if b=true then te σ2 H3 fun v H4=>H4 D=some (.lst xs)/\∃ m',m'<m/\W (i+1) m' (xs++[v]) σ2 (upd H4 D (.lst (xs++[v]))) else ∃ m',m'<m/\W (i+1) m' xs σ2 H3))) \/
  (∃ b, [V.ref a] = [V.ref b] /\ (∃ xs, SqT K H b xs) /\ ∀ D, H D = none -> ∃ W : Nat -> Nat -> List V -> St -> Hp -> Prop, (∃ m, W 0 m [] σ0 (upd H D (.lst []))) /\ ∀ i m xs σ' H', W i m xs σ' H' -> H' D = some (.lst xs) /\ (((Itm K b).stop i H' /\ Qd D H') \/ ((Itm K b).go i H' /\ xs.length < j8 /\ ∀ x H'', (Itm K b).yld i H' x H'' -> g x σ' H'' fun σ2 H2 => tt σ2 H2 fun b H3 =>
   if b=true then te σ2 H3 fun v H4=>H4 D=some (.lst xs)/\∃ m',m'<m/\W (i+1) m' (xs++[v]) σ2 (upd H4 D (.lst (xs++[v]))) else ∃ m',m'<m/\W (i+1) m' xs σ2 H3))):=by
 rcases hS with hS | hS
 ·exact .inl ⟨a,rfl,⟨_,hS⟩,fun D hD=>aG7 (S:=fun H'=>SqL K H' a ys) ca5 ca6 ci1 (Pv D) (h0 D hD) hz (fun i xs σ H' hi p=>let ⟨s,g,l⟩:=hl D i xs σ H' hD hi p;⟨s.seq hS,g,l⟩) (fun i xs x t σ H' N kN hx p ht=>hs D i xs x t σ H' N hD kN hx p ht) (fun xs σ H' p=>hd D xs σ H' hD p)⟩
 ·exact .inr ⟨a,rfl,⟨_,hS⟩,fun D hD=>aG7 (S:=fun H'=>SqT K H' a ys) ca7 ca8 ci2 (Pv D) (h0 D hD) hz (fun i xs σ H' hi p=>let ⟨s,g,l⟩:=hl D i xs σ H' hD hi p;⟨s.seqT hS,g,l⟩) (fun i xs x t σ H' N kN hx p ht=>hs D i xs x t σ H' N hD kN hx p ht) (fun xs σ H' p=>hd D xs σ H' hD p)⟩
theorem aA9 (K:W.Frag)(hK:X.K=K){k:Nat}{t:TGs}(hc:X.calm=true)(h:PGs X es t)
  (hn:(ai6 es X.env).length=n:=by rfl)(hst:(ai6 es X.env).findIdx? (·.1)=none:=by rfl):PG X (.Tuple es k pos) (cj0 K n t):=by
 subst hK
 exact aQ1 hc h hn hst
theorem bs2 (K:W.Frag)(hK:X.K=K)(hc:X.calm=true):ac3 X (.builtin "sum") (fun xs H Q=>∃ (p:Addr) (ns:List Int),xs=[.ref p]/\SqL K H p (ns.map V.int)/\Q (.int ns.sum) H):=by subst hK;exact am7 hc
end L2
namespace L2
open PySem PySem.Spec PyProof.Rows PySem.SeqAt
theorem bs4 {bs:List Bool}(h:(bs.map Value.bool)[i]?=some v):v=.bool (bs.getD i false):=by
 rw[p8]at h
 cases e:bs[i]? with
 | none=>rw[e]at h;cases h
 | some b=>rw[e]at h;cases h;rw[i8,e];rfl
theorem all_range (bs:List Bool):((u7 bs.length).all fun i=>bs.getD i false)=bs.all id:=by
 rw[ag3,J2,J2]
 constructor
 ·intro h b hb
  obtain⟨i,hi,rfl⟩:=bG4.mp hb
  have:=h i (B9.mpr hi)
  rw[i8,k9 hi]at this
  exact this
 ·intro h i hi
  have hi:=B9.mp hi
  rw[i8,k9 hi]
  exact h _ (aT2 hi)
theorem boot_all:L5 "all"=some (.builtin "all"):=by decide +kernel
theorem bs3 (hc:X.calm=true):ac3 X (.builtin "all") (fun xs H Q=>∃ (l:Addr) (bs:List Bool),xs=[.ref l]/\H l=some (.lst (bs.map V.bl))/\Q (.bl (bs.all id)) H):=by
 intro pins s σ H xs us Q I r h
 obtain⟨l,bs,rfl,hH,q⟩:=h
 obtain⟨u,rfl,rx⟩:=vals1 r
 cases rx
 obtain⟨z,its,n,r,hl,e⟩:=I.lstM hH
 obtain rfl:=bi9 r
 have hl1:s.heap.IsList l (bs.map Value.bool).toArray:=⟨_,e,rfl,_,rfl⟩
 refine call_all_walkS (Q8 hl1 ?_)
 have hlt:l<s.heap.objs.size:=d6 e
 have hh:X.A.in1.handled=none:=by simp[I.ok.hd hc]
 refine⟨_,_,_,_,_,_,_,fun i=>bs.getD i false,rfl,(Walks.list hh _ l (l6 hlt) (bs.map Value.bool).toArray).toS,⟨⟨_,l5 _ rfl,rfl,rfl⟩,hl1.push _⟩,?_,fun s' hm=>?_⟩
 ·intro i v s Q E hv hq
  have:=bs4 (bs:=bs) (i:=i) (v:=v) (by simpa using hv)
  subst this
  exact d4 hq
 ·refine⟨.bl (bs.all id),H,?_,?_,q⟩
  ·rw[Moved.eq_with hm]
   exact I.kept (t':=s'.toks) fun b o eo=>hm.heap b o (fun hb=>absurd (d6 eo) (by rw[B5.mp hb];exact C7 _)) (c5 _ eo)
  ·show _=Value.bool (bs.all id)
   rw[<- all_range]
   simp
end L2
namespace L2
open PySem PySem.Spec PyProof.Rows
def af3 (H:Hp)(l:Addr->Option Obj):Hp:=fun b=>match l b with
 | some o=>some (O2 b o)
 | none=>H b
def Z7 (H:Hp)(l:Addr->Option Obj):Hp:=fun b=>match l b with
 | some _=>none
 | none=>H b
section
variable {H1 H2:Hp} {h1 h2:Heap} {fs:List Addr}
theorem af2 {b:Addr}{o:Obj}(e:l b=some o):af3 H l b=some (O2 b o):=by unfold af3;rw[e]
theorem J9 {b:Addr}(e:l b=none):af3 H l b=H b:=by unfold af3;rw[e]
theorem af7 {b:Addr}{o:Obj}(e:l b=some o):Z7 H l b=none:=by unfold Z7;rw[e]
theorem G1 {b:Addr}(e:l b=none):Z7 H l b=H b:=by unfold Z7;rw[e]
theorem bO7 {b:Addr}{o:Obj}(e:h.get? b=some o):W1 P w H h b (O2 b o):=⟨e,⟨o,e⟩,fun h1 h2 q z=>z _ q⟩
theorem HOk.trkd (x:HOk P w H h)(hl:∀ b o,l b=some o->h.get? b=some o/\H b=none):HOk P w (af3 H l) h:=fun a o e=>by
 cases hb:l a with
 | some q=>rw[af2 hb]at e;cases e;exact bO7 (hl a q hb).1
 | none =>
  rw[J9 hb]at e
  have aux:∀ b u,H b=some u->af3 H l b=some u:=fun b u q=>by
   cases hb':l b with
   | some z=>rw[(hl b z hb').2]at q;cases q
   | none=>rw[J9 hb'];exact q
  exact(x a o e).stay (fun _ _ _ q=>q) (fun b q=>aux b _ q) (fun b xs q=>aux b _ q)
theorem ar5 {b:Addr}{u:HO}(hl:∀ b o,l b=some o->H b=some (O2 b o))(q:H b=some u)(hu:∀ o,u≠O2 b o):l b=none:=by
 cases hb:l b with
 | some z=>rw[hl b z hb]at q;cases q;exact absurd rfl (hu z)
 | none=>rfl
theorem HOk.rmv (x:HOk P w H h)(hl:∀ b o,l b=some o->H b=some (O2 b o)):HOk P w (Z7 H l) h:=fun a o e=>by
 cases hb:l a with
 | some q=>rw[af7 hb]at e;cases e
 | none =>
  rw[G1 hb]at e
  refine(x a o e).stay (fun _ _ _ q=>q) (fun b q=>?_) (fun b xs q=>?_)
  ·rw[G1 (ar5 hl q (fun o z=>by unfold O2 at z;cases z))];exact q
  ·rw[G1 (ar5 hl q (fun o z=>by unfold O2 at z;cases z))];exact q
theorem Un.inner (un:Un fs [] (Z7 H l) H1 h h1)(hl:∀ b o,l b=some o->H b=some (O2 b o)):Un fs [] H (af3 H1 l) h h1:=by
 have nn:∀ b,H b=none->l b=none:=fun b n=>by
  cases hb:l b with
  | some z=>rw[hl b z hb]at n;cases n
  | none=>rfl
 refine⟨fun b o e n hf hx=>un.keep b o e (by rw[G1 (nn b n)];exact n) hf hx,fun b o e n hf hx=>un.slot b o e (by rw[G1 (nn b n)];exact n) hf hx,fun b o e n hx=>?_,un.there,fun b xs q=>?_,fun b o u q=>?_,fun b ps q=>?_⟩
 ·rw[J9 (nn b n)]
  exact un.free b o e (by rw[G1 (nn b n)];exact n) hx
 ·have z:=ar5 hl q (fun o z=>by unfold O2 at z;cases z)
  rw[J9 z]
  exact un.tups b xs (by rw[G1 z];exact q)
 ·have z:=ar5 hl q (fun o z=>by unfold O2 at z;cases z)
  rw[J9 z]
  exact un.frzs b o u (by rw[G1 z];exact q)
 ·have z:=ar5 hl q (fun o z=>by unfold O2 at z;cases z)
  rw[J9 z]
  exact un.tbls b ps (by rw[G1 z];exact q)
theorem Un.outer (un:Un fs [] (af3 H l) H2 h h2)(hl:∀ b o,l b=some o->h.get? b=some o/\H b=none)(h2l:∀ b o,l b=some o->H2 b=some (O2 b o))(ok2:HOk P w H2 h2):Un fs [] H (Z7 H2 l) h h2:=by
 have nn:∀ b u,H b=some u->l b=none:=fun b u q=>by
  cases hb:l b with
  | some z=>rw[(hl b z hb).2]at q;cases q
  | none=>rfl
 have at2:∀ b o,l b=some o->h2.get? b=some o:=fun b o e=>(ok2 b _ (h2l b o e)).1
 refine⟨fun b o e n hf hx=>?_,fun b o e n hf hx=>?_,fun b o e n hx=>?_,un.there,fun b xs q=>?_,fun b o u q=>?_,fun b ps q=>?_⟩
 ·cases hb:l b with
  | some z =>
   rw[(hl b z hb).1]at e
   cases e
   exact at2 b _ hb
  | none=>exact un.keep b o e (by rw[J9 hb];exact n) hf hx
 ·cases hb:l b with
  | some z =>
   rw[(hl b z hb).1]at e
   cases e
   exact⟨_,at2 b _ hb⟩
  | none=>exact un.slot b o e (by rw[J9 hb];exact n) hf hx
 ·cases hb:l b with
  | some z=>exact af7 hb
  | none =>
   rw[G1 hb]
   exact un.free b o e (by rw[J9 hb];exact n) hx
 ·rw[G1 (nn b _ q)]
  exact un.tups b xs (by rw[J9 (nn b _ q)];exact q)
 ·rw[G1 (nn b _ q)]
  exact un.frzs b o u (by rw[J9 (nn b _ q)];exact q)
 ·rw[G1 (nn b _ q)]
  exact un.tbls b ps (by rw[J9 (nn b _ q)];exact q)
end
def bV7 (sp:Sp)(js:List (Nat × Addr))(t:TA):TE:=fun σ H Q=>t σ H fun vs H1=>∀ l:Addr->Option Obj,(∀ b o,l b=some o->H1 b=none)->(∀ p∈js,∀ v,σ[p.1]?=some (some v)->∃ o u,l p.2=some o/\o.data=.cell (some u)/\RelV v u) ->
 sp vs (af3 H1 l) (fun r H2=>(∀ b o,l b=some o->H2 b=some (O2 b o))/\Q r (Z7 H2 l)) E0
section
variable {k:Nat} {sp:Sp} {p:Pos} {t:TA}
theorem aY0 {js:List (Nat × Addr)}(F:x6 X.prog X.w X.K X.mg X.base CX0 k f fd ps sp)(hr:Z9 k X.A)(hg:Gl X x)(hm:X.mg x=some (.ref f))(hk:U9 X.K (.ref f)=true)(hb:Binds X.K fd ps [])
  (hj:∀ q∈js,X.s₀.heap.objs.size<=q.2/\∃ y,X.N[q.1]?=some y/\X.env.scope.names.lookup y=some .cell/\X.env.cells.lookup y=some q.2)
  (ha:PA X (e::es) t)(hdb:(x == ("__debug__":Str))=false:=by decide)(he:u4 (e::es) X.env=(false,eval e X.env)::u4 es X.env:=by rfl)(hpl:(N6 pos (u4 es X.env)).any (·.1)=false:=by rfl) :
  PE X (.Call (.Name x p) (e::es) [] pos) (bV7 sp js t):=by
 intro pins s σ H Q I h
 refine J3 (at8 I hg hm ?_ hdb)
 refine PySem.W.callWith_K (h₀:=X.base) I.ok.mod.kin hk (thn (ha pos pins s σ H _ I h) fun us s1 ⟨vs,H1,I1,r,q⟩=>⟨I1.kIn,?_⟩) he hpl
 obtain⟨l,hl⟩:∃ l:Addr->Option Obj,l=fun b=>if b∈js.map (·.2) then s1.heap.get? b else none:=⟨_,rfl⟩
 have l1:∀ b o,l b=some o->s1.heap.get? b=some o/\b∈js.map (·.2):=fun b o e=>by
  rw[hl]at e
  by_cases hb:b∈js.map (·.2)
  ·have e':(if b∈js.map (·.2) then s1.heap.get? b else none)=some o:=e
   rw[if_pos hb]at e'
   exact⟨e',hb⟩
  ·have e':(if b∈js.map (·.2) then s1.heap.get? b else none)=some o:=e
   rw[if_neg hb]at e'
   cases e'
 have l2:∀ b o,l b=some o->s1.heap.get? b=some o/\H1 b=none:=fun b o e=>by
  obtain⟨e1,e2⟩:=l1 b o e
  obtain⟨q,hq,rfl⟩:=u5.mp e2
  obtain⟨_,y,_,_,hc⟩:=hj q hq
  exact⟨e1,I1.freeC y _ hc⟩
 have l3:∀ q∈js,∀ v,σ[q.1]?=some (some v)->∃ o u,l q.2=some o/\o.data=.cell (some u)/\RelV v u:=fun q hq v hv=>by
  obtain⟨_,y,hN,hs,hc⟩:=hj q hq
  obtain⟨m,hn,lo⟩:=I1.loc
  obtain⟨u,ru,lk⟩:=lo q.1 y v hN hv (.inr (.inl hs))
  rcases lk with⟨z,_⟩ | ⟨_,c,hc',o,ho,hd⟩
  ·have z':X.env.scope.names.lookup y=some .local:=z
   rw[hs]at z'
   cases z'
  ·rw[hc]at hc'
   cases hc'
   refine⟨o,u,?_,hd,ru⟩
   rw[hl]
   show (if q.2∈js.map (·.2) then s1.heap.get? q.2 else none)=some o
   rw[if_pos (u5.mpr ⟨q,hq,rfl⟩)]
   exact ho
 have q':=q l (fun b o e=>(l2 b o e).2) l3
 have nofr:∀ q∈js,q.2∉frs X.stack:=fun q hq z=>by
  obtain⟨hge,y,_,_,hc⟩:=hj q hq
  have nf:q.2∉X.fs:=fun hb=>by
   obtain⟨_,o,ho,_⟩:=I1.ok.funs.mem hb
   exact absurd (p7 (d6 ho) hge) (C7 _)
  rcases I1.ok.stk with h1 | ⟨h1,h2⟩
  ·rw[h1]at z
   exact nf z
  ·rw[h1]at z
   unfold frs at z
   rw[W6,h2]at z
   rcases d8.mp z with z | z
   ·exact I1.cne y _ hc z
   ·exact nf z
 have e0:=I1.env0
 have e1:bF2 X.prog X.w X.K X.mg X.base X.A X.stack s1 (af3 H1 l):=by
  refine⟨e0.frames,e0.mod,fun b o e=>⟨(e0.bs b o e).1,?_⟩,e0.bsz,e0.funs,fun b hb=>?_,e0.hok.trkd l2,e0.bare⟩
  ·cases hb:l b with
   | none=>rw[J9 hb];exact(e0.bs b o e).2
   | some z =>
    obtain⟨q,hq,rfl⟩:=u5.mp (l1 b z hb).2
    have:=(hj q hq).1
    exact absurd (p7 (d6 e) (A8 I1.ok.bsz this)) (C7 _)
  ·cases hb':l b with
   | none=>rw[J9 hb'];exact e0.frf b hb
   | some z =>
    obtain⟨q,hq,rfl⟩:=u5.mp (l1 b z hb').2
    exact absurd hb (nofr q hq)
 have hlen:us.length=ps.length:=by rw[<- r.length];exact F.len _ _ _ _ q'
 have hbind:=hb s1 us I1.kIn (by rw[D9];exact hlen)
 rw[D9]at hbind
 refine aU0 (Z5 (F.run X.A X.stack s1 (af3 H1 l) ⟨us,[]⟩ us vs _ E0 hr e1 hbind r q') fun r s' hq=>?_)
 cases r with
 | error e=>exact False.elim hq
 | ok fl =>
  cases fl with
  | ret u =>
   obtain⟨v,H',os,bare,un,hok,rv,kept,qq⟩:=hq
   exact I1.after ⟨v,Z7 H' l,os,bare,un.outer l2 kept hok,hok.rmv kept,rv,qq⟩
  | next=>exact False.elim hq
  | brk=>exact False.elim hq
  | cont=>exact False.elim hq
end
def bS1 (P:Program)(w:World)(K:W.Frag)(mg:Str->Option Value)(base:Heap)(A:Around)(outer:List Env)(qual:Str)(scope:Scope)(cl:List (Str × Addr))(N':List Str)(f:Addr)(cv:Value)(s:Shared)(H:Hp):Cx where
 prog:=P
 w:=w
 K:=K
 mg:=mg
 base:=base
 A:=A.deeper (ar6 qual scope cl f cv s)
 N:=N'
 s₀:=s
 H₀:=H
 env:=ar6 qual scope cl f cv s
 outer:=outer
 stack:=List.cons (ar6 qual scope cl f cv s) outer
 ex:=[]
 fn:=fun _=>false
 calm:=true
 pn:=[]
 xe:=fun _ _=>False
def cf9 (f c':Addr)(qual:Str)(ob:Obj)(l:Addr->Option Obj)(cvs:St)(te:TE):Sp:=fun vs H Q _=>∃ a,vs=[a]/\H f=some (O2 f ob)/\H c'=some (ap9 c' qual)/\(∀ b o,l b=some o->H b=some (O2 b o)) /\
 te (some a::cvs) (Z7 H l) fun v' H'=>(∀ b o,l b=some o->H' b=none)->Q v' (af3 H' l)
theorem bz7 {K:W.Frag}{mg:Str->Option Value}{base:Heap}{k:Nat}{p:Str}{body:Expr}{c':Addr}{pm ctv:Value}{cvs:St}
  (hkind:scope.kind=.function)(hco:scope.isCoroutine=false)(hgen:scope.isGenerator=false)(hfr:au5 scope.names cl=true)(hp:scope.names.lookup p=some .local)
  (hinj:∀ x y c,cl.lookup x=some c->cl.lookup y=some c->x=y)(hcl:∀ x c,cl.lookup x=some c->∃ o v,l c=some o/\o.data=.cell v)(hN:cvs.length=N'.length)
  (hv:∀ (i:Nat) (x:Str) (v:V),N'[i]?=some x->cvs[i]?=some (some v)->scope.names.lookup x=some .free/\∃ c o u,cl.lookup x=some c/\l c=some o/\o.data=.cell (some u)/\RelV v u)
  (he:∀ (A:Around) (outer:List Env) (s:Shared) (H:Hp),Z9 k (A.deeper (ar6 qual scope cl f (.ref c') s))->PE (bS1 P w K mg base A outer qual scope cl (p::N') f (.ref c') s H) body te) :
  x6 P w K mg base CX0 (k+1) f (PySem.W.kla_fn "<lambda>" qual params body scope cl pm (.ref c') ctv) [p] (cf9 f c' qual (PySem.W.kla_obj "<lambda>" qual params body scope cl pm c' ctv) l cvs te):=by
 refine⟨fun vs H Q E ⟨a,e,_⟩=>by rw[e];rfl,fun A outer s H args us vs Q E hr e0 hb r hsp=>?_⟩
 obtain⟨a,rfl,hf,hc,hl,ht⟩:=hsp
 obtain⟨u,rfl,ru⟩:=vals1 r
 have hmem:∀ y∈scope.names,y.2≠.cell/\(y.2=.free->(cl.lookup y.1).isSome=true):=fun y hy=>by
  unfold au5 at hfr
  rw[J2]at hfr
  have:=hfr y hy
  rw[B4]at this
  refine⟨by simpa using this.1,fun e=>?_⟩
  have h2:=this.2
  rw[e]at h2
  simpa using h2
 have at0:∀ b o,l b=some o->s.heap.get? b=some o:=fun b o e=>(e0.hok b _ (hl b o e)).1
 have nfr:∀ b o,l b=some o->b∉frs outer:=fun b o e z=>by
  have:=e0.frf b z
  rw[hl b o e]at this
  cases this
 have lim:s.heap.NoLimit:=e0.mod.nolimit.keeps fun b o e=>(e0.bs b o e).1
 refine PySem.W.kla_callFunE hr.depth (e0.hok f _ hf).1 rfl hco hgen rfl (e0.hok c' _ hc).1 (hb _ _ _ _ ?_)
 refine ag6 (fun y hy=>(hmem y hy).1) (fun y hy=>by rw[B5.mp hy];exact hp) (fun h1 hns hsb=>?_) hkind
 have hk:∀ b o,s.heap.get? b=some o->h1.get? b=some o:=fun b o e=>hsb.extBut b o (l6 (d6 e)) (c5 _ e)
 refine⟨lim.keeps hk,?_⟩
 show ar9 _ _ (.expr body (PySem.W.envX qual scope s.heap.objs.size f (.ref c') cl)) _ _
 have noE:∀ b:Addr,b∉([]:List Addr):=fun b z=>nomatch z
 have rn:∀ b,H b=none->Z7 H l b=none:=fun b n=>by
  cases hb:l b with
  | some z=>exact af7 hb
  | none=>rw[G1 hb];exact n
 have hC:Z7 H l s.heap.objs.size=none:=rn _ (e0.hok.fresh (c8 _))
 have I:Inv (bS1 P w K mg base A outer qual scope cl (p::N') f (.ref c') s (Z7 H l)) [] (some a::cvs) (Z7 H l) { s with heap:=h1,toks:=s.toks+[(p,u)].length }:=by
  refine⟨⟨e0.mod,hkind,rfl,rfl,c8 _,hinj,fun x hx=>?_,(fun x c e=>by cases e),fun _=>hr.hd,Around.frames_deeper e0.frames,.inr ⟨rfl,rfl⟩,fun b z=>absurd z (noE b),fun b o e=>⟨(e0.bs b o e).1,rn b (e0.bs b o e).2⟩,e0.bsz,fun b _ _=>noE b,fun b z=>absurd z (noE b),e0.funs,fun b hb=>rn b (e0.frf b hb)⟩,
   rfl,e0.bare,Un.kept hk,⟨_,hns,fun i x v e1 e2 e3=>?_⟩,fun x c e=>?_,hC,fun x c e=>?_,(fun q hq=>nomatch hq),(e0.hok.rmv hl).kept hk,?_⟩
  ·have hx':scope.names.lookup x=some .cell\/scope.names.lookup x=some .free:=hx
   rcases hx' with h | h
   ·exact absurd rfl (hmem _ (PySem.mem_of_lookup h)).1
   ·exact o7.mp ((hmem _ (PySem.mem_of_lookup h)).2 rfl)
  ·cases i with
   | zero =>
    have e1':p=x:=by simpa using (show (p::N')[0]?=some x from e1)
    have e2':a=v:=by simpa using (show (some a::cvs)[0]?=some (some v) from e2)
    subst e1' e2'
    refine⟨u,ru,.inl ⟨hp,?_⟩⟩
    show [(p,u)].reverse.lookup p=some u
    simp[C8]
   | succ i =>
    have e1':N'[i]?=some x:=by simpa using (show (p::N')[i+1]?=some x from e1)
    have e2':cvs[i]?=some (some v):=by simpa using (show (some a::cvs)[i+1]?=some (some v) from e2)
    obtain⟨hs,c,o,u',hc1,hc2,hd,rv⟩:=hv i x v e1' e2'
    exact⟨u',rv,.inr ⟨.inr hs,c,hc1,o,hk c o (at0 c o hc2),hd⟩⟩
  ·obtain⟨o,v,h1',h2'⟩:=hcl x c e
   exact⟨v,o,hk c o (at0 c o h1'),h2'⟩
  ·obtain⟨o,v,h1',h2'⟩:=hcl x c e
   exact af7 h1'
  ·show (some a::cvs).length=(p::N').length
   rw[o4,o4,hN]
 refine PySem.W.kla_codeExpr (E3 (he A outer s (Z7 H l) (hr.deeper _) [] _ _ (Z7 H l) _ I ht) (fun u' s' hq=>?_) fun _ _ z=>False.elim z)
 obtain⟨v',H',J,r',q⟩:=hq
 have un:Un (frs outer) [] (Z7 H l) H' s.heap s'.heap:=J.base
 have fr:∀ b o,l b=some o->H' b=none:=fun b o e=>un.free b o (at0 b o e) (af7 e) (noE b)
 exact⟨v',af3 H' l,J.os,J.bare,un.inner hl,J.hok.trkd fun b o e=>⟨un.keep b o (at0 b o e) (af7 e) (nfr b o e) (noE b),fr b o e⟩,r',q fr⟩
def bV6 (P:Program)(w:World)(K:W.Frag)(mg:Str->Option Value)(base:Heap)(k i:Nat)(t:TA):TE:=fun σ H Q=>∃ (f:Addr) (ob:Obj) (fd:FuncData),σ[i]?=some (some (.ref f))/\H f=some (O2 f ob)/\ob.data=.func fd/\t σ H fun vs H1=>∃ (ps:List Str) (sp:Sp),H1 f=some (O2 f ob) /\
 x6 P w K mg base CX0 k f fd ps sp/\Binds K fd ps []/\sp vs H1 Q E0
theorem by2 {k:Nat}{p:Pos}{t:TA}(hr:Z9 k X.A)(hN:X.N[i]?=some x)(hv:Vis X.env.scope x)(ha:PA X (e::es) t)(hd:(x == ("__debug__":Str))=false:=by decide)(hcd:(x == ("__classdict__":Str))=false:=by decide)
  (he:u4 (e::es) X.env=(false,eval e X.env)::u4 es X.env:=by rfl)(hpl:(N6 pos (u4 es X.env)).any (·.1)=false:=by rfl) :
  PE X (.Call (.Name x p) (e::es) [] pos) (bV6 X.prog X.w X.K X.mg X.base k i t):=by
 intro pins s σ H Q I h
 obtain⟨f,ob,fd,hσ,hf,hfd,h⟩:=h
 refine J3 (E3 (bx9 hN hv hd hcd pins s σ H (fun v H'=>v=.ref f/\H'=H) I ⟨_,hσ,rfl,rfl⟩) (fun u s0 hq=>?_) fun _ _ z=>z)
 obtain⟨v,H',I0,rv,rfl,rfl⟩:=hq
 cases rv
 have hfo:=(I0.hok f _ hf).1
 obtain⟨oc,od,odt,osl⟩:=ob
 have kin:∀ {hh:Heap},hh.get? f=some ⟨oc,od,odt,osl⟩->PySem.W.Frag.In [(f,⟨oc,od,odt,osl⟩)] hh:=fun {hh} e a o q=>by
  by_cases z:a=f
  ·subst z
   have:(some ⟨oc,od,odt,osl⟩:Option Obj)=some o:=by simpa [C8] using q
   rw[<- this];exact e
  ·have:(none:Option Obj)=some o:=by
    have zz:(a == f)=false:=by simpa using z
    simpa [C8,zz] using q
   cases this
 have hfd':odt=.func fd:=hfd
 subst hfd'
 refine PySem.W.callWith_K (K:=[(f,⟨oc,od,.func fd,osl⟩)]) (h₀:=s0.heap) (kin hfo) (by unfold U9;simp[C8]) (thn (ha pos pins s0 σ _ _ I0 h) fun us s1 ⟨vs,H1,I1,r,ps,sp,hf1,F,hb,q⟩=>⟨kin (I1.hok f _ hf1).1,?_⟩) he hpl
 have q':sp (vs++[]) H1 Q E0:=by rw[D9];exact q
 exact bx3 F hr hb .nil K6 I1 r q'
end L2
namespace Grf
def S:Nat->(Nat->Int)->Int
 | 0,_=>0
 | n+1,f=>S n f+f n
theorem u6 {f g:Nat->Int}:∀ {n:Nat},(∀ i,i<n->f i=g i)->S n f=S n g
 | 0,_=>rfl
 | n+1,h=>by
  show S n f+f n=S n g+g n
  rw[u6 fun i hi=>h i (by omega),h n (by omega)]
theorem ag2 {f g:Nat->Int}:∀ {n:Nat},(∀ i,i<n->f i<=g i)->S n f<=S n g
 | 0,_=>E2 _
 | n+1,h=>by
  have h1:=ag2 (n:=n) fun i hi=>h i (by omega)
  have h2:=h n (by omega)
  show S n f+f n<=S n g+g n
  omega
theorem W0 (f g:Nat->Int):∀ n:Nat,S n (fun i=>f i+g i)=S n f+S n g
 | 0=>rfl
 | n+1=>by
  show S n (fun i=>f i+g i)+(f n+g n)=S n f+f n+(S n g+g n)
  rw[W0 f g n]
  omega
theorem F7 (f g:Nat->Int):∀ n:Nat,S n (fun i=>f i - g i)=S n f - S n g
 | 0=>rfl
 | n+1=>by
  show S n (fun i=>f i - g i)+(f n - g n)=S n f+f n - (S n g+g n)
  rw[F7 f g n]
  omega
theorem P6:∀ n:Nat,S n (fun _=>0)=0
 | 0=>rfl
 | n+1=>by
  show S n (fun _=>0)+0=0
  rw[P6 n];rfl
theorem Q7 (c:Int):∀ n:Nat,S n (fun _=>c)=(n:Int)*c
 | 0=>by simp[S]
 | n+1=>by
  show S n (fun _=>c)+c=((n+1:Nat):Int)*c
  rw[Q7 c n,show ((n+1:Nat):Int)=(n:Int)+1 by omega,bS9,ab6]
theorem Z3 (c:Int)(f:Nat->Int):∀ n:Nat,S n (fun i=>c*f i)=c*S n f
 | 0=>by simp[S]
 | n+1=>by
  show S n (fun i=>c*f i)+c*f n=c*(S n f+f n)
  rw[Z3 c f n,ab7]
theorem Z2 {f:Nat->Int}(h:∀ i,i<n->0<=f i):0<=S n f:=by
 have:=ag2 (f:=fun _=>0) (g:=f) (n:=n) h
 rw[P6]at this
 exact this
theorem bE7 (f:Nat->Nat->Int)(m:Nat):∀ n:Nat,S n (fun i=>S m (fun j=>f i j))=S m (fun j=>S n (fun i=>f i j))
 | 0=>(P6 m).symm
 | n+1=>by
  show S n (fun i=>S m (fun j=>f i j))+S m (fun j=>f n j)=S m (fun j=>S n (fun i=>f i j)+f n j)
  rw[bE7 f m n,<- W0]
theorem au4 (c:Int)(h:j<n):S n (fun i=>if i=j then c else 0)=c:=by
 induction n with
 | zero=>omega
 | succ n ih =>
  show S n (fun i=>if i=j then c else 0)+(if n=j then c else 0)=c
  by_cases e:n=j
  ·rw[if_pos e,u6 (g:=fun _=>0) fun i hi=>if_neg (by omega),P6];omega
  ·rw[if_neg e,ih (by omega)];omega
theorem ac2 {f g:Nat->Int}(h:j<n)(hf:∀ i,i<n->i≠j->f i=g i):S n f=S n g+(f j - g j):=by
 have:S n f=S n (fun i=>g i+(if i=j then f j - g j else 0)):=u6 fun i hi=>by
  by_cases e:i=j
  ·rw[if_pos e,e];omega
  ·rw[if_neg e,hf i hi e];omega
 rw[this,W0,au4 _ h]
theorem aH7 {f:Nat->Int}(h:j<n)(hf:∀ i,i<n->0<=f i):f j<=S n f:=by
 have h1:=ac2 (f:=f) (g:=fun i=>if i=j then 0 else f i) h (fun i _ e=>by rw[if_neg e])
 have h2:0<=S n (fun i=>if i=j then 0 else f i):=Z2 fun i hi=>by
  by_cases e:i=j
  ·rw[if_pos e];exact E2 _
  ·rw[if_neg e];exact hf i hi
 rw[if_pos rfl]at h1
 omega
theorem bO6 {f g:Nat->Int}(h:S n f<S n g):∃ i,i<n/\f i<g i:=by
 induction n with
 | zero=>exact absurd h (aI4 _)
 | succ n ih =>
  by_cases e:f n<g n
  ·exact⟨n,by omega,e⟩
  ·have h':S n f+f n<S n g+g n:=h
   obtain⟨i,hi,h2⟩:=ih (by omega)
   exact⟨i,by omega,h2⟩
def b2 (b:Bool):Int:=if b then 1 else 0
theorem U5:b2 true=1:=rfl
theorem O9:b2 false=0:=rfl
theorem J0 (b:Bool):0<=b2 b:=by cases b<;>decide
theorem aM4 (b:Bool):b2 b<=1:=by cases b<;>decide
structure Gph (g:Nat->Nat->Bool):Prop where
 sym:∀ i j,g i j=g j i
 irr:∀ i,g i i=false
def deg (n:Nat)(g:Nat->Nat->Bool)(i:Nat):Int:=S n fun j=>b2 (g i j)
def X7 (g:Nat->Nat->Bool)(a b:Nat)(v:Bool):Nat->Nat->Bool:=fun i j=>if (i=a/\j=b)\/(i=b/\j=a) then v else g i j
theorem R5 {a b:Nat}{v:Bool}(h:Gph g)(hab:a≠b):Gph (X7 g a b v) where
 sym:=fun i j=>by
  unfold X7
  by_cases e:(i=a/\j=b)\/(i=b/\j=a)
  ·rw[if_pos e,if_pos (by omega)]
  ·rw[if_neg e,if_neg (by omega)];exact h.sym i j
 irr:=fun i=>by
  unfold X7
  rw[if_neg (by omega)];exact h.irr i
theorem O3 {a b:Nat}{v:Bool}(e:¬ ((i=a/\j=b)\/(i=b/\j=a))):X7 g a b v i j=g i j:=if_neg e
theorem aO9 {a b:Nat}{v:Bool}:X7 g a b v a b=v:=if_pos (.inl ⟨rfl,rfl⟩)
theorem Z0 {a b:Nat}{v:Bool}(h:Gph g)(hab:a≠b)(ha:a<n)(hb:b<n)(i:Nat):deg n (X7 g a b v) i=deg n g i+(if i=a\/i=b then b2 v - b2 (g a b) else 0):=by
 unfold deg
 by_cases e1:i=a
 ·subst e1
  rw[if_pos (.inl rfl),ac2 (g:=fun j=>b2 (g i j)) hb (fun j _ hj=>by show b2 _=_;rw[O3 (by omega)])]
  show _+(b2 (X7 g i b v i b) - _)=_
  rw[aO9]
 ·by_cases e2:i=b
  ·subst e2
   rw[if_pos (.inr rfl),ac2 (g:=fun j=>b2 (g i j)) ha (fun j _ hj=>by show b2 _=_;rw[O3 (by omega)])]
   show _+(b2 (X7 g a i v i a) - _)=_
   have:X7 g a i v i a=v:=if_pos (.inr ⟨rfl,rfl⟩)
   rw[this,h.sym i a]
  ·rw[if_neg (by omega),u6 (g:=fun j=>b2 (g i j)) fun j _=>by show b2 _=_;rw[O3 (by omega)]]
   omega
end Grf
namespace Grf
theorem aB6 {x y:Nat}(h:Gph g)(hy:y<n)(hxy:x≠y):S n (fun z=>if z=x\/z=y then 0 else b2 (g x z))=deg n g x - b2 (g x y):=by
 unfold deg
 rw[ac2 (f:=fun z=>if z=x\/z=y then 0 else b2 (g x z)) (g:=fun z=>b2 (g x z)) hy (fun i _ hi=>?_)]
 ·show _+((if y=x\/y=y then (0:Int) else _) - _)=_
  rw[if_pos (.inr rfl)];omega
 ·show (if i=x\/i=y then (0:Int) else _)=_
  by_cases e:i=x
  ·rw[if_pos (.inl e),e,h.irr];rfl
  ·rw[if_neg (by omega)]
theorem cj3 {x y:Nat}(h:Gph g)(hx:x<n)(hy:y<n)(hxy:x≠y)(hd:deg n g y<deg n g x):∃ z,z<n/\z≠x/\z≠y/\g x z=true/\g y z=false:=by
 have h1:=aB6 h hy hxy
 have h2:=aB6 h hx (Ne.symm hxy)
 have h3:S n (fun z=>if z=y\/z=x then 0 else b2 (g y z))<S n (fun z=>if z=x\/z=y then 0 else b2 (g x z)):=by
  rw[h1,h2,h.sym y x];omega
 obtain⟨z,hz,hlt⟩:=bO6 h3
 by_cases e:z=x\/z=y
 ·rw[if_pos (show z=y\/z=x by omega),if_pos e]at hlt
  exact absurd hlt (aI4 _)
 ·rw[if_neg (show ¬ (z=y\/z=x) by omega),if_neg e]at hlt
  refine⟨z,hz,by omega,by omega,?_⟩
  cases h4:g x z<;>cases h5:g y z<;>rw[h4,h5]at hlt<;>simp_all [b2]
theorem find3 {x y v:Nat}(h:Gph g)(hx:x<n)(hy:y<n)(hv:v<n)(hxy:x≠y)(hxv:x≠v)(hyv:y≠v)(hd:deg n g y<=deg n g x)(h1:g y v=true)(h2:g x v=false) :
  ∃ z,z<n/\z≠x/\z≠y/\z≠v/\g x z=true/\g y z=false:=by
 have e1:=aB6 h hy hxy
 have e2:=aB6 h hx (Ne.symm hxy)
 have f1:=ac2 (f:=fun z=>if z=v then 0 else (if z=x\/z=y then 0 else b2 (g x z))) (g:=fun z=>if z=x\/z=y then 0 else b2 (g x z)) hv (fun i _ hi=>by show (if i=v then (0:Int) else _)=_;rw[if_neg hi])
 have f2:=ac2 (f:=fun z=>if z=v then 0 else (if z=y\/z=x then 0 else b2 (g y z))) (g:=fun z=>if z=y\/z=x then 0 else b2 (g y z)) hv (fun i _ hi=>by show (if i=v then (0:Int) else _)=_;rw[if_neg hi])
 have g1:(if v=v then (0:Int) else (if v=x\/v=y then 0 else b2 (g x v))) - (if v=x\/v=y then 0 else b2 (g x v))=0:=by
  rw[if_pos rfl,if_neg (by omega),h2];rfl
 have g2:(if v=v then (0:Int) else (if v=y\/v=x then 0 else b2 (g y v))) - (if v=y\/v=x then 0 else b2 (g y v)) = -1:=by
  rw[if_pos rfl,if_neg (by omega),h1];rfl
 rw[g1,e1]at f1
 rw[g2,e2,h.sym y x]at f2
 have h3:S n (fun z=>if z=v then 0 else (if z=y\/z=x then 0 else b2 (g y z)))<S n (fun z=>if z=v then 0 else (if z=x\/z=y then 0 else b2 (g x z))):=by
  rw[f1,f2];omega
 obtain⟨z,hz,hlt⟩:=bO6 h3
 by_cases ev:z=v
 ·rw[if_pos ev,if_pos ev]at hlt
  exact absurd hlt (aI4 _)
 ·rw[if_neg ev,if_neg ev]at hlt
  by_cases e:z=x\/z=y
  ·rw[if_pos (show z=y\/z=x by omega),if_pos e]at hlt
   exact absurd hlt (aI4 _)
  ·rw[if_neg (show ¬ (z=y\/z=x) by omega),if_neg e]at hlt
   refine⟨z,hz,by omega,by omega,ev,?_⟩
   cases h4:g x z<;>cases h5:g y z<;>rw[h4,h5]at hlt<;>simp_all [b2]
def aJ2 (g:Nat->Nat->Bool)(a b c d:Nat):Nat->Nat->Bool:=X7 (X7 (X7 (X7 g a b false) c d false) a d true) c b true
structure Ex (g:Nat->Nat->Bool) (a b c d:Nat):Prop where
 ab:a≠b
 ac:a≠c
 ad:a≠d
 bc:b≠c
 bd:b≠d
 cd:c≠d
 t1:g a b=true
 t2:g c d=true
 n1:g a d=false
 n2:g c b=false
theorem bC1 {a b c d:Nat}(h:Gph g)(x:Ex g a b c d):Gph (aJ2 g a b c d):=
 R5 (R5 (R5 (R5 h x.ab) x.cd) x.ad) (Ne.symm x.bc)
theorem bC2 {a b c d:Nat}(h:Gph g)(x:Ex g a b c d)(ha:a<n)(hb:b<n)(hc:c<n)(hd:d<n)(i:Nat):deg n (aJ2 g a b c d) i=deg n g i:=by
 obtain⟨ab,ac,ad,bc,bd,cd,t1,t2,n1,n2⟩:=x
 unfold aJ2
 have h1:=R5 (v:=false) h ab
 have h2:=R5 (v:=false) h1 cd
 have h3:=R5 (v:=true) h2 ad
 rw[Z0 h3 (Ne.symm bc) hc hb,Z0 h2 ad ha hd,Z0 h1 cd hc hd,Z0 h ab ha hb]
 have v1:X7 g a b false c d=true:=by rw[O3 (by omega)];exact t2
 have v2:X7 (X7 g a b false) c d false a d=false:=by rw[O3 (by omega),O3 (by omega)];exact n1
 have v3:X7 (X7 (X7 g a b false) c d false) a d true c b=false:=by rw[O3 (by omega),O3 (by omega),O3 (by omega)];exact n2
 rw[t1,v1,v2,v3,U5,O9]
 by_cases ea:i=a
 ·subst ea
  rw[if_pos (.inl rfl),if_neg (by omega),if_pos (.inl rfl),if_neg (by omega)];omega
 ·by_cases eb:i=b
  ·subst eb
   rw[if_pos (.inr rfl),if_neg (by omega),if_neg (by omega),if_pos (.inr rfl)];omega
  ·by_cases ec:i=c
   ·subst ec
    rw[if_neg (by omega),if_pos (.inl rfl),if_neg (by omega),if_pos (.inl rfl)];omega
   ·by_cases ed:i=d
    ·subst ed
     rw[if_neg (by omega),if_pos (.inr rfl),if_pos (.inr rfl),if_neg (by omega)];omega
    ·rw[if_neg (by omega),if_neg (by omega),if_neg (by omega),if_neg (by omega)];omega
theorem bb4 {a b c d:Nat}(x:Ex g a b c d)(j:Nat):aJ2 g a b c d a j=if j=b then false else if j=d then true else g a j:=by
 obtain⟨ab,ac,ad,bc,bd,cd,t1,t2,n1,n2⟩:=x
 unfold aJ2
 rw[O3 (by omega)]
 by_cases e:j=d
 ·subst e
  rw[aO9,if_neg (by omega),if_pos rfl]
 ·rw[O3 (by omega),O3 (by omega),if_neg e]
  by_cases e2:j=b
  ·subst e2
   rw[aO9,if_pos rfl]
  ·rw[O3 (by omega),if_neg e2]
theorem ci8 {v:Nat}{N:Nat->Bool}(hv:v<n)(hNv:N v=false):∀ (m:Nat) (g:Nat->Nat->Bool),Gph g->S n (fun j=>b2 (N j))=deg n g v ->
  (∀ x y,x<n->y<n->N x=true->N y=false->y≠v->deg n g y<=deg n g x)->S n (fun j=>b2 (N j && !g v j))=(m:Int) ->
  ∃ g',Gph g'/\(∀ i,i<n->deg n g' i=deg n g i)/\∀ j,j<n->g' v j=N j:=by
 intro m
 induction m with
 | zero =>
  intro g h hs hd hm
  refine⟨g,h,fun _ _=>rfl,fun j hj=>?_⟩
  have all:∀ j,j<n->N j=true->g v j=true:=fun j hj hN=>by
   have:=aH7 (f:=fun j=>b2 (N j && !g v j)) hj (fun i _=>J0 _)
   rw[hm]at this
   cases hg:g v j with
   | true=>rfl
   | false =>
    have e:b2 (N j && !g v j)=1:=by rw[hN,hg];rfl
    have t:b2 (N j && !g v j)<=0:=this
    omega
  have dif:S n (fun j=>b2 (g v j) - b2 (N j))=0:=by rw[F7];unfold deg at hs;omega
  have pos:∀ i,i<n->0<=b2 (g v i) - b2 (N i):=fun i hi=>by
   cases hN:N i with
   | true=>rw[all i hi hN];decide
   | false=>have:=J0 (g v i);rw[O9];omega
  have:=aH7 (f:=fun j=>b2 (g v j) - b2 (N j)) hj pos
  rw[dif]at this
  have p:=pos j hj
  cases hN:N j with
  | true=>exact all j hj hN
  | false =>
   cases hg:g v j with
   | false=>rfl
   | true =>
    have t:b2 (g v j) - b2 (N j)<=0:=this
    rw[hN,hg,U5,O9]at t
    omega
 | succ m ih =>
  intro g h hs hd hm
  obtain⟨x,hx,hlt⟩:∃ x,x<n/\(fun _=>(0:Int)) x<b2 (N x && !g v x):=bO6 (f:=fun _=>0) (g:=fun j=>b2 (N j && !g v j)) (by rw[P6,hm];omega)
  have hNx:N x=true/\g v x=false:=by
   cases h1:N x<;>cases h2:g v x<;>rw[h1,h2]at hlt<;>simp_all [b2]
  obtain⟨y,hy,hlt2⟩:∃ y,y<n/\b2 (N y)<b2 (g v y):=by
   by_cases hc:∃ y,y<n/\b2 (N y)<b2 (g v y)
   ·exact hc
   ·have pos:∀ i,i<n->0<=b2 (N i) - b2 (g v i):=fun i hi=>by
     have:¬ b2 (N i)<b2 (g v i):=fun z=>hc ⟨i,hi,z⟩
     omega
    have t:=aH7 (f:=fun j=>b2 (N j) - b2 (g v j)) hx pos
    have e:S n (fun j=>b2 (N j) - b2 (g v j))=0:=by rw[F7];unfold deg at hs;omega
    rw[e,show b2 (N x) - b2 (g v x)=1 by rw[hNx.1,hNx.2];rfl]at t
    omega
  have hNy:N y=false/\g v y=true:=by
   cases h1:N y<;>cases h2:g v y<;>rw[h1,h2]at hlt2<;>simp_all [b2]
  have xv:x≠v:=fun e=>by rw[e,hNv]at hNx;exact absurd hNx.1 (by decide)
  have yv:y≠v:=fun e=>by rw[e,h.irr]at hNy;exact absurd hNy.2 (by decide)
  have xy:x≠y:=fun e=>by rw[e,hNy.1]at hNx;exact absurd hNx.1 (by decide)
  obtain⟨z,hz,zx,zy,zv,h1,h2⟩:=find3 h hx hy hv xy xv yv (hd x y hx hy hNx.1 hNy.1 yv) (by rw[h.sym];exact hNy.2) (by rw[h.sym];exact hNx.2)
  have ex:Ex g v y z x:=⟨Ne.symm yv,Ne.symm zv,Ne.symm xv,Ne.symm zy,Ne.symm xy,zx,hNy.2,by rw[h.sym];exact h1,hNx.2,by rw[h.sym];exact h2⟩
  have dg:=bC2 h ex hv hy hz hx
  obtain⟨g',k1,k2,k3⟩:=ih (aJ2 g v y z x) (bC1 h ex) (by rw[dg];exact hs) (fun a b ha hb n1 n2 n3=>by rw[dg,dg];exact hd a b ha hb n1 n2 n3) (by
   have:=ac2 (f:=fun j=>b2 (N j && !aJ2 g v y z x v j)) (g:=fun j=>b2 (N j && !g v j)) hx (fun j _ hj=>by
    show b2 (N j && !aJ2 g v y z x v j)=_
    rw[bb4 ex]
    by_cases e:j=y
    ·rw[if_pos e,e,hNy.1];rfl
    ·rw[if_neg e,if_neg hj])
   rw[this,hm]
   have e1:aJ2 g v y z x v x=true:=by rw[bb4 ex,if_neg xy,if_pos rfl]
   show _+(b2 (N x && !aJ2 g v y z x v x) - b2 (N x && !g v x))=_
   rw[e1,hNx.1,hNx.2]
   show ((m+1:Nat):Int)+(0 - 1)=_
   omega)
  exact⟨g',k1,fun i hi=>by rw[k2 i hi,dg],k3⟩
end Grf
namespace Grf
def cnt (n:Nat)(a:Nat->Bool):Int:=S n fun i=>b2 (a i)
def sm (n:Nat)(a:Nat->Bool)(d:Nat->Int):Int:=S n fun i=>if a i=true then d i else 0
def put (a:Nat->Bool)(j:Nat)(v:Bool):Nat->Bool:=fun i=>if i=j then v else a i
theorem aw2 {a:Nat->Bool}{v:Bool}:put a j v j=v:=if_pos rfl
theorem ae6 {a:Nat->Bool}{v:Bool}(h:i≠j):put a j v i=a i:=if_neg h
theorem ai0 {a:Nat->Bool}{v:Bool}(h:j<n):cnt n (put a j v)=cnt n a+(b2 v - b2 (a j)):=by
 unfold cnt
 rw[ac2 (g:=fun i=>b2 (a i)) h (fun i _ hi=>by show b2 (put a j v i)=_;rw[ae6 hi])]
 show _+(b2 (put a j v j) - _)=_
 rw[aw2]
theorem aq7 {a:Nat->Bool}{v:Bool}(h:j<n):sm n (put a j v) d=sm n a d+((if v=true then d j else 0) - (if a j=true then d j else 0)):=by
 unfold sm
 rw[ac2 (g:=fun i=>if a i=true then d i else 0) h (fun i _ hi=>by show (if put a j v i=true then d i else 0)=_;rw[ae6 hi])]
 show _+((if put a j v j=true then d j else 0) - _)=_
 rw[aw2]
theorem Y2 (n:Nat)(a:Nat->Bool):0<=cnt n a:=Z2 fun i _=>J0 _
theorem aB8 {a b:Nat->Bool}(h:∀ i,a i=true->b i=false):cnt n a+cnt n b<=n:=by
 unfold cnt
 rw[<- W0]
 have:=ag2 (f:=fun i=>b2 (a i)+b2 (b i)) (g:=fun _=>1) (n:=n) (fun i _=>by
  show b2 (a i)+b2 (b i)<=1
  cases ha:a i with
  | true=>rw[h i ha];decide
  | false=>have:=aM4 (b i);rw[O9];omega)
 rw[Q7]at this
 omega
theorem aS2 {a b:Nat->Bool}(h:∀ i,a i=true->b i=false)(hj:j<n)(ha:a j=false)(hb:b j=false):cnt n a+cnt n b+1<=n:=by
 have:=aB8 (n:=n) (a:=put a j true) (b:=b) (fun i hi=>by
  by_cases e:i=j
  ·rw[e];exact hb
  ·rw[ae6 e]at hi;exact h i hi)
 rw[ai0 hj,ha,U5,O9]at this
 omega
theorem bD3 {a:Nat->Bool}(h:∀ i,i<n->a i=false):cnt n a=0:=by
 unfold cnt
 rw[u6 (g:=fun _=>0) fun i hi=>by rw[h i hi];rfl]
 exact P6 n
theorem as4 {a:Nat->Bool}(h:∀ i,i<n->a i=false):sm n a d=0:=by
 unfold sm
 rw[u6 (g:=fun _=>0) fun i hi=>by rw[h i hi];rfl]
 exact P6 n
theorem bw1 {a:Nat->Bool}(hd:∀ i,i<n->0<=d i)(hj:j<n)(ha:a j=true):d j<=sm n a d:=by
 have:=aH7 (f:=fun i=>if a i=true then d i else 0) hj (fun i hi=>by
  cases a i with
  | true=>exact hd i hi
  | false=>exact E2 _)
 have e:(if a j=true then d j else 0)=d j:=if_pos ha
 unfold sm
 show d j<=_
 rw[<- e]
 exact this
theorem av4 {a:Nat->Bool}(hd:∀ i,i<n->0<=d i):0<=sm n a d:=Z2 fun i hi=>by
 cases a i with
 | true=>exact hd i hi
 | false=>exact E2 _
theorem bW0 {a:Nat->Bool}(hd:∀ i,i<n->0<=d i)(hi:i<n)(hj:j<n)(hij:i≠j)(h1:a i=true)(h2:a j=true):d i+d j<=sm n a d:=by
 have e:=aq7 (d:=d) (a:=a) (v:=false) hi
 rw[h1,if_pos rfl,if_neg (by decide)]at e
 have:=bw1 (a:=put a i false) hd hj (by rw[ae6 (Ne.symm hij)];exact h2)
 omega
theorem cg0 {a:Nat->Bool}{m:Int}(h:∀ i,i<n->a i=true->d i<=m):sm n a d<=cnt n a*m:=by
 have e:cnt n a*m=S n (fun i=>m*b2 (a i)):=by rw[Z3,J6];rfl
 rw[e]
 refine ag2 fun i hi=>?_
 cases ha:a i with
 | true=>rw[if_pos rfl,U5,K7];exact h i hi ha
 | false=>rw[if_neg (by decide),O9,M9];exact E2 _
theorem cg1 {a:Nat->Bool}{m:Int}(h:∀ i,i<n->a i=true->d i=m):sm n a d=cnt n a*m:=by
 have e:cnt n a*m=S n (fun i=>m*b2 (a i)):=by rw[Z3,J6];rfl
 rw[e]
 refine u6 fun i hi=>?_
 cases ha:a i with
 | true=>rw[if_pos rfl,U5,K7];exact h i hi ha
 | false=>rw[if_neg (by decide),O9,M9]
theorem aB9 {a:Nat->Bool}(h:cnt n a≠0):∃ i,i<n/\a i=true:=by
 by_cases hc:∃ i,i<n/\a i=true
 ·exact hc
 ·exact absurd (bD3 fun i hi=>by
   cases ha:a i with
   | false=>rfl
   | true=>exact absurd ⟨i,hi,ha⟩ hc) h
theorem cover {a b:Nat->Bool}(h:∀ i,a i=true->b i=false)(hc:cnt n a+cnt n b=n):sm n a d+sm n b d=S n d:=by
 unfold sm
 rw[<- W0]
 refine u6 fun i hi=>?_
 cases ha:a i with
 | true=>rw[h i ha,if_pos rfl,if_neg (by decide)];omega
 | false =>
  cases hb:b i with
  | true=>rw[if_neg (by decide),if_pos rfl];omega
  | false=>have:=aS2 h hi ha hb;omega
def aM7 (n:Nat)(d:Nat->Int):Prop:=∀ a b:Nat->Bool,(∀ i,a i=true->b i=false)->sm n a d<=cnt n a*((n:Int) - 1 - cnt n b)+sm n b d
theorem bO0 (k:Int):∃ q,k*(k - 1)=2*q:=by
 rcases Int.emod_two_eq k with h | h
 ·exact⟨(k / 2)*(k - 1),by
   have:k=2*(k / 2):=by omega
   rw[<- M7,<- this]⟩
 ·exact⟨k*((k - 1) / 2),by
   have:k - 1=2*((k - 1) / 2):=by omega
   rw[Int.mul_left_comm,<- this]⟩
theorem bC8 {a b:Nat->Bool}(h:∀ i,a i=true->b i=false)(x y:Nat):∀ i,put a x false i=true->put b y false i=false:=fun i hi=>by
 by_cases e:i=x
 ·rw[e,aw2]at hi;cases hi
 ·rw[ae6 e]at hi
  by_cases e2:i=y
  ·rw[e2,aw2]
  ·rw[ae6 e2];exact h i hi
theorem bA3 {t u:Nat}(K:aM7 n d)(hd:∀ i,i<n->0<=d i)(ev:∃ q,S n d=2*q)(ht:t<n)(hu:u<n)(htu:t≠u)(hup:0<d u)(hmax:∀ i,i<n->d i<=d t)(hmin:∀ i,i<n->0<d i->d u<=d i) :
  aM7 n (fun i=>d i - (if i=t then 1 else 0) - (if i=u then 1 else 0)):=by
 intro a b hab
 have hdt:d u<=d t:=hmax u hu
 have lower:∀ c:Nat->Bool,sm n c (fun i=>d i - (if i=t then 1 else 0) - (if i=u then 1 else 0))=sm n c d - b2 (c t) - b2 (c u):=fun c=>by
  have e:sm n c (fun i=>d i - (if i=t then 1 else 0) - (if i=u then 1 else 0))=S n (fun i=>(if c i=true then d i else 0) - (if i=t then b2 (c t) else 0) - (if i=u then b2 (c u) else 0)):=u6 fun i hi=>by
   show (if c i=true then (d i - (if i=t then 1 else 0) - (if i=u then 1 else 0)) else 0)=_
   by_cases e1:i=t
   ·subst e1
    rw[if_pos rfl,if_pos rfl,if_neg htu,if_neg htu]
    cases c i with
    | true=>rfl
    | false=>rfl
   ·rw[if_neg e1,if_neg e1]
    by_cases e2:i=u
    ·subst e2
     rw[if_pos rfl,if_pos rfl]
     cases c i with
     | true=>rfl
     | false=>rfl
    ·rw[if_neg e2,if_neg e2]
     cases c i with
     | true=>rw[if_pos rfl,if_pos rfl]
     | false=>rw[if_neg (by decide),if_neg (by decide)];omega
  rw[e,F7,F7,au4 _ ht,au4 _ hu]
  rfl
 rw[lower a,lower b]
 have K0:=K a b hab
 have ka:=Y2 n a
 have kb:=Y2 n b
 have kr:=aB8 (n:=n) hab
 have sb:=av4 (a:=b) hd
 have ba:=fun x=>J0 (a x)
 have ab:=fun x=>aM4 (a x)
 generalize hk:cnt n a=k at *
 generalize hl:cnt n b=l at *
 have pq:k*((n:Int) - 1 - l)=k*(n:Int) - k - k*l:=by rw[L7,L7,K7]
 have rem:∀ s,s<n->a s=true->b t=true->sm n a d+((n:Int) - k - l)+d t - d s<=k*((n:Int) - 1 - l)+sm n b d:=fun s hs has hbt=>by
  have:=K (put a s false) (put b t false) (bC8 hab s t)
  rw[aq7 hs,aq7 ht,ai0 hs,ai0 ht,has,hbt,hk,hl]at this
  simp only[if_true,U5,O9,m7,if_false]at this
  have e:(k+(0 - 1))*((n:Int) - 1 - (l+(0 - 1)))=k*((n:Int) - 1 - l)+k - (n:Int)+l:=by grind
  rw[e]at this
  omega
 have mov:b t=true->a t=false->sm n a d+d t<=(k+1)*((n:Int) - l)+sm n b d - d t:=fun hbt hat=>by
  have dj:∀ i,put a t true i=true->put b t false i=false:=fun i hi=>by
   by_cases e:i=t
   ·rw[e,aw2]
   ·rw[ae6 e]at hi;rw[ae6 e];exact hab i hi
  have:=K (put a t true) (put b t false) dj
  rw[aq7 ht,aq7 ht,ai0 ht,ai0 ht,hat,hbt,hk,hl]at this
  simp only[if_true,U5,O9,m7,if_false]at this
  have e:(k+(1 - 0))*((n:Int) - 1 - (l+(0 - 1)))=(k+1)*((n:Int) - l):=by grind
  rw[e]at this
  omega
 have nota:∀ i,b i=true->a i=false:=fun i hi=>by
  cases h:a i with
  | false=>rfl
  | true=>rw[hab i h]at hi;cases hi
 have empty:k=0->sm n a d=0:=fun hk0=>as4 fun i hi=>by
  cases h:a i with
  | false=>rfl
  | true =>
   have:=aH7 (f:=fun i=>b2 (a i)) hi (fun i _=>J0 _)
   have e:b2 (a i)=1:=by rw[h];rfl
   unfold cnt at hk
   have t:b2 (a i)<=S n (fun i=>b2 (a i)):=this
   omega
 cases hbt:b t with
 | false =>
  cases hbu:b u with
  | false=>have h1:=ba t;have h2:=ba u;rw[O9];omega
  | true =>
   rw[U5,O9]
   cases hat:a t with
   | true=>have h2:=ba u;rw[U5];omega
   | false =>
    rw[nota u hbu,O9]
    have dub:=bw1 hd hu hbu
    have out:=aS2 hab ht hat hbt
    rw[hk,hl]at out
    by_cases c1:k+1<=d u
    ·have:=K a (put b u false) (fun i hi=>by
      by_cases e:i=u
      ·rw[e,aw2]
      ·rw[ae6 e];exact hab i hi)
     rw[aq7 hu,ai0 hu,hbu,hk,hl]at this
     simp only[if_true,U5,O9,m7,if_false]at this
     have e:k*((n:Int) - 1 - (l+(0 - 1)))=k*((n:Int) - 1 - l)+k:=by grind
     rw[e]at this
     omega
    ·by_cases c2:(n:Int) - l<=d t
     ·have:=K (put a t true) b (fun i hi=>by
       by_cases e:i=t
       ·rw[e];exact hbt
       ·rw[ae6 e]at hi;exact hab i hi)
      rw[aq7 ht,ai0 ht,hat,hk,hl]at this
      simp only[if_true,U5,O9,m7,if_false]at this
      have e:(k+(1 - 0))*((n:Int) - 1 - l)=k*((n:Int) - 1 - l)+((n:Int) - 1 - l):=by grind
      rw[e]at this
      omega
     ·have h1:=cg0 (a:=a) (d:=d) (m:=(n:Int) - 1 - l) (n:=n) (fun i hi _=>by have:=hmax i hi;omega)
      rw[hk]at h1
      omega
 | true =>
  have hat:=nota t hbt
  rw[hat,U5,O9]
  cases hbu:b u with
  | false =>
   rw[O9]
   cases hau:a u with
   | true=>rw[U5];omega
   | false =>
    rw[O9]
    have out:=aS2 hab hu hau hbu
    rw[hk,hl]at out
    by_cases k0:k=0
    ·have h1:=empty k0
     have h2:=bw1 hd ht hbt
     rw[h1,k0,Y3]
     omega
    ·obtain⟨s,hs,has⟩:=aB9 (n:=n) (a:=a) (by rw[hk];exact k0)
     have h1:=rem s hs has hbt
     have h2:=hmax s hs
     omega
  | true =>
   rw[nota u hbu,U5,O9]
   have two:=bW0 hd ht hu htu hbt hbu
   by_cases k0:k=0
   ·have h1:=empty k0
    rw[h1,k0,Y3]
    omega
   ·-- slack even where there is no place besides
    have par:(n:Int) - k - l=0->sm n a d<k*((n:Int) - 1 - l)+sm n b d->sm n a d+2<=k*((n:Int) - 1 - l)+sm n b d:=fun r0 hlt=>by
     obtain⟨q,hq⟩:=ev
     have cv:=cover (d:=d) hab (by rw[hk,hl];omega)
     obtain⟨q2,hq2⟩:=bO0 k
     have e:k*((n:Int) - 1 - l)=k*(k - 1):=by rw[show (n:Int) - 1 - l=k - 1 by omega]
     rw[e]at hlt ⊢
     omega
    by_cases hex:∃ s,s<n/\a s=true/\d s<d t
    ·obtain⟨s,hs,has,hlt⟩:=hex
     have h1:=rem s hs has hbt
     by_cases r0:(n:Int) - k - l=0
     ·have:=par r0 (by omega);omega
     ·omega
    ·have all:∀ i,i<n->a i=true->d i=d t:=fun i hi hai=>by
      have h1:=hmax i hi
      have h2:¬ d i<d t:=fun z=>hex ⟨i,hi,hai,z⟩
      omega
     obtain⟨s,hs,has⟩:=aB9 (n:=n) (a:=a) (by rw[hk];exact k0)
     have h1:=rem s hs has hbt
     have h2:=all s hs has
     have mv:=mov hbt hat
     have sa:=cg1 (a:=a) (d:=d) (n:=n) all
     rw[hk]at sa
     generalize d t=m at *
     by_cases r2:2<=(n:Int) - k - l
     ·omega
     ·by_cases r1:(n:Int) - k - l=1
      ·have e1:(n:Int) - 1 - l=k:=by omega
       have e2:(n:Int) - l=k+1:=by omega
       rw[e1]
       rw[e2,sa]at mv
       rw[sa]
       have x1:(k+1)*(k+1)=k*k+2*k+1:=by grind
       rw[x1]at mv
       by_cases c1:m<=k
       ·have:=F3 c1 ka
        omega
       ·by_cases c2:m=k+1
        ·rw[c2,ab7,K7];omega
        ·omega
      ·have r0:(n:Int) - k - l=0:=by omega
       have e1:(n:Int) - 1 - l=k - 1:=by omega
       have e2:(n:Int) - l=k:=by omega
       have pr:=par r0
       rw[e1]at pr ⊢
       rw[e2,sa]at mv
       rw[sa]at pr ⊢
       have x1:(k+1)*k=k*k+k:=by grind
       have x2:k*(k - 1)=k*k - k:=by grind
       rw[x1]at mv
       rw[x2]at pr ⊢
       by_cases c1:m<=k - 1
       ·have:=F3 c1 ka
        rw[x2]at this
        omega
       ·by_cases c2:m=k
        ·subst c2
         have:=pr (by omega)
         omega
        ·omega
end Grf
namespace Grf
theorem bh7 {p:Nat->Prop}{f:Nat->Int}:∀ {n:Nat},(∃ i,i<n/\p i)->∃ u,u<n/\p u/\∀ i,i<n->p i->f u<=f i:=by
 intro n
 induction n with
 | zero=>rintro⟨i,h,_⟩;omega
 | succ n ih =>
  rintro⟨i,hi,pi⟩
  by_cases h:∃ i,i<n/\p i
  ·obtain⟨u,hu,pu,hm⟩:=ih h
   by_cases c:p n/\f n<f u
   ·refine⟨n,by omega,c.1,fun j hj pj=>?_⟩
    by_cases e:j=n
    ·rw[e];exact E2 _
    ·have:=hm j (by omega) pj;have:=c.2;omega
   ·refine⟨u,by omega,pu,fun j hj pj=>?_⟩
    by_cases e:j=n
    ·subst e
     have:¬ f j<f u:=fun z=>c ⟨pj,z⟩
     omega
    ·exact hm j (by omega) pj
  ·have e:i=n:=by
    by_cases e:i=n
    ·exact e
    ·exact absurd ⟨i,by omega,pi⟩ h
   subst e
   refine⟨i,by omega,pi,fun j hj pj=>?_⟩
   by_cases e:j=i
   ·rw[e];exact E2 _
   ·exact absurd ⟨j,by omega,pj⟩ h
theorem cb8 {p:Nat->Prop}{f:Nat->Int}(h:∃ i,i<n/\p i):∃ u,u<n/\p u/\∀ i,i<n->p i->f i<=f u:=by
 obtain⟨u,h1,h2,h3⟩:=bh7 (f:=fun i=>-f i) h
 exact⟨u,h1,h2,fun i hi pi=>by have:=h3 i hi pi;omega⟩
theorem bB5:∀ (m n:Nat) (d:Nat->Int),(∀ i,i<n->0<=d i)->aM7 n d->S n d=2*(m:Int)->∃ g,Gph g/\∀ i,i<n->deg n g i=d i:=by
 intro m
 induction m with
 | zero =>
  intro n d hd K hs
  refine⟨fun _ _=>false,⟨fun _ _=>rfl,fun _=>rfl⟩,fun i hi=>?_⟩
  have h1:=aH7 hi hd
  have h2:=hd i hi
  have h3:deg n (fun _ _=>false) i=0:=P6 n
  rw[h3]
  have:S n d=0:=by rw[hs];rfl
  omega
 | succ m ih =>
  intro n d hd K hs
  have hpos:∃ i,i<n/\0<d i:=by
   have:=bO6 (f:=fun _=>0) (g:=d) (n:=n) (by rw[P6,hs];omega)
   exact this
  obtain⟨t,ht,htp,hmax0⟩:=cb8 (p:=fun i=>0<d i) (f:=d) hpos
  have hmax:∀ i,i<n->d i<=d t:=fun i hi=>by
   by_cases c:0<d i
   ·exact hmax0 i hi c
   ·omega
  have cb:cnt n (fun i=>decide (i≠t/\d i<=0))+cnt n (fun i=>decide (i≠t/\0<d i))+1=n:=by
   unfold cnt
   have e:=au4 (n:=n) (j:=t) 1 ht
   rw[<- W0]
   have:S n (fun i=>(b2 (decide (i≠t/\d i<=0))+b2 (decide (i≠t/\0<d i)))+(if i=t then 1 else 0))=(n:Int)*1:=by
    rw[<- Q7]
    refine u6 fun i hi=>?_
    by_cases e1:i=t
    ·subst e1;simp[b2]
    ·by_cases c:0<d i
     ·have c':¬ d i<=0:=by omega
      simp[b2,e1,c,c']
     ·have c':d i<=0:=by omega
      simp[b2,e1,c,c']
   rw[W0,e]at this
   show S n (fun i=>b2 (decide (i≠t/\d i<=0))+b2 (decide (i≠t/\0<d i)))+1=_
   omega
  have ca:cnt n (fun i=>decide (i=t))=1:=by
   unfold cnt
   rw[u6 (g:=fun i=>if i=t then 1 else 0) fun i _=>by by_cases e:i=t<;>simp[b2,e]]
   exact au4 1 ht
  have sa:sm n (fun i=>decide (i=t)) d=d t:=by
   unfold sm
   rw[u6 (g:=fun i=>if i=t then d t else 0) fun i _=>by by_cases e:i=t<;>simp[e]]
   exact au4 _ ht
  have sb:sm n (fun i=>decide (i≠t/\d i<=0)) d=0:=by
   unfold sm
   rw[u6 (g:=fun _=>0) fun i hi=>by
    by_cases e:i≠t/\d i<=0
    ·have:=hd i hi
     rw[if_pos (decide_eq_true e)]
     have:=e.2
     omega
    ·rw[if_neg (show ¬ decide (i≠t/\d i<=0)=true by rw[decide_eq_false e];decide)]]
   exact P6 n
  have kt:=K (fun i=>decide (i=t)) (fun i=>decide (i≠t/\d i<=0)) (fun i hi=>by
   have:i=t:=of_decide_eq_true hi
   exact decide_eq_false fun z=>z.1 this)
  rw[ca,sa,sb,ab6]at kt
  have hoth:∃ i,i<n/\(i≠t/\0<d i):=by
   obtain⟨i,hi,h⟩:=aB9 (n:=n) (a:=fun i=>decide (i≠t/\0<d i)) (by omega)
   exact⟨i,hi,of_decide_eq_true h⟩
  obtain⟨u,hu,⟨hut,hup⟩,hmin0⟩:=bh7 (p:=fun i=>i≠t/\0<d i) (f:=d) hoth
  have hmin:∀ i,i<n->0<d i->d u<=d i:=fun i hi hp=>by
   by_cases e:i=t
   ·rw[e];exact hmax u hu
   ·exact hmin0 i hi ⟨e,hp⟩
  have htu:t≠u:=Ne.symm hut
  have K':=bA3 K hd ⟨_,hs⟩ ht hu htu hup hmax hmin
  obtain⟨g,hg,dg⟩:=ih n _ (fun i hi=>by
   show 0<=d i - (if i=t then 1 else 0) - (if i=u then 1 else 0)
   by_cases e1:i=t
   ·subst e1;rw[if_pos rfl,if_neg htu];omega
   ·by_cases e2:i=u
    ·subst e2;rw[if_neg e1,if_pos rfl];omega
    ·rw[if_neg e1,if_neg e2];have:=hd i hi;omega) K' (by
   rw[F7,F7,au4 _ ht,au4 _ hu,hs];omega)
  cases hgu:g t u with
  | false =>
   refine⟨X7 g t u true,R5 hg htu,fun i hi=>?_⟩
   rw[Z0 hg htu ht hu,dg i hi,hgu,U5,O9]
   show d i - (if i=t then 1 else 0) - (if i=u then 1 else 0)+_=_
   by_cases e1:i=t
   ·subst e1;rw[if_pos rfl,if_neg htu,if_pos (.inl rfl)];omega
   ·by_cases e2:i=u
    ·subst e2;rw[if_neg e1,if_pos rfl,if_pos (.inr rfl)];omega
    ·rw[if_neg e1,if_neg e2,if_neg (by omega)];omega
  | true =>
   obtain⟨s,hs1,hst,hsp,hgs⟩:∃ s,s<n/\s≠t/\0<d s/\g t s=false:=by
    by_cases hc:∃ s,s<n/\s≠t/\0<d s/\g t s=false
    ·exact hc
    ·have le:cnt n (fun i=>decide (i≠t/\0<d i))<=deg n g t:=ag2 fun i hi=>by
      show b2 (decide (i≠t/\0<d i))<=b2 (g t i)
      by_cases e:i≠t/\0<d i
      ·have:g t i=true:=by
        cases h:g t i with
        | true=>rfl
        | false=>exact absurd ⟨i,hi,e.1,e.2,h⟩ hc
       rw[this,decide_eq_true e];exact E2 _
      ·rw[decide_eq_false e];exact J0 _
     have dt:=dg t ht
     have dt':deg n g t=d t - 1 - 0:=by
      rw[dt]
      show d t - (if t=t then 1 else 0) - (if t=u then 1 else 0)=_
      rw[if_pos rfl,if_neg htu]
     omega
   have su:s≠u:=fun e=>by rw[e,hgu]at hgs;cases hgs
   have ds:deg n g s=d s:=by
    rw[dg s hs1]
    show d s - (if s=t then 1 else 0) - (if s=u then 1 else 0)=_
    rw[if_neg hst,if_neg su];omega
   have du:deg n g u=d u - 1:=by
    rw[dg u hu]
    show d u - (if u=t then 1 else 0) - (if u=u then 1 else 0)=_
    rw[if_neg hut,if_pos rfl];omega
   obtain⟨z,hz,zs,zu,h1,h2⟩:=cj3 hg hs1 hu su (by have:=hmin s hs1 hsp;omega)
   have zt:z≠t:=fun e=>by rw[e,hg.sym,hgs]at h1;cases h1
   have g1:=R5 (v:=false) hg (Ne.symm zs)
   have g2:=R5 (v:=true) g1 (Ne.symm hst)
   refine⟨X7 (X7 (X7 g s z false) t s true) u z true,R5 g2 (Ne.symm zu),fun i hi=>?_⟩
   rw[Z0 g2 (Ne.symm zu) hu hz,Z0 g1 (Ne.symm hst) ht hs1,Z0 hg (Ne.symm zs) hs1 hz,dg i hi]
   have v1:X7 g s z false t s=false:=by rw[O3 (by omega)];exact hgs
   have v2:X7 (X7 g s z false) t s true u z=false:=by rw[O3 (by omega),O3 (by omega)];exact h2
   rw[h1,v1,v2,U5,O9]
   show d i - (if i=t then 1 else 0) - (if i=u then 1 else 0)+_+_+_=_
   by_cases e1:i=t
   ·subst e1;rw[if_pos rfl,if_neg htu,if_neg (by omega),if_pos (.inl rfl),if_neg (by omega)];omega
   ·by_cases e2:i=u
    ·subst e2;rw[if_neg e1,if_pos rfl,if_neg (by omega),if_neg (by omega),if_pos (.inl rfl)];omega
    ·rw[if_neg e1,if_neg e2]
     by_cases e3:i=s
     ·subst e3;rw[if_pos (.inl rfl),if_pos (.inr rfl),if_neg (by omega)];omega
     ·by_cases e4:i=z
      ·subst e4;rw[if_pos (.inr rfl),if_neg (by omega),if_pos (.inr rfl)];omega
      ·rw[if_neg (by omega),if_neg (by omega),if_neg (by omega)];omega
theorem bA2 (hg:Gph g)(dg:∀ i,i<n->deg n g i=d i):aM7 n d:=by
 intro a b hab
 have e1:sm n a d=S n (fun i=>S n (fun j=>if a i=true then (if b j=true then b2 (g i j) else 0) else 0))+S n (fun i=>S n (fun j=>if a i=true then (if b j=true then 0 else b2 (g i j)) else 0)):=by
  rw[<- W0]
  refine u6 fun i hi=>?_
  rw[<- W0]
  cases a i with
  | true =>
   rw[if_pos rfl,<- dg i hi]
   refine u6 fun j _=>?_
   cases b j with
   | true=>simp
   | false=>simp
  | false =>
   rw[if_neg (by decide),u6 (g:=fun _=>0) fun j _=>by simp,P6]
 have e2:S n (fun i=>S n (fun j=>if a i=true then (if b j=true then b2 (g i j) else 0) else 0))<=sm n b d:=by
  rw[bE7]
  refine ag2 fun j hj=>?_
  cases hb:b j with
  | true =>
   rw[if_pos rfl,<- dg j hj]
   refine ag2 fun i _=>?_
   show (if a i=true then (if true=true then b2 (g i j) else 0) else 0)<=b2 (g j i)
   rw[if_pos rfl,hg.sym j i]
   cases a i with
   | true=>rw[if_pos rfl];exact E2 _
   | false=>rw[if_neg (by decide)];exact J0 _
  | false =>
   rw[if_neg (by decide)]
   have:S n (fun i=>if a i=true then (if false=true then b2 (g i j) else 0) else 0)=0:=by
    rw[u6 (g:=fun _=>0) fun i _=>by simp]
    exact P6 n
   rw[this]
   exact E2 _
 have e3:S n (fun i=>S n (fun j=>if a i=true then (if b j=true then 0 else b2 (g i j)) else 0))<=cnt n a*((n:Int) - 1 - cnt n b):=by
  have:cnt n a*((n:Int) - 1 - cnt n b)=S n (fun i=>((n:Int) - 1 - cnt n b)*b2 (a i)):=by rw[Z3,J6];rfl
  rw[this]
  refine ag2 fun i hi=>?_
  cases ha:a i with
  | true =>
   rw[U5,K7]
   have hbi:=hab i ha
   have t:S n (fun j=>if true=true then (if b j=true then 0 else b2 (g i j)) else 0)<=S n (fun j=>(1 - b2 (b j)) - (if j=i then 1 else 0)):=ag2 fun j hj=>by
    show (if true=true then (if b j=true then 0 else b2 (g i j)) else 0)<=_
    rw[if_pos rfl]
    by_cases e:j=i
    ·subst e
     rw[hbi,if_neg (by decide),hg.irr,if_pos rfl];decide
    ·rw[if_neg e]
     cases b j with
     | true=>rw[if_pos rfl];decide
     | false=>rw[if_neg (by decide)];have:=aM4 (g i j);rw[O9];omega
   rw[F7,F7,au4 _ hi,Q7,K7]at t
   unfold cnt
   omega
  | false =>
   rw[O9,M9,u6 (g:=fun _=>0) fun j _=>by simp,P6]
   exact E2 _
 omega
end Grf
namespace Grf
def mnf (r x:Int):Int:=if r<x then r else x
theorem bk8 (r x:Int):mnf r x<=x:=by unfold mnf;split<;>omega
theorem bk7 (r x:Int):mnf r x<=r:=by unfold mnf;split<;>omega
theorem aZ4 {r x y:Int}(h:x<=y):mnf r x<=mnf r y:=by unfold mnf;split<;>split<;>omega
def roomF (n:Nat)(d:Nat->Int)(A:Nat->Bool):Int:=cnt n A*(cnt n A - 1)+S n (fun i=>if A i=true then 0 else mnf (cnt n A) (d i)) - sm n A d
def Top (n:Nat)(d:Nat->Int)(A:Nat->Bool):Prop:=∀ i j,i<n->j<n->A i=true->A j=false->d j<=d i
theorem aU7 {A a:Nat->Bool}{φ:Int->Int}(hφ:∀ x y,x<=y->φ x<=φ y)(ht:Top n d A)(hc:cnt n a=cnt n A):sm n a (fun i=>φ (d i))<=sm n A (fun i=>φ (d i)):=by
 by_cases h0:cnt n A=0
 ·have za:∀ i,i<n->a i=false:=fun i hi=>by
   cases h:a i with
   | false=>rfl
   | true =>
    have:=aH7 (f:=fun i=>b2 (a i)) hi (fun i _=>J0 _)
    have e:b2 (a i)=1:=by rw[h];rfl
    have t:b2 (a i)<=cnt n a:=this
    omega
  have zA:∀ i,i<n->A i=false:=fun i hi=>by
   cases h:A i with
   | false=>rfl
   | true =>
    have:=aH7 (f:=fun i=>b2 (A i)) hi (fun i _=>J0 _)
    have e:b2 (A i)=1:=by rw[h];rfl
    have t:b2 (A i)<=cnt n A:=this
    omega
  rw[as4 za,as4 zA]
  exact E2 _
 ·obtain⟨m,hm,hAm,hmin⟩:=bh7 (p:=fun i=>A i=true) (f:=d) (aB9 h0)
  have key:S n (fun i=>(if a i=true then φ (d i) else 0) - (if A i=true then φ (d i) else 0))<=S n (fun i=>φ (d m)*b2 (a i) - φ (d m)*b2 (A i)):=ag2 fun i hi=>by
   cases ha:a i with
   | true =>
    cases hA:A i with
    | true=>rw[if_pos rfl];omega
    | false =>
     rw[if_pos rfl,if_neg (by decide),U5,O9,K7,M9]
     have:=hφ _ _ (ht m i hm hi hAm hA)
     omega
   | false =>
    cases hA:A i with
    | true =>
     rw[if_pos rfl,if_neg (by decide),U5,O9,K7,M9]
     have:=hφ _ _ (hmin i hi hA)
     omega
    | false=>rw[if_neg (by decide)];omega
  rw[F7,F7,Z3,Z3]at key
  have e:φ (d m)*S n (fun i=>b2 (a i))=φ (d m)*S n (fun i=>b2 (A i)):=by
   show φ (d m)*cnt n a=φ (d m)*cnt n A
   rw[hc]
  show S n (fun i=>if a i=true then φ (d i) else 0)<=S n (fun i=>if A i=true then φ (d i) else 0)
  omega
theorem bg7 (hd:∀ i,i<n->0<=d i)(h:∀ r:Nat,1<=r->r<=n->∃ A,cnt n A=r/\Top n d A/\0<=roomF n d A):aM7 n d:=by
 intro a b hab
 have k0:=Y2 n a
 have kr:=aB8 (n:=n) hab
 have kb:=Y2 n b
 by_cases hz:cnt n a=0
 ·have za:∀ i,i<n->a i=false:=fun i hi=>by
   cases h:a i with
   | false=>rfl
   | true =>
    have:=aH7 (f:=fun i=>b2 (a i)) hi (fun i _=>J0 _)
    have e:b2 (a i)=1:=by rw[h];rfl
    have t:b2 (a i)<=cnt n a:=this
    omega
  have:=av4 (a:=b) hd
  rw[as4 za,hz,Y3]
  omega
 ·obtain⟨A,hc,ht,r1⟩:=h (cnt n a).toNat (by omega) (by omega)
  have hcA:cnt n A=cnt n a:=by omega
  have r2:=aU7 (φ:=fun x=>x+mnf (cnt n a) x) (fun x y hxy=>by have:=aZ4 (r:=cnt n a) hxy;omega) ht hcA.symm
  have sp:∀ c:Nat->Bool,sm n c (fun i=>d i+mnf (cnt n a) (d i))=sm n c d+S n (fun i=>mnf (cnt n a) (d i)) - S n (fun i=>if c i=true then 0 else mnf (cnt n a) (d i)):=fun c=>by
   unfold sm
   rw[<- W0,<- F7]
   refine u6 fun i _=>?_
   show (if c i=true then d i+mnf (cnt n a) (d i) else 0)=(if c i=true then d i else 0)+mnf (cnt n a) (d i) - (if c i=true then 0 else mnf (cnt n a) (d i))
   cases c i with
   | true=>rw[if_pos rfl,if_pos rfl,if_pos rfl];omega
   | false=>rw[if_neg (by decide),if_neg (by decide),if_neg (by decide)];omega
  rw[sp a,sp A]at r2
  unfold roomF at r1
  rw[hcA]at r1
  have low:S n (fun i=>if a i=true then 0 else mnf (cnt n a) (d i))<=sm n b d+cnt n a*((n:Int) - cnt n a - cnt n b):=by
   have e:cnt n a*((n:Int) - cnt n a - cnt n b)=S n (fun i=>cnt n a*(1 - b2 (a i) - b2 (b i))):=by
    rw[Z3,F7,F7,Q7,K7];rfl
   rw[e]
   unfold sm
   rw[<- W0]
   refine ag2 fun i hi=>?_
   cases ha:a i with
   | true =>
    have hb:=hab i ha
    rw[if_pos rfl,hb,if_neg (by decide),U5,O9]
    simp
   | false =>
    rw[if_neg (by decide),O9]
    cases b i with
    | true =>
     rw[if_pos rfl,U5]
     have:=bk8 (cnt n a) (d i)
     simp
     exact this
    | false =>
     rw[if_neg (by decide),O9]
     have:=bk7 (cnt n a) (d i)
     simp
     exact this
  have x:cnt n a*((n:Int) - 1 - cnt n b)=cnt n a*(cnt n a - 1)+cnt n a*((n:Int) - cnt n a - cnt n b):=by grind
  rw[x]
  omega
theorem be9 (K:aM7 n d)(A:Nat->Bool):0<=roomF n d A:=by
 have k:=K A (fun i=>!A i && decide (d i<cnt n A)) (fun i hi=>by simp[hi])
 have e:S n (fun i=>if A i=true then 0 else mnf (cnt n A) (d i))=sm n (fun i=>!A i && decide (d i<cnt n A)) d+cnt n A*((n:Int) - cnt n A - cnt n (fun i=>!A i && decide (d i<cnt n A))):=by
  have e1:cnt n A*((n:Int) - cnt n A - cnt n (fun i=>!A i && decide (d i<cnt n A)))=S n (fun i=>cnt n A*(1 - b2 (A i) - b2 (!A i && decide (d i<cnt n A)))):=by
   rw[Z3,F7,F7,Q7,K7];rfl
  rw[e1]
  unfold sm
  rw[<- W0]
  refine u6 fun i hi=>?_
  show (if A i=true then 0 else mnf (cnt n A) (d i))=(if (!A i && decide (d i<cnt n A))=true then d i else 0)+cnt n A*(1 - b2 (A i) - b2 (!A i && decide (d i<cnt n A)))
  cases hA:A i with
  | true=>simp[b2]
  | false =>
   generalize cnt n A=r
   by_cases c:d i<r
   ·rw[decide_eq_true c]
    simp[b2,mnf]
    omega
   ·rw[decide_eq_false c]
    simp[b2,mnf]
    omega
 unfold roomF
 rw[e]
 have x:cnt n A*((n:Int) - 1 - cnt n (fun i=>!A i && decide (d i<cnt n A)))=cnt n A*(cnt n A - 1)+cnt n A*((n:Int) - cnt n A - cnt n (fun i=>!A i && decide (d i<cnt n A))):=by grind
 rw[x]at k
 omega
theorem bD0 (hg:Gph g):∀ n:Nat,∃ q,S n (deg n g)=2*q:=by
 intro n
 induction n with
 | zero=>exact⟨0,rfl⟩
 | succ n ih =>
  obtain⟨q,hq⟩:=ih
  refine⟨q+S n (fun i=>b2 (g i n)),?_⟩
  show S n (deg (n+1) g)+deg (n+1) g n=_
  have e1:S n (deg (n+1) g)=S n (deg n g)+S n (fun i=>b2 (g i n)):=by rw[<- W0];rfl
  have e2:deg (n+1) g n=S n (fun i=>b2 (g i n)):=by
   show S n (fun j=>b2 (g n j))+b2 (g n n)=_
   rw[hg.irr,O9,u6 (g:=fun i=>b2 (g i n)) fun i _=>by rw[hg.sym]]
   omega
  rw[e1,e2,hq]
  omega
end Grf
namespace Web
def mn (r x:Int):Int:=if r<x then r else x
theorem aO1:∀ a b:List Int,(a++b).sum=a.sum+b.sum
 | [],b=>by simp
 | x::a,b=>by rw[cd0,G5,G5,aO1 a b,Int.add_assoc]
theorem as2:∀ a:List Int,a.reverse.sum=a.sum
 | []=>rfl
 | x::a=>by rw[List.reverse_cons,aO1,as2 a,G5,G5,List.sum_nil];omega
def up2 (ns:List Int):List Int:=PySem.W.sortI ns
theorem aA2 (ns:List Int):(up2 ns).length=ns.length:=(PySem.W.sortI_perm ns).length_eq
theorem bl8 (hp:zs.Perm ns)(hs:zs.Pairwise (·≥·)):zs=(up2 ns).reverse:=by
 have h:zs.reverse=up2 ns:=PySem.W.eq_sortI ((ab1 zs).trans hp) (by rw[ac4];exact hs)
 rw[<- h,List.reverse_reverse]
def part (m:Nat)(r:Int)(g:List Int):Int:=((g.take m).map (mn r)).sum - (g.drop m).sum
def as9 (ns:List Int)(r:Nat):Int:=(r:Int)*((r:Int) - 1)+part (ns.length - r) r (up2 ns)
theorem bf0 {r:Nat}(e:zs=(up2 ns).reverse):(r:Int)*((r:Int) - 1)+((zs.drop r).map (mn r)).sum - (zs.take r).sum=as9 ns r:=by
 unfold as9 part
 rw[e,cc5,cc6,cd6,as2,as2,aA2]
 omega
end Web
namespace Web
inductive Wl where
 | below (p:Nat) | odd | wall (r:Nat) | free
 deriving DecidableEq
def AllP (ns:List Int):Prop:=∀ (j:Nat) (x:Int),ns[j]?=some x->0<=x
def bi1 (ns:List Int):Wl->Prop
 | .below p=>(∃ x,ns[p]?=some x/\x<0)/\∀ (j:Nat) (x:Int),j<p->ns[j]?=some x->0<=x
 | .odd=>AllP ns/\ns.sum % 2=1
 | .wall r=>AllP ns/\¬ ns.sum % 2=1/\1<=r/\r<=ns.length/\as9 ns r<0/\∀ k,1<=k->k<r->0<=as9 ns k
 | .free=>AllP ns/\¬ ns.sum % 2=1/\∀ k,1<=k->k<=ns.length->0<=as9 ns k
theorem aN6 {w u:Wl}(h:bi1 ns w)(g:bi1 ns u):w=u:=by
 cases w with
 | below p =>
  obtain⟨⟨x,hx,hx0⟩,hp⟩:=h
  have no:¬ AllP ns:=fun a=>by have:=a p x hx;omega
  cases u with
  | below q =>
   obtain⟨⟨y,hy,hy0⟩,hq⟩:=g
   rcases ab5 p q with l | l | l
   ·have:=hq p x l hx;omega
   ·rw[l]
   ·have:=hp q y l hy;omega
  | odd=>exact absurd g.1 no
  | wall r=>exact absurd g.1 no
  | free=>exact absurd g.1 no
 | odd =>
  cases u with
  | below q =>
   obtain⟨⟨y,hy,hy0⟩,hq⟩:=g
   have:=h.1 q y hy;omega
  | odd=>rfl
  | wall r=>exact absurd h.2 g.2.1
  | free=>exact absurd h.2 g.2.1
 | wall r =>
  obtain⟨a,b,r1,r2,r3,r4⟩:=h
  cases u with
  | below q =>
   obtain⟨⟨y,hy,hy0⟩,hq⟩:=g
   have:=a q y hy;omega
  | odd=>exact absurd g.2 b
  | wall s =>
   obtain⟨_,_,s1,s2,s3,s4⟩:=g
   rcases ab5 r s with l | l | l
   ·have:=s4 r r1 l;omega
   ·rw[l]
   ·have:=r4 s s1 l;omega
  | free=>have:=g.2.2 r r1 r2;omega
 | free =>
  cases u with
  | below q =>
   obtain⟨⟨y,hy,hy0⟩,hq⟩:=g
   have:=h.1 q y hy;omega
  | odd=>exact absurd g.2 h.2.1
  | wall s =>
   obtain⟨_,_,s1,s2,s3,s4⟩:=g
   have:=h.2.2 s s1 s2;omega
  | free=>rfl
end Web
namespace Web
open L2
def rng (n:Nat):List Int:=(ap3 0 n).map fun k:Nat=>(k:Int)
theorem U1 {x:Int}:x∈rng n↔0<=x/\x<n:=by
 unfold rng
 constructor
 ·intro h
  obtain⟨k,hk,rfl⟩:=u5.mp h
  have:=aJ4.mp hk
  omega
 ·intro h
  exact u5.mpr ⟨x.toNat,aJ4.mpr ⟨by omega,by omega⟩,by omega⟩
theorem ad3 (n:Nat):(rng n).length=n:=by unfold rng;rw[b8,aI2]
theorem X8 (n:Nat):(rng n).Nodup:=by
 unfold rng
 refine List.Pairwise.map _ (fun a b h=>?_) (List.nodup_range' (step:=1) (by decide))
 intro e
 exact h (by omega)
def rest (zs:List Int)(p:Int):List Int:=zs.filter fun x=>decide (x≠p)
theorem aD8 {p x:Int}:x∈rest zs p↔x∈zs/\x≠p:=by unfold rest;rw[P9,decide_eq_true_iff]
theorem aX2 {p:Int}(hp:zs.Perm (rng n))(h0:0<=p)(h1:p<n):(rest zs p).length=n - 1:=by
 have nd:zs.Nodup:=hp.nodup_iff.mpr (X8 n)
 have hm:p∈zs:=hp.mem_iff.mpr (U1.mpr ⟨h0,h1⟩)
 have e:rest zs p=zs.erase p:=by
  unfold rest
  rw[nd.erase_eq_filter]
  congr 1
  funext x
  by_cases h:x=p<;>simp[h]
 rw[e,bn6 hm,hp.length_eq,ad3]
def ad9 (ns es:List Int)(i:Nat):Int:=if (i:Int)∈es then ns.getD i 0 - 1 else ns.getD i 0
def W8 (ns:List Int)(p:Nat)(es:List Int):List Int:=((u7 ns.length).filter fun i=>decide (i≠p)).map (ad9 ns es)
open Grf (S b2 Gph deg cnt sm Top roomF)
theorem bn4 (f:Nat->Int):∀ n:Nat,S n f=((u7 n).map f).sum
 | 0=>rfl
 | n+1=>by
  rw[G2,k8,aO1,<- bn4 f n]
  show S n f+f n=_+(f n+0)
  omega
theorem map_getD (φ:Int->Int)(xs:List Int):(u7 xs.length).map (fun i=>φ (xs.getD i 0))=xs.map φ:=by
 refine Q2 fun i=>?_
 rw[p8,p8]
 rcases B3 i xs.length with h | h
 ·rw[R1 h,k9 h]
  show some (φ (xs.getD i 0))=some (φ xs[i])
  rw[i8,k9 h]
  rfl
 ·rw[o6 h,o6 (by rw[v8];exact h)]
  rfl
theorem aH5 (φ:Int->Int)(xs:List Int):S xs.length (fun i=>φ (xs.getD i 0))=(xs.map φ).sum:=by rw[bn4,map_getD]
theorem aM5 (xs:List Int):S xs.length (fun i=>xs.getD i 0)=xs.sum:=by
 have:=aH5 (fun x=>x) xs
 rw[List.map_id']at this
 exact this
theorem bc2 {f:Nat->Int}:∀ {L:List Int},L.Nodup->(∀ z∈L,0<=z/\z<n)->S n (fun i=>if (i:Int)∈L then f i else 0)=(L.map fun z=>f z.toNat).sum
 | [],_,_=>by
  rw[Grf.u6 (g:=fun _=>0) fun i _=>by simp]
  exact Grf.P6 n
 | z::L,nd,h=>by
  obtain⟨h1,h2⟩:=E6.mp nd
  obtain⟨z0,z1⟩:=h z c9
  rw[o9,G5,<- bc2 h2 fun y hy=>h y (c7 _ hy)]
  rw[Grf.ac2 (j:=z.toNat) (f:=fun i=>if (i:Int)∈z::L then f i else 0) (g:=fun i=>if (i:Int)∈L then f i else 0) (by omega) (fun i _ hi=>by
   show (if (i:Int)∈z::L then f i else 0)=if (i:Int)∈L then f i else 0
   by_cases e:(i:Int)∈L
   ·rw[if_pos e,if_pos (c7 _ e)]
   ·rw[if_neg e,if_neg (fun c=>by
     rcases d8.mp c with c | c
     ·exact hi (by omega)
     ·exact e c)])]
  show _+((if ((z.toNat:Nat):Int)∈z::L then f z.toNat else 0) - (if ((z.toNat:Nat):Int)∈L then f z.toNat else 0))=_
  have ez:((z.toNat:Nat):Int)=z:=by omega
  rw[ez,if_pos c9,if_neg h1]
  omega
theorem bJ5 (ns:List Int):(rng ns.length).map (fun z=>ns.getD z.toNat 0)=ns:=by
 unfold rng
 rw[X3,<- ax8]
 have:=map_getD (fun x=>x) ns
 rw[List.map_id']at this
 exact this
theorem aE2 (hp:zs.Perm (rng ns.length))(hs:zs.Pairwise (ole ns)):zs.map (fun z=>ns.getD z.toNat 0)=(up2 ns).reverse:=by
 refine bl8 ?_ ?_
 ·have:=hp.map (fun z:Int=>ns.getD z.toNat 0)
  rw[bJ5]at this
  exact this
 ·refine List.Pairwise.map _ (fun a b h=>?_) hs
  have:=at3.mp h
  show ns.getD b.toNat 0<=ns.getD a.toNat 0
  omega
theorem ao1 (hp:zs.Perm (rng ns.length))(hs:zs.Pairwise (ole ns)){r:Nat}(hr:r<=ns.length) :
  cnt ns.length (fun i=>decide ((i:Int)∈zs.take r))=r/\Top ns.length (fun i=>ns.getD i 0) (fun i=>decide ((i:Int)∈zs.take r))/\roomF ns.length (fun i=>ns.getD i 0) (fun i=>decide ((i:Int)∈zs.take r))=as9 ns r:=by
 have nd:zs.Nodup:=hp.nodup_iff.mpr (X8 _)
 have hzl:zs.length=ns.length:=by rw[hp.length_eq,ad3]
 have hin:∀ z∈zs,0<=z/\z<(ns.length:Int):=fun z hz=>U1.mp (hp.mem_iff.mp hz)
 have ndA:(zs.take r).Nodup:=nd.sublist (K3 r zs)
 have ndB:(zs.drop r).Nodup:=nd.sublist (ab2 r zs)
 have inA:∀ z∈zs.take r,0<=z/\z<(ns.length:Int):=fun z hz=>hin z (G9 hz)
 have inB:∀ z∈zs.drop r,0<=z/\z<(ns.length:Int):=fun z hz=>hin z (P7 hz)
 have app:=nd
 rw[<- C4 r zs]at app
 have cross:=(aJ6.mp app).2.2
 have mem_or:∀ i:Nat,i<ns.length->(i:Int)∈zs.take r\/(i:Int)∈zs.drop r:=fun i hi=>by
  have:(i:Int)∈zs:=hp.mem_iff.mpr (U1.mpr ⟨by omega,by omega⟩)
  rw[<- C4 r zs]at this
  exact A7.mp this
 have hc:cnt ns.length (fun i=>decide ((i:Int)∈zs.take r))=r:=by
  have:=bc2 (n:=ns.length) (f:=fun _=>1) ndA inA
  have e:cnt ns.length (fun i=>decide ((i:Int)∈zs.take r))=S ns.length (fun i=>if (i:Int)∈zs.take r then 1 else 0):=Grf.u6 fun i _=>by
   by_cases c:(i:Int)∈zs.take r
   ·rw[if_pos c];simp[b2,c]
   ·rw[if_neg c];simp[b2,c]
  rw[e,this]
  have l:(zs.take r).length=r:=by rw[o8];omega
  have:∀ L:List Int,(L.map fun _=>(1:Int)).sum=L.length:=fun L=>by
   induction L with
   | nil=>rfl
   | cons a L ih=>rw[o9,G5,ih,o4];omega
  rw[this,l]
 refine⟨hc,fun i j hi hj h1 h2=>?_,?_⟩
 ·have a1:(i:Int)∈zs.take r:=of_decide_eq_true h1
  have a2:(j:Int)∈zs.drop r:=(mem_or j hj).resolve_left (of_decide_eq_false h2)
  have pw:=hs
  rw[<- C4 r zs]at pw
  have:=at3.mp ((A5.mp pw).2.2 _ a1 _ a2)
  rw[p0,p0]at this
  show ns.getD j 0<=ns.getD i 0
  omega
 ·have of:=aE2 hp hs
  have rm:=bf0 (ns:=ns) (r:=r) of
  unfold roomF
  rw[hc,<- rm,<- aI0,<- aI1,X3]
  have s1:sm ns.length (fun i=>decide ((i:Int)∈zs.take r)) (fun i=>ns.getD i 0)=((zs.take r).map fun z=>ns.getD z.toNat 0).sum:=by
   rw[<- bc2 (n:=ns.length) (f:=fun i=>ns.getD i 0) ndA inA]
   refine Grf.u6 fun i _=>?_
   show (if decide ((i:Int)∈zs.take r)=true then ns.getD i 0 else 0)=_
   by_cases c:(i:Int)∈zs.take r
   ·rw[if_pos c,decide_eq_true c,if_pos rfl]
   ·rw[if_neg c,decide_eq_false c,if_neg (by decide)]
  have s2:S ns.length (fun i=>if decide ((i:Int)∈zs.take r)=true then 0 else Grf.mnf r (ns.getD i 0))=((zs.drop r).map (mn r ∘ fun z=>ns.getD z.toNat 0)).sum:=by
   have:=bc2 (n:=ns.length) (f:=fun i=>mn r (ns.getD i 0)) ndB inB
   show _=((zs.drop r).map fun z=>mn r (ns.getD z.toNat 0)).sum
   rw[<- this]
   refine Grf.u6 fun i hi=>?_
   by_cases c:(i:Int)∈zs.take r
   ·rw[decide_eq_true c,if_pos rfl,if_neg (fun z=>cross _ c _ z rfl)]
   ·rw[decide_eq_false c,if_neg (by decide),if_pos ((mem_or i hi).resolve_left c)]
    rfl
  rw[s1,s2]
theorem aw4 (ns:List Int):∃ zs:List Int,zs.Perm (rng ns.length)/\zs.Pairwise (ole ns):=by
 let le:Int->Int->Bool:=fun x y=>decide (ns.getD y.toNat 0<ns.getD x.toNat 0\/(ns.getD x.toNat 0=ns.getD y.toNat 0/\x<=y))
 refine⟨(rng ns.length).mergeSort le,List.mergeSort_perm _ _,?_⟩
 have:=List.pairwise_mergeSort (le:=le) (fun a b c h1 h2=>?_) (fun a b=>?_) (rng ns.length)
 ·exact this.imp fun h=>at3.mpr (of_decide_eq_true h)
 ·have g1:=of_decide_eq_true h1
  have g2:=of_decide_eq_true h2
  exact decide_eq_true (by omega)
 ·rw[Bool.or_eq_true]
  by_cases h:ns.getD b.toNat 0<ns.getD a.toNat 0\/(ns.getD a.toNat 0=ns.getD b.toNat 0/\a<=b)
  ·exact .inl (decide_eq_true h)
  ·exact .inr (decide_eq_true (by omega))
def Gr (ns:List Int):Prop:=∃ g,Gph g/\∀ i,i<ns.length->deg ns.length g i=ns.getD i 0
theorem Z1 (h:AllP ns)(hi:i<ns.length):0<=ns.getD i 0:=by
 rw[i8,k9 hi]
 exact h i _ (k9 hi)
theorem bN8 (h:bi1 ns .free):Gr ns:=by
 obtain⟨h1,h2,h3⟩:=h
 obtain⟨zs,hp,hs⟩:=aw4 ns
 have hd:∀ i,i<ns.length->0<=ns.getD i 0:=fun i hi=>Z1 h1 hi
 have K:=Grf.bg7 (d:=fun i=>ns.getD i 0) hd fun r r1 r2=>by
  obtain⟨a1,a2,a3⟩:=ao1 hp hs r2
  exact⟨_,a1,a2,by rw[a3];exact h3 r r1 r2⟩
 have s0:0<=ns.sum:=by rw[<- aM5];exact Grf.Z2 hd
 obtain⟨g,hg,dg⟩:=Grf.bB5 (ns.sum / 2).toNat ns.length (fun i=>ns.getD i 0) hd K (by rw[aM5];omega)
 exact⟨g,hg,dg⟩
theorem aF8 (h:Gr ns):AllP ns:=by
 obtain⟨g,hg,dg⟩:=h
 intro j x hx
 have hj:j<ns.length:=by
  rcases B3 j ns.length with h | h
  ·exact h
  ·rw[o6 h]at hx;cases hx
 have:=dg j hj
 rw[i8,hx]at this
 have e:deg ns.length g j=x:=this
 rw[<- e]
 exact Grf.Z2 fun i _=>Grf.J0 _
theorem bN5 (h:Gr ns):bi1 ns .free:=by
 have pos:=aF8 h
 obtain⟨g,hg,dg⟩:=h
 refine⟨pos,?_,fun k k1 k2=>?_⟩
 ·obtain⟨q,hq⟩:=Grf.bD0 hg ns.length
  rw[Grf.u6 (g:=fun i=>ns.getD i 0) fun i hi=>dg i hi,aM5]at hq
  omega
 ·obtain⟨zs,hp,hs⟩:=aw4 ns
  obtain⟨_,_,a3⟩:=ao1 hp hs k2
  rw[<- a3]
  exact Grf.be9 (Grf.bA2 hg dg) _
end Web
namespace Web
open L2
open Grf (S b2 Gph deg X7)
theorem bu1 (h:i<n):(tal n ks).getD i 0=(W4 ks i:Int):=by
 rw[i8,ad2 h];rfl
theorem bK3 (h1:i<j)(h2:j<n):[(i:Int),(j:Int)]∈ae7 n:=by
 unfold ae7
 refine cd5.mpr ⟨i,B9.mpr (by omega),?_⟩
 unfold ao9
 exact u5.mpr ⟨j - (i+1),B9.mpr (by omega),by
  rw[show ((j - (i+1):Nat):Int)=(j:Int) - ((i:Int)+1) by omega]
  rw[show (i:Int)+1+((j:Int) - ((i:Int)+1))=(j:Int) by omega]⟩
end Web
namespace Web
open L2
open Grf (S b2 Gph deg cnt sm Top roomF)
def sk (p i:Nat):Nat:=if i<p then i else i+1
theorem bQ9 (p i:Nat):sk p i≠p:=by unfold sk;split<;>omega
theorem bR0 (h:i<n - 1)(hp:p<n):sk p i<n:=by unfold sk;split<;>omega
theorem bi0 (f:Nat->Int):∀ {n:Nat},p<n->S n f=S (n - 1) (fun j=>f (sk p j))+f p
 | n+1,h=>by
  show S n f+f n=S n (fun j=>f (sk p j))+f p
  by_cases e:p=n
  ·subst e
   rw[Grf.u6 (g:=fun j=>f (sk p j)) fun i hi=>by show f i=f (sk p i);unfold sk;rw[if_pos hi]]
  ·have hp:p<n:=by omega
   rw[bi0 f hp]
   obtain⟨m,rfl⟩:∃ m,n=m+1:=⟨n - 1,by omega⟩
   have e1:sk p m=m+1:=by unfold sk;rw[if_neg (by omega)]
   show S m (fun j=>f (sk p j))+f p+f (m+1)=S m (fun j=>f (sk p j))+f (sk p m)+f p
   rw[e1]
   omega
theorem ae2:∀ {n:Nat},p<n->(u7 n).filter (fun i=>decide (i≠p))=(u7 (n - 1)).map (sk p)
 | n+1,h=>by
  rw[G2,S9,ak3]
  by_cases e:p=n
  ·subst e
   have e1:[p].filter (fun i=>decide (i≠p))=[]:=by simp
   rw[e1,D9,List.filter_eq_self.mpr fun a ha=>decide_eq_true (by have:=B9.mp ha;omega)]
   conv=>lhs;rw[<- List.map_id (u7 p)]
   exact R3 fun a ha=>by
    show a=sk p a
    unfold sk;rw[if_pos (B9.mp ha)]
  ·have hp:p<n:=by omega
   have e1:[n].filter (fun i=>decide (i≠p))=[n]:=by
    rw[aT3,if_pos (decide_eq_true (Ne.symm e))];rfl
   rw[e1,ae2 hp]
   obtain⟨m,rfl⟩:∃ m,n=m+1:=⟨n - 1,by omega⟩
   have e2:sk p m=m+1:=by unfold sk;rw[if_neg (by omega)]
   rw[ak3,G2 (n:=m),k8,List.map_singleton,e2]
theorem ba1 {es:List Int}(h:p<ns.length):W8 ns p es=(u7 (ns.length - 1)).map fun i=>ad9 ns es (sk p i):=by
 unfold W8
 rw[ae2 h,X3]
 rfl
theorem ao3 {es:List Int}(h:p<ns.length):(W8 ns p es).length=ns.length - 1:=by rw[ba1 h,b8,v8]
theorem aK9 {es:List Int}(h:p<ns.length)(hi:i<ns.length - 1):(W8 ns p es).getD i 0=ad9 ns es (sk p i):=by
 rw[ba1 h,i8,p8,R1 hi]
 rfl
theorem bl3 (h:Gr ns)(hi:i<ns.length):ns.getD i 0<ns.length:=by
 obtain⟨g,hg,hd⟩:=h
 rw[<- hd i hi]
 unfold deg
 rw[bi0 (p:=i) _ hi,hg.irr]
 have h1:S (ns.length - 1) (fun j=>b2 (g i (sk i j)))<=S (ns.length - 1) (fun _=>1):=Grf.ag2 fun j _=>Grf.aM4 _
 rw[Grf.Q7]at h1
 have:b2 false=0:=rfl
 omega
theorem bN4 {es:List Int} (h:Gr ns) (hp:p<ns.length) (nd:es.Nodup) (he:∀ z∈es,0<=z/\z<ns.length/\z≠p) (hl:(es.length:Int)=ns.getD p 0)
  (ht:∀ x∈es,∀ y:Nat,y<ns.length->(y:Int)∉es->y≠p->ns.getD y 0<=ns.getD x.toNat 0):Gr (W8 ns p es):=by
 obtain⟨g,hg,hd⟩:=h
 have hs:S ns.length (fun j=>b2 (decide ((j:Int)∈es)))=(es.length:Int):=by
  rw[Grf.u6 (g:=fun i=>if (i:Int)∈es then 1 else 0) fun i _=>by
   by_cases e:(i:Int)∈es
   ·rw[decide_eq_true e,if_pos e];rfl
   ·rw[decide_eq_false e,if_neg e];rfl]
  rw[bc2 (f:=fun _=>1) nd fun z hz=>⟨(he z hz).1,(he z hz).2.1⟩]
  clear he hl ht nd
  induction es with
  | nil=>rfl
  | cons a es ih=>rw[o9,G5,ih,o4];omega
 have hNp:decide ((p:Int)∈es)=false:=decide_eq_false fun m=>(he _ m).2.2 rfl
 have hm:0<=S ns.length (fun j=>b2 (decide ((j:Int)∈es) && !g p j)):=Grf.Z2 fun i _=>Grf.J0 _
 obtain⟨g',k1,k2,k3⟩:=Grf.ci8 (N:=fun j=>decide ((j:Int)∈es)) hp hNp (S ns.length (fun j=>b2 (decide ((j:Int)∈es) && !g p j))).toNat g hg (by rw[hs,hl,hd p hp])
  (fun x y hx hy hNx hNy hyp => by
   rw[hd x hx,hd y hy]
   have:=ht x (of_decide_eq_true hNx) y hy (of_decide_eq_false hNy) hyp
   rw[p0]at this
   exact this) (by omega)
 refine⟨fun i j=>g' (sk p i) (sk p j),⟨fun i j=>k1.sym _ _,fun i=>k1.irr _⟩,fun i hi=>?_⟩
 rw[ao3 hp]at hi ⊢
 rw[aK9 hp hi]
 have hsk:=bR0 (p:=p) hi hp
 have e1:=k2 _ hsk
 rw[hd _ hsk]at e1
 have e2:deg ns.length g' (sk p i)=S (ns.length - 1) (fun j=>b2 (g' (sk p i) (sk p j)))+b2 (g' (sk p i) p):=bi0 (p:=p) _ hp
 rw[e2,k1.sym (sk p i) p,k3 _ hsk]at e1
 show S (ns.length - 1) (fun j=>b2 (g' (sk p i) (sk p j)))=_
 generalize S (ns.length - 1) (fun j=>b2 (g' (sk p i) (sk p j)))=q at e1
 unfold ad9
 by_cases e:((sk p i:Nat):Int)∈es
 ·rw[decide_eq_true e]at e1
  rw[if_pos e]
  have:b2 true=1:=rfl
  omega
 ·rw[decide_eq_false e]at e1
  rw[if_neg e]
  have:b2 false=0:=rfl
  omega
theorem bB6 (h:Gr ns)(hp:p<ns.length)(hz:zs.Perm (rng ns.length))(hs:zs.Pairwise (ole ns)):Gr (W8 ns p ((rest zs p).take (ns.getD p 0).toNat)):=by
 have nz:(rest zs p).Nodup:=(hz.nodup_iff.mpr (X8 ns.length)).filter _
 have srt:(rest zs p).Pairwise (ole ns):=hs.filter _
 have h1:=bl3 h hp
 have h0:=Z1 (aF8 h) hp
 have hl:=aX2 hz (p:=p) (by omega) (by omega)
 refine bN4 h hp (nz.sublist (K3 _ _)) (fun z m=>?_) ?_ (fun x hx y hy hny hyp=>?_)
 ·obtain⟨m1,m2⟩:=aD8.mp (G9 m)
  obtain⟨c0,c1⟩:=U1.mp (hz.mem_iff.mp m1)
  exact⟨c0,c1,m2⟩
 ·rw[o8]
  omega
 ·have hyr:(y:Int)∈rest zs p:=aD8.mpr ⟨hz.mem_iff.mpr (U1.mpr ⟨by omega,by omega⟩),by omega⟩
  have e:=C4 (ns.getD p 0).toNat (rest zs p)
  rw[<- e]at hyr srt
  rcases A7.mp hyr with m | m
  ·exact absurd m hny
  ·have:=(A5.mp srt).2.2 x hx y m
   rcases at3.mp this with t | t
   ·rw[p0]at t;omega
   ·rw[p0]at t;omega
end Web
namespace Web
open L2
theorem up_eq {a b c d:Int}(h:up [a,b]=up [c,d]):(a=c/\b=d)\/(a=d/\b=c):=by
 unfold up at h
 injection h with h1 h2
 injection h2 with h2 _
 split at h1<;>split at h1<;>split at h2<;>split at h2<;>omega
def star (a:Int)(bs:List Int):List (List Int):=bs.map fun b=>[a,b]
theorem aG8 {a:Int}{q:Nat}:∀ {bs:List Int},a∉bs->W4 (star a bs) q=if (q:Int)=a then bs.length else bs.count (q:Int)
 | [],_=>by
  split<;>rfl
 | b::bs,h=>by
  have hb:a≠b:=fun e=>h (e ▸ c9)
  have hbs:a∉bs:=fun m=>h (c7 _ m)
  have ih:=aG8 (q:=q) hbs
  unfold star W4 at ih ⊢
  rw[o9,aq2,ih,List.count_cons,o4]
  by_cases e:(q:Int)=a
  ·rw[if_pos e,if_pos e,if_pos (decide_eq_true (by rw[e];exact c9))]
  ·rw[if_neg e,if_neg e]
   by_cases e2:(q:Int)=b
   ·rw[if_pos (decide_eq_true (by rw[e2];exact c7 _ c9)),if_pos (by rw[e2];exact beq_self_eq_true b)]
   ·rw[if_neg (by
     intro z
     have:=of_decide_eq_true z
     rcases d8.mp this with t | t
     ·exact e t
     ·exact e2 (B5.mp t)),if_neg (by rw[beq_iff_eq];exact fun z=>e2 z.symm)]
theorem ax2 {q:Int}:∀ {bs:List Int},bs.Nodup->bs.count q=if q∈bs then 1 else 0
 | [],_=>by rw[if_neg (by simp)];rfl
 | b::bs,nd=>by
  obtain⟨h1,h2⟩:=E6.mp nd
  rw[List.count_cons,ax2 h2]
  by_cases e:b=q
  ·subst e
   rw[if_neg h1,if_pos c9,if_pos (beq_self_eq_true b)]
  ·rw[show (b == q)=false from beq_eq_false_iff_ne.mpr e]
   by_cases m:q∈bs
   ·rw[if_pos m,if_pos (c7 _ m)];rfl
   ·have m2:¬ q∈b::bs:=fun z=>by
     rcases d8.mp z with t | t
     ·exact e t.symm
     ·exact m t
    rw[if_neg m,if_neg m2];rfl
structure am8 (ns ps left:List Int) (ks:List (List Int)):Prop where
 len:left.length=ps.length
 nd:ps.Nodup
 inn:∀ q∈ps,0<=q/\q<ns.length
 ends:∀ k∈ks,an0 ns.length k
 nodup:(ks.map up).Nodup
 out:∀ a b:Int,[a,b]∈ks->¬ (a∈ps/\b∈ps)
 cnt:∀ i q:Nat,ps[i]?=some (q:Int)->(W4 ks q:Int)+left.getD i 0=ns.getD q 0
 done:∀ q:Nat,q<ns.length->(q:Int)∉ps->(W4 ks q:Int)=ns.getD q 0
theorem aZ0 {ps:List Int}(nd:ps.Nodup){a:Int}(h1:ps[i]?=some a)(h2:ps[j]?=some a):i=j:=by
 have hi:i<ps.length:=by
  rcases B3 i ps.length with h | h
  ·exact h
  ·rw[o6 h]at h1;cases h1
 exact(List.getElem?_inj hi nd).mp (h1.trans h2.symm)
theorem bl5 {ps:List Int}{a:Int}(h:ps[i]?=some a):ps.getD i 0=a:=by rw[i8,h];rfl
theorem bh1 {ps:List Int}(h:i<ps.length):ps[i]?=some (ps.getD i 0):=by
 rw[i8,k9 h];rfl
theorem am8.step {ps left ps' es:List Int}{a:Int}(h:am8 ns ps left ks)(hj:ps[j]?=some a)(sub:ps'.Sublist ps)(hl:ps'.length=ps.length - 1)(hix:∀ i,i<ps.length - 1->ps'[i]?=ps[sk j i]?)
  (ne:es.Nodup)(he:∀ z∈es,0<=z/\z<ps.length/\z≠j)(hn:(es.length:Int)=left.getD j 0) :
  am8 ns ps' (W8 left j es) (ks++star a (es.map fun z=>ps.getD z.toNat 0)):=by
 have hjl:j<ps.length:=by
  rcases B3 j ps.length with h | h
  ·exact h
  ·rw[o6 h]at hj;cases hj
 have hjl':j<left.length:=by rw[h.len];exact hjl
 have haps:a∈ps:=i7 hj
 have bget:∀ z∈es,ps[z.toNat]?=some (ps.getD z.toNat 0):=fun z hz=>bh1 (by have:=he z hz;omega)
 have bmem:∀ b∈es.map (fun z=>ps.getD z.toNat 0),b∈ps:=fun b hb=>by
  obtain⟨z,hz,rfl⟩:=u5.mp hb
  exact i7 (bget z hz)
 have anb:a∉es.map (fun z=>ps.getD z.toNat 0):=fun m=>by
  obtain⟨z,hz,e⟩:=u5.mp m
  have h1:=bget z hz
  rw[e]at h1
  have:=aZ0 h.nd h1 hj
  have:=he z hz
  omega
 have ndb:(es.map (fun z=>ps.getD z.toNat 0)).Nodup:=by
  refine J8.mpr ?_
  rw[F5]
  refine List.Pairwise.imp_of_mem ?_ (J8.mp ne)
  intro x y hx hy hxy e
  have h1:=bget x hx
  rw[e]at h1
  have:=aZ0 h.nd h1 (bget y hy)
  have:=he x hx
  have:=he y hy
  exact hxy (by omega)
 have ap:a∉ps':=fun m=>by
  obtain⟨i,hi⟩:=p6.mp m
  have hil:i<ps.length - 1:=by
   rcases B3 i ps'.length with h | h
   ·omega
   ·rw[o6 h]at hi;cases hi
  rw[hix i hil]at hi
  exact bQ9 j i (aZ0 h.nd hi hj)
 have bin:∀ (i q:Nat),ps[i]?=some (q:Int)->((q:Int)∈es.map (fun z=>ps.getD z.toNat 0)↔(i:Int)∈es):=fun i q hi=>by
  constructor
  ·intro m
   obtain⟨z,hz,e⟩:=u5.mp m
   have h1:=bget z hz
   rw[e]at h1
   have:=aZ0 h.nd h1 hi
   have:=he z hz
   rwa [show (i:Int)=z by omega]
  ·intro m
   refine u5.mpr ⟨i,m,?_⟩
   rw[p0]
   exact bl5 hi
 refine⟨by rw[ao3 hjl',hl,h.len],h.nd.sublist sub,fun q hq=>h.inn q (sub.subset hq),fun k hk=>?_,?_,fun c d hk=>?_,fun i q hi=>?_,fun q hq hnq=>?_⟩
 ·rcases A7.mp hk with hk | hk
  ·exact h.ends k hk
  ·obtain⟨b,hb,rfl⟩:=u5.mp hk
   have h1:=h.inn a haps
   have h2:=h.inn b (bmem b hb)
   have h3:a≠b:=fun e=>anb (e ▸ hb)
   exact⟨a.toNat,b.toNat,by omega,by omega,by omega,by rw[bT0 h1.1,bT0 h2.1]⟩
 ·rw[k8,aJ6]
  refine⟨h.nodup,?_,fun x hx y hy e=>?_⟩
  ·unfold star
   rw[X3]
   refine J8.mpr ?_
   rw[F5]
   refine List.Pairwise.imp_of_mem ?_ (J8.mp ndb)
   intro x y hx hy hxy e
   rcases up_eq e with t | t
   ·exact hxy t.2
   ·exact anb (t.1 ▸ hy)
  ·obtain⟨k,hk,rfl⟩:=u5.mp hx
   obtain⟨k2,hk2,rfl⟩:=u5.mp hy
   obtain⟨b,hb,rfl⟩:=u5.mp hk2
   obtain⟨u,v,_,_,_,rfl⟩:=h.ends k hk
   refine h.out _ _ hk ?_
   rcases up_eq e with t | t
   ·rw[t.1,t.2];exact⟨haps,bmem b hb⟩
   ·rw[t.1,t.2];exact⟨bmem b hb,haps⟩
 ·rcases A7.mp hk with hk | hk
  ·exact fun z=>h.out c d hk ⟨sub.subset z.1,sub.subset z.2⟩
  ·obtain⟨b,hb,e⟩:=u5.mp hk
   injection e with e1 _
   intro z
   exact ap (e1 ▸ z.1)
 ·have hil:i<ps.length - 1:=by
   rcases B3 i ps'.length with h | h
   ·omega
   ·rw[o6 h]at hi;cases hi
  rw[hix i hil]at hi
  have hc:=h.cnt _ q hi
  have hqa:¬ (q:Int)=a:=fun e=>by
   rw[e]at hi
   exact bQ9 j i (aZ0 h.nd hi hj)
  rw[aK9 hjl' (by rw[h.len];exact hil),aG9,aG8 anb,if_neg hqa,ax2 ndb]
  unfold ad9
  by_cases m:((sk j i:Nat):Int)∈es
  ·rw[if_pos ((bin _ q hi).mpr m),if_pos m];omega
  ·rw[if_neg (fun z=>m ((bin _ q hi).mp z)),if_neg m];omega
 ·rw[aG9,aG8 anb]
  by_cases e:(q:Int)=a
  ·have hc:=h.cnt j q (by rw[e];exact hj)
   rw[if_pos e,b8]
   omega
  ·rw[if_neg e,ax2 ndb]
   have hq':(q:Int)∉ps:=fun m=>by
    obtain⟨m',hm'⟩:=p6.mp m
    have hml:m'<ps.length:=by
     rcases B3 m' ps.length with h | h
     ·exact h
     ·rw[o6 h]at hm';cases hm'
    have hmj:m'≠j:=fun z=>by rw[z,hj]at hm';injection hm' with hm';exact e hm'.symm
    obtain⟨i,hi,hik⟩:∃ i,i<ps.length - 1/\sk j i=m':=by
     rcases B3 m' j with t | t
     ·exact⟨m',by omega,by unfold sk;rw[if_pos t]⟩
     ·exact⟨m' - 1,by omega,by unfold sk;rw[if_neg (by omega)];omega⟩
    have:=hix i hi
    rw[hik,hm']at this
    exact hnq (i7 this)
   rw[if_neg (fun m=>hq' (bmem _ m)),h.done q hq hq' |>.symm]
   omega
theorem am8.last {left:List Int}(h:am8 ns [] left ks):tal ns.length ks=ns:=by
 apply Q2
 intro i
 rcases B3 i ns.length with hi | hi
 ·rw[ad2 hi,h.done i hi (by simp),bh1 hi]
 ·rw[o6 (by rw[ad1];exact hi),o6 hi]
theorem aP4 (h:i<n):(rng n)[i]?=some (i:Int):=by
 unfold rng
 rw[p8,List.getElem?_range' h]
 simp
theorem am8.first (ns:List Int):am8 ns (rng ns.length) ns [] where
 len:=(ad3 _).symm
 nd:=X8 _
 inn:=fun q hq=>U1.mp hq
 ends:=fun k hk=>absurd hk (by simp)
 nodup:=by simp
 out:=fun a b hk=>absurd hk (by simp)
 cnt:=fun i q hi=>by
  have hil:i<ns.length:=by
   rcases B3 i (rng ns.length).length with h | h
   ·rw[ad3]at h;exact h
   ·rw[o6 h]at hi;cases hi
  rw[aP4 hil]at hi
  injection hi with hi
  rw[show q=i by omega]
  show (0:Int)+_=_
  omega
 done:=fun q hq hn=>absurd (U1.mpr ⟨by omega,by omega⟩) hn
theorem aE4:∀ {xs ys:List Int},xs.Perm ys->xs.Pairwise (ole ns)->ys.Pairwise (ole ns)->xs=ys
 | [],ys,p,_,_=>p.symm.eq_nil.symm
 | x::xs,[],p,_,_=>by
  have:=p.length_eq
  simp at this
 | x::xs,y::ys,p,h,q=>by
  have hxy:x=y:=by
   have h1:x∈y::ys:=p.mem_iff.mp c9
   have h2:y∈x::xs:=p.mem_iff.mpr c9
   rcases d8.mp h1 with e | e
   ·exact e
   ·rcases d8.mp h2 with e2 | e2
    ·exact e2.symm
    ·exact aY2 ((G4.mp h).1 y e2) ((G4.mp q).1 x e)
  subst hxy
  rw[aE4 ((List.perm_cons x).mp p) (G4.mp h).2 (G4.mp q).2]
theorem aY8:∀ {l m:List (List Int)},l.Nodup->(∀ x∈l,x∈m)->l.length<=m.length
 | [],m,_,_=>v9 _
 | x::l,m,nd,h=>by
  have h1:=E6.mp nd
  have hm:=h x c9
  have h2:∀ y∈l,y∈m.erase x:=fun y hy=>by
   have hne:y≠x:=fun e=>h1.1 (e ▸ hy)
   exact(List.mem_erase_of_ne hne).mpr (h y (c7 _ hy))
  have h3:=aY8 h1.2 h2
  rw[bn6 hm]at h3
  have h4:0<m.length:=List.length_pos_of_mem hm
  simp only[o4]
  omega
theorem aN8 (hn:n<=24)(nd:ks.Nodup)(h:∀ k∈ks,Up n k):ks.length<=276:=
 A8 (aY8 nd fun k hk=>by
  obtain⟨i,j,h1,h2,rfl⟩:=h k hk
  exact bK3 h1 h2) (aK7 n hn)
theorem am8.len_le {ps left:List Int}(h:am8 ns ps left ks)(hn:ns.length<=24):ks.length<=276:=by
 have:=aN8 hn h.nodup fun k hk=>by
  obtain⟨k',hk',rfl⟩:=u5.mp hk
  exact(h.ends k' hk').up
 rw[b8]at this
 exact this
theorem bD4 {q:Nat}:∀ {ks:List (List Int)},(∀ k∈ks,an0 n k)->W4 (ks.map up) q=W4 ks q
 | [],_=>rfl
 | k::ks,h=>by
  have ih:=bD4 (q:=q) fun k hk=>h k (c7 _ hk)
  unfold W4 at ih ⊢
  rw[o9,aq2,aq2,ih]
  congr 1
  obtain⟨i,j,_,_,_,rfl⟩:=h k c9
  have e:((q:Int)∈up [(i:Int),(j:Int)])↔(q:Int)∈[(i:Int),(j:Int)]:=by
   unfold up
   simp only[d8,R8,or_false]
   split<;>split<;>omega
  by_cases z:(q:Int)∈[(i:Int),(j:Int)]
  ·rw[decide_eq_true z,decide_eq_true (e.mpr z)]
  ·rw[decide_eq_false z,decide_eq_false (fun t=>z (e.mp t))]
theorem bV0 (h:∀ k∈ks,an0 n k):tal n (ks.map up)=tal n ks:=by
 unfold tal
 refine R3 fun p _=>?_
 rw[bD4 h]
noncomputable def bK4 (ns:List Int):List Int:=Classical.choose (aw4 ns)
theorem ag0 (ns:List Int):(bK4 ns).Perm (rng ns.length):=(Classical.choose_spec (aw4 ns)).1
theorem aK5 (ns:List Int):(bK4 ns).Pairwise (ole ns):=(Classical.choose_spec (aw4 ns)).2
theorem bk2 (hp:zs.Perm (rng ns.length))(hs:zs.Pairwise (ole ns)):zs=bK4 ns:=aE4 (hp.trans (ag0 ns).symm) hs (aK5 ns)
noncomputable def chF (ns:List Int)(p:Nat):List Int:=(rest (bK4 ns) p).take (ns.getD p 0).toNat
theorem bD8 (ns:List Int)(p:Nat):(chF ns p).Nodup:=(((ag0 ns).nodup_iff.mpr (X8 ns.length)).filter _).sublist (K3 _ _)
theorem bh5 {z:Int}(h:z∈chF ns p):0<=z/\z<ns.length/\z≠p:=by
 obtain⟨m1,m2⟩:=aD8.mp (G9 h)
 obtain⟨c0,c1⟩:=U1.mp ((ag0 ns).mem_iff.mp m1)
 exact⟨c0,c1,m2⟩
theorem aS3 (h:Gr ns)(hp:p<ns.length):((chF ns p).length:Int)=ns.getD p 0:=by
 have h1:=bl3 h hp
 have h0:=Z1 (aF8 h) hp
 have hl:=aX2 (ag0 ns) (p:=(p:Int)) (by omega) (by omega)
 unfold chF
 rw[o8]
 omega
theorem bD9 (h:Gr ns)(hp:p<ns.length):Gr (W8 ns p (chF ns p)):=bB6 h hp (ag0 ns) (aK5 ns)
noncomputable def bA1:Nat->List Int->List Int->List (List Int)
 | 0,_,_=>[]
 | m+1,left,ps=>star (ps.getD 0 0) ((chF left 0).map fun z=>ps.getD z.toNat 0)++bA1 m (W8 left 0 (chF left 0)) (ps.drop 1)
theorem am8.go {ps left:List Int}(h:am8 ns ps left ks)(hg:Gr left)(h0:0<left.length) :
  am8 ns (ps.drop 1) (W8 left 0 (chF left 0)) (ks++star (ps.getD 0 0) ((chF left 0).map fun z=>ps.getD z.toNat 0)):=by
 have hl:=h.len
 refine h.step (bh1 (by omega)) (ab2 1 ps) (by rw[E7]) (fun i hi=>?_) (bD8 left 0) (fun z hz=>?_) (aS3 hg h0)
 ·rw[S7]
  congr 1
  unfold sk
  rw[if_neg (by omega)]
  omega
 ·have:=bh5 hz
  omega
def O6 (n p:Nat):List Int:=((u7 n).filter fun i=>decide (i≠p)).map fun i:Nat=>(i:Int)
theorem am8.start {es:List Int}(hp:p<ns.length)(ne:es.Nodup)(he:∀ z∈es,0<=z/\z<ns.length/\z≠p)(hn:(es.length:Int)=ns.getD p 0):am8 ns (O6 ns.length p) (W8 ns p es) (star p es):=by
 have:=(am8.first ns).step (j:=p) (a:=(p:Int)) (ps':=O6 ns.length p) (es:=es) (aP4 hp) ?_ ?_ ?_ ne (fun z hz=>by rw[ad3];exact he z hz) hn
 ·have e:es.map (fun z=>(rng ns.length).getD z.toNat 0)=es:=by
   conv=>rhs;rw[<- List.map_id es]
   refine R3 fun z hz=>?_
   have:=he z hz
   rw[bl5 (aP4 (n:=ns.length) (i:=z.toNat) (by omega))]
   show ((z.toNat:Nat):Int)=z
   omega
  rw[e,Q1]at this
  exact this
 ·unfold O6 rng
  rw[<- ax8]
  exact List.Sublist.map _ bP5
 ·unfold O6
  rw[ae2 hp,b8,b8,v8,ad3]
 ·intro i hi
  rw[ad3]at hi
  unfold O6
  rw[ae2 hp,p8,p8,R1 hi,aP4 (bR0 hi hp)]
  rfl
end Web
namespace Tim
open PySem PyProof.Rows
section
variable {p:Array (Nat × Nat × Nat)} {O:aN3} {f:Keyed->O.α}
end
end Tim
namespace L2
open PySem PySem.Spec PyProof.Rows
section
variable {σ:St}
end
end L2
namespace HT
open PySem PyProof.Rows
section
open PySem.SeqAt
open PySem.AutoSeq1 (wpAny_loadPart')
open PySem.MeetsSeq PySem.MeetsSeq2 PySem.MeetsSeq3
end
end HT
namespace L2
open PySem PySem.Spec PyProof.Rows
def ch2:R2:=fun x y H Q=>∃ l b xs zs,x=.ref l/\y=.ref b/\H l=some (.lst xs)/\H b=some (.lst zs)/\xs.length+zs.length<=1000/\Q (.ref l) (upd H l (.lst (xs++zs)))
theorem bg9:fillsInplaceSlot (.type "list") "add" true=pure false:=by
 unfold fillsInplaceSlot
 show (typeLookup (.type "list") (dunderI "add") >>= fun fi=>pure (fi.isSome && !isSeqSlot fi))=pure false
 rw[F.slot_list_iadd.lookup]
 rw[pure_bind]
 congr 1
theorem bq7:seqSlot? (.type "list") (dunderI "add")=pure (some (.builtin "list.__iadd__")):=by
 unfold seqSlot?
 rw[F.slot_list_iadd.lookup]
 rfl
theorem bA9:PIp X .Add ch2:=by
 intro pins s σ H x y v u Q I rx ry h
 obtain⟨l,b,xs,zs,rfl,rfl,hH,hB,hz,q⟩:=h
 cases rx
 cases ry
 obtain⟨z,its,n,r,hl,e⟩:=I.lstM hH
 obtain⟨z2,its2,n2,r2,hl2,e2⟩:=I.lstM hB
 have hln:=r.length
 have hln2:=r2.length
 unfold inplaceOp
 refine C9 ?_
 refine b7 (bT5 (T:="list") ⟨_,e,rfl⟩ (b7 (aI7 bg9 ?_)))
 show p9 _ _ (if false=true then _ else _) _ _ s
 rw[if_neg k7]
 refine b7 (wpAny_binaryOp1_none (a:=.ref l) (b:=.ref b) (s:=s) (nm:="add") (T:="list") ⟨_,e,rfl⟩ ⟨_,e2,rfl⟩ noFill_list_add ?_)
 refine b7 (aI7 bq7 ?_)
 refine b7 (aq4 ?_)
 have hd:¬(!its.toArray.isEmpty && Builtin.List.listTooLong (its.toArray.size+its2.toArray.size))=true:=extend_door (by rw[d7,d7,E8];omega)
 refine aU1 F.slot_list_iadd ⟨_,e,rfl⟩ F.entry_list_iadd (F.args_list_iadd_2 _ _) (PySem.AutoSeq1.list___iadd___list_list_0 l its.toArray n b its2.toArray n2 hd (by rw[d7,E8];omega) (by rw[d7,d7,E8];omega)) ⟨e,e2,?_⟩
 refine⟨.ref l,_,I.lset (its':=its++its2) hH e ?_ (r.append r2) ?_,rfl,q⟩
 ·show its.toArray++its2.toArray=_
  simp
 ·rw[m6,E8];omega
section
variable {Er:Value->Shared->Prop}
end
section
variable {K:W.Frag} {mg:Str->Option Value} {base:Heap} {cd:Value} {outer:List Env} {E:XK} {σ:St} {H1:Hp} {s1:Shared}
end
section
variable {K:W.Frag} {mg:Str->Option Value} {base:Heap} {cd:Value} {outer:List Env} {E:XK} {σ:St}
end
section
variable {K:W.Frag} {mg:Str->Option Value} {base:Heap} {scope0:Scope} {cd:Value} {outer:List Env} {s0:Shared} {H0:Hp} {E:XK}
end
end L2
namespace L2
open PySem PySem.Spec PyProof.Rows PySem.SeqAt
end L2
namespace PySem
section
variable {K:Type} [DecidableEq K] {knd:HeapKind prog w K}
end
end PySem
namespace PySem
section
variable {K:Type} [DecidableEq K] {knd:HeapKind prog w K}
end
end PySem
namespace L2
open PySem PySem.Spec PyProof.Rows
section
variable {σ:St}
end
end L2
namespace Web
def aa0 (ns:List Int)(M r:Nat):Int:=(M:Int)*(r:Int)*((r:Int) - 1)+part (ns.length - r) ((M:Int)*(r:Int)) (up2 ns)
theorem af6 (ns:List Int)(r:Nat):aa0 ns 1 r=as9 ns r:=by
 unfold aa0 as9
 rw[Int.natCast_one,ab6]
theorem ay3 {M r:Nat}(e:zs=(up2 ns).reverse):(M:Int)*(r:Int)*((r:Int) - 1)+((zs.drop r).map (mn ((M:Int)*(r:Int)))).sum - (zs.take r).sum=aa0 ns M r:=by
 unfold aa0 part
 rw[e,cc5,cc6,cd6,as2,as2,aA2]
 omega
end Web
namespace Web
def ax4 (ns:List Int)(i:Nat):List Nat:=(u7 i).filter fun j=>decide (ns.getD j 0<0)
def cj9 (ns:List Int):List Int:=(ax4 ns ns.length).map Int.ofNat
theorem bs5 (ns:List Int)(i:Nat):ax4 ns (i+1)=ax4 ns i++(if ns.getD i 0<0 then [i] else []):=by
 unfold ax4
 rw[G2,S9]
 congr 1
 by_cases h:ns.getD i 0<0
 ·rw[if_pos h,bt0 (by simpa using h),List.filter_nil]
 ·rw[if_neg h,bt1 (by simpa using h),List.filter_nil]
theorem bE1 (ns:List Int)(i:Nat):(ax4 ns i).length<=i:=by
 unfold ax4
 exact A8 (O7 ..) (by rw[v8];exact c8 _)
theorem au3 {x:Int}(h:ns[j]?=some x):ns.getD j 0=x:=by rw[i8,h];rfl
theorem bO3 (h:ax4 ns ns.length=[]):∀ (j:Nat) (x:Int),ns[j]?=some x->0<=x:=fun j x e=>by
 have hj:j<ns.length:=by
  rcases B3 j ns.length with l | l
  ·exact l
  ·rw[o6 l]at e;cases e
 have:=List.filter_eq_nil_iff.mp h j (B9.mpr hj)
 rw[au3 e]at this
 have h2:¬ x<0:=fun q=>this (decide_eq_true q)
 omega
theorem bE0 {t:List Nat}(h:ax4 ns ns.length=p::t):(∃ x,ns[p]?=some x/\x<0)/\∀ (j:Nat) (x:Int),j<p->ns[j]?=some x->0<=x:=by
 have hm:p∈ax4 ns ns.length:=by rw[h];exact c9
 have hp:=P9.mp hm
 have hl:=B9.mp hp.1
 have h0:=of_decide_eq_true hp.2
 refine⟨⟨_,k9 hl,by rw[au3 (k9 hl)]at h0;exact h0⟩,fun j x hj e=>?_⟩
 rcases Int.lt_or_le x 0 with q | q
 ·have hjm:j∈ax4 ns ns.length:=P9.mpr ⟨B9.mpr (by omega),by rw[au3 e];exact decide_eq_true q⟩
  have hs:(ax4 ns ns.length).Pairwise (·<·):=List.Pairwise.filter _ bt4
  rw[h]at hs hjm
  rcases d8.mp hjm with r | r
  ·omega
  ·have:=(G4.mp hs).1 j r
   omega
 ·exact q
def Z4 (ns:List Int)(M:Nat):Wl->Prop
 | .below p=>(∃ x,ns[p]?=some x/\x<0)/\∀ (j:Nat) (x:Int),j<p->ns[j]?=some x->0<=x
 | .odd=>AllP ns/\ns.sum % 2=1
 | .wall r=>AllP ns/\¬ ns.sum % 2=1/\1<=r/\r<=ns.length/\aa0 ns M r<0/\∀ k,1<=k->k<r->0<=aa0 ns M k
 | .free=>AllP ns/\¬ ns.sum % 2=1/\∀ k,1<=k->k<=ns.length->0<=aa0 ns M k
theorem aA1 {x:Wl}(h:Z4 ns 1 x):bi1 ns x:=by
 cases x with
 | below p=>exact h
 | odd=>exact h
 | wall r=>exact⟨h.1,h.2.1,h.2.2.1,h.2.2.2.1,by rw[<- af6];exact h.2.2.2.2.1,fun k k1 k2=>by rw[<- af6];exact h.2.2.2.2.2 k k1 k2⟩
 | free=>exact⟨h.1,h.2.1,fun k k1 k2=>by rw[<- af6];exact h.2.2 k k1 k2⟩
end Web
namespace Web
open PySem L2
theorem bB2 {K:W.Frag}{Q:VK}{l:Addr}{es:List Int}{z:Int}(hun:A.units+64<av2)(hl:SqL K H l (es.map V.int))(q:Q (.bl (decide (z∈es))) H):bf2 K A false (.int z) (.ref l) H Q:=by
 refine⟨l,_,.int z,es.map .int,rfl,.inl hl,Dt.mkInt,E5.ints es,by simp[PyData.canLay0],lay_ints es,bd2 hun (by simp[PyData.depth]),?_⟩
 rw[au1,if_neg k7]
 exact q
inductive Wz where
 | odd | below (z:Int) | wall (z:Int)
end Web
namespace L2
open PySem PySem.Spec PyProof.Rows
theorem ah9 {lo:Int}{D:Addr}{g:TG}{tt:TT}{σ0:St}{H0:Hp}(Pv:Nat->List V->St->Hp->Prop)(h0:Pv 0 [] σ0 H0)(hz:n<=j8)(hl:∀ i xs σ H,i<=n->Pv i xs σ H->H D=some (.lst xs)/\xs.length<=i)
  (hs:∀ i xs σ H (N:List V->St->Hp->Prop),(∀ xs' σ' H',Pv (i+1) xs' σ' H'->N xs' σ' H')->i<n->Pv i xs σ H->g (.int (lo+i)) σ H fun σ2 H2=>tt σ2 H2 fun b H3=>if b=true then te σ2 H3 fun v H4=>H4 D=some (.lst xs)/\N (xs++[v]) σ2 (upd H4 D (.lst (xs++[v]))) else N xs σ2 H3)
  (hd:∀ xs σ H,Pv n xs σ H->Qd H) :
  ∃ W:Nat->Nat->List V->St->Hp->Prop,(∃ m,W 0 m [] σ0 H0)/\∀ i m xs σ' H',W i m xs σ' H'->H' D=some (.lst xs)/\(((Itr lo n).stop i H'/\Qd H')\/((Itr lo n).go i H'/\xs.length<j8/\∀ x H'',(Itr lo n).yld i H' x H''->g x σ' H'' fun σ2 H2=>tt σ2 H2 fun b H3 =>
   if b=true then te σ2 H3 fun v H4=>H4 D=some (.lst xs)/\∃ m',m'<m/\W (i+1) m' (xs++[v]) σ2 (upd H4 D (.lst (xs++[v]))) else ∃ m',m'<m/\W (i+1) m' xs σ2 H3)):=by
 refine⟨fun i m xs σ H=>m=n - i/\i<=n/\Pv i xs σ H,⟨n,by simp,v9 _,h0⟩,?_⟩
 rintro i m xs σ H ⟨rfl,hi,p⟩
 obtain⟨hD,hx⟩:=hl i xs σ H hi p
 refine⟨hD,?_⟩
 by_cases hlt:i<n
 ·refine .inr ⟨hlt,by omega,fun x H'' y=>?_⟩
  obtain⟨e,y⟩:=y
  subst e y
  exact hs i xs σ _ (fun zs σ' H'=>∃ m',m'<n - i/\m'=n - (i+1)/\i+1<=n/\Pv (i+1) zs σ' H') (fun zs σ' H' r=>⟨_,by omega,rfl,hlt,r⟩) hlt p
 ·obtain rfl:i=n:=by omega
  exact .inl ⟨c8 _,hd xs σ H p⟩
end L2
namespace Web
open PySem L2
def top (i:Nat):Stmt:=PySem.Challenge.pw_tallyweb_k69_whole_most_one_is_webs.main.body.getD i (.Pass ⟨0,0,0,0⟩)
abbrev aW8:Stmt:=top 11
abbrev sUp:Stmt:=top 12
abbrev aD4:Stmt:=top 13
abbrev aq9:Stmt:=top 17
abbrev aW5:Stmt:=top 18
abbrev ap7:Stmt:=top 20
abbrev ae5:Stmt:=top 21
abbrev av9:Stmt:=top 22
abbrev aW4:Stmt:=top 23
abbrev al8:Stmt:=top 24
abbrev al7:Stmt:=top 25
abbrev aW2:Stmt:=top 26
abbrev aw0:Stmt:=top 40
abbrev aK0:Stmt:=top 41
abbrev aW6:Stmt:=top 42
abbrev bx1:Stmt:=top 43
abbrev av8:Stmt:=top 6
abbrev bx2:Stmt:=top 7
abbrev aj9:Stmt:=top 8
abbrev aD3:Stmt:=top 14
abbrev an8:Stmt:=top 15
abbrev be8:Stmt:=top 31
abbrev bw6:Stmt:=top 32
abbrev bw7:Stmt:=top 33
abbrev bw8:Stmt:=top 34
abbrev bw9:Stmt:=top 35
abbrev bx0:Stmt:=top 36
abbrev bw5:Stmt:=top 37
abbrev N8:Stmt:=top 38
abbrev aD5:Stmt:=top 44
abbrev aX0:Stmt:=top 45
abbrev bp3:Stmt:=top 48
abbrev aW3:Stmt:=top 49
abbrev as7:Stmt:=top 50
abbrev bw4:Stmt:=top 51
abbrev aW9:Stmt:=top 52
abbrev be7:Stmt:=top 53
structure Bn (mg:Str->Option Value):Prop where
 len:mg "len"=none
 range:mg "range"=none
 enum:mg "enumerate"=none
 list:mg "list"=none
 tuple:mg "tuple"=none
 sorted:mg "sorted"=none
 set:mg "set"=none
 isin:mg "isinstance"=none
 int:mg "int"=none
 bool:mg "bool"=none
 min:mg "min"=none
 max:mg "max"=none
 sum:mg "sum"=none
 str:mg "str"=none
 ve:mg "ValueError"=none
 all:mg "all"=none
 zip:mg "zip"=none
theorem L8:1000<=j8:=by decide
theorem f6 {l:Addr}{o:HO}(h:H l=none):A3 H (upd H l o):=fun b u e=>by
 rw[q8 (q0 e h)]
 exact e
section
variable {K:W.Frag} {mg:Str->Option Value} {base:Heap}
def bQ8:Sp:=fun vs H Q _=>∃ a b:Int,vs=[.int a,.int b]/\Q (.bl (decide (0<=b) && decide (b<a))) H
theorem cg5:A4 ["places","number"] ["places","number"] (p5 aW8):=.mk'
theorem bZ3 (F:Fun K "is_place" "is_place" aW8 f fd):x6 P w K mg base CX0 1 f fd ["places","number"] bQ8:=by
 refine F.ok cg5 (fun cdv A outer s H vs Q E hr h=>?_)
 obtain⟨a,b,rfl,k⟩:=h
 refine⟨_,o5 (C1 (aX9 ad6 aE3 i6 (pv 1) (pv 0))),?_⟩
 refine⟨_,rfl,_,_,rfl,rfl,_,rfl,?_⟩
 cases e:decide ((0:Int)<=b) with
 | true =>
  refine T8 ⟨_,rfl,_,_,rfl,rfl,?_⟩
  rw[e,Bool.true_and]at k
  exact k
 | false =>
  refine T9 ?_
  rw[e,Bool.false_and]at k
  exact k
def cf8 (K:W.Frag):Sp:=fun vs H Q _=>∃ (n:Nat) (a:Addr) (k:List Int),vs=[.int n,.ref a]/\SqT K H a (k.map V.int)/\an0 n k /\
 ∀ p,H p=none->Q (.ref p) (upd H p (.tup ((up k).map V.int)))
theorem cl8:A4 ["places","tie"] ["places","tie"] (p5 sUp):=.mk'
theorem ch7 {fI:Addr} (F:Fun K "turned_up" "turned_up" sUp f fd) (B:Bn mg) (FI:Fq K mg "is_place" aW8 fI fdI ["places","number"]) :
  x6 P w K mg base CX0 2 f fd ["places","tie"] (cf8 K):=by
 have GI:x6 P w K mg base CX0 1 fI fdI ["places","number"] bQ8:=bZ3 FI.F
 refine F.ok cl8 (fun cdv A outer s H vs Q E hr h=>?_)
 obtain⟨n,a,k,rfl,hS,⟨i,j,h1,h2,h3,rfl⟩,q⟩:=h
 refine⟨_,j0 (N1 (PW.pt (bx4 (ab8 (ar0 (ao0 GI hr rfl FI.m FI.F.kp FI.b .nil K6 (b9 (pv 0) (b9 (F6 F4 (pv 1) i6 (fun _ _=>rfl)) d5)))))
    (bf3 (ab8 (ar0 (ao0 GI hr rfl FI.m FI.F.kp FI.b .nil K6 (b9 (pv 0) (b9 (F6 F4 (pv 1) i6 (fun _ _=>rfl)) d5)))))))) K5 F1)
  (j0 (N1 (D6 ai7 (F6 F4 (pv 1) i6 (fun _ _=>rfl)) (F6 F4 (pv 1) i6 (fun _ _=>rfl)) (E9 _)) K5 F1)
  (o5 (C1 (M3 (b9 (A6 (ax3 rfl) (by rfl) B.min (by rfl) (b9 (F6 F4 (pv 1) i6 (fun _ _ => rfl)) (b9 (F6 F4 (pv 1) i6 (fun _ _ => rfl)) d5)))
   (b9 (A6 (aL9 rfl) (by rfl) B.max (by rfl) (b9 (F6 F4 (pv 1) i6 (fun _ _=>rfl)) (b9 (F6 F4 (pv 1) i6 (fun _ _=>rfl)) d5))) d5)))))),?_⟩
 have a0:atI (([(i:Int),(j:Int)]:List Int).map V.int) 0=some (.int i):=y7 (j:=0) rfl
 have a1:atI (([(i:Int),(j:Int)]:List Int).map V.int) 1=some (.int j):=y7 (j:=1) rfl
 refine⟨_,rfl,_,rfl,a,_,_,_,rfl,rfl,hS,a0,_,_,rfl,?_⟩
 rw[decide_eq_true (show (0:Int)<=i by omega),decide_eq_true (show (i:Int)<n by omega)]
 refine⟨_,rfl,T9 ?_⟩
 refine⟨_,rfl,_,rfl,a,_,_,_,rfl,rfl,hS,a1,_,_,rfl,?_⟩
 rw[decide_eq_true (show (0:Int)<=j by omega),decide_eq_true (show (j:Int)<n by omega)]
 refine⟨_,rfl,T9 ?_⟩
 refine⟨_,rfl,a,_,_,_,rfl,rfl,hS,a0,_,rfl,a,_,_,_,rfl,rfl,hS,a1,rfl,_,rfl,?_⟩
 rw[decide_eq_false (show ¬ V.int (i:Int)=V.int (j:Int) by intro z;injection z;omega)]
 refine T9 ?_
 refine⟨_,rfl,a,_,_,_,rfl,rfl,hS,a0,_,rfl,a,_,_,_,rfl,rfl,hS,a1,_,_,rfl,?_⟩
 refine⟨_,rfl,a,_,_,_,rfl,rfl,hS,a0,_,rfl,a,_,_,_,rfl,rfl,hS,a1,_,_,rfl,(by show 2<=j8;decide),fun p hp=>?_⟩
 exact q p hp
def R6 (ns:List Int):Prop:=1<=ns.length/\ns.length<=24
def Sq (K:W.Frag)(H:Hp)(a:Addr)(ns:List Int):Prop:=SqL K H a (ns.map V.int)\/SqT K H a (ns.map V.int)
theorem Sq.same (h:Sq K H a ns)(s:A3 H H'):Sq K H' a ns:=h.elim (fun h=>.inl (s.seq h)) fun h=>.inr (s.seqT h)
def aC9 (K:W.Frag)(CB:Addr):Sp:=fun vs H Q E=>∃ (a:Addr) (ns:List Int),vs=[.ref a]/\Sq K H a ns/\(R6 ns->Q .non H)/\(¬ R6 ns->E (.ref CB) none H)
theorem cg7:A4 ["tally"] ["tally"] (p5 aq9):=.mk'
theorem aE6 (F:Fun K "check_tally" "check_tally" aq9 f fd)(B:Bn mg)(mM:mg "MOST_PLACES"=some (.int 24 tk))(mB:mg "BadTally"=some (.ref CB))(cB:ak0 K CB):x6 P w K mg base (CXE P w) 1 f fd ["tally"] (aC9 K CB):=by
 refine F.okX cg7 (fun cdv A outer s H vs Q E hr h=>?_)
 obtain⟨a,ns,rfl,hS,h1,h2⟩:=h
 refine⟨_,o5 (N1 (ab8 (al9 ad6 ad6 i6 (A6 B1 (by rfl) B.len PySem.boot_len (b9 (pv 0) d5)) (an9 (v:=.int 24) (by rfl) mM ⟨tk,rfl⟩))) (o5 (aD9 (by rfl) mB cB)) F1),?_⟩
 refine⟨_,rfl,a,_,rfl,hS,_,_,rfl,rfl,_,rfl,?_⟩
 rw[b8]
 by_cases hp:(1:Int)<=(ns.length:Int)
 ·rw[decide_eq_true hp]
  refine T8 ⟨_,_,rfl,rfl,_,rfl,?_⟩
  by_cases hp':(ns.length:Int)<=24
  ·rw[decide_eq_true hp']
   exact T9 (h1 ⟨by omega,by omega⟩)
  ·rw[decide_eq_false hp']
   exact T8 (h2 fun z=>hp' (by have:=z.2;omega))
 ·rw[decide_eq_false hp]
  exact T9 ⟨_,rfl,T8 (h2 fun z=>hp (by have:=z.1;omega))⟩
end
section
variable {K:W.Frag} {mg:Str->Option Value} {base:Heap}
def aO4 (K:W.Frag):Sp:=fun vs H Q _=>∃ (n:Nat) (a:Addr) (ys:List V) (hs:List (List Int)),vs=[.int n,.ref a]/\1<=n/\n<=24/\(SqL K H a ys\/SqT K H a ys)/\B2 K H ys hs/\(∀ k∈hs,an0 n k)/\(hs.map up).Nodup/\hs.length<300 /\
 ∀ p t zs ks H',A3 H H'->H p=none->H t=none->H' p=some (.tup [.int n,.ref t])->H' t=some (.tup zs)->B2 K H' zs ks->ks.Perm (hs.map up)->ks.Pairwise (fun a b=>Tim.M4 b a=false)->Q (.ref p) H'
theorem be5:A4 ["places","ties","ascending"] ["places","ties"] (p5 aD4):=.mk'
theorem bk5 {fI fU:Addr} {fdU:FuncData} (F:Fun K "made" "made" aD4 f fd) (B:Bn mg) (FI:Fq K mg "is_place" aW8 fI fdI ["places","number"])
  (FU:Fq K mg "turned_up" sUp fU fdU ["places","tie"]) (mM:mg "MOST_PLACES"=some (.int 24 tk)) :
  x6 P w K mg base CX0 3 f fd ["places","ties"] (aO4 K):=by
 have GU:x6 P w K mg base CX0 2 fU fdU ["places","tie"] (cf8 K):=ch7 FU.F B FI
 refine F.ok be5 (fun cdv A outer s H vs Q E hr h=>?_)
 obtain⟨n,a,ys,hs,rfl,n1,n2,hS,hT,hE,hN,hL,q⟩:=h
 have hu8:=Nat.lt_of_le_of_lt (X2 (by decide:8<=64) _) hr.units
 have hyl:=hT.len
 have nd2:(["tie","places"]:List Str).Nodup:=by decide +kernel
 have step:∀ (D:Addr),H D=none->∀ (i:Nat) (xs:List V) (H':Hp) (x:V) (N:List V->Hp->Prop),A3 H H'->H' D=some (.lst xs)->B2 K H' xs ((hs.take i).map up)->ys[i]?=some x ->
   (∀ xs' H'',A3 H H''->H'' D=some (.lst xs')->B2 K H'' xs' ((hs.take (i+1)).map up)->N xs' H'') ->
   ∃ (m:Nat) (b:Addr) (k:List Int),[V.int n,x]=[.int m,.ref b]/\SqT K H' b (k.map V.int)/\an0 m k/\∀ p,H' p=none->(upd H' p (.tup ((up k).map V.int))) D=some (.lst xs)/\N (xs++[.ref p]) (upd (upd H' p (.tup ((up k).map V.int))) D (.lst (xs++[.ref p]))):=by
  intro D hD i xs H' x N s1 hd ht hx k
  obtain⟨b,kk,rfl,hk,hq⟩:=hT.get hx
  refine⟨n,b,kk,rfl,s1.seqT hq,hE kk (i7 hk),fun p hp=>?_⟩
  have npd:D≠p:=q0 hd hp
  have hd':(upd H' p (.tup ((up kk).map V.int))) D=some (.lst xs):=by rw[q8 npd];exact hd
  refine⟨hd',k _ _ ((s1.trans (f6 hp)).upd hD) c6 ?_⟩
  have e:(hs.take (i+1)).map up=(hs.take i).map up++[up kk]:=by
   rw[u9,hk,k8]
   rfl
  rw[e]
  refine B2.updL hd' (B2.append (A3.tups (f6 hp) ht) (B2.one (SqT.of c6)))
 rcases hS with hS | hS
 ·refine⟨_,j0 (N1 (ab8 (al9 ad6 ad6 i6 (pv 0) (an9 (v:=.int 24) rfl mM ⟨_,rfl⟩))) K5 F1)
   (j0 (A9 (i := 2) be5.nd rfl (Or.inl rfl) (A6 ay7 (by rfl) B.sorted (by rfl) (b9
    (N2 (N' := ["tie", "places"]) (lk := [none, some 0]) rfl (aa5 (pv 1)) (by rfl) rfl (by decide +kernel) (by exact ⟨rfl, trivial⟩) (by rfl) (by exact LkL.ok ⟨⟨rfl, Or.inl rfl, rfl, Or.inl rfl⟩, trivial⟩)
     (fun _ _ _=>B0 (i:=0) nd2 rfl (Or.inl rfl)) (fun _ _ _=>S4) (fun _ _ _=>D0 GU hr (by rfl) FU K6 (b9 (pv 1) (b9 (pv 0) d5)))) d5)))
   (j0 (N1 (D6 aE3 (A6 call_len_set (by rfl) B.len PySem.boot_len (b9 (N0 (bb9 rfl hu8) (by rfl) B.set (by rfl) (b9 (pv 2) d5)) d5)) (A6 B1 (by rfl) B.len PySem.boot_len (b9 (pv 2) d5)) (E9 _)) K5 F1)
   (o5 (C1 (M3 (b9 (pv 0) (b9 (N0 N9 (by rfl) B.tuple (by rfl) (b9 (pv 2) d5)) d5))))))),?_⟩
  refine⟨_,rfl,_,_,rfl,rfl,_,rfl,?_⟩
  rw[decide_eq_true (show (1:Int)<=n by omega)]
  refine T8 ⟨_,_,rfl,rfl,_,rfl,?_⟩
  rw[decide_eq_true (show (n:Int)<=24 by omega)]
  refine T9 ?_
  refine⟨_,rfl,a,rfl,⟨_,hS⟩,fun D hD=>Y1 (K:=K) (a:=a) (D:=D) (ys:=ys) (fun i xs σ' H'=>∃ v,σ'=[v,some (.int n)]/\A3 H H'/\H' D=some (.lst xs)/\B2 K H' xs ((hs.take i).map up)) ⟨none,rfl,f6 hD,c6,.nil⟩ (by have:=L8;omega)
   (fun i xs σ' H' hi ⟨_,_,s1,h1,h2⟩=>⟨s1.seq hS,h1,by have:=h2.len;simp at this;omega⟩) ?_ ?_⟩
  ·rintro i xs x σ' H' N kN hx ⟨v,rfl,s1,h1,h2⟩
   refine C2 ?_
   refine O5 ?_
   refine⟨_,rfl,_,rfl,?_⟩
   exact step D hD i xs H' x (fun xs' H''=>N xs' _ H'') s1 h1 h2 hx fun xs' H'' a1 a2 a3=>kN _ _ _ ⟨_,rfl,a1,a2,a3⟩
  ·rintro xs σ' H1 ⟨v,rfl,s1,h1,h2⟩
   rw[j7 (by omega)]at h2
   have hup:∀ k∈hs.map up,Up n k:=fun k hk=>by
    obtain⟨k0,h0,rfl⟩:=u5.mp hk
    exact(hE k0 h0).up
   refine⟨D,xs,_,rfl,SqL.of h1,h2,(fun k hk z=>by have:=(hup k hk).len;rw[z]at this;cases this),fun l zs ks hl pk hs1 ht1=>?_⟩
   have hkl:ks.length=hs.length:=by rw[pk.length_eq,b8]
   have hzl:=ht1.len
   have s2:A3 H (upd H1 l (.lst zs)):=s1.trans (f6 hl)
   refine⟨_,rfl,l,zs,ks,rfl,SqL.of c6,ht1,(fun k hk=>(hup k (pk.mem_iff.mp hk)).key n2),by omega,fun S hSn=>?_⟩
   have hlS:l≠S:=q0 c6 hSn
   have s3:=s2.trans (f6 (o:=bh9 P w S (ks.foldl Sett.aa8 []).length) hSn)
   have l3:(upd (upd H1 l (.lst zs)) S (bh9 P w S (ks.foldl Sett.aa8 []).length)) l=some (.lst zs):=by rw[q8 hlS,c6]
   refine⟨S,_,rfl,c6,_,rfl,l,zs,rfl,.inl (SqL.of l3),_,_,rfl,rfl,_,rfl,?_⟩
   have hfold:(ks.foldl Sett.aa8 []).length=zs.length:=by
    have:=(Sett.ax1 ks []).mpr ⟨(pk.nodup_iff).mpr hN,fun x _=>by simp⟩
    simp at this
    omega
   rw[hfold,decide_eq_false (by omega)]
   refine T9 ?_
   refine⟨_,rfl,_,rfl,l,zs,rfl,.inl ⟨SqL.of (by rw[hfold]at l3;exact l3),fun t ht=>⟨(by show 2<=j8;decide),fun p hp=>?_⟩⟩⟩
   rw[hfold]at s3
   have s4:=(s3.trans (f6 (o:=.tup zs) ht)).trans (f6 (o:=.tup [.int n,.ref t]) hp)
   refine q p t zs ks _ s4 ((s3.trans (f6 ht)).free hp) (s3.free ht) c6 ?_ ?_ pk hs1
   ·rw[q8 (q0 c6 hp),c6]
   ·exact A3.tups (((f6 hSn).trans (f6 ht)).trans (f6 hp)) ht1
 ·refine⟨_,j0 (N1 (ab8 (al9 ad6 ad6 i6 (pv 0) (an9 (v:=.int 24) rfl mM ⟨_,rfl⟩))) K5 F1)
   (j0 (A9 (i := 2) be5.nd rfl (Or.inl rfl) (A6 ay7 (by rfl) B.sorted (by rfl) (b9
    (N2 (N' := ["tie", "places"]) (lk := [none, some 0]) rfl (am0 (pv 1)) (by rfl) rfl (by decide +kernel) (by exact ⟨rfl, trivial⟩) (by rfl) (by exact LkL.ok ⟨⟨rfl, Or.inl rfl, rfl, Or.inl rfl⟩, trivial⟩)
     (fun _ _ _=>B0 (i:=0) nd2 rfl (Or.inl rfl)) (fun _ _ _=>S4) (fun _ _ _=>D0 GU hr (by rfl) FU K6 (b9 (pv 1) (b9 (pv 0) d5)))) d5)))
   (j0 (N1 (D6 aE3 (A6 call_len_set (by rfl) B.len PySem.boot_len (b9 (N0 (bb9 rfl hu8) (by rfl) B.set (by rfl) (b9 (pv 2) d5)) d5)) (A6 B1 (by rfl) B.len PySem.boot_len (b9 (pv 2) d5)) (E9 _)) K5 F1)
   (o5 (C1 (M3 (b9 (pv 0) (b9 (N0 N9 (by rfl) B.tuple (by rfl) (b9 (pv 2) d5)) d5))))))),?_⟩
  refine⟨_,rfl,_,_,rfl,rfl,_,rfl,?_⟩
  rw[decide_eq_true (show (1:Int)<=n by omega)]
  refine T8 ⟨_,_,rfl,rfl,_,rfl,?_⟩
  rw[decide_eq_true (show (n:Int)<=24 by omega)]
  refine T9 ?_
  refine⟨_,rfl,a,rfl,⟨_,hS⟩,fun D hD=>am6 (K:=K) (a:=a) (D:=D) (ys:=ys) (fun i xs σ' H'=>∃ v,σ'=[v,some (.int n)]/\A3 H H'/\H' D=some (.lst xs)/\B2 K H' xs ((hs.take i).map up)) ⟨none,rfl,f6 hD,c6,.nil⟩ (by have:=L8;omega)
   (fun i xs σ' H' hi ⟨_,_,s1,h1,h2⟩=>⟨s1.seqT hS,h1,by have:=h2.len;simp at this;omega⟩) ?_ ?_⟩
  ·rintro i xs x σ' H' N kN hx ⟨v,rfl,s1,h1,h2⟩
   refine C2 ?_
   refine O5 ?_
   refine⟨_,rfl,_,rfl,?_⟩
   exact step D hD i xs H' x (fun xs' H''=>N xs' _ H'') s1 h1 h2 hx fun xs' H'' a1 a2 a3=>kN _ _ _ ⟨_,rfl,a1,a2,a3⟩
  ·rintro xs σ' H1 ⟨v,rfl,s1,h1,h2⟩
   rw[j7 (by omega)]at h2
   have hup:∀ k∈hs.map up,Up n k:=fun k hk=>by
    obtain⟨k0,h0,rfl⟩:=u5.mp hk
    exact(hE k0 h0).up
   refine⟨D,xs,_,rfl,SqL.of h1,h2,(fun k hk z=>by have:=(hup k hk).len;rw[z]at this;cases this),fun l zs ks hl pk hs1 ht1=>?_⟩
   have hkl:ks.length=hs.length:=by rw[pk.length_eq,b8]
   have hzl:=ht1.len
   have s2:A3 H (upd H1 l (.lst zs)):=s1.trans (f6 hl)
   refine⟨_,rfl,l,zs,ks,rfl,SqL.of c6,ht1,(fun k hk=>(hup k (pk.mem_iff.mp hk)).key n2),by omega,fun S hSn=>?_⟩
   have hlS:l≠S:=q0 c6 hSn
   have s3:=s2.trans (f6 (o:=bh9 P w S (ks.foldl Sett.aa8 []).length) hSn)
   have l3:(upd (upd H1 l (.lst zs)) S (bh9 P w S (ks.foldl Sett.aa8 []).length)) l=some (.lst zs):=by rw[q8 hlS,c6]
   refine⟨S,_,rfl,c6,_,rfl,l,zs,rfl,.inl (SqL.of l3),_,_,rfl,rfl,_,rfl,?_⟩
   have hfold:(ks.foldl Sett.aa8 []).length=zs.length:=by
    have:=(Sett.ax1 ks []).mpr ⟨(pk.nodup_iff).mpr hN,fun x _=>by simp⟩
    simp at this
    omega
   rw[hfold,decide_eq_false (by omega)]
   refine T9 ?_
   refine⟨_,rfl,_,rfl,l,zs,rfl,.inl ⟨SqL.of (by rw[hfold]at l3;exact l3),fun t ht=>⟨(by show 2<=j8;decide),fun p hp=>?_⟩⟩⟩
   rw[hfold]at s3
   have s4:=(s3.trans (f6 (o:=.tup zs) ht)).trans (f6 (o:=.tup [.int n,.ref t]) hp)
   refine q p t zs ks _ s4 ((s3.trans (f6 ht)).free hp) (s3.free ht) c6 ?_ ?_ pk hs1
   ·rw[q8 (q0 c6 hp),c6]
   ·exact A3.tups (((f6 hSn).trans (f6 ht)).trans (f6 hp)) ht1
end
def ci0 (st:Stmt):Pos:=match (Q6 st).getD 1 (.Pass ⟨0,0,0,0⟩) with
 | .Return (some (.Call _ _ [⟨_,.Lambda _ _ _ p,_⟩] _)) _=>p
 | _=>⟨0,0,0,0⟩
def cm4:Str:=(("order_of":Str)++(".<locals>.":Str))++("<lambda>":Str)
abbrev Tb (P:Addr)(H:Hp):Prop:=R7 P (ci0 aW5) cm4 H
theorem P0.sqL {K:W.Frag}{P:Addr}{po:Pos}{qu:Str}(g:P0 P H H')(t:R7 P po qu H)(h:SqL K H a xs):SqL K H' a xs:=by
 obtain⟨ps,hP,_⟩:=t
 rcases h with(h | ⟨o,h⟩) | h
 ·exact .inl (.inl (g a _ (fun z=>by rw[z,hP]at h;cases h) h))
 ·exact .inl (.inr ⟨o,g a _ (fun z=>by rw[z,hP]at h;cases h) h⟩)
 ·exact .inr h
theorem P0.sqT {K:W.Frag}{P:Addr}{po:Pos}{qu:Str}(g:P0 P H H')(t:R7 P po qu H)(h:SqT K H a xs):SqT K H' a xs:=by
 obtain⟨ps,hP,_⟩:=t
 rcases h with(h | ⟨o,h⟩) | h
 ·exact .inl (.inl (g a _ (fun z=>by rw[z,hP]at h;cases h) h))
 ·exact .inl (.inr ⟨o,g a _ (fun z=>by rw[z,hP]at h;cases h) h⟩)
 ·exact .inr h
theorem Sq.grow {K:W.Frag}{P:Addr}{po:Pos}{qu:Str}(h:Sq K H a ns)(g:P0 P H H')(t:R7 P po qu H):Sq K H' a ns:=h.elim (fun h=>.inl (P0.sqL g t h)) fun h=>.inr (P0.sqT g t h)
theorem aM6.one (h:X.N[j]?=some x/\(X.env.scope.names.lookup x=some .cell\/X.env.scope.names.lookup x=some .free)/\(cl.lookup x).isSome=true/\(scope.names.lookup x=some .cell\/scope.names.lookup x=some .free)) :
  aM6 X [x] [some j] scope cl:=⟨rfl,fun i j' y e1 e2=>by
 cases i with
 | zero =>
  have e1':x=y:=by simpa using e1
  have e2':j=j':=by simpa using e2
  subst e1' e2'
  exact h
 | succ i=>simp at e1⟩
theorem bX7 {a b:Expr}{tb:TE}(K:W.Frag)(hK:X.K=K)(ha:PE X a ta)(hb:PE X b tb)(hs:aC1 b):PE X (.Subscript a b pos) (tOp (rIx K) ta tb):=by
 cases hK
 exact F6 bA8 ha hb hs
section
variable {K:W.Frag} {mg:Str->Option Value} {base:Heap}
def bQ7 (K:W.Frag)(CB PT:Addr):Sp:=fun vs H Q E=>∃ (a:Addr) (ns:List Int),vs=[.ref a]/\Sq K H a ns /\
 (R6 ns->Tb PT H/\∀ (zs:List Int) (D:Addr) (H':Hp),P0 PT H H'->Tb PT H'->H' D=some (.lst (zs.map V.int))->zs.Perm (rng ns.length)->zs.Pairwise (ole ns)->Q (.ref D) H')/\(¬ R6 ns->E (.ref CB) none H)
theorem cg4:A4 ["tally"] ["tally"] (p5 aW5):=.mk'
theorem bZ1 {PT:Addr} (F:Fun K "order_of" "order_of" aW5 f fd) (hc:fd.code=.ref c) (LB:ap0 base mg c PT) (B:Bn mg) (FT:Fq K mg "check_tally" aq9 fT fdT ["tally"])
  (mM:mg "MOST_PLACES"=some (.int 24 tk)) (mB:mg "BadTally"=some (.ref CB)) (cB:ak0 K CB):x6 P w K mg base (CXE P w) 2 f fd ["tally"] (bQ7 K CB PT):=by
 have GT:x6 P w K mg base (CXE P w) 1 fT fdT ["tally"] (aC9 K CB):=aE6 FT.F B mM mB cB
 refine F.okXC hc cg4 (fun A outer s H vs Q E hr h=>?_)
 obtain⟨a,ns,rfl,hS,h1,h2⟩:=h
 have hsl:=L8
 refine⟨_,j0 (S5 (D0 GT hr (by rfl) FT ap8 (b9 (pv 0) d5)))
  (o5 (C1 (by1 (p := "place") (N' := ["tally"]) (lk := [some 0]) rfl hr.depth (by rfl) B.sorted (b9 (bK1 (by rfl) B.range (b9 (A6 B1 (by rfl) B.len PySem.boot_len (b9 (pv 0) d5)) d5)) d5)
   LB rfl (by rfl) (by rfl) rfl rfl rfl (by exact⟨rfl,trivial⟩) (by rfl) (by exact aM6.one ⟨rfl,Or.inl rfl,rfl,Or.inr rfl⟩) rfl (fun _ _ _ _=>rfl)
   (fun _ _ _ _=>M3 (b9 (ch5 bU6 (bX7 K rfl (pv 1) (pv 0) (fun _ _=>rfl))) (b9 (pv 0) d5)))))),?_⟩
 refine⟨_,rfl,a,ns,rfl,hS,fun ht=>?_,h2⟩
 obtain⟨tb,q⟩:=h1 ht
 refine⟨_,rfl,a,_,rfl,hS,(ns.map V.int).length,rfl,by rw[b8];have:=ht.2;omega,fun r hr0=>?_⟩
 have s0:=f6 (o:=.rng 0 ((ns.map V.int).length:Int)) hr0
 have tb1:Tb PT (upd H r (.rng 0 ((ns.map V.int).length:Int))):=tb.same s0
 refine⟨r,(ns.map V.int).length,bp7 ns,rfl,c6,by rw[b8];have:=ht.2;omega,bK7 ns,tb1,fun H2 g2 tb2=>⟨fun H3 z sm hz=>?_,fun H' D zs sm hD hp hs=>?_⟩⟩
 ·have hS3:Sq K H3 a ns:=((hS.same s0).grow g2 tb1).same sm
  rw[b8]at hz
  have hat:atI (ns.map V.int) (z:Int)=some (.int (ns.getD z 0)):=y7 (j:=z) (by simp[hz])
  have fin:∀ k,H3 k=none->(∃ k',(V.ref k:V)=.ref k'/\(upd H3 k (.tup [.int (-(ns.getD z 0)),.int z])) k'=some (.tup ((bp7 ns z).map V.int))/\A3 H3 (upd H3 k (.tup [.int (-(ns.getD z 0)),.int z]))):=fun k hk=>⟨k,rfl,c6,f6 hk⟩
  rcases hS3 with h3 | h3
  ·exact⟨_,rfl,_,rfl,.inl ⟨a,_,_,_,rfl,rfl,h3,hat,_,rfl,_,rfl,(by show 2<=j8;decide),fin⟩⟩
  ·exact⟨_,rfl,_,rfl,.inr (.inl ⟨a,_,_,_,rfl,rfl,h3,hat,_,rfl,_,rfl,(by show 2<=j8;decide),fin⟩)⟩
 ·have sD:=f6 (o:=.lst (zs.map V.int)) hD
  rw[b8]at hp
  exact q zs D _ (((s0.grow PT).trans g2).trans ((sm.trans sD).grow PT)) (tb2.same (sm.trans sD)) c6 hp hs
end
theorem ae8 (ns:List Int)(k:Nat):am5 (ns.map V.int) (some (k:Int)) none=(ns.drop k).map V.int:=by rw[br5,aI0]
theorem am4 (ns:List Int)(k:Nat):am5 (ns.map V.int) none (some (k:Int))=(ns.take k).map V.int:=by rw[bm6,aI1]
theorem V8 {x:V}(h:(ns.map V.int)[i]?=some x):∃ z:Int,ns[i]?=some z/\x=V.int z:=by
 rw[p8]at h
 cases e:ns[i]? with
 | none=>rw[e]at h;cases h
 | some z=>rw[e]at h;cases h;exact⟨z,rfl,rfl⟩
theorem ar8 (h:j<ns.length):atI (ns.map V.int) (j:Int)=some (.int (ns.getD j 0)):=y7 (j:=j) (by simp[h])
theorem ba4 {K:W.Frag}{Q:VK}(h:Sq K H a ns)(hj:j<ns.length)(q:Q (.int (ns.getD j 0)) H):rIx K (.ref a) (.int j) H Q:=
 h.elim (fun h=>.inl ⟨a,_,_,_,rfl,rfl,h,ar8 hj,q⟩) fun h=>.inr (.inl ⟨a,_,_,_,rfl,rfl,h,ar8 hj,q⟩)
theorem af8:ax5 (CXE P w) X E0:=fun _ _ _ _ _ _ _ h=>by
 obtain⟨_,_,_,_,_,_,_,_,_,_,_,hE⟩:=h
 exact hE.elim
theorem bl0 (z:Int):(PyData.int z).canLay0=true:=by simp[PyData.canLay0]
theorem bm2 (z:Int):(PyData.int z).depth<=8:=by simp[PyData.depth]
theorem bN3 {K:W.Frag}{Q:VK}{l:Addr}{es:List Int}{z:Int}(hun:A.units+64<av2)(hl:SqL K H l (es.map V.int))(q:Q (.bl (decide (z∈es))) H):bf2 K A false (.int z) (.ref l) H Q:=by
 refine⟨l,_,.int z,es.map .int,rfl,.inl hl,Dt.mkInt,E5.ints es,bl0 z,lay_ints es,bd2 hun (A8 (bm2 z) (by decide)),?_⟩
 rw[au1,if_neg k7]
 exact q
theorem bg2 {K:W.Frag}{Q:VK}{l:Addr}{es:List Int}{z:Int}(hun:A.units+64<av2)(hl:SqL K H l (es.map V.int))(q:Q (.bl (!decide (z∈es))) H):bf2 K A true (.int z) (.ref l) H Q:=by
 refine⟨l,_,.int z,es.map .int,rfl,.inl hl,Dt.mkInt,E5.ints es,bl0 z,lay_ints es,bd2 hun (A8 (bm2 z) (by decide)),?_⟩
 rw[au1,if_pos rfl]
 exact q
def aa1 (ps zs:List Int):List Int:=zs.filter fun x=>!decide (x∈ps)
theorem aK4 (p:Int)(zs:List Int):aa1 [p] zs=rest zs p:=by
 unfold aa1 rest
 congr 1
 funext x
 by_cases h:x=p<;>simp[h]
theorem aL3 {PT l:Addr}{po:Pos}{qu:Str}(g:P0 PT H H')(t:R7 PT po qu H')(h:H' l=none):H l=none:=by
 cases e:H l with
 | none=>rfl
 | some o =>
  by_cases z:l=PT
  ·obtain⟨ps,hP,_⟩:=t
   rw[z,hP]at h
   cases h
  ·rw[g l o z e]at h
   cases h
section
variable {K:W.Frag} {mg:Str->Option Value} {base:Heap}
def aO6 (K:W.Frag)(PT:Addr):Sp:=fun vs H Q _=>∃ (a pa:Addr) (ns ps:List Int) (k:Nat),vs=[.ref a,.int k,.ref pa]/\Sq K H a ns/\R6 ns/\SqL K H pa (ps.map V.int)/\Tb PT H /\
 ∀ (zs:List Int) (D:Addr) (H':Hp),P0 PT H H'->Tb PT H'->H D=none->zs.Perm (rng ns.length)->zs.Pairwise (ole ns)->H' D=some (.lst (((aa1 ps zs).take k).map V.int))->Q (.ref D) H'
theorem bJ3:A4 ["tally","many","passed_over"] ["tally","many","passed_over"] (p5 aw0):=.mk'
theorem aY5 {fO PT:Addr} (F:Fun K "first_of_order" "first_of_order" aw0 f fd) (B:Bn mg) (FO:Fq K mg "order_of" aW5 fO fdO ["tally"]) (hc:fdO.code=.ref c) (LB:ap0 base mg c PT)
  (FT:Fq K mg "check_tally" aq9 fT fdT ["tally"]) (mM:mg "MOST_PLACES"=some (.int 24 tk)) (mB:mg "BadTally"=some (.ref CB)) (cB:ak0 K CB):x6 P w K mg base (CXE P w) 3 f fd ["tally","many","passed_over"] (aO6 K PT):=by
 have GO:x6 P w K mg base (CXE P w) 2 fO fdO ["tally"] (bQ7 K CB PT):=bZ1 FO.F hc LB B FT mM mB cB
 refine F.okX bJ3 (fun cdv A outer s H vs Q E hr h=>?_)
 obtain⟨a,pa,ns,ps,k,rfl,hS,ht,hpa,tb,q⟩:=h
 have hsl:=L8
 have hun:=hr.units
 have t2:=ht.2
 have nd2:(["place","passed_over"]:List Str).Nodup:=by decide +kernel
 refine⟨_,o5 (C1 (Y8 ah3 (N2 (N':=["place","passed_over"]) (lk:=[none,some 2]) rfl (aa5 (D0 GO hr (by rfl) FO (af8 (P:=P) (w:=w)) (b9 (pv 0) d5))) (by rfl) rfl (by decide +kernel) (by exact⟨rfl,trivial⟩) (by rfl) (by exact LkL.ok ⟨⟨rfl,Or.inl rfl,rfl,Or.inl rfl⟩,trivial⟩)
  (fun _ _ _=>B0 (i:=0) nd2 rfl (Or.inl rfl)) (fun _ _ _=>ah4 (D6 (bg0 K hr.around rfl rfl) (pv 0) (pv 1) (by rfl))) (fun _ _ _=>pv 0)) ad5 (ad4 (pv 1)))),?_⟩
 refine⟨_,rfl,a,ns,rfl,hS,fun _=>⟨tb,fun zs D1 H1 g1 tb1 gD hp hs=>⟨D1,rfl,⟨_,SqL.of gD⟩,fun D hD=>?_⟩⟩,fun h=>absurd ht h⟩
 have hzl:zs.length=ns.length:=by rw[hp.length_eq,ad3]
 have hpa1:=P0.sqL g1 tb hpa
 refine Y1 (K:=K) (a:=D1) (D:=D) (ys:=zs.map V.int) (fun i xs σ' H'=>(∃ v,σ'=[v,some (.ref pa)])/\A3 H1 H'/\H' D=some (.lst xs)/\xs=(aa1 ps (zs.take i)).map V.int) ⟨⟨none,rfl⟩,f6 hD,c6,rfl⟩ (by rw[b8];omega)
  (fun i xs σ' H' hi ⟨_, s6, h6, e6⟩ => ⟨SqL.of (s6 _ _ gD), h6, by
   rw[e6,b8]
   have:=O7 (fun x=>!decide (x∈ps)) (zs.take i)
   rw[o8]at this
   unfold aa1
   omega⟩) ?_ ?_
 ·rintro i xs x σ' H' N kN hx ⟨⟨v,rfl⟩,s6,h6,rfl⟩
  obtain⟨z,hz,rfl⟩:=V8 hx
  refine C2 ?_
  refine⟨_,rfl,_,rfl,bg2 hun (s6.seq hpa1) ⟨_,rfl,?_⟩⟩
  have et:aa1 ps (zs.take (i+1))=aa1 ps (zs.take i)++aa1 ps [z]:=by
   unfold aa1
   rw[u9,hz,az7,S9]
  by_cases hm:z∈ps
  ·rw[decide_eq_true hm]
   refine T9 ?_
   refine kN _ _ _ ⟨⟨_,rfl⟩,s6,h6,?_⟩
   have e0:aa1 ps [z]=[]:=by unfold aa1;rw[bt1 (by rw[decide_eq_true hm];decide)];rfl
   rw[et,e0,D9]
  ·rw[decide_eq_false hm]
   refine T8 ?_
   refine⟨_,rfl,h6,kN _ _ _ ⟨⟨_,rfl⟩,s6.upd hD,c6,?_⟩⟩
   have e0:aa1 ps [z]=[z]:=by unfold aa1;rw[bt0 (by rw[decide_eq_false hm];decide)];rfl
   rw[et,e0,k8]
   rfl
 ·rintro xs σ' H3 ⟨⟨v,rfl⟩,s6,h6,rfl⟩
  rw[j7 (by rw[b8];exact c8 _)]at h6
  refine⟨_,rfl,_,rfl,D,_,rfl,SqL.of h6,fun l hl=>?_⟩
  rw[am4]
  have s7:=s6.trans (f6 (o:=.lst (((aa1 ps zs).take k).map V.int)) hl)
  exact q zs l _ (g1.trans (s7.grow PT)) (tb1.same s7) (aL3 (g1.trans (s6.grow PT)) (tb1.same s6) hl) hp hs c6
def bv5 (K:W.Frag):Sp:=fun vs H Q _=>∃ (a ea:Addr) (ns es:List Int) (p:Nat),vs=[.ref a,.int p,.ref ea]/\Sq K H a ns/\ns.length<=24/\SqL K H ea (es.map V.int) /\
 ∀ (l:Addr) (H':Hp),A3 H H'->H l=none->H' l=some (.lst ((W8 ns p es).map V.int))->Q (.ref l) H'
theorem bw2:A4 ["tally","place","ends","others"] ["tally","place","ends"] (p5 aK0):=.mk'
theorem bA7 {z:Int}(h:z∈O6 n p):∃ j:Nat,z=(j:Int)/\j<n:=by
 obtain⟨j,hj,rfl⟩:=u5.mp h
 exact⟨j,rfl,B9.mp (P9.mp hj).1⟩
theorem bq6 (ns es:List Int)(p:Nat):(O6 ns.length p).map (fun z=>ad9 ns es z.toNat)=W8 ns p es:=by
 unfold O6 W8
 rw[X3]
 refine R3 fun j _=>?_
 show ad9 ns es (j:Int).toNat=_
 rw[p0]
set_option maxHeartbeats 1000000 in
theorem bL3 (F:Fun K "left_of_others" "left_of_others" aK0 f fd) (B:Bn mg):x6 P w K mg base CX0 1 f fd ["tally","place","ends"] (bv5 K):=by
 refine F.ok bw2 (fun cdv A outer s H vs Q E hr h=>?_)
 obtain⟨a,ea,ns,es,p,rfl,hS,hn,hea,q⟩:=h
 have hsl:=L8
 have hun:=hr.units
 have nd2:(["one","place"]:List Str).Nodup:=by decide +kernel
 have nd3:(["one","tally","ends"]:List Str).Nodup:=by decide +kernel
 refine⟨_,j0 (aP8 (i:=3) bw2.nd rfl rfl (by rfl) (N':=["one","place"]) (lk:=[none,some 1]) rfl (U7 rfl B.range (b9 (A6 B1 (by rfl) B.len PySem.boot_len (b9 (pv 0) d5)) d5)) (by rfl) rfl (by decide +kernel) (by exact⟨rfl,trivial⟩) (by rfl) (by exact LkL.ok ⟨⟨rfl,Or.inl rfl,rfl,Or.inl rfl⟩,trivial⟩)
    (fun _ _ _=>B0 (i:=0) nd2 rfl (Or.inl rfl)) (fun _ _ _=>ah4 (D6 aY1 (pv 0) (pv 1) (E9 _))) (fun _ _ _=>pv 0))
  (o5 (C1 (N2 (N':=["one","tally","ends"]) (lk:=[none,some 0,some 2]) rfl (aa5 (pv 3)) (by rfl) rfl (by decide +kernel) (by exact⟨rfl,rfl,trivial⟩) (by rfl) (by exact LkL.ok ⟨⟨rfl,Or.inl rfl,rfl,Or.inl rfl⟩,⟨rfl,Or.inl rfl,rfl,Or.inl rfl⟩,trivial⟩)
    (fun _ _ _=>B0 (i:=0) nd3 rfl (Or.inl rfl)) (fun _ _ _=>S4) (fun _ _ _=>aX8 (D6 (bk4 K hr.around rfl rfl) (pv 0) (pv 2) (by rfl)) (x9 ah7 (V6 K rfl (pv 1) (pv 0) (fun _ _=>rfl)) i6) (V6 K rfl (pv 1) (pv 0) (fun _ _=>rfl)))))),?_⟩
 refine⟨_,rfl,a,_,rfl,hS,(ns.length:Int),congrArg (fun z:Nat=>[V.int (z:Int)]) (b8 ..),by omega,by omega,fun D hD=>?_⟩
 rw[p0]
 refine ah9 (lo:=0) (n:=ns.length) (D:=D) (fun i xs σ' H'=>(∃ v,σ'=[v,some (.int p)])/\A3 H H'/\H' D=some (.lst xs)/\xs=(O6 i p).map V.int) ⟨⟨none,rfl⟩,f6 hD,c6,rfl⟩ (by omega)
  (fun i xs σ' H' hi ⟨_, s6, h6, e6⟩ => ⟨h6, by
   rw[e6,b8]
   unfold O6
   rw[b8]
   have:=O7 (fun j=>decide (j≠p)) (u7 i)
   rw[v8]at this
   exact this⟩) ?_ ?_
 ·rintro i xs σ' H' N kN hi ⟨⟨v,rfl⟩,s6,h6,rfl⟩
  have e0:((0:Int)+(i:Int))=(i:Int):=by omega
  rw[e0]
  refine C2 ?_
  refine⟨_,rfl,_,rfl,rfl,_,rfl,?_⟩
  have et:O6 (i+1) p=O6 i p++(if i=p then [] else [(i:Int)]):=by
   unfold O6
   rw[G2,S9,k8]
   congr 1
   by_cases h:i=p<;>simp[h]
  by_cases hm:i=p
  ·refine aF6 (by rw[hm]) ?_
   refine kN _ _ _ ⟨⟨_,rfl⟩,s6,h6,?_⟩
   rw[et,if_pos hm,D9]
  ·rw[decide_eq_false (show ¬ (V.int (i:Int)=V.int (p:Int)) from fun z=>hm (by injection z;omega))]
   refine T8 ?_
   refine⟨_,rfl,h6,kN _ _ _ ⟨⟨_,rfl⟩,s6.upd hD,c6,?_⟩⟩
   rw[et,if_neg hm,k8]
   rfl
 ·rintro xs σ' H3 ⟨⟨v,rfl⟩,s6,h6,rfl⟩
  have hkl:(O6 ns.length p).length<=24:=by
   unfold O6
   rw[b8]
   have:=O7 (fun j=>decide (j≠p)) (u7 ns.length)
   rw[v8]at this
   omega
  refine⟨_,rfl,D,rfl,⟨_,SqL.of h6⟩,fun D2 hD2=>?_⟩
  have hS3:=hS.same s6
  have hea3:=s6.seq hea
  refine Y1 (K:=K) (a:=D) (D:=D2) (ys:=(O6 ns.length p).map V.int) (fun i xs σ' H'=>(∃ v,σ'=[v,some (.ref a),some (.ref ea)])/\A3 H3 H'/\H' D2=some (.lst xs)/\xs=(((O6 ns.length p).take i).map fun z=>ad9 ns es z.toNat).map V.int) ⟨⟨none,rfl⟩,f6 hD2,c6,rfl⟩ (by rw[b8];omega)
   (fun i xs σ' H' hi ⟨_,s8,h8,e8⟩=>⟨SqL.of (s8 _ _ h6),h8,by rw[e8,b8,b8,o8];omega⟩) ?_ ?_
  ·rintro i xs x σ' H' N kN hx ⟨⟨v,rfl⟩,s8,h8,rfl⟩
   obtain⟨z,hz,rfl⟩:=V8 hx
   obtain⟨j,rfl,hj⟩:=bA7 (i7 hz)
   refine C2 (O5 ?_)
   have fin:∀ y:Int,y=ad9 ns es j->(H' D2=some (.lst ((((O6 ns.length p).take i).map fun z=>ad9 ns es z.toNat).map V.int))/\N ((((O6 ns.length p).take i).map fun z=>ad9 ns es z.toNat).map V.int++[.int y]) [some (.int j),some (.ref a),some (.ref ea)] (upd H' D2 (.lst ((((O6 ns.length p).take i).map fun z=>ad9 ns es z.toNat).map V.int++[.int y])))):=fun y ey=>by
    refine⟨h8,kN _ _ _ ⟨⟨_,rfl⟩,s8.upd hD2,c6,?_⟩⟩
    rw[u9,hz,k8,k8,ey]
    rfl
   refine⟨_,rfl,_,rfl,bN3 hun (s8.seq hea3) ⟨_,rfl,?_⟩⟩
   by_cases hm:(j:Int)∈es
   ·rw[decide_eq_true hm]
    refine T8 ⟨_,rfl,_,rfl,ba4 (hS3.same s8) hj ⟨_,_,rfl,rfl,fin _ ?_⟩⟩
    unfold ad9
    rw[if_pos hm]
   ·rw[decide_eq_false hm]
    refine T9 ⟨_,rfl,_,rfl,ba4 (hS3.same s8) hj (fin _ ?_)⟩
    unfold ad9
    rw[if_neg hm]
  ·rintro xs σ' H4 ⟨⟨v,rfl⟩,s8,h8,rfl⟩
   rw[j7 (by rw[b8];exact c8 _),bq6]at h8
   exact q D2 H4 (s6.trans s8) (s6.free hD2) h8
end
theorem ay1 (ns:List Int)(j:Nat)(v:Int):(ns.map V.int).set j (.int v)=(ns.set j v).map V.int:=by rw[aj3]
theorem cj2 {k:Int}(h0:0<=k)(h1:k<1000):-(2 ^ 63)<=k/\k<2 ^ 63:=by
 constructor<;>omega
theorem bR5 (n:Nat)(z:Int):(C0 n [V.int z]).flatten=(C0 n z).map V.int:=by
 induction n with
 | zero=>rfl
 | succ n ih=>rw[N5,Q0,ih,N5];rfl
section
variable {K:W.Frag} {mg:Str->Option Value} {base:Heap}
def be0 (K:W.Frag):Sp:=fun vs H Q _=>∃ (a:Addr) (ns:List Int),vs=[.ref a]/\Sq K H a ns/\ns.length<64/\∀ (l:Addr) (H':Hp),A3 H H'->H l=none->H' l=some (.lst ((up2 ns).reverse.map V.int))->Q (.ref l) H'
theorem bW9:A4 ["tally"] ["tally"] (p5 ap7):=.mk'
theorem bk6 (F:Fun K "falling" "falling" ap7 f fd)(B:Bn mg):x6 P w K mg base CX0 1 f fd ["tally"] (be0 K):=by
 refine F.ok bW9 (fun cdv A outer s H vs Q E hr h=>?_)
 obtain⟨a,ns,rfl,hS,h64,q⟩:=h
 refine⟨_,o5 (C1 (by0 K rfl (by rfl) B.sorted (b9 (pv 0) d5))),?_⟩
 refine⟨_,rfl,a,ns,rfl,hS,h64,fun l zs hl hp hs=>?_⟩
 rw[bl8 hp hs]
 exact q l _ (f6 hl) hl c6
def aO7 (K:W.Frag):Sp:=fun vs H Q _=>∃ (a:Addr) (ns:List Int) (M r:Nat),vs=[.ref a,.int M,.int r]/\SqL K H a ((up2 ns).reverse.map V.int)/\M<=1000000/\r<=100/\ns.length<64/\∀ (H':Hp),A3 H H'->Q (.int (aa0 ns M r)) H'
theorem bj6:A4 ["numbers","most","r","from_others"] ["numbers","most","r"] (p5 ae5):=.mk'
theorem aY6 (F:Fun K "room_among" "room_among" ae5 f fd) (B:Bn mg):x6 P w K mg base CX0 1 f fd ["numbers","most","r"] (aO7 K):=by
 refine F.ok bj6 (fun cdv A outer s H vs Q E hr h=>?_)
 obtain⟨a,ns,M,r,rfl,hS,hM,hr1,h64,q⟩:=h
 have hsl:=L8
 have nd2:(["number","most","r"]:List Str).Nodup:=by decide +kernel
 have hlen:(up2 ns).reverse.length=ns.length:=by rw[bP6,aA2]
 generalize hz:(up2 ns).reverse=zs at hS hlen
 refine⟨_,j0 (A9 (i:=3) bj6.nd rfl (Or.inl rfl) (A6 (am7 rfl) (by rfl) B.sum (by rfl) (b9
   (N2 (N' := ["number", "most", "r"]) (lk := [none, some 1, some 2]) rfl (aa5 (Y8 ah3 (pv 0) (ad4 (pv 2)) ad5)) (by rfl) rfl (by decide +kernel) (by exact ⟨rfl, rfl, trivial⟩) (by rfl) (by exact LkL.ok ⟨⟨rfl, Or.inl rfl, rfl, Or.inl rfl⟩, ⟨rfl, Or.inl rfl, rfl, Or.inl rfl⟩, trivial⟩)
    (fun _ _ _=>B0 (i:=0) nd2 rfl (Or.inl rfl)) (fun _ _ _=>S4) (fun _ _ _=>A6 (ax3 rfl) (by rfl) B.min (by rfl) (b9 (pv 0) (b9 (x9 ah8 (pv 1) (pv 2)) d5)))) d5)))
  (o5 (C1 (x9 ah7 (x9 U3 (x9 ah8 (x9 ah8 (pv 1) (pv 2)) (x9 ah7 (pv 2) i6)) (pv 3)) (A6 (am7 rfl) (by rfl) B.sum (by rfl) (b9 (Y8 ah3 (pv 0) ad5 (ad4 (pv 2))) d5))))),?_⟩
 refine⟨_,rfl,_,rfl,_,rfl,a,_,rfl,hS,fun c hc=>?_⟩
 rw[ae8]
 have s1:=f6 (o:=.lst ((zs.drop r).map V.int)) hc
 refine⟨c,rfl,⟨_,SqL.of c6⟩,fun D hD=>Y1 (K:=K) (a:=c) (D:=D) (ys:=(zs.drop r).map V.int) (fun i xs σ' H'=>∃ v,σ'=[v,some (.int M),some (.int r)]/\A3 H H'/\H' c=some (.lst ((zs.drop r).map V.int))/\xs=(((zs.drop r).take i).map (mn ((M:Int)*(r:Int)))).map V.int/\H' D=some (.lst xs))
   ⟨none,rfl,s1.trans (f6 hD),f6 hD _ _ c6,by simp,c6⟩ (by rw[b8,E7];omega) (fun i xs σ' H' hi ⟨_,_,s3,g3,e3,h3⟩=>⟨SqL.of g3,h3,by rw[e3,b8,b8,o8,E7];omega⟩) ?_ ?_⟩
 ·rintro i xs x σ' H' N kN hx ⟨v,rfl,s3,g3,rfl,h3⟩
  obtain⟨z,hz',rfl⟩:=V8 hx
  refine C2 (O5 ?_)
  refine⟨_,rfl,_,rfl,_,rfl,_,_,rfl,rfl,.inl ⟨by omega,by omega⟩,_,_,rfl,?_⟩
  refine⟨h3,kN _ _ _ ⟨_,rfl,s3.upd (s1.free hD),?_,?_,c6⟩⟩
  ·rw[q8 (q0 c6 hD)];exact g3
  ·rw[u9,hz',k8,k8];rfl
 ·rintro xs σ' H3 ⟨v,rfl,s3,g3,rfl,h3⟩
  rw[j7 (by rw[b8];exact c8 _)]at h3
  refine⟨D,_,rfl,SqL.of h3,?_⟩
  refine⟨_,rfl,_,rfl,_,_,rfl,rfl,.inl ⟨by omega,by omega⟩,_,rfl,_,_,rfl,rfl,_,_,rfl,rfl,.inr ⟨by omega,by omega⟩,_,rfl,_,_,rfl,rfl,?_⟩
  refine⟨_,rfl,_,rfl,_,rfl,a,_,rfl,s3.seq hS,fun c2 hc2=>?_⟩
  rw[am4]
  refine⟨c2,_,rfl,SqL.of c6,_,_,rfl,rfl,?_⟩
  have fin:=q _ (s3.trans (f6 (o:=.lst ((zs.take r).map V.int)) hc2))
  rw[<- ay3 (M:=M) (r:=r) hz.symm]at fin
  exact fin
end
def wlT:Wl->List V
 | .below p=>[.str "below",.int p]
 | .odd=>[.str "odd"]
 | .wall r=>[.str "wall",.int r]
 | .free=>[]
def ck1 (H:Hp)(v:V)(x:Wl):Prop:=(x=.free/\v=.non)\/(x≠.free/\∃ a,v=.ref a/\H a=some (.tup (wlT x)))
theorem bN2 {a b:Int}(h:decide (V.int a=V.int b)=true):a=b:=by
 have:=of_decide_eq_true h
 injection this
theorem bB0 {a b:Int}(h:¬ decide (V.int a=V.int b)=true):¬ a=b:=fun e=>h (by rw[e];exact decide_eq_true rfl)
section
variable {K:W.Frag} {mg:Str->Option Value} {base:Heap}
def bj4 (K:W.Frag):Sp:=fun vs H Q _=>∃ (a:Addr) (ns:List Int),vs=[.ref a]/\Sq K H a ns/\ns.length<=100/\∀ (l:Addr) (H':Hp),A3 H H'->H l=none->H' l=some (.lst ((cj9 ns).map V.int))->Q (.ref l) H'
theorem bJ4:A4 ["numbers"] ["numbers"] (p5 al8):=.mk'
theorem by9 (F:Fun K "places_below" "places_below" al8 f fd)(B:Bn mg):x6 P w K mg base CX0 1 f fd ["numbers"] (bj4 K):=by
 refine F.ok bJ4 (fun cdv A outer s H vs Q E hr h=>?_)
 obtain⟨a,ns,rfl,hS,hn,q⟩:=h
 have hsl:=L8
 have nd2:(["place","number"]:List Str).Nodup:=by decide +kernel
 refine⟨_,o5 (C1 (N2 (N':=["place","number"]) (lk:=[none,none]) rfl (bR8 (bk1 (by rfl) B.enum (b9 (pv 0) d5)) (aX6 (by rfl) B.enum (b9 (pv 0) d5))) (by rfl) rfl (by decide +kernel) (by exact trivial) (by rfl) (by exact LkL.ok trivial)
    (fun _ _ _=>aA9 (n:=2) K rfl rfl (L9 (B0 (i:=0) nd2 rfl (Or.inl rfl)) (L9 (B0 (i:=1) nd2 rfl (Or.inl rfl)) ah5))) (fun _ _ _=>ah4 (D6 aE3 (pv 1) i6 (E9 _))) (fun _ _ _=>pv 0))),?_⟩
 refine Or.imp (fun h=>⟨_,rfl,h⟩) (fun h=>⟨_,rfl,h⟩) (aG6 (K:=K) (a:=a) (ys:=ns.map V.int) hS (by rw[b8];omega)
  (fun D i xs σ' H'=>(∃ v u,σ'=[v,u])/\A3 H H'/\H' D=some (.lst xs)/\xs=((ax4 ns i).map Int.ofNat).map V.int) (fun D hD=>⟨⟨none,none,rfl⟩,f6 hD,c6,rfl⟩)
  (fun D i xs σ' H' hD hi ⟨_,s1,h1,e1⟩=>⟨s1,h1,by rw[e1,b8,b8];exact bE1 ns i⟩) ?_ ?_)
 ·rintro D i xs x t σ' H' N hD kN hx ⟨⟨v,u,rfl⟩,s1,h1,rfl⟩ ht
  obtain⟨z,hz,rfl⟩:=V8 hx
  have s2:=f6 (o:=.tup [.int i,.int z]) ht
  refine⟨t,_,rfl,SqT.of c6,rfl,_,_,rfl,_,_,rfl,rfl,?_⟩
  refine⟨_,rfl,_,_,rfl,rfl,_,rfl,?_⟩
  have e3:=bs5 ns i
  rw[au3 hz]at e3
  by_cases hb:z<0
  ·rw[decide_eq_true hb]
   refine T8 ⟨_,rfl,s2 _ _ h1,kN _ _ _ ⟨⟨_,_,rfl⟩,(s1.trans s2).upd hD,c6,?_⟩⟩
   rw[e3,if_pos hb,k8,k8]
   rfl
  ·rw[decide_eq_false hb]
   refine T9 (kN _ _ _ ⟨⟨_,_,rfl⟩,s1.trans s2,s2 _ _ h1,?_⟩)
   rw[e3,if_neg hb,D9]
 ·rintro D xs σ' H' hD ⟨⟨v,u,rfl⟩,s1,h1,rfl⟩
  rw[b8]at h1
  exact q D H' s1 hD h1
def as3 (K:W.Frag)(CB:Addr):Sp:=fun vs H Q E=>∃ (a:Addr) (ns:List Int) (M:Nat),vs=[.ref a,.int M]/\Sq K H a ns/\M<=1000000/\(R6 ns->∀ (v:V) (x:Wl) (H':Hp),A3 H H'->Z4 ns M x->ck1 H' v x->Q v H')/\(¬ R6 ns->E (.ref CB) none H)
theorem aA5:A4 ["tally","most","below","numbers","r"] ["tally","most"] (p5 al7):=.mk'
set_option maxHeartbeats 1000000 in
theorem aE5 {fF fβ:Addr} (F:Fun K "wall_with" "wall_with" al7 f fd) (B:Bn mg) (FT:Fq K mg "check_tally" aq9 fT fdT ["tally"])
  (FF:Fq K mg "falling" ap7 fF fdF ["tally"]) (FA:Fq K mg "room_among" ae5 fA fdA ["numbers","most","r"])
  (Fβ:Fq K mg "places_below" al8 fβ fdβ ["numbers"])
  (mM:mg "MOST_PLACES"=some (.int 24 tk)) (mB:mg "BadTally"=some (.ref CB)) (cB:ak0 K CB):x6 P w K mg base (CXE P w) 2 f fd ["tally","most"] (as3 K CB):=by
 have GT:x6 P w K mg base (CXE P w) 1 fT fdT ["tally"] (aC9 K CB):=aE6 FT.F B mM mB cB
 have GF:x6 P w K mg base CX0 1 fF fdF ["tally"] (be0 K):=bk6 FF.F B
 have GA:x6 P w K mg base CX0 1 fA fdA ["numbers","most","r"] (aO7 K):=aY6 FA.F B
 have GL:x6 P w K mg base CX0 1 fβ fdβ ["numbers"] (bj4 K):=by9 Fβ.F B
 refine F.okX aA5 (fun cdv A outer s H vs Q E hr h=>?_)
 obtain⟨a,ns,M,rfl,hS,hM,h1,h2⟩:=h
 have hsl:=L8
 refine⟨_,j0 (S5 (D0 GT hr (by rfl) FT ap8 (b9 (pv 0) d5)))
   (j0 (A9 (i:=2) aA5.nd rfl (Or.inl rfl) (D0 GL hr (by rfl) Fβ K6 (b9 (pv 0) d5)))
   (j0 (N1 (aX4 (pv 2) (fun _=>rfl)) (o5 (C1 (M3 (b9 U2 (b9 (F6 aa7 (pv 2) i6 (fun _ _=>rfl)) d5))))) F1)
   (j0 (N1 (D6 ai7 (x9 M8 (A6 (bs1 rfl) (by rfl) B.sum (by rfl) (b9 (pv 0) d5)) i6) i6 (E9 _)) (o5 (C1 (M3 (b9 U2 d5)))) F1)
   (j0 (A9 (i:=3) aA5.nd rfl (Or.inl rfl) (D0 GF hr (by rfl) FF K6 (b9 (pv 0) d5)))
   (j0 (ab9 bx6 rfl (aK2 rfl B.range (b9 i6 (b9 (x9 U3 (A6 B1 (by rfl) B.len PySem.boot_len (b9 (pv 3) d5)) i6) d5))) (B0 (i := 4) aA5.nd rfl (Or.inl rfl))
    (o5 (N1 (D6 aE3 (D0 GA hr (by rfl) FA K6 (b9 (pv 3) (b9 (pv 1) (b9 (pv 4) d5)))) i6 (E9 _)) (o5 (C1 (M3 (b9 U2 (b9 (pv 4) d5))))) F1)))
   (o5 (C1 aw3))))))),?_⟩
 refine⟨_,rfl,a,ns,rfl,hS,fun ht=>?_,h2⟩
 have t2:=ht.2
 refine⟨_,rfl,a,ns,rfl,hS,by omega,fun bl H1 s1 hbl g1=>?_⟩
 refine⟨_,rfl,_,.inl ⟨_,SqL.of g1,rfl⟩,?_⟩
 unfold cj9 at g1 ⊢
 cases hb:ax4 ns ns.length with
 | cons p ps =>
  rw[hb]at g1
  refine T8 ⟨_,rfl,bl,_,_,_,rfl,rfl,SqL.of g1,y7 (j:=0) rfl,(by show 2<=j8;decide),fun q hq=>?_⟩
  exact h1 ht _ (.below p) _ (s1.trans (f6 hq)) (bE0 hb) (.inr ⟨by simp,q,rfl,c6⟩)
 | nil =>
  have hall:AllP ns:=bO3 hb
  refine T9 ?_
  refine⟨_,rfl,a,ns,rfl,hS.same s1,_,_,rfl,rfl,(by show (0:Int)<2;decide),rfl,_,rfl,?_⟩
  refine aR1 (fun h=>?_) (fun h=>?_)
  ·exact⟨(by show 1<=j8;decide),fun p hp=>h1 ht _ .odd _ (s1.trans (f6 hp)) ⟨hall,bN2 h⟩ (.inr ⟨by simp,p,rfl,c6⟩)⟩
  ·have hev:=bB0 h
   refine⟨_,rfl,a,ns,rfl,hS.same s1,by omega,fun l H2 s2 hl g2=>?_⟩
   refine⟨_,rfl,l,_,rfl,.inl (SqL.of g2),_,_,rfl,rfl,1,((ns.length:Int)+1),by rw[b8,bP6,aA2],⟨by omega,by omega,by omega,by omega⟩,?_⟩
   rw[show ((ns.length:Int)+1 - 1).toNat=ns.length by omega]
   refine ab4 (lo:=1) (n:=ns.length) (fun i σ H3=>∃ e4,σ=[some (.ref a),some (.int M),some (.ref bl),some (.ref l),e4]/\A3 H2 H3/\∀ k,1<=k->k<i+1->0<=aa0 ns M k) ⟨none,rfl,A3.refl H2,fun k k1 k2=>by omega⟩ ?_ ?_
   ·rintro i σ H3 hi ⟨e4,rfl,s3,hrm⟩
    have e0:((1:Int)+(i:Int))=((i+1:Nat):Int):=by omega
    rw[e0]
    refine C2 ?_
    refine⟨_,rfl,_,rfl,_,rfl,l,ns,M,i+1,rfl,SqL.of (s3 _ _ g2),hM,by omega,by omega,fun H4 s4=>⟨_,_,rfl,rfl,_,rfl,?_⟩⟩
    refine aR1 (fun h=>?_) (fun h=>?_)
    ·refine⟨_,rfl,(by show 2<=j8;decide),fun p hp=>?_⟩
     exact h1 ht _ (.wall (i+1)) _ ((((s1.trans s2).trans s3).trans s4).trans (f6 hp)) ⟨hall,hev,by omega,by omega,of_decide_eq_true h,hrm⟩ (.inr ⟨by simp,p,rfl,c6⟩)
    ·have h':¬ aa0 ns M (i+1)<0:=fun q=>h (decide_eq_true q)
     refine⟨_,rfl,s3.trans s4,fun k k1 k2=>?_⟩
     rcases B3 k (i+1) with l1 | l1
     ·exact hrm k k1 l1
     ·rw[show k=i+1 by omega];omega
   ·rintro σ H3 ⟨e4,rfl,s3,hrm⟩
    exact h1 ht _ .free _ ((s1.trans s2).trans s3) ⟨hall,hev,fun k k1 k2=>hrm k k1 (by omega)⟩ (.inl ⟨rfl,rfl⟩)
def bu6 (K:W.Frag)(CB:Addr):Sp:=fun vs H Q E=>∃ (a:Addr) (ns:List Int),vs=[.ref a]/\Sq K H a ns/\(R6 ns->∀ (v:V) (x:Wl) (H':Hp),A3 H H'->bi1 ns x->ck1 H' v x->Q v H')/\(¬ R6 ns->E (.ref CB) none H)
theorem bW5:A4 ["tally"] ["tally"] (p5 aW2):=.mk'
theorem bK8 {fω fF fβ:Addr}(F:Fun K "wall_of" "wall_of" aW2 f fd)(B:Bn mg)(FT:Fq K mg "check_tally" aq9 fT fdT ["tally"])
  (FF:Fq K mg "falling" ap7 fF fdF ["tally"])(FA:Fq K mg "room_among" ae5 fA fdA ["numbers","most","r"])
  (Fβ:Fq K mg "places_below" al8 fβ fdβ ["numbers"])(Fω:Fq K mg "wall_with" al7 fω fdω ["tally","most"])
  (mM:mg "MOST_PLACES"=some (.int 24 tk))(mB:mg "BadTally"=some (.ref CB))(cB:ak0 K CB):x6 P w K mg base (CXE P w) 3 f fd ["tally"] (bu6 K CB):=by
 have GW:x6 P w K mg base (CXE P w) 2 fω fdω ["tally","most"] (as3 K CB):=aE5 Fω.F B FT FF FA Fβ mM mB cB
 refine F.okX bW5 (fun cdv A outer s H vs Q E hr h=>?_)
 obtain⟨a,ns,rfl,hS,h1,h2⟩:=h
 refine⟨_,o5 (C1 (D0 GW hr (by rfl) Fω ap8 (b9 (pv 0) (b9 i6 d5)))),?_⟩
 exact⟨_,rfl,a,ns,1,rfl,hS,by decide,fun ht v x H' s' hx hv=>h1 ht v x H' s' (aA1 hx) hv,h2⟩
end
theorem Y9 {PT l:Addr}{po:Pos}{qu:Str}(g:P0 PT H H')(t:R7 PT po qu H)(h:H l=some (.lst xs)):H' l=some (.lst xs):=by
 obtain⟨ps,hP,_⟩:=t
 exact g l _ (fun z=>by rw[z,hP]at h;cases h) h
theorem ab3 {K:W.Frag}{PT:Addr}{po:Pos}{qu:Str}(g:P0 PT H H')(t:R7 PT po qu H):∀ {zs:List V} {ks:List (List Int)},B2 K H zs ks->B2 K H' zs ks
 | _,_,.nil=>.nil
 | _,_,.cons ⟨a,e,h⟩ r=>.cons ⟨a,e,P0.sqT g t h⟩ (ab3 g t r)
section
variable {K:W.Frag} {mg:Str->Option Value} {base:Heap}
noncomputable def ba9 (ns:List Int)(p:Nat)(es:List Int):List (List Int):=star p es++bA1 (ns.length - 1) (W8 ns p es) (O6 ns.length p)
def bv6 (K:W.Frag)(PT:Addr):Sp:=fun vs H Q _=>∃ (a ea:Addr) (ns es:List Int) (p:Nat),vs=[.ref a,.int p,.ref ea]/\Sq K H a ns/\R6 ns/\p<ns.length/\SqL K H ea (es.map V.int)/\es.Nodup/\es.length<=24/\(∀ z∈es,0<=z/\z<ns.length/\z≠p)/\(es.length:Int)=ns.getD p 0/\Gr (W8 ns p es)/\Tb PT H /\
 ∀ (r t:Addr) (zs:List V) (ks:List (List Int)) (H':Hp),P0 PT H H'->Tb PT H'->H' r=some (.tup [.int ns.length,.ref t])->H' t=some (.tup zs)->B2 K H' zs ks->ks.Perm ((ba9 ns p es).map up)->ks.Pairwise (fun a b=>Tim.M4 b a=false)->tal ns.length ks=ns->(∀ k∈ks,Up ns.length k)->ks.Nodup->Q (.ref r) H'
theorem al6:A4 ["tally","place","ends","ties","places","left","chosen"] ["tally","place","ends"] (p5 aW6):=.mk'
set_option maxHeartbeats 2000000 in
theorem bL5 {fI fU fV fO fF fL PT:Addr} {fdU fdV:FuncData} (F:Fun K "laid_around" "laid_around" aW6 f fd) (B:Bn mg) (FI:Fq K mg "is_place" aW8 fI fdI ["places","number"])
    (FU:Fq K mg "turned_up" sUp fU fdU ["places","tie"]) (FV:Fq K mg "made" aD4 fV fdV ["places","ties"])
    (FO:Fq K mg "order_of" aW5 fO fdO ["tally"]) (hc:fdO.code=.ref c) (LB:ap0 base mg c PT)
    (FT:Fq K mg "check_tally" aq9 fT fdT ["tally"]) (FF:Fq K mg "first_of_order" aw0 fF fdF ["tally","many","passed_over"])
    (FL:Fq K mg "left_of_others" aK0 fL fdL ["tally","place","ends"])
    (mM:mg "MOST_PLACES"=some (.int 24 tk)) (mB:mg "BadTally"=some (.ref CB)) (cB:ak0 K CB):x6 P w K mg base CX0 4 f fd ["tally","place","ends"] (bv6 K PT):=by
  have GF:x6 P w K mg base (CXE P w) 3 fF fdF ["tally","many","passed_over"] (aO6 K PT):=aY5 FF.F B FO hc LB FT mM mB cB
  have GL:x6 P w K mg base CX0 3 fL fdL ["tally","place","ends"] (bv5 K):=(bL3 FL.F B).mono (by decide)
  have GV:x6 P w K mg base CX0 3 fV fdV ["places","ties"] (aO4 K):=bk5 FV.F B FI FU mM
  refine F.ok al6 (fun cdv A outer s H vs Q E hr h=>?_)
  obtain⟨a,ea,ns,es,p,rfl,hS,ht,hp,hea,ne,hel,he,hn,hg,tb,q⟩:=h
  have hsl:=L8
  have t2:=ht.2
  have nd1:(["end","place"]:List Str).Nodup:=by decide +kernel
  have nd2:(["one","place"]:List Str).Nodup:=by decide +kernel
  have nd3:(["one","places"]:List Str).Nodup:=by decide +kernel
  refine⟨_,j0 (aP8 (i:=3) al6.nd rfl rfl (by rfl) (N':=["end","place"]) (lk:=[none,some 1]) rfl (aa5 (pv 2)) (by rfl) rfl (by decide +kernel) (by exact⟨rfl,trivial⟩) (by rfl) (by exact LkL.ok ⟨⟨rfl,Or.inl rfl,rfl,Or.inl rfl⟩,trivial⟩)
        (fun _ _ _=>B0 (i:=0) nd1 rfl (Or.inl rfl)) (fun _ _ _=>S4) (fun _ _ _=>M3 (b9 (pv 1) (b9 (pv 0) d5))))
    (j0 (A9 (i:=4) al6.nd rfl (Or.inr rfl) (N2 (N':=["one","place"]) (lk:=[none,some 1]) rfl (U7 rfl B.range (b9 (A6 B1 (by rfl) B.len PySem.boot_len (b9 (pv 0) d5)) d5)) (by rfl) rfl (by decide +kernel) (by exact⟨rfl,trivial⟩) (by rfl) (by exact LkL.ok ⟨⟨rfl,Or.inl rfl,rfl,Or.inl rfl⟩,trivial⟩)
        (fun _ _ _=>B0 (i:=0) nd2 rfl (Or.inl rfl)) (fun _ _ _=>ah4 (D6 aY1 (pv 0) (pv 1) (E9 _))) (fun _ _ _=>pv 0)))
    (j0 (A9 (i:=5) al6.nd rfl (Or.inl rfl) (D0 GL hr (by rfl) FL K6 (b9 (pv 0) (b9 (pv 1) (b9 (pv 2) d5)))))
    (j0 (aX5 PassesOwn.never (aX4 (pv 5) (fun _=>rfl))
      (j0 (A9 (i:=6) al6.nd rfl (Or.inl rfl) (D0 GF hr (by rfl) FF (af8 (P:=P) (w:=w)) (b9 (pv 5) (b9 (F6 aa7 (pv 5) i6 (fun _ _=>rfl)) (b9 (X9 (b9 i6 d5)) d5)))))
      (j0 (bx5 (i:=3) al6.nd rfl (Or.inl rfl) (N2 (N':=["one","places"]) (lk:=[none,some 4]) rfl (aa5 (pv 6)) (by rfl) rfl (by decide +kernel) (by exact⟨rfl,trivial⟩) (by rfl) (by exact LkL.ok ⟨⟨rfl,Or.inl rfl,rfl,Or.inl rfl⟩,trivial⟩)
          (fun _ _ _=>B0 (i:=0) nd3 rfl (Or.inl rfl)) (fun _ _ _=>S4) (fun _ _ _=>M3 (b9 (V6 K rfl (pv 1) i6 (fun _ _=>rfl)) (b9 (V6 K rfl (pv 1) (pv 0) (fun _ _=>rfl)) d5)))) bA9)
      (j0 (A9 (i:=5) al6.nd rfl (Or.inl rfl) (D0 GL hr (by rfl) FL K6 (b9 (pv 5) (b9 i6 (b9 (pv 6) d5)))))
      (o5 (A9 (i:=4) al6.nd rfl (Or.inr rfl) (Y8 ah3 (pv 4) (ad4 i6) ad5)))))))
    (o5 (C1 (D0 GV hr (by rfl) FV K6 (b9 (A6 B1 (by rfl) B.len PySem.boot_len (b9 (pv 0) d5)) (b9 (pv 3) d5)))))))),?_⟩
  have hun:=hr.units
  refine⟨_,rfl,ea,rfl,⟨_,hea⟩,fun D hD=>Y1 (K:=K) (a:=ea) (D:=D) (ys:=es.map V.int) (fun i xs σ' H'=>(∃ v,σ'=[v,some (.int p)])/\A3 H H'/\H' D=some (.lst xs)/\B2 K H' xs (star p (es.take i)))
    ⟨⟨none, rfl⟩, f6 hD, c6, .nil⟩ (by rw [b8]; omega) (fun i xs σ' H' hi ⟨_, s6, h6, t6⟩ => ⟨s6.seq hea, h6, by
      have h7:=t6.len
      unfold star at h7
      rw[b8,o8]at h7
      omega⟩) ?_ ?_⟩
  · rintro i xs x σ' H' N kN hx ⟨⟨v,rfl⟩,s6,h6,t6⟩
    obtain⟨z,hz,rfl⟩:=V8 hx
    refine C2 (O5 ?_)
    refine⟨_,rfl,_,rfl,(by show 2<=j8;decide),fun t ft=>?_⟩
    have st:=f6 (o:=.tup [.int (p:Int),.int z]) ft
    have h6':=st _ _ h6
    refine⟨h6',kN _ _ _ ⟨⟨_,rfl⟩,(s6.trans st).upd hD,c6,?_⟩⟩
    have et:star p (es.take (i+1))=star p (es.take i)++[[(p:Int),z]]:=by
      unfold star
      rw[u9,hz,k8]
      rfl
    rw[et]
    refine B2.updL h6' (B2.append (st.tups t6) (B2.one (SqT.of ?_)))
    exact c6
  · rintro xs σ' H1 ⟨⟨v,rfl⟩,s1,h1,t1⟩
    rw[j7 (by rw[b8];exact c8 _)]at t1
    have hS1:=hS.same s1
    refine⟨_,rfl,a,_,rfl,hS1,(ns.length:Int),congrArg (fun z:Nat=>[V.int (z:Int)]) (b8 ..),by omega,by omega,fun D2 hD2=>?_⟩
    rw[p0]
    refine ah9 (lo:=0) (n:=ns.length) (D:=D2) (fun i xs σ' H'=>(∃ v,σ'=[v,some (.int p)])/\A3 H1 H'/\H' D2=some (.lst xs)/\xs=(O6 i p).map V.int) ⟨⟨none,rfl⟩,f6 hD2,c6,rfl⟩ (by omega)
      (fun i xs σ' H' hi ⟨_,s6,h6,e6⟩=>⟨h6,by
        rw[e6,b8]
        unfold O6
        rw[b8]
        have:=O7 (fun j=>decide (j≠p)) (u7 i)
        rw[v8]at this
        exact this⟩) ?_ ?_
    · rintro i xs σ' H' N kN hi ⟨⟨v,rfl⟩,s6,h6,rfl⟩
      have e0:((0:Int)+(i:Int))=(i:Int):=by omega
      rw[e0]
      refine C2 ?_
      refine⟨_,rfl,_,rfl,rfl,_,rfl,?_⟩
      have et:O6 (i+1) p=O6 i p++(if i=p then [] else [(i:Int)]):=by
        unfold O6
        rw[G2,S9,k8]
        congr 1
        by_cases h:i=p<;>simp[h]
      by_cases hm:i=p
      · refine aF6 (by rw[hm]) ?_
        refine kN _ _ _ ⟨⟨_,rfl⟩,s6,h6,?_⟩
        rw[et,if_pos hm,D9]
      · rw[decide_eq_false (show ¬ (V.int (i:Int)=V.int (p:Int)) from fun z=>hm (by injection z;omega))]
        refine T8 ?_
        refine⟨_,rfl,h6,kN _ _ _ ⟨⟨_,rfl⟩,s6.upd hD2,c6,?_⟩⟩
        rw[et,if_neg hm,k8]
        rfl
    · rintro xs2 σ' H2 ⟨⟨v2,rfl⟩,s2,h2,rfl⟩
      have s12:=s1.trans s2
      refine⟨_,rfl,_,rfl,_,rfl,a,ea,ns,es,p,rfl,hS.same s12,t2,s12.seq hea,fun l3 H3 s3 f3 g3=>?_⟩
      have s23:=s2.trans s3
      refine⟨fun m σ Ha=>∃ (ks:List (List Int)) (ps left:List Int) (zs:List V) (pa la:Addr) (e6:Option V),σ=[some (.ref a),some (.int p),some (.ref ea),some (.ref D),some (.ref pa),some (.ref la),e6]/\left.length=m/\m<24/\am8 ns ps left ks/\Gr left/\ks++bA1 m left ps=ba9 ns p es/\Ha D=some (.lst zs)/\B2 K Ha zs ks /\
          Ha pa=some (.lst (ps.map V.int))/\pa≠D/\Ha la=some (.lst (left.map V.int))/\la≠D/\P0 PT H Ha/\Tb PT Ha,
        ⟨ns.length - 1,star p es,O6 ns.length p,W8 ns p es,xs,D2,l3,none,rfl,ao3 hp,by omega,am8.start hp ne he hn,hg,rfl,s23 _ _ h1,s23.tups t1,s3 _ _ h2,(q0 h1 hD2).symm,g3,(q0 (s2 _ _ h1) f3).symm,(s12.trans s3).grow PT,tb.same (s12.trans s3)⟩,?_⟩
      rintro m σ Ha ⟨ks,ps,left,zs,pa,la,e6,rfl,hm,hm2,hI,hG,hF,gD,tD,gp,np,gl,nl,gr,tbA⟩
      have hpl:=hI.len
      refine⟨_,rfl,!(left.map V.int).isEmpty,.inl ⟨_,SqL.of gl,rfl⟩,?_⟩
      cases m with
      | zero =>
        obtain rfl:left=[]:=ap4.mp hm
        obtain rfl:ps=[]:=ap4.mp hpl.symm
        have hF:ks=ba9 ns p es:=by
          have:ks++[]=ba9 ns p es:=hF
          rw[D9]at this
          exact this
        have hle:=hI.len_le t2
        refine T9 ?_
        refine⟨_,rfl,a,_,rfl,hS.grow gr tb,_,rfl,ns.length,D,zs,ks,by rw[b8];rfl,ht.1,t2,.inl (SqL.of gD),tD,hI.ends,hI.nodup,by omega,fun r t zs2 ks2 H' s' _ _ k1 k2 tt pm so=>?_⟩
        refine q r t zs2 ks2 H' (gr.trans (s'.grow PT)) (tbA.same s') k1 k2 tt (by rw[<- hF];exact pm) so ?_ (fun k hk=>?_) (pm.nodup_iff.mpr hI.nodup)
        · rw[bu0 pm,bV0 hI.ends]
          exact hI.last
        · obtain⟨k',hk',rfl⟩:=u5.mp (pm.mem_iff.mp hk)
          exact(hI.ends k' hk').up
      | succ m =>
        have h0:0<left.length:=by omega
        have hnn:=Z1 (aF8 hG) h0
        obtain⟨k,hk⟩:∃ k:Nat,left.getD 0 0=(k:Int):=⟨(left.getD 0 0).toNat,by omega⟩
        have at0:atI (left.map V.int) 0=some (.int (k:Int)):=by
          rw[<- hk]
          exact ar8 (j:=0) h0
        have hne:(left.map V.int).isEmpty=false:=by
          cases left with
          | nil=>exact absurd h0 (C7 _)
          | cons _ _=>rfl
        rw[hne]
        refine T8 ⟨_,fun σ' H' h=>⟨m,aT6 m,h⟩,?_⟩
        refine⟨_,rfl,_,rfl,la,_,_,_,rfl,rfl,SqL.of gl,at0,(by show 1<=j8;decide),fun lz fz=>?_⟩
        have sz:=f6 (o:=.lst [.int 0]) fz
        refine⟨la,lz,left,[0],k,rfl,.inl (SqL.of (sz _ _ gl)),⟨by omega,by omega⟩,SqL.of c6,tbA.same sz,fun os D4 Hc gc tbC f4 hp4 hs4 g4=>?_⟩
        have ech:(aa1 [0] os).take k=chF left 0:=by
          rw[aK4,bk2 hp4 hs4]
          unfold chF
          rw[hk,p0]
          rfl
        rw[ech]at g4
        have tbz:=tbA.same sz
        have gDc:=Y9 gc tbz (sz _ _ gD)
        have gpc:=Y9 gc tbz (sz _ _ gp)
        have glc:=Y9 gc tbz (sz _ _ gl)
        have tDc:=ab3 gc tbz (sz.tups tD)
        have grc:=gr.trans ((sz.grow PT).trans gc)
        have n4:D4≠D:=(q0 (sz _ _ gD) f4).symm
        have hcl:(chF left 0).length<=24:=by
          have h1:=aS3 hG h0
          have h2:=bl3 hG h0
          omega
        have hgo:=hI.go hG h0
        have hle:=hgo.len_le t2
        generalize upd Ha lz (.lst [.int 0])=Hz at gc f4
        refine⟨_,rfl,_,rfl,D4,rfl,⟨_,SqL.of g4⟩,fun D5 hD5=>Y1 (K:=K) (a:=D4) (D:=D5) (ys:=(chF left 0).map V.int) (fun i xs σ' H'=>(∃ v,σ'=[v,some (.ref pa)])/\A3 Hc H'/\H' D5=some (.lst xs)/\B2 K H' xs (star (ps.getD 0 0) (((chF left 0).take i).map fun z=>ps.getD z.toNat 0)))
          ⟨⟨none, rfl⟩, f6 hD5, c6, .nil⟩ (by rw [b8]; omega) (fun i xs σ' H' hi ⟨_, s6, h6, t6⟩ => ⟨SqL.of (s6 _ _ g4), h6, by
            have h7:=t6.len
            unfold star at h7
            rw[b8,b8,o8]at h7
            omega⟩) ?_ ?_⟩
        · rintro i xs x σ' H' N kN hx ⟨⟨v,rfl⟩,s6,h6,t6⟩
          obtain⟨z,hz,rfl⟩:=V8 hx
          have hz2:=bh5 (i7 hz)
          obtain⟨j,rfl⟩:∃ j:Nat,z=(j:Int):=⟨z.toNat,by omega⟩
          refine C2 (O5 ?_)
          have hpa6:Sq K H' pa ps:=.inl (SqL.of (s6 _ _ gpc))
          refine⟨_,rfl,ba4 (j:=0) hpa6 (by omega) ⟨_,rfl,_,rfl,ba4 hpa6 (j:=j) (by omega) ⟨(by show 2<=j8;decide),fun t ft=>?_⟩⟩⟩
          have st:=f6 (o:=.tup [.int (ps.getD 0 0),.int (ps.getD j 0)]) ft
          have h6':=st _ _ h6
          refine⟨h6',kN _ _ _ ⟨⟨_,rfl⟩,(s6.trans st).upd hD5,c6,?_⟩⟩
          have et:star (ps.getD 0 0) (((chF left 0).take (i+1)).map fun z=>ps.getD z.toNat 0)=star (ps.getD 0 0) (((chF left 0).take i).map fun z=>ps.getD z.toNat 0)++[[ps.getD 0 0,ps.getD j 0]]:=by
            unfold star
            rw[u9,hz,k8,k8]
            rfl
          rw[et]
          refine B2.updL h6' (B2.append (st.tups t6) (B2.one (SqT.of ?_)))
          exact c6
        · rintro xs5 σ' H5 ⟨⟨v5,rfl⟩,s5,h5,t5⟩
          rw[j7 (by rw[b8];exact c8 _)]at t5
          have gD5:=s5 _ _ gDc
          have hl5:=t5.len
          have hlD:=tDc.len
          rw[m6]at hle
          refine⟨D,D5,zs,xs5,rfl,rfl,gD5,h5,by omega,?_⟩
          have fD:H D=none:=hD
          have gu:P0 PT H (upd H5 D (.lst (zs++xs5))):=by
            intro b o nb hb
            rw[q8 (q0 hb fD)]
            exact(grc.trans (s5.grow PT)) b o nb hb
          have tb6:Tb PT (upd H5 D (.lst (zs++xs5))):=by
            obtain⟨ps',hP,hx⟩:=tbC.same s5
            refine⟨ps',?_,hx.1,hx.2.imp id fun⟨c',e,h⟩=>⟨c',e,by rw[q8 (fun z=>by rw[z,gD5]at h;cases h)];exact h⟩⟩
            rw[q8 (fun z=>by rw[z,gD5]at hP;cases hP)]
            exact hP
          have gl6:(upd H5 D (.lst (zs++xs5))) la=some (.lst (left.map V.int)):=by rw[q8 nl];exact s5 _ _ glc
          have gp6:(upd H5 D (.lst (zs++xs5))) pa=some (.lst (ps.map V.int)):=by rw[q8 np];exact s5 _ _ gpc
          have g46:(upd H5 D (.lst (zs++xs5))) D4=some (.lst ((chF left 0).map V.int)):=by rw[q8 n4];exact s5 _ _ g4
          have gD6:(upd H5 D (.lst (zs++xs5))) D=some (.lst (zs++xs5)):=c6
          have t6:B2 K (upd H5 D (.lst (zs++xs5))) (zs++xs5) (ks++star (ps.getD 0 0) ((chF left 0).map fun z=>ps.getD z.toNat 0)):=B2.updL gD5 (B2.append (s5.tups tDc) t5)
          generalize upd H5 D (.lst (zs++xs5))=H6 at gu tb6 gl6 gp6 g46 gD6 t6 ⊢
          refine⟨_,rfl,_,rfl,la,D4,left,chF left 0,0,rfl,.inl (SqL.of gl6),by omega,SqL.of g46,fun l7 H7 s7 f7 g7=>?_⟩
          refine⟨_,rfl,_,rfl,pa,ps.map V.int,rfl,SqL.of (s7 _ _ gp6),fun l8 f8=>?_⟩
          have ec:am5 (ps.map V.int) (some 1) none=(ps.drop 1).map V.int:=ae8 ps 1
          rw[ec]
          have s8:=f6 (o:=.lst ((ps.drop 1).map V.int)) f8
          have s78:=s7.trans s8
          refine⟨_,ps.drop 1,W8 left 0 (chF left 0),zs++xs5,l8,l7,_,rfl,by rw[ao3 h0];omega,by omega,hgo,bD9 hG h0,?_,s78 _ _ gD6,s78.tups t6,c6,(q0 (s7 _ _ gD6) f8).symm,s8 _ _ g7,(q0 gD6 f7).symm,gu.trans (s78.grow PT),tb6.same s78⟩
          rw[C3]
          exact hF
end
structure bS5 (K:W.Frag) (H:Hp) (b:Addr) (ns:List Int) (ks:List (List Int)):Prop where
 at_:∃ t zs,H b=some (.tup [.int ns.length,.ref t])/\H t=some (.tup zs)/\B2 K H zs ks
 prm:ks.Perm ((ba9 ns 0 (chF ns 0)).map up)
 srt:ks.Pairwise (fun a b=>Tim.M4 b a=false)
 tal_:tal ns.length ks=ns
 ups:∀ k∈ks,Up ns.length k
 nd:ks.Nodup
def bn5 (K:W.Frag)(H:Hp)(r:Addr)(ns:List Int):Prop:=
 (∃ (x:Wl) (b:Addr),x≠.free/\bi1 ns x/\H r=some (.tup [.str "wall",.ref b])/\H b=some (.tup (wlT x))) \/
 (Gr ns/\∃ (b:Addr) (ks:List (List Int)),H r=some (.tup [.str "web",.ref b])/\bS5 K H b ns ks)
section
variable {K:W.Frag} {mg:Str->Option Value} {base:Heap}
def bv9 (K:W.Frag)(CB PT:Addr):Sp:=fun vs H Q E=>∃ (a:Addr) (ns:List Int),vs=[.ref a]/\Sq K H a ns/\(R6 ns->Tb PT H/\∀ (r:Addr) (H':Hp),P0 PT H H'->Tb PT H'->bn5 K H' r ns->Q (.ref r) H')/\(¬ R6 ns->E (.ref CB) none H)
theorem bw3:A4 ["tally","wall"] ["tally"] (p5 bx1):=.mk'
set_option maxHeartbeats 2000000 in
theorem bZ6 {fI fU fV fO fF fL fY fW fG fβ fω PT:Addr}{fdU fdV fdY fdG:FuncData}(F:Fun K "answered" "answered" bx1 f fd)(B:Bn mg)(FI:Fq K mg "is_place" aW8 fI fdI ["places","number"])
  (FU:Fq K mg "turned_up" sUp fU fdU ["places","tie"])(FV:Fq K mg "made" aD4 fV fdV ["places","ties"])
  (FO:Fq K mg "order_of" aW5 fO fdO ["tally"])(hc:fdO.code=.ref c)(LB:ap0 base mg c PT)
  (FT:Fq K mg "check_tally" aq9 fT fdT ["tally"])(FF:Fq K mg "first_of_order" aw0 fF fdF ["tally","many","passed_over"])
  (FL:Fq K mg "left_of_others" aK0 fL fdL ["tally","place","ends"])(FY:Fq K mg "laid_around" aW6 fY fdY ["tally","place","ends"])
  (FW:Fq K mg "wall_of" aW2 fW fdW ["tally"])(FG:Fq K mg "falling" ap7 fG fdG ["tally"])
  (FA:Fq K mg "room_among" ae5 fA fdA ["numbers","most","r"])(Fβ:Fq K mg "places_below" al8 fβ fdβ ["numbers"])(Fω:Fq K mg "wall_with" al7 fω fdω ["tally","most"])
  (mM:mg "MOST_PLACES"=some (.int 24 tk))(mB:mg "BadTally"=some (.ref CB))(cB:ak0 K CB):x6 P w K mg base (CXE P w) 5 f fd ["tally"] (bv9 K CB PT):=by
 have GF:x6 P w K mg base (CXE P w) 4 fF fdF ["tally","many","passed_over"] (aO6 K PT):=(aY5 FF.F B FO hc LB FT mM mB cB).mono (by decide)
 have GY:x6 P w K mg base CX0 4 fY fdY ["tally","place","ends"] (bv6 K PT):=bL5 FY.F B FI FU FV FO hc LB FT FF FL mM mB cB
 have GW:x6 P w K mg base (CXE P w) 4 fW fdW ["tally"] (bu6 K CB):=(bK8 FW.F B FT FG FA Fβ Fω mM mB cB).mono (by decide)
 refine F.okX bw3 (fun cdv A outer s H vs Q E hr h=>?_)
 obtain⟨a,ns,rfl,hS,h1,h2⟩:=h
 have hsl:=L8
 refine⟨_,j0 (A9 (i:=1) bw3.nd rfl (Or.inl rfl) (D0 GW hr (by rfl) FW ap8 (b9 (pv 0) d5)))
  (j0 (N1 (D6 aQ3 (pv 1) aw3 (E9 _)) (o5 (C1 (M3 (b9 U2 (b9 (pv 1) d5))))) F1)
  (o5 (C1 (M3 (b9 U2 (b9 (D0 GY hr (by rfl) FY K6 (b9 (pv 0) (b9 i6 (b9 (D0 GF hr (by rfl) FF (af8 (P:=P) (w:=w)) (b9 (pv 0) (b9 (V6 K rfl (pv 0) i6 (fun _ _=>rfl)) (b9 (X9 (b9 i6 d5)) d5)))) d5)))) d5)))))),?_⟩
 refine⟨_,rfl,a,ns,rfl,hS,fun ht v x H1 s1 hw hv=>?_,h2⟩
 obtain⟨tb,q⟩:=h1 ht
 have t2:=ht.2
 refine⟨_,rfl,rfl,_,rfl,?_⟩
 obtain⟨rfl,rfl⟩ | ⟨hx,b,rfl,gb⟩:=hv
 ·have hG:=bN8 hw
  refine T9 ?_
  have h0:0<ns.length:=ht.1
  have hnn:=Z1 (aF8 hG) h0
  obtain⟨k,hk⟩:∃ k:Nat,ns.getD 0 0=(k:Int):=⟨(ns.getD 0 0).toNat,by omega⟩
  have hS1:=hS.same s1
  have tb1:=tb.same s1
  refine⟨_,rfl,_,rfl,_,rfl,ba4 (j:=0) hS1 h0 ?_⟩
  rw[hk]
  refine⟨(by show 1<=j8;decide),fun lz fz=>?_⟩
  have sz:=f6 (o:=.lst [.int 0]) fz
  refine⟨a,lz,ns,[0],k,rfl,hS1.same sz,ht,SqL.of c6,tb1.same sz,fun os D4 Hc gc tbC f4 hp4 hs4 g4=>?_⟩
  have ech:(aa1 [0] os).take k=chF ns 0:=by
   rw[aK4,bk2 hp4 hs4]
   unfold chF
   rw[hk,p0]
   rfl
  rw[ech]at g4
  have hcl:=aS3 hG h0
  have hlt:=bl3 hG h0
  refine⟨a,D4,ns,chF ns 0,0,rfl,(hS1.same sz).grow gc (tb1.same sz),ht,h0,SqL.of g4,bD8 ns 0,by omega,fun z hz=>bh5 hz,hcl,bD9 hG h0,tbC,fun r t zs ks H5 g5 tb5 k1 k2 tt pm so tl ups nd=>?_⟩
  refine⟨(by show 2<=j8;decide),fun p fp=>?_⟩
  have sp:=f6 (o:=.tup [.str "web",.ref r]) fp
  exact q p _ ((((s1.trans sz).grow PT).trans (gc.trans g5)).trans (sp.grow PT)) (tb5.same sp) (.inr ⟨hG,r,ks,c6,⟨⟨t,zs,sp _ _ k1,sp _ _ k2,sp.tups tt⟩,pm,so,tl,ups,nd⟩⟩)
 ·refine T8 ⟨_,rfl,(by show 2<=j8;decide),fun p fp=>?_⟩
  have sp:=f6 (o:=.tup [.str "wall",.ref b]) fp
  exact q p _ ((s1.trans sp).grow PT) (tb.same (s1.trans sp)) (.inl ⟨x,b,hx,hw,c6,sp _ _ gb⟩)
end
section
variable {K:W.Frag} {mg:Str->Option Value} {base:Heap}
def isR (ns:List Int)(r:Int):Prop:=0<=r/\r<=ns.length
def aA3 (K:W.Frag)(CB CN:Addr):Sp:=fun vs H Q E=>∃ (a:Addr) (ns:List Int) (M:Nat) (r:Int),vs=[.ref a,.int M,.int r]/\Sq K H a ns/\M<=1000000/\(R6 ns->isR ns r->∀ H':Hp,A3 H H'->Q (.int (aa0 ns M r.toNat)) H')/\(R6 ns->¬ isR ns r->E (.ref CN) none H)/\(¬ R6 ns->E (.ref CB) none H)
theorem bJ1:A4 ["tally","most","r"] ["tally","most","r"] (p5 av9):=.mk'
theorem aY4 {fF CN:Addr}(F:Fun K "room_with" "room_with" av9 f fd)(B:Bn mg)(FT:Fq K mg "check_tally" aq9 fT fdT ["tally"])
  (FF:Fq K mg "falling" ap7 fF fdF ["tally"])(FA:Fq K mg "room_among" ae5 fA fdA ["numbers","most","r"])
  (mM:mg "MOST_PLACES"=some (.int 24 tk))(mB:mg "BadTally"=some (.ref CB))(cB:ak0 K CB)(mN:mg "BadNumber"=some (.ref CN))(cN:ak0 K CN):x6 P w K mg base (CXE P w) 2 f fd ["tally","most","r"] (aA3 K CB CN):=by
 have GT:x6 P w K mg base (CXE P w) 1 fT fdT ["tally"] (aC9 K CB):=aE6 FT.F B mM mB cB
 have GF:x6 P w K mg base CX0 1 fF fdF ["tally"] (be0 K):=bk6 FF.F B
 have GA:x6 P w K mg base CX0 1 fA fdA ["numbers","most","r"] (aO7 K):=aY6 FA.F B
 refine F.okX bJ1 (fun cdv A outer s H vs Q E hr h=>?_)
 obtain⟨a,ns,M,r,rfl,hS,hM,h1,h2,h3⟩:=h
 refine⟨_,j0 (S5 (D0 GT hr (by rfl) FT ap8 (b9 (pv 0) d5)))
  (j0 (N1 (ab8 (al9 ad6 ad6 i6 (pv 2) (A6 B1 (by rfl) B.len PySem.boot_len (b9 (pv 0) d5)))) (o5 (aD9 (by rfl) mN cN)) F1)
  (o5 (C1 (D0 GA hr (by rfl) FA K6 (b9 (D0 GF hr (by rfl) FF K6 (b9 (pv 0) d5)) (b9 (pv 1) (b9 (pv 2) d5))))))),?_⟩
 refine⟨_,rfl,a,ns,rfl,hS,fun ht=>?_,h3⟩
 have t2:=ht.2
 refine⟨_,rfl,_,_,rfl,rfl,_,rfl,?_⟩
 by_cases hp:(0:Int)<=r
 ·rw[decide_eq_true hp]
  refine T8 ⟨_,rfl,a,_,rfl,hS,_,_,rfl,rfl,_,rfl,?_⟩
  rw[b8]
  by_cases hp':r<=(ns.length:Int)
  ·rw[decide_eq_true hp']
   refine T9 ?_
   obtain⟨k,rfl⟩:∃ k:Nat,r=(k:Int):=⟨r.toNat,by omega⟩
   refine⟨_,rfl,a,ns,rfl,hS,by omega,fun l H1 s1 hl g1=>?_⟩
   refine⟨_,rfl,_,rfl,l,ns,M,k,rfl,SqL.of g1,hM,by omega,by omega,fun H2 s2=>?_⟩
   exact h1 ht ⟨hp,hp'⟩ H2 (s1.trans s2)
  ·rw[decide_eq_false hp']
   exact T8 (h2 ht fun z=>hp' z.2)
 ·rw[decide_eq_false hp]
  exact T9 ⟨_,rfl,T8 (h2 ht fun z=>hp z.1)⟩
def bd8 (K:W.Frag)(CB CN:Addr):Sp:=fun vs H Q E=>∃ (a:Addr) (ns:List Int) (r:Int),vs=[.ref a,.int r]/\Sq K H a ns/\(R6 ns->isR ns r->∀ H':Hp,A3 H H'->Q (.int (as9 ns r.toNat)) H')/\(R6 ns->¬ isR ns r->E (.ref CN) none H)/\(¬ R6 ns->E (.ref CB) none H)
theorem bW7:A4 ["tally","r"] ["tally","r"] (p5 aW4):=.mk'
theorem bL2 {fW fF CN:Addr}(F:Fun K "room" "room" aW4 f fd)(B:Bn mg)(FT:Fq K mg "check_tally" aq9 fT fdT ["tally"])
  (FF:Fq K mg "falling" ap7 fF fdF ["tally"])(FA:Fq K mg "room_among" ae5 fA fdA ["numbers","most","r"])
  (FW:Fq K mg "room_with" av9 fW fdW ["tally","most","r"])
  (mM:mg "MOST_PLACES"=some (.int 24 tk))(mB:mg "BadTally"=some (.ref CB))(cB:ak0 K CB)(mN:mg "BadNumber"=some (.ref CN))(cN:ak0 K CN):x6 P w K mg base (CXE P w) 3 f fd ["tally","r"] (bd8 K CB CN):=by
 have GW:x6 P w K mg base (CXE P w) 2 fW fdW ["tally","most","r"] (aA3 K CB CN):=aY4 FW.F B FT FF FA mM mB cB mN cN
 refine F.okX bW7 (fun cdv A outer s H vs Q E hr h=>?_)
 obtain⟨a,ns,r,rfl,hS,h1,h2,h3⟩:=h
 refine⟨_,o5 (C1 (D0 GW hr (by rfl) FW ap8 (b9 (pv 0) (b9 i6 (b9 (pv 1) d5))))),?_⟩
 refine⟨_,rfl,_,rfl,a,ns,1,r,rfl,hS,by decide,fun ht hr' H' s'=>?_,h2,h3⟩
 rw[af6]
 exact h1 ht hr' H' s'
end
end Web
namespace Thk
open Grf
section
variable {m:Nat} {M L:Int} {c x:Nat->Int}
def sz (m:Nat)(σ:Nat->Bool):Int:=S m fun j=>b2 (σ j)
def fV (m:Nat)(M:Int)(c:Nat->Int)(σ τ:Nat->Bool):Int:=S m (fun j=>(b2 (σ j) - b2 (τ j))*c j) - M*(sz m σ*((m:Int) - 1 - sz m τ))
def Apart (m:Nat)(σ τ:Nat->Bool):Prop:=∀ j,j<m->¬ (σ j=true/\τ j=true)
theorem al1 (u v w c k:Int):(u - v)*(c - k)=(u - w)*c - (v - w)*c - k*(u - v):=by
 rw[L7,J6 k (u - v),<- aC3]
 have:u - w - (v - w)=u - v:=by omega
 rw[this]
theorem al2 (u v w c k:Int):(u - v)*(c - k)=(w - v)*c - (w - u)*c - k*(u - v):=by
 rw[L7,J6 k (u - v),<- aC3]
 have:w - v - (w - u)=u - v:=by omega
 rw[this]
theorem bm0 (σ σ' τ:Nat->Bool):fV m M c σ' τ=fV m M c σ τ+S m (fun j=>(b2 (σ' j) - b2 (σ j))*(c j - M*((m:Int) - 1 - sz m τ))):=by
 unfold fV
 have e1:S m (fun j=>(b2 (σ' j) - b2 (σ j))*(c j - M*((m:Int) - 1 - sz m τ)))=S m (fun j=>(b2 (σ' j) - b2 (τ j))*c j - (b2 (σ j) - b2 (τ j))*c j - (M*((m:Int) - 1 - sz m τ))*(b2 (σ' j) - b2 (σ j))):=u6 fun j _=>al1 _ _ _ _ _
 rw[e1,F7,F7,Z3,F7]
 unfold sz
 have e2:M*((m:Int) - 1 - S m fun j=>b2 (τ j))*((S m fun j=>b2 (σ' j)) - S m fun j=>b2 (σ j))=M*((S m fun j=>b2 (σ' j))*((m:Int) - 1 - S m fun j=>b2 (τ j))) - M*((S m fun j=>b2 (σ j))*((m:Int) - 1 - S m fun j=>b2 (τ j))):=by
  rw[L7,M7,M7,J6 ((m:Int) - 1 - S m fun j=>b2 (τ j)),J6 ((m:Int) - 1 - S m fun j=>b2 (τ j))]
 rw[e2]
 omega
theorem bl9 (σ τ τ':Nat->Bool):fV m M c σ τ'=fV m M c σ τ - S m (fun j=>(b2 (τ' j) - b2 (τ j))*(c j - M*sz m σ)):=by
 unfold fV
 have e1:S m (fun j=>(b2 (τ' j) - b2 (τ j))*(c j - M*sz m σ))=S m (fun j=>(b2 (σ j) - b2 (τ j))*c j - (b2 (σ j) - b2 (τ' j))*c j - (M*sz m σ)*(b2 (τ' j) - b2 (τ j))):=u6 fun j _=>al2 _ _ _ _ _
 rw[e1,F7,F7,Z3,F7]
 have e2:M*sz m σ*((S m fun j=>b2 (τ' j)) - S m fun j=>b2 (τ j))=M*(sz m σ*((m:Int) - 1 - sz m τ)) - M*(sz m σ*((m:Int) - 1 - sz m τ')):=by
  rw[<- L7,<- L7,M7]
  congr 2
  unfold sz
  omega
 rw[e2]
 omega
theorem bm1 (σ τ:Nat->Bool)(hM:0<=M):fV m M c σ τ<=S m (fun j=>(c j).natAbs)+M*((m:Int)*(m:Int))+M*(m:Int):=by
 unfold fV
 have s0:0<=sz m σ/\sz m σ<=m:=⟨Z2 fun j _=>J0 _,by
  have:S m (fun j=>b2 (σ j))<=S m (fun _=>1):=ag2 fun j _=>aM4 _
  rw[Q7]at this
  unfold sz
  omega⟩
 have t0:0<=sz m τ/\sz m τ<=m:=⟨Z2 fun j _=>J0 _,by
  have:S m (fun j=>b2 (τ j))<=S m (fun _=>1):=ag2 fun j _=>aM4 _
  rw[Q7]at this
  unfold sz
  omega⟩
 have a:S m (fun j=>(b2 (σ j) - b2 (τ j))*c j)<=S m (fun j=>((c j).natAbs:Int)):=ag2 fun j _=>by
  cases σ j<;>cases τ j<;>simp[b2]<;>omega
 have b:-(sz m σ)<=sz m σ*((m:Int) - 1 - sz m τ):=by
  have:sz m σ*(-1)<=sz m σ*((m:Int) - 1 - sz m τ):=F3 (by omega) s0.1
  omega
 have d:M*(-(m:Int))<=M*(sz m σ*((m:Int) - 1 - sz m τ)):=F3 (by omega) hM
 have e:0<=M*((m:Int)*(m:Int)):=ak8 hM (ak8 (by omega) (by omega))
 rw[Int.mul_neg]at d
 omega
theorem cj4 (hM:0<=M)(h:Apart m σ τ):∃ σ' τ',Apart m σ' τ'/\fV m M c σ τ<=fV m M c σ' τ'/\∀ σ₁ τ₁,Apart m σ₁ τ₁->fV m M c σ₁ τ₁<=fV m M c σ' τ':=by
 obtain⟨N,hN⟩:∃ N:Int,N=S m (fun j=>((c j).natAbs:Int))+M*((m:Int)*(m:Int))+M*(m:Int):=⟨_,rfl⟩
 have key:∀ (n:Nat) (σ τ:Nat->Bool),Apart m σ τ->(N - fV m M c σ τ).toNat=n->∃ σ' τ',Apart m σ' τ'/\fV m M c σ τ<=fV m M c σ' τ'/\∀ σ₁ τ₁,Apart m σ₁ τ₁->fV m M c σ₁ τ₁<=fV m M c σ' τ':=by
  intro n
  induction n using Nat.strongRecOn with
  | _ n ih =>
   intro σ τ ha hn
   by_cases hm:∀ σ₁ τ₁,Apart m σ₁ τ₁->fV m M c σ₁ τ₁<=fV m M c σ τ
   ·exact⟨σ,τ,ha,E2 _,hm⟩
   ·obtain⟨σ₁,h1⟩:=Classical.not_forall.mp hm
    obtain⟨τ₁,h2⟩:=Classical.not_forall.mp h1
    obtain⟨a1,h3⟩:=Classical.not_imp.mp h2
    have b1:=bm1 (m:=m) (c:=c) σ₁ τ₁ hM
    have b0:=bm1 (m:=m) (c:=c) σ τ hM
    rw[<- hN]at b0 b1
    obtain⟨σ',τ',q1,q2,q3⟩:=ih (N - fV m M c σ₁ τ₁).toNat (by omega) σ₁ τ₁ a1 rfl
    exact⟨σ',τ',q1,by omega,q3⟩
 exact key _ σ τ h rfl
end
section
variable {m:Nat} {M L:Int} {c x:Nat->Int}
def Mx (m:Nat)(M:Int)(c:Nat->Int)(σ τ:Nat->Bool):Prop:=Apart m σ τ/\∀ σ₁ τ₁,Apart m σ₁ τ₁->fV m M c σ₁ τ₁<=fV m M c σ τ
def pP (m:Nat)(M:Int)(σ:Nat->Bool):Int:=M*sz m σ
def qQ (m:Nat)(M:Int)(τ:Nat->Bool):Int:=M*((m:Int) - 1 - sz m τ)
def setB (σ:Nat->Bool)(i:Nat)(v:Bool):Nat->Bool:=fun j=>if j=i then v else σ j
theorem aP0 {v:Bool}:setB σ i v i=v:=if_pos rfl
theorem as6 {v:Bool}(h:j≠i):setB σ i v j=σ j:=if_neg h
theorem bn3 (σ:Nat->Bool)(i:Nat)(v:Bool)(g:Nat->Int)(hi:i<m):S m (fun j=>(b2 (setB σ i v j) - b2 (σ j))*g j)=(b2 v - b2 (σ i))*g i:=by
 rw[ac2 (g:=fun _=>0) hi (fun j _ hj=>by rw[as6 hj];simp),P6,aP0]
 omega
theorem cm8 (h:Mx m M c σ τ)(hj:j<m)(hs:σ j=true):qQ m M τ<=c j:=by
 have a:=h.2 (setB σ j false) τ (fun i hi ⟨u,v⟩=>by
  by_cases e:i=j
  ·subst e;rw[aP0]at u;cases u
  ·rw[as6 e]at u;exact h.1 i hi ⟨u,v⟩)
 rw[bm0 σ (setB σ j false) τ,bn3 σ j false _ hj,hs]at a
 unfold qQ
 simp only[U5,O9]at a
 omega
theorem ch9 (h:Mx m M c σ τ)(hj:j<m)(hs:σ j=false)(ht:τ j=false):c j<=qQ m M τ:=by
 have a:=h.2 (setB σ j true) τ (fun i hi ⟨u,v⟩=>by
  by_cases e:i=j
  ·subst e;rw[ht]at v;cases v
  ·rw[as6 e]at u;exact h.1 i hi ⟨u,v⟩)
 rw[bm0 σ (setB σ j true) τ,bn3 σ j true _ hj,hs]at a
 unfold qQ
 simp only[U5,O9]at a
 omega
theorem cm3 (h:Mx m M c σ τ)(hj:j<m)(ht:τ j=true):c j<=pP m M σ:=by
 have a:=h.2 σ (setB τ j false) (fun i hi ⟨u,v⟩=>by
  by_cases e:i=j
  ·subst e;rw[aP0]at v;cases v
  ·rw[as6 e]at v;exact h.1 i hi ⟨u,v⟩)
 rw[bl9 σ τ (setB τ j false),bn3 τ j false _ hj,ht]at a
 unfold pP
 simp only[U5,O9]at a
 omega
theorem ci9 (h:Mx m M c σ τ)(hj:j<m)(hs:σ j=false)(ht:τ j=false):pP m M σ<=c j:=by
 have a:=h.2 σ (setB τ j true) (fun i hi ⟨u,v⟩=>by
  by_cases e:i=j
  ·subst e;rw[hs]at u;cases u
  ·rw[as6 e]at v;exact h.1 i hi ⟨u,v⟩)
 rw[bl9 σ τ (setB τ j true),bn3 τ j true _ hj,ht]at a
 unfold pP
 simp only[U5,O9]at a
 omega
theorem aW0 {σ':Nat->Bool}(h:∀ j,j<m->σ' j≠σ j->c j=qQ m M τ):fV m M c σ' τ=fV m M c σ τ:=by
 rw[bm0 σ σ' τ,u6 (g:=fun _=>0) fun j hj=>?_,P6,aT4]
 by_cases e:σ' j=σ j
 ·rw[e,ak7,Y3]
 ·rw[h j hj e];unfold qQ;rw[ak7,M9]
theorem aV9 {τ':Nat->Bool}(h:∀ j,j<m->τ' j≠τ j->c j=pP m M σ):fV m M c σ τ'=fV m M c σ τ:=by
 rw[bl9 σ τ τ',u6 (g:=fun _=>0) fun j hj=>?_,P6,aT5]
 by_cases e:τ' j=τ j
 ·rw[e,ak7,Y3]
 ·rw[h j hj e];unfold pP;rw[ak7,M9]
structure Shr (m:Nat) (M L:Int) (c x:Nat->Int):Prop where
 m1:1<=M
 x0:∀ j,j<m->0<=x j
 xM:∀ j,j<m->x j<=M
 lo:∀ j,j<m->0<x j->L - 1<=c j
 hi:∀ j,j<m->x j<M->c j<=L
 A:∀ σ τ,Apart m σ τ->fV m M c σ τ<=S m fun j=>b2 (σ j)*(M - x j)+b2 (τ j)*x j
 B:∀ σ τ,Apart m σ τ->fV m M c σ τ<=S m fun j=>(1+b2 (σ j) - b2 (τ j))*(M - x j)
 C:∀ σ τ,Apart m σ τ->fV m M c σ τ<=S m fun j=>(1 - b2 (σ j)+b2 (τ j))*x j
def full (M:Int)(x:Nat->Int)(σ:Nat->Bool):Nat->Bool:=fun j=>σ j && decide (x j=M)
def U8 (x:Nat->Int)(τ:Nat->Bool):Nat->Bool:=fun j=>τ j && decide (x j=0)
theorem aG1:full M x σ j=true↔σ j=true/\x j=M:=by simp[full]
theorem at5:U8 x τ j=true↔τ j=true/\x j=0:=by simp[U8]
theorem aR6 (h:Apart m σ τ):Apart m (full M x σ) τ:=fun j hj ⟨u,v⟩=>h j hj ⟨(aG1.mp u).1,v⟩
theorem aE8 (h:Apart m σ τ):Apart m σ (U8 x τ):=fun j hj ⟨u,v⟩=>h j hj ⟨u,(at5.mp v).1⟩
theorem bl7 (h:full M x σ j≠σ j):σ j=true/\x j≠M:=by
 unfold full at h
 cases e:σ j
 ·rw[e]at h;simp at h
 ·rw[e]at h;exact⟨rfl,by simpa using h⟩
theorem aY7 (h:U8 x τ j≠τ j):τ j=true/\x j≠0:=by
 unfold U8 at h
 cases e:τ j
 ·rw[e]at h;simp at h
 ·rw[e]at h;exact⟨rfl,by simpa using h⟩
theorem ax0 (H:Shr m M L c x)(h:Mx m M c σ τ)(hq:L<=qQ m M τ):fV m M c (full M x σ) τ=fV m M c σ τ:=aW0 fun j hj e=>by
 have:=bl7 e
 have a:=H.hi j hj (by have:=H.xM j hj;omega)
 have b:=cm8 h hj this.1
 omega
theorem ar3 (H:Shr m M L c x)(h:Mx m M c σ τ)(hp:pP m M σ<=L - 1):fV m M c σ (U8 x τ)=fV m M c σ τ:=aV9 fun j hj e=>by
 have:=aY7 e
 have a:=H.lo j hj (by have:=H.x0 j hj;omega)
 have b:=cm3 h hj this.1
 omega
theorem bE9 {g:Nat->Int}(h:∀ j,j<m->g j<=0):S m g<=0:=by
 have:=ag2 (g:=fun _=>0) h
 rw[P6]at this
 exact this
theorem A0 (H:Shr m M L c x)(ha:Apart m σ τ)(hs:∀ j,j<m->σ j=true->x j=M)(ht:∀ j,j<m->τ j=true->x j=0):fV m M c σ τ<=0:=
 Y4 (H.A σ τ ha) (bE9 fun j hj=>by
  cases e:σ j<;>cases e':τ j<;>simp only[U5,O9,Y3,ab6]
  ·omega
  ·have:=ht j hj e';omega
  ·have:=hs j hj e;omega
  ·have:=ht j hj e';have:=hs j hj e;omega)
theorem X0 (H:Shr m M L c x)(h:Mx m M c σ τ)(ht:∀ j,j<m->τ j=true->x j=0):fV m M c σ τ<=0:=by
 by_cases hq:L<=qQ m M τ
 ·rw[<- ax0 H h hq]
  exact A0 H (aR6 h.1) (fun j _ e=>(aG1.mp e).2) ht
 ·let σ':Nat->Bool:=fun j=>σ j || (!τ j && decide (0<x j))
  have hσ:∀ j,σ' j=(σ j || (!τ j && decide (0<x j))):=fun _=>rfl
  have ap:Apart m σ' τ:=fun j hj ⟨u,v⟩=>by
   rw[hσ,v]at u
   simp at u
   exact h.1 j hj ⟨u,v⟩
  have e:fV m M c σ' τ=fV m M c σ τ:=aW0 fun j hj e=>by
   rw[hσ]at e
   cases e1:σ j
   ·cases e2:τ j
    ·rw[e1,e2]at e
     have e3:0<x j:=by simpa using e
     have a:=H.lo j hj e3
     have b:=ch9 h hj e1 e2
     omega
    ·rw[e1,e2]at e;simp at e
   ·rw[e1]at e;simp at e
  rw[<- e]
  refine Y4 (H.C σ' τ ap) (bE9 fun j hj=>?_)
  rw[hσ]
  cases e1:σ j
  ·cases e2:τ j
   ·by_cases e3:0<x j
    ·simp[e3,b2]
    ·have:=H.x0 j hj
     have e4:x j=0:=by omega
     rw[e4,M9];exact E2 _
   ·rw[ht j hj e2,M9];exact E2 _
  ·cases e2:τ j
   ·simp[b2]
   ·exact absurd ⟨e1,e2⟩ (h.1 j hj)
theorem XM (H:Shr m M L c x)(h:Mx m M c σ τ)(hs:∀ j,j<m->σ j=true->x j=M):fV m M c σ τ<=0:=by
 by_cases hp:pP m M σ<=L - 1
 ·rw[<- ar3 H h hp]
  exact A0 H (aE8 h.1) hs (fun j _ e=>(at5.mp e).2)
 ·let τ':Nat->Bool:=fun j=>τ j || (!σ j && decide (x j<M))
  have hτ:∀ j,τ' j=(τ j || (!σ j && decide (x j<M))):=fun _=>rfl
  have ap:Apart m σ τ':=fun j hj ⟨u,v⟩=>by
   rw[hτ,u]at v
   simp at v
   exact h.1 j hj ⟨u,v⟩
  have e:fV m M c σ τ'=fV m M c σ τ:=aV9 fun j hj e=>by
   rw[hτ]at e
   cases e2:τ j
   ·cases e1:σ j
    ·rw[e1,e2]at e
     have e3:x j<M:=by simpa using e
     have a:=H.hi j hj e3
     have b:=ci9 h hj e1 e2
     omega
    ·rw[e1,e2]at e;simp at e
   ·rw[e2]at e;simp at e
  rw[<- e]
  refine Y4 (H.B σ τ' ap) (bE9 fun j hj=>?_)
  rw[hτ]
  cases e1:σ j
  ·cases e2:τ j
   ·by_cases e3:x j<M
    ·simp[e3,b2]
    ·have:=H.xM j hj
     have e4:M - x j=0:=by omega
     rw[e4,M9];exact E2 _
   ·simp[b2]
  ·rw[hs j hj e1,ak7,M9];exact E2 _
end
section
variable {m:Nat} {M L:Int} {c x:Nat->Int}
def cut (m:Nat)(σ σ':Nat->Bool):Int:=S m fun j=>b2 (σ j) - b2 (σ' j)
theorem bV8 (σ σ':Nat->Bool):sz m σ'=sz m σ - cut m σ σ':=by
 unfold cut sz
 rw[F7]
 omega
theorem cj8 {σ':Nat->Bool}(h:∀ j,j<m->b2 (σ' j)<=b2 (σ j))(e:cut m σ σ'<=0)(hj:j<m):σ' j=σ j:=by
 have a:=aH7 (f:=fun j=>b2 (σ j) - b2 (σ' j)) hj fun i hi=>by have:=h i hi;omega
 have b:=h j hj
 unfold cut at e
 have:b2 (σ' j)=b2 (σ j):=by omega
 cases e1:σ' j<;>cases e2:σ j<;>rw[e1,e2]at this<;>simp[b2]at this<;>rfl
theorem bN6 (σ:Nat->Bool)(j:Nat):b2 (full M x σ j)<=b2 (σ j):=by
 unfold full
 cases σ j<;>cases decide (x j=M)<;>decide
theorem bz1 (τ:Nat->Bool)(j:Nat):b2 (U8 x τ j)<=b2 (τ j):=by
 unfold U8
 cases τ j<;>cases decide (x j=0)<;>decide
theorem br2 (s:Int):∃ k,s*(s - 1)=2*k:=by
 rcases(show s % 2=0\/s % 2=1 by omega) with e | e
 ·obtain⟨k,hk⟩:∃ k,s=2*k:=⟨s / 2,by omega⟩
  exact⟨k*(s - 1),by rw[<- M7,<- hk]⟩
 ·obtain⟨k,hk⟩:∃ k,s - 1=2*k:=⟨s / 2,by omega⟩
  exact⟨k*s,by rw[<- M7,<- hk,J6]⟩
theorem cb4 (hr:∀ j,j<m->b2 (σ j)+b2 (τ j)=1)(hc:∃ k,S m c=2*k):∃ k,fV m M c σ τ=2*k:=by
 obtain⟨k,hk⟩:=hc
 have st:sz m σ+sz m τ=m:=by
  unfold sz
  rw[<- W0,u6 (g:=fun _=>1) hr,Q7]
  omega
 have e1:S m (fun j=>(b2 (σ j) - b2 (τ j))*c j)=S m c - 2*S m (fun j=>b2 (τ j)*c j):=by
  rw[<- Z3,<- F7]
  refine u6 fun j hj=>?_
  have:b2 (σ j)=1 - b2 (τ j):=by have:=hr j hj;omega
  rw[this]
  cases τ j<;>simp[b2]<;>omega
 obtain⟨n,hn⟩:=br2 (sz m σ)
 unfold fV
 rw[e1,show (m:Int) - 1 - sz m τ=sz m σ - 1 by omega,hn,hk,show M*(2*n)=2*(M*n) by rw[<- M7,J6 M 2,M7]]
 exact⟨k - S m (fun j=>b2 (τ j)*c j) - M*n,by omega⟩
theorem bM7 {h k w F:Int}(hM:1<=M)(h1:1<=h)(k1:1<=k)(w0:0<=w)(w1:w<=M - 1)(hF:F<=(h - k)*w+h - M*(k*(h - 1))):F<=1:=by
 have kh:0<=(k - 1)*(h - 1):=ak8 (by omega) (by omega)
 have e0:(k - 1)*(h - 1)=k*(h - 1) - (h - 1):=by rw[aC3];omega
 by_cases c1:k<=h
 ·have a:(h - k)*w<=(h - k)*(M - 1):=F3 w1 (by omega)
  have b:(h - k)*(M - 1)=M*(h - k) - (h - k):=by rw[L7,K7,J6]
  have d:M*(h - k) - M*(k*(h - 1))=M*(h - k - k*(h - 1)):=by rw[L7 M (h - k)]
  have e2:h - k - k*(h - 1) = -(h*(k - 1)):=by
   rw[L7,L7,J6 h k];omega
  have g:1*(h*(k - 1))<=M*(h*(k - 1)):=L1 hM (ak8 (by omega) (by omega))
  have g2:1*(k - 1)<=h*(k - 1):=L1 h1 (by omega)
  rw[e2,Int.mul_neg]at d
  omega
 ·have a:(k - h)*0<=(k - h)*w:=F3 w0 (by omega)
  have b:(h - k)*w = -((k - h)*w):=by rw[<- bT1];congr 1;omega
  have g:1*(k*(h - 1))<=M*(k*(h - 1)):=L1 hM (ak8 (by omega) (by omega))
  omega
theorem mid (H:Shr m M L c x)(ha:Apart m σ τ)(hr:sz m σ+sz m τ=m):fV m M c σ τ<=(cut m τ (U8 x τ) - cut m σ (full M x σ))*(pP m M σ - L)+cut m τ (U8 x τ) - M*(cut m σ (full M x σ)*(cut m τ (U8 x τ) - 1)):=by
 have a0:=A0 H (aR6 (x:=x) (M:=M) (aE8 (x:=x) ha)) (fun j _ e=>(aG1.mp e).2) (fun j _ e=>(at5.mp e).2)
 rw[bm0 σ (full M x σ) (U8 x τ),bl9 σ τ (U8 x τ),bV8 τ (U8 x τ)]at a0
 obtain⟨h,hh⟩:∃ h,h=cut m τ (U8 x τ):=⟨_,rfl⟩
 obtain⟨k,hk⟩:∃ k,k=cut m σ (full M x σ):=⟨_,rfl⟩
 rw[<- hh]at a0
 rw[<- hh,<- hk]
 have t:S m (fun j=>(b2 (U8 x τ j) - b2 (τ j))*(c j - M*sz m σ))<=(pP m M σ - L+1)*h:=by
  rw[hh]
  unfold cut
  rw[<- Z3]
  refine ag2 fun j hj=>?_
  by_cases e:U8 x τ j=τ j
  ·rw[e];simp
  ·obtain⟨e1,e2⟩:=aY7 e
   have e3:U8 x τ j=false:=by cases e4:U8 x τ j;rfl;rw[e4,e1]at e;exact absurd rfl e
   have:=H.lo j hj (by have:=H.x0 j hj;omega)
   rw[e1,e3]
   simp only[U5,O9]
   unfold pP
   omega
 have s:-((L - M*((m:Int) - 1 - (sz m τ - h)))*k)<=S m (fun j=>(b2 (full M x σ j) - b2 (σ j))*(c j - M*((m:Int) - 1 - (sz m τ - h)))):=by
  rw[hk,<- bT1]
  unfold cut
  rw[<- Z3]
  refine ag2 fun j hj=>?_
  by_cases e:full M x σ j=σ j
  ·rw[e];simp
  ·obtain⟨e1,e2⟩:=bl7 e
   have e3:full M x σ j=false:=by cases e4:full M x σ j;rfl;rw[e4,e1]at e;exact absurd rfl e
   have:=H.hi j hj (by have:=H.xM j hj;omega)
   rw[e1,e3]
   simp only[U5,O9]
   omega
 have q1:M*((m:Int) - 1 - (sz m τ - h))=pP m M σ+M*(h - 1):=by
  unfold pP
  rw[<- ab7]
  congr 1
  omega
 rw[q1]at s a0
 have e1:(L - (pP m M σ+M*(h - 1)))*k = -((pP m M σ - L)*k) - M*(k*(h - 1)):=by
  rw[<- Int.sub_sub,aC3,M7,J6 (h - 1) k,<- bT1]
  congr 2
  omega
 have e2:(pP m M σ - L+1)*h=(pP m M σ - L)*h+h:=by rw[bS9,ab6]
 have e3:(h - k)*(pP m M σ - L)=(pP m M σ - L)*h - (pP m M σ - L)*k:=by rw[aC3,J6 h,J6 k]
 rw[e3]
 rw[e1]at s
 rw[e2]at t
 omega
theorem ce5 (H:Shr m M L c x)(hc:∃ k,S m c=2*k)(ha:Apart m σ τ):fV m M c σ τ<=0:=by
 have M0:0<=M:=by have:=H.m1;omega
 obtain⟨σ',τ',a1,a2,a3⟩:=cj4 (c:=c) M0 ha
 refine Y4 a2 ?_
 have h:Mx m M c σ' τ':=⟨a1,a3⟩
 clear a2 a3 ha
 by_cases hp:pP m M σ'<=L - 1
 ·rw[<- ar3 H h hp]
  exact X0 H ⟨aE8 a1,fun σ₁ τ₁ q=>by rw[ar3 H h hp];exact h.2 _ _ q⟩ fun j _ e=>(at5.mp e).2
 ·by_cases hq:L<=qQ m M τ'
  ·rw[<- ax0 H h hq]
   exact XM H ⟨aR6 a1,fun σ₁ τ₁ q=>by rw[ax0 H h hq];exact h.2 _ _ q⟩ fun j _ e=>(aG1.mp e).2
  ·have hr:∀ j,j<m->b2 (σ' j)+b2 (τ' j)=1:=fun j hj=>by
    cases e1:σ' j<;>cases e2:τ' j
    ·have:=ci9 h hj e1 e2
     have:=ch9 h hj e1 e2
     omega
    ·rfl
    ·rfl
    ·exact absurd ⟨e1,e2⟩ (a1 j hj)
   have st:sz m σ'+sz m τ'=m:=by
    unfold sz
    rw[<- W0,u6 (g:=fun _=>1) hr,Q7]
    omega
   by_cases k0:cut m σ' (full M x σ')<=0
   ·exact XM H h fun j hj e=>by
     have:=cj8 (fun i _=>bN6 σ' i) k0 hj
     rw[e]at this
     exact(aG1.mp this).2
   ·by_cases h0:cut m τ' (U8 x τ')<=0
    ·exact X0 H h fun j hj e=>by
      have:=cj8 (fun i _=>bz1 τ' i) h0 hj
      rw[e]at this
      exact(at5.mp this).2
    ·have q1:qQ m M τ'=pP m M σ' - M:=by
      unfold qQ pP
      rw[show (m:Int) - 1 - sz m τ'=sz m σ' - 1 by omega,L7,K7]
     have f1:=bM7 H.m1 (by omega) (by omega) (by omega) (by omega) (mid H a1 st)
     obtain⟨n,hn⟩:=cb4 (M:=M) hr hc
     omega
end
section
variable {m:Nat} {M L a:Int} {c x:Nat->Int}
theorem aH6 (f:Nat->Int):∀ n:Nat,S (n+1) f=f 0+S n (fun j=>f (j+1))
 | 0=>by simp[S]
 | n+1=>by
  show S (n+1) f+f (n+1)=f 0+(S n (fun j=>f (j+1))+f (n+1))
  rw[aH6 f n]
  omega
def aG4 (b:Bool)(σ:Nat->Bool):Nat->Bool
 | 0=>b
 | j+1=>σ j
theorem bj3 (b:Bool)(σ:Nat->Bool):sz (m+1) (aG4 b σ)=b2 b+sz m σ:=by
 unfold sz
 rw[aH6]
 rfl
theorem aB7 {b b':Bool}(h:Apart m σ τ)(hb:¬ (b=true/\b'=true)):Apart (m+1) (aG4 b σ) (aG4 b' τ)
 | 0,_=>hb
 | j+1,hj=>h j (by omega)
theorem aB3 (b b':Bool)(σ τ:Nat->Bool):fV (m+1) M d (aG4 b σ) (aG4 b' τ)=(b2 b - b2 b')*d 0+S m (fun j=>(b2 (σ j) - b2 (τ j))*d (j+1)) - M*((b2 b+sz m σ)*((m:Int) - b2 b' - sz m τ)):=by
 unfold fV
 rw[aH6,bj3,bj3]
 have:((m+1:Nat):Int) - 1 - (b2 b'+sz m τ)=(m:Int) - b2 b' - sz m τ:=by omega
 rw[this]
 rfl
def Kk (n:Nat)(M:Int)(d:Nat->Int):Prop:=∀ σ τ,Apart n σ τ->fV n M d σ τ<=0
theorem aR8 (σ τ:Nat->Bool):fV m M (fun j=>d (j+1) - x j) σ τ=S m (fun j=>(b2 (σ j) - b2 (τ j))*d (j+1)) - S m (fun j=>(b2 (σ j) - b2 (τ j))*x j) - M*(sz m σ*((m:Int) - 1 - sz m τ)):=by
 unfold fV
 rw[<- F7]
 congr 1
 exact u6 fun j _=>L7 _ _ _
theorem bR7 (s u:Int):M*(s*u)=M*(s*(u - 1))+M*s:=by
 rw[<- ab7,L7];congr 1;omega
theorem ch4 (s u:Int):M*((1+s)*u)=M*(s*(u - 1))+M*s+M*u:=by
 rw[<- bR7,bS9,ab7,ab6];omega
theorem bW3 (hM:1<=M)(hK:Kk (m+1) M d)(ha:S m x=d 0)(x0:∀ j,j<m->0<=x j)(xM:∀ j,j<m->x j<=M)(lo:∀ j,j<m->0<x j->L - 1<=d (j+1) - x j)(hi:∀ j,j<m->x j<M->d (j+1) - x j<=L):Shr m M L (fun j=>d (j+1) - x j) x where
 m1:=hM
 x0:=x0
 xM:=xM
 lo:=lo
 hi:=hi
 A σ τ h:=by
  have k:=hK _ _ (aB7 (b:=false) (b':=false) h (fun e=>by cases e.1))
  rw[aB3]at k
  rw[aR8]
  have e:S m (fun j=>b2 (σ j)*(M - x j)+b2 (τ j)*x j)=M*sz m σ - S m (fun j=>(b2 (σ j) - b2 (τ j))*x j):=by
   unfold sz
   rw[<- Z3,<- F7]
   refine u6 fun j _=>?_
   cases σ j<;>cases τ j<;>simp[b2]
  rw[e]
  have p:=bR7 (M:=M) (sz m σ) ((m:Int) - sz m τ)
  rw[show (m:Int) - sz m τ - 1=(m:Int) - 1 - sz m τ by omega]at p
  simp only[O9,Int.zero_add,aT5,ak7,Y3]at k
  omega
 B σ τ h:=by
  have k:=hK _ _ (aB7 (b:=true) (b':=false) h (fun e=>by cases e.2))
  rw[aB3]at k
  rw[aR8]
  have e:S m (fun j=>(1+b2 (σ j) - b2 (τ j))*(M - x j))=M*((m:Int) - sz m τ)+M*sz m σ - S m x - S m (fun j=>(b2 (σ j) - b2 (τ j))*x j):=by
   have e1:S m (fun j=>(1+b2 (σ j) - b2 (τ j))*(M - x j))=S m (fun j=>M*((1 - b2 (τ j))+b2 (σ j)) - x j - (b2 (σ j) - b2 (τ j))*x j):=u6 fun j _=>by
    cases σ j<;>cases τ j<;>simp[b2]<;>omega
   rw[e1,F7,F7,Z3,W0,F7,Q7,ab7]
   unfold sz
   rw[K7]
  rw[e]
  have p:=ch4 (M:=M) (sz m σ) ((m:Int) - sz m τ)
  rw[show (m:Int) - sz m τ - 1=(m:Int) - 1 - sz m τ by omega]at p
  simp only[O9,U5,aT5,ab6]at k
  omega
 C σ τ h:=by
  have k:=hK _ _ (aB7 (b:=false) (b':=true) h (fun e=>by cases e.1))
  rw[aB3]at k
  rw[aR8]
  have e:S m (fun j=>(1 - b2 (σ j)+b2 (τ j))*x j)=S m x - S m (fun j=>(b2 (σ j) - b2 (τ j))*x j):=by
   rw[<- F7]
   refine u6 fun j _=>?_
   cases σ j<;>cases τ j<;>simp[b2]<;>omega
  rw[e]
  simp only[O9,U5,Int.zero_add,Int.zero_sub]at k
  omega
theorem cc1 (hM:1<=M)(hK:Kk (m+1) M d)(ev:∃ k,S (m+1) d=2*k)(ha:S m x=d 0)(x0:∀ j,j<m->0<=x j)(xM:∀ j,j<m->x j<=M)(lo:∀ j,j<m->0<x j->L - 1<=d (j+1) - x j)(hi:∀ j,j<m->x j<M->d (j+1) - x j<=L):Kk m M (fun j=>d (j+1) - x j)/\∃ k,S m (fun j=>d (j+1) - x j)=2*k:=by
 have e:∃ k,S m (fun j=>d (j+1) - x j)=2*k:=by
  obtain⟨k,hk⟩:=ev
  rw[aH6]at hk
  exact⟨k - d 0,by rw[F7,ha];omega⟩
 exact⟨fun σ τ h=>ce5 (bW3 hM hK ha x0 xM lo hi) e h,e⟩
theorem bO8 (hK:Kk (m+1) M d)(hM:0<=M):d 0<=S m fun j=>if d (j+1)<=M then d (j+1) else M:=by
 have k:=hK (aG4 true fun _=>false) (aG4 false fun j=>decide (d (j+1)<=M)) (aB7 (fun j _ e=>by cases e.1) fun e=>by cases e.2)
 rw[aB3]at k
 have e:S m (fun j=>if d (j+1)<=M then d (j+1) else M)=M*((m:Int) - sz m (fun j=>decide (d (j+1)<=M))) - S m (fun j=>(b2 false - b2 (decide (d (j+1)<=M)))*d (j+1)):=by
  have:(m:Int)=S m fun _=>1:=by rw[Q7];omega
  unfold sz
  rw[this,<- F7,<- Z3,<- F7]
  refine u6 fun j _=>?_
  by_cases h:d (j+1)<=M<;>simp[h,b2]
 have z:sz m (fun _=>false)=0:=by unfold sz;rw[u6 (g:=fun _=>0) fun _ _=>O9,P6]
 rw[z]at k
 rw[e]
 simp only[O9,U5,aT5,ab6,aT4]at k ⊢
 omega
end
section
variable {M:Int}
def aP3 (n:Nat)(M:Int)(d:Nat->Int)(A:Nat->Bool):Int:=M*(cnt n A*(cnt n A - 1))+S n (fun i=>if A i=true then 0 else mnf (M*cnt n A) (d i)) - sm n A d
theorem cj5 (σ τ:Nat->Bool):fV n M d σ τ=sm n σ d - sm n τ d - M*(cnt n σ*((n:Int) - 1 - cnt n τ)):=by
 unfold fV sm
 rw[<- F7]
 congr 1
 refine u6 fun j _=>?_
 cases σ j<;>cases τ j<;>simp[b2]
theorem ch3 (s t:Int):M*(s*((n:Int) - 1 - t))=M*(s*(s - 1))+(M*s)*((n:Int) - s - t):=by
 rw[M7,<- ab7,<- ab7]
 congr 2
 omega
theorem bM9 (hM:0<=M)(hd:∀ i,i<n->0<=d i)(h:∀ r:Nat,1<=r->r<=n->∃ A,cnt n A=r/\Top n d A/\0<=aP3 n M d A):Kk n M d:=by
 intro a0 b hab0
 rw[cj5]
 let a:Nat->Bool:=fun i=>a0 i && !b i
 have ha0:∀ i,i<n->a i=a0 i:=fun i hi=>by
  show (a0 i && !b i)=a0 i
  cases e:a0 i<;>cases e':b i<;>first | rfl | exact absurd ⟨e,e'⟩ (hab0 i hi)
 have hab:∀ i,a i=true->b i=false:=fun i hi=>by
  have hi:(a0 i && !b i)=true:=hi
  cases e:b i
  ·rfl
  ·rw[e]at hi;simp at hi
 have ec:cnt n a0=cnt n a:=u6 fun i hi=>by rw[ha0 i hi]
 have es:sm n a0 d=sm n a d:=u6 fun i hi=>by rw[ha0 i hi]
 rw[ec,es]
 have k0:=Y2 n a
 have kr:=aB8 (n:=n) hab
 have kb:=Y2 n b
 by_cases hz:cnt n a=0
 ·have za:∀ i,i<n->a i=false:=fun i hi=>by
   cases h:a i with
   | false=>rfl
   | true =>
    have:=aH7 (f:=fun i=>b2 (a i)) hi (fun i _=>J0 _)
    have e:b2 (a i)=1:=by rw[h];rfl
    have t:b2 (a i)<=cnt n a:=this
    omega
  have:=av4 (a:=b) hd
  rw[as4 za,hz,Y3,M9]
  omega
 ·obtain⟨A,hc,ht,r1⟩:=h (cnt n a).toNat (by omega) (by omega)
  have hcA:cnt n A=cnt n a:=by omega
  have r2:=aU7 (φ:=fun x=>x+mnf (M*cnt n a) x) (fun x y hxy=>by have:=aZ4 (r:=M*cnt n a) hxy;omega) ht hcA.symm
  have sp:∀ c:Nat->Bool,sm n c (fun i=>d i+mnf (M*cnt n a) (d i))=sm n c d+S n (fun i=>mnf (M*cnt n a) (d i)) - S n (fun i=>if c i=true then 0 else mnf (M*cnt n a) (d i)):=fun c=>by
   unfold sm
   rw[<- W0,<- F7]
   refine u6 fun i _=>?_
   cases c i<;>simp
  rw[sp a,sp A]at r2
  unfold aP3 at r1
  rw[hcA]at r1
  have low:S n (fun i=>if a i=true then 0 else mnf (M*cnt n a) (d i))<=sm n b d+(M*cnt n a)*((n:Int) - cnt n a - cnt n b):=by
   have e:(M*cnt n a)*((n:Int) - cnt n a - cnt n b)=S n (fun i=>(M*cnt n a)*(1 - b2 (a i) - b2 (b i))):=by
    rw[Z3,F7,F7,Q7,K7];rfl
   rw[e]
   unfold sm
   rw[<- W0]
   refine ag2 fun i hi=>?_
   have l1:=bk8 (M*cnt n a) (d i)
   have l2:=bk7 (M*cnt n a) (d i)
   cases ha:a i with
   | true=>rw[hab i ha];simp[b2]
   | false=>cases b i<;>simp[b2]<;>assumption
  rw[ch3]
  omega
structure Thw (M:Int) (g:Nat->Nat->Int):Prop where
 sym:∀ i j,g i j=g j i
 dia:∀ i,g i i=0
 lo:∀ i j,0<=g i j
 hi:∀ i j,g i j<=M
end
end Thk
namespace Web
open L2 Grf Thk
theorem bf8 (hp:zs.Perm (rng ns.length))(hs:zs.Pairwise (ole ns)){M r:Nat}(hr:r<=ns.length) :
  aP3 ns.length M (fun i=>ns.getD i 0) (fun i=>decide ((i:Int)∈zs.take r))=aa0 ns M r:=by
 have nd:zs.Nodup:=hp.nodup_iff.mpr (X8 _)
 have hin:∀ z∈zs,0<=z/\z<(ns.length:Int):=fun z hz=>U1.mp (hp.mem_iff.mp hz)
 have ndA:(zs.take r).Nodup:=nd.sublist (K3 r zs)
 have ndB:(zs.drop r).Nodup:=nd.sublist (ab2 r zs)
 have inA:∀ z∈zs.take r,0<=z/\z<(ns.length:Int):=fun z hz=>hin z (G9 hz)
 have inB:∀ z∈zs.drop r,0<=z/\z<(ns.length:Int):=fun z hz=>hin z (P7 hz)
 have app:=nd
 rw[<- C4 r zs]at app
 have cross:=(aJ6.mp app).2.2
 have mem_or:∀ i:Nat,i<ns.length->(i:Int)∈zs.take r\/(i:Int)∈zs.drop r:=fun i hi=>by
  have:(i:Int)∈zs:=hp.mem_iff.mpr (U1.mpr ⟨by omega,by omega⟩)
  rw[<- C4 r zs]at this
  exact A7.mp this
 have hc:=(ao1 hp hs hr).1
 have of:=aE2 hp hs
 have rm:=ay3 (ns:=ns) (M:=M) (r:=r) of
 unfold aP3
 rw[hc,<- rm,<- aI0,<- aI1,X3,<- M7]
 have s1:sm ns.length (fun i=>decide ((i:Int)∈zs.take r)) (fun i=>ns.getD i 0)=((zs.take r).map fun z=>ns.getD z.toNat 0).sum:=by
  rw[<- bc2 (n:=ns.length) (f:=fun i=>ns.getD i 0) ndA inA]
  refine Grf.u6 fun i _=>?_
  show (if decide ((i:Int)∈zs.take r)=true then ns.getD i 0 else 0)=_
  by_cases c:(i:Int)∈zs.take r
  ·rw[if_pos c,decide_eq_true c,if_pos rfl]
  ·rw[if_neg c,decide_eq_false c,if_neg (by decide)]
 have s2:S ns.length (fun i=>if decide ((i:Int)∈zs.take r)=true then 0 else Grf.mnf ((M:Int)*r) (ns.getD i 0))=((zs.drop r).map (mn ((M:Int)*r) ∘ fun z=>ns.getD z.toNat 0)).sum:=by
  have:=bc2 (n:=ns.length) (f:=fun i=>mn ((M:Int)*r) (ns.getD i 0)) ndB inB
  show _=((zs.drop r).map fun z=>mn ((M:Int)*r) (ns.getD z.toNat 0)).sum
  rw[<- this]
  refine Grf.u6 fun i hi=>?_
  by_cases c:(i:Int)∈zs.take r
  ·rw[decide_eq_true c,if_pos rfl,if_neg (fun z=>cross _ c _ z rfl)]
  ·rw[decide_eq_false c,if_neg (by decide),if_pos ((mem_or i hi).resolve_left c)]
   rfl
 rw[s1,s2]
theorem bN7 {M:Nat}(h:Z4 ns M .free):Kk ns.length M (fun i=>ns.getD i 0):=by
 obtain⟨h1,h2,h3⟩:=h
 obtain⟨zs,hp,hs⟩:=aw4 ns
 have hd:∀ i,i<ns.length->0<=ns.getD i 0:=fun i hi=>Z1 h1 hi
 exact bM9 (cc7 M) hd fun r r1 r2=>by
  obtain⟨a1,a2,_⟩:=ao1 hp hs r2
  exact⟨_,a1,a2,by rw[bf8 hp hs r2];exact h3 r r1 r2⟩
def abv (M L c:Int):Int:=if c - L<=0 then 0 else if c - L<=M then c - L else M
theorem bE4 {M:Int}(hM:1<=M)(L c:Int):abv M (L - 1) c - abv M L c=if abv M L c<abv M (L - 1) c then 1 else 0:=by
 unfold abv
 split<;>split<;>split<;>first | omega | (split<;>omega)
theorem bE5 {M L c:Int}(hM:1<=M)(h:abv M L c<abv M (L - 1) c):abv M L c=c - L/\0<=c - L/\c - L<M:=by
 unfold abv at *
 split at h<;>split at h<;>first | omega | (split at h<;>first | omega | (split at h<;>omega)) | skip
 all_goals (repeat' split)<;>omega
def am2 (M L:Int)(ns:List Int):List Int:=(rng ns.length).filter fun z=>decide (abv M L (ns.getD z.toNat 0)<abv M (L - 1) (ns.getD z.toNat 0))
def aQ4 (M L:Int)(ns:List Int)(k:Nat):List Int:=(am2 M L ns).take k
def shx (M L:Int)(ns:List Int)(k:Nat)(j:Nat):Int:=abv M L (ns.getD j 0)+if (j:Int)∈aQ4 M L ns k then 1 else 0
theorem aZ2 (M L:Int)(ns:List Int):(am2 M L ns).Nodup:=(X8 _).sublist bP5
theorem aZ3 {M L:Int}:∀ z∈am2 M L ns,0<=z/\z<ns.length:=fun z hz=>U1.mp (P9.mp hz).1
theorem aw5 {M L:Int}(hj:j<ns.length):(j:Int)∈am2 M L ns↔abv M L (ns.getD j 0)<abv M (L - 1) (ns.getD j 0):=by
 unfold am2
 rw[P9,U1,decide_eq_true_iff,p0]
 constructor
 ·exact fun h=>h.2
 ·exact fun h=>⟨⟨by omega,by omega⟩,h⟩
theorem bu4 (L:List Int):(L.map fun _=>(1:Int)).sum=L.length:=by
 induction L with
 | nil=>rfl
 | cons a L ih=>rw[o9,G5,ih,o4];omega
theorem bE8 {L:List Int}(nd:L.Nodup)(h:∀ z∈L,0<=z/\z<n):S n (fun i=>if (i:Int)∈L then 1 else 0)=L.length:=by
 rw[bc2 (f:=fun _=>1) nd h,bu4]
theorem bq1 {M:Int}(hM:1<=M)(L:Int)(ns:List Int):((am2 M L ns).length:Int)=(ns.map (abv M (L - 1))).sum - (ns.map (abv M L)).sum:=by
 rw[<- bE8 (aZ2 M L ns) aZ3,<- aH5,<- aH5,<- F7]
 refine Grf.u6 fun j hj=>?_
 rw[bE4 hM]
 by_cases c:abv M L (ns.getD j 0)<abv M (L - 1) (ns.getD j 0)
 ·rw[if_pos c,if_pos ((aw5 hj).mpr c)]
 ·rw[if_neg c,if_neg fun h=>c ((aw5 hj).mp h)]
structure Lvl (M:Int) (ns:List Int) (a L:Int):Prop where
 l0:0<=L
 le:(ns.map (abv M L)).sum<=a
 lt:0<L->a<(ns.map (abv M (L - 1))).sum
section
variable {M a L:Int}
theorem bI8 (hM:1<=M)(h:Lvl M ns a L)(h0:a<=(ns.map (abv M 0)).sum):S ns.length (shx M L ns (a - (ns.map (abv M L)).sum).toNat)=a:=by
 unfold shx
 rw[W0,aH5,bE8 (L:=aQ4 M L ns (a - (ns.map (abv M L)).sum).toNat) ((aZ2 M L ns).sublist (K3 _ _)) fun z hz=>aZ3 z (G9 hz)]
 unfold aQ4
 rw[o8]
 have l:=bq1 hM L ns
 have le:=h.le
 by_cases c:0<L
 ·have:=h.lt c
  omega
 ·have:L=0:=by have:=h.l0;omega
  subst this
  omega
theorem bj5 (hj:j<ns.length){k:Nat}(hM:1<=M)(h:(j:Int)∈aQ4 M L ns k):abv M L (ns.getD j 0)=ns.getD j 0 - L/\0<=ns.getD j 0 - L/\ns.getD j 0 - L<M:=bE5 hM ((aw5 hj).mp (G9 h))
theorem af5 (hM:1<=M)(k:Nat)(hj:j<ns.length):0<=shx M L ns k j/\shx M L ns k j<=M/\(0<shx M L ns k j->L - 1<=ns.getD j 0 - shx M L ns k j)/\(shx M L ns k j<M->ns.getD j 0 - shx M L ns k j<=L):=by
 unfold shx
 by_cases c:(j:Int)∈aQ4 M L ns k
 ·obtain⟨e1,e2,e3⟩:=bj5 hj hM c
  rw[if_pos c,e1]
  omega
 ·rw[if_neg c]
  unfold abv
  split
  ·omega
  ·split<;>omega
theorem bW2 (hM:1<=M)(h:Lvl M ns a L)(h0:a<=(ns.map (abv M 0)).sum)(hj:j<ns.length)(hn:0<=ns.getD j 0):shx M L ns (a - (ns.map (abv M L)).sum).toNat j<=ns.getD j 0:=by
 have l0:=h.l0
 unfold shx
 by_cases c:(j:Int)∈aQ4 M L ns (a - (ns.map (abv M L)).sum).toNat
 ·obtain⟨e1,e2,e3⟩:=bj5 hj hM c
  have:L≠0:=fun e=>by
   subst e
   have z:(a - (ns.map (abv M 0)).sum).toNat=0:=by omega
   rw[z]at c
   unfold aQ4 at c
   rw[R9]at c
   cases c
  rw[if_pos c,e1]
  omega
 ·rw[if_neg c]
  unfold abv
  split
  ·omega
  ·split<;>omega
end
theorem aV3 {M:Nat}{a L:Int}(hM:1<=M)(hK:Kk (ns.length+1) M (fun i=>(a::ns).getD i 0))(hn:AllP ns)(ev:(a+ns.sum) % 2=0)(h:Lvl M ns a L) :
  S ns.length (shx M L ns (a - (ns.map (abv M L)).sum).toNat)=a/\Kk ns.length M (fun j=>ns.getD j 0 - shx M L ns (a - (ns.map (abv M L)).sum).toNat j)/\(∀ j,j<ns.length->0<=ns.getD j 0 - shx M L ns (a - (ns.map (abv M L)).sum).toNat j)/\∃ k,S ns.length (fun j=>ns.getD j 0 - shx M L ns (a - (ns.map (abv M L)).sum).toNat j)=2*k:=by
 have M1:1<=(M:Int):=by omega
 have g:∀ j,(a::ns).getD (j+1) 0=ns.getD j 0:=fun j=>by rw[az8]
 have h0:a<=(ns.map (abv M 0)).sum:=by
  have:=bO8 hK (by omega)
  rw[<- aH5]
  refine Y4 this (Grf.ag2 fun j hj=>?_)
  simp only[g]
  have:=Z1 hn hj
  unfold abv
  split<;>split<;>first | omega | (split<;>omega)
 have sx:=bI8 M1 h h0
 have st:=cc1 (L:=L) (x:=shx M L ns (a - (ns.map (abv M L)).sum).toNat) M1 hK ?_ sx (fun j hj=>(af5 M1 _ hj).1) (fun j hj=>(af5 M1 _ hj).2.1) (fun j hj=>by simp only[g];exact(af5 M1 _ hj).2.2.1) (fun j hj=>by simp only[g];exact(af5 M1 _ hj).2.2.2)
 ·simp only[g]at st
  exact⟨sx,st.1,fun j hj=>by have:=bW2 M1 h h0 hj (Z1 hn hj);omega,st.2⟩
 ·rw[aH6]
  simp only[g]
  rw[aM5,az9]
  exact⟨(a+ns.sum) / 2,by omega⟩
def Z6 (p:Nat):Nat->List Int->List (List Int)
 | _,[]=>[]
 | q,x::xs=>if 0<x then [(p:Int),(q:Int),x]::Z6 p (q+1) xs else Z6 p (q+1) xs
def ab0:List (List Int)->Nat->Int
 | [],_=>0
 | k::ks,i=>(if k.getD 0 0=(i:Int) then k.getD 2 0 else 0)+(if k.getD 1 0=(i:Int) then k.getD 2 0 else 0)+ab0 ks i
def aQ8 (k k':List Int):Prop:=k.getD 0 0<k'.getD 0 0\/(k.getD 0 0=k'.getD 0 0/\k.getD 1 0<k'.getD 1 0)
def tri (n M:Nat)(k:List Int):Prop:=∃ (i j:Nat) (x:Int),k=[(i:Int),(j:Int),x]/\i<j/\j<n/\1<=x/\x<=M
theorem au2:∀ (ks ks':List (List Int)) (i:Nat),ab0 (ks++ks') i=ab0 ks i+ab0 ks' i
 | [],ks',i=>by show ab0 ks' i=0+ab0 ks' i;omega
 | k::ks,ks',i=>by
  show _+_+ab0 (ks++ks') i=_+_+ab0 ks i+ab0 ks' i
  rw[au2 ks ks' i]
  omega
theorem as8:∀ {xs:List Int} {q:Nat} {k:List Int},k∈Z6 p q xs->∃ (j:Nat) (x:Int),k=[(p:Int),(j:Int),x]/\q<=j/\j<q+xs.length/\0<x/\x∈xs
 | [],q,k,h=>by cases h
 | x::xs,q,k,h=>by
  unfold Z6 at h
  have go:k∈Z6 p (q+1) xs->∃ (j:Nat) (y:Int),k=[(p:Int),(j:Int),y]/\q<=j/\j<q+(x::xs).length/\0<y/\y∈x::xs:=fun h=>by
   obtain⟨j,y,e,h1,h2,h3,h4⟩:=as8 h
   exact⟨j,y,e,by omega,by rw[o4];omega,h3,c7 _ h4⟩
  by_cases c:0<x
  ·rw[if_pos c]at h
   rcases d8.mp h with e | h
   ·exact⟨q,x,e,by omega,by rw[o4];omega,c,c9⟩
   ·exact go h
  ·rw[if_neg c]at h
   exact go h
theorem aP2:∀ (xs:List Int) (q:Nat),(Z6 p q xs).Pairwise aQ8
 | [],_=>List.Pairwise.nil
 | x::xs,q=>by
  unfold Z6
  by_cases c:0<x
  ·rw[if_pos c]
   refine List.Pairwise.cons (fun k hk=>?_) (aP2 xs (q+1))
   obtain⟨j,y,e,h1,_⟩:=as8 hk
   rw[e]
   refine .inr ⟨rfl,?_⟩
   show (q:Int)<(j:Int)
   omega
  ·rw[if_neg c]
   exact aP2 xs (q+1)
theorem aD7:∀ (xs:List Int) (q:Nat) (i:Nat),p<q->(∀ x∈xs,0<=x)->ab0 (Z6 p q xs) i=(if i=p then xs.sum else 0)+(if q<=i then xs.getD (i - q) 0 else 0)
 | [],q,i,_,_=>by
  show (0:Int)=(if i=p then 0 else 0)+(if q<=i then 0 else 0)
  split<;>split<;>rfl
 | x::xs,q,i,hp,hx=>by
  have ih:=aD7 xs (q+1) i (by omega) fun y hy=>hx y (c7 _ hy)
  have x0:=hx x c9
  have e1:ab0 (Z6 p q (x::xs)) i=(if i=p then x else 0)+(if i=q then x else 0)+ab0 (Z6 p (q+1) xs) i:=by
   show ab0 (if 0<x then _ else _) i=_
   by_cases c:0<x
   ·rw[if_pos c]
    show (if (p:Int)=(i:Int) then x else 0)+(if (q:Int)=(i:Int) then x else 0)+ab0 (Z6 p (q+1) xs) i=_
    congr 2
    ·by_cases e:i=p
     ·rw[if_pos e,if_pos (by omega)]
     ·rw[if_neg e,if_neg (by omega)]
    ·by_cases e:i=q
     ·rw[if_pos e,if_pos (by omega)]
     ·rw[if_neg e,if_neg (by omega)]
   ·have:x=0:=by omega
    rw[if_neg c,this]
    split<;>split<;>omega
  rw[e1,ih,G5]
  by_cases c1:i=p
  ·rw[if_pos c1,if_pos c1,if_pos c1,if_neg (by omega),if_neg (by omega),if_neg (by omega)]
   omega
  ·rw[if_neg c1,if_neg c1,if_neg c1]
   by_cases c2:i=q
   ·subst c2
    rw[if_pos rfl,if_neg (by omega),if_pos (c8 _),aS8,az9]
    omega
   ·rw[if_neg c2]
    by_cases c3:q+1<=i
    ·rw[if_pos c3,if_pos (by omega),show i - q=(i - (q+1))+1 by omega,az8]
     omega
    ·rw[if_neg c3,if_neg (by omega)]
     omega
structure Lay (n M p:Nat) (os:List Int) (ks:List (List Int)) (ds:List Int):Prop where
 on:os.length=n
 len:p+ds.length=n
 tr:∀ k∈ks,tri n M k/\k.getD 0 0<p
 pw:ks.Pairwise aQ8
 don:∀ i,i<p->ab0 ks i=os.getD i 0
 rst:∀ i,p<=i->i<n->ab0 ks i+ds.getD (i - p) 0=os.getD i 0
 pos:AllP ds
 evn:ds.sum % 2=0
 kk:Kk ds.length M (fun i=>ds.getD i 0)
theorem bq3 {M:Nat}{os:List Int}(h:Z4 os M .free):Lay os.length M 0 os [] os where
 on:=rfl
 len:=by omega
 tr:=fun k hk=>by cases hk
 pw:=List.Pairwise.nil
 don:=fun i hi=>by omega
 rst:=fun i _ _=>by show 0+os.getD (i - 0) 0=_;rw[bG2];omega
 pos:=h.1
 evn:=by have:=h.2.1;omega
 kk:=bN7 h
theorem bz6 {M:Nat}{a L:Int}{os xs ds:List Int}(hM:1<=M)(h:Lay n M p os ks (a::ns))(hl:Lvl M ns a L)(hxl:xs.length=ns.length)(hx:∀ j,j<ns.length->xs.getD j 0=shx M L ns (a - (ns.map (abv M L)).sum).toNat j)(hdl:ds.length=ns.length)(hd:∀ j,j<ns.length->ds.getD j 0=ns.getD j 0 - xs.getD j 0):Lay n M (p+1) os (ks++Z6 p (p+1) xs) ds:=by
 have M1:1<=(M:Int):=by omega
 have hlen:=h.len
 rw[o4]at hlen
 have hn:AllP ns:=fun j x hj=>h.pos (j+1) x (by rw[bt2];exact hj)
 have ev:=h.evn
 rw[G5]at ev
 have kk:=h.kk
 rw[o4]at kk
 obtain⟨s1,s2,s3,s4⟩:=aV3 (L:=L) hM kk hn ev hl
 have xs0:∀ x∈xs,0<=x/\x<=M:=fun x hx'=>by
  obtain⟨j,hj,e⟩:=List.getElem_of_mem hx'
  have e2:xs.getD j 0=x:=by rw[i8,k9 hj,e];rfl
  rw[<- e2,hx j (by omega)]
  have:=af5 (L:=L) M1 (a - (ns.map (abv M L)).sum).toNat (show j<ns.length by omega)
  exact⟨this.1,this.2.1⟩
 have xsum:xs.sum=a:=by
  rw[<- aM5,hxl,Grf.u6 hx,s1]
 have de:∀ j,j<ns.length->ds.getD j 0=ns.getD j 0 - shx M L ns (a - (ns.map (abv M L)).sum).toNat j:=fun j hj=>by rw[hd j hj,hx j hj]
 refine⟨h.on,by omega,fun k hk=>?_,?_,fun i hi=>?_,fun i h1 h2=>?_,fun j x hj=>?_,?_,?_⟩
 ·rcases A7.mp hk with hk | hk
  ·have:=h.tr k hk
   exact⟨this.1,by omega⟩
  ·obtain⟨j,x,e,h1,h2,h3,h4⟩:=as8 hk
   refine⟨⟨p,j,x,e,by omega,by omega,by omega,(xs0 x h4).2⟩,?_⟩
   rw[e]
   show (p:Int)<((p+1:Nat):Int)
   omega
 ·refine A5.mpr ⟨h.pw,aP2 xs _,fun k hk k' hk'=>?_⟩
  have a1:=(h.tr k hk).2
  obtain⟨j,x,e,_⟩:=as8 hk'
  refine .inl ?_
  rw[e]
  exact a1
 ·rw[au2,aD7 xs (p+1) i (by omega) fun x hx=>(xs0 x hx).1,if_neg (show ¬ p+1<=i by omega)]
  by_cases c:i=p
  ·have:=h.rst i (by omega) (by omega)
   rw[show i - p=0 by omega,az9]at this
   rw[if_pos c,xsum]
   omega
  ·rw[if_neg c,<- h.don i (by omega)]
   omega
 ·have:=h.rst i (by omega) h2
  rw[show i - p=(i - (p+1))+1 by omega,az8]at this
  rw[au2,aD7 xs (p+1) i (by omega) fun x hx=>(xs0 x hx).1,if_neg (by omega),if_pos h1,hd _ (by omega)]
  omega
 ·have hj':j<ds.length:=by
   rcases B3 j ds.length with h | h
   ·exact h
   ·rw[o6 h]at hj;cases hj
  have e:ds.getD j 0=x:=by rw[i8,hj];rfl
  rw[<- e,de j (by omega)]
  exact s3 j (by omega)
 ·obtain⟨k,hk⟩:=s4
  have:ds.sum=2*k:=by rw[<- aM5,hdl,Grf.u6 de,hk]
  omega
 ·rw[hdl]
  intro σ τ hap
  have:=s2 σ τ hap
  unfold fV at this ⊢
  rw[Grf.u6 (g:=fun j=>(b2 (σ j) - b2 (τ j))*(ns.getD j 0 - shx M L ns (a - (ns.map (abv M L)).sum).toNat j)) fun j hj=>by show _*ds.getD j 0=_;rw[de j hj]]
  exact this
theorem bM6 {M:Nat}{os ds:List Int}(h:Lay n M n os ks ds):(∀ k∈ks,tri n M k)/\ks.Pairwise aQ8/\∀ i,i<n->ab0 ks i=os.getD i 0:=⟨fun k hk=>(h.tr k hk).1,h.pw,h.don⟩
end Web
namespace L2
open PySem PySem.Spec PyProof.Rows
open Sem (wp)
set_option maxRecDepth 100000
theorem br6 {T newId initId:String}{Bn Bi:Builtin}{args:List Value}{kw:List (Str × Value)}{S:PySem.Spec}{Q₁:Value->Shared->Prop}(ft:TypeCalled T newId initId)(hct:checkTypeCall T ⟨args,kw⟩=pure ())(hcn:checkBuiltinCall newId ⟨.type T::args,kw⟩=pure ())
  (entryN:entryFor table newId=some Bn)(entryI:entryFor table initId=some Bi)(g:Meets (Bn ⟨.type T::args,kw⟩) S)(h:S A.in1 (wants Q₁ E) s)
  (hnext:∀ obj s₁,Q₁ obj s₁->s₁.TypeIs obj T/\argsOk initId ⟨obj::args,kw⟩/\∃ Si,Meets (Bi ⟨obj::args,kw⟩) Si/\Si A.in1 (wants (fun r s₂=>r=.none/\Q obj s₂) E) s₁):p9 (x8 prog w) A (call (.type T) args kw) Q E s:=by
 obtain⟨c,tl,hmro⟩:=ft.mro;have hmade:=ft.made;have hsub:=ft.sub
 refine aU0 (codeAny_of_tree ?_);show p9 _ _ (callAny (.type T) _) _ _ _
 refine d4 ⟨Code.quiet_builtin _ (by decide +kernel),O1 F.entry_type_call ?_⟩;rw[Around.under_plain (bU1 T args kw) (units_type_call_type T args kw)]
 have h1:=ft.notType;have h2:=ft.canCreate;repeat (any_goals (first | assumption | wp_step))
 refine Z5 (aC4 ft.plain entryN (aI7 hcn (g prog w A.in1 _ s h))) fun r s₁ hr=>?_;cases r with
 | error e=>exact hr
 | ok fl =>
  cases fl with
  | ret obj =>
   obtain⟨hT,hok,Si,gi,hsi⟩:=hnext _ _ hr;have hli:=ft.init.lookup;have hbi:=ft.init.bind obj
   repeat (any_goals (first | assumption | wp_step))
   refine Z5 (aC4 ft.init.plain entryI (ft.init.check _ _ _ _ _ _ _ _ hT hok (gi prog w A.in1 _ s₁ hsi))) fun r₂ s₂ hr₂=>?_;cases r₂ with
   | error e=>exact hr₂
   | ok fl₂ =>
    cases fl₂ with
    | ret r =>
     obtain⟨rfl,hq⟩:=hr₂;repeat (any_goals (first | assumption | wp_step))
    | _=>exact hr₂.elim
  | _=>exact hr.elim
theorem bp8 {T newId:String} {self:Value} {rest:List Value} {kw:List (Str × Value)} (hl:typeLookup (.type T) "__init__"=pure (some (.builtin "object.__init__"))) (hm:Bind.madeBy (.type T)=pure (some newId)) (hne:(some newId != some "object.__new__")=true) :
    Meets (Builtin.«object.__init__» ⟨self::rest,kw⟩) (fun _ R s=>s.TypeIs self T/\R (.ok (.ret .none)) s):=by
  refine Meets.of_wp fun prog w A R s hs=>?_;obtain⟨hT,hq⟩:=hs
  cases rest with
  | nil =>
    cases kw with
    | nil=>exact d4 ⟨_,rfl,hq⟩
    | cons b kw => repeat (any_goals (first | assumption | wp_step))
                   exact⟨_,rfl,hq⟩
  | cons a rest => repeat (any_goals (first | assumption | wp_step))
                   exact⟨_,rfl,hq⟩
theorem bC4 (a v:Value):checkTypeCall "enumerate" ⟨[a],[(Str.ofString "start",v)]⟩=pure ():=by kernel_rfl
theorem bO1 (a v:Value):checkBuiltinCall "enumerate.__new__" ⟨[.type "enumerate",a],[(Str.ofString "start",v)]⟩=pure ():=by kernel_rfl
theorem bC5 (o a v:Value):argsOk "object.__init__" ⟨[o,a],[(Str.ofString "start",v)]⟩:=by unfold argsOk;kernel_rfl
end L2
namespace L2
open PySem PySem.Spec PyProof.Rows
set_option maxHeartbeats 1000000
open AutoSeq1 (wpAny_loadPart') in
set_option maxRecDepth 100000 in
theorem br3 (l:Addr)(ys:Array Value)(n:Nat)(dd:Option Addr)(ss:Array (Option Value))(k:Int)(t:Tok)(hk:Builtin.SmallTypes.fitsIndex k=true) :
  Meets (Builtin.«enumerate.__new__» ⟨[.type "enumerate",.ref l],[(Str.ofString "start",.int k t)]⟩) (fun _ R s=>s.heap.get? l=some { cls:=.type "list",dict:=dd,data:=.seq ys n,slots:=ss } /\
   R (.ok (.ret (.ref (s.heap.push { cls:=.type "list_iterator",data:=.fields #[.ref l,.int 0 0] }).objs.size)))
    { s with heap:=(s.heap.push { cls:=.type "list_iterator",data:=.fields #[.ref l,.int 0 0] }).push { cls:=.type "enumerate",data:=.fields #[.none,.bool false,.ref s.heap.objs.size,ac5 k,.none,.none] } }) :=
 .of_wp fun prog w A R s h=>by
  obtain⟨hp,g,d,tk,os⟩:=s;obtain⟨hl,h⟩:=h
  have hsub:=sub_enumerate
  have hL:Heap.IsList (Shared.heap ⟨hp,g,d,tk,os⟩) l ys:=⟨_,hl,rfl,n,rfl⟩
  wp_walk using wpAny_loadPart' hl
  refine wpAny_stack_any fun st=>d4 ?_
  split
  ·rename_i c _ _ _ _ _
   cases (c == Value.type "enumerate")
   ·wp_walk using wpAny_loadPart' hl,Q8 hL;exact⟨_,rfl,h⟩
   ·wp_walk using wpAny_loadPart' hl,Q8 hL;exact⟨_,rfl,h⟩
  ·wp_walk using wpAny_loadPart' hl,Q8 hL;exact⟨_,rfl,h⟩
end L2
namespace L2
open PySem PySem.Spec PyProof.Rows
theorem bC6 {l:Addr}{ys:Array Value}{k:Int}{t:Tok}(hk:Builtin.SmallTypes.fitsIndex k=true)(hT:s.heap.IsList l ys)
  (q:∀ h',bU2 h' (s.heap.objs.size+1) s.heap.objs.size k .none->h'.IsListIter s.heap.objs.size l 0->h'.objs.size=s.heap.objs.size+2->(∀ b o,s.heap.get? b=some o->h'.get? b=some o)->Q (.ref (s.heap.objs.size+1)) { s with heap:=h' }) :
  p9 (x8 prog w) A (call (.type "enumerate") [.ref l] [(Str.ofString "start",.int k t)]) Q E s:=by
 obtain⟨⟨c,dd,dt,ss⟩,hl,hc,n,hd⟩:=hT
 replace hc:c=.type "list":=hc
 replace hd:dt=.seq ys n:=hd
 subst hc hd
 refine br6 (Q₁:=fun obj s₁=>s₁.TypeIs obj "enumerate"/\Q obj s₁) F.called_enumerate (bC4 _ _) (bO1 _ _) F.entry_enumerate_new F.entry_object_init (br3 l ys n dd ss k t hk) ⟨hl,?_⟩ fun obj _ hq=>⟨hq.1,bC5 obj _ _,_,bp8 F.called_enumerate.init.lookup F.called_enumerate.made (by decide),hq.1,rfl,hq.2⟩
 have hz:(s.heap.push { cls:=.type "list_iterator",data:=.fields #[.ref l,.int 0 0] }).objs.size=s.heap.objs.size+1:=G0 ..
 show _/\_
 rw[hz]
 have he:bU2 ((s.heap.push { cls:=.type "list_iterator",data:=.fields #[.ref l,.int 0 0] }).push { cls:=.type "enumerate",data:=.fields #[.none,.bool false,.ref s.heap.objs.size,ac5 k,.none,.none] }) (s.heap.objs.size+1) s.heap.objs.size k .none:=by
  have:=l5 (s.heap.push { cls:=.type "list_iterator",data:=.fields #[.ref l,.int 0 0] }) (o:={ cls:=.type "enumerate",data:=.fields #[.none,.bool false,.ref s.heap.objs.size,ac5 k,.none,.none] }) rfl
  rw[hz]at this;exact this
 exact⟨⟨_,he,rfl⟩,q _ he ⟨_,c5 _ (l5 _ rfl),rfl,rfl⟩ (by rw[G0,hz]) fun b o x=>c5 _ (c5 _ x)⟩
section
variable {env:Env}
theorem bD2 {T:String}{rest:List Expr}{kws:List az0}
  (h:p9 M A (spliced (N6 pos (u4 (e::rest) env))) (fun vs s₁=>p9 M A (evalAll ((ag9 pos (S0 kws env)).map (·.2))) (fun kvs s₂=>p9 M A (call (.type T) vs (((ag9 pos (S0 kws env)).filterMap (·.1)).zip kvs)) Q E s₂) E s₁) E s)
  (he:N6 pos (u4 (e::rest) env)=(false,eval e env)::N6 pos (u4 rest env):=by rfl)(hplain:(N6 pos (u4 (e::rest) env)).any (·.1)=false:=by rfl)
  (hall:(ag9 pos (S0 kws env)).all (·.1.isSome)=true:=by rfl)(hkw:(ag9 pos (S0 kws env)).any (·.1.isNone)=false:=by rfl) :
  p9 M A (callWith pos (.type T) [] (N6 pos (u4 (e::rest) env)) (ag9 pos (S0 kws env))) Q E s:=by
 have h':p9 M A (evalArgs (.type T) true (N6 pos (u4 (e::rest) env)) (ag9 pos (S0 kws env))) (fun a s₁=>p9 M A (call (.type T) ([]++a.pos) a.kw) Q E s₁) E s:=by
  rw[he]at h ⊢;exact evalArgs_kwB hall h
 unfold callWith;refine b7 (C9 (E3 h' (fun a s₁ h₁=>b7 (ag8 ?_)) fun _ _ x=>x));simp only[hplain,hkw,Bool.or_false]
 refine b7 (d4 ?_);exact b7 (E3 h₁ (fun r s₂ hr=>b7 (C9 (wpAny_point (d4 hr)))) fun _ _ x=>x)
end
structure ZAp (z TI TO i1 i2:Addr) (f1 f2:List Addr):Prop where
 a1:TI≠z
 a2:TO≠z
 a3:i1≠z
 a4:i2≠z
 a5:TI≠TO
 a6:TI≠i1
 a7:TI≠i2
 a8:TO≠i1
 a9:TO≠i2
 b0:i1≠i2
 b1:z∉f1
 b2:z∉f2
 b3:TO∉f1
 b4:TO∉f2
 b5:i1∉f2
 b6:i2∉f1
section
variable {z TI TO i1 i2:Addr} {f1 f2:List Addr} {n1 n2 k:Nat} {P1 P2:Nat->Value->Prop} {S1 S2:Nat->Heap->Prop}
theorem V5 {it:Addr}{P:Nat->Value->Prop}{St:Nat->Heap->Prop}(D:Draws prog w A it fp n P St)(st:St i h)(k:Heap.ExtBut c h h')(hc:c∉fp):St i h':=D.frame i h h' st fun b hb o e=>k b o (fun zz=>hc (zz ▸ hb)) e
theorem bH5 {a b:Value} (D:ZAp z TI TO i1 i2 f1 f2) (D1:Draws prog w A i1 f1 n1 P1 S1) (D2:Draws prog w A i2 f2 n2 P2 S2) (hz:bd0 s.heap z TI TO .none) (hTI:ae4 s.heap TI (.ref i1) (.ref i2)) (hTO:ae4 s.heap TO a b) (st1:S1 k s.heap) (st2:S2 k s.heap) (hk1:k<n1) (hk2:k<n2)
  (hQ : ∀ x y h' tk, P1 k x -> P2 k y -> bd0 h' z TI TO (ac5 s.heap.objs.size) -> ae4 h' TO x y -> S1 (k + 1) h' -> S2 (k + 1) h' -> ae4 h' s.heap.objs.size x y -> h'.objs.size = s.heap.objs.size + 1 ->
   (∀ c o,c≠z->c≠TO->c≠i1->c≠i2->s.heap.get? c=some o->h'.get? c=some o)->Q (.ref s.heap.objs.size) { s with heap:=h',toks:=tk }) :
  p9 (x8 prog w) A (Builtin.«zip.__next__» ⟨[.ref z],[]⟩) (fun fin s'=>∃ v,fin=.done (.ret v)/\Q v s') E s:=by
 show p9 _ _ (field (.ref z) 2 >>= _) _ _ _;refine b7 (K9 hz rfl (x:=.bool false) rfl ?_)
 show p9 _ _ (field (.ref z) 3 >>= _) _ _ _;refine b7 (K9 hz rfl (x:=.ref TI) rfl (b7 (J1 hTI rfl ?_)))
 show p9 _ _ (Builtin.SmallTypes.ownedTupleIsFree (.ref z) >>= _) _ _ _;refine b7 ?_;unfold Builtin.SmallTypes.ownedTupleIsFree
 refine b7 (K9 hz rfl (x:=.none) rfl (d4 ?_));simp only[if_true]
 refine b7 (aq4 (b7 (K9 hz rfl (x:=.ref TO) rfl (b7 (aa4 hz (by simp) fun hA hzA hsA=>?_)))))
 replace hzA:bd0 hA z TI TO .ellipsis:=hzA
 refine b7 ?_;simp only[aS7,List.zipIdx_nil,List.forIn_cons,List.forIn_nil]
 refine b7 (b7 (bH2 ?_));show p9 _ _ (Builtin.SmallTypes.nextOf (.ref i1) >>= _) _ _ _
 refine b7 (D1.item k _ _ _ hk1 (V5 D1 st1 hsA.extBut D.b1) fun x hB tB hx stB hsB=>d4 ?_)
 have hTOB:ae4 hB TO a b:=hsB.extBut _ _ D.a8 (hsA.extBut _ _ D.a2 hTO)
 refine b7 (J1 hTOB rfl (b7 (cc9 hTOB fun hC hTOC hsC=>?_)))
 replace hTOC:ae4 hC TO x b:=hTOC
 refine b7 (aj7 (d4 ?_));refine b7 (b7 (bH2 ?_));show p9 _ _ (Builtin.SmallTypes.nextOf (.ref i2) >>= _) _ _ _
 refine b7 (D2.item k _ _ _ hk2 (V5 D2 (V5 D2 (V5 D2 st2 hsA.extBut D.b2) hsB.extBut D.b5) hsC.extBut D.b4) fun y hD tD hy stD hsD=>d4 ?_)
 have hTOD:ae4 hD TO x b:=hsD.extBut _ _ D.a9 hTOC
 refine b7 (J1 hTOD rfl (b7 (cc9 hTOD fun hF hTOF hsF=>?_)))
 replace hTOF:ae4 hF TO x y:=hTOF
 refine b7 (aj7 (d4 (d4 (b7 (J1 hTOF rfl (b7 (bt6 ?_)))))))
 have hsz:hF.objs.size=s.heap.objs.size:=by rw[hsF.1,hsD.1,hsC.1,hsB.1,hsA.1]
 have hzF:bd0 hF z TI TO .ellipsis:=hsF.extBut _ _ D.a2.symm (hsD.extBut _ _ D.a4.symm (hsC.extBut _ _ D.a2.symm (hsB.extBut _ _ D.a3.symm hzA)))
 have hkF:∀ c o,c≠z->c≠TO->c≠i1->c≠i2->s.heap.get? c=some o->hF.get? c=some o:=fun c o c1 c2 c3 c4 e=>hsF.extBut _ _ c2 (hsD.extBut _ _ c4 (hsC.extBut _ _ c2 (hsB.extBut _ _ c3 (hsA.extBut _ _ c1 e))))
 have s1F:S1 (k+1) hF:=V5 D1 (V5 D1 (V5 D1 stB hsC.extBut D.b3) hsD.extBut D.b6) hsF.extBut D.b3
 have s2F:S2 (k+1) hF:=V5 D2 stD hsF.extBut D.b4
 have hzlt:z<hF.objs.size:=d6 hzF
 show p9 _ _ (Builtin.SmallTypes.ownedTupleHandOut (.ref z) (.ref hF.objs.size) >>= _) _ _ _;refine b7 ?_;unfold Builtin.SmallTypes.ownedTupleHandOut
 have hzG:bd0 (hF.push { cls:=.type "tuple",data:=.seq #[x,y] }) z TI TO .ellipsis:=c5 _ hzF
 refine b7 (aa4 hzG (by simp) fun hJ hzJ hsJ=>?_)
 replace hzJ:bd0 hJ z TI TO (ac5 hF.objs.size):=hzJ
 refine aa4 hzJ (by simp) fun hL hzL hsL=>?_
 replace hzL:bd0 hL z TI TO (ac5 hF.objs.size):=hzL
 have up:∀ c o,c≠z->hF.get? c=some o->hL.get? c=some o:=fun c o c1 e=>hsL.extBut _ _ c1 (hsJ.extBut _ _ c1 (c5 _ e))
 have hTL:ae4 hL hF.objs.size x y:=hsL.extBut _ _ (L0 hzlt) (hsJ.extBut _ _ (L0 hzlt) (l5 _ rfl))
 have hzs:hL.objs.size=hF.objs.size+1:=by rw[hsL.1,hsJ.1,G0]
 rw[hsz]at hzL hTL hzs
 refine d4 ⟨_,rfl,?_⟩;show Q (.ref hF.objs.size) _;rw[hsz]
 exact hQ x y hL tD hx hy hzL (up _ _ D.a2 hTOF) (D1.frame _ _ _ s1F fun b hb o e=>up b o (fun q=>D.b1 (q ▸ hb)) e) (D2.frame _ _ _ s2F fun b hb o e=>up b o (fun q=>D.b2 (q ▸ hb)) e) hTL hzs fun c o c1 c2 c3 c4 e=>up c o c1 (hkF c o c1 c2 c3 c4 e)
theorem bU4 {Q:PySem.Fin->Shared->Prop}{a b:Value}(D:ZAp z TI TO i1 i2 f1 f2)(D1:Draws prog w A i1 f1 n1 P1 S1)(hz:bd0 s.heap z TI TO .none)(hTI:ae4 s.heap TI (.ref i1) (.ref i2))(hTO:ae4 s.heap TO a b)(st1:S1 n1 s.heap)
  (hE:∀ h' e,(∀ c o,c≠z->c≠TO->c≠i1->c≠i2->s.heap.get? c=some o->h'.get? c=some o)->(∃ o,h'.get? e=some o/\o.cls=.type "StopIteration")->E (.ref e) { s with heap:=h' }) :
  p9 (x8 prog w) A (Builtin.«zip.__next__» ⟨[.ref z],[]⟩) Q E s:=by
 show p9 _ _ (field (.ref z) 2 >>= _) _ _ _;refine b7 (K9 hz rfl (x:=.bool false) rfl ?_)
 show p9 _ _ (field (.ref z) 3 >>= _) _ _ _;refine b7 (K9 hz rfl (x:=.ref TI) rfl (b7 (J1 hTI rfl ?_)))
 show p9 _ _ (Builtin.SmallTypes.ownedTupleIsFree (.ref z) >>= _) _ _ _;refine b7 ?_;unfold Builtin.SmallTypes.ownedTupleIsFree
 refine b7 (K9 hz rfl (x:=.none) rfl (d4 ?_));simp only[if_true]
 refine b7 (aq4 (b7 (K9 hz rfl (x:=.ref TO) rfl (b7 (aa4 hz (by simp) fun hA hzA hsA=>?_)))))
 replace hzA:bd0 hA z TI TO .ellipsis:=hzA
 refine b7 ?_;simp only[aS7,List.zipIdx_nil,List.forIn_cons,List.forIn_nil]
 refine b7 (b7 (bH2 ?_));show p9 _ _ (Builtin.SmallTypes.nextOf (.ref i1) >>= _) _ _ _
 refine b7 (D1.done _ _ _ (V5 D1 st1 hsA.extBut D.b1) fun hB e hsB he=>?_)
 obtain⟨oe,hoe,hce⟩:=he
 have hzB:bd0 hB z TI TO .ellipsis:=hsB _ _ D.a3.symm hzA
 have hez:e≠z:=fun x=>by subst x;rw[hzB]at hoe;cases hoe;simp at hce
 exact aa4 hzB (by simp) fun hC _ hsC=>hE hC e (fun c o c1 _ c3 _ x=>hsC.extBut _ _ c1 (hsB _ _ c3 (hsA.extBut _ _ c1 x))) ⟨oe,hsC.extBut _ _ hez hoe,hce⟩
theorem bH3 {Q:Option Value->Shared->Prop} {a b:Value} (D:ZAp z TI TO i1 i2 f1 f2) (D1:Draws prog w A.in1 i1 f1 n1 P1 S1) (D2:Draws prog w A.in1 i2 f2 n2 P2 S2) (hz:bd0 s.heap z TI TO .none) (hTI:ae4 s.heap TI (.ref i1) (.ref i2)) (hTO:ae4 s.heap TO a b) (st1:S1 k s.heap) (st2:S2 k s.heap) (hk1:k<n1) (hk2:k<n2)
  (hQ : ∀ x y h' tk, P1 k x -> P2 k y -> bd0 h' z TI TO (ac5 s.heap.objs.size) -> ae4 h' TO x y -> S1 (k + 1) h' -> S2 (k + 1) h' -> ae4 h' s.heap.objs.size x y -> h'.objs.size = s.heap.objs.size + 1 ->
   (∀ c o,c≠z->c≠TO->c≠i1->c≠i2->s.heap.get? c=some o->h'.get? c=some o)->Q (some (.ref s.heap.objs.size)) { s with heap:=h',toks:=tk }):p9 (x8 prog w) A (aM9 (.ref z)) Q E s:=by
 have hT:s.TypeIs (.ref z) "zip":=⟨_,hz,rfl⟩;unfold aM9
 refine b7 (aN2 (S3 (name:=Str.ofString "__next__") hT F.slot_zip_next (Y5 F.slot_zip_next hT F.entry_zip_next ?_ (F.args_zip_next_1 _))))
 exact bH5 D D1 D2 hz hTI hTO st1 st2 hk1 hk2 fun x y h' tk a0 a1 a2 a3 a4 a5 a6 a7 a8=>d4 (hQ x y h' tk a0 a1 a2 a3 a4 a5 a6 a7 a8)
theorem bH4 {Q:Option Value->Shared->Prop}{a b:Value}(D:ZAp z TI TO i1 i2 f1 f2)(D1:Draws prog w A.in1 i1 f1 n1 P1 S1)(hz:bd0 s.heap z TI TO .none)(hTI:ae4 s.heap TI (.ref i1) (.ref i2))(hTO:ae4 s.heap TO a b)(st1:S1 n1 s.heap)
  (hQ:∀ h',(∀ c o,c≠z->c≠TO->c≠i1->c≠i2->s.heap.get? c=some o->h'.get? c=some o)->Q none { s with heap:=h' }):p9 (x8 prog w) A (aM9 (.ref z)) Q E s:=by
 have hT:s.TypeIs (.ref z) "zip":=⟨_,hz,rfl⟩;unfold aM9
 refine b7 (aN2 (S3 (name:=Str.ofString "__next__") hT F.slot_zip_next (Y5 F.slot_zip_next hT F.entry_zip_next (bU4 D D1 hz hTI hTO st1 fun h' e hk he=>?_) (F.args_zip_next_1 _))))
 obtain⟨o,ho,hc⟩:=he
 exact b7 (wpAny_isInstance (T:="StopIteration") (b:=true) ⟨o,ho,hc⟩ isSubtype_stop (d4 (hQ _ hk)))
end
abbrev zA (h:Heap)(p:Addr):Heap:=h.push { cls:=.type "list_iterator",data:=.fields #[.ref p,.int 0 0] }
section
variable {σ:St}
theorem bN9 {o:Obj}(I:Inv X pins σ H s)(f:S6 X pins H c)(lk:X.K.lookup a=some o):a≠c:=fun z=>by
 have e:=I.ok.mod.kin a o lk
 rw[z]at e
 rcases f.2.2.2.1 with h | h
 ·exact I.ok.noex c o e h
 ·exact absurd (p7 (d6 e) (A8 I.ok.bsz h)) (C7 _)
theorem br1 (I:Inv X pins σ H s)(f:S6 X pins H c)(q:SqL X.K H a xs):a≠c:=by
 rcases q with(q | ⟨o,q⟩) | ⟨o,its,n,lk,_⟩
 ·exact q0 q f.1
 ·exact q0 q f.1
 ·exact bN9 I f lk
theorem Inv.tupled (I:Inv X pins σ H s)(hf:∀ b∈fp,S6 X pins H b)(kp:∀ b o,b∉fp->s.heap.get? b=some o->h'.get? b=some o)
  (ht:h'.get? s.heap.objs.size=some { cls:=.type "tuple",data:=.seq its.toArray })(rv:D3 xs its)(hl:xs.length<=j8):Inv X pins σ (upd H s.heap.objs.size (.tup xs)) { s with heap:=h',toks:=t' }:=by
 have hT:H s.heap.objs.size=none:=I.hok.fresh (c8 _)
 have nH:∀ b o,H b=some o->b∉fp:=fun b o q hb=>by rw[(hf b hb).1]at q;cases q
 have keepH:∀ b o,H b=some o->upd H s.heap.objs.size (.tup xs) b=some o:=fun b o q=>by rw[q8 (q0 q hT)];exact q
 have hok2:HOk X.prog X.w (upd H s.heap.objs.size (.tup xs)) h':=fun b o eb=>by
  by_cases hb:b=s.heap.objs.size
  ·subst hb
   rw[c6]at eb
   cases eb
   exact⟨hl,its,rv,⟨_,ht,rfl,_,rfl⟩⟩
  ·rw[q8 hb]at eb
   refine(I.hok b o eb).stay (fun c v hcc q=>kp c v ?_ q) (fun c q=>keepH c _ q) fun c ys q=>keepH c _ q
   rcases hcc with z | z
   ·exact nH c o (by rw[z];exact eb)
   ·exact nH c _ z
 refine I.step (g':=s.gens) (d':=s.drawn) (t':=t') (ch:=fp) (fun b hb=>?_) (fun b o _ _ hcc q _=>kp b o hcc q) (fun b o _ _ hcc q _=>⟨o.slots,kp b o hcc q⟩) (fun b o _ q n=>?_) (fun b o hcc q=>⟨o,kp b o hcc q⟩) (fun b ys q=>keepH b _ q) (fun b o v q=>keepH b _ q) (fun b ps q=>⟨#[],by rw[keepH b _ q];simp⟩) (fun m hm=>?_) hok2 I.bare
 ·obtain⟨f0,f1,f2,f3,f4,f5⟩:=hf b hb
  exact⟨f3,f1,f4,f5⟩
 ·rw[q8 (l6 (d6 q))]
  exact n
 ·obtain⟨o,es,ep,ho,r⟩:=hm
  exact⟨o,es,ep,kp _ o (fun hb=>(hf _ hb).2.1 rfl) ho,r⟩
theorem Inv.turns (I:Inv X pins σ H s)(hf:∀ b∈fp,S6 X pins H b)(kp:∀ b o,b∉fp->s.heap.get? b=some o->h'.get? b=some o):Inv X pins σ H { s with heap:=h',toks:=t' }:=by
 have nH:∀ b o,H b=some o->b∉fp:=fun b o q hb=>by rw[(hf b hb).1]at q;cases q
 refine I.step (g':=s.gens) (d':=s.drawn) (t':=t') (ch:=fp) (fun b hb=>?_) (fun b o _ _ hcc q _=>kp b o hcc q) (fun b o _ _ hcc q _=>⟨o.slots,kp b o hcc q⟩) (fun b o _ q n=>n) (fun b o hcc q=>⟨o,kp b o hcc q⟩) (fun b ys q=>q) (fun b o v q=>q) (fun b ps q=>⟨#[],by rw[q];simp⟩) (fun m hm=>?_) (fun b o eb=>?_) I.bare
 ·obtain⟨f0,f1,f2,f3,f4,f5⟩:=hf b hb
  exact⟨f3,f1,f4,f5⟩
 ·obtain⟨o,es,ep,ho,r⟩:=hm
  exact⟨o,es,ep,kp _ o (fun hb=>(hf _ hb).2.1 rfl) ho,r⟩
 ·refine(I.hok b o eb).stay (fun c v hcc q=>kp c v ?_ q) (fun c q=>q) fun c ys q=>q
  rcases hcc with z | z
  ·exact nH c o (by rw[z];exact eb)
  ·exact nH c _ z
end
theorem nd5 (n:Nat):[n+4,n+2,n+3,n,n+1].Nodup:=by
 simp only[E6,d8,O4,or_false,not_or,bi6,not_false_eq_true,and_true]
 omega
theorem cm2 {k:Nat}(h:k∈[n+4,n+2,n+3,n,n+1]):n<=k:=by
 simp only[d8,O4,or_false]at h
 omega
theorem bm9 (bt:Nat->Nat->Bool):∀ n:Nat,aj8 bt n<=n
 | 0=>c8 _
 | n+1=>by
  unfold aj8
  have:=bm9 bt n
  split<;>omega
theorem bn0 (f:Nat->Int):∀ (n j:Nat),j<=n->f j<=f (aj8 (fun i j=>decide (f i > f j)) n)
 | 0,j,h=>by rw[Nat.le_zero.mp h];exact E2 _
 | n+1,j,h=>by
  unfold aj8
  have ih:=bn0 f n
  by_cases hb:f (n+1) > f (aj8 (fun i j=>decide (f i > f j)) n)
  ·rw[if_pos (decide_eq_true hb)]
   rcases B3 j (n+1) with l | l
   ·have:=ih j (by omega);omega
   ·rw[show j=n+1 by omega];exact E2 _
  ·rw[if_neg (fun z=>hb (of_decide_eq_true z))]
   rcases B3 j (n+1) with l | l
   ·exact ih j (by omega)
   ·rw[show j=n+1 by omega];omega
theorem at7:(toString "max"++toString ".loop":String)="max.loop":=by decide
section
variable {R:Result->Shared->Prop} {I:Addr} {wr:List Addr} {P:Nat->Value->Prop} {St:Nat->Heap->Prop} {d:Value}
theorem bz2 (W:Walks prog w A.in1 I fp wr n P St)(bt:Nat->Nat->Bool)(hcmp:CmpOf prog w A.in1 .Gt P bt)(S:Addr)(hSf:S∉fp):∀ (k j:Nat) (s:Shared) (vb:Value) (c:Nat),n - (j+1)=k->j+1<=n->St (j+1) s.heap->P (aj8 bt j) vb ->
  s.heap.get? S=some { cls:=.type "list",dict:=none,data:=.seq #[vb,vb] c,slots:=#[] }->(∀ v h' tk,P (aj8 bt (n - 1)) v->(∀ b o,b∉wr->b≠S->s.heap.get? b=some o->h'.get? b=some o)->R (.ok (.ret v)) { s with heap:=h',toks:=tk }) ->
  ar9 (x8 prog w) A (.builtin "max.loop" ⟨[.ref I,.none,.ref S],[("default",d)]⟩) R s:=by
 have hSw:S∉wr:=(fun h=>hSf (W.sub _ h));intro k
 induction k with
 | zero =>
  intro j s vb c hk hj hst hPb hS hR;have hin:j+1=n:=by omega
  refine O1 F.entry_max_loop ?_;rw[Around.under_plainId F.plain_max_loop _];show p9 _ A.in1 (bo5 (.ref S) >>= _) _ _ s
  refine b7 (J1 hS rfl ?_);show p9 _ A.in1 (tryCatch (aM9 (.ref I)) _ >>= _) _ _ s
  refine b7 (ao8 (W.done s _ _ (hin ▸ hst) fun h' tk hk'=>?_));have hS':=hk' S _ hSw hS
  show p9 _ A.in1 (updateSeq S (fun _=>#[]) >>= _) _ _ _;refine b7 ?_
  refine bo6 hS' rfl (b7 (aj7 (d4 ?_)));exact hR vb _ tk (by rw[<- hin];exact hPb) fun b o hbw hbS e=>(B8 _ _ (Ne.symm hbS)).trans (hk' b o hbw e)
 | succ k ih =>
  intro j s vb c hk hj hst hPb hS hR;have hlt:j+1<n:=by omega
  refine O1 F.entry_max_loop ?_;rw[Around.under_plainId F.plain_max_loop _];show p9 _ A.in1 (bo5 (.ref S) >>= _) _ _ s
  refine b7 (J1 hS rfl ?_);show p9 _ A.in1 (tryCatch (aM9 (.ref I)) _ >>= _) _ _ s
  refine b7 (ao8 (W.item (j+1) s _ _ hlt hst fun v h' tk hP hst' hk'=>?_));have hS':=hk' S _ hSw hS
  show p9 _ A.in1 (tryCatch (aI5 [v,v] (richCompare .Gt v vb >>= _)) _ >>= _) _ _ _;refine b7 (ao8 (C9 (b7 (hcmp (j+1) (aj8 bt j) v vb _ _ _ hP hPb ?_))))
  refine b7 (C9 (N7 ?_));refine b7 (aj7 (d4 ?_))
  cases hb:bt (j+1) (aj8 bt j) with
  | true =>
   simp only[if_true];refine b7 ?_
   refine bo6 hS' rfl (b7 (aj7 ?_));rw[at7]
   refine d4 ⟨ah1 F.plain_max_loop _,ih (j+1) _ v _ (by omega) hlt (W.frame _ _ _ hst' fun b hbf o e=>?_) (by simp only[aj8,hb,if_true];exact hP) (U0 _ hS' rfl) fun v' h'' tk'' hP' hk''=>?_⟩
   ·exact((B8 _ _ (fun h:S=b=>hSf (by rw[h];exact hbf))).trans e)
   ·exact(hR v' h'' tk'' hP' fun b o hbw hbS e=>hk'' b o hbw hbS ((B8 _ _ (Ne.symm hbS)).trans (hk' b o hbw e)))
  | false =>
   simp only[m7,if_false];refine b7 (aj7 ?_);rw[at7]
   refine d4 ⟨ah1 F.plain_max_loop _,ih (j+1) _ vb c (by omega) hlt hst' (by simp only[aj8,hb,m7,if_false];exact hPb) hS' fun v' h'' tk'' hP' hk''=>?_⟩;exact hR v' h'' tk'' hP' fun b o hbw hbS e=>hk'' b o hbw hbS (hk' b o hbw e)
theorem bq0 (W:Walks prog w A.in1 I fp wr n P St)(bt:Nat->Nat->Bool)(hcmp:CmpOf prog w A.in1 .Gt P bt)(S:Addr)(hSf:S∉fp){c:Nat}(hst:St 0 s.heap)(hS:s.heap.get? S=some { cls:=.type "list",dict:=none,data:=.seq #[] c,slots:=#[] })
  (h0:n=0->∀ h' tk,(∀ b o,b∉wr->b≠S->s.heap.get? b=some o->h'.get? b=some o)->R (.ok (.ret d)) { s with heap:=h',toks:=tk })
  (hR:0<n->∀ v h' tk,P (aj8 bt (n - 1)) v->(∀ b o,b∉wr->b≠S->s.heap.get? b=some o->h'.get? b=some o)->R (.ok (.ret v)) { s with heap:=h',toks:=tk }) :
  ar9 (x8 prog w) A (.builtin "max.loop" ⟨[.ref I,.none,.ref S],[("default",d)]⟩) R s:=by
 have hSw:S∉wr:=(fun h=>hSf (W.sub _ h))
 refine O1 F.entry_max_loop ?_;rw[Around.under_plainId F.plain_max_loop _];show p9 _ A.in1 (bo5 (.ref S) >>= _) _ _ s
 refine b7 (J1 hS rfl ?_);show p9 _ A.in1 (tryCatch (aM9 (.ref I)) _ >>= _) _ _ s
 by_cases hn:0<n
 ·refine b7 (ao8 (W.item 0 s _ _ hn hst fun v h' tk hP hst' hk'=>?_));have hS':=hk' S _ hSw hS
  show p9 _ A.in1 (updateSeq S (fun _=>#[v,v]) >>= _) _ _ _;refine b7 ?_
  refine bo6 hS' rfl ?_;rw[at7]
  refine d4 ⟨ah1 F.plain_max_loop _,bz2 W bt hcmp S hSf _ 0 _ v _ rfl hn (W.frame _ _ _ hst' fun b hbf o e=>?_) hP (U0 _ hS' rfl) fun v' h'' tk'' hP' hk''=>?_⟩
  ·exact((B8 _ _ (fun h:S=b=>hSf (by rw[h];exact hbf))).trans e)
  ·exact(hR hn v' h'' tk'' hP' fun b o hbw hbS e=>hk'' b o hbw hbS ((B8 _ _ (Ne.symm hbS)).trans (hk' b o hbw e)))
 ·have hz:n=0:=by omega
  refine b7 (ao8 (W.done s _ _ (by rw[hz];exact hst) fun h' tk hk'=>?_))
  refine b7 (aq4 ?_)
  exact d4 (h0 hz h' tk fun b o hbw _ e=>hk' b o hbw e)
end
theorem bs6 (a v:Value):argsOk "max" ⟨[a],[(Str.ofString "default",v)]⟩:=by unfold argsOk;kernel_rfl
theorem max_def {σ:St}{p:Addr}{d:Value}(hc:X.calm=true)(I:Inv X pins σ H s)(hq:SqL X.K H p (ns.map V.int))
  (h0:ns=[]->∀ s',Inv X pins σ H s'->Q d s')(h1:∀ (m:Int) (t:Tok) (s':Shared),m∈ns->(∀ x∈ns,x<=m)->Inv X pins σ H s'->Q (.int m t) s'):p9 (x8 X.prog X.w) X.A (call (.builtin "max") [.ref p] [(Str.ofString "default",d)]) Q E s:=by
 obtain⟨its,r',pl,hz⟩:=I.list hq
 have hlen:its.length=ns.length:=by rw[<- r'.length,b8]
 have hi:R0 its ns:=intsAre_of r'
 obtain⟨ys,e⟩:=hi.allInts.items
 have hT:s.heap.IsList p (as0 ys):=by rw[<- e];exact pl.isList
 have hsz:(as0 ys).size=ns.length:=by rw[<- e,d7,hlen]
 have hnum:∀ j,j<ns.length->numAt ys j=ns.getD j 0:=fun j hj=>by
  have hx:(ns.map V.int)[j]?=some (.int (ns.getD j 0)):=by simp[hj]
  obtain⟨v,hv,t,rfl⟩:=r'.get hx
  have hv':(as0 ys)[j]?=some (.int (ns.getD j 0) t):=by rw[<- e];simpa using hv
  obtain⟨t',ht'⟩:=ce3 hv'
  injection ht' with h1 _
  exact h1.symm
 have hpl:p<s.heap.objs.size:=by
  obtain⟨o,ho,_⟩:=hT
  exact d6 ho
 refine kmk_tree PySem.F.kind_max PySem.F.plain_max PySem.F.entry_max (bs6 _ _) ?_;show p9 _ X.A.in1 (Builtin.Builtins.bindParams "max" ["key","default"] 0 ⟨[],[(Str.ofString "default",d)]⟩ >>= _) _ _ s
 refine b7 (aI7 (show Builtin.Builtins.bindParams "max" ["key","default"] 0 ⟨[],[(Str.ofString "default",d)]⟩=pure [none,some d] from rfl) ?_);refine b7 (d4 ?_)
 refine b7 (Q8 hT ?_);refine b7 (V1 ?_ (v9 _));rw[at7]
 have hS:(s.heap.push { cls:=.type "list_iterator",data:=.fields #[.ref p,.int 0 0] }).objs.size=s.heap.objs.size+1:=G0 ..
 have old:∀ c o,s.heap.get? c=some o->((s.heap.push { cls:=.type "list_iterator",data:=.fields #[.ref p,.int 0 0] }).push (J4 "list" #[] 0)).get? c=some o:=fun c o e=>c5 _ (c5 _ e)
 refine d4 ⟨ah1 PySem.F.plain_max_loop _,bq0 (Walks.list (A:=X.A.in1) (I.ok.hd hc) s.heap.objs.size p (l6 hpl) (as0 ys)) _ (CmpOf.ints_gt (numAt ys) (fun _ _=>ce3)) _ (fun hm=>?_) ⟨⟨_,c5 _ (l5 _ rfl),rfl,rfl⟩,(hT.push _).push _⟩ (l5 _ rfl) (fun hn h' tk hk=>?_) fun hn v h' tk hP hk=>?_⟩
 ·rw[hS]at hm
  rcases d8.mp hm with e1 | hm
  ·exact absurd e1 (L0 (aT6 _))
  ·rcases d8.mp hm with e1 | hm
   ·exact absurd e1 (L0 (E1 hpl))
   ·cases hm
 ·have hold:∀ c o,s.heap.get? c=some o->h'.get? c=some o:=fun c o e=>hk c o (fun hm=>by
   rcases d8.mp hm with e1 | hm
   ·exact absurd (d6 e) (by rw[e1];exact C7 _)
   ·cases hm) (by rw[hS];exact l6 (E1 (d6 e))) (old c o e)
  exact h0 (ap4.mp (by omega)) _ (I.kept (t':=tk) hold)
 ·have hold:∀ c o,s.heap.get? c=some o->h'.get? c=some o:=fun c o e=>hk c o (fun hm=>by
   rcases d8.mp hm with e1 | hm
   ·exact absurd (d6 e) (by rw[e1];exact C7 _)
   ·cases hm) (by rw[hS];exact l6 (E1 (d6 e))) (old c o e)
  obtain⟨t,rfl⟩:=ce3 hP
  have hb:=bm9 (fun i j=>decide (numAt ys i > numAt ys j)) ((as0 ys).size - 1)
  have hbl:aj8 (fun i j=>decide (numAt ys i > numAt ys j)) ((as0 ys).size - 1)<ns.length:=by rw[hsz]at hb ⊢;omega
  refine h1 _ t _ ?_ (fun x hx=>?_) (I.kept (t':=tk) hold)
  ·rw[hnum _ hbl,i8,k9 hbl]
   exact aT2 hbl
  ·obtain⟨j,hj,rfl⟩:=bG4.mp hx
   have:=bn0 (numAt ys) ((as0 ys).size - 1) j (by rw[hsz];omega)
   rw[hnum j hj,i8,k9 hj]at this
   exact this
theorem bb5 {it:Addr}{P:Nat->Value->Prop}{St:Nat->Heap->Prop}(D:Draws prog w A it fp n P St)(k:Nat):Draws prog w A it fp (k+n) (fun j x=>∃ i,j=k+i/\P i x) (fun j h=>∃ i,j=k+i/\St i h) where
 live:=fun j h ⟨i,_,st⟩=>D.live i h st
 frame:=fun j h h' ⟨i,e,st⟩ kp=>⟨i,e,D.frame i h h' st kp⟩
 item:=fun j s Q E hj ⟨i,e,st⟩ hQ=>D.item i s Q E (by omega) st fun x h' tk p st' sb=>hQ x h' tk ⟨i,e,p⟩ ⟨i+1,by omega,st'⟩ sb
 done:=fun s Q E ⟨i,e,st⟩ hE=>by
  obtain rfl:i=n:=by omega
  exact D.done s Q E st hE
def Itk (K:W.Frag)(a:Addr)(k0:Nat):It:=
 ⟨fun i H=>∃ xs x,SqL K H a xs/\xs[i]?=some x,fun i H x H'=>∃ t v,H t=none/\x=.ref t/\(∀ xs,SqL K H a xs->xs[i]?=some v)/\H'=upd H t (.tup [.int ((k0+i:Nat):Int),v]),fun i H=>∃ xs,SqL K H a xs/\xs.length=i⟩
theorem bd6 {K:W.Frag}{x1:Nat}(k0:Nat)(a it e:Addr)(hne:e≠it):Turn P w K (.Tuple elts x1 pos) (Itk K a k0) [e,it] e (fun i h=>(∃ old,bU2 h e it ((k0+i:Nat):Int) old)/\h.IsListIter it a i) where
 mem:=by simp
 obj:=fun i h st b hb=>by
  obtain⟨⟨old,he⟩,o,ho,hc,hd⟩:=st
  rcases d8.mp hb with rfl | hb
  ·exact⟨_,he,fun v z=>by cases z⟩
  ·have eb:b=it:=by simpa using hb
   subst eb
   exact⟨o,ho,fun v z=>by rw[hd]at z;cases z⟩
 keep:=fun i h h' st k=>by
  obtain⟨⟨old,he⟩,hit⟩:=st
  exact⟨⟨old,k e (by simp) _ he⟩,hit.at fun o q=>k it (by simp) o q⟩
 item:=by
  intro X hP hw hK hc i pins s σ H E I hf st hg
  subst hP hw hK
  obtain⟨xs,x,hq,hx⟩:=hg
  obtain⟨⟨old,he⟩,hit⟩:=st
  obtain⟨its,rv,p,hz⟩:=I.list hq
  obtain⟨u,hu,ru⟩:=rv.get hx
  obtain⟨f0,f1,f2,f3,f4,f5⟩:=hf e (by simp)
  obtain⟨g0,g1,g2,g3,g4,g5⟩:=hf it (by simp)
  have ha:a≠it:=br1 I (hf it (by simp)) hq
  have hae:a≠e:=br1 I (hf e (by simp)) hq
  have hlt0:i<its.toArray.size:=by
   rw[d7]
   rcases B3 i its.length with z | z
   ·exact z
   ·rw[o6 z]at hu;cases hu
  refine bH1 (i:=k0+i) (bb5 (Draws.list (A:=X.A.in1) (I.ok.hd hc) it a ha its.toArray) k0) he ⟨i,rfl,hit,p.isList⟩ (by omega) hne (by simp only[d8,R8,or_false,not_or];exact⟨hne,Ne.symm hae⟩) fun u' h1 tk hP heo hit1' ht1 hz1 hk1=>?_
  obtain⟨i',ei,hP⟩:=hP
  obtain rfl:i'=i:=by omega
  obtain rfl:u'=u:=by
   have hu':its.toArray[i']?=some u:=by simpa using hu
   rw[hu']at hP
   exact(Option.some.inj hP).symm
  obtain⟨i2,ei2,hit1,_⟩:=hit1'
  obtain rfl:i2=i'+1:=by omega
  refine⟨_,rfl,?_⟩
  refine al0 heo fun h2 he2 hs2=>?_
  have hlt:e<s.heap.objs.size:=d6 he
  have hs2':Heap.SameBut e h1 h2:=hs2
  have ht2:h2.get? s.heap.objs.size=some { cls:=.type "tuple",data:=.seq #[.int ((k0+i':Nat):Int) tk,u'] }:=(hs2'.2 _ (L0 hlt)).trans ht1
  have kp:∀ b o,b≠e->b≠it->s.heap.get? b=some o->h2.get? b=some o:=fun b o h1' h2' q=>(hs2'.2 b h1').trans (hk1 b o h1' h2' q)
  have hT:H s.heap.objs.size=none:=I.hok.fresh (c8 _)
  have nH:∀ b,H b≠none->b≠e/\b≠it:=fun b hb=>⟨fun z=>hb (z ▸ f0),fun z=>hb (z ▸ g0)⟩
  have keepH:∀ b o,H b=some o->upd H s.heap.objs.size (.tup [.int ((k0+i':Nat):Int),x]) b=some o:=fun b o q=>by rw[q8 (q0 q hT)];exact q
  have hok2:HOk X.prog X.w (upd H s.heap.objs.size (.tup [.int ((k0+i':Nat):Int),x])) h2:=fun b o eb=>by
   by_cases hb:b=s.heap.objs.size
   ·subst hb
    rw[c6]at eb
    cases eb
    exact⟨by show 2<=j8;decide,[.int ((k0+i':Nat):Int) tk,u'],.cons ⟨_,rfl⟩ (.cons ru .nil),⟨_,ht2,rfl,_,rfl⟩⟩
   ·rw[q8 hb]at eb
    refine(I.hok b o eb).stay (fun c v hcc q=>kp c v ?_ ?_ q) (fun c q=>keepH c _ q) fun c ys q=>keepH c _ q
    ·rcases hcc with z | z
     ·exact(nH c (by rw[z,eb];simp)).1
     ·exact(nH c (by rw[z];simp)).1
    ·rcases hcc with z | z
     ·exact(nH c (by rw[z,eb];simp)).2
     ·exact(nH c (by rw[z];simp)).2
  have I2:Inv X pins σ (upd H s.heap.objs.size (.tup [.int ((k0+i':Nat):Int),x])) { s with heap:=h2,toks:=tk+1 }:=by
   refine I.step (g':=s.gens) (d':=s.drawn) (t':=tk+1) (ch:=[e,it]) (fun b hb=>?_) (fun b o _ _ hcc q _=>kp b o (fun z=>hcc (by simp[z])) (fun z=>hcc (by simp[z])) q) (fun b o _ _ hcc q _=>⟨o.slots,kp b o (fun z=>hcc (by simp[z])) (fun z=>hcc (by simp[z])) q⟩) (fun b o _ q n=>?_)
    (fun b o hcc q=>⟨o,kp b o (fun z=>hcc (by simp[z])) (fun z=>hcc (by simp[z])) q⟩) (fun b ys q=>keepH b _ q) (fun b o v q=>keepH b _ q) (fun b ps q=>⟨#[],by rw[keepH b _ q];simp⟩) (fun m hm=>?_) hok2 I.bare
   ·rcases d8.mp hb with rfl | hb
    ·exact⟨f3,f1,f4,f5⟩
    ·have eb:b=it:=by simpa using hb
     subst eb
     exact⟨g3,g1,g4,g5⟩
   ·rw[q8 (l6 (d6 q))]
    exact n
   ·obtain⟨o,es,ep,ho,r⟩:=hm
    exact⟨o,es,ep,kp _ o (Ne.symm f1) (Ne.symm g1) ho,r⟩
  have hilt:it<s.heap.objs.size:=by
   obtain⟨o,ho,_⟩:=id hit
   exact d6 ho
  refine⟨.ref s.heap.objs.size,_,I2,rfl,⟨s.heap.objs.size,x,hT,rfl,fun ys hy=>by rw[I.list_inj hy hq];exact hx,rfl⟩,⟨⟨u',?_⟩,?_⟩,fun b hb=>?_⟩
  ·have:=he2
   rw[show (((k0+i':Nat):Int)+1)=(((k0+(i'+1):Nat):Int)) by omega]at this
   exact this
  ·exact hit1.at fun o q=>(hs2'.2 it (Ne.symm hne)).trans q
  ·rcases d8.mp hb with rfl | hb
   ·rw[q8 (l6 hlt)];exact f0
   ·have eb:b=it:=by simpa using hb
    subst eb
    rw[q8 (l6 hilt)]
    exact g0
 done:=by
  intro X hP hw hK hc i pins s σ H E I hf st hg
  subst hP hw hK
  obtain⟨xs,hq,hx⟩:=hg
  obtain⟨⟨old,he⟩,hit⟩:=st
  obtain⟨its,rv,p,hz⟩:=I.list hq
  obtain⟨g0,g1,g2,g3,g4,g5⟩:=hf it (by simp)
  have hl:=rv.length
  have ha:a≠it:=br1 I (hf it (by simp)) hq
  have ei:i=its.toArray.size:=by rw[d7];omega
  exact bQ1 (bb5 (Draws.list (A:=X.A.in1) (I.ok.hd hc) it a ha its.toArray) k0) he ⟨its.toArray.size,rfl,ei ▸ hit,p.isList⟩ fun h' eb=>⟨rfl,I.turned (t':=s.toks) (fun b o hb q=>eb b o hb q) g0 g1 g3 g4 g5⟩
 self:=fun _ _ _ _ _ st h=>by
  obtain⟨⟨old,he⟩,_⟩:=st
  exact V4 he h
def cb0 (K:W.Frag)(ta:TA)(tb:TE):TI:=fun σ H R=>ta σ H fun vs H1=>aC7 tb bd7 σ H1 fun zs H2=>∃ (c:Addr) (k:Nat),vs=[.ref c]/\zs=[.int k]/\k<1000/\(∃ xs,SqL K H2 c xs)/\R (Itk K c k) H2
theorem bx8 {a b:Expr}{ta:TA}{tb:TE}{x1:Nat}{tpos p kpos:Pos}(hg:Gl X "enumerate")(hm:X.mg "enumerate"=none)(ha:PA X [a] ta)(hb:PE X b tb)
  (hs:N6 pos (u4 [a] X.env)=(false,eval a X.env)::N6 pos (u4 [] X.env):=by rfl)(hpl:(N6 pos (u4 [a] X.env)).any (·.1)=false:=by rfl) :
  PI X (.Tuple elts x1 tpos) (.Call (.Name "enumerate" p) [a] [⟨some "start",b,kpos⟩] pos) (cb0 X.K ta tb):=by
 intro pins s σ H R I h
 refine J3 (Z8 I hg hm (show L5 "enumerate"=some (.type "enumerate") from rfl) ?_ (by decide) (by decide))
 refine bD2 (thn (ha pos pins s σ H _ I h) fun us s1 ⟨vs,H1,I1,r1,q1⟩=>?_) hs hpl rfl rfl
 have hk:PK X [⟨some "start",b,kpos⟩] (aC7 tb bd7):=aA8 hb aP9
 refine thn (hk pos pins s1 σ H1 (fun zs H2=>∃ (c:Addr) (k:Nat),vs=[.ref c]/\zs=[.int k]/\k<1000/\(∃ xs,SqL X.K H2 c xs)/\R (Itk X.K c k) H2) I1 q1) fun ws s2 ⟨zs,H2,I2,r2,c,k,ev,ez,hk',⟨xs,hq⟩,q⟩=>?_
 subst ev ez
 obtain⟨w,rfl,rw⟩:=vals1 r2
 obtain⟨u,rfl,ru⟩:=vals1 r1
 obtain⟨t,rfl⟩:=rw
 cases ru
 obtain⟨its,rv,pl,hz⟩:=I2.list hq
 refine bC6 (k:=(k:Int)) (t:=t) ?_ pl.isList fun h' he hit hsz kp=>?_
 ·unfold Builtin.SmallTypes.fitsIndex
  simp only[B4,decide_eq_true_eq]
  exact⟨Y4 (show (-(2 ^ 63):Int)<=0 by decide) (cc7 k),Int.lt_trans (show (k:Int)<1000 by omega) (by decide)⟩
 refine V4 he ?_
 have hne:s2.heap.objs.size+1≠s2.heap.objs.size:=aT7 _
 refine⟨s2.heap.objs.size+1,[s2.heap.objs.size+1,s2.heap.objs.size],_,_,H2,rfl,I2.kept (t':=s2.toks) kp,bd6 k c s2.heap.objs.size (s2.heap.objs.size+1) hne,⟨⟨_,he⟩,hit⟩,fun d hd=>?_,q⟩
 rcases d8.mp hd with rfl | hd
 ·exact I2.fpOk (P3 _) (I2.hok.fresh (P3 _))
 ·have e:d=s2.heap.objs.size:=by simpa using hd
  subst e
  exact I2.fpOk (c8 _) (I2.hok.fresh (c8 _))
theorem bh4 {K:W.Frag}{D:Addr}{k0:Nat}{g:TG}{tt:TT}{σ0:St}{H0:Hp}(Pv:Nat->List V->St->Hp->Prop)(h0:Pv 0 [] σ0 H0)(hz:ys.length<=j8)(hl:∀ i xs σ H,i<=ys.length->Pv i xs σ H->SqL K H a ys/\H D=some (.lst xs)/\xs.length<=i)
  (hs:∀ i xs x t σ H (N:List V->St->Hp->Prop),(∀ xs' σ' H',Pv (i+1) xs' σ' H'->N xs' σ' H')->ys[i]?=some x->Pv i xs σ H->H t=none->g (.ref t) σ (upd H t (.tup [.int ((k0+i:Nat):Int),x])) fun σ2 H2=>tt σ2 H2 fun b H3=>if b=true then te σ2 H3 fun v H4=>H4 D=some (.lst xs)/\N (xs++[v]) σ2 (upd H4 D (.lst (xs++[v]))) else N xs σ2 H3)
  (hd:∀ xs σ H,Pv ys.length xs σ H->Qd H) :
  ∃ W:Nat->Nat->List V->St->Hp->Prop,(∃ m,W 0 m [] σ0 H0)/\∀ i m xs σ' H',W i m xs σ' H'->H' D=some (.lst xs)/\(((Itk K a k0).stop i H'/\Qd H')\/((Itk K a k0).go i H'/\xs.length<j8/\∀ x H'',(Itk K a k0).yld i H' x H''->g x σ' H'' fun σ2 H2=>tt σ2 H2 fun b H3 =>
   if b=true then te σ2 H3 fun v H4=>H4 D=some (.lst xs)/\∃ m',m'<m/\W (i+1) m' (xs++[v]) σ2 (upd H4 D (.lst (xs++[v]))) else ∃ m',m'<m/\W (i+1) m' xs σ2 H3)):=by
 refine⟨fun i m xs σ H=>m=ys.length - i/\i<=ys.length/\Pv i xs σ H,⟨ys.length,by simp,v9 _,h0⟩,?_⟩
 rintro i m xs σ H ⟨rfl,hi,p⟩
 obtain⟨q,hD,hx⟩:=hl i xs σ H hi p
 refine⟨hD,?_⟩
 by_cases hlt:i<ys.length
 ·refine .inr ⟨⟨ys,ys[i],q,by simp[hlt]⟩,by omega,fun x H'' y=>?_⟩
  obtain⟨t,v,ht,e,hv,e'⟩:=y
  subst e e'
  exact hs i xs v t σ _ (fun zs σ' H'=>∃ m',m'<ys.length - i/\m'=ys.length - (i+1)/\i+1<=ys.length/\Pv (i+1) zs σ' H') (fun zs σ' H' r=>⟨_,by omega,rfl,hlt,r⟩) (hv ys q) p ht
 ·have e:i=ys.length:=by omega
  subst e
  exact .inl ⟨⟨ys,q,rfl⟩,hd xs σ H p⟩
def bF1 (K:W.Frag)(a b:Addr):It:=
 ⟨fun i H=>∃ xs ys x y,SqL K H a xs/\SqL K H b ys/\xs[i]?=some x/\ys[i]?=some y,fun i H x H'=>∃ t u v,H t=none/\x=.ref t/\(∀ xs,SqL K H a xs->xs[i]?=some u)/\(∀ ys,SqL K H b ys->ys[i]?=some v)/\H'=upd H t (.tup [u,v]),fun i H=>∃ xs,SqL K H a xs/\xs.length=i⟩
def ci3 (K:W.Frag)(ta:TA):TI:=fun σ H R=>ta σ H fun vs H1=>∃ a b,vs=[.ref a,.ref b]/\(∃ xs,SqL K H1 a xs)/\(∃ ys,SqL K H1 b ys)/\R (bF1 K a b) H1
theorem bo8 {K:W.Frag}{x1:Nat}(a b z TI TO i1 i2:Addr)(nd:[z,TI,TO,i1,i2].Nodup) :
  Turn P w K (.Tuple elts x1 pos) (bF1 K a b) [z,TI,TO,i1,i2] z (fun i h=>bd0 h z TI TO .none/\ae4 h TI (.ref i1) (.ref i2)/\(∃ x y,ae4 h TO x y)/\h.IsListIter i1 a i/\h.IsListIter i2 b i) where
 mem:=by simp
 obj:=fun i h st c hc=>by
  obtain⟨hz,hTI,⟨x,y,hTO⟩,⟨o1,ho1,hc1,hd1⟩,⟨o2,ho2,hc2,hd2⟩⟩:=st
  simp only[d8,O4,or_false]at hc
  rcases hc with rfl | rfl | rfl | rfl | rfl
  ·exact⟨_,hz,fun v q=>by cases q⟩
  ·exact⟨_,hTI,fun v q=>by cases q⟩
  ·exact⟨_,hTO,fun v q=>by cases q⟩
  ·exact⟨o1,ho1,fun v q=>by rw[hd1]at q;cases q⟩
  ·exact⟨o2,ho2,fun v q=>by rw[hd2]at q;cases q⟩
 keep:=fun i h h' st k=>by
  obtain⟨hz,hTI,⟨x,y,hTO⟩,h1,h2⟩:=st
  exact⟨k z (by simp) _ hz,k TI (by simp) _ hTI,⟨x,y,k TO (by simp) _ hTO⟩,h1.at fun o q=>k i1 (by simp) o q,h2.at fun o q=>k i2 (by simp) o q⟩
 item:=by
  intro X hP hw hK hc i pins s σ H E I hf st hg
  subst hP hw hK
  obtain⟨xs,ys,x,y,q1,q2,hx,hy⟩:=hg
  obtain⟨hz,hTI,⟨o1,o2,hTO⟩,h1,h2⟩:=st
  obtain⟨its,rv,pl,hzl⟩:=I.list q1
  obtain⟨jts,rw',pt,hzt⟩:=I.list q2
  obtain⟨u,hu,ru⟩:=rv.get hx
  obtain⟨v,hv,rv'⟩:=rw'.get hy
  have fa:∀ c∈[z,TI,TO,i1,i2],a≠c:=fun c hc=>br1 I (hf c hc) q1
  have fb:∀ c∈[z,TI,TO,i1,i2],b≠c:=fun c hc=>br1 I (hf c hc) q2
  have hl1:s.heap.IsList a its.toArray:=pl.isList
  have hl2:s.heap.IsList b jts.toArray:=pt.isList
  have ui:its.toArray[i]?=some u:=by simpa using hu
  have vi:jts.toArray[i]?=some v:=by simpa using hv
  have lt1:i<its.toArray.size:=by
   rcases B3 i its.toArray.size with h | h
   ·exact h
   ·rw[aq1 h]at ui;cases ui
  have lt2:i<jts.toArray.size:=by
   rcases B3 i jts.toArray.size with h | h
   ·exact h
   ·rw[aq1 h]at vi;cases vi
  simp only[E6,d8,O4,or_false,not_or]at nd
  obtain⟨⟨n1,n2,n3,n4⟩,⟨n5,n6,n7⟩,⟨n8,n9⟩,n10,_⟩:=nd
  have ap:ZAp z TI TO i1 i2 [i1,a] [i2,b]:=by
   refine⟨Ne.symm n1,Ne.symm n2,Ne.symm n3,Ne.symm n4,n5,n6,n7,n8,n9,n10,?_,?_,?_,?_,?_,?_⟩
   ·simp[n3,Ne.symm (fa z (by simp))]
   ·simp[n4,Ne.symm (fb z (by simp))]
   ·simp[n8,Ne.symm (fa TO (by simp))]
   ·simp[n9,Ne.symm (fb TO (by simp))]
   ·simp[n10,Ne.symm (fb i1 (by simp))]
   ·simp[Ne.symm n10,Ne.symm (fa i2 (by simp))]
  refine bH3 (k:=i) ap (Draws.list (A:=X.A.in1) (I.ok.hd hc) i1 a (fa i1 (by simp)) its.toArray) (Draws.list (A:=X.A.in1) (I.ok.hd hc) i2 b (fb i2 (by simp)) jts.toArray) hz hTI hTO ⟨h1,hl1⟩ ⟨h2,hl2⟩ lt1 lt2 fun x' y' hA tk px py hzo hTOo st1 st2 hT hsz hk=>?_
  obtain rfl:u=x':=by have:=ui.symm.trans px;cases this;rfl
  obtain rfl:v=y':=by have:=vi.symm.trans py;cases this;rfl
  refine⟨_,rfl,?_⟩
  refine wpAny_letOwnedTupleGo_zip hzo fun hB hzB hsB=>?_
  have hsB':Heap.SameBut z hA hB:=hsB
  have zlt:z<s.heap.objs.size:=d6 hz
  have up:∀ c o,c≠z->hA.get? c=some o->hB.get? c=some o:=fun c o c1 e=>(hsB'.2 c c1).trans e
  have kp:∀ c o,c∉[z,TI,TO,i1,i2]->s.heap.get? c=some o->hB.get? c=some o:=fun c o hc e=>by
   simp only[d8,O4,or_false,not_or]at hc
   exact up c o hc.1 (hk c o hc.1 hc.2.2.1 hc.2.2.2.1 hc.2.2.2.2 e)
  have I2:Inv X pins σ (upd H s.heap.objs.size (.tup [x,y])) { s with heap:=hB,toks:=tk }:=I.tupled (its:=[u,v]) hf kp (up _ _ (L0 zlt) hT) (.cons ru (.cons rv' .nil)) (by show 2<=j8;decide)
  have hTn:H s.heap.objs.size=none:=I.hok.fresh (c8 _)
  refine⟨.ref s.heap.objs.size,_,I2,rfl,⟨s.heap.objs.size,x,y,hTn,rfl,fun zs hq=>by rw[I.list_inj hq q1];exact hx,fun zs hq=>by rw[I.list_inj hq q2];exact hy,rfl⟩,⟨hzB,?_,⟨u,v,up _ _ (Ne.symm n2) hTOo⟩,st1.1.at fun o e=>up i1 o (Ne.symm n3) e,st2.1.at fun o e=>up i2 o (Ne.symm n4) e⟩,fun c hc=>?_⟩
  ·exact up _ _ (Ne.symm n1) (hk _ _ (Ne.symm n1) n5 n6 n7 hTI)
  ·have lt:c<s.heap.objs.size:=by
    simp only[d8,O4,or_false]at hc
    rcases hc with rfl | rfl | rfl | rfl | rfl
    ·exact zlt
    ·exact d6 hTI
    ·exact d6 hTO
    ·obtain⟨o,ho,_⟩:=h1;exact d6 ho
    ·obtain⟨o,ho,_⟩:=h2;exact d6 ho
   rw[q8 (l6 lt)]
   exact(hf c hc).1
 done:=by
  intro X hP hw hK hc i pins s σ H E I hf st hg
  subst hP hw hK
  obtain⟨xs,q1,hx⟩:=hg
  obtain⟨hz,hTI,⟨o1,o2,hTO⟩,h1,h2⟩:=st
  obtain⟨its,rv,pl,hzl⟩:=I.list q1
  have hl:=rv.length
  have fa:∀ c∈[z,TI,TO,i1,i2],a≠c:=fun c hc=>br1 I (hf c hc) q1
  simp only[E6,d8,O4,or_false,not_or]at nd
  obtain⟨⟨n1,n2,n3,n4⟩,⟨n5,n6,n7⟩,⟨n8,n9⟩,n10,_⟩:=nd
  have ap:ZAp z TI TO i1 i2 [i1,a] [i2]:=by
   refine⟨Ne.symm n1,Ne.symm n2,Ne.symm n3,Ne.symm n4,n5,n6,n7,n8,n9,n10,?_,?_,?_,?_,?_,?_⟩
   ·simp[n3,Ne.symm (fa z (by simp))]
   ·simp[n4]
   ·simp[n8,Ne.symm (fa TO (by simp))]
   ·simp[n9]
   ·simp[n10]
   ·simp[Ne.symm n10,Ne.symm (fa i2 (by simp))]
  have ei:i=its.toArray.size:=by rw[d7];omega
  refine bH4 ap (Draws.list (A:=X.A.in1) (I.ok.hd hc) i1 a (fa i1 (by simp)) its.toArray) hz hTI hTO ⟨by rw[<- ei];exact h1,pl.isList⟩ fun h' hk=>⟨rfl,I.turns (t':=s.toks) hf fun c o hc' e=>?_⟩
  simp only[d8,O4,or_false,not_or]at hc'
  exact hk c o hc'.1 hc'.2.2.1 hc'.2.2.2.1 hc'.2.2.2.2 e
 self:=fun _ _ _ _ _ st h=>wpAny_pyIter_zip st.1 h
theorem bK0 {a b:Expr}{ta:TA}{x1:Nat}{tpos p:Pos}(hg:Gl X "zip")(hm:X.mg "zip"=none)(ha:PA X [a,b] ta)(hv:L5 "zip"=some (.type "zip"):=by rfl)(hs:u4 [a,b] X.env=(false,eval a X.env)::u4 [b] X.env:=by rfl)(hpl:(N6 pos (u4 [b] X.env)).any (·.1)=false:=by rfl) :
  PI X (.Tuple elts x1 tpos) (.Call (.Name "zip" p) [a,b] [] pos) (ci3 X.K ta):=by
 intro pins s σ H R I h
 refine Call_ (Z8 I hg hm hv (PyProof.Rows.callWith_type1 (thn (ha pos pins s σ H _ I h) fun us s1 ⟨vs,H1,I1,r1,q1⟩=>?_) hs hpl))
 obtain⟨c,d,e,⟨xs,hq⟩,⟨ys,hq2⟩,q⟩:=q1
 subst e
 obtain⟨u,v,rfl,rx,ry⟩:=vals2 r1
 cases rx
 cases ry
 obtain⟨its,rv,pl,hz⟩:=I1.list hq
 obtain⟨jts,rv2,pt,hz2⟩:=I1.list hq2
 refine call_zip_2 pl.isList pt.isList fun h' gz gTI gTO g1 g2 hsz kp=>?_
 refine wpAny_pyIter_zip gz ?_
 refine⟨s1.heap.objs.size+4,[s1.heap.objs.size+4,s1.heap.objs.size+2,s1.heap.objs.size+3,s1.heap.objs.size,s1.heap.objs.size+1],_,_,H1,rfl,I1.kept (t':=s1.toks) kp,bo8 c d (s1.heap.objs.size+4) (s1.heap.objs.size+2) (s1.heap.objs.size+3) s1.heap.objs.size (s1.heap.objs.size+1) ?_,⟨gz,gTI,⟨_,_,gTO⟩,g1,g2⟩,fun k hk=>?_,q⟩
 ·exact nd5 _
 ·have:=cm2 hk
  exact I1.fpOk this (I1.hok.fresh this)
theorem br7 {K:W.Frag}{b D:Addr}{zs:List V}{g:TG}{tt:TT}{σ0:St}{H0:Hp}(hyz:ys.length=zs.length)(Pv:Nat->List V->St->Hp->Prop)(h0:Pv 0 [] σ0 H0)(hz:ys.length<=j8)(hl:∀ i xs σ H,i<=ys.length->Pv i xs σ H->SqL K H a ys/\SqL K H b zs/\H D=some (.lst xs)/\xs.length<=i)
  (hs:∀ i xs x y t σ H (N:List V->St->Hp->Prop),(∀ xs' σ' H',Pv (i+1) xs' σ' H'->N xs' σ' H')->ys[i]?=some x->zs[i]?=some y->Pv i xs σ H->H t=none->g (.ref t) σ (upd H t (.tup [x,y])) fun σ2 H2=>tt σ2 H2 fun b H3=>if b=true then te σ2 H3 fun v H4=>H4 D=some (.lst xs)/\N (xs++[v]) σ2 (upd H4 D (.lst (xs++[v]))) else N xs σ2 H3)
  (hd:∀ xs σ H,Pv ys.length xs σ H->Qd H) :
  ∃ W:Nat->Nat->List V->St->Hp->Prop,(∃ m,W 0 m [] σ0 H0)/\∀ i m xs σ' H',W i m xs σ' H'->H' D=some (.lst xs)/\(((bF1 K a b).stop i H'/\Qd H')\/((bF1 K a b).go i H'/\xs.length<j8/\∀ x H'',(bF1 K a b).yld i H' x H''->g x σ' H'' fun σ2 H2=>tt σ2 H2 fun b H3 =>
   if b=true then te σ2 H3 fun v H4=>H4 D=some (.lst xs)/\∃ m',m'<m/\W (i+1) m' (xs++[v]) σ2 (upd H4 D (.lst (xs++[v]))) else ∃ m',m'<m/\W (i+1) m' xs σ2 H3)):=by
 refine⟨fun i m xs σ H=>m=ys.length - i/\i<=ys.length/\Pv i xs σ H,⟨ys.length,by simp,v9 _,h0⟩,?_⟩
 rintro i m xs σ H ⟨rfl,hi,p⟩
 obtain⟨q1,q2,hD,hx⟩:=hl i xs σ H hi p
 refine⟨hD,?_⟩
 by_cases hlt:i<ys.length
 ·refine .inr ⟨⟨ys,zs,ys[i],zs[i],q1,q2,by simp[hlt],by simp[hyz ▸ hlt]⟩,by omega,fun x H'' y=>?_⟩
  obtain⟨t,u,v,ht,e,hu,hv,e'⟩:=y
  subst e e'
  exact hs i xs u v t σ _ (fun zs σ' H'=>∃ m',m'<ys.length - i/\m'=ys.length - (i+1)/\i+1<=ys.length/\Pv (i+1) zs σ' H') (fun zs σ' H' r=>⟨_,by omega,rfl,hlt,r⟩) (hu ys q1) (hv zs q2) p ht
 ·obtain rfl:i=ys.length:=by omega
  exact .inl ⟨⟨ys,q1,rfl⟩,hd xs σ H p⟩
end L2
namespace Web
open PySem L2
def cf2 (K:W.Frag)(tr:TA):TE:=fun σ H Q=>tr σ H fun vs H1=>∃ (p:Addr) (ns:List Int),vs=[.ref p]/\SqL K H1 p (ns.map V.int)/\AllP ns/\∀ m:Int,0<=m->(∀ x∈ns,x<=m)->Q (.int m) H1
open PyProof.Rows in
theorem bK2 {np bpos kpos:Pos}{tr:TA}(K:W.Frag)(hK:X.K=K)(hc:X.calm=true)(hg:Gl X "max")(hm:X.mg "max"=none)(ha:PA X [e] tr)
  (hs:N6 pos (u4 [e] X.env)=(false,eval e X.env)::N6 pos (u4 [] X.env):=by rfl)
  (hpl:(N6 pos (u4 [e] X.env)).any (·.1)=false:=by rfl) :
  PE X (.Call (.Name "max" np) [e] [⟨some "default",.Constant (.int 0) j bpos,kpos⟩] pos) (cf2 K tr):=by
 subst hK
 intro pins s σ H Q I h
 refine J3 (Z8 I hg hm (show L5 "max"=some (.builtin "max") from rfl) ?_ (by decide) (by decide))
 refine ce2 (thn (ha pos pins s σ H _ I h) fun us s1 ⟨vs,H1,I1,r1,q1⟩=>?_) hs hpl rfl rfl
 obtain⟨p,ns,rfl,hq,hp,q⟩:=q1
 have hk:PK X [⟨some "default",.Constant (.int 0) j bpos,kpos⟩] (aC7 (tC (.int 0)) bd7):=aA8 i6 aP9
 refine thn (hk pos pins s1 σ H1 (fun zs H2=>zs=[.int 0]/\H2=H1) I1 ⟨rfl,rfl⟩) fun ws s2 ⟨zs,H2,I2,r2,ez,eH⟩=>?_
 subst ez eH
 obtain⟨w,rfl,rw⟩:=vals1 r2
 obtain⟨u,rfl,ru⟩:=vals1 r1
 obtain⟨t,rfl⟩:=rw
 cases ru
 exact max_def hc I2 hq (fun e s' I'=>⟨.int 0,_,I',⟨_,rfl⟩,q 0 (by omega) fun x hx=>by rw[e]at hx;cases hx⟩) fun m t s' a1 a2 I'=>⟨.int m,_,I',⟨t,rfl⟩,q m (by
  obtain⟨i,hi⟩:=p6.mp a1
  exact hp i m hi) a2⟩
theorem cb9 (M L c:Int)(hM:1<=M):(if (if c - L > 0 then c - L else 0)<M then (if c - L > 0 then c - L else 0) else M)=abv M L c:=by
 unfold abv
 by_cases h1:c - L<=0
 ·have e:(if c - L > 0 then c - L else 0)=0:=if_neg (by omega)
  rw[if_pos h1,e,if_pos (show (0:Int)<M by omega)]
 ·have e:(if c - L > 0 then c - L else 0)=c - L:=if_pos (by omega)
  rw[if_neg h1,e]
  by_cases h2:c - L<=M
  ·rw[if_pos h2]
   by_cases h3:c - L<M
   ·rw[if_pos h3]
   ·rw[if_neg h3];omega
  ·rw[if_neg h2,if_neg (by omega)]
seal L2.PE L2.PA L2.PS L2.PSs L2.PT
section
variable {K:W.Frag} {mg:Str->Option Value} {base:Heap}
def aO2 (P:Program)(w:World)(K:W.Frag)(mg:Str->Option Value)(base:Heap)(k:Nat):Sp:=fun vs H Q _=>∃ (lo hi:Int) (f:Addr) (ob:Obj) (fd:FuncData) (x:Str) (sp:Sp) (J:Hp->Prop) (p:Int->Bool),vs=[.int lo,.int hi,.ref f]/\lo<=hi/\ob.data=.func fd /\
 x6 P w K mg base CX0 k f fd [x] sp/\Binds K fd [x] []/\(∀ H,J H->H f=some (O2 f ob))/\(∀ (H:Hp) (m:Int) (Q:VK),J H->lo<=m->m<hi->(∀ H',A3 H H'->J H'->Q (.bl (p m)) H')->sp [.int m] H Q E0)/\J H /\
 ∀ (r:Int) (H':Hp),lo<=r->r<=hi->(r<hi->p r=true)->(lo<r->p (r - 1)=false)->J H'->A3 H H'->Q (.int r) H'
theorem aA4:A4 ["low","high","holds","middle"] ["low","high","holds"] (p5 av8):=.mk'
theorem aY3 {k:Nat} (F:Fun K "least_where" "least_where" av8 f fd):x6 P w K mg base CX0 (k+1) f fd ["low","high","holds"] (aO2 P w K mg base k):=by
 refine F.ok aA4 (fun cdv A outer s H vs Q E hr h=>?_)
 obtain⟨lo,hi,fl,ob,fdl,x,sp,J,p,rfl,hlh,hob,FL,bL,hJ,hcall,hJ0,q⟩:=h
 refine⟨_,j0 (aX5 PassesOwn.never (D6 aE3 (pv 0) (pv 1) (E9 _))
  (j0 (A9 (i:=3) aA4.nd rfl (Or.inl rfl) (x9 Q5 (x9 U3 (pv 0) (pv 1)) i6))
  (o5 (N1 (ar0 (by2 hr (i := 2) rfl (Or.inl rfl) (b9 (pv 3) d5)))
   (o5 (A9 (i:=1) aA4.nd rfl (Or.inl rfl) (pv 3))) (o5 (A9 (i:=0) aA4.nd rfl (Or.inl rfl) (x9 U3 (pv 3) i6)))))))
  (o5 (C1 (pv 0))),?_⟩
 refine⟨fun m σ H1=>∃ (a b:Int) (e3:Option V),m=(b - a).toNat/\σ=[some (.int a),some (.int b),some (.ref fl),e3]/\lo<=a/\a<=b/\b<=hi/\(b<hi->p b=true)/\(lo<a->p (a - 1)=false)/\J H1/\A3 H H1,⟨_,lo,hi,none,rfl,rfl,by omega,hlh,by omega,fun z=>absurd z (by omega),fun z=>absurd z (by omega),hJ0,A3.refl H⟩,?_⟩
 rintro m σ H1 ⟨a,b,e3,rfl,rfl,h1,h2,h3,h4,h5,h6,h7⟩
 refine⟨_,rfl,_,rfl,_,_,rfl,rfl,_,rfl,?_⟩
 refine aR1 (fun hc=>?_) (fun hc=>?_)
 ·have hab:=of_decide_eq_true hc
  refine⟨fun σ' H'=>∃ (a' b':Int) (e3:Option V),(b' - a').toNat<(b - a).toNat/\σ'=[some (.int a'),some (.int b'),some (.ref fl),e3]/\lo<=a'/\a'<=b'/\b'<=hi/\(b'<hi->p b'=true)/\(lo<a'->p (a' - 1)=false)/\J H'/\A3 H H',fun σ' H' ⟨a',b',e3',z0,z1,z2,z3,z4,z5,z6,z7,z8⟩=>⟨_,z0,a',b',e3',rfl,z1,z2,z3,z4,z5,z6,z7,z8⟩,?_⟩
  refine⟨_,rfl,_,rfl,_,_,rfl,rfl,_,_,rfl,rfl,⟨by decide,by decide⟩,?_⟩
  refine Q4 fun c hcm=>?_
  refine C2 ?_
  have hc1:a<=c:=by omega
  have hc2:c<b:=by omega
  refine⟨fl,ob,fdl,rfl,hJ _ h6,hob,_,rfl,[x],sp,hJ _ h6,FL,bL,hcall H1 c _ h6 (by omega) (by omega) fun H2 s2 j2=>⟨_,rfl,?_⟩⟩
  refine aR1 (fun hp=>?_) (fun hp=>?_)
  ·exact⟨_,rfl,a,c,_,by omega,rfl,h1,by omega,by omega,fun _=>hp,h5,j2,h7.trans s2⟩
  ·refine⟨_,rfl,_,_,rfl,rfl,c+1,b,_,by omega,rfl,by omega,by omega,h3,h4,fun _=>?_,j2,h7.trans s2⟩
   rw[show c+1 - 1=c by omega]
   simpa using hp
 ·have hab:¬ a<b:=fun z=>hc (decide_eq_true z)
  have e:b=a:=by omega
  rw[e]at h4
  exact⟨_,rfl,q a H1 h1 (by omega) h4 h5 h6 h7⟩
def bw0 (K:W.Frag):Sp:=fun vs H Q _=>∃ (a:Addr) (ns:List Int) (L M:Int),vs=[.ref a,.int L,.int M]/\SqL K H a (ns.map V.int)/\ns.length<=100/\1<=M/\∀ (l:Addr) (H':Hp),A3 H H'->H l=none->H' l=some (.lst ((ns.map (abv M L)).map V.int))->Q (.ref l) H'
theorem cg8:A4 ["numbers","level","most"] ["numbers","level","most"] (p5 bx2):=.mk'
theorem bZ7 (F:Fun K "above" "above" bx2 f fd)(B:Bn mg):x6 P w K mg base CX0 1 f fd ["numbers","level","most"] (bw0 K):=by
 refine F.ok cg8 (fun cdv A outer s H vs Q E hr h=>?_)
 obtain⟨a,ns,L,M,rfl,hS,hn,hM,q⟩:=h
 have hsl:=L8
 have nd3:(["number","level","most"]:List Str).Nodup:=by decide +kernel
 refine⟨_,o5 (C1 (N2 (N':=["number","level","most"]) (lk:=[none,some 1,some 2]) rfl (aa5 (pv 0)) (by rfl) rfl (by decide +kernel) (by exact⟨rfl,rfl,trivial⟩) (by rfl) (by exact LkL.ok ⟨⟨rfl,Or.inl rfl,rfl,Or.inl rfl⟩,⟨rfl,Or.inl rfl,rfl,Or.inl rfl⟩,trivial⟩)
    (fun _ _ _=>B0 (i:=0) nd3 rfl (Or.inl rfl)) (fun _ _ _=>S4) (fun _ _ _=>A6 (ax3 rfl) (by rfl) B.min (by rfl) (b9 (pv 2) (b9 (A6 (aL9 rfl) (by rfl) B.max (by rfl) (b9 i6 (b9 (x9 ah7 (pv 0) (pv 1)) d5))) d5))))),?_⟩
 refine⟨_,rfl,a,rfl,⟨_,hS⟩,fun D hD=>Y1 (K:=K) (a:=a) (D:=D) (ys:=ns.map V.int) (fun i xs σ' H'=>(∃ v,σ'=[v,some (.int L),some (.int M)])/\A3 H H'/\H' D=some (.lst xs)/\xs=((ns.take i).map (abv M L)).map V.int)
  ⟨⟨none,rfl⟩,f6 hD,c6,rfl⟩ (by rw[b8];omega) (fun i xs σ' H' hi ⟨_,s6,h6,e6⟩=>⟨s6.seq hS,h6,by rw[e6,b8,b8,o8];omega⟩) ?_ ?_⟩
 ·rintro i xs x σ' H' N kN hx ⟨⟨v,rfl⟩,s6,h6,rfl⟩
  obtain⟨z,hz,rfl⟩:=V8 hx
  refine C2 (O5 ?_)
  refine⟨_,rfl,_,rfl,_,rfl,_,_,rfl,rfl,_,_,rfl,_,_,rfl,?_⟩
  rw[cb9 M L z hM]
  refine⟨h6,kN _ _ _ ⟨⟨_,rfl⟩,s6.upd hD,c6,?_⟩⟩
  rw[u9,hz,k8,k8]
  rfl
 ·rintro xs σ' H' ⟨⟨v,rfl⟩,s6,h6,rfl⟩
  rw[j7 (by rw[b8];exact c8 _)]at h6
  exact q D H' s6 hD h6
def bZ9 (st:Stmt):Pos:=match (Q6 st).getD 0 (.Pass ⟨0,0,0,0⟩) with
 | .Assign _ (.Call _ [_,_,.Lambda _ _ _ p] _ _) _=>p
 | _=>⟨0,0,0,0⟩
def ai8 (st:Stmt):Arguments × Expr × Scope:=match (Q6 st).getD 0 (.Pass ⟨0,0,0,0⟩) with
 | .Assign _ (.Call _ [_,_,.Lambda a b c _] _ _) _=>(a,b,c)
 | _=>({ posonlyargs:=[],args:=[],vararg:=none,kwonlyargs:=[],kw_defaults:=[],kwarg:=none,defaults:=[] },.Constant .none 0 ⟨0,0,0,0⟩,{ kind:=.function,names:=[],isGenerator:=false,isCoroutine:=false })
def aL1:Str:=(("shares":Str)++(".<locals>.":Str))++("<lambda>":Str)
abbrev Tb2 (P:Addr)(H:Hp):Prop:=R7 P (bZ9 aj9) aL1 H
theorem Sq.rmv {K:W.Frag}(h:Sq K H a ns)(hl:∀ b o,l b=some o->H b=some (O2 b o)):Sq K (Z7 H l) a ns:=by
 have go:∀ u,(∀ o,u≠O2 a o)->H a=some u->Z7 H l a=some u:=fun u hu q=>by rw[G1 (ar5 hl q hu)];exact q
 rcases h with((h | ⟨o,h⟩) | h) | ((h | ⟨o,h⟩) | h)
 ·exact .inl (.inl (.inl (go _ (fun o z=>by unfold O2 at z;cases z) h)))
 ·exact .inl (.inl (.inr ⟨o,go _ (fun o z=>by unfold O2 at z;cases z) h⟩))
 ·exact .inl (.inr h)
 ·exact .inr (.inl (.inl (go _ (fun o z=>by unfold O2 at z;cases z) h)))
 ·exact .inr (.inl (.inr ⟨o,go _ (fun o z=>by unfold O2 at z;cases z) h⟩))
 ·exact .inr (.inr h)
theorem aV8 (hl:∀ b o,l b=some o->H b=none):A3 H (af3 H l):=fun b u e=>by
 cases hb:l b with
 | some z=>rw[hl b z hb]at e;cases e
 | none=>rw[J9 hb];exact e
theorem aJ9 (hl:∀ b o,l b=some o->H b=some (O2 b o))(s:A3 (Z7 H l) H'):A3 H (af3 H' l):=fun b u e=>by
 cases hb:l b with
 | some z=>rw[hl b z hb]at e;rw[af2 hb];exact e
 | none=>rw[J9 hb];exact s b u (by rw[G1 hb];exact e)
theorem aW1 {H2:Hp}(hl:∀ b o,l b=some o->H b=none)(s:A3 (af3 H l) H2):A3 H (Z7 H2 l):=fun b u e=>by
 cases hb:l b with
 | some z=>rw[hl b z hb]at e;cases e
 | none=>rw[G1 hb];exact s b u (by rw[J9 hb];exact e)
theorem SqL.rmv (h:SqL K H a (ns.map V.int))(hl:∀ b o,l b=some o->H b=some (O2 b o)):SqL K (Z7 H l) a (ns.map V.int):=by
 have go:∀ u,(∀ o,u≠O2 a o)->H a=some u->Z7 H l a=some u:=fun u hu q=>by rw[G1 (ar5 hl q hu)];exact q
 rcases h with(h | ⟨o,h⟩) | h
 ·exact .inl (.inl (go _ (fun o z=>by unfold O2 at z;cases z) h))
 ·exact .inl (.inr ⟨o,go _ (fun o z=>by unfold O2 at z;cases z) h⟩)
 ·exact .inr h
end
end Web
namespace Web
open PySem L2
theorem bz4 {k1 k2 k3:Str}{a1 a2 a3:Addr}(h:C8 x [(k1,a1),(k2,a2),(k3,a3)]=some c):(x=k1/\c=a1)\/(x=k2/\c=a2)\/(x=k3/\c=a3):=by
 by_cases z1:x=k1
 ·subst z1
  simp[C8]at h
  exact .inl ⟨rfl,h.symm⟩
 ·have e1:(x == k1)=false:=by simpa using z1
  by_cases z2:x=k2
  ·subst z2
   simp[C8,e1]at h
   exact .inr (.inl ⟨rfl,h.symm⟩)
  ·have e2:(x == k2)=false:=by simpa using z2
   by_cases z3:x=k3
   ·subst z3
    simp[C8,e1,e2]at h
    exact .inr (.inr ⟨rfl,h.symm⟩)
   ·have e3:(x == k3)=false:=by simpa using z3
    simp[C8,e1,e2,e3]at h
theorem cm6 {y k1 k2 k3:Str}{a1 a2 a3:Addr}(n12:a1≠a2)(n13:a1≠a3)(n23:a2≠a3)(hx:C8 x [(k1,a1),(k2,a2),(k3,a3)]=some c)(hy:C8 y [(k1,a1),(k2,a2),(k3,a3)]=some c):x=y:=by
 rcases bz4 hx with⟨rfl,e⟩ | ⟨rfl,e⟩ | ⟨rfl,e⟩<;>rcases bz4 hy with⟨h,e'⟩ | ⟨h,e'⟩ | ⟨h,e'⟩
 all_goals first | exact h.symm | exact absurd (e.symm.trans e') n12 | exact absurd (e.symm.trans e') n13 | exact absurd (e.symm.trans e') n23 | exact absurd (e'.symm.trans e) n12 | exact absurd (e'.symm.trans e) n13 | exact absurd (e'.symm.trans e) n23
theorem lk1 {k1 k2 k3:Str}{a1 a2 a3:Addr}:C8 k1 [(k1,a1),(k2,a2),(k3,a3)]=some a1:=by simp[C8]
theorem lk2 {k1 k2 k3:Str}{a1 a2 a3:Addr}(h:(k2 == k1)=false):C8 k2 [(k1,a1),(k2,a2),(k3,a3)]=some a2:=by simp[C8,h]
theorem lk3 {k1 k2 k3:Str}{a1 a2 a3:Addr}(h:(k3 == k1)=false)(h':(k3 == k2)=false):C8 k3 [(k1,a1),(k2,a2),(k3,a3)]=some a3:=by simp[C8,h,h']
theorem bn2 {M L:Int}:∀ {ns:List Int},(∀ x∈ns,x<=L)->(ns.map (abv M L)).sum=0
 | [],_=>rfl
 | c::ns,h=>by
  rw[o9,G5,bn2 fun x hx=>h x (c7 _ hx)]
  have:=h c c9
  unfold abv
  rw[if_pos (by omega)]
  rfl
def mpN (M L:Int)(ns:List Int)(i:Nat):List Int:=((u7 i).filter fun j=>decide (abv M L (ns.getD j 0)<abv M (L - 1) (ns.getD j 0))).map fun j:Nat=>(j:Int)
theorem aZ1 (M L:Int)(ns:List Int)(i:Nat):mpN M L ns (i+1)=mpN M L ns i++(if abv M L (ns.getD i 0)<abv M (L - 1) (ns.getD i 0) then [(i:Int)] else []):=by
 unfold mpN
 rw[G2,S9,k8]
 congr 1
 by_cases h:abv M L (ns.getD i 0)<abv M (L - 1) (ns.getD i 0)
 ·rw[if_pos h,aT3,if_pos (decide_eq_true h)];rfl
 ·rw[if_neg h,aT3,if_neg (by rw[decide_eq_false h];decide)];rfl
theorem bM1 (M L:Int)(ns:List Int):mpN M L ns ns.length=am2 M L ns:=by
 unfold mpN am2 rng
 rw[List.filter_map,<- ax8]
 congr 1
theorem bM0 (M L:Int)(ns:List Int)(i:Nat):(mpN M L ns i).length<=i:=by
 unfold mpN
 rw[b8]
 have:=O7 (fun j=>decide (abv M L (ns.getD j 0)<abv M (L - 1) (ns.getD j 0))) (u7 i)
 rw[v8]at this
 exact this
theorem aF9 {M L:Int}(h:j<ns.length):(ns.map (abv M L)).getD j 0=abv M L (ns.getD j 0):=by
 rw[i8,i8,p8,k9 h]
 rfl
theorem ag1 {f:Nat->Int}(h:j<n):((u7 n).map f).getD j 0=f j:=by
 rw[i8,p8,R1 h]
 rfl
theorem ck0 {K:W.Frag}{Q:VK}(h:SqL K H a (ns.map V.int))(hj:j<ns.length)(q:Q (.int (ns.getD j 0)) H):rIx K (.ref a) (.int j) H Q:=.inl ⟨a,_,_,_,rfl,rfl,h,ar8 hj,q⟩
seal L2.PE L2.PA L2.PS L2.PSs L2.PT
section
variable {K:W.Frag} {mg:Str->Option Value} {base:Heap}
def bv3 (K:W.Frag)(PT:Addr):Sp:=fun vs H Q _=>∃ (na:Addr) (ns:List Int) (a:Int) (M:Nat),vs=[.ref na,.int a,.int M]/\SqL K H na (ns.map V.int)/\ns.length<=24/\1<=M/\AllP ns/\0<=a/\Tb2 PT H /\
 ∀ (l:Addr) (xs:List Int) (L:Int) (H':Hp),P0 PT H H'->Tb2 PT H'->Lvl M ns a L->xs.length=ns.length->(∀ j,j<ns.length->xs.getD j 0=shx M L ns (a - (ns.map (abv M L)).sum).toNat j)->H l=none->H' l=some (.lst (xs.map V.int))->Q (.ref l) H'
theorem aV7:A4 ["numbers","much","most","level","taken","deeper","one_more"] ["numbers","much","most"] (p5 aj9):=.mk'
set_option maxHeartbeats 4000000 in
theorem bZ0 {fW PT:Addr}(F:Fun K "shares" "shares" aj9 f fd)(hc:fd.code=.ref c)(LB:ap0 base mg c PT)(B:Bn mg)(FA:Fq K mg "above" bx2 fA fdA ["numbers","level","most"])
  (FW:Fq K mg "least_where" av8 fW fdW ["low","high","holds"]):x6 P w K mg base (CXE P w) 4 f fd ["numbers","much","most"] (bv3 K PT):=by
 have GA:x6 P w K mg base CX0 1 fA fdA ["numbers","level","most"] (bw0 K):=bZ7 FA.F B
 have GA3:x6 P w K mg base CX0 3 fA fdA ["numbers","level","most"] (bw0 K):=GA.mono (by decide)
 have GW:x6 P w K mg base CX0 3 fW fdW ["low","high","holds"] (aO2 P w K mg base 2):=aY3 FW.F
 refine F.okXC hc aV7 (fun A outer s H vs Q E hr h=>?_)
 obtain⟨na,ns,a,M,rfl,hS,hn,hM,hp,ha,tb,q⟩:=h
 have hsl:=L8
 have hun:=hr.units
 have nd3:(["place","deeper","taken"]:List Str).Nodup:=by decide +kernel
 have nd4:(["place","many","one_more"]:List Str).Nodup:=by decide +kernel
 refine⟨_,j0 (A9 (i:=3) aV7.nd rfl (Or.inl rfl) (aY0 (js:=[(0,s.heap.objs.size+1),(1,s.heap.objs.size+2),(2,s.heap.objs.size+3)]) GW hr (by rfl) FW.m FW.F.kp FW.b (fun q hq=>by
    simp only[d8,R8,or_false]at hq
    rcases hq with e | e | e
    ·rw[e];exact⟨W7 _ _,"numbers",rfl,rfl,rfl⟩
    ·rw[e];exact⟨W7 _ _,"much",rfl,rfl,rfl⟩
    ·rw[e];exact⟨W7 _ _,"most",rfl,rfl,rfl⟩) (b9 i6 (b9 (bK2 K rfl rfl (by rfl) B.max (b9 (pv 0) d5)) (b9 (bf7 LB rfl (by rfl) (by rfl)) d5)))))
  (j0 (A9 (i:=4) aV7.nd rfl (Or.inr rfl) (D0 GA3 hr (by rfl) FA K6 (b9 (pv 0) (b9 (pv 3) (b9 (pv 2) d5)))))
  (j0 (A9 (i:=5) aV7.nd rfl (Or.inr rfl) (D0 GA3 hr (by rfl) FA K6 (b9 (pv 0) (b9 (x9 ah7 (pv 3) i6) (b9 (pv 2) d5)))))
  (j0 (A9 (i:=6) aV7.nd rfl (Or.inr rfl) (Y8 ah3 (N2 (N':=["place","deeper","taken"]) (lk:=[none,some 5,some 4]) rfl (U7 rfl B.range (b9 (A6 B1 (by rfl) B.len PySem.boot_len (b9 (pv 0) d5)) d5)) (by rfl) rfl (by decide +kernel) (by exact⟨rfl,rfl,trivial⟩) (by rfl) (by exact LkL.ok ⟨⟨rfl,Or.inl rfl,rfl,Or.inl rfl⟩,⟨rfl,Or.inl rfl,rfl,Or.inl rfl⟩,trivial⟩)
    (fun _ _ _=>B0 (i:=0) nd3 rfl (Or.inl rfl)) (fun _ _ _=>ah4 (D6 by5 (V6 K rfl (pv 1) (pv 0) (fun _ _=>rfl)) (V6 K rfl (pv 2) (pv 0) (fun _ _=>rfl)) (E9 _))) (fun _ _ _=>pv 0)) ad5 (ad4 (x9 ah7 (pv 1) (A6 (am7 rfl) (by rfl) B.sum (by rfl) (b9 (pv 4) d5))))))
  (o5 (C1 (N2 (N':=["place","many","one_more"]) (lk:=[none,none,some 6]) rfl (bR8 (bk1 (by rfl) B.enum (b9 (pv 4) d5)) (aX6 (by rfl) B.enum (b9 (pv 4) d5))) (by rfl) rfl (by decide +kernel) (by exact⟨rfl,trivial⟩) (by rfl) (by exact LkL.ok ⟨⟨rfl,Or.inl rfl,rfl,Or.inl rfl⟩,trivial⟩)
    (fun _ _ _=>aA9 (n:=2) K rfl rfl (L9 (B0 (i:=0) nd4 rfl (Or.inl rfl)) (L9 (B0 (i:=1) nd4 rfl (Or.inl rfl)) ah5))) (fun _ _ _=>S4) (fun _ _ _=>aX8 (D6 (bk4 K hr.around rfl rfl) (pv 0) (pv 2) (by rfl)) (x9 U3 (pv 1) i6) (pv 1)))))))),?_⟩
 refine⟨_,rfl,na,ns,rfl,hS,hp,fun hi h0 hmx=>⟨tb,fun fl c' ctv H2 g2 tb2 hfn hfo hco l hl hjv=>?_⟩⟩
 obtain⟨o1,u1,hl1,hd1,ru1⟩:=hjv _ c9 (.ref na) rfl
 obtain⟨o2,u2,hl2,hd2,ru2⟩:=hjv _ (c7 _ c9) (.int a) rfl
 obtain⟨o3,u3,hl3,hd3,ru3⟩:=hjv _ (c7 _ (c7 _ c9)) (.int (M:Int)) rfl
 have hS2:=P0.sqL g2 tb hS
 have st:=aV8 hl
 have n1:(("much":Str) == ("numbers":Str))=false:=by decide +kernel
 have n2:(("most":Str) == ("numbers":Str))=false:=by decide +kernel
 have n3:(("most":Str) == ("much":Str))=false:=by decide +kernel
 refine⟨0,hi,fl,PySem.W.kla_obj "<lambda>" aL1 (ai8 aj9).1 (ai8 aj9).2.1 (ai8 aj9).2.2 [("numbers",s.heap.objs.size+1),("much",s.heap.objs.size+2),("most",s.heap.objs.size+3)] ((mg "__name__").getD .none) c' ctv,PySem.W.kla_fn "<lambda>" aL1 (ai8 aj9).1 (ai8 aj9).2.1 (ai8 aj9).2.2 [("numbers",s.heap.objs.size+1),("much",s.heap.objs.size+2),("most",s.heap.objs.size+3)] ((mg "__name__").getD .none) (.ref c') ctv,"tried",?sp,?J,?p,rfl,h0,rfl,?F,?b,?h3,?h4,?h5,?h6⟩
 case F =>
  refine bz7 (k:=1) (p:="tried") (qual:=aL1) (params:=(ai8 aj9).1) (body:=(ai8 aj9).2.1) (scope:=(ai8 aj9).2.2) (cl:=[("numbers",s.heap.objs.size+1),("much",s.heap.objs.size+2),("most",s.heap.objs.size+3)]) (f:=fl) (c':=c') (l:=l) (cvs:=[some (.int (M:Int)),some (.int a),some (.ref na)]) (N':=["most","much","numbers"]) rfl rfl rfl (by rfl) rfl ?_ ?_ rfl ?_ (fun A' outer' s' H' hr'=>aa6 ad6 (A6 (bs2 K rfl rfl) (by rfl) B.sum (by rfl) (b9 (ao0 GA hr' (by rfl) FA.m FA.F.kp FA.b .nil K6 (b9 (pv 3) (b9 (pv 0) (b9 (pv 1) d5)))) d5)) (pv 2) (by rfl))
  ·intro x y c hx hy
   exact cm6 (show (s.heap.objs.size+1:Nat)≠s.heap.objs.size+2 by omega) (show (s.heap.objs.size+1:Nat)≠s.heap.objs.size+3 by omega) (show (s.heap.objs.size+2:Nat)≠s.heap.objs.size+3 by omega) hx hy
  ·intro x c hx
   rcases bz4 hx with⟨_,e⟩ | ⟨_,e⟩ | ⟨_,e⟩
   ·rw[e];exact⟨o1,_,hl1,hd1⟩
   ·rw[e];exact⟨o2,_,hl2,hd2⟩
   ·rw[e];exact⟨o3,_,hl3,hd3⟩
  ·intro i x v e1 e2
   match i,e1,e2 with
   | 0,e1,e2 =>
    have e1':("most":Str)=x:=Option.some.inj e1
    have e2':V.int (M:Int)=v:=Option.some.inj (Option.some.inj e2)
    subst e1' e2'
    exact⟨rfl,_,o3,u3,lk3 n2 n3,hl3,hd3,ru3⟩
   | 1,e1,e2 =>
    have e1':("much":Str)=x:=Option.some.inj e1
    have e2':V.int a=v:=Option.some.inj (Option.some.inj e2)
    subst e1' e2'
    exact⟨rfl,_,o2,u2,lk2 n1,hl2,hd2,ru2⟩
   | 2,e1,e2 =>
    have e1':("numbers":Str)=x:=Option.some.inj e1
    have e2':V.ref na=v:=Option.some.inj (Option.some.inj e2)
    subst e1' e2'
    exact⟨rfl,_,o1,u1,lk1,hl1,hd1,ru1⟩
   | i+3,e1,e2=>cases e1
 case b=>exact .all fun us hl=>match us,hl with | [_],_=>rfl
 case J=>exact fun Hx=>Hx fl=some (O2 fl (PySem.W.kla_obj "<lambda>" aL1 (ai8 aj9).1 (ai8 aj9).2.1 (ai8 aj9).2.2 [("numbers",s.heap.objs.size+1),("much",s.heap.objs.size+2),("most",s.heap.objs.size+3)] ((mg "__name__").getD .none) c' ctv))/\Hx c'=some (ap9 c' aL1)/\(∀ b o,l b=some o->Hx b=some (O2 b o))/\SqL K Hx na (ns.map V.int)
 case p=>exact fun t=>decide ((ns.map (abv M t)).sum<=a)
 case h3=>exact fun Hx h=>h.1
 case h4 =>
  rintro Hx m Qx ⟨j1,j2,j3,j4⟩ hm1 hm2 hq
  refine⟨.int m,rfl,j1,j2,j3,?_⟩
  refine⟨_,rfl,_,rfl,_,rfl,na,ns,m,M,rfl,SqL.rmv j4 j3,by omega,by omega,fun l8 H8 s8 f8 g8=>⟨l8,_,rfl,SqL.of g8,_,rfl,_,_,rfl,rfl,fun hfr=>?_⟩⟩
  have sb:=aJ9 j3 s8
  exact hq _ sb ⟨sb _ _ j1,sb _ _ j2,fun b o e=>af2 e,sb.seq j4⟩
 case h5=>exact⟨st _ _ hfo,st _ _ hco,fun b o e=>af2 e,st.seq hS2⟩
 case h6 =>
  rintro L H' hr1 hr2 hp1 hp2 ⟨j1,j2,j3,j4⟩ s'
  have so:=aW1 hl s'
  refine⟨j3,?_⟩
  have hlv:Lvl M ns a L:=by
   refine⟨hr1,?_,fun h=>?_⟩
   ·rcases Int.lt_or_le L hi with z | z
    ·exact of_decide_eq_true (hp1 z)
    ·rw[bn2 fun x hx=>Y4 (hmx x hx) z]
     exact ha
   ·have:=of_decide_eq_false (hp2 h)
    omega
  have g3:P0 PT H (Z7 H' l):=g2.trans (so.grow PT)
  have tb3:=tb2.same so
  have hS3:=so.seq hS2
  generalize Z7 H' l=H3 at g3 tb3 hS3 ⊢
  refine⟨_,rfl,_,rfl,_,rfl,na,ns,L,M,rfl,hS3,by omega,by omega,fun lt H4 s4 f4 g4=>?_⟩
  refine⟨_,rfl,_,rfl,_,_,rfl,rfl,_,rfl,na,ns,L - 1,M,rfl,s4.seq hS3,by omega,by omega,fun ld H5 s5 f5 g5=>?_⟩
  have g45:=s5 _ _ g4
  have hS5:=(s4.trans s5).seq hS3
  have hle:=hlv.le
  obtain⟨k,hk⟩:∃ k:Nat,a - (ns.map (abv M L)).sum=(k:Int):=⟨(a - (ns.map (abv M L)).sum).toNat,by omega⟩
  refine⟨_,rfl,na,_,rfl,.inl hS5,(ns.length:Int),congrArg (fun z:Nat=>[V.int (z:Int)]) (b8 ..),by omega,by omega,fun D hD=>?_⟩
  rw[p0]
  refine ah9 (lo:=0) (n:=ns.length) (D:=D) (fun i xs σ' H'=>(∃ v,σ'=[v,some (.ref ld),some (.ref lt)])/\A3 H5 H'/\H' D=some (.lst xs)/\xs=(mpN M L ns i).map V.int) ⟨⟨none,rfl⟩,f6 hD,c6,rfl⟩ (by omega)
   (fun i xs σ' H' hi ⟨_,s6,h6,e6⟩=>⟨h6,by rw[e6,b8];exact bM0 M L ns i⟩) ?_ ?_
  ·rintro i xs σ' H' N kN hi ⟨⟨v,rfl⟩,s6,h6,rfl⟩
   have e0:((0:Int)+(i:Int))=(i:Int):=by omega
   rw[e0]
   refine C2 ?_
   refine⟨_,rfl,_,rfl,ck0 (SqL.of (s6 _ _ g5)) (by rw[b8];exact hi) ⟨_,rfl,_,rfl,ck0 (SqL.of (s6 _ _ g45)) (by rw[b8];exact hi) ⟨_,_,rfl,rfl,_,rfl,?_⟩⟩⟩
   rw[aF9 hi,aF9 hi]
   by_cases hm:abv M L (ns.getD i 0)<abv M (L - 1) (ns.getD i 0)
   ·rw[decide_eq_true hm]
    refine T8 ⟨_,rfl,h6,kN _ _ _ ⟨⟨_,rfl⟩,s6.upd hD,c6,?_⟩⟩
    rw[aZ1,if_pos hm,k8]
    rfl
   ·rw[decide_eq_false hm]
    refine T9 (kN _ _ _ ⟨⟨_,rfl⟩,s6,h6,?_⟩)
    rw[aZ1,if_neg hm,D9]
  ·rintro xs σ' H6 ⟨⟨v,rfl⟩,s6,h6,rfl⟩
   rw[bM1]at h6
   refine⟨_,rfl,_,rfl,lt,_,rfl,SqL.of (s6 _ _ g45),_,_,rfl,rfl,_,rfl,D,_,rfl,SqL.of h6,fun lo flo=>?_⟩
   rw[hk,am4]
   have s7:=f6 (o:=.lst (((am2 M L ns).take k).map V.int)) flo
   have g7:(upd H6 lo (.lst (((am2 M L ns).take k).map V.int))) lo=some (.lst ((aQ4 M L ns k).map V.int)):=c6
   have s57:=s6.trans s7
   generalize upd H6 lo (.lst (((am2 M L ns).take k).map V.int))=H7 at s57 g7 ⊢
   have g47:=s57 _ _ g45
   refine Or.imp (fun h=>⟨_,rfl,h⟩) (fun h=>⟨_,rfl,h⟩) (aG6 (K:=K) (a:=lt) (ys:=(ns.map (abv M L)).map V.int) (.inl (SqL.of g47)) (by rw[b8,b8];omega)
    (fun D i xs σ' H'=>(∃ v u,σ'=[v,u,some (.ref lo)])/\A3 H7 H'/\H' D=some (.lst xs)/\xs=((u7 i).map (shx M L ns k)).map V.int) (fun D hD=>⟨⟨none,none,rfl⟩,f6 hD,c6,rfl⟩)
    (fun D i xs σ' H' hD hi ⟨_,s1,h1,e1⟩=>⟨s1,h1,by rw[e1,b8,b8,v8];exact c8 _⟩) ?_ ?_)
   ·rintro D8 i xs x t σ' H' N hD8 kN hx ⟨⟨v,u,rfl⟩,s1,h1,rfl⟩ ht'
    obtain⟨z,hz,rfl⟩:=V8 hx
    have s2:=f6 (o:=.tup [.int i,.int z]) ht'
    have hi:i<ns.length:=by
     rcases B3 i ns.length with h | h
     ·exact h
     ·rw[o6 (by rw[b8];exact h)]at hz;cases hz
    have ez:z=abv M L (ns.getD i 0):=by
     rw[<- aF9 hi,i8,hz]
     rfl
    refine⟨t,_,rfl,SqT.of c6,rfl,_,_,rfl,_,_,rfl,rfl,O5 ?_⟩
    refine⟨_,rfl,_,rfl,bB2 hun (SqL.of ((s1.trans s2) _ _ g7)) ⟨_,rfl,?_⟩⟩
    have ex:((u7 (i+1)).map (shx M L ns k)).map V.int=((u7 i).map (shx M L ns k)).map V.int++[V.int (shx M L ns k i)]:=by
     rw[G2,k8,k8]
     rfl
    by_cases hm:(i:Int)∈aQ4 M L ns k
    ·rw[decide_eq_true hm]
     refine T8 ⟨_,rfl,_,_,rfl,rfl,s2 _ _ h1,kN _ _ _ ⟨⟨_,_,rfl⟩,(s1.trans s2).upd hD8,c6,?_⟩⟩
     rw[ex]
     unfold shx
     rw[if_pos hm,ez]
    ·rw[decide_eq_false hm]
     refine T9 ⟨_,rfl,s2 _ _ h1,kN _ _ _ ⟨⟨_,_,rfl⟩,(s1.trans s2).upd hD8,c6,?_⟩⟩
     rw[ex]
     unfold shx
     rw[if_neg hm,ez,aT4]
   ·rintro D8 xs σ' H8 hD8 ⟨⟨v,u,rfl⟩,s1,h1,rfl⟩
    rw[b8,b8]at h1
    have sE:=(s4.trans s5).trans (s57.trans s1)
    have sF:=(s4.trans s5).trans s57
    refine q D8 _ L H8 (g3.trans (sE.grow PT)) (tb3.same sE) hlv (by rw[b8,v8]) (fun j hj=>?_) (aL3 (g3.trans (sF.grow PT)) (tb3.same sF) hD8) h1
    rw[ag1 hj,hk,p0]
end
end Web
namespace Web
open PySem L2
theorem aw7 {xs ys:List Int}(hl:xs.length=ys.length)(h:∀ j,j<ys.length->xs.getD j 0=ys.getD j 0):xs=ys:=by
 apply Q2
 intro j
 rcases B3 j ys.length with z | z
 ·have:=h j z
  rw[i8,i8,k9 z,k9 (show j<xs.length by omega)]at this
  rw[k9 z,k9 (show j<xs.length by omega)]
  exact congrArg some this
 ·rw[o6 z,o6 (by omega)]
theorem aK1:∀ (xs:List Int) (q:Nat) (x:Int),Z6 p q (xs++[x])=Z6 p q xs++(if 0<x then [[(p:Int),((q+xs.length:Nat):Int),x]] else [])
 | [],q,x=>by
  show (if 0<x then [(p:Int),(q:Int),x]::Z6 p (q+1) [] else Z6 p (q+1) [])=_
  by_cases c:0<x
  ·rw[if_pos c,if_pos c];rfl
  ·rw[if_neg c,if_neg c];rfl
 | y::xs,q,x=>by
  have ih:=aK1 xs (q+1) x
  rw[show q+1+xs.length=q+(y::xs).length by rw[o4];omega]at ih
  show (if 0<y then [(p:Int),(q:Int),y]::Z6 p (q+1) (xs++[x]) else Z6 p (q+1) (xs++[x]))=(if 0<y then [(p:Int),(q:Int),y]::Z6 p (q+1) xs else Z6 p (q+1) xs)++_
  rw[ih]
  by_cases c:0<y
  ·rw[if_pos c,if_pos c];rfl
  ·rw[if_neg c,if_neg c]
theorem aD6:∀ (xs:List Int) (q:Nat),(Z6 p q xs).length<=xs.length
 | [],_=>c8 _
 | x::xs,q=>by
  have:=aD6 xs (q+1)
  unfold Z6
  split
  ·rw[o4,o4];omega
  ·rw[o4];omega
theorem M5 {PT l:Addr}{po:Pos}{qu:Str}(g:P0 PT H H')(t:R7 PT po qu H)(h:H l=some (.tup xs)):H' l=some (.tup xs):=by
 obtain⟨ps,hP,_⟩:=t
 exact g l _ (fun z=>by rw[z,hP]at h;cases h) h
structure ThW (K:W.Frag) (H:Hp) (b:Addr) (os:List Int) (M:Nat) (ks:List (List Int)):Prop where
 at_:∃ t zs,H b=some (.tup [.int os.length,.ref t])/\H t=some (.tup zs)/\B2 K H zs ks
 tr:∀ k∈ks,tri os.length M k
 pw:ks.Pairwise aQ8
 ct:∀ i,i<os.length->ab0 ks i=os.getD i 0
 len:ks.length<=600
seal L2.PE L2.PA L2.PS L2.PSs L2.PT
section
variable {K:W.Frag} {mg:Str->Option Value} {base:Heap}
def bv0 (K:W.Frag)(PT:Addr):Sp:=fun vs H Q _=>∃ (a:Addr) (os:List Int) (M:Nat),vs=[.ref a,.int M]/\Sq K H a os/\R6 os/\1<=M/\Z4 os M .free/\Tb2 PT H /\
 ∀ (r:Addr) (ks:List (List Int)) (H':Hp),P0 PT H H'->Tb2 PT H'->ThW K H' r os M ks->Q (.ref r) H'
theorem ay2:A4 ["tally","most","triples","left","place","behind","laid"] ["tally","most"] (p5 bw7):=.mk'
set_option maxHeartbeats 4000000 in
theorem bY7 {fS PT:Addr} {fdS:FuncData} (F:Fun K "thick_laid" "thick_laid" bw7 f fd) (B:Bn mg) (FS:Fq K mg "shares" aj9 fS fdS ["numbers","much","most"]) (GS:x6 P w K mg base (CXE P w) 4 fS fdS ["numbers","much","most"] (bv3 K PT)):x6 P w K mg base CX0 5 f fd ["tally","most"] (bv0 K PT):=by
  refine F.ok ay2 (fun cdv A outer s H vs Q E hr h=>?_)
  obtain⟨a,os,M,rfl,hS,ht,hM,hf,tb,q⟩:=h
  have hsl:=L8
  have t2:=ht.2
  have nd3:(["other","many","place"]:List Str).Nodup:=by decide +kernel
  have nd2:(["number","many"]:List Str).Nodup:=by decide +kernel
  refine⟨_,j0 (A9 (i:=2) ay2.nd rfl (Or.inl rfl) (X9 d5))
    (j0 (A9 (i:=3) ay2.nd rfl (Or.inl rfl) (N0 ai2 (by rfl) B.list (by rfl) (b9 (pv 0) d5)))
    (j0 (ab9 PassesOwn.never rfl (U7 rfl B.range (b9 (A6 B1 (by rfl) B.len PySem.boot_len (b9 (pv 0) d5)) d5)) (B0 (i:=4) ay2.nd rfl (Or.inr rfl))
      (j0 (A9 (i:=5) ay2.nd rfl (Or.inl rfl) (Y8 ah3 (pv 3) (ad4 i6) ad5))
      (j0 (A9 (i:=6) ay2.nd rfl (Or.inl rfl) (D0 GS hr (by rfl) FS (af8 (P:=P) (w:=w)) (b9 (pv 5) (b9 (F6 aa7 (pv 3) i6 (fun _ _=>rfl)) (b9 (pv 1) d5)))))
      (j0 (bx5 (i:=2) ay2.nd rfl (Or.inl rfl) (N2 (N':=["other","many","place"]) (lk:=[none,none,some 4]) rfl (bx8 (by rfl) B.enum (b9 (pv 6) d5) (x9 U3 (pv 4) i6)) (by rfl) rfl (by decide +kernel) (by exact⟨rfl,trivial⟩) (by rfl) (by exact LkL.ok ⟨⟨rfl,Or.inl rfl,rfl,Or.inl rfl⟩,trivial⟩)
          (fun _ _ _=>aA9 (n:=2) K rfl rfl (L9 (B0 (i:=0) nd3 rfl (Or.inl rfl)) (L9 (B0 (i:=1) nd3 rfl (Or.inl rfl)) ah5))) (fun _ _ _=>ah4 (D6 by5 (pv 1) i6 (E9 _))) (fun _ _ _=>M3 (b9 (pv 2) (b9 (pv 0) (b9 (pv 1) d5))))) bA9)
      (o5 (aP8 (i:=3) ay2.nd rfl rfl (by rfl) (N':=["number","many"]) (lk:=[none,none]) rfl (bK0 (by rfl) B.zip (b9 (pv 5) (b9 (pv 6) d5))) (by rfl) rfl (by decide +kernel) (by exact trivial) (by rfl) (by exact LkL.ok trivial)
          (fun _ _ _=>aA9 (n:=2) K rfl rfl (L9 (B0 (i:=0) nd2 rfl (Or.inl rfl)) (L9 (B0 (i:=1) nd2 rfl (Or.inl rfl)) ah5))) (fun _ _ _=>S4) (fun _ _ _=>x9 ah7 (pv 0) (pv 1))))))))
    (o5 (C1 (M3 (b9 (A6 B1 (by rfl) B.len PySem.boot_len (b9 (pv 0) d5)) (b9 (N0 N9 (by rfl) B.tuple (by rfl) (b9 (pv 2) d5)) d5))))))),?_⟩
  refine⟨(by show 0<=j8;omega),fun lz fz=>?_⟩
  have sz:=f6 (o:=.lst []) fz
  refine⟨_,rfl,a,_,rfl,hS.same sz,fun l0 f0=>?_⟩
  have s0:=f6 (o:=.lst (os.map V.int)) f0
  have n0:l0≠lz:=(q0 c6 f0).symm
  have gz0:(upd (upd H lz (.lst [])) l0 (.lst (os.map V.int))) lz=some (.lst []):=s0 _ _ c6
  have gl0:(upd (upd H lz (.lst [])) l0 (.lst (os.map V.int))) l0=some (.lst (os.map V.int)):=c6
  have sz0:=sz.trans s0
  generalize upd (upd H lz (.lst [])) l0 (.lst (os.map V.int))=H0 at gz0 gl0 sz0 ⊢
  refine⟨_,rfl,a,_,rfl,hS.same sz0,(os.length:Int),congrArg (fun z:Nat=>[V.int (z:Int)]) (b8 ..),by omega,by omega,?_⟩
  rw[p0]
  refine ab4 (lo:=0) (n:=os.length) (fun p σ Ha=>∃ (ks:List (List Int)) (left:List Int) (zs:List V) (la:Addr) (e4 e5 e6:Option V),σ=[some (.ref a),some (.int M),some (.ref lz),some (.ref la),e4,e5,e6]/\Ha lz=some (.lst zs)/\B2 K Ha zs ks/\Ha la=some (.lst (left.map V.int))/\la≠lz /\
      Lay os.length M p os ks left/\ks.length<=24*p/\P0 PT H Ha/\Tb2 PT Ha)
    ⟨[],os,[],l0,none,none,none,rfl,gz0,.nil,gl0,n0,bq3 hf,v9 _,sz0.grow PT,tb.same sz0⟩ ?_ ?_
  · rintro p σ Ha hp ⟨ks,left,zs,la,e4,e5,e6,rfl,gz,tz,gl,nl,hL,hkl,gr,tba⟩
    have e0:((0:Int)+(p:Int))=(p:Int):=by omega
    rw[e0]
    have hlen:=hL.len
    obtain⟨a0,ns,rfl⟩:∃ a0 ns,left=a0::ns:=by
      cases left with
      | nil=>simp at hlen;omega
      | cons x xs=>exact⟨x,xs,rfl⟩
    rw[o4]at hlen
    have hpos:=hL.pos
    have hpn:AllP ns:=fun j x hj=>hpos (j+1) x (by rw[bt2];exact hj)
    have ha0:0<=a0:=hpos 0 a0 rfl
    refine C2 ?_
    refine⟨_,rfl,_,rfl,la,_,rfl,SqL.of gl,fun lb fb=>?_⟩
    have ecut:am5 ((a0::ns).map V.int) (some 1) none=ns.map V.int:=by
      have:=ae8 (a0::ns) 1
      simpa using this
    rw[ecut]
    have sb:=f6 (o:=.lst (ns.map V.int)) fb
    have gb:(upd Ha lb (.lst (ns.map V.int))) lb=some (.lst (ns.map V.int)):=c6
    have glb:=sb _ _ gl
    have gzb:=sb _ _ gz
    have tzb:=sb.tups tz
    have tbb:=tba.same sb
    have grb:=gr.trans (sb.grow PT)
    have nb:lb≠lz:=(q0 gz fb).symm
    generalize upd Ha lb (.lst (ns.map V.int))=Hb at gb glb gzb tzb tbb grb ⊢
    have at0:atI ((a0::ns).map V.int) 0=some (.int a0):=y7 (j:=0) rfl
    refine⟨_,rfl,_,rfl,la,_,_,_,rfl,rfl,SqL.of glb,at0,_,rfl,lb,ns,a0,M,rfl,SqL.of gb,by omega,hM,hpn,ha0,tbb,fun lx xs L Hc gc tbc hlv hxl hxj fx gx=>?_⟩
    have gzc:=Y9 gc tbb gzb
    have gbc:=Y9 gc tbb gb
    have tzc:=ab3 gc tbb tzb
    have grc:=grb.trans gc
    refine⟨_,rfl,_,rfl,_,rfl,_,_,rfl,rfl,lx,p+1,rfl,by simp,by omega,⟨_,SqL.of gx⟩,fun D hD=>?_⟩
    refine bh4 (K:=K) (a:=lx) (D:=D) (k0:=p+1) (ys:=xs.map V.int) (fun i us σ' H'=>(∃ v u,σ'=[v,u,some (.int p)])/\A3 Hc H'/\H' D=some (.lst us)/\B2 K H' us (Z6 p (p+1) (xs.take i)))
      ⟨⟨none, none, rfl⟩, f6 hD, c6, .nil⟩ (by rw [b8]; omega) (fun i us σ' H' hi ⟨_, s6, h6, t6⟩ => ⟨SqL.of (s6 _ _ gx), h6, by
        have h1:=t6.len
        have h2:=aD6 (p:=p) (xs.take i) (p+1)
        rw[o8]at h2
        omega⟩) ?_ ?_
    · rintro i us x t σ' H' N kN hx ⟨⟨v,u,rfl⟩,s6,h6,t6⟩ ht'
      obtain⟨z,hz,rfl⟩:=V8 hx
      have s7:=f6 (o:=.tup [.int ((p+1+i:Nat):Int),.int z]) ht'
      have hi:i<xs.length:=by
        rcases B3 i xs.length with h | h
        · exact h
        · rw[o6 h]at hz;cases hz
      have er:=aK1 (p:=p) (xs.take i) (p+1) z
      have et:xs.take (i+1)=xs.take i++[z]:=by rw[u9,hz];rfl
      rw[<- et,o8,bc7 (by omega)]at er
      refine⟨t,_,rfl,SqT.of c6,rfl,_,_,rfl,_,_,rfl,rfl,?_⟩
      refine⟨_,rfl,_,_,rfl,rfl,_,rfl,?_⟩
      by_cases hb:0<z
      · rw[decide_eq_true hb]
        refine T8 ⟨_,rfl,_,rfl,_,rfl,(by show 3<=j8;omega),fun t9 f9=>?_⟩
        have s9:=f6 (o:=.tup [.int (p:Int),.int ((p+1+i:Nat):Int),.int z]) f9
        have h6':=(s7.trans s9) _ _ h6
        refine⟨h6',kN _ _ _ ⟨⟨_,_,rfl⟩,(s6.trans (s7.trans s9)).upd hD,c6,?_⟩⟩
        rw[er,if_pos hb]
        refine B2.updL h6' (B2.append ((s7.trans s9).tups t6) (B2.one (SqT.of ?_)))
        exact c6
      · rw[decide_eq_false hb]
        refine T9 (kN _ _ _ ⟨⟨_,_,rfl⟩,s6.trans s7,s7 _ _ h6,?_⟩)
        rw[er,if_neg hb,D9]
        exact s7.tups t6
    · rintro us σ' H5 ⟨⟨v,u,rfl⟩,s5,h5,t5⟩
      rw[j7 (by rw[b8];exact c8 _)]at t5
      have gz5:=s5 _ _ gzc
      have hl5:=t5.len
      have hlz:=tzc.len
      have hr3:=aD6 (p:=p) xs (p+1)
      refine⟨lz,D,zs,us,rfl,rfl,gz5,h5,by omega,?_⟩
      have fzH:H lz=none:=fz
      have gu:P0 PT H (upd H5 lz (.lst (zs++us))):=by
        intro b o nb hb
        rw[q8 (q0 hb fzH)]
        exact(grc.trans (s5.grow PT)) b o nb hb
      have tb6:Tb2 PT (upd H5 lz (.lst (zs++us))):=by
        obtain⟨ps',hP,hx⟩:=tbc.same s5
        refine⟨ps',?_,hx.1,hx.2.imp id fun⟨c',e,h⟩=>⟨c',e,by rw[q8 (fun z=>by rw[z,gz5]at h;cases h)];exact h⟩⟩
        rw[q8 (fun z=>by rw[z,gz5]at hP;cases hP)]
        exact hP
      have nx:lx≠lz:=(q0 gzb fx).symm
      have gz6:(upd H5 lz (.lst (zs++us))) lz=some (.lst (zs++us)):=c6
      have t6:B2 K (upd H5 lz (.lst (zs++us))) (zs++us) (ks++Z6 p (p+1) xs):=B2.updL gz5 (B2.append (s5.tups tzc) t5)
      have gb6:(upd H5 lz (.lst (zs++us))) lb=some (.lst (ns.map V.int)):=by rw[q8 nb];exact s5 _ _ gbc
      have gx6:(upd H5 lz (.lst (zs++us))) lx=some (.lst (xs.map V.int)):=by rw[q8 nx];exact s5 _ _ gx
      generalize upd H5 lz (.lst (zs++us))=H6 at gu tb6 gz6 t6 gb6 gx6 ⊢
      refine⟨_,rfl,_,rfl,lb,lx,rfl,⟨_,SqL.of gb6⟩,⟨_,SqL.of gx6⟩,fun D7 hD7=>?_⟩
      refine br7 (K:=K) (a:=lb) (b:=lx) (D:=D7) (ys:=ns.map V.int) (zs:=xs.map V.int) (by rw[b8,b8,hxl]) (fun i ds σ' H'=>(∃ v u,σ'=[v,u])/\A3 H6 H'/\H' D7=some (.lst ds)/\ds=((u7 i).map fun j=>ns.getD j 0 - xs.getD j 0).map V.int)
        ⟨⟨none,none,rfl⟩,f6 hD7,c6,rfl⟩ (by rw[b8];omega) (fun i ds σ' H' hi ⟨_,s8,h8,e8⟩=>⟨SqL.of (s8 _ _ gb6),SqL.of (s8 _ _ gx6),h8,by rw[e8,b8,b8,v8];exact c8 _⟩) ?_ ?_
      · rintro i ds x y t σ' H' N kN hx hy ⟨⟨v,u,rfl⟩,s8,h8,rfl⟩ ht'
        obtain⟨z1,hz1,rfl⟩:=V8 hx
        obtain⟨z2,hz2,rfl⟩:=V8 hy
        have s9:=f6 (o:=.tup [.int z1,.int z2]) ht'
        refine⟨t,_,rfl,SqT.of c6,rfl,_,_,rfl,_,_,rfl,rfl,O5 ?_⟩
        refine⟨_,rfl,_,rfl,_,_,rfl,rfl,s9 _ _ h8,kN _ _ _ ⟨⟨_,_,rfl⟩,(s8.trans s9).upd hD7,c6,?_⟩⟩
        rw[G2,k8,k8]
        show _=_++[V.int (ns.getD i 0 - xs.getD i 0)]
        rw[i8,i8,hz1,hz2]
        rfl
      · rintro ds σ' H8 ⟨⟨v,u,rfl⟩,s8,h8,rfl⟩
        rw[b8]at h8
        have hdl:((u7 ns.length).map fun j=>ns.getD j 0 - xs.getD j 0).length=ns.length:=by rw[b8,v8]
        have hL':=bz6 hM hL hlv hxl hxj hdl fun j hj=>ag1 hj
        refine⟨ks++Z6 p (p+1) xs,_,zs++us,D7,_,_,_,rfl,s8 _ _ gz6,s8.tups t6,h8,(q0 gz6 hD7).symm,hL',?_,gu.trans (s8.grow PT),tb6.same s8⟩
        · rw[m6]
          omega
  · rintro σ Ha ⟨ks,left,zs,la,e4,e5,e6,rfl,gz,tz,gl,nl,hL,hkl,gr,tba⟩
    obtain⟨e1,e2,e3⟩:=bM6 hL
    refine⟨_,rfl,a,_,rfl,hS.grow gr tb,_,rfl,lz,_,rfl,.inl ⟨SqL.of gz,fun t9 f9=>⟨(by show 2<=j8;decide),fun r9 f9'=>?_⟩⟩⟩
    rw[b8]
    have s9:=f6 (o:=.tup zs) f9
    have s10:=f6 (o:=.tup [.int (os.length:Int),.ref t9]) f9'
    have sE:=s9.trans s10
    refine q r9 ks _ (gr.trans (sE.grow PT)) (tba.same sE) ⟨⟨t9,zs,c6,s10 _ _ c6,sE.tups tz⟩,e1,e2,e3,by omega⟩
end
end Web
namespace Web
open PySem L2
def ck6 (K:W.Frag)(H:Hp)(r:Addr)(ns:List Int)(M:Nat):Prop:=
 (∃ (x:Wl) (b:Addr),x≠.free/\Z4 ns M x/\H r=some (.tup [.str "wall",.ref b])/\H b=some (.tup (wlT x))) \/
 (Z4 ns M .free/\∃ (b:Addr) (ks:List (List Int)),H r=some (.tup [.str "web",.ref b])/\ThW K H b ns M ks)
seal L2.PE L2.PA L2.PS L2.PSs L2.PT
section
variable {K:W.Frag} {mg:Str->Option Value} {base:Heap}
def isM (m:Int):Prop:=1<=m/\m<=1000000
def aV2 (K:W.Frag)(CB CN:Addr):Sp:=fun vs H Q E=>∃ (a:Addr) (ns:List Int) (m:Int),vs=[.ref a,.int m]/\Sq K H a ns/\(R6 ns->isM m->Q .non H)/\(R6 ns->¬ isM m->E (.ref CN) none H)/\(¬ R6 ns->E (.ref CB) none H)
theorem cg6:A4 ["tally","most"] ["tally","most"] (p5 be8):=.mk'
theorem bZ5 {CN:Addr}{tg:Tok}(F:Fun K "check_most" "check_most" be8 f fd)(B:Bn mg)(FT:Fq K mg "check_tally" aq9 fT fdT ["tally"])
  (mM:mg "MOST_PLACES"=some (.int 24 tk))(mG:mg "GREATEST_MOST"=some (.int 1000000 tg))(mB:mg "BadTally"=some (.ref CB))(cB:ak0 K CB)(mN:mg "BadNumber"=some (.ref CN))(cN:ak0 K CN):x6 P w K mg base (CXE P w) 2 f fd ["tally","most"] (aV2 K CB CN):=by
 have GT:x6 P w K mg base (CXE P w) 1 fT fdT ["tally"] (aC9 K CB):=aE6 FT.F B mM mB cB
 refine F.okX cg6 (fun cdv A outer s H vs Q E hr h=>?_)
 obtain⟨a,ns,m,rfl,hS,h1,h2,h3⟩:=h
 refine⟨_,j0 (S5 (D0 GT hr (by rfl) FT ap8 (b9 (pv 0) d5)))
  (o5 (N1 (ab8 (al9 ad6 ad6 i6 (pv 1) (an9 (v:=.int 1000000) (by rfl) mG ⟨tg,rfl⟩))) (o5 (aD9 (by rfl) mN cN)) F1)),?_⟩
 refine⟨_,rfl,a,ns,rfl,hS,fun ht=>?_,h3⟩
 refine⟨_,rfl,_,_,rfl,rfl,_,rfl,?_⟩
 by_cases hp:(1:Int)<=m
 ·rw[decide_eq_true hp]
  refine T8 ⟨_,_,rfl,rfl,_,rfl,?_⟩
  by_cases hp':m<=1000000
  ·rw[decide_eq_true hp']
   exact T9 (h1 ht ⟨hp,hp'⟩)
  ·rw[decide_eq_false hp']
   exact T8 (h2 ht fun z=>hp' z.2)
 ·rw[decide_eq_false hp]
  exact T9 ⟨_,rfl,T8 (h2 ht fun z=>hp z.1)⟩
def bv1 (K:W.Frag)(CB CN PT:Addr):Sp:=fun vs H Q E=>∃ (a:Addr) (ns:List Int) (m:Int),vs=[.ref a,.int m]/\Sq K H a ns/\(R6 ns->isM m->Tb2 PT H/\∀ (r:Addr) (H':Hp),P0 PT H H'->Tb2 PT H'->ck6 K H' r ns m.toNat->Q (.ref r) H')/\(R6 ns->¬ isM m->E (.ref CN) none H)/\(¬ R6 ns->E (.ref CB) none H)
theorem bR1:A4 ["tally","most","wall"] ["tally","most"] (p5 bw8):=.mk'
theorem bY8 {fK fω fL CN PT:Addr}{fdK:FuncData}(F:Fun K "thick_answered" "thick_answered" bw8 f fd)
  (FK:Fq K mg "check_most" be8 fK fdK ["tally","most"])(GK:x6 P w K mg base (CXE P w) 5 fK fdK ["tally","most"] (aV2 K CB CN))
  (Fω:Fq K mg "wall_with" al7 fω fdω ["tally","most"])(Gω:x6 P w K mg base (CXE P w) 5 fω fdω ["tally","most"] (as3 K CB))
  (FL:Fq K mg "thick_laid" bw7 fL fdL ["tally","most"])(GL:x6 P w K mg base CX0 5 fL fdL ["tally","most"] (bv0 K PT)):x6 P w K mg base (CXE P w) 6 f fd ["tally","most"] (bv1 K CB CN PT):=by
 refine F.okX bR1 (fun cdv A outer s H vs Q E hr h=>?_)
 obtain⟨a,ns,m,rfl,hS,h1,h2,h3⟩:=h
 refine⟨_,j0 (S5 (D0 GK hr (by rfl) FK ap8 (b9 (pv 0) (b9 (pv 1) d5))))
  (j0 (A9 (i:=2) bR1.nd rfl (Or.inl rfl) (D0 Gω hr (by rfl) Fω ap8 (b9 (pv 0) (b9 (pv 1) d5))))
  (j0 (N1 (D6 aQ3 (pv 2) aw3 (E9 _)) (o5 (C1 (M3 (b9 U2 (b9 (pv 2) d5))))) F1)
  (o5 (C1 (M3 (b9 U2 (b9 (D0 GL hr (by rfl) FL K6 (b9 (pv 0) (b9 (pv 1) d5))) d5))))))),?_⟩
 refine⟨_,rfl,_,rfl,a,ns,m,rfl,hS,fun ht hm=>?_,h2,h3⟩
 obtain⟨tb,q⟩:=h1 ht hm
 obtain⟨M,rfl⟩:∃ M:Nat,m=(M:Int):=⟨m.toNat,by have:=hm.1;omega⟩
 have hm1:=hm.1
 have hm2:=hm.2
 rw[p0]at q
 refine⟨_,rfl,_,rfl,a,ns,M,rfl,hS,by omega,fun _ v x H1 s1 hx hv=>?_,fun h=>absurd ht h⟩
 refine⟨_,rfl,rfl,_,rfl,?_⟩
 rcases hv with⟨rfl,rfl⟩ | ⟨hne,b,rfl,gb⟩
 ·refine T9 ?_
  refine⟨_,rfl,_,rfl,a,ns,M,rfl,hS.same s1,ht,by omega,hx,tb.same s1,fun r ks H2 g2 tb2 hw=>⟨(by show 2<=j8;decide),fun p fp=>?_⟩⟩
  have sp:=f6 (o:=.tup [.str "web",.ref r]) fp
  obtain⟨⟨t,zs,k1,k2,k3⟩,w1,w2,w3,w4⟩:=hw
  exact q p _ (((s1.grow PT).trans g2).trans (sp.grow PT)) (tb2.same sp) (.inr ⟨hx,r,ks,c6,⟨⟨t,zs,sp _ _ k1,sp _ _ k2,sp.tups k3⟩,w1,w2,w3,w4⟩⟩)
 ·refine T8 ⟨_,rfl,(by show 2<=j8;decide),fun p fp=>?_⟩
  have sp:=f6 (o:=.tup [.str "wall",.ref b]) fp
  exact q p _ ((s1.trans sp).grow PT) (tb.same (s1.trans sp)) (.inl ⟨x,b,hne,hx,c6,sp _ _ gb⟩)
end
end Web
namespace Web
open PySem L2
theorem rep0 (n:Nat):(C0 n [V.int 0]).flatten=(tal n []).map V.int:=by
 rw[bI5]
 exact bR5 n 0
def ai9 (K:W.Frag)(H:Hp)(p:Addr)(n:Nat)(ks:List (List Int)):Prop:=∃ t zs,SqT K H p [.int n,.ref t]/\SqT K H t zs/\B2 K H zs ks
theorem ai9.same {K:W.Frag}{p:Addr}(h:ai9 K H p n ks)(s:A3 H H'):ai9 K H' p n ks:=by
 obtain⟨t,zs,h1,h2,h3⟩:=h
 exact⟨t,zs,s.seqT h1,s.seqT h2,s.tups h3⟩
theorem ai9.dt {K:W.Frag}{p:Addr}(h:ai9 K H p n ks):Dt K H (dW n ks) (.ref p):=by
 obtain⟨t,zs,h1,h2,h3⟩:=h
 exact Dt.mkT h1 (.mkC .mkInt (.mkC (Dt.mkT h2 h3.dtAll) .mkN))
section
variable {K:W.Frag} {mg:Str->Option Value} {base:Heap}
def bQ5 (K:W.Frag):Sp:=fun vs H Q _=>∃ (p:Addr) (n:Nat) (ks:List (List Int)),vs=[.ref p]/\ai9 K H p n ks/\n<=24/\(∀ k∈ks,an0 n k)/\∀ l H',A3 H H'->H l=none->H' l=some (.lst ((tal n ks).map V.int))->Q (.ref l) H'
def ck7 (K:W.Frag)(H:Hp)(p l:Addr)(n:Nat)(ks:List (List Int))(i:Nat)(σ:St)(H2:Hp):Prop:=∃ a b,σ=[some (.ref p),some (.ref l),a,b]/\A3 H H2/\H2 l=some (.lst ((tal n (ks.take i)).map V.int))
theorem aA6:A4 ["web","tally","one","other"] ["web"] (p5 aD3):=.mk'
theorem bY9 (F:Fun K "tally_of" "tally_of" aD3 f fd):x6 P w K mg base CX0 1 f fd ["web"] (bQ5 K):=by
 refine F.ok aA6 (fun cdv A outer s H vs Q E hr h=>?_)
 obtain⟨p,n,ks,rfl,⟨t,zs,h1,h2,h3⟩,hn,hE,q⟩:=h
 have hsl:=L8
 refine⟨_,j0 (A9 (i:=1) aA6.nd rfl (Or.inl rfl) (x9 bf9 (X9 (b9 i6 d5)) (F6 F4 (pv 0) i6 (fun _ _=>rfl))))
  (j0 (ab9 PassesOwn.never rfl (am0 (F6 F4 (pv 0) i6 (fun _ _ => rfl))) (aQ1 rfl (L9 (B0 (i := 2) aA6.nd rfl (Or.inl rfl)) (L9 (B0 (i := 3) aA6.nd rfl (Or.inl rfl)) ah5)))
   (j0 (aA7 (pv 1) (pv 2) at9 i6 aR5 set_list) (o5 (aA7 (pv 1) (pv 3) at9 i6 aR5 set_list))))
  (o5 (C1 (pv 1)))),?_⟩
 have a0:atI ([.int n,.ref t]:List V) 0=some (.int n):=y7 (j:=0) rfl
 have a1:atI ([.int n,.ref t]:List V) 1=some (.ref t):=y7 (j:=1) rfl
 refine⟨(by show 1<=j8;decide),fun l0 f0=>?_⟩
 have s0:=f6 (o:=.lst [.int 0]) f0
 refine⟨_,rfl,p,_,_,_,rfl,rfl,s0.seqT h1,a0,l0,n,[.int 0],rfl,rfl,c6,by omega,by omega,?_,fun l hl=>?_⟩
 ·show 1*(n:Int).toNat<=j8
  omega
 have en:(n:Int).toNat=n:=by omega
 rw[en,rep0]
 have s1:=s0.trans (f6 (o:=.lst ((tal n []).map V.int)) hl)
 have g1:(upd (upd H l0 (.lst [.int 0])) l (.lst ((tal n []).map V.int))) l=some (.lst ((tal n []).map V.int)):=c6
 have fl:H l=none:=s0.free hl
 generalize upd (upd H l0 (.lst [.int 0])) l (.lst ((tal n []).map V.int))=H1 at s1 g1 ⊢
 have hz:=h3.len
 refine⟨_,rfl,p,_,_,_,rfl,rfl,s1.seqT h1,a1,t,rfl,⟨_,s1.seqT h2⟩,?_⟩
 refine aR7 (K:=K) (a:=t) (xs:=zs) (ck7 K H p l n ks) ⟨none,none,rfl,s1,by rw[R9];exact g1⟩ (fun i σ H2 _ ⟨_,_,_,s2,_⟩=>s2.seqT h2) ?_ ?_
 ·rintro i x σ H2 hx ⟨ea,eb,rfl,s2,g2⟩
  obtain⟨pa,pk,rfl,hk,hq⟩:=h3.get hx
  obtain⟨i1,j1,u1,u2,u3,epk⟩:=hE pk (i7 hk)
  have hq2:=s2.seqT hq
  rw[epk]at hq2
  refine⟨pa,_,rfl,hq2,rfl,_,_,rfl,_,_,rfl,rfl,?_⟩
  have t1:((tal n (ks.take i)).map V.int)[i1]?=some (.int (W4 (ks.take i) i1)):=by rw[p8,ad2 u1];rfl
  have t2:(((tal n (ks.take i)).map V.int).set i1 (.int ((W4 (ks.take i) i1:Int)+1)))[j1]?=some (.int (W4 (ks.take i) j1)):=by
   rw[ae3 u3,p8,ad2 u2];rfl
  have lt:((tal n (ks.take i)).map V.int).length=n:=by rw[b8,ad1]
  refine⟨_,rfl,_,rfl,l,_,_,_,rfl,rfl,SqL.of g2,y7 t1,_,_,rfl,rfl,l,_,_,i1,rfl,rfl,g2,by rw[lt];exact ae0 u1,?_⟩
  refine⟨_,rfl,_,rfl,l,_,_,_,rfl,rfl,SqL.of c6,y7 t2,_,_,rfl,rfl,l,_,_,j1,rfl,rfl,c6,by rw[N4,lt];exact ae0 u2,?_⟩
  refine⟨_,_,rfl,?_,?_⟩
  ·rw[aN9]
   exact s2.upd fl
  ·rw[c6,u9,hk,az7,epk,<- bj2 u1 u2 u3 (ks.take i) _ _ rfl rfl,aj3,aj3]
 ·rintro σ H2 ⟨ea,eb,rfl,s2,g2⟩
  rw[j7 (by omega)]at g2
  exact⟨_,rfl,q l H2 s2 fl g2⟩
end
theorem bM4 {a b:List Int}(ha:Up n a)(hb:Up n b)(hne:a≠b)(h:Tim.M4 b a=false):Tim.M4 a b=true:=by
 obtain⟨i,j,_,_,rfl⟩:=ha
 obtain⟨u,v,_,_,rfl⟩:=hb
 unfold Tim.M4 Tim.M4 at h ⊢
 by_cases e1:(u:Int)=i
 ·rw[if_pos e1]at h
  rw[if_pos e1.symm]
  by_cases e2:(v:Int)=j
  ·exact absurd (by rw[e1,e2]) hne
  ·rw[if_neg e2]at h
   rw[if_neg (Ne.symm e2)]
   have:=of_decide_eq_false h
   exact decide_eq_true (by omega)
 ·rw[if_neg e1]at h
  rw[if_neg (Ne.symm e1)]
  have:=of_decide_eq_false h
  exact decide_eq_true (by omega)
theorem bE2 (ups:∀ k∈ks,Up n k)(nd:ks.Nodup)(so:ks.Pairwise (fun a b=>Tim.M4 b a=false)):Asc ks:=by
 have h2:=J8.mp nd
 have h3:=so.and h2
 exact List.Pairwise.imp_of_mem (fun {a b} ha hb h=>bM4 (ups a ha) (ups b hb) h.2 h.1) h3
theorem aN7:∀ {ks:List (List Int)},(∀ k∈ks,Up n k)->ks.map up=ks
 | [],_=>rfl
 | k::ks,h=>by
  rw[o9,aN7 fun x hx=>h x (c7 _ hx)]
  rw[ce4 (h k c9)]
structure Tld (n:Nat) (ks:List (List Int)):Prop where
 ups:∀ k∈ks,Up n k
 nd:ks.Nodup
 srt:ks.Pairwise (fun a b=>Tim.M4 b a=false)
seal L2.PE L2.PA L2.PS L2.PSs L2.PT
section
variable {K:W.Frag} {mg:Str->Option Value} {base:Heap}
def aO3 (K:W.Frag):Sp:=fun vs H Q _=>∃ (p:Addr) (n:Nat) (ks:List (List Int)),vs=[.ref p]/\ai9 K H p n ks/\1<=n/\n<=24/\Tld n ks/\∀ H',A3 H H'->Q (.bl true) H'
theorem bW6:A4 ["web"] ["web"] (p5 an8):=.mk'
theorem bK9 {fV CX:Addr}{fdV:FuncData}(F:Fun K "is_told" "is_told" an8 f fd)(FV:Fq K mg "made" aD4 fV fdV ["places","ties"])(GV:x6 P w K mg base CX0 3 fV fdV ["places","ties"] (aO4 K))(mX:mg "BadWeb"=some (.ref CX)):x6 P w K mg base CX0 4 f fd ["web"] (aO3 K):=by
 refine F.ok bW6 (fun cdv A outer s H vs Q E hr h=>?_)
 obtain⟨p,n,ks,rfl,⟨t,zs,h1,h2,h3⟩,n1,hn,T,q⟩:=h
 have hun:=hr.units
 have hsl:=L8
 refine⟨_,o5 (bJ9 (by rfl) mX rfl rfl (fun _ _=>o5 (C1 (aa6 (bK5 K hr.around rfl rfl) (D0 GV hr (by rfl) FV K6 (b9 (V6 K rfl (pv 0) i6 (fun _ _=>rfl)) (b9 (V6 K rfl (pv 0) i6 (fun _ _=>rfl)) d5))) (pv 0) (E9 _)))) (fun _=>K5)),?_⟩
 have a0:atI ([.int n,.ref t]:List V) 0=some (.int n):=y7 (j:=0) rfl
 have a1:atI ([.int n,.ref t]:List V) 1=some (.ref t):=y7 (j:=1) rfl
 have hkl:=aN8 hn T.nd T.ups
 refine⟨fun _ _ _ _=>False,?_,fun _ _ _ h=>h.elim⟩
 refine⟨_,rfl,.inr (.inl ⟨p,_,_,_,rfl,rfl,h1,a0,_,rfl,.inr (.inl ⟨p,_,_,_,rfl,rfl,h1,a1,?_⟩)⟩)⟩
 refine⟨n,t,zs,ks,rfl,n1,hn,.inr h2,h3,fun k hk=>(T.ups k hk).ends,by rw[aN7 T.ups];exact T.nd,by omega,fun r t' zs2 ks2 H' s' _ _ k1 k2 tt pm so=>?_⟩
 rw[aN7 T.ups]at pm
 obtain rfl:ks2=ks:=bc1 (bE2 T.ups T.nd T.srt) pm so
 have hw:ai9 K H' p n ks2:=⟨t,zs,s'.seqT h1,s'.seqT h2,s'.tups h3⟩
 have hw2:ai9 K H' r n ks2:=⟨t',zs2,SqT.of k1,SqT.of k2,tt⟩
 refine⟨_,rfl,_,_,hw2.dt,hw.dt,bS0 _ _,bS0 _ _,?_,?_⟩
 ·refine bj0 hun (A8 (av0 _ _) ?_)
  have:=cj7 n ks2
  omega
 ·rw[if_neg k7,cj6,decide_eq_true rfl,decide_eq_true rfl]
  exact q _ s'
def bd9 (K:W.Frag):Sp:=fun vs H Q _=>∃ (a p:Addr) (ns:List Int) (n:Nat) (ks:List (List Int)),vs=[.ref a,.ref p]/\Sq K H a ns/\ai9 K H p n ks/\1<=n/\n<=24/\Tld n ks/\∀ H',A3 H H'->Q (.bl (decide (tal n ks=ns))) H'
theorem bW8:A4 ["tally","web"] ["tally","web"] (p5 aD5):=.mk'
theorem bL6 {fL:Addr}(F:Fun K "is_web_of" "is_web_of" aD5 f fd)(B:Bn mg)(FT:Fq K mg "is_told" an8 fT fdT ["web"])(GT:x6 P w K mg base CX0 4 fT fdT ["web"] (aO3 K))
  (FL:Fq K mg "tally_of" aD3 fL fdL ["web"]):x6 P w K mg base CX0 5 f fd ["tally","web"] (bd9 K):=by
 have GL:x6 P w K mg base CX0 4 fL fdL ["web"] (bQ5 K):=(bY9 FL.F).mono (by decide)
 refine F.ok bW8 (fun cdv A outer s H vs Q E hr h=>?_)
 obtain⟨a,p,ns,n,ks,rfl,hS,hw,n1,hn,T,q⟩:=h
 have hun:=hr.units
 refine⟨_,o5 (C1 (bX8 (D0 GT hr (by rfl) FT K6 (b9 (pv 1) d5)) (bX6 (aa6 bg1 (D0 GL hr (by rfl) FL K6 (b9 (pv 1) d5)) (N0 ai2 (by rfl) B.list (by rfl) (b9 (pv 0) d5)) (E9 _))))),?_⟩
 refine⟨_,rfl,p,n,ks,rfl,hw,n1,hn,T,fun H1 s1=>⟨_,rfl,T8 ?_⟩⟩
 refine⟨_,rfl,p,n,ks,rfl,hw.same s1,hn,fun k hk=>(T.ups k hk).ends,fun l H2 s2 fl gl=>?_⟩
 have s12:=s1.trans s2
 refine⟨_,rfl,a,_,rfl,hS.same s12,fun l3 f3=>?_⟩
 have s3:=f6 (o:=.lst (ns.map V.int)) f3
 refine⟨.list ((tal n ks).map .int),.list (ns.map .int),Dt.mkLi (SqL.of (s3 _ _ gl)),Dt.mkLi (SqL.of c6),aQ9 _,aQ9 _,?_,?_⟩
 ·refine bj0 hun (A8 (av0 _ _) ?_)
  have:=bC9 (tal n ks)
  omega
 ·have:=q _ (s12.trans s3)
  rw[<- bC3]at this
  exact this
def be1 (K:W.Frag):Sp:=fun vs H Q _=>∃ (a r p:Addr) (ns:List Int) (n:Nat) (ks:List (List Int)),vs=[.ref a,.ref r]/\Sq K H a ns/\R6 ns/\SqT K H r [.str "web",.ref p]/\ai9 K H p n ks/\1<=n/\n<=24/\Tld n ks/\∀ H',A3 H H'->Q (.bl (decide (tal n ks=ns))) H'
theorem bX0:A4 ["tally","told"] ["tally","told"] (p5 aX0):=.mk'
theorem bL8 {fO:Addr}(F:Fun K "answer_shows" "answer_shows" aX0 f fd)(FT:Fq K mg "check_tally" aq9 fT fdT ["tally"])(GT:x6 P w K mg base (CXE P w) 5 fT fdT ["tally"] (aC9 K CB))
  (FO:Fq K mg "is_web_of" aD5 fO fdO ["tally","web"])(GO:x6 P w K mg base CX0 5 fO fdO ["tally","web"] (bd9 K)):x6 P w K mg base CX0 6 f fd ["tally","told"] (be1 K):=by
 refine F.ok bX0 (fun cdv A outer s H vs Q E hr h=>?_)
 obtain⟨a,r,p,ns,n,ks,rfl,hS,ht,hr1,hw,n1,hn,T,q⟩:=h
 refine⟨_,j0 (S5 (D0 GT hr (by rfl) FT (af8 (P:=P) (w:=w)) (b9 (pv 0) d5)))
  (j0 (N1 (D6 ai7 (F6 F4 (pv 1) i6 (fun _ _=>rfl)) U2 (E9 _)) (o5 (C1 (D0 GO hr (by rfl) FO K6 (b9 (pv 0) (b9 (F6 F4 (pv 1) i6 (fun _ _=>rfl)) d5))))) F1) K5),?_⟩
 have a0:atI ([.str "web",.ref p]:List V) 0=some (.str "web"):=y7 (j:=0) rfl
 have a1:atI ([.str "web",.ref p]:List V) 1=some (.ref p):=y7 (j:=1) rfl
 refine⟨_,rfl,a,ns,rfl,hS,fun _=>?_,fun h=>absurd ht h⟩
 refine⟨_,rfl,r,_,_,_,rfl,rfl,hr1,a0,rfl,_,rfl,?_⟩
 rw[decide_eq_true rfl]
 refine T8 ?_
 exact⟨_,rfl,_,rfl,r,_,_,_,rfl,rfl,hr1,a1,a,p,ns,n,ks,rfl,hS,hw,n1,hn,T,q⟩
end
end Web
namespace L2
open PySem PySem.Spec PyProof.Rows
section
variable {a b c d:Expr} {tb tc td:TE}
end
end L2
namespace HT
open PySem PyProof.Rows
section
open PySem.SeqAt
open PySem.AutoSeq1 (wpAny_loadPart')
open PySem.MeetsSeq PySem.MeetsSeq2 PySem.MeetsSeq3
end
end HT
namespace L2
open PySem PySem.Spec PyProof.Rows
end L2
namespace Web
open PySem L2
theorem bD7 (u v:Nat)(m:Int)(i:Nat):ab0 [[(u:Int),(v:Int),m]] i=(if u=i then m else 0)+(if v=i then m else 0):=by
 show (if (u:Int)=(i:Int) then m else 0)+(if (v:Int)=(i:Int) then m else 0)+0=_
 rw[aT4]
 congr 1
 ·by_cases h:u=i
  ·rw[if_pos h,if_pos (by omega)]
  ·rw[if_neg h,if_neg (by omega)]
 ·by_cases h:v=i
  ·rw[if_pos h,if_pos (by omega)]
  ·rw[if_neg h,if_neg (by omega)]
theorem aw9 {ts:List Int}{x:Int}(hi:i<ts.length):(ts.set i x).getD j 0=if i=j then x else ts.getD j 0:=by
 rw[i8,aJ5,i8]
 by_cases h:i=j
 ·rw[if_pos h,if_pos h,if_pos hi];rfl
 ·rw[if_neg h,if_neg h]
def W5 (n:Nat)(ks:List (List Int)):List Int:=(u7 n).map (ab0 ks)
theorem bD6 {u v:Nat}{m:Int}(hu:u<n)(hv:v<n)(hne:u≠v) :
  ((W5 n ks).set u ((W5 n ks).getD u 0+m)).set v (((W5 n ks).set u ((W5 n ks).getD u 0+m)).getD v 0+m)=W5 n (ks++[[(u:Int),(v:Int),m]]):=by
 have l0:(W5 n ks).length=n:=by unfold W5;rw[b8,v8]
 have l1:(W5 n (ks++[[(u:Int),(v:Int),m]])).length=n:=by unfold W5;rw[b8,v8]
 have g:∀ {qs:List (List Int)} {i:Nat},i<n->(W5 n qs).getD i 0=ab0 qs i:=fun hi=>ag1 hi
 refine aw7 (by rw[N4,N4,l0,l1]) fun i hi=>?_
 rw[l1]at hi
 rw[aw9 (by rw[N4];omega),aw9 (by omega),aw9 (by omega),g hi,g hi,au2,bD7,g hu,g hv]
 by_cases e1:v=i
 ·subst e1
  rw[if_pos rfl,if_neg hne,if_neg hne,if_pos rfl]
  omega
 ·rw[if_neg e1,if_neg e1]
  by_cases e2:u=i
  ·subst e2
   rw[if_pos rfl,if_pos rfl]
   omega
  ·rw[if_neg e2,if_neg e2]
   omega
theorem bm7 {os:List Int}(hl:os.length=n)(h:∀ i,i<n->ab0 ks i=os.getD i 0):W5 n ks=os:=by
 refine aw7 (by unfold W5;rw[b8,v8,hl]) fun i hi=>?_
 unfold W5
 rw[ag1 (by omega)]
 exact h i (by omega)
def two (k:List Int):List Int:=[k.getD 0 0,k.getD 1 0]
theorem ba0 (h:aQ8 k k'):two k≠two k'/\Tim.M4 (two k') (two k)=false:=by
 unfold aQ8 at h
 unfold two
 generalize k.getD 0 0=a at h ⊢
 generalize k.getD 1 0=b at h ⊢
 generalize k'.getD 0 0=c at h ⊢
 generalize k'.getD 1 0=d at h ⊢
 constructor
 ·intro e
  injection e with e1 e2
  injection e2 with e2 _
  omega
 ·unfold Tim.M4 Tim.M4
  by_cases e1:c=a
  ·rw[if_pos e1]
   by_cases e2:d=b
   ·omega
   ·rw[if_neg e2]
    exact decide_eq_false (by omega)
  ·rw[if_neg e1]
   exact decide_eq_false (by omega)
theorem bj1 {M:Nat}(tr:∀ k∈ks,tri n M k)(pw:ks.Pairwise aQ8):Tld n (ks.map two):=by
 refine⟨fun k hk=>?_,?_,?_⟩
 ·obtain⟨q,hq,rfl⟩:=u5.mp hk
  obtain⟨i,j,x,rfl,h1,h2,_⟩:=tr q hq
  exact⟨i,j,h1,h2,rfl⟩
 ·refine J8.mpr (F5.mpr (pw.imp fun h=>(ba0 h).1))
 ·exact F5.mpr (pw.imp fun h=>(ba0 h).2)
seal L2.PE L2.PA L2.PS L2.PSs L2.PT
section
variable {K:W.Frag} {mg:Str->Option Value} {base:Heap}
def bQ6 (K:W.Frag):Sp:=fun vs H Q _=>∃ (b t:Addr) (n:Nat) (zs:List V) (ks:List (List Int)),vs=[.ref b]/\n<=24/\SqT K H b [.int n,.ref t]/\SqT K H t zs/\B2 K H zs ks/\(∃ M:Nat,∀ k∈ks,tri n M k)/\∀ (l:Addr) (H':Hp),A3 H H'->H l=none->H' l=some (.lst ((W5 n ks).map V.int))->Q (.ref l) H'
theorem aV6:A4 ["web","tally","one","other","many"] ["web"] (p5 bw9):=.mk'
theorem bY4 (F:Fun K "thick_tally" "thick_tally" bw9 f fd):x6 P w K mg base CX0 1 f fd ["web"] (bQ6 K):=by
 refine F.ok aV6 (fun cdv A outer s H vs Q E hr h=>?_)
 obtain⟨b,a,n,zs,ks,rfl,hn,hb,hS,hT,⟨M,htr⟩,q⟩:=h
 have hsl:=L8
 refine⟨_,j0 (A9 (i:=1) aV6.nd rfl (Or.inl rfl) (x9 bf9 (X9 (b9 i6 d5)) (F6 F4 (pv 0) i6 (fun _ _=>rfl))))
  (j0 (ab9 PassesOwn.never rfl (am0 (F6 F4 (pv 0) i6 (fun _ _ => rfl))) (aQ1 rfl (L9 (B0 (i := 2) aV6.nd rfl (Or.inl rfl)) (L9 (B0 (i := 3) aV6.nd rfl (Or.inl rfl)) (L9 (B0 (i := 4) aV6.nd rfl (Or.inl rfl)) ah5))))
   (j0 (aA7 (pv 1) (pv 2) at9 (pv 4) aR5 set_list) (o5 (aA7 (pv 1) (pv 3) at9 (pv 4) aR5 set_list))))
  (o5 (C1 (pv 1)))),?_⟩
 have a0:atI ([.int n,.ref a]:List V) 0=some (.int n):=y7 (j:=0) rfl
 have a1:atI ([.int n,.ref a]:List V) 1=some (.ref a):=y7 (j:=1) rfl
 have hk:=cj2 (k:=(n:Int)) (by omega) (by omega)
 refine⟨(by show 1<=j8;decide),fun l0 f0=>?_⟩
 have s0:=f6 (o:=.lst [.int 0]) f0
 refine⟨_,rfl,b,_,_,_,rfl,rfl,s0.seqT hb,a0,l0,_,_,rfl,rfl,c6,hk.1,hk.2,by show 1*_<=j8;omega,fun l hl=>?_⟩
 have hlH:H l=none:=s0.free hl
 rw[p0,bR5]
 have e00:C0 n (0:Int)=W5 n []:=by
  refine aw7 (by unfold W5;rw[bF3,b8,v8]) fun i hi=>?_
  unfold W5 at hi ⊢
  rw[b8,v8]at hi
  rw[ag1 hi,i8,bs8,if_pos hi]
  rfl
 rw[e00]
 have sA:=s0.trans (f6 (o:=.lst ((W5 n []).map V.int)) hl)
 have gA:(upd (upd H l0 (.lst [.int 0])) l (.lst ((W5 n []).map V.int))) l=some (.lst ((W5 n []).map V.int)):=c6
 generalize upd (upd H l0 (.lst [.int 0])) l (.lst ((W5 n []).map V.int))=HA at sA gA
 have hzl:=hT.len
 have lC:∀ qs,(W5 n qs).length=n:=fun qs=>by unfold W5;rw[b8,v8]
 refine⟨_,rfl,b,_,_,_,rfl,rfl,sA.seqT hb,a1,a,rfl,⟨_,sA.seqT hS⟩,?_⟩
 refine aR7 (K:=K) (a:=a) (xs:=zs) (fun j σ H2=>∃ (e3 e4 e5:Option V),σ=[some (.ref b),some (.ref l),e3,e4,e5]/\A3 H H2/\H2 l=some (.lst ((W5 n (ks.take j)).map V.int)))
  ⟨none,none,none,rfl,sA,by rw[R9];exact gA⟩ (fun i σ H2 _ ⟨_,_,_,_,s,_⟩=>s.seqT hS) ?_ ?_
 ·rintro i x σ H2 hx ⟨e3,e4,e5,rfl,s2,g2⟩
  obtain⟨pa,pk,rfl,hk',hq⟩:=hT.get hx
  obtain⟨u,v,m,rfl,huv,hv,_⟩:=htr _ (i7 hk')
  have hu':u<(W5 n (ks.take i)).length:=by rw[lC];omega
  refine⟨pa,_,rfl,s2.seqT hq,rfl,_,_,rfl,_,_,rfl,_,_,rfl,rfl,?_⟩
  refine⟨_,rfl,_,rfl,l,_,_,_,rfl,rfl,SqL.of g2,ar8 hu',_,rfl,_,_,rfl,rfl,l,_,_,u,rfl,rfl,g2,ae0 (by rw[b8];exact hu'),?_⟩
  rw[ay1]
  have hv2:v<((W5 n (ks.take i)).set u ((W5 n (ks.take i)).getD u 0+m)).length:=by rw[N4,lC];omega
  refine⟨_,rfl,_,rfl,l,_,_,_,rfl,rfl,SqL.of c6,ar8 hv2,_,rfl,_,_,rfl,rfl,l,_,_,v,rfl,rfl,c6,ae0 (by rw[b8];exact hv2),?_⟩
  rw[ay1,aN9,bD6 (by omega) hv (by omega)]
  refine⟨_,_,_,rfl,s2.upd hlH,?_⟩
  rw[c6,u9,hk']
  rfl
 ·rintro σ H2 ⟨e3,e4,e5,rfl,s2,g2⟩
  rw[j7 (by omega)]at g2
  exact⟨_,rfl,q l H2 s2 hlH g2⟩
end
end Web
namespace Web
open PySem L2
def allM (M:Nat)(ks:List (List Int)):Bool:=ks.all fun k=>decide (k.getD 2 0<=(M:Int))
theorem bO5 {M M0:Nat}(h:∀ k∈ks,tri n M0 k)(hM:M0<=M):allM M ks=true:=by
 refine J2.mpr fun k hk=>?_
 obtain⟨i,j,x,rfl,_,_,_,h4⟩:=h k hk
 exact decide_eq_true (show x<=(M:Int) by omega)
seal L2.PE L2.PA L2.PS L2.PSs L2.PT
section
variable {K:W.Frag} {mg:Str->Option Value} {base:Heap}
def bv7 (K:W.Frag):Sp:=fun vs H Q _=>∃ (a b:Addr) (os:List Int) (M M0:Nat) (ks:List (List Int)),vs=[.ref a,.int M,.ref b]/\Sq K H a os/\R6 os/\ThW K H b os M0 ks/\∀ H',A3 H H'->Q (.bl (allM M ks)) H'
theorem bR2:A4 ["tally","most","web","thin"] ["tally","most","web"] (p5 bx0):=.mk'
set_option maxHeartbeats 2000000 in
theorem bZ4 {fL:Addr} (F:Fun K "is_thick_web_of" "is_thick_web_of" bx0 f fd) (B:Bn mg) (FT:Fq K mg "is_told" an8 fT fdT ["web"]) (GT:x6 P w K mg base CX0 4 fT fdT ["web"] (aO3 K))
  (FL:Fq K mg "thick_tally" bw9 fL fdL ["web"]):x6 P w K mg base CX0 5 f fd ["tally","most","web"] (bv7 K):=by
 have GL:x6 P w K mg base CX0 4 fL fdL ["web"] (bQ6 K):=(bY4 FL.F).mono (by decide)
 refine F.ok bR2 (fun cdv A outer s H vs Q E hr h=>?_)
 obtain⟨a,b,os,M,M0,ks,rfl,hS,ht,⟨⟨t,zs,h1,h2,h3⟩,tr,pw,ct,hlen⟩,q⟩:=h
 have hun:=hr.units
 have hsl:=L8
 have nd1:(["triple"]:List Str).Nodup:=by decide +kernel
 have nd2:(["triple","most"]:List Str).Nodup:=by decide +kernel
 refine⟨_,j0 (A9 (i:=3) bR2.nd rfl (Or.inl rfl) (M3 (b9 (F6 F4 (pv 2) i6 (fun _ _=>rfl)) (b9 (N0 N9 (by rfl) B.tuple (by rfl) (b9
    (N2 (N' := ["triple"]) (lk := [none]) rfl (am0 (F6 F4 (pv 2) i6 (fun _ _ => rfl))) (by rfl) rfl (by decide +kernel) (by exact trivial) (by rfl) (by exact LkL.ok trivial)
     (fun _ _ _=>B0 (i:=0) nd1 rfl (Or.inl rfl)) (fun _ _ _=>S4) (fun _ _ _=>M3 (b9 (aQ2 K rfl (pv 0) i6 (fun _ _=>rfl)) (b9 (aQ2 K rfl (pv 0) i6 (fun _ _=>rfl)) d5)))) d5)) d5))))
  (j0 (N1 (PW.pt (bx4 (ab8 (ar0 (D0 GT hr (by rfl) FT K6 (b9 (pv 3) d5))))
    (bf3 (ab8 (ar0 (A6 (bs3 rfl) (by rfl) B.all boot_all (b9
    (N2 (N' := ["triple", "most"]) (lk := [none, some 1]) rfl (am0 (F6 F4 (pv 2) i6 (fun _ _ => rfl))) (by rfl) rfl (by decide +kernel) (by exact ⟨rfl, trivial⟩) (by rfl) (by exact LkL.ok ⟨⟨rfl, Or.inl rfl, rfl, Or.inl rfl⟩, trivial⟩)
     (fun _ _ _=>B0 (i:=0) nd2 rfl (Or.inl rfl)) (fun _ _ _=>S4) (fun _ _ _=>aX9 ad6 ad6 i6 (aQ2 K rfl (pv 0) i6 (fun _ _=>rfl)) (pv 1))) d5))))))) (o5 (C1 by3)) F1)
  (o5 (C1 (aa6 bg1 (D0 GL hr (by rfl) FL K6 (b9 (pv 2) d5)) (N0 ai2 (by rfl) B.list (by rfl) (b9 (pv 0) d5)) (E9 _))))),?_⟩
 have a0:atI ([.int os.length,.ref t]:List V) 0=some (.int os.length):=y7 (j:=0) rfl
 have a1:atI ([.int os.length,.ref t]:List V) 1=some (.ref t):=y7 (j:=1) rfl
 have hb:=SqT.of (K:=K) h1
 have htt:=SqT.of (K:=K) h2
 have hzl:=h3.len
 refine⟨_,rfl,b,_,_,_,rfl,rfl,hb,a0,_,rfl,b,_,_,_,rfl,rfl,hb,a1,t,rfl,⟨_,htt⟩,fun D hD=>am6 (K:=K) (a:=t) (D:=D) (ys:=zs) (fun i xs σ' H'=>(∃ v,σ'=[v])/\A3 H H'/\H' D=some (.lst xs)/\B2 K H' xs ((ks.take i).map two))
  ⟨⟨none,rfl⟩,f6 hD,c6,by rw[R9];exact .nil⟩ (by omega) (fun i xs σ' H' hi ⟨_,s6,h6,t6⟩=>⟨s6.seqT htt,h6,by have:=t6.len;rw[b8,o8]at this;omega⟩) ?_ ?_⟩
 ·rintro i xs x σ' H' N kN hx ⟨⟨v,rfl⟩,s6,h6,t6⟩
  obtain⟨pa,pk,rfl,hk',hq⟩:=h3.get hx
  obtain⟨u,v',m,rfl,_⟩:=tr _ (i7 hk')
  have b0:atI (([(u:Int),(v':Int),m]:List Int).map V.int) 0=some (.int u):=y7 (j:=0) rfl
  have b1:atI (([(u:Int),(v':Int),m]:List Int).map V.int) 1=some (.int v'):=y7 (j:=1) rfl
  refine C2 (O5 ?_)
  refine⟨_,rfl,pa,_,_,_,rfl,rfl,s6.seqT hq,b0,_,rfl,pa,_,_,_,rfl,rfl,s6.seqT hq,b1,(by show 2<=j8;decide),fun p fp=>?_⟩
  have sp:=f6 (o:=.tup [.int (u:Int),.int (v':Int)]) fp
  have h6':=sp _ _ h6
  refine⟨h6',kN _ _ _ ⟨⟨_,rfl⟩,(s6.trans sp).upd hD,c6,?_⟩⟩
  rw[u9,hk',k8]
  exact B2.updL h6' (B2.append (sp.tups t6) (B2.one (SqT.of c6)))
 ·rintro xs σ' H1 ⟨⟨v,rfl⟩,s1,g1,t1⟩
  rw[j7 (by omega)]at t1
  refine⟨D,_,rfl,.inl ⟨SqL.of g1,fun l hl=>?_⟩⟩
  have sl:=f6 (o:=.tup xs) hl
  refine⟨(by show 2<=j8;decide),fun p fp=>?_⟩
  have sp:=f6 (o:=.tup [.int os.length,.ref l]) fp
  have s3:=s1.trans (sl.trans sp)
  have T:=bj1 tr pw
  have hw:ai9 K (upd (upd H1 l (.tup xs)) p (.tup [.int os.length,.ref l])) p os.length (ks.map two):=⟨l,xs,SqT.of c6,SqT.of (sp _ _ c6),(sl.trans sp).tups t1⟩
  generalize upd (upd H1 l (.tup xs)) p (.tup [.int os.length,.ref l])=H2 at s3 hw ⊢
  refine⟨_,rfl,p,os.length,_,rfl,hw,ht.1,ht.2,T,fun H3 s4=>⟨_,rfl,T9 ?_⟩⟩
  have s34:=s3.trans s4
  refine⟨_,rfl,b,_,_,_,rfl,rfl,s34.seqT hb,a1,t,rfl,⟨_,s34.seqT htt⟩,fun D2 hD2=>am6 (K:=K) (a:=t) (D:=D2) (ys:=zs) (fun i xs σ' H'=>(∃ v,σ'=[v,some (.int M)])/\A3 H3 H'/\H' D2=some (.lst xs)/\xs=((ks.take i).map fun k=>decide (k.getD 2 0<=(M:Int))).map V.bl)
   ⟨⟨none,rfl⟩,f6 hD2,c6,by rw[R9];rfl⟩ (by omega) (fun i xs σ' H' hi ⟨_,s6,h6,e6⟩=>⟨(s34.trans s6).seqT htt,h6,by rw[e6,b8,b8,o8];omega⟩) ?_ ?_⟩
  ·rintro i xs x σ' H' N kN hx ⟨⟨v,rfl⟩,s6,h6,rfl⟩
   obtain⟨pa,pk,rfl,hk',hq⟩:=h3.get hx
   obtain⟨u,v',m,rfl,_,_,m1,m2⟩:=tr _ (i7 hk')
   have b2:atI (([(u:Int),(v':Int),m]:List Int).map V.int) 2=some (.int m):=y7 (j:=2) rfl
   refine C2 (O5 ?_)
   refine⟨_,rfl,pa,_,_,_,rfl,rfl,(s34.trans s6).seqT hq,b2,_,_,rfl,rfl,_,rfl,?_⟩
   rw[decide_eq_true m1]
   refine T8 ⟨_,rfl,_,_,rfl,rfl,?_⟩
   refine⟨h6,kN _ _ _ ⟨⟨_,rfl⟩,s6.upd hD2,c6,?_⟩⟩
   show _++[V.bl (decide (m<=(M:Int)))]=_
   rw[u9,hk',k8,k8]
   rfl
  ·rintro xs σ' H4 ⟨⟨v,rfl⟩,s5,g5,rfl⟩
   rw[j7 (by omega)]at g5
   refine⟨D2,_,rfl,g5,?_⟩
   have s45:=s34.trans s5
   have e:(ks.map fun k=>decide (k.getD 2 0<=(M:Int))).all id=allM M ks:=by rw[List.all_map];rfl
   rw[e]
   cases hab:allM M ks with
   | false =>
    rw[hab]at q
    exact⟨_,rfl,T8 (q _ s45)⟩
   | true =>
   rw[hab]at q
   refine⟨_,rfl,T9 ?_⟩
   refine⟨_,rfl,b,t,os.length,zs,ks,rfl,ht.2,s45.seqT hb,s45.seqT htt,s45.tups h3,⟨M0,tr⟩,fun l9 H9 s9 _ g9=>?_⟩
   rw[bm7 rfl ct]at g9
   refine⟨_,rfl,a,_,rfl,(hS.same (s45.trans s9)),fun l10 f10=>?_⟩
   have s10:=f6 (o:=.lst (os.map V.int)) f10
   refine⟨.list (os.map .int),.list (os.map .int),Dt.mkLi (SqL.of (s10 _ _ g9)),Dt.mkLi (SqL.of c6),aQ9 _,aQ9 _,?_,?_⟩
   ·refine bj0 hun (A8 (av0 _ _) ?_)
    have:=bC9 os
    omega
   ·have:=q _ ((s45.trans s9).trans s10)
    rw[<- decide_eq_true (rfl:os=os),<- bC3]at this
    exact this
def bu8 (K:W.Frag):Sp:=fun vs H Q _=>∃ (a r b:Addr) (os:List Int) (M M0:Nat) (ks:List (List Int)),vs=[.ref a,.int M,.ref r]/\Sq K H a os/\R6 os/\1<=M/\M<=1000000/\SqT K H r [.str "web",.ref b]/\ThW K H b os M0 ks/\∀ H',A3 H H'->Q (.bl (allM M ks)) H'
theorem cg2:A4 ["tally","most","told"] ["tally","most","told"] (p5 bw5):=.mk'
theorem bY5 {fK fO CN:Addr}{fdK:FuncData}(F:Fun K "thick_shows" "thick_shows" bw5 f fd)(FK:Fq K mg "check_most" be8 fK fdK ["tally","most"])(GK:x6 P w K mg base (CXE P w) 5 fK fdK ["tally","most"] (aV2 K CB CN))
  (FO:Fq K mg "is_thick_web_of" bx0 fO fdO ["tally","most","web"])(GO:x6 P w K mg base CX0 5 fO fdO ["tally","most","web"] (bv7 K)):x6 P w K mg base CX0 6 f fd ["tally","most","told"] (bu8 K):=by
 refine F.ok cg2 (fun cdv A outer s H vs Q E hr h=>?_)
 obtain⟨a,r,b,os,M,M0,ks,rfl,hS,ht,hM1,hM2,hr1,hw,q⟩:=h
 have hM:isM (M:Int):=⟨by omega,by omega⟩
 refine⟨_,j0 (S5 (D0 GK hr (by rfl) FK (af8 (P:=P) (w:=w)) (b9 (pv 0) (b9 (pv 1) d5))))
  (j0 (N1 (D6 ai7 (F6 F4 (pv 2) i6 (fun _ _=>rfl)) U2 (E9 _)) (o5 (C1 (D0 GO hr (by rfl) FO K6 (b9 (pv 0) (b9 (pv 1) (b9 (F6 F4 (pv 2) i6 (fun _ _=>rfl)) d5)))))) F1)
  K5),?_⟩
 have a0:atI ([.str "web",.ref b]:List V) 0=some (.str "web"):=y7 (j:=0) rfl
 have a1:atI ([.str "web",.ref b]:List V) 1=some (.ref b):=y7 (j:=1) rfl
 refine⟨_,rfl,_,rfl,a,os,(M:Int),rfl,hS,fun _ _=>?_,fun _ h=>absurd hM h,fun h=>absurd ht h⟩
 refine⟨_,rfl,r,_,_,_,rfl,rfl,hr1,a0,rfl,_,rfl,?_⟩
 rw[decide_eq_true rfl]
 exact T8 ⟨_,rfl,_,rfl,_,rfl,r,_,_,_,rfl,rfl,hr1,a1,a,b,os,M,M0,ks,rfl,hS,ht,hw,fun H' s'=>q H' s'⟩
end
end Web
namespace Web
open PySem L2
theorem bk9 {t t':Int}(h:t<=t'):∀ xs:List Int,(xs.map (mn t)).sum<=(xs.map (mn t')).sum
 | []=>E2 _
 | x::xs=>by
  rw[o9,o9,G5,G5]
  have:=bk9 h xs
  have:mn t x<=mn t' x:=by unfold mn;split<;>split<;>omega
  omega
theorem bf1 (ns:List Int){M M' r:Nat}(h:M<=M')(hr:1<=r):aa0 ns M r<=aa0 ns M' r:=by
 unfold aa0 part
 have h1:(M:Int)*(r:Int)<=(M':Int)*(r:Int):=L1 (by omega) (by omega)
 have h2:=L1 h1 (show (0:Int)<=(r:Int) - 1 by omega)
 have h3:=bk9 h1 ((up2 ns).take (ns.length - r))
 omega
theorem aL5 {M M':Nat}(h:M<=M')(f:Z4 ns M .free):Z4 ns M' .free:=⟨f.1,f.2.1,fun k k1 k2=>Y4 (f.2.2 k k1 k2) (bf1 ns h k1)⟩
theorem aE7 {M:Nat}{x:Wl}(h:Z4 ns M x)(hx:x≠.free):¬ Z4 ns M .free:=fun f=>by
 cases x with
 | below p =>
  obtain⟨⟨y,h1,h2⟩,_⟩:=h
  have:=f.1 p y h1
  omega
 | odd=>exact f.2.1 h.2
 | wall r =>
  have:=f.2.2 r h.2.2.1 h.2.2.2.1
  have:=h.2.2.2.2.1
  omega
 | free=>exact hx rfl
def Lst (ns:List Int)(v:V):Prop:=(v=.non/\¬ Z4 ns 1000000 .free)\/∃ r:Nat,v=.int r/\1<=r/\r<=1000000/\Z4 ns r .free/\(1<r->¬ Z4 ns (r - 1) .free)
seal L2.PE L2.PA L2.PS L2.PSs L2.PT
section
variable {K:W.Frag} {mg:Str->Option Value} {base:Heap}
def bZ8 (st:Stmt):Pos:=match (Q6 st).getD 1 (.Pass ⟨0,0,0,0⟩) with
 | .Return (some (.Call _ [_,_,.Lambda _ _ _ p] _ _)) _=>p
 | _=>⟨0,0,0,0⟩
def ac1 (st:Stmt):Arguments × Expr × Scope:=match (Q6 st).getD 1 (.Pass ⟨0,0,0,0⟩) with
 | .Return (some (.Call _ [_,_,.Lambda a b c _] _ _)) _=>(a,b,c)
 | _=>({ posonlyargs:=[],args:=[],vararg:=none,kwonlyargs:=[],kw_defaults:=[],kwarg:=none,defaults:=[] },.Constant .none 0 ⟨0,0,0,0⟩,{ kind:=.function,names:=[],isGenerator:=false,isCoroutine:=false })
def ay5:Str:=(("least_most":Str)++(".<locals>.":Str))++("<lambda>":Str)
abbrev Tb3 (P:Addr)(H:Hp):Prop:=R7 P (bZ8 N8) ay5 H
def aO5 (K:W.Frag)(CB PT:Addr):Sp:=fun vs H Q E=>∃ (a:Addr) (ns:List Int),vs=[.ref a]/\Sq K H a ns/\(R6 ns->Tb3 PT H/\∀ (v:V) (H':Hp),P0 PT H H'->Tb3 PT H'->Lst ns v->Q v H')/\(¬ R6 ns->E (.ref CB) none H)
theorem bJ2:A4 ["tally"] ["tally"] (p5 N8):=.mk'
theorem by8 {fF fβ fω fW PT:Addr}{tg:Tok}(F:Fun K "least_most" "least_most" N8 f fd)(hc:fd.code=.ref c)(LB:ap0 base mg c PT)(B:Bn mg)(FT:Fq K mg "check_tally" aq9 fT fdT ["tally"])
  (FF:Fq K mg "falling" ap7 fF fdF ["tally"])(FA:Fq K mg "room_among" ae5 fA fdA ["numbers","most","r"])
  (Fβ:Fq K mg "places_below" al8 fβ fdβ ["numbers"])(Fω:Fq K mg "wall_with" al7 fω fdω ["tally","most"])
  (FW:Fq K mg "least_where" av8 fW fdW ["low","high","holds"])
  (mM:mg "MOST_PLACES"=some (.int 24 tk))(mG:mg "GREATEST_MOST"=some (.int 1000000 tg))(mB:mg "BadTally"=some (.ref CB))(cB:ak0 K CB):x6 P w K mg base (CXE P w) 5 f fd ["tally"] (aO5 K CB PT):=by
 have Gω:x6 P w K mg base (CXE P w) 2 fω fdω ["tally","most"] (as3 K CB):=aE5 Fω.F B FT FF FA Fβ mM mB cB
 have GW:x6 P w K mg base CX0 4 fW fdW ["low","high","holds"] (aO2 P w K mg base 3):=aY3 FW.F
 refine F.okXC hc bJ2 (fun A outer s H vs Q E hr h=>?_)
 obtain⟨a,ns,rfl,hS,h1,h2⟩:=h
 have hsl:=L8
 refine⟨_,j0 (N1 (D6 aQ3 (ao0 (Gω.mono (show 2<=4 by decide)) hr (by rfl) Fω.m Fω.F.kp Fω.b .nil ap8 (b9 (pv 0) (b9 (an9 (v:=.int 1000000) rfl mG ⟨_,rfl⟩) d5))) aw3 (by rfl)) (o5 (C1 aw3)) F1)
  (o5 (C1 (aY0 (js:=[(0,s.heap.objs.size+1)]) GW hr (by rfl) FW.m FW.F.kp FW.b (fun q hq=>by rw[B5.mp hq];exact⟨P3 _,"tally",rfl,rfl,rfl⟩) (b9 i6 (b9 (an9 (v:=.int 1000000) rfl mG ⟨_,rfl⟩) (b9 (bf7 LB rfl (by rfl) (by rfl)) d5)))))),?_⟩
 refine⟨_,rfl,a,ns,1000000,rfl,hS,c8 _,fun ht v x H1 s1 hx hv=>⟨rfl,_,rfl,?_⟩,h2⟩
 obtain⟨tb,q⟩:=h1 ht
 rcases hv with⟨rfl,rfl⟩ | ⟨hne,a',rfl,_⟩
 ·refine T9 ⟨tb.same s1,fun fl c' ctv H2 g2 tb2 hfn hfo hco l hl hjv=>?_⟩
  obtain⟨oc,u,hlc,hd,ru⟩:=hjv _ c9 (.ref a) rfl
  have hS2:Sq K H2 a ns:=(hS.same s1).grow g2 (tb.same s1)
  have st:=aV8 hl
  refine⟨1,1000000,fl,PySem.W.kla_obj "<lambda>" ay5 (ac1 N8).1 (ac1 N8).2.1 (ac1 N8).2.2 [("tally",s.heap.objs.size+1)] ((mg "__name__").getD .none) c' ctv,PySem.W.kla_fn "<lambda>" ay5 (ac1 N8).1 (ac1 N8).2.1 (ac1 N8).2.2 [("tally",s.heap.objs.size+1)] ((mg "__name__").getD .none) (.ref c') ctv,"most",?sp,?J,?p,rfl,by decide,rfl,?F,?b,?h3,?h4,?h5,?h6⟩
  case F =>
   refine bz7 (k:=2) (p:="most") (qual:=ay5) (params:=(ac1 N8).1) (body:=(ac1 N8).2.1) (scope:=(ac1 N8).2.2) (cl:=[("tally",s.heap.objs.size+1)]) (f:=fl) (c':=c') (l:=l) (cvs:=[some (.ref a)]) (N':=["tally"]) rfl rfl rfl (by rfl) rfl ?_ ?_ rfl ?_ (fun A' outer' s' H' hr'=>aa6 bY0 (ao0 Gω hr' (by rfl) Fω.m Fω.F.kp Fω.b .nil af8 (b9 (pv 1) (b9 (pv 0) d5))) aw3 (by rfl))
   ·intro x y c hx hy
    have ex:x="tally":=by
     by_cases z:x="tally"
     ·exact z
     ·have zz:(x == ("tally":Str))=false:=by simpa using z
      simp[C8,zz]at hx
    have ey:y="tally":=by
     by_cases z:y="tally"
     ·exact z
     ·have zz:(y == ("tally":Str))=false:=by simpa using z
      simp[C8,zz]at hy
    rw[ex,ey]
   ·intro x c hx
    by_cases z:x="tally"
    ·rw[z]at hx
     have:some (s.heap.objs.size+1)=some c:=hx
     cases this
     exact⟨oc,_,hlc,hd⟩
    ·have zz:(x == ("tally":Str))=false:=by simpa using z
     simp[C8,zz]at hx
   ·intro i x v e1 e2
    cases i with
    | zero =>
     have e1':("tally":Str)=x:=Option.some.inj e1
     have e2':V.ref a=v:=Option.some.inj (Option.some.inj e2)
     subst e1' e2'
     exact⟨rfl,_,oc,u,rfl,hlc,hd,ru⟩
    | succ i=>cases e1
  case b=>exact .all fun us hl=>match us,hl with | [_],_=>rfl
  case J=>exact fun Hx=>Hx fl=some (O2 fl (PySem.W.kla_obj "<lambda>" ay5 (ac1 N8).1 (ac1 N8).2.1 (ac1 N8).2.2 [("tally",s.heap.objs.size+1)] ((mg "__name__").getD .none) c' ctv))/\Hx c'=some (ap9 c' ay5)/\(∀ b o,l b=some o->Hx b=some (O2 b o))/\Sq K Hx a ns
  case p=>exact fun m=>@decide (Z4 ns m.toNat .free) (Classical.propDecidable _)
  case h3=>exact fun Hx h=>h.1
  case h4 =>
   rintro Hx m Qx ⟨j1,j2,j3,j4⟩ hm1 hm2 hq
   refine⟨.int m,rfl,j1,j2,j3,?_⟩
   obtain⟨M,rfl⟩:∃ M:Nat,m=(M:Int):=⟨m.toNat,by omega⟩
   refine⟨_,rfl,_,rfl,a,ns,M,rfl,j4.rmv j3,by omega,fun _ v x H' s' hx hv=>⟨rfl,fun hfr=>?_⟩,fun h=>absurd ht h⟩
   have sb:=aJ9 j3 s'
   have jj:(af3 H' l) fl=some (O2 fl (PySem.W.kla_obj "<lambda>" ay5 (ac1 N8).1 (ac1 N8).2.1 (ac1 N8).2.2 [("tally",s.heap.objs.size+1)] ((mg "__name__").getD .none) c' ctv))/\(af3 H' l) c'=some (ap9 c' ay5)/\(∀ b o,l b=some o->(af3 H' l) b=some (O2 b o))/\Sq K (af3 H' l) a ns:=⟨sb _ _ j1,sb _ _ j2,fun b o e=>af2 e,j4.same sb⟩
   have:=hq _ sb jj
   rw[p0]at this
   rcases hv with⟨rfl,rfl⟩ | ⟨hne,a',rfl,_⟩
   ·rw[@decide_eq_true _ (Classical.propDecidable _) hx]at this
    exact this
   ·rw[@decide_eq_false _ (Classical.propDecidable _) (aE7 hx hne)]at this
    exact this
  case h5=>exact⟨st _ _ hfo,st _ _ hco,fun b o e=>af2 e,hS2.same st⟩
  case h6 =>
   rintro r H' hr1 hr2 hp1 hp2 ⟨j1,j2,j3,j4⟩ s'
   obtain⟨M,rfl⟩:∃ M:Nat,r=(M:Int):=⟨r.toNat,by omega⟩
   have so:=aW1 hl s'
   refine⟨j3,q _ _ (((s1.grow PT).trans g2).trans (so.grow PT)) (tb2.same so) (.inr ⟨M,rfl,by omega,by omega,?_,fun h=>?_⟩)⟩
   ·by_cases hM:M=1000000
    ·rw[hM];exact hx
    ·have:=hp1 (by omega)
     rw[p0]at this
     exact @of_decide_eq_true _ (Classical.propDecidable _) this
   ·have:=hp2 (by omega)
    rw[show ((M:Int) - 1).toNat=M - 1 by omega]at this
    exact @of_decide_eq_false _ (Classical.propDecidable _) this
 ·exact T8 (q .non H1 (s1.grow PT) (tb.same s1) (.inl ⟨rfl,aE7 hx hne⟩))
end
end Web
namespace Web
open PySem L2
theorem p60:(0:Int)<10 ^ (av1 60):=bT2 (by decide)
section
variable {K:W.Frag} {mg:Str->Option Value} {base:Heap}
def bv4 (K:W.Frag):Sp:=fun vs H Q _=>∃ (c:Int) (m z:Nat),vs=[.int c,.int m,.int z]/\m<=300/\1<=z/\z<=100000000/\∀ (l:Addr) (ts:List Int) (H':Hp),ts.length=m->A3 H H'->H l=none->H' l=some (.lst (ts.map V.int))->Q (.ref l) H'
theorem ap5:A4 ["cell","many","size","rest","stir","row","k"] ["cell","many","size"] (p5 bp3):=.mk'
theorem by7 (F:Fun K "_law_row" "_law_row" bp3 f fd) (B:Bn mg):x6 P w K mg base CX0 1 f fd ["cell","many","size"] (bv4 K):=by
 refine F.ok ap5 (fun cdv A outer s H vs Q E hr h=>?_)
 obtain⟨c,m,z,rfl,hm,hz1,hz2,q⟩:=h
 have hsl:=L8
 have hz0:(0:Int)<(z:Int):=by omega
 refine⟨_,j0 (A9 (i:=0) ap5.nd rfl (Or.inl rfl) (x9 M8 (pv 0) (x9 ar2 i6 i6)))
  (j0 (A9 (i:=3) ap5.nd rfl (Or.inl rfl) (x9 Q5 (pv 0) i6))
  (j0 (A9 (i:=4) ap5.nd rfl (Or.inl rfl) (pv 0))
  (j0 (A9 (i:=5) ap5.nd rfl (Or.inl rfl) (X9 d5))
  (j0 (ab9 PassesOwn.never rfl (U7 rfl B.range (b9 (pv 1) d5)) (B0 (i := 6) ap5.nd rfl (Or.inl rfl))
   (o5 (N1 (D6 ai7 (x9 M8 (pv 0) i6) i6 (E9 _))
    (j0 (S5 (aK3 PySem.F.plainAttrs_list PySem.F.slot_list_append PySem.F.type_list_append Y0 (pv 5) (b9 (x9 M8 (pv 3) (pv 2)) d5)))
    (o5 (A9 (i:=3) ap5.nd rfl (Or.inl rfl) (x9 Q5 (pv 3) (pv 2)))))
    (j0 (A9 (i:=4) ap5.nd rfl (Or.inl rfl) (x9 M8 (x9 U3 (x9 M8 (pv 4) i6) (x9 ah8 i6 (x9 U3 (pv 6) i6))) i6))
    (j0 (A9 (i:=4) ap5.nd rfl (Or.inl rfl) (x9 M8 (x9 ah8 (pv 4) (pv 4)) i6))
    (j0 (A9 (i:=4) ap5.nd rfl (Or.inl rfl) (x9 M8 (x9 ah8 (pv 4) i6) i6))
    (o5 (S5 (aK3 PySem.F.plainAttrs_list PySem.F.slot_list_append PySem.F.type_list_append Y0 (pv 5) (b9 (x9 M8 (x9 Q5 (pv 4) i6) (pv 2)) d5))))))))))
  (o5 (C1 (pv 5))))))),?_⟩
 refine⟨_,rfl,_,_,rfl,rfl,⟨by decide,by decide,by decide⟩,_,_,rfl,rfl,p60,?_⟩
 refine Q4 fun c1 _=>?_
 refine⟨_,rfl,_,_,rfl,rfl,⟨by decide,by decide⟩,?_⟩
 refine Q4 fun r0 _=>?_
 refine⟨_,rfl,?_⟩
 refine⟨by show 0<=j8;omega,fun l hl=>?_⟩
 have s0:=f6 (o:=.lst []) hl
 refine⟨_,rfl,m,rfl,by omega,by omega,ab4 (lo:=0) (n:=m) (fun i σ H1=>∃ (ts:List Int) (r st:Int) (e6:Option V),σ=[some (.int c1),some (.int m),some (.int z),some (.int r),some (.int st),some (.ref l),e6]/\A3 H H1/\H1 l=some (.lst (ts.map V.int))/\ts.length=i)
  ⟨[],r0,c1,none,rfl,s0,c6,rfl⟩ ?_ ?_⟩
 ·rintro i σ H1 hi ⟨ts,r,st,e6,rfl,s1,g1,hl1⟩
  have e0:((0:Int)+(i:Int))=(i:Int):=by omega
  rw[e0]
  refine C2 ?_
  refine⟨_,rfl,_,_,rfl,rfl,(by show (0:Int)<2;decide),rfl,_,rfl,?_⟩
  refine aR1 (fun h=>?_) (fun h=>?_)
  ·refine⟨_,rfl,.inl ⟨rfl,_,SqL.of g1⟩,_,rfl,_,rfl,_,_,rfl,rfl,hz0,l,_,_,rfl,rfl,g1,by rw[b8];omega,?_⟩
   refine⟨_,rfl,_,rfl,_,_,rfl,rfl,⟨hz0,by omega⟩,?_⟩
   exact⟨ts++[r % (z:Int)],_,_,_,rfl,s1.upd hl,by rw[c6,k8];rfl,by rw[m6,hl1];rfl⟩
  ·refine⟨_,rfl,_,_,rfl,rfl,(by show (0:Int)<998244353;decide),_,rfl,_,_,rfl,rfl,_,_,rfl,rfl,.inl ⟨by decide,by decide⟩,_,_,rfl,rfl,_,_,rfl,rfl,(by show (0:Int)<2147483647;decide),?_⟩
   refine Q4 fun k1 hk1=>?_
   have k10:0<=k1:=by rw[hk1];exact au8 _ (by decide)
   have k11:k1<2147483647:=by rw[hk1];exact ak6 _ (by decide)
   clear hk1
   refine⟨_,rfl,_,rfl,_,_,rfl,rfl,.inl ⟨by omega,by omega⟩,_,_,rfl,rfl,(by show (0:Int)<2147483629;decide),?_⟩
   refine Q4 fun k2 _=>?_
   refine⟨_,rfl,_,_,rfl,rfl,.inr ⟨by decide,by decide⟩,_,_,rfl,rfl,(by show (0:Int)<2147483647;decide),?_⟩
   refine Q4 fun k3 _=>?_
   refine⟨_,rfl,.inl ⟨rfl,_,SqL.of g1⟩,_,rfl,_,_,rfl,rfl,⟨by decide,by decide⟩,_,rfl,_,_,rfl,rfl,hz0,l,_,_,rfl,rfl,g1,by rw[b8];omega,?_⟩
   exact⟨ts++[k3 / 7 % (z:Int)],_,_,_,rfl,s1.upd hl,by rw[c6,k8];rfl,by rw[m6,hl1];rfl⟩
 ·rintro σ H1 ⟨ts,r,st,e6,rfl,s1,g1,hl1⟩
  exact⟨_,rfl,q l ts H1 hl1 s1 hl g1⟩
end
theorem bI4 (z:Int)(h:0<=z/\z<4):∃ v:Nat,atI ([.int 2,.int 2,.int 3,.int 5]:List V) z=some (.int (v:Int))/\1<=v/\v<=5:=by
 have:z=0\/z=1\/z=2\/z=3:=by omega
 rcases this with h | h | h | h<;>rw[h]
 ·exact⟨2,y7 (j:=0) rfl,by decide,by decide⟩
 ·exact⟨2,y7 (j:=1) rfl,by decide,by decide⟩
 ·exact⟨3,y7 (j:=2) rfl,by decide,by decide⟩
 ·exact⟨5,y7 (j:=3) rfl,by decide,by decide⟩
theorem sub_snoc {α:Type}{l m:List α}{x:α}(h:l.Sublist (m.take i))(hx:m[i]?=some x):(l++[x]).Sublist (m.take (i+1)):=by
 rw[u9,hx]
 exact List.Sublist.append h (List.Sublist.refl _)
theorem bu5 {α:Type}{l m:List α}(h:l.Sublist (m.take i)):l.Sublist (m.take (i+1)):=by
 rw[u9]
 exact h.trans (List.sublist_append_left _ _)
section
variable {K:W.Frag} {mg:Str->Option Value} {base:Heap}
def bu7 (K:W.Frag):Sp:=fun vs H Q _=>∃ (c:Int) (n:Nat),vs=[.int c,.int n]/\n<=24/\∀ (l:Addr) (zs:List V) (ks:List (List Int)) (H':Hp),A3 H H'->H l=none->H' l=some (.tup zs)->B2 K H' zs ks->ks.Sublist (ae7 n)->Q (.ref l) H'
theorem aq8:A4 ["cell","places","thin","pairs","one","other","row"] ["cell","places"] (p5 aW3):=.mk'
set_option maxHeartbeats 1000000 in
theorem bL0 {fR:Addr} {fdR:FuncData} (F:Fun K "_law_ties" "_law_ties" aW3 f fd) (B:Bn mg) (FR:Fq K mg "_law_row" bp3 fR fdR ["cell","many","size"]):x6 P w K mg base CX0 2 f fd ["cell","places"] (bu7 K):=by
 have GR:x6 P w K mg base CX0 1 fR fdR ["cell","many","size"] (bv4 K):=by7 FR.F B
 refine F.ok aq8 (fun cdv A outer s H vs Q E hr h=>?_)
 obtain⟨c,n,rfl,hn,q⟩:=h
 have hsl:=L8
 have hlen:=aK7 n hn
 have nd3:(["k","pairs","row"]:List Str).Nodup:=by decide +kernel
 refine⟨_,j0 (A9 (i:=0) aq8.nd rfl (Or.inl rfl) (x9 M8 (pv 0) (x9 ar2 i6 i6)))
  (j0 (A9 (i:=2) aq8.nd rfl (Or.inl rfl) (F6 aa7 (X9 (b9 i6 (b9 i6 (b9 i6 (b9 i6 d5))))) (x9 M8 (pv 0) i6) (fun _ _=>rfl)))
  (j0 (A9 (i:=3) aq8.nd rfl (Or.inr rfl) (X9 d5))
  (j0 (ab9 PassesOwn.never rfl (U7 rfl B.range (b9 (pv 1) d5)) (B0 (i := 4) aq8.nd rfl (Or.inl rfl))
   (o5 (ab9 PassesOwn.never rfl (aK2 rfl B.range (b9 (x9 U3 (pv 4) i6) (b9 (pv 1) d5))) (B0 (i := 5) aq8.nd rfl (Or.inl rfl))
    (o5 (S5 (aK3 PySem.F.plainAttrs_list PySem.F.slot_list_append PySem.F.type_list_append Y0 (pv 3) (b9 (M3 (b9 (pv 4) (b9 (pv 5) d5))) d5)))))))
  (j0 (A9 (i:=6) aq8.nd rfl (Or.inr rfl) (D0 GR hr (by rfl) FR K6 (b9 (x9 Q5 (pv 0) i6) (b9 (A6 B1 (by rfl) B.len PySem.boot_len (b9 (pv 3) d5)) (b9 (pv 2) d5)))))
  (o5 (C1 (N0 N9 (by rfl) B.tuple (by rfl) (b9 (N2 (N':=["k","pairs","row"]) (lk:=[none,some 3,some 6]) rfl (U7 rfl B.range (b9 (A6 B1 (by rfl) B.len PySem.boot_len (b9 (pv 3) d5)) d5)) (by rfl) rfl (by decide +kernel) (by exact⟨rfl,rfl,trivial⟩) (by rfl) (by exact LkL.ok ⟨⟨rfl,Or.inl rfl,rfl,Or.inl rfl⟩,⟨rfl,Or.inl rfl,rfl,Or.inl rfl⟩,trivial⟩)
    (fun _ _ _=>B0 (i:=0) nd3 rfl (Or.inl rfl)) (fun _ _ _=>ah4 (D6 ai7 (V6 K rfl (pv 2) (pv 0) (fun _ _=>rfl)) i6 (E9 _))) (fun _ _ _=>V6 K rfl (pv 1) (pv 0) (fun _ _=>rfl))) d5)))))))),?_⟩
 refine⟨_,rfl,_,_,rfl,rfl,⟨by decide,by decide,by decide⟩,_,_,rfl,rfl,p60,?_⟩
 refine Q4 fun c1 _=>?_
 obtain⟨v,hv,hv1,hv2⟩:=bI4 (c1 % 4) ⟨au8 _ (by decide),ak6 _ (by decide)⟩
 refine⟨(by show 4<=j8;decide),fun l3 f3=>?_⟩
 have s3:=f6 (o:=.lst [.int 2,.int 2,.int 3,.int 5]) f3
 refine⟨_,rfl,_,_,rfl,rfl,(by show (0:Int)<4;decide),l3,_,_,_,rfl,rfl,SqL.of c6,hv,?_⟩
 refine⟨by show 0<=j8;omega,fun l hl'=>?_⟩
 have hl:H l=none:=s3.free hl'
 have s03:=s3.trans (f6 (o:=.lst []) hl')
 have gl0:(upd (upd H l3 (.lst [.int 2,.int 2,.int 3,.int 5])) l (.lst [])) l=some (.lst []):=c6
 generalize upd (upd H l3 (.lst [.int 2,.int 2,.int 3,.int 5])) l (.lst [])=H0 at s03 gl0
 refine⟨_,rfl,n,rfl,by omega,by omega,ab4 (lo:=0) (n:=n) (fun i σ H1=>∃ a b zs,σ=[some (.int c1),some (.int n),some (.int v),some (.ref l),a,b,none]/\A3 H H1/\H1 l=some (.lst zs)/\B2 K H1 zs ((u7 i).flatMap fun j=>ao9 j (n - (j+1))))
  ⟨none,none,[],rfl,s03,gl0,.nil⟩ ?_ ?_⟩
 ·rintro i σ H1 hi ⟨a,b,zs,rfl,s1,h1,t1⟩
  refine⟨_,rfl,_,_,rfl,rfl,_,rfl,_,_,rfl,⟨by omega,by omega,by omega,by omega⟩,ab4 (lo:=0+(i:Int)+1) (fun d σ H2=>∃ b zs,σ=[some (.int c1),some (.int n),some (.int v),some (.ref l),some (.int (0+i)),b,none]/\A3 H H2/\H2 l=some (.lst zs)/\B2 K H2 zs (((u7 i).flatMap fun j=>ao9 j (n - (j+1)))++ao9 i d))
   ⟨b,zs,rfl,s1,h1,by simpa [ao9] using t1⟩ ?_ ?_⟩
  ·rintro d σ H2 hd ⟨b,zs,rfl,s2,h2,t2⟩
   have hlz:=t2.len
   have hpart:=bz5 n (i+1) (by omega)
   rw[aE0,m6]at hpart
   have hrow:∀ m,(ao9 i m).length=m:=fun m=>by simp[ao9]
   rw[m6,hrow]at hlz
   rw[hrow]at hpart
   refine⟨_,rfl,.inl ⟨rfl,_,SqL.of h2⟩,_,rfl,_,rfl,(by show 2<=j8;decide),fun p hp=>?_⟩
   have hlp:l≠p:=q0 h2 hp
   have h2':(upd H2 p (.tup [.int (0+(i:Int)),.int (0+(i:Int)+1+(d:Int))])) l=some (.lst zs):=by rw[q8 hlp];exact h2
   refine⟨l,zs,_,rfl,rfl,h2',by omega,?_⟩
   refine⟨_,_,rfl,(s2.trans (f6 hp)).upd hl,c6,?_⟩
   rw[bp4,<- C3]
   refine B2.updL h2' (B2.append (A3.tups (f6 hp) t2) (B2.one (SqT.of ?_)))
   rw[c6]
   simp
  ·rintro σ H2 ⟨b,zs,rfl,s2,h2,t2⟩
   refine⟨_,_,zs,rfl,s2,h2,?_⟩
   rw[aE0]
   have e:((n:Int) - (0+(i:Int)+1)).toNat=n - (i+1):=by omega
   rw[e]at t2
   exact t2
 ·rintro σ H1 ⟨a,b,zs,rfl,s1,h1,t1⟩
  replace t1:B2 K H1 zs (ae7 n):=t1
  have hzl:=t1.len
  refine⟨_,rfl,_,_,rfl,rfl,⟨by decide,by decide⟩,_,rfl,l,_,rfl,.inl (SqL.of h1),_,rfl,c1 / 4,zs.length,v,rfl,by omega,hv1,by omega,fun rl ts H4 htl s4 fr g4=>?_⟩
  have t4:=s4.tups t1
  have g4l:=s4 _ _ h1
  have s04:=s1.trans s4
  refine⟨_,rfl,l,_,rfl,.inl (SqL.of g4l),(zs.length:Int),rfl,by omega,by omega,fun D hD=>?_⟩
  rw[p0]
  refine ah9 (lo:=0) (n:=zs.length) (D:=D) (fun i xs σ' H'=>(∃ v,σ'=[v,some (.ref l),some (.ref rl)])/\A3 H4 H'/\H' D=some (.lst xs)/\xs.length<=i/\∃ ks,B2 K H' xs ks/\ks.Sublist ((ae7 n).take i))
   ⟨⟨none,rfl⟩,f6 hD,c6,c8 _,[],.nil,List.nil_sublist _⟩ (by omega) (fun i xs σ' H' hi ⟨_,_,g,l',_⟩=>⟨g,l'⟩) ?_ ?_
  ·rintro i xs σ' H' N kN hi ⟨⟨v',rfl⟩,s6,h6,hxl,ks,t6,sb⟩
   have e0:((0:Int)+(i:Int))=(i:Int):=by omega
   rw[e0]
   refine C2 ?_
   have hti:i<ts.length:=by omega
   refine⟨_,rfl,_,rfl,.inl ⟨rl,_,_,_,rfl,rfl,SqL.of (s6 _ _ g4),ar8 hti,rfl,_,rfl,?_⟩⟩
   refine aR1 (fun h=>?_) (fun h=>?_)
   ·obtain⟨y,hy⟩:∃ y,zs[i]?=some y:=⟨_,k9 hi⟩
    obtain⟨pa,pk,rfl,hk',hq⟩:=t4.get hy
    refine⟨_,rfl,_,rfl,.inl ⟨l,_,_,_,rfl,rfl,SqL.of (s6 _ _ g4l),y7 hy,h6,kN _ _ _ ⟨⟨_,rfl⟩,s6.upd hD,c6,by rw[m6,bF4];omega,ks++[pk],B2.updL h6 (B2.append t6 (B2.one (s6.seqT hq))),sub_snoc sb hk'⟩⟩⟩
   ·exact kN _ _ _ ⟨⟨_,rfl⟩,s6,h6,by omega,ks,t6,bu5 sb⟩
  ·rintro xs σ' H5 ⟨⟨v',rfl⟩,s6,h6,hxl,ks,t6,sb⟩
   refine⟨D,_,rfl,.inl ⟨SqL.of h6,fun tl ft=>?_⟩⟩
   have s7:=f6 (o:=.tup xs) ft
   exact q tl xs ks _ ((s04.trans s6).trans s7) ((s04.trans s6).free ft) c6 (s7.tups t6) (sb.trans (K3 _ _))
end
seal L2.PE L2.PA L2.PS L2.PSs L2.PT
section
variable {K:W.Frag} {mg:Str->Option Value} {base:Heap}
def bv2 (K:W.Frag):Sp:=fun vs H Q _=>∃ (n:Nat) (a:Addr) (ys:List V) (ks:List (List Int)),vs=[.int n,.ref a]/\n<=24/\SqT K H a ys/\B2 K H ys ks/\(∀ k∈ks,an0 n k)/\∀ (l:Addr) (H':Hp),A3 H H'->H l=none->H' l=some (.lst ((tal n ks).map V.int))->Q (.ref l) H'
theorem aP1:A4 ["places","ties","counts","one","other"] ["places","ties"] (p5 as7):=.mk'
theorem bL1 (F:Fun K "_law_counts" "_law_counts" as7 f fd):x6 P w K mg base CX0 1 f fd ["places","ties"] (bv2 K):=by
 refine F.ok aP1 (fun cdv A outer s H vs Q E hr h=>?_)
 obtain⟨n,a,ys,ks,rfl,hn,h2,h3,hE,q⟩:=h
 have hsl:=L8
 refine⟨_,j0 (A9 (i:=2) aP1.nd rfl (Or.inl rfl) (x9 bf9 (X9 (b9 i6 d5)) (pv 0)))
  (j0 (ab9 PassesOwn.never rfl (am0 (pv 1)) (aQ1 rfl (L9 (B0 (i := 3) aP1.nd rfl (Or.inl rfl)) (L9 (B0 (i := 4) aP1.nd rfl (Or.inl rfl)) ah5)))
   (j0 (bf4 (x9 U3 (F6 aa7 (pv 2) (pv 3) (fun _ _=>rfl)) i6) (bf6 (pv 2) (pv 3) set_list)) (o5 (bf4 (x9 U3 (F6 aa7 (pv 2) (pv 4) (fun _ _=>rfl)) i6) (bf6 (pv 2) (pv 4) set_list)))))
  (o5 (C1 (pv 2)))),?_⟩
 refine⟨(by show 1<=j8;decide),fun l0 f0=>?_⟩
 have s0:=f6 (o:=.lst [.int 0]) f0
 refine⟨_,rfl,l0,n,[.int 0],rfl,rfl,c6,by omega,by omega,?_,fun l hl=>?_⟩
 ·show 1*(n:Int).toNat<=j8
  omega
 rw[p0,rep0]
 have s1:=s0.trans (f6 (o:=.lst ((tal n []).map V.int)) hl)
 have g1:(upd (upd H l0 (.lst [.int 0])) l (.lst ((tal n []).map V.int))) l=some (.lst ((tal n []).map V.int)):=c6
 have fl:H l=none:=s0.free hl
 generalize upd (upd H l0 (.lst [.int 0])) l (.lst ((tal n []).map V.int))=H1 at s1 g1 ⊢
 have hz:=h3.len
 refine⟨_,rfl,a,rfl,⟨_,s1.seqT h2⟩,?_⟩
 refine aR7 (K:=K) (a:=a) (xs:=ys) (fun i σ H2=>∃ ea eb,σ=[some (.int n),some (.ref a),some (.ref l),ea,eb]/\A3 H H2/\H2 l=some (.lst ((tal n (ks.take i)).map V.int))) ⟨none,none,rfl,s1,by rw[R9];exact g1⟩ (fun i σ H2 _ ⟨_,_,_,s2,_⟩=>s2.seqT h2) ?_ ?_
 ·rintro i x σ H2 hx ⟨ea,eb,rfl,s2,g2⟩
  obtain⟨pa,pk,rfl,hk,hq⟩:=h3.get hx
  obtain⟨i1,j1,u1,u2,u3,epk⟩:=hE pk (i7 hk)
  have hq2:=s2.seqT hq
  rw[epk]at hq2
  refine⟨pa,_,rfl,hq2,rfl,_,_,rfl,_,_,rfl,rfl,?_⟩
  have t1:((tal n (ks.take i)).map V.int)[i1]?=some (.int (W4 (ks.take i) i1)):=by rw[p8,ad2 u1];rfl
  have t2:(((tal n (ks.take i)).map V.int).set i1 (.int ((W4 (ks.take i) i1:Int)+1)))[j1]?=some (.int (W4 (ks.take i) j1)):=by
   rw[ae3 u3,p8,ad2 u2];rfl
  have lt:((tal n (ks.take i)).map V.int).length=n:=by rw[b8,ad1]
  refine⟨_,rfl,_,rfl,l,_,_,_,rfl,rfl,SqL.of g2,y7 t1,_,_,rfl,rfl,_,rfl,_,rfl,l,_,_,i1,rfl,rfl,g2,by rw[lt];exact ae0 u1,?_⟩
  refine⟨_,rfl,_,rfl,l,_,_,_,rfl,rfl,SqL.of c6,y7 t2,_,_,rfl,rfl,_,rfl,_,rfl,l,_,_,j1,rfl,rfl,c6,by rw[N4,lt];exact ae0 u2,?_⟩
  refine⟨_,_,rfl,?_,?_⟩
  ·rw[aN9]
   exact s2.upd fl
  ·rw[c6,u9,hk,az7,epk,<- bj2 u1 u2 u3 (ks.take i) _ _ rfl rfl,aj3,aj3]
 ·rintro σ H2 ⟨ea,eb,rfl,s2,g2⟩
  rw[j7 (by omega)]at g2
  exact⟨_,rfl,q l H2 s2 fl g2⟩
end
end Web
namespace Web
open PySem L2
theorem aQ5 (c:Int)(h:0<n):∃ j:Nat,c % (n:Int)=(j:Int)/\j<n:=by
 have h1:=au8 c (show (n:Int)≠0 by omega)
 have h2:=ak6 c (show (0:Int)<(n:Int) by omega)
 exact⟨(c % (n:Int)).toNat,by omega,by omega⟩
seal L2.PE L2.PA L2.PS L2.PSs L2.PT
section
variable {K:W.Frag} {mg:Str->Option Value} {base:Heap}
def bV9 (K:W.Frag):Sp:=fun vs H Q _=>∃ (c:Int) (m:Nat),vs=[.int c,.int m]/\1<=m/\m<=24/\∀ (l:Addr) (ns:List Int) (H':Hp),A3 H H'->H l=none->H' l=some (.lst (ns.map V.int))->R6 ns->Q (.ref l) H'
theorem bJ0:A4 ["cell","most","places","tally"] ["cell","most"] (p5 bw4):=.mk'
theorem ch8 {fR fC:Addr}{fdR fdC:FuncData}(F:Fun K "_law_tally" "_law_tally" bw4 f fd)(B:Bn mg)(FR:Fq K mg "_law_row" bp3 fR fdR ["cell","many","size"])(FT:Fq K mg "_law_ties" aW3 fT fdT ["cell","places"])(FC:Fq K mg "_law_counts" as7 fC fdC ["places","ties"]):x6 P w K mg base CX0 3 f fd ["cell","most"] (bV9 K):=by
 have GR:x6 P w K mg base CX0 2 fR fdR ["cell","many","size"] (bv4 K):=(by7 FR.F B).mono (by decide)
 have GT:x6 P w K mg base CX0 2 fT fdT ["cell","places"] (bu7 K):=bL0 FT.F B FR
 have GC:x6 P w K mg base CX0 2 fC fdC ["places","ties"] (bv2 K):=(bL1 FC.F).mono (by decide)
 refine F.ok bJ0 (fun cdv A outer s H vs Q E hr h=>?_)
 obtain⟨c,m,rfl,m1,m2,q⟩:=h
 refine⟨_,j0 (A9 (i:=0) bJ0.nd rfl (Or.inl rfl) (x9 M8 (pv 0) (x9 ar2 i6 i6)))
  (j0 (A9 (i:=2) bJ0.nd rfl (Or.inl rfl) (x9 U3 i6 (x9 M8 (pv 0) (pv 1))))
  (j0 (N1 (D6 by5 (x9 M8 (x9 Q5 (pv 0) (pv 1)) i6) i6 (E9 _)) (j0 (A9 (i:=3) bJ0.nd rfl (Or.inl rfl) (D0 GC hr (by rfl) FC K6 (b9 (pv 2) (b9 (D0 GT hr (by rfl) FT K6 (b9 (x9 Q5 (pv 0) (x9 ah8 (pv 1) i6)) (b9 (pv 2) d5))) d5)))) (o5 (C1 (pv 3)))) F1)
  (o5 (C1 (D0 GR hr (by rfl) FR K6 (b9 (x9 Q5 (pv 0) (x9 ah8 (pv 1) i6)) (b9 (pv 2) (b9 (x9 U3 (pv 2) i6) d5)))))))),?_⟩
 refine⟨_,rfl,_,_,rfl,rfl,⟨by decide,by decide,by decide⟩,_,_,rfl,rfl,p60,?_⟩
 refine Q4 fun c _=>?_
 obtain⟨j,ej,hj⟩:=aQ5 c (n:=m) (by omega)
 refine⟨_,rfl,_,rfl,_,_,rfl,rfl,(by show (0:Int)<(m:Int);omega),_,_,rfl,rfl,?_⟩
 refine Q4 fun pz hpz=>?_
 have hpz:pz=((j+1:Nat):Int):=by rw[hpz,ej];omega
 subst hpz
 refine⟨_,rfl,_,rfl,_,_,rfl,rfl,⟨by show (0:Int)<(m:Int);omega,by show (m:Int)<_;omega⟩,_,_,rfl,rfl,(by show (0:Int)<3;decide),_,_,rfl,rfl,_,rfl,aR1 (fun _=>?_) (fun _=>?_)⟩
 ·refine⟨_,rfl,_,rfl,_,rfl,_,_,rfl,rfl,.inl ⟨by omega,by omega⟩,_,_,rfl,rfl,⟨by show (0:Int)<(m:Int)*3;omega,by show (m:Int)*3<_;omega⟩,_,rfl,_,j+1,rfl,by omega,fun lt zs ks H1 s1 _ g1 t1 hsub=>?_⟩
  refine⟨j+1,lt,zs,ks,rfl,by omega,SqT.of g1,t1,fun k hk=>(bq2 (hsub.subset hk)).ends,fun l H2 s2 fl gl=>?_⟩
  exact⟨_,rfl,q l _ H2 (s1.trans s2) (s1.free fl) gl ⟨by rw[ad1];omega,by rw[ad1];omega⟩⟩
 ·refine⟨_,rfl,_,rfl,_,_,rfl,rfl,.inl ⟨by omega,by omega⟩,_,_,rfl,rfl,⟨by show (0:Int)<(m:Int)*3;omega,by show (m:Int)*3<_;omega⟩,_,rfl,_,rfl,_,_,rfl,rfl,?_⟩
  refine⟨_,j+1,j+2,by rfl,by omega,by omega,by omega,fun l ts H1 htl s1 fl g1=>?_⟩
  exact q l ts H1 s1 fl g1 ⟨by omega,by omega⟩
end
end Web
namespace Web
open PySem L2
theorem bI7 (K:W.Frag)(hK:X.K=K):SlR X (cg9 K):=by subst hK;exact bW1
theorem by6 (K:W.Frag)(hK:X.K=K):OpR X (ad0 .Add) (bR6 K):=by subst hK;exact bK6
theorem bM5 (h:Tim.M4 (two k) (two k')=true):aQ8 k k':=by
 unfold two at h
 unfold aQ8
 unfold Tim.M4 Tim.M4 at h
 by_cases e1:k.getD 0 0=k'.getD 0 0
 ·rw[if_pos e1]at h
  by_cases e2:k.getD 1 0=k'.getD 1 0
  ·rw[if_pos e2]at h
   exact Bool.noConfusion (show false=true from h)
  ·rw[if_neg e2]at h
   exact .inr ⟨e1,of_decide_eq_true h⟩
 ·rw[if_neg e1]at h
  exact .inl (of_decide_eq_true h)
theorem aH0:∀ {ks:List (List Int)},(∀ k∈ks,tri n 1 k)->∀ i:Nat,ab0 ks i=(W4 (ks.map two) i:Int)
 | [],_,_=>rfl
 | k::ks,h,i=>by
  obtain⟨a,b,x,rfl,hab,_,h1,h2⟩:=h k c9
  have ih:=aH0 (fun k hk=>h k (c7 _ hk)) i
  have hx:x=1:=by omega
  subst hx
  unfold ab0
  rw[ih,o9]
  unfold W4
  rw[aq2]
  show (if (a:Int)=(i:Int) then (1:Int) else 0)+(if (b:Int)=(i:Int) then (1:Int) else 0)+_=_
  have e:decide ((i:Int)∈two [(a:Int),(b:Int),1])=decide ((a:Int)=(i:Int)\/(b:Int)=(i:Int)):=by
   show decide ((i:Int)∈[(a:Int),(b:Int)])=_
   rw[decide_eq_decide,d8,B5]
   constructor<;>rintro(h | h)<;>first | exact .inl h.symm | exact .inr h.symm
  rw[e]
  by_cases ha:(a:Int)=(i:Int)
  ·rw[if_pos ha,if_neg (by omega),decide_eq_true (Or.inl ha)]
   show _=((_+1:Nat):Int)
   omega
  ·by_cases hb:(b:Int)=(i:Int)
   ·rw[if_neg ha,if_pos hb,decide_eq_true (Or.inr hb)]
    show _=((_+1:Nat):Int)
    omega
   ·rw[if_neg ha,if_neg hb,decide_eq_false (fun h=>h.elim ha hb)]
    show _=((_+0:Nat):Int)
    omega
def thr (k:List Int):List Int:=k++[1]
theorem bI2 (h:∀ k∈ks,Up n k):∀ k∈ks.map thr,tri n 1 k:=fun k hk=>by
 obtain⟨k',hk',rfl⟩:=u5.mp hk
 obtain⟨i,j,h1,h2,rfl⟩:=h k' hk'
 exact⟨i,j,1,rfl,h1,h2,by decide,by decide⟩
theorem aO0:∀ {ks:List (List Int)},(∀ k∈ks,Up n k)->(ks.map thr).map two=ks
 | [],_=>rfl
 | k::ks,h=>by
  obtain⟨i,j,h1,h2,rfl⟩:=h k c9
  rw[o9,o9,aO0 fun k hk=>h k (c7 _ hk)]
  rfl
theorem bI3 {K:W.Frag}{b p t:Addr}{zs:List V}(ht:R6 ns)(h:bS5 K H b ns ks)(g1:H' p=some (.tup [.int ns.length,.ref t]))(g2:H' t=some (.tup zs))(g3:B2 K H' zs (ks.map thr)):ThW K H' p ns 1 (ks.map thr):=by
 have tr:=bI2 h.ups
 refine⟨⟨t,zs,g1,g2,g3⟩,tr,?_,fun i hi=>?_,?_⟩
 ·have:=bE2 h.ups h.nd h.srt
  rw[<- aO0 h.ups]at this
  exact(F5.mp this).imp bM5
 ·rw[aH0 tr,aO0 h.ups]
  have:=bu1 (ks:=ks) hi
  rw[h.tal_]at this
  exact this.symm
 ·have:=aN8 ht.2 h.nd h.ups
  rw[b8]
  omega
theorem bI1 {K:W.Frag}{b:Addr}(h:ThW K H b ns 1 ks):tal ns.length (ks.map two)=ns:=by
 rw[<- bm7 rfl h.ct]
 unfold tal W5
 rw[b8,v8]
 exact R3 fun i _=>(aH0 h.tr i).symm
theorem af4 {P P':Addr}{po po':Pos}{qu qu':Str}(g:P0 P H H')(t:R7 P po qu H)(t':R7 P' po' qu' H)(hne:P'≠P):R7 P' po' qu' H':=by
 obtain⟨ps,hP,_⟩:=t
 obtain⟨qs,h1,h2,h3⟩:=t'
 refine⟨qs,g _ _ hne h1,h2,h3.imp id fun⟨c,e,h⟩=>⟨c,e,g _ _ (fun z=>?_) h⟩⟩
 rw[z,hP]at h
 unfold ap9 at h
 cases h
structure T3 (PO PT PU:Addr) (H:Hp):Prop where
 o:Tb PO H
 s:Tb2 PT H
 l:Tb3 PU H
 n1:PO≠PT
 n2:PO≠PU
 n3:PT≠PU
theorem T3.same {PO PT PU:Addr}(t:T3 PO PT PU H)(s:A3 H H'):T3 PO PT PU H':=⟨t.o.same s,t.s.same s,t.l.same s,t.n1,t.n2,t.n3⟩
def G3 (PO PT PU:Addr)(H H':Hp):Prop:=∀ b o,b≠PO->b≠PT->b≠PU->H b=some o->H' b=some o
theorem G3.trans {PO PT PU:Addr}{H1 H2:Hp}(a:G3 PO PT PU H H1)(b:G3 PO PT PU H1 H2):G3 PO PT PU H H2:=fun c o n1 n2 n3 h=>b c o n1 n2 n3 (a c o n1 n2 n3 h)
theorem bl6 {PO PT PU:Addr}(s:A3 H H'):G3 PO PT PU H H':=fun b o _ _ _ h=>s b o h
theorem G3.lst {PO PT PU l:Addr}(g:G3 PO PT PU H H')(t:T3 PO PT PU H)(h:H l=some (.lst xs)):H' l=some (.lst xs):=by
 obtain⟨⟨ps,h1,_⟩,⟨qs,h2,_⟩,⟨rs,h3,_⟩,_⟩:=t
 exact g l _ (fun z=>by rw[z,h1]at h;cases h) (fun z=>by rw[z,h2]at h;cases h) (fun z=>by rw[z,h3]at h;cases h) h
section
variable {K:W.Frag} {mg:Str->Option Value} {base:Heap}
theorem T3.go {PO PT PU:Addr}(t:T3 PO PT PU H)(g:P0 PO H H')(t':Tb PO H'):T3 PO PT PU H':=⟨t',af4 g t.o t.s t.n1.symm,af4 g t.o t.l t.n2.symm,t.n1,t.n2,t.n3⟩
theorem T3.gs {PO PT PU:Addr}(t:T3 PO PT PU H)(g:P0 PT H H')(t':Tb2 PT H'):T3 PO PT PU H':=⟨af4 g t.s t.o t.n1,t',af4 g t.s t.l t.n3.symm,t.n1,t.n2,t.n3⟩
theorem T3.gl {PO PT PU:Addr}(t:T3 PO PT PU H)(g:P0 PU H H')(t':Tb3 PU H'):T3 PO PT PU H':=⟨af4 g t.l t.o t.n2,af4 g t.l t.s t.n3,t',t.n1,t.n2,t.n3⟩
theorem bn5.grw {PT r:Addr}{po:Pos}{qu:Str}(h:bn5 K H r ns)(g:P0 PT H H')(t:R7 PT po qu H):bn5 K H' r ns:=by
 rcases h with⟨x,b,h1,h2,h3,h4⟩ | ⟨hG,b,ks,h1,⟨u,zs,e1,e2,e3⟩,a2,a3,a4,a5,a6⟩
 ·exact .inl ⟨x,b,h1,h2,M5 g t h3,M5 g t h4⟩
 ·exact .inr ⟨hG,b,ks,M5 g t h1,⟨u,zs,M5 g t e1,M5 g t e2,ab3 g t e3⟩,a2,a3,a4,a5,a6⟩
end
def dWl:Wl->ag7
 | .below p=>.tuple [.str "below",.int p]
 | .odd=>.tuple [.str "odd"]
 | .wall r=>.tuple [.str "wall",.int r]
 | .free=>.tuple []
theorem Dt.mkStr {K:W.Frag}:Dt K H (.str x) (.str x):=by unfold Dt;rfl
theorem bS4 {K:W.Frag}{b:Addr}{x:Wl}(h:H b=some (.tup (wlT x))):Dt K H (dWl x) (.ref b):=by
 cases x with
 | below p=>exact Dt.mkT (SqT.of h) (.mkC Dt.mkStr (.mkC .mkInt .mkN))
 | odd=>exact Dt.mkT (SqT.of h) (.mkC Dt.mkStr .mkN)
 | wall r=>exact Dt.mkT (SqT.of h) (.mkC Dt.mkStr (.mkC .mkInt .mkN))
 | free=>exact Dt.mkT (SqT.of h) .mkN
theorem bg6 (x:Wl):(PyData.tuple [.str "wall",dWl x]).canLay0=true:=by cases x<;>simp[dWl,PyData.canLay0,PyData.canLayAll0]<;>decide +kernel
theorem cb6 (x:Wl):(PyData.tuple [.str "wall",dWl x]).depth<=8:=by cases x<;>simp[dWl,PyData.depth,PyData.depthAll]
seal L2.PE L2.PA L2.PS L2.PSs L2.PT
section
variable {K:W.Frag} {mg:Str->Option Value} {base:Heap}
def bu9 (K:W.Frag):Sp:=fun vs H Q _=>∃ (a:Addr) (ns:List Int) (M:Nat) (r:Int),vs=[.ref a,.int M,.int r]/\Sq K H a ns/\R6 ns/\isM M/\isR ns r/\∀ H':Hp,A3 H H'->Q (.int (aa0 ns M r.toNat)) H'
theorem cg3:A4 ["tally","most","r"] ["tally","most","r"] (p5 bw6):=.mk'
theorem bY6 {fQ fρ CN:Addr}{fdQ fdρ:FuncData}(F:Fun K "thick_room" "thick_room" bw6 f fd)(FQ:Fq K mg "check_most" be8 fQ fdQ ["tally","most"])(GQ:x6 P w K mg base (CXE P w) 2 fQ fdQ ["tally","most"] (aV2 K CB CN))
  (Fρ:Fq K mg "room_with" av9 fρ fdρ ["tally","most","r"])(Gρ:x6 P w K mg base (CXE P w) 2 fρ fdρ ["tally","most","r"] (aA3 K CB CN)):x6 P w K mg base CX0 3 f fd ["tally","most","r"] (bu9 K):=by
 refine F.ok cg3 (fun cdv A outer s H vs Q E hr h=>?_)
 obtain⟨a,ns,M,r,rfl,hS,ht,hM,hR,q⟩:=h
 refine⟨_,j0 (S5 (D0 GQ hr (by rfl) FQ (af8 (P:=P) (w:=w)) (b9 (pv 0) (b9 (pv 1) d5))))
  (o5 (C1 (D0 Gρ hr (by rfl) Fρ (af8 (P:=P) (w:=w)) (b9 (pv 0) (b9 (pv 1) (b9 (pv 2) d5)))))),?_⟩
 have h2:=hM.2
 refine⟨_,rfl,_,rfl,a,ns,(M:Int),rfl,hS,fun _ _=>?_,fun _ h=>absurd hM h,fun h=>absurd ht h⟩
 exact⟨_,rfl,_,rfl,_,rfl,a,ns,M,r,rfl,hS,by omega,fun _ _ H' s'=>q H' s',fun _ h=>absurd hR h,fun h=>absurd ht h⟩
theorem p45:(0:Int)<10 ^ (av1 45):=bT2 (by decide)
def bv8 (K:W.Frag):Sp:=fun vs H Q _=>∃ (a:Addr) (ns:List Int),vs=[.ref a,.int 0,.int 24]/\SqL K H a (ns.map V.int)/\ns.length<=63/\∀ (l:Addr) (zs:List Int) (H':Hp),A3 H H'->H' l=some (.lst (zs.map V.int))->zs.length<=24->Q (.ref l) H'
theorem be6:A4 ["script","start","many","cells","cell"] ["script","start","many"] (p5 aW9):=.mk'
theorem bL7 (F:Fun K "_law_folded" "_law_folded" aW9 f fd) (B:Bn mg):x6 P w K mg base CX0 1 f fd ["script","start","many"] (bv8 K):=by
 refine F.ok be6 (fun cdv A outer s H vs Q E hr h=>?_)
 obtain⟨a,ns,rfl,hS,hlen,q⟩:=h
 have hsl:=L8
 refine⟨_,j0 (A9 (i:=3) be6.nd rfl (Or.inl rfl) (X9 d5))
  (j0 (ab9 PassesOwn.never rfl (aa5 (x9 bY2 (X9 (b9 i6 d5)) (Y8 ah3 (pv 0) (ad4 (pv 1)) ad5))) (B0 (i := 4) be6.nd rfl (Or.inl rfl))
   (o5 (N1 (D6 aE3 (A6 B1 (by rfl) B.len PySem.boot_len (b9 (pv 3) d5)) (pv 2) (E9 _))
    (o5 (S5 (aK3 PySem.F.plainAttrs_list PySem.F.slot_list_append PySem.F.type_list_append Y0 (pv 3) (b9 (pv 4) d5))))
    (o5 (S5 (aK3 PySem.F.plainAttrs_list PySem.F.slot_list_append PySem.F.type_list_append Y0 (pv 3) (b9 (x9 M8 (x9 U3 (x9 ah8 (aK3 PySem.F.plainAttrs_list PySem.F.slot_list_pop PySem.F.type_list_pop bz3 (pv 3) (b9 i6 d5)) i6) (pv 4)) (x9 ar2 i6 i6)) d5)))))))
  (o5 (C1 (pv 3)))),?_⟩
 refine⟨(by show 0<=j8;omega),fun l fl=>?_⟩
 have s1:=f6 (o:=.lst []) fl
 refine C2 ?_
 refine⟨(by show 1<=j8;decide),fun l0 f0=>?_⟩
 have s2:=f6 (o:=.lst [.int 7]) f0
 obtain⟨ms,hms,hml⟩:=br4 ns (some 0) none
 refine⟨_,rfl,_,rfl,_,rfl,a,ns.map V.int,rfl,(s1.trans s2).seq hS,fun p3 f3=>?_⟩
 rw[hms]
 have s3:=f6 (o:=.lst (ms.map V.int)) f3
 refine⟨l0,p3,_,_,rfl,rfl,s3 _ _ c6,c6,by rw[b8];show 1+ms.length<=j8;omega,fun lt flt=>⟨lt,rfl,⟨_,SqL.of c6⟩,?_⟩⟩
 have s4:=f6 (o:=.lst ([V.int 7]++ms.map V.int)) flt
 have gt:(upd (upd (upd (upd H l (.lst [])) l0 (.lst [.int 7])) p3 (.lst (ms.map V.int))) lt (.lst ([V.int 7]++ms.map V.int))) lt=some (.lst (((7:Int)::ms).map V.int)):=c6
 have gl:=((s2.trans s3).trans s4) _ _ (c6 (H:=H) (a:=l) (o:=.lst []))
 have sA:=s1.trans ((s2.trans s3).trans s4)
 have nl:lt≠l:=fun e=>by
  have:=(s2.trans s3) _ _ (c6 (H:=H) (a:=l) (o:=.lst []))
  rw[e]at flt
  rw[flt]at this
  cases this
 generalize upd (upd (upd (upd H l (.lst [])) l0 (.lst [.int 7])) p3 (.lst (ms.map V.int))) lt (.lst ([V.int 7]++ms.map V.int))=HL at gt gl sA ⊢
 refine bb1 (K:=K) (a:=lt) (xs:=((7:Int)::ms).map V.int) (fun _ σ H2=>∃ (zs:List Int) (e4:Option V),σ=[some (.ref a),some (.int 0),some (.int 24),some (.ref l),e4]/\A3 H H2/\H2 lt=some (.lst (((7:Int)::ms).map V.int))/\H2 l=some (.lst (zs.map V.int))/\zs.length<=24) ⟨[],_,rfl,sA,gt,gl,v9 _⟩ (fun i σ H2 _ ⟨_,_,_,_,g,_⟩=>SqL.of g) ?_ ?_
 ·rintro i x σ H2 hx ⟨zs,e4,rfl,sa,ga,gz,hz⟩
  obtain⟨c,rfl⟩:=int_at hx
  refine C2 ?_
  refine⟨_,rfl,l,_,rfl,.inl (SqL.of gz),_,rfl,_,_,rfl,rfl,_,rfl,?_⟩
  rw[b8]
  refine aR1 (fun h=>?_) (fun h=>?_)
  ·have hz':zs.length<24:=by have:=of_decide_eq_true h;omega
   refine⟨_,rfl,.inl ⟨rfl,_,SqL.of gz⟩,_,rfl,l,_,_,rfl,rfl,gz,by rw[b8];omega,?_⟩
   exact⟨zs++[c],_,rfl,sa.upd fl,by rw[q8 nl];exact ga,by rw[c6,k8];rfl,by rw[m6];exact hz'⟩
  ·have hz':zs.length=24:=by rw[decide_eq_true_eq]at h;omega
   cases zs with
   | nil=>cases hz'
   | cons z zs =>
    refine⟨_,rfl,.inl ⟨rfl,_,SqL.of gz⟩,_,rfl,.inl ⟨rfl,_,SqL.of gz⟩,l,_,0,0,.int z,rfl,rfl,gz,by decide,by decide,(aR0 (ae0 (j:=0) (by rw[b8,hz'];decide))).1,rfl,?_⟩
    refine⟨_,_,rfl,rfl,.inr ⟨by decide,by decide⟩,_,rfl,_,_,rfl,rfl,_,_,rfl,rfl,⟨by decide,by decide,by decide⟩,_,_,rfl,rfl,p45,?_⟩
    refine⟨l,_,_,rfl,rfl,c6,?_,?_⟩
    ·show (zs.map V.int).length<j8
     rw[b8]
     have:zs.length+1=24:=hz'
     omega
    ·refine⟨zs++[_],_,rfl,(sa.upd fl).upd fl,by rw[q8 nl,q8 nl];exact ga,by rw[c6,k8];rfl,?_⟩
     rw[m6]
     exact ak4 hz'
 ·rintro σ H2 ⟨zs,e4,rfl,sa,ga,gz,hz⟩
  exact⟨_,rfl,q l zs H2 sa gz hz⟩
end
end Web
namespace Web
open PySem L2
theorem p30:(0:Int)<10 ^ (av1 30):=bT2 (by decide)
theorem bC7 (z:Int):∃ v:Nat,atI ([.int 9,.int 9,.int 9,.int 9,.int 9,.int 9,.int 9,.int 24]:List V) (z % 8)=some (.int (v:Int))/\1<=v/\v<=24:=by
 obtain⟨j,e,hj⟩:=aQ5 z (n:=8) (by decide)
 have e':z % 8=(j:Int):=e
 rw[e']
 match j,hj with
 | 0,_=>exact⟨9,y7 (j:=0) rfl,by decide,by decide⟩
 | 1,_=>exact⟨9,y7 (j:=1) rfl,by decide,by decide⟩
 | 2,_=>exact⟨9,y7 (j:=2) rfl,by decide,by decide⟩
 | 3,_=>exact⟨9,y7 (j:=3) rfl,by decide,by decide⟩
 | 4,_=>exact⟨9,y7 (j:=4) rfl,by decide,by decide⟩
 | 5,_=>exact⟨9,y7 (j:=5) rfl,by decide,by decide⟩
 | 6,_=>exact⟨9,y7 (j:=6) rfl,by decide,by decide⟩
 | 7,_=>exact⟨24,y7 (j:=7) rfl,by decide,by decide⟩
theorem bU8 (a b z:Int):∃ v:Int,atI ([.int a,.int b]:List V) (z % 2)=some (.int v):=by
 have:z % 2=0\/z % 2=1:=by omega
 rcases this with h | h
 ·exact⟨a,by rw[h];exact y7 (j:=0) rfl⟩
 ·exact⟨b,by rw[h];exact y7 (j:=1) rfl⟩
theorem set_int {ts:List Int}{v:Int}:(ts.map V.int).set j (.int v)=(ts.set j v).map V.int:=aj3.symm
theorem Lst.free {v:V}(h:Lst ns v)(f:Z4 ns 1 .free):v=.int 1:=by
 rcases h with⟨_,h⟩ | ⟨r,rfl,h1,_,_,h4⟩
 ·exact absurd (aL5 (by decide) f) h
 ·by_cases h:1<r
  ·exact absurd (aL5 (by omega) f) (h4 h)
  ·have:r=1:=by omega
   subst this
   rfl
theorem Lst.wall {v:V}{x:Wl}(h:Lst ns v)(g:Z4 ns 1 x)(hx:x≠.free):v≠.int 1:=fun e=>by
 rcases h with⟨e',_⟩ | ⟨r,e',_,_,h3,_⟩
 ·rw[e]at e';cases e'
 ·rw[e]at e'
  have:(1:Int)=(r:Int):=V.int.inj e'
  have:r=1:=by omega
  rw[this]at h3
  exact aE7 g hx h3
theorem Lst.scl {v:V}(h:Lst ns v):bW4 v (.int 1)=true:=by
 rcases h with⟨rfl,_⟩ | ⟨r,rfl,_⟩<;>rfl
theorem bH8 {K:W.Frag}{Q:VK}{r p b:Addr}{x:Wl}(hun:A.units+64<av2)(h1:H r=some (.tup [.str "wall",.ref b]))(h2:H b=some (.tup (wlT x)))(g1:H p=some (.tup [.str "wall",.ref c]))(g2:H c=some (.tup (wlT x)))(q:Q (.bl false) H):bJ6 K A true (.ref r) (.ref p) H Q:=by
 refine⟨_,_,Dt.mkT (SqT.of h1) (.mkC Dt.mkStr (.mkC (bS4 h2) .mkN)),Dt.mkT (SqT.of g1) (.mkC Dt.mkStr (.mkC (bS4 g2) .mkN)),bg6 x,bg6 x,?_,?_⟩
 ·refine bj0 hun (A8 (av0 _ _) ?_)
  have:=cb6 x
  omega
 ·show Q (.bl (!PyData.eqv _ _)) _
  rw[PySem.SeqAt.eqv_refl _ (bg6 x)]
  exact q
seal L2.PE L2.PA L2.PS L2.PSs L2.PT
section
variable {K:W.Frag} {mg:Str->Option Value} {base:Heap}
def aV1 (K:W.Frag)(PO PT PU:Addr):Sp:=fun vs H Q _=>∃ (a:Addr) (ns:List Int),vs=[.ref a]/\SqL K H a (ns.map V.int)/\ns.length<=63/\T3 PO PT PU H/\∀ H',Q (.bl true) H'
theorem ap6:A4 ["script","cell","tally","at","r","plain_told","told","ties","triples"] ["script"] (p5 be7):=.mk'
set_option maxHeartbeats 4000000 in
theorem bL4 {fK fN fR fM fJ fL fS fX CN PO PT PU:Addr} {fdK fdN fdR fdM fdJ fdS fdX:FuncData} (F:Fun K "law" "law" be7 f fd) (B:Bn mg)
  (FK:Fq K mg "_law_folded" aW9 fK fdK ["script","start","many"]) (GK:x6 P w K mg base CX0 6 fK fdK ["script","start","many"] (bv8 K))
  (FN:Fq K mg "_law_tally" bw4 fN fdN ["cell","most"]) (GN:x6 P w K mg base CX0 6 fN fdN ["cell","most"] (bV9 K))
  (FR:Fq K mg "thick_room" bw6 fR fdR ["tally","most","r"]) (GR:x6 P w K mg base CX0 6 fR fdR ["tally","most","r"] (bu9 K))
  (FM:Fq K mg "room" aW4 fM fdM ["tally","r"]) (GM:x6 P w K mg base (CXE P w) 6 fM fdM ["tally","r"] (bd8 K CB CN))
  (FA:Fq K mg "answered" bx1 fA fdA ["tally"]) (GA:x6 P w K mg base (CXE P w) 6 fA fdA ["tally"] (bv9 K CB PO))
  (FJ:Fq K mg "thick_answered" bw8 fJ fdJ ["tally","most"]) (GJ:x6 P w K mg base (CXE P w) 6 fJ fdJ ["tally","most"] (bv1 K CB CN PT))
  (FL:Fq K mg "least_most" N8 fL fdL ["tally"]) (GL:x6 P w K mg base (CXE P w) 6 fL fdL ["tally"] (aO5 K CB PU))
  (FS:Fq K mg "answer_shows" aX0 fS fdS ["tally","told"]) (GS:x6 P w K mg base CX0 6 fS fdS ["tally","told"] (be1 K))
  (FX:Fq K mg "thick_shows" bw5 fX fdX ["tally","most","told"]) (GX:x6 P w K mg base CX0 6 fX fdX ["tally","most","told"] (bu8 K)):x6 P w K mg base CX0 7 f fd ["script"] (aV1 K PO PT PU):=by
 refine F.ok ap6 (fun cdv A outer s H vs Q E hr h=>?_)
 obtain⟨sc,ns,rfl,hS,hlen,t0,q⟩:=h
 have hsl:=L8
 have hun:=hr.units
 have nd_triple:(["triple"]:List Str).Nodup:=by decide +kernel
 have nd_tie:(["tie"]:List Str).Nodup:=by decide +kernel
 refine⟨_,j0 (ab9 PassesOwn.never rfl (aa5 (D0 GK hr (by rfl) FK K6 (b9 (pv 0) (b9 i6 (b9 i6 d5))))) (B0 (i:=1) ap6.nd rfl (Or.inl rfl))
   (j0 (A9 (i:=1) ap6.nd rfl (Or.inl rfl) (x9 M8 (pv 1) (x9 ar2 i6 i6)))
   (j0 (A9 (i:=2) ap6.nd rfl (Or.inl rfl) (D0 GN hr (by rfl) FN K6 (b9 (x9 Q5 (pv 1) i6) (b9 (F6 aa7 (X9 (b9 i6 (b9 i6 (b9 i6 (b9 i6 (b9 i6 (b9 i6 (b9 i6 (b9 i6 d5))))))))) (x9 M8 (pv 1) i6) (fun _ _=>rfl)) d5))))
   (bJ8 (N1 (D6 ai7 (x9 M8 (x9 Q5 (pv 1) i6) i6) i6 (E9 _)) (j0 (A9 (i:=3) ap6.nd rfl (Or.inl rfl) (x9 M8 (x9 Q5 (pv 1) i6) (A6 B1 (by rfl) B.len PySem.boot_len (b9 (pv 2) d5)))) (o5 (bf4 (F6 aa7 (X9 (b9 (x9 ah7 (x9 ah7 i6 i6) (x9 M8 (x9 Q5 (pv 1) i6) (x9 ar2 i6 i6))) (b9 (x9 M8 (x9 Q5 (pv 1) i6) (x9 ar2 i6 i6)) d5))) (x9 M8 (x9 Q5 (pv 1) i6) i6) (fun _ _=>rfl)) (bf6 (pv 2) (pv 3) set_list)))) F1)
   (j0 (ab9 PassesOwn.never rfl (U7 rfl B.range (b9 (x9 U3 (A6 B1 (by rfl) B.len PySem.boot_len (b9 (pv 2) d5)) i6) d5)) (B0 (i:=4) ap6.nd rfl (Or.inl rfl)) (o5 (N1 (D6 aY1 (D0 GR hr (by rfl) FR K6 (b9 (pv 2) (b9 i6 (b9 (pv 4) d5)))) (D0 GM hr (by rfl) FM (af8 (P:=P) (w:=w)) (b9 (pv 2) (b9 (pv 4) d5))) (E9 _)) K5 F1)))
   (j0 (A9 (i:=5) ap6.nd rfl (Or.inl rfl) (D0 GA hr (by rfl) FA (af8 (P:=P) (w:=w)) (b9 (pv 2) d5)))
   (j0 (A9 (i:=6) ap6.nd rfl (Or.inl rfl) (D0 GJ hr (by rfl) FJ (af8 (P:=P) (w:=w)) (b9 (pv 2) (b9 i6 d5))))
   (j0 (N1 (PW.pt (bx4 (D6 aY1 (aa6 ai7 (F6 F4 (pv 6) i6 (fun _ _=>rfl)) U2 (E9 _)) (aa6 ai7 (F6 F4 (pv 5) i6 (fun _ _=>rfl)) U2 (E9 _)) (E9 _)) (bf3 (D6 aY1 (aa6 ai7 (D0 GL hr (by rfl) FL (af8 (P:=P) (w:=w)) (b9 (pv 2) d5)) i6 (E9 _)) (aa6 ai7 (F6 F4 (pv 6) i6 (fun _ _=>rfl)) U2 (E9 _)) (E9 _))))) K5 F1)
   (o5 (N1 (D6 ai7 (F6 F4 (pv 6) i6 (fun _ _ => rfl)) U2 (E9 _)) (o5 (N1 (D6 bX9 (pv 6) (pv 5) (E9 _)) K5 F1))
    (j0 (A9 (i:=7) ap6.nd rfl (Or.inl rfl) (N0 N9 (by rfl) B.tuple (by rfl) (b9 (N2 (N':=["triple"]) (lk:=[none]) rfl (am0 (F6 F4 (F6 F4 (pv 6) i6 (fun _ _=>rfl)) i6 (fun _ _=>rfl))) (by rfl) rfl (by decide +kernel) (by exact trivial) (by rfl) (by exact LkL.ok trivial) (fun _ _ _=>B0 (i:=0) nd_triple rfl (Or.inl rfl)) (fun _ _ _=>S4) (fun _ _ _=>Y8 (bI7 K rfl) (pv 0) ad5 (ad4 i6))) d5)))
    (j0 (A9 (i:=8) ap6.nd rfl (Or.inl rfl) (N0 N9 (by rfl) B.tuple (by rfl) (b9 (N2 (N':=["tie"]) (lk:=[none]) rfl (am0 (F6 F4 (F6 F4 (pv 5) i6 (fun _ _=>rfl)) i6 (fun _ _=>rfl))) (by rfl) rfl (by decide +kernel) (by exact trivial) (by rfl) (by exact LkL.ok trivial) (fun _ _ _=>B0 (i:=0) nd_tie rfl (Or.inl rfl)) (fun _ _ _=>S4) (fun _ _ _=>x9 (by6 K rfl) (pv 0) (M3 (b9 i6 d5)))) d5)))
    (j0 (N1 (ab8 (ar0 (D0 GS hr (by rfl) FS K6 (b9 (pv 2) (b9 (M3 (b9 U2 (b9 (M3 (b9 (A6 B1 (by rfl) B.len PySem.boot_len (b9 (pv 2) d5)) (b9 (pv 7) d5))) d5))) d5))))) K5 F1)
    (o5 (N1 (ab8 (ar0 (D0 GX hr (by rfl) FX K6 (b9 (pv 2) (b9 i6 (b9 (M3 (b9 U2 (b9 (M3 (b9 (A6 B1 (by rfl) B.len PySem.boot_len (b9 (pv 2) d5)) (b9 (pv 8) d5))) d5))) d5)))))) K5 F1)))))))))))))))
  (o5 (C1 by3)),?_⟩
 refine⟨_,rfl,sc,ns,rfl,hS,hlen,fun ld zs HL sL gld hzl=>⟨ld,rfl,⟨_,SqL.of gld⟩,?_⟩⟩
 have tL:=t0.same sL
 refine bb1 (K:=K) (a:=ld) (xs:=zs.map V.int) (fun _ σ H2=>∃ e1 e2 e3 e4 e5 e6 e7 e8,σ=[some (.ref sc),e1,e2,e3,e4,e5,e6,e7,e8]/\G3 PO PT PU HL H2/\T3 PO PT PU H2) ⟨_,_,_,_,_,_,_,_,rfl,bl6 (A3.refl HL),tL⟩ (fun i σ H2 _ ⟨_,_,_,_,_,_,_,_,_,g,_⟩=>SqL.of (g.lst tL gld)) ?_ ?_
 ·rintro i x σ Ha hx ⟨e1,e2,e3,e4,e5,e6,e7,e8,rfl,ga,ta⟩
  obtain⟨z,rfl⟩:=int_at hx
  refine C2 ?_
  refine⟨_,rfl,_,_,rfl,rfl,⟨by decide,by decide,by decide⟩,_,_,rfl,rfl,p60,?_⟩
  refine Q4 fun c1 _=>?_
  obtain⟨v,hv,hv1,hv2⟩:=bC7 c1
  refine⟨_,rfl,_,_,rfl,rfl,⟨by decide,by decide⟩,(by show 8<=j8;decide),fun l8 f8=>?_⟩
  have s8:=f6 (o:=.lst [.int 9,.int 9,.int 9,.int 9,.int 9,.int 9,.int 9,.int 24]) f8
  refine⟨_,rfl,_,_,rfl,rfl,(by show (0:Int)<8;decide),l8,_,_,_,rfl,rfl,SqL.of c6,hv,_,v,rfl,hv1,hv2,fun tl ts H1 s1 ftl gtl ht=>?_⟩
  have s01:=s8.trans s1
  have fta:=s8.free ftl
  clear s8 s1 ftl hv
  refine C2 ?_
  refine⟨fun σ Hx=>∃ ts e3,σ=[some (.ref sc),some (.int c1),some (.ref tl),e3,e4,e5,e6,e7,e8]/\A3 Ha Hx/\Hx tl=some (.lst (ts.map V.int))/\R6 ts,?_,?_⟩
  ·refine⟨_,rfl,_,_,rfl,rfl,⟨by decide,by decide⟩,_,_,rfl,rfl,(by show (0:Int)<4;decide),rfl,_,rfl,aR1 (fun _=>?_) (fun _=>⟨ts,e3,rfl,s01,gtl,ht⟩)⟩
   have hl:0<ts.length:=ht.1
   obtain⟨j,ej,hj⟩:=aQ5 (c1 / 77) hl
   have hlm:(ts.map V.int).length=ts.length:=b8 ..
   refine⟨_,rfl,_,_,rfl,rfl,⟨by decide,by decide⟩,_,rfl,tl,_,rfl,.inl (SqL.of gtl),_,_,rfl,rfl,(by rw[hlm];show (0:Int)<(ts.length:Int);omega),?_⟩
   refine bB8 (v':=.int (j:Int)) (by rw[hlm];exact congrArg V.int ej) ?_
   refine⟨_,_,rfl,rfl,_,rfl,_,_,rfl,rfl,⟨by decide,by decide⟩,_,_,rfl,rfl,⟨by decide,by decide,by decide⟩,_,_,rfl,rfl,p30,_,_,rfl,rfl,_,rfl,_,_,rfl,rfl,⟨by decide,by decide⟩,_,_,rfl,rfl,⟨by decide,by decide,by decide⟩,_,_,rfl,rfl,p30,(by show 2<=j8;decide),fun l2 f2=>?_⟩
   obtain⟨u,hu⟩:=bU8 (0 - 1 - c1 / 99 % 10 ^ (av1 30)) (c1 / 99 % 10 ^ (av1 30)) (c1 / 33)
   have s2:=f6 (o:=.lst [.int (0 - 1 - c1 / 99 % 10 ^ (av1 30)),.int (c1 / 99 % 10 ^ (av1 30))]) f2
   refine⟨_,rfl,_,_,rfl,rfl,⟨by decide,by decide⟩,_,_,rfl,rfl,(by show (0:Int)<2;decide),l2,_,_,_,rfl,rfl,SqL.of c6,hu,?_⟩
   refine⟨_,rfl,_,rfl,tl,_,_,j,rfl,rfl,s2 _ _ gtl,ae0 (by rw[hlm];exact hj),?_⟩
   refine⟨ts.set j u,_,rfl,(s01.trans s2).upd fta,by rw[c6,set_int],?_⟩
   unfold R6
   rw[N4]
   exact ht
  ·rintro σ H3 ⟨ts,e3,rfl,s03,gtl,ht⟩
   have t1:=ht.1
   have t2:=ht.2
   refine⟨_,rfl,tl,_,rfl,.inl (SqL.of gtl),_,_,rfl,rfl,((ts.length+1:Nat):Int),by rw[b8];rfl,by omega,by omega,?_⟩
   rw[p0]
   refine ab4 (lo:=0) (n:=ts.length+1) (fun i σ H2=>∃ e4,σ=[some (.ref sc),some (.int c1),some (.ref tl),e3,e4,e5,e6,e7,e8]/\A3 H3 H2) ⟨_,rfl,A3.refl H3⟩ ?_ ?_
   ·rintro i σ H2 hi ⟨e4,rfl,s2⟩
    have e0:((0:Int)+(i:Int))=(i:Int):=by omega
    rw[e0]
    have hR:isR ts (i:Int):=⟨by omega,by omega⟩
    refine C2 ?_
    refine⟨_,rfl,_,rfl,tl,ts,1,(i:Int),rfl,.inl (SqL.of (s2 _ _ gtl)),ht,⟨by decide,by decide⟩,hR,fun H4 s4=>?_⟩
    refine⟨_,rfl,_,rfl,tl,ts,(i:Int),rfl,.inl (SqL.of ((s2.trans s4) _ _ gtl)),fun _ _ H5 s5=>?_,fun _ h=>absurd hR h,fun h=>absurd ht h⟩
    refine⟨rfl,_,rfl,aF6 (congrArg V.int (af6 ts _)) ?_⟩
    exact⟨_,rfl,(s2.trans s4).trans s5⟩
   ·rintro σ H4 ⟨e4,rfl,s34⟩
    have s04:=s03.trans s34
    have gt4:=s34 _ _ gtl
    have T4:=ta.same s04
    have hM:isM 1:=⟨by decide,by decide⟩
    refine⟨_,rfl,tl,ts,rfl,.inl (SqL.of gt4),fun _=>⟨T4.o,fun r5 H5 g5 t5 an5=>?_⟩,fun h=>absurd ht h⟩
    refine C2 ?_
    have gt5:=Y9 g5 T4.o gt4
    have T5:=T4.go g5 t5
    refine⟨_,rfl,tl,ts,1,rfl,.inl (SqL.of gt5),fun _ _=>⟨T5.s,fun r6 H6 g6 t6 an6=>?_⟩,fun _ h=>absurd hM h,fun h=>absurd ht h⟩
    refine C2 ?_
    have an6:ck6 K H6 r6 ts 1:=an6
    have gt6:=Y9 g6 T5.s gt5
    have T6:=T5.gs g6 t6
    have an5:=an5.grw g6 T5.s
    have G6:G3 PO PT PU HL H6:=ga.trans fun b o n1 n2 n3 h=>g6 b o n2 (g5 b o n1 (s04 b o h))
    clear s04 s34 s03 gtl gt4 T4 gt5 T5 g5 g6 t5 t6 ga ta fta s01
    rcases an6 with⟨x,b,k1,k2,k3,k4⟩ | ⟨hG,b,kk,k1,k2⟩
    ·rcases an5 with⟨y,c,j1,j2,j3,j4⟩ | ⟨jG,_⟩
     ·obtain rfl:=aN6 (aA1 k2) j2
      have a0:atI ([.str "wall",.ref b]:List V) 0=some (.str "wall"):=y7 (j:=0) rfl
      have c0:atI ([.str "wall",.ref c]:List V) 0=some (.str "wall"):=y7 (j:=0) rfl
      refine⟨_,rfl,r6,_,_,_,rfl,rfl,SqT.of k3,a0,rfl,_,rfl,r5,_,_,_,rfl,rfl,SqT.of j3,c0,rfl,rfl,_,rfl,aF6 rfl ?_⟩
      refine⟨_,rfl,tl,ts,rfl,.inl (SqL.of gt6),fun _=>⟨T6.l,fun v7 H7 g7 t7 hL=>?_⟩,fun h=>absurd ht h⟩
      have T7:=T6.gl g7 t7
      have k37:=M5 g7 T6.l k3
      have k47:=M5 g7 T6.l k4
      have j37:=M5 g7 T6.l j3
      have j47:=M5 g7 T6.l j4
      refine⟨hL.scl,_,rfl,r6,_,_,_,rfl,rfl,SqT.of k37,a0,rfl,rfl,_,rfl,aF6 (congrArg V.bl (decide_eq_false (hL.wall k2 k1))) ?_⟩
      refine⟨_,rfl,r6,_,_,_,rfl,rfl,SqT.of k37,a0,rfl,_,rfl,?_⟩
      rw[decide_eq_true rfl]
      exact T8 ⟨_,rfl,_,rfl,bH8 hun k37 k47 j37 j47 ⟨_,rfl,T9 ⟨_,_,_,_,_,_,_,_,rfl,G6.trans fun b o _ _ n3 h=>g7 b o n3 h,T7⟩⟩⟩
     ·exact absurd (aN6 (aA1 k2) (bN5 jG)) k1
    ·rcases an5 with⟨y,c,j1,j2,j3,j4⟩ | ⟨jG,c,ks,j1,j2⟩
     ·exact absurd (aN6 j2 (aA1 hG)) j1
     ·have a0:atI ([.str "web",.ref b]:List V) 0=some (.str "web"):=y7 (j:=0) rfl
      have a1:atI ([.str "web",.ref b]:List V) 1=some (.ref b):=y7 (j:=1) rfl
      have c0:atI ([.str "web",.ref c]:List V) 0=some (.str "web"):=y7 (j:=0) rfl
      have c1':atI ([.str "web",.ref c]:List V) 1=some (.ref c):=y7 (j:=1) rfl
      refine⟨_,rfl,r6,_,_,_,rfl,rfl,SqT.of k1,a0,rfl,_,rfl,r5,_,_,_,rfl,rfl,SqT.of j1,c0,rfl,rfl,_,rfl,aF6 rfl ?_⟩
      refine⟨_,rfl,tl,ts,rfl,.inl (SqL.of gt6),fun _=>⟨T6.l,fun v7 H7 g7 t7 hL=>?_⟩,fun h=>absurd ht h⟩
      have T7:=T6.gl g7 t7
      have G7:G3 PO PT PU HL H7:=G6.trans fun b o _ _ n3 h=>g7 b o n3 h
      have gt7:=Y9 g7 T6.l gt6
      have k17:=M5 g7 T6.l k1
      have j17:=M5 g7 T6.l j1
      obtain rfl:=hL.free hG
      refine⟨rfl,_,rfl,r6,_,_,_,rfl,rfl,SqT.of k17,a0,rfl,rfl,_,rfl,aF6 (congrArg V.bl ((decide_eq_true rfl).trans (decide_eq_true rfl).symm)) ?_⟩
      refine⟨_,rfl,r6,_,_,_,rfl,rfl,SqT.of k17,a0,rfl,_,rfl,T9 ?_⟩
      have hk6:=k2.len
      obtain⟨⟨t,zt,q1,q2,q3⟩,qtr,qpw,_⟩:=id k2
      have q17:=M5 g7 T6.l q1
      have q27:=M5 g7 T6.l q2
      have q37:=ab3 g7 T6.l q3
      obtain⟨u,zu,w1,w2,w3⟩:=j2.at_
      have w17:=M5 g7 T6.l w1
      have w27:=M5 g7 T6.l w2
      have w37:=ab3 g7 T6.l w3
      have ku:=aN8 t2 j2.nd j2.ups
      have a2:atI ([.int ts.length,.ref t]:List V) 1=some (.ref t):=y7 (j:=1) rfl
      have c2:atI ([.int ts.length,.ref u]:List V) 1=some (.ref u):=y7 (j:=1) rfl
      have hzt:=q3.len
      have hzu:=w3.len
      clear g7 t7 hL T6 G6 gt6 k1 j1 q1 q2 q3 w1 w2 w3
      refine⟨_,rfl,r6,_,_,_,rfl,rfl,SqT.of k17,a1,b,_,_,_,rfl,rfl,SqT.of q17,a2,t,rfl,⟨_,SqT.of q27⟩,fun D hD=>am6 (K:=K) (a:=t) (D:=D) (ys:=zt) (fun i xs σ' H'=>(∃ v,σ'=[v])/\A3 H7 H'/\H' D=some (.lst xs)/\B2 K H' xs ((kk.take i).map two))
       ⟨⟨none,rfl⟩,f6 hD,c6,by rw[R9];exact .nil⟩ (by omega) (fun i xs σ' H' hi ⟨_,s6,h6,t6⟩=>⟨SqT.of (s6 _ _ q27),h6,by have:=t6.len;rw[b8,o8]at this;omega⟩) ?_ ?_⟩
      ·rintro i xs x σ' H' N kN hx ⟨⟨v,rfl⟩,s6,h6,t6⟩
       obtain⟨pa,pk,rfl,hk',hq⟩:=q37.get hx
       obtain⟨u',v',m,rfl,_⟩:=qtr _ (i7 hk')
       refine C2 (O5 ?_)
       refine⟨_,rfl,_,rfl,pa,_,rfl,s6.seqT hq,(by show ¬ (HT.sIx 3 0 none=0/\HT.sIx 3 3 (some 2)=3);decide),fun p fp=>?_⟩
       have ec:am5 (([(u':Int),(v':Int),m]:List Int).map V.int) none (some 2)=[.int u',.int v']:=bm6 _ 2
       rw[ec]
       have sp:=f6 (o:=.tup [.int (u':Int),.int (v':Int)]) fp
       have h6':=sp _ _ h6
       refine⟨h6',kN _ _ _ ⟨⟨_,rfl⟩,(s6.trans sp).upd hD,c6,?_⟩⟩
       rw[u9,hk',k8]
       exact B2.updL h6' (B2.append (sp.tups t6) (B2.one (SqT.of c6)))
      ·rintro xs σ' H8 ⟨⟨v,rfl⟩,s8,g8,t8⟩
       rw[j7 (by omega)]at t8
       refine⟨D,_,rfl,.inl ⟨SqL.of g8,fun la fa=>?_⟩⟩
       have sa:=f6 (o:=.tup xs) fa
       have s79:=s8.trans sa
       have gla:(upd H8 la (.tup xs)) la=some (.tup xs):=c6
       have tla:=sa.tups t8
       generalize upd H8 la (.tup xs)=H9 at s79 gla tla ⊢
       refine C2 ?_
       clear s8 g8 t8 sa fa hD D
       refine⟨_,rfl,r5,_,_,_,rfl,rfl,SqT.of (s79 _ _ j17),c1',c,_,_,_,rfl,rfl,SqT.of (s79 _ _ w17),c2,u,rfl,⟨_,SqT.of (s79 _ _ w27)⟩,fun D hD=>am6 (K:=K) (a:=u) (D:=D) (ys:=zu) (fun i xs σ' H'=>(∃ v,σ'=[v])/\A3 H9 H'/\H' D=some (.lst xs)/\B2 K H' xs ((ks.take i).map thr))
        ⟨⟨none,rfl⟩,f6 hD,c6,by rw[R9];exact .nil⟩ (by omega) (fun i xs σ' H' hi ⟨_,s6,h6,t6⟩=>⟨SqT.of ((s79.trans s6) _ _ w27),h6,by have:=t6.len;rw[b8,o8]at this;omega⟩) ?_ ?_⟩
       ·rintro i xs' x σ' H' N kN hx ⟨⟨v,rfl⟩,s6,h6,t6⟩
        obtain⟨pa,pk,rfl,hk',hq⟩:=w37.get hx
        obtain⟨u',v',_,_,rfl⟩:=j2.ups _ (i7 hk')
        refine C2 (O5 ?_)
        refine⟨_,rfl,(by show 1<=j8;decide),fun p1 fp1=>?_⟩
        have sp1:=f6 (o:=.tup [V.int 1]) fp1
        refine⟨pa,p1,_,_,rfl,rfl,((s79.trans s6).trans sp1).seqT hq,SqT.of c6,by simp,by show 2+1<=j8;omega,fun h=>absurd h (by simp),fun _ p fp=>?_⟩
        have sp:=sp1.trans (f6 (o:=.tup (([(u':Int),(v':Int)]:List Int).map V.int++[V.int 1])) fp)
        have h6':=sp _ _ h6
        refine⟨h6',kN _ _ _ ⟨⟨_,rfl⟩,(s6.trans sp).upd hD,c6,?_⟩⟩
        rw[u9,hk',k8]
        exact B2.updL h6' (B2.append (sp.tups t6) (B2.one (SqT.of c6)))
       ·rintro xs' σ' H10 ⟨⟨v,rfl⟩,s10,g10,t10⟩
        rw[j7 (by omega)]at t10
        refine⟨D,_,rfl,.inl ⟨SqL.of g10,fun lb fb=>?_⟩⟩
        have sb:=f6 (o:=.tup xs') fb
        have s11:=s10.trans sb
        have glb:(upd H10 lb (.tup xs')) lb=some (.tup xs'):=c6
        have tlb:=sb.tups t10
        have gla':=s11 _ _ gla
        have tla':=s11.tups tla
        have s7:=s79.trans s11
        generalize upd H10 lb (.tup xs')=H11 at s7 glb tlb gla' tla' s11 ⊢
        refine C2 ?_
        clear s10 g10 t10 sb fb hD gla tla s11 s79
        refine⟨_,rfl,_,rfl,tl,_,rfl,.inl (SqL.of (s7 _ _ gt7)),_,rfl,(by show 2<=j8;decide),fun pw fw=>⟨(by show 2<=j8;decide),fun pr fr=>?_⟩⟩
        rw[b8]at fr ⊢
        have sw:=f6 (o:=.tup [.int (ts.length:Int),.ref la]) fw
        have sr:=f6 (o:=.tup [.str "web",.ref pw]) fr
        have swr:=sw.trans sr
        refine⟨tl,pr,pw,ts,ts.length,kk.map two,rfl,.inl (SqL.of ((s7.trans swr) _ _ gt7)),ht,SqT.of c6,⟨la,xs,SqT.of (sr _ _ c6),SqT.of (swr _ _ gla'),swr.tups tla'⟩,t1,t2,bj1 qtr qpw,fun H12 s12=>?_⟩
        have s712:=s7.trans (swr.trans s12)
        have s1112:=swr.trans s12
        have glb':=s1112 _ _ glb
        have tlb':=s1112.tups tlb
        rw[decide_eq_true (bI1 k2)]
        refine⟨_,rfl,T9 ?_⟩
        clear sw sr swr s12 fw fr s1112
        refine⟨_,rfl,_,rfl,tl,_,rfl,.inl (SqL.of (s712 _ _ gt7)),_,rfl,(by show 2<=j8;decide),fun pw' fw'=>⟨(by show 2<=j8;decide),fun pr' fr'=>?_⟩⟩
        rw[b8]at fr' ⊢
        have sw:=f6 (o:=.tup [.int (ts.length:Int),.ref lb]) fw'
        have sr:=f6 (o:=.tup [.str "web",.ref pw']) fr'
        have swr:=sw.trans sr
        have hth:=bI3 ht j2 (sr _ _ c6) (swr _ _ glb') (swr.tups tlb')
        refine⟨tl,pr',pw',ts,1,1,ks.map thr,rfl,.inl (SqL.of ((s712.trans swr) _ _ gt7)),ht,by decide,by decide,SqT.of c6,hth,fun H13 s13=>?_⟩
        rw[bO5 hth.tr (c8 1)]
        refine⟨_,rfl,T9 ?_⟩
        have sF:=s712.trans (swr.trans s13)
        exact⟨_,_,_,_,_,_,_,_,rfl,G7.trans (bl6 sF),T7.same sF⟩
 ·rintro σ Ha ⟨e1,e2,e3,e4,e5,e6,e7,e8,rfl,ga,ta⟩
  exact q _
theorem bZ2 {fH fV fS fI fU fN fℓ fι fO fG fρ fM fβ fω fW fQ fθ fl1 fJ fκ fψ fχ fE fF fL fY fX fν fα fR fτ fK fφ fη CN CW PO d PT e PU:Addr}{fdH fdV fdS fdU fdN fdℓ fdι fdG fdρ fdM fdQ fdθ fdl1 fdJ fdκ fdψ fdχ fdE fdY fdX fdν fdα fdR fdτ fdK fdφ fdη:FuncData}{tg:Tok}(F:Fun K "law" "law" be7 f fd)(B:Bn mg)(mM':mg "MOST_PLACES"=some (.int 24 tk))(mg':mg "GREATEST_MOST"=some (.int 1000000 tg))
  (FH:Fq K mg "least_where" av8 fH fdH ["low","high","holds"])
  (FV:Fq K mg "above" bx2 fV fdV ["numbers","level","most"])
  (FS:Fq K mg "shares" aj9 fS fdS ["numbers","much","most"])
  (FI:Fq K mg "is_place" aW8 fI fdI ["places","number"])
  (FU:Fq K mg "turned_up" sUp fU fdU ["places","tie"])
  (FN:Fq K mg "made" aD4 fN fdN ["places","ties"])
  (Fℓ:Fq K mg "tally_of" aD3 fℓ fdℓ ["web"])
  (Fι:Fq K mg "is_told" an8 fι fdι ["web"])
  (FT:Fq K mg "check_tally" aq9 fT fdT ["tally"])
  (FO:Fq K mg "order_of" aW5 fO fdO ["tally"])
  (FG:Fq K mg "falling" ap7 fG fdG ["tally"])
  (FA:Fq K mg "room_among" ae5 fA fdA ["numbers","most","r"])
  (Fρ:Fq K mg "room_with" av9 fρ fdρ ["tally","most","r"])
  (FM:Fq K mg "room" aW4 fM fdM ["tally","r"])
  (Fβ:Fq K mg "places_below" al8 fβ fdβ ["numbers"])
  (Fω:Fq K mg "wall_with" al7 fω fdω ["tally","most"])
  (FW:Fq K mg "wall_of" aW2 fW fdW ["tally"])
  (FQ:Fq K mg "check_most" be8 fQ fdQ ["tally","most"])
  (Fθ:Fq K mg "thick_room" bw6 fθ fdθ ["tally","most","r"])
  (Fl1:Fq K mg "thick_laid" bw7 fl1 fdl1 ["tally","most"])
  (FJ:Fq K mg "thick_answered" bw8 fJ fdJ ["tally","most"])
  (Fκ:Fq K mg "thick_tally" bw9 fκ fdκ ["web"])
  (Fψ:Fq K mg "is_thick_web_of" bx0 fψ fdψ ["tally","most","web"])
  (Fχ:Fq K mg "thick_shows" bw5 fχ fdχ ["tally","most","told"])
  (FE:Fq K mg "least_most" N8 fE fdE ["tally"])
  (FF:Fq K mg "first_of_order" aw0 fF fdF ["tally","many","passed_over"])
  (FL:Fq K mg "left_of_others" aK0 fL fdL ["tally","place","ends"])
  (FY:Fq K mg "laid_around" aW6 fY fdY ["tally","place","ends"])
  (FX:Fq K mg "answered" bx1 fX fdX ["tally"])
  (Fν:Fq K mg "is_web_of" aD5 fν fdν ["tally","web"])
  (Fα:Fq K mg "answer_shows" aX0 fα fdα ["tally","told"])
  (FR:Fq K mg "_law_row" bp3 fR fdR ["cell","many","size"])
  (Fτ:Fq K mg "_law_ties" aW3 fτ fdτ ["cell","places"])
  (FK:Fq K mg "_law_counts" as7 fK fdK ["places","ties"])
  (Fφ:Fq K mg "_law_tally" bw4 fφ fdφ ["cell","most"])
  (Fη:Fq K mg "_law_folded" aW9 fη fdη ["script","start","many"])
  (mW':mg "BadWeb"=some (.ref CW))(mB:mg "BadTally"=some (.ref CB))(cB:ak0 K CB)(mN':mg "BadNumber"=some (.ref CN))(cN:ak0 K CN)(hc:fdO.code=.ref c)(LB:ap0 base mg c PO)(hd:fdS.code=.ref d)(LD:ap0 base mg d PT)(he:fdE.code=.ref e)(LE:ap0 base mg e PU):x6 P w K mg base CX0 7 f fd ["script"] (aV1 K PO PT PU):=by
 have GX:x6 P w K mg base (CXE P w) 5 fX fdX ["tally"] (bv9 K CB PO):=bZ6 FX.F B FI FU FN FO hc LB FT FF FL FY FW FG FA Fβ Fω mM' mB cB
 have GS:x6 P w K mg base (CXE P w) 4 fS fdS ["numbers","much","most"] (bv3 K PT):=bZ0 FS.F hd LD B FV FH
 have Gl1:x6 P w K mg base CX0 5 fl1 fdl1 ["tally","most"] (bv0 K PT):=bY7 Fl1.F B FS GS
 have GQ:x6 P w K mg base (CXE P w) 2 fQ fdQ ["tally","most"] (aV2 K CB CN):=bZ5 FQ.F B FT mM' mg' mB cB mN' cN
 have Gω:x6 P w K mg base (CXE P w) 2 fω fdω ["tally","most"] (as3 K CB):=aE5 Fω.F B FT FG FA Fβ mM' mB cB
 have GJ:x6 P w K mg base (CXE P w) 6 fJ fdJ ["tally","most"] (bv1 K CB CN PT):=bY8 FJ.F FQ (GQ.mono (by decide)) Fω (Gω.mono (by decide)) Fl1 Gl1
 have GN:x6 P w K mg base CX0 3 fN fdN ["places","ties"] (aO4 K):=bk5 FN.F B FI FU mM'
 have Gι:x6 P w K mg base CX0 4 fι fdι ["web"] (aO3 K):=bK9 Fι.F FN GN mW'
 have Gν:x6 P w K mg base CX0 5 fν fdν ["tally","web"] (bd9 K):=bL6 Fν.F B Fι Gι Fℓ
 have GT:x6 P w K mg base (CXE P w) 5 fT fdT ["tally"] (aC9 K CB):=(aE6 FT.F B mM' mB cB).mono (by decide)
 have Gα:x6 P w K mg base CX0 6 fα fdα ["tally","told"] (be1 K):=bL8 Fα.F FT GT Fν Gν
 have Gψ:x6 P w K mg base CX0 5 fψ fdψ ["tally","most","web"] (bv7 K):=bZ4 Fψ.F B Fι Gι Fκ
 have Gχ:x6 P w K mg base CX0 6 fχ fdχ ["tally","most","told"] (bu8 K):=bY5 Fχ.F FQ (GQ.mono (by decide)) Fψ Gψ
 have Gρ:x6 P w K mg base (CXE P w) 2 fρ fdρ ["tally","most","r"] (aA3 K CB CN):=aY4 Fρ.F B FT FG FA mM' mB cB mN' cN
 have GM:x6 P w K mg base (CXE P w) 3 fM fdM ["tally","r"] (bd8 K CB CN):=bL2 FM.F B FT FG FA Fρ mM' mB cB mN' cN
 have Gθ:x6 P w K mg base CX0 3 fθ fdθ ["tally","most","r"] (bu9 K):=bY6 Fθ.F FQ GQ Fρ Gρ
 have GE:x6 P w K mg base (CXE P w) 5 fE fdE ["tally"] (aO5 K CB PU):=by8 FE.F he LE B FT FG FA Fβ Fω FH mM' mg' mB cB
 have Gφ:x6 P w K mg base CX0 3 fφ fdφ ["cell","most"] (bV9 K):=ch8 Fφ.F B FR Fτ FK
 exact bL4 F B Fη ((bL7 Fη.F B).mono (by decide)) Fφ (Gφ.mono (by decide)) Fθ (Gθ.mono (by decide)) FM (GM.mono (by decide)) FX (GX.mono (by decide)) FJ GJ FE (GE.mono (by decide)) Fα Gα Fχ Gχ
end
end Web
namespace Web
open PySem L2
def av3 (K:W.Frag):List (Addr × Addr):=match PySem.W.tabIn K "order_of",PySem.W.tabIn K "shares",PySem.W.tabIn K "least_most" with
 | some q,some r,some t=>[q,r,t]
 | _,_,_=>[]
def aP7 (K:W.Frag):Addr:=((PySem.W.tabIn K "order_of").getD (0,0)).2
def aP6 (K:W.Frag):Addr:=((PySem.W.tabIn K "shares").getD (0,0)).2
def aP5 (K:W.Frag):Addr:=((PySem.W.tabIn K "least_most").getD (0,0)).2
theorem ls1 {p:List Value->Prop}(h:∀ x0,p [x0]):∀ us,us.length=1->p us
 | [x0],_=>h x0
theorem ls2 {p:List Value->Prop}(h:∀ x0 x1,p [x0,x1]):∀ us,us.length=2->p us
 | [x0,x1],_=>h x0 x1
theorem ls3 {p:List Value->Prop}(h:∀ x0 x1 x2,p [x0,x1,x2]):∀ us,us.length=3->p us
 | [x0,x1,x2],_=>h x0 x1 x2
theorem fq {K:W.Frag}{mg:Str->Option Value}{st:Stmt}(X:K.In h)(G:h.Ns i9 mg)(a:j6 K i9 x=some (some (.ref f)))(F:Fun K x x st f fd)
  (b:∀ (kV doc pm:Value) (an:Option Addr) (cdv ct:Value) (us:List Value),us.length=ps.length->bi7 (W3 x x (ao5 st) (Q6 st) (p5 st) .none kV doc pm an cdv ct) ⟨us,[]⟩=pure (ps.zip us)):Fq K mg x st f fd ps:=⟨F,F.binds b,X4 X G a⟩
set_option maxHeartbeats 0 in
theorem all_mk {l:PySem.W.OpenLaw}{K:W.Frag}{mg:Str->Option Value}{fa fH fV fS fI fU fN fℓ fι fO fG fρ fM fβ fω fW fQ fθ fl1 fJ fκ fψ fχ fE fF fL fY fX fν fα fR fτ fK fφ fη fZ CBadWeb CBadTally CBadNumber:Addr}{tg:Tok}(X:K.In h)(G:h.Ns i9 mg)(hfa:mg "law"=some (.ref fa))
  {fdH fdV fdS fdU fdN fdℓ fdι fdG fdρ fdM fdQ fdθ fdl1 fdJ fdκ fdψ fdχ fdE fdY fdX fdν fdα fdR fdτ fdK fdφ fdη fdZ:FuncData}
  (aH:j6 K i9 "least_where"=some (some (.ref fH)))(FH:Fun K "least_where" "least_where" av8 fH fdH)
  (aV:j6 K i9 "above"=some (some (.ref fV)))(FV:Fun K "above" "above" bx2 fV fdV)
  (aS:j6 K i9 "shares"=some (some (.ref fS)))(FS:Fun K "shares" "shares" aj9 fS fdS)
  (aI:j6 K i9 "is_place"=some (some (.ref fI)))(FI:Fun K "is_place" "is_place" aW8 fI fdI)
  (aU:j6 K i9 "turned_up"=some (some (.ref fU)))(FU:Fun K "turned_up" "turned_up" sUp fU fdU)
  (aN:j6 K i9 "made"=some (some (.ref fN)))(FN:Fun K "made" "made" aD4 fN fdN)
  (aℓ:j6 K i9 "tally_of"=some (some (.ref fℓ)))(Fℓ:Fun K "tally_of" "tally_of" aD3 fℓ fdℓ)
  (aι:j6 K i9 "is_told"=some (some (.ref fι)))(Fι:Fun K "is_told" "is_told" an8 fι fdι)
  (aT:j6 K i9 "check_tally"=some (some (.ref fT)))(FT:Fun K "check_tally" "check_tally" aq9 fT fdT)
  (aO:j6 K i9 "order_of"=some (some (.ref fO)))(FO:Fun K "order_of" "order_of" aW5 fO fdO)
  (aG:j6 K i9 "falling"=some (some (.ref fG)))(FG:Fun K "falling" "falling" ap7 fG fdG)
  (aA:j6 K i9 "room_among"=some (some (.ref fA)))(FA:Fun K "room_among" "room_among" ae5 fA fdA)
  (aρ:j6 K i9 "room_with"=some (some (.ref fρ)))(Fρ:Fun K "room_with" "room_with" av9 fρ fdρ)
  (aM:j6 K i9 "room"=some (some (.ref fM)))(FM:Fun K "room" "room" aW4 fM fdM)
  (aβ:j6 K i9 "places_below"=some (some (.ref fβ)))(Fβ:Fun K "places_below" "places_below" al8 fβ fdβ)
  (aω:j6 K i9 "wall_with"=some (some (.ref fω)))(Fω:Fun K "wall_with" "wall_with" al7 fω fdω)
  (aW:j6 K i9 "wall_of"=some (some (.ref fW)))(FW:Fun K "wall_of" "wall_of" aW2 fW fdW)
  (aQ:j6 K i9 "check_most"=some (some (.ref fQ)))(FQ:Fun K "check_most" "check_most" be8 fQ fdQ)
  (aθ:j6 K i9 "thick_room"=some (some (.ref fθ)))(Fθ:Fun K "thick_room" "thick_room" bw6 fθ fdθ)
  (al1:j6 K i9 "thick_laid"=some (some (.ref fl1)))(Fl1:Fun K "thick_laid" "thick_laid" bw7 fl1 fdl1)
  (aJ:j6 K i9 "thick_answered"=some (some (.ref fJ)))(FJ:Fun K "thick_answered" "thick_answered" bw8 fJ fdJ)
  (aκ:j6 K i9 "thick_tally"=some (some (.ref fκ)))(Fκ:Fun K "thick_tally" "thick_tally" bw9 fκ fdκ)
  (aψ:j6 K i9 "is_thick_web_of"=some (some (.ref fψ)))(Fψ:Fun K "is_thick_web_of" "is_thick_web_of" bx0 fψ fdψ)
  (aχ:j6 K i9 "thick_shows"=some (some (.ref fχ)))(Fχ:Fun K "thick_shows" "thick_shows" bw5 fχ fdχ)
  (aE:j6 K i9 "least_most"=some (some (.ref fE)))(FE:Fun K "least_most" "least_most" N8 fE fdE)
  (aF:j6 K i9 "first_of_order"=some (some (.ref fF)))(FF:Fun K "first_of_order" "first_of_order" aw0 fF fdF)
  (aL:j6 K i9 "left_of_others"=some (some (.ref fL)))(FL:Fun K "left_of_others" "left_of_others" aK0 fL fdL)
  (aY:j6 K i9 "laid_around"=some (some (.ref fY)))(FY:Fun K "laid_around" "laid_around" aW6 fY fdY)
  (aX:j6 K i9 "answered"=some (some (.ref fX)))(FX:Fun K "answered" "answered" bx1 fX fdX)
  (aν:j6 K i9 "is_web_of"=some (some (.ref fν)))(Fν:Fun K "is_web_of" "is_web_of" aD5 fν fdν)
  (aα:j6 K i9 "answer_shows"=some (some (.ref fα)))(Fα:Fun K "answer_shows" "answer_shows" aX0 fα fdα)
  (aR:j6 K i9 "_law_row"=some (some (.ref fR)))(FR:Fun K "_law_row" "_law_row" bp3 fR fdR)
  (aτ:j6 K i9 "_law_ties"=some (some (.ref fτ)))(Fτ:Fun K "_law_ties" "_law_ties" aW3 fτ fdτ)
  (aK:j6 K i9 "_law_counts"=some (some (.ref fK)))(FK:Fun K "_law_counts" "_law_counts" as7 fK fdK)
  (aφ:j6 K i9 "_law_tally"=some (some (.ref fφ)))(Fφ:Fun K "_law_tally" "_law_tally" bw4 fφ fdφ)
  (aη:j6 K i9 "_law_folded"=some (some (.ref fη)))(Fη:Fun K "_law_folded" "_law_folded" aW9 fη fdη)
  (aZ:j6 K i9 "law"=some (some (.ref fZ)))(FZ:Fun K "law" "law" be7 fZ fdZ)
  (mo:j6 K i9 "MOST_PLACES"=some (some (.int 24 tk)))
  (gm:j6 K i9 "GREATEST_MOST"=some (some (.int 1000000 tg)))
  (aBadWeb:j6 K i9 "BadWeb"=some (some (.ref CBadWeb)))
  (aBadTally:j6 K i9 "BadTally"=some (some (.ref CBadTally)))
  (aBadNumber:j6 K i9 "BadNumber"=some (some (.ref CBadNumber)))
  (qBadTally:PySem.W.excIn K CBadTally [.type "ValueError",.type "Exception",.type "BaseException",.type "object"] "ValueError.__new__"=true)
  (xmBadTally:PySem.W.exmOne K (.ref CBadTally) (.ref CBadTally)=some true)
  (qBadNumber:PySem.W.excIn K CBadNumber [.type "ValueError",.type "Exception",.type "BaseException",.type "object"] "ValueError.__new__"=true)
  (xmBadNumber:PySem.W.exmOne K (.ref CBadNumber) (.ref CBadNumber)=some true)
  (tb:(PySem.W.tabIn K "order_of").isSome=true)
  (tb2:(PySem.W.tabIn K "shares").isSome=true)
  (tb3:(PySem.W.tabIn K "least_most").isSome=true)
  (z1:j6 K i9 "len"=some none)
  (z2:j6 K i9 "range"=some none)
  (z3:j6 K i9 "enumerate"=some none)
  (z4:j6 K i9 "list"=some none)
  (z5:j6 K i9 "tuple"=some none)
  (z6:j6 K i9 "sorted"=some none)
  (z7:j6 K i9 "set"=some none)
  (z8:j6 K i9 "isinstance"=some none)
  (z9:j6 K i9 "int"=some none)
  (z10:j6 K i9 "bool"=some none)
  (z11:j6 K i9 "min"=some none)
  (z12:j6 K i9 "max"=some none)
  (z13:j6 K i9 "sum"=some none)
  (z14:j6 K i9 "str"=some none)
  (z15:j6 K i9 "ValueError"=some none)
  (z16:j6 K i9 "all"=some none)
  (z17:j6 K i9 "zip"=some none) :
  ∃ fd:FuncData,(∀ (s:Shared) (v:Value),bn8 s fd ⟨[v],[]⟩ [("script",v)])/\∀ base:Heap,K.In base->base.Ns i9 mg->(∀ q∈av3 K,ap0 base mg q.1 q.2)->x6 l.prog w K mg base CX0 7 fa fd ["script"] (aV1 K (aP7 K) (aP6 K) (aP5 K)):=by
 have e:=hfa.symm.trans (X4 X G aZ)
 cases e
 have B:Bn mg:=⟨A1 X G z1,A1 X G z2,A1 X G z3,A1 X G z4,A1 X G z5,A1 X G z6,A1 X G z7,A1 X G z8,A1 X G z9,A1 X G z10,A1 X G z11,A1 X G z12,A1 X G z13,A1 X G z14,A1 X G z15,A1 X G z16,A1 X G z17⟩
 obtain⟨⟨c,PT⟩,hcp⟩:=o7.mp tb
 obtain⟨⟨d,PU⟩,hdp⟩:=o7.mp tb2
 obtain⟨⟨e,PV⟩,hep⟩:=o7.mp tb3
 obtain⟨_,_,_,_,_,_,_,_,_,_,lO,_⟩:=FO.ex
 have hc:=aC6 hcp aO lO
 obtain⟨_,_,_,_,_,_,_,_,_,_,lS,_⟩:=FS.ex
 have hd:=aC6 hdp aS lS
 obtain⟨_,_,_,_,_,_,_,_,_,_,lE,_⟩:=FE.ex
 have he:=aC6 hep aE lE
 have ept:aP7 K=PT:=by unfold aP7;rw[hcp];rfl
 have epu:aP6 K=PU:=by unfold aP6;rw[hdp];rfl
 have epv:aP5 K=PV:=by unfold aP5;rw[hep];rfl
 have ets:av3 K=[(c,PT),(d,PU),(e,PV)]:=by unfold av3;rw[hcp,hdp,hep]
 rw[ept,epu,epv,ets]
 obtain⟨_,_,y1,y2,y3,y4,y5,y6,_,rfl,_,_⟩:=FZ.ex
 exact⟨W3 "law" "law" (ao5 be7) (Q6 be7) (p5 be7) .none y1 y2 y3 y4 y5 y6,fun s v=>.of_eq rfl,fun base _ _ hL=>bZ2 FZ B (X4 X G mo) (X4 X G gm) (fq X G aH FH fun _ _ _ _ _ _=>ls3 fun _ _ _=>rfl) (fq X G aV FV fun _ _ _ _ _ _=>ls3 fun _ _ _=>rfl) (fq X G aS FS fun _ _ _ _ _ _=>ls3 fun _ _ _=>rfl) (fq X G aI FI fun _ _ _ _ _ _=>ls2 fun _ _=>rfl) (fq X G aU FU fun _ _ _ _ _ _=>ls2 fun _ _=>rfl) (fq X G aN FN fun _ _ _ _ _ _=>ls2 fun _ _=>rfl) (fq X G aℓ Fℓ fun _ _ _ _ _ _=>ls1 fun _=>rfl) (fq X G aι Fι fun _ _ _ _ _ _=>ls1 fun _=>rfl) (fq X G aT FT fun _ _ _ _ _ _=>ls1 fun _=>rfl) (fq X G aO FO fun _ _ _ _ _ _=>ls1 fun _=>rfl) (fq X G aG FG fun _ _ _ _ _ _=>ls1 fun _=>rfl) (fq X G aA FA fun _ _ _ _ _ _=>ls3 fun _ _ _=>rfl) (fq X G aρ Fρ fun _ _ _ _ _ _=>ls3 fun _ _ _=>rfl) (fq X G aM FM fun _ _ _ _ _ _=>ls2 fun _ _=>rfl) (fq X G aβ Fβ fun _ _ _ _ _ _=>ls1 fun _=>rfl) (fq X G aω Fω fun _ _ _ _ _ _=>ls2 fun _ _=>rfl) (fq X G aW FW fun _ _ _ _ _ _=>ls1 fun _=>rfl) (fq X G aQ FQ fun _ _ _ _ _ _=>ls2 fun _ _=>rfl) (fq X G aθ Fθ fun _ _ _ _ _ _=>ls3 fun _ _ _=>rfl) (fq X G al1 Fl1 fun _ _ _ _ _ _=>ls2 fun _ _=>rfl) (fq X G aJ FJ fun _ _ _ _ _ _=>ls2 fun _ _=>rfl) (fq X G aκ Fκ fun _ _ _ _ _ _=>ls1 fun _=>rfl) (fq X G aψ Fψ fun _ _ _ _ _ _=>ls3 fun _ _ _=>rfl) (fq X G aχ Fχ fun _ _ _ _ _ _=>ls3 fun _ _ _=>rfl) (fq X G aE FE fun _ _ _ _ _ _=>ls1 fun _=>rfl) (fq X G aF FF fun _ _ _ _ _ _=>ls3 fun _ _ _=>rfl) (fq X G aL FL fun _ _ _ _ _ _=>ls3 fun _ _ _=>rfl) (fq X G aY FY fun _ _ _ _ _ _=>ls3 fun _ _ _=>rfl) (fq X G aX FX fun _ _ _ _ _ _=>ls1 fun _=>rfl) (fq X G aν Fν fun _ _ _ _ _ _=>ls2 fun _ _=>rfl) (fq X G aα Fα fun _ _ _ _ _ _=>ls2 fun _ _=>rfl) (fq X G aR FR fun _ _ _ _ _ _=>ls3 fun _ _ _=>rfl) (fq X G aτ Fτ fun _ _ _ _ _ _=>ls2 fun _ _=>rfl) (fq X G aK FK fun _ _ _ _ _ _=>ls2 fun _ _=>rfl) (fq X G aφ Fφ fun _ _ _ _ _ _=>ls2 fun _ _=>rfl) (fq X G aη Fη fun _ _ _ _ _ _=>ls3 fun _ _ _=>rfl) (X4 X G aBadWeb) (X4 X G aBadTally) ⟨qBadTally⟩ (X4 X G aBadNumber) ⟨qBadNumber⟩ hc (hL (c,PT) c9) hd (hL (d,PU) (c7 _ c9)) he (hL (e,PV) (c7 _ (c7 _ c9)))⟩
theorem walk {l:PySem.W.OpenLaw} {q:Program} {loose:List Str} {d:DefRec} {K:Params->PySem.W.Frag} (hn:l.most=some 63) (hdf:d.params.defaults=[])
  (hY:∀ (w:World) (h:Heap),YP w h->(K w.params).In h) (hK0:∀ w:World,PySem.W.noTabs (K w.params)=true) (hrec:((PyProof.Rows.recsOf q).find? (fun e=>e.name == ("order_of":Str))).isSome=true) (htb:∀ w:World,(PySem.W.tabIn (K w.params) "order_of").isSome=true) (hrec2:((PyProof.Rows.recsOf q).find? (fun e=>e.name == ("shares":Str))).isSome=true) (htb2:∀ w:World,(PySem.W.tabIn (K w.params) "shares").isSome=true) (hrec3:((PyProof.Rows.recsOf q).find? (fun e=>e.name == ("least_most":Str))).isSome=true) (htb3:∀ w:World,(PySem.W.tabIn (K w.params) "least_most").isSome=true) (hne:∀ w:World,decide (aP7 (K w.params)=aP6 (K w.params))=false) (hne2:∀ w:World,decide (aP7 (K w.params)=aP5 (K w.params))=false) (hne3:∀ w:World,decide (aP6 (K w.params)=aP5 (K w.params))=false)
  (F : ∀ (w : World) (mg : Str -> Option Value) (fa : Addr) (h : Heap), (K w.params).In h -> h.Ns i9 mg -> mg d.name = some (.ref fa) ->
   ∃ fd:FuncData,(∀ (s:Shared) (u:Value),bn8 s fd ⟨[u],[]⟩ [("script",u)])/\∀ base:Heap,(K w.params).In base->base.Ns i9 mg->(∀ q∈av3 (K w.params),ap0 base mg q.1 q.2)->x6 l.prog w (K w.params) mg base CX0 7 fa fd ["script"] (aV1 (K w.params) (aP7 (K w.params)) (aP6 (K w.params)) (aP5 (K w.params)))) :
  PySem.W.WalkO q loose XP YP l.row.toRowW d [] (fun f vs=>PySem.call f vs):=by
 refine L2.walk_ofT (n:=63) (k:=7) (x:="script") (CX:=fun _=>CX0) (sp:=fun w _=>aV1 (K w.params) (aP7 (K w.params)) (aP6 (K w.params)) (aP5 (K w.params))) (ts:=fun w=>av3 (K w.params)) hn (by decide) hdf ⟨rfl,by decide,by decide⟩ hY hK0 (fun w loose mean mg mb h T X=>?_) F (fun w H a ns hl hT hS=>?_) fun _ _ _ _ _ z=>z
 ·obtain⟨⟨c,PT⟩,hcp⟩:=o7.mp (htb w)
  obtain⟨⟨e,PU⟩,hep⟩:=o7.mp (htb2 w)
  obtain⟨⟨g,PV⟩,hgp⟩:=o7.mp (htb3 w)
  obtain⟨d',hd'⟩:=o7.mp hrec
  obtain⟨d2,hd2⟩:=o7.mp hrec2
  obtain⟨d3,hd3⟩:=o7.mp hrec3
  have ets:av3 (K w.params)=[(c,PT),(e,PU),(g,PV)]:=by unfold av3;rw[hcp,hep,hgp]
  show PySem.W.TabsAt (av3 (K w.params)) h
  rw[ets]
  intro r hr
  rcases d8.mp hr with hr | hr
  ·rw[hr]
   exact PySem.W.tab_of T X hd' hcp
  rcases d8.mp hr with hr | hr
  ·rw[hr]
   exact PySem.W.tab_of T X hd2 hep
  ·rw[B5.mp hr]
   exact PySem.W.tab_of T X hd3 hgp
 ·obtain⟨⟨c,PT⟩,hcp⟩:=o7.mp (htb w)
  obtain⟨⟨e,PU⟩,hep⟩:=o7.mp (htb2 w)
  obtain⟨⟨g,PV⟩,hgp⟩:=o7.mp (htb3 w)
  have ets:av3 (K w.params)=[(c,PT),(e,PU),(g,PV)]:=by unfold av3;rw[hcp,hep,hgp]
  have ept:aP7 (K w.params)=PT:=by unfold aP7;rw[hcp];rfl
  have epu:aP6 (K w.params)=PU:=by unfold aP6;rw[hep];rfl
  have epv:aP5 (K w.params)=PV:=by unfold aP5;rw[hgp];rfl
  have hn:=of_decide_eq_false (hne w)
  have hn2:=of_decide_eq_false (hne2 w)
  have hn3:=of_decide_eq_false (hne3 w)
  refine⟨a,ns,rfl,hS,hl,⟨?_,?_,?_,hn,hn2,hn3⟩,fun _=>rfl⟩
  ·rw[ept]
   exact⟨#[],hT (c,PT) (by show (c,PT)∈av3 (K w.params);rw[ets];exact c9),trivial,.inl rfl⟩
  ·rw[epu]
   exact⟨#[],hT (e,PU) (by show (e,PU)∈av3 (K w.params);rw[ets];exact c7 _ c9),trivial,.inl rfl⟩
  ·rw[epv]
   exact⟨#[],hT (g,PV) (by show (g,PV)∈av3 (K w.params);rw[ets];exact c7 _ (c7 _ c9)),trivial,.inl rfl⟩
end Web
set_option Elab.async false
namespace PySem.W.Fast
def tw15898254304150459200:=0
def tw10103365375962688081:=0
def tw17690426882322874601:=0
def tw10261145944015993095:=0
def tw7850031325167667148:=0
def tw17853997746185364153:=0
def tw9122197023356378068:=0
def tw10240054479554233129:=0
def tw2439707825035394031:=0
def tw3818347738050689317:=0
def tw10972580712702293444:=0
def tw4650963662825742005:=0
def tw4259448378895127242:=0
def tw14156178118133118280:=0
def tw14237899258660842841:=0
def tw3826390284961816584:=0
def tw13168666660261877868:=0
def tw16458788699739506878:=0
def tw16756865930000122298:=0
def tw6395109350833695583:=0
def tw6305370580638068034:=0
def tw14590105658578299398:=0
def tw8856944418214843406:=0
def tw9285595233929653343:=0
def tw367659101914116644:=0
def tw3783160440688713350:=0
def tw15159547033820511620:=0
def tw11869211671704841089:=0
def tw7378902048572795161:=0
def tw15035794887961146615:=0
def tw10024126941996131151:=0
def tw13393998486502007290:=0
def tw5929758492478102789:=0
def tw13753758145119667711:=0
def tw18359289788847255071:=0
def tw16191494486565261402:=0
def tw10873457738377239074:=0
def tw11526593465921798221:=0
def tw15045453594817216681:=0
def tw13490156444462316575:=0
def tw8780412668832969809:=0
def tw12028902347384156243:=0
def tw9578965576585767689:=0
def tw4303545837349771703:=0
def tw17235637437166208006:=0
def tw719156101811937263:=0
def tw12971297242789368237:=0
def tw12223418794233232425:=0
def tw11051690408313306595:=0
def tw7250895411539571016:=0
def tw5323791751207983052:=0
def tw14229526528649748156:=0
def tw3601321285735724566:=0
def tw13088561151105723302:=0
def tw12171120243949258669:=0
def tw9261232559035692240:=0
def tw3043915400058090422:=0
def tw4344696792157271495:=0
def tw15789103926406484926:=0
def tw14113734560558278424:=0
def tw10226078785155666512:=0
def tw12258088477925726045:=0
def tw1052608113164525946:=0
def tw378419775305126429:=0
def tw3196109929823302175:=0
def tw11873507545235933452:=0
def tw10068162502899709302:=0
def tw2703996709973109831:=0
def tw7353559165401046506:=0
def tw7385676119874677217:=0
def tw1769660803882424279:=0
def tw12490707093796150088:=0
def tw12910161041241398043:=0
def tw10878833713090920118:=0
def tw10870290357817211945:=0
def tw4857814222851997493:=0
def tw13670025299613344849:=0
def tw8592693770418394268:=0
def tw9369151938763674028:=0
def tw6547724307303701443:=0
def tw10115642764515157579:=0
def tw1099915376494235826:=0
def tw13802831549253541486:=0
def tw1894953085642801075:=0
def tw2989385581350560346:=0
def tw2180453975479318432:=0
def tw5430640779807231931:=0
def tw2463662051708835389:=0
def tw8913683094158948579:=0
def tw17064056733569854179:=0
def tw1922686833062001135:=0
def tw3068513254718220498:=0
def tw6317487699945503498:=0
def tw716898920361013578:=0
def tw14193348199702953275:=0
def tw15289727472274880861:=0
def tw17006505936574297295:=0
def tw17323038413485798708:=0
def tw2473131054163104197:=0
def tw4221848260723284354:=0
def tw5702288796772419364:=0
def tw12470400998971540231:=0
def tw7918542023472686752:=0
def tw14479875562956913249:=0
def tw2293520192754707825:=0
def tw4484718394700299085:=0
def tw10735130106927605277:=0
def tw3684365947372617729:=0
def tw18138768263197319113:=0
def tw130732302213592446:=0
def tw3835108497952703616:=0
def tw14448085336476806395:=0
def tw5078598323217010531:=0
def tw12001988854755483274:=0
def tw8480795068487593154:=0
def tw11244861547729236388:=0
def tw1533841614984881301:=0
def tw9136498581636042206:=0
def tw9491432544690496862:=0
def tw7711776352869766805:=0
def tw5830322510767852449:=0
def tw11402225739931200594:=0
def tw17478899200516739853:=0
def tw5937720924543552366:=0
def tw9991525471505881175:=0
def tw3783027070083745509:=0
def tw12606478481525468205:=0
def tw1721676314435262841:=0
def tw6720399292617127172:=0
def tw4357218560848867779:=0
def tw579034593394153130:=0
def tw13964855966370431015:=0
def tw15533306378286951178:=0
def tw15897997354434195561:=0
def tw5554803192201488291:=0
def tw17278066906599366331:=0
def tw7873842760390628448:=0
def tw3649946851243592556:=0
def tw16523945479153601520:=0
def tw10875365908660805017:=0
def tw17755714262477168398:=0
def tw6621933613035989847:=0
def tw16892448849486308835:=0
def tw8265030616055996296:=0
def tw14623704499670637930:=0
def tw13896792200712078478:=0
def tw16984868790747901923:=0
def tw17662223350471006978:=0
def tw8020730132922797716:=0
def tw11267669454263066682:=0
def tw12129486352969401039:=0
def tw16183399188504646268:=0
def tw12908020827724705245:=0
def tw647345601304460858:=0
def tw8129618667269547983:=0
def tw15330544086252343145:=0
def tw556500929343944965:=0
def tw17309612883007350518:=0
def tw502758444524196375:=0
def tw16471825964927035695:=0
def tw18377441006387831921:=0
def tw4363728950395851650:=0
def tw10735575837020459639:=0
def tw14789301487656294691:=0
def tw2007027844438249170:=0
def tw947143740252509649:=0
def tw755185534276768211:=0
def tw3851709586062736149:=0
def tw651984579383739233:=0
def tw15688067814971362002:=0
def tw8314344356501881007:=0
def tw96551633930412961:=0
def tw2936943596587249786:=0
def tw5095688653198978934:=0
def tw16278529324107139376:=0
def tw16392048185486526500:=0
def tw16829992083796273591:=0
def tw4634736473749345954:=0
def tw10761798983405193240:=0
def tw17886825157147455435:=0
def tw14486058433377726170:=0
def tw11292670692643794328:=0
def tw15680399792786258884:=0
def tw6812904084981654537:=0
def tw14770037487546272233:=0
def tw12708280301259751427:=0
def tw12202871760002398922:=0
def tw13814000457404243561:=0
def tw3781467914536259875:=0
def tw5654435286758165581:=0
def tw5738813363619490212:=0
def tw8226902736773652607:=0
def tw5090790909347888205:=0
def tw1464281396370608964:=0
def tw17704153051532737366:=0
def tw3075202611906201237:=0
end PySem.W.Fast
open PySem PySem.W PyProof.Rows
set_option maxRecDepth 100000 in
set_option maxHeartbeats 0 in
theorem PySem.Challenge.cw_tallyweb_k69_whole_most_one_is_webs_holds : PySem.Challenge.rw_tallyweb_k69_whole_most_one_is_webs.Holds := by
 w_on; o_law; k_head; (case hw => w_witness2)
 k_fill
 refine Web.walk (l := PySem.Challenge.rw_tallyweb_k69_whole_most_one_is_webs) rfl rfl (fun w h Y => PySem.W.km_in_of Y) ?hN0 ?hR0 ?hT0 ?hR1 ?hT1 ?hR2 ?hT2 ?hE0 ?hE1 ?hE2 ?F
 case hN0 => intro w; kernel_rfl
 case hR0 => kernel_rfl
 case hT0 => intro w; kernel_rfl
 case hR1 => kernel_rfl
 case hT1 => intro w; kernel_rfl
 case hR2 => kernel_rfl
 case hT2 => intro w; kernel_rfl
 case hE0 => intro w; kernel_rfl
 case hE1 => intro w; kernel_rfl
 case hE2 => intro w; kernel_rfl
 case F =>
  intro w mg fa h KX G hmg
  refine' Web.all_mk KX G hmg ?aH (L2.fun_mk ?lH ?cH ?kH) ?aV (L2.fun_mk ?lV ?cV ?kV) ?aS (L2.fun_mk ?lS ?cS ?kS) ?aI (L2.fun_mk ?lI ?cI ?kI) ?aU (L2.fun_mk ?lU ?cU ?kU) ?aN (L2.fun_mk ?lN ?cN ?kN) ?aℓ (L2.fun_mk ?lℓ ?cℓ ?kℓ) ?aι (L2.fun_mk ?lι ?cι ?kι) ?aT (L2.fun_mk ?lT ?cT ?kT) ?aO (L2.fun_mk ?lO ?cO ?kO) ?aG (L2.fun_mk ?lG ?cG ?kG) ?aA (L2.fun_mk ?lA ?cA ?kA) ?aρ (L2.fun_mk ?lρ ?cρ ?kρ) ?aM (L2.fun_mk ?lM ?cM ?kM) ?aβ (L2.fun_mk ?lβ ?cβ ?kβ) ?aω (L2.fun_mk ?lω ?cω ?kω) ?aW (L2.fun_mk ?lW ?cW ?kW) ?aQ (L2.fun_mk ?lQ ?cQ ?kQ) ?aθ (L2.fun_mk ?lθ ?cθ ?kθ) ?al1 (L2.fun_mk ?ll1 ?cl1 ?kl1) ?aJ (L2.fun_mk ?lJ ?cJ ?kJ) ?aκ (L2.fun_mk ?lκ ?cκ ?kκ) ?aψ (L2.fun_mk ?lψ ?cψ ?kψ) ?aχ (L2.fun_mk ?lχ ?cχ ?kχ) ?aE (L2.fun_mk ?lE ?cE ?kE) ?aF (L2.fun_mk ?lF ?cF ?kF) ?aL (L2.fun_mk ?lL ?cL ?kL) ?aY (L2.fun_mk ?lY ?cY ?kY) ?aX (L2.fun_mk ?lX ?cX ?kX) ?aν (L2.fun_mk ?lν ?cν ?kν) ?aα (L2.fun_mk ?lα ?cα ?kα) ?aR (L2.fun_mk ?lR ?cR ?kR) ?aτ (L2.fun_mk ?lτ ?cτ ?kτ) ?aK (L2.fun_mk ?lK ?cK ?kK) ?aφ (L2.fun_mk ?lφ ?cφ ?kφ) ?aη (L2.fun_mk ?lη ?cη ?kη) ?aZ (L2.fun_mk ?lZ ?cZ ?kZ) ?mo ?gm ?aBadWeb ?aBadTally ?aBadNumber ?qBadTally ?xmBadTally ?qBadNumber ?xmBadNumber ?tb ?tb2 ?tb3 ?z1 ?z2 ?z3 ?z4 ?z5 ?z6 ?z7 ?z8 ?z9 ?z10 ?z11 ?z12 ?z13 ?z14 ?z15 ?z16 ?z17
  case aH | lH | cH | kH | aV | lV | cV | kV | aS | lS | cS | kS | aI | lI | cI | kI | aU | lU | cU | kU | aN | lN | cN | kN | aℓ | lℓ | cℓ | kℓ | aι | lι | cι | kι | aT | lT | cT | kT | aO | lO | cO | kO | aG | lG | cG | kG | aA | lA | cA | kA | aρ | lρ | cρ | kρ | aM | lM | cM | kM | aβ | lβ | cβ | kβ | aω | lω | cω | kω | aW | lW | cW | kW | aQ | lQ | cQ | kQ | aθ | lθ | cθ | kθ | al1 | ll1 | cl1 | kl1 | aJ | lJ | cJ | kJ | aκ | lκ | cκ | kκ | aψ | lψ | cψ | kψ | aχ | lχ | cχ | kχ | aE | lE | cE | kE | aF | lF | cF | kF | aL | lL | cL | kL | aY | lY | cY | kY | aX | lX | cX | kX | aν | lν | cν | kν | aα | lα | cα | kα | aR | lR | cR | kR | aτ | lτ | cτ | kτ | aK | lK | cK | kK | aφ | lφ | cφ | kφ | aη | lη | cη | kη | aZ | lZ | cZ | kZ | mo | gm | aBadWeb | aBadTally | aBadNumber | z1 | z2 | z3 | z4 | z5 | z6 | z7 | z8 | z9 | z10 | z11 | z12 | z13 | z14 | z15 | z16 | z17 => k_is
  case qBadTally | qBadNumber => k_exc
  case xmBadTally | xmBadNumber => kts_exm
  case tb | tb2 | tb3 => kernel_rfl
#print axioms PySem.Challenge.cw_tallyweb_k69_whole_most_one_is_webs_holds

