import PyProof.Rows.All
import Wide.All
import OpenK.AllK
import Wide.FinOn
import Lean
import PyProof.EqAt
import PyProof.EqKinds
import PyProof.TupleCall
import PyProof.Rows.SortRunsK
import PyProof.Rows.SortShellK
import KE.KSortTup
import PyProof.TupleKey
import PySem.SetOps
import PyProof.Rows.SetFrom
import PyProof.EnumFor
import PyProof.EnumStmt
import PyProof.EnumMake
import PyProof.P3Eq
import PyProof.NeData
import PyProof.P3In
import PyProof.Rows.SumAny
import KE.KLam
import KE.KSortKey
import PyProof.ListRange
import KE.KTryMore
import PyProof.NsDelKeeps
import PyProof.RulesAs
import PyProof.ExcBaseAll.ValueError
import PyProof.ExcArgsOwn
import KE.KIsAll
import PyProof.Rows.SortRev
import PyProof.TupleOfSeq
import PyProof.Draws
import KE.KTupSum
import Wide.Txt2
import PyProof.ZipIter
import PyProof.Rows.TupAdd
import KE.KMinKey
import PyProof.Cells
import PyProof.DictWalks
import PyProof.ConsumeWalk
import PyProof.DictKeyH
import PyProof.ListNew
import PyProof.ConsumeS
import PyProof.WalksMore
import PyProof.ListOps
import PyProof.AutoSeq1
import PyProof.DictRoadsH
import PyProof.MeetsDictList
import KE.KDictOf
import PyProof.DictUpdate
import PyProof.DictCopy
import KE.RegKIsAll
import KE.RegKTryMore
import PySem.Challenge.RW_tallyweb_k51_what_shows_the_least_off
set_option autoImplicit false
set_option linter.all false
set_option Elab.async false
set_option maxRecDepth 100000
open PySem renaming wpAny_bind->b7,Value->c6,Shared->c7,wpAny_pure->d3,sizeLine->i9,mainGlobals->j0,Program->j8,wpAny->o7,FuncData->u0,Around->u4,World->x6,model->y6,tupleKeyHash->A0,starEach->A2,intKind->C6,wpAny_holding->D3,wpAny_mono->E3,sizeLine_eq->E4,wpAny_field->E5,wpAny_newObj_type->G1,compareOp->G2,wpAny_seqItems->J2,wpAny_pyIter_tuple->J4,wpAny_Call_Name_kw->J5,wpAny_callSpecial?_slot->J7,wpAny_call_entry->K1,intItems->K9,IsTupleKey->L6,wpAny_newList->M0,bootBuiltins->M5,wpAny_truthy_bool->M8,wpAny_pyIter_list->M9,compEnvC->O2,codeAny_builtin->P4,Scope->R8,backTo->S7,wpAny_passesOwn->S8,wpAny_setState_of->T6,wpAny_newFunctionEnv->U7,argBest->U8,binaryOp->W1,intItems_at->W4,IsPair->Y0,wpAny_setField_rec->Y1,foldedSetIterable->aa5,Paired->ac3,rawInt->ac4,codeAny_mono->ac5,wpAny_standAt->af3,plainId_quiet->af4,assignEach->ah2,wpAny_rule->ah3,wpAny_execs_nil->ai1,sliceBounds->ai2,Builtin->ai3,PyData->ai4,wpAny_letGo->ai5,wpAny_typeOf->ak5,codeAny->am1,wpAny_tryCatch->am3,Arguments->an9,ofAClassStatement->ao0,wpAny_comprehension_free->ao1,wpAny_pyIter_enum->ao2,getItem->ap4,cLine->ap5,numAt->ap6,noFill_tuple_add->at3,wpAny_forIn_list->at4,codeAny_compStart_list->at8,noteFrame->ax3,closureFor->ay3,compPost->ay4,recursionLimit->aG1,wpAny_setField->aG3,holding->aG7,Keyword->aG8,keywordEach->aG9,pyNext->aL8,behindInMarks->aL9,NameKind->aM0,seq_tuple_add->aM1,wpAny_attempt->aM3,setSearchFrom->aM4,builtinsNs->aR0,wpAny_call->aR1,wpAny_sequenceKey->aR2,call_meets->aR3,checkCount->aR4,wpAny_collect_seq->aR5,IsZip->aR6,concat_meets->aY4,IsPart->aY5,seqIndex_neg->aY6,wpAny_execs_cons->aZ2,letOwnedTupleGo->bj1,again->bj2,BindsTo->bj3,seqIndex_of->bj4,callerA->bj5,hashByValue->bj7,unsupported->bj8,theTreesLotGoes->bj9,seqItems?->bk1,wpAny_of_eq->bk2,wpAny_updateSeq->bk3,wpAny_letOwnedTupleGo_enum->bo9,wpAny_newTuple->bp4,GenState->bC0,rangeSize_one->bC1,bindArgs->bC2,backToKw->bC3,evalPart_none->bC5,attributeBase->bC7,compTurn_list->bD0,ReadsAll->bD1,wpAny_onRaise->bD2,wpAny_getItem_list_neg->bL8,assign->bP4,setSearch->bP5,wpAny_eqIsQuiet_tuple->bP6,codeAny_loop->bP7,codeAmong->bP8,wpAny_loadName_local->bY8,wpAny_updateSeq_pair->bY9,wpAny_loadName_cell->bZ7,subscripted->bZ8,wpAny_noted->ca0
open List renaming length_map->b9,size_toArray->d5,mem_cons_of_mem->d7,mem_cons->g6,getD_eq_getElem?_getD->i3,mem_cons_self->i5,getElem?_eq_getElem->i6,mem_of_getElem?->i7,map_append->j9,take_of_length_le->k8,getElem?_eq_some_iff->m8,mem_append_right->m9,length_take->o4,range->o8,getElem?_map->o9,length_append->p6,getElem?_eq_none->r6,mem_map->u6,map_cons->v8,length_cons->A1,replicate->A5,length_range->B0,mem_iff_getElem?->B4,mem_singleton->B7,mem_range->B9,take_add_one->C3,pairwise_iff_getElem->D6,length_drop->E1,range_succ->E7,pairwise_cons->F1,mem_append->F3,append_nil->F4,nodup_cons->F5,lookup->F6,filterMap_cons->G5,not_mem_nil->J3,getElem?_range->K4,length_set->K5,length_filter_le->K6,mem_of_mem_take->L5,pairwise_map->L8,replicate_succ->M4,nodup_iff_pairwise_ne->N1,all_eq_true->N3,mem_nil_iff->N4,take_append_drop->O0,filter_append->O1,mem_filter->O7,map_congr_left->P6,sum_cons->P7,take_sublist->S3,getElem_mem->U6,length_reverse->V0,map_map->V2,zip_cons_cons->W8,length_range'->W9,reverse_cons->Y3,flatten_cons->Y4,range'->Y5,getElem?_set_ne->ac0,mem_iff_getElem->ac2,toList_toArray->ae8,mem_filterMap->ah8,getElem_range->ah9,getElem?_take_of_lt->ak3,ext_getElem?->ak4,filter_cons_of_pos->an0,filter_cons_of_neg->an1,length_eq_zero_iff->an2,any_toArray->an7,drop_of_length_le->ap1,filter_eq_nil_iff->ap2,of_mem_zip->as6,length_replicate->as7,foldl_cons->as8,map_set->as9,mem_append_left->av9,range_eq_range'->aw0,mem_of_mem_drop->aw1,drop_zero->ax2,map_drop->aF9,map_take->aG0,append_assoc->aI2,mem_range'_1->aI3,drop_sublist->aI4,nodup_append->aI5,map_id'->aL7,filter_cons->aQ7,countP_cons->aQ8,nodup_nil->bd1,take_zero->bd3,foldl->bi8,length_erase_of_mem->bj0,any_cons->bo8,getElem?_set_self->bp0,pairwise_lt_range->bp1,drop_eq_nil_of_le->bp2,length_singleton->bB2,pairwise_append->bB7,getElem_toArray->bB9,flatMap_append->bL5,filter_sublist->bL6,getElem?_drop->bO9,getElem?_set->bY4,drop_reverse->bY5,take_reverse->bY6,lookup_cons->bZ1,mem_flatMap->bZ2,range'_succ->bZ3,map_reverse->bZ4,zipIdx_cons->bZ5
open PySem.Heap renaming get?_push_of_some->c5,lt_size->d6,get?_push_size->i8,get?_update_other->x9,size_push->D0,get?_update_self->N9,get?_none_of_le->av8,size_update->bZ6
open Nat renaming le_refl->d4,ne_of_lt->j7,lt_of_lt_of_le->p7,zero_le->y9,le_trans->A4,lt_irrefl->B8,lt_succ_of_lt->C0,lt_or_ge->C9,ne_of_gt->K7,le_add_right->Q1,lt_trichotomy->Y8,le_succ->Y9,le_of_lt->aa3,lt_succ_self->ac1,zero_add->ai7,succ_pos->ai8,le_of_lt_succ->am0,le_of_eq->at6,lt_or_eq_of_le->aG4,lt_of_le_of_lt->aG6,not_lt_zero->aY8,min_le_left->aZ1,div_div_eq_div_mul->bB3,testBit_two_pow->bP0,add_le_add_left->bP3,add_sub_cancel->bY7,mod_lt->bZ0
open PySem.W renaming nsIn->j6,keepIn->k6,codeIn->m3,mg_of->m5,fnOf->m7,mg_none_of->A3
open Bool renaming false_ne_true->k9,false_eq_true->o6,and_eq_true->C4,not_true->ad0,eq_iff_iff->as5,not_false->bd2,true_and->bo7
open Array renaming length_toList->p0,getElem?_toList->u5,size_extract->W3,toArray_toList->aa6,perm_iff_toList_perm->ae9,getElem?_eq_some_iff->af2,forIn_toList->ah1,size_map->ai0,getElem?_eq_none->an8,mem_toList_iff->at5,append_assoc->aA2,size_push->aQ9,getElem?_append_left->aY3,size_zip->aY9,getElem?_replicate->bd0,getD->bP1,toList_map->bY3
open Int renaming toNat_natCast->q0,le_refl->G6,emod_lt_of_pos->J1,mul_one->L0,emod_nonneg->M7,mul_assoc->P8,mul_le_mul_of_nonneg_left->Q2,mul_comm->R6,mul_zero->R7,toNat->X1,zero_mul->aa4,mul_sub->af0,sub_zero->at7,one_mul->aA3,lt_irrefl->aG5,sub_self->aQ6,mul_add->aZ0,mul_nonneg->bi9,add_zero->bB6,lt_or_le->bB8,toNat_of_nonneg->bP2
open PyProof.Rows renaming arrOf->t7,wpS_bind->E2,Keyed->E8,seqObj->F7,IntsAre->G9,envOfC->J6,wpS_pure->K8,SortSt->M6,get?_update_seq->P5,sortedHeap->X0,SortKind->aa7,failedOf->aa8,pendingOf->ac6,listUpdate_at->af5,entry_list_sort->ai6,wpS_forRange->ak6,mem_zip_self->ak7,slot_list_sort->am2,AllBare->ap3,plain_sorted->ax4,entry_sorted->ax5,slicePart_none->aG2,entry_tuple_getitem->aH0,wpS_reverse->aH1,kind_sorted->aH2,args_tuple_getitem->aM2,KeyOrd->aY7,mirror_perm->bj6,seqEpoch_at->bk0,args_list_sort->bp3,boot_range->bB4,size_push'->bB5,tupleItemsOf_->bC4,subscriptTail->bC6,wpS_get->bC8,tuples'->bC9,subscriptTail_builtinR->bL7,call_function_entry_kw->bL9,args_sorted1->bP9,listItems_at->bQ0,pairsOf_size->bQ1,getElem?_mirror_all->bZ9,wpAny_call_entry_kw->ca1,callWith_kw->ca2,pairsOf->ca3
open Option renaming isSome_iff_exists->v9,toList_some->af1,getD_none->bO8
namespace L2
open PySem PySem.Spec PyProof.Rows
abbrev Key:=Sum Int Str
def bO0:Key->c6->Bool
 | .inl k,v=>Value.isInt k v
 | .inr x,v=>Value.isStrOf x v
def ci9 (w:x6):Key->Int
 | .inl k=>hashInt k
 | .inr x=>hashStr w x
theorem M3:∀ {k:Key} {v:c6},bO0 k v=true->(∃ i t,k=Sum.inl i/\v=Value.int i t)\/(∃ x t,k=Sum.inr x/\v=Value.str x t)
 | .inl i,v,h=>by
  obtain⟨t,e⟩:=Value.isInt_shape (k:=i) (v:=v) h
  exact .inl ⟨i,t,rfl,e⟩
 | .inr x,v,h=>by
  obtain⟨t,e⟩:=Value.isStrOf_shape (x:=x) (v:=v) h
  exact .inr ⟨x,t,rfl,e⟩
theorem bV7 (a b:Int):decide ((Sum.inl a:Key)=Sum.inl b)=(a == b):=by
 by_cases e:a=b
 ·subst e;simp
 ·have h:¬ (Sum.inl a:Key)=Sum.inl b:=fun q=>e (Sum.inl.inj q)
  rw[decide_eq_false h]
  exact(beq_eq_false_iff_ne.mpr e).symm
theorem bV4 (a b:Str):decide ((Sum.inr a:Key)=Sum.inr b)=decide (a=b):=by
 by_cases e:a=b
 ·subst e;simp
 ·have h:¬ (Sum.inr a:Key)=Sum.inr b:=fun q=>e (Sum.inr.inj q)
  rw[decide_eq_false h,decide_eq_false e]
theorem bV6 (a:Int)(b:Str):decide ((Sum.inl a:Key)=Sum.inr b)=false:=decide_eq_false (fun q=>nomatch q)
theorem bV5 (a:Str)(b:Int):decide ((Sum.inr a:Key)=Sum.inl b)=false:=decide_eq_false (fun q=>nomatch q)
def aO5 (prog:j8) (w:x6):PySem.KeyKind prog w Key where
  is:=bO0
  hash:=ci9 w
  inj:=fun v a b ha hb=>by
    rcases M3 ha with⟨i,t,rfl,rfl⟩ | ⟨x,t,rfl,rfl⟩
    · rcases M3 hb with⟨j,u,rfl,e⟩ | ⟨y,u,rfl,e⟩
      · injection e with e1 _;rw[e1]
      · exact nomatch e
    · rcases M3 hb with⟨j,u,rfl,e⟩ | ⟨y,u,rfl,e⟩
      · exact nomatch e
      · injection e with e1 _;rw[e1]
  byValue := fun k v h => by
    rcases M3 h with⟨i,t,rfl,rfl⟩ | ⟨x,t,rfl,rfl⟩<;>rfl
  pyHash:=fun hv h=>by
    rcases M3 hv with⟨i,t,rfl,rfl⟩ | ⟨x,t,rfl,rfl⟩
    · exact wpAny_pyHash_int h
    · exact wpAny_pyHash_str h
  eqBool:=fun hu hv h=>by
    rcases M3 hu with⟨i,t,rfl,rfl⟩ | ⟨x,t,rfl,rfl⟩
    · rcases M3 hv with⟨j,u,rfl,rfl⟩ | ⟨y,u,rfl,rfl⟩
      · rw[bV7]at h;exact wpAny_eqBool_int h
      · rw[bV6]at h;exact SeqAt.EqAt.int_str i t y u _ _ _ _ h
    · rcases M3 hv with⟨j,u,rfl,rfl⟩ | ⟨y,u,rfl,rfl⟩
      · rw[bV5]at h;exact SeqAt.EqAt.str_int x t j u _ _ _ _ h
      · rw[bV4]at h;exact wpAny_eqBool_str h
  «strs»:=fun k x t v h=>by
    rcases M3 h with⟨i,u,rfl,e⟩ | ⟨y,u,rfl,e⟩
    · exact nomatch e
    · injection e with e1 _
      subst e1
      cases v<;>rfl
inductive V where
 | non | bl (b:Bool) | int (i:Int) | str (x:Str) | byt (b:Array UInt8) | flt (b:UInt64) | ref (a:Addr) | ty (n:String)
 deriving DecidableEq
def RelV:V->c6->Prop
 | .non,u=>u=Value.none
 | .bl b,u=>u=Value.bool b
 | .int i,u=>∃ t,u=Value.int i t
 | .str x,u=>∃ t,u=Value.str x t
 | .byt b,u=>∃ t,u=Value.bytes b t
 | .flt b,u=>∃ t,u=Value.float b t
 | .ref a,u=>u=Value.ref a
 | .ty n,u=>u=Value.type n
abbrev D9:List V->List c6->Prop:=ac3 RelV
theorem D9.length {xs:List V}{us:List c6}(r:D9 xs us):xs.length=us.length:=Paired.length r
theorem D9.get:∀ {xs:List V} {us:List c6} {i:Nat} {x:V},D9 xs us->xs[i]?=some x->∃ u,us[i]?=some u/\RelV x u
 | _,_,_,_,.nil,e=>by simp at e
 | _,_,0,_,.cons r _,e=>by simp at e;subst e;exact⟨_,rfl,r⟩
 | _,_,i+1,x,.cons _ t,e=>by
  obtain⟨u,h1,h2⟩:=D9.get (i:=i) (x:=x) t (by simpa using e)
  exact⟨u,by simpa using h1,h2⟩
theorem D9.set {x:V}{u:c6}(r:RelV x u):∀ {xs:List V} {us:List c6} (i:Nat),D9 xs us->D9 (xs.set i x) (us.set i u)
 | _,_,_,.nil=>.nil
 | _,_,0,.cons _ t=>.cons r t
 | _,_,i+1,.cons q t=>.cons q (D9.set r i t)
theorem D9.append:∀ {xs ys:List V} {us ws:List c6},D9 xs us->D9 ys ws->D9 (xs++ys) (us++ws)
 | _,_,_,_,.nil,s=>s
 | _,_,_,_,.cons r t,s=>.cons r (D9.append t s)
theorem D9.take:∀ {xs:List V} {us:List c6} (n:Nat),D9 xs us->D9 (xs.take n) (us.take n)
 | _,_,0,_=>.nil
 | _,_,_+1,.nil=>.nil
 | _,_,n+1,.cons r t=>.cons r (D9.take n t)
theorem D9.drop:∀ {xs:List V} {us:List c6} (n:Nat),D9 xs us->D9 (xs.drop n) (us.drop n)
 | _,_,0,r=>r
 | _,_,_+1,.nil=>.nil
 | _,_,n+1,.cons _ t=>D9.drop n t
def bX8:Option V->Option c6->Prop
 | some v,some u=>RelV v u
 | none,none=>True
 | _,_=>False
def KV {κ:Type}:List (κ × V)->List (κ × c6)->Prop:=ac3 fun(p:κ × V) (q:κ × c6)=>p.1=q.1/\RelV p.2 q.2
def kV:Key->V
 | .inl i=>.int i
 | .inr x=>.str x
inductive HO where
  | lst (xs:List V)
  | tup (xs:List V)
  | dK (kvs:List (Key × V)) | dT (kvs:List (List Key × V))
  | set (S:Int->Bool) (n:Nat)
  | ins (C dx:Addr) (fs:List (Str × V))
  | own (x:Addr)
  | xd (fs:List (Str × V))
  | met (f x:Addr)
  | rng (lo hi:Int)
  | frz (o:Obj) (u:HO)
  | tbl (ps:Array c6)
  | ext (φ:Heap->Prop)
abbrev Hp:=Addr->Option HO
def upd (H:Hp)(a:Addr)(o:HO):Hp:=fun b=>if b=a then some o else H b
theorem c8 {H:Hp}{a:Addr}{o:HO}:upd H a o a=some o:=by unfold upd;rw[if_pos rfl]
theorem v7 {H:Hp}{a b:Addr}{o:HO}(h:b≠a):upd H a o b=H b:=by unfold upd;rw[if_neg h]
theorem aM6 {H:Hp}{a:Addr}{o u:HO}:upd (upd H a o) a u=upd H a u:=by
 funext b;unfold upd;split<;>rfl
theorem bN7 {H:Hp}{a b:Addr}{o u:HO}(h:H a=some o)(h':H b=some u)(d:o≠u):a≠b:=by
 intro e;subst e;rw[h]at h';exact d (Option.some.inj h')
theorem o5 {H:Hp}{a b:Addr}{o:HO}(h:H a=some o)(h':H b=none):a≠b:=by
 intro e;subst e;rw[h]at h';cases h'
section
variable (P:j8) (w:x6)
def N7 (H:Hp)(h:Heap)(a:Addr):HO->Prop
 | .lst xs=>xs.length<=i9/\∃ (its:List c6) (n:Nat),D9 xs its/\h.get? a=some { cls:=.type "list",data:=.seq its.toArray n }
 | .tup xs=>xs.length<=i9/\∃ its:List c6,D9 xs its/\IsTup h a its.toArray
 | .dK kvs=>kvs.length<=i9/\(a == sysModules)=false/\∃ vs,KV kvs vs/\h.DictOf (aO5 P w) a vs
 | .dT kvs=>kvs.length<=i9/\(a == sysModules)=false/\∃ xs:List (List Key × Addr × c6),
   ac3 (fun(p:List Key × V) (q:List Key × Addr × c6)=>p.1=q.1/\H q.2.1=some (.tup (p.1.map kV))/\RelV p.2 q.2.2) kvs xs /\
   ∃ o es ep,h.get? a=some o/\o.ExactDict/\o.data=.dict es ep/\es.toList=xs.map (entryOfKey (tupleKind (aO5 P w)))/\(xs.map (·.1)).Nodup
 | .set S n=>h.SetOf (C6 P w) a S n
 | .ins C dx fs=>H dx=some (.own a)/\fs.length<=1000/\dx≠a/\h.get? a=some (PySem.W.instObj C dx) /\
   ∃ mA,h.Ns1 dx mA/\(∀ f,bX8 (fs.lookup f) (mA f))/\PySem.Within mA (fs.map (·.1))
 | .own _=>∃ o,h.get? a=some o
 | .xd fs=>∃ mA,h.Ns1 a mA/\∀ f,bX8 (fs.lookup f) (mA f)
 | .rng lo hi=>∃ t u v,h.get? a=some { cls:=.type "range",data:=.fields #[.int lo t,.int hi u,.int 1 v] }
 | .frz o u=>h.get? a=some o/\N7 H h a u
 | .tbl ps=>h.get? a=some { cls:=.none,data:=.fields ps }
 | .met f x=>h.get? a=some (PySem.W.methodObj (.ref f) (.ref x))
 | .ext φ=>φ h/\(∃ o,h.get? a=some o)/\∀ h1 h2:Heap,φ h1->(∀ o,h1.get? a=some o->h2.get? a=some o)->φ h2
def HOk (H:Hp)(h:Heap):Prop:=∀ a o,H a=some o->N7 P w H h a o
end
section
variable {P:j8} {w:x6} {H H':Hp} {h h':Heap} {a:Addr} {o:HO}
theorem N7.lt (x:N7 P w H h a o):a<h.objs.size:=by
 cases o with
 | lst xs=>obtain⟨_,_,_,_,e⟩:=x;exact d6 e
 | tup xs=>obtain⟨_,_,_,p⟩:=x;exact p.lt
 | dK kvs=>obtain⟨_,_,_,_,o,_,_,e,_⟩:=x;exact d6 e
 | dT kvs=>obtain⟨_,_,_,_,o,_,_,e,_⟩:=x;exact d6 e
 | set S n=>obtain⟨o,_,_,_,e,_⟩:=x;exact d6 e
 | ins C dx fs=>obtain⟨_,_,_,e,_⟩:=x;exact d6 e
 | own y=>obtain⟨_,e⟩:=x;exact d6 e
 | xd fs=>obtain⟨_,⟨_,_,_,e,_⟩,_⟩:=x;exact d6 e
 | rng lo hi=>obtain⟨_,_,_,e⟩:=x;exact d6 e
 | frz ob u=>obtain⟨e,_⟩:=x;exact d6 e
 | tbl ps=>exact d6 (show h.get? a=some _ from x)
 | met f y=>exact d6 (show h.get? a=some _ from x)
 | ext φ=>obtain⟨_,⟨_,e⟩,_⟩:=x;exact d6 e
theorem Paired.mapP {α β:Type}{F G:α->β->Prop}:∀ {l₁:List α} {l₂:List β},ac3 F l₁ l₂->(∀ a b,F a b->G a b)->ac3 G l₁ l₂
 | _,_,.nil,_=>.nil
 | _,_,.cons r t,f=>.cons (f _ _ r) (Paired.mapP t f)
theorem N7.stay (x:N7 P w H h a o)(k:∀ b u,(b=a\/H b=some (.own a))->h.get? b=some u->h'.get? b=some u)
  (ho:∀ b,H b=some (.own a)->H' b=some (.own a))(ht:∀ b xs,H b=some (.tup xs)->H' b=some (.tup xs)):N7 P w H' h' a o:=by
 induction o with
 | lst xs=>obtain⟨z,its,n,r,e⟩:=x;exact⟨z,its,n,r,k _ _ (.inl rfl) e⟩
 | tup xs=>obtain⟨z,its,r,ob,e,c⟩:=x;exact⟨z,its,r,ob,k _ _ (.inl rfl) e,c⟩
 | dK kvs=>obtain⟨z,y,vs,r,ob,es,ep,e,c⟩:=x;exact⟨z,y,vs,r,ob,es,ep,k _ _ (.inl rfl) e,c⟩
 | dT kvs =>
  obtain⟨z,y,xs,r,ob,es,ep,e,c⟩:=x
  exact⟨z,y,xs,Paired.mapP r fun p q z=>⟨z.1,ht _ _ z.2.1,z.2.2⟩,ob,es,ep,k _ _ (.inl rfl) e,c⟩
 | set S n=>obtain⟨ob,es,ep,t,e,c⟩:=x;exact⟨ob,es,ep,t,k _ _ (.inl rfl) e,c⟩
 | ins C dx fs =>
  obtain⟨d,z,ne,e,mA,⟨od,es,ep,e2,c⟩,r⟩:=x
  exact⟨ho _ d,z,ne,k _ _ (.inl rfl) e,mA,⟨od,es,ep,k _ _ (.inr d) e2,c⟩,r⟩
 | own y=>obtain⟨ob,e⟩:=x;exact⟨ob,k _ _ (.inl rfl) e⟩
 | xd fs=>obtain⟨mA,⟨od,es,ep,e,c⟩,r⟩:=x;exact⟨mA,⟨od,es,ep,k _ _ (.inl rfl) e,c⟩,r⟩
 | rng lo hi=>obtain⟨t,u,v,e⟩:=x;exact⟨t,u,v,k _ _ (.inl rfl) e⟩
 | frz ob u ih=>obtain⟨e,q⟩:=x;exact⟨k _ _ (.inl rfl) e,ih q⟩
 | tbl ps =>
  have e:h.get? a=some { cls:=.none,data:=.fields ps }:=x
  show h'.get? a=some { cls:=.none,data:=.fields ps }
  exact k a _ (.inl rfl) e
 | met f y =>
  have e:h.get? a=some (PySem.W.methodObj (.ref f) (.ref y)):=x
  show h'.get? a=some (PySem.W.methodObj (.ref f) (.ref y))
  exact k a _ (.inl rfl) e
 | ext φ=>obtain⟨p,⟨o,e⟩,st⟩:=x;exact⟨st _ _ p fun o q=>k _ _ (.inl rfl) q,⟨o,k _ _ (.inl rfl) e⟩,st⟩
theorem HOk.lt (x:HOk P w H h)(e:H a=some o):a<h.objs.size:=(x a o e).lt
theorem HOk.fresh (x:HOk P w H h)(e:h.objs.size<=a):H a=none:=by
 cases q:H a with
 | none=>rfl
 | some u=>exact absurd (p7 (x.lt q) e) (B8 _)
theorem HOk.kept (x:HOk P w H h)(k:∀ b u,h.get? b=some u->h'.get? b=some u):HOk P w H h':=fun a o e =>
 (x a o e).stay (fun b u _ q=>k b u q) (fun _ q=>q) fun _ _ q=>q
theorem HOk.laid (x:HOk P w H h)(k:∀ b u,h.get? b=some u->h'.get? b=some u)(hp:h.objs.size<=a)(new:N7 P w (upd H a o) h' a o):HOk P w (upd H a o) h':=fun b u e=>by
 have hn:=x.fresh hp
 by_cases hb:b=a
 ·subst hb;rw[c8]at e;cases e;exact new
 ·rw[v7 hb]at e
  exact(x b u e).stay (fun c v _ q=>k c v q) (fun c q=>by rw[v7 (o5 q hn)];exact q) fun c xs q=>by rw[v7 (o5 q hn)];exact q
end
def Rd (H:Hp)(a:Addr)(u:HO):Prop:=H a=some u\/∃ o,H a=some (.frz o u)
theorem Rd.ok {P:j8}{w:x6}{H:Hp}{h:Heap}{a:Addr}{u:HO}(r:Rd H a u)(x:HOk P w H h):N7 P w H h a u:=by
 rcases r with r | ⟨o,r⟩
 ·exact x a u r
 ·obtain⟨_,q⟩:=x a _ r
  exact q
def Mut:Option HO->Prop
 | some (.lst _)=>True
 | some (.dK _)=>True
 | some (.dT _)=>True
 | some (.set _ _)=>True
 | some (.ins _ _ _)=>True
 | some (.ext _)=>True
 | _=>False
section
variable {P:j8} {w:x6} {H:Hp} {h h':Heap} {x e:Addr} {o':HO}
theorem HOk.write (ok:HOk P w H h)(mu:Mut (H x))(he:e=x\/H e=some (.own x))(k:∀ b u,b≠e->h.get? b=some u->h'.get? b=some u)(heo:∃ u,h'.get? e=some u)
  (new:N7 P w (upd H x o') h' x o'):HOk P w (upd H x o') h':=fun b u q=>by
 have nown:∀ c y,H c=some (.own y)->c≠x:=fun c y r z=>by subst z;rw[r]at mu;exact mu
 have ntup:∀ c xs,H c=some (.tup xs)->c≠x:=fun c xs r z=>by subst z;rw[r]at mu;exact mu
 by_cases hb:b=x
 ·subst hb;rw[c8]at q;cases q;exact new
 ·rw[v7 hb]at q
  by_cases hbe:b=e
  ·have q':H b=some (.own x):=by
    rcases he with z | z
    ·exact absurd (hbe.trans z) hb
    ·rw[hbe];exact z
   rw[q]at q';cases q'
   obtain⟨v,hv⟩:=heo
   exact⟨v,by rw[hbe];exact hv⟩
  ·refine(ok b u q).stay (fun c v hc r=>k c v ?_ r) (fun c r=>by rw[v7 (nown c b r)];exact r) fun c xs r=>by rw[v7 (ntup c xs r)];exact r
   rcases hc with rfl | hc
   ·exact hbe
   ·rintro rfl
    rcases he with z | z
    ·exact nown c b hc z
    ·rw[hc]at z;cases z;exact hb rfl
end
structure Un (fs ex:List Addr) (H H':Hp) (h h':Heap):Prop where
 keep:∀ b o,h.get? b=some o->H b=none->b∉fs->b∉ex->h'.get? b=some o
 slot:∀ b o,h.get? b=some o->H b=none->b∈fs->b∉ex->∃ sl,h'.get? b=some { o with slots:=sl }
 free:∀ b o,h.get? b=some o->H b=none->b∉ex->H' b=none
 there:∀ b o,h.get? b=some o->b∉ex->∃ o',h'.get? b=some o'
 tups:∀ b xs,H b=some (.tup xs)->H' b=some (.tup xs)
 frzs:∀ b o u,H b=some (.frz o u)->H' b=some (.frz o u)
 tbls:∀ b ps,H b=some (.tbl ps)->∃ more,H' b=some (.tbl (ps++more))
section
variable {fs fs' ex ex':List Addr} {H H1 H2:Hp} {h h1 h2 h':Heap} {a x e:Addr} {o:HO}
theorem Un.any (u:Un fs ex H H1 h h1){b:Addr}{ob:Obj}(q:h.get? b=some ob)(n:H b=none)(hx:b∉ex):∃ sl,h1.get? b=some { ob with slots:=sl }:=by
 by_cases hb:b∈fs
 ·exact u.slot b ob q n hb hx
 ·exact⟨ob.slots,u.keep b ob q n hb hx⟩
theorem Un.kept (k:∀ b u,h.get? b=some u->h'.get? b=some u):Un fs ex H H h h':=
 ⟨fun b ob q _ _ _=>k b ob q,fun b ob q _ _ _=>⟨ob.slots,k b ob q⟩,fun _ _ _ n _=>n,fun b ob q _=>⟨ob,k b ob q⟩,fun _ _ q=>q,fun _ _ _ q=>q,fun _ ps q=>⟨#[],by rw[q];simp⟩⟩
theorem Un.refl:Un fs ex H H h h:=Un.kept fun _ _ q=>q
theorem Un.laid (k:∀ b u,h.get? b=some u->h'.get? b=some u)(hp:h.objs.size<=a)(hn:H a=none):Un fs ex H (upd H a o) h h' where
 keep:=fun b u q _ _ _=>k b u q
 slot:=fun b u q _ _ _=>⟨u.slots,k b u q⟩
 free:=fun b u q n _=>by rw[v7 (j7 (p7 (d6 q) hp))];exact n
 there:=fun b u q _=>⟨u,k b u q⟩
 tups:=fun b xs q=>by rw[v7 (o5 q hn)];exact q
 frzs:=fun b u xs q=>by rw[v7 (o5 q hn)];exact q
 tbls:=fun b ps q=>⟨#[],by rw[v7 (o5 q hn),q];simp⟩
theorem Un.write (mu:Mut (H x))(he:e=x\/H e=some (.own x))(k:∀ b u,b≠e->h.get? b=some u->h'.get? b=some u)(heo:∃ u,h'.get? e=some u):Un fs ex H (upd H x o) h h':=by
 have hx:∀ b,H b=none->b≠x:=fun b n z=>by subst z;rw[n]at mu;exact mu
 have hb:∀ b,H b=none->b≠e:=fun b n z=>by
  subst z
  rcases he with r | r
  ·exact hx b n r
  ·rw[n]at r;cases r
 have hm:∀ b u,H b=some u->¬ Mut (some u)->b≠x:=fun b u q nm z=>by subst z;rw[q]at mu;exact nm mu
 refine⟨fun b u q n _ _=>k b u (hb b n) q,fun b u q n _ _=>⟨u.slots,k b u (hb b n) q⟩,fun b u q n _=>by rw[v7 (hx b n)];exact n,fun b u q _=>?_,
  fun b xs q=>by rw[v7 (hm b _ q fun z=>z)];exact q,fun b u xs q=>by rw[v7 (hm b _ q fun z=>z)];exact q,fun b ps q=>⟨#[],by rw[v7 (hm b _ q fun z=>z),q];simp⟩⟩
 by_cases hbe:b=e
 ·subst hbe;exact heo
 ·exact⟨u,k b u hbe q⟩
end
def trk (h:Heap)(H:Hp):List Addr:=(o8 h.objs.size).filter fun a=>(H a).isSome
def aH8 (h:Heap)(H:Hp):Heap:=PySem.W.hideAll h (trk h H)
theorem bn2 (h:Heap)(H:Hp):(aH8 h H).objs.size=h.objs.size:=PySem.W.hideAll_size _ _
theorem bx8 {h:Heap}{H:Hp}{b:Addr}{o:Obj}(e:h.get? b=some o)(n:H b=none):(aH8 h H).get? b=some o:=
 PySem.W.hideAll_get _ e fun hm=>by
  have q:(H b).isSome=true:=(O7.mp hm).2
  rw[n]at q;simp at q
theorem bI3 {h:Heap}{H:Hp}{b:Addr}{o:Obj}(e:(aH8 h H).get? b=some o):h.get? b=some o/\H b=none:=by
 have e':h.get? b=some o:=PySem.W.of_hideAll (trk h H) e
 refine⟨e',?_⟩
 cases q:H b with
 | none=>rfl
 | some x =>
  have hm:b∈trk h H:=O7.mpr ⟨B9.mpr (d6 e'),by simp[q]⟩
  have z:(aH8 h H).get? b=none:=PySem.W.hideAll_none (trk h H) hm
  rw[z]at e;cases e
def bK8 (g h:Heap)(L:Addr):List (Addr × Obj):=(o8 h.objs.size).filterMap fun a=>if a=L\/(g.get? a).isSome=true then none else (h.get? a).map fun o=>(a,o)
def rest (g h:Heap)(L d:Addr):List (Addr × Obj):=(bK8 g h L).filter fun p=>decide (p.1≠d)
structure Mod (K:W.Frag) (mg:Str->Option c6) (base:Heap):Prop where
 kin:K.In base
 glob:base.Ns j0 mg
 blt:∃ mb,base.Ns aR0 mb/\∀ x:Str,x≠"__name__"->mb x=M5 x
 nolimit:base.NoLimit
structure Cx where
 prog:j8
 w:x6
 K:W.Frag
 mg:Str->Option c6
 base:Heap
 A:u4
 N:List Str
 s₀:c7
 H₀:Hp
 env:Env
 outer:List Env
 stack:List Env
 ex:List Addr
 fn:Str->Bool
 calm:Bool
 pn:List (Addr × Obj)
 xe:c6->c7->Prop
def frs (l:List Env):List Addr:=l.filterMap (·.frame)
abbrev Cx.fs (X:Cx):List Addr:=frs X.outer
def Vis (sc:R8)(x:Str):Prop:=sc.names.lookup x=some .local\/sc.names.lookup x=some .cell\/sc.names.lookup x=some .free
def Loc (sc:R8)(x:Str):Prop:=sc.names.lookup x=some .local\/sc.names.lookup x=some .cell
def Look (env:Env)(h:Heap)(m:Str->Option c6)(x:Str)(u:c6):Prop:=
 (env.kindOf x=some .local/\m x=some u)\/((env.kindOf x=some .cell\/env.kindOf x=some .free)/\∃ c,env.cells.lookup x=some c/\h.IsCell c (some u))
structure Cx.Ok (X:Cx):Prop where
 mod:Mod X.K X.mg X.base
 kind:X.env.scope.kind=.function
 glob:X.env.globals=j0
 blt:X.env.builtins=aR0
 above:X.s₀.heap.objs.size<=X.env.locals
 inj:∀ x y c,X.env.cells.lookup x=some c->X.env.cells.lookup y=some c->x=y
 has:∀ x,(X.env.kindOf x=some .cell\/X.env.kindOf x=some .free)->∃ c,X.env.cells.lookup x=some c
 cab:∀ x c,X.fn x=true->X.env.cells.lookup x=some c->X.s₀.heap.objs.size<=c
 hd:X.calm=true->X.A.handled=none
 frames:X.A.frames=some X.stack
 stk:X.stack=X.outer\/(X.stack=X.env::X.outer/\X.env.frame=some X.env.locals)
 exf:∀ b∈X.ex,b≠X.env.locals/\∀ x c,X.env.cells.lookup x=some c->c≠b
 bs:∀ b o,X.base.get? b=some o->X.s₀.heap.get? b=some o/\X.H₀ b=none
 bsz:X.base.objs.size<=X.s₀.heap.objs.size
 noex:∀ b o,X.base.get? b=some o->b∉X.ex
 exfs:∀ b∈X.ex,b∉X.fs
 funs:X.s₀.heap.FunFrames X.base X.outer
 frf:∀ b∈X.fs,X.H₀ b=none
structure Inv (X:Cx) (pins:List (Addr × Obj)) (σ:List (Option V)) (H:Hp) (s:c7):Prop where
 ok:X.Ok
 os:s.os=X.s₀.os
 bare:ap3 s.gens
 base:Un X.fs X.ex X.H₀ H X.s₀.heap s.heap
 loc:∃ m,s.heap.Ns X.env.locals m/\∀ (i:Nat) (x:Str) (v:V),X.N[i]?=some x->σ[i]?=some (some v)->Vis X.env.scope x->∃ u,RelV v u/\Look X.env s.heap m x u
 cell:∀ x c,X.env.cells.lookup x=some c->∃ v,s.heap.IsCell c v
 free:H X.env.locals=none
 freeC:∀ x c,X.env.cells.lookup x=some c->H c=none
 pin:∀ p∈X.pn++pins,s.heap.get? p.1=some p.2/\H p.1=none/\p.1≠X.env.locals/\p.1∉X.fs/\∀ v,p.2.data≠.cell v
 hok:HOk X.prog X.w H s.heap
 len:σ.length=X.N.length
section
variable {X:Cx} {pins:List (Addr × Obj)} {σ:List (Option V)} {H H':Hp} {s:c7} {h':Heap}
theorem Cx.Ok.nofr (ok:X.Ok){b:Addr}{o:Obj}(e:X.base.get? b=some o):b∉X.fs:=fun hb=>by
 have:=(ok.funs.mem hb).1
 rw[e]at this;cases this
theorem Inv.bs (I:Inv X pins σ H s):∀ b o,X.base.get? b=some o->s.heap.get? b=some o/\H b=none:=fun b o e =>
 ⟨I.base.keep b o (I.ok.bs b o e).1 (I.ok.bs b o e).2 (I.ok.nofr e) (I.ok.noex b o e),I.base.free b o (I.ok.bs b o e).1 (I.ok.bs b o e).2 (I.ok.noex b o e)⟩
theorem Inv.bk (I:Inv X pins σ H s):∀ b o,X.base.get? b=some o->s.heap.get? b=some o:=fun b o e=>(I.bs b o e).1
theorem Inv.mod (I:Inv X pins σ H s):Mod X.K X.mg X.base:=I.ok.mod
theorem Inv.kIn (I:Inv X pins σ H s):X.K.In s.heap:=I.ok.mod.kin.keeps I.bk
theorem Inv.nolimit (I:Inv X pins σ H s):s.heap.NoLimit:=I.ok.mod.nolimit.keeps I.bk
theorem Inv.lt (I:Inv X pins σ H s):X.env.locals<s.heap.objs.size:=let ⟨_,hn,_⟩:=I.loc;hn.lt
theorem Inv.sz (I:Inv X pins σ H s):X.s₀.heap.objs.size<=s.heap.objs.size:=A4 I.ok.above (aa3 I.lt)
theorem Inv.nofs (I:Inv X pins σ H s){a:Addr}(h:s.heap.objs.size<=a):a∉X.fs:=fun hb=>by
 obtain⟨_,o,ho,_⟩:=I.ok.funs.mem hb
 exact absurd (p7 (d6 ho) (A4 I.sz h)) (B8 _)
theorem Inv.cne (I:Inv X pins σ H s):∀ x c,X.env.cells.lookup x=some c->c≠X.env.locals:=fun x c e z=>by
 obtain⟨v,o,ho,hd⟩:=I.cell x c e
 obtain⟨m,⟨o',es,ep,ho',hd',_⟩,_⟩:=I.loc
 rw[z,ho']at ho;cases ho;rw[hd']at hd;cases hd
theorem Inv.funs (I:Inv X pins σ H s):s.heap.FunFrames X.base X.outer:=by
 have all:∀ (l:List Env),(∀ b∈frs l,b∈X.fs)->X.s₀.heap.FunFrames X.base l->s.heap.FunFrames X.base l:=by
  intro l
  induction l with
  | nil=>intro _ _;trivial
  | cons env r ih =>
   intro hs hl
   obtain⟨hk,⟨L,o,hf,hn,ho,hd⟩,hr⟩:=hl
   have hL:L∈X.fs:=hs L (by unfold frs;rw[G5,hf];exact i5)
   obtain⟨sl,e⟩:=I.base.slot L o ho (I.ok.frf L hL) hL fun z=>I.ok.exfs L z hL
   exact⟨hk,⟨L,_,hf,hn,e,hd⟩,ih (fun b hb=>hs b (by unfold frs;rw[G5,hf];exact d7 _ hb)) hr⟩
 exact all X.outer (fun _ hb=>hb) I.ok.funs
theorem Inv.stack (I:Inv X pins σ H s):s.heap.FunFrames X.base X.stack:=by
 rcases I.ok.stk with e | ⟨e,hf⟩
 ·rw[e];exact I.funs
 ·rw[e]
  obtain⟨m,hn,_⟩:=I.loc
  refine .cons (by rw[I.ok.kind];decide) hf hn ?_ I.funs
  exact av8 (A4 I.ok.bsz I.ok.above)
theorem Inv.stkSub (I:Inv X pins σ H s):∀ b∈frs X.stack,b∈X.env.locals::X.fs:=fun b hb=>by
 rcases I.ok.stk with e | ⟨e,hf⟩
 ·rw[e]at hb;exact d7 _ hb
 ·rw[e]at hb
  unfold frs at hb
  rw[G5,hf]at hb
  exact hb
theorem Inv.stkFree (I:Inv X pins σ H s):∀ b∈frs X.stack,H b=none:=fun b hb=>by
 rcases g6.mp (I.stkSub b hb) with e | hb
 ·rw[e];exact I.free
 ·obtain⟨_,o,ho,_⟩:=I.ok.funs.mem hb
  exact I.base.free b o ho (I.ok.frf b hb) fun z=>I.ok.exfs b z hb
theorem Inv.step {g':Array bC0}{t':Nat}{d':Drawn}{ch:List Addr}(I:Inv X pins σ H s)
  (hch:∀ b∈ch,(b∈X.ex\/X.s₀.heap.objs.size<=b)/\b≠X.env.locals/\(∀ x c,X.env.cells.lookup x=some c->c≠b)/\∀ p∈X.pn++pins,p.1≠b)
  (keep:∀ b o,b≠X.env.locals->b∉X.fs->b∉ch->s.heap.get? b=some o->H b=none->h'.get? b=some o)
  (slot:∀ b o,b≠X.env.locals->b∈X.fs->b∉ch->s.heap.get? b=some o->H b=none->∃ sl,h'.get? b=some { o with slots:=sl })(free:∀ b o,b∉ch->s.heap.get? b=some o->H b=none->H' b=none)
  (there:∀ b o,b∉ch->s.heap.get? b=some o->∃ o',h'.get? b=some o')
  (tups:∀ b xs,H b=some (.tup xs)->H' b=some (.tup xs))(frzs:∀ b o u,H b=some (.frz o u)->H' b=some (.frz o u))(tbls:∀ b ps,H b=some (.tbl ps)->∃ more,H' b=some (.tbl (ps++more)))
  (ns:∀ m,s.heap.Ns X.env.locals m->h'.Ns X.env.locals m)(hok:HOk X.prog X.w H' h')(hg:ap3 g') :
  Inv X pins σ H' { s with heap:=h',gens:=g',drawn:=d',toks:=t' }:=by
 have neL:∀ b o,X.s₀.heap.get? b=some o->b≠X.env.locals:=fun b o e=>j7 (p7 (d6 e) I.ok.above)
 have neC:∀ b o,X.s₀.heap.get? b=some o->b∉X.ex->b∉ch:=fun b o e hx hb=>by
  rcases(hch b hb).1 with z | z
  ·exact hx z
  ·exact absurd (p7 (d6 e) z) (B8 _)
 have cellK:∀ x c,X.env.cells.lookup x=some c->∀ v,s.heap.IsCell c v->h'.IsCell c v:=fun x c e v ⟨o,ho,hd⟩=>by
  have nch:c∉ch:=fun z=>(hch c z).2.2.1 x c e rfl
  by_cases hc:c∈X.fs
  ·obtain⟨sl,q⟩:=slot c o (I.cne x c e) hc nch ho (I.freeC x c e)
   exact⟨_,q,hd⟩
  ·exact⟨o,keep c o (I.cne x c e) hc nch ho (I.freeC x c e),hd⟩
 refine⟨I.ok,I.os,hg,⟨fun b o e n hb hx=>?_,fun b o e n hb hx=>?_,fun b o e n hx=>?_,fun b o e hx=>?_,fun b xs e=>tups b xs (I.base.tups b xs e),fun b o xs e=>frzs b o xs (I.base.frzs b o xs e),fun b ps e=>?_⟩,?_,fun x c e=>?_,?_,fun x c e=>?_,fun p hp=>?_,hok,I.len⟩
 ·exact keep b o (neL b o e) hb (neC b o e hx) (I.base.keep b o e n hb hx) (I.base.free b o e n hx)
 ·obtain⟨sl,e1⟩:=I.base.slot b o e n hb hx
  obtain⟨sl',e2⟩:=slot b _ (neL b o e) hb (neC b o e hx) e1 (I.base.free b o e n hx)
  exact⟨sl',e2⟩
 ·obtain⟨o',e1⟩:=I.base.there b o e hx
  exact free b o' (neC b o e hx) e1 (I.base.free b o e n hx)
 ·obtain⟨o',e1⟩:=I.base.there b o e hx
  exact there b o' (neC b o e hx) e1
 ·obtain⟨m1,e1⟩:=I.base.tbls b ps e
  obtain⟨m2,e2⟩:=tbls b _ e1
  exact⟨m1++m2,by rw[e2,aA2]⟩
 ·obtain⟨m,hn,hl⟩:=I.loc
  refine⟨m,ns m hn,fun i x v e1 e2 e3=>?_⟩
  obtain⟨u,r,l⟩:=hl i x v e1 e2 e3
  refine⟨u,r,?_⟩
  rcases l with l | ⟨k,c,e,z⟩
  ·exact .inl l
  ·exact .inr ⟨k,c,e,cellK x c e _ z⟩
 ·obtain⟨v,z⟩:=I.cell x c e
  exact⟨v,cellK x c e v z⟩
 ·obtain⟨m,⟨o,_,_,ho,_⟩,_⟩:=I.loc
  exact free _ o (fun z=>(hch _ z).2.1 rfl) ho I.free
 ·obtain⟨v,o,ho,hd⟩:=I.cell x c e
  exact free c o (fun z=>(hch c z).2.2.1 x c e rfl) ho (I.freeC x c e)
 ·obtain⟨e,n,ne,nf,d⟩:=I.pin p hp
  have nch:p.1∉ch:=fun z=>(hch p.1 z).2.2.2 p hp rfl
  exact⟨keep p.1 p.2 ne nf nch e n,free p.1 p.2 nch e n,ne,nf,d⟩
theorem Inv.un {t':Nat}(I:Inv X pins σ H s)(u:Un X.fs [] H H' s.heap h')(hok:HOk X.prog X.w H' h'):Inv X pins σ H' { s with heap:=h',toks:=t' }:=by
 obtain⟨m,⟨o,es,ep,ho,r⟩,_⟩:=id I.loc
 obtain⟨sl,hL⟩:=u.any ho I.free (by simp)
 exact I.step (g':=s.gens) (d':=s.drawn) (ch:=[]) (fun _ z=>nomatch z) (fun b o _ hb _ e n=>u.keep b o e n hb (by simp)) (fun b o _ hb _ e n=>u.slot b o e n hb (by simp)) (fun b o _ e n=>u.free b o e n (by simp)) (fun b o _ e=>u.there b o e (by simp)) u.tups u.frzs u.tbls (fun m' hm=>by
  obtain⟨o',es',ep',ho',r'⟩:=hm
  rw[ho]at ho';cases ho'
  exact⟨_,es',ep',hL,r'⟩) hok I.bare
theorem Inv.call {g':Array bC0}{t':Nat}{d':Drawn}{ch:List Addr}(I:Inv X pins σ H s)(u:Un (frs X.stack) ch H H' s.heap h')(hok:HOk X.prog X.w H' h')(hg:ap3 g')
  (hch:∀ b∈ch,(b∈X.ex\/X.s₀.heap.objs.size<=b)/\b≠X.env.locals/\(∀ x c,X.env.cells.lookup x=some c->c≠b)/\∀ p∈X.pn++pins,p.1≠b) :
  Inv X pins σ H' { s with heap:=h',gens:=g',drawn:=d',toks:=t' }:=by
 obtain⟨m,⟨o,es,ep,ho,r⟩,_⟩:=id I.loc
 obtain⟨sl,hL⟩:=u.any ho I.free fun z=>(hch _ z).2.1 rfl
 exact I.step (ch:=ch) hch (fun b o hL hb hc e n=>u.keep b o e n (fun z=>(g6.mp (I.stkSub b z)).elim hL hb) hc) (fun b o _ _ hc e n=>u.any e n hc) (fun b o hc e n=>u.free b o e n hc) (fun b o hc e=>u.there b o e hc) u.tups u.frzs u.tbls (fun m' hm=>by
  obtain⟨o',es',ep',ho',r'⟩:=hm
  rw[ho]at ho';cases ho'
  exact⟨_,es',ep',hL,r'⟩) hok hg
theorem Inv.turned {t':Nat}{it:Addr}(I:Inv X pins σ H s)(k:∀ b o,b≠it->s.heap.get? b=some o->h'.get? b=some o)(hn:H it=none)(hL:it≠X.env.locals)
  (h1:it∈X.ex\/X.s₀.heap.objs.size<=it)(h2:∀ x c,X.env.cells.lookup x=some c->c≠it)(h3:∀ p∈X.pn++pins,p.1≠it):Inv X pins σ H { s with heap:=h',toks:=t' }:=by
 have nit:∀ b u,H b=some u->b≠it:=fun b u e z=>by rw[z,hn]at e;cases e
 refine I.step (g':=s.gens) (d':=s.drawn) (ch:=[it]) (fun b hb=>?_) (fun b o _ _ hc e _=>k b o (fun z=>hc (by simp[z])) e) (fun b o _ _ hc e _=>⟨o.slots,k b o (fun z=>hc (by simp[z])) e⟩) (fun _ _ _ _ n=>n)
  (fun b o hc e=>⟨o,k b o (fun z=>hc (by simp[z])) e⟩) (fun _ _ e=>e) (fun _ _ _ e=>e) (fun b ps e=>⟨#[],by rw[e];simp⟩) (fun m hm=>?_) (fun b u e=>?_) I.bare
 ·have e:b=it:=by simpa using hb
  subst e
  exact⟨h1,hL,h2,h3⟩
 ·obtain⟨o,es,ep,ho,r⟩:=hm
  exact⟨o,es,ep,k _ o (Ne.symm hL) ho,r⟩
 ·refine(I.hok b u e).stay (fun c v hc q=>k c v ?_ q) (fun _ q=>q) fun _ _ q=>q
  rcases hc with z | z
  ·rw[z];exact nit b u e
  ·exact nit c _ z
theorem Inv.tok (I:Inv X pins σ H s)(t:Nat):Inv X pins σ H { s with toks:=t }:=I.un (h':=s.heap) (t':=t) Un.refl I.hok
theorem Inv.kept {t':Nat}(I:Inv X pins σ H s)(k:∀ b u,s.heap.get? b=some u->h'.get? b=some u):Inv X pins σ H { s with heap:=h',toks:=t' }:=I.un (Un.kept k) (I.hok.kept k)
theorem Inv.laid {a:Addr}{o:HO}{t':Nat}(I:Inv X pins σ H s)(k:∀ b u,s.heap.get? b=some u->h'.get? b=some u)(hp:s.heap.objs.size<=a)(new:N7 X.prog X.w (upd H a o) h' a o) :
  Inv X pins σ (upd H a o) { s with heap:=h',toks:=t' }:=I.un (Un.laid k hp (I.hok.fresh hp)) (I.hok.laid k hp new)
theorem Inv.write {x e:Addr}{o:HO}{t':Nat}(I:Inv X pins σ H s)(mu:Mut (H x))(he:e=x\/H e=some (.own x))(k:∀ b u,b≠e->s.heap.get? b=some u->h'.get? b=some u)(heo:∃ u,h'.get? e=some u)
  (new:N7 X.prog X.w (upd H x o) h' x o):Inv X pins σ (upd H x o) { s with heap:=h',toks:=t' }:=I.un (Un.write mu he k heo) (I.hok.write mu he k heo new)
theorem Inv.pins_of {pins':List (Addr × Obj)}(I:Inv X pins σ H s)(h:∀ p∈pins',s.heap.get? p.1=some p.2/\H p.1=none/\p.1≠X.env.locals/\p.1∉X.fs/\∀ v,p.2.data≠.cell v):Inv X pins' σ H s:=
 ⟨I.ok,I.os,I.bare,I.base,I.loc,I.cell,I.free,I.freeC,fun p hp=>(F3.mp hp).elim (fun z=>I.pin p (av9 _ z)) (h p),I.hok,I.len⟩
theorem aU9 {N:List Str}(hN:N.Nodup){i j:Nat}{x:Str}(a:N[i]?=some x)(b:N[j]?=some x):i=j:=by
 obtain⟨h1,e1⟩:=m8.mp a
 obtain⟨h2,e2⟩:=m8.mp b
 exact(List.getElem_inj hN).mp (e1.trans e2.symm)
theorem aI7 {M:Model}{A:u4}{E:c6->c7->Prop}{i:Nat}{x:Str}{v:V}{u:c6}{Q:Unit->c7->Prop}(I:Inv X pins σ H s)(hN:X.N.Nodup)(hi:X.N[i]?=some x)(hx:Loc X.env.scope x)(r:RelV v u)
  (h:∀ s',Inv X pins (σ.set i (some v)) H s'->(∃ a,Heap.SameBut a s.heap s'.heap/\(a=X.env.locals\/X.env.cells.lookup x=some a))->Q () s')(hf:X.fn x=true\/X.env.scope.names.lookup x=some .local:=by first | exact .inl rfl | exact .inr rfl | assumption):o7 M A (storeName X.env x u) Q E s:=by
 obtain⟨m,hn,hl⟩:=id I.loc
 have hcls:(X.env.scope.kind == .class || (X.env.scope.kind == .module && X.env.locals != X.env.globals))=false:=by rw[I.ok.kind];rfl
 have hiσ:i<σ.length:=by rw[I.len];exact(m8.mp hi).1
 have cne:=I.cne
 have tracked:∀ {a:Addr} {h':Heap},(∃ o,s.heap.get? a=some o/\H a=none)->Heap.SameBut a s.heap h'->HOk X.prog X.w H h':=fun {a h'} ha hs b ob e=>by
  obtain⟨_,_,hfree⟩:=ha
  refine(I.hok b ob e).stay (fun c w' hc q=>(hs.2 c ?_).trans q) (fun _ q=>q) fun _ _ q=>q
  rintro rfl
  rcases hc with rfl | hc
  ·rw[hfree]at e;cases e
  ·rw[hfree]at hc;cases hc
 rcases hx with hk | hk
 ·refine wpAny_storeName_local hk hn (fun h' hn' hs=>?_) hcls
  obtain⟨oL,_,_,hoL,_⟩:=id hn
  refine h _ ⟨I.ok,I.os,I.bare,⟨fun b o e n hb hx=>?_,fun b o e n hb hx=>?_,I.base.free,fun b o e hx=>?_,I.base.tups,I.base.frzs,I.base.tbls⟩,⟨_,hn',fun j y v' e1 e2 e3=>?_⟩,fun y c e=>?_,I.free,I.freeC,fun p hp=>?_,tracked ⟨oL,hoL,I.free⟩ hs,by simpa using I.len⟩ ⟨_,hs,.inl rfl⟩
  ·exact(hs.2 b (j7 (p7 (d6 e) I.ok.above))).trans (I.base.keep b o e n hb hx)
  ·obtain⟨sl,e1⟩:=I.base.slot b o e n hb hx
   exact⟨sl,(hs.2 b (j7 (p7 (d6 e) I.ok.above))).trans e1⟩
  ·obtain⟨o',e1⟩:=I.base.there b o e hx
   exact⟨o',(hs.2 b (j7 (p7 (d6 e) I.ok.above))).trans e1⟩
  ·by_cases hj:j=i
   ·subst hj
    rw[hi]at e1;cases e1
    rw[bp0 hiσ]at e2
    cases e2
    exact⟨u,r,.inl ⟨hk,by simp⟩⟩
   ·rw[ac0 (Ne.symm hj)]at e2
    obtain⟨u',r',q⟩:=hl j y v' e1 e2 e3
    refine⟨u',r',?_⟩
    rcases q with⟨k,e⟩ | ⟨k,c,e,z⟩
    ·refine .inl ⟨k,?_⟩
     have:y≠x:=fun e=>hj (aU9 hN e1 (e ▸ hi))
     simp[this,e]
    ·exact .inr ⟨k,c,e,z.sameBut hs (cne y c e)⟩
  ·obtain⟨w',z⟩:=I.cell y c e
   exact⟨w',z.sameBut hs (cne y c e)⟩
  ·obtain⟨e,n,ne,nf,d⟩:=I.pin p hp
   exact⟨(hs.2 p.1 ne).trans e,n,ne,nf,d⟩
 ·have hfn:X.fn x=true:=by
   rcases hf with z | z
   ·exact z
   ·rw[z]at hk;cases hk
  obtain⟨c,hc⟩:=I.ok.has x (.inl hk)
  obtain⟨w',z⟩:=I.cell x c hc
  refine wpAny_storeName_cell I.ok.kind hk hc z (fun h' hc' hs=>?_)
  obtain⟨oc,hoc,hocd⟩:=id z
  refine h { s with heap:=h' } ⟨I.ok,I.os,I.bare,⟨fun b o e n hb hx=>?_,fun b o e n hb hx=>?_,I.base.free,fun b o e hx=>?_,I.base.tups,I.base.frzs,I.base.tbls⟩,⟨m,hn.sameBut hs (Ne.symm (cne x c hc)),fun j y v' e1 e2 e3=>?_⟩,fun y c' e=>?_,I.free,I.freeC,fun p hp=>?_,tracked ⟨oc,hoc,I.freeC x c hc⟩ hs,by simpa using I.len⟩ ⟨c,hs,.inr hc⟩
  ·exact(hs.2 b (j7 (p7 (d6 e) (I.ok.cab x c hfn hc)))).trans (I.base.keep b o e n hb hx)
  ·obtain⟨sl,e1⟩:=I.base.slot b o e n hb hx
   exact⟨sl,(hs.2 b (j7 (p7 (d6 e) (I.ok.cab x c hfn hc)))).trans e1⟩
  ·obtain⟨o',e1⟩:=I.base.there b o e hx
   exact⟨o',(hs.2 b (j7 (p7 (d6 e) (I.ok.cab x c hfn hc)))).trans e1⟩
  ·by_cases hj:j=i
   ·subst hj
    rw[hi]at e1;cases e1
    rw[bp0 hiσ]at e2
    cases e2
    exact⟨u,r,.inr ⟨.inl hk,c,hc,hc'⟩⟩
   ·rw[ac0 (Ne.symm hj)]at e2
    obtain⟨u',r',q⟩:=hl j y v' e1 e2 e3
    refine⟨u',r',?_⟩
    rcases q with q | ⟨k,c',e,z'⟩
    ·exact .inl q
    ·refine .inr ⟨k,c',e,z'.sameBut hs ?_⟩
     rintro rfl
     exact hj (aU9 hN e1 (I.ok.inj _ _ _ e hc ▸ hi))
  ·by_cases hcc:c'=c
   ·subst hcc;exact⟨_,hc'⟩
   ·obtain⟨w2,z2⟩:=I.cell y c' e
    exact⟨w2,z2.sameBut hs hcc⟩
  ·obtain⟨e,n,ne,nf,d⟩:=I.pin p hp
   refine⟨(hs.2 p.1 ?_).trans e,n,ne,nf,d⟩
   intro q
   rw[q,hoc]at e
   have q':oc=p.2:=Option.some.inj e
   exact d w' (by rw[<- q'];exact hocd)
theorem aA4 {M:Model}{A:u4}{E:c6->c7->Prop}{i:Nat}{x:Str}{v:V}{u:c6}{Q:Unit->c7->Prop}(I:Inv X pins σ H s)(hN:X.N.Nodup)(hi:X.N[i]?=some x)(hx:Loc X.env.scope x)(r:RelV v u)
  (h:∀ s',Inv X pins (σ.set i (some v)) H s'->Q () s')(hf:X.fn x=true\/X.env.scope.names.lookup x=some .local:=by first | exact .inl rfl | exact .inr rfl | assumption):o7 M A (storeName X.env x u) Q E s:=
 aI7 I hN hi hx r (fun s' I' _=>h s' I') hf
theorem Inv.call' {s':c7}{ch:List Addr}(I:Inv X pins σ H s)(ho:s'.os=s.os)(u:Un (frs X.stack) ch H H' s.heap s'.heap)(hok:HOk X.prog X.w H' s'.heap)(hg:ap3 s'.gens)
  (hch:∀ b∈ch,(b∈X.ex\/X.s₀.heap.objs.size<=b)/\b≠X.env.locals/\(∀ x c,X.env.cells.lookup x=some c->c≠b)/\∀ p∈X.pn++pins,p.1≠b):Inv X pins σ H' s':=by
 obtain⟨h',g',d',t',o'⟩:=s'
 have e:o'=s.os:=ho
 subst e
 exact I.call (g':=g') (t':=t') (d':=d') u hok hg hch
end
abbrev XK:=c6->Option Addr->Hp->Prop
abbrev St:=List (Option V)
abbrev VK:=V->Hp->Prop
abbrev TE:=St->Hp->VK->Prop
abbrev TT:=St->Hp->(Bool->Hp->Prop)->Prop
abbrev TA:=St->Hp->(List V->Hp->Prop)->Prop
structure Ends where
 nx:St->Hp->Prop
 rt:VK
 bk:St->Hp->Prop:=fun _ _=>False
 ct:St->Hp->Prop:=fun _ _=>False
abbrev TS:=Ends->St->Hp->Prop
def EP (X:Cx)(pins:List (Addr × Obj))(σ:St)(Q:VK)(u:c6)(s':c7):Prop:=∃ v H',Inv X pins σ H' s'/\RelV v u/\Q v H'
def TP (X:Cx)(pins:List (Addr × Obj))(σ:St)(Q:Bool->Hp->Prop)(b:Bool)(s':c7):Prop:=∃ H',Inv X pins σ H' s'/\Q b H'
def AP (X:Cx)(pins:List (Addr × Obj))(σ:St)(Q:List V->Hp->Prop)(us:List c6)(s':c7):Prop:=∃ vs H',Inv X pins σ H' s'/\D9 vs us/\Q vs H'
def SP (X:Cx)(pins:List (Addr × Obj))(D:Ends)(f:Flow)(s':c7):Prop:=
 match f with
 | .next=>∃ σ' H',Inv X pins σ' H' s'/\D.nx σ' H'
 | .brk=>∃ σ' H',Inv X pins σ' H' s'/\D.bk σ' H'
 | .cont=>∃ σ' H',Inv X pins σ' H' s'/\D.ct σ' H'
 | .ret u=>∃ v σ' H',Inv X pins σ' H' s'/\RelV v u/\D.rt v H'
def PE (X:Cx)(e:Expr)(t:TE):Prop:=
 ∀ (pins:List (Addr × Obj)) (s:c7) (σ:St) (H:Hp) (Q:VK),Inv X pins σ H s->t σ H Q->o7 (y6 X.prog X.w) X.A (eval e X.env) (EP X pins σ Q) X.xe s
def PT (X:Cx)(e:Expr)(t:TT):Prop:=
 ∀ (pins:List (Addr × Obj)) (s:c7) (σ:St) (H:Hp) (Q:Bool->Hp->Prop),Inv X pins σ H s->t σ H Q->o7 (y6 X.prog X.w) X.A (isTrue e X.env (eval e X.env)) (TP X pins σ Q) X.xe s
def PW (X:Cx)(e:Expr)(t:TT):Prop:=
 ∀ (whole:Sem c6) (pins:List (Addr × Obj)) (s:c7) (σ:St) (H:Hp) (Q:Bool->Hp->Prop),Inv X pins σ H s->t σ H Q->o7 (y6 X.prog X.w) X.A (isTrue e X.env whole) (TP X pins σ Q) X.xe s
theorem PW.pt {X:Cx}{e:Expr}{t:TT}(h:PW X e t):PT X e t:=h _
def PA (X:Cx)(es:List Expr)(t:TA):Prop:=
 ∀ (pos:Pos) (pins:List (Addr × Obj)) (s:c7) (σ:St) (H:Hp) (Q:List V->Hp->Prop),Inv X pins σ H s->t σ H Q->o7 (y6 X.prog X.w) X.A (spliced (S7 pos (A2 es X.env))) (AP X pins σ Q) X.xe s
def PS (X:Cx)(st:Stmt)(t:TS):Prop:=
 ∀ (pins:List (Addr × Obj)) (s:c7) (σ:St) (H:Hp) (D:Ends),Inv X pins σ H s->t D σ H->o7 (y6 X.prog X.w) X.A (exec st X.env) (SP X pins D) X.xe s
def PSs (X:Cx)(st:List Stmt)(t:TS):Prop:=
 ∀ (pins:List (Addr × Obj)) (s:c7) (σ:St) (H:Hp) (D:Ends),Inv X pins σ H s->t D σ H->o7 (y6 X.prog X.w) X.A (execs st X.env) (SP X pins D) X.xe s
theorem thn {α:Type}{t:Sem α}{Q Q':α->c7->Prop}{M:Model}{A:u4}{E:c6->c7->Prop}{s:c7}(h:o7 M A t Q E s)(hQ:∀ a s,Q a s->Q' a s):o7 M A t Q' E s:=E3 h hQ fun _ _ x=>x
section
variable {X:Cx}
def ca6 (i:Nat):TE:=fun σ H Q=>∃ v,σ[i]?=some (some v)/\Q v H
def tC (v:V):TE:=fun _ H Q=>Q v H
theorem bt1 {i:Nat}{x:Str}{pos:Pos}(hN:X.N[i]?=some x)(hv:Vis X.env.scope x)(hd:(x == ("__debug__":Str))=false:=by decide)(hcd:(x == ("__classdict__":Str))=false:=by decide):PE X (.Name x pos) (ca6 i):=by
 intro pins s σ H Q I h
 obtain⟨v,e,h⟩:=h
 obtain⟨m,hn,hl⟩:=I.loc
 obtain⟨u,r,l⟩:=hl i x v hN e hv
 have fin:EP X pins σ Q u s:=⟨v,H,I,r,h⟩
 rcases l with⟨hk,hm⟩ | ⟨hk,c,hc,hcell⟩
 ·exact wpAny_Name (bY8 I.ok.kind hk hn hm fin) hd
 ·rcases hk with hk | hk
  ·exact wpAny_Name (bZ7 I.ok.kind hk hc hcell fin) hd
  ·exact wpAny_Name (wpAny_loadName_free I.ok.kind hk hc hcell fin hcd) hd
theorem d8 {i j pos}:PE X (.Constant (.int i) j pos) (tC (.int i)):=fun _ _ _ H _ I h=>wpAny_Constant_int ⟨.int i,H,I.tok _,⟨_,rfl⟩,h⟩
theorem aC4 {b j pos}:PE X (.Constant (.bool b) j pos) (tC (.bl b)):=fun _ _ _ H _ I h=>Constant_bool ⟨.bl b,H,I,rfl,h⟩
theorem au6 {j pos}:PE X (.Constant .none j pos) (tC .non):=fun _ _ _ H _ I h=>Constant_none ⟨.non,H,I,rfl,h⟩
theorem aC3 {x j pos}:PE X (.Constant (.str x) j pos) (tC (.str x)):=fun _ _ _ H _ I h=>Calls.Constant_str ⟨.str x,H,I.tok _,⟨_,rfl⟩,h⟩
def Gl (X:Cx)(x:Str):Prop:=X.env.kindOf x=some .globalImplicit
theorem al8 {E:c6->c7->Prop}{pins:List (Addr × Obj)}{s:c7}{σ:St}{H:Hp}{x:Str}{u:c6}{pos:Pos}{Q:c6->c7->Prop}(I:Inv X pins σ H s)(hg:Gl X x)(hm:X.mg x=some u)(h:Q u s)
  (hd:(x == ("__debug__":Str))=false:=by decide):o7 (y6 X.prog X.w) X.A (eval (.Name x pos) X.env) Q E s :=
 Calls.Name_function_global I.ok.kind hg (Calls.loadGlobal_global (by rw[I.ok.glob];exact I.mod.glob.keeps I.bk) hm h) hd
theorem V8 {E:c6->c7->Prop}{pins:List (Addr × Obj)}{s:c7}{σ:St}{H:Hp}{x:Str}{u:c6}{pos:Pos}{Q:c6->c7->Prop}(I:Inv X pins σ H s)(hg:Gl X x)(hm:X.mg x=none)(hv:M5 x=some u)(h:Q u s)
  (hn:x≠"__name__":=by decide)(hd:(x == ("__debug__":Str))=false:=by decide):o7 (y6 X.prog X.w) X.A (eval (.Name x pos) X.env) Q E s:=by
 obtain⟨mb,h1,h2⟩:=I.mod.blt
 exact Calls.Name_function_global I.ok.kind hg (Calls.loadGlobal_builtin (by rw[I.ok.glob];exact I.mod.glob.keeps I.bk) hm (by rw[I.ok.blt];exact h1.keeps I.bk) ((h2 x hn).trans hv) h) hd
theorem az1 {x:Str}{v:V}{u:c6}{pos:Pos}(hg:Gl X x)(hm:X.mg x=some u)(r:RelV v u)(hd:(x == ("__debug__":Str))=false:=by decide):PE X (.Name x pos) (tC v) :=
 fun _ _ _ H _ I h=>al8 I hg hm ⟨v,H,I,r,h⟩ hd
theorem az2 {x:Str}{v:V}{u:c6}{pos:Pos}(hg:Gl X x)(hm:X.mg x=none)(hv:M5 x=some u)(r:RelV v u)(hn:x≠"__name__":=by decide)(hd:(x == ("__debug__":Str))=false:=by decide):PE X (.Name x pos) (tC v) :=
 fun _ _ _ H _ I h=>V8 I hg hm hv ⟨v,H,I,r,h⟩ hn hd
variable {a b:Expr} {ta tb:TE} {pos:Pos}
def tB (t:TE):TT:=fun σ H Q=>t σ H fun x H1=>∃ c,x=.bl c/\Q c H1
theorem Z3 {e:Expr}{t:TE}(h:PE X e t)(he:∀ whole,isTrue e X.env whole=(do let v <- whole;standAt e.pos;aG7 [v] (truthy v)):=by intro _;rfl):PT X e (tB t):=by
 intro pins s σ H Q I hw
 refine isTrue_plain (thn (h pins s σ H _ I hw) fun v s1 ⟨x,H1,I1,r1,q1⟩=>?_) (he _)
 obtain⟨d,rfl,q⟩:=q1
 cases r1
 exact M8 ⟨H1,I1,q⟩
variable {tA tB':TT} {rest:List Expr}
def ch7 (t u:TT):TT:=fun σ H Q=>t σ H fun c H1=>if c=true then u σ H1 Q else Q false H1
def tOr (t u:TT):TT:=fun σ H Q=>t σ H fun c H1=>if c=true then Q true H1 else u σ H1 Q
def ch1 (t:TT):TT:=fun σ H Q=>t σ H fun c H1=>Q (!c) H1
theorem bF6 (ha:PT X a tA):PW X (.BoolOp .And [a] pos) tA:=by
 intro wh pins s σ H Q I h
 refine isTrue_and (thn (ha pins s σ H Q I h) fun c s1 e=>?_)
 cases c with
 | true=>exact isTrue_and_nil e
 | false=>exact e
theorem ag1 (ha:PT X a tA):PW X (.BoolOp .Or [a] pos) tA:=by
 intro wh pins s σ H Q I h
 refine isTrue_or (thn (ha pins s σ H Q I h) fun c s1 e=>?_)
 cases c with
 | false=>exact isTrue_or_nil e
 | true=>exact e
theorem bT1 (ha:PT X a tA)(hb:PW X (.BoolOp .And (b::rest) pos) tB'):PW X (.BoolOp .And (a::b::rest) pos) (ch7 tA tB'):=by
 intro wh pins s σ H Q I h
 refine isTrue_and (thn (ha pins s σ H _ I h) fun c s1 ⟨H1,I1,q1⟩=>?_)
 cases c with
 | true=>exact hb wh pins s1 σ H1 Q I1 q1
 | false=>exact⟨H1,I1,q1⟩
theorem Z2 (ha:PT X a tA)(hb:PW X (.BoolOp .Or (b::rest) pos) tB'):PW X (.BoolOp .Or (a::b::rest) pos) (tOr tA tB'):=by
 intro wh pins s σ H Q I h
 refine isTrue_or (thn (ha pins s σ H _ I h) fun c s1 ⟨H1,I1,q1⟩=>?_)
 cases c with
 | true=>exact⟨H1,I1,q1⟩
 | false=>exact hb wh pins s1 σ H1 Q I1 q1
theorem Q9 (ha:PT X a tA):PT X (.UnaryOp .Not a pos) (ch1 tA):=by
 intro pins s σ H Q I h
 exact isTrue_not (ha pins s σ H (fun c H1=>Q (!c) H1) I h)
def cc0 (ta tb:TE):TE:=fun σ H Q=>ta σ H fun x H1=>∃ c,x=.bl c/\if c=true then tb σ H1 Q else Q (.bl false) H1
theorem bt3 {op}{t:TE}(h:PE X a t):PE X (.BoolOp op [a] pos) t:=fun pins s σ H Q I hw=>BoolOp_one (h pins s σ H Q I hw)
theorem bu0 (ha:PE X a ta)(hb:PE X (.BoolOp .And (b::rest) pos) tb):PE X (.BoolOp .And (a::b::rest) pos) (cc0 ta tb):=by
 intro pins s σ H Q I h
 refine BoolOp_and (thn (ha pins s σ H _ I h) fun v s1 ⟨x,H1,I1,r1,q1⟩=>?_)
 obtain⟨c,rfl,q1⟩:=q1
 cases r1
 refine M8 ?_
 cases c with
 | true=>exact hb pins s1 σ H1 Q I1 q1
 | false=>exact⟨.bl false,H1,I1,rfl,q1⟩
def tIf (t:TT)(ta tb:TE):TE:=fun σ H Q=>t σ H fun c H1=>if c=true then ta σ H1 Q else tb σ H1 Q
theorem aU4 {c:Expr}(hc:PT X c tA)(ha:PE X a ta)(hb:PE X b tb):PE X (.IfExp c a b pos) (tIf tA ta tb):=by
 intro pins s σ H Q I h
 refine wpAny_IfExp (thn (hc pins s σ H _ I h) fun d s1 ⟨H1,I1,q1⟩=>?_)
 cases d with
 | true=>exact ha pins s1 σ H1 Q I1 q1
 | false=>exact hb pins s1 σ H1 Q I1 q1
end
def SqL (K:W.Frag)(H:Hp)(a:Addr)(xs:List V):Prop:=
 Rd H a (.lst xs) \/
  ∃ (o:Obj) (its:Array c6) (n:Nat),K.lookup a=some o/\o.cls=.type "list"/\o.dict=none/\o.data=.seq its n/\its.size<=i9/\D9 xs its.toList
def SqT (K:W.Frag)(H:Hp)(a:Addr)(xs:List V):Prop:=
 Rd H a (.tup xs) \/
  ∃ (o:Obj) (its:Array c6) (n:Nat),K.lookup a=some o/\o.cls=.type "tuple"/\o.data=.seq its n/\its.size<=i9/\D9 xs its.toList
def cj6:c6->Option V
 | .none=>some .non
 | .bool b=>some (.bl b)
 | .int i _=>some (.int i)
 | .str x _=>some (.str x)
 | .bytes b _=>some (.byt b)
 | .float b _=>some (.flt b)
 | .ref a=>some (.ref a)
 | .type n=>some (.ty n)
 | _=>none
theorem RelV.abs {x:V}{u:c6}(r:RelV x u):cj6 u=some x:=by
 cases x with
 | non=>cases r;rfl
 | bl _=>cases r;rfl
 | int _=>obtain⟨t,rfl⟩:=r;rfl
 | str _=>obtain⟨t,rfl⟩:=r;rfl
 | byt _=>obtain⟨t,rfl⟩:=r;rfl
 | flt _=>obtain⟨t,rfl⟩:=r;rfl
 | ref _=>cases r;rfl
 | ty _=>cases r;rfl
theorem RelV.inj {x y:V}{u:c6}(r:RelV x u)(q:RelV y u):x=y:=Option.some.inj (r.abs.symm.trans q.abs)
theorem D9.inj:∀ {xs ys:List V} {us:List c6},D9 xs us->D9 ys us->xs=ys
 | _,_,_,.nil,.nil=>rfl
 | _,_,_,.cons r t,.cons r' t'=>by rw[r.inj r',D9.inj t t']
section
variable {X:Cx} {pins:List (Addr × Obj)} {σ:St} {H:Hp} {s:c7} {a:Addr} {xs ys:List V}
theorem SqL.of {K:W.Frag}(h:H a=some (.lst xs)):SqL K H a xs:=.inl (.inl h)
theorem SqT.of {K:W.Frag}(h:H a=some (.tup xs)):SqT K H a xs:=.inl (.inl h)
theorem Inv.list (I:Inv X pins σ H s)(h:SqL X.K H a xs):∃ its:List c6,D9 xs its/\PlainL s.heap a its.toArray/\xs.length<=i9:=by
 rcases h with h | ⟨o,its,n,hk,hc,hd,hs,hz,r⟩
 ·obtain⟨z,its,n,r,e⟩:=h.ok I.hok
  exact⟨its,r,⟨_,n,e,rfl,rfl,rfl⟩,z⟩
 ·refine⟨its.toList,r,⟨o,n,I.kIn a o hk,hc,hd,by simpa using hs⟩,?_⟩
  have e:=r.length
  simp only[p0]at e
  omega
theorem Inv.tuple (I:Inv X pins σ H s)(h:SqT X.K H a xs):∃ its:List c6,D9 xs its/\IsTup s.heap a its.toArray/\xs.length<=i9:=by
 rcases h with h | ⟨o,its,n,hk,hc,hs,hz,r⟩
 ·obtain⟨z,its,r,p⟩:=h.ok I.hok
  exact⟨its,r,p,z⟩
 ·refine⟨its.toList,r,⟨o,I.kIn a o hk,hc,n,by simpa using hs⟩,?_⟩
  have e:=r.length
  simp only[p0]at e
  omega
theorem Inv.list_inj (I:Inv X pins σ H s)(h:SqL X.K H a xs)(h':SqL X.K H a ys):xs=ys:=by
 obtain⟨its,r,⟨o,n,e,_,_,d⟩,_⟩:=I.list h
 obtain⟨its',r',⟨o',n',e',_,_,d'⟩,_⟩:=I.list h'
 rw[e]at e';cases e'
 rw[d]at d'
 injection d' with d1 _
 have:its=its':=by simpa using congrArg Array.toList d1
 subst this
 exact r.inj r'
theorem Inv.tuple_inj (I:Inv X pins σ H s)(h:SqT X.K H a xs)(h':SqT X.K H a ys):xs=ys:=by
 obtain⟨its,r,⟨o,e,_,n,d⟩,_⟩:=I.tuple h
 obtain⟨its',r',⟨o',e',_,n',d'⟩,_⟩:=I.tuple h'
 rw[e]at e';cases e'
 rw[d]at d'
 injection d' with d1 _
 have:its=its':=by simpa using congrArg Array.toList d1
 subst this
 exact r.inj r'
end
abbrev Cx.wish (X:Cx)(E:c6->c7->Prop):Cx:={ X with xe:=E }
abbrev Cx.nox (X:Cx):Cx:=X.wish fun _ _=>False
theorem Cx.Ok.wish {X:Cx}(ok:X.Ok)(E:c6->c7->Prop):(X.wish E).Ok:=
 ⟨ok.mod,ok.kind,ok.glob,ok.blt,ok.above,ok.inj,ok.has,ok.cab,ok.hd,ok.frames,ok.stk,ok.exf,ok.bs,ok.bsz,ok.noex,ok.exfs,ok.funs,ok.frf⟩
theorem Cx.Ok.unwish {X:Cx}{E:c6->c7->Prop}(ok:(X.wish E).Ok):X.Ok:=
 ⟨ok.mod,ok.kind,ok.glob,ok.blt,ok.above,ok.inj,ok.has,ok.cab,ok.hd,ok.frames,ok.stk,ok.exf,ok.bs,ok.bsz,ok.noex,ok.exfs,ok.funs,ok.frf⟩
section
variable {X:Cx} {pins:List (Addr × Obj)} {σ:St} {H:Hp} {s:c7} {E:c6->c7->Prop}
theorem Inv.wish (I:Inv X pins σ H s)(E:c6->c7->Prop):Inv (X.wish E) pins σ H s:=⟨I.ok.wish E,I.os,I.bare,I.base,I.loc,I.cell,I.free,I.freeC,I.pin,I.hok,I.len⟩
theorem Inv.unwish (I:Inv (X.wish E) pins σ H s):Inv X pins σ H s:=⟨I.ok.unwish,I.os,I.bare,I.base,I.loc,I.cell,I.free,I.freeC,I.pin,I.hok,I.len⟩
theorem SP.unwish {D:Ends}{f:Flow}{s':c7}(h:SP (X.wish E) pins D f s'):SP X pins D f s':=by
 cases f with
 | next=>obtain⟨σ',H',I,q⟩:=h;exact⟨σ',H',I.unwish,q⟩
 | brk=>obtain⟨σ',H',I,q⟩:=h;exact⟨σ',H',I.unwish,q⟩
 | cont=>obtain⟨σ',H',I,q⟩:=h;exact⟨σ',H',I.unwish,q⟩
 | ret u=>obtain⟨v,σ',H',I,r,q⟩:=h;exact⟨v,σ',H',I.unwish,r,q⟩
theorem PSs.nox {st:List Stmt}{t:TS}(h:PSs X.nox st t):PSs X st t:=fun pins s σ H D I hw =>
 E3 (h pins s σ H D (I.wish _) hw) (fun _ _ q=>q.unwish) fun _ _ z=>False.elim z
end
section
variable {X:Cx} {st:Stmt} {rest:List Stmt} {t u:TS} {e:Expr} {te:TE} {pos:Pos}
def cb3:TS:=fun D σ H=>D.nx σ H
def cg9 (t u:TS):TS:=fun D σ H=>t { D with nx:=u D } σ H
theorem C7:PSs X [] cb3:=fun _ _ σ H _ I h=>ai1 ⟨σ,H,I,h⟩
theorem i4 (h1:PS X st t)(h2:PSs X rest u):PSs X (st::rest) (cg9 t u):=by
 intro pins s σ H D I h
 refine aZ2 (thn (h1 pins s σ H { D with nx:=u D } I h) fun f s1 q=>?_)
 cases f with
 | next =>
  obtain⟨σ',H',I',q⟩:=q
  exact h2 pins s1 σ' H' D I' q
 | ret v=>exact q
 | brk=>exact q
 | cont=>exact q
theorem k7 (h1:PS X st t):PSs X [st] t:=by
 intro pins s σ H D I h
 refine aZ2 (thn (h1 pins s σ H D I h) fun f s1 q=>?_)
 cases f with
 | next=>exact ai1 q
 | ret v=>exact q
 | brk=>exact q
 | cont=>exact q
theorem Inv.quiet {pins:List (Addr × Obj)}{σ:St}{H:Hp}{s:c7}(I:Inv X pins σ H s):interactive X.env=false:=by simp[interactive,I.ok.kind]
def cb6 (te:TE):TS:=fun D σ H=>te σ H fun _ H1=>D.nx σ H1
theorem U0 (he:PE X e te)(hs:swapsWith e none pos.line X.env=pure false:=by rfl):PS X (.Expr e pos) (cb6 te):=by
 intro pins s σ H D I h
 exact wpAny_Expr_any (thn (he pins s σ H _ I h) fun v s1 ⟨x,H1,I1,r1,q1⟩=>⟨σ,H1,I1,q1⟩) I.quiet hs
def ch0 (te:TE):TS:=fun D σ H=>te σ H D.rt
theorem A9 (he:PE X e te):PS X (.Return (some e) pos) (ch0 te):=by
 intro pins s σ H D I h
 exact wpAny_Return_some (thn (he pins s σ H _ I h) fun v s1 ⟨x,H1,I1,r1,q1⟩=>⟨x,σ,H1,I1,r1,q1⟩)
def ch3 (c:TT)(t u:TS):TS:=fun D σ H=>c σ H fun b H1=>if b=true then t D σ H1 else u D σ H1
theorem G7 {c:Expr}{a b:List Stmt}{tc:TT}(hc:PT X c tc)(ha:PSs X a t)(hb:PSs X b u):PS X (.If c a b pos) (ch3 tc t u):=by
 intro pins s σ H D I h
 refine wpAny_If (thn (hc pins s σ H _ I h) fun d s1 ⟨H1,I1,q1⟩=>?_)
 cases d with
 | true=>exact ha pins s1 σ H1 D I1 q1
 | false=>exact hb pins s1 σ H1 D I1 q1
def bR1:TS:=fun _ _ _=>False
theorem V6 {sts:List Stmt}:PSs X sts bR1:=fun _ _ _ _ _ _ h=>h.elim
end
abbrev TG:=V->St->Hp->(St->Hp->Prop)->Prop
abbrev TGs:=List V->St->Hp->(St->Hp->Prop)->Prop
def PG (X:Cx)(target:Expr)(t:TG):Prop:=
 ∀ (pins:List (Addr × Obj)) (s:c7) (σ:St) (H:Hp) (v:V) (u:c6) (Q:St->Hp->Prop),Inv X pins σ H s->RelV v u->t v σ H Q ->
  o7 (y6 X.prog X.w) X.A (bP4 target X.env u) (fun _ s'=>∃ σ' H',Inv X pins σ' H' s'/\Q σ' H') X.xe s
def PGs (X:Cx)(ts:List Expr)(t:TGs):Prop:=
 ∀ (pins:List (Addr × Obj)) (s:c7) (σ:St) (H:Hp) (vs:List V) (us:List c6) (Q:St->Hp->Prop),Inv X pins σ H s->D9 vs us->t vs σ H Q ->
  o7 (y6 X.prog X.w) X.A (assignInOrder ((ah2 ts X.env).map (·.2)) us) (fun _ s'=>∃ σ' H',Inv X pins σ' H' s'/\Q σ' H') X.xe s
abbrev bA5:=V->V->V->Hp->(Hp->Prop)->Prop
def bX9 (X:Cx)(t:bA5):Prop:=
 ∀ (pins:List (Addr × Obj)) (s:c7) (σ:St) (H:Hp) (o i v:V) (ov iv u:c6) (Q:Hp->Prop),Inv X pins σ H s->RelV o ov->RelV i iv->RelV v u->t o i v H Q ->
  o7 (y6 X.prog X.w) X.A (setItem ov iv u) (fun _ s'=>∃ H',Inv X pins σ H' s'/\Q H') X.xe s
abbrev TIp:=V->V->Hp->VK->Prop
def PIp (X:Cx)(op:Operator)(t:TIp):Prop:=
 ∀ (pins:List (Addr × Obj)) (s:c7) (σ:St) (H:Hp) (x y:V) (v u:c6) (Q:VK),Inv X pins σ H s->RelV x v->RelV y u->t x y H Q ->
  o7 (y6 X.prog X.w) X.A (inplaceOp op v u) (EP X pins σ Q) X.xe s
section
variable {X:Cx} {pos:Pos}
def aE3 (i:Nat):TG:=fun v σ H Q=>Q (σ.set i (some v)) H
theorem y7 {i:Nat}{x:Str}(hN:X.N.Nodup)(hi:X.N[i]?=some x)(hx:Loc X.env.scope x)(hf:X.fn x=true\/X.env.scope.names.lookup x=some .local:=by first | exact .inl rfl | exact .inr rfl | assumption):PG X (.Name x pos) (aE3 i):=by
 intro pins s σ H v u Q I r h
 exact wpAny_assign_Name (aA4 I hN hi hx r (fun s' I'=>⟨_,H,I',h⟩) hf)
def cj3:TGs:=fun vs σ H Q=>vs=[]/\Q σ H
def cf5 (t:TG)(u:TGs):TGs:=fun vs σ H Q=>∃ v r,vs=v::r/\t v σ H fun σ' H'=>u r σ' H' Q
theorem U2:PGs X [] cj3:=by
 intro pins s σ H vs us Q I r h
 obtain⟨e,h⟩:=h
 subst e
 cases r
 exact assignInOrder_nil ⟨σ,H,I,h⟩
theorem E6 {e:Expr}{es:List Expr}{t:TG}{u:TGs}(h1:PG X e t)(h2:PGs X es u)
  (hs:(ah2 (e::es) X.env).map (·.2)=bP4 e X.env::(ah2 es X.env).map (·.2):=by rfl):PGs X (e::es) (cf5 t u):=by
 intro pins s σ H vs us Q I r h
 obtain⟨v,vr,e1,h⟩:=h
 subst e1
 cases r with
 | cons r rr =>
  rw[hs]
  refine assignInOrder_cons (thn (h1 pins s σ H _ _ _ I r h) fun _ s1 ⟨σ1,H1,I1,q1⟩=>?_)
  exact h2 pins s1 σ1 H1 _ _ Q I1 rr q1
def cf4 (K:W.Frag)(n:Nat)(t:TGs):TG:=fun v σ H Q=>∃ a xs,v=.ref a/\SqT K H a xs/\xs.length=n/\t xs σ H Q
theorem ao4 {es:List Expr}{k:Nat}{t:TGs}{n:Nat}(hc:X.calm=true)(h:PGs X es t)
  (hn:(ah2 es X.env).length=n:=by rfl)(hst:(ah2 es X.env).findIdx? (·.1)=none:=by rfl):PG X (.Tuple es k pos) (cf4 X.K n t):=by
 intro pins s σ H v u Q I r hw
 obtain⟨a,xs,e1,hq,hl,hw⟩:=hw
 subst e1
 cases r
 obtain⟨its,rv,ht,hz⟩:=I.tuple hq
 refine assign_Tuple_tuple (I.ok.hd hc) ht (by simp[hn,<- hl,rv.length]) hst fun h' hx=>?_
 have I1:Inv X pins σ H { s with heap:=h' }:=I.kept (t':=s.toks) fun b o e=>hx b o (j7 (d6 e)) e
 exact h pins _ σ H xs _ Q I1 (by simpa using rv) hw
def cj2 (to ti:TE)(t:bA5):TG:=fun v σ H Q=>to σ H fun o H1=>ti σ H1 fun i H2=>t o i v H2 fun H3=>Q σ H3
theorem au5 {o i:Expr} {to ti:TE} {t:bA5} (ho:PE X o to) (hi:PE X i ti) (hs:bX9 X t)
  (ha : ∀ v, bP4 (.Subscript o i pos) X.env v = (do
   let ov <- aG7 [v] (eval o X.env)
   let iv <- aG7 [v,ov] (eval i X.env)
   standAt pos
   aG7 [v,ov,iv] (setItem ov iv v)
   release [v,ov,iv] []):=by intro _;rfl):PG X (.Subscript o i pos) (cj2 to ti t):=by
 intro pins s σ H v u Q I r h
 rw[ha]
 refine b7 (D3 (thn (ho pins s σ H _ I h) fun ov s1 ⟨x,H1,I1,r1,q1⟩=>?_))
 refine b7 (D3 (thn (hi pins s1 σ H1 _ I1 q1) fun iv s2 ⟨y,H2,I2,r2,q2⟩=>?_))
 refine b7 (af3 (b7 (D3 (thn (hs pins s2 σ H2 x y v ov iv u _ I2 r1 r2 r q2) fun _ s3 ⟨H3,I3,q3⟩=>?_))))
 exact wpAny_release ⟨σ,H3,I3,q3⟩
def cb9 (te:TE)(g:TG):TS:=fun D σ H=>te σ H fun x H1=>g x σ H1 D.nx
theorem ag3 {tg e:Expr}{te:TE}{g:TG}(he:PE X e te)(hg:PG X tg g)(hs:swapsWithSole [tg] e pos.line X.env=pure false:=by rfl)(hw:swappedStores [tg] e X.env=pure none:=by rfl)
  (h1:(ah2 [tg] X.env).map (·.2)=[bP4 tg X.env]:=by rfl):PS X (.Assign [tg] e pos) (cb9 te g):=by
 intro pins s σ H D I h
 refine wpAny_Assign_stores (thn (he pins s σ H _ I h) fun v s1 ⟨x,H1,I1,r1,q1⟩=>?_) hs hw
 rw[h1]
 exact thn (hg pins s1 σ H1 x v _ I1 r1 q1) fun _ s2 q=>q
theorem B1 {i:Nat}{x:Str}{e:Expr}{te:TE}{pos':Pos}(hN:X.N.Nodup)(hi:X.N[i]?=some x)(hx:Loc X.env.scope x)(he:PE X e te)(hs:swapsWith e (some (.Name x pos')) pos.line X.env=pure false:=by rfl)(hf:X.fn x=true\/X.env.scope.names.lookup x=some .local:=by first | exact .inl rfl | exact .inr rfl | assumption) :
  PS X (.Assign [.Name x pos'] e pos) (cb9 te (aE3 i)):=by
 intro pins s σ H D I h
 refine wpAny_Assign_Name (thn (he pins s σ H _ I h) fun v s1 ⟨y,H1,I1,r1,q1⟩=>?_) hs
 exact aA4 I1 hN hi hx r1 (fun s2 I2=>⟨_,H1,I2,q1⟩) hf
def ch6 (i:Nat)(te:TE)(ti:TIp):TS:=fun D σ H=>∃ x,σ[i]?=some (some x)/\te σ H fun y H1=>ti x y H1 fun z H2=>D.nx (σ.set i (some z)) H2
theorem bT2 {i:Nat}{x:Str}{e:Expr}{te:TE}{op:Operator}{ti:TIp}{pos':Pos}(hN:X.N.Nodup)(hi:X.N[i]?=some x)(hx:Loc X.env.scope x)(he:PE X e te)(ho:PIp X op ti)(hf:X.fn x=true\/X.env.scope.names.lookup x=some .local:=by first | exact .inl rfl | exact .inr rfl | assumption) :
  PS X (.AugAssign (.Name x pos') op e pos) (ch6 i te ti):=by
 intro pins s σ H D I h
 obtain⟨v,e1,h⟩:=h
 obtain⟨m,hn,hl⟩:=I.loc
 have vis:Vis X.env.scope x:=by rcases hx with k | k;exact .inl k;exact .inr (.inl k)
 obtain⟨u,r,l⟩:=hl i x v hi e1 vis
 refine wpAny_AugAssign_Name ?_
 have go:o7 (y6 X.prog X.w) X.A (eval e X.env) (fun w s₂=>o7 (y6 X.prog X.w) X.A (inplaceOp op u w) (fun r s₃=>o7 (y6 X.prog X.w) X.A (storeName X.env x r) (fun _=>SP X pins D .next) X.xe s₃) X.xe s₂) X.xe s:=by
  refine thn (he pins s σ H _ I h) fun w s1 ⟨y,H1,I1,r1,q1⟩=>?_
  refine thn (ho pins s1 σ H1 v y u w _ I1 r r1 q1) fun z s2 ⟨zv,H2,I2,r2,q2⟩=>?_
  exact aA4 I2 hN hi hx r2 (fun s3 I3=>⟨_,H2,I3,q2⟩) hf
 rcases l with⟨hk,hm⟩ | ⟨hk,c,hc,hcell⟩
 ·exact bY8 I.ok.kind hk hn hm go
 ·rcases hk with hk | hk
  ·exact bZ7 I.ok.kind hk hc hcell go
  ·rcases hx with k | k
   ·have:X.env.scope.names.lookup x=some .free:=hk
    rw[k]at this;cases this
   ·have:X.env.scope.names.lookup x=some .free:=hk
    rw[k]at this;cases this
def cb8 (to ti te:TE)(tget:V->V->Hp->VK->Prop)(tip:TIp)(tset:bA5):TS:=fun D σ H=>to σ H fun o H1=>ti σ H1 fun i H2=>tget o i H2 fun x H3=>te σ H3 fun y H4=>tip x y H4 fun z H5=>tset o i z H5 fun H6=>D.nx σ H6
def cg3 (X:Cx)(t:V->V->Hp->VK->Prop):Prop:=
 ∀ (pins:List (Addr × Obj)) (s:c7) (σ:St) (H:Hp) (o i:V) (ov iv:c6) (Q:VK),Inv X pins σ H s->RelV o ov->RelV i iv->t o i H Q ->
  o7 (y6 X.prog X.w) X.A (ap4 ov iv) (EP X pins σ Q) X.xe s
theorem bf2 {o i e:Expr}{to ti te:TE}{tget:V->V->Hp->VK->Prop}{tip:TIp}{tset:bA5}{op:Operator}{tpos:Pos}(ho:PE X o to)(hi:PE X i ti)(hg:cg3 X tget)(he:PE X e te)(hp:PIp X op tip)(hs:bX9 X tset)
  (ha:∀ ov iv new,augStore i ov iv new=(do aG7 [new,ov,iv] (setItem ov iv new);release [new,ov,iv] [];pure .next):=by intros;rfl):PS X (.AugAssign (.Subscript o i tpos) op e pos) (cb8 to ti te tget tip tset):=by
 intro pins s σ H D I h
 refine wpAny_AugAssign_SubscriptAny (thn (ho pins s σ H _ I h) fun ov s1 ⟨x1,H1,I1,r1,q1⟩=>?_) ha
 refine thn (hi pins s1 σ H1 _ I1 q1) fun iv s2 ⟨x2,H2,I2,r2,q2⟩=>?_
 refine thn (hg pins s2 σ H2 x1 x2 ov iv _ I2 r1 r2 q2) fun old s3 ⟨x3,H3,I3,r3,q3⟩=>?_
 refine thn (he pins s3 σ H3 _ I3 q3) fun v s4 ⟨x4,H4,I4,r4,q4⟩=>?_
 refine thn (hp pins s4 σ H4 x3 x4 old v _ I4 r3 r4 q4) fun new s5 ⟨x5,H5,I5,r5,q5⟩=>?_
 exact thn (hs pins s5 σ H5 x1 x2 x5 ov iv new _ I5 r1 r2 r5 q5) fun _ s6 ⟨H6,I6,q6⟩=>⟨σ,H6,I6,q6⟩
def ipI (f:Int->Int->Int):TIp:=fun x y H Q=>∃ i j,x=.int i/\y=.int j/\Q (.int (f i j)) H
theorem bx3:PIp X .Add (ipI fun i j=>i+j):=by
 intro pins s σ H x y v u Q I r1 r2 h
 obtain⟨i,j,e1,e2,q⟩:=h
 subst e1;subst e2
 obtain⟨t,rfl⟩:=r1
 obtain⟨t',rfl⟩:=r2
 exact iadd_int ⟨.int _,H,I.tok _,⟨_,rfl⟩,q⟩
end
section
variable {X:Cx} {pos:Pos}
def bQ8 (c:TT)(tb:TS):TS:=fun D σ H=>∃ W:Nat->St->Hp->Prop,(∃ m,W m σ H)/\∀ m σ H,W m σ H ->
 c σ H fun b H1=>if b=true then ∃ N:St->Hp->Prop,(∀ σ' H',N σ' H'->∃ m',m'<m/\W m' σ' H')/\tb { D with nx:=N,ct:=N,bk:=D.nx } σ H1 else D.nx σ H1
theorem aU1 {c:Expr}{body:List Stmt}{tc:TT}{tb:TS}(hp:PassesOwn (y6 X.prog X.w) X.A X.env X.xe)(hc:PT X c tc)(hb:PSs X body tb):PS X (.While c body [] pos) (bQ8 tc tb):=by
 intro pins s σ H D I h
 obtain⟨W,⟨m0,w0⟩,turn⟩:=h
 refine wpAny_While (codeAny_whileLoop (fun n s'=>∃ σ' H',Inv X pins σ' H' s'/\W n σ' H') ?_ m0 ⟨σ,H,I,w0⟩)
 rintro n s1 ⟨σ1,H1,I1,w1⟩
 refine S8 hp (thn (hc pins s1 σ1 H1 _ I1 (turn n σ1 H1 w1)) fun b s2 ⟨H2,I2,q2⟩=>?_)
 cases b with
 | true =>
  obtain⟨N,hN,q2⟩:=q2
  rw[if_pos rfl]
  refine S8 hp (thn (hb pins s2 σ1 H2 _ I2 q2) fun f s3 q3=>?_)
  cases f with
  | next =>
   obtain⟨σ3,H3,I3,n3⟩:=q3
   obtain⟨m',hm,w3⟩:=hN σ3 H3 n3
   exact⟨m',hm,σ3,H3,I3,w3⟩
  | cont =>
   obtain⟨σ3,H3,I3,n3⟩:=q3
   obtain⟨m',hm,w3⟩:=hN σ3 H3 n3
   exact⟨m',hm,σ3,H3,I3,w3⟩
  | brk=>exact q3
  | ret v=>exact q3
 | false =>
  rw[if_neg k9]
  exact ai1 ⟨σ1,H2,I2,q2⟩
end
structure It where
 go:Nat->Hp->Prop
 yld:Nat->Hp->V->Hp->Prop
 stop:Nat->Hp->Prop
def N8 (X:Cx)(pins:List (Addr × Obj))(H:Hp)(b:Addr):Prop:=
 H b=none/\b≠X.env.locals/\b∉X.fs/\(b∈X.ex\/X.s₀.heap.objs.size<=b)/\(∀ x c,X.env.cells.lookup x=some c->c≠b)/\∀ p∈X.pn++pins,p.1≠b
theorem Inv.fpOk {X:Cx}{pins:List (Addr × Obj)}{σ:St}{H H':Hp}{s:c7}{b:Addr}(I:Inv X pins σ H s)(hb:s.heap.objs.size<=b)(hn:H' b=none):N8 X pins H' b:=by
 refine⟨hn,K7 (p7 I.lt hb),I.nofs hb,.inr (A4 I.sz hb),fun x c e z=>?_,fun p hp z=>?_⟩
 ·obtain⟨v,q⟩:=I.cell x c e
  exact absurd (p7 q.lt (by rw[z];exact hb)) (B8 _)
 ·exact absurd (p7 (d6 (I.pin p hp).1) (by rw[z];exact hb)) (B8 _)
structure Turn (P:j8) (w:x6) (K:W.Frag) (tg:Expr) (J:It) (fp:List Addr) (it:Addr) (tn:Nat->Heap->Prop):Prop where
 mem:it∈fp
 obj:∀ i h,tn i h->∀ b∈fp,∃ o,h.get? b=some o/\∀ v,o.data≠.cell v
 keep:∀ i h h',tn i h->(∀ b∈fp,∀ o,h.get? b=some o->h'.get? b=some o)->tn i h'
 item:∀ (X:Cx),X.prog=P->X.w=w->X.K=K->X.calm=true->∀ (i:Nat) (pins:List (Addr × Obj)) (s:c7) (σ:St) (H:Hp) (E:c6->c7->Prop),Inv X pins σ H s->(∀ b∈fp,N8 X pins H b)->tn i s.heap->J.go i H ->
  o7 (y6 P w) X.A (aL8 (.ref it)) (fun r s1=>∃ u,r=some u /\
   o7 (y6 P w) X.A (bj1 tg (.ref it) u) (fun _ s2=>∃ x H',Inv X pins σ H' s2/\RelV x u/\J.yld i H x H'/\tn (i+1) s2.heap/\∀ b∈fp,H' b=none) E s1) E s
 done:∀ (X:Cx),X.prog=P->X.w=w->X.K=K->X.calm=true->∀ (i:Nat) (pins:List (Addr × Obj)) (s:c7) (σ:St) (H:Hp) (E:c6->c7->Prop),Inv X pins σ H s->(∀ b∈fp,N8 X pins H b)->tn i s.heap->J.stop i H ->
  o7 (y6 P w) X.A (aL8 (.ref it)) (fun r s1=>r=none/\Inv X pins σ H s1) E s
 self:∀ (A:u4) (i:Nat) (s:c7) (Q:c6->c7->Prop) (E:c6->c7->Prop),tn i s.heap->Q (.ref it) s->o7 (y6 P w) A (pyIter (.ref it)) Q E s
abbrev TI:=St->Hp->(It->Hp->Prop)->Prop
def PIE (X:Cx)(pins:List (Addr × Obj))(σ:St)(tg:Expr)(R:It->Hp->Prop)(itv:c6)(s2:c7):Prop:=
 ∃ (it:Addr) (fp:List Addr) (tn:Nat->Heap->Prop) (J:It) (H':Hp),itv=.ref it/\Inv X pins σ H' s2/\Turn X.prog X.w X.K tg J fp it tn/\tn 0 s2.heap/\(∀ b∈fp,N8 X pins H' b)/\R J H'
def PI (X:Cx)(tg iter:Expr)(wi:TI):Prop:=
 ∀ (pins:List (Addr × Obj)) (s:c7) (σ:St) (H:Hp) (R:It->Hp->Prop),Inv X pins σ H s->wi σ H R ->
  o7 (y6 X.prog X.w) X.A (eval iter X.env) (fun v s1=>o7 (y6 X.prog X.w) X.A (pyIter v) (PIE X pins σ tg R) X.xe s1) X.xe s
theorem by2 {M:Model} {A:u4} {E:c6->c7->Prop} {s:c7} {tg:Expr} {it:Addr} {u:c6} {o:Obj} {n:String} {vs:Array c6} {Q:Unit->c7->Prop} (ho:s.heap.get? it=some o) (hc:o.cls=.type n) (hd:o.data=.fields vs)
    (hn:["enumerate","zip","dict_itemiterator","dict_reverseitemiterator","odict_iterator","itertools.zip_longest","itertools.pairwise"].contains n=false) (hQ:Q () s):o7 M A (bj1 tg (.ref it) u) Q E s:=by
  unfold bj1
  cases tg<;>first
    | exact d3 hQ
    | (cases u<;>first
        | exact d3 hQ
        | (refine b7 (wpAny_load ho ?_)
           rw[hc,hd]
           show o7 M A (if (["enumerate","zip","dict_itemiterator","dict_reverseitemiterator","odict_iterator","itertools.zip_longest","itertools.pairwise"].contains n && vs[0]? == some (ac4 _))=true then _ else _) Q E s
           rw[if_neg (by intro h;rw[hn,Bool.false_and]at h;cases h)]
           exact d3 hQ))
def Itl (K:W.Frag)(a:Addr):It:=
 ⟨fun i H=>∃ xs x,SqL K H a xs/\xs[i]?=some x,fun i H x H'=>H'=H/\∀ xs,SqL K H a xs->xs[i]?=some x,fun i H=>∃ xs,SqL K H a xs/\xs.length<=i⟩
def Itt (K:W.Frag)(a:Addr):It:=
 ⟨fun i H=>∃ xs x,SqT K H a xs/\xs[i]?=some x,fun i H x H'=>H'=H/\∀ xs,SqT K H a xs->xs[i]?=some x,fun i H=>∃ xs,SqT K H a xs/\xs.length<=i⟩
def Itr (lo:Int)(n:Nat):It:=⟨fun i _=>i<n,fun i H x H'=>H'=H/\x=.int (lo+i),fun i _=>n<=i⟩
theorem bk6 {P:j8}{w:x6}{K:W.Frag}{tg:Expr}(a it:Addr):Turn P w K tg (Itl K a) [it] it (fun i h=>h.IsListIter it a i) where
 mem:=by simp
 obj:=fun i h st b hb=>by
  have e:b=it:=by simpa using hb
  subst e
  obtain⟨o,e,c,d⟩:=st
  exact⟨o,e,fun v z=>by rw[d]at z;cases z⟩
 keep:=fun i h h' st k=>st.at fun o e=>k it (by simp) o e
 item:=by
  intro X hP hw hK hc i pins s σ H E I hf st hg
  subst hP hw hK
  obtain⟨xs,x,hq,hx⟩:=hg
  obtain⟨its,rv,p,hz⟩:=I.list hq
  obtain⟨u,hu,ru⟩:=rv.get hx
  obtain⟨f0,f1,f2,f3,f4,f5⟩:=hf it (by simp)
  refine wpAny_pyNext_list_item st p.isList (x:=u) (by simpa using hu) fun h' st' sb=>?_
  have I1:Inv X pins σ H { s with heap:=h' }:=I.turned (t':=s.toks) (fun b o hb e=>(sb.2 b hb).trans e) f0 f1 f3 f4 f5
  obtain⟨o,e,c,d⟩:=id st'
  exact⟨u,rfl,by2 (s:={ s with heap:=h' }) e c d (by decide) ⟨x,H,I1,ru,⟨rfl,fun ys hy=>by rw[I.list_inj hy hq];exact hx⟩,st',fun b hb=>(hf b hb).1⟩⟩
 done:=by
  intro X hP hw hK hc i pins s σ H E I hf st hg
  subst hP hw hK
  obtain⟨xs,hq,hx⟩:=hg
  obtain⟨its,rv,p,hz⟩:=I.list hq
  obtain⟨f0,f1,f2,f3,f4,f5⟩:=hf it (by simp)
  have hl:=rv.length
  exact wpAny_pyNext_list_end (I.ok.hd hc) st p.isList (by simp;omega) fun h' eb=>⟨rfl,I.turned (t':=s.toks) (fun b o hb e=>eb b o hb e) f0 f1 f3 f4 f5⟩
 self:=fun _ _ _ _ _ st h=>wpAny_pyIter_listiter st h
theorem aZ4 {P:j8}{w:x6}{K:W.Frag}{tg:Expr}(a it:Addr):Turn P w K tg (Itt K a) [it] it (fun i h=>h.IsTupleIter it a i) where
 mem:=by simp
 obj:=fun i h st b hb=>by
  have e:b=it:=by simpa using hb
  subst e
  obtain⟨o,e,c,d⟩:=st
  exact⟨o,e,fun v z=>by rw[d]at z;cases z⟩
 keep:=fun i h h' st k=>st.at fun o e=>k it (by simp) o e
 item:=by
  intro X hP hw hK hc i pins s σ H E I hf st hg
  subst hP hw hK
  obtain⟨xs,x,hq,hx⟩:=hg
  obtain⟨its,rv,p,hz⟩:=I.tuple hq
  obtain⟨u,hu,ru⟩:=rv.get hx
  obtain⟨f0,f1,f2,f3,f4,f5⟩:=hf it (by simp)
  refine wpAny_pyNext_tuple_item st (show s.heap.IsTuple a its.toArray from p) (x:=u) (by simpa using hu) fun h' st' sb=>?_
  have I1:Inv X pins σ H { s with heap:=h' }:=I.turned (t':=s.toks) (fun b o hb e=>(sb.2 b hb).trans e) f0 f1 f3 f4 f5
  obtain⟨o,e,c,d⟩:=id st'
  exact⟨u,rfl,by2 (s:={ s with heap:=h' }) e c d (by decide) ⟨x,H,I1,ru,⟨rfl,fun ys hy=>by rw[I.tuple_inj hy hq];exact hx⟩,st',fun b hb=>(hf b hb).1⟩⟩
 done:=by
  intro X hP hw hK hc i pins s σ H E I hf st hg
  subst hP hw hK
  obtain⟨xs,hq,hx⟩:=hg
  obtain⟨its,rv,p,hz⟩:=I.tuple hq
  obtain⟨f0,f1,f2,f3,f4,f5⟩:=hf it (by simp)
  have hl:=rv.length
  exact wpAny_pyNext_tuple_end (I.ok.hd hc) st (show s.heap.IsTuple a its.toArray from p) (by simp;omega) fun h' eb=>⟨rfl,I.turned (t':=s.toks) (fun b o hb e=>eb b o hb e) f0 f1 f3 f4 f5⟩
 self:=fun _ _ _ _ _ st h=>wpAny_pyIter_tupleiter st h
theorem aZ5 {P:j8}{w:x6}{K:W.Frag}{tg:Expr}(it:Addr)(lo:Int)(n:Nat):Turn P w K tg (Itr lo n) [it] it (fun i h=>IsRangeIter h it (lo+(i:Nat)*1) ((n:Int) - (i:Nat)) 1) where
 mem:=by simp
 obj:=fun i h st b hb=>by
  have e:b=it:=by simpa using hb
  subst e
  exact⟨_,st,fun v z=>by
   have z':Data.fields _=Data.cell v:=z
   cases z'⟩
 keep:=fun i h h' st k=>k it (by simp) _ st
 item:=by
  intro X hP hw hK hc i pins s σ H E I hf st hg
  subst hP hw hK
  obtain⟨f0,f1,f2,f3,f4,f5⟩:=hf it (by simp)
  have W:=Walks.range (prog:=X.prog) (w:=X.w) (I.ok.hd hc) it lo 1 n
  refine W.item i s _ _ hg st fun v h' tk hv st' kk=>?_
  obtain⟨t,rfl⟩:=hv
  have I1:Inv X pins σ H { s with heap:=h',toks:=tk }:=I.turned (fun b o hb e=>kk b o (by simpa using hb) e) f0 f1 f3 f4 f5
  refine⟨_,rfl,by2 (s:={ s with heap:=h',toks:=tk }) (n:="range_iterator") st' rfl rfl (by decide) ⟨.int (lo+i),H,I1,⟨t,?_⟩,⟨rfl,rfl⟩,st',fun b hb=>(hf b hb).1⟩⟩
  rw[L0]
 done:=by
  intro X hP hw hK hc i pins s σ H E I hf st hg
  subst hP hw hK
  obtain⟨f0,f1,f2,f3,f4,f5⟩:=hf it (by simp)
  exact wpAny_pyNext_range_end (I.ok.hd hc) st (by have:n<=i:=hg;omega) fun h' eb=>⟨rfl,I.turned (t':=s.toks) (fun b o hb e=>eb b o hb e) f0 f1 f3 f4 f5⟩
 self:=fun _ _ _ _ _ st h=>wpAny_pyIter_rangeiter st h
section
variable {X:Cx} {tg:Expr}
def cf0 (K:W.Frag)(tl:TE):TI:=fun σ H R=>tl σ H fun x H1=>∃ a,x=.ref a/\(∃ xs,SqL K H1 a xs)/\R (Itl K a) H1
def cj1 (K:W.Frag)(tl:TE):TI:=fun σ H R=>tl σ H fun x H1=>∃ a,x=.ref a/\(∃ xs,SqT K H1 a xs)/\R (Itt K a) H1
theorem R4 {l:Expr}{tl:TE}(hl:PE X l tl):PI X tg l (cf0 X.K tl):=by
 intro pins s σ H R I h
 refine thn (hl pins s σ H _ I h) fun v s1 ⟨x,H1,I1,r1,q1⟩=>?_
 obtain⟨a,e,⟨xs,hq⟩,q⟩:=q1
 subst e
 cases r1
 obtain⟨its,rv,p,hz⟩:=I1.list hq
 refine M9 p.isList ?_
 refine⟨s1.heap.objs.size,[s1.heap.objs.size],_,_,H1,rfl,I1.kept (t':=s1.toks) fun b o e=>c5 _ e,bk6 a _,⟨_,i8 _ rfl,rfl,rfl⟩,fun b hb=>?_,q⟩
 have e:b=s1.heap.objs.size:=by simpa using hb
 subst e
 exact I1.fpOk (d4 _) (I1.hok.fresh (d4 _))
theorem aC2 {l:Expr}{tl:TE}(hl:PE X l tl):PI X tg l (cj1 X.K tl):=by
 intro pins s σ H R I h
 refine thn (hl pins s σ H _ I h) fun v s1 ⟨x,H1,I1,r1,q1⟩=>?_
 obtain⟨a,e,⟨xs,hq⟩,q⟩:=q1
 subst e
 cases r1
 obtain⟨its,rv,p,hz⟩:=I1.tuple hq
 refine J4 (show s1.heap.IsTuple a its.toArray from p) ?_
 refine⟨s1.heap.objs.size,[s1.heap.objs.size],_,_,H1,rfl,I1.kept (t':=s1.toks) fun b o e=>c5 _ e,aZ4 a _,⟨_,i8 _ rfl,rfl,rfl⟩,fun b hb=>?_,q⟩
 have e:b=s1.heap.objs.size:=by simpa using hb
 subst e
 exact I1.fpOk (d4 _) (I1.hok.fresh (d4 _))
theorem aT8 {pins:List (Addr × Obj)}{σ:St}{H:Hp}{s:c7}{R:It->Hp->Prop}{E:c6->c7->Prop}{lo hi:Int}{t u v:Tok}{tk:Nat}(I:Inv X pins σ H s)(h1:-(2 ^ 62)<=lo)(h2:lo<2 ^ 62)(h3:-(2 ^ 62)<=hi)(h4:hi<2 ^ 62)
  (q:R (Itr lo (hi - lo).toNat) H):o7 (y6 X.prog X.w) X.A (pyIter (.ref s.heap.objs.size)) (PIE X pins σ tg R) E { s with heap:=s.heap.push { cls:=.type "range",data:=.fields #[.int lo t,.int hi u,.int 1 v] },toks:=tk }:=by
 refine wpAny_pyIter_range (IsRange.new ..) (small_one h1 h2 h3 h4) ?_
 have I1:Inv X pins σ H { s with heap:=s.heap.push { cls:=.type "range",data:=.fields #[.int lo t,.int hi u,.int 1 v] },toks:=tk }:=I.kept fun b o e=>c5 _ e
 refine⟨(s.heap.push { cls:=.type "range",data:=.fields #[.int lo t,.int hi u,.int 1 v] }).objs.size,[(s.heap.push { cls:=.type "range",data:=.fields #[.int lo t,.int hi u,.int 1 v] }).objs.size],_,_,H,rfl,
  I1.kept (t':=tk) fun b o e=>c5 _ e,aZ5 _ lo (hi - lo).toNat,?_,fun b hb=>?_,q⟩
 ·have e1:lo+((0:Nat):Int)*1=lo:=by simp
  have e2:(((hi - lo).toNat:Nat):Int) - ((0:Nat):Int)=Builtin.Range.rangeSize lo hi 1:=by rw[bC1];split<;>omega
  show IsRangeIter _ _ (lo+((0:Nat):Int)*1) ((((hi - lo).toNat:Nat):Int) - ((0:Nat):Int)) 1
  rw[e1,e2]
  exact i8 _ rfl
 ·have e:b=(s.heap.push { cls:=.type "range",data:=.fields #[.int lo t,.int hi u,.int 1 v] }).objs.size:=by simpa using hb
  subst e
  exact I1.fpOk (d4 _) (I1.hok.fresh (d4 _))
def ce9 (ta:TA):TI:=fun σ H R=>ta σ H fun vs H1=>∃ j:Int,vs=[.int j] /\ -(2 ^ 62)<=j/\j<2 ^ 62/\R (Itr 0 j.toNat) H1
def ce8 (ta:TA):TI:=fun σ H R=>ta σ H fun vs H1=>∃ i j:Int,vs=[.int i,.int j]/\(-(2 ^ 62)<=i/\i<2 ^ 62 /\ -(2 ^ 62)<=j/\j<2 ^ 62)/\R (Itr i (j - i).toNat) H1
theorem Q5 {a:Expr}{ta:TA}{p pos:Pos}(hg:Gl X "range")(hm:X.mg "range"=none)(ha:PA X [a] ta)(hs:A2 [a] X.env=[(false,eval a X.env)]:=by rfl):PI X tg (.Call (.Name "range" p) [a] [] pos) (ce9 ta):=by
 intro pins s σ H R I h
 refine Call_ (V8 I hg hm bB4 (PyProof.Rows.callWith_type1 (thn (ha pos pins s σ H _ I h) fun us s1 ⟨vs,H1,I1,r1,q1⟩=>?_) hs rfl))
 obtain⟨j,e,q1,q2,q⟩:=q1
 subst e
 cases r1 with
 | cons r rr =>
  cases rr
  obtain⟨t,rfl⟩:=r
  exact call_range_1 (aT8 I1 (by omega) (by omega) q1 q2 (by simpa using q))
theorem aJ1 {a b:Expr}{ta:TA}{p pos:Pos}(hg:Gl X "range")(hm:X.mg "range"=none)(ha:PA X [a,b] ta)(hs:A2 [a,b] X.env=[(false,eval a X.env),(false,eval b X.env)]:=by rfl)(hs2:A2 [b] X.env=[(false,eval b X.env)]:=by rfl) :
  PI X tg (.Call (.Name "range" p) [a,b] [] pos) (ce8 ta):=by
 intro pins s σ H R I h
 refine Call_ (V8 I hg hm bB4 (PyProof.Rows.callWith_type1 (thn (ha pos pins s σ H _ I h) fun us s1 ⟨vs,H1,I1,r1,q1⟩=>?_) (by rw[hs,hs2]) (by rw[hs2];rfl)))
 obtain⟨i,j,e,⟨q1,q2,q3,q4⟩,q⟩:=q1
 subst e
 cases r1 with
 | cons r rr =>
  cases rr with
  | cons r' rr =>
   cases rr
   obtain⟨t,rfl⟩:=r
   obtain⟨t',rfl⟩:=r'
   exact call_range_2 (aT8 I1 q1 q2 q3 q4 q)
def ch4 (wi:TI)(g:TG)(tb:TS):TS:=fun D σ H=>wi σ H fun J H1=>∃ W:Nat->Nat->St->Hp->Prop,(∃ m,W 0 m σ H1)/\∀ i m σ H,W i m σ H ->
 (J.stop i H/\D.nx σ H)\/(J.go i H/\∃ N:St->Hp->Prop,(∀ σ' H',N σ' H'->∃ m',m'<m/\W (i+1) m' σ' H')/\∀ x H',J.yld i H x H'->g x σ H' fun σ2 H2=>tb { D with nx:=N,ct:=N,bk:=D.nx } σ2 H2)
def aj7 (fp:List Addr)(h:Heap):List (Addr × Obj):=fp.filterMap fun b=>(h.get? b).map fun o=>(b,o)
theorem O3 {fp:List Addr}{h:Heap}{b:Addr}{o:Obj}(hb:b∈fp)(e:h.get? b=some o):(b,o)∈aj7 fp h:=ah8.mpr ⟨b,hb,by rw[e];rfl⟩
theorem bl6 {fp:List Addr}{h:Heap}{p:Addr × Obj}(hp:p∈aj7 fp h):p.1∈fp/\h.get? p.1=some p.2:=by
 obtain⟨b,hb,e⟩:=ah8.mp hp
 cases q:h.get? b with
 | none=>rw[q]at e;cases e
 | some o =>
  rw[q]at e
  have e':(b,o)=p:=Option.some.inj e
  subst e'
  exact⟨hb,q⟩
theorem Inv.pinned {pins:List (Addr × Obj)}{σ:St}{H:Hp}{s:c7}{fp:List Addr}(I:Inv X pins σ H s)(hf:∀ b∈fp,N8 X pins H b)(ho:∀ b∈fp,∃ o,s.heap.get? b=some o/\∀ v,o.data≠.cell v):Inv X (pins++aj7 fp s.heap) σ H s:=
 I.pins_of fun p hp=>(F3.mp hp).elim (fun z=>I.pin p (m9 _ z)) fun z=>by
  obtain⟨hb,e⟩:=bl6 z
  obtain⟨f0,f1,f2,_⟩:=hf p.1 hb
  obtain⟨o,e',d⟩:=ho p.1 hb
  rw[e]at e';cases e'
  exact⟨e,f0,f1,f2,d⟩
theorem Inv.unpinned {pins pl:List (Addr × Obj)}{σ:St}{H:Hp}{s:c7}(I:Inv X (pins++pl) σ H s):Inv X pins σ H s:=I.pins_of fun p hp=>I.pin p (m9 _ (av9 _ hp))
theorem V7 {iter:Expr}{body:List Stmt}{wi:TI}{g:TG}{tb:TS}{pos:Pos}(hp:PassesOwn (y6 X.prog X.w) X.A X.env X.xe)(hc:X.calm=true)(hi:PI X tg iter wi)(hg:PG X tg g)(hb:PSs X body tb)
  (hs:∀ x,aa5 iter X.env x=pure x:=by intro _;rfl):PS X (.For tg iter body [] pos) (ch4 wi g tb):=by
 intro pins s σ H D I h
 refine wpAny_For (thn (hi pins s σ H _ I h) fun v s1 h1=>thn h1 fun itv s2 h2=>?_) hs
 obtain⟨it,fp,tn,J,H2,e,I2,T,st2,f2,W,⟨m0,w0⟩,turn⟩:=h2
 subst e
 have stat:∀ {H':Hp},(∀ b∈fp,H' b=none)->∀ b∈fp,N8 X pins H' b:=fun hn b hb=>⟨hn b hb,(f2 b hb).2⟩
 refine codeAny_forLoop_any (fun n s'=>∃ i σ' H',Inv X pins σ' H' s'/\tn i s'.heap/\(∀ b∈fp,H' b=none)/\W i n σ' H') ?_ m0 ⟨0,σ,H2,I2,st2,fun b hb=>(f2 b hb).1,w0⟩
 rintro n s3 ⟨i,σ3,H3,I3,st3,fr3,w3⟩
 rcases turn i n σ3 H3 w3 with⟨stop,qn⟩ | ⟨go,N,hN,step⟩
 ·refine S8 hp (thn (T.done X rfl rfl rfl hc i pins s3 σ3 H3 X.xe I3 (stat fr3) st3 stop) fun r s4 ⟨hr,I4⟩=>?_)
  subst hr
  exact ai1 ⟨σ3,H3,I4,qn⟩
 ·refine S8 hp (thn (T.item X rfl rfl rfl hc i pins s3 σ3 H3 X.xe I3 (stat fr3) st3 go) fun r s4 ⟨u,hr,h4⟩=>?_)
  subst hr
  refine S8 hp (thn h4 fun _ s5 ⟨x,H5,I5,r5,y5,st5,fr5⟩=>?_)
  have I5':=I5.pinned (stat fr5) (T.obj _ _ st5)
  refine S8 hp (thn (hg _ s5 σ3 H5 x u _ I5' r5 (step x H5 y5)) fun _ s6 ⟨σ6,H6,I6,q6⟩=>?_)
  refine S8 hp (thn (hb _ s6 σ6 H6 _ I6 q6) fun f s7 q7=>?_)
  have bj2:∀ {σ7:St} {H7:Hp},Inv X (pins++aj7 fp s5.heap) σ7 H7 s7->N σ7 H7->∃ m,m<n/\∃ i σ' H',Inv X pins σ' H' s7/\tn i s7.heap/\(∀ b∈fp,H' b=none)/\W i m σ' H':=fun {σ7 H7} I7 n7=>by
   obtain⟨m',hm,w7⟩:=hN σ7 H7 n7
   refine⟨m',hm,i+1,σ7,H7,I7.unpinned,T.keep _ _ _ st5 fun b hb o e=>(I7.pin (b,o) (m9 _ (m9 _ (O3 hb e)))).1,fun b hb=>?_,w7⟩
   obtain⟨o,e,d⟩:=T.obj _ _ st5 b hb
   exact(I7.pin (b,o) (m9 _ (m9 _ (O3 hb e)))).2.1
  cases f with
  | next=>obtain⟨σ7,H7,I7,n7⟩:=q7;exact bj2 I7 n7
  | cont=>obtain⟨σ7,H7,I7,n7⟩:=q7;exact bj2 I7 n7
  | brk=>obtain⟨σ7,H7,I7,q7⟩:=q7;exact⟨σ7,H7,I7.unpinned,q7⟩
  | ret v=>obtain⟨x7,σ7,H7,I7,r7,q7⟩:=q7;exact⟨x7,σ7,H7,I7.unpinned,r7,q7⟩
end
theorem aE5 {K:W.Frag}{a:Addr}{xs:List V}{g:TG}{tb:TS}{D:Ends}{σ:St}{H:Hp}(Pv:Nat->St->Hp->Prop)(h0:Pv 0 σ H)(hl:∀ i σ H,i<=xs.length->Pv i σ H->SqL K H a xs)
  (hs:∀ i x σ H,xs[i]?=some x->Pv i σ H->g x σ H fun σ2 H2=>tb { D with nx:=Pv (i+1),ct:=Pv (i+1),bk:=D.nx } σ2 H2)(hd:∀ σ H,Pv xs.length σ H->D.nx σ H) :
  ∃ W:Nat->Nat->St->Hp->Prop,(∃ m,W 0 m σ H)/\∀ i m σ H,W i m σ H ->
   ((Itl K a).stop i H/\D.nx σ H)\/((Itl K a).go i H/\∃ N:St->Hp->Prop,(∀ σ' H',N σ' H'->∃ m',m'<m/\W (i+1) m' σ' H')/\∀ x H',(Itl K a).yld i H x H'->g x σ H' fun σ2 H2=>tb { D with nx:=N,ct:=N,bk:=D.nx } σ2 H2):=by
 refine⟨fun i m σ H=>m=xs.length - i/\i<=xs.length/\Pv i σ H,⟨xs.length,by simp,y9 _,h0⟩,?_⟩
 rintro i m σ H ⟨rfl,hi,p⟩
 have q:=hl i σ H hi p
 by_cases hlt:i<xs.length
 ·refine .inr ⟨⟨xs,xs[i],q,by simp[hlt]⟩,Pv (i+1),fun σ' H' p'=>⟨xs.length - (i+1),by omega,rfl,hlt,p'⟩,fun x H' y=>?_⟩
  obtain⟨e,y⟩:=y
  subst e
  exact hs i x σ _ (y xs q) p
 ·have e:i=xs.length:=by omega
  subst e
  exact .inl ⟨⟨xs,q,d4 _⟩,hd σ H p⟩
theorem bh5 {K:W.Frag}{a:Addr}{xs:List V}{g:TG}{tb:TS}{D:Ends}{σ:St}{H:Hp}(Pv:Nat->St->Hp->Prop)(h0:Pv 0 σ H)(hl:∀ i σ H,i<=xs.length->Pv i σ H->SqT K H a xs)
  (hs:∀ i x σ H,xs[i]?=some x->Pv i σ H->g x σ H fun σ2 H2=>tb { D with nx:=Pv (i+1),ct:=Pv (i+1),bk:=D.nx } σ2 H2)(hd:∀ σ H,Pv xs.length σ H->D.nx σ H) :
  ∃ W:Nat->Nat->St->Hp->Prop,(∃ m,W 0 m σ H)/\∀ i m σ H,W i m σ H ->
   ((Itt K a).stop i H/\D.nx σ H)\/((Itt K a).go i H/\∃ N:St->Hp->Prop,(∀ σ' H',N σ' H'->∃ m',m'<m/\W (i+1) m' σ' H')/\∀ x H',(Itt K a).yld i H x H'->g x σ H' fun σ2 H2=>tb { D with nx:=N,ct:=N,bk:=D.nx } σ2 H2):=by
 refine⟨fun i m σ H=>m=xs.length - i/\i<=xs.length/\Pv i σ H,⟨xs.length,by simp,y9 _,h0⟩,?_⟩
 rintro i m σ H ⟨rfl,hi,p⟩
 have q:=hl i σ H hi p
 by_cases hlt:i<xs.length
 ·refine .inr ⟨⟨xs,xs[i],q,by simp[hlt]⟩,Pv (i+1),fun σ' H' p'=>⟨xs.length - (i+1),by omega,rfl,hlt,p'⟩,fun x H' y=>?_⟩
  obtain⟨e,y⟩:=y
  subst e
  exact hs i x σ _ (y xs q) p
 ·have e:i=xs.length:=by omega
  subst e
  exact .inl ⟨⟨xs,q,d4 _⟩,hd σ H p⟩
theorem Y7 {lo:Int}{n:Nat}{g:TG}{tb:TS}{D:Ends}{σ:St}{H:Hp}(Pv:Nat->St->Hp->Prop)(h0:Pv 0 σ H)
  (hs:∀ i σ H,i<n->Pv i σ H->g (.int (lo+i)) σ H fun σ2 H2=>tb { D with nx:=Pv (i+1),ct:=Pv (i+1),bk:=D.nx } σ2 H2)(hd:∀ σ H,Pv n σ H->D.nx σ H) :
  ∃ W:Nat->Nat->St->Hp->Prop,(∃ m,W 0 m σ H)/\∀ i m σ H,W i m σ H ->
   ((Itr lo n).stop i H/\D.nx σ H)\/((Itr lo n).go i H/\∃ N:St->Hp->Prop,(∀ σ' H',N σ' H'->∃ m',m'<m/\W (i+1) m' σ' H')/\∀ x H',(Itr lo n).yld i H x H'->g x σ H' fun σ2 H2=>tb { D with nx:=N,ct:=N,bk:=D.nx } σ2 H2):=by
 refine⟨fun i m σ H=>m=n - i/\i<=n/\Pv i σ H,⟨n,by simp,y9 _,h0⟩,?_⟩
 rintro i m σ H ⟨rfl,hi,p⟩
 by_cases hlt:i<n
 ·refine .inr ⟨hlt,Pv (i+1),fun σ' H' p'=>⟨n - (i+1),by omega,rfl,hlt,p'⟩,fun x H' y=>?_⟩
  obtain⟨e,y⟩:=y
  subst e y
  exact hs i σ _ hlt p
 ·have e:i=n:=by omega
  subst e
  exact .inl ⟨d4 _,hd σ H p⟩
abbrev R2:=V->V->Hp->VK->Prop
def OpR (X:Cx)(f:c6->c6->Sem c6)(r:R2):Prop:=
 ∀ (pins:List (Addr × Obj)) (s:c7) (σ:St) (H:Hp) (x y:V) (v u:c6) (Q:VK),Inv X pins σ H s->RelV x v->RelV y u->r x y H Q ->
  o7 (y6 X.prog X.w) X.A (f v u) (EP X pins σ Q) X.xe s
def UnR (X:Cx)(f:c6->Sem c6)(r:V->Hp->VK->Prop):Prop:=
 ∀ (pins:List (Addr × Obj)) (s:c7) (σ:St) (H:Hp) (x:V) (v:c6) (Q:VK),Inv X pins σ H s->RelV x v->r x H Q ->
  o7 (y6 X.prog X.w) X.A (f v) (EP X pins σ Q) X.xe s
def Q8 (X:Cx)(f:c6)(r:List V->Hp->VK->Prop):Prop:=
 ∀ (pins:List (Addr × Obj)) (s:c7) (σ:St) (H:Hp) (xs:List V) (us:List c6) (Q:VK),Inv X pins σ H s->D9 xs us->r xs H Q ->
  o7 (y6 X.prog X.w) X.A (call f us) (EP X pins σ Q) X.xe s
def cj7 (X:Cx)(r:V->Hp->(Bool->Hp->Prop)->Prop):Prop:=
 ∀ (pins:List (Addr × Obj)) (s:c7) (σ:St) (H:Hp) (x:V) (v:c6) (Q:Bool->Hp->Prop),Inv X pins σ H s->RelV x v->r x H Q ->
  o7 (y6 X.prog X.w) X.A (truthy v) (TP X pins σ Q) X.xe s
def tOp (r:R2)(ta tb:TE):TE:=fun σ H Q=>ta σ H fun x H1=>tb σ H1 fun y H2=>r x y H2 Q
def tUn (r:V->Hp->VK->Prop)(ta:TE):TE:=fun σ H Q=>ta σ H fun x H1=>r x H1 Q
def rI (C:Int->Int->Prop)(g:Int->Int->V):R2:=fun x y H Q=>∃ i j,x=.int i/\y=.int j/\C i j/\Q (g i j) H
def rI0 (g:Int->Int->V):R2:=fun x y H Q=>∃ i j,x=.int i/\y=.int j/\Q (g i j) H
def rU (g:Int->V):V->Hp->VK->Prop:=fun x H Q=>∃ i,x=.int i/\Q (g i) H
section
variable {X:Cx} {a b c:Expr} {ta tb tc:TE} {pos:Pos}
theorem bX3 (ha:PE X a ta)(hb:PE X b tb){pins:List (Addr × Obj)}{s:c7}{σ:St}{H:Hp}{R:V->V->Hp->Prop}(I:Inv X pins σ H s)
  (h:ta σ H fun x H1=>tb σ H1 fun y H2=>R x y H2){Q:c6->c7->Prop}{f:c6->c6->Sem c6}
  (hf:∀ v u s2 x y H2,Inv X pins σ H2 s2->RelV x v->RelV y u->R x y H2->o7 (y6 X.prog X.w) X.A (f v u) Q X.xe s2) :
  o7 (y6 X.prog X.w) X.A (eval a X.env) (fun v s₁=>o7 (y6 X.prog X.w) X.A (eval b X.env) (fun u s₂=>o7 (y6 X.prog X.w) X.A (f v u) Q X.xe s₂) X.xe s₁) X.xe s:=by
 refine thn (ha pins s σ H _ I h) fun v s1 ⟨x,H1,I1,r1,q1⟩=>?_
 refine thn (hb pins s1 σ H1 _ I1 q1) fun u s2 ⟨y,H2,I2,r2,q2⟩=>?_
 exact hf v u s2 x y H2 I2 r1 r2 q2
theorem p8 {op:Operator}{r:R2}(ho:OpR X (W1 op) r)(ha:PE X a ta)(hb:PE X b tb):PE X (.BinOp a op b pos) (tOp r ta tb):=by
 intro pins s σ H Q I h
 exact wpAny_BinOp (bX3 ha hb I h fun v u s2 x y H2 I2 rx ry q=>ho pins s2 σ H2 x y v u Q I2 rx ry q)
theorem ab3 {op:UnaryOp}{r:V->Hp->VK->Prop}(ho:UnR X (unaryOp op) r)(ha:PE X a ta):PE X (.UnaryOp op a pos) (tUn r ta):=by
 intro pins s σ H Q I h
 exact UnaryOp_ (thn (ha pins s σ H _ I h) fun v s1 ⟨x,H1,I1,r1,q1⟩=>ho pins s1 σ H1 x v Q I1 r1 q1)
theorem opI {f:c6->c6->Sem c6}{C:Int->Int->Prop}{g:Int->Int->Int}
  (rule:∀ (i j:Int) (t u:Tok) (s:c7) (Q:c6->c7->Prop) (E:c6->c7->Prop),C i j->Q (.int (g i j) s.toks) { s with toks:=s.toks+1 }->o7 (y6 X.prog X.w) X.A (f (.int i t) (.int j u)) Q E s) :
  OpR X f (rI C fun i j=>.int (g i j)):=by
 intro pins s σ H x y v u Q I rx ry h
 obtain⟨i,j,rfl,rfl,hc,q⟩:=h
 obtain⟨t,rfl⟩:=rx
 obtain⟨t',rfl⟩:=ry
 exact rule i j t t' s _ _ hc ⟨.int (g i j),H,I.tok _,⟨_,rfl⟩,q⟩
theorem ce0 {f:c6->c6->Sem c6}{g:Int->Int->Int}
  (rule:∀ (i j:Int) (t u:Tok) (s:c7) (Q:c6->c7->Prop) (E:c6->c7->Prop),Q (.int (g i j) s.toks) { s with toks:=s.toks+1 }->o7 (y6 X.prog X.w) X.A (f (.int i t) (.int j u)) Q E s) :
  OpR X f (rI0 fun i j=>.int (g i j)):=by
 intro pins s σ H x y v u Q I rx ry h
 obtain⟨i,j,rfl,rfl,q⟩:=h
 obtain⟨t,rfl⟩:=rx
 obtain⟨t',rfl⟩:=ry
 exact rule i j t t' s _ _ ⟨.int (g i j),H,I.tok _,⟨_,rfl⟩,q⟩
theorem bH0 {f:c6->c6->Sem c6}{g:Int->Int->Bool}
  (rule:∀ (i j:Int) (t u:Tok) (s:c7) (Q:c6->c7->Prop) (E:c6->c7->Prop),Q (.bool (g i j)) s->o7 (y6 X.prog X.w) X.A (f (.int i t) (.int j u)) Q E s) :
  OpR X f (rI0 fun i j=>.bl (g i j)):=by
 intro pins s σ H x y v u Q I rx ry h
 obtain⟨i,j,rfl,rfl,q⟩:=h
 obtain⟨t,rfl⟩:=rx
 obtain⟨t',rfl⟩:=ry
 exact rule i j t t' s _ _ ⟨.bl (g i j),H,I,rfl,q⟩
def ck0 (i j:Int):Prop:=0<j/\j<1073741824
def cj9 (i j:Int):Prop:=0<=j/\j<=1000000/\i.natAbs<2 ^ 64
def bY2 (i j:Int):Prop:=(-(2 ^ 64)<i/\i<2 ^ 64)\/(-(2 ^ 64)<j/\j<2 ^ 64)
theorem bY2.ok {i j:Int}(h:bY2 i j):IntMulOk i j:=by
 rcases h with⟨h1,h2⟩ | ⟨h1,h2⟩
 ·exact .of_left (intBits_le_64 h1 h2)
 ·exact .of_right (intBits_le_64 h1 h2)
theorem G3:OpR X (W1 .Add) (rI0 fun i j=>.int (i+j)):=ce0 fun _ _ _ _ _ _ _ q=>add_int q
theorem R9:OpR X (W1 .Sub) (rI0 fun i j=>.int (i - j)):=ce0 fun _ _ _ _ _ _ _ q=>sub_int q
theorem aj8:OpR X (W1 .Mult) (rI bY2 fun i j=>.int (i*j)):=opI fun _ _ _ _ _ _ _ hc q=>mul_int q hc.ok
theorem W2:OpR X (W1 .FloorDiv) (rI ck0 fun i j=>.int (i / j)):=opI fun i j _ _ _ _ _ hc q=>by
 have h1:(0:Int)<j:=hc.1
 have h2:j<1073741824:=hc.2
 exact floordiv_int (by omega) (by rw[Int.fdiv_eq_ediv_of_nonneg i (by omega)];exact q) (.inl (PyProof.noPylong_small (by omega)))
theorem L7:OpR X (W1 .Mod) (rI (fun _ j=>0<j) fun i j=>.int (i % j)):=opI fun i j _ _ _ _ _ hc q=>by
 have h1:(0:Int)<j:=hc
 exact mod_int' (by omega) (by rw[Int.fmod_eq_emod_of_nonneg i (by omega)];exact q)
theorem aO2:OpR X (W1 .Pow) (rI cj9 fun i j=>.int (i ^ j.toNat)):=opI fun _ _ _ _ _ _ _ hc q=>pow_int_small hc.1 hc.2.1 hc.2.2 q
theorem unI {f:c6->Sem c6}{g:Int->Int}
  (rule:∀ (i:Int) (t:Tok) (s:c7) (Q:c6->c7->Prop) (E:c6->c7->Prop),Q (.int (g i) s.toks) { s with toks:=s.toks+1 }->o7 (y6 X.prog X.w) X.A (f (.int i t)) Q E s) :
  UnR X f (rU fun i=>.int (g i)):=by
 intro pins s σ H x v Q I rx h
 obtain⟨i,rfl,q⟩:=h
 obtain⟨t,rfl⟩:=rx
 exact rule i t s _ _ ⟨.int (g i),H,I.tok _,⟨_,rfl⟩,q⟩
theorem T8:UnR X (unaryOp .USub) (rU fun i=>.int (-i)):=unI fun _ _ _ _ _ q=>neg_int q
end
def cc5:V->V->Bool
 | .non,.non=>true | .non,.int _=>true | .int _,.non=>true | .non,.bl _=>true | .bl _,.non=>true | .non,.str _=>true | .str _,.non=>true
 | .int _,.int _=>true | .bl _,.bl _=>true | .str _,.str _=>true | .byt _,.byt _=>true
 | .int _,.str _=>true | .str _,.int _=>true | .bl _,.str _=>true | .str _,.bl _=>true
 | _,_=>false
def rEq:R2:=fun x y H Q=>cc5 x y=true/\Q (.bl (decide (x=y))) H
def rNe:R2:=fun x y H Q=>cc5 x y=true/\Q (.bl (!decide (x=y))) H
theorem bi0 {i j:Int}:decide (V.int i=V.int j)=(i == j):=by
 rw[as5]
 simp
theorem bz5 {i j:Bool}:decide (V.bl i=V.bl j)=(i == j):=by
 rw[as5]
 simp
theorem bh9 {i j:Str}:decide (V.str i=V.str j)=(i == j):=by
 rw[as5]
 simp
theorem bi1 {i j:Array UInt8}:decide (V.byt i=V.byt j)=(i.toList == j.toList):=by
 rw[as5]
 cases i
 cases j
 simp
section
variable {X:Cx} {a b c:Expr} {ta tb tc:TE} {pos:Pos}
theorem F8 {pins:List (Addr × Obj)}{σ:St}{H:Hp}{s:c7}{Q:VK}{k k':Bool}(I:Inv X pins σ H s)(q:Q (.bl k) H)(e:k=k'):EP X pins σ Q (.bool k') s:=by
 subst e
 exact⟨.bl k,H,I,rfl,q⟩
theorem W6:OpR X (G2 .Eq) rEq:=by
 intro pins s σ H x y v u Q I rx ry h
 obtain⟨hs,q⟩:=h
 cases x with
 | non =>
  cases rx
  cases y with
  | non=>cases ry;exact PySem.EqNone.eq_none_none (F8 I q (by simp))
  | bl j=>cases ry;exact PySem.EqNone.eq_none_bool (F8 I q (by simp))
  | int j=>obtain⟨t',rfl⟩:=ry;exact PySem.EqNone.eq_none_int (F8 I q (by simp))
  | str j=>obtain⟨t',rfl⟩:=ry;exact PySem.EqNone.eq_none_str (F8 I q (by simp))
  | _=>exact absurd (show false=true from hs) k9
 | bl i =>
  cases rx
  cases y with
  | non=>cases ry;exact PySem.EqNone.eq_bool_none (F8 I q (by simp))
  | bl j=>cases ry;exact eq_bool (F8 I q bz5)
  | str j=>obtain⟨t',rfl⟩:=ry;exact PySem.EqMixed.eq_bool_str (F8 I q (by simp))
  | _=>exact absurd (show false=true from hs) k9
 | int i =>
  obtain⟨t,rfl⟩:=rx
  cases y with
  | non=>cases ry;exact PySem.EqNone.eq_int_none (F8 I q (by simp))
  | int j=>obtain⟨t',rfl⟩:=ry;exact eq_int (F8 I q bi0)
  | str j=>obtain⟨t',rfl⟩:=ry;exact PySem.EqMixed.eq_int_str (F8 I q (by simp))
  | _=>exact absurd (show false=true from hs) k9
 | str i =>
  obtain⟨t,rfl⟩:=rx
  cases y with
  | non=>cases ry;exact PySem.EqNone.eq_str_none (F8 I q (by simp))
  | bl j=>cases ry;exact PySem.EqMixed.eq_str_bool (F8 I q (by simp))
  | int j=>obtain⟨t',rfl⟩:=ry;exact PySem.EqMixed.eq_str_int (F8 I q (by simp))
  | str j=>obtain⟨t',rfl⟩:=ry;exact eq_str (F8 I q bh9)
  | _=>exact absurd (show false=true from hs) k9
 | byt i =>
  obtain⟨t,rfl⟩:=rx
  cases y with
  | byt j=>obtain⟨t',rfl⟩:=ry;exact PySem.W.eq_bytes (F8 I q bi1)
  | _=>exact absurd (show false=true from hs) k9
 | _=>cases y<;>exact absurd (show false=true from hs) k9
theorem aC9:OpR X (G2 .NotEq) rNe:=by
 intro pins s σ H x y v u Q I rx ry h
 obtain⟨hs,q⟩:=h
 cases x with
 | non =>
  cases rx
  cases y with
  | non=>cases ry;exact PySem.EqNone.ne_none_none (F8 I q (by simp))
  | bl j=>cases ry;exact PySem.EqNone.ne_none_bool (F8 I q (by simp))
  | int j=>obtain⟨t',rfl⟩:=ry;exact PySem.EqNone.ne_none_int (F8 I q (by simp))
  | str j=>obtain⟨t',rfl⟩:=ry;exact PySem.EqNone.ne_none_str (F8 I q (by simp))
  | _=>exact absurd (show false=true from hs) k9
 | bl i =>
  cases rx
  cases y with
  | non=>cases ry;exact PySem.EqNone.ne_bool_none (F8 I q (by simp))
  | bl j=>cases ry;exact ne_bool (F8 I q (congrArg not bz5))
  | str j=>obtain⟨t',rfl⟩:=ry;exact PySem.EqMixed.ne_bool_str (F8 I q (by simp))
  | _=>exact absurd (show false=true from hs) k9
 | int i =>
  obtain⟨t,rfl⟩:=rx
  cases y with
  | non=>cases ry;exact PySem.EqNone.ne_int_none (F8 I q (by simp))
  | int j=>obtain⟨t',rfl⟩:=ry;exact ne_int (F8 I q (congrArg not bi0))
  | str j=>obtain⟨t',rfl⟩:=ry;exact PySem.EqMixed.ne_int_str (F8 I q (by simp))
  | _=>exact absurd (show false=true from hs) k9
 | str i =>
  obtain⟨t,rfl⟩:=rx
  cases y with
  | non=>cases ry;exact PySem.EqNone.ne_str_none (F8 I q (by simp))
  | bl j=>cases ry;exact PySem.EqMixed.ne_str_bool (F8 I q (by simp))
  | int j=>obtain⟨t',rfl⟩:=ry;exact PySem.EqMixed.ne_str_int (F8 I q (by simp))
  | str j=>obtain⟨t',rfl⟩:=ry;exact ne_str (F8 I q (congrArg not bh9))
  | _=>exact absurd (show false=true from hs) k9
 | byt i =>
  obtain⟨t,rfl⟩:=rx
  cases y with
  | byt j=>obtain⟨t',rfl⟩:=ry;exact PySem.W.ne_bytes (F8 I q (congrArg not bi1))
  | _=>exact absurd (show false=true from hs) k9
 | _=>cases y<;>exact absurd (show false=true from hs) k9
theorem ae0:OpR X (G2 .Lt) (rI0 fun i j=>.bl (decide (i<j))):=bH0 fun _ _ _ _ _ _ _ q=>lt_int q
theorem ab5:OpR X (G2 .LtE) (rI0 fun i j=>.bl (decide (i<=j))):=bH0 fun _ _ _ _ _ _ _ q=>le_int q
theorem bu3:OpR X (G2 .Gt) (rI0 fun i j=>.bl (decide (j<i))):=bH0 fun _ _ _ _ _ _ _ q=>gt_int q
theorem bN6:OpR X (G2 .GtE) (rI0 fun i j=>.bl (decide (j<=i))):=bH0 fun _ _ _ _ _ _ _ q=>ge_int q
theorem bT5:OpR X (G2 .Is) (fun x y H Q=>y=.non/\Q (.bl (decide (x=.non))) H):=by
 intro pins s σ H x y v u Q I rx ry h
 obtain⟨rfl,q⟩:=h
 cases ry
 refine is_none_gen (F8 I q ?_)
 cases x<;>first
  | (cases rx;rfl)
  | (obtain⟨t,rfl⟩:=rx;rfl)
theorem bG8:OpR X (G2 .IsNot) (fun x y H Q=>y=.non/\Q (.bl (!decide (x=.non))) H):=by
 intro pins s σ H x y v u Q I rx ry h
 obtain⟨rfl,q⟩:=h
 cases ry
 refine isnot_none_gen (F8 I q ?_)
 cases x<;>first
  | (cases rx;rfl)
  | (obtain⟨t,rfl⟩:=rx;rfl)
theorem C2 (b:Expr){op:CmpOp}(h:op≠.In:=by decide)(h2:op≠.NotIn:=by decide):aL9 op b=false:=by
 have e1:(op == CmpOp.In)=false:=by cases op<;>first | rfl | exact absurd rfl h
 have e2:(op == CmpOp.NotIn)=false:=by cases op<;>first | rfl | exact absurd rfl h2
 cases b<;>simp[aL9,e1,e2]
theorem ag4 {op:CmpOp}{r:R2}(ho:OpR X (G2 op) r)(ha:PE X a ta)(hb:PE X b tb)(hm:aL9 op b=false):PE X (.Compare a [op] [b] pos) (tOp r ta tb):=by
 intro pins s σ H Q I h
 exact wpAny_Compare1 (bX3 ha hb I h fun v u s2 x y H2 I2 rx ry q=>ho pins s2 σ H2 x y v u Q I2 rx ry q) hm
def bM1 (t:TE):TT:=fun σ H Q=>t σ H fun x H'=>∃ k,x=.bl k/\Q k H'
theorem A6 {op:CmpOp}{r:R2}(ho:OpR X (G2 op) r)(ha:PE X a ta)(hb:PE X b tb)(hm:aL9 op b=false):PT X (.Compare a [op] [b] pos) (bM1 (tOp r ta tb)):=by
 intro pins s σ H Q I h
 refine wpAny_isTrue_Compare1 (thn (ha pins s σ H _ I h) fun v s1 ⟨x,H1,I1,r1,q1⟩=>thn (hb pins s1 σ H1 _ I1 q1) fun u s2 ⟨y,H2,I2,r2,q2⟩ =>
  thn (ho pins s2 σ H2 x y v u _ I2 r1 r2 q2) fun c s3 ⟨z,H3,I3,r3,k,e,q3⟩=>?_) hm
 subst e
 cases r3
 exact M8 ⟨H3,I3,q3⟩
def bq0 (r r':R2)(ta tb tc:TE):TE:=fun σ H Q=>ta σ H fun x H1=>tb σ H1 fun y H2=>r x y H2 fun z H3=>∃ k,z=.bl k /\
 (if k=true then tc σ H3 fun w' H4=>r' y w' H4 Q else Q (.bl false) H3)
theorem bt6 {op op':CmpOp}{r r':R2}(ho:OpR X (G2 op) r)(ho':OpR X (G2 op') r')(ha:PE X a ta)(hb:PE X b tb)(hc:PE X c tc)
  (hm:lastMarks [op,op'] [b,c]=false:=by with_unfolding_all rfl):PE X (.Compare a [op,op'] [b,c] pos) (bq0 r r' ta tb tc):=by
 intro pins s σ H Q I h
 refine Compare_chain (thn (ha pins s σ H _ I h) fun v s1 ⟨x,H1,I1,r1,q1⟩=>chain_link (thn (hb pins s1 σ H1 _ I1 q1) fun u s2 ⟨y,H2,I2,r2,q2⟩ =>
  thn (ho pins s2 σ H2 x y v u _ I2 r1 r2 q2) fun d s3 ⟨z,H3,I3,r3,k,e,q3⟩=>?_)) hm
 subst e
 cases r3
 refine M8 ?_
 cases k with
 | false=>exact ite_ff ⟨.bl false,H3,I3,rfl,q3⟩
 | true=>exact ite_tt (chain_last (thn (hc pins s3 σ H3 _ I3 q3) fun w' s4 ⟨z',H4,I4,r4,q4⟩=>ho' pins s4 σ H4 y z' u w' Q I4 r2 r4 q4))
theorem ad8 {op op':CmpOp}{r r':R2}(ho:OpR X (G2 op) r)(ho':OpR X (G2 op') r')(ha:PE X a ta)(hb:PE X b tb)(hc:PE X c tc)
  (hm:lastMarks [op,op'] [b,c]=false:=by with_unfolding_all rfl):PT X (.Compare a [op,op'] [b,c] pos) (bM1 (bq0 r r' ta tb tc)):=by
 intro pins s σ H Q I h
 refine isTrue_chain (thn (ha pins s σ H _ I h) fun v s1 ⟨x,H1,I1,r1,q1⟩=>test_link (thn (hb pins s1 σ H1 _ I1 q1) fun u s2 ⟨y,H2,I2,r2,q2⟩ =>
  thn (ho pins s2 σ H2 x y v u _ I2 r1 r2 q2) fun d s3 ⟨z,H3,I3,r3,k,e,q3⟩=>?_)) hm
 subst e
 cases r3
 refine M8 ?_
 cases k with
 | false =>
  obtain⟨k',e',q'⟩:=q3
  cases e'
  exact ite_ff ⟨H3,I3,q'⟩
 | true =>
  refine ite_tt (test_last (thn (hc pins s3 σ H3 _ I3 q3) fun w' s4 ⟨z',H4,I4,r4,q4⟩=>thn (ho' pins s4 σ H4 y z' u w' _ I4 r2 r4 q4) fun d' s5 ⟨z2,H5,I5,r5,k2,e2,q5⟩=>?_))
  subst e2
  cases r5
  exact M8 ⟨H5,I5,q5⟩
def bX7 (K:W.Frag)(x:V)(H:Hp)(k:Bool):Prop:=
 match x with
 | .non=>k=false
 | .bl b=>k=b
 | .int i=>k=(i != 0)
 | .str y=>y.length<=i9/\k=((y.length:Int) != 0)
 | .byt y=>y.size<=i9/\k=((y.size:Int) != 0)
 | .ref p=>(∃ xs,SqL K H p xs/\k=!xs.isEmpty)\/(∃ xs,SqT K H p xs/\k=!xs.isEmpty)\/∃ kvs,H p=some (.dK kvs)/\k=!kvs.isEmpty
 | _=>False
theorem bb8 {κ:Type}{kvs:List (κ × V)}{vs:List (κ × c6)}(r:KV kvs vs):(!vs.isEmpty)=!kvs.isEmpty:=by
 cases r<;>rfl
theorem aD9 {xs:List V}{its:List c6}(r:D9 xs its):(!its.toArray.isEmpty)=!xs.isEmpty:=by
 cases r<;>simp
theorem ao6:(i9:Nat)<2 ^ 63:=by rw[E4];decide
theorem bp7:cj7 X (fun x H Q=>∃ k,bX7 X.K x H k/\Q k H):=by
 intro pins s σ H x v Q I rx h
 obtain⟨k,e,q⟩:=h
 have hl:=ao6
 have hs:i9=16777216:=E4
 cases x with
 | non =>
  cases rx
  have e':k=false:=e
  subst e'
  exact truthy_none ⟨H,I,q⟩
 | bl b =>
  cases rx
  have e':k=b:=e
  subst e'
  exact M8 ⟨H,I,q⟩
 | int i =>
  obtain⟨t,rfl⟩:=rx
  have e':k=(i != 0):=e
  subst e'
  exact PySem.P.truthy_int ⟨H,I,q⟩
 | str y =>
  obtain⟨t,rfl⟩:=rx
  obtain⟨hy,e'⟩:y.length<=i9/\k=((y.length:Int) != 0):=e
  subst e'
  exact PySem.P.truthy_str (by omega) ⟨H,I.tok _,q⟩
 | byt y =>
  obtain⟨t,rfl⟩:=rx
  obtain⟨hy,e'⟩:y.size<=i9/\k=((y.size:Int) != 0):=e
  subst e'
  exact PySem.W.truthy_bytes (by omega) ⟨H,I.tok _,q⟩
 | ref p =>
  cases rx
  have e':(∃ xs,SqL X.K H p xs/\k=!xs.isEmpty)\/(∃ xs,SqT X.K H p xs/\k=!xs.isEmpty)\/∃ kvs,H p=some (.dK kvs)/\k=!kvs.isEmpty:=e
  rcases e' with⟨xs,hx,e'⟩ | ⟨xs,hx,e'⟩ | ⟨kvs,hx,e'⟩
  ·subst e'
   obtain⟨its,r,pl,hz⟩:=I.list hx
   have hlen:=r.length
   exact wpAny_truthy_list pl.isList (by simp only[d5];omega) ⟨H,I.tok _,by rw[aD9 r];exact q⟩
  ·subst e'
   obtain⟨its,r,pl,hz⟩:=I.tuple hx
   have hlen:=r.length
   exact truthy_tuple pl (by simp only[d5];omega) ⟨H,I.tok _,by rw[aD9 r];exact q⟩
  ·subst e'
   obtain⟨hz,hS,vs,r,m⟩:kvs.length<=i9/\(p == sysModules)=false/\∃ vs,KV kvs vs/\s.heap.DictOf (aO5 X.prog X.w) p vs:=I.hok p _ hx
   have hlen:kvs.length=vs.length:=Paired.length r
   exact wpAny_truthy_dict hS m (by omega) ⟨H,I.tok _,by rw[bb8 r];exact q⟩
 | _=>exact(show False from e).elim
theorem aC1 (ha:PE X a ta)(he:∀ whole,isTrue a X.env whole=(do let v <- whole;standAt a.pos;aG7 [v] (truthy v))) :
  PT X a (fun σ H Q=>ta σ H fun x H'=>∃ k,bX7 X.K x H' k/\Q k H'):=by
 intro pins s σ H Q I h
 exact isTrue_plain (thn (ha pins s σ H _ I h) fun v s1 ⟨x,H1,I1,r1,q1⟩=>bp7 pins s1 σ H1 x v Q I1 r1 q1) (he _)
theorem vals1 {x:V}{us:List c6}(r:D9 [x] us):∃ u,us=[u]/\RelV x u:=by
 cases r with
 | cons r1 r2=>cases r2;exact⟨_,rfl,r1⟩
theorem vals2 {x y:V}{us:List c6}(r:D9 [x,y] us):∃ u w',us=[u,w']/\RelV x u/\RelV y w':=by
 cases r with
 | cons r1 r2 =>
  cases r2 with
  | cons r3 r4=>cases r4;exact⟨_,_,rfl,r1,r3⟩
theorem W0 (hc:X.calm=true):Q8 X (.builtin "max") (fun xs H Q=>∃ i j,xs=[.int i,.int j]/\Q (.int (if j > i then j else i)) H):=by
 intro pins s σ H xs us Q I r h
 obtain⟨i,j,rfl,q⟩:=h
 obtain⟨u,w',rfl,⟨t,rfl⟩,⟨t',rfl⟩⟩:=vals2 r
 refine max_two_ints (I.ok.hd hc) fun h' tk k=>⟨_,H,I.kept k,?_,q⟩
 by_cases hj:j > i
 ·rw[if_pos hj,if_pos hj];exact⟨_,rfl⟩
 ·rw[if_neg hj,if_neg hj];exact⟨_,rfl⟩
theorem ae5 (hc:X.calm=true):Q8 X (.builtin "min") (fun xs H Q=>∃ i j,xs=[.int i,.int j]/\Q (.int (if j<i then j else i)) H):=by
 intro pins s σ H xs us Q I r h
 obtain⟨i,j,rfl,q⟩:=h
 obtain⟨u,w',rfl,⟨t,rfl⟩,⟨t',rfl⟩⟩:=vals2 r
 refine min_two_ints (I.ok.hd hc) fun h' tk k=>⟨_,H,I.kept k,?_,q⟩
 by_cases hj:j<i
 ·rw[if_pos hj,if_pos hj];exact⟨_,rfl⟩
 ·rw[if_neg hj,if_neg hj];exact⟨_,rfl⟩
end
structure bY1 (h:Heap) (x dx C:Addr) (mA:Str->Option c6):Prop where
 obj:h.get? x=some (PySem.W.instObj C dx)
 ns:h.Ns1 dx mA
 ne:dx≠x
theorem bm2 {h:Heap}{dx:Addr}{mA:Str->Option c6}(n:h.Ns1 dx mA):∃ od,h.get? dx=some od/\∀ name,PySem.W.lookIn name od=some (mA name):=by
 obtain⟨o,es,ep,ho,hd,hk,_,hm⟩:=n
 refine⟨o,ho,fun name=>?_⟩
 have e:=hm name
 unfold nsFind findBy at e
 rw[<- Array.find?_toList]at e
 unfold PySem.W.lookIn
 rw[hd]
 dsimp only
 split
 ·rename_i y q
  rw[q]at e
  exact congrArg some e
 ·rename_i q
  rw[q]at e
  have a:es.toList.any (·.refKey)=false:=by
   rw[List.any_eq_false]
   intro y hy
   obtain⟨z,t,hkey⟩:=hk y (at5.mp hy)
   simp[DictEntry.refKey,hkey]
  have a':¬ es.toList.any (·.refKey)=true:=by rw[a];exact k9
  rw[if_neg a']
  exact congrArg some e
theorem bY1.look {h:Heap}{x dx C:Addr}{mA:Str->Option c6}(I:bY1 h x dx C mA):∃ od,PySem.W.InstAt h x (PySem.W.instObj C dx) C (some od)/\∀ name,PySem.W.lookIn name od=some (mA name):=
 let ⟨od,ho,hl⟩:=bm2 I.ns
 ⟨od,⟨I.obj,rfl,rfl,ho⟩,hl⟩
section
variable {prog:j8} {w:x6} {A:u4} {E:c6->c7->Prop} {s:c7} {K:W.Frag} {x dx C f:Addr} {mA:Str->Option c6} {name:Str} {v:c6}
end
section
variable {P:j8} {w:x6} {H H':Hp} {h h':Heap} {a C dx:Addr} {fs fs':List (Str × V)}
theorem bJ8 (hok:HOk P w H h)(e:H a=some (.ins C dx fs)):∃ mA,bY1 h a dx C mA/\(∀ f,bX8 (fs.lookup f) (mA f))/\PySem.Within mA (fs.map (·.1))/\fs.length<=1000/\H dx=some (.own a):=by
 obtain⟨d,z,ne,ob,mA,n,r,q⟩:=(show N7 P w H h a (.ins C dx fs) from hok a _ e)
 exact⟨mA,⟨ob,n,ne⟩,r,q,z,d⟩
end
structure Cls (K:W.Frag) (C:Addr):Prop where
 pg:PySem.W.plainGet K C Str.empty=true
 hd:PySem.W.hasDictIn K C=true
 po:PySem.W.plainOver K C=true
 sa:PySem.W.findIn K (.ref C) "__setattr__"=some (some (.builtin "object.__setattr__"))
theorem Cls.get {K:W.Frag}{C:Addr}(c:Cls K C)(f:Str):PySem.W.plainGet K C f=true:=c.pg
structure Con (K:W.Frag) (C:Addr) (f:Str) (v:V) (u:c6):Prop where
 at_:PySem.W.findIn K (.ref C) f=some (some u)
 rel:RelV v u
 get:PySem.W.specialIn K u "__get__"=some none
 cp:PySem.W.copiedNames.contains f=false
structure ck1 (K:W.Frag) (C:Addr) (m:Str) (f:Addr):Prop where
 at_:PySem.W.findIn K (.ref C) m=some (some (.ref f))
 fn:PySem.W.isFn K (.ref f)=true
 kp:k6 K (.ref f)=true
section
variable {X:Cx} {pins:List (Addr × Obj)} {σ:St} {H:Hp} {s:c7} {a C dx:Addr} {fs:List (Str × V)} {f:Str} {v:V} {A:u4} {E:c6->c7->Prop}
end
section
variable {X:Cx} {o e value:Expr} {f:Str} {pos pos' tpos:Pos} {ta tv:TE}
end
section
variable {X:Cx} {pins:List (Addr × Obj)} {σ:St} {H:Hp} {s:c7} {A:u4} {E:c6->c7->Prop} {Q:c6->c7->Prop} {c:c6} {b:Bool}
inductive as2 (K:W.Frag) (H:Hp):V->c6->Prop where
 | non:as2 K H .non (.type "NoneType")
 | bl (x:Bool):as2 K H (.bl x) (.type "bool")
 | int (i:Int):as2 K H (.int i) (.type "int")
 | str (x:Str):as2 K H (.str x) (.type "str")
 | flt (x:UInt64):as2 K H (.flt x) (.type "float")
 | lst {a:Addr} {xs:List V} (e:H a=some (.lst xs)):as2 K H (.ref a) (.type "list")
 | frz {a:Addr} {o:Obj} {xs:List V} (e:H a=some (.frz o (.lst xs))):as2 K H (.ref a) (.type "list")
 | tup {a:Addr} {xs:List V} (e:H a=some (.tup xs)):as2 K H (.ref a) (.type "tuple")
 | dK {a:Addr} {kvs:List (Key × V)} (e:H a=some (.dK kvs)):as2 K H (.ref a) (.type "dict")
 | dT {a:Addr} {kvs:List (List Key × V)} (e:H a=some (.dT kvs)):as2 K H (.ref a) (.type "dict")
 | ins {a C dx:Addr} {fs:List (Str × V)} (e:H a=some (.ins C dx fs)) (cl:Cls K C) (ha:PySem.W.findIn K (.ref C) "__class__"=some (some (.builtin "object.__class__")))
   (hn:PySem.W.specialIn K (.builtin "object.__class__") "__get__"=some (some (.builtin "getset_descriptor.__get__"))) (htk:PySem.W.takesIn K (.builtin "object.__class__")=some true)
   (hm:PySem.W.mroIn K C (.type "object")=some true):as2 K H (.ref a) (.ref C)
theorem bm9 {x:V}{u t:c6}(I:Inv X pins σ H s)(rx:RelV x u)(ty:as2 X.K H x t)(e:PySem.W.kitOne X.K t c=some b)(h:∀ tk,Q (.bool b) { s with toks:=tk }) :
  o7 (y6 X.prog X.w) A (call (.builtin "isinstance") [u,c]) Q E s:=by
 cases ty with
 | non=>cases (show u=Value.none from rx);exact PySem.W.kia_one PySem.W.kitx_none I.kIn True.intro e (fun z=>nomatch z) h
 | bl y=>cases (show u=Value.bool y from rx);exact PySem.W.kia_one PySem.W.kitx_bool I.kIn True.intro e (fun z=>nomatch z) h
 | int i=>obtain⟨t,q⟩:=(show ∃ t,u=Value.int i t from rx);cases q;exact PySem.W.kia_one PySem.W.kitx_int I.kIn True.intro e (fun z=>nomatch z) h
 | str y=>obtain⟨t,q⟩:=(show ∃ t,u=Value.str y t from rx);cases q;exact PySem.W.kia_one PySem.W.kitx_str I.kIn True.intro e (fun z=>nomatch z) h
 | flt y=>obtain⟨t,q⟩:=(show ∃ t,u=Value.float y t from rx);cases q;exact PySem.W.kia_one PySem.W.kitx_float I.kIn True.intro e (fun z=>nomatch z) h
 | @lst a xs ea =>
  cases (show u=Value.ref a from rx)
  obtain⟨_,_,n,_,h1⟩:=(show N7 X.prog X.w H s.heap a (.lst xs) from I.hok a _ ea)
  exact PySem.W.kia_one PySem.W.kitx_list I.kIn ⟨_,h1,rfl⟩ e (fun z=>nomatch z) h
 | @frz a ob xs ea =>
  cases (show u=Value.ref a from rx)
  obtain⟨_,_,_,n,_,h1⟩:=(show N7 X.prog X.w H s.heap a (.frz ob (.lst xs)) from I.hok a _ ea)
  exact PySem.W.kia_one PySem.W.kitx_list I.kIn ⟨_,h1,rfl⟩ e (fun z=>nomatch z) h
 | @tup a xs ea =>
  cases (show u=Value.ref a from rx)
  obtain⟨_,_,_,p⟩:=(show N7 X.prog X.w H s.heap a (.tup xs) from I.hok a _ ea)
  obtain⟨o,h1,h2,_⟩:=p
  exact PySem.W.kia_one PySem.W.kitx_tuple I.kIn ⟨o,h1,h2⟩ e (fun z=>nomatch z) h
 | @dK a kvs ea =>
  cases (show u=Value.ref a from rx)
  obtain⟨_,_,vs,_,p⟩:=(show N7 X.prog X.w H s.heap a (.dK kvs) from I.hok a _ ea)
  obtain⟨o,es,ep,h1,h2,_⟩:=p
  exact PySem.W.kia_one PySem.W.kitx_dict I.kIn ⟨o,h1,h2.1⟩ e (fun z=>nomatch z) h
 | @dT a kvs ea =>
  cases (show u=Value.ref a from rx)
  obtain⟨_,_,xs,_,o,es,ep,h1,h2,_⟩:=(show N7 X.prog X.w H s.heap a (.dT kvs) from I.hok a _ ea)
  exact PySem.W.kia_one PySem.W.kitx_dict I.kIn ⟨o,h1,h2.1⟩ e (fun z=>nomatch z) h
 | @ins a C dx fs ea cl ha hn htk hm =>
  cases (show u=Value.ref a from rx)
  obtain⟨mA,O,_⟩:=bJ8 I.hok ea
  obtain⟨od,J,_⟩:=O.look
  exact PySem.W.kia_one (PySem.W.kitx_own (cl.get _) cl.hd ha hn htk hm) I.kIn J e (fun z=>nomatch z) h
end
structure X7 (k:Nat) (A:u4):Prop where
 hd:A.handled=none
 dp:A.depth+3*k+5<aG1
 un:A.units+16*k+200<ap5
theorem X7.mono {j k:Nat}{A:u4}(r:X7 k A)(h:j<=k):X7 j A:=⟨r.hd,by have:=r.dp;omega,by have:=r.un;omega⟩
theorem X7.deeper {k:Nat}{A:u4}(r:X7 (k+1) A)(env:Env):X7 k (A.deeper env):=
 ⟨r.hd,by have:=r.dp;show A.depth+1+3*k+5<_;omega,by have:=r.un;show A.units+3+16*k+200<_;omega⟩
theorem X7.depth {k:Nat}{A:u4}(r:X7 k A):A.depth<aG1:=by have:=r.dp;omega
theorem X7.units {k:Nat}{A:u4}(r:X7 k A):A.units+64<ap5:=by have:=r.un;omega
def bp9:TA:=fun _ H Q=>Q [] H
def aS4 (ta:TE)(tr:TA):TA:=fun σ H Q=>ta σ H fun x H1=>tr σ H1 fun xs H2=>Q (x::xs) H2
section
variable {X:Cx} {e:Expr} {es:List Expr} {te:TE} {t:TA} {pos:Pos}
theorem c9:PA X [] bp9:=fun _ _ _ _ H Q I h=>Calls.spliced_nil ⟨[],H,I,.nil,h⟩
theorem b8 (ha:PE X e te)(hr:PA X es t)(hs:A2 (e::es) X.env=(false,eval e X.env)::A2 es X.env:=by rfl):PA X (e::es) (aS4 te t):=by
 intro pos pins s σ H Q I h
 rw[hs]
 show o7 _ _ (spliced ((false,eval e X.env)::S7 pos (A2 es X.env))) _ _ s
 refine Calls.spliced_cons (thn (ha pins s σ H _ I h) fun u s1 ⟨x,H1,I1,r1,q1⟩=>?_)
 exact thn (hr pos pins s1 σ H1 _ I1 q1) fun us s2 ⟨xs,H2,I2,r2,q2⟩=>⟨x::xs,H2,I2,.cons r1 r2,q2⟩
def cg8 (t:TA):TE:=fun σ H Q=>t σ H fun xs H1=>xs.length<=i9/\∀ p,H1 p=none->Q (.ref p) (upd H1 p (.tup xs))
def ch2 (t:TA):TE:=fun σ H Q=>t σ H fun xs H1=>xs.length<=i9/\∀ p,H1 p=none->Q (.ref p) (upd H1 p (.lst xs))
theorem G0 {x1}(h:PA X es t):PE X (.Tuple es x1 pos) (cg8 t):=by
 intro pins s σ H Q I hq
 refine wpAny_Tuple_spliced (thn (h pos pins s σ H _ I hq) fun us s1 ⟨xs,H1,I1,r,z,q⟩=>⟨by rw[<- r.length];exact z,?_⟩)
 have hf:H1 s1.heap.objs.size=none:=I1.hok.fresh (d4 _)
 refine⟨.ref s1.heap.objs.size,upd H1 s1.heap.objs.size (.tup xs),I1.laid (t':=s1.toks) (fun b u e=>c5 _ e) (d4 _) ?_,rfl,q _ hf⟩
 exact⟨z,us,r,⟨_,i8 _ rfl,rfl,_,rfl⟩⟩
theorem X5 (h:PA X es t):PE X (.List es pos) (ch2 t):=by
 intro pins s σ H Q I hq
 refine wpAny_List_spliced (thn (h pos pins s σ H _ I hq) fun us s1 ⟨xs,H1,I1,r,z,q⟩=>⟨by rw[<- r.length];exact z,?_⟩)
 have hf:H1 s1.heap.objs.size=none:=I1.hok.fresh (d4 _)
 refine⟨.ref s1.heap.objs.size,upd H1 s1.heap.objs.size (.lst xs),I1.laid (t':=s1.toks) (fun b u e=>c5 _ e) (d4 _) ?_,rfl,q _ hf⟩
 exact⟨z,us,0,r,i8 _ rfl⟩
end
abbrev Sp:=List V->Hp->VK->XK->Prop
abbrev CXT:=List Env->Hp->c7->XK->c6->c7->Prop
structure bB1 (P:j8) (w:x6) (K:W.Frag) (mg:Str->Option c6) (base:Heap) (A:u4) (outer:List Env) (s:c7) (H:Hp):Prop where
 frames:A.frames=some outer
 mod:Mod K mg base
 bs:∀ b o,base.get? b=some o->s.heap.get? b=some o/\H b=none
 bsz:base.objs.size<=s.heap.objs.size
 funs:s.heap.FunFrames base outer
 frf:∀ b∈frs outer,H b=none
 hok:HOk P w H s.heap
 bare:ap3 s.gens
def CE (outer:List Env)(P:j8)(w:x6)(H:Hp)(s:c7)(Q:VK)(u:c6)(s':c7):Prop:=
 ∃ v H',s'.os=s.os/\ap3 s'.gens/\Un (frs outer) [] H H' s.heap s'.heap/\HOk P w H' s'.heap/\RelV v u/\Q v H'
def CR (CX:CXT)(outer:List Env)(P:j8)(w:x6)(H:Hp)(s:c7)(Q:VK)(E:XK)(r:Result)(s':c7):Prop:=
 match r with
 | .ok (.ret u)=>CE outer P w H s Q u s'
 | .ok _=>False
 | .error e=>CX outer H s E e s'
structure A8 (P:j8) (w:x6) (K:W.Frag) (mg:Str->Option c6) (base:Heap) (CX:CXT) (k:Nat) (f:Addr) (fd:u0) (ps:List Str) (sp:Sp):Prop where
 len:∀ vs H Q E,sp vs H Q E->vs.length=ps.length
 run:∀ (A:u4) (outer:List Env) (s:c7) (H:Hp) (args:Args) (us:List c6) (vs:List V) (Q:VK) (E:XK),X7 k A->bB1 P w K mg base A outer s H->bj3 s fd args (ps.zip us)->D9 vs us->sp vs H Q E ->
  am1 (y6 P w) A (.call (.ref f) args) (CR CX outer P w H s Q E) s
theorem A8.mono {P:j8}{w:x6}{K:W.Frag}{mg:Str->Option c6}{base:Heap}{CX:CXT}{j k:Nat}{f:Addr}{fd:u0}{ps:List Str}{sp:Sp}(F:A8 P w K mg base CX j f fd ps sp)(h:j<=k) :
  A8 P w K mg base CX k f fd ps sp:=⟨F.len,fun A outer s H args us vs Q E hr=>F.run A outer s H args us vs Q E (hr.mono h)⟩
section
variable {X:Cx} {pins:List (Addr × Obj)} {σ:St} {H:Hp} {s s':c7}
theorem Inv.env0 (I:Inv X pins σ H s):bB1 X.prog X.w X.K X.mg X.base X.A X.stack s H:=
 ⟨I.ok.frames,I.ok.mod,I.bs,A4 I.ok.bsz I.sz,I.stack,I.stkFree,I.hok,I.bare⟩
theorem Inv.after {Q:VK}{u:c6}(I:Inv X pins σ H s)(h:CE X.stack X.prog X.w H s Q u s'):EP X pins σ Q u s':=by
 obtain⟨v,H',os,bare,un,hok,r,q⟩:=h
 obtain⟨hh,g,d,t,os'⟩:=s'
 obtain rfl:os'=s.os:=os
 exact⟨v,H',I.call (h':=hh) (g':=g) (d':=d) (t':=t) (ch:=[]) un hok bare (fun b z=>absurd z (by simp)),r,q⟩
end
def cb7 (sp:Sp)(dvs:List V)(E:XK)(t:TA):TE:=fun σ H Q=>t σ H fun vs H1=>sp (vs++dvs) H1 Q E
def Binds (K:W.Frag)(fd:u0)(ps:List Str)(ds:List c6):Prop:=
 ∀ (s:c7) (us:List c6),K.In s.heap->(us++ds).length=ps.length->bj3 s fd ⟨us,[]⟩ (ps.zip (us++ds))
theorem Binds.all {K:W.Frag}{fd:u0}{ps:List Str}(h:∀ us:List c6,us.length=ps.length->bC2 fd ⟨us,[]⟩=pure (ps.zip us)):Binds K fd ps []:=fun s us _ hl=>by
 rw[F4]at hl ⊢
 exact .of_eq (h us hl)
def av6 (CX:CXT)(X:Cx)(E:XK):Prop:=∀ (pins:List (Addr × Obj)) (σ:St) (H:Hp) (s:c7) (e:c6) (s':c7),Inv X pins σ H s->CX X.stack H s E e s'->X.xe e s'
section
variable {X:Cx} {CX:CXT} {k:Nat} {f C:Addr} {fd:u0} {ps:List Str} {sp:Sp} {dvs:List V} {ds:List c6} {E:XK} {x m:Str} {p pos apos:Pos} {e o:Expr} {es:List Expr} {ta:TE} {t:TA}
theorem bs4 {pins:List (Addr × Obj)}{σ:St}{H:Hp}{s:c7}{Q:VK}{us:List c6}{vs:List V}(F:A8 X.prog X.w X.K X.mg X.base CX k f fd ps sp)(hr:X7 k X.A)(hb:Binds X.K fd ps ds)(hd:D9 dvs ds)(hx:av6 CX X E)
  (I:Inv X pins σ H s)(r:D9 vs us)(h:sp (vs++dvs) H Q E):o7 (y6 X.prog X.w) X.A (call (.ref f) us) (EP X pins σ Q) X.xe s:=by
 have r2:D9 (vs++dvs) (us++ds):=r.append hd
 have hl:(us++ds).length=ps.length:=by rw[<- r2.length];exact F.len _ _ _ _ h
 refine aR1 (ac5 (F.run X.A X.stack s H ⟨us,[]⟩ (us++ds) (vs++dvs) Q E hr I.env0 (hb s us I.kIn hl) r2 h) fun r s' hq=>?_)
 cases r with
 | error e=>exact hx pins σ H s e s' I hq
 | ok fl =>
  cases fl with
  | ret u=>exact I.after hq
  | next=>exact False.elim hq
  | brk=>exact False.elim hq
  | cont=>exact False.elim hq
theorem q8 (F:A8 X.prog X.w X.K X.mg X.base CX k f fd ps sp)(hr:X7 k X.A)(hg:Gl X x)(hm:X.mg x=some (.ref f))(hk:k6 X.K (.ref f)=true)(hb:Binds X.K fd ps ds)(hd:D9 dvs ds)(hx:av6 CX X E)
  (ha:PA X (e::es) t)(hdb:(x == ("__debug__":Str))=false:=by decide)(he:A2 (e::es) X.env=(false,eval e X.env)::A2 es X.env:=by rfl)(hpl:(S7 pos (A2 es X.env)).any (·.1)=false:=by rfl) :
  PE X (.Call (.Name x p) (e::es) [] pos) (cb7 sp dvs E t):=by
 intro pins s σ H Q I h
 refine J5 (al8 I hg hm ?_ hdb)
 refine PySem.W.callWith_K (h₀:=X.base) I.ok.mod.kin hk (thn (ha pos pins s σ H _ I h) fun us s1 ⟨vs,H1,I1,r,q⟩=>⟨I1.kIn,?_⟩) he hpl
 exact bs4 F hr hb hd hx I1 r q
structure Mk (K:W.Frag) (C f:Addr):Prop where
 makes:PySem.W.makesIn K C=true
 init:PySem.W.findIn K (.ref C) "__init__"=some (some (.ref f))
 fn:PySem.W.isFn K (.ref f)=true
 kp:k6 K (.ref C)=true
end
def PK (X:Cx)(kws:List aG8)(t:TA):Prop:=
 ∀ (pos:Pos) (pins:List (Addr × Obj)) (s:c7) (σ:St) (H:Hp) (Q:List V->Hp->Prop),Inv X pins σ H s->t σ H Q->o7 (y6 X.prog X.w) X.A (evalAll ((bC3 pos (aG9 kws X.env)).map (·.2))) (AP X pins σ Q) X.xe s
section
variable {X:Cx} {CX:CXT} {k:Nat} {f C:Addr} {fd:u0} {ps ks:List Str} {sp:Sp} {E:XK} {x m:Str} {p pos apos kpos:Pos} {e o:Expr} {es:List Expr} {kws:List aG8} {te ta:TE} {t tk:TA} {nm:Option Str}
theorem ba7:PK X [] bp9:=fun _ _ _ _ H Q I h=>wpAny_evalAll_nil ⟨[],H,I,.nil,h⟩
theorem aO0 (ha:PE X e te)(hr:PK X kws t):PK X (⟨nm,e,kpos⟩::kws) (aS4 te t):=by
 intro pos pins s σ H Q I h
 show o7 _ _ (evalAll ((do let v <- eval e X.env;standAt pos;pure v)::(bC3 pos (aG9 kws X.env)).map (·.2))) _ _ s
 refine wpAny_evalAll_cons (b7 (thn (ha pins s σ H _ I h) fun u s1 ⟨x,H1,I1,r1,q1⟩=>b7 (af3 (d3 ?_))))
 exact thn (hr pos pins s1 σ H1 _ I1 q1) fun us s2 ⟨xs,H2,I2,r2,q2⟩=>⟨x::xs,H2,I2,.cons r1 r2,q2⟩
structure cj8 (K:W.Frag) (fd:u0) (ps ks:List Str) (g:List c6->List c6->List c6) (gV:List V->List V->List V):Prop where
 to:∀ (s:c7) (us ws:List c6),K.In s.heap->(g us ws).length=ps.length->bj3 s fd ⟨us,ks.zip ws⟩ (ps.zip (g us ws))
 rel:∀ {vs:List V} {us:List c6} {zs:List V} {ws:List c6},D9 vs us->D9 zs ws->D9 (gV vs zs) (g us ws)
variable {g:List c6->List c6->List c6} {gV:List V->List V->List V}
end
structure B6 (N P:List Str) (sc:R8):Prop where
 kind:sc.kind=.function
 co:sc.isCoroutine=false
 gen:sc.isGenerator=false
 nd:N.Nodup
 pre:N.take P.length=P
 par:∀ x∈P,sc.names.lookup x=some .local\/sc.names.lookup x=some .cell
 nofree:∀ y∈sc.names,y.2≠.free
theorem aK9 {kindOf:Str->Option aM0}{x:Str}:∀ {binds:List (Str × c6)} {m:Str->Option c6},(∀ v,(x,v)∉binds)->bindL kindOf binds m x=m x
 | [],_,_=>rfl
 | (n,v)::r,m,h=>by
  unfold bindL
  rw[aK9 fun w hw=>h w (d7 _ hw)]
  split
  ·have:x≠n:=by rintro rfl;exact h v i5
   simp[this]
  ·rfl
theorem aL1 {kindOf:Str->Option aM0}{x:Str}:∀ {binds:List (Str × c6)} {m:Str->Option c6},(∀ v,(x,v)∉binds)->bindC kindOf binds m x=m x
 | [],_,_=>rfl
 | (n,v)::r,m,h=>by
  unfold bindC
  rw[aL1 fun w hw=>h w (d7 _ hw)]
  split
  ·rfl
  ·have:x≠n:=by rintro rfl;exact h v i5
   simp[this]
theorem aL0 {kindOf:Str->Option aM0}{x:Str}{v:c6}:∀ {P:List Str} {vs:List c6} {i:Nat} {m:Str->Option c6},P.Nodup->P[i]?=some x->vs[i]?=some v->kindOf x=some .local ->
  bindL kindOf (P.zip vs) m x=some v
 | [],_,_,_,_,h,_,_=>by simp at h
 | _::_,[],_,_,_,_,h,_=>by simp at h
 | p::P,w::vs,0,m,nd,h1,h2,hk=>by
  simp at h1 h2;subst h1;subst h2
  show bindL kindOf ((p,w)::P.zip vs) m p=_
  unfold bindL
  rw[aK9 fun v hv=>(F5.mp nd).1 (as6 hv).1,if_pos hk]
  simp
 | p::P,w::vs,i+1,m,nd,h1,h2,hk=>by
  show bindL kindOf ((p,w)::P.zip vs) m x=_
  unfold bindL
  exact aL0 (i:=i) (F5.mp nd).2 (by simpa using h1) (by simpa using h2) hk
theorem aL2 {kindOf:Str->Option aM0}{x:Str}{v:c6}:∀ {P:List Str} {vs:List c6} {i:Nat} {m:Str->Option c6},P.Nodup->P[i]?=some x->vs[i]?=some v->kindOf x≠some .local ->
  bindC kindOf (P.zip vs) m x=some v
 | [],_,_,_,_,h,_,_=>by simp at h
 | _::_,[],_,_,_,_,h,_=>by simp at h
 | p::P,w::vs,0,m,nd,h1,h2,hk=>by
  simp at h1 h2;subst h1;subst h2
  show bindC kindOf ((p,w)::P.zip vs) m p=_
  unfold bindC
  rw[aL1 fun v hv=>(F5.mp nd).1 (as6 hv).1,if_neg hk]
  simp
 | p::P,w::vs,i+1,m,nd,h1,h2,hk=>by
  show bindC kindOf ((p,w)::P.zip vs) m x=_
  unfold bindC
  exact aL2 (i:=i) (F5.mp nd).2 (by simpa using h1) (by simpa using h2) hk
def start (N:List Str)(vs:List V):St:=vs.map some++A5 (N.length - vs.length) none
def Z8 (CX:CXT)(P:j8)(w:x6)(K:W.Frag)(mg:Str->Option c6)(base:Heap)(N:List Str)(qual:Str)(scope:R8)(f:Addr)(cd:c6)(A:u4)(outer:List Env)(s:c7)(H:Hp)(E:XK):Cx where
 prog:=P
 w:=w
 K:=K
 mg:=mg
 base:=base
 A:=A.deeper (J6 qual scope s.heap.objs.size f cd)
 N:=N
 s₀:=s
 H₀:=H
 env:=J6 qual scope s.heap.objs.size f cd
 outer:=outer
 stack:=J6 qual scope s.heap.objs.size f cd::outer
 ex:=[]
 calm:=true
 fn:=fun _=>true
 pn:=[]
 xe:=fun e s'=>o7 (y6 P w) (A.deeper (J6 qual scope s.heap.objs.size f cd)) (leaving (J6 qual scope s.heap.objs.size f cd) e) (fun _ s''=>CX outer H s E e s'') (fun e' s''=>CX outer H s E e' s'') s'
theorem aX6 {sc:R8}{n:Nat}{x:Str}(h:sc.names.lookup x=some .cell):∃ c,(cellsFrom n sc.names []).lookup x=some c:=by
 have q:=PySem.W.cellsFrom_some sc.names n [] (.inl h)
 exact v9.mp q
theorem bn1 {CX:CXT}{P:j8}{w:x6}{K:W.Frag}{mg:Str->Option c6}{base:Heap}{N ps:List Str}{qual:Str}{scope:R8}{f:Addr}{cd:c6}{A:u4}{outer:List Env}{s s1:c7}{H:Hp}{E:XK}{us:List c6}{vs:List V}
  (S:B6 N ps scope)(hd:A.handled=none)(e0:bB1 P w K mg base A outer s H)(hl:vs.length=ps.length)(r:D9 vs us)
  (x:InCallC s s.heap.objs.size (bindL (J6 qual scope s.heap.objs.size f cd).kindOf (ps.zip us) fun _=>none) (cellsFrom (s.heap.objs.size+1) scope.names []) (bindC (J6 qual scope s.heap.objs.size f cd).kindOf (ps.zip us) fun _=>none) s1) :
  Inv (Z8 CX P w K mg base N qual scope f cd A outer s H E) [] (start N vs) H s1:=by
 have hpl:ps.length<=N.length:=by have:=congrArg List.length S.pre;rw[o4]at this;omega
 obtain⟨h1,tk,rfl,hk⟩:=x.done
 have noA:∀ b:Addr,b∉(Z8 CX P w K mg base N qual scope f cd A outer s H E).ex:=fun b z=>absurd (show b∈([]:List Addr) from z) (by simp)
 refine⟨⟨e0.mod,S.kind,rfl,rfl,d4 _,fun y z c h1 h2=>?_,fun y hy=>?_,fun y c _ h=>?_,fun _=>hd,Around.frames_deeper e0.frames,.inr ⟨rfl,rfl⟩,fun b z=>absurd z (noA b),e0.bs,e0.bsz,fun b _ _=>noA b,fun b z=>absurd z (noA b),e0.funs,e0.frf⟩,
  rfl,e0.bare,Un.kept hk,⟨_,x.toInCall.ns,fun i y v h1 h2 h3=>?_⟩,fun y c h=>⟨_,x.cell y c h⟩,e0.hok.fresh (d4 _),fun y c h=>?_,fun p hp=>absurd (show p∈([]:List (Addr × Obj)) from hp) (by simp),e0.hok.kept hk,?_⟩
 ·exact name_of_addr x.apart (PySem.mem_of_lookup h1) (PySem.mem_of_lookup h2)
 ·have hy:scope.names.lookup y=some .cell\/scope.names.lookup y=some .free:=hy
  rcases hy with hy | hy
  ·exact aX6 hy
  ·exact absurd rfl (S.nofree _ (PySem.mem_of_lookup hy))
 ·exact aa3 (x.above y c (PySem.mem_of_lookup h))
 ·have hi:i<vs.length:=by
   unfold start at h2
   by_cases hi:i<vs.length
   ·exact hi
   ·rw[List.getElem?_append_right (by simpa using hi)]at h2
    rw[List.getElem?_replicate]at h2
    split at h2<;>cases h2
  have ha:vs[i]?=some v:=by
   unfold start at h2
   rw[List.getElem?_append_left (by simpa using hi),o9]at h2
   cases e:vs[i]? with
   | none=>rw[e]at h2;cases h2
   | some a=>rw[e]at h2;cases h2;rfl
  obtain⟨u,hu,rv⟩:=r.get ha
  have hp:ps[i]?=some y:=by
   rw[<- S.pre,ak3 (by omega)];exact h1
  have ndP:ps.Nodup:=by rw[<- S.pre];exact S.nd.sublist (S3 _ _)
  refine⟨u,rv,?_⟩
  rcases S.par y (i7 hp) with k | k
  ·exact .inl ⟨k,aL0 ndP hp hu k⟩
  ·obtain⟨c,e⟩:=aX6 (n:=s.heap.objs.size+1) k
   refine .inr ⟨.inl k,c,e,?_⟩
   have q:=x.cell y c e
   rw[aL2 ndP hp hu (by show scope.names.lookup y≠_;rw[k];decide)]at q
   exact q
 ·exact e0.hok.fresh (aa3 (x.above y c (PySem.mem_of_lookup h)))
 ·unfold start
  show _=N.length
  rw[p6,b9,as7]
  omega
theorem by5 {CX:CXT} {P:j8} {w:x6} {K:W.Frag} {mg:Str->Option c6} {base:Heap} {k:Nat} {f:Addr} {name qual:Str} {params:an9} {body:List Stmt} {scope:R8} {dV kV doc pm cdv ct oc:c6} {an od:Option Addr}
  {osl:Array (Option c6)} {N ps:List Str} {sp:Sp} (lk:K.lookup f=some ⟨oc,od,.func (m7 name qual params body scope dV kV doc pm an cdv ct),osl⟩) (hcd:m3 K cdv qual=true) (S:B6 N ps scope)
  (len:∀ vs H Q E,sp vs H Q E->vs.length=ps.length)
  (hbody : ∀ (A : u4) (outer : List Env) (s : c7) (H : Hp) (vs : List V) (Q : VK) (E : XK), X7 k (A.deeper (J6 qual scope s.heap.objs.size f cdv)) -> sp vs H Q E ->
   ∃ t,PSs (Z8 CX P w K mg base N qual scope f cdv A outer s H E) body t/\t { nx:=fun _ H'=>Q .non H',rt:=Q } (start N vs) H) :
  A8 P w K mg base CX (k+1) f (m7 name qual params body scope dV kV doc pm an cdv ct) ps sp:=by
 refine⟨len,fun A outer s H args us vs Q E hr e0 hb r hsp=>?_⟩
 have hl:=len _ _ _ _ hsp
 have KX:K.In s.heap:=e0.mod.kin.keeps fun b o e=>(e0.bs b o e).1
 have lim:s.heap.NoLimit:=e0.mod.nolimit.keeps fun b o e=>(e0.bs b o e).1
 have hkind:∀ y∈ps.zip us,scope.names.lookup y.1=some .local\/(scope.names.lookup y.1=some .cell/\((cellsFrom (s.heap.objs.size+1) scope.names []).lookup y.1).isSome=true):=fun⟨n,v⟩ hy=>by
  rcases S.par n (as6 hy).1 with q | q
  ·exact .inl q
  ·exact .inr ⟨q,PySem.W.cellsFrom_some _ _ _ (.inl q)⟩
 refine codeAny_call_function hr.depth (KX _ _ lk) rfl S.co S.gen rfl (PySem.W.codeRec_of KX hcd) (hb _ _ _ _ ?_)
 refine wpAny_newFunctionEnv_cells S.kind hkind fun env he s1 x=>?_
 subst he
 refine⟨lim.keeps x.toInCall.keep,codeAny_func ?_⟩
 obtain⟨t,ht,hq⟩:=hbody A outer s H vs Q E (hr.deeper _) hsp
 have I:Inv (Z8 CX P w K mg base N qual scope f cdv A outer s H E) [] (start N vs) H s1:=bn1 S hr.hd e0 hl r x
 refine E3 (ht [] s1 (start N vs) H _ I hq) (fun fl s' hs=>?_) fun e s' hs=>hs
 have fin:∀ {σ':St} {H':Hp} {v:V} {u:c6},Inv (Z8 CX P w K mg base N qual scope f cdv A outer s H E) [] σ' H' s'->RelV v u->Q v H'->CE outer P w H s Q u s':=
  fun {σ' H' v u} J rv q=>⟨v,H',J.os,J.bare,J.base,J.hok,rv,q⟩
 cases fl with
 | ret u =>
  obtain⟨v,σ',H',J,rv,q⟩:=hs
  exact fin J rv q
 | next =>
  obtain⟨σ',H',J,q⟩:=hs
  exact fin (v:=V.non) (u:=Value.none) J rfl q
 | brk =>
  obtain⟨_,_,_,q⟩:=hs
  exact False.elim q
 | cont =>
  obtain⟨_,_,_,q⟩:=hs
  exact False.elim q
section
variable {X:Cx} {x:Str} {p pos:Pos} {e:Expr} {es:List Expr} {t:TA} {id T:String} {r:List V->Hp->VK->Prop}
def tCB (r:List V->Hp->VK->Prop)(t:TA):TE:=fun σ H Q=>t σ H fun vs H1=>r vs H1 Q
theorem m4 (hc:Q8 X (.builtin id) r)(hg:Gl X x)(hm:X.mg x=none)(hv:M5 x=some (.builtin id))(ha:PA X (e::es) t)(hn:x≠"__name__":=by decide)(hdb:(x == ("__debug__":Str))=false:=by decide)
  (he:A2 (e::es) X.env=(false,eval e X.env)::A2 es X.env:=by rfl)(hpl:(S7 pos (A2 es X.env)).any (·.1)=false:=by rfl):PE X (.Call (.Name x p) (e::es) [] pos) (tCB r t):=by
 intro pins s σ H Q I h
 refine J5 (V8 I hg hm hv ?_ hn hdb)
 exact PyProof.Rows.callWith_builtin1 (thn (ha pos pins s σ H _ I h) fun us s1 ⟨vs,H1,I1,r1,q1⟩=>hc pins s1 σ H1 vs us Q I1 r1 q1) he hpl
theorem L9 (hc:Q8 X (.type T) r)(hg:Gl X x)(hm:X.mg x=none)(hv:M5 x=some (.type T))(ha:PA X (e::es) t)(hn:x≠"__name__":=by decide)(hdb:(x == ("__debug__":Str))=false:=by decide)
  (he:A2 (e::es) X.env=(false,eval e X.env)::A2 es X.env:=by rfl)(hpl:(S7 pos (A2 es X.env)).any (·.1)=false:=by rfl):PE X (.Call (.Name x p) (e::es) [] pos) (tCB r t):=by
 intro pins s σ H Q I h
 refine J5 (V8 I hg hm hv ?_ hn hdb)
 exact PyProof.Rows.callWith_type1 (thn (ha pos pins s σ H _ I h) fun us s1 ⟨vs,H1,I1,r1,q1⟩=>hc pins s1 σ H1 vs us Q I1 r1 q1) he hpl
end
end L2
namespace HT
open PySem PyProof.Rows
def lexLt:List Int->List Int->Bool
 | [],[]=>false
 | [],_::_=>true
 | _::_,[]=>false
 | x::xs,y::ys=>if x=y then lexLt xs ys else decide (x<y)
theorem ag5 (x y:Int)(xs ys:List Int):lexLt (x::xs) (y::ys)=if x=y then lexLt xs ys else decide (x<y):=rfl
theorem bz1 (A:u4)(s:c7)(a:Int)(t:Tok)(c:Int)(u:Tok):∃ e,SeqAt.EqAt A s (.int a t) (.int c u) e/\(e=true↔a=c):=
 ⟨(a == c),SeqAt.EqAt.int_int a t c u,by simp⟩
section
open PySem.SeqAt
open PySem.AutoSeq1 (wpAny_loadPart')
open PySem.MeetsSeq PySem.MeetsSeq2 PySem.MeetsSeq3
end
section
variable {prog:j8} {w:x6} {A:u4} {E:c6->c7->Prop} {s:c7}
theorem bK5 {t b:Addr}{vs ws:List c6}{Q:c6->c7->Prop}(ht:IsTup s.heap t vs.toArray)(hb:IsTup s.heap b ws.toArray)(hv:vs≠[])
  (h1:ws=[]->Q (.ref t) s)(h2:ws≠[]->Q (.ref s.heap.objs.size) { s with heap:=s.heap.push { cls:=.type "tuple",data:=.seq (vs++ws).toArray } })
  (hsz:vs.length+ws.length<=i9):o7 (y6 prog w) A (W1 .Add (.ref t) (.ref b)) Q E s:=by
 obtain⟨⟨cls,dd,data,sl⟩,ho,hc,n,hd⟩:=id ht
 obtain⟨⟨cls2,dd2,data2,sl2⟩,ho2,hc2,n2,hd2⟩:=id hb
 simp only at hc hd hc2 hd2
 subst hc hd hc2 hd2
 have e:vs.toArray++ws.toArray=(vs++ws).toArray:=by simp
 by_cases hw:ws=[]
 ·exact aY4 ⟨_,ho,rfl⟩ ⟨_,ho2,rfl⟩ at3 aM1 PySem.F.slot_tuple_add PySem.F.entry_tuple_add (PySem.F.args_tuple_add_2 _ _)
   (tuple_addW1 t b vs.toArray ws.toArray n n2 dd dd2 sl sl2 (by simpa using hv) (by simp[hw])) ⟨ho,ho2,h1 hw⟩
 ·refine aY4 ⟨_,ho,rfl⟩ ⟨_,ho2,rfl⟩ at3 aM1 PySem.F.slot_tuple_add PySem.F.entry_tuple_add (PySem.F.args_tuple_add_2 _ _)
   (tuple_addW2 t b vs.toArray ws.toArray n n2 dd dd2 sl sl2 (by simpa using hv) (by simpa using hw) (by rw[d5,d5];exact hsz)) ⟨ho,ho2,?_⟩
  rw[e]
  exact h2 hw
def sIx (n d:Nat):Option Int->Nat
 | none=>d
 | some v=>if v<0 then (v+(n:Int)).toNat else min v.toNat n
theorem aT2 (n d:Nat):sIx n d none=d:=rfl
theorem be8 (n d k:Nat):sIx n d (some (k:Int))=min k n:=by
 show (if (k:Int)<0 then ((k:Int)+(n:Int)).toNat else min (k:Int).toNat n)=min k n
 rw[if_neg (by omega),q0]
theorem bS7 (n d:Nat)(hd:d<=n)(o:Option Int):sIx n d o<=n:=by
 cases o with
 | none=>exact hd
 | some v =>
  show (if v<0 then (v+(n:Int)).toNat else min v.toNat n)<=n
  by_cases hv:v<0
  ·rw[if_pos hv];omega
  ·rw[if_neg hv];exact Nat.min_le_right _ _
theorem bi2 (v:Int)(n d:Nat):(if v<0 then max (v+(n:Int)) 0 else min v (n:Int))=((sIx n d (some v):Nat):Int):=by
 show (if v<0 then max (v+(n:Int)) 0 else min v (n:Int))=(((if v<0 then (v+(n:Int)).toNat else min v.toNat n):Nat):Int)
 by_cases hv:v<0
 ·simp only[if_pos hv];omega
 ·simp only[if_neg hv];omega
theorem bc7 (lo hi:Option Int)(n:Nat):Builtin.Slice.sliceAdjust lo hi 1 (n:Int)=(((sIx n 0 lo:Nat):Int),((sIx n n hi:Nat):Int)):=by
 have h1:¬ ((1:Int)<0):=by omega
 unfold Builtin.Slice.sliceAdjust
 simp only[h1,if_false]
 refine Prod.ext ?_ ?_
 ·cases lo with
  | none=>rfl
  | some v=>exact bi2 v n 0
 ·cases hi with
  | none=>rfl
  | some v=>exact bi2 v n n
theorem ba6 (i j:Nat):Builtin.Slice.slicePlaces (i:Int) (j:Int) 1=j - i:=by
 unfold Builtin.Slice.slicePlaces
 have h1:(1:Int) > 0:=by omega
 simp only[h1,if_true,Int.ediv_one]
 split<;>omega
theorem aB0 {v:c6}{o:Option Int}{Q:Option Int->c7->Prop}(p:aY5 v o)(h:Q o s):o7 (y6 prog w) A (Builtin.Slice.slicePartIndex v) Q E s:=by
 cases p with
 | none=>exact aG2 h
 | int i t=>exact slicePart_int h
theorem ad5 {sl:Addr}{vl vu:c6}{lo hi:Option Int}{n:Nat}{Q:Int × Int × Nat->c7->Prop}(hs:s.heap.IsSliceOf sl vl vu .none)(pl:aY5 vl lo)(pu:aY5 vu hi)
  (h:Q (((sIx n 0 lo:Nat):Int),1,sIx n n hi - sIx n 0 lo) s):o7 (y6 prog w) A (Builtin.Slice.sliceApplied (.ref sl) (pure (n:Int))) Q E s:=by
 obtain⟨os,hos,hcs,hds⟩:=id hs
 unfold Builtin.Slice.sliceApplied Builtin.Slice.sliceFields
 refine b7 (b7 (E5 hos hds (x:=vl) rfl (b7 (E5 hos hds (x:=vu) rfl (b7 (E5 hos hds (x:=.none) rfl (d3 ?_)))))))
 refine b7 (aG2 ?_)
 show o7 _ _ (if ((1:Int) == 0)=true then _ else _) _ _ s
 rw[if_neg (by decide)]
 refine b7 (aB0 pl (b7 (aB0 pu (b7 (d3 ?_)))))
 show o7 _ _ (match Builtin.Slice.sliceAdjust lo hi 1 (n:Int) with | (lo,hi)=>pure (lo,(1:Int),Builtin.Slice.slicePlaces lo hi 1)) _ _ s
 rw[bc7 lo hi n]
 show o7 _ _ (pure (((sIx n 0 lo:Nat):Int),(1:Int),Builtin.Slice.slicePlaces ((sIx n 0 lo:Nat):Int) ((sIx n n hi:Nat):Int) 1)) _ _ s
 rw[ba6]
 exact d3 h
theorem aU2 (xs:Array c6)(i k:Nat):((o8 k).filterMap fun(m:Nat)=>xs[((i:Int)+(m:Int)*1).toNat]?).toArray=((xs.toList.drop i).take k).toArray:=by
 have e:(fun(m:Nat)=>xs[((i:Int)+(m:Int)*1).toNat]?)=fun m=>xs[i+m]?:=by
  funext m
  have:((i:Int)+(m:Int)*1).toNat=i+m:=by omega
  rw[this]
 rw[e]
 have:=pick_run xs i k
 rw[List.filterMap_map]at this
 have e2:((fun x=>xs[x]?) ∘ fun x=>i+x)=fun m=>xs[i+m]?:=rfl
 rw[e2]at this
 rw[this]
theorem ar5 {t sl:Addr}{items:Array c6}{vl vu:c6}{lo hi:Option Int}{Q:c6->c7->Prop}(ht:IsTup s.heap t items)(hs:s.heap.IsSliceOf sl vl vu .none)(pl:aY5 vl lo)(pu:aY5 vu hi)
  (hw:¬ (sIx items.size 0 lo=0/\sIx items.size items.size hi=items.size))
  (h:Q (.ref s.heap.objs.size) { s with heap:=s.heap.push { cls:=.type "tuple",data:=.seq ((items.toList.drop (sIx items.size 0 lo)).take (sIx items.size items.size hi - sIx items.size 0 lo)).toArray } })
  (hsz:items.size<=i9):o7 (y6 prog w) A (ap4 (.ref t) (.ref sl)) Q E s:=by
 have htake:sizeOk (.seq ((items.toList.drop (sIx items.size 0 lo)).take (sIx items.size items.size hi - sIx items.size 0 lo)).toArray):=by
  show ((items.toList.drop (sIx items.size 0 lo)).take (sIx items.size items.size hi - sIx items.size 0 lo)).toArray.size<=i9
  rw[d5,o4,E1,p0]
  omega
 have hj:sIx items.size items.size hi<=items.size:=bS7 _ _ (d4 _) hi
 obtain⟨os,hos,hcs,hds⟩:=id hs
 have hTs:s.TypeIs (.ref sl) "slice":=⟨os,hos,hcs⟩
 unfold ap4
 try with_reducible refine D3 ?_
 first | refine b7 (d3 ?_) | skip
 refine b7 (aR2 ht.typeIs (by decide) ?_)
 refine b7 (J7 (name:=Str.ofString "__getitem__") ht.typeIs PyProof.Rows.slot_tuple_getitem
  (K1 PyProof.Rows.slot_tuple_getitem ht.typeIs aH0 ?_ (aM2 _ _)))
 show o7 _ _ (Builtin.Tuple.tupleItemsOf (.ref t) >>= _) _ _ s
 refine b7 (bC4 ht ?_)
 refine b7 (ak5 hTs ?_)
 rw[if_pos (by decide)]
 refine b7 (ad5 hs pl pu ?_)
 have hno:¬ ((((sIx items.size 0 lo:Nat):Int) == 0 && (1:Int) == 1 && (sIx items.size items.size hi - sIx items.size 0 lo) == items.size)=true):=by
  intro q
  rw[C4,C4]at q
  have q1:((sIx items.size 0 lo:Nat):Int)=0:=eq_of_beq q.1.1
  have q2:sIx items.size items.size hi - sIx items.size 0 lo=items.size:=eq_of_beq q.2
  exact hw ⟨by omega,by omega⟩
 show o7 _ _ (if (((sIx items.size 0 lo:Nat):Int) == 0 && (1:Int) == 1 && (sIx items.size items.size hi - sIx items.size 0 lo) == items.size)=true then _ else _) _ _ s
 rw[if_neg hno,aU2]
 first
  | exact b7 (m:=Builtin.Tuple.tupleExact _) (G1 (d3 ⟨_,rfl,d3 h⟩) htake)
  | exact b7 (m:=Builtin.Tuple.tupleExact _) (G1 (b7 (d3 (d3 ⟨_,rfl,d3 h⟩))) htake)
  | exact b7 (b7 (m:=Builtin.Tuple.tupleExact _) (G1 (d3 (d3 ⟨_,rfl,d3 h⟩)) htake))
  | exact b7 (b7 (m:=Builtin.Tuple.tupleExact _) (G1 (d3 ⟨_,rfl,d3 h⟩) htake))
end
end HT
namespace L2
open PySem PySem.Spec PyProof.Rows
abbrev TO:=St->Hp->(Option Int->Hp->Prop)->Prop
def PO (X:Cx)(e:Option Expr)(t:TO):Prop:=
 ∀ (pins:List (Addr × Obj)) (s:c7) (σ:St) (H:Hp) (Q:Option Int->Hp->Prop),Inv X pins σ H s->t σ H Q ->
  o7 (y6 X.prog X.w) X.A (evalPart e X.env) (fun u s'=>∃ o H',Inv X pins σ H' s'/\aY5 u o/\Q o H') X.xe s
def bE5:TO:=fun _ H Q=>Q none H
def cb2 (t:TE):TO:=fun σ H Q=>t σ H fun x H1=>∃ i,x=.int i/\Q (some i) H1
theorem intsAre_of {ns:List Int}:∀ {us:List c6},D9 (ns.map V.int) us->G9 us ns:=by
 induction ns with
 | nil=>intro us r;rw[List.map_nil]at r;cases r;exact .nil
 | cons n ns ih =>
  intro us r
  rw[v8]at r
  cases r with
  | cons r1 r2 =>
   obtain⟨t,e⟩:=r1
   subst e
   exact .cons n t (ih r2)
section
variable {X:Cx} {e:Expr} {te:TE} {lo hi:Option Expr} {tl th:TO} {pos p2:Pos}
theorem U1:PO X none bE5:=by
 intro pins s σ H Q I h
 rw[bC5]
 exact d3 ⟨none,H,I,.none,h⟩
theorem Q4 (h:PE X e te):PO X (some e) (cb2 te):=by
 intro pins s σ H Q I hw
 rw[evalPart_some]
 refine thn (h pins s σ H _ I hw) fun u s1 ⟨x,H1,I1,r1,q1⟩=>?_
 obtain⟨i,rfl,q⟩:=q1
 obtain⟨t,rfl⟩:=r1
 exact⟨some i,H1,I1,.int i t,q⟩
def SlR (X:Cx)(r:V->Option Int->Option Int->Hp->VK->Prop):Prop:=
 ∀ (pins:List (Addr × Obj)) (s:c7) (σ:St) (H:Hp) (x:V) (v vl vu:c6) (lo hi:Option Int) (sl:Addr) (Q:VK),Inv X pins σ H s->RelV x v->s.heap.IsSliceOf sl vl vu .none->aY5 vl lo->aY5 vu hi->r x lo hi H Q ->
  ∃ T id,typeLookup (.type T) "__getitem__"=pure (some (.builtin id))/\s.TypeIs v T/\o7 (y6 X.prog X.w) X.A (ap4 v (.ref sl)) (EP X pins σ Q) X.xe s
def tSl (r:V->Option Int->Option Int->Hp->VK->Prop)(te:TE)(tl th:TO):TE:=fun σ H Q=>te σ H fun x H1=>tl σ H1 fun l H2=>th σ H2 fun u H3=>r x l u H3 Q
theorem O4 {r:V->Option Int->Option Int->Hp->VK->Prop}(hr:SlR X r)(he:PE X e te)(hl:PO X lo tl)(hu:PO X hi th):PE X (.Subscript e (.Slice lo hi none p2) pos) (tSl r te tl th):=by
 intro pins s σ H Q I h
 refine Subscript_ (thn (he pins s σ H _ I h) fun v s1 ⟨x,H1,I1,r1,q1⟩=>?_)
 refine wpAny_Slice (thn (hl pins s1 σ H1 _ I1 q1) fun vl s2 ⟨l,H2,I2,pl,q2⟩=>thn (hu pins s2 σ H2 _ I2 q2) fun vu s3 ⟨u,H3,I3,pu,q3⟩=>?_)
 rw[bC5]
 refine d3 ?_
 have I4:Inv X pins σ H3 { s3 with heap:=s3.heap.push { cls:=.type "slice",data:=.fields #[vl,vu,.none] } }:=I3.kept (t':=s3.toks) fun b ob q=>c5 _ q
 obtain⟨T,id,hT,ht,hg⟩:=hr pins { s3 with heap:=s3.heap.push { cls:=.type "slice",data:=.fields #[vl,vu,.none] } } σ H3 x v vl vu l u s3.heap.objs.size Q I4 r1 (Heap.IsSliceOf.new ..) pl pu q3
 show o7 (y6 X.prog X.w) X.A (bC6 e (.Slice lo hi none p2) v (.ref s3.heap.objs.size)) (EP X pins σ Q) X.xe { s3 with heap:=s3.heap.push { cls:=.type "slice",data:=.fields #[vl,vu,.none] } }
 exact tail_any (ops:=[.ref s3.heap.objs.size,v]) ht hT hg (by with_unfolding_all rfl)
def ae4 (xs:List V)(lo hi:Option Int):List V:=(xs.drop (HT.sIx xs.length 0 lo)).take (HT.sIx xs.length xs.length hi - HT.sIx xs.length 0 lo)
theorem ak0 (xs:List V)(lo hi:Option Int):(ae4 xs lo hi).length<=xs.length:=by
 unfold ae4
 rw[o4,E1]
 omega
def ch8 (K:W.Frag):V->Option Int->Option Int->Hp->VK->Prop:=fun x lo hi H Q=>∃ a xs,x=.ref a/\SqT K H a xs /\
 ¬ (HT.sIx xs.length 0 lo=0/\HT.sIx xs.length xs.length hi=xs.length)/\∀ p,H p=none->Q (.ref p) (upd H p (.tup (ae4 xs lo hi)))
theorem bR7:SlR X (ch8 X.K):=by
 intro pins s σ H x v vl vu lo hi sl Q I rx hs pl pu h
 obtain⟨a,xs,rfl,hx,hw,q⟩:=h
 cases rx
 obtain⟨its,r,ht,hz⟩:=I.tuple hx
 have hlen:its.toArray.size=xs.length:=by rw[d5];exact r.length.symm
 refine⟨"tuple",_,PyProof.Rows.slot_tuple_getitem.lookup,ht.typeIs,?_⟩
 refine HT.ar5 ht hs pl pu (by rw[hlen];exact hw) ?_ (by rw[hlen];exact hz)
 rw[hlen]
 refine⟨.ref s.heap.objs.size,_,I.laid (t':=s.toks) (o:=.tup (ae4 xs lo hi)) (fun b ob q=>c5 _ q) (d4 _) ?_,rfl,q _ (I.hok.fresh (d4 _))⟩
 exact⟨A4 (ak0 xs lo hi) hz,_,(r.drop (HT.sIx xs.length 0 lo)).take (HT.sIx xs.length xs.length hi - HT.sIx xs.length 0 lo),IsTup.new _ _⟩
def cd6 (K:W.Frag):R2:=fun x y H Q=>∃ a b xs ys,x=.ref a/\y=.ref b/\SqT K H a xs/\SqT K H b ys/\xs≠[]/\xs.length+ys.length<=i9 /\
 (ys=[]->Q (.ref a) H)/\(ys≠[]->∀ p,H p=none->Q (.ref p) (upd H p (.tup (xs++ys))))
theorem D9.nil_iff {xs:List V}{us:List c6}(r:D9 xs us):us=[]↔xs=[]:=by
 cases r with
 | nil=>simp
 | cons _ _=>simp
theorem bg3:OpR X (W1 .Add) (cd6 X.K):=by
 intro pins s σ H x y v u Q I rx ry h
 obtain⟨a,b,xs,ys,rfl,rfl,ha,hb,hx,hz,q1,q2⟩:=h
 cases rx
 cases ry
 obtain⟨its,r1,p1,_⟩:=I.tuple ha
 obtain⟨its2,r2,p2,_⟩:=I.tuple hb
 refine HT.bK5 p1 p2 (fun z=>hx (r1.nil_iff.mp z)) (fun z=>⟨.ref a,H,I,rfl,q1 (r2.nil_iff.mp z)⟩) (fun z=>?_) (by rw[<- r1.length,<- r2.length];exact hz)
 refine⟨.ref s.heap.objs.size,_,I.laid (t':=s.toks) (o:=.tup (xs++ys)) (fun b ob q=>c5 _ q) (d4 _) ?_,rfl,q2 (fun w=>z (r2.nil_iff.mpr w)) _ (I.hok.fresh (d4 _))⟩
 exact⟨by rw[p6];exact hz,_,r1.append r2,IsTup.new _ _⟩
end
def ixN (n:Nat)(i:Int):Option Nat:=if 0<=i then (if i<n then some i.toNat else none) else if -(n:Int)<=i then some (i+n).toNat else none
def atI {α:Type}(xs:List α)(i:Int):Option α:=(ixN xs.length i).bind fun j=>xs[j]?
theorem bg7 {n:Nat}{i:Int}{j:Nat}(h:ixN n i=some j):seqIndex? i n=some j/\j<n /\ -(n:Int)<=i/\i<n:=by
 unfold ixN at h
 by_cases h0:0<=i
 ·rw[if_pos h0]at h
  by_cases h1:i<n
  ·rw[if_pos h1]at h
   have e:i.toNat=j:=Option.some.inj h
   exact⟨by rw[bj4 h0 h1,e],by omega,by omega,h1⟩
  ·rw[if_neg h1]at h;cases h
 ·rw[if_neg h0]at h
  by_cases h1:-(n:Int)<=i
  ·rw[if_pos h1]at h
   have e:(i+n).toNat=j:=Option.some.inj h
   exact⟨by rw[aY6 (by omega) h1,e],by omega,h1,by omega⟩
  ·rw[if_neg h1]at h;cases h
theorem aA0 {α:Type}{xs:List α}{i:Int}{v:α}(h:atI xs i=some v):∃ j,seqIndex? i xs.length=some j/\xs[j]?=some v/\j<xs.length /\ -(xs.length:Int)<=i/\i<xs.length:=by
 unfold atI at h
 cases e:ixN xs.length i with
 | none=>rw[e]at h;cases h
 | some j =>
  rw[e]at h
  obtain⟨h1,h2,h3,h4⟩:=bg7 e
  exact⟨j,h1,h,h2,h3,h4⟩
theorem B3 {α:Type}{xs:List α}{j:Nat}{v:α}(h:xs[j]?=some v):atI xs (j:Int)=some v:=by
 have hj:j<xs.length:=(m8.mp h).1
 have e:ixN xs.length (j:Int)=some j:=by
  unfold ixN
  rw[if_pos (by omega),if_pos (by omega)];simp
 unfold atI;rw[e];exact h
def aQ3 (b:Expr):Prop:=∀ o i,bZ8 b false o i=operate [o,i] (ap4 o i)
def IxR (X:Cx)(r:R2):Prop:=
 ∀ (value slice:Expr) (pins:List (Addr × Obj)) (s:c7) (σ:St) (H:Hp) (x y:V) (v u:c6) (Q:VK),Inv X pins σ H s->RelV x v->RelV y u->r x y H Q ->
  bZ8 slice false v u=operate [v,u] (ap4 v u)->o7 (y6 X.prog X.w) X.A (bC6 value slice v u) (EP X pins σ Q) X.xe s
def MtR (X:Cx)(id:String)(r:V->List V->Hp->VK->Prop):Prop:=
 ∀ (pins:List (Addr × Obj)) (s:c7) (σ:St) (H:Hp) (x:V) (xs:List V) (v:c6) (us:List c6) (Q:VK),Inv X pins σ H s->RelV x v->D9 xs us->r x xs H Q ->
  o7 (y6 X.prog X.w) X.A (call (.builtin id) (v::us)) (EP X pins σ Q) X.xe s
section
variable {X:Cx} {a b:Expr} {ta tb:TE} {pos:Pos}
theorem IxR.or {r r':R2}(h:IxR X r)(h':IxR X r'):IxR X (fun x y H Q=>r x y H Q\/r' x y H Q):=by
 intro value slice pins s σ H x y v u Q I rx ry q hs
 rcases q with q | q
 ·exact h value slice pins s σ H x y v u Q I rx ry q hs
 ·exact h' value slice pins s σ H x y v u Q I rx ry q hs
theorem C8 {r:R2}(hr:IxR X r)(ha:PE X a ta)(hb:PE X b tb)(hs:aQ3 b):PE X (.Subscript a b pos) (tOp r ta tb):=by
 intro pins s σ H Q I h
 exact Subscript_ (bX3 ha hb I h fun v u s2 x y H2 I2 rx ry q=>hr a b pins s2 σ H2 x y v u Q I2 rx ry q (hs _ _))
def bS9 (K:W.Frag):R2:=fun x y H Q=>∃ p xs i v,x=.ref p/\y=.int i/\SqL K H p xs/\atI xs i=some v/\Q v H
def cd3 (K:W.Frag):R2:=fun x y H Q=>∃ p xs i v,x=.ref p/\y=.int i/\SqT K H p xs/\atI xs i=some v/\Q v H
def cd4:R2:=fun x y H Q=>∃ z i c,x=.str z/\y=.int i/\z.length<=i9/\atI z.cps.toList i=some c/\Q (.str ⟨#[c]⟩) H
theorem P0:IxR X (bS9 X.K):=by
 intro value slice pins s σ H x y v u Q I rx ry h hs
 obtain⟨p,xs,i,z,rfl,rfl,hq,he,q⟩:=h
 cases rx
 obtain⟨t,rfl⟩:=ry
 obtain⟨its,r,pl,hz⟩:=I.list hq
 obtain⟨j,h1,h2,h3,h4,h5⟩:=aA0 he
 obtain⟨w,ew,rw'⟩:=r.get h2
 have hl:=r.length
 have hn:=ao6
 have fin:EP X pins σ Q w s:=⟨z,H,I,rw',q⟩
 by_cases h0:0<=i
 ·have hj:i.toNat=j:=by
   rw[bj4 h0 h5]at h1
   exact Option.some.inj h1
  exact item_listR pl.isList h0 (by omega) (by rw[hj];simpa using ew) fin hs
 ·have hj:(i+(its.toArray.size:Int)).toNat=j:=by
   rw[aY6 (by omega) h4]at h1
   rw[d5,<- hl]
   exact Option.some.inj h1
  exact bL7 (x:=w) pl.isList.typeIs slot_list_getitem.lookup
   (bL8 (Q:=fun r s'=>r=w/\EP X pins σ Q r s') pl.isList (by omega) (by rw[d5]<;>omega) (by omega) (by rw[hj];simpa using ew) ⟨rfl,fin⟩) hs
theorem C5:IxR X (cd3 X.K):=by
 intro value slice pins s σ H x y v u Q I rx ry h hs
 obtain⟨p,xs,i,z,rfl,rfl,hq,he,q⟩:=h
 cases rx
 obtain⟨t,rfl⟩:=ry
 obtain⟨its,r,pl,hz⟩:=I.tuple hq
 obtain⟨j,h1,h2,h3,h4,h5⟩:=aA0 he
 obtain⟨w,ew,rw'⟩:=r.get h2
 have hl:=r.length
 have hn:=ao6
 have fin:EP X pins σ Q w s:=⟨z,H,I,rw',q⟩
 exact bL7 (x:=w) pl.typeIs slot_tuple_getitem.lookup
  (getItem_tuple (j:=j) (Q:=fun r s'=>r=w/\EP X pins σ Q r s') pl (by omega) (by omega) (by rw[d5,<- hl];exact h1) (by simpa using ew) ⟨rfl,fin⟩) hs
theorem bV8:IxR X cd4:=by
 intro value slice pins s σ H x y v u Q I rx ry h hs
 obtain⟨z,i,c,rfl,rfl,hz,he,q⟩:=h
 obtain⟨t,rfl⟩:=rx
 obtain⟨t',rfl⟩:=ry
 obtain⟨j,h1,h2,h3,h4,h5⟩:=aA0 he
 have hl:z.cps.toList.length=z.length:=by simp[Str.length]
 rw[hl]at h1 h4 h5
 have hn:=ao6
 exact tail_any (typeIs_str s z t) slot_str_getitem.lookup (getItem_str (c:=c) (by
  have e1:decide (i < -(2 ^ 63:Int))=false:=decide_eq_false (by omega)
  have e2:decide (i≥2 ^ 63)=false:=decide_eq_false (by omega)
  rw[e1,e2,Bool.or_false]) (by rw[h1];simpa using h2) ⟨.str ⟨#[c]⟩,H,I.tok _,⟨_,rfl⟩,q⟩) hs
def rIx (K:W.Frag):R2:=fun x y H Q=>bS9 K x y H Q\/cd3 K x y H Q\/cd4 x y H Q
theorem bx0:IxR X (rIx X.K):=P0.or (C5.or bV8)
theorem bb3 (its:List c6)(n j:Nat)(u:c6):Obj.mapSeq (·.setIfInBounds j u) { cls:=.type "list",data:=.seq its.toArray n }={ cls:=.type "list",data:=.seq (its.set j u).toArray n }:=by
 simp[Obj.mapSeq]
theorem Inv.lst {pins:List (Addr × Obj)}{σ:St}{H:Hp}{s:c7}{p:Addr}{xs:List V}(I:Inv X pins σ H s)(h:H p=some (.lst xs)) :
  ∃ (its:List c6) (n:Nat),D9 xs its/\s.heap.get? p=some { cls:=.type "list",data:=.seq its.toArray n }/\xs.length<=i9:=by
 obtain⟨z,its,n,r,e⟩:=I.hok p _ h
 exact⟨its,n,r,e,z⟩
theorem Inv.lstUpd {pins:List (Addr × Obj)}{σ:St}{H:Hp}{s:c7}{p:Addr}{xs ys:List V}{its its':List c6}{n n':Nat}{f:Obj->Obj}(I:Inv X pins σ H s)(h:H p=some (.lst xs))
  (ho:s.heap.get? p=some { cls:=.type "list",data:=.seq its.toArray n })(hf:f { cls:=.type "list",data:=.seq its.toArray n }={ cls:=.type "list",data:=.seq its'.toArray n' })(r:D9 ys its')(hz:ys.length<=i9)(t:Nat) :
  Inv X pins σ (upd H p (.lst ys)) { s with heap:=s.heap.update p f,toks:=t }:=by
 have e:(s.heap.update p f).get? p=some { cls:=.type "list",data:=.seq its'.toArray n' }:=by
  rw[N9 f ho (by rw[hf]<;>rfl),hf]
 refine I.write (x:=p) (e:=p) (by rw[h];trivial) (.inl rfl) (fun b u hb q=>(x9 _ _ (Ne.symm hb)).trans q) ⟨_,e⟩ ?_
 exact⟨hz,its',n',r,e⟩
def cd2:V->V->V->Hp->(Hp->Prop)->Prop:=fun o i v H Q=>∃ p xs k j,o=.ref p/\i=.int k/\H p=some (.lst xs)/\ixN xs.length k=some j/\Q (upd H p (.lst (xs.set j v)))
theorem set_list:bX9 X cd2:=by
 intro pins s σ H o i v ov iv u Q I ro ri rv h
 obtain⟨p,xs,k,j,rfl,rfl,hp,hj,q⟩:=h
 cases ro
 obtain⟨t,rfl⟩:=ri
 obtain⟨its,n,r,ho,hz⟩:=I.lst hp
 obtain⟨h1,h2,h3,h4⟩:=bg7 hj
 have hl:=r.length
 have hn:=ao6
 have I':Inv X pins σ (upd H p (.lst (xs.set j v))) { s with heap:=s.heap.update p (Obj.mapSeq (·.setIfInBounds j u)) }:=
  I.lstUpd hp ho (bb3 its n j u) (r.set rv j) (by rw[K5];exact hz) s.toks
 by_cases h0:0<=k
 ·have hk:k.toNat=j:=by
   rw[bj4 h0 h4]at h1
   exact Option.some.inj h1
  exact PySem.W.ki_setAt ho h0 (by omega) (by rw[d5,<- hl];exact h4) (by rw[hk];exact⟨_,I',q⟩)
 ·have hk:(k+(its.toArray.size:Int)).toNat=j:=by
   rw[aY6 (by omega) h3]at h1
   rw[d5,<- hl]
   exact Option.some.inj h1
  exact PySem.W.ki_setBack ho (by omega) (by rw[d5,<- hl];exact h3) (by omega) (by rw[hk];exact⟨_,I',q⟩)
theorem aN3 (lo hi:Option Int)(n:Nat):(ai2 lo hi none n).1=((HT.sIx n 0 lo:Nat):Int)/\(ai2 lo hi none n).2.1=((HT.sIx n n hi:Nat):Int)/\(ai2 lo hi none n).2.2=1:=by
 refine⟨?_,?_,rfl⟩
 ·cases lo with
  | none=>simp[ai2,HT.sIx]
  | some i =>
   simp only[ai2,HT.sIx,bO8,show (1:Int) > 0 by decide,if_true]
   by_cases h:i<0
   ·simp only[h,if_true]<;>omega
   ·simp only[h,if_false]<;>omega
 ·cases hi with
  | none=>simp[ai2,HT.sIx]
  | some i =>
   simp only[ai2,HT.sIx,bO8,show (1:Int) > 0 by decide,if_true]
   by_cases h:i<0
   ·simp only[h,if_true]<;>omega
   ·simp only[h,if_false]<;>omega
theorem aH4 (its:List c6)(lo hi:Option Int):slicePick its.toArray lo hi none=((its.drop (HT.sIx its.length 0 lo)).take (HT.sIx its.length its.length hi - HT.sIx its.length 0 lo)).toArray:=by
 obtain⟨h1,h2,h3⟩:=aN3 lo hi its.toArray.size
 unfold slicePick
 rw[h1,h2,h3]
 simp only[sliceRange_one,pick_run,d5]<;>rfl
def ch9 (K:W.Frag):V->Option Int->Option Int->Hp->VK->Prop:=fun x lo hi H Q=>∃ a xs,x=.ref a/\SqL K H a xs/\∀ p,H p=none->Q (.ref p) (upd H p (.lst (ae4 xs lo hi)))
theorem al4:SlR X (ch9 X.K):=by
 intro pins s σ H x v vl vu lo hi sl Q I rx hs pl pu h
 obtain⟨a,xs,rfl,hx,q⟩:=h
 cases rx
 obtain⟨its,r,ht,hz⟩:=I.list hx
 have hlen:=r.length
 refine⟨"list",_,slot_list_getitem.lookup,ht.isList.typeIs,?_⟩
 refine wpAny_getItem_list_slice ht.isList hs pl pu .none (by simp) ?_ (by rw[d5]<;>omega)
 rw[aH4,<- hlen]
 refine⟨.ref s.heap.objs.size,_,I.laid (t':=s.toks) (o:=.lst (ae4 xs lo hi)) (fun b ob q=>c5 _ q) (d4 _) ?_,rfl,q _ (I.hok.fresh (d4 _))⟩
 exact⟨A4 (ak0 xs lo hi) hz,_,0,(r.drop (HT.sIx xs.length 0 lo)).take (HT.sIx xs.length xs.length hi - HT.sIx xs.length 0 lo),i8 _ rfl⟩
theorem u7:Q8 X (.builtin "len") (fun xs H Q=>∃ p ys,xs=[.ref p]/\(SqL X.K H p ys\/SqT X.K H p ys)/\Q (.int ys.length) H):=by
 intro pins s σ H xs us Q I r h
 obtain⟨p,ys,rfl,hq,q⟩:=h
 obtain⟨u,rfl,rx⟩:=vals1 r
 cases rx
 have hn:=ao6
 rcases hq with hq | hq
 ·obtain⟨its,r',pl,hz⟩:=I.list hq
  have hlen:=r'.length
  exact Calls.call_len_list pl.isList (by simp only[d5]<;>omega) ⟨.int ys.length,H,I.tok _,⟨s.toks+1,by rw[d5,hlen]⟩,q⟩
 ·obtain⟨its,r',pl,hz⟩:=I.tuple hq
  have hlen:=r'.length
  exact len_tuple pl (by simp only[d5]<;>omega) ⟨.int ys.length,H,I.tok _,⟨s.toks+1,by rw[d5,hlen]⟩,q⟩
theorem aP9:Q8 X (.type "list") (fun xs H Q=>∃ p ys,xs=[.ref p]/\(SqL X.K H p ys\/SqT X.K H p ys)/\∀ l,H l=none->Q (.ref l) (upd H l (.lst ys))):=by
 intro pins s σ H xs us Q I r h
 obtain⟨p,ys,rfl,hq,q⟩:=h
 obtain⟨u,rfl,rx⟩:=vals1 r
 cases rx
 have fin:∀ (its:List c6),D9 ys its->ys.length<=i9->∀ (h':Heap) (c':Nat),(∀ b o',s.heap.get? b=some o'->h'.get? b=some o') ->
   h'.get? s.heap.objs.size=some { cls:=.type "list",dict:=none,data:=.seq its.toArray c',slots:=#[] }->EP X pins σ Q (.ref s.heap.objs.size) { s with heap:=h' }:=fun its r' hz h' c' kp e =>
  ⟨.ref s.heap.objs.size,_,I.laid (t':=s.toks) kp (d4 _) (show N7 X.prog X.w _ h' _ (.lst ys) from ⟨hz,its,c',r',e⟩),rfl,q _ (I.hok.fresh (d4 _))⟩
 rcases hq with hq | hq
 ·obtain⟨its,r',pl,hz⟩:=I.list hq
  have hlen:=r'.length
  obtain⟨o,ho,hc,n,hd⟩:=pl.isList
  exact call_list_seq p (.inl rfl) ho hc hd (fun h' c' kp e=>fin its r' hz h' c' kp e) (by simp only[d5]<;>omega)
 ·obtain⟨its,r',pl,hz⟩:=I.tuple hq
  have hlen:=r'.length
  obtain⟨o,ho,hc,n,hd⟩:=pl
  exact call_list_seq p (.inr rfl) ho hc hd (fun h' c' kp e=>fin its r' hz h' c' kp e) (by simp only[d5]<;>omega)
theorem O8:Q8 X (.type "tuple") (fun xs H Q=>∃ p ys,xs=[.ref p]/\((SqL X.K H p ys/\∀ l,H l=none->Q (.ref l) (upd H l (.tup ys)))\/(SqT X.K H p ys/\Q (.ref p) H))):=by
 intro pins s σ H xs us Q I r h
 obtain⟨p,ys,rfl,h⟩:=h
 obtain⟨u,rfl,rx⟩:=vals1 r
 cases rx
 rcases h with⟨hq,q⟩ | ⟨hq,q⟩
 ·obtain⟨its,r',pl,hz⟩:=I.list hq
  have hlen:=r'.length
  refine call_tuple_list pl.isList (fun h' kp=>?_) (by simp only[d5]<;>omega)
  have I1:Inv X pins σ H { s with heap:=h' }:=I.kept (t':=s.toks) kp
  have I2:Inv X pins σ (upd H h'.objs.size (.tup ys)) { s with heap:=h'.push { cls:=.type "tuple",data:=.seq its.toArray } } :=
   I1.laid (t':=s.toks) (fun b o e=>c5 _ e) (d4 _) (show N7 X.prog X.w _ _ _ (.tup ys) from ⟨hz,its,r',IsTup.new _ _⟩)
  exact⟨.ref h'.objs.size,_,I2,rfl,q _ (I1.hok.fresh (d4 _))⟩
 ·obtain⟨its,r',pl,hz⟩:=I.tuple hq
  exact call_tuple_same pl ⟨.ref p,H,I,rfl,q⟩
def tyV (K:W.Frag)(T:String)(x:V)(H:Hp):Prop:=match x with
 | .str _=>T="str"
 | .int _=>T="int"
 | .ref p=>(T="list"/\∃ xs,SqL K H p xs)\/(T="tuple"/\∃ o,K.lookup p=some o/\o.cls=.type "tuple"/\o.dict=none) \/
   (T="dict"/\((∃ kvs,H p=some (.dK kvs))\/∃ kvs,H p=some (.dT kvs)))\/(T="set"/\∃ S n,H p=some (.set S n))
 | _=>False
theorem bQ5 {pins:List (Addr × Obj)}{σ:St}{H:Hp}{s:c7}{T:String}{x:V}{v:c6}(I:Inv X pins σ H s)(r:RelV x v)(ty:tyV X.K T x H) :
  s.TypeIs v T/\∀ a,v=.ref a->∃ ob,s.heap.get? a=some ob/\ob.dict=none:=by
 cases x with
 | str z =>
  obtain⟨t,rfl⟩:=r
  cases (show T="str" from ty)
  exact⟨typeIs_str s z t,fun _ e=>nomatch e⟩
 | int i =>
  obtain⟨t,rfl⟩:=r
  cases (show T="int" from ty)
  exact⟨typeIs_int s i t,fun _ e=>nomatch e⟩
 | ref p =>
  cases r
  rcases ty with⟨rfl,xs,hq⟩ | ⟨rfl,o,hk,hc,hd⟩ | ⟨rfl,hk⟩ | ⟨rfl,S,n,hk⟩
  ·obtain⟨its,_,pl,_⟩:=I.list hq
   refine⟨pl.isList.typeIs,fun a e=>?_⟩
   cases e
   obtain⟨o,n,e,c,hd,_⟩:=pl
   exact⟨o,e,hd⟩
  ·refine⟨⟨o,I.kIn p o hk,hc⟩,fun a e=>?_⟩
   cases e
   exact⟨o,I.kIn _ o hk,hd⟩
  ·have z:∃ o,s.heap.get? p=some o/\o.ExactDict:=by
    rcases hk with⟨kvs,hk⟩ | ⟨kvs,hk⟩
    ·obtain⟨_,_,_,_,o,_,_,e,ex,_⟩:=I.hok p _ hk
     exact⟨o,e,ex⟩
    ·obtain⟨_,_,_,_,o,_,_,e,ex,_⟩:=I.hok p _ hk
     exact⟨o,e,ex⟩
   obtain⟨o,e,ex⟩:=z
   refine⟨⟨o,e,ex.1⟩,fun a e2=>?_⟩
   cases e2
   exact⟨o,e,ex.2.1⟩
  ·obtain⟨o,_,_,_,e,ex,_⟩:=I.hok p _ hk
   refine⟨⟨o,e,ex.1⟩,fun a e2=>?_⟩
   cases e2
   exact⟨o,e,ex.2.1⟩
 | _=>exact False.elim ty
def tBM (K:W.Frag)(T:String)(r:V->List V->Hp->VK->Prop)(to:TE)(t:TA):TE:=fun σ H Q=>to σ H fun x H1=>tyV K T x H1/\t σ H1 fun xs H2=>r x xs H2 Q
variable {o e:Expr} {es:List Expr} {to:TE} {t:TA} {name:Str} {apos cpos:Pos} {T id:String} {r:V->List V->Hp->VK->Prop}
theorem aJ2 (pa:PlainAttrs T) (slot:Slot T name id) (hty:typeOf (.builtin id)=pure (.type "method_descriptor")) (hm:MtR X id r) (ho:PE X o to) (ha:PA X (e::es) t)
  (hbase:bC7 o name X.env (eval o X.env)=eval o X.env:=by rfl)
  (hfew : ((S7 cpos (A2 (e :: es) X.env)).all (fun x => !x.1) && (bC3 cpos (aG9 [] X.env)).all (fun x => x.1.isSome)
   && decide ((e::es).length+([]:List aG8).length+(if ([]:List aG8).isEmpty then 0 else 1)<30))=true:=by rfl)
  (hline:(apos.endLine == cpos.line)=true:=by rfl) (hs:A2 (e::es) X.env=(false,eval e X.env)::A2 es X.env:=by rfl) (hplain:(S7 cpos (A2 es X.env)).any (·.1)=false:=by rfl) :
  PE X (.Call (.Attribute o name apos) (e::es) [] cpos) (tBM X.K T r to t):=by
 intro pins s σ H Q I h
 refine wpAny_Call_method_late hbase hfew hline rfl (thn (ho pins s σ H _ I h) fun v s1 ⟨x,H1,I1,r1,ty,q1⟩=>?_)
 obtain⟨h1,h2⟩:=bQ5 I1 r1 ty
 refine⟨T,id,pa,slot,hty,h1,h2,?_⟩
 have hA:=ha cpos pins s1 σ H1 _ I1 q1
 rw[hs]at hA ⊢
 refine Calls.callWith_builtin (by show (false || (S7 cpos (A2 es X.env)).any (·.1))=false;rw[hplain]<;>rfl) (Calls.evalArgs_plain ?_)
 exact thn hA fun us s2 ⟨vs,H2,I2,r2,q2⟩=>hm pins s2 σ H2 x vs v us Q I2 r1 r2 q2
/- xs.append(e),list.index on a module's tuple .. are MtR facts of 06m -/
end
def MtM (X:Cx)(id:String)(r:V->List V->Hp->VK->Prop):Prop:=
 ∀ (pins:List (Addr × Obj)) (s:c7) (σ:St) (H:Hp) (x:V) (xs:List V) (v:c6) (us:List c6) (Q:VK),Inv X pins σ H s->RelV x v->D9 xs us->r x xs H Q ->
  o7 (y6 X.prog X.w) X.A (call (.builtin id) (v::us)) (EP X pins σ Q) X.xe s
theorem D9.one:∀ {x:V} {us:List c6},D9 [x] us->∃ u,us=[u]/\RelV x u
 | _,_,.cons r .nil=>⟨_,rfl,r⟩
theorem D9.two:∀ {x y:V} {us:List c6},D9 [x,y] us->∃ u v,us=[u,v]/\RelV x u/\RelV y v
 | _,_,_,.cons r (.cons q .nil)=>⟨_,_,rfl,r,q⟩
theorem D9.reverse {xs:List V}{us:List c6}(h:D9 xs us):D9 xs.reverse us.reverse:=by
 induction h with
 | nil=>exact .nil
 | cons r t ih=>rw[Y3,Y3];exact D9.append ih (.cons r .nil)
theorem D9.rep {xs:List V}{us:List c6}(h:D9 xs us):∀ k:Nat,D9 (A5 k xs).flatten (A5 k us).flatten
 | 0=>.nil
 | k+1=>by
  rw[M4,M4,Y4,Y4]
  exact D9.append h (D9.rep h k)
theorem foldl_rep (its:List c6):∀ (k:Nat) (acc:List c6),
  bi8 (fun x1 x2=>x1++x2) acc.toArray (A5 k its.toArray)=(acc++(A5 k its).flatten).toArray
 | 0,acc=>by simp
 | k+1,acc=>by
  have e:acc.toArray++its.toArray=(acc++its).toArray:=by simp
  have e2:(acc++its)++(A5 k its).flatten=acc++(A5 (k+1) its).flatten:=by
   rw[M4,Y4,aI2]
  rw[<- e2,<- foldl_rep its k (acc++its),<- e,M4,as8]
section
variable {X:Cx} {pins:List (Addr × Obj)} {σ:St} {H:Hp} {s:c7} {l b:Addr} {xs ys zs:List V}
theorem Inv.lset {its its':List c6}{n:Nat}{f:Array c6->Array c6}{t':Nat}(I:Inv X pins σ H s)(hH:H l=some (.lst xs))
  (e:s.heap.get? l=some { cls:=.type "list",data:=.seq its.toArray n })(hf:f its.toArray=its'.toArray)(hv:D9 ys its')(hz:ys.length<=i9) :
  Inv X pins σ (upd H l (.lst ys)) { s with heap:=s.heap.update l (Obj.mapSeq f),toks:=t' }:=by
 have q:=PySem.IsL.update e f
 rw[hf]at q
 refine I.write (x:=l) (e:=l) (by rw[hH];exact trivial) (.inl rfl) (fun b' u hb hu=>(x9 s.heap (Obj.mapSeq f) (Ne.symm hb)).trans hu) ⟨_,q⟩ ?_
 exact⟨hz,its',_,hv,q⟩
theorem Inv.lnew {its:List c6}{t':Nat}(I:Inv X pins σ H s)(hv:D9 ys its)(hz:ys.length<=i9) :
  Inv X pins σ (upd H s.heap.objs.size (.lst ys)) { s with heap:=s.heap.push { cls:=.type "list",data:=.seq its.toArray },toks:=t' } :=
 I.laid (fun _ _ q=>c5 _ q) (d4 _) ⟨hz,its,0,hv,i8 _ rfl⟩
theorem Inv.fresh (I:Inv X pins σ H s):H s.heap.objs.size=none:=I.hok.fresh (d4 _)
theorem Inv.lstM (I:Inv X pins σ H s)(hH:H l=some (.lst xs)):xs.length<=i9/\∃ (its:List c6) (n:Nat),D9 xs its/\xs.length=its.length/\s.heap.get? l=some { cls:=.type "list",data:=.seq its.toArray n }:=by
 obtain⟨z,its,n,r,e⟩:=I.hok l _ hH
 exact⟨z,its,n,r,r.length,e⟩
theorem bv4 {n:Nat}(h:n<=i9):Builtin.List.listTooLong n=false:=by
 unfold Builtin.List.listTooLong
 exact decide_eq_false (by omega)
end
section
variable {X:Cx}
def bF5:V->List V->Hp->VK->Prop:=fun x vs H Q=>∃ l xs y,x=.ref l/\vs=[y]/\H l=some (.lst xs)/\xs.length<i9/\Q .non (upd H l (.lst (xs++[y])))
theorem S4:MtM X "list.append" bF5:=by
 intro pins s σ H x vs v us Q I rx rv h
 obtain⟨l,xs,y,rfl,rfl,hH,hz,q⟩:=h
 cases rx
 obtain⟨u,rfl,ru⟩:=rv.one
 obtain⟨z,its,n,r,hl,e⟩:=I.lstM hH
 refine aR3 F.slot_list_append ⟨_,e,rfl⟩ F.entry_list_append (F.args_list_append_2 _ _) (PySem.list_append l its.toArray n u (by rw[d5];omega)) ⟨e,?_⟩
 refine⟨.non,_,I.lset (its':=its++[u]) hH e (by simp) (r.append (.cons ru .nil)) ?_,rfl,q⟩
 rw[p6,bB2]
 omega
def ci3:R2:=fun x y H Q=>∃ l b xs zs,x=.ref l/\y=.ref b/\H l=some (.lst xs)/\H b=some (.lst zs)/\xs.length+zs.length<=i9/\∀ p,H p=none->Q (.ref p) (upd H p (.lst (xs++zs)))
theorem bu5:OpR X (W1 .Add) ci3:=by
 intro pins s σ H x y v u Q I rx ry h
 obtain⟨l,b,xs,zs,rfl,rfl,hH,hB,hz,q⟩:=h
 cases rx
 cases ry
 obtain⟨z,its,n,r,hl,e⟩:=I.lstM hH
 obtain⟨z2,its2,n2,r2,hl2,e2⟩:=I.lstM hB
 refine PySem.P.add_list e e2 ?_ (by rw[d5,d5];omega)
 have ea:its.toArray++its2.toArray=(its++its2).toArray:=by simp
 rw[ea]
 exact⟨.ref _,_,I.lnew (t':=s.toks) (r.append r2) (by rw[p6];omega),rfl,q _ I.fresh⟩
def ci1:R2:=fun x y H Q=>∃ l k xs,x=.ref l/\y=.int k/\H l=some (.lst xs) /\ -(2 ^ 63)<=k/\k<2 ^ 63/\xs.length*k.toNat<=i9 /\
 ∀ p,H p=none->Q (.ref p) (upd H p (.lst (A5 k.toNat xs).flatten))
theorem len_rep {α:Type}(xs:List α)(k:Nat):(A5 k xs).flatten.length=k*xs.length:=by
 induction k with
 | zero=>simp
 | succ k ih=>rw[M4,Y4,p6,ih,Nat.succ_mul,Nat.add_comm]
theorem ba8:OpR X (W1 .Mult) ci1:=by
 intro pins s σ H x y v u Q I rx ry h
 obtain⟨l,k,xs,rfl,rfl,hH,h1,h2,hz,q⟩:=h
 cases rx
 obtain⟨t,rfl⟩:=ry
 obtain⟨z,its,n,r,hl,e⟩:=I.lstM hH
 have hlen:its.toArray.size*k.toNat<=i9:=by rw[d5,<- hl];exact hz
 have hcap:¬ its.toArray.size*k.toNat > (2 ^ 63 - 1) / 8:=by
  have:(i9:Nat)<=(2 ^ 63 - 1) / 8:=by decide
  omega
 have hfit:¬ (!Builtin.List.listFitsIndex k)=true:=by
  rw[fitsIndex_both h1 h2]
  exact k9
 have hlong:¬ Builtin.List.listTooLong (its.toArray.size*k.toNat)=true:=by
  rw[bv4 hlen]
  exact k9
 have hnew:bi8 (fun x1 x2=>x1++x2) #[] (A5 (if its.toArray.isEmpty=true then 0 else k.toNat) its.toArray)=(A5 k.toNat its).flatten.toArray:=by
  have f0:∀ m:Nat,bi8 (fun x1 x2=>x1++x2) #[] (A5 m its.toArray)=(A5 m its).flatten.toArray:=fun m=>by
   have:=foldl_rep its m []
   rw[List.nil_append]at this
   exact this
  rw[f0]
  cases its with
  | nil=>simp
  | cons a r'=>rw[if_neg (by simp)]
 refine wpAny_binaryOp_repeat_ref (T:="list") (U:="int") (by decide) ⟨_,e,rfl⟩ (fun s'=>typeIs_int s' k t) noFill_list_mul F.fills_int_mul F.slot_int_rmul repeat_list F.slot_int_index.lookup
  (aR3 F.slot_int_rmul (typeIs_int s k t) F.entry_int_rmul (F.args_int_rmul_2 _ _) (int___rmul___int_list k t l its.toArray n)
   ⟨e,rfl,⟨_,e,rfl⟩,aR3 F.slot_list_mul ⟨_,e,rfl⟩ F.entry_list_mul (F.args_list_mul_2 _ _) (AutoListH.list___mul___list_int_3 l its.toArray n k t hfit hcap hlong) ⟨e,?_⟩⟩)
 rw[hnew]
 exact⟨.ref _,_,I.lnew (t':=s.toks) (r.rep k.toNat) (by rw[len_rep,Nat.mul_comm];exact hz),rfl,q _ I.fresh⟩
end
section
variable {prog:j8} {w:x6} {A:u4} {E:c6->c7->Prop} {s:c7}
end
section
variable {X:Cx}
end
end L2
namespace Att
open PySem PySem.W PySem.Calls PyProof.Rows
theorem ax9 {P:Params}{h:Heap}:∀ (ns:List Int) (vs:List c6),WellAll P h vs (ns.map WData.int)->G9 vs ns:=by
 intro ns
 induction ns with
 | nil =>
  intro vs w
  rw[List.map_nil]at w
  cases w
  exact .nil
 | cons n ns ih =>
  intro vs w
  rw[v8]at w
  cases w with
  | cons a b =>
   cases a
   exact .cons _ _ (ih _ b)
theorem bk8 {l:OpenLaw}{n:Nat}(hn:l.most=some n){P:Params}{h:Heap}{args:List WData}{vals:List c6}
  (hpre:l.row.toRowW.claim.pre args=true)(hwl:WellAll P h vals args) :
  ∃ a vs ns,vals=[Value.ref a]/\args=[WData.list (ns.map WData.int)]/\h.get? a=some { cls:=.type "list",data:=.seq vs.toArray }/\G9 vs ns/\ns.length<=n:=by
 have hsh:WShape.hasAll [] args [.list .int]=true:=(pre_splitW hpre).1
 have hc:l.pre.holds [] { args:=args }=true:=(pre_splitW hpre).2
 obtain⟨d,r,rfl,h1,h2⟩:=hasAllW_cons hsh
 obtain rfl:=hasAllW_nil h2
 obtain⟨xs,rfl,h3⟩:=hasW_list h1
 obtain⟨ns,rfl⟩:=items_int h3
 have hlen:ns.length<=n:=by
  unfold OpenLaw.pre at hc
  have h4:(WTm.not (.lt (.lit (.int (n:Int))) (.len (.arg 0)))).holds [] { args:=[.list (ns.map .int)] }=true:=by
   have h4:=(holds_andW hc).1
   rw[hn]at h4
   exact h4
  have h5:=condW_of h4 (w_not (w_lt w_lit (w_len_list (w_arg rfl))))
  rw[b9]at h5
  refine Nat.le_of_not_lt fun q=>?_
  have q':(n:Int)<((ns.length:Nat):Int):=by omega
  first
   | (rw[decide_eq_true q']at h5;exact absurd h5 (by decide))
   | (simp at h5;omega)
 cases hwl with
 | cons w1 w2 =>
  cases w2
  cases w1 with
  | list ho hall=>exact⟨_,_,ns,rfl,rfl,ho,ax9 ns _ hall,hlen⟩
theorem bl2 (l:OpenLaw)(args:List WData):l.row.toRowW.claim.post args (.bool true) args=true:=
 postW_of (r:=l.row.toRowW) (X:=(true == true))
  (show WShape.has [] (.bool true) .bool=true by first | rfl | decide | simp[WShape.has,WShape.arms,WShape.armsAll])
  (show (WTm.eq .res (.lit (.bool true))).value [] { args:=args,res:=some (.bool true),after:=args }=some (.bool (true == true)) from w_eq_bool (w_res rfl) w_lit) rfl
theorem attach_call {l:OpenLaw} {n:Nat} {q:j8} {loose:List Str} {XP:(Str->Option c6)->Heap->Prop} {YP:x6->Heap->Prop} {d:DefRec}
  (hn:l.most=some n) (hdf:d.params.defaults=[])
  (call : ∀ (w : x6) (s₀ s₁ : c7) (mg mb : Str -> Option c6) (fa : Addr) (o : Obj) (pm cd doc : c6) (a : Addr) (vs : List c6) (ns : List Int),
   Ground q loose [] XP w s₀ mg mb s₁.heap->YP w s₁.heap ->
   s₁.heap.get? fa=some o->o.data=.func (docDef d.name d.params d.body d.scope pm cd doc)->s₁.heap.CodeRec cd d.name->mg d.name=some (.ref fa) ->
   s₁.heap.get? a=some { cls:=.type "list",data:=.seq vs.toArray }->G9 vs ns->ns.length<=n->s₁.gens=#[] ->
   am1 (y6 l.prog w) bj5 (.call (.ref fa) ⟨[.ref a],[]⟩) (fun r s'=>r=.ok (.ret (.bool true))/\OldK s₁.heap s'.heap/\s'.os=s₁.os/\ap3 s'.gens) s₁) :
  WalkO q loose XP YP l.row.toRowW d [] (fun f vs=>PySem.call f vs):=by
 intro w s₀ s₁ mg mb G Y fa o pm cd doc dV kV ho hd hcd hD hmg hg args vals as hpre hlay hrd hwl hlo
 obtain rfl:dV=.none:=Dflts.none hD hdf
 obtain rfl:kV=.none:=Dflts.noKw hD
 obtain⟨a,vs,ns,rfl,rfl,hobj,hints,hlen⟩:=bk8 hn hpre hwl
 refine enter_call (ac5 (call w s₀ s₁ mg mb fa o pm cd doc a vs ns G Y ho (fd_plain hd) hcd hmg hobj hints hlen hg) fun r s' hq=>?_)
 obtain⟨rfl,h2,h3,h4⟩:=hq
 exact⟨.inl ⟨.bool true,.bool true,[],rfl,fun _=>rfl,.bool true,bl2 l _,fun _=>⟨List.Pairwise.nil,fun _ hm=>(nomatch hm)⟩⟩,h2,h3,h4⟩
section
variable {prog:j8} {w:x6} {A:u4} {E:c6->c7->Prop} {s:c7} {K:Frag}
end
end Att
namespace L2
open PySem PySem.Spec PyProof.Rows
theorem ad1:∀ {vs:List c6} {ns:List Int},G9 vs ns->D9 (ns.map V.int) vs
 | _,_,.nil=>.nil
 | _,_,.cons n t h=>.cons ⟨t,rfl⟩ (ad1 h)
end L2
namespace L2
open PySem PySem.Spec PyProof.Rows
def B5 (s:Stmt):an9:=match s with
 | .FunctionDef _ a _ _ _ _ _ _ _ _=>a
 | _=>{ posonlyargs:=[],args:=[],vararg:=none,kwonlyargs:=[],kw_defaults:=[],kwarg:=none,defaults:=[] }
def A7 (s:Stmt):List Stmt:=match s with
 | .FunctionDef _ _ b _ _ _ _ _ _ _=>b
 | _=>[]
def j5 (s:Stmt):R8:=match s with
 | .FunctionDef _ _ _ _ _ _ sc _ _ _=>sc
 | _=>{ kind:=.function,names:=[],isGenerator:=false,isCoroutine:=false }
abbrev CX0:CXT:=fun _ _ _ _ _ _=>False
abbrev E0:XK:=fun _ _ _=>False
theorem G4 {X:Cx}:av6 CX0 X E0:=fun _ _ _ _ _ _ _ h=>h.elim
structure Fun (K:W.Frag) (x qual:Str) (st:Stmt) (f:Addr) (fd:u0):Prop where
 ex:∃ (oc:c6) (od:Option Addr) (kV doc pm:c6) (an:Option Addr) (cdv ct:c6) (osl:Array (Option c6)),
  fd=m7 x qual (B5 st) (A7 st) (j5 st) .none kV doc pm an cdv ct/\K.lookup f=some ⟨oc,od,.func fd,osl⟩/\m3 K cdv qual=true
 kp:k6 K (.ref f)=true
section
variable {P:j8} {w:x6} {K:W.Frag} {mg:Str->Option c6} {base:Heap}
theorem Fun.ok {x qual:Str} {st:Stmt} {f:Addr} {fd:u0} {N ps:List Str} {k:Nat} {sp:Sp} (F:Fun K x qual st f fd) (S:B6 N ps (j5 st)) (len:∀ vs H Q E,sp vs H Q E->vs.length=ps.length)
  (hbody : ∀ (cdv : c6) (A : u4) (outer : List Env) (s : c7) (H : Hp) (vs : List V) (Q : VK) (E : XK), X7 k (A.deeper (J6 qual (j5 st) s.heap.objs.size f cdv)) -> sp vs H Q E ->
   ∃ t,PSs (Z8 CX0 P w K mg base N qual (j5 st) f cdv A outer s H E).nox (A7 st) t/\t { nx:=fun _ H'=>Q .non H',rt:=Q } (start N vs) H):A8 P w K mg base CX0 (k+1) f fd ps sp:=by
 obtain⟨oc,od,kV,doc,pm,an,cdv,ct,osl,rfl,lk,hcd⟩:=F.ex
 refine by5 lk hcd S len fun A outer s H vs Q E hr hsp=>?_
 obtain⟨t,h,q⟩:=hbody cdv A outer s H vs Q E hr hsp
 exact⟨t,h.nox,q⟩
theorem Fun.binds {x qual:Str}{st:Stmt}{f:Addr}{fd:u0}{ps:List Str}(F:Fun K x qual st f fd)
  (h:∀ (kV doc pm:c6) (an:Option Addr) (cdv ct:c6) (us:List c6),us.length=ps.length->bC2 (m7 x qual (B5 st) (A7 st) (j5 st) .none kV doc pm an cdv ct) ⟨us,[]⟩=pure (ps.zip us)):Binds K fd ps []:=by
 obtain⟨oc,od,kV,doc,pm,an,cdv,ct,osl,rfl,lk,hcd⟩:=F.ex
 exact .all (h kV doc pm an cdv ct)
theorem E9 {x qual:Str}{st:Stmt}{f:Addr}{oc:c6}{od an:Option Addr}{osl:Array (Option c6)}{kV doc pm cdv ct:c6}(l:K.lookup f=some ⟨oc,od,.func (m7 x qual (B5 st) (A7 st) (j5 st) .none kV doc pm an cdv ct),osl⟩)
  (c:m3 K cdv qual=true)(k:k6 K (.ref f)=true):Fun K x qual st f (m7 x qual (B5 st) (A7 st) (j5 st) .none kV doc pm an cdv ct):=⟨⟨oc,od,kV,doc,pm,an,cdv,ct,osl,rfl,l,c⟩,k⟩
end
section
variable {X:Cx}
theorem pv (i:Nat){x:Str}{pos:Pos}(hN:X.N[i]?=some x:=by rfl)(hv:Vis X.env.scope x:=by first | exact Or.inl rfl | exact Or.inr (Or.inl rfl) | exact Or.inr (Or.inr rfl))(hd:(x == ("__debug__":Str))=false:=by decide)
  (hcd:(x == ("__classdict__":Str))=false:=by decide):PE X (.Name x pos) (ca6 i):=bt1 hN hv hd hcd
end
theorem K3 {A B:Prop}(h:B):if false=true then A else B:=by
 rw[if_neg k9]
 exact h
theorem J0 {A B:Prop}(h:A):if true=true then A else B:=by
 rw[if_pos rfl]
 exact h
theorem am7 {c A B:Prop}[Decidable c](h1:c->A)(h2:¬ c->B):if c then A else B:=by
 by_cases h:c
 ·rw[if_pos h]
  exact h1 h
 ·rw[if_neg h]
  exact h2 h
theorem aD8 {c A B:Prop}[Decidable c](hc:c)(h:B):if (!decide c)=true then A else B:=by
 rw[decide_eq_true hc]
 exact K3 h
def u9 (H H':Hp):Prop:=∀ b o,H b=some o->H' b=some o
theorem u9.refl (H:Hp):u9 H H:=fun _ _ h=>h
theorem u9.trans {H H1 H2:Hp}(a:u9 H H1)(b:u9 H1 H2):u9 H H2:=fun c o h=>b c o (a c o h)
theorem u9.free {H H':Hp}(e:u9 H H'){l:Addr}(h:H' l=Option.none):H l=Option.none:=by
 cases q:H l with
 | none=>rfl
 | some o =>
  rw[e l o q]at h
  cases h
theorem u9.seq {K:W.Frag}{H H':Hp}{a:Addr}{xs:List V}(e:u9 H H')(h:SqL K H a xs):SqL K H' a xs:=by
 rcases h with(h | ⟨o,h⟩) | h
 ·exact .inl (.inl (e _ _ h))
 ·exact .inl (.inr ⟨o,e _ _ h⟩)
 ·exact .inr h
end L2
namespace Tim
open PySem PyProof.Rows
structure Ord (B:E8->E8->Bool):Prop where
 irr:∀ x,B x x=false
 tr:∀ x y z,B x y=true->B y z=true->B x z=true
 ng:∀ x y z,B x z=true->B x y=true\/B y z=true
def le (B:E8->E8->Bool)(x y:E8):Prop:=B y x=false
section
variable {prog:j8} {w:x6} {A:u4} {E:c6->c7->Prop} {s:c7} {κ:aa7} {S:E8->Prop} {B:E8->E8->Bool}
def Cmp (prog:j8)(w:x6)(A:u4)(E:c6->c7->Prop)(s:c7)(κ:aa7)(S:E8->Prop)(B:E8->E8->Bool):Prop:=
 ∀ (x y:E8),S x->S y->∀ (Q:Bool->c7->Prop),Q (B x y) s->o7 (y6 prog w) A (keyLt' κ x.1 y.1) Q (fun _ _=>False) s
theorem bQ3 (C:Cmp prog w A E s κ S B){x y:E8}{st:M6}{Q:Option Bool->M6->Prop}(hk:kindOf st=κ)(hx:S x)(hy:S y)(h:Q (some (B x y)) st):wpS (y6 prog w) A E s (lt' x y) Q st:=by
 rw[lt'_eq]
 refine E2 (bC8 ?_)
 rw[hk]
 refine E2 (wpS_lift (aM3 ?_))
 refine E3 (C x y hx hy (fun b s'=>s'=s/\b=B x y) ⟨rfl,rfl⟩) (fun b s' hb=>?_) (fun _ _ f=>f.elim)
 obtain⟨rfl,rfl⟩:=hb
 exact⟨rfl,K8 h⟩
theorem aR8 {arr:Array E8}{i:Nat}{x:E8}{st:M6}{Q:E8->M6->Prop}(hi:arr[i]?=some x)(h:Q x st):wpS (y6 prog w) A E s (elem' arr i) Q st:=by
 rw[elem'_eq,hi]
 exact K8 h
theorem bk4 (C:Cmp prog w A E s κ S B){i j:Nat}{x y:E8}{st:M6}{Q:Option Bool->M6->Prop}(hk:kindOf st=κ)(hi:(t7 st)[i]?=some x)(hj:(t7 st)[j]?=some y)(hx:S x)(hy:S y)(h:Q (some (B x y)) st) :
  wpS (y6 prog w) A E s (ltAt' i j) Q st:=by
 rw[ltAt'_eq]
 refine E2 (bC8 ?_)
 show wpS _ _ _ _ (do let x <- elem' (t7 st) i;let y <- elem' (t7 st) j;lt' x y) Q st
 exact E2 (aR8 hi (E2 (aR8 hj (bQ3 C hk hx hy h))))
theorem aR7 {n:String}{st:M6}{Q:Unit->M6->Prop}(h:Q () st):wpS (y6 prog w) A E s (liftM (rule n):StateT M6 Sem Unit) Q st:=wpS_lift (ah3 ⟨rfl,h⟩)
end
structure MI (R:E8->E8->Prop) (out ra rb all:List E8):Prop where
 so:out.Pairwise R
 oa:∀ x∈out,∀ y∈ra,R x y
 ob:∀ x∈out,∀ y∈rb,R x y
 sa:ra.Pairwise R
 sb:rb.Pairwise R
 pm:(out++(ra++rb)).Perm all
structure Sm (st st':M6):Prop where
 k:kindOf st'=kindOf st
 a:t7 st'=t7 st
 p:ac6 st'=ac6 st
 f:aa8 st'=aa8 st
section
variable {prog:j8} {w:x6} {A:u4} {E:c6->c7->Prop} {s:c7} {κ:aa7} {S:E8->Prop} {B:E8->E8->Bool}
structure LoI (B:E8->E8->Bool) (a b out:Array E8) (ia ib:Nat):Prop where
 m:MI (le B) out.toList (a.toList.drop ia) (b.toList.drop ib) (a.toList++b.toList)
 ha:ia+1<a.size
 hb:ib<b.size
 sz:out.size=ia+ib
def Good (B:E8->E8->Bool)(a b r:Array E8):Prop:=r.toList.Pairwise (le B)/\r.toList.Perm (a.toList++b.toList)
end
section
variable {prog:j8} {w:x6} {A:u4} {E:c6->c7->Prop} {s:c7} {κ:aa7} {S:E8->Prop} {B:E8->E8->Bool}
abbrev HM (B:E8->E8->Bool)(a b out:Array E8)(na nb:Nat):Prop:=MI (fun x y=>le B y x) out.toList (a.toList.take na).reverse (b.toList.take nb).reverse (a.toList++b.toList)
structure HiI (B:E8->E8->Bool) (a b out:Array E8) (na nb:Nat):Prop where
 m:HM B a b out na nb
 ha:0<na
 ha':na<=a.size
 hb:1<nb
 hb':nb<=b.size
 sz:out.size+na+nb=a.size+b.size
end
def KF {O:aY7}(f:E8->O.α)(d:O.α)(xs:Array E8)(i:Nat):O.α:=match xs[i]? with
 | some p=>f p
 | none=>d
def Bf {O:aY7}(f:E8->O.α)(x y:E8):Bool:=O.blt (f x) (f y)
section
variable {O:aY7} {f:E8->O.α} {d:O.α}
theorem ak2 {xs ys:Array E8}{i j:Nat}(h:xs[i]?=ys[j]?):KF f d xs i=KF f d ys j:=by unfold KF;rw[h]
theorem aA1 {xs:Array E8}{i:Nat}{x:E8}(h:xs[i]?=some x):KF f d xs i=f x:=by unfold KF;rw[h]
theorem aL6 {xs:Array E8}{src dd:Nat}(hs:src<xs.size)(hd:dd<=src)(k:Nat) :
  KF f d (bubble xs src dd) k=if k=src - dd then KF f d xs src else if src - dd<k/\k<=src then KF f d xs (k - 1) else KF f d xs k:=by
 have e:=getElem?_bubble hs dd hd k
 repeat' split at e
 all_goals first
  | (rw[if_pos (by assumption)];exact ak2 e)
  | (rw[if_neg (by assumption),if_pos (by assumption)];exact ak2 e)
  | (rw[if_neg (by assumption),if_neg (by assumption)];exact ak2 e)
theorem av7 {xs:Array E8}{i j:Nat}(hj:j<=xs.size)(k:Nat):KF f d (mirror xs i j ((j - i) / 2)) k=if i<=k/\k<j then KF f d xs (i+j - 1 - k) else KF f d xs k:=by
 have e:=bZ9 (i:=i) hj k
 split at e
 ·rw[if_pos (by assumption)];exact ak2 e
 ·rw[if_neg (by assumption)];exact ak2 e
theorem O6 {xs:Array E8}{i j:Nat}(hj:j<=xs.size)(heq:∀ k,i<=k->k<j->KF f d xs k=KF f d xs (j - 1))(k:Nat):KF f d (mirror xs i j ((j - i) / 2)) k=KF f d xs k:=by
 rw[av7 hj]
 split
 ·rw[heq _ (by omega) (by omega),heq k (by omega) (by omega)]
 ·rfl
end
def R5 {O:aY7}(f:E8->O.α)(d:O.α)(lo:Nat)(xs:Array E8)(k:Nat):Prop:=∀ i j,i<=j->j<k->O.kle (KF f d xs (lo+i)) (KF f d xs (lo+j))
def ah0 {O:aY7}(f:E8->O.α)(d:O.α)(lo:Nat)(xs:Array E8)(k:Nat):Prop:=∀ i j,i<=j->j<k->O.kle (KF f d xs (lo+j)) (KF f d xs (lo+i))
def Pre (lo:Nat)(xs ys:Array E8):Prop:=∀ k,k<lo->ys[k]?=xs[k]?
theorem Pre.rf (lo:Nat)(xs:Array E8):Pre lo xs xs:=fun _ _=>rfl
theorem Pre.trans {lo:Nat}{xs ys zs:Array E8}(a:Pre lo xs ys)(b:Pre lo ys zs):Pre lo xs zs:=fun k hk=>(b k hk).trans (a k hk)
theorem Pre.mirror {lo i j:Nat}{xs:Array E8}(hj:j<=xs.size)(hi:lo<=i):Pre lo xs (mirror xs i j ((j - i) / 2)):=fun k hk=>by
 rw[bZ9 hj,if_neg (by omega)]
theorem Pre.bubble {lo src dd:Nat}{xs:Array E8}(hs:src<xs.size)(hd:dd<=src)(hl:lo<=src - dd):Pre lo xs (bubble xs src dd):=fun k hk=>by
 rw[getElem?_bubble hs dd hd,if_neg (by omega),if_neg (by omega)]
structure SI (a₀:Array E8) (κ:aa7) (p:Array (Nat × Nat × Nat)) (st:M6):Prop where
 perm:(t7 st).Perm a₀
 kind:kindOf st=κ
 failed:aa8 st=none
 pend:ac6 st=p
section
variable {prog:j8} {w:x6} {A:u4} {E:c6->c7->Prop} {s:c7} {κ:aa7} {a₀:Array E8} {p:Array (Nat × Nat × Nat)} {O:aY7} {f:E8->O.α} {d:O.α}
theorem SI.size {st:M6}(h:SI a₀ κ p st):(t7 st).size=a₀.size:=h.perm.size_eq
theorem SI.setArr {st:M6}(h:SI a₀ κ p st){xs:Array E8}(hp:xs.Perm (t7 st)):SI a₀ κ p (setArr st xs):=⟨hp.trans h.perm,h.kind,h.failed,h.pend⟩
theorem SI.at {st:M6}(h:SI a₀ κ p st){i:Nat}(hi:i<a₀.size):∃ x,(t7 st)[i]?=some x/\x∈a₀.toList:=by
 have hi':i<(t7 st).size:=by rw[h.size];exact hi
 exact⟨(t7 st)[i],getElem?_pos _ i hi',(ae9.mp h.perm).mem_iff.mp (by simp)⟩
abbrev bL4 (prog:j8)(w:x6)(A:u4)(E:c6->c7->Prop)(s:c7)(κ:aa7)(a₀:Array E8){O:aY7}(f:E8->O.α):Prop:=Cmp prog w A E s κ (·∈a₀.toList) (Bf f)
theorem af6 (C:bL4 prog w A E s κ a₀ f){st:M6}{i j:Nat}{Q:Option Bool->M6->Prop}(hB:SI a₀ κ p st)(hi:i<a₀.size)(hj:j<a₀.size)
  (h:Q (some (O.blt (KF f d (t7 st) i) (KF f d (t7 st) j))) st):wpS (y6 prog w) A E s (ltAt' i j) Q st:=by
 obtain⟨x,e1,hx⟩:=hB.at hi
 obtain⟨y,e2,hy⟩:=hB.at hj
 rw[aA1 e1,aA1 e2]at h
 exact bk4 C hB.kind e1 e2 hx hy h
theorem bd4 {st:M6} {lo a nrem:Nat} {Q:Option (Option Nat) × Nat->M6->Prop} {b:Nat->Option (Option Nat) × Nat->StateT M6 Sem (ForInStep (Option (Option Nat) × Nat))} (ha:1<=a) (han:a<=nrem)
  (hb : ∀ x n (R : ForInStep (Option (Option Nat) × Nat) -> M6 -> Prop), 1 <= n -> n < nrem -> (O.klt (KF f d (t7 st) (lo + n)) (KF f d (t7 st) (lo + n - 1)) -> R (.done (none, n)) st) ->
   (O.kle (KF f d (t7 st) (lo+n - 1)) (KF f d (t7 st) (lo+n))->R (.yield (none,n+1)) st)->wpS (y6 prog w) A E s (b x (none,n)) R st)
  (hs:R5 f d lo (t7 st) a)
  (h:∀ n,a<=n->n<=nrem->R5 f d lo (t7 st) n->(n=nrem\/O.klt (KF f d (t7 st) (lo+n)) (KF f d (t7 st) (lo+n - 1)))->Q (none,n) st) :
  wpS (y6 prog w) A E s (forIn [a:nrem] (none,a) b) Q st:=by
 refine ak6 (I:=fun x c st'=>st'=st/\c=(none,x)/\R5 f d lo (t7 st) x) ?step ?fin ⟨rfl,rfl,hs⟩
 case fin =>
  rintro c st' ⟨rfl,rfl,hs'⟩
  rw[show max a nrem=nrem by omega]at hs' ⊢
  exact h nrem han (d4 _) hs' (.inl rfl)
 case step =>
  rintro x c st' hax hxn ⟨rfl,rfl,hs'⟩
  refine hb x x _ (by omega) hxn (fun q=>h x hax (by omega) hs' (.inr q)) (fun q=>⟨rfl,rfl,fun i j hij hj=>?_⟩)
  by_cases hjx:j<x
  ·exact hs' i j hij hjx
  ·have hj':j=x:=by omega
   subst hj'
   by_cases hi':i=j
   ·subst hi';exact KeyOrd.kle_refl _
   ·refine KeyOrd.kle_trans (hs' i (j - 1) (by omega) (by omega)) ?_
    rw[show lo+(j - 1)=lo+j - 1 by omega]
    exact q
theorem bp5 {st:M6} {lo n nrem:Nat} {Q:Option (Option Nat) × Nat × Nat->M6->Prop} {b:Nat->Option (Option Nat) × Nat × Nat->StateT M6 Sem (ForInStep (Option (Option Nat) × Nat × Nat))} (hn:lo+nrem<=a₀.size) (h1:1<=n) (hnn:n<=nrem) (hB:SI a₀ κ p st)
  (hb : ∀ y x neq st' (R : ForInStep (Option (Option Nat) × Nat × Nat) -> M6 -> Prop), SI a₀ κ p st' -> 1 <= x -> x < nrem ->
   (O.klt (KF f d (t7 st') (lo+x)) (KF f d (t7 st') (lo+x - 1))->0<neq->R (.yield (none,x+1,0)) (setArr st' (mirror (t7 st') (lo+x - (neq+1)) (lo+x) ((lo+x - (lo+x - (neq+1))) / 2)))) ->
   (O.klt (KF f d (t7 st') (lo+x)) (KF f d (t7 st') (lo+x - 1))->R (.yield (none,x+1,0)) st') ->
   (R (.done (none,x,neq)) st') ->
   (O.kle (KF f d (t7 st') (lo+x - 1)) (KF f d (t7 st') (lo+x))->O.kle (KF f d (t7 st') (lo+x)) (KF f d (t7 st') (lo+x - 1))->R (.yield (none,x+1,neq+1)) st')->wpS (y6 prog w) A E s (b y (none,x,neq)) R st')
  (hs:ah0 f d lo (t7 st) n)
  (h:∀ m neq st',SI a₀ κ p st'->Pre lo (t7 st) (t7 st')->n<=m->m<=nrem->ah0 f d lo (t7 st') m->neq+1<=m->(∀ i,m - (neq+1)<=i->i<m->KF f d (t7 st') (lo+i)=KF f d (t7 st') (lo+m - 1))->Q (none,m,neq) st') :
  wpS (y6 prog w) A E s (forIn [n:nrem] (none,n,0) b) Q st:=by
 refine ak6 (I:=fun x c st'=>∃ neq,c=(none,x,neq)/\SI a₀ κ p st'/\Pre lo (t7 st) (t7 st')/\ah0 f d lo (t7 st') x/\neq+1<=x /\
   (∀ i,x - (neq+1)<=i->i<x->KF f d (t7 st') (lo+i)=KF f d (t7 st') (lo+x - 1))) ?step ?fin ⟨0,rfl,hB,Pre.rf _ _,hs,by omega,fun i h1 h2=>by congr 1;omega⟩
 case fin =>
  rintro c st' ⟨neq,rfl,hB',hp',hs',hq,he⟩
  rw[show max n nrem=nrem by omega]at hs' hq he ⊢
  exact h nrem neq st' hB' hp' hnn (d4 _) hs' hq he
 case step =>
  rintro x c st' hax hxn ⟨neq,rfl,hB',hp',hs',hq,he⟩
  have hsz:lo+x<=(t7 st').size:=by rw[hB'.size];omega
  have step1:O.klt (KF f d (t7 st') (lo+x)) (KF f d (t7 st') (lo+x - 1))->∀ xs:Array E8,(∀ k,KF f d xs k=KF f d (t7 st') k)->ah0 f d lo xs (x+1):=by
   intro hless xs hk i j hij hj
   rw[hk,hk]
   by_cases hjx:j<x
   ·exact hs' i j hij hjx
   ·have hj':j=x:=by omega
    subst hj'
    by_cases hi':i=j
    ·subst hi';exact KeyOrd.kle_refl _
    ·refine KeyOrd.kle_trans (KeyOrd.kle_of_klt hless) ?_
     rw[show lo+j - 1=lo+(j - 1) by omega]
     exact hs' i (j - 1) (by omega) (by omega)
  have he':∀ k,lo+x - (neq+1)<=k->k<lo+x->KF f d (t7 st') k=KF f d (t7 st') (lo+x - 1):=fun k h1 h2=>by
   have:=he (k - lo) (by omega) (by omega)
   rw[show lo+(k - lo)=k by omega]at this
   exact this
  refine hb x x neq st' _ hB' (by omega) hxn (fun q hneq=>?_) (fun q=>?_) (h x neq st' hB' hp' hax (by omega) hs' hq he) (fun q q'=>?_)
  ·exact⟨0,rfl,hB'.setArr (bj6 _ _ _ _),hp'.trans (Pre.mirror hsz (by omega)),step1 q _ (O6 hsz he'),by omega,fun i h1 h2=>by congr 1;omega⟩
  ·exact⟨0,rfl,hB',hp',step1 q _ (fun _=>rfl),by omega,fun i h1 h2=>by congr 1;omega⟩
  ·have heqx:KF f d (t7 st') (lo+x)=KF f d (t7 st') (lo+x - 1):=KeyOrd.kle_antisymm q' q
   refine⟨neq+1,rfl,hB',hp',fun i j hij hj=>?_,by omega,fun i h1 h2=>?_⟩
   ·by_cases hjx:j<x
    ·exact hs' i j hij hjx
    ·have hj':j=x:=by omega
     subst hj'
     by_cases hi':i=j
     ·subst hi';exact KeyOrd.kle_refl _
     ·rw[heqx,show lo+j - 1=lo+(j - 1) by omega];exact hs' i (j - 1) (by omega) (by omega)
   ·rw[show lo+(x+1) - 1=lo+x by omega]
    by_cases hix:i=x
    ·subst hix;rfl
    ·rw[heqx];exact he i (by omega) (by omega)
theorem wpS_countRun (C:bL4 prog w A E s κ a₀ f) {st:M6} {lo nrem:Nat} {Q:Option Nat->M6->Prop} (d:O.α) (hn:lo+nrem<=a₀.size) (h1:1<=nrem) (hB:SI a₀ κ p st)
    (h:∀ m st',SI a₀ κ p st'->Pre lo (t7 st) (t7 st')->1<=m->m<=nrem->R5 f d lo (t7 st') m->Q (some m) st') :
    wpS (y6 prog w) A E s (countRun' lo nrem) Q st:=by
  rw[countRun'_eq]
  dsimp only
  refine E2 (bd4 (f:=f) (d:=d) (lo:=lo) (d4 1) h1 (fun x n R hn1 hn2 q1 q2=>?_) (fun i j hij hj=>by have:i=j:=(by omega);subst this;exact KeyOrd.kle_refl _) fun n hn1 hn2 hsn hor=>?_)
  · dsimp only
    refine E2 (af6 (d:=d) C hB (by omega) (by omega) ?_)
    cases e:O.blt (KF f d (t7 st) (lo+n)) (KF f d (t7 st) (lo+n - 1)) with
    | true=>exact K8 (q1 e)
    | false=>exact K8 (q2 e)
  dsimp only
  by_cases hnn:n=nrem
  · rw[if_pos (by simpa using hnn)]
    exact K8 (h n st hB (Pre.rf _ _) hn1 hn2 hsn)
  rw[if_neg (by simpa using hnn)]
  have hlt:=hor.resolve_left hnn
  by_cases hrose:1<n/\O.blt (KF f d (t7 st) lo) (KF f d (t7 st) (lo+n - 1))=true
  · rw[if_pos hrose.1]
    refine E2 (af6 (d:=d) C hB (by omega) (by omega) ?_)
    rw[hrose.2]
    exact K8 (h n st hB (Pre.rf _ _) hn1 hn2 hsn)
  have hfell:1<n->O.blt (KF f d (t7 st) lo) (KF f d (t7 st) (lo+n - 1))=false:=fun hgt=>by
    cases e:O.blt (KF f d (t7 st) lo) (KF f d (t7 st) (lo+n - 1)) with
    | false=>rfl
    | true=>exact absurd ⟨hgt,e⟩ hrose
  have fall:∃ st2,SI a₀ κ p st2/\Pre lo (t7 st) (t7 st2)/\ah0 f d lo (t7 st2) (n+1)/\(n > 1->st2=setArr st (mirror (t7 st) lo (lo+n) ((lo+n - lo) / 2)))/\(¬ n > 1->st2=st):=by
    by_cases hgt:1<n
    · have hfell:=hfell hgt
      have hsz:lo+n<=(t7 st).size:=by rw[hB.size];omega
      have hall:∀ k,lo<=k->k<lo+n->KF f d (t7 st) k=KF f d (t7 st) (lo+n - 1):=by
        intro k hk0 hk
        have a1:=hsn 0 (k - lo) (by omega) (by omega)
        have a2:=hsn (k - lo) (n - 1) (by omega) (by omega)
        rw[show lo+0=lo by omega,show lo+(k - lo)=k by omega]at a1
        rw[show lo+(k - lo)=k by omega,show lo+(n - 1)=lo+n - 1 by omega]at a2
        exact KeyOrd.kle_antisymm a2 (KeyOrd.kle_trans hfell a1)
      refine⟨_,hB.setArr (bj6 _ _ _ _),Pre.mirror hsz (d4 _),?_,fun _=>rfl,fun e=>by omega⟩
      intro i j hij hj
      show O.kle (KF f d (mirror (t7 st) _ _ _) (lo+j)) (KF f d (mirror (t7 st) _ _ _) (lo+i))
      rw[O6 hsz hall,O6 hsz hall]
      by_cases hjn:j<n
      · rw[hall (lo+i) (by omega) (by omega),hall (lo+j) (by omega) (by omega)];exact KeyOrd.kle_refl _
      · have hj':j=n:=by omega
        subst hj'
        by_cases hi':i=j
        · subst hi';exact KeyOrd.kle_refl _
        · rw[hall (lo+i) (by omega) (by omega)];exact KeyOrd.kle_of_klt hlt
    · have hn1':n=1:=by omega
      subst hn1'
      refine⟨st,hB,Pre.rf _ _,?_,fun q=>by omega,fun _=>rfl⟩
      intro i j hij hj
      by_cases hi':i=j
      · subst hi';exact KeyOrd.kle_refl _
      · have hi0:i=0:=by omega
        have hj1:j=1:=by omega
        subst hi0;subst hj1
        rw[show lo+0=lo+1 - 1 by omega]
        exact KeyOrd.kle_of_klt hlt
  obtain⟨st2,hB2,hp2,hs2,e2,e3⟩:=fall
  by_cases hgt:n > 1
  all_goals first
    | (rw [if_pos hgt]
       refine E2 (af6 (d:=d) C hB (by omega) (by omega) ?_)
       rw[hfell hgt]
       dsimp only
       rw[if_neg k9]
       refine E2 (aH1 ?_)
       rw[<- e2 hgt])
    | (rw [if_neg hgt]
       have e3:=e3 hgt
       rw[<- e3])
  all_goals
    clear e2 e3
    refine E2 (aR7 ?_)
    refine E2 (bp5 (f:=f) (d:=d) (lo:=lo) hn (by omega) (by omega) hB2 (fun y x neq st' R hB' x1 x2 q1 q2 q3 q4=>?_) hs2 fun m neq st' hB' hp' hm1 hm2 hs' hq he=>?_)
    · dsimp only
      refine E2 (af6 (d:=d) C hB' (by omega) (by omega) ?_)
      cases e:O.blt (KF f d (t7 st') (lo+x)) (KF f d (t7 st') (lo+x - 1)) with
      | true =>
        dsimp only
        rw[if_pos rfl]
        split
        · rename_i hz
          exact E2 (aH1 (K8 (q1 e hz)))
        · exact K8 (q2 e)
      | false =>
        dsimp only
        rw[if_neg k9]
        refine E2 (af6 (d:=d) C hB' (by omega) (by omega) ?_)
        cases e':O.blt (KF f d (t7 st') (lo+x - 1)) (KF f d (t7 st') (lo+x)) with
        | true=>exact K8 q3
        | false=>exact K8 (q4 e e')
    · dsimp only
      have hsz:lo+m<=(t7 st').size:=by rw[hB'.size];omega
      have he':∀ k,lo+m - (neq+1)<=k->k<lo+m->KF f d (t7 st') k=KF f d (t7 st') (lo+m - 1):=fun k h1 h2=>by
        have:=he (k - lo) (by omega) (by omega)
        rw[show lo+(k - lo)=k by omega]at this
        exact this
      have tailOk:∀ st3,SI a₀ κ p st3->Pre lo (t7 st) (t7 st3)->ah0 f d lo (t7 st3) m->SI a₀ κ p (setArr st3 (mirror (t7 st3) lo (lo+m) ((lo+m - lo) / 2)))/\Pre lo (t7 st) (mirror (t7 st3) lo (lo+m) ((lo+m - lo) / 2))/\R5 f d lo (mirror (t7 st3) lo (lo+m) ((lo+m - lo) / 2)) m:=fun st3 hB3 hp3 hs3=>by
        have hsz3:lo+m<=(t7 st3).size:=by rw[hB3.size];omega
        refine⟨hB3.setArr (bj6 _ _ _ _),hp3.trans (Pre.mirror hsz3 (d4 _)),fun i j hij hj=>?_⟩
        rw[av7 hsz3,av7 hsz3,if_pos (by omega),if_pos (by omega),show lo+(lo+m) - 1 - (lo+i)=lo+(m - 1 - i) by omega,show lo+(lo+m) - 1 - (lo+j)=lo+(m - 1 - j) by omega]
        exact hs3 _ _ (by omega) (by omega)
      have mm:ah0 f d lo (mirror (t7 st') (lo+m - (neq+1)) (lo+m) ((lo+m - (lo+m - (neq+1))) / 2)) m:=fun i j hij hj=>by
        rw[O6 hsz he',O6 hsz he']
        exact hs' i j hij hj
      by_cases hneq:neq > 0
      all_goals first
        | (rw [if_pos hneq]
           refine E2 (aH1 (E2 (aH1 ?_)))
           obtain⟨hB4,hp4,hs4⟩:=tailOk (setArr st' (mirror (t7 st') (lo+m - (neq+1)) (lo+m) ((lo+m - (lo+m - (neq+1))) / 2))) (hB'.setArr (bj6 _ _ _ _)) ((hp2.trans hp').trans (Pre.mirror hsz (by omega))) mm)
        | (rw [if_neg hneq]
           refine E2 (aH1 ?_)
           obtain⟨hB4,hp4,hs4⟩:=tailOk st' hB' (hp2.trans hp') hs')
      all_goals
        refine E2 (bd4 (f:=f) (d:=d) (lo:=lo) (by omega) hm2 (fun x n R hn1 hn2 q1 q2=>?_) hs4 fun n' hn1' hn2' hsn' _=>K8 (h n' _ hB4 hp4 (by omega) hn2' hsn'))
        dsimp only
        refine E2 (af6 (d:=d) C hB4 (by omega) (by omega) ?_)
        revert q1 q2
        generalize KF f d (t7 _) (lo+n)=u
        generalize KF f d (t7 _) (lo+n - 1)=v
        intro q1 q2
        cases e:O.blt u v with
        | true=>exact K8 (q1 e)
        | false=>exact K8 (q2 e)
theorem ax6 (C:bL4 prog w A E s κ a₀ f) {st:M6} {lo n ok:Nat} {Q:Bool->M6->Prop} (d:O.α) (hn:lo+n<=a₀.size) (hok:ok<=n) (hB:SI a₀ κ p st) (hs:R5 f d lo (t7 st) ok)
  (h:∀ st',SI a₀ κ p st'->Pre lo (t7 st) (t7 st')->R5 f d lo (t7 st') n->Q true st'):wpS (y6 prog w) A E s (binarySort' lo n ok) Q st:=by
 rw[binarySort'_eq]
 refine E2 (wpS_mono (ak6 (I:=fun k c st'=>c=(none,())/\SI a₀ κ p st'/\Pre lo (t7 st) (t7 st')/\R5 f d lo (t7 st') (min k n))
  (Q:=fun c st'=>c=(none,())/\SI a₀ κ p st'/\Pre lo (t7 st) (t7 st')/\R5 f d lo (t7 st') n) ?step ?fin ?init) ?post)
 case post =>
  rintro c st' ⟨rfl,hB',hp',hs'⟩
  exact K8 (h st' hB' hp' hs')
 case init =>
  refine⟨rfl,hB,Pre.rf _ _,fun i j hij hj=>?_⟩
  by_cases h1:ok=0
  ·have:i=j:=by omega
   subst this;exact KeyOrd.kle_refl _
  ·exact hs i j hij (by omega)
 case fin =>
  rintro c st' ⟨hc,hB',hp',hs'⟩
  refine⟨hc,hB',hp',?_⟩
  rwa [show min (max (max ok 1) n) n=n by omega]at hs'
 case step =>
  rintro k c st' hak hkn ⟨rfl,hB',hp',hs'⟩
  rw[show min k n=k by omega]at hs'
  have hk:lo+k<a₀.size:=by omega
  refine E2 (wpS_mono (ak6 (I:=fun x c st''=>st''=st'/\∃ l r,c=(none,l,r)/\l<=r/\r<=k/\r - l<=k - x /\
    (∀ i,i<l->O.kle (KF f d (t7 st') (lo+i)) (KF f d (t7 st') (lo+k)))/\(∀ i,r<=i->i<k->O.klt (KF f d (t7 st') (lo+k)) (KF f d (t7 st') (lo+i))))
   (Q := fun c st'' => st'' = st' /\ ∃ l r, c = (none, l, r) /\ l <= k /\
    (∀ i,i<l->O.kle (KF f d (t7 st') (lo+i)) (KF f d (t7 st') (lo+k)))/\(∀ i,l<=i->i<k->O.klt (KF f d (t7 st') (lo+k)) (KF f d (t7 st') (lo+i)))) ?istep ?ifin ?iinit) ?ipost)
  case iinit=>exact⟨rfl,0,k,rfl,by omega,by omega,by omega,fun i hi=>by omega,fun i h1 h2=>by omega⟩
  case ifin =>
   rintro c st'' ⟨rfl,l,r,rfl,hlr,hrk,hm,hlo,hhi⟩
   have:l=r:=by omega
   subst this
   exact⟨rfl,l,l,rfl,hrk,hlo,hhi⟩
  case istep =>
   rintro x c st'' _ hxk ⟨rfl,l,r,rfl,hlr,hrk,hm,hlo,hhi⟩
   dsimp only
   by_cases hge:l≥r
   ·rw[if_pos hge]
    have:l=r:=by omega
    subst this
    exact K8 ⟨rfl,l,l,rfl,hrk,hlo,hhi⟩
   ·rw[if_neg hge]
    refine E2 (af6 (d:=d) C hB' hk (by omega) ?_)
    cases hless:O.blt (KF f d (t7 st'') (lo+k)) (KF f d (t7 st'') (lo+(l+r) / 2))
    case true =>
     simp only[if_true]
     refine K8 ⟨rfl,l,(l+r) / 2,rfl,by omega,by omega,by omega,hlo,fun i h1 h2=>?_⟩
     exact KeyOrd.klt_of_klt_of_kle hless (hs' _ _ h1 h2)
    case false =>
     simp only[o6,if_false]
     refine K8 ⟨rfl,(l+r) / 2+1,r,rfl,by omega,by omega,by omega,fun i h1=>?_,hhi⟩
     exact KeyOrd.kle_trans (hs' i ((l+r) / 2) (by omega) (by omega)) (show O.kle _ _ from hless)
  case ipost =>
   rintro c st'' ⟨rfl,l,r,rfl,hlk,hlo,hhi⟩
   show wpS _ _ _ _ (do moveDown' (lo+k) (lo+l);pure (ForInStep.yield (none,()))) _ _
   rw[moveDown'_eq]
   have hks:lo+k<(t7 st'').size:=by rw[hB'.size];exact hk
   refine E2 (wpS_modify (K8 ⟨rfl,hB'.setArr (bubble_perm _ _ _),hp'.trans (Pre.bubble hks (by omega) (by omega)),?_⟩))
   rw[show min (k+1) n=k+1 by omega]
   intro i j hij hj
   show O.kle (KF f d (bubble (t7 st'') (lo+k) (lo+k - (lo+l))) (lo+i)) (KF f d (bubble (t7 st'') (lo+k) (lo+k - (lo+l))) (lo+j))
   rw[aL6 hks (by omega),aL6 hks (by omega),show lo+k - (lo+k - (lo+l))=lo+l by omega]
   have e1:∀ t:Nat,0<t->lo+t - 1=lo+(t - 1):=fun t ht=>by omega
   repeat' split
   all_goals first
    | (exfalso;omega)
    | exact KeyOrd.kle_refl _
    | exact hlo _ (by omega)
    | (rw[e1 _ (by omega)];exact KeyOrd.kle_of_klt (hhi _ (by omega) (by omega)))
    | exact KeyOrd.kle_of_klt (hhi _ (by omega) (by omega))
    | exact hs' _ _ (by omega) (by omega)
    | (rw[e1 _ (by omega)];exact hs' _ _ (by omega) (by omega))
    | (rw[e1 _ (by omega),e1 _ (by omega)];exact hs' _ _ (by omega) (by omega))
end
def shape (ps:List (Nat × Nat × Nat)):List (Nat × Nat):=ps.map fun x=>(x.1,x.2.1)
def ce2:Nat->List (List E8)->List (Nat × Nat)
 | _,[]=>[]
 | k,r::rs=>(k,r.length)::ce2 (k+r.length) rs
structure SR (a₀:Array E8) (κ:aa7) (B:E8->E8->Bool) (runs:List (List E8)) (suf:List E8) (st:M6):Prop where
 perm:(t7 st).Perm a₀
 kind:kindOf st=κ
 failed:aa8 st=none
 sh:shape (ac6 st).toList=ce2 0 runs
 ok:∀ r∈runs,r≠[]/\r.Pairwise (le B)
 arr:(t7 st).toList=runs.flatten++suf
section
variable {prog:j8} {w:x6} {A:u4} {E:c6->c7->Prop} {s:c7} {κ:aa7} {a₀:Array E8} {B:E8->E8->Bool}
end
section
variable {prog:j8} {w:x6} {A:u4} {E:c6->c7->Prop} {s:c7} {κ:aa7} {a₀:Array E8} {O:aY7} {f:E8->O.α}
theorem bS8 {d:O.α}{xs:Array E8}{lo n:Nat}(hs:R5 f d lo xs n)(hn:lo+n<=xs.size):((xs.toList.drop lo).take n).Pairwise (le (Bf f))/\((xs.toList.drop lo).take n).length=n:=by
 refine⟨D6.mpr fun i j hi hj hij=>?_,by rw[o4,E1,p0];omega⟩
 have hjn:j<n:=by rw[o4]at hj;omega
 have gi:∀ k,(hk:k<n)->(xs.toList.drop lo)[k]?=some (xs[lo+k]'(by omega)):=fun k hk=>by
  rw[bO9,u5]
  exact getElem?_pos xs _ _
 have e1:((xs.toList.drop lo).take n)[i]=xs[lo+i]'(by omega):=by
  have:=gi i (by omega)
  rw[<- ak3 (show i<n by omega),i6 hi]at this
  exact Option.some.inj this
 have e2:((xs.toList.drop lo).take n)[j]=xs[lo+j]'(by omega):=by
  have:=gi j hjn
  rw[<- ak3 hjn,i6 hj]at this
  exact Option.some.inj this
 rw[e1,e2]
 have:=hs i j (aa3 hij) hjn
 rw[aA1 (getElem?_pos xs (lo+i) (by omega)),aA1 (getElem?_pos xs (lo+j) (by omega))]at this
 exact this
end
end Tim
namespace Tim
open PySem PyProof.Rows PySem.W
def K2:List Int->List Int->Bool
 | [],[]=>false
 | [],_::_=>true
 | _::_,[]=>false
 | a::x,b::y=>if a=b then K2 x y else decide (a<b)
theorem ar4:∀ x,K2 x x=false
 | []=>rfl
 | a::x=>by unfold K2;rw[if_pos rfl];exact ar4 x
theorem ar3:∀ x y z,K2 x y=true->K2 y z=true->K2 x z=true
 | [],[],z,h,_=>by cases h
 | [],_::_,[],_,h=>by cases h
 | [],_::_,_::_,_,_=>rfl
 | _::_,[],z,h,_=>by cases h
 | _::_,_::_,[],_,h=>by cases h
 | a::x,b::y,c::z,h1,h2=>by
  unfold K2 at h1 h2 ⊢
  by_cases e1:a=b
  ·subst e1
   rw[if_pos rfl]at h1
   by_cases e2:a=c
   ·rw[if_pos e2]at h2 ⊢
    exact ar3 x y z h1 h2
   ·rw[if_neg e2]at h2 ⊢
    exact h2
  ·rw[if_neg e1,decide_eq_true_eq]at h1
   by_cases e2:b=c
   ·subst e2
    rw[if_neg e1,decide_eq_true_eq]
    exact h1
   ·rw[if_neg e2,decide_eq_true_eq]at h2
    rw[if_neg (by omega),decide_eq_true_eq]
    omega
theorem aD5:∀ x y,K2 x y=false->K2 y x=false->x=y
 | [],[],_,_=>rfl
 | [],_::_,h,_=>by cases h
 | _::_,[],_,h=>by cases h
 | a::x,b::y,h1,h2=>by
  unfold K2 at h1 h2
  by_cases e:a=b
  ·subst e
   rw[if_pos rfl]at h1 h2
   rw[aD5 x y h1 h2]
  ·rw[if_neg e,decide_eq_false_iff_not]at h1
   rw[if_neg (Ne.symm e),decide_eq_false_iff_not]at h2
   omega
theorem bI8 (x y z:List Int)(h:K2 x z=true):K2 x y=true\/K2 y z=true:=by
 cases e1:K2 x y with
 | true=>exact .inl rfl
 | false =>
  cases e2:K2 y x with
  | true=>exact .inr (ar3 _ _ _ e2 h)
  | false=>rw[aD5 x y e1 e2]at h;exact .inr h
def bb4:aY7:=⟨List Int,K2,ar4,ar3,bI8,aD5⟩
section
variable {prog:j8} {w:x6}
def IsK (prog:j8)(w:x6)(h:Heap)(k:List Int)(v:c6):Prop:=∃ a,v=.ref a/\L6 (C6 prog w) h k a
theorem IsK.inj {h:Heap}{k k':List Int}{v:c6}(x:IsK prog w h k v)(y:IsK prog w h k' v):k=k':=by
 obtain⟨a,rfl,h1⟩:=x
 obtain⟨b,e,h2⟩:=y
 cases e
 exact h1.inj h2
open Classical in
noncomputable def Q0 (prog:j8)(w:x6)(h:Heap)(v:c6):List Int:=if q:∃ k,IsK prog w h k v then Classical.choose q else []
theorem O5 {h:Heap}{k:List Int}{v:c6}(x:IsK prog w h k v):Q0 prog w h v=k:=by
 unfold Q0
 rw[dif_pos ⟨k,x⟩]
 exact(Classical.choose_spec (⟨k,x⟩:∃ k,IsK prog w h k v)).inj x
theorem IsK.up {h h':Heap}{k:List Int}{v:c6}(x:IsK prog w h k v)(hs:∀ b o,h.get? b=some o->h'.get? b=some o):IsK prog w h' k v:=by
 obtain⟨a,e,o,items,n,h2,h3⟩:=x
 exact⟨a,e,o,items,n,hs a o h2,h3⟩
variable {A:u4} {E:c6->c7->Prop} {s:c7}
theorem aJ5 {b:Bool}{Q:Bool->c7->Prop}(hb:b=true):∀ (x y:List Int) (vs us:List c6) (i:Nat) (fin:Bool),ItemsAre (C6 prog w) x vs->ItemsAre (C6 prog w) y us->(x.length<y.length↔fin=true)->Q (K2 x y) s->KatLex prog w A b fin Q (vs.zip us) i s
 | [],[],_,_,i,fin,.nil,.nil,hf,h=>by
  have:fin=false:=by cases fin with | false=>rfl | true=>exact absurd (hf.mpr rfl) (by simp)
  subst this
  exact kat_nil h
 | [],_::_,_,_,i,fin,.nil,.cons _ _,hf,h=>by
  have:fin=true:=hf.mp (by simp)
  subst this
  exact kat_nil h
 | _::_,[],_,_,i,fin,.cons _ _,.nil,hf,h=>by
  have:fin=false:=by cases fin with | false=>rfl | true=>exact absurd (hf.mpr rfl) (by simp)
  subst this
  exact kat_nil h
 | a::x,c::y,_,_,i,fin,.cons h1 t1,.cons h2 t2,hf,h=>by
  obtain⟨t,rfl⟩:=Value.isInt_shape h1
  obtain⟨u,rfl⟩:=Value.isInt_shape h2
  rw[W8]
  refine kat_cons (wpAny_eqBool_int ?_)
  unfold K2 at h
  by_cases e:a=c
  ·subst e
   rw[if_pos rfl]at h
   rw[show (a == a)=true by simp]
   exact kat_yes (aJ5 hb x y _ _ (i+1) fin t1 t2 (by rw[<- hf];simp) h)
  ·rw[if_neg e]at h
   rw[show (a == c)=false by simpa using e]
   refine kat_no ?_
   cases hi:(b && i == 0) with
   | true=>exact oneLt_int h
   | false=>exact kat_one _ _ (lt_int h)
theorem aV5 {x y:c6}{k k':List Int}{Q:Bool->c7->Prop}(hx:IsK prog w s.heap k x)(hy:IsK prog w s.heap k' y)(h:Q (K2 k k') s):o7 (y6 prog w) A (keyLt' (bC9 true) x y) Q E s:=by
 obtain⟨a,rfl,o,xs,n,ho,hc,hd,hi⟩:=hx
 obtain⟨b,rfl,o',ys,n',ho',hc',hd',hi'⟩:=hy
 refine kat_lt ho hd ho' hd' (aJ5 rfl k k' _ _ 0 _ hi hi' ?_ h)
 have e1:k.length=xs.size:=by have:=hi.length;simpa using this
 have e2:k'.length=ys.size:=by have:=hi'.length;simpa using this
 rw[e1,e2]
 simp
theorem aD6 {vs:List c6}{Q:aa7->c7->Prop}(hne:0<vs.length)(hv:∀ v∈vs,∃ i k,IsK prog w s.heap (i::k) v)(h:Q (bC9 true) s):o7 (y6 prog w) A (keyKind' vs.toArray) Q E s:=by
 have ex:∀ l:List c6,(∀ v∈l,∃ i k,IsK prog w s.heap (i::k) v)->∃ fs:List c6,KatTups s.heap l fs/\fs.length=l.length/\∀ v∈fs,∃ i t,v=.int i t:=fun l=>by
  induction l with
  | nil=>intro _;exact⟨[],KatTups.nil,rfl,(fun _ h=>nomatch h)⟩
  | cons v l ih =>
   intro hl
   obtain⟨i,k,a,rfl,o,xs,n,ho,hc,hd,hi⟩:=hl v i5
   obtain⟨fs,f1,f2,f3⟩:=ih fun v hv=>hl v (d7 _ hv)
   obtain⟨f,hf,t,rfl⟩:∃ f,xs[0]?=some f/\∃ t,f=.int i t:=by
    cases e:xs.toList with
    | nil=>rw[e]at hi;cases hi
    | cons f r =>
     rw[e]at hi
     cases hi with
     | cons h1 _ =>
      obtain⟨t,et⟩:=Value.isInt_shape h1
      exact⟨f,by rw[<- u5,e];rfl,t,et⟩
   refine⟨.int i t::fs,KatTups.cons ho hc hd hf f1,by rw[A1,f2,A1],fun v hv=>?_⟩
   rcases g6.mp hv with rfl | hv
   ·exact⟨i,t,rfl⟩
   ·exact f3 v hv
 obtain⟨fs,f1,f2,f3⟩:=ex vs hv
 refine kat_kind (T:=.type "int") f1 (by omega) (fun v hv=>?_) (by decide) ?_
 ·obtain⟨i,t,rfl⟩:=f3 v hv
  exact .now
 ·exact h
end
end Tim
namespace Sett
open PySem PySem.SetTable
theorem aP2 {P:Nat->Prop}(h:∃ n,P n):∃ n,P n/\∀ m,m<n->¬ P m:=by
 obtain⟨n,hn⟩:=h
 induction n using Nat.strongRecOn with
 | ind n ih =>
  by_cases q:∃ m,m<n/\P m
  ·obtain⟨m,hm,pm⟩:=q
   exact ih m hm pm
  ·exact⟨n,hn,fun m hm pm=>q ⟨m,hm,pm⟩⟩
def st (m i pt:Nat):Probe:={ j:=i,more:=runEnd m i - i,i:=i,perturb:=pt,dummy:=none }
def it (t:SetTable):Nat->Probe->Probe
 | 0,p=>p
 | n+1,p=>it t n (t.advance p)
theorem aO9 (t:SetTable):∀ (a b:Nat) (p:Probe),it t (a+b) p=it t b (it t a p)
 | 0,b,p=>by rw[ai7];rfl
 | a+1,b,p=>by
  rw[show a+1+b=(a+b)+1 by omega]
  exact aO9 t a b (t.advance p)
theorem al9 (t:SetTable)(n:Nat)(p:Probe):it t (n+1) p=t.advance (it t n p):=aO9 t n 1 p
theorem au3 (m i:Nat):i<=runEnd m i/\runEnd m i<=i+9:=by unfold runEnd;split<;>omega
theorem aT6 {m i:Nat}(h:i<=m):runEnd m i<=m:=by unfold runEnd;split<;>omega
theorem aO7 (t:SetTable)(i pt:Nat):∀ k,k<=runEnd t.mask i - i->it t k (st t.mask i pt)={ j:=i+k,more:=runEnd t.mask i - i - k,i:=i,perturb:=pt,dummy:=none }
 | 0,_=>rfl
 | k+1,h=>by
  rw[al9,aO7 t i pt k (by omega)]
  unfold advance
  dsimp only
  rw[if_pos (by omega)]
  simp only[Probe.mk.injEq,and_true,true_and]
  omega
theorem aO8 (t:SetTable)(i pt:Nat):it t (runEnd t.mask i - i+1) (st t.mask i pt)=st t.mask (leap t.mask i pt).1 (leap t.mask i pt).2:=by
 rw[al9,aO7 t i pt _ (d4 _)]
 unfold advance
 dsimp only
 rw[if_neg (by omega)]
 rfl
def rn (m i pt:Nat):Nat->Nat × Nat
 | 0=>(i,pt)
 | r+1=>leap m (rn m i pt r).1 (rn m i pt r).2
theorem bN3 (m i pt:Nat):∀ r,(rn m i pt r).2=pt / 32 ^ r
 | 0=>by simp[rn]
 | r+1=>by
  show (rn m i pt r).2 / 32=_
  rw[bN3 m i pt r,bB3,Nat.pow_succ]
theorem bN4 (m i pt:Nat)(h:i<=m):∀ r,(rn m i pt r).1<=m
 | 0=>h
 | r+1=>am0 (bZ0 _ (ai8 m))
theorem bO2 (t:SetTable)(i pt:Nat):∀ r,∃ n,n<=10*r/\it t n (st t.mask i pt)=st t.mask (rn t.mask i pt r).1 (rn t.mask i pt r).2
 | 0=>⟨0,d4 _,rfl⟩
 | r+1=>by
  obtain⟨n,hn,e⟩:=bO2 t i pt r
  have h9:=au3 t.mask (rn t.mask i pt r).1
  refine⟨n+(runEnd t.mask (rn t.mask i pt r).1 - (rn t.mask i pt r).1+1),by omega,?_⟩
  rw[aO9,e,aO8]
  rfl
def f5 (m i:Nat):Nat:=(i*5+1) % (m+1)
def orb (m:Nat):Nat->Nat->List Nat
 | 0,_=>[]
 | k+1,i=>i::orb m k (f5 m i)
def Full (m:Nat):Prop:=∀ b,b<=m->∀ a,a<=m->∃ n,n<=m/\Nat.repeat (f5 m) n a=b
def chk (m:Nat):Bool:=(orb m (m+1) 0).foldl (fun acc i=>acc ||| 2 ^ i) 0 == 2 ^ (m+1) - 1
theorem aX8:∀ (l:List Nat) (acc b:Nat),(l.foldl (fun acc i=>acc ||| 2 ^ i) acc).testBit b=true->acc.testBit b=true\/b∈l
 | [],acc,b,h=>.inl h
 | i::l,acc,b,h=>by
  rcases aX8 l _ b h with q | q
  ·rw[Nat.testBit_or,Bool.or_eq_true]at q
   rcases q with q | q
   ·exact .inl q
   ·rw[bP0]at q
    exact .inr (by rw[of_decide_eq_true q];exact i5)
  ·exact .inr (d7 _ q)
theorem aq4 (f:Nat->Nat)(a:Nat):∀ n k,Nat.repeat f (n+k) a=Nat.repeat f k (Nat.repeat f n a)
 | n,0=>rfl
 | n,k+1=>by
  show f (Nat.repeat f (n+k) a)=f (Nat.repeat f k (Nat.repeat f n a))
  rw[aq4 f a n k]
theorem bg0 (m:Nat):∀ k i x,x∈orb m k i->∃ n,n<k/\Nat.repeat (f5 m) n i=x
 | 0,i,x,h=>by cases h
 | k+1,i,x,h=>by
  rcases g6.mp h with rfl | h
  ·exact⟨0,ai8 _,rfl⟩
  ·obtain⟨n,hn,e⟩:=bg0 m k (f5 m i) x h
   refine⟨n+1,by omega,?_⟩
   rw[Nat.add_comm n 1,aq4]
   exact e
theorem az5 {m:Nat}(hc:chk m=true)(hz:Nat.repeat (f5 m) (m+1) 0=0):Full m:=by
 intro b hb a ha
 unfold chk at hc
 have hc:=eq_of_beq hc
 have get:∀ x,x<=m->∃ n,n<m+1/\Nat.repeat (f5 m) n 0=x:=fun x hx=>by
  have hb:(2 ^ (m+1) - 1).testBit x=true:=by rw[Nat.testBit_two_pow_sub_one];exact decide_eq_true (by omega)
  rw[<- hc]at hb
  rcases aX8 _ _ _ hb with q | q
  ·simp at q
  ·exact bg0 m (m+1) 0 x q
 obtain⟨p,hp,ep⟩:=get a ha
 obtain⟨q,hq,eq⟩:=get b hb
 by_cases h:p<=q
 ·refine⟨q - p,by omega,?_⟩
  rw[<- ep,<- aq4,show p+(q - p)=q by omega,eq]
 ·refine⟨m+1 - p+q,by omega,?_⟩
  rw[<- ep,<- aq4,show p+(m+1 - p+q)=(m+1)+q by omega,aq4,hz,eq]
def Good (m:Nat):Prop:=m=7\/m=31\/m=127\/m=511
set_option maxRecDepth 100000 in
theorem Good.full {m:Nat}(h:Good m):Full m:=by
 rcases h with rfl | rfl | rfl | rfl
 ·exact az5 (by decide +kernel) (by decide +kernel)
 ·exact az5 (by decide +kernel) (by decide +kernel)
 ·exact az5 (by decide +kernel) (by decide +kernel)
 ·exact az5 (by decide +kernel) (by decide +kernel)
theorem be9 (m i pt:Nat)(hp:pt<2 ^ 64):∀ k,(rn m i pt (13+k)).1=Nat.repeat (f5 m) k (rn m i pt 13).1
 | 0=>rfl
 | k+1=>by
  show (leap m (rn m i pt (13+k)).1 (rn m i pt (13+k)).2).1=f5 m (Nat.repeat (f5 m) k (rn m i pt 13).1)
  rw[<- be9 m i pt hp k]
  unfold leap f5
  have:(rn m i pt (13+k)).2 / 32=0:=by
   rw[bN3,Nat.pow_add,<- bB3]
   have:pt / 32 ^ 13=0:=Nat.div_eq_of_lt (Nat.lt_trans hp (by decide))
   rw[this]
   simp
  dsimp only
  rw[this,Nat.add_zero]
theorem bf0 {m i pt b:Nat}(g:Good m)(hi:i<=m)(hp:pt<2 ^ 64)(hb:b<=m):∃ r,r<turns m/\(rn m i pt r).1=b:=by
 obtain⟨n,hn,e⟩:=g.full b hb (rn m i pt 13).1 (bN4 m i pt hi 13)
 exact⟨13+n,by unfold turns;omega,by rw[be9 m i pt hp];exact e⟩
theorem bJ5 (t:SetTable){i pt b:Nat}(g:Good t.mask)(hi:i<=t.mask)(hp:pt<2 ^ 64)(hb:b<=t.mask):∃ n,n<10*turns t.mask/\(it t n (st t.mask i pt)).j=b:=by
 obtain⟨r,hr,e⟩:=bf0 g hi hp hb
 obtain⟨n,hn,e'⟩:=bO2 t i pt r
 refine⟨n,by omega,?_⟩
 rw[e']
 exact e
theorem aW1 (t:SetTable):∀ (n:Nat) (p:Probe),(it t n p).dummy=p.dummy
 | 0,p=>rfl
 | n+1,p=>by
  show (it t n (t.advance p)).dummy=_
  rw[aW1 t n]
  unfold advance
  split<;>rfl
theorem bi4 (h:Int):bits h<2 ^ 64:=by
 unfold bits
 have h1:=M7 h (show (2 ^ 64:Int)≠0 by decide)
 have h2:=J1 h (show (0:Int)<2 ^ 64 by decide)
 omega
theorem aj0 (t:SetTable)(h:Int):t.probeStart h=st t.mask (bits h % (t.mask+1)) (bits h):=rfl
theorem az3 {t t':SetTable}(h:t'.mask=t.mask):∀ (n:Nat) (p:Probe),it t' n p=it t n p
 | 0,p=>rfl
 | n+1,p=>by
  show it t' n (t'.advance p)=it t n (t.advance p)
  have:t'.advance p=t.advance p:=by unfold advance;rw[h]
  rw[this,az3 h n]
def Asc (xs:Array Nat):Prop:=∀ (i j a b:Nat),i<j->xs[i]?=some a->xs[j]?=some b->a<b
theorem aF3 {xs:Array Nat}(asc:Asc xs)(j:Nat):∀ (fuel lo hi:Nat),hi - lo<=fuel->lo<=hi->hi<=xs.size->(∀ i a,i<lo->xs[i]?=some a->a<j)->(∀ i a,hi<=i->xs[i]?=some a->j<=a) ->
  (below.go xs j fuel lo hi)<=xs.size/\(∀ i a,i<below.go xs j fuel lo hi->xs[i]?=some a->a<j)/\(∀ i a,below.go xs j fuel lo hi<=i->xs[i]?=some a->j<=a)
 | 0,lo,hi,h0,h1,h2,h3,h4=>by
  have:lo=hi:=by omega
  subst this
  exact⟨h2,h3,h4⟩
 | fuel+1,lo,hi,h0,h1,h2,h3,h4=>by
  unfold below.go
  by_cases hlt:lo<hi
  ·rw[if_pos hlt]
   dsimp only
   have hm:(lo+hi) / 2<xs.size:=by omega
   have hg:xs.getD ((lo+hi) / 2) j=xs[(lo+hi) / 2]:=by simp[bP1,hm]
   have hq:xs[(lo+hi) / 2]?=some xs[(lo+hi) / 2]:=getElem?_pos xs _ hm
   by_cases hc:xs.getD ((lo+hi) / 2) j<j
   ·rw[if_pos hc]
    refine aF3 asc j fuel _ hi (by omega) (by omega) h2 (fun i a hi' e=>?_) h4
    rw[hg]at hc
    by_cases he:i=(lo+hi) / 2
    ·subst he;rw[hq]at e;cases e;exact hc
    ·have:=asc i _ a _ (by omega) e hq
     omega
   ·rw[if_neg hc]
    refine aF3 asc j fuel lo _ (by omega) (by omega) (by omega) h3 (fun i a hi' e=>?_)
    rw[hg]at hc
    by_cases he:i=(lo+hi) / 2
    ·subst he;rw[hq]at e;cases e;omega
    ·have:=asc _ i _ a (by omega) hq e
     omega
  ·rw[if_neg hlt]
   have:lo=hi:=by omega
   subst this
   exact⟨h2,h3,h4⟩
theorem aF2 {xs:Array Nat}(asc:Asc xs)(j:Nat):below xs j<=xs.size/\(∀ i a,i<below xs j->xs[i]?=some a->a<j)/\(∀ i a,below xs j<=i->xs[i]?=some a->j<=a):=
 aF3 asc j xs.size 0 xs.size (by omega) (by omega) (d4 _) (fun i a h=>by omega) fun i a h e=>by
  have:=(getElem?_eq_some_iff.mp e).1
  omega
theorem below_at {xs:Array Nat}(asc:Asc xs){i j:Nat}(h:xs[i]?=some j):below xs j=i:=by
 obtain⟨h1,h2,h3⟩:=aF2 asc j
 rcases Y8 (below xs j) i with q | q | q
 ·exfalso
  have hlt:below xs j<xs.size:=Nat.lt_trans q (getElem?_eq_some_iff.mp h).1
  have e:=getElem?_pos xs (below xs j) hlt
  have a1:=h3 (below xs j) _ (d4 _) e
  have a2:=asc _ _ _ _ q e h
  omega
 ·exact q
 ·have:=h2 i j q h
  omega
theorem au0 {t:SetTable}(asc:Asc t.place){i j:Nat}(h:t.place[i]?=some j):t.slot j=.live i:=by
 unfold slot
 dsimp only
 rw[below_at asc h,h]
 simp
theorem ba1 {t:SetTable}(hd:t.dummies=#[]){j:Nat}(h:∀ i:Nat,t.place[i]?≠some j):t.slot j=.empty:=by
 unfold slot
 dsimp only
 rw[if_neg (by simpa using h _),if_neg (by rw[hd];simp[has])]
theorem aW5 {t:SetTable}{hashAt:Nat->Int}{h:Int}:∀ (n fuel:Nat) (p:Probe),n<fuel->(∀ k,k<n->∃ i,t.slot (it t k p).j=.live i/\hashAt i≠h)->t.slot (it t n p).j=.empty ->
  probe.go t hashAt h fuel p=some (.empty (it t n p).j (it t n p).dummy)
 | 0,fuel+1,p,_,_,he=>by
  unfold probe.go
  have he':t.slot p.j=.empty:=he
  rw[he']
  rfl
 | n+1,fuel+1,p,hl,hk,he=>by
  obtain⟨i,e,hne⟩:=hk 0 (ai8 _)
  have e':t.slot p.j=.live i:=e
  unfold probe.go
  rw[e']
  dsimp only
  rw[if_neg (by simpa using hne)]
  exact aW5 n fuel (t.advance p) (by omega) (fun k hk'=>hk (k+1) (by omega)) he
theorem bh1 {t:SetTable}{hashAt:Nat->Int}{h:Int}{i:Nat}:∀ (n fuel:Nat) (p:Probe),n<fuel->(∀ k,k<n->∃ i,t.slot (it t k p).j=.live i/\hashAt i≠h)->t.slot (it t n p).j=.live i->hashAt i=h ->
  ∃ q,probe.go t hashAt h fuel p=some (.candidate (it t n p).j i q)
 | 0,fuel+1,p,_,_,he,hh=>by
  unfold probe.go
  have he':t.slot p.j=.live i:=he
  rw[he']
  dsimp only
  rw[if_pos (by simpa using hh)]
  exact⟨_,rfl⟩
 | n+1,fuel+1,p,hl,hk,he,hh=>by
  obtain⟨i',e,hne⟩:=hk 0 (ai8 _)
  have e':t.slot p.j=.live i':=e
  unfold probe.go
  rw[e']
  dsimp only
  rw[if_neg (by simpa using hne)]
  exact bh1 n fuel (t.advance p) (by omega) (fun k hk'=>hk (k+1) (by omega)) he hh
abbrev En:=Int × c6
structure Tb (t:SetTable) (es:Array En):Prop where
 dum:t.dummies=#[]
 len:t.place.size=es.size
 asc:Asc t.place
 bnd:∀ (i j:Nat),t.place[i]?=some j->j<=t.mask
 good:Good t.mask
 nf:es.size*5<t.mask*3
 path:∀ (i:Nat) (e:En),es[i]?=some e->∃ n,n<10*turns t.mask/\t.place[i]?=some (it t n (t.probeStart e.1)).j/\∀ k,k<n->∃ i':Nat,t.place[i']?=some (it t k (t.probeStart e.1)).j
theorem bA2 {xs:Array Nat}(asc:Asc xs):∀ (i a:Nat),xs[i]?=some a->i<=a
 | 0,a,_=>y9 _
 | i+1,a,h=>by
  have hi:i+1<xs.size:=(getElem?_eq_some_iff.mp h).1
  have e:=getElem?_pos xs i (by omega)
  have h1:=bA2 asc i _ e
  have h2:=asc i (i+1) _ a (by omega) e h
  omega
theorem bn4 {xs:Array Nat}(asc:Asc xs){m:Nat}(h:xs.size<=m):∃ b,b<=m/\∀ i:Nat,xs[i]?≠some b:=by
 by_cases q:∃ i,i<xs.size/\xs[i]?≠some i
 ·obtain⟨i,⟨hi,hne⟩,hmin⟩:=aP2 q
  refine⟨i,by omega,fun k e=>?_⟩
  have hk:=bA2 asc k i e
  rcases aG4 hk with hlt | rfl
  ·have ek:xs[k]?=some k:=Classical.byContradiction fun z=>hmin k hlt ⟨by omega,z⟩
   rw[ek]at e
   cases e
   omega
  ·exact hne e
 ·refine⟨xs.size,h,fun k e=>?_⟩
  have hk:k<xs.size:=(getElem?_eq_some_iff.mp e).1
  have ek:xs[k]?=some k:=Classical.byContradiction fun z=>q ⟨k,hk,z⟩
  rw[ek]at e
  cases e
  omega
theorem Tb.small {t:SetTable}{es:Array En}(T:Tb t es):es.size<=t.mask:=by
 have:=T.nf
 omega
theorem Tb.fits {t:SetTable}{es:Array En}(T:Tb t es):t.fits es.size=true:=by
 unfold SetTable.fits fill
 rw[T.dum,T.len]
 have:=T.small
 simp
 exact this
theorem Tb.odd {t:SetTable}{es:Array En}(T:Tb t es):t.gaveWay=false:=by
 unfold gaveWay
 rcases T.good with e | e | e | e<;>rw[e]<;>rfl
def hashOf (es:Array En)(i:Nat):Int:=(es[i]?.map (·.1)).getD 0
theorem ab8 {es:Array En}{i:Nat}{e:En}(h:es[i]?=some e):hashOf es i=e.1:=by unfold hashOf;rw[h];rfl
theorem ai9 (t:SetTable)(h:Int):bits h % (t.mask+1)<=t.mask:=am0 (bZ0 _ (ai8 _))
theorem Tb.absent {t:SetTable}{es:Array En}(T:Tb t es){h:Int}(hh:∀ e∈es.toList,e.1≠h):∃ n,n<10*turns t.mask/\(∀ i:Nat,t.place[i]?≠some (it t n (t.probeStart h)).j)/\(it t n (t.probeStart h)).j<=t.mask /\
  (∀ k,k<n->∃ i':Nat,t.place[i']?=some (it t k (t.probeStart h)).j)/\t.probe (hashOf es) h (t.probeStart h)=some (.empty (it t n (t.probeStart h)).j none):=by
 obtain⟨b,hb,hfree⟩:=bn4 T.asc (m:=t.mask) (by rw[T.len];exact T.small)
 obtain⟨n0,hn0,e0⟩:=bJ5 t T.good (ai9 t h) (bi4 h) hb
 rw[<- aj0]at e0
 obtain⟨n,⟨hfr,hn,hle⟩,hmin⟩:=aP2 (P:=fun n=>(∀ i:Nat,t.place[i]?≠some (it t n (t.probeStart h)).j)/\n<=n0/\(it t n (t.probeStart h)).j<=t.mask) ⟨n0,by rw[e0];exact hfree,d4 _,by rw[e0];exact hb⟩
 have hocc:∀ k,k<n->∃ i':Nat,t.place[i']?=some (it t k (t.probeStart h)).j:=fun k hk=>Classical.byContradiction fun z=>by
  have hk':∀ i:Nat,t.place[i]?≠some (it t k (t.probeStart h)).j:=fun i e=>z ⟨i,e⟩
  by_cases hkm:(it t k (t.probeStart h)).j<=t.mask
  ·exact hmin k hk ⟨hk',by omega,hkm⟩
  ·-- every place on the way is a slot
   exact hkm (by
    clear z hk' hkm hmin hfr hle hn hk
    rw[aj0]
    induction k with
    | zero=>exact ai9 t h
    | succ k ih =>
     have key:∀ k,∃ r c,c<=runEnd t.mask (rn t.mask (bits h % (t.mask+1)) (bits h) r).1 - (rn t.mask (bits h % (t.mask+1)) (bits h) r).1 /\
       it t k (st t.mask (bits h % (t.mask+1)) (bits h))=it t c (st t.mask (rn t.mask (bits h % (t.mask+1)) (bits h) r).1 (rn t.mask (bits h % (t.mask+1)) (bits h) r).2):=fun k=>by
      induction k with
      | zero=>exact⟨0,0,y9 _,rfl⟩
      | succ k ih =>
       obtain⟨r,c,hc,e⟩:=ih
       rcases aG4 hc with hlt | heq
       ·exact⟨r,c+1,hlt,by rw[al9,e,<- al9]⟩
       ·refine⟨r+1,0,y9 _,?_⟩
        rw[al9,e,<- al9,heq,aO8]
        rfl
     obtain⟨r,c,hc,e⟩:=key (k+1)
     rw[e,aO7 t _ _ c hc]
     have h1:=bN4 t.mask (bits h % (t.mask+1)) (bits h) (ai9 t h) r
     have h2:=aT6 h1
     have h3:=au3 t.mask (rn t.mask (bits h % (t.mask+1)) (bits h) r).1
     show (rn t.mask (bits h % (t.mask+1)) (bits h) r).1+c<=t.mask
     omega)
 refine⟨n,by omega,hfr,hle,hocc,?_⟩
 unfold probe
 have:=aW5 (hashAt:=hashOf es) (h:=h) n (10*turns t.mask) (t.probeStart h) (by omega) (fun k hk=>?_) (ba1 T.dum hfr)
 ·rw[this,aW1]
  rfl
 ·obtain⟨i',e⟩:=hocc k hk
  refine⟨i',au0 T.asc e,?_⟩
  have hi:i'<es.size:=by rw[<- T.len];exact(getElem?_eq_some_iff.mp e).1
  have e2:=getElem?_pos es i' hi
  rw[ab8 e2]
  exact hh _ (by simp)
theorem Tb.present {t:SetTable}{es:Array En}(T:Tb t es){i:Nat}{e:En}(he:es[i]?=some e)(hu:∀ (k:Nat) (e':En),es[k]?=some e'->e'.1=e.1->k=i):∃ j q,t.probe (hashOf es) e.1 (t.probeStart e.1)=some (.candidate j i q):=by
 obtain⟨n,hn,hp,hocc⟩:=T.path i e he
 unfold probe
 obtain⟨m,⟨hm,i1,hi1,hs1⟩,hmin⟩:=aP2 (P:=fun m=>m<=n/\∃ i1:Nat,t.place[i1]?=some (it t m (t.probeStart e.1)).j/\hashOf es i1=e.1) ⟨n,d4 _,i,hp,ab8 he⟩
 have hi2:i1<es.size:=by rw[<- T.len];exact(getElem?_eq_some_iff.mp hi1).1
 have e2:=getElem?_pos es i1 hi2
 rw[ab8 e2]at hs1
 have hii:i1=i:=hu i1 _ e2 hs1
 subst hii
 obtain⟨q,hq⟩:=bh1 (hashAt:=hashOf es) (h:=e.1) (i:=i1) m (10*turns t.mask) (t.probeStart e.1) (by omega) (fun k hk=>by
  obtain⟨i',e3⟩:=hocc k (by omega)
  exact⟨i',au0 T.asc e3,fun z=>hmin k hk ⟨by omega,i',e3,z⟩⟩) (au0 T.asc hi1) (ab8 he)
 exact⟨_,q,hq⟩
theorem get_ins {α:Type}{xs:Array α}{p:Nat}{x:α}(hp:p<=xs.size)(i:Nat):(insertAt xs p x)[i]?=if i<p then xs[i]? else if i=p then some x else xs[i - 1]?:=by
 unfold insertAt
 have e0:((xs.extract 0 p).push x).size=p+1:=by rw[aQ9,W3];omega
 by_cases h1:i<p
 ·rw[if_pos h1,aY3 (by omega),Array.getElem?_push_lt (by rw[W3];omega)]
  rw[Array.getElem_extract]
  simp only[ai7]
  exact(getElem?_pos xs i (by omega)).symm
 ·rw[if_neg h1]
  by_cases h2:i=p
  ·subst h2
   rw[if_pos rfl,aY3 (by omega)]
   have e1:(xs.extract 0 i).size=i:=by rw[W3];omega
   rw[Array.getElem?_push,e1,if_pos rfl]
  ·rw[if_neg h2,Array.getElem?_append_right (by omega),e0,Array.getElem?_extract]
   split
   ·congr 1;omega
   ·rw[getElem?_neg]
    omega
theorem aq0 {α:Type}{xs:Array α}{p:Nat}{x:α}(hp:p<=xs.size):(insertAt xs p x).size=xs.size+1:=by
 unfold insertAt
 rw[Array.size_append,aQ9,W3,W3]
 omega
theorem bI6 {α:Type}{xs:Array α}{p:Nat}{x:α}(hp:p<=xs.size)(y:α):y∈(insertAt xs p x).toList↔y=x\/y∈xs.toList:=by
 constructor
 ·intro h
  obtain⟨i,hi⟩:=B4.mp h
  rw[u5,get_ins hp]at hi
  split at hi
  ·exact .inr (i7 (by rw[u5];exact hi))
  ·split at hi
   ·cases hi;exact .inl rfl
   ·exact .inr (i7 (by rw[u5];exact hi))
 ·rintro(rfl | h)
  ·exact i7 (i:=p) (by rw[u5,get_ins hp,if_neg (B8 _),if_pos rfl])
  ·obtain⟨i,hi⟩:=B4.mp h
   rw[u5]at hi
   have hi':i<xs.size:=(getElem?_eq_some_iff.mp hi).1
   by_cases q:i<p
   ·exact i7 (i:=i) (by rw[u5,get_ins hp,if_pos q];exact hi)
   ·exact i7 (i:=i+1) (by rw[u5,get_ins hp,if_neg (by omega),if_neg (by omega)];simpa using hi)
structure Tb' (t:SetTable) (es:Array En):Prop where
 dum:t.dummies=#[]
 len:t.place.size=es.size
 asc:Asc t.place
 bnd:∀ (i j:Nat),t.place[i]?=some j->j<=t.mask
 good:Good t.mask
 fil:es.size<=t.mask
 path:∀ (i:Nat) (e:En),es[i]?=some e->∃ n,n<10*turns t.mask/\t.place[i]?=some (it t n (t.probeStart e.1)).j/\∀ k,k<n->∃ i':Nat,t.place[i']?=some (it t k (t.probeStart e.1)).j
theorem Tb'.full {t:SetTable}{es:Array En}(T:Tb' t es)(h:es.size*5<t.mask*3):Tb t es:=⟨T.dum,T.len,T.asc,T.bnd,T.good,h,T.path⟩
theorem Tb'.fits {t:SetTable}{es:Array En}(T:Tb' t es):t.fits es.size=true:=by
 unfold SetTable.fits fill
 rw[T.dum,T.len]
 have:=T.fil
 simp
 exact this
theorem Tb'.plain {t:SetTable}{es:Array En}(T:Tb' t es)(b:Bool):Tb' { t with plain:=b } es:=by
 have e:∀ n (p:Probe),it { t with plain:=b } n p=it t n p:=fun n p=>az3 (t:=t) (t':={ t with plain:=b }) rfl n p
 refine⟨T.dum,T.len,T.asc,T.bnd,T.good,T.fil,fun i x hx=>?_⟩
 obtain⟨n,h1,h2,h3⟩:=T.path i x hx
 exact⟨n,h1,by rw[e];exact h2,fun k hk=>by rw[e];exact h3 k hk⟩
theorem Tb.put {t:SetTable}{es:Array En}(T:Tb t es){h:Int}{x:c6}{n:Nat}(hn:n<10*turns t.mask)(hfr:∀ i:Nat,t.place[i]?≠some (it t n (t.probeStart h)).j)(hle:(it t n (t.probeStart h)).j<=t.mask)
  (hocc:∀ k,k<n->∃ i':Nat,t.place[i']?=some (it t k (t.probeStart h)).j) :
  (t.put (it t n (t.probeStart h)).j).2<=es.size/\Tb' (t.put (it t n (t.probeStart h)).j).1 (insertAt es (t.put (it t n (t.probeStart h)).j).2 (h,x)):=by
 generalize hj:(it t n (t.probeStart h)).j=j at *
 obtain⟨b1,b2,b3⟩:=aF2 T.asc j
 have hp:(t.put j).2=below t.place j:=rfl
 have hd:has t.dummies j=false:=by rw[T.dum];simp[has]
 have ht:(t.put j).1={ t with place:=insertAt t.place (below t.place j) j }:=by
  unfold SetTable.put
  dsimp only
  rw[if_neg (by rw[hd];exact k9)]
 have hm:(t.put j).1.mask=t.mask:=by rw[ht]
 have hpl:(t.put j).1.place=insertAt t.place (below t.place j) j:=by rw[ht]
 have hsz:=T.nf
 have old:∀ (i a:Nat),t.place[i]?=some a->∃ i':Nat,(insertAt t.place (below t.place j) j)[i']?=some a:=fun i a e=>by
  by_cases q:i<below t.place j
  ·exact⟨i,by rw[get_ins b1,if_pos q];exact e⟩
  ·exact⟨i+1,by rw[get_ins b1,if_neg (by omega),if_neg (by omega)];simpa using e⟩
 have hit:∀ k (p:Probe),it (t.put j).1 k p=it t k p:=fun k p=>az3 hm k p
 have hst:∀ z:Int,(t.put j).1.probeStart z=t.probeStart z:=fun z=>by rw[aj0,aj0,hm]
 refine⟨by rw[hp,<- T.len];exact b1,?_⟩
 rw[hp]
 refine⟨by rw[ht];exact T.dum,by rw[hpl,aq0 b1,aq0 (by rw[<- T.len];exact b1),T.len],?_,?_,by rw[hm];exact T.good,?_,?_⟩
 ·rw[hpl]
  intro i k a c hik ea ec
  rw[get_ins b1]at ea ec
  split at ea
  ·rename_i hi
   split at ec
   ·exact T.asc i k a c hik ea ec
   ·split at ec
    ·cases ec;exact b2 i a hi ea
    ·exact T.asc i (k - 1) a c (by omega) ea ec
  ·split at ea
   ·rename_i hi1 hi2
    cases ea
    rw[if_neg (by omega),if_neg (by omega)]at ec
    have h1:=b3 (k - 1) c (by omega) ec
    rcases aG4 h1 with h2 | h2
    ·exact h2
    ·subst h2;exact absurd ec (hfr (k - 1))
   ·rw[if_neg (by omega),if_neg (by omega)]at ec
    exact T.asc (i - 1) (k - 1) a c (by omega) ea ec
 ·rw[hpl,hm]
  intro i a ea
  rw[get_ins b1]at ea
  split at ea
  ·exact T.bnd i a ea
  ·split at ea
   ·cases ea;exact hle
   ·exact T.bnd _ a ea
 ·rw[hm,aq0 (by rw[<- T.len];exact b1)]
  have:=T.good
  unfold Good at this
  omega
 ·intro i e he
  rw[hpl,hm]
  have b1':below t.place j<=es.size:=by rw[<- T.len];exact b1
  rw[get_ins b1']at he
  have lift:∀ (i0:Nat) (i':Nat),es[i0]?=some e->(∀ a,t.place[i0]?=some a->(insertAt t.place (below t.place j) j)[i']?=some a) ->
    ∃ n,n<10*turns t.mask/\(insertAt t.place (below t.place j) j)[i']?=some (it (t.put j).1 n ((t.put j).1.probeStart e.1)).j/\∀ k,k<n->∃ i':Nat,(insertAt t.place (below t.place j) j)[i']?=some (it (t.put j).1 k ((t.put j).1.probeStart e.1)).j:=fun i0 i' h0 h1=>by
   obtain⟨n',q1,q2,q3⟩:=T.path i0 e h0
   refine⟨n',q1,?_,fun k hk=>?_⟩
   ·rw[hit,hst];exact h1 _ q2
   ·obtain⟨i2,e2⟩:=q3 k hk
    rw[hit,hst]
    exact old i2 _ e2
  split at he
  ·rename_i hi
   exact lift i i he fun a ea=>by rw[get_ins b1,if_pos hi];exact ea
  ·split at he
   ·rename_i hi1 hi2
    cases he
    refine⟨n,hn,?_,fun k hk=>?_⟩
    ·rw[hit,hst,hj,get_ins b1,if_neg hi1,if_pos hi2]
    ·obtain⟨i2,e2⟩:=hocc k hk
     rw[hit,hst]
     exact old i2 _ e2
   ·rename_i hi1 hi2
    exact lift (i - 1) i he fun a ea=>by rw[get_ins b1,if_neg hi1,if_neg hi2];exact ea
theorem aO1:∀ (k n:Nat) (g:Nat->Nat),(∀ i,i<n->g i<k)->(∀ i j,i<n->j<n->g i=g j->i=j)->n<=k
 | 0,n,g,h,_=>by
  rcases Nat.eq_zero_or_pos n with e | e
  ·omega
  ·exact absurd (h 0 e) (aY8 _)
 | k+1,0,g,_,_=>y9 _
 | k+1,n+1,g,h,inj=>by
  by_cases q:∃ i0,i0<n+1/\g i0=k
  ·obtain⟨i0,h0,e0⟩:=q
   have:=aO1 k n (fun i=>if i=i0 then g n else g i) (fun i hi=>?_) (fun i j hi hj e=>?_)
   ·omega
   ·try dsimp only
    split
    ·rename_i hii
     have h1:=h n (by omega)
     have h2:g n≠k:=fun z=>by have:=inj n i0 (by omega) h0 (by rw[z,e0]);omega
     omega
    ·have h1:=h i (by omega)
     have h2:g i≠k:=fun z=>by have:=inj i i0 (by omega) h0 (by rw[z,e0]);omega
     omega
   ·try dsimp only at e
    split at e
    ·split at e
     ·omega
     ·have:=inj n j (by omega) (by omega) e;omega
    ·split at e
     ·have:=inj i n (by omega) (by omega) e;omega
     ·exact inj i j (by omega) (by omega) e
  ·have:=aO1 k (n+1) g (fun i hi=>?_) inj
   ·omega
   ·have h1:=h i hi
    have h2:g i≠k:=fun z=>q ⟨i,hi,z⟩
    omega
structure LI (t:SetTable) (hs:Array Int) (owner:Array (Option Nat)) (k:Nat):Prop where
 size:owner.size=t.mask+1
 lt:∀ (j i:Nat),owner[j]?=some (some i)->i<k
 inj:∀ (j j' i:Nat),owner[j]?=some (some i)->owner[j']?=some (some i)->j=j'
 has:∀ (i:Nat) (h:Int),i<k->hs[i]?=some h->∃ n,n<10*turns t.mask/\owner[(it t n (t.probeStart h)).j]?=some (some i)/\∀ c,c<n->∃ i':Nat,owner[(it t c (t.probeStart h)).j]?=some (some i')
theorem LI.free {t:SetTable}{hs:Array Int}{owner:Array (Option Nat)}{k:Nat}(L:LI t hs owner k)(hk:k<=t.mask):∃ b,b<=t.mask/\owner[b]?=some none:=by
 apply Classical.byContradiction
 intro z
 have all:∀ b,b<=t.mask->∃ i,owner[b]?=some (some i):=fun b hb=>by
  have e:=getElem?_pos owner b (by rw[L.size];omega)
  cases q:owner[b]'(by rw[L.size];omega) with
  | none=>rw[q]at e;exact absurd ⟨b,hb,e⟩ z
  | some i=>rw[q]at e;exact⟨i,e⟩
 have:=aO1 k (t.mask+1) (fun b=>match owner[b]? with | some (some i)=>i | _=>0) (fun b hb=>?_) (fun b b' hb hb' e=>?_)
 ·omega
 ·obtain⟨i,e⟩:=all b (by omega)
  try dsimp only
  rw[e]
  exact L.lt b i e
 ·obtain⟨i,e1⟩:=all b (by omega)
  obtain⟨i',e2⟩:=all b' (by omega)
  try dsimp only at e
  rw[e1,e2]at e
  dsimp only at e
  subst e
  exact L.inj b b' i e1 e2
theorem aK2 (t:SetTable)(owner:Array (Option Nat))(hz:owner.size=t.mask+1):∀ (fuel i pt:Nat),i<=t.mask->(∃ r,r<fuel/\∃ b,b=(rn t.mask i pt r).1/\owner[b]?=some none) ->
  ∃ n,n<10*fuel/\layClean.free t.mask owner fuel i pt=some (it t n (st t.mask i pt)).j/\owner[(it t n (st t.mask i pt)).j]?=some none/\∀ c,c<n->∃ i':Nat,owner[(it t c (st t.mask i pt)).j]?=some (some i')
 | 0,i,pt,_,⟨r,hr,_⟩=>absurd hr (aY8 _)
 | fuel+1,i,pt,hi,⟨r,hr,b,hb,hbo⟩=>by
  have h9:=au3 t.mask i
  have hm:=aT6 hi
  unfold layClean.free
  have slotOf:∀ k,k<=runEnd t.mask i - i->(it t k (st t.mask i pt)).j=i+k:=fun k hk=>by rw[aO7 t i pt k hk]
  have getS:∀ k,k<=runEnd t.mask i - i->(owner.getD (i+k) (some 0)).isNone=false->∃ i':Nat,owner[i+k]?=some (some i'):=fun k hk e=>by
   have hlt:i+k<owner.size:=by omega
   have e1:=getElem?_pos owner (i+k) hlt
   have e2:owner.getD (i+k) (some 0)=owner[i+k]:=by simp[bP1,hlt]
   rw[e2]at e
   cases q:owner[i+k] with
   | none=>rw[q]at e;cases e
   | some i'=>rw[q]at e1;exact⟨i',e1⟩
  cases hf:(o8 (runEnd t.mask i+1 - i)).find? (fun k=>(owner.getD (i+k) (some 0)).isNone) with
  | some k =>
   dsimp only
   rw[List.find?_eq_some_iff_getElem]at hf
   obtain⟨hp,k',hk',ek,hbef⟩:=hf
   rw[B0]at hk'
   rw[ah9]at ek
   subst ek
   refine⟨k',by omega,by rw[slotOf k' (by omega)],?_,fun c hc=>?_⟩
   ·rw[slotOf k' (by omega)]
    have hlt:i+k'<owner.size:=by omega
    have e2:owner.getD (i+k') (some 0)=owner[i+k']:=by simp[bP1,hlt]
    rw[e2]at hp
    rw[getElem?_pos owner _ hlt]
    cases q:owner[i+k'] with
    | none=>rfl
    | some z=>rw[q]at hp;cases hp
   ·rw[slotOf c (by omega)]
    have:=hbef c hc
    rw[ah9]at this
    exact getS c (by omega) (by simpa using this)
  | none =>
   dsimp only
   rw[List.find?_eq_none]at hf
   have all:∀ c,c<=runEnd t.mask i - i->∃ i':Nat,owner[i+c]?=some (some i'):=fun c hc=>getS c hc (by simpa only [Bool.not_eq_true] using hf c (B9.mpr (by omega)))
   have hr0:r≠0:=fun z=>by
    subst z
    obtain⟨i',e⟩:=all 0 (y9 _)
    have hb':b=i:=hb
    rw[hb']at hbo
    rw[Nat.add_zero,hbo]at e
    cases e
   obtain⟨r',rfl⟩:∃ r',r=r'+1:=⟨r - 1,by omega⟩
   have shift:∀ r,rn t.mask (leap t.mask i pt).1 (leap t.mask i pt).2 r=rn t.mask i pt (r+1):=fun r=>by
    induction r with
    | zero=>rfl
    | succ r ih =>
     show leap t.mask _ _=leap t.mask _ _
     rw[ih]
   obtain⟨n,hn,e1,e2,e3⟩:=aK2 t owner hz fuel (leap t.mask i pt).1 (leap t.mask i pt).2 (am0 (bZ0 _ (ai8 _))) ⟨r',by omega,b,by rw[hb,shift],hbo⟩
   have sh:∀ c,it t (runEnd t.mask i - i+1+c) (st t.mask i pt)=it t c (st t.mask (leap t.mask i pt).1 (leap t.mask i pt).2):=fun c=>by rw[aO9,aO8]
   refine⟨runEnd t.mask i - i+1+n,by omega,by rw[sh];exact e1,by rw[sh];exact e2,fun c hc=>?_⟩
   by_cases q:c<=runEnd t.mask i - i
   ·rw[slotOf c q]
    exact all c q
   ·have:=e3 (c - (runEnd t.mask i - i+1)) (by omega)
    rw[<- sh,show runEnd t.mask i - i+1+(c - (runEnd t.mask i - i+1))=c by omega]at this
    exact this
theorem aV7 (t:SetTable)(g:Good t.mask)(hs:Array Int)(hsz:hs.size<=t.mask):∀ (l:List Int) (k:Nat) (owner:Array (Option Nat)),LI t hs owner k->hs.toList.drop k=l ->
  ∃ owner',(l.foldl (fun acc h=>do
   let (owner,k) <- acc
   let j <- layClean.free t.mask owner (turns t.mask) (bits h % (t.mask+1)) (bits h)
   pure (owner.setIfInBounds j (some k),k+1)) (some (owner,k)))=some (owner',k+l.length)/\LI t hs owner' (k+l.length)
 | [],k,owner,L,_=>⟨owner,rfl,L⟩
 | h::l,k,owner,L,hd=>by
  have hk:k<hs.size:=by
   apply Classical.byContradiction
   intro z
   rw[ap1 (by rw[p0];omega)]at hd
   cases hd
  have hget:hs[k]?=some h:=by
   rw[<- u5]
   have:=congrArg (fun l=>l[0]?) hd
   simpa using this
  obtain⟨b,hb,hbo⟩:=L.free (by omega)
  obtain⟨r,hr,er⟩:=bf0 g (ai9 t h) (bi4 h) hb
  obtain⟨n,hn,e1,e2,e3⟩:=aK2 t owner L.size (turns t.mask) (bits h % (t.mask+1)) (bits h) (ai9 t h) ⟨r,hr,b,er.symm,hbo⟩
  rw[<- aj0]at e1 e2 e3
  have hjs:(it t n (t.probeStart h)).j<owner.size:=(getElem?_eq_some_iff.mp e2).1
  have gs:∀ x,(owner.setIfInBounds (it t n (t.probeStart h)).j (some k))[x]?=if (it t n (t.probeStart h)).j=x then some (some k) else owner[x]?:=fun x=>by
   rw[Array.getElem?_setIfInBounds]
   split
   ·rename_i hx;subst hx;simp[hjs]
   ·rfl
  have occ:∀ (x i:Nat),owner[x]?=some (some i)->∃ i':Nat,(owner.setIfInBounds (it t n (t.probeStart h)).j (some k))[x]?=some (some i'):=fun x i e=>by
   rw[gs];split
   ·exact⟨k,rfl⟩
   ·exact⟨i,e⟩
  have L':LI t hs (owner.setIfInBounds (it t n (t.probeStart h)).j (some k)) (k+1):=by
   refine⟨by rw[Array.size_setIfInBounds];exact L.size,fun j i e=>?_,fun j j' i ea ec=>?_,fun i h' hi hh=>?_⟩
   ·rw[gs]at e
    split at e
    ·cases e;omega
    ·have:=L.lt j i e;omega
   ·rw[gs]at ea ec
    split at ea
    ·rename_i q1
     cases ea
     split at ec
     ·rename_i q2;rw[<- q1,<- q2]
     ·have:=L.lt j' k ec;omega
    ·split at ec
     ·cases ec
      have:=L.lt j k ea;omega
     ·exact L.inj j j' i ea ec
   ·by_cases q:i=k
    ·subst q
     rw[hget]at hh
     cases hh
     refine⟨n,hn,by rw[gs,if_pos rfl],fun c hc=>?_⟩
     obtain⟨i',e⟩:=e3 c hc
     exact occ _ i' e
    ·obtain⟨n',q1,q2,q3⟩:=L.has i h' (by omega) hh
     refine⟨n',q1,?_,fun c hc=>?_⟩
     ·rw[gs]
      split
      ·rename_i q4
       rw[q4]at e2
       rw[e2]at q2
       cases q2
      ·exact q2
     ·obtain⟨i',e⟩:=q3 c hc
      exact occ _ i' e
  obtain⟨owner',f1,f2⟩:=aV7 t g hs hsz l (k+1) _ L' (by
   have e5:hs.toList.drop (k+1)=(hs.toList.drop k).drop 1:=by rw[List.drop_drop]
   rw[e5,hd]
   rfl)
  refine⟨owner',?_,?_⟩
  ·rw[as8]
   have:(do
     let (owner,k) <- some (owner,k)
     let j <- layClean.free t.mask owner (turns t.mask) (bits h % (t.mask+1)) (bits h)
     pure (owner.setIfInBounds j (some k),k+1))=some (owner.setIfInBounds (it t n (t.probeStart h)).j (some k),k+1):=by
    show (layClean.free t.mask owner (turns t.mask) (bits h % (t.mask+1)) (bits h) >>= fun j=>pure (owner.setIfInBounds j (some k),k+1))=_
    rw[e1]
    rfl
   rw[this,f1,A1]
   congr 2
   omega
  ·rw[A1,show k+(l.length+1)=k+1+l.length by omega]
   exact f2
theorem bJ1 {M finger moves:Nat}{led plain:Bool}{es:Array En}(g:Good M)(hsz:es.size*5<M*3) :
  ∃ t2 order,laid M finger moves led plain (es.map (·.1))=some (t2,order)/\Tb t2 (order.filterMap (es[·]?))/\(order.filterMap (es[·]?)).toList.Perm es.toList:=by
 let t:SetTable:={ mask:=M,place:=#[],dummies:=#[],finger:=finger,led:=led,moves:=moves,plain:=plain }
 have ht:t.mask=M:=rfl
 have h0:LI t (es.map (·.1)) (Array.replicate (M+1) none) 0:=by
  refine⟨by simp[ht],fun j i e=>?_,fun j j' i e=>?_,fun i h hi=>by omega⟩
  ·rw[bd0]at e;split at e<;>cases e
  ·rw[bd0]at e;split at e<;>cases e
 obtain⟨owner,f1,L⟩:=aV7 t g (es.map (·.1)) (by rw[ai0,ht];omega) (es.map (·.1)).toList 0 _ h0 rfl
 rw[ai7,p0,ai0]at f1 L
 have hlay:layClean M (es.map (·.1))=some owner:=by
  unfold layClean
  rw[<- Array.foldl_toList]
  have:(bi8 _ _ (es.map (·.1)).toList)=some (owner,es.size):=f1
  rw[this]
  rfl
 let live:List (Nat × Nat):=(o8 (M+1)).filterMap fun j=>(owner.getD j none).map (j,·)
 have hlive:∀ p:Nat × Nat,p∈live↔owner[p.1]?=some (some p.2):=fun p=>by
  obtain⟨j,i⟩:=p
  have hg:∀ j,owner.getD j none=(owner[j]?).getD none:=fun j=>by simp
  show (j,i)∈List.filterMap _ _↔_
  rw[ah8]
  constructor
  ·rintro⟨j',hj',e⟩
   rw[hg]at e
   cases q:owner[j']? with
   | none=>rw[q]at e;cases e
   | some z =>
    rw[q]at e
    cases z with
    | none=>cases e
    | some i' =>
     have e':(j',i')=(j,i):=Option.some.inj e
     cases e'
     exact q
  ·intro e
   have hj:j<owner.size:=(getElem?_eq_some_iff.mp e).1
   refine⟨j,B9.mpr (by rw[L.size,ht]at hj;exact hj),?_⟩
   rw[hg,e]
   rfl
 have hpw:live.Pairwise (fun a b=>a.1<b.1):=by
  show (List.filterMap _ _).Pairwise _
  rw[List.pairwise_filterMap]
  refine List.Pairwise.imp ?_ bp1
  intro a b hab p hp q hq
  cases h1:owner.getD a none with
  | none=>rw[h1]at hp;cases hp
  | some i =>
   cases h2:owner.getD b none with
   | none=>rw[h2]at hq;cases hq
   | some i' =>
    rw[h1]at hp
    rw[h2]at hq
    have e1:(a,i)=p:=Option.some.inj hp
    have e2:(b,i')=q:=Option.some.inj hq
    subst e1 e2
    exact hab
 have hnd:(live.map (·.2)).Nodup:=by
  unfold List.Nodup
  rw[L8]
  refine List.Pairwise.imp_of_mem ?_ hpw
  intro a b ha hb hab e
  have h1:=(hlive a).mp ha
  have h2:=(hlive b).mp hb
  rw[<- e]at h2
  have:=L.inj _ _ _ h1 h2
  omega
 have hord:(live.map (·.2)).Perm (o8 es.size):=by
  refine(List.perm_ext_iff_of_nodup hnd List.nodup_range).mpr fun i=>?_
  rw[B9,u6]
  constructor
  ·rintro⟨p,hp,rfl⟩
   exact L.lt _ _ ((hlive p).mp hp)
  ·intro hi
   obtain⟨n,_,q,_⟩:=L.has i ((es.map (·.1))[i]'(by rw[ai0];exact hi)) hi (getElem?_pos _ _ _)
   exact⟨(_,i),(hlive _).mpr q,rfl⟩
 have hlen:live.length=es.size:=by have:=hord.length_eq;simpa using this
 have hes:∀ i,i∈live.map (·.2)->∃ e,es[i]?=some e:=fun i hi=>by
  have:=hord.mem_iff.mp hi
  rw[B9]at this
  exact⟨es[i],getElem?_pos es i this⟩
 have fm:∀ (l:List Nat),(∀ i∈l,∃ e,es[i]?=some e)->(l.filterMap (es[·]?)).length=l.length/\∀ (p:Nat),(l.filterMap (es[·]?))[p]?=(l[p]?).bind (es[·]?):=fun l=>by
  induction l with
  | nil=>intro _;exact⟨rfl,fun p=>rfl⟩
  | cons a l ih =>
   intro h
   obtain⟨e,he⟩:=h a i5
   obtain⟨i1,i2⟩:=ih fun i hi=>h i (d7 _ hi)
   rw[List.filterMap_cons_some he]
   refine⟨by rw[A1,i1,A1],fun p=>?_⟩
   cases p with
   | zero=>simp[he]
   | succ p=>simpa using i2 p
 obtain⟨fl,fg⟩:=fm _ hes
 have hperm:((live.map (·.2)).filterMap (es[·]?)).Perm es.toList:=by
  refine(hord.filterMap _).trans (List.Perm.of_eq ?_)
  apply ak4
  intro p
  obtain⟨_,g2⟩:=fm (o8 es.size) fun i hi=>⟨es[i]'(B9.mp hi),getElem?_pos es i (B9.mp hi)⟩
  rw[g2,show es.toList[p]?=es[p]? from u5 ..]
  by_cases hp:p<es.size
  ·rw[K4 hp];rfl
  ·rw[r6 (by simp;omega),getElem?_neg es p hp];rfl
 let t2:SetTable:={ mask:=M,place:=(live.map (·.1)).toArray,dummies:=#[],finger:=finger,led:=led,moves:=moves,plain:=plain }
 have hes':((live.map (·.2)).toArray.filterMap (es[·]?)).toList=(live.map (·.2)).filterMap (es[·]?):=by simp
 have getE:∀ (p:Nat) (e:En),((live.map (·.2)).toArray.filterMap (es[·]?))[p]?=some e->∃ j i:Nat,live[p]?=some (j,i)/\es[i]?=some e:=fun p e h=>by
  rw[<- u5,hes',fg,o9]at h
  cases q:live[p]? with
  | none=>rw[q]at h;cases h
  | some ji=>rw[q]at h;exact⟨ji.1,ji.2,rfl,h⟩
 have getP:∀ (p:Nat) (j:Nat),t2.place[p]?=some j↔∃ i,live[p]?=some (j,i):=fun p j=>by
  show (live.map (·.1)).toArray[p]?=some j↔_
  rw[List.getElem?_toArray,o9]
  cases q:live[p]? with
  | none=>simp
  | some ji =>
   obtain⟨a,b⟩:=ji
   simp
 have itE:∀ n (p:Probe),it t2 n p=it t n p:=fun n p=>az3 (t:=t) (t':=t2) rfl n p
 refine⟨t2,(live.map (·.2)).toArray,?_,?_,by rw[hes'];exact hperm⟩
 ·unfold laid
  rw[hlay]
  rfl
 ·refine⟨rfl,?_,?_,?_,g,?_,?_⟩
  ·show (live.map (·.1)).toArray.size=_
   rw[d5,b9,<- p0,hes',fl,b9]
  ·intro i j a b hij ea eb
   obtain⟨_,ea⟩:=(getP i a).mp ea
   obtain⟨_,eb⟩:=(getP j b).mp eb
   obtain⟨h1,e1⟩:=m8.mp ea
   obtain⟨h2,e2⟩:=m8.mp eb
   have:=D6.mp hpw i j h1 h2 hij
   rw[e1,e2]at this
   exact this
  ·intro i j e
   obtain⟨i',e⟩:=(getP i j).mp e
   have:=(hlive _).mp (i7 e)
   have hj:j<owner.size:=(getElem?_eq_some_iff.mp this).1
   rw[L.size]at hj
   show j<=M
   exact am0 hj
  ·rw[<- p0,hes',fl,b9,hlen]
   exact hsz
  ·intro p e he
   obtain⟨j,i,hl,hi⟩:=getE p e he
   have ho:=(hlive _).mp (i7 hl)
   have hi':i<es.size:=(getElem?_eq_some_iff.mp hi).1
   obtain⟨n,q1,q2,q3⟩:=L.has i e.1 hi' (by rw[Array.getElem?_map,hi];rfl)
   have ej:=L.inj _ _ _ ho q2
   refine⟨n,q1,?_,fun c hc=>?_⟩
   ·rw[itE]
    exact(getP p _).mpr ⟨i,by rw[hl];congr 2⟩
   ·obtain⟨i',e'⟩:=q3 c hc
    obtain⟨p',hp'⟩:=B4.mp ((hlive (_,i')).mpr e')
    exact⟨p',by rw[itE];exact(getP p' _).mpr ⟨i',hp'⟩⟩
end Sett
namespace Sett
open PySem PySem.SetTable PyProof.Rows
def al6:List Nat->Nat->Bool
 | [],_=>true
 | x::l,acc=>!acc.testBit x && al6 l (acc ||| 2 ^ x)
theorem ar1:∀ (l:List Nat) (acc:Nat),al6 l acc=true->l.Nodup/\∀ x∈l,acc.testBit x=false
 | [],_,_=>⟨bd1,(fun _ h=>nomatch h)⟩
 | x::l,acc,h=>by
  unfold al6 at h
  rw[C4]at h
  obtain⟨h1,h2⟩:=h
  obtain⟨n,m⟩:=ar1 l _ h2
  have m':∀ y∈l,acc.testBit y=false/\x≠y:=fun y hy=>by
   have:=m y hy
   rw[Nat.testBit_or,Bool.or_eq_false_iff,bP0]at this
   exact⟨this.1,of_decide_eq_false this.2⟩
  refine⟨F5.mpr ⟨fun hx=>(m' x hx).2 rfl,n⟩,fun y hy=>?_⟩
  rcases g6.mp hy with rfl | hy
  ·simpa using h1
  ·exact(m' y hy).1
def hp (n:Nat):Nat:=bits (reduceHash (Builtin.Tuple.tupleHashOf [hashInt ((n / 24:Nat):Int),hashInt ((n % 24:Nat):Int)])) % 3708
set_option maxRecDepth 100000 in
theorem bW4:al6 ((o8 576).map hp) 0=true:=by decide +kernel
theorem bW3 {a b:Nat}(ha:a<576)(hb:b<576)(h:hp a=hp b):a=b:=by
 have:=(ar1 _ _ bW4).1
 unfold List.Nodup at this
 rw[L8]at this
 rw[D6]at this
 rcases Y8 a b with q | q | q
 ·have:=this a b (by simpa using ha) (by simpa using hb) q
  simp only[ah9]at this
  exact absurd h this
 ·exact q
 ·have:=this b a (by simpa using hb) (by simpa using ha) q
  simp only[ah9]at this
  exact absurd h.symm this
def ax0 (ks:List Int):Prop:=∃ i j:Nat,i<24/\j<24/\ks=[(i:Int),(j:Int)]
theorem aW3 {prog:j8}{w:x6}{k k':List Int}(h1:ax0 k)(h2:ax0 k')(e:A0 (C6 prog w) k=A0 (C6 prog w) k'):k=k':=by
 obtain⟨i,j,hi,hj,rfl⟩:=h1
 obtain⟨i',j',hi',hj',rfl⟩:=h2
 have e2:hp (24*i+j)=hp (24*i'+j'):=by
  unfold hp
  rw[show (24*i+j) / 24=i by omega,show (24*i+j) % 24=j by omega,show (24*i'+j') / 24=i' by omega,show (24*i'+j') % 24=j' by omega]
  exact congrArg (fun z=>bits z % 3708) e
 have:=bW3 (by omega) (by omega) e2
 have h3:i=i':=by omega
 have h4:j=j':=by omega
 rw[h3,h4]
section
variable {prog:j8} {w:x6}
def am8 (prog:j8)(w:x6)(h:Heap)(k:List Int)(e:En):Prop:=∃ a,e.2=.ref a/\L6 (C6 prog w) h k a/\e.1=A0 (C6 prog w) k
def ay0 (prog:j8)(w:x6)(hk h:Heap)(S:Addr)(ks:List (List Int)):Prop:=
 ∃ o es ep t,h.get? S=some o/\o.ExactSet/\o.data=.set es ep t/\Tb t es/\es.size=ks.length/\ks.Nodup/\(∀ k∈ks,ax0 k)/\(∀ k∈ks,∃ e∈es.toList,am8 prog w hk k e)/\∀ e∈es.toList,∃ k∈ks,am8 prog w hk k e
theorem bw7 {h h':Heap}{k:List Int}{a:Addr}(x:L6 (C6 prog w) h k a)(hs:∀ b o,h.get? b=some o->h'.get? b=some o):L6 (C6 prog w) h' k a:=by
 obtain⟨o,items,n,h2,h3⟩:=x
 exact⟨o,items,n,hs a o h2,h3⟩
theorem am8.up {h h':Heap}{k:List Int}{e:En}(x:am8 prog w h k e)(hs:∀ b o,h.get? b=some o->h'.get? b=some o):am8 prog w h' k e:=by
 obtain⟨a,h1,h2,h6⟩:=x
 exact⟨a,h1,bw7 h2 hs,h6⟩
theorem am8.inj {h:Heap}{k k':List Int}{e:En}(x:am8 prog w h k e)(y:am8 prog w h k' e):k=k':=by
 obtain⟨a,h1,h2,_⟩:=x
 obtain⟨b,h3,h4,_⟩:=y
 rw[h1]at h3
 cases h3
 exact h2.inj h4
variable {A:u4} {E:c6->c7->Prop} {s:c7}
theorem bc5 (x:Addr)(es:Array En):byScan (.ref x) es=false:=by
 unfold byScan Value.scannable
 rfl
theorem av2 {k:List Int}{x:Addr}{Q:Bool->c7->Prop}(hx:L6 (C6 prog w) s.heap k x)(h:Q true s):o7 (y6 prog w) A (bj7 8 (.ref x)) Q E s:=by
 have hT:=hx.typeIs
 obtain⟨o,items,n,ho,hc,hd,hi⟩:=hx
 unfold bj7
 refine b7 (wpAny_specialOf hT F.slot_tuple_hash.lookup ?_)
 dsimp only
 refine b7 (J2 ho hd ?_)
 show o7 _ _ (forIn items _ _ >>= _) _ _ s
 rw[<- ah1]
 have hv:∀ v∈items.toList,∃ i t,v=.int i t:=fun v hv=>by
  clear ho hd
  generalize items.toList=l at hi hv
  induction hi with
  | nil=>cases hv
  | cons h1 _ ih =>
   rcases g6.mp hv with rfl | hv
   ·obtain⟨t,e⟩:=Value.isInt_shape h1
    exact⟨_,t,e⟩
   ·exact ih hv
 refine b7 (at4 _ (fun rest r s'=>r.1=none/\s'=s/\∀ v∈rest,∃ i t,v=.int i t) _ ?_ ?_ _ _ ⟨rfl,rfl,hv⟩)
 ·rintro v rest r s' ⟨hr,rfl,hall⟩
  obtain⟨i,t,rfl⟩:=hall v i5
  have e:bj7 7 (.int i t)=pure true:=by unfold bj7;rfl
  rw[e]
  refine b7 (d3 ?_)
  simp only[ad0,o6,if_false]
  exact d3 ⟨rfl,rfl,fun u hu'=>hall u (d7 _ hu')⟩
 ·rintro⟨r1,r2⟩ s' ⟨hr,rfl,_⟩
  simp only at hr
  subst hr
  exact d3 h
end
section
variable {prog:j8} {w:x6} {A:u4} {E:c6->c7->Prop} {s:c7}
theorem aH5 {S x:Addr}{o:Obj}{es:Array En}{ep:Nat}{t:SetTable}{h:Int}{Q:SetFound->c7->Prop}(ho:s.heap.get? S=some o)(hd:o.data=.set es ep t)(T:Tb t es)(hh:∀ e∈es.toList,e.1≠h)
  (hq:∀ n,n<10*turns t.mask->(∀ i:Nat,t.place[i]?≠some (it t n (t.probeStart h)).j)->(it t n (t.probeStart h)).j<=t.mask->(∀ k,k<n->∃ i':Nat,t.place[i']?=some (it t k (t.probeStart h)).j)->Q (.free (it t n (t.probeStart h)).j false) s) :
  o7 (y6 prog w) A (bP5 S (.ref x) h true) Q E s:=by
 obtain⟨n,h1,h2,h3,h4,h5⟩:=T.absent hh
 unfold bP5 aM4
 refine b7 (T6 ho hd T.fits ?_)
 dsimp only
 rw[T.odd]
 simp only[o6,if_false]
 split
 ·rename_i met hm
  have e:=hm.symm.trans h5
  cases e
  exact d3 (hq n h1 h2 h3 h4)
 ·rename_i hm
  exact absurd h5 (fun z=>hm _ z)
theorem aX5 {k:List Int}{x:Addr}{Q:Bool->c7->Prop}(hx:L6 (C6 prog w) s.heap k x)(h:Q false s):o7 (y6 prog w) A (ao0 8 (.ref x)) Q E s:=by
 have hT:=hx.typeIs
 obtain⟨o,items,n,ho,hc,hd,hi⟩:=hx
 unfold ao0
 refine b7 (ak5 hT ?_)
 dsimp only
 rw[if_pos (by decide)]
 refine b7 (d3 ?_)
 simp only[ad0,o6,if_false]
 refine b7 (J2 ho hd ?_)
 dsimp only
 rw[<- ah1]
 have hv:∀ v∈items.toList,∃ i t,v=.int i t:=fun v hv=>by
  clear ho hd
  generalize items.toList=l at hi hv
  induction hi with
  | nil=>cases hv
  | cons h1 _ ih =>
   rcases g6.mp hv with rfl | hv
   ·obtain⟨t,e⟩:=Value.isInt_shape h1
    exact⟨_,t,e⟩
   ·exact ih hv
 refine b7 (at4 _ (fun rest r s'=>r.1=none/\s'=s/\∀ v∈rest,∃ i t,v=.int i t) _ ?_ ?_ _ _ ⟨rfl,rfl,hv⟩)
 ·rintro v rest r s' ⟨hr,rfl,hall⟩
  obtain⟨i,t,rfl⟩:=hall v i5
  have e:ao0 7 (.int i t)=pure false:=by unfold ao0;rfl
  rw[e]
  refine b7 (d3 ?_)
  simp only[o6,if_false]
  exact d3 ⟨rfl,rfl,fun u hu'=>hall u (d7 _ hu')⟩
 ·rintro⟨r1,r2⟩ s' ⟨hr,rfl,_⟩
  simp only at hr
  subst hr
  exact d3 h
theorem bQ4 {k:List Int}{x:Addr}{l:List c6}{Q:Bool->c7->Prop}(hx:L6 (C6 prog w) s.heap k x)(hl:∀ v∈l,∃ a k',v=.ref a/\L6 (C6 prog w) s.heap k' a)(h:Q false s) :
  o7 (y6 prog w) A (searchCouldBeSeen (.ref x) l) Q E s:=by
 unfold searchCouldBeSeen
 refine b7 (at4 _ (fun rest r s'=>r.1=none/\s'=s/\∀ v∈rest,∃ a k',v=.ref a/\L6 (C6 prog w) s.heap k' a) _ ?_ ?_ _ _ ⟨rfl,rfl,hl⟩)
 ·rintro v rest r s' ⟨hr,rfl,hall⟩
  obtain⟨a,k',rfl,ha⟩:=hall v i5
  have hrest:∀ v∈rest,∃ a k',v=.ref a/\L6 (C6 prog w) s'.heap k' a:=fun u hu'=>hall u (d7 _ hu')
  dsimp only
  split
  ·exact d3 ⟨rfl,rfl,hrest⟩
  ·refine b7 (bP6 hx ?_)
   simp only[ad0,o6,if_false]
   refine b7 (bP6 ha ?_)
   simp only[ad0,o6,if_false]
   refine b7 (aX5 hx ?_)
   simp only[o6,if_false]
   refine b7 (aX5 ha ?_)
   simp only[o6,if_false]
   exact d3 ⟨rfl,rfl,hrest⟩
 ·rintro⟨r1,r2⟩ s' ⟨hr,rfl,_⟩
  simp only at hr
  subst hr
  exact d3 h
theorem aB1 {S x:Addr}{o:Obj}{es:Array En}{ep:Nat}{t:SetTable}{k:List Int}{i:Nat}{e:En}{Q:SetFound->c7->Prop}(hu:A.units<ap5)(ho:s.heap.get? S=some o)(hd:o.data=.set es ep t)(T:Tb t es)
  (hx:L6 (C6 prog w) s.heap k x)(he:es[i]?=some e)(hk:am8 prog w s.heap k e)(hall:∀ e∈es.toList,∃ k,am8 prog w s.heap k e)(huq:∀ (c:Nat) (e':En),es[c]?=some e'->e'.1=e.1->c=i)
  (hq:Q (.there none) s):o7 (y6 prog w) A (bP5 S (.ref x) (A0 (C6 prog w) k) true) Q E s:=by
 obtain⟨y,hy1,hy2,hy3⟩:=hk
 obtain⟨j,q,hp⟩:=T.present he huq
 rw[hy3]at hp
 unfold bP5 aM4
 refine b7 (T6 ho hd T.fits ?_)
 dsimp only
 rw[T.odd]
 simp only[o6,if_false]
 have fin:o7 (y6 prog w) A (do
   let some (_,y):=es[i]? | bj8 "internal:set-entry"
   let equal <- aG7 [y] (eqBool y (.ref x))
   let (es',_,t') <- setState S
   if true && equal then return .there none
   let some same:=t'.sameMemory t.moves t.mask | bj8 "set.changed-during-lookup:is-the-new-block-at-the-old-address"
   let still <- match (if same then t'.slot j else .empty) with
    | .live i'=>match es'[i']? with
     | some (_,y')=>do pure (if <- isSame y' y then some i' else none)
     | none=>pure none
    | _=>pure none
   match still with
   | none=>rule "set.search.anew";aM4 S (.ref x) (A0 (C6 prog w) k) true 99999 none
   | some i'=>if equal then return .there (some i') else aM4 S (.ref x) (A0 (C6 prog w) k) true 99999 (some q)) Q E s:=by
  rw[he]
  obtain⟨e1,e2⟩:=e
  have hy1:e2=.ref y:=hy1
  subst hy1
  dsimp only
  refine b7 (D3 (wpAny_eqBool_tuple hu hy2 hx ?_))
  refine b7 (T6 ho hd T.fits ?_)
  dsimp only
  rw[decide_eq_true rfl]
  simp only[Bool.and_self,if_true]
  exact d3 hq
 split
 ·rename_i met hm
  have e9:=hm.symm.trans hp
  cases e9
  dsimp only
  cases hled:t.led with
  | true =>
   simp only[ad0,o6,if_false]
   exact fin
  | false =>
   simp only[bd2,if_true]
   refine b7 (bQ4 hx (fun v hv=>?_) ?_)
   ·rw[u6]at hv
    obtain⟨e',he',rfl⟩:=hv
    have he'':e'∈es.toList:=by
     have:=Array.mem_filter.mp (at5.mp he')
     exact at5.mpr this.1
    obtain⟨k',a,h1,h2,_⟩:=hall e' he''
    exact⟨a,k',h1,h2⟩
   ·simp only[o6,if_false]
    exact fin
 ·rename_i hm
  exact absurd hp (fun z=>hm _ z)
end
theorem thr {n m:Nat}(g:Good m)(h1:n*5<m*3)(h2:m*3<=(n+1)*5)(h3:n<300):(m=7/\n+1=5)\/(m=31/\n+1=19)\/(m=127/\n+1=77):=by
 rcases g with rfl | rfl | rfl | rfl<;>omega
theorem bc0 {n m:Nat}(g:Good m)(h1:n*5<m*3)(h2:m*3<=(n+1)*5)(h3:n<300):Good (sizeAbove (grown (n+1)) - 1)/\(n+1)*5<(sizeAbove (grown (n+1)) - 1)*3/\sizeAbove (grown (n+1))<=4096:=by
 rcases thr g h1 h2 h3 with⟨_,e⟩ | ⟨_,e⟩ | ⟨_,e⟩<;>rw[e]<;>refine⟨?_,by decide +kernel,by decide +kernel⟩
 ·exact .inr (.inl (by decide +kernel))
 ·exact .inr (.inr (.inl (by decide +kernel)))
 ·exact .inr (.inr (.inr (by decide +kernel)))
theorem bE0 {t:SetTable}{es:Array En}(T:Tb' t es):t.tooFull=decide (t.mask*3<=es.size*5):=by
 unfold tooFull PySem.SetTable.fill
 rw[T.dum,T.len]
 rfl
section
variable {prog:j8} {w:x6} {A:u4} {E:c6->c7->Prop} {s:c7}
theorem stored {S:Addr}{o:Obj}{es es':Array En}{ep:Nat}{t t':SetTable}{h:Heap}(ho:h.get? S=some o)(hd:o.data=.set es ep t) :
  (h.update S (Obj.putSet es' t')).get? S=some { o with data:=.set es' (ep+1) t' }:=by
 have:=N9 (Obj.putSet es' t') ho (by rw[putSet_of es' t' hd];rfl)
 rw[putSet_of es' t' hd]at this
 exact this
theorem aS8 {S x:Addr}{ks:List (List Int)}{k:List Int}{Q:Bool->c7->Prop}{hp:Heap}(hup:∀ b o,hp.get? b=some o->s.heap.get? b=some o)(hu:A.units<ap5)(hS:ay0 prog w hp s.heap S ks)(hx0:L6 (C6 prog w) hp k x)(hk:ax0 k)(hn:ks.length<300)
  (hq:∀ (b:Bool) (h':Heap) (tk:Nat),s.toks<=tk->Heap.SameBut S s.heap h'->ay0 prog w hp h' S (if k∈ks then ks else k::ks)->Q b { s with heap:=h',toks:=tk }) :
  o7 (y6 prog w) A (setAdd S (.ref x)) Q E s:=by
 have hx:=bw7 hx0 hup
 unfold setAdd
 refine D3 (b7 (wpAny_pyHash_tuple hu hx ?_))
 obtain⟨o,es,ep,t,ho,hex,hd,T,hsz,hnd,hok,hto,hfrom⟩:=hS
 unfold setAddHashed
 refine D3 ?_
 unfold setAddHashedIn
 refine b7 (T6 (s:={ s with toks:=s.toks+(k.length+1) }) ho hd T.fits ?_)
 dsimp only
 rw[bc5]
 simp only[o6,if_false]
 by_cases hmem:k∈ks
 ·-- it is there
  obtain⟨e,he,hek⟩:=hto k hmem
  obtain⟨i,hi⟩:=B4.mp he
  rw[u5]at hi
  have huq:∀ (c:Nat) (e':En),es[c]?=some e'->e'.1=e.1->c=i:=fun c e' hc hh=>by
   apply Classical.byContradiction
   intro hci
   have hkey:∀ (c:Nat),c<es.size->∃ kk,kk∈ks/\∃ e,es[c]?=some e/\am8 prog w hp kk e:=fun c hc=>by
    have e:=getElem?_pos es c hc
    obtain⟨kk,h1,h2⟩:=hfrom es[c] (by simp)
    exact⟨kk,h1,_,e,h2⟩
   have e'k:am8 prog w hp k e':=by
    obtain⟨kk,h1,h2⟩:=hfrom e' (i7 (by rw[u5];exact hc))
    have h3:=h2
    obtain⟨_,_,_,h4⟩:=h2
    have h5:=hek
    obtain⟨_,_,_,h6⟩:=h5
    have:kk=k:=aW3 (prog:=prog) (w:=w) (hok kk h1) hk (by rw[<- h4,hh,h6])
    rw[<- this]
    exact h3
   have hch:∀ n,n<ks.length->∃ c,c<es.size/\∃ e,es[c]?=some e/\∃ kk,ks[n]?=some kk/\am8 prog w hp kk e:=fun n hn'=>by
    obtain⟨e,he,hek⟩:=hto ks[n] (U6 hn')
    obtain⟨c,hc⟩:=B4.mp he
    rw[u5]at hc
    exact⟨c,(getElem?_eq_some_iff.mp hc).1,e,hc,ks[n],i6 hn',hek⟩
   have:=aO1 (es.size - 1) ks.length (fun n=>if hn':n<ks.length then (let c0:=Classical.choose (hch n hn');let c1:=if c0=c then i else c0;if c1<c then c1 else c1 - 1) else 0) ?_ ?_
   ·have hc':=(getElem?_eq_some_iff.mp hc).1
    omega
   ·intro n hn'
    dsimp only
    rw[dif_pos hn']
    have hp:=Classical.choose_spec (hch n hn')
    generalize Classical.choose (hch n hn')=c0 at hp
    obtain⟨p1,_⟩:=hp
    have hc':=(getElem?_eq_some_iff.mp hc).1
    have hi':=(getElem?_eq_some_iff.mp hi).1
    split<;>split<;>omega
   ·intro n n' hn1 hn2 eqn
    dsimp only at eqn
    rw[dif_pos hn1,dif_pos hn2]at eqn
    have hp:=Classical.choose_spec (hch n hn1)
    have hp':=Classical.choose_spec (hch n' hn2)
    generalize Classical.choose (hch n hn1)=c0 at hp eqn
    generalize Classical.choose (hch n' hn2)=c0' at hp' eqn
    obtain⟨p1,e1,p2,kk,p3,p4⟩:=hp
    obtain⟨p1',e1',p2',kk',p3',p4'⟩:=hp'
    have same:kk=kk':=by
     have r1:am8 prog w hp kk (if c0=c then e else e1):=by
      split
      ·rename_i hcc
       subst hcc
       rw[hc]at p2
       cases p2
       have:=p4.inj e'k
       rw[this]
       exact hek
      ·exact p4
     have r2:am8 prog w hp kk' (if c0'=c then e else e1'):=by
      split
      ·rename_i hcc
       subst hcc
       rw[hc]at p2'
       cases p2'
       have:=p4'.inj e'k
       rw[this]
       exact hek
      ·exact p4'
     have g1:es[if c0=c then i else c0]?=some (if c0=c then e else e1):=by split<;>assumption
     have g2:es[if c0'=c then i else c0']?=some (if c0'=c then e else e1'):=by split<;>assumption
     have ne1:(if c0=c then i else c0)≠c:=by split<;>omega
     have ne2:(if c0'=c then i else c0')≠c:=by split<;>omega
     have eqc:(if c0=c then i else c0)=(if c0'=c then i else c0'):=by
      generalize (if c0=c then i else c0)=u at eqn ne1
      generalize (if c0'=c then i else c0')=v at eqn ne2
      split at eqn<;>split at eqn<;>omega
     rw[eqc,g2]at g1
     rw[<- Option.some.inj g1]at r1
     exact r1.inj r2
    subst same
    obtain⟨q1,q2⟩:=m8.mp p3
    obtain⟨q3,q4⟩:=m8.mp p3'
    rcases Y8 n n' with z | z | z
    ·exact absurd (q2.trans q4.symm) (D6.mp hnd n n' q1 q3 z)
    ·exact z
    ·exact absurd (q4.trans q2.symm) (D6.mp hnd n' n q3 q1 z)
  refine b7 (aB1 (s:={ s with toks:=s.toks+(k.length+1) }) hu ho hd T hx hi (hek.up hup) (fun e he=>?_) huq ?_)
  ·obtain⟨kk,_,h2⟩:=hfrom e he
   exact⟨kk,h2.up hup⟩
  ·refine d3 ?_
   have:=hq false s.heap (s.toks+(k.length+1)) (Q1 _ _) (Heap.SameBut.refl S s.heap)
   rw[if_pos hmem]at this
   exact this ⟨o,es,ep,t,ho,hex,hd,T,hsz,hnd,hok,hto,hfrom⟩
 ·-- it is new
  have hh:∀ e∈es.toList,e.1≠A0 (C6 prog w) k:=fun e he z=>by
   obtain⟨kk,h1,h2⟩:=hfrom e he
   obtain⟨_,_,_,h4⟩:=h2
   have:kk=k:=aW3 (prog:=prog) (w:=w) (hok kk h1) hk (by rw[<- h4,z])
   exact hmem (this ▸ h1)
  refine b7 (aH5 (s:={ s with toks:=s.toks+(k.length+1) }) ho hd T hh fun n hn1 hfr hle hocc=>?_)
  dsimp only
  refine b7 (T6 (s:={ s with toks:=s.toks+(k.length+1) }) ho hd T.fits ?_)
  dsimp only
  obtain⟨hp1,T1⟩:=T.put (h:=A0 (C6 prog w) k) (x:=Value.ref x) hn1 hfr hle hocc
  generalize hpt:t.put (it t n (t.probeStart (A0 (C6 prog w) k))).j=tp at hp1 T1 ⊢
  have hled:tp.1.mask=t.mask:=by
   rw[<- hpt]
   unfold SetTable.put
   rfl
  obtain⟨t1,p⟩:=tp
  dsimp only at hp1 T1 hled ⊢
  have hsz1:(insertAt es p (A0 (C6 prog w) k,Value.ref x)).size=es.size+1:=aq0 hp1
  have fits1:(insertAt es p (A0 (C6 prog w) k,Value.ref x)).size<=i9:=by rw[hsz1,hsz,E4];omega
  have made:∀ (h':Heap) (o':Obj) (es':Array En) (ep':Nat) (t':SetTable),Heap.SameBut S s.heap h'->h'.get? S=some o'->o'.ExactSet->o'.data=.set es' ep' t'->Tb t' es' ->
    es'.toList.Perm (insertAt es p (A0 (C6 prog w) k,Value.ref x)).toList->ay0 prog w hp h' S (k::ks):=fun h' o' es' ep' t' hsb ho' hex' hd' T' hpm=>by
   have hmemE:∀ e,e∈es'.toList↔e=(A0 (C6 prog w) k,Value.ref x)\/e∈es.toList:=fun e=>by rw[hpm.mem_iff];exact bI6 hp1 e
   have hnew:am8 prog w hp k (A0 (C6 prog w) k,Value.ref x):=⟨x,rfl,hx0,rfl⟩
   refine⟨o',es',ep',t',ho',hex',hd',T',?_,F5.mpr ⟨hmem,hnd⟩,fun kk hkk=>?_,fun kk hkk=>?_,fun e he=>?_⟩
   ·have:=hpm.length_eq
    rw[p0,p0,hsz1,hsz]at this
    rw[this,A1]
   ·rcases g6.mp hkk with rfl | hkk
    ·exact hk
    ·exact hok kk hkk
   ·rcases g6.mp hkk with rfl | hkk
    ·exact⟨_,(hmemE _).mpr (.inl rfl),hnew⟩
    ·obtain⟨e,he,hek⟩:=hto kk hkk
     exact⟨e,(hmemE e).mpr (.inr he),hek⟩
   ·rcases(hmemE e).mp he with rfl | he
    ·exact⟨k,i5,hnew⟩
    ·obtain⟨kk,h1,h2⟩:=hfrom e he
     exact⟨kk,d7 _ h1,h2⟩
  have rest:∀ b:Bool,o7 (y6 prog w) A (do
    storeSet S (insertAt es p (A0 (C6 prog w) k,Value.ref x)) (if b=true then t1 else { t1 with plain:=false })
    if (!false && (if b=true then t1 else { t1 with plain:=false }).tooFull)=true then do
     setRelay S (grown (es.size+1))
     pure true
    else pure true) Q E { s with toks:=s.toks+(k.length+1) }:=fun b=>by
   have T2:Tb' (if b=true then t1 else { t1 with plain:=false }) (insertAt es p (A0 (C6 prog w) k,Value.ref x)):=by
    split
    ·exact T1
    ·exact T1.plain false
   have hm2:(if b=true then t1 else { t1 with plain:=false }).mask=t.mask:=by split<;>exact hled
   generalize (if b=true then t1 else { t1 with plain:=false })=t2 at T2 hm2
   refine b7 (wpAny_storeSet_of (s:={ s with toks:=s.toks+(k.length+1) }) ho hd ?_ fits1)
   have ho1:=stored (es':=insertAt es p (A0 (C6 prog w) k,Value.ref x)) (t':=t2) ho hd
   have hsb1:=Heap.SameBut.update s.heap S (Obj.putSet (insertAt es p (A0 (C6 prog w) k,Value.ref x)) t2)
   rw[bE0 T2]
   simp only[bd2,bo7,decide_eq_true_eq]
   by_cases hful:t2.mask*3<=(insertAt es p (A0 (C6 prog w) k,Value.ref x)).size*5
   ·rw[if_pos hful]
    rw[hsz1,hm2]at hful
    obtain⟨g1,g2,g3⟩:=bc0 T.good T.nf hful (by rw[hsz];exact hn)
    unfold setRelay
    refine b7 (b7 (T6 (s:={ s with heap:=s.heap.update S (Obj.putSet (insertAt es p (A0 (C6 prog w) k,Value.ref x)) t2),toks:=s.toks+(k.length+1) }) ho1 rfl T2.fits ?_))
    dsimp only
    rw[if_neg (by rw[E4];omega)]
    obtain⟨t3,order,hl3,T3,hpm3⟩:=bJ1 (M:=sizeAbove (grown (es.size+1)) - 1) (finger:=t2.finger) (moves:=t2.movedTo (sizeAbove (grown (es.size+1)) - 1)) (led:=t2.led) (plain:=t2.plain) (es:=insertAt es p (A0 (C6 prog w) k,Value.ref x)) g1 (by rw[hsz1];exact g2)
    have hrel:t2.relaid ((insertAt es p (A0 (C6 prog w) k,Value.ref x)).map (·.1)) (grown (es.size+1))=some (t3,order):=by
     unfold relaid
     exact hl3
    rw[hrel]
    have hsz3:(order.filterMap ((insertAt es p (A0 (C6 prog w) k,Value.ref x))[·]?)).size=(insertAt es p (A0 (C6 prog w) k,Value.ref x)).size:=by
     rw[<- p0,hpm3.length_eq,p0]
    refine b7 ?_
    show o7 _ _ (if ((order.filterMap ((insertAt es p (A0 (C6 prog w) k,Value.ref x))[·]?)).size != (insertAt es p (A0 (C6 prog w) k,Value.ref x)).size)=true then _ else _) _ _ _
    rw[if_neg (by rw[hsz3];simp)]
    first | refine d3 ?_ | refine b7 (d3 (d3 ?_))
    dsimp only
    refine wpAny_storeSet_of (s:={ s with heap:=s.heap.update S (Obj.putSet (insertAt es p (A0 (C6 prog w) k,Value.ref x)) t2),toks:=s.toks+(k.length+1) }) ho1 rfl ?_ (by rw[hsz3];exact fits1)
    refine d3 ?_
    have ho2:=stored (es':=order.filterMap ((insertAt es p (A0 (C6 prog w) k,Value.ref x))[·]?)) (t':=t3) ho1 rfl
    have hsb2:=hsb1.trans (Heap.SameBut.update _ S (Obj.putSet (order.filterMap ((insertAt es p (A0 (C6 prog w) k,Value.ref x))[·]?)) t3))
    have:=hq true _ (s.toks+(k.length+1)) (Q1 _ _) hsb2
    rw[if_neg hmem]at this
    exact this (made _ _ _ _ _ hsb2 ho2 hex rfl T3 hpm3)
   ·rw[if_neg hful]
    refine d3 ?_
    have:=hq true _ (s.toks+(k.length+1)) (Q1 _ _) hsb1
    rw[if_neg hmem]at this
    exact this (made _ _ _ _ _ hsb1 ho1 hex rfl (T2.full (by omega)) (List.Perm.refl _))
  cases hpl:t1.plain with
  | true =>
   rw[if_pos rfl]
   refine b7 (av2 (s:={ s with toks:=s.toks+(k.length+1) }) hx ?_)
   exact rest true
  | false =>
   rw[if_neg k9]
   refine b7 (d3 ?_)
   exact rest true
end
def T4 (ks:List (List Int))(k:List Int):List (List Int):=if k∈ks then ks else k::ks
theorem bx5 (ks:List (List Int))(k:List Int):(T4 ks k).length<=ks.length+1:=by unfold T4;split<;>simp
theorem ar7:∀ (l ks:List (List Int)),(l.foldl T4 ks).length<=ks.length+l.length
 | [],ks=>by simp
 | k::l,ks=>by
  rw[as8]
  have h1:=ar7 l (T4 ks k)
  have h2:=bx5 ks k
  rw[A1]
  omega
theorem ae2:∀ (l ks:List (List Int)),(l.foldl T4 ks).length=ks.length+l.length↔l.Nodup/\∀ x∈l,x∉ks
 | [],ks=>by simp
 | k::l,ks=>by
  rw[as8,A1,F5]
  by_cases h:k∈ks
  ·have e:T4 ks k=ks:=by unfold T4;rw[if_pos h]
   rw[e]
   have:=ar7 l ks
   constructor
   ·intro q;omega
   ·rintro⟨_,q⟩
    exact absurd h (q k i5)
  ·have e:T4 ks k=k::ks:=by unfold T4;rw[if_neg h]
   rw[e]
   have:=ae2 l (k::ks)
   rw[A1]at this
   constructor
   ·intro q
    obtain⟨q1,q2⟩:=this.mp (by omega)
    refine⟨⟨fun hk=>q2 k hk i5,q1⟩,fun x hx=>?_⟩
    rcases g6.mp hx with rfl | hx
    ·exact h
    ·exact fun z=>q2 x hx (d7 _ z)
   ·rintro⟨⟨q1,q2⟩,q3⟩
    have:=this.mpr ⟨q2,fun x hx z=>by
     rcases g6.mp z with rfl | z
     ·exact q1 hx
     ·exact q3 x (d7 _ hx) z⟩
    omega
section
variable {prog:j8} {w:x6}
theorem aR9 {A:u4}{R:Result->c7->Prop}{I:Addr}{fp wr:List Addr}{G:Array bC0->Array bC0->Prop}{n:Nat}{P:Nat->c6->Prop}{St:Nat->c7->Prop}
  (W:WalksS prog w A.in1 I fp wr G n P St)(hu:A.in1.units<ap5)(S:Addr)(hSf:S∉fp)(hp:Heap)(hS0:hp.get? S=none)(hw0:∀ b∈wr,hp.get? b=none)(keys:List (List Int))(hn:keys.length=n)(hb:n<300)
  (hkey:∀ i v,P i v->∃ x k,v=.ref x/\keys[i]?=some k/\ax0 k/\L6 (C6 prog w) hp k x) :
  ∀ (c i:Nat) (s:c7),n - i=c->i<=n->St i s->(∀ b o,hp.get? b=some o->s.heap.get? b=some o)->ay0 prog w hp s.heap S ((keys.take i).foldl T4 []) ->
   (∀ s',Moved (S::wr) G s s'->ay0 prog w hp s'.heap S (keys.foldl T4 [])->R (.ok (.ret .none)) s') ->
   am1 (y6 prog w) A (.builtin "set.update.loop" ⟨[.ref S,.ref I],[]⟩) R s:=by
 have hSw:S∉wr:=fun h=>hSf (W.sub _ h)
 have hsub:∀ b∈wr,b∈S::wr:=fun b hb=>d7 _ hb
 have nw:∀ b o,hp.get? b=some o->b∉wr:=fun b o e hm=>by rw[hw0 b hm]at e;cases e
 have nS:∀ b o,hp.get? b=some o->b≠S:=fun b o e hm=>by rw[hm,hS0]at e;cases e
 have setKept:∀ {s s':c7} {ks:List (List Int)},ay0 prog w hp s.heap S ks->(∀ b o,b∉wr->s.heap.get? b=some o->s'.heap.get? b=some o)->ay0 prog w hp s'.heap S ks:=fun {s s' ks} hS hk=>by
  obtain⟨o,es,ep,t,ho,rest⟩:=hS
  exact⟨o,es,ep,t,hk S o hSw ho,rest⟩
 intro c
 induction c with
 | zero =>
  intro i s hk hi hst hup hS hR
  have hin:i=n:=by omega
  subst hin
  refine P4 PyProof.Rows.F.entry_set_update_loop ?_
  rw[Around.under_plainId PyProof.Rows.F.plain_set_update_loop _]
  show o7 _ A.in1 (aL8 (.ref I) >>= _) _ _ s
  refine b7 (W.done s _ _ hst fun s' hm=>?_)
  show o7 _ A.in1 (ret Value.none) _ _ s'
  refine d3 (hR s' (hm.mono hsub) ?_)
  have:=setKept hS hm.heap
  rw[k8 (by omega)]at this
  exact this
 | succ c ih =>
  intro i s hk hi hst hup hS hR
  have hlt:i<n:=by omega
  refine P4 PyProof.Rows.F.entry_set_update_loop ?_
  rw[Around.under_plainId PyProof.Rows.F.plain_set_update_loop _]
  show o7 _ A.in1 (aL8 (.ref I) >>= _) _ _ s
  refine b7 (W.item i s _ _ hlt hst fun v s' hP hst' hm=>?_)
  obtain⟨x,k,rfl,hki,hok,hx⟩:=hkey i v hP
  have hup':∀ b o,hp.get? b=some o->s'.heap.get? b=some o:=fun b o e=>hm.heap b o (nw b o e) (hup b o e)
  have hS':=setKept (s':=s') hS hm.heap
  show o7 _ A.in1 (aG7 [Value.ref x] (setAdd S (.ref x)) >>= _) _ _ s'
  refine b7 (D3 ?_)
  have hlen:((keys.take i).foldl T4 []).length<300:=by
   have:=ar7 (keys.take i) []
   rw[o4]at this
   simp only[List.length_nil]at this
   omega
  refine aS8 hup' hu hS' hx hok hlen fun b h' tk htk hsb hS2=>?_
  have hS3:ay0 prog w hp h' S ((keys.take (i+1)).foldl T4 []):=by
   rw[C3,hki,List.foldl_append]
   exact hS2
  refine d3 ⟨af4 PyProof.Rows.F.plain_set_update_loop _,ih (i+1) _ (by omega) hlt (W.frame _ s' _ _ hst' htk fun b hb o e=>?_) (fun b o e=>?_) hS3 fun s'' hm'' hS''=>?_⟩
  ·rw[hsb.2 b (fun h:b=S=>hSf (h ▸ hb))];exact e
  ·show h'.get? b=some o
   rw[hsb.2 b (nS b o e)]
   exact hup' b o e
  ·refine hR s'' (Moved.trans W.gtrans ((hm.mono hsub).then_heap htk fun b o hb e=>?_) hm'') hS''
   rw[hsb.2 b (fun h:b=S=>hb (h ▸ i5))];exact e
variable {A:u4} {E:c6->c7->Prop} {s:c7}
set_option maxRecDepth 100000 in
set_option maxHeartbeats 3200000 in
theorem aS7 {l:Addr}{items:Array c6}{keys:List (List Int)}{Q:c6->c7->Prop}(hh:A.handled=none)(hu:A.units+8<ap5)(hl:s.heap.IsList l items)(hn:keys.length=items.size)(hb:items.size<300)
  (hkey:∀ (i:Nat) (v:c6),items[i]?=some v->∃ x k,v=.ref x/\keys[i]?=some k/\ax0 k/\L6 (C6 prog w) s.heap k x)
  (h:∀ (h':Heap) (tk:Nat),ay0 prog w s.heap h' s.heap.objs.size (keys.foldl T4 [])->(∀ b o,s.heap.get? b=some o->h'.get? b=some o)->Q (.ref s.heap.objs.size) { s with heap:=h',toks:=tk }) :
  o7 (y6 prog w) A (call (.type "set") [.ref l]) Q E s:=by
 obtain⟨c,tl,hmro⟩:=F.called_set.mro
 have hmade:=F.called_set.made
 have hsub:=F.called_set.sub
 refine aR1 (codeAny_of_tree ?_)
 show o7 _ _ (callAny (.type "set") _) _ _ _
 refine d3 ⟨Code.quiet_builtin _ (by decide +kernel),P4 F.entry_type_call ?_⟩
 rw[Around.under_plain (weight_type_call_type "set" [.ref l] []) rfl]
 have h1:=F.called_set.notType
 have h2:=F.called_set.canCreate
 have hct:=F.typeCall_set_1 (.ref l)
 repeat (any_goals (first | assumption | wp_step))
 refine ac5 (code_set_new_1 (.ref l) (E:=E) (Q₁:=fun obj s₁=>∃ led:Bool,obj=.ref s.heap.objs.size/\s₁={ s with heap:=s.heap.push { cls:=.type "set",dict:=none,data:=.set #[] 0 (.fresh 0 0 led) } }) fun led=>⟨led,rfl,rfl⟩) fun r s₁ hr=>?_
 cases r with
 | error e=>exact hr
 | ok fl =>
  cases fl with
  | ret obj =>
   obtain⟨led,rfl,rfl⟩:=hr
   have hS:(s.heap.push { cls:=.type "set",dict:=none,data:=.set #[] 0 (.fresh 0 0 led) }).get? s.heap.objs.size=some { cls:=.type "set",dict:=none,data:=.set #[] 0 (.fresh 0 0 led) }:=i8 _ rfl
   have hT:Shared.TypeIs { s with heap:=s.heap.push { cls:=.type "set",dict:=none,data:=.set #[] 0 (.fresh 0 0 led) } } (.ref s.heap.objs.size) "set":=⟨_,hS,rfl⟩
   have hli:=F.called_set.init.lookup
   have hbi:=F.called_set.init.bind (.ref s.heap.objs.size)
   repeat (any_goals (first | assumption | wp_step))
   refine ac5 (codeAny_call_builtin (R:=wants (fun r s₂=>r=.none/\∃ h' tk,s₂={ s with heap:=h',toks:=tk }/\ay0 prog w s.heap h' s.heap.objs.size (keys.foldl T4 [])/\(∀ b o,s.heap.get? b=some o->h'.get? b=some o)) E) F.called_set.init.plain F.entry_set_init (check_set_init_1 hT ?_)) fun r₂ s₂ hr₂=>?_
   ·obtain⟨ol,hol,hcl,nl,hdl⟩:=hl
    obtain⟨ocls,odict,odata,oslots⟩:=ol
    simp only at hcl hdl
    subst hcl;subst hdl
    have hol':(s.heap.push { cls:=.type "set",dict:=none,data:=.set #[] 0 (.fresh 0 0 led) }).get? l=some { cls:=.type "list",dict:=odict,data:=.seq items nl,slots:=oslots }:=c5 _ hol
    have hsls:=F.sub_list_set
    have hslf:=F.sub_list_frozenset
    have hne:(Value.type "list" == Value.type "dict")=false:=by decide
    have hl1:(s.heap.push { cls:=.type "set",dict:=none,data:=.set #[] 0 (.fresh 0 0 led) }).IsList l items:=⟨_,hol',rfl,nl,rfl⟩
    unfold ai3.«set.__init__» noKeywords Builtin.Frozenset.updateFrom
    generalize hPI:pyIter=PI
    wp_walk
    subst hPI
    refine M9 hl1 ?_
    refine b7 (wpAny_runValue ?_)
    have hlS:l<s.heap.objs.size:=d6 hol
    have hh3:A.in1.in1.in1.handled=none:=by simp[hh]
    have hneI:l≠(s.heap.push { cls:=.type "set",dict:=none,data:=.set #[] 0 (.fresh 0 0 led) }).objs.size:=by
     rw[D0];exact j7 (C0 hlS)
    have hSf:s.heap.objs.size∉[(s.heap.push { cls:=.type "set",dict:=none,data:=.set #[] 0 (.fresh 0 0 led) }).objs.size,l]:=by
     rw[D0];simp only[g6,B7,J3,or_false,not_or]
     exact⟨j7 (ac1 _),K7 hlS⟩
    refine aR9 ((Walks.list hh3 _ l hneI items).toS) ?hu s.heap.objs.size hSf s.heap ?hn ?hw keys hn hb hkey (items.size - 0) 0 _ (by omega) (y9 _)
     ⟨⟨_,i8 _ rfl,rfl,rfl⟩,(hl1.push _)⟩ (fun b o e=>c5 _ (c5 _ e)) ?hS0 ?hR
    case hu=>show A.units+1+1+1<ap5;omega
    case hn=>exact av8 (d4 _)
    case hw =>
     intro b hb
     have e:b=(s.heap.push { cls:=.type "set",dict:=none,data:=.set #[] 0 (.fresh 0 0 led) }).objs.size:=by simpa using hb
     rw[e]
     exact av8 (by rw[D0];exact Y9 _)
    case hS0 =>
     have hget:((s.heap.push { cls:=.type "set",dict:=none,data:=.set #[] 0 (.fresh 0 0 led) }).push { cls:=.type "list_iterator",data:=.fields #[.ref l,.int 0 0] }).get? s.heap.objs.size
       = some { cls:=.type "set",dict:=none,data:=.set #[] 0 (.fresh 0 0 led) }:=c5 _ hS
     refine⟨_,_,_,_,hget,⟨rfl,rfl,rfl⟩,rfl,⟨rfl,rfl,?_,?_,.inl rfl,by show 0*5<7*3;decide,?_⟩,rfl,bd1,(fun _ h=>nomatch h),(fun _ h=>nomatch h),(fun _ h=>nomatch h)⟩
     ·intro i j a b hij ea
      simp[SetTable.fresh]at ea
     ·intro i j ea
      simp[SetTable.fresh]at ea
     ·intro i e ea
      simp at ea
    case hR =>
     intro s' hm hS'
     obtain⟨h',g',d',tk',os'⟩:=s'
     have eg:g'=s.gens:=hm.gens
     have ed:d'=s.drawn:=hm.drawn
     have eo:os'=s.os:=hm.os
     subst eg;subst ed;subst eo
     show o7 _ _ _ _ _ _
     refine d3 ?_
     show o7 _ _ (ret Value.none) _ _ _
     refine d3 ⟨rfl,h',tk',rfl,hS',fun b o e=>?_⟩
     have hlt:=d6 e
     have hb1:b≠s.heap.objs.size:=j7 hlt
     have hb2:b≠(s.heap.push { cls:=.type "set",dict:=none,data:=.set #[] 0 (.fresh 0 0 led) }).objs.size:=by
      rw[D0];exact j7 (C0 hlt)
     exact hm.heap b o (by simp only[g6,B7,J3,or_false,not_or];exact⟨hb1,hb2⟩) (c5 _ (c5 _ e))
   ·cases r₂ with
    | error e=>exact hr₂
    | ok fl₂ =>
     cases fl₂ with
     | ret r =>
      obtain⟨rfl,h',tk,rfl,hS',hk'⟩:=hr₂
      repeat (any_goals (first | assumption | wp_step))
      exact h _ _ hS' hk'
     | _=>exact hr₂.elim
  | _=>exact hr.elim
theorem bb5 {S:Addr}{hp:Heap}{ks:List (List Int)}{Q:c6->c7->Prop}(hS:ay0 prog w hp s.heap S ks)(hn:ks.length<300)(h:∀ t tk,Q (.int ks.length t) { s with toks:=tk }) :
  o7 (y6 prog w) A (call (.builtin "len") [.ref S]) Q E s:=by
 obtain⟨o,es,ep,t,ho,hex,hd,T,hsz,_⟩:=hS
 refine call_len_set ho hex hd T.fits (by omega) ?_
 rw[hsz]
 exact h _ _
end
end Sett
namespace L2
open PySem PySem.Spec PyProof.Rows
def C1 (K:W.Frag)(H:Hp)(ys:List V)(ks:List (List Int)):Prop:=ac3 (fun y k=>∃ a,y=V.ref a/\SqT K H a (k.map V.int)) ys ks
theorem C1.len {K:W.Frag}{H:Hp}{ys:List V}{ks:List (List Int)}(t:C1 K H ys ks):ys.length=ks.length:=Paired.length t
theorem C1.get {K:W.Frag}{H:Hp}:∀ {ys:List V} {ks:List (List Int)} {i:Nat} {y:V},C1 K H ys ks->ys[i]?=some y->∃ a k,y=V.ref a/\ks[i]?=some k/\SqT K H a (k.map V.int)
 | _,_,_,_,.nil,e=>by simp at e
 | _,_,0,_,.cons r _,e=>by
  simp at e
  subst e
  obtain⟨a,h1,h2⟩:=r
  exact⟨a,_,h1,rfl,h2⟩
 | _,_,i+1,y,.cons _ t,e=>by
  obtain⟨a,k,h1,h2,h3⟩:=C1.get (i:=i) (y:=y) t (by simpa using e)
  exact⟨a,k,h1,by simpa using h2,h3⟩
theorem C1.same {K:W.Frag}{H H':Hp}(hs:∀ b o,H b=some o->H' b=some o):∀ {ys:List V} {ks:List (List Int)},C1 K H ys ks->C1 K H' ys ks
 | _,_,.nil=>.nil
 | _,_,.cons r t=>by
  obtain⟨a,h1,h2⟩:=r
  refine .cons ⟨a,h1,?_⟩ (C1.same hs t)
  rcases h2 with(h | ⟨o,h⟩) | h
  ·exact .inl (.inl (hs _ _ h))
  ·exact .inl (.inr ⟨o,hs _ _ h⟩)
  ·exact .inr h
theorem C1.append {K:W.Frag}{H:Hp}:∀ {ys zs:List V} {ks ls:List (List Int)},C1 K H ys ks->C1 K H zs ls->C1 K H (ys++zs) (ks++ls)
 | _,_,_,_,.nil,s=>s
 | _,_,_,_,.cons r t,s=>.cons r (C1.append t s)
section
variable {X:Cx} {pins:List (Addr × Obj)} {σ:St} {H:Hp} {s:c7}
theorem aW0 {prog:j8}{w:x6}:∀ {k:List Int} {its:List c6},D9 (k.map V.int) its->ItemsAre (C6 prog w) k its
 | [],_,.nil=>.nil
 | i::k,_,.cons r t=>by
  obtain⟨tk,rfl⟩:=r
  exact .cons (by simp[C6,Value.isInt]) (aW0 t)
theorem bD9 (I:Inv X pins σ H s){a:Addr}{k:List Int}(h:SqT X.K H a (k.map V.int)):L6 (C6 X.prog X.w) s.heap k a:=by
 obtain⟨its,r,⟨o,ho,hc,n,hd⟩,_⟩:=I.tuple h
 exact⟨o,its.toArray,n,ho,hc,hd,by simpa using aW0 r⟩
theorem V3 (I:Inv X pins σ H s):∀ {ys:List V} {ks:List (List Int)} {us:List c6},C1 X.K H ys ks->D9 ys us->ac3 (fun u k=>∃ a,u=Value.ref a/\L6 (C6 X.prog X.w) s.heap k a) us ks
 | _,_,_,.nil,.nil=>.nil
 | _,_,_,.cons r t,.cons q v=>by
  obtain⟨a,rfl,h⟩:=r
  cases q
  exact .cons ⟨a,rfl,bD9 I h⟩ (V3 I t v)
theorem Z5 {α β:Type}{R:α->β->Prop}:∀ {l:List α} {m:List β} {i:Nat} {x:α},ac3 R l m->l[i]?=some x->∃ y,m[i]?=some y/\R x y
 | _,_,_,_,.nil,e=>by simp at e
 | _,_,0,_,.cons r _,e=>by simp at e;subst e;exact⟨_,rfl,r⟩
 | _,_,i+1,x,.cons _ t,e=>by
  obtain⟨y,h1,h2⟩:=Z5 (i:=i) (x:=x) t (by simpa using e)
  exact⟨y,by simpa using h1,h2⟩
theorem ab4 {α β:Type}{R:α->β->Prop}{l l':List α}(p:l'.Perm l):∀ {m:List β},ac3 R l m->∃ m',m'.Perm m/\ac3 R l' m':=by
 induction p with
 | nil=>intro m h;exact⟨m,List.Perm.refl _,h⟩
 | cons x _ ih =>
  intro m h
  cases h with
  | cons r t =>
   obtain⟨m',p',h'⟩:=ih t
   exact⟨_::m',p'.cons _,.cons r h'⟩
 | swap x y l =>
  intro m h
  cases h with
  | cons r t =>
   cases t with
   | cons r' t'=>exact⟨_::_::_,List.Perm.swap _ _ _,.cons r' (.cons r t')⟩
 | trans _ _ ih1 ih2 =>
  intro m h
  obtain⟨m1,p1,h1⟩:=ih2 h
  obtain⟨m2,p2,h2⟩:=ih1 h1
  exact⟨m2,p2.trans p1,h2⟩
theorem W5 {α β:Type}{R:α->β->Prop}:∀ {l:List α} {m:List β},ac3 R l m->ac3 (fun b a=>R a b) m l
 | _,_,.nil=>.nil
 | _,_,.cons r t=>.cons r (W5 t)
theorem aC6 {α β:Type}{R S:α->β->Prop}(f:∀ a b,R a b->S a b):∀ {l:List α} {m:List β},ac3 R l m->ac3 S l m
 | _,_,.nil=>.nil
 | _,_,.cons r t=>.cons (f _ _ r) (aC6 f t)
end
section
variable {X:Cx}
def aI1 (P:j8)(w:x6)(S:Addr)(n:Nat):HO:=.ext fun h=>∃ hk ks,ks.length=n/\n<300/\Sett.ay0 P w hk h S ks
theorem aF1 (hc:X.calm=true)(hu:X.A.units+8<ap5):Q8 X (.type "set") (fun xs H Q=>∃ p ys ks,xs=[.ref p]/\SqL X.K H p ys/\C1 X.K H ys ks/\(∀ k∈ks,Sett.ax0 k)/\ks.length<300 /\
  ∀ S,H S=none->Q (.ref S) (upd H S (aI1 X.prog X.w S (ks.foldl Sett.T4 []).length))):=by
 intro pins s σ H xs us Q I r h
 obtain⟨p,ys,ks,rfl,hq,ht,hok,hb,q⟩:=h
 obtain⟨u,rfl,rx⟩:=vals1 r
 cases rx
 obtain⟨its,r',pl,hz⟩:=I.list hq
 have hlen:=r'.length
 have hk:=V3 I ht r'
 have hkl:=ht.len
 refine Sett.aS7 (keys:=ks) (I.ok.hd hc) hu pl.isList (by simp;omega) (by simp;omega) (fun i v hv=>?_) fun h' tk hS kp=>?_
 ·obtain⟨k,h1,a,rfl,h2⟩:=Z5 hk (by simpa using hv)
  exact⟨a,k,rfl,h1,hok k (i7 h1),h2⟩
 ·have hle:=Sett.ar7 ks []
  simp only[List.length_nil]at hle
  refine⟨.ref s.heap.objs.size,_,I.laid (o:=aI1 X.prog X.w s.heap.objs.size (ks.foldl Sett.T4 []).length) (t':=tk) kp (d4 _) ?_,rfl,q _ (I.hok.fresh (d4 _))⟩
  refine⟨⟨s.heap,ks.foldl Sett.T4 [],rfl,by omega,hS⟩,?_,fun h1 h2 ⟨hk1,ks1,e1,e2,hS1⟩ hkeep=>⟨hk1,ks1,e1,e2,?_⟩⟩
  ·obtain⟨o,_,_,_,ho,_⟩:=hS
   exact⟨o,ho⟩
  ·obtain⟨o,es,ep,t,ho,rest⟩:=hS1
   exact⟨o,es,ep,t,hkeep o ho,rest⟩
theorem call_len_set:Q8 X (.builtin "len") (fun xs H Q=>∃ S n,xs=[.ref S]/\H S=some (aI1 X.prog X.w S n)/\Q (.int n) H):=by
 intro pins s σ H xs us Q I r h
 obtain⟨S,n,rfl,hS,q⟩:=h
 obtain⟨u,rfl,rx⟩:=vals1 r
 cases rx
 obtain⟨⟨hk,ks,e1,e2,hS1⟩,_⟩:=I.hok S _ hS
 refine Sett.bb5 hS1 (by omega) fun t tk=>?_
 exact⟨.int n,H,I.tok _,⟨t,by rw[e1]⟩,q⟩
end
def D7 (X:Cx)(scope:R8)(cl:List (Str × Addr))(N':List Str)(s₃:c7)(H₃:Hp)(fp:List Addr)(xe':c6->c7->Prop):Cx:=
 { X with N:=N',s₀:=s₃,H₀:=H₃,env:=O2 scope cl s₃.heap.objs.size X.env,outer:=X.stack,ex:=fp,fn:=fun _=>false,pn:=[],xe:=xe' }
def ay2 (env:Env):List (Str × Addr)->Prop
 | []=>True
 | (x,c)::r=>env.cells.lookup x=some c/\ay2 env r
theorem ay2.get {env:Env}:∀ {cl:List (Str × Addr)} {x:Str} {c:Addr},ay2 env cl->cl.lookup x=some c->env.cells.lookup x=some c
 | [],_,_,_,h=>by cases h
 | (y,d)::r,x,c,⟨h1,h2⟩,h=>by
  rw[bZ1]at h
  cases e:x == y with
  | true =>
   rw[e]at h
   cases h
   rw[eq_of_beq e]
   exact h1
  | false =>
   rw[e]at h
   exact ay2.get h2 h
def am9 (names:List (Str × aM0))(cl:List (Str × Addr)):Bool:=names.all fun y=>y.2 != .cell && (y.2 != .free || (cl.lookup y.1).isSome)
theorem Z7 {env:Env}:∀ {names:List (Str × aM0)} {x:Str} {k:aM0},(names.map fun(n,k)=>if (k == NameKind.free && env.scope.kind == .function && env.kindOf n == some .cell) then (n,NameKind.cell) else (n,k)).lookup x=some k ->
  ∃ k',(x,k')∈names/\(k'=k\/(k'=.free/\k=.cell))
 | [],_,_,h=>by cases h
 | (n,k0)::r,x,k,h=>by
  rw[v8]at h
  have hn:∀ k1,(F6 x ((n,k1)::r.map fun(n,k)=>if (k == NameKind.free && env.scope.kind == .function && env.kindOf n == some .cell) then (n,NameKind.cell) else (n,k)))=some k->(x=n/\k1=k)\/∃ k',(x,k')∈r/\(k'=k\/(k'=.free/\k=.cell)):=fun k1 h=>by
   rw[bZ1]at h
   cases e:x == n with
   | true=>rw[e]at h;cases h;exact .inl ⟨eq_of_beq e,rfl⟩
   | false=>rw[e]at h;exact .inr (Z7 h)
  dsimp only at h
  by_cases hc:(k0 == NameKind.free && env.scope.kind == .function && env.kindOf n == some .cell)=true
  ·rw[if_pos hc]at h
   rcases hn _ h with⟨rfl,rfl⟩ | ⟨k',h1,h2⟩
   ·simp only[C4]at hc
    have e0:k0=.free:=eq_of_beq hc.1.1
    exact⟨k0,i5,.inr ⟨e0,rfl⟩⟩
   ·exact⟨k',d7 _ h1,h2⟩
  ·rw[if_neg hc]at h
   rcases hn _ h with⟨rfl,rfl⟩ | ⟨k',h1,h2⟩
   ·exact⟨k0,i5,.inl rfl⟩
   ·exact⟨k',d7 _ h1,h2⟩
def ac9 (lk:List (Option Nat))(σ:St):St:=lk.map fun o=>o.bind fun j=>(σ[j]?).join
def bo6 (X:Cx)(N':List Str)(lk:List (Option Nat))(scope:R8)(cl:List (Str × Addr)):Prop:=
 lk.length=N'.length/\∀ (i j:Nat) (x:Str),N'[i]?=some x->lk[i]?=some (some j)->X.N[j]?=some x/\(X.env.scope.names.lookup x=some .cell\/X.env.scope.names.lookup x=some .free)/\(cl.lookup x).isSome=true /\
  ((O2 scope cl 0 X.env).kindOf x=some .cell\/(O2 scope cl 0 X.env).kindOf x=some .free)
section
variable {X:Cx}
theorem ao8 {pins:List (Addr × Obj)}{σ:St}{H3:Hp}{s3:c7}{h1:Heap}{tk:Nat}{scope:R8}{cl:List (Str × Addr)}{N':List Str}{lk:List (Option Nat)}{fp:List Addr}{xe':c6->c7->Prop}{m0:Str->Option c6}
  (I:Inv X pins σ H3 s3)(hf:∀ b∈fp,N8 X pins H3 b)(hkind:scope.kind=.function)(hcl:ay2 X.env cl)(hfr:am9 scope.names cl=true)(hlk:bo6 X N' lk scope cl)
  (hn:h1.Ns s3.heap.objs.size m0)(hk:∀ b u,s3.heap.get? b=some u->h1.get? b=some u)(hfs:∀ b∈fp,b<s3.heap.objs.size):Inv (D7 X scope cl N' s3 H3 fp xe') [] (ac9 lk σ) H3 { s3 with heap:=h1,toks:=tk }:=by
 have hC:H3 s3.heap.objs.size=none:=I.hok.fresh (d4 _)
 have hmem:∀ y∈scope.names,y.2≠.cell/\(y.2=.free->(cl.lookup y.1).isSome=true):=fun y hy=>by
  unfold am9 at hfr
  rw[N3]at hfr
  have:=hfr y hy
  rw[C4]at this
  refine⟨by simpa using this.1,fun e=>?_⟩
  have h2:=this.2
  rw[e]at h2
  simpa using h2
 have hcell:∀ x c,cl.lookup x=some c->X.env.cells.lookup x=some c:=fun x c e=>hcl.get e
 have clt:∀ x c,cl.lookup x=some c->c<s3.heap.objs.size:=fun x c e=>by
  obtain⟨v,q⟩:=I.cell x c (hcell x c e)
  exact q.lt
 refine⟨⟨I.ok.mod,hkind,I.ok.glob,I.ok.blt,d4 _,fun x y c e1 e2=>I.ok.inj x y c (hcell x c e1) (hcell y c e2),fun x hx=>?_,(fun x c e=>by cases e),I.ok.hd,I.ok.frames,.inl rfl,fun b hb=>?_,fun b o e=>I.bs b o e,A4 I.ok.bsz I.sz,fun b o e hb=>?_,fun b hb z=>?_,I.stack,I.stkFree⟩,
  rfl,I.bare,Un.kept hk,⟨m0,hn,fun i x v e1 e2 e3=>?_⟩,fun x c e=>?_,hC,fun x c e=>?_,(fun p hp=>nomatch hp),I.hok.kept hk,?_⟩
 ·have hx':(relabel scope X.env).names.lookup x=some .cell\/(relabel scope X.env).names.lookup x=some .free:=hx
  have:∃ k',(x,k')∈scope.names/\k'=.free:=by
   rcases hx' with h | h
   ·obtain⟨k',h1,h2⟩:=Z7 h
    rcases h2 with h2 | h2
    ·exact absurd h2 (hmem _ h1).1
    ·exact⟨k',h1,h2.1⟩
   ·obtain⟨k',h1,h2⟩:=Z7 h
    rcases h2 with h2 | h2
    ·exact⟨k',h1,h2⟩
    ·exact⟨k',h1,h2.1⟩
  obtain⟨k',h1,h2⟩:=this
  exact v9.mp ((hmem _ h1).2 h2)
 ·obtain⟨f0,f1,f2,f3,f4,f5⟩:=hf b hb
  exact⟨j7 (hfs b hb),fun x c e=>f4 x c (hcell x c e)⟩
 ·obtain⟨f0,f1,f2,f3,f4,f5⟩:=hf b hb
  rcases f3 with f3 | f3
  ·exact I.ok.noex b o e f3
  ·exact absurd (p7 (d6 e) (A4 I.ok.bsz f3)) (B8 _)
 ·obtain⟨f0,f1,f2,f3,f4,f5⟩:=hf b hb
  rcases g6.mp (I.stkSub b z) with e | e
  ·exact f1 e
  ·exact f2 e
 ·-- a captured name
  have e2':(ac9 lk σ)[i]?=some (some v):=e2
  unfold ac9 at e2'
  rw[o9]at e2'
  cases hq:lk[i]? with
  | none=>rw[hq]at e2';cases e2'
  | some o =>
   rw[hq]at e2'
   have e2'':(o.bind fun j=>(σ[j]?).join)=some v:=Option.some.inj e2'
   cases o with
   | none=>cases e2''
   | some j =>
    obtain⟨q1,q2,q3,q4⟩:=hlk.2 i j x e1 hq
    have hσ:σ[j]?=some (some v):=by
     have z:(σ[j]?).join=some v:=e2''
     cases hh:σ[j]? with
     | none=>rw[hh]at z;cases z
     | some o=>rw[hh]at z;rw[show o=some v from z]
    obtain⟨m,hnX,hl⟩:=I.loc
    obtain⟨u,r,lo⟩:=hl j x v q1 hσ (q2.elim (fun a=>.inr (.inl a)) (fun a=>.inr (.inr a)))
    refine⟨u,r,.inr ?_⟩
    obtain⟨c,hc⟩:=v9.mp q3
    refine⟨q4,c,hc,?_⟩
    have hcX:=hcell x c hc
    rcases lo with⟨k,_⟩ | ⟨_,c',hc',z⟩
    ·have k':X.env.scope.names.lookup x=some .local:=k
     rw[k']at q2
     rcases q2 with q2 | q2<;>cases q2
    ·rw[hcX]at hc'
     cases hc'
     obtain⟨o,ho,hd⟩:=z
     exact⟨o,hk c o ho,hd⟩
 ·obtain⟨v,o,ho,hd⟩:=I.cell x c (hcell x c e)
  exact⟨v,o,hk c o ho,hd⟩
 ·exact I.freeC x c (hcell x c e)
 ·show (ac9 lk σ).length=N'.length
  unfold ac9
  rw[b9]
  exact hlk.1
def PTs (X:Cx)(ifs:List Expr)(t:TT):Prop:=
 ∀ (pins:List (Addr × Obj)) (s:c7) (σ:St) (H:Hp) (Q:Bool->Hp->Prop),Inv X pins σ H s->t σ H Q->o7 (y6 X.prog X.w) X.A (forIn ifs true fun c r=>if r=true then do let ok <- isTrue c X.env (eval c X.env);pure (ForInStep.yield ok) else pure (ForInStep.yield r)) (TP X pins σ Q) X.xe s
def bM0:TT:=fun _ H Q=>Q true H
theorem Q3:PTs X [] bM0:=fun pins s σ H Q I h=>wpAny_tests_nil ⟨H,I,h⟩
theorem ag2 {c:Expr}{t:TT}(h:PT X c t):PTs X [c] t:=fun pins s σ H Q I q=>wpAny_tests_one (h pins s σ H Q I q)
def bd9 (wi:TI)(lk:List (Option Nat))(g:TG)(tt:TT)(te:TE):TE:=fun σ H Q=>wi σ H fun J H1=>∀ D,H1 D=none->∃ W:Nat->Nat->List V->St->Hp->Prop,(∃ m,W 0 m [] (ac9 lk σ) (upd H1 D (.lst [])))/\∀ i m xs σ' H',W i m xs σ' H' ->
 H' D=some (.lst xs)/\((J.stop i H'/\Q (.ref D) H')\/(J.go i H'/\xs.length<i9/\∀ x H'',J.yld i H' x H''->g x σ' H'' fun σ2 H2=>tt σ2 H2 fun b H3 =>
  if b=true then te σ2 H3 fun v H4=>H4 D=some (.lst xs)/\∃ m',m'<m/\W (i+1) m' (xs++[v]) σ2 (upd H4 D (.lst (xs++[v]))) else ∃ m',m'<m/\W (i+1) m' xs σ2 H3))
theorem O9 {elt iter tg:Expr}{ifs:List Expr}{scope:R8}{pos:Pos}{cl:List (Str × Addr)}{N':List Str}{lk:List (Option Nat)}{wi:TI}{g:TG}{tt:TT}{te:TE}(hc:X.calm=true)(hi:PI X tg iter wi)(hclos:ay3 scope X.env=pure cl)(hkind:scope.kind=.function)
  (hnames:∀ y∈scope.names,y.2=.local->scope.names.lookup y.1=some .local)(hcl:ay2 X.env cl)(hfr:am9 scope.names cl=true)(hlk:bo6 X N' lk scope cl)
  (hg:∀ s3 H3 fp,PG (D7 X scope cl N' s3 H3 fp fun _ _=>False) tg g)(ht:∀ s3 H3 fp,PTs (D7 X scope cl N' s3 H3 fp fun _ _=>False) ifs tt)(he:∀ s3 H3 fp,PE (D7 X scope cl N' s3 H3 fp fun _ _=>False) elt te)
  (hs:∀ x,aa5 iter X.env x=pure x:=by intro _;rfl):PE X (.ListComp elt [⟨tg,iter,ifs,0⟩] scope pos) (bd9 wi lk g tt te):=by
 intro pins s σ H Q I h
 rw[eval_ListComp]
 have hcellN:∀ y∈scope.names,y.2≠.cell:=fun y hy=>by
  unfold am9 at hfr
  rw[N3]at hfr
  have:=hfr y hy
  rw[C4]at this
  simpa using this.1
 refine ao1 (use:=none) rfl hs hclos hkind hnames (thn (hi pins s σ H _ I h) fun v s1 h1=>thn h1 fun itv s2 h2=>?_)
 obtain⟨it,fp,tn,J,H2,e,I2,T,st2,f2,q⟩:=h2
 subst e
 refine M0 ?_ (y9 _)
 have hD:H2 s2.heap.objs.size=none:=I2.hok.fresh (d4 _)
 have I3:=I2.lnew (ys:=[]) (its:=[]) (t':=s2.toks) .nil (y9 _)
 obtain⟨W,⟨m0,w0⟩,turn⟩:=q s2.heap.objs.size hD
 have fpl:∀ b∈fp,b<s2.heap.objs.size:=fun b hb=>by
  obtain⟨o,ho,_⟩:=T.obj 0 s2.heap st2 b hb
  exact d6 ho
 refine U7 hcellN (by intro y hy;cases hy) (fun h1 hns1 hsb1=>?_) hkind
 dsimp only at hns1 hsb1 ⊢
 have e3:s2.heap.push { cls:=.type "list",dict:=none,data:=.seq ([]:List c6).toArray }=s2.heap.push { cls:=.type "list",data:=.seq ([]:List c6).toArray }:=rfl
 generalize hh3:s2.heap.push { cls:=.type "list",dict:=none,data:=.seq ([]:List c6).toArray }=h3 at *
 have I3':Inv X pins σ (upd H2 s2.heap.objs.size (.lst [])) { s2 with heap:=h3,toks:=s2.toks }:=I3
 have size3:h3.objs.size=s2.heap.objs.size+1:=by rw[<- hh3,D0]
 have f3:∀ b∈fp,N8 X pins (upd H2 s2.heap.objs.size (.lst [])) b:=fun b hb=>by
  obtain⟨f0,fr⟩:=f2 b hb
  exact⟨by rw[v7 (j7 (fpl b hb))];exact f0,fr⟩
 have up:∀ b u,h3.get? b=some u->h1.get? b=some u:=fun b u eb=>by
  rw[hsb1.2 b (j7 (d6 eb))]
  exact c5 _ eb
 have I4:Inv (D7 X scope cl N' { s2 with heap:=h3,toks:=s2.toks } (upd H2 s2.heap.objs.size (.lst [])) fp fun _ _=>False) [] (ac9 lk σ) (upd H2 s2.heap.objs.size (.lst [])) { s2 with heap:=h1,toks:=s2.toks+([]:List (Str × c6)).length }:=
  ao8 (s3:={ s2 with heap:=h3,toks:=s2.toks }) I3' f3 hkind hcl hfr hlk hns1 up fun b hb=>by show b<h3.objs.size;rw[size3];exact C0 (fpl b hb)
 have st4:tn 0 h1:=T.keep 0 s2.heap h1 st2 fun b hb o eb=>up b o (by rw[<- hh3];exact c5 _ eb)
 have hCs:h3.objs.size=(O2 scope cl h3.objs.size X.env).locals:=rfl
 have stat:∀ {H':Hp},(∀ b∈fp,H' b=none)->∀ b∈fp,N8 (D7 X scope cl N' { s2 with heap:=h3,toks:=s2.toks } (upd H2 s2.heap.objs.size (.lst [])) fp fun _ _=>False) [] H' b:=fun {H'} hn b hb=>by
  obtain⟨f0,f1,f2',f3',f4,f5⟩:=f3 b hb
  refine⟨hn b hb,?_,fun z=>?_,.inl hb,fun x c ex=>f4 x c (hcl.get ex),fun p hp=>nomatch hp⟩
  ·show b≠h3.objs.size
   rw[size3]
   exact j7 (C0 (fpl b hb))
  ·rcases g6.mp (I3'.stkSub b z) with q | q
   ·exact f1 q
   ·exact f2' q
 have fin:∀ (s':c7) (σ':St) (H':Hp),Inv (D7 X scope cl N' { s2 with heap:=h3,toks:=s2.toks } (upd H2 s2.heap.objs.size (.lst [])) fp fun _ _=>False) [] σ' H' s'->Q (.ref s2.heap.objs.size) H' ->
   ay4 (y6 X.prog X.w) X.A X.xe none (EP X pins σ Q) (.ref s2.heap.objs.size) h3.objs.size (.ok .next) s':=fun s' σ' H' I' q'=>by
  obtain⟨m,hm,_⟩:=id I'.loc
  have I5:Inv X pins σ H' s':=I3'.call' (ch:=fp) I'.os I'.base I'.hok I'.bare fun b hb=>by
   obtain⟨f0,f1,f2',f3',f4,f5⟩:=f3 b hb
   exact⟨f3',f1,f4,f5⟩
  refine⟨m,hm,fun h' hsb=>?_⟩
  refine⟨.ref s2.heap.objs.size,H',?_,rfl,q'⟩
  have hfc:H' h3.objs.size=none:=I'.free
  have hcl1:∀ b o,h3.get? b=some o->b≠h3.objs.size:=fun b o eb=>j7 (d6 eb)
  obtain⟨h0',g0,d0,t0,o0⟩:=s'
  refine I5.turned (t':=t0) (it:=h3.objs.size) (fun b o hb eb=>(hsb.2 b hb).trans eb) hfc ?_ (.inr I3'.sz) (fun x c ex z=>?_) (fun p hp z=>?_)
  ·exact K7 I3'.lt
  ·obtain⟨v',q2⟩:=I3'.cell x c ex
   exact absurd q2.lt (by rw[z];exact B8 _)
  ·exact absurd (d6 (I3'.pin p hp).1) (by rw[z];exact B8 _)
 have loop:∀ s5:c7,s5={ s2 with heap:=h1,toks:=s2.toks+([]:List (Str × c6)).length } ->
   am1 (y6 X.prog X.w) X.A (.compLoop (.ListComp elt [⟨tg,iter,ifs,0⟩] scope pos) 0 (.ref it) (.ref s2.heap.objs.size) (O2 scope cl h3.objs.size X.env)) (ay4 (y6 X.prog X.w) X.A X.xe none (EP X pins σ Q) (.ref s2.heap.objs.size) h3.objs.size) s5:=by
  rintro s5 rfl
  refine bP7 rfl (fun n s'=>∃ i xs σ' H',Inv (D7 X scope cl N' { s2 with heap:=h3,toks:=s2.toks } (upd H2 s2.heap.objs.size (.lst [])) fp fun _ _=>False) [] σ' H' s'/\tn i s'.heap/\(∀ b∈fp,H' b=none)/\W i n xs σ' H')
   (fun n s6 hI=>?_) m0 ⟨0,[],ac9 lk σ,_,I4,st4,fun b hb=>(f3 b hb).1,w0⟩
  obtain⟨i,xs,σ6,H6,I6,st6,fr6,w6⟩:=hI
  show o7 _ X.A ((compTurn (.ListComp elt [⟨tg,iter,ifs,0⟩] scope pos) 0 (.ref it) (.ref s2.heap.objs.size) (O2 scope cl h3.objs.size X.env)).onRaise (fun x=>do ax3 x (O2 scope cl h3.objs.size X.env);bj9 x)) _ _ s6
  refine ca0 ?_
  rw[bD0]
  refine b7 (af3 (b7 ?_))
  obtain⟨hD6,hw⟩:=turn i n xs σ6 H6 w6
  rcases hw with⟨stop,qn⟩ | ⟨go,hlen,step⟩
  ·refine thn (T.done (D7 X scope cl N' { s2 with heap:=h3,toks:=s2.toks } (upd H2 s2.heap.objs.size (.lst [])) fp fun _ _=>False) rfl rfl rfl hc i [] s6 σ6 H6 _ I6 (stat fr6) st6 stop) fun r s7 ⟨hr,I7⟩=>?_
   subst hr
   exact d3 (fin s7 σ6 H6 I7 qn)
  ·refine thn (T.item (D7 X scope cl N' { s2 with heap:=h3,toks:=s2.toks } (upd H2 s2.heap.objs.size (.lst [])) fp fun _ _=>False) rfl rfl rfl hc i [] s6 σ6 H6 _ I6 (stat fr6) st6 go) fun r s7 ⟨u,hr,h7⟩=>?_
   subst hr
   refine b7 (thn h7 fun _ s8 ⟨x,H8,I8,r8,y8,st8,fr8⟩=>?_)
   have I8':=I8.pinned (stat fr8) (T.obj _ _ st8)
   refine b7 (E3 (hg _ _ _ _ s8 σ6 H8 x u _ I8' r8 (step x H8 y8)) (fun _ s9 ⟨σ9,H9,I9,q9⟩=>?_) (fun _ _ z=>False.elim z))
   refine b7 (E3 (ht _ _ _ _ s9 σ9 H9 _ I9 q9) (fun ok s10 ⟨H10,I10,q10⟩=>?_) (fun _ _ z=>False.elim z))
   have bj2:∀ {σ':St} {H':Hp} {ys:List V} {s':c7},Inv (D7 X scope cl N' { s2 with heap:=h3,toks:=s2.toks } (upd H2 s2.heap.objs.size (.lst [])) fp fun _ _=>False) ([]++aj7 fp s8.heap) σ' H' s'->(∃ m',m'<n/\W (i+1) m' ys σ' H') ->
     ∃ m',m'<n/\∃ i xs σ' H',Inv (D7 X scope cl N' { s2 with heap:=h3,toks:=s2.toks } (upd H2 s2.heap.objs.size (.lst [])) fp fun _ _=>False) [] σ' H' s'/\tn i s'.heap/\(∀ b∈fp,H' b=none)/\W i m' xs σ' H':=fun {σ' H' ys s'} I' ⟨m',hm,w'⟩=>by
    refine⟨m',hm,i+1,ys,σ',H',I'.unpinned,T.keep _ _ _ st8 fun b hb o eb=>(I'.pin (b,o) (m9 _ (m9 _ (O3 hb eb)))).1,fun b hb=>?_,w'⟩
    obtain⟨o,eb,_⟩:=T.obj _ _ st8 b hb
    exact(I'.pin (b,o) (m9 _ (m9 _ (O3 hb eb)))).2.1
   cases ok with
   | false =>
    have q10':∃ m',m'<n/\W (i+1) m' xs σ9 H10:=by simpa using q10
    exact d3 ⟨rfl,bj2 I10 q10'⟩
   | true =>
    rw[if_pos rfl]at q10
    refine b7 (b7 (E3 (he _ _ _ _ s10 σ9 H10 _ I10 q10) (fun y s11 ⟨v11,H11,I11,r11,hD11,q11⟩=>?_) (fun _ _ z=>False.elim z)))
    refine b7 (E3 (S4 (X:=D7 X scope cl N' { s2 with heap:=h3,toks:=s2.toks } (upd H2 s2.heap.objs.size (.lst [])) fp fun _ _=>False) _ s11 σ9 H11 (.ref s2.heap.objs.size) [v11] (.ref s2.heap.objs.size) [y] (fun _ H'=>∃ m',m'<n/\W (i+1) m' (xs++[v11]) σ9 H') I11 rfl (.cons r11 .nil) ⟨s2.heap.objs.size,xs,v11,rfl,rfl,hD11,hlen,q11⟩) (fun _ s12 ⟨_,H12,I12,_,q12⟩=>?_) (fun _ _ z=>False.elim z))
    exact d3 (d3 ⟨rfl,bj2 I12 q12⟩)
 exact at8 (loop _ rfl) (T.self X.A 0 _ _ _ st4 (loop _ rfl))
end
def Itn (K:W.Frag)(a:Addr):It:=
 ⟨fun i H=>∃ xs x,SqL K H a xs/\xs[i]?=some x,fun i H x H'=>∃ t v,H t=none/\x=.ref t/\(∀ xs,SqL K H a xs->xs[i]?=some v)/\H'=upd H t (.tup [.int i,v]),fun i H=>∃ xs,SqL K H a xs/\xs.length<=i⟩
def cf1 (K:W.Frag)(ta:TA):TI:=fun σ H R=>ta σ H fun vs H1=>∃ a,vs=[.ref a]/\(∃ xs,SqL K H1 a xs)/\R (Itn K a) H1
theorem bk7 {P:j8}{w:x6}{K:W.Frag}{elts:List Expr}{x1:Nat}{pos:Pos}(a it e:Addr)(hne:e≠it):Turn P w K (.Tuple elts x1 pos) (Itn K a) [e,it] e (fun i h=>(∃ old,IsEnum h e it (i:Int) old)/\h.IsListIter it a i) where
 mem:=by simp
 obj:=fun i h st b hb=>by
  obtain⟨⟨old,he⟩,o,ho,hc,hd⟩:=st
  rcases g6.mp hb with rfl | hb
  ·exact⟨_,he,fun v z=>by cases z⟩
  ·have eb:b=it:=by simpa using hb
   subst eb
   exact⟨o,ho,fun v z=>by rw[hd]at z;cases z⟩
 keep:=fun i h h' st k=>by
  obtain⟨⟨old,he⟩,hit⟩:=st
  exact⟨⟨old,k e (by simp) _ he⟩,hit.at fun o q=>k it (by simp) o q⟩
 item:=by
  intro X hP hw hK hc i pins s σ H E I hf st hg
  subst hP hw hK
  obtain⟨xs,x,hq,hx⟩:=hg
  obtain⟨⟨old,he⟩,hit⟩:=st
  obtain⟨its,rv,p,hz⟩:=I.list hq
  obtain⟨u,hu,ru⟩:=rv.get hx
  obtain⟨f0,f1,f2,f3,f4,f5⟩:=hf e (by simp)
  obtain⟨g0,g1,g2,g3,g4,g5⟩:=hf it (by simp)
  refine wpAny_pyNext_enum_item he hit p.isList (x:=u) (by simpa using hu) hne fun h1 heo hit1 ht1 hz1 hk1=>?_
  refine⟨_,rfl,?_⟩
  refine bo9 heo fun h2 he2 hs2=>?_
  have hlt:e<s.heap.objs.size:=d6 he
  have hs2':Heap.SameBut e h1 h2:=hs2
  have ht2:h2.get? s.heap.objs.size=some { cls:=.type "tuple",data:=.seq #[.int i s.toks,u] }:=(hs2'.2 _ (K7 hlt)).trans ht1
  have kp:∀ b o,b≠e->b≠it->s.heap.get? b=some o->h2.get? b=some o:=fun b o h1' h2' q=>(hs2'.2 b h1').trans (hk1 b o h1' h2' q)
  have hT:H s.heap.objs.size=none:=I.hok.fresh (d4 _)
  have nH:∀ b,H b≠none->b≠e/\b≠it:=fun b hb=>⟨fun z=>hb (z ▸ f0),fun z=>hb (z ▸ g0)⟩
  have keepH:∀ b o,H b=some o->upd H s.heap.objs.size (.tup [.int i,x]) b=some o:=fun b o q=>by rw[v7 (o5 q hT)];exact q
  have hok2:HOk X.prog X.w (upd H s.heap.objs.size (.tup [.int i,x])) h2:=fun b o eb=>by
   by_cases hb:b=s.heap.objs.size
   ·subst hb
    rw[c8]at eb
    cases eb
    exact⟨by show 2<=i9;decide,[.int i s.toks,u],.cons ⟨_,rfl⟩ (.cons ru .nil),⟨_,ht2,rfl,_,rfl⟩⟩
   ·rw[v7 hb]at eb
    refine(I.hok b o eb).stay (fun c v hcc q=>kp c v ?_ ?_ q) (fun c q=>keepH c _ q) fun c ys q=>keepH c _ q
    ·rcases hcc with z | z
     ·exact(nH c (by rw[z,eb];simp)).1
     ·exact(nH c (by rw[z];simp)).1
    ·rcases hcc with z | z
     ·exact(nH c (by rw[z,eb];simp)).2
     ·exact(nH c (by rw[z];simp)).2
  have I2:Inv X pins σ (upd H s.heap.objs.size (.tup [.int i,x])) { s with heap:=h2,toks:=s.toks+1 }:=by
   refine I.step (g':=s.gens) (d':=s.drawn) (t':=s.toks+1) (ch:=[e,it]) (fun b hb=>?_) (fun b o _ _ hcc q _=>kp b o (fun z=>hcc (by simp[z])) (fun z=>hcc (by simp[z])) q) (fun b o _ _ hcc q _=>⟨o.slots,kp b o (fun z=>hcc (by simp[z])) (fun z=>hcc (by simp[z])) q⟩) (fun b o _ q n=>?_)
    (fun b o hcc q=>⟨o,kp b o (fun z=>hcc (by simp[z])) (fun z=>hcc (by simp[z])) q⟩) (fun b ys q=>keepH b _ q) (fun b o v q=>keepH b _ q) (fun b ps q=>⟨#[],by rw[keepH b _ q];simp⟩) (fun m hm=>?_) hok2 I.bare
   ·rcases g6.mp hb with rfl | hb
    ·exact⟨f3,f1,f4,f5⟩
    ·have eb:b=it:=by simpa using hb
     subst eb
     exact⟨g3,g1,g4,g5⟩
   ·rw[v7 (j7 (d6 q))]
    exact n
   ·obtain⟨o,es,ep,ho,r⟩:=hm
    exact⟨o,es,ep,kp _ o (Ne.symm f1) (Ne.symm g1) ho,r⟩
  have hilt:it<s.heap.objs.size:=by
   obtain⟨o,ho,_⟩:=id hit
   exact d6 ho
  refine⟨.ref s.heap.objs.size,_,I2,rfl,⟨s.heap.objs.size,x,hT,rfl,fun ys hy=>by rw[I.list_inj hy hq];exact hx,rfl⟩,⟨⟨u,?_⟩,?_⟩,fun b hb=>?_⟩
  ·have:=he2
   rw[show ((i:Int)+1)=(((i+1:Nat):Int)) by simp]at this
   exact this
  ·exact hit1.at fun o q=>(hs2'.2 it (Ne.symm hne)).trans q
  ·rcases g6.mp hb with rfl | hb
   ·rw[v7 (j7 hlt)];exact f0
   ·have eb:b=it:=by simpa using hb
    subst eb
    rw[v7 (j7 hilt)]
    exact g0
 done:=by
  intro X hP hw hK hc i pins s σ H E I hf st hg
  subst hP hw hK
  obtain⟨xs,hq,hx⟩:=hg
  obtain⟨⟨old,he⟩,hit⟩:=st
  obtain⟨its,rv,p,hz⟩:=I.list hq
  obtain⟨g0,g1,g2,g3,g4,g5⟩:=hf it (by simp)
  have hl:=rv.length
  exact wpAny_pyNext_enum_end (I.ok.hd hc) he hit p.isList (by simp;omega) fun h' eb=>⟨rfl,I.turned (t':=s.toks) (fun b o hb q=>eb b o hb q) g0 g1 g3 g4 g5⟩
 self:=fun _ _ _ _ _ st h=>by
  obtain⟨⟨old,he⟩,_⟩:=st
  exact ao2 he h
section
variable {X:Cx}
theorem aq6 {a:Expr}{ta:TA}{elts:List Expr}{x1:Nat}{tpos p pos:Pos}(hg:Gl X "enumerate")(hm:X.mg "enumerate"=none)(ha:PA X [a] ta)(hv:M5 "enumerate"=some (.type "enumerate"):=by rfl)(hs:A2 [a] X.env=[(false,eval a X.env)]:=by rfl) :
  PI X (.Tuple elts x1 tpos) (.Call (.Name "enumerate" p) [a] [] pos) (cf1 X.K ta):=by
 intro pins s σ H R I h
 refine Call_ (V8 I hg hm hv (PyProof.Rows.callWith_type1 (thn (ha pos pins s σ H _ I h) fun us s1 ⟨vs,H1,I1,r1,q1⟩=>?_) hs rfl))
 obtain⟨b,e,⟨xs,hq⟩,q⟩:=q1
 subst e
 obtain⟨u,rfl,rx⟩:=vals1 r1
 cases rx
 obtain⟨its,rv,pl,hz⟩:=I1.list hq
 refine call_enumerate_list pl.isList fun h' he hit hsz kp=>?_
 refine ao2 he ?_
 have hne:s1.heap.objs.size+1≠s1.heap.objs.size:=Nat.succ_ne_self _
 refine⟨s1.heap.objs.size+1,[s1.heap.objs.size+1,s1.heap.objs.size],_,_,H1,rfl,I1.kept (t':=s1.toks) kp,bk7 b s1.heap.objs.size (s1.heap.objs.size+1) hne,⟨⟨_,he⟩,hit⟩,fun c hc=>?_,q⟩
 rcases g6.mp hc with rfl | hc
 ·exact I1.fpOk (Y9 _) (I1.hok.fresh (Y9 _))
 ·have e:c=s1.heap.objs.size:=by simpa using hc
  subst e
  exact I1.fpOk (d4 _) (I1.hok.fresh (d4 _))
end
theorem aX0 {K:W.Frag}{a:Addr}{xs:List V}{g:TG}{tb:TS}{D:Ends}{σ:St}{H:Hp}(Pv:Nat->St->Hp->Prop)(h0:Pv 0 σ H)(hl:∀ i σ H,i<=xs.length->Pv i σ H->SqL K H a xs)
  (hs:∀ i x t σ H,xs[i]?=some x->Pv i σ H->H t=none->g (.ref t) σ (upd H t (.tup [.int i,x])) fun σ2 H2=>tb { D with nx:=Pv (i+1),ct:=Pv (i+1),bk:=D.nx } σ2 H2)(hd:∀ σ H,Pv xs.length σ H->D.nx σ H) :
  ∃ W:Nat->Nat->St->Hp->Prop,(∃ m,W 0 m σ H)/\∀ i m σ H,W i m σ H ->
   ((Itn K a).stop i H/\D.nx σ H)\/((Itn K a).go i H/\∃ N:St->Hp->Prop,(∀ σ' H',N σ' H'->∃ m',m'<m/\W (i+1) m' σ' H')/\∀ x H',(Itn K a).yld i H x H'->g x σ H' fun σ2 H2=>tb { D with nx:=N,ct:=N,bk:=D.nx } σ2 H2):=by
 refine⟨fun i m σ H=>m=xs.length - i/\i<=xs.length/\Pv i σ H,⟨xs.length,by simp,y9 _,h0⟩,?_⟩
 rintro i m σ H ⟨rfl,hi,p⟩
 have q:=hl i σ H hi p
 by_cases hlt:i<xs.length
 ·refine .inr ⟨⟨xs,xs[i],q,by simp[hlt]⟩,Pv (i+1),fun σ' H' p'=>⟨xs.length - (i+1),by omega,rfl,hlt,p'⟩,fun x H' y=>?_⟩
  obtain⟨t,v,ht,e,hv,e'⟩:=y
  subst e e'
  exact hs i v t σ H (hv xs q) p ht
 ·have e:i=xs.length:=by omega
  subst e
  exact .inl ⟨⟨xs,q,d4 _⟩,hd σ H p⟩
theorem S5 {K:W.Frag}{a D:Addr}{ys:List V}{g:TG}{tt:TT}{te:TE}{Qd:Hp->Prop}{σ0:St}{H0:Hp}(Pv:Nat->List V->St->Hp->Prop)(h0:Pv 0 [] σ0 H0)(hz:ys.length<=i9)(hl:∀ i xs σ H,i<=ys.length->Pv i xs σ H->SqL K H a ys/\H D=some (.lst xs)/\xs.length<=i)
  (hs:∀ i xs x σ H (N:List V->St->Hp->Prop),(∀ xs' σ' H',Pv (i+1) xs' σ' H'->N xs' σ' H')->ys[i]?=some x->Pv i xs σ H->g x σ H fun σ2 H2=>tt σ2 H2 fun b H3=>if b=true then te σ2 H3 fun v H4=>H4 D=some (.lst xs)/\N (xs++[v]) σ2 (upd H4 D (.lst (xs++[v]))) else N xs σ2 H3)
  (hd:∀ xs σ H,Pv ys.length xs σ H->Qd H) :
  ∃ W:Nat->Nat->List V->St->Hp->Prop,(∃ m,W 0 m [] σ0 H0)/\∀ i m xs σ' H',W i m xs σ' H'->H' D=some (.lst xs)/\(((Itl K a).stop i H'/\Qd H')\/((Itl K a).go i H'/\xs.length<i9/\∀ x H'',(Itl K a).yld i H' x H''->g x σ' H'' fun σ2 H2=>tt σ2 H2 fun b H3 =>
   if b=true then te σ2 H3 fun v H4=>H4 D=some (.lst xs)/\∃ m',m'<m/\W (i+1) m' (xs++[v]) σ2 (upd H4 D (.lst (xs++[v]))) else ∃ m',m'<m/\W (i+1) m' xs σ2 H3)):=by
 refine⟨fun i m xs σ H=>m=ys.length - i/\i<=ys.length/\Pv i xs σ H,⟨ys.length,by simp,y9 _,h0⟩,?_⟩
 rintro i m xs σ H ⟨rfl,hi,p⟩
 obtain⟨q,hD,hx⟩:=hl i xs σ H hi p
 refine⟨hD,?_⟩
 by_cases hlt:i<ys.length
 ·refine .inr ⟨⟨ys,ys[i],q,by simp[hlt]⟩,by omega,fun x H'' y=>?_⟩
  obtain⟨e,y⟩:=y
  subst e
  exact hs i xs x σ _ (fun zs σ' H'=>∃ m',m'<ys.length - i/\m'=ys.length - (i+1)/\i+1<=ys.length/\Pv (i+1) zs σ' H') (fun zs σ' H' r=>⟨_,by omega,rfl,hlt,r⟩) (y ys q) p
 ·have e:i=ys.length:=by omega
  subst e
  exact .inl ⟨⟨ys,q,d4 _⟩,hd xs σ H p⟩
theorem aX3 {K:W.Frag}{a D:Addr}{ys:List V}{g:TG}{tt:TT}{te:TE}{Qd:Hp->Prop}{σ0:St}{H0:Hp}(Pv:Nat->List V->St->Hp->Prop)(h0:Pv 0 [] σ0 H0)(hz:ys.length<=i9)(hl:∀ i xs σ H,i<=ys.length->Pv i xs σ H->SqT K H a ys/\H D=some (.lst xs)/\xs.length<=i)
  (hs:∀ i xs x σ H (N:List V->St->Hp->Prop),(∀ xs' σ' H',Pv (i+1) xs' σ' H'->N xs' σ' H')->ys[i]?=some x->Pv i xs σ H->g x σ H fun σ2 H2=>tt σ2 H2 fun b H3=>if b=true then te σ2 H3 fun v H4=>H4 D=some (.lst xs)/\N (xs++[v]) σ2 (upd H4 D (.lst (xs++[v]))) else N xs σ2 H3)
  (hd:∀ xs σ H,Pv ys.length xs σ H->Qd H) :
  ∃ W:Nat->Nat->List V->St->Hp->Prop,(∃ m,W 0 m [] σ0 H0)/\∀ i m xs σ' H',W i m xs σ' H'->H' D=some (.lst xs)/\(((Itt K a).stop i H'/\Qd H')\/((Itt K a).go i H'/\xs.length<i9/\∀ x H'',(Itt K a).yld i H' x H''->g x σ' H'' fun σ2 H2=>tt σ2 H2 fun b H3 =>
   if b=true then te σ2 H3 fun v H4=>H4 D=some (.lst xs)/\∃ m',m'<m/\W (i+1) m' (xs++[v]) σ2 (upd H4 D (.lst (xs++[v]))) else ∃ m',m'<m/\W (i+1) m' xs σ2 H3)):=by
 refine⟨fun i m xs σ H=>m=ys.length - i/\i<=ys.length/\Pv i xs σ H,⟨ys.length,by simp,y9 _,h0⟩,?_⟩
 rintro i m xs σ H ⟨rfl,hi,p⟩
 obtain⟨q,hD,hx⟩:=hl i xs σ H hi p
 refine⟨hD,?_⟩
 by_cases hlt:i<ys.length
 ·refine .inr ⟨⟨ys,ys[i],q,by simp[hlt]⟩,by omega,fun x H'' y=>?_⟩
  obtain⟨e,y⟩:=y
  subst e
  exact hs i xs x σ _ (fun zs σ' H'=>∃ m',m'<ys.length - i/\m'=ys.length - (i+1)/\i+1<=ys.length/\Pv (i+1) zs σ' H') (fun zs σ' H' r=>⟨_,by omega,rfl,hlt,r⟩) (y ys q) p
 ·have e:i=ys.length:=by omega
  subst e
  exact .inl ⟨⟨ys,q,d4 _⟩,hd xs σ H p⟩
mutual
def Dt (K:W.Frag)(H:Hp):ai4->V->Prop
 | .none,v=>v=.non
 | .bool b,v=>v=.bl b
 | .int i,v=>v=.int i
 | .str x,v=>v=.str x
 | .list ds,v=>∃ a xs,v=.ref a/\SqL K H a xs/\F2 K H ds xs
 | .tuple ds,v=>∃ a xs,v=.ref a/\SqT K H a xs/\F2 K H ds xs
 | .dict _,_=>False
def F2 (K:W.Frag)(H:Hp):List ai4->List V->Prop
 | [],xs=>xs=[]
 | d::ds,xs=>∃ y ys,xs=y::ys/\Dt K H d y/\F2 K H ds ys
end
section
variable {X:Cx} {pins:List (Addr × Obj)} {σ:St} {H:Hp} {s:c7}
mutual
theorem Dt.reads (I:Inv X pins σ H s):∀ (d:ai4) (v:V) (u:c6),Dt X.K H d v->RelV v u->∃ as,Reads s.heap u d as
 | .none,v,u,h,r=>by unfold Dt at h;subst h;cases r;exact⟨_,.none⟩
 | .bool b,v,u,h,r=>by unfold Dt at h;subst h;cases r;exact⟨_,.bool b⟩
 | .int i,v,u,h,r=>by unfold Dt at h;subst h;obtain⟨t,rfl⟩:=r;exact⟨_,.int i t⟩
 | .str x,v,u,h,r=>by unfold Dt at h;subst h;obtain⟨t,rfl⟩:=r;exact⟨_,.str x t⟩
 | .list ds,v,u,h,r=>by
  unfold Dt at h
  obtain⟨a,xs,rfl,hq,hd⟩:=h
  cases r
  obtain⟨its,rv,⟨o,n,ho,hc,_,hdd⟩,_⟩:=I.list hq
  obtain⟨as,ra⟩:=F2.reads I ds xs its hd rv
  exact⟨_,.list ho hc hdd (by simpa using ra)⟩
 | .tuple ds,v,u,h,r=>by
  unfold Dt at h
  obtain⟨a,xs,rfl,hq,hd⟩:=h
  cases r
  obtain⟨its,rv,⟨o,ho,hc,n,hdd⟩,_⟩:=I.tuple hq
  obtain⟨as,ra⟩:=F2.reads I ds xs its hd rv
  exact⟨_,.tuple ho hc hdd (by simpa using ra)⟩
 | .dict _,v,u,h,r=>by unfold Dt at h;exact h.elim
theorem F2.reads (I:Inv X pins σ H s):∀ (ds:List ai4) (xs:List V) (us:List c6),F2 X.K H ds xs->D9 xs us->∃ as,bD1 s.heap us ds as
 | [],xs,us,h,r=>by unfold F2 at h;subst h;cases r;exact⟨_,.nil⟩
 | d::ds,xs,us,h,r=>by
  unfold F2 at h
  obtain⟨y,ys,rfl,h1,h2⟩:=h
  cases r with
  | cons q t =>
   obtain⟨as,ra⟩:=Dt.reads I d y _ h1 q
   obtain⟨bs,rb⟩:=F2.reads I ds ys _ h2 t
   exact⟨_,.cons ra rb⟩
end
end
mutual
theorem Dt.same {K:W.Frag}{H H':Hp}(hs:∀ b o,H b=some o->H' b=some o):∀ (d:ai4) (v:V),Dt K H d v->Dt K H' d v
 | .none,v,h=>by unfold Dt at h ⊢;exact h
 | .bool b,v,h=>by unfold Dt at h ⊢;exact h
 | .int i,v,h=>by unfold Dt at h ⊢;exact h
 | .str x,v,h=>by unfold Dt at h ⊢;exact h
 | .list ds,v,h=>by
  unfold Dt at h ⊢
  obtain⟨a,xs,rfl,hq,hd⟩:=h
  refine⟨a,xs,rfl,?_,F2.same hs ds xs hd⟩
  rcases hq with(h | ⟨o,h⟩) | h
  ·exact .inl (.inl (hs _ _ h))
  ·exact .inl (.inr ⟨o,hs _ _ h⟩)
  ·exact .inr h
 | .tuple ds,v,h=>by
  unfold Dt at h ⊢
  obtain⟨a,xs,rfl,hq,hd⟩:=h
  refine⟨a,xs,rfl,?_,F2.same hs ds xs hd⟩
  rcases hq with(h | ⟨o,h⟩) | h
  ·exact .inl (.inl (hs _ _ h))
  ·exact .inl (.inr ⟨o,hs _ _ h⟩)
  ·exact .inr h
 | .dict _,v,h=>by unfold Dt at h;exact h.elim
theorem F2.same {K:W.Frag}{H H':Hp}(hs:∀ b o,H b=some o->H' b=some o):∀ (ds:List ai4) (xs:List V),F2 K H ds xs->F2 K H' ds xs
 | [],xs,h=>by unfold F2 at h ⊢;exact h
 | d::ds,xs,h=>by
  unfold F2 at h ⊢
  obtain⟨y,ys,rfl,h1,h2⟩:=h
  exact⟨y,ys,rfl,Dt.same hs d y h1,F2.same hs ds ys h2⟩
end
def dP (k:List Int):ai4:=.tuple (k.map .int)
theorem F2.ints {K:W.Frag}{H:Hp}:∀ (k:List Int),F2 K H (k.map PyData.int) (k.map V.int)
 | []=>by unfold F2;rfl
 | i::k=>by
  rw[v8,v8]
  unfold F2
  exact⟨_,_,rfl,by unfold Dt;rfl,F2.ints k⟩
theorem F2.tups {K:W.Frag}{H:Hp}:∀ {ys:List V} {ks:List (List Int)},C1 K H ys ks->F2 K H (ks.map dP) ys
 | _,_,.nil=>by unfold F2;rfl
 | _,_,.cons r t=>by
  obtain⟨a,rfl,h⟩:=r
  rw[v8]
  unfold F2
  refine⟨_,_,rfl,?_,F2.tups t⟩
  unfold dP Dt
  exact⟨a,_,rfl,h,F2.ints _⟩
theorem lay_ints:∀ k:List Int,PyData.canLayAll0 (k.map .int)=true
 | []=>by simp[PyData.canLayAll0]
 | i::k=>by rw[v8];simp[PyData.canLayAll0,PyData.canLay0,lay_ints k]
theorem av0:∀ ks:List (List Int),PyData.canLayAll0 (ks.map dP)=true
 | []=>by simp[PyData.canLayAll0]
 | k::ks=>by rw[v8];simp[PyData.canLayAll0,PyData.canLay0,dP,lay_ints k,av0 ks]
theorem aE6:∀ k k':List Int,PyData.eqvAll (k.map .int) (k'.map .int)=decide (k=k')
 | [],[]=>by simp[PyData.eqvAll]
 | [],_::_=>by simp[PyData.eqvAll]
 | _::_,[]=>by simp[PyData.eqvAll]
 | i::k,j::k'=>by
  rw[v8,v8]
  simp only[PyData.eqvAll,PyData.eqv,aE6 k k']
  by_cases h:i=j
  ·subst h;simp
  ·simp[h]
theorem aK3:∀ ks ks':List (List Int),PyData.eqvAll (ks.map dP) (ks'.map dP)=decide (ks=ks')
 | [],[]=>by simp[PyData.eqvAll]
 | [],_::_=>by simp[PyData.eqvAll]
 | _::_,[]=>by simp[PyData.eqvAll]
 | k::ks,k'::ks'=>by
  rw[v8,v8]
  simp only[PyData.eqvAll,PyData.eqv,dP,aE6 k k']
  rw[aK3 ks ks']
  by_cases h:k=k'
  ·subst h;simp
  ·simp[h]
theorem aE7:∀ k:List Int,PyData.depthAll (k.map .int)<=1
 | []=>by simp[PyData.depthAll]
 | i::k=>by
  have:=aE7 k
  rw[v8]
  simp only[PyData.depthAll,PyData.depth]
  omega
theorem aK4:∀ ks:List (List Int),PyData.depthAll (ks.map dP)<=2
 | []=>by simp[PyData.depthAll]
 | k::ks=>by
  have h1:=aE7 k
  have h2:=aK4 ks
  rw[v8]
  simp only[PyData.depthAll,PyData.depth,dP]at h2 ⊢
  omega
section
variable {X:Cx}
def bF4 (K:W.Frag)(A:u4)(neg:Bool):R2:=fun x y H Q=>∃ dx dy,Dt K H dx x/\Dt K H dy y/\dx.canLay0=true/\dy.canLay0=true/\A.units+min dx.depth dy.depth<ap5/\Q (.bl (if neg then !PyData.eqv dx dy else PyData.eqv dx dy)) H
theorem bT8:OpR X (G2 .Eq) (bF4 X.K X.A false):=by
 intro pins s σ H x y v u Q I rx ry h
 obtain⟨dx,dy,h1,h2,h3,h4,h5,q⟩:=h
 obtain⟨as,ra⟩:=h1.reads I dx x v rx
 obtain⟨bs,rb⟩:=h2.reads I dy y u ry
 exact SeqAt.compareEq_reads ra rb h3 h4 h5 ⟨.bl _,H,I,rfl,q⟩
theorem bb0:OpR X (G2 .NotEq) (bF4 X.K X.A true):=by
 intro pins s σ H x y v u Q I rx ry h
 obtain⟨dx,dy,h1,h2,h3,h4,h5,q⟩:=h
 obtain⟨as,ra⟩:=h1.reads I dx x v rx
 obtain⟨bs,rb⟩:=h2.reads I dy y u ry
 exact SeqAt.compareNe_reads ra rb h3 h4 h5 ⟨.bl _,H,I,rfl,q⟩
def ba4 (K:W.Frag)(A:u4)(neg:Bool):R2:=fun x y H Q=>∃ p xs dx ds,y=.ref p/\(SqL K H p xs\/SqT K H p xs)/\Dt K H dx x/\F2 K H ds xs/\dx.canLay0=true/\PyData.canLayAll0 ds=true/\A.units+1+dx.depth<ap5 /\
 Q (.bl (if neg then !ds.any (fun d=>PyData.eqv d dx) else ds.any (fun d=>PyData.eqv d dx))) H
open Classical in
noncomputable def aP4 (h:Heap)(dx:ai4)(v:c6):Bool:=if q:∃ d as,d.canLay0=true/\Reads h v d as then PyData.eqv (Classical.choose q) dx else false
theorem aP3 {h:Heap}{dx d:ai4}{v:c6}{as:List Addr}(hl:d.canLay0=true)(r:Reads h v d as):aP4 h dx v=PyData.eqv d dx:=by
 unfold aP4
 have q:∃ d as,d.canLay0=true/\Reads h v d as:=⟨d,as,hl,r⟩
 rw[dif_pos q]
 obtain⟨as',h1,h2⟩:=Classical.choose_spec q
 rw[SeqAt.Reads.unique _ _ _ _ _ h1 h2 r]
theorem aF5 {h:Heap}{dx:ai4}:∀ {ds:List ai4} {us:List c6} {as:List Addr},PyData.canLayAll0 ds=true->bD1 h us ds as->us.any (aP4 h dx)=ds.any (fun d=>PyData.eqv d dx)
 | _,_,_,_,.nil=>rfl
 | d::ds,u::us,_,hl,.cons r t=>by
  have hl':d.canLay0=true/\PyData.canLayAll0 ds=true:=by simpa [PyData.canLayAll0] using hl
  rw[bo8,bo8,aP3 hl'.1 r,aF5 hl'.2 t]
theorem au8 {h:Heap}:∀ {ds:List ai4} {us:List c6} {as:List Addr} {u:c6},PyData.canLayAll0 ds=true->bD1 h us ds as->u∈us->∃ d as,d.canLay0=true/\Reads h u d as
 | _,_,_,_,_,.nil,hu=>by cases hu
 | d::ds,_::us,_,u,hl,.cons r t,hu=>by
  have hl':d.canLay0=true/\PyData.canLayAll0 ds=true:=by simpa [PyData.canLayAll0] using hl
  rcases g6.mp hu with rfl | hu
  ·exact⟨d,_,hl'.1,r⟩
  ·exact au8 hl'.2 t hu
theorem bT7:OpR X (G2 .In) (ba4 X.K X.A false):=by
 intro pins s σ H x y v u Q I rx ry h
 obtain⟨p,xs,dx,ds,rfl,hq,h1,h2,h3,h4,h5,q⟩:=h
 cases ry
 obtain⟨bs,rb⟩:=h1.reads I dx x v rx
 have he:∀ (its:List c6) (as:List Addr),bD1 s.heap its ds as->∀ y,y∈its.toArray->SeqAt.EqAt X.A.in1 s y v (aP4 s.heap dx y):=fun its as ra y hy=>by
  obtain⟨d,cs,hl,rd⟩:=au8 h4 ra (by simpa using hy)
  rw[aP3 hl rd]
  refine SeqAt.eqAt_reads d dx X.A.in1 s y v cs bs rd rb hl h3 ?_
  show X.A.units+1+min d.depth dx.depth<ap5
  omega
 rcases hq with hq | hq
 ·obtain⟨its,rv,pl,hz⟩:=I.list hq
  obtain⟨as,ra⟩:=h2.reads I ds xs its rv
  refine SeqAt.in_listAt (aP4 s.heap dx) pl.isList (he its as ra) ⟨.bl _,H,I,rfl,?_⟩
  rw[an7,aF5 h4 ra]
  exact q
 ·obtain⟨its,rv,pl,hz⟩:=I.tuple hq
  obtain⟨as,ra⟩:=h2.reads I ds xs its rv
  refine SeqAt.in_tupleAt (aP4 s.heap dx) pl (he its as ra) ⟨.bl _,H,I,rfl,?_⟩
  rw[an7,aF5 h4 ra]
  exact q
theorem bl4:OpR X (G2 .NotIn) (ba4 X.K X.A true):=by
 intro pins s σ H x y v u Q I rx ry h
 obtain⟨p,xs,dx,ds,rfl,hq,h1,h2,h3,h4,h5,q⟩:=h
 cases ry
 obtain⟨bs,rb⟩:=h1.reads I dx x v rx
 have he:∀ (its:List c6) (as:List Addr),bD1 s.heap its ds as->∀ y,y∈its.toArray->SeqAt.EqAt X.A.in1 s y v (aP4 s.heap dx y):=fun its as ra y hy=>by
  obtain⟨d,cs,hl,rd⟩:=au8 h4 ra (by simpa using hy)
  rw[aP3 hl rd]
  refine SeqAt.eqAt_reads d dx X.A.in1 s y v cs bs rd rb hl h3 ?_
  show X.A.units+1+min d.depth dx.depth<ap5
  omega
 rcases hq with hq | hq
 ·obtain⟨its,rv,pl,hz⟩:=I.list hq
  obtain⟨as,ra⟩:=h2.reads I ds xs its rv
  refine SeqAt.notIn_listAt (aP4 s.heap dx) pl.isList (he its as ra) ⟨.bl _,H,I,rfl,?_⟩
  rw[an7,aF5 h4 ra]
  exact q
 ·obtain⟨its,rv,pl,hz⟩:=I.tuple hq
  obtain⟨as,ra⟩:=h2.reads I ds xs its rv
  refine SeqAt.notIn_tupleAt (aP4 s.heap dx) pl (he its as ra) ⟨.bl _,H,I,rfl,?_⟩
  rw[an7,aF5 h4 ra]
  exact q
theorem aX7:Q8 X (.builtin "isinstance") (fun xs H Q=>∃ x c t b,xs=[x,.ty c]/\as2 X.K H x t/\PySem.W.kitOne X.K t (.type c)=some b/\Q (.bl b) H):=by
 intro pins s σ H xs us Q I r h
 obtain⟨x,c,t,b,rfl,ty,e,q⟩:=h
 obtain⟨u,v,rfl,ru,rv⟩:=r.two
 cases (show v=Value.type c from rv)
 exact bm9 I ru ty e fun tk=>⟨.bl b,H,I.tok _,rfl,q⟩
end
end L2
namespace L2
open PySem PySem.Spec PyProof.Rows
section
variable {X:Cx}
theorem R0 (hc:X.calm=true):Q8 X (.builtin "sum") (fun xs H Q=>∃ (p:Addr) (ns:List Int),xs=[.ref p]/\SqL X.K H p (ns.map V.int)/\Q (.int ns.sum) H):=by
 intro pins s σ H xs us Q I r h
 obtain⟨p,ns,rfl,hq,q⟩:=h
 obtain⟨u,rfl,rx⟩:=vals1 r
 cases rx
 obtain⟨its,r',pl,hz⟩:=I.list hq
 have hi:G9 its ns:=intsAre_of r'
 obtain⟨ys,e⟩:=hi.allInts.items
 refine sum_intListG (xs:=ys) (I.ok.hd hc) (by rw[<- e];exact pl.isList) fun h' tk t' hk=>⟨.int ns.sum,H,I.kept (t':=tk) hk,⟨t',?_⟩,q⟩
 have e2:numsOf (K9 ys).toList=ns:=by rw[<- e];exact hi.numsOf
 rw[nums_intItems]at e2
 rw[preSum_eq,k8 (by simp),e2]
theorem aW6:cg3 X (bS9 X.K):=by
 intro pins s σ H o i ov iv Q I ro ri h
 obtain⟨p,xs,k,z,rfl,rfl,hq,he,q⟩:=h
 cases ro
 obtain⟨t,rfl⟩:=ri
 obtain⟨its,r,pl,hz⟩:=I.list hq
 obtain⟨j,h1,h2,h3,h4,h5⟩:=aA0 he
 obtain⟨w,ew,rw'⟩:=r.get h2
 have hl:=r.length
 have hn:=ao6
 have fin:EP X pins σ Q w s:=⟨z,H,I,rw',q⟩
 by_cases h0:0<=k
 ·have hj:k.toNat=j:=by
   rw[bj4 h0 h5]at h1
   exact Option.some.inj h1
  exact wpAny_getItem_list pl.isList h0 (by omega) (by rw[hj];simpa using ew) fin
 ·have hj:(k+(its.toArray.size:Int)).toNat=j:=by
   rw[aY6 (by omega) h4]at h1
   rw[d5,<- hl]
   exact Option.some.inj h1
  exact bL8 pl.isList (by omega) (by rw[d5];omega) (by omega) (by rw[hj];simpa using ew) fin
end
section
variable {X:Cx}
theorem ag8:Q8 X (.builtin "isinstance") (fun xs H Q=>∃ a ys c b,xs=[.ref a,.ty c]/\SqT X.K H a ys/\PySem.W.kitOne X.K (.type "tuple") (.type c)=some b/\Q (.bl b) H):=by
 intro pins s σ H xs us Q I r h
 obtain⟨a,ys,c,b,rfl,hq,e,q⟩:=h
 obtain⟨u,v,rfl,ru,rv⟩:=r.two
 cases (show v=Value.type c from rv)
 cases ru
 obtain⟨its,rt,⟨o,h1,h2,_⟩,hz⟩:=I.tuple hq
 exact PySem.W.kia_one PySem.W.kitx_tuple I.kIn ⟨o,h1,h2⟩ e (fun z=>nomatch z) fun tk=>⟨.bl b,H,I.tok _,rfl,q⟩
end
def LkL (X:Cx)(scope:R8)(cl:List (Str × Addr)):List Str->List (Option Nat)->Prop
 | [],[]=>True
 | _::N,none::lk=>LkL X scope cl N lk
 | x::N,some j::lk=>(X.N[j]?=some x/\(X.env.scope.names.lookup x=some .cell\/X.env.scope.names.lookup x=some .free)/\(cl.lookup x).isSome=true /\
  ((O2 scope cl 0 X.env).kindOf x=some .cell\/(O2 scope cl 0 X.env).kindOf x=some .free))/\LkL X scope cl N lk
 | _,_=>False
theorem LkL.len {X:Cx}{scope:R8}{cl:List (Str × Addr)}:∀ {N:List Str} {lk:List (Option Nat)},LkL X scope cl N lk->lk.length=N.length
 | [],[],_=>rfl
 | _::N,none::lk,h=>congrArg (·+1) (LkL.len (N:=N) (lk:=lk) h)
 | _::N,some _::lk,h=>congrArg (·+1) (LkL.len (N:=N) (lk:=lk) h.2)
 | [],_::_,h=>h.elim
 | _::_,[],h=>h.elim
theorem LkL.get {X:Cx}{scope:R8}{cl:List (Str × Addr)}:∀ {N:List Str} {lk:List (Option Nat)},LkL X scope cl N lk->∀ (i j:Nat) (x:Str),N[i]?=some x->lk[i]?=some (some j) ->
  X.N[j]?=some x/\(X.env.scope.names.lookup x=some .cell\/X.env.scope.names.lookup x=some .free)/\(cl.lookup x).isSome=true/\((O2 scope cl 0 X.env).kindOf x=some .cell\/(O2 scope cl 0 X.env).kindOf x=some .free)
 | [],[],_,i,j,x,h1,_=>by simp at h1
 | _::N,none::lk,h,0,j,x,h1,h2=>by simp at h2
 | _::N,none::lk,h,i+1,j,x,h1,h2=>LkL.get (N:=N) (lk:=lk) h i j x (by simpa using h1) (by simpa using h2)
 | y::N,some k::lk,h,0,j,x,h1,h2=>by
  simp at h1 h2
  subst h1 h2
  exact h.1
 | _::N,some _::lk,h,i+1,j,x,h1,h2=>LkL.get (N:=N) (lk:=lk) h.2 i j x (by simpa using h1) (by simpa using h2)
 | [],_::_,h,_,_,_,_,_=>h.elim
 | _::_,[],h,_,_,_,_,_=>h.elim
theorem LkL.ok {X:Cx}{scope:R8}{cl:List (Str × Addr)}{N:List Str}{lk:List (Option Nat)}(h:LkL X scope cl N lk):bo6 X N lk scope cl:=⟨h.len,h.get⟩
theorem N5 {σ:St}{H:Hp}{A B:Hp->Prop}(h:A H):bM0 σ H (fun b H3=>if b=true then A H3 else B H3):=by
 show if true=true then A H else B H
 exact J0 h
theorem B2 {i:Nat}{v:V}{σ:St}{H:Hp}{Q:St->Hp->Prop}(h:Q (σ.set i (some v)) H):aE3 i v σ H Q:=h
theorem SqT.updL {K:W.Frag}{H:Hp}{a l:Addr}{xs:List V}{ys zs:List V}(h:SqT K H a ys)(hl:H l=some (.lst xs)):SqT K (upd H l (.lst zs)) a ys:=by
 rcases h with(h | ⟨o,h⟩) | h
 ·exact .inl (.inl (by rw[v7 (bN7 h hl (by intro z;cases z))];exact h))
 ·exact .inl (.inr ⟨o,by rw[v7 (bN7 h hl (by intro z;cases z))];exact h⟩)
 ·exact .inr h
theorem C1.updL {K:W.Frag}{H:Hp}{l:Addr}{xs zs:List V}(hl:H l=some (.lst xs)):∀ {ys:List V} {ks:List (List Int)},C1 K H ys ks->C1 K (upd H l (.lst zs)) ys ks
 | _,_,.nil=>.nil
 | _,_,.cons r t=>by
  obtain⟨a,h1,h2⟩:=r
  exact .cons ⟨a,h1,h2.updL hl⟩ (C1.updL hl t)
theorem C1.one {K:W.Frag}{H:Hp}{a:Addr}{k:List Int}(h:SqT K H a (k.map V.int)):C1 K H [.ref a] [k]:=.cons ⟨a,rfl,h⟩ .nil
theorem u9.seqT {K:W.Frag}{H H':Hp}{a:Addr}{xs:List V}(e:u9 H H')(h:SqT K H a xs):SqT K H' a xs:=by
 rcases h with(h | ⟨o,h⟩) | h
 ·exact .inl (.inl (e _ _ h))
 ·exact .inl (.inr ⟨o,e _ _ h⟩)
 ·exact .inr h
theorem u9.tups {K:W.Frag}{H H':Hp}{ys:List V}{ks:List (List Int)}(e:u9 H H')(h:C1 K H ys ks):C1 K H' ys ks:=C1.same e h
theorem u9.upd {H H':Hp}{l:Addr}{o:HO}(e:u9 H H')(h:H l=none):u9 H (upd H' l o):=fun b u q=>by
 rw[v7 (o5 q h)]
 exact e b u q
end L2
namespace L2
open PySem
theorem aW8 {i:Nat}{v v':V}{σ:St}{H:Hp}{Q:St->Hp->Prop}(e:v=v')(h:aE3 i v' σ H Q):aE3 i v σ H Q:=by
 rw[e]
 exact h
theorem av4 (xs:List V)(k:Nat):ae4 xs (some (k:Int)) none=xs.drop k:=by
 unfold ae4
 rw[HT.be8,HT.aT2]
 rcases Nat.le_total k xs.length with h | h
 ·rw[Nat.min_eq_left h]
  exact k8 (by rw[E1];omega)
 ·rw[Nat.min_eq_right h,bp2 h,bp2 (d4 _)]
  simp
theorem aP5 (xs:List V)(k:Nat):ae4 xs none (some (k:Int))=xs.take k:=by
 unfold ae4
 rw[HT.be8,HT.aT2,ax2,Nat.sub_zero]
 rcases Nat.le_total k xs.length with h | h
 ·rw[Nat.min_eq_left h]
 ·rw[Nat.min_eq_right h,k8 h,k8 (d4 _)]
theorem aQ0 {X:Cx}(K:W.Frag)(hK:X.K=K):Q8 X (.builtin "isinstance") (fun xs H Q=>∃ x c t b,xs=[x,.ty c]/\as2 K H x t/\PySem.W.kitOne K t (.type c)=some b/\Q (.bl b) H):=by
 subst hK
 exact aX7
theorem aZ3 {u d:Nat}(h:u+64<ap5)(hd:d<=60):u+1+d<ap5:=by omega
theorem bd6 {u d:Nat}(h:u+64<ap5)(hd:d<=64):u+d<ap5:=by omega
theorem Dt.mkInt {K:W.Frag}{H:Hp}{i:Int}:Dt K H (.int i) (.int i):=by unfold Dt;rfl
theorem Dt.mkL {K:W.Frag}{H:Hp}{a:Addr}{xs:List V}{ds:List ai4}(h:SqL K H a xs)(d:F2 K H ds xs):Dt K H (.list ds) (.ref a):=by unfold Dt;exact⟨a,xs,rfl,h,d⟩
theorem Dt.mkT {K:W.Frag}{H:Hp}{a:Addr}{xs:List V}{ds:List ai4}(h:SqT K H a xs)(d:F2 K H ds xs):Dt K H (.tuple ds) (.ref a):=by unfold Dt;exact⟨a,xs,rfl,h,d⟩
theorem F2.mkN {K:W.Frag}{H:Hp}:F2 K H [] []:=by unfold F2;rfl
theorem F2.mkC {K:W.Frag}{H:Hp}{d:ai4}{x:V}{ds:List ai4}{xs:List V}(h:Dt K H d x)(t:F2 K H ds xs):F2 K H (d::ds) (x::xs):=by unfold F2;exact⟨x,xs,rfl,h,t⟩
theorem Y6 {i:Nat}{z:Int}{σ:St}{H:Hp}{Q:St->Hp->Prop}(h:∀ c:Int,c=z->aE3 i (.int c) σ H Q):aE3 i (.int z) σ H Q:=h z rfl
theorem int_at {ns:List Int}{i:Nat}{x:V}(h:(ns.map V.int)[i]?=some x):∃ z:Int,x=V.int z:=by
 rw[o9]at h
 cases e:ns[i]? with
 | none=>rw[e]at h;cases h
 | some z=>rw[e]at h;exact⟨z,(Option.some.inj h).symm⟩
theorem bn5 (ns:List Int)(lo hi:Option Int):∃ ms:List Int,ae4 (ns.map V.int) lo hi=ms.map V.int/\ms.length<=ns.length:=by
 unfold ae4
 rw[<- aF9,<- aG0]
 exact⟨_,rfl,by rw[o4,E1];omega⟩
theorem ab7 {n j:Nat}(h:j<n):ixN n (j:Int)=some j:=by
 unfold ixN
 rw[if_pos (by omega),if_pos (by omega)]
 simp
theorem aO6 (k:List Int):(PyData.list (k.map .int)).canLay0=true:=by simp[PyData.canLay0,lay_ints]
theorem bz3 (k:List Int):(PyData.list (k.map .int)).depth<=2:=by
 have:=aE7 k
 simp only[PyData.depth]
 omega
theorem bz0 (a b:List Int):PyData.eqv (.list (a.map .int)) (.list (b.map .int))=decide (a=b):=by
 simp only[PyData.eqv]
 exact aE6 a b
theorem Dt.mkLi {K:W.Frag}{H:Hp}{a:Addr}{k:List Int}(h:SqL K H a (k.map V.int)):Dt K H (.list (k.map .int)) (.ref a):=Dt.mkL h (F2.ints k)
theorem C1.dtAll {K:W.Frag}{H:Hp}{ys:List V}{ks:List (List Int)}(t:C1 K H ys ks):F2 K H (ks.map dP) ys:=F2.tups t
def dW (n:Int)(ks:List (List Int)):ai4:=.tuple [.int n,.tuple (ks.map dP)]
theorem bN8 (n:Int)(ks:List (List Int)):(dW n ks).canLay0=true:=by simp[dW,PyData.canLay0,PyData.canLayAll0,av0]
theorem cf9 (n:Int)(ks:List (List Int)):(dW n ks).depth<=4:=by
 have:=aK4 ks
 simp only[dW,PyData.depth,PyData.depthAll]
 omega
theorem cf8 (n m:Int)(ks ls:List (List Int)):PyData.eqv (dW n ks) (dW m ls)=(decide (n=m) && decide (ks=ls)):=by
 simp only[dW,PyData.eqv,PyData.eqvAll,aK3,Bool.and_true]
 by_cases h:n=m
 ·subst h;simp
 ·simp[h]
end L2
namespace Web
open PySem L2
def am6 (i m:Nat):List (List Int):=(o8 m).map fun(d:Nat)=>([(i:Int),(i:Int)+1+(d:Int)]:List Int)
def U4 (n:Nat):List (List Int):=(o8 n).flatMap fun i=>am6 i (n - (i+1))
def Up (n:Nat)(k:List Int):Prop:=∃ i j:Nat,i<j/\j<n/\k=[(i:Int),(j:Int)]
theorem au9 {n:Nat}{k:List Int}(h:k∈U4 n):Up n k:=by
 unfold U4 at h
 obtain⟨i,hi,hk⟩:=bZ2.mp h
 unfold am6 at hk
 obtain⟨d,hd,rfl⟩:=u6.mp hk
 rw[B9]at hi hd
 exact⟨i,i+1+d,by omega,by omega,by simp⟩
def Asc (ks:List (List Int)):Prop:=ks.Pairwise fun a b=>Tim.K2 a b=true
theorem aJ6:∀ n:Nat,n<=24->(U4 n).length<=276:=by decide +kernel
theorem aC5 (n i:Nat):((o8 (i+1)).flatMap fun j=>am6 j (n - (j+1)))=((o8 i).flatMap fun j=>am6 j (n - (j+1)))++am6 i (n - (i+1)):=by
 rw[E7,bL5]
 simp
theorem bl0 (i m:Nat):am6 i (m+1)=am6 i m++[[(i:Int),(i:Int)+1+(m:Int)]]:=by
 unfold am6
 rw[E7,j9]
 rfl
theorem bv8 (n:Nat):∀ i:Nat,i<=n->((o8 i).flatMap fun j=>am6 j (n - (j+1))).length<=(U4 n).length:=by
 intro i hi
 unfold U4
 obtain⟨d,rfl⟩:=Nat.exists_eq_add_of_le hi
 rw[List.range_add,bL5,p6]
 omega
theorem bo3 {ks:List (List Int)}(h:Asc ks):ks.Nodup:=by
 refine List.Pairwise.imp ?_ h
 intro a b hab e
 subst e
 rw[Tim.ar4]at hab
 cases hab
theorem aX9:∀ {ks ls:List (List Int)},Asc ks->ls.Perm ks->ls.Pairwise (fun a b=>Tim.K2 b a=false)->ls=ks
 | [],ls,_,p,_=>p.eq_nil
 | k::ks,[],_,p,_=>by
  have:=p.length_eq
  simp at this
 | k::ks,l::ls,h,p,q=>by
  have hkl:l=k:=by
   have h1:l∈k::ks:=p.mem_iff.mp i5
   have h2:k∈l::ls:=p.mem_iff.mpr i5
   rcases g6.mp h1 with e | e
   ·exact e
   ·rcases g6.mp h2 with e2 | e2
    ·exact e2.symm
    ·have a1:=(F1.mp h).1 l e
     have a2:=(F1.mp q).1 k e2
     rw[a1]at a2
     cases a2
  subst hkl
  rw[aX9 (F1.mp h).2 ((List.perm_cons _).mp p) (F1.mp q).2]
def up:List Int->List Int
 | [a,b]=>[if b<a then b else a,if b > a then b else a]
 | k=>k
theorem ca5 {n:Nat}{k:List Int}(h:Up n k):up k=k:=by
 obtain⟨i,j,h1,h2,rfl⟩:=h
 show [if (j:Int)<i then (j:Int) else i,if (j:Int) > i then (j:Int) else i]=_
 rw[if_neg (by omega),if_pos (by omega)]
theorem Up.key {n:Nat}{k:List Int}(h:Up n k)(hn:n<=24):Sett.ax0 k:=by
 obtain⟨i,j,h1,h2,rfl⟩:=h
 exact⟨i,j,by omega,by omega,rfl⟩
theorem Up.len {n:Nat}{k:List Int}(h:Up n k):k.length=2:=by
 obtain⟨i,j,h1,h2,rfl⟩:=h
 rfl
def aa2 (n:Nat)(k:List Int):Prop:=∃ i j:Nat,i<n/\j<n/\i≠j/\k=[(i:Int),(j:Int)]
theorem aa2.up {n:Nat}{k:List Int}(h:aa2 n k):Up n (up k):=by
 obtain⟨i,j,h1,h2,h3,rfl⟩:=h
 show Up n [if (j:Int)<i then (j:Int) else i,if (j:Int) > i then (j:Int) else i]
 by_cases h:i<j
 ·rw[if_neg (by omega),if_pos (by omega)]
  exact⟨i,j,h,h2,rfl⟩
 ·rw[if_pos (by omega),if_neg (by omega)]
  exact⟨j,i,by omega,h1,rfl⟩
theorem Up.ends {n:Nat}{k:List Int}(h:Up n k):aa2 n k:=by
 obtain⟨i,j,h1,h2,rfl⟩:=h
 exact⟨i,j,by omega,h2,by omega,rfl⟩
end Web
namespace L2
open PySem
def X7.around {k:Nat}{A:u4}(_:X7 k A):u4:=A
theorem bG9 {X:Cx}(K:W.Frag)(A:u4)(hK:X.K=K)(hA:X.A=A):OpR X (G2 .Eq) (bF4 K A false):=by subst hK hA;exact bT8
theorem bg2 {X:Cx}(K:W.Frag)(A:u4)(hK:X.K=K)(hA:X.A=A):OpR X (G2 .In) (ba4 K A false):=by subst hK hA;exact bT7
theorem ba9 {X:Cx}(K:W.Frag)(A:u4)(hK:X.K=K)(hA:X.A=A):OpR X (G2 .NotIn) (ba4 K A true):=by subst hK hA;exact bl4
end L2
namespace L2
open PySem PySem.Spec PyProof.Rows
section
variable {X:Cx} {o e:Expr} {es:List Expr} {to:TE} {t:TA} {name:Str} {apos cpos:Pos} {T id:String} {r:V->List V->Hp->VK->Prop}
theorem ar8 (p:Int):∀ k:List Int,(k.map PyData.int).any (fun d=>PyData.eqv d (.int p))=decide (p∈k)
 | []=>by simp
 | i::k=>by
  rw[v8,bo8,ar8 p k]
  by_cases h:i=p
  ·subst h;simp[PyData.eqv]
  ·have h':p≠i:=fun e=>h e.symm
   simp[PyData.eqv,h,h']
end
section
variable {prog:j8} {w:x6} {A:u4} {E:c6->c7->Prop} {s:c7}
theorem bg8:∀ {vs:List c6} {n i:Nat},vs.length=n->(∀ j v,vs[j]?=some v->∃ t,v=Value.int (((i+j:Nat):Int)) t)->G9 vs ((Y5 i n).map fun k:Nat=>(k:Int))
 | [],n,i,e,_=>by subst e;exact .nil
 | v::vs,0,i,e,_=>by cases e
 | v::vs,n+1,i,e,h=>by
  obtain⟨t,rfl⟩:=h 0 v rfl
  rw[bZ3,v8]
  refine .cons _ t (bg8 (by simpa using e) fun j v hv=>?_)
  obtain⟨t',e'⟩:=h (j+1) v (by simpa using hv)
  exact⟨t',by rw[e'];congr 2;omega⟩
theorem aX4 {r:Addr}{n:Nat}{t u v:Tok}{Q:List c6->c7->Prop}(hh:A.handled=none)(hr:IsRange s.heap r 0 n 1 t u v)(hn:n<=1000)
  (h:∀ h' tk vs,(∀ b o,s.heap.get? b=some o->h'.get? b=some o)->G9 vs ((Y5 0 n).map fun k:Nat=>(k:Int))->Q vs { s with heap:=h',toks:=tk }) :
  o7 (y6 prog w) A (collect (.ref r)) Q E s:=by
 unfold collect
 refine b7 (wpAny_runValue (P4 F.entry_proto_collect ?_))
 rw[Around.under_plainId F.plain_proto_collect _]
 show o7 _ A.in1 (newList [] >>= fun l=>bj2 (.builtin "list.__iadd__" ⟨[l,.ref r],[]⟩)) _ _ s
 refine b7 (G1 ?_)
 refine d3 ⟨af4 F.plain_list_iadd _,P4 F.entry_list_iadd ?_⟩
 rw[Around.under_plainId F.plain_list_iadd _]
 show o7 _ A.in1 (Builtin.List.listExtendWith (.ref s.heap.objs.size) (.ref r) (.ref s.heap.objs.size)) _ _ _
 have hS:(s.heap.push { cls:=.type "list",data:=.seq ([]:List c6).toArray }).get? s.heap.objs.size=some { cls:=.type "list",data:=.seq #[] }:=i8 _ rfl
 have hrs:Builtin.Range.rangeSize 0 n 1=(n:Int):=by rw[bC1];split<;>omega
 refine wpAny_extend_range (R:=fun rr s'=>match rr with
  | .ok (.ret v)=>o7 (y6 prog w) A (match v with
   | .ref a=>(do
    let o <- load a
    match o.data with
    | .seq xs _=>pure xs.toList
    | _=>bj8 "internal:collect")
   | _=>bj8 "internal:collect") Q E s'
  | .ok _=>False
  | .error e=>E e s') (s:={ s with heap:=s.heap.push { cls:=.type "list",data:=.seq ([]:List c6).toArray } }) (n:=n) hh (c5 _ hr) (small_one (by omega) (by omega) (by omega) (by omega)) hrs (by omega) s.heap.objs.size _ 0 hS fun h' tk acc' c' hk hS' hacc=>?_
 show o7 _ A (load s.heap.objs.size >>= _) _ _ _
 refine b7 (wpAny_load hS' ?_)
 refine d3 (h h' tk _ (fun b o e=>hk b o (j7 (d6 e)) (c5 _ e)) (bg8 (by rw[p0];exact hacc.1) fun j v hj=>?_))
 obtain⟨t',e⟩:=hacc.2 j v (by rw[<- u5];exact hj)
 exact⟨t',by rw[e];congr 1;omega⟩
end
section
variable {X:Cx} {pins:List (Addr × Obj)} {σ:St} {H:Hp} {s:c7} {A:u4} {E:c6->c7->Prop}
theorem N8.to {H':Hp}{b:Addr}(f:N8 X pins H b)(h:H' b=none):N8 X pins H' b:=⟨h,f.2⟩
theorem Inv.turn {h':Heap}{t':Nat}{it:Addr}(I:Inv X pins σ H s)(f:N8 X pins H it)(k:∀ b o,b≠it->s.heap.get? b=some o->h'.get? b=some o):Inv X pins σ H { s with heap:=h',toks:=t' }:=
 I.turned k f.1 f.2.1 f.2.2.2.1 f.2.2.2.2.1 f.2.2.2.2.2
theorem Inv.take {h':Heap}{t':Nat}{a:Addr}{o:HO}(I:Inv X pins σ H s)(f:N8 X pins H a)(k:∀ b u,b≠a->s.heap.get? b=some u->h'.get? b=some u)(new:N7 X.prog X.w (upd H a o) h' a o):Inv X pins σ (upd H a o) { s with heap:=h',toks:=t' }:=by
 have hn:=f.1
 have ne:∀ b u,H b=some u->b≠a:=fun b u e=>o5 e hn
 have kp:∀ b u,H b=some u->upd H a o b=some u:=fun b u e=>by rw[v7 (ne b u e)];exact e
 refine I.step (g':=s.gens) (d':=s.drawn) (ch:=[a]) (fun b hb=>?_) (fun b u _ _ hc e _=>k b u (fun z=>hc (by simp[z])) e) (fun b u _ _ hc e _=>⟨u.slots,k b u (fun z=>hc (by simp[z])) e⟩) (fun b u hc _ n=>by rw[v7 (fun z=>hc (by simp[z]))];exact n)
  (fun b u hc e=>⟨u,k b u (fun z=>hc (by simp[z])) e⟩) (fun b xs e=>kp b _ e) (fun b u xs e=>kp b _ e) (fun b ps e=>⟨#[],by rw[kp b _ e];simp⟩) (fun m hm=>?_) (fun b u e=>?_) I.bare
 ·have e:b=a:=by simpa using hb
  subst e
  exact⟨f.2.2.2.1,f.2.1,f.2.2.2.2.1,f.2.2.2.2.2⟩
 ·obtain⟨o',es,ep,ho,r⟩:=hm
  exact⟨o',es,ep,k _ o' (Ne.symm f.2.1) ho,r⟩
 ·by_cases hb:b=a
  ·subst hb
   rw[c8]at e
   cases e
   exact new
  ·rw[v7 hb]at e
   refine(I.hok b u e).stay (fun c v hc q=>k c v ?_ q) (fun c q=>?_) fun c xs q=>?_
   ·rcases hc with z | z
    ·rw[z];exact hb
    ·exact ne c _ z
   ·exact kp _ _ q
   ·exact kp _ _ q
end
section
variable {X:Cx} {pins:List (Addr × Obj)} {σ:St} {H:Hp} {s:c7} {A:u4} {E:c6->c7->Prop}
abbrev aQ4 (X:Cx)(A:u4)(σ:St)(H:Hp)(f:c6)(key:Int->List Int)(z:Int):Prop:=∀ (t:Tok) (pins':List (Addr × Obj)) (s':c7) (H':Hp),Inv X pins' σ H' s'->u9 H H' ->
 o7 (y6 X.prog X.w) A (call f [.int z t]) (fun u s''=>∃ k H'',u=.ref k/\H'' k=some (.tup ((key z).map V.int))/\Inv X pins' σ H'' s''/\u9 H' H'') (fun _ _=>False) s'
abbrev aQ5 (X:Cx)(pins:List (Addr × Obj))(σ:St)(H:Hp)(a:Addr)(zs:List Int)(key:Int->List Int)(P:PySem.Fin->c7->Prop):Prop:=∀ (H':Hp) (s':c7) (out:List c6) (zs':List Int) (c:Nat),Inv X pins σ H' s'->u9 H H'->N8 X pins H' a ->
 s'.heap.get? a=some (F7 "list" out.toArray c)->G9 out zs'->zs'.Perm zs->zs'.Pairwise (fun x y=>Tim.K2 (key y) (key x)=false)->P (.done (.ret .none)) s'
theorem aD7 {prog:j8}{w:x6}{h:Heap}{key:Int->List Int}:∀ {ks vs:List c6} {zs:List Int},ac3 (fun u k=>Tim.IsK prog w h k u) ks (zs.map key)->G9 vs zs ->
  (∀ p∈ks.zip vs,Tim.IsK prog w h (key (numOf p.2)) p.1)/\(ks.zip vs).map (fun p=>numOf p.2)=zs
 | _,_,[],.nil,.nil=>⟨fun p h=>(nomatch h),rfl⟩
 | _,_,z::zs,.cons r t,.cons _ t' q=>by
  obtain⟨h1,h2⟩:=aD7 t q
  refine⟨fun p hp=>?_,by rw[W8,v8,h2];rfl⟩
  rw[W8]at hp
  rcases g6.mp hp with rfl | hp
  ·exact r
  ·exact h1 p hp
theorem aJ9:∀ {vs:List c6} {zs:List Int},G9 vs zs->∀ v∈vs,∃ t,v=.int (numOf v) t
 | _,_,.nil,v,h=>by cases h
 | _,_,.cons z t q,v,h=>by
  rcases g6.mp h with rfl | h
  ·exact⟨t,rfl⟩
  ·exact aJ9 q v h
theorem bg9:∀ {vs:List c6},(∀ v∈vs,∃ t,v=.int (numOf v) t)->G9 vs (vs.map numOf)
 | [],_=>.nil
 | v::vs,h=>by
  obtain⟨t,e⟩:=h v i5
  rw[v8]
  rw[e]
  exact .cons _ t (bg9 fun v hv=>h v (d7 _ hv))
set_option maxHeartbeats 2000000 in
theorem aV8 {a kS:Addr}{vs:List c6}{zs:List Int}{keys:Array c6}{e e1:Nat}{key:Int->List Int}{P:PySem.Fin->c7->Prop}{st:M6}{H0:Hp}(I:Inv X pins σ H s)(hS:u9 H0 H)(hk:s.heap.get? kS=some (F7 "list" keys e))(ha:s.heap.get? a=some (F7 "list" #[] e1))
  (fk:N8 X pins H kS)(fa:N8 X pins H a)(hka:kS≠a)(hz:vs.length<=1000)(hkl:keys.size=vs.length)(hi:G9 vs zs)
  (hK:ac3 (fun u k=>Tim.IsK X.prog X.w s.heap k u) keys.toList (zs.map key))(hp:(t7 st).Perm (keys.zip vs.toArray))(hf:aa8 st=none)
  (hs:(t7 st).toList.Pairwise (Tim.le (Tim.Bf (O:=Tim.bb4) fun p=>Tim.Q0 X.prog X.w s.heap p.1)))(h:aQ5 X pins σ H0 a zs key P) :
  o7 (y6 X.prog X.w) A (ksk_tail a false e1 (.ref kS) st) P E s:=by
 obtain⟨k1,k2⟩:=aD7 hK hi
 have hl:(t7 st).toList.Perm (keys.toList.zip vs):=by rw[<- ksk_zip];exact ae9.mp hp
 have hsz2:(t7 st).size=vs.length:=by rw[hp.size_eq,aY9,hkl,d5,Nat.min_self]
 have s1:=Heap.SameBut.update s.heap kS (Obj.mapSeq fun _=>(#[]:Array c6))
 have na1:(s.heap.update kS (Obj.mapSeq fun _=>(#[]:Array c6))).get? a=some (F7 "list" #[] e1):=(s1.2 a hka.symm).trans ha
 have hout:((t7 st).map (·.2)).size=vs.length:=by rw[ai0];exact hsz2
 have hmem:∀ v∈(t7 st).toList.map (·.2),∃ t,v=.int (numOf v) t:=fun v hv=>by
  obtain⟨p,hp',rfl⟩:=u6.mp hv
  exact aJ9 hi _ (as6 (hl.mem_iff.mp hp')).2
 unfold ksk_tail
 dsimp only
 refine b7 (af5 hk rfl ?_ (by rw[hkl,E4];omega) (y9 _))
 refine b7 (ai5 ?_)
 refine b7 (bk0 na1 rfl ?_)
 refine b7 (af5 na1 rfl ?_ (y9 _) (A4 (at6 hout) (by rw[E4];omega)))
 rw[hf]
 simp only[bne_self_eq_false,o6,if_false]
 have I1:Inv X pins σ H { s with heap:=s.heap.update kS (Obj.mapSeq fun _=>(#[]:Array c6)),toks:=s.toks }:=I.turn fk fun b o hb q=>(s1.2 b hb).trans q
 have s2:=Heap.SameBut.update (s.heap.update kS (Obj.mapSeq fun _=>(#[]:Array c6))) a (Obj.mapSeq fun _=>(t7 st).map (·.2))
 have I2:Inv X pins σ H { s with heap:=(s.heap.update kS (Obj.mapSeq fun _=>(#[]:Array c6))).update a (Obj.mapSeq fun _=>(t7 st).map (·.2)),toks:=s.toks }:=
  I1.turn (t':=s.toks) fa fun b o hb q=>(s2.2 b hb).trans q
 obtain⟨c2,hc2⟩:∃ c2,((s.heap.update kS (Obj.mapSeq fun _=>(#[]:Array c6))).update a (Obj.mapSeq fun _=>(t7 st).map (·.2))).get? a=some (F7 "list" ((t7 st).map (·.2)) c2):=⟨_,P5 na1 fun _=>(t7 st).map (·.2)⟩
 have eo:((t7 st).toList.map (·.2)).toArray=(t7 st).map (·.2):=by rw[<- bY3,aa6]
 refine d3 (h H _ ((t7 st).toList.map (·.2)) (((t7 st).toList.map (·.2)).map numOf) c2 I2 hS fa (by rw[eo];exact hc2) (bg9 hmem) ?_ ?_)
 ·have:=hl.map fun p=>numOf p.2
  rw[k2]at this
  rw[V2]
  exact this
 ·rw[V2,L8]
  refine List.Pairwise.imp_of_mem ?_ hs
  intro x y hx hy hxy
  have ex:=Tim.O5 (k1 x (hl.mem_iff.mp hx))
  have ey:=Tim.O5 (k1 y (hl.mem_iff.mp hy))
  have hxy':Tim.K2 (Tim.Q0 X.prog X.w s.heap y.1) (Tim.Q0 X.prog X.w s.heap x.1)=false:=hxy
  rw[ex,ey]at hxy'
  exact hxy'
theorem bx7:∀ {vs:List c6} {zs:List Int} {j:Nat} {x:c6},G9 vs zs->vs[j]?=some x->∃ z t,zs[j]?=some z/\x=.int z t
 | _,_,_,_,.nil,h=>by simp at h
 | _,_,0,_,.cons n t q,h=>by simp at h;exact⟨n,t,rfl,h.symm⟩
 | _,_,j+1,_,.cons n t q,h=>by
  obtain⟨z,t',h1,h2⟩:=bx7 q (by simpa using h)
  exact⟨z,t',by simpa using h1,h2⟩
theorem by3 {H':Hp}{s':c7}{fp:List Addr}{h:Heap}{b:Addr}{o:Obj}(I:Inv X (pins++aj7 fp h) σ H' s')(hb:b∈fp)(e:h.get? b=some o):s'.heap.get? b=some o/\H' b=none:=
 let p:=I.pin (b,o) (m9 _ (m9 _ (O3 hb e)))
 ⟨p.1,p.2.1⟩
end
section
variable {X:Cx} {pins:List (Addr × Obj)} {σ:St} {H:Hp} {s:c7} {A:u4} {E:c6->c7->Prop}
end
abbrev ao7 (qual:Str)(scope:R8)(cl:List (Str × Addr))(f:Addr)(cv:c6)(s:c7):Env:=PySem.W.envX qual scope s.heap.objs.size f cv cl
def bw3 (X:Cx)(A:u4)(qual:Str)(scope:R8)(cl:List (Str × Addr))(N':List Str)(f:Addr)(cv:c6)(s:c7)(H:Hp):Cx:=
 { X with A:=A.deeper (ao7 qual scope cl f cv s),N:=N',s₀:=s,H₀:=H,env:=ao7 qual scope cl f cv s,outer:=X.stack,stack:=List.cons (ao7 qual scope cl f cv s) X.stack,ex:=[],fn:=fun _=>false,calm:=true,pn:=[],xe:=fun _ _=>False }
def aL4 (X:Cx)(N':List Str)(lk:List (Option Nat))(scope:R8)(cl:List (Str × Addr)):Prop:=
 lk.length=N'.length/\∀ (i j:Nat) (x:Str),N'[i]?=some x->lk[i]?=some (some j)->X.N[j]?=some x/\(X.env.scope.names.lookup x=some .cell\/X.env.scope.names.lookup x=some .free)/\(cl.lookup x).isSome=true /\
  (scope.names.lookup x=some .cell\/scope.names.lookup x=some .free)
section
variable {X:Cx} {pins:List (Addr × Obj)} {σ:St} {H:Hp} {s:c7} {A:u4}
theorem bm5 {h1:Heap}{tk:Nat}{qual p:Str}{scope:R8}{cl:List (Str × Addr)}{N':List Str}{lk:List (Option Nat)}{f:Addr}{cv u:c6}{v:V}(I:Inv X pins σ H s)(hA:A.frames=some X.stack)(hh:A.handled=none)(hkind:scope.kind=.function)(hcl:ay2 X.env cl)(hfr:am9 scope.names cl=true)(hlk:aL4 X N' lk scope cl)
  (hp:scope.names.lookup p=some .local)(rv:RelV v u)(hn:h1.Ns s.heap.objs.size (fun y=>[(p,u)].reverse.lookup y))(hk:∀ b o,s.heap.get? b=some o->h1.get? b=some o) :
  Inv (bw3 X A qual scope cl (p::N') f cv s H) [] (some v::ac9 lk σ) H { s with heap:=h1,toks:=tk }:=by
 have hC:H s.heap.objs.size=none:=I.hok.fresh (d4 _)
 have hmem:∀ y∈scope.names,y.2≠.cell/\(y.2=.free->(cl.lookup y.1).isSome=true):=fun y hy=>by
  unfold am9 at hfr
  rw[N3]at hfr
  have:=hfr y hy
  rw[C4]at this
  refine⟨by simpa using this.1,fun e=>?_⟩
  have h2:=this.2
  rw[e]at h2
  simpa using h2
 have hcell:∀ x c,cl.lookup x=some c->X.env.cells.lookup x=some c:=fun x c e=>hcl.get e
 have noE:∀ b:Addr,b∉([]:List Addr):=fun b z=>nomatch z
 refine⟨⟨I.ok.mod,hkind,rfl,rfl,d4 _,fun x y c e1 e2=>I.ok.inj x y c (hcell x c e1) (hcell y c e2),fun x hx=>?_,(fun x c e=>by cases e),fun _=>hh,Around.frames_deeper hA,.inr ⟨rfl,rfl⟩,fun b z=>absurd z (noE b),fun b o e=>I.bs b o e,A4 I.ok.bsz I.sz,fun b _ _=>noE b,fun b z=>absurd z (noE b),I.stack,I.stkFree⟩,
  rfl,I.bare,Un.kept hk,⟨_,hn,fun i x w e1 e2 e3=>?_⟩,fun x c e=>?_,hC,fun x c e=>I.freeC x c (hcell x c e),(fun q hq=>nomatch hq),I.hok.kept hk,?_⟩
 ·have hx':scope.names.lookup x=some .cell\/scope.names.lookup x=some .free:=hx
  rcases hx' with h | h
  ·exact absurd rfl (hmem _ (PySem.mem_of_lookup h)).1
  ·exact v9.mp ((hmem _ (PySem.mem_of_lookup h)).2 rfl)
 ·cases i with
  | zero =>
   have e1':p=x:=by simpa using (show (p::N')[0]?=some x from e1)
   have e2':v=w:=by simpa using (show (some v::ac9 lk σ)[0]?=some (some w) from e2)
   subst e1' e2'
   refine⟨u,rv,.inl ⟨hp,?_⟩⟩
   show [(p,u)].reverse.lookup p=some u
   simp[F6]
  | succ i =>
   have e1':N'[i]?=some x:=by simpa using (show (p::N')[i+1]?=some x from e1)
   have e2':(ac9 lk σ)[i]?=some (some w):=by simpa using (show (some v::ac9 lk σ)[i+1]?=some (some w) from e2)
   unfold ac9 at e2'
   rw[o9]at e2'
   cases hq:lk[i]? with
   | none=>rw[hq]at e2';cases e2'
   | some o =>
    rw[hq]at e2'
    have e2'':(o.bind fun j=>(σ[j]?).join)=some w:=Option.some.inj e2'
    cases o with
    | none=>cases e2''
    | some j =>
     obtain⟨q1,q2,q3,q4⟩:=hlk.2 i j x e1' hq
     have hσ:σ[j]?=some (some w):=by
      have z:(σ[j]?).join=some w:=e2''
      cases hh:σ[j]? with
      | none=>rw[hh]at z;cases z
      | some o=>rw[hh]at z;rw[show o=some w from z]
     obtain⟨m,hnX,hl⟩:=I.loc
     obtain⟨u',r,lo⟩:=hl j x w q1 hσ (q2.elim (fun a=>.inr (.inl a)) (fun a=>.inr (.inr a)))
     refine⟨u',r,.inr ?_⟩
     obtain⟨c,hc⟩:=v9.mp q3
     refine⟨q4,c,hc,?_⟩
     have hcX:=hcell x c hc
     rcases lo with⟨k,_⟩ | ⟨_,c',hc',z⟩
     ·have k':X.env.scope.names.lookup x=some .local:=k
      rw[k']at q2
      rcases q2 with q2 | q2<;>cases q2
     ·rw[hcX]at hc'
      cases hc'
      obtain⟨o,ho,hd⟩:=z
      exact⟨o,hk c o ho,hd⟩
 ·obtain⟨w,o,ho,hd⟩:=I.cell x c (hcell x c e)
  exact⟨w,o,hk c o ho,hd⟩
 ·show (some v::ac9 lk σ).length=(p::N').length
  unfold ac9
  rw[A1,b9,A1,hlk.1]
theorem bw2 {name qual p:Str}{params:an9}{body:Expr}{scope:R8}{cl:List (Str × Addr)}{N':List Str}{lk:List (Option Nat)}{f c':Addr}{pm ctv u:c6}{v:V}{te:TE}{Q:VK}(I:Inv X pins σ H s)(hA:A.frames=some X.stack)(hh:A.handled=none)(hroom:A.depth<aG1)
  (ho:s.heap.get? f=some (PySem.W.kla_obj name qual params body scope cl pm c' ctv))(hcd:s.heap.CodeRec (.ref c') qual)(hbind:bC2 (PySem.W.kla_fn name qual params body scope cl pm (.ref c') ctv) ⟨[u],[]⟩=pure [(p,u)])
  (hkind:scope.kind=.function)(hco:scope.isCoroutine=false)(hgen:scope.isGenerator=false)(hcl:ay2 X.env cl)(hfr:am9 scope.names cl=true)(hlk:aL4 X N' lk scope cl)(hp:scope.names.lookup p=some .local)(rv:RelV v u)
  (he:PE (bw3 X A qual scope cl (p::N') f (.ref c') s H) body te)(ht:te (some v::ac9 lk σ) H Q) :
  o7 (y6 X.prog X.w) A (call (.ref f) [u]) (fun u' s'=>∃ v' H',Inv X pins σ H' s'/\RelV v' u'/\Q v' H') (fun _ _=>False) s:=by
 have hcellN:∀ y∈scope.names,y.2≠.cell:=fun y hy=>by
  unfold am9 at hfr
  rw[N3]at hfr
  have:=hfr y hy
  rw[C4]at this
  simpa using this.1
 refine aR1 (PySem.W.kla_callFunE hroom ho rfl hco hgen rfl hcd ?_)
 show o7 _ _ (bC2 (PySem.W.kla_fn name qual params body scope cl pm (.ref c') ctv) ⟨[u],[]⟩) _ _ s
 rw[hbind]
 refine d3 (U7 hcellN (fun y hy=>by rw[B7.mp hy];exact hp) (fun h1 hns hsb=>?_) hkind)
 have hk₁:∀ b o,s.heap.get? b=some o->h1.get? b=some o:=fun b o e=>hsb.extBut b o (j7 (d6 e)) (c5 _ e)
 refine⟨I.nolimit.keeps hk₁,?_⟩
 show am1 _ _ (.expr body (PySem.W.envX qual scope s.heap.objs.size f (.ref c') cl)) _ _
 have I1:=bm5 (tk:=s.toks+[(p,u)].length) (qual:=qual) (f:=f) (cv:=.ref c') I hA hh hkind hcl hfr hlk hp rv hns hk₁
 refine PySem.W.kla_codeExpr (E3 (he [] _ _ H Q I1 ht) (fun u' s' hq=>?_) fun _ _ z=>False.elim z)
 obtain⟨v',H',J,r',q⟩:=hq
 exact⟨v',H',I.call' (ch:=[]) J.os J.base J.hok J.bare (fun b z=>nomatch z),r',q⟩
end
def ax1 (c:Addr)(qual:Str):HO:=.ext fun h=>h.CodeRec (.ref c) qual
def Q7 (f:Addr)(o:Obj):HO:=.ext fun h=>h.get? f=some o
def S6 (P:Addr)(pos:Pos)(qual:Str)(H:Hp):Prop:=∃ ps,H P=some (.tbl ps)/\TriplesOk ps.toList/\(bP8 pos ps.toList=none\/∃ c',bP8 pos ps.toList=some (.ref c')/\H c'=some (ax1 c' qual))
def S0 (P:Addr)(H H':Hp):Prop:=∀ b o,b≠P->H b=some o->H' b=some o
theorem S0.trans {P:Addr}{H H1 H2:Hp}(a:S0 P H H1)(b:S0 P H1 H2):S0 P H H2:=fun c o n h=>b c o n (a c o n h)
theorem u9.grow {H H':Hp}(P:Addr)(h:u9 H H'):S0 P H H':=fun b o _ q=>h b o q
theorem S6.same {P:Addr}{pos:Pos}{qual:Str}{H H':Hp}(t:S6 P pos qual H)(h:u9 H H'):S6 P pos qual H':=by
 obtain⟨ps,h1,h2,h3⟩:=t
 refine⟨ps,h _ _ h1,h2,?_⟩
 rcases h3 with h3 | ⟨c',h3,h4⟩
 ·exact .inl h3
 ·exact .inr ⟨c',h3,h _ _ h4⟩
structure as4 (base:Heap) (mg:Str->Option c6) (c P:Addr):Prop where
 hd:PySem.W.CodeHd base c P
 blt:base.BuiltinsAt mg P
 ne:j0≠P
theorem bo5 {pos:Pos}{c:c6}{l:List c6}(h:TriplesOk l)(hn:bP8 pos l=none):bP8 pos (l++[ac4 pos.line,ac4 pos.col,c])=some c:=codeAmong_snoc l h hn
def cb5 (P:Addr)(pos:Pos)(qual:Str)(params:an9)(body:Expr)(scope:R8)(cl:List (Str × Addr))(pm:c6):TE:=fun σ H Q=>S6 P pos qual H/\∀ f c' ctv H',S0 P H H'->S6 P pos qual H'->H f=none ->
 H' f=some (Q7 f (PySem.W.kla_obj "<lambda>" qual params body scope cl pm c' ctv))->H' c'=some (ax1 c' qual)->Q (.ref f) H'
section
variable {X:Cx}
theorem bt4 {params:an9}{body:Expr}{scope:R8}{pos:Pos}{c P:Addr}{cl:List (Str × Addr)}(B:as4 X.base X.mg c P)(hcode:X.env.code=.ref c)(hcl:ay3 scope X.env=pure cl)(hdef:defaultsOf params X.env=([],[])) :
  PE X (.Lambda params body scope pos) (cb5 P pos (X.env.qual++"<lambda>") params body scope cl ((X.mg "__name__").getD .none)):=by
 intro pins s σ H Q I h
 obtain⟨⟨ps,hP,ht,hin⟩,q⟩:=h
 have hPh:s.heap.get? P=some (PySem.W.tabObj ps):=I.hok P _ hP
 have C:=B.hd.keeps I.bk
 have hb:s.heap.BuiltinsAt X.mg P:=by
  obtain⟨bm,ob,b1,b2,b3,b4,b5,b6⟩:=B.blt
  exact⟨bm,ob,b1,b2,b3,b4,I.bk _ _ b5,b6⟩
 refine PySem.W.kla_eval hdef ?_
 rcases hin with hnf | ⟨c',hf,hc'⟩
 ·refine PySem.W.kla_makeFunction hcl I.ok.glob (I.mod.glob.keeps I.bk) hcode C hPh ht hnf B.ne hb fun c' ctv h' tk hx hge hlt hrec htb=>?_
  have hPlt:P<s.heap.objs.size:=d6 hPh
  have hsz:s.heap.objs.size<=h'.objs.size:=A4 hge (aa3 hlt)
  have cP:P≠c':=j7 (p7 hPlt hge)
  have fP:P≠h'.objs.size:=j7 (p7 hPlt hsz)
  have fc:c'≠h'.objs.size:=j7 hlt
  have hcn:H c'=none:=I.hok.fresh hge
  have hfn:H h'.objs.size=none:=I.hok.fresh hsz
  have hfr:(PySem.W.kla_obj "<lambda>" (X.env.qual++"<lambda>") params body scope cl ((X.mg "__name__").getD .none) c' ctv).isFreed=false:=rfl
  generalize hobj:PySem.W.kla_obj "<lambda>" (X.env.qual++"<lambda>") params body scope cl ((X.mg "__name__").getD .none) c' ctv=ob at *
  generalize hps:ps++#[ac4 pos.line,ac4 pos.col,.ref c']=ps' at *
  have hps2:ps'.toList=ps.toList++[ac4 pos.line,ac4 pos.col,.ref c']:=by rw[<- hps];simp
  generalize hH1:upd (upd (upd H P (.tbl ps')) c' (ax1 c' (X.env.qual++"<lambda>"))) h'.objs.size (Q7 h'.objs.size ob)=H1
  have v1:H1 h'.objs.size=some (Q7 h'.objs.size ob):=by rw[<- hH1];exact c8
  have v2:H1 c'=some (ax1 c' (X.env.qual++"<lambda>")):=by rw[<- hH1,v7 fc];exact c8
  have v3:H1 P=some (.tbl ps'):=by rw[<- hH1,v7 fP,v7 cP];exact c8
  have v4:∀ b,b≠P->b≠c'->b≠h'.objs.size->H1 b=H b:=fun b n1 n2 n3=>by rw[<- hH1,v7 n3,v7 n2,v7 n1]
  have v5:∀ b u,b≠P->H b=some u->H1 b=some u:=fun b u n e=>by rw[v4 b n (o5 e hcn) (o5 e hfn)];exact e
  have k1:∀ b o,b≠P->s.heap.get? b=some o->(h'.push ob).get? b=some o:=fun b o n e=>c5 _ (hx b o n e)
  have neP:∀ b,H b=none->b≠P:=fun b n z=>by rw[z,hP]at n;cases n
  have hPn:(h'.push ob).get? P=some (PySem.W.tabObj ps'):=c5 _ htb
  have un:Un X.fs [] H H1 s.heap (h'.push ob):=by
   refine⟨fun b o e n _ _=>k1 b o (neP b n) e,fun b o e n _ _=>⟨o.slots,k1 b o (neP b n) e⟩,fun b o e n _=>?_,fun b o e _=>?_,fun b xs e=>v5 b _ (fun z=>by rw[z,hP]at e;cases e) e,fun b o u e=>v5 b _ (fun z=>by rw[z,hP]at e;cases e) e,fun b qs e=>?_⟩
   ·rw[v4 b (neP b n) (j7 (p7 (d6 e) hge)) (j7 (p7 (d6 e) hsz))]
    exact n
   ·by_cases hb:b=P
    ·rw[hb];exact⟨_,hPn⟩
    ·exact⟨o,k1 b o hb e⟩
   ·by_cases hb:b=P
    ·rw[hb,hP]at e
     cases e
     rw[hb]
     exact⟨#[ac4 pos.line,ac4 pos.col,.ref c'],by rw[v3,<- hps]⟩
    ·exact⟨#[],by rw[v5 b _ hb e];simp⟩
  have hok:HOk X.prog X.w H1 (h'.push ob):=by
   intro b u e
   by_cases hb1:b=h'.objs.size
   ·subst hb1
    rw[v1]at e
    cases e
    exact⟨i8 _ hfr,⟨_,i8 _ hfr⟩,fun h1 h2 q z=>z _ q⟩
   ·by_cases hb2:b=c'
    ·subst hb2
     rw[v2]at e
     cases e
     obtain⟨c2,oc,vs,tq,e1,e2,e3,e4⟩:=hrec
     cases e1
     exact⟨⟨_,oc,vs,tq,rfl,c5 _ e2,e3,e4⟩,⟨oc,c5 _ e2⟩,fun h1 h2 ⟨c3,o3,vs3,t3,q1,q2,q3,q4⟩ z=>by cases q1;exact⟨_,o3,vs3,t3,rfl,z _ q2,q3,q4⟩⟩
    ·by_cases hb3:b=P
     ·subst hb3
      rw[v3]at e
      cases e
      exact hPn
     ·rw[v4 b hb3 hb2 hb1]at e
      refine(I.hok b u e).stay (fun d v hd z=>k1 d v ?_ z) (fun d z=>v5 _ _ ?_ z) fun d xs z=>v5 _ _ ?_ z
      ·rcases hd with hd | hd
       ·rw[hd];exact hb3
       ·intro zz;rw[zz,hP]at hd;cases hd
      ·intro zz;rw[zz,hP]at z;cases z
      ·intro zz;rw[zz,hP]at z;cases z
  have I1:Inv X pins σ H1 { s with heap:=h'.push ob,toks:=tk }:=I.un un hok
  refine⟨.ref h'.objs.size,H1,I1,rfl,q _ c' ctv H1 (fun b o n e=>v5 b o n e) ⟨ps',v3,?_,.inr ⟨c',?_,v2⟩⟩ hfn ?_ v2⟩
  ·rw[hps2];exact TriplesOk_snoc _ _ _ _ ht
  ·rw[hps2];exact bo5 ht hnf
  ·rw[hobj];exact v1
 ·refine PySem.W.kla_makeFunctionHit hcl I.ok.glob (I.mod.glob.keeps I.bk) hcode C hPh ht hf hb fun ctv h' tk hk hsz=>?_
  have hfn:H h'.objs.size=none:=I.hok.fresh hsz
  have hfr:(PySem.W.kla_obj "<lambda>" (X.env.qual++"<lambda>") params body scope cl ((X.mg "__name__").getD .none) c' ctv).isFreed=false:=rfl
  generalize hobj:PySem.W.kla_obj "<lambda>" (X.env.qual++"<lambda>") params body scope cl ((X.mg "__name__").getD .none) c' ctv=ob at *
  have I1:Inv X pins σ (upd H h'.objs.size (Q7 h'.objs.size ob)) { s with heap:=h'.push ob,toks:=tk }:=I.laid (fun b o e=>c5 _ (hk b o e)) hsz ⟨i8 _ hfr,⟨_,i8 _ hfr⟩,fun h1 h2 q z=>z _ q⟩
  have sm:u9 H (upd H h'.objs.size (Q7 h'.objs.size ob)):=fun b o e=>by rw[v7 (o5 e hfn)];exact e
  refine⟨.ref h'.objs.size,_,by rw[<- hobj]at I1;rw[<- hobj];exact I1,rfl,q _ c' ctv _ (sm.grow P) (S6.same ⟨ps,hP,ht,.inr ⟨c',hf,hc'⟩⟩ sm) hfn (by rw[hobj];exact c8) (sm _ _ hc')⟩
end
def ca9 (ta:TA):TE:=fun σ H Q=>ta σ H fun vs H1=>∃ n:Nat,vs=[.int n]/\n<=1000/\∀ r,H1 r=none->Q (.ref r) (upd H1 r (.rng 0 n))
section
variable {X:Cx}
theorem bF8 {a:Expr}{ta:TA}{p pos:Pos}(hg:Gl X "range")(hm:X.mg "range"=none)(ha:PA X [a] ta)(hs:A2 [a] X.env=[(false,eval a X.env)]:=by rfl):PE X (.Call (.Name "range" p) [a] [] pos) (ca9 ta):=by
 intro pins s σ H Q I h
 refine Call_ (V8 I hg hm bB4 (PyProof.Rows.callWith_type1 (thn (ha pos pins s σ H _ I h) fun us s1 ⟨vs,H1,I1,r1,q1⟩=>?_) hs rfl))
 obtain⟨n,e,hn,q⟩:=q1
 subst e
 cases r1 with
 | cons r rr =>
  cases rr
  obtain⟨t,rfl⟩:=r
  refine call_range_1 ?_
  have hf:H1 s1.heap.objs.size=none:=I1.hok.fresh (d4 _)
  exact⟨.ref s1.heap.objs.size,upd H1 s1.heap.objs.size (.rng 0 n),I1.laid (fun b o e=>c5 _ e) (d4 _) ⟨_,_,_,i8 _ rfl⟩,rfl,q _ hf⟩
end
theorem N7.there {P:j8}{w:x6}{H:Hp}{h:Heap}{a:Addr}{o:HO}(x:N7 P w H h a o):∃ ob,h.get? a=some ob:=by
 cases o with
 | lst xs=>obtain⟨_,_,_,_,e⟩:=x;exact⟨_,e⟩
 | tup xs=>obtain⟨_,_,_,ob,e,_⟩:=x;exact⟨_,e⟩
 | dK kvs=>obtain⟨_,_,_,_,o,_,_,e,_⟩:=x;exact⟨_,e⟩
 | dT kvs=>obtain⟨_,_,_,_,o,_,_,e,_⟩:=x;exact⟨_,e⟩
 | set S n=>obtain⟨o,_,_,_,e,_⟩:=x;exact⟨_,e⟩
 | ins C dx fs=>obtain⟨_,_,_,e,_⟩:=x;exact⟨_,e⟩
 | own y=>obtain⟨ob,e⟩:=x;exact⟨ob,e⟩
 | xd fs=>obtain⟨_,⟨_,_,_,e,_⟩,_⟩:=x;exact⟨_,e⟩
 | rng lo hi=>obtain⟨_,_,_,e⟩:=x;exact⟨_,e⟩
 | frz ob u=>obtain⟨e,_⟩:=x;exact⟨_,e⟩
 | tbl ps=>exact⟨_,(show h.get? a=some _ from x)⟩
 | met f y=>exact⟨_,(show h.get? a=some _ from x)⟩
 | ext φ=>obtain⟨_,⟨ob,e⟩,_⟩:=x;exact⟨ob,e⟩
theorem HOk.stays {P:j8} {w:x6} {H:Hp} {h h':Heap} (ok:HOk P w H h) (k:∀ b o,h.get? b=some o->H b≠none->h'.get? b=some o):HOk P w H h':=fun a o e =>
 (ok a o e).stay (fun b u hb q => k b u q (by
  rcases hb with z | z
  ·rw[z,e];simp
  ·rw[z];simp)) (fun _ q=>q) fun _ _ q=>q
def cg4 (outer:List Env)(x:Addr)(cls:c6)(h0:Heap)(H':Hp)(h':Heap):Prop:=
 ∃ (B:Heap) (a0:c6),Heap.FlyingW B outer x cls a0 h'/\∀ b o,h'.get? b=some o->(H' b≠none\/h0.get? b≠none)->b∉frs outer->B.get? b=some o
def CXE (P:j8)(w:x6):CXT:=fun outer H s E e s' =>
 ∃ (x:Addr) (cls:c6) (H':Hp),e=.ref x/\s'.os=s.os/\ap3 s'.gens/\Un (frs outer) [] H H' s.heap s'.heap/\HOk P w H' s'.heap/\s.heap.get? x=none/\H' x=none/\cg4 outer x cls s.heap H' s'.heap/\E cls none H'
theorem Un.onto {fs:List Addr}{H H':Hp}{h h' h'':Heap}(u:Un fs [] H H' h h')(stay:∀ b o,h'.get? b=some o->h.get? b≠none->b∉fs->h''.get? b=some o)
  (slots:∀ b o,h'.get? b=some o->h.get? b≠none->b∈fs->∃ sl,h''.get? b=some { o with slots:=sl }):Un fs [] H H' h h'' where
 keep:=fun b o e n hb hx=>stay b o (u.keep b o e n hb hx) (by rw[e];simp) hb
 slot:=fun b o e n hb hx=>by
  obtain⟨sl,e1⟩:=u.slot b o e n hb hx
  obtain⟨sl2,e2⟩:=slots b _ e1 (by rw[e];simp) hb
  exact⟨sl2,e2⟩
 free:=u.free
 there:=fun b o e hx=>by
  obtain⟨o',e1⟩:=u.there b o e hx
  by_cases hb:b∈fs
  ·obtain⟨sl,e2⟩:=slots b o' e1 (by rw[e];simp) hb
   exact⟨_,e2⟩
  ·exact⟨o',stay b o' e1 (by rw[e];simp) hb⟩
 tups:=u.tups
 frzs:=u.frzs
 tbls:=u.tbls
theorem L1 {α:Type}{o:Option α}(h:o≠none):∃ x,o=some x:=by
 cases o with
 | none=>exact absurd rfl h
 | some x=>exact⟨x,rfl⟩
theorem aE4 {env:Env}{outer:List Env}{L:Addr}(h:env.frame=some L):frs (env::outer)=L::frs outer:=by
 unfold frs
 rw[G5,h]
section
variable {P:j8} {w:x6} {K:W.Frag} {mg:Str->Option c6} {base:Heap} {N:List Str} {qual:Str} {scope:R8} {f:Addr} {cd:c6} {A:u4} {outer:List Env} {s:c7} {H:Hp} {E:XK}
 {pins:List (Addr × Obj)} {σ:St} {H1:Hp} {s1:c7}
theorem bD6 {e:Addr}{cls:c6}{vs:List c6}{h2:Heap}(I:Inv (Z8 (CXE P w) P w K mg base N qual scope f cd A outer s H E) pins σ H1 s1)(hx:Heap.MadeExcOf s1.heap h2 e cls vs)(hE:E cls none H1) :
  (Z8 (CXE P w) P w K mg base N qual scope f cd A outer s H E).xe (.ref e) { s1 with heap:=h2 }:=by
 have hst:=I.stack
 have hfr:=I.ok.frames
 have hlt:=I.lt
 have hL:=I.free
 have hab:=I.ok.above
 have hbs:Un (frs outer) [] H H1 s.heap s1.heap:=I.base
 change s1.heap.FunFrames base (J6 qual scope s.heap.objs.size f cd::outer) at hst
 change (A.deeper (J6 qual scope s.heap.objs.size f cd)).frames=some (J6 qual scope s.heap.objs.size f cd::outer) at hfr
 change H1 s.heap.objs.size=none at hL
 have hff:frs (J6 qual scope s.heap.objs.size f cd::outer)=s.heap.objs.size::frs outer:=aE4 rfl
 have hin:∀ env∈(J6 qual scope s.heap.objs.size f cd::outer),∀ b,env.frame=some b->b∈frs (J6 qual scope s.heap.objs.size f cd::outer):=fun env he b hb=>ah8.mpr ⟨env,he,hb⟩
 have old:∀ b,(H1 b≠none\/s.heap.get? b≠none)->b∉frs outer->∃ o,s1.heap.get? b=some o/\b∉frs (J6 qual scope s.heap.objs.size f cd::outer):=fun b hb hno=>by
  have hne:b≠s.heap.objs.size:=by
   rcases hb with z | z
   ·intro q;rw[q]at z;exact z hL
   ·obtain⟨o,z⟩:=L1 z
    exact j7 (d6 z)
  have hex:∃ o,s1.heap.get? b=some o:=by
   rcases hb with z | z
   ·obtain⟨o,z⟩:=L1 z
    exact(I.hok b o z).there
   ·obtain⟨o,z⟩:=L1 z
    exact hbs.there b o z (by simp)
  obtain⟨o,ho⟩:=hex
  refine⟨o,ho,?_⟩
  rw[hff]
  intro hm
  rcases g6.mp hm with q | q
  ·exact hne q
  ·exact hno q
 have eNew:s.heap.get? e=none:=by
  cases q:s.heap.get? e with
  | none=>rfl
  | some o =>
   obtain⟨o',z⟩:=hbs.there e o q (by simp)
   rw[hx.new]at z
   cases z
 have eFree:H1 e=none:=by
  cases q:H1 e with
  | none=>rfl
  | some o =>
   obtain⟨o',z⟩:=(I.hok e o q).there
   rw[hx.new]at z
   cases z
 refine wpAny_leaves_madeW (base:=PySem.W.hideAll s1.heap (frs (J6 qual scope s.heap.objs.size f cd::outer))) hfr rfl (fun b o q=>PySem.W.of_hideAll _ q) (PySem.W.funFrames_hide hst hin) hx fun h' t x1 x2 x3 x4=>?_
 have stay:∀ b o,s1.heap.get? b=some o->(H1 b≠none\/s.heap.get? b≠none)->b∉frs outer->h'.get? b=some o:=fun b o ho hb hno=>by
  obtain⟨o',ho',hm⟩:=old b hb hno
  rw[ho]at ho'
  cases ho'
  exact x1.1 b o (PySem.W.hideAll_get _ ho hm)
 have frNone:∀ b∈frs outer,H1 b=none:=fun b hb=>I.stkFree b (by
  show b∈frs (J6 qual scope s.heap.objs.size f cd::outer)
  rw[hff]
  exact d7 _ hb)
 refine⟨e,cls,H1,rfl,I.os,I.bare,hbs.onto (fun b o ho hh hno=>stay b o ho (.inr hh) hno) (fun b o ho hh hm=>?_),I.hok.stays fun b o ho hh=>stay b o ho (.inl hh) fun hm=>hh (frNone b hm),eNew,eFree,⟨_,_,x1,fun b o ho hb hno=>?_⟩,hE⟩
 ·obtain⟨_,o',ho',hd⟩:=hst.mem (b:=b) (by
   show b∈frs (J6 qual scope s.heap.objs.size f cd::outer)
   rw[hff]
   exact d7 _ hm)
  rw[ho]at ho'
  cases ho'
  exact x4 b o (hx.keeps b o ho) hd
 ·obtain⟨o',ho',hm⟩:=old b hb hno
  have:=stay b o' ho' hb hno
  rw[ho]at this
  cases this
  exact PySem.W.hideAll_get _ ho' hm
theorem an3:av6 (CXE P w) (Z8 (CXE P w) P w K mg base N qual scope f cd A outer s H E) E:=by
 intro pins σ H1 s1 e s2 I hc
 obtain⟨x,cls,H2,rfl,hos,hb2,u,hok,new,hxn,⟨B,a0,fl,st⟩,hE⟩:=hc
 have hst:=I.stack
 have hfr:=I.ok.frames
 have hL:=I.free
 have hbs:Un (frs outer) [] H H1 s.heap s1.heap:=I.base
 change s1.heap.FunFrames base (J6 qual scope s.heap.objs.size f cd::outer) at hst
 change (A.deeper (J6 qual scope s.heap.objs.size f cd)).frames=some (J6 qual scope s.heap.objs.size f cd::outer) at hfr
 change H1 s.heap.objs.size=none at hL
 change Un (frs (J6 qual scope s.heap.objs.size f cd::outer)) [] H1 H2 s1.heap s2.heap at u
 change Heap.FlyingW B (J6 qual scope s.heap.objs.size f cd::outer) x cls a0 s2.heap at fl
 have hff:frs (J6 qual scope s.heap.objs.size f cd::outer)=s.heap.objs.size::frs outer:=aE4 rfl
 have st':∀ b o,s2.heap.get? b=some o->(H2 b≠none\/s1.heap.get? b≠none)->b∉frs (J6 qual scope s.heap.objs.size f cd::outer)->B.get? b=some o:=st
 rw[hff]at u st'
 have hLo:∃ o,s1.heap.get? s.heap.objs.size=some o:=by
  obtain⟨m,⟨o,_,_,ho,_⟩,_⟩:=I.loc
  exact⟨o,ho⟩
 have hL2:H2 s.heap.objs.size=none:=by
  obtain⟨o,ho⟩:=hLo
  exact u.free _ o ho hL (by simp)
 have old:∀ b,(H2 b≠none\/s.heap.get? b≠none)->b∉frs outer->∃ o,s2.heap.get? b=some o/\B.get? b=some o:=fun b hb hno=>by
  have hne:b≠s.heap.objs.size:=by
   rcases hb with z | z
   ·intro q;rw[q]at z;exact z hL2
   ·obtain⟨o,z⟩:=L1 z
    exact j7 (d6 z)
  have hm:b∉s.heap.objs.size::frs outer:=fun hm=>by
   rcases g6.mp hm with q | q
   ·exact hne q
   ·exact hno q
  rcases hb with z | z
  ·obtain⟨o,z'⟩:=L1 z
   obtain⟨o',ho⟩:=(hok b o z').there
   exact⟨o',ho,st' b o' ho (.inl z) hm⟩
  ·obtain⟨o,z⟩:=L1 z
   obtain⟨o1,h1⟩:=hbs.there b o z (by simp)
   obtain⟨o2,h2⟩:=u.there b o1 h1 (by simp)
   exact⟨o2,h2,st' b o2 h2 (.inr (by rw[h1];simp)) hm⟩
 have u2:Un (frs outer) [] H H2 s.heap s2.heap:=by
  refine⟨fun b o e n hb hx=>?_,fun b o e n hb hx=>?_,fun b o e n hx=>?_,fun b o e hx=>?_,fun b xs e=>u.tups b xs (hbs.tups b xs e),fun b o v e=>u.frzs b o v (hbs.frzs b o v e),fun b ps e=>?_⟩
  ·refine u.keep b o (hbs.keep b o e n hb hx) (hbs.free b o e n hx) (fun hm=>?_) hx
   rcases g6.mp hm with q | q
   ·exact j7 (d6 e) q
   ·exact hb q
  ·obtain⟨sl,e1⟩:=hbs.slot b o e n hb hx
   obtain⟨sl2,e2⟩:=u.slot b _ e1 (hbs.free b o e n hx) (d7 _ hb) hx
   exact⟨sl2,e2⟩
  ·obtain⟨o',e1⟩:=hbs.there b o e hx
   exact u.free b o' e1 (hbs.free b o e n hx) hx
  ·obtain⟨o',e1⟩:=hbs.there b o e hx
   exact u.there b o' e1 hx
  ·obtain⟨m1,e1⟩:=hbs.tbls b ps e
   obtain⟨m2,e2⟩:=u.tbls b _ e1
   exact⟨m1++m2,by rw[e2,aA2]⟩
 have frNone:∀ b∈frs outer,H2 b=none:=fun b hb=>by
  have h1:=I.stkFree b (by
   show b∈frs (J6 qual scope s.heap.objs.size f cd::outer)
   rw[hff]
   exact d7 _ hb)
  obtain⟨_,o,ho,_⟩:=hst.mem (b:=b) (by
   show b∈frs (J6 qual scope s.heap.objs.size f cd::outer)
   rw[hff]
   exact d7 _ hb)
  exact u.free b o ho h1 (by simp)
 refine wpAny_leaves_onW hfr rfl fl fun h' x1 x2=>?_
 have stay:∀ b o,s2.heap.get? b=some o->(H2 b≠none\/s.heap.get? b≠none)->b∉frs outer->h'.get? b=some o:=fun b o ho hb hno=>by
  obtain⟨o',ho',hB⟩:=old b hb hno
  rw[ho]at ho'
  cases ho'
  exact x1.1 b o hB
 refine⟨x,cls,H2,rfl,hos.trans I.os,hb2,u2.onto (fun b o ho hh hno=>stay b o ho (.inr hh) hno) (fun b o ho hh hm=>?_),hok.stays fun b o ho hh=>stay b o ho (.inl hh) fun hm=>hh (frNone b hm),?_,hxn,⟨B,a0,x1,fun b o ho hb hno=>?_⟩,hE⟩
 ·obtain⟨_,o',ho',hd⟩:=fl.2.2.1.mem (b:=b) (by
   show b∈frs (J6 qual scope s.heap.objs.size f cd::outer)
   rw[hff]
   exact d7 _ hm)
  rw[ho]at ho'
  cases ho'
  exact x2 b o ho hd
 ·cases q:s.heap.get? x with
  | none=>rfl
  | some o =>
   obtain⟨o',z⟩:=hbs.there x o q (by simp)
   rw[new]at z
   cases z
 ·obtain⟨o',ho',hB⟩:=old b hb hno
  have:=stay b o' ho' hb hno
  rw[ho]at this
  cases this
  exact hB
end
theorem Fun.okX {P:j8} {w:x6} {K:W.Frag} {mg:Str->Option c6} {base:Heap} {x qual:Str} {st:Stmt} {f:Addr} {fd:u0} {N ps:List Str} {k:Nat} {sp:Sp} (F:Fun K x qual st f fd) (S:B6 N ps (j5 st)) (len:∀ vs H Q E,sp vs H Q E->vs.length=ps.length)
  (hbody : ∀ (cdv : c6) (A : u4) (outer : List Env) (s : c7) (H : Hp) (vs : List V) (Q : VK) (E : XK), X7 k (A.deeper (J6 qual (j5 st) s.heap.objs.size f cdv)) -> sp vs H Q E ->
   ∃ t,PSs (Z8 (CXE P w) P w K mg base N qual (j5 st) f cdv A outer s H E) (A7 st) t/\t { nx:=fun _ H'=>Q .non H',rt:=Q } (start N vs) H):A8 P w K mg base (CXE P w) (k+1) f fd ps sp:=by
 obtain⟨oc,od,kV,doc,pm,an,cdv,ct,osl,rfl,lk,hcd⟩:=F.ex
 exact by5 lk hcd S len fun A outer s H vs Q E hr hsp=>hbody cdv A outer s H vs Q E hr hsp
theorem bs9 {P:j8}{w:x6}{K:W.Frag}{mg:Str->Option c6}{base:Heap}{N:List Str}{qual:Str}{scope:R8}{f:Addr}{cd:c6}{A:u4}{outer:List Env}{s:c7}{H:Hp}{E:XK} :
  PassesOwn (y6 P w) (Z8 (CXE P w) P w K mg base N qual scope f cd A outer s H E).A (Z8 (CXE P w) P w K mg base N qual scope f cd A outer s H E).env (Z8 (CXE P w) P w K mg base N qual scope f cd A outer s H E).xe:=PassesOwn.leaving
structure ae7 (K:W.Frag) (C:Addr):Prop where
 q:PySem.W.excIn K C [.type "ValueError",.type "Exception",.type "BaseException",.type "object"] "ValueError.__new__"=true
abbrev bmV:List c6:=[.type "ValueError",.type "Exception",.type "BaseException",.type "object"]
theorem bX2 {K:W.Frag}{h:Heap}{C:Addr}(KI:K.In h)(c:ae7 K C):∃ bm N nm q bs hd sn sub ab col dd k0 k1 k2 k3 k5 mN,h.get? C=some (excClassObj nm q C N bs bm hd sn sub ab col dd k0 k1 k2 k3 k5 "ValueError.__new__") /\
  h.Ns N mN/\mN "__init__"=none/\OwnTail h bmV bm:=by
 have z:=c.q
 revert z
 unfold PySem.W.excIn
 split
 ·rename_i d1 c1 s1 hl
  split
  ·rename_i D bm y0 y1 y2 y3 nn y5 e1 e2
   intro z
   rw[C4,C4,C4,C4,C4]at z
   obtain⟨⟨⟨⟨⟨z1,z2⟩,z3⟩,z4⟩,z5⟩,z6⟩:=z
   have z1':D=C:=beq_iff_eq.mp z1
   have z2':nn="ValueError.__new__":=beq_iff_eq.mp z2
   have z6':=beq_iff_eq.mp z6
   subst z1' z2'
   obtain⟨w1,w2,w3,w4,w5,w6,w7,w8,w9,w10,w11⟩:=c1
   dsimp only at e1 z3 z5 z6'
   subst e1
   have z3':w11=false:=by simpa using z3
   subst z3'
   have e3:s1=#[y0,y1,y2,y3,some (.builtin "ValueError.__new__"),y5]:=by
    obtain⟨l1⟩:=s1
    exact congrArg Array.mk e2
   subst e3
   exact⟨bm,w4,w1,w5,w2,w6,w7,w8,w9,w10,d1,y0,y1,y2,y3,y5,_,KI _ _ hl,.of_isNs (PySem.W.isNs_of_in KI z5),PySem.W.nsMap_none_of_in KI z5 z6',PySem.W.tail_of_in KI z4⟩
  ·intro z;cases z
 ·intro z;cases z
section
variable {P:j8} {w:x6} {K:W.Frag} {mg:Str->Option c6} {base:Heap} {N:List Str} {qual:Str} {scope:R8} {f:Addr} {cd:c6} {A:u4} {outer:List Env} {s:c7} {H:Hp} {E:XK}
def bR0 (E:XK)(C:Addr):TS:=fun _ _ H=>E (.ref C) none H
theorem Z4 {x txt:Str}{C:Addr}{j:Nat}{np cp ep pos:Pos}(hg:Gl (Z8 (CXE P w) P w K mg base N qual scope f cd A outer s H E) x)(hm:mg x=some (.ref C))(c:ae7 K C)(hd:(x == ("__debug__":Str))=false:=by decide) :
  PS (Z8 (CXE P w) P w K mg base N qual scope f cd A outer s H E) (.Raise (some (.Call (.Name x np) [.Constant (.str txt) j cp] [] ep)) none pos) (bR0 E C):=by
 intro pins s1 σ H1 D I hE
 have hh:(Z8 (CXE P w) P w K mg base N qual scope f cd A outer s H E).A.handled=none:=I.ok.hd rfl
 obtain⟨bm,N',nm,q,bs,hdc,sn,sub,ab,col,dd,k0,k1,k2,k3,k5,mN,hC,hN,hni,T⟩:=bX2 I.kIn c
 refine wpAny_Raise_call_subT (C:=C) (nm:=nm) (q:=q) (N:=N') (bs:=bs) (bm:=bm) (hdct:=hdc) (sn:=sn) (sub:=sub) (ab:=ab) (col:=col) (dd:=dd) (k0:=k0) (k1:=k1) (k2:=k2) (k3:=k3) (k5:=k5)
  PySem.F.excBase_ValueError (mN:=mN) (T.hasType (by decide +kernel)) hh rfl hni (al8 I hg hm ⟨rfl,?_⟩ hd)
 refine Calls.evalArgs_plain ?_
 refine PyProof.Rows.spliced_more (Calls.Constant_str ?_)
 refine PyProof.Rows.spliced_none ⟨rfl,by show 1<=i9;decide,hC,hN,T,fun h' e hx=>?_⟩
 exact bD6 (I.tok _) hx hE
end
def bd7 (X:Cx)(pins:List (Addr × Obj))(E:St->XK):Cx:={ X with pn:=X.pn++pins,xe:=fun e s'=>∃ σ H s,Inv X pins σ H s/\CXE X.prog X.w X.stack H s (E σ) e s' }
def bW5 (X:Cx)(v:c6):Cx:={ X with A:=X.A.mark (some v),calm:=false,xe:=fun _ _=>False }
section
variable {X:Cx} {pins pins':List (Addr × Obj)} {σ:St} {H:Hp} {s:c7} {E:St->XK}
theorem Inv.toTry (I:Inv X pins σ H s):Inv (bd7 X pins E) [] σ H s:=
  ⟨⟨I.ok.mod, I.ok.kind, I.ok.glob, I.ok.blt, I.ok.above, I.ok.inj, I.ok.has, I.ok.cab, I.ok.hd, I.ok.frames, I.ok.stk, I.ok.exf, I.ok.bs, I.ok.bsz, I.ok.noex, I.ok.exfs, I.ok.funs, I.ok.frf⟩,
    I.os,I.bare,I.base,I.loc,I.cell,I.free,I.freeC,fun p hp=>I.pin p (by
      rcases F3.mp hp with z | z
      · exact z
      · cases z),I.hok,I.len⟩
theorem Inv.ofTry (I:Inv (bd7 X pins E) pins' σ H s):Inv X pins σ H s:=
  ⟨⟨I.ok.mod, I.ok.kind, I.ok.glob, I.ok.blt, I.ok.above, I.ok.inj, I.ok.has, I.ok.cab, I.ok.hd, I.ok.frames, I.ok.stk, I.ok.exf, I.ok.bs, I.ok.bsz, I.ok.noex, I.ok.exfs, I.ok.funs, I.ok.frf⟩,
    I.os,I.bare,I.base,I.loc,I.cell,I.free,I.freeC,fun p hp=>I.pin p (av9 _ hp),I.hok,I.len⟩
theorem Inv.toHd (I:Inv X pins σ H s) (v:c6):Inv (bW5 X v) pins σ H s:=
  ⟨⟨I.ok.mod, I.ok.kind, I.ok.glob, I.ok.blt, I.ok.above, I.ok.inj, I.ok.has, I.ok.cab, (fun z => by cases z), I.ok.frames, I.ok.stk, I.ok.exf, I.ok.bs, I.ok.bsz, I.ok.noex, I.ok.exfs, I.ok.funs, I.ok.frf⟩,
    I.os,I.bare,I.base,I.loc,I.cell,I.free,I.freeC,I.pin,I.hok,I.len⟩
theorem Inv.ofHd {v:c6} (I:Inv (bW5 X v) pins σ H s) (hd:X.calm=true->X.A.handled=none):Inv X pins σ H s:=
  ⟨⟨I.ok.mod, I.ok.kind, I.ok.glob, I.ok.blt, I.ok.above, I.ok.inj, I.ok.has, I.ok.cab, hd, I.ok.frames, I.ok.stk, I.ok.exf, I.ok.bs, I.ok.bsz, I.ok.noex, I.ok.exfs, I.ok.funs, I.ok.frf⟩,
    I.os,I.bare,I.base,I.loc,I.cell,I.free,I.freeC,I.pin,I.hok,I.len⟩
end
def bi7 (CX:CXT)(X:Cx)(E:St->XK):Prop:=∀ (pins:List (Addr × Obj)) (σ:St) (H:Hp) (s:c7) (e:c6) (s':c7),Inv X pins σ H s->CX X.stack H s (E σ) e s'->X.xe e s'
theorem bG2 {X:Cx}{pins:List (Addr × Obj)}{E:St->XK}:bi7 (CXE X.prog X.w) (bd7 X pins E) E:=fun _ σ H s _ _ I h=>⟨σ,H,s,I.ofTry,h⟩
def bR2 (sp:Sp)(E:St->XK)(t:TA):TE:=fun σ H Q=>t σ H fun vs H1=>sp (vs++[]) H1 Q (E σ)
section
variable {X:Cx} {CX:CXT} {k:Nat} {f:Addr} {fd:u0} {ps:List Str} {sp:Sp} {E:St->XK} {x:Str} {p pos:Pos} {e:Expr} {es:List Expr} {t:TA}
theorem bt7 (F:A8 X.prog X.w X.K X.mg X.base CX k f fd ps sp)(hr:X7 k X.A)(hg:Gl X x)(hm:X.mg x=some (.ref f))(hk:k6 X.K (.ref f)=true)(hb:Binds X.K fd ps [])(hx:bi7 CX X E)
  (ha:PA X (e::es) t)(hdb:(x == ("__debug__":Str))=false:=by decide)(he:A2 (e::es) X.env=(false,eval e X.env)::A2 es X.env:=by rfl)(hpl:(S7 pos (A2 es X.env)).any (·.1)=false:=by rfl) :
  PE X (.Call (.Name x p) (e::es) [] pos) (bR2 sp E t):=by
 intro pins s σ H Q I h
 refine J5 (al8 I hg hm ?_ hdb)
 refine PySem.W.callWith_K (h₀:=X.base) I.ok.mod.kin hk (thn (ha pos pins s σ H _ I h) fun us s1 ⟨vs,H1,I1,r,q⟩=>⟨I1.kIn,?_⟩) he hpl
 have r2:D9 (vs++[]) (us++[]):=r.append .nil
 have hl:(us++[]).length=ps.length:=by rw[<- r2.length];exact F.len _ _ _ _ q
 refine aR1 (ac5 (F.run X.A X.stack s1 H1 ⟨us,[]⟩ (us++[]) (vs++[]) Q (E σ) hr I1.env0 (hb s1 us I1.kIn hl) r2 q) fun r s' hq=>?_)
 cases r with
 | error e=>exact hx pins σ H1 s1 e s' I1 hq
 | ok fl =>
  cases fl with
  | ret u=>exact I1.after hq
  | next=>exact False.elim hq
  | brk=>exact False.elim hq
  | cont=>exact False.elim hq
end
section
variable {X:Cx} {pins:List (Addr × Obj)} {σ:St} {H:Hp} {s:c7}
end
end L2
set_option maxRecDepth 100000
namespace L2
open PySem PySem.Spec PyProof.Rows PySem.W
structure ck2 (K:W.Frag) (C:Addr):Prop where
 ga:findIn K (.ref C) "__getattribute__"=some (some (.builtin "BaseException.__getattribute__"))
 na:findIn K (.ref C) "__getattr__"=some none
 cl:findIn K (.ref C) "__class__"=some (some (.builtin "object.__class__"))
 sb:subIn K (.ref C) (.type "BaseException")=some true
 so:subIn K (.ref C) (.type "object")=some true
 cs:(clsIn K C).isSome=true
section
variable {prog:j8} {w:x6} {A:u4} {E:c6->c7->Prop} {h:Heap} {g:Array bC0} {d:Drawn} {t:Nat} {os:OsState} {a C:Addr} {o:Obj} {K:W.Frag}
end
section
variable {X:Cx}
end
end L2
namespace L2
open PySem PySem.Spec PyProof.Rows
theorem Fun.okXC {P:j8} {w:x6} {K:W.Frag} {mg:Str->Option c6} {base:Heap} {x qual:Str} {st:Stmt} {f c:Addr} {fd:u0} {N ps:List Str} {k:Nat} {sp:Sp} (F:Fun K x qual st f fd) (hc:fd.code=.ref c) (S:B6 N ps (j5 st)) (len:∀ vs H Q E,sp vs H Q E->vs.length=ps.length)
  (hbody : ∀ (A : u4) (outer : List Env) (s : c7) (H : Hp) (vs : List V) (Q : VK) (E : XK), X7 k (A.deeper (J6 qual (j5 st) s.heap.objs.size f (.ref c))) -> sp vs H Q E ->
   ∃ t,PSs (Z8 (CXE P w) P w K mg base N qual (j5 st) f (.ref c) A outer s H E) (A7 st) t/\t { nx:=fun _ H'=>Q .non H',rt:=Q } (start N vs) H):A8 P w K mg base (CXE P w) (k+1) f fd ps sp:=by
 obtain⟨oc,od,kV,doc,pm,an,cdv,ct,osl,rfl,lk,hcd⟩:=F.ex
 have hc':cdv=.ref c:=hc
 subst hc'
 exact by5 lk hcd S len fun A outer s H vs Q E hr hsp=>hbody A outer s H vs Q E hr hsp
theorem aS3 {K:W.Frag}{x:Str}{c P f:Addr}{oc:c6}{od:Option Addr}{fd:u0}{sl:Array (Option c6)}(ht:PySem.W.tabIn K x=some (c,P))(hn:j6 K j0 x=some (some (.ref f)))(hl:K.lookup f=some ⟨oc,od,.func fd,sl⟩):fd.code=.ref c:=by
 unfold PySem.W.tabIn at ht
 rw[hn]at ht
 dsimp only at ht
 rw[hl]at ht
 dsimp only at ht
 split at ht
 ·rename_i c₂ hc
  split at ht
  ·split at ht
   ·cases ht;exact hc
   ·cases ht
  ·cases ht
 ·cases ht
theorem bm4 {P:j8}{w:x6}{K:W.Frag}{mg mb:Str->Option c6}{CX:CXT}{k:Nat}{fa a:Addr}{fd:u0}{x:Str}{sp:Sp}{s₁:c7}{vs:List c6}{ns:List Int}{ts:List (Addr × Addr)}(hT:PySem.W.TabsAt ts s₁.heap)(hK0:PySem.W.noTabs K=true)
  (hbm:∃ bm ob,mg "__builtins__"=some (.ref bm)/\bm≠aR0/\s₁.heap.get? bm=some ob/\ob.cls=.type "module"/\ob.dict=some aR0/\ob.data=.plain)
  (KX:K.In s₁.heap)(hns:s₁.heap.Ns j0 mg)(hb:s₁.heap.Ns aR0 mb)(hbb:∀ x:Str,x≠"__name__"->mb x=M5 x)(hlim:s₁.heap.NoLimit)(hg:s₁.gens=#[])
  (ha:s₁.heap.get? a=some { cls:=.type "list",data:=.seq vs.toArray })(hi:G9 vs ns)(hl:ns.length<=i9)(hr:X7 k bj5)
  (F:∀ base:Heap,K.In base->base.Ns j0 mg->(∀ q∈ts,as4 base mg q.1 q.2)->A8 P w K mg base CX k fa fd [x] sp)(hbind:∀ (s:c7) (u:c6),bj3 s fd ⟨[u],[]⟩ [(x,u)])
  (hsp:∀ H:Hp,(∀ q∈ts,H q.2=some (.tbl #[]))->SqL K H a (ns.map V.int)->sp [.ref a] H (fun v _=>v=.bl true) fun _ _ _=>False)
  (hCX:∀ H e s',CX [] H s₁ (fun _ _ _=>False) e s'->False) :
  am1 (y6 P w) bj5 (.call (.ref fa) ⟨[.ref a],[]⟩) (fun r s'=>r=.ok (.ret (.bool true))/\OldK s₁.heap s'.heap/\s'.os=s₁.os/\ap3 s'.gens) s₁:=by
 have rv:=ad1 hi
 have lenV:=hi.length
 have tabO:∀ b,b∈ts.map (·.2)->s₁.heap.get? b=some (PySem.W.tabObj #[]):=fun b hb=>by
  obtain⟨q,hq,rfl⟩:=u6.mp hb
  exact(hT q hq).2
 have aT:a∉ts.map (·.2):=fun z=>by
  have e:=tabO a z
  rw[ha]at e
  cases e
 have core:∀ H:Hp,(∀ b,b∈ts.map (·.2)->H b=some (.tbl #[]))->(∀ b,b∉ts.map (·.2)->H b=none\/∃ o xs,H b=some (.frz o (.lst xs)))->SqL K H a (ns.map V.int)->HOk P w H s₁.heap->(∀ b,H b≠none->b=a\/b∈ts.map (·.2))->(H a≠none->K.lookup a=none) ->
   am1 (y6 P w) bj5 (.call (.ref fa) ⟨[.ref a],[]⟩) (fun r s'=>r=.ok (.ret (.bool true))/\OldK s₁.heap s'.heap/\s'.os=s₁.os/\ap3 s'.gens) s₁:=by
  intro H hHt hO hS hok hA hK
  have base_of:∀ {b:Addr} {o:Obj},s₁.heap.get? b=some o->H b=none->(aH8 s₁.heap H).get? b=some o:=fun e n=>bx8 e n
  have free_of:∀ {b:Addr} {o:Obj},s₁.heap.get? b=some o->(∀ xs n,o≠{ cls:=.type "list",data:=.seq xs n })->o≠PySem.W.tabObj #[]->H b=none:=fun {b o} e n1 n2=>by
   cases q:H b with
   | none=>rfl
   | some u =>
    rcases hA b (by rw[q];simp) with e' | e'
    ·subst e'
     rw[ha]at e;cases e
     exact absurd rfl (n1 _ _)
    ·rw[tabO b e']at e;cases e
     exact absurd rfl n2
  have noA:∀ {b:Addr} {o:Obj} {es:Array DictEntry} {ep:Nat},s₁.heap.get? b=some o->o.data=.dict es ep->H b=none:=fun {b o es ep} e d=>free_of e (fun xs n z=>by subst z;cases d) (fun z=>by subst z;cases d)
  have nsK:∀ {b:Addr} {m:Str->Option c6},s₁.heap.Ns b m->(aH8 s₁.heap H).Ns b m:=fun {b m} ⟨o,es,ep,e,d,r⟩=>⟨o,es,ep,base_of e (noA e d),d,r⟩
  have hKb:K.In (aH8 s₁.heap H):=fun b o e=>base_of (KX b o e) (by
   cases q:H b with
   | none=>rfl
   | some u =>
    rcases hA b (by rw[q];simp) with e' | e'
    ·subst e'
     rw[hK (by rw[q];simp)]at e;cases e
    ·have e1:=KX b o e
     rw[tabO b e']at e1
     cases e1
     have h2:=N3.mp hK0 _ (PySem.W.mem_of_lookupK e)
     exact absurd (show false=true from h2) k9)
  have hM:Mod K mg (aH8 s₁.heap H):=⟨hKb,nsK hns,⟨mb,nsK hb,hbb⟩,let ⟨mc,h1,h2⟩:=hlim;⟨mc,nsK h1,h2⟩⟩
  have hLB:∀ q∈ts,as4 (aH8 s₁.heap H) mg q.1 q.2:=fun q hq=>by
   obtain⟨C,eP⟩:=hT q hq
   refine⟨?_,?_,?_⟩
   ·obtain⟨o,vs,file,tf,flags,tg,inF,text,tt,e1,r1,r2⟩:=C
    exact⟨o,vs,file,tf,flags,tg,inF,text,tt,base_of e1 (free_of e1 (fun xs n z=>by subst z;exact absurd (show Value.type "list"=Value.type "code" from r1) (by decide)) (fun z=>by subst z;cases r1)),r1,r2⟩
   ·obtain⟨bm,ob,b1,b2,b3,b4,b5,b6⟩:=hbm
    refine⟨bm,ob,b1,b2,fun z=>?_,fun z=>?_,base_of b3 (free_of b3 (fun xs n z=>by subst z;exact absurd (show Value.type "list"=Value.type "module" from b4) (by decide)) (fun z=>by subst z;cases b4)),b4,b5,b6⟩
    ·obtain⟨o,es,ep,e,d,_⟩:=hns
     rw[z,e]at b3;cases b3;rw[d]at b6;cases b6
    ·rw[z,eP]at b3;cases b3;cases b4
   ·intro z
    obtain⟨o,es,ep,e,d,_⟩:=hns
    rw[z,eP]at e;cases e;cases d
  have e0:bB1 P w K mg (aH8 s₁.heap H) bj5 [] s₁ H:=⟨rfl,hM,fun b o e=>bI3 e,at6 (bn2 _ _),trivial,fun b hb=>absurd (show b∈([]:List Addr) from hb) (by simp),hok,.of_eq hg⟩
  refine ac5 ((F _ hKb (nsK hns) hLB).run bj5 [] s₁ H ⟨[.ref a],[]⟩ [.ref a] [.ref a] _ _ hr e0 (hbind s₁ (.ref a)) (.cons rfl .nil) (hsp H (fun q hq=>hHt _ (List.mem_map_of_mem hq)) hS)) fun r s' h=>?_
  cases r with
  | error e=>exact(hCX H e s' h).elim
  | ok fl =>
   cases fl with
   | next=>exact False.elim h
   | brk=>exact False.elim h
   | cont=>exact False.elim h
   | ret u =>
    obtain⟨v,H',os,bare,un,hok',r',q⟩:=h
    have q':v=.bl true:=q
    subst q'
    obtain rfl:u=Value.bool true:=r'
    have keep:∀ b o,b∉ts.map (·.2)->s₁.heap.get? b=some o->s'.heap.get? b=some o:=fun b o hb e=>by
     rcases hO b hb with z | ⟨ob,xs,z⟩
     ·exact un.keep b o e z (by intro z;exact absurd (show b∈([]:List Addr) from z) (by simp)) (by simp)
     ·have z2:=un.frzs b ob _ z
      obtain⟨e1,_⟩:=hok b _ z
      obtain⟨e2,_⟩:=hok' b _ z2
      rw[e]at e1;cases e1
      exact e2
    have grown:∀ b o,b∈ts.map (·.2)->s₁.heap.get? b=some o->isCodeTable s₁.heap b/\o=PySem.W.tabObj #[]/\∃ ps,s'.heap.get? b=some (PySem.W.tabObj ps):=fun b o hb e=>by
     obtain⟨ps,hp⟩:=un.tbls b #[] (hHt b hb)
     have e2:=tabO b hb
     rw[e]at e2
     obtain⟨q,hq,eq⟩:=u6.mp hb
     have e3:s'.heap.get? b=some (PySem.W.tabObj (#[]++ps)):=hok' b _ hp
     refine⟨?_,Option.some.inj e2,_,e3⟩
     rw[<- eq]
     exact((hT q hq).1.tab (hT q hq).2).isCodeTable
    refine⟨rfl,⟨fun b o e=>?_,fun b o e=>?_⟩,os,bare⟩
    ·by_cases hb:b∈ts.map (·.2)
     ·obtain⟨ht,rfl,ps,hP⟩:=grown b o hb e
      exact .inr (.inl ⟨ht,rfl,#[],ps,rfl,by rw[Array.empty_append];exact hP⟩)
     ·exact .inl (keep b o hb e)
    ·by_cases hb:b∈ts.map (·.2)
     ·obtain⟨_,_,ps,hP⟩:=grown b o hb e
      exact⟨_,hP⟩
     ·exact⟨o,keep b o hb e⟩
 cases hk:K.lookup a with
 | some o =>
  have e:=KX a o hk
  rw[ha]at e
  cases e
  refine core (fun b=>if b∈ts.map (·.2) then some (.tbl #[]) else none) (fun b hb=>if_pos hb) (fun b hb=>.inl (if_neg hb)) (.inr ⟨_,vs.toArray,_,hk,rfl,rfl,rfl,by rw[d5,lenV];exact hl,by simpa using rv⟩) (fun b u z=>?_) (fun b z=>?_) fun z=>absurd (if_neg aT) z
  ·by_cases hb:b∈ts.map (·.2)
   ·have z':=(if_pos hb).symm.trans z
    cases z'
    exact tabO b hb
   ·have z':=(if_neg hb).symm.trans z
    cases z'
  ·by_cases hb:b∈ts.map (·.2)
   ·exact .inr hb
   ·exact absurd (if_neg hb) z
 | none =>
  have e1:∀ b,b∈ts.map (·.2)->(if b∈ts.map (·.2) then some (HO.tbl #[]) else if b=a then some (.frz { cls:=.type "list",data:=.seq vs.toArray } (.lst (ns.map V.int))) else none)=some (HO.tbl #[]):=fun b hb=>if_pos hb
  have e2:∀ b,b∉ts.map (·.2)->(if b∈ts.map (·.2) then some (HO.tbl #[]) else if b=a then some (.frz { cls:=.type "list",data:=.seq vs.toArray } (.lst (ns.map V.int))) else none)=(if b=a then some (.frz { cls:=.type "list",data:=.seq vs.toArray } (.lst (ns.map V.int))) else none):=fun b hb=>if_neg hb
  refine core (fun b=>if b∈ts.map (·.2) then some (HO.tbl #[]) else if b=a then some (.frz { cls:=.type "list",data:=.seq vs.toArray } (.lst (ns.map V.int))) else none) e1 (fun b hb=>?_) (.inl (.inr ⟨{ cls:=.type "list",data:=.seq vs.toArray },(e2 a aT).trans (if_pos rfl)⟩)) (fun b u z=>?_) (fun b z=>?_) fun _=>hk
  ·rw[e2 b hb]
   by_cases hba:b=a
   ·exact .inr ⟨_,_,if_pos hba⟩
   ·exact .inl (if_neg hba)
  ·by_cases hb:b∈ts.map (·.2)
   ·have z':=(e1 b hb).symm.trans z
    cases z'
    exact tabO b hb
   ·have z1:=(e2 b hb).symm.trans z
    by_cases hba:b=a
    ·have z':=(if_pos hba).symm.trans z1
     cases z'
     subst hba
     exact⟨ha,by rw[b9];exact hl,vs,_,rv,ha⟩
    ·have z':=(if_neg hba).symm.trans z1
     cases z'
  ·by_cases hb:b∈ts.map (·.2)
   ·exact .inr hb
   ·by_cases hba:b=a
    ·exact .inl hba
    ·exact absurd ((e2 b hb).trans (if_neg hba)) z
theorem walk_ofT {l:PySem.W.OpenLaw} {n k:Nat} {q:j8} {loose:List Str} {XP:(Str->Option c6)->Heap->Prop} {YP:x6->Heap->Prop} {d:DefRec} {K:Params->PySem.W.Frag} {CX:x6->CXT} {sp:x6->List (Addr × Addr)->Sp} {x:Str} {ts:x6->List (Addr × Addr)}
  (hn:l.most=some n) (hn2:n<=i9) (hdf:d.params.defaults=[]) (hr:X7 k bj5)
  (hY:∀ (w:x6) (h:Heap),YP w h->(K w.params).In h) (hK0:∀ w:x6,PySem.W.noTabs (K w.params)=true)
  (hts:∀ (w:x6) (loose:List Str) (mean:ExcName->Option c6) (mg mb:Str->Option c6) (h:Heap),Top q loose mean mg mb h->(K w.params).In h->PySem.W.TabsAt (ts w) h)
  (F : ∀ (w : x6) (mg : Str -> Option c6) (fa : Addr) (h : Heap), (K w.params).In h -> h.Ns j0 mg -> mg d.name = some (.ref fa) ->
   ∃ fd:u0,(∀ (s:c7) (u:c6),bj3 s fd ⟨[u],[]⟩ [(x,u)]) /\
    ∀ base:Heap,(K w.params).In base->base.Ns j0 mg->(∀ q∈ts w,as4 base mg q.1 q.2)->A8 l.prog w (K w.params) mg base (CX w) k fa fd [x] (sp w (ts w)))
  (hsp:∀ (w:x6) (H:Hp) (a:Addr) (ns:List Int),ns.length<=n->(∀ q∈ts w,H q.2=some (.tbl #[]))->SqL (K w.params) H a (ns.map V.int)->sp w (ts w) [.ref a] H (fun v _=>v=.bl true) fun _ _ _=>False)
  (hCX:∀ (w:x6) (H:Hp) (s:c7) (e:c6) (s':c7),CX w [] H s (fun _ _ _=>False) e s'->False) :
  PySem.W.WalkO q loose XP YP l.row.toRowW d [] (fun f vs=>PySem.call f vs):=by
 refine Att.attach_call hn hdf fun w s₀ s₁ mg mb fa o pm cd doc a vs ns G Y ho hd hcd hmg hobj hints hlen hg=>?_
 have KX:=hY w _ Y
 obtain⟨fd,hb,hF⟩:=F w mg fa _ KX G.T.g hmg
 exact bm4 (hts w _ _ _ _ _ G.T KX) (hK0 w) G.T.bmain KX G.T.g G.T.b G.T.builtins G.T.nolimit hg hobj hints (A4 hlen hn2) hr hF hb (fun H hO hS=>hsp w H a ns hlen hO hS) fun H e s'=>hCX w H s₁ e s'
section
variable {X:Cx}
end
def bl5 (ns:List Int)(z:Int):List Int:=[-(ns.getD z.toNat 0),z]
theorem bH1 (ns:List Int)(z:Int):∃ i k,bl5 ns z=i::k:=⟨_,_,rfl⟩
def ole (ns:List Int)(x y:Int):Prop:=Tim.K2 (bl5 ns y) (bl5 ns x)=false
theorem ar0 {ns:List Int}{x y:Int}:ole ns x y↔(ns.getD y.toNat 0<ns.getD x.toNat 0\/(ns.getD x.toNat 0=ns.getD y.toNat 0/\x<=y)):=by
 unfold ole bl5 Tim.K2
 by_cases h:-(ns.getD y.toNat 0) = -(ns.getD x.toNat 0)
 ·rw[if_pos h]
  unfold Tim.K2
  by_cases h2:y=x
  ·rw[if_pos h2]
   simp only[Tim.K2,true_iff]
   exact .inr ⟨by omega,by omega⟩
  ·rw[if_neg h2,decide_eq_false_iff_not]
   constructor
   ·intro h3;exact .inr ⟨by omega,by omega⟩
   ·intro h3 h4;omega
 ·rw[if_neg h,decide_eq_false_iff_not]
  constructor
  ·intro h3;exact .inl (by omega)
  ·intro h3 h4;omega
theorem aU5 {ns:List Int}{x y:Int}(h1:ole ns x y)(h2:ole ns y x):x=y:=by
 rw[ar0]at h1 h2
 omega
theorem aD0 {ns zs zs' l:List Int}(p1:zs.Perm l)(p2:zs'.Perm l)(s1:zs.Pairwise (ole ns))(s2:zs'.Pairwise (ole ns)):zs=zs':=
 (p1.trans p2.symm).eq_of_pairwise (fun x y _ _ h1 h2=>aU5 h1 h2) s1 s2
end L2
namespace Web
open PySem L2
def U9 (ks:List (List Int))(p:Nat):Nat:=ks.countP fun k=>decide ((p:Int)∈k)
def tal (n:Nat)(ks:List (List Int)):List Int:=(o8 n).map fun p=>(U9 ks p:Int)
theorem T9 (n:Nat)(ks:List (List Int)):(tal n ks).length=n:=by simp[tal]
theorem af7 {n:Nat}{ks:List (List Int)}{p:Nat}(h:p<n):(tal n ks)[p]?=some (U9 ks p:Int):=by
 unfold tal
 rw[o9,K4 h]
 rfl
theorem bn7 {ks ls:List (List Int)}(h:ks.Perm ls)(p:Nat):U9 ks p=U9 ls p:=h.countP_eq _
theorem bp8 {ks ls:List (List Int)}(h:ks.Perm ls)(n:Nat):tal n ks=tal n ls:=by
 unfold tal
 exact P6 fun p _=>by rw[bn7 h]
theorem aF0 (ks ls:List (List Int))(p:Nat):U9 (ks++ls) p=U9 ks p+U9 ls p:=List.countP_append
theorem bz8 (i j p:Nat):U9 [[(i:Int),(j:Int)]] p=if p=i\/p=j then 1 else 0:=by
 unfold U9
 rw[List.countP_singleton]
 by_cases h:p=i\/p=j
 ·rw[if_pos h,if_pos]
  simp only[decide_eq_true_eq,g6,J3,or_false]
  omega
 ·rw[if_neg h,if_neg]
  simp only[decide_eq_true_eq,g6,J3,or_false]
  omega
theorem bE3 (n:Nat):tal n []=A5 n 0:=by
 unfold tal U9
 rw[List.eq_replicate_iff]
 simp
theorem bd8 {n i j:Nat}(hi:i<n)(hj:j<n)(h:i≠j)(ks:List (List Int))(z1 z2:Int)(e1:z1=U9 ks i)(e2:z2=U9 ks j) :
  ((tal n ks).set i (z1+1)).set j (z2+1)=tal n (ks++[[(i:Int),(j:Int)]]):=by
 subst e1 e2
 refine ak4 fun p=>?_
 by_cases hp:p<n
 ·rw[af7 hp,aF0,bz8,bY4,bY4,K5,T9,af7 hp]
  by_cases q1:j=p
  ·subst q1
   rw[if_pos rfl,if_pos hj,if_pos (.inr rfl)]
   simp
  ·rw[if_neg q1]
   by_cases q2:i=p
   ·subst q2
    rw[if_pos rfl,if_pos hi,if_pos (.inl rfl)]
    simp
   ·rw[if_neg q2,if_neg (by omega)]
    simp
 ·rw[r6 (by simp[T9];omega),r6 (by rw[T9];omega)]
end Web
namespace HT
open PySem PyProof.Rows
section
variable {prog:j8} {w:x6} {A:u4} {E:c6->c7->Prop} {s:c7}
end
end HT
namespace L2
open PySem PySem.Spec PyProof.Rows
section
variable {X:Cx} {e st:Expr} {te ts:TE} {pos p2:Pos}
def ch5 (t u:TS):TS:=fun D σ H=>∃ Mid:St->Hp->Prop,t { D with nx:=Mid } σ H/\∀ σ' H',Mid σ' H'->u D σ' H'
theorem aN9 {stm:Stmt}{rest:List Stmt}{t u:TS}(h1:PS X stm t)(h2:PSs X rest u):PSs X (stm::rest) (ch5 t u):=by
 intro pins s σ H D I ⟨Mid,h,k⟩
 refine aZ2 (thn (h1 pins s σ H { D with nx:=Mid } I h) fun f s1 q=>?_)
 cases f with
 | next =>
  obtain⟨σ',H',I',q⟩:=q
  exact h2 pins s1 σ' H' D I' (k _ _ q)
 | ret v=>exact q
 | brk=>exact q
 | cont=>exact q
end
end L2
set_option Elab.async false
set_option maxRecDepth 100000
namespace L2
open PySem PySem.Spec PyProof.Rows
section
variable (P:j8) (w:x6)
end
section
variable {P:j8} {w:x6} {H H':Hp} {h h':Heap} {a:Addr} {o:HO}
end
section
variable {P:j8} {w:x6} {H:Hp} {h h':Heap} {x e:Addr} {o':HO}
end
section
variable {fs fs' ex ex':List Addr} {H H1 H2:Hp} {h h1 h2 h':Heap} {a x e:Addr} {o:HO}
end
section
variable {X:Cx} {pins:List (Addr × Obj)} {σ:List (Option V)} {H H':Hp} {s:c7} {h':Heap}
end
section
variable {X:Cx}
variable {a b:Expr} {ta tb:TE} {pos:Pos}
variable {tA tB':TT} {rest:List Expr}
end
section
variable {X:Cx} {pins:List (Addr × Obj)} {σ:St} {H:Hp} {s:c7} {a:Addr} {xs ys:List V}
end
section
variable {X:Cx} {pins:List (Addr × Obj)} {σ:St} {H:Hp} {s:c7} {E:c6->c7->Prop}
end
section
variable {X:Cx} {st:Stmt} {rest:List Stmt} {t u:TS} {e:Expr} {te:TE} {pos:Pos}
end
section
variable {X:Cx} {pos:Pos}
end
section
variable {X:Cx} {pos:Pos}
end
section
variable {X:Cx} {tg:Expr}
end
section
variable {X:Cx} {a b c:Expr} {ta tb tc:TE} {pos:Pos}
end
section
variable {X:Cx} {a b c:Expr} {ta tb tc:TE} {pos:Pos}
end
section
variable {prog:j8} {w:x6} {A:u4} {E:c6->c7->Prop} {s:c7} {K:W.Frag} {x dx C f:Addr} {mA:Str->Option c6} {name:Str} {v:c6}
end
section
variable {P:j8} {w:x6} {H H':Hp} {h h':Heap} {a C dx:Addr} {fs fs':List (Str × V)}
end
section
variable {X:Cx} {pins:List (Addr × Obj)} {σ:St} {H:Hp} {s:c7} {a C dx:Addr} {fs:List (Str × V)} {f:Str} {v:V} {A:u4} {E:c6->c7->Prop}
end
section
variable {X:Cx} {o e value:Expr} {f:Str} {pos pos' tpos:Pos} {ta tv:TE}
end
section
variable {X:Cx} {pins:List (Addr × Obj)} {σ:St} {H:Hp} {s:c7} {A:u4} {E:c6->c7->Prop} {Q:c6->c7->Prop} {c:c6} {b:Bool}
end
section
variable {X:Cx} {e:Expr} {es:List Expr} {te:TE} {t:TA} {pos:Pos}
end
section
variable {X:Cx} {pins:List (Addr × Obj)} {σ:St} {H:Hp} {s s':c7}
end
section
variable {X:Cx} {CX:CXT} {k:Nat} {f C:Addr} {fd:u0} {ps:List Str} {sp:Sp} {dvs:List V} {ds:List c6} {E:XK} {x m:Str} {p pos apos:Pos} {e o:Expr} {es:List Expr} {ta:TE} {t:TA}
end
section
variable {X:Cx} {CX:CXT} {k:Nat} {f C:Addr} {fd:u0} {ps ks:List Str} {sp:Sp} {E:XK} {x m:Str} {p pos apos kpos:Pos} {e o:Expr} {es:List Expr} {kws:List aG8} {te ta:TE} {t tk:TA} {nm:Option Str}
variable {g:List c6->List c6->List c6} {gV:List V->List V->List V}
end
section
variable {X:Cx} {x:Str} {p pos:Pos} {e:Expr} {es:List Expr} {t:TA} {id T:String} {r:List V->Hp->VK->Prop}
end
section
variable {κ:Type} [DecidableEq κ]
end
section
variable {P:j8} {w:x6} {H:Hp} {h:Heap} {a:Addr}
end
section
variable {X:Cx} {pins:List (Addr × Obj)} {σ:St} {H:Hp} {s:c7} {a:Addr} {y v:V} {u r:c6} {o:Option V} {A:u4} {E:c6->c7->Prop}
end
section
variable {X:Cx} {pins:List (Addr × Obj)} {σ:St} {H:Hp} {s:c7} {a:Addr} {kvs:List (Key × V)} {k:Key} {u:c6} {A:u4} {E:c6->c7->Prop}
end
section
variable {X:Cx} {o i e value:Expr} {pos pos' tpos:Pos} {td ty tv:TE}
end
section
variable {X:Cx} {pos:Pos}
end
structure M1 (X:Cx) (o:Expr) (m:Str) (apos:Pos) (e:Expr) (cpos:Pos):Prop where
 base:bC7 o m X.env (eval o X.env)=eval o X.env
 few:((S7 cpos (A2 [e] X.env)).all (fun x=>!x.1) && (bC3 cpos (aG9 [] X.env)).all (fun x=>x.1.isSome)
  && decide (([e]:List Expr).length+([]:List aG8).length+(if ([]:List aG8).isEmpty then 0 else 1)<30))=true
 line:(apos.endLine == cpos.line)=true
 trees:S7 cpos (A2 [e] X.env)=[(false,eval e X.env)]
structure M2 (X:Cx) (o:Expr) (m:Str) (apos:Pos) (e f:Expr) (cpos:Pos):Prop where
 base:bC7 o m X.env (eval o X.env)=eval o X.env
 few:((S7 cpos (A2 [e,f] X.env)).all (fun x=>!x.1) && (bC3 cpos (aG9 [] X.env)).all (fun x=>x.1.isSome)
  && decide (([e,f]:List Expr).length+([]:List aG8).length+(if ([]:List aG8).isEmpty then 0 else 1)<30))=true
 line:(apos.endLine == cpos.line)=true
 trees:S7 cpos (A2 [e,f] X.env)=[(false,eval e X.env),(false,eval f X.env)]
section
variable {X:Cx} {pins:List (Addr × Obj)} {σ:St} {H:Hp} {s:c7} {a:Addr} {y d:V} {u r:c6} {o:Option V} {A:u4} {E:c6->c7->Prop}
end
section
variable {X:Cx} {o e f:Expr} {apos cpos:Pos} {td ty tx:TE}
end
section
variable {X:Cx} {pins:List (Addr × Obj)} {σ:St} {H:Hp} {s:c7} {a:Addr} {kvs:List (Key × V)} {A:u4} {E:c6->c7->Prop}
end
section
variable {X:Cx} {pins:List (Addr × Obj)} {σ:St} {H:Hp} {s:c7} {a:Addr} {y:V} {u:c6} {A:u4} {E:c6->c7->Prop}
end
end L2
namespace Att
open PySem PySem.W PySem.Calls PyProof.Rows
section
variable {prog:j8} {w:x6} {A:u4} {E:c6->c7->Prop} {s:c7} {K:Frag}
end
end Att
namespace L2
open PySem PySem.Spec PyProof.Rows
section
variable {P:j8} {w:x6} {K:W.Frag} {mg:Str->Option c6} {base:Heap}
end
section
variable {X:Cx}
end
section
variable {κ:Type} [DecidableEq κ]
end
section
variable {X:Cx} {pins:List (Addr × Obj)} {σ:St} {H:Hp} {s:c7} {A:u4} {E:c6->c7->Prop}
theorem be5 (I:Inv X pins σ H s){p:Addr}{ns:List Int}(hq:SqL X.K H p (ns.map V.int)\/SqT X.K H p (ns.map V.int)):∃ (vs:List c6) (T:String) (o:Obj) (c:Nat),(T="list"\/T="tuple")/\s.heap.get? p=some o/\o.cls=.type T/\o.data=.seq vs.toArray c/\G9 vs ns:=by
 rcases hq with hq | hq
 ·obtain⟨its,r',pl,hz⟩:=I.list hq
  obtain⟨o,ho,hc,n,hd⟩:=pl.isList
  exact⟨its,"list",o,n,.inl rfl,ho,hc,hd,intsAre_of r'⟩
 ·obtain⟨its,r',pl,hz⟩:=I.tuple hq
  obtain⟨o,ho,hc,n,hd⟩:=pl
  exact⟨its,"tuple",o,n,.inr rfl,ho,hc,hd,intsAre_of r'⟩
theorem aA8 (I:Inv X pins σ H s){h1:Heap}{vs:List c6}{out:Array c6}{zs:List Int}(kp:∀ b o',s.heap.get? b=some o'->h1.get? b=some o')(hi:G9 out.toList zs)(hz:zs.length<=1000) :
  H h1.objs.size=none/\Inv X pins σ (upd H h1.objs.size (.lst (zs.map V.int))) { s with heap:=X0 (h1.push (F7 "list" vs.toArray 0)) h1.objs.size vs out }:=by
 have I1:Inv X pins σ H { s with heap:=h1,toks:=s.toks }:=I.kept kp
 refine⟨I1.hok.fresh (d4 _),?_⟩
 have hoL:(h1.push (F7 "list" vs.toArray 0)).get? h1.objs.size=some (F7 "list" vs.toArray 0):=i8 _ rfl
 obtain⟨e,he⟩:=sortedHeap_at (out:=out) hoL
 refine I1.laid (t':=s.toks) (fun b o q=>?_) (d4 _) ⟨by rw[b9,E4];omega,out.toList,e,ad1 hi,by rw[aa6];exact he⟩
 have hb:b<h1.objs.size:=d6 q
 rw[sortedHeap_old (j7 hb) (by rw[bB5];exact C0 hb)]
 exact c5 _ q
theorem aA7 {p:Addr}{ns:List Int}{b:Bool}{Q:c6->c7->Prop}(I:Inv X pins σ H s)(hq:SqL X.K H p (ns.map V.int)\/SqT X.K H p (ns.map V.int))(h64:ns.length<64)
  (h:∀ (s':c7) (D:Addr) (zs:List Int),H D=none->zs.Perm ns->Ordered b zs->Inv X pins σ (upd H D (.lst (zs.map V.int))) s'->Q (.ref D) s') :
  o7 (y6 X.prog X.w) A (call (.builtin "sorted") [.ref p] [(Str.ofString "reverse",.bool b)]) Q E s:=by
 obtain⟨vs,T,o,c,hT,ho,hc,hd,hI⟩:=be5 I hq
 have hlen:=hI.length
 refine bL9 aH2 ax4 ax5 (args_sorted_rev _ _) ?_
 unfold ai3.«sorted»
 refine b7 (m:=aR4 "sorted" 1 1 _) (d3 ?_)
 refine b7 (aR5 p hT ho hc hd (fun h1 kp=>?_) (by rw[d5,E4];omega))
 rw[ae8]
 refine b7 (M0 ?_ (by rw[E4];omega))
 have hoL:(h1.push (F7 "list" vs.toArray 0)).get? h1.objs.size=some (F7 "list" vs.toArray 0):=i8 _ rfl
 refine b7 (D3 (ca1 am2 (s:={ s with heap:=h1.push (F7 "list" vs.toArray 0) }) ⟨_,hoL,rfl⟩ ai6 (list_sort_tree_rev (s:={ s with heap:=h1.push (F7 "list" vs.toArray 0) }) hoL hI (by omega) fun out ns' a1 a2 a3=>⟨_,rfl,?_⟩) (args_list_sort_rev _ _)))
 obtain⟨e1,e2⟩:=aA8 (vs:=vs) I kp a1 (by rw[a2.length_eq];omega)
 exact d3 ⟨_,rfl,h _ _ ns' e1 a2 a3 e2⟩
theorem ba0 {p:Addr}{ns:List Int}{Q:c6->c7->Prop}(I:Inv X pins σ H s)(hq:SqL X.K H p (ns.map V.int)\/SqT X.K H p (ns.map V.int))(h64:ns.length<64)
  (h:∀ (s':c7) (D:Addr) (zs:List Int),H D=none->zs.Perm ns->zs.Pairwise (·<=·)->Inv X pins σ (upd H D (.lst (zs.map V.int))) s'->Q (.ref D) s') :
  o7 (y6 X.prog X.w) A (call (.builtin "sorted") [.ref p]) Q E s:=by
 obtain⟨vs,T,o,c,hT,ho,hc,hd,hI⟩:=be5 I hq
 have hlen:=hI.length
 refine Calls.call_function_entry aH2 ax4 ax5 (bP9 _) ?_
 unfold ai3.«sorted»
 refine b7 (m:=aR4 "sorted" 1 1 _) (d3 ?_)
 refine b7 (aR5 p hT ho hc hd (fun h1 kp=>?_) (by rw[d5,E4];omega))
 rw[ae8]
 refine b7 (M0 ?_ (by rw[E4];omega))
 have hoL:(h1.push (F7 "list" vs.toArray 0)).get? h1.objs.size=some (F7 "list" vs.toArray 0):=i8 _ rfl
 refine b7 (D3 (K1 am2 (s:={ s with heap:=h1.push (F7 "list" vs.toArray 0) }) ⟨_,hoL,rfl⟩ ai6 (list_sort_tree (s:={ s with heap:=h1.push (F7 "list" vs.toArray 0) }) hoL hI (by omega) fun out ns' a1 a2 a3=>⟨_,rfl,?_⟩) (bp3 _)))
 obtain⟨e1,e2⟩:=aA8 (vs:=vs) I kp a1 (by rw[a2.length_eq];omega)
 exact d3 ⟨_,rfl,h _ _ ns' e1 a2 a3 e2⟩
end
section
variable {X:Cx}
theorem bc4:Q8 X (.builtin "sorted") (fun xs H Q=>∃ (p:Addr) (ns:List Int),xs=[.ref p]/\(SqL X.K H p (ns.map V.int)\/SqT X.K H p (ns.map V.int))/\ns.length<64 /\
  ∀ (l:Addr) (zs:List Int),H l=none->zs.Perm ns->zs.Pairwise (·<=·)->Q (.ref l) (upd H l (.lst (zs.map V.int)))):=by
 intro pins s σ H xs us Q I r h
 obtain⟨p,ns,rfl,hq,h64,q⟩:=h
 obtain⟨u,rfl,rx⟩:=vals1 r
 cases rx
 exact ba0 I hq h64 fun s' D zs a1 a2 a3 I'=>⟨.ref D,_,I',rfl,q D zs a1 a2 a3⟩
def bQ9 (K:W.Frag)(tr:TA):TE:=fun σ H Q=>tr σ H fun vs H1=>∃ (p:Addr) (ns:List Int),vs=[.ref p]/\(SqL K H1 p (ns.map V.int)\/SqT K H1 p (ns.map V.int))/\ns.length<64 /\
 ∀ (l:Addr) (zs:List Int),H1 l=none->zs.Perm ns->zs.Pairwise (·≥·)->Q (.ref l) (upd H1 l (.lst (zs.map V.int)))
theorem bt2 {e:Expr}{np pos bpos kpos:Pos}{j:Nat}{tr:TA}(K:W.Frag)(hK:X.K=K)(hg:Gl X "sorted")(hm:X.mg "sorted"=none)(ha:PA X [e] tr)
  (hs:S7 pos (A2 [e] X.env)=(false,eval e X.env)::S7 pos (A2 [] X.env):=by rfl)
  (hpl:(S7 pos (A2 [e] X.env)).any (·.1)=false:=by rfl) :
  PE X (.Call (.Name "sorted" np) [e] [⟨some "reverse",.Constant (.bool true) j bpos,kpos⟩] pos) (bQ9 K tr):=by
 subst hK
 intro pins s σ H Q I h
 refine J5 (V8 I hg hm (show M5 "sorted"=some (.builtin "sorted") from rfl) ?_ (by decide) (by decide))
 refine ca2 (thn (ha pos pins s σ H _ I h) fun us s1 ⟨vs,H1,I1,r1,q1⟩=>?_) hs hpl rfl rfl
 obtain⟨p,ns,rfl,hq,h64,q⟩:=q1
 have hk:PK X [⟨some "reverse",.Constant (.bool true) j bpos,kpos⟩] (aS4 (tC (.bl true)) bp9):=aO0 aC4 ba7
 refine thn (hk pos pins s1 σ H1 (fun zs H2=>zs=[.bl true]/\H2=H1) I1 ⟨rfl,rfl⟩) fun ws s2 ⟨zs,H2,I2,r2,ez,eH⟩=>?_
 subst ez eH
 obtain⟨w,rfl,rw⟩:=vals1 r2
 obtain⟨u,rfl,ru⟩:=vals1 r1
 cases rw
 cases ru
 exact aA7 (b:=true) I2 hq h64 fun s' D zs a1 a2 a3 I'=>⟨.ref D,_,I',rfl,q D zs a1 a2 a3⟩
end
section
variable {prog:j8} {w:x6} {A:u4} {E:c6->c7->Prop} {s:c7}
theorem ax8 {ip tp:Addr}{i:Nat}{ys:Array c6}{x:c6}{Q:c6->c7->Prop}(hi:s.heap.IsTupleIter ip tp i)(ht:s.heap.IsTuple tp ys)(hx:ys[i]?=some x)
  (q:∀ h',h'.IsTupleIter ip tp (i+1)->Heap.SameBut ip s.heap h'->Q x { s with heap:=h' }):o7 (y6 prog w) A (Builtin.SmallTypes.nextOf (.ref ip)) Q E s:=by
 obtain⟨u,hu,cu,du⟩:=id hi
 obtain⟨v,hv,_,nv,dv⟩:=ht
 unfold Builtin.SmallTypes.nextOf
 refine b7 (J7 (name:=Str.ofString "__next__") hi.typeIs F.slot_tuple_iterator_next (K1 F.slot_tuple_iterator_next hi.typeIs F.entry_tuple_iterator_next ?_ (F.args_tuple_iterator_next_1 _)))
 show o7 _ _ (field (.ref ip) 0 >>= _) _ _ s;refine b7 (E5 hu du (x:=.ref tp) rfl ?_)
 show o7 _ _ (if (Value.ref tp == Value.none)=true then _ else _) _ _ s;rw[if_neg (show ¬ ((Value.ref tp == Value.none)=true) from k9)]
 show o7 _ _ (field (.ref ip) 1 >>= _) _ _ s;refine b7 (E5 hu du (x:=.int i 0) rfl ?_)
 show o7 _ _ (bk1 (.ref tp) >>= _) _ _ s;refine b7 (J2 hv dv ?_)
 simp only[q0,hx]
 refine b7 (aG3 hu du (by simp) (d3 ⟨x,rfl,d3 (q _ ?_ (Heap.SameBut.update ..))⟩))
 exact⟨_,N9 _ hu (Obj.isFreed_of_fields (Obj.data_mapFields du _)),(Obj.cls_mapFields ..).trans cu,by rw[Obj.data_mapFields du];simp[ac4]⟩
theorem aD3 {ip tp:Addr}{i:Nat}{ys:Array c6}{Q:c6->c7->Prop}(hh:A.handled=none)(hi:s.heap.IsTupleIter ip tp i)(ht:s.heap.IsTuple tp ys)(hx:ys[i]?=none)
  (q:∀ h' e,Heap.ExtBut ip s.heap h'->(∃ o,h'.get? e=some o/\o.cls=.type "StopIteration")->E (.ref e) { s with heap:=h' }):o7 (y6 prog w) A (Builtin.SmallTypes.nextOf (.ref ip)) Q E s:=by
 obtain⟨u,hu,cu,du⟩:=id hi
 obtain⟨v,hv,_,nv,dv⟩:=ht
 unfold Builtin.SmallTypes.nextOf
 refine b7 (J7 (name:=Str.ofString "__next__") hi.typeIs F.slot_tuple_iterator_next (K1 F.slot_tuple_iterator_next hi.typeIs F.entry_tuple_iterator_next ?_ (F.args_tuple_iterator_next_1 _)))
 show o7 _ _ (field (.ref ip) 0 >>= _) _ _ s;refine b7 (E5 hu du (x:=.ref tp) rfl ?_)
 show o7 _ _ (if (Value.ref tp == Value.none)=true then _ else _) _ _ s;rw[if_neg (show ¬ ((Value.ref tp == Value.none)=true) from k9)]
 show o7 _ _ (field (.ref ip) 1 >>= _) _ _ s;refine b7 (E5 hu du (x:=.int i 0) rfl ?_)
 show o7 _ _ (bk1 (.ref tp) >>= _) _ _ s;refine b7 (J2 hv dv ?_)
 simp only[q0,hx]
 refine b7 (ah3 (b7 (aG3 hu du (by simp) ?_)))
 show o7 _ _ (newExc (.type "StopIteration") [] >>= _) _ _ _;refine b7 ?_;simp only[newExc,newTuple]
 refine b7 (G1 ?_ (by size_fits));refine b7 (m:=firstArgMember _ _) (bk2 (a:=Value.none) (by first | rfl | (simp only[firstArgMember];rfl)) ?_)
 refine G1 ?_ (by size_fits);simp only[raiseNew]
 refine b7 (wpAny_handled ?_);first | rw[show A.in1.handled=none from hh] | rw[hh]
 refine b7 (d3 (wpAny_throw ?_));exact q _ _ (((Heap.SameBut.update ..).extBut.push _).push _) ⟨_,i8 _ rfl,rfl⟩
end
theorem av3 {prog:j8}{w:x6}{A:u4}(hh:A.handled=none)(ip tp:Addr)(hne:tp≠ip)(ys:Array c6):Draws prog w A ip [ip,tp] ys.size (fun i v=>ys[i]?=some v) (fun i h=>h.IsTupleIter ip tp i/\h.IsTuple tp ys) where
 live:=fun _ _ z=>let ⟨o,ho,_⟩:=z.1;⟨o,ho⟩
 frame:=fun _ _ _ z k=>⟨z.1.at fun o e=>k ip (by simp) o e,z.2.at fun o e=>k tp (by simp) o e⟩
 item:=fun i s Q E hi z q=>ax8 z.1 z.2 (x:=ys[i]) (by simp[hi]) fun h' a b=>q _ h' s.toks (by simp[hi]) ⟨a,z.2.extBut b.extBut hne⟩ b
 done:=fun s Q E z q=>aD3 hh z.1 z.2 (by simp) q
open AutoSeq1 (wpAny_loadPart') in
set_option maxRecDepth 100000 in
theorem aD4 (tp:Addr)(ys:Array c6)(n:Nat)(dd:Option Addr)(ss:Array (Option c6)) :
  Meets (ai3.«enumerate.__new__» ⟨[.type "enumerate",.ref tp],[]⟩) (fun _ R s=>s.heap.get? tp=some { cls:=.type "tuple",dict:=dd,data:=.seq ys n,slots:=ss } /\
   R (.ok (.ret (.ref (s.heap.push { cls:=.type "tuple_iterator",data:=.fields #[.ref tp,.int 0 0] }).objs.size)))
    { s with heap:=(s.heap.push { cls:=.type "tuple_iterator",data:=.fields #[.ref tp,.int 0 0] }).push { cls:=.type "enumerate",data:=.fields #[.none,.bool false,.ref s.heap.objs.size,ac4 0,.none,.none] } }) :=
 .of_wp fun prog w A R s h=>by
  obtain⟨hp,g,d,tk,os⟩:=s;obtain⟨hl,h⟩:=h
  have hsub:=sub_enumerate
  have hT:Heap.IsTuple (Shared.heap ⟨hp,g,d,tk,os⟩) tp ys:=⟨_,hl,rfl,n,rfl⟩
  wp_walk using wpAny_loadPart' hl
  refine wpAny_stack_any fun st=>d3 ?_
  split
  ·rename_i c _ _ _ _ _
   cases (c == Value.type "enumerate")
   ·wp_walk using wpAny_loadPart' hl,J4 hT;exact⟨_,rfl,h⟩
   ·wp_walk using wpAny_loadPart' hl,J4 hT;exact⟨_,rfl,h⟩
  ·wp_walk using wpAny_loadPart' hl,J4 hT;exact⟨_,rfl,h⟩
section
variable {prog:j8} {w:x6} {A:u4} {E:c6->c7->Prop} {s:c7}
theorem aI0 {tp:Addr}{ys:Array c6}{Q:c6->c7->Prop}(hT:s.heap.IsTuple tp ys)
  (q:∀ h',IsEnum h' (s.heap.objs.size+1) s.heap.objs.size 0 .none->h'.IsTupleIter s.heap.objs.size tp 0->h'.objs.size=s.heap.objs.size+2->(∀ b o,s.heap.get? b=some o->h'.get? b=some o)->Q (.ref (s.heap.objs.size+1)) { s with heap:=h' }) :
  o7 (y6 prog w) A (call (.type "enumerate") [.ref tp]) Q E s:=by
 obtain⟨⟨c,dd,dt,ss⟩,hl,hc,n,hd⟩:=hT
 replace hc:c=.type "tuple":=hc
 replace hd:dt=.seq ys n:=hd
 subst hc hd
 refine callType_new F.called_enumerate (by decide) (F.typeCall_enumerate_1 _) (F.newCall_enumerate_1 _) (fun obj=>F.args_object_init_2 obj _) F.entry_enumerate_new (aD4 tp ys n dd ss) ⟨hl,?_⟩
 have hz:(s.heap.push { cls:=.type "tuple_iterator",data:=.fields #[.ref tp,.int 0 0] }).objs.size=s.heap.objs.size+1:=D0 ..
 show _/\_
 rw[hz]
 have he:IsEnum ((s.heap.push { cls:=.type "tuple_iterator",data:=.fields #[.ref tp,.int 0 0] }).push { cls:=.type "enumerate",data:=.fields #[.none,.bool false,.ref s.heap.objs.size,ac4 0,.none,.none] }) (s.heap.objs.size+1) s.heap.objs.size 0 .none:=by
  have:=i8 (s.heap.push { cls:=.type "tuple_iterator",data:=.fields #[.ref tp,.int 0 0] }) (o:={ cls:=.type "enumerate",data:=.fields #[.none,.bool false,.ref s.heap.objs.size,ac4 0,.none,.none] }) rfl
  rw[hz]at this;exact this
 exact⟨⟨_,he,rfl⟩,q _ he ⟨_,c5 _ (i8 _ rfl),rfl,rfl⟩ (by rw[D0,hz]) fun b o x=>c5 _ (c5 _ x)⟩
end
def Itm (K:W.Frag)(a:Addr):It:=
 ⟨fun i H=>∃ xs x,SqT K H a xs/\xs[i]?=some x,fun i H x H'=>∃ t v,H t=none/\x=.ref t/\(∀ xs,SqT K H a xs->xs[i]?=some v)/\H'=upd H t (.tup [.int i,v]),fun i H=>∃ xs,SqT K H a xs/\xs.length=i⟩
def bW2 (K:W.Frag)(ta:TA):TI:=fun σ H R=>ta σ H fun vs H1=>∃ a,vs=[.ref a]/\(∃ xs,SqT K H1 a xs)/\R (Itm K a) H1
theorem aZ6 {P:j8}{w:x6}{K:W.Frag}{elts:List Expr}{x1:Nat}{pos:Pos}(a ip e:Addr)(hne:e≠ip):Turn P w K (.Tuple elts x1 pos) (Itm K a) [e,ip] e (fun i h=>(∃ old,IsEnum h e ip (i:Int) old)/\h.IsTupleIter ip a i) where
 mem:=by simp
 obj:=fun i h st b hb=>by
  obtain⟨⟨old,he⟩,o,ho,hc,hd⟩:=st
  rcases g6.mp hb with rfl | hb
  ·exact⟨_,he,fun v z=>by cases z⟩
  ·obtain rfl:b=ip:=by simpa using hb
   exact⟨o,ho,fun v z=>by rw[hd]at z;cases z⟩
 keep:=fun i h h' st k=>⟨let ⟨old,he⟩:=st.1;⟨old,k e (by simp) _ he⟩,st.2.at fun o q=>k ip (by simp) o q⟩
 item:=by
  intro X hP hw hK hc i pins s σ H E I hf st hg
  subst hP hw hK
  obtain⟨xs,x,hq,hx⟩:=hg
  obtain⟨⟨old,he⟩,hit⟩:=st
  obtain⟨its,rv,p,hz⟩:=I.tuple hq
  obtain⟨u,hu,ru⟩:=rv.get hx
  obtain⟨f0,f1,f2,f3,f4,f5⟩:=hf e (by simp)
  obtain⟨g0,g1,g2,g3,g4,g5⟩:=hf ip (by simp)
  have pT:s.heap.IsTuple a its.toArray:=p
  have nai:a≠ip:=fun z=>by
   obtain⟨o1,h1,c1,_⟩:=id pT
   obtain⟨o2,h2,c2,_⟩:=id hit
   rw[z,h2]at h1;cases h1;rw[c2]at c1;injection c1 with c1;exact absurd c1 (by decide)
  have nae:a≠e:=fun z=>by
   obtain⟨o1,h1,c1,_⟩:=id pT
   rw[z,show s.heap.get? e=_ from he]at h1;cases h1;injection c1 with c1;exact absurd c1 (by decide)
  have ui:its.toArray[i]?=some u:=by simpa using hu
  have hlt':i<its.toArray.size:=by
   rcases C9 i its.toArray.size with h | h
   ·exact h
   ·rw[an8 h]at ui;cases ui
  refine wpAny_pyNext_enum_itemD (av3 (A:=X.A.in1) (I.ok.hd hc) ip a nai its.toArray) he ⟨hit,pT⟩ hlt' hne (by simp[hne,Ne.symm nae]) fun v h1 tk hv heo st1 ht1 hz1 hk1=>?_
  have ev:v=u:=by have:=hv.symm.trans ui;cases this;rfl
  subst ev
  have hit1:=st1.1
  refine⟨_,rfl,?_⟩
  refine bo9 heo fun h2 he2 hs2=>?_
  have hlt:e<s.heap.objs.size:=d6 he
  have hs2':Heap.SameBut e h1 h2:=hs2
  have ht2:h2.get? s.heap.objs.size=some { cls:=.type "tuple",data:=.seq #[.int i tk,v] }:=(hs2'.2 _ (K7 hlt)).trans ht1
  have kp:∀ b o,b≠e->b≠ip->s.heap.get? b=some o->h2.get? b=some o:=fun b o h1' h2' q=>(hs2'.2 b h1').trans (hk1 b o h1' h2' q)
  have hT:H s.heap.objs.size=none:=I.hok.fresh (d4 _)
  have nH:∀ b,H b≠none->b≠e/\b≠ip:=fun b hb=>⟨fun z=>hb (z ▸ f0),fun z=>hb (z ▸ g0)⟩
  have keepH:∀ b o,H b=some o->upd H s.heap.objs.size (.tup [.int i,x]) b=some o:=fun b o q=>by rw[v7 (o5 q hT)];exact q
  have hok2:HOk X.prog X.w (upd H s.heap.objs.size (.tup [.int i,x])) h2:=fun b o eb=>by
   by_cases hb:b=s.heap.objs.size
   ·subst hb
    rw[c8]at eb
    cases eb
    exact⟨by show 2<=i9;decide,[.int i tk,v],.cons ⟨_,rfl⟩ (.cons ru .nil),⟨_,ht2,rfl,_,rfl⟩⟩
   ·rw[v7 hb]at eb
    refine(I.hok b o eb).stay (fun c v hcc q=>kp c v ?_ ?_ q) (fun c q=>keepH c _ q) fun c ys q=>keepH c _ q
    ·rcases hcc with z | z
     ·exact(nH c (by rw[z,eb];simp)).1
     ·exact(nH c (by rw[z];simp)).1
    ·rcases hcc with z | z
     ·exact(nH c (by rw[z,eb];simp)).2
     ·exact(nH c (by rw[z];simp)).2
  have I2:Inv X pins σ (upd H s.heap.objs.size (.tup [.int i,x])) { s with heap:=h2,toks:=tk+1 }:=by
   refine I.step (g':=s.gens) (d':=s.drawn) (t':=tk+1) (ch:=[e,ip]) (fun b hb=>?_) (fun b o _ _ hcc q _=>kp b o (fun z=>hcc (by simp[z])) (fun z=>hcc (by simp[z])) q) (fun b o _ _ hcc q _=>⟨o.slots,kp b o (fun z=>hcc (by simp[z])) (fun z=>hcc (by simp[z])) q⟩) (fun b o _ q n=>?_)
    (fun b o hcc q=>⟨o,kp b o (fun z=>hcc (by simp[z])) (fun z=>hcc (by simp[z])) q⟩) (fun b ys q=>keepH b _ q) (fun b o v q=>keepH b _ q) (fun b ps q=>⟨#[],by rw[keepH b _ q];simp⟩) (fun m hm=>?_) hok2 I.bare
   ·rcases g6.mp hb with rfl | hb
    ·exact⟨f3,f1,f4,f5⟩
    ·obtain rfl:b=ip:=by simpa using hb
     exact⟨g3,g1,g4,g5⟩
   ·rw[v7 (j7 (d6 q))]
    exact n
   ·obtain⟨o,es,ep,ho,r⟩:=hm
    exact⟨o,es,ep,kp _ o (Ne.symm f1) (Ne.symm g1) ho,r⟩
  have hilt:ip<s.heap.objs.size:=by
   obtain⟨o,ho,_⟩:=id hit
   exact d6 ho
  refine⟨.ref s.heap.objs.size,_,I2,rfl,⟨s.heap.objs.size,x,hT,rfl,fun ys hy=>by rw[I.tuple_inj hy hq];exact hx,rfl⟩,⟨⟨v,?_⟩,?_⟩,fun b hb=>?_⟩
  ·have:=he2
   rw[show ((i:Int)+1)=(((i+1:Nat):Int)) by simp]at this
   exact this
  ·exact hit1.at fun o q=>(hs2'.2 ip (Ne.symm hne)).trans q
  ·rcases g6.mp hb with rfl | hb
   ·rw[v7 (j7 hlt)];exact f0
   ·obtain rfl:b=ip:=by simpa using hb
    rw[v7 (j7 hilt)]
    exact g0
 done:=by
  intro X hP hw hK hc i pins s σ H E I hf st hg
  subst hP hw hK
  obtain⟨xs,hq,hx⟩:=hg
  obtain⟨⟨old,he⟩,hit⟩:=st
  obtain⟨its,rv,p,hz⟩:=I.tuple hq
  obtain⟨g0,g1,g2,g3,g4,g5⟩:=hf ip (by simp)
  have hl:=rv.length
  have pT:s.heap.IsTuple a its.toArray:=p
  have nai:a≠ip:=fun z=>by
   obtain⟨o1,h1,c1,_⟩:=id pT
   obtain⟨o2,h2,c2,_⟩:=id hit
   rw[z,h2]at h1;cases h1;rw[c2]at c1;injection c1 with c1;exact absurd c1 (by decide)
  have ei:i=its.toArray.size:=by rw[d5];omega
  refine wpAny_pyNext_enum_endD (av3 (A:=X.A.in1) (I.ok.hd hc) ip a nai its.toArray) he ⟨by rw[<- ei];exact hit,pT⟩ fun h' eb=>⟨rfl,I.turned (t':=s.toks) (fun b o hb q=>eb b o hb q) g0 g1 g3 g4 g5⟩
 self:=fun _ _ _ _ _ st h=>let ⟨⟨old,he⟩,_⟩:=st;ao2 he h
section
variable {X:Cx}
theorem aU3 {a:Expr}{ta:TA}{elts:List Expr}{x1:Nat}{tpos p pos:Pos}(hg:Gl X "enumerate")(hm:X.mg "enumerate"=none)(ha:PA X [a] ta)(hv:M5 "enumerate"=some (.type "enumerate"):=by rfl)(hs:A2 [a] X.env=[(false,eval a X.env)]:=by rfl) :
  PI X (.Tuple elts x1 tpos) (.Call (.Name "enumerate" p) [a] [] pos) (bW2 X.K ta):=by
 intro pins s σ H R I h
 refine Call_ (V8 I hg hm hv (PyProof.Rows.callWith_type1 (thn (ha pos pins s σ H _ I h) fun us s1 ⟨vs,H1,I1,r1,q1⟩=>?_) hs rfl))
 obtain⟨b,e,⟨xs,hq⟩,q⟩:=q1
 subst e
 obtain⟨u,rfl,rx⟩:=vals1 r1
 cases rx
 obtain⟨its,rv,pl,hz⟩:=I1.tuple hq
 refine aI0 (show s1.heap.IsTuple b its.toArray from pl) fun h' he hit hsz kp=>?_
 refine ao2 he ?_
 have hne:s1.heap.objs.size+1≠s1.heap.objs.size:=Nat.succ_ne_self _
 refine⟨s1.heap.objs.size+1,[s1.heap.objs.size+1,s1.heap.objs.size],_,_,H1,rfl,I1.kept (t':=s1.toks) kp,aZ6 b s1.heap.objs.size (s1.heap.objs.size+1) hne,⟨⟨_,he⟩,hit⟩,fun c hc=>?_,q⟩
 rcases g6.mp hc with rfl | hc
 ·exact I1.fpOk (Y9 _) (I1.hok.fresh (Y9 _))
 ·obtain rfl:c=s1.heap.objs.size:=by simpa using hc
  exact I1.fpOk (d4 _) (I1.hok.fresh (d4 _))
theorem bn9 (hc:X.calm=true):Q8 X (.builtin "sum") (fun xs H Q=>∃ (p:Addr) (ns:List Int),xs=[.ref p]/\SqT X.K H p (ns.map V.int)/\Q (.int ns.sum) H):=by
 intro pins s σ H xs us Q I r h
 obtain⟨p,ns,rfl,hq,q⟩:=h
 obtain⟨u,rfl,rx⟩:=vals1 r
 cases rx
 obtain⟨its,r',pl,hz⟩:=I.tuple hq
 have hi:G9 its ns:=intsAre_of r'
 obtain⟨ys,e⟩:=hi.allInts.items
 refine PySem.W.ktm_sumG (xs:=ys) (I.ok.hd hc) (by rw[<- e];exact pl) fun h' tk t' hk=>⟨.int ns.sum,H,I.kept (t':=tk) hk,⟨t',?_⟩,q⟩
 have e2:numsOf (K9 ys).toList=ns:=by rw[<- e];exact hi.numsOf
 rw[nums_intItems]at e2
 rw[preSum_eq,k8 (by simp),e2]
end
end L2
namespace L2
open PySem PySem.Spec PyProof.Rows
def ca7 (K:W.Frag)(CT:Addr)(tb:(St->XK)->TS)(th:TS):TS:=fun D σ H=>∃ E:St->XK,tb E D σ H/\∀ σ' cls H',E σ' cls none H'->PySem.W.exmOne K cls (.ref CT)=some true/\th D σ' H'
theorem bF7 {X:Cx}{body suite:List Stmt}{b0:Stmt}{tn:Str}{np pos hpos:Pos}{CT:Addr}{tb:(St->XK)->TS}{th:TS}
  (hg:Gl X tn)(hm:X.mg tn=some (.ref CT))(hst:X.stack=X.env::X.outer)(hfr:X.env.frame=some X.env.locals)(hbody:∀ pins E,PSs (bd7 X pins E) body (tb E))(hh:∀ v,PSs (bW5 X v) (b0::suite) th)
  (hd:(tn == ("__debug__":Str))=false:=by decide) :
  PS X (.Try body [.ExceptHandler (some (.Name tn np)) none (b0::suite) hpos] [] [] pos) (ca7 X.K CT tb th):=by
 intro pins s σ H D I hw
 obtain⟨E,hb,hcatch⟩:=hw
 refine wpAny_Try_except (E3 (hbody pins E [] s σ H D I.toTry hb) (fun fl s1 q=>?_) fun e s1 hx=>?_)
 ·cases fl with
  | next =>
   obtain⟨σ',H',I',q⟩:=q
   exact ai1 ⟨σ',H',I'.ofTry,q⟩
  | brk=>obtain⟨σ',H',I',q⟩:=q;exact⟨σ',H',I'.ofTry,q⟩
  | cont=>obtain⟨σ',H',I',q⟩:=q;exact⟨σ',H',I'.ofTry,q⟩
  | ret u=>obtain⟨v,σ',H',I',r,q⟩:=q;exact⟨v,σ',H',I'.ofTry,r,q⟩
 ·obtain⟨σ1,H1,s0,I1,x,cls,H2,rfl,hos,hbare,u,hok,new,hxn,⟨B,a0,fl,st⟩,hE⟩:=hx
  obtain⟨hmat,hth⟩:=hcatch σ1 cls H2 hE
  have hfl:Heap.FlyingW B (X.env::X.outer) x cls a0 s1.heap:=by rw[hst]at fl;exact fl
  have frNone:∀ b∈frs X.stack,H2 b=none:=fun b hb=>by
   obtain⟨_,o,ho,_⟩:=I1.stack.mem hb
   exact u.free b o ho (I1.stkFree b hb) (by simp)
  have step:∀ h',B.StaysIn h'->s1.heap.UpToSlots h'->Un (frs X.stack) [] H1 H2 s0.heap h'/\HOk X.prog X.w H2 h':=fun h' hB hu=>by
   refine⟨u.onto (fun b o ho hh hno=>hB b o (st b o ho (.inr hh) hno)) fun b o ho hh hm'=>?_,hok.stays fun b o ho hh=>hB b o (st b o ho (.inl hh) fun hm'=>hh (frNone b hm'))⟩
   obtain⟨_,o',ho',hdd⟩:=hfl.2.2.1.mem (b:=b) (by rw[hst]at hm';exact hm')
   rw[ho]at ho'
   cases ho'
   exact hu b o ho hdd
  have inv:∀ h',B.StaysIn h'->s1.heap.UpToSlots h'->Inv X pins σ1 H2 { s1 with heap:=h' }:=fun h' hB hu=>by
   obtain⟨un,ok⟩:=step h' hB hu
   exact I1.call' (s':={ s1 with heap:=h' }) (ch:=[]) hos un ok hbare fun b hb=>by cases hb
  have hfrm:X.A.frames=some (X.env::X.outer):=by rw[<- hst];exact I1.ok.frames
  refine wpAny_looks_onW hfrm hfr hfl fun h4 held4 up4=>?_
  refine wpAny_landsW held4 fun h5 fl5 up5=>?_
  have up15:=up4.trans up5
  have I5:=inv h5 fl5.1 up15
  refine wpAny_handleBy_cons (codeAny_handlers_test ?_) (by intro q;cases q)
  refine al8 (I5.toHd (.ref x)) hg hm ?_ hd
  have LT:PySem.W.Looks (y6 X.prog X.w) h5 (typeOf (.ref x)) cls:=by
   obtain⟨ob,hob,hc⟩:=fl5.there
   subst hc
   exact(PySem.W.Looks.ld hob).andThen .now
  refine(PySem.W.exm_one (M:=y6 X.prog X.w) I5.kIn LT hmat).here ?_
  refine codeAny_handlers_suite ?_
  refine lands_againW fl5 fun h6 fl6 up6=>?_
  have up16:=up15.trans up6
  have I7:=inv h6 fl6.1 up16
  refine E3 (hh (.ref x) pins { s1 with heap:=h6 } σ1 H2 D (I7.toHd _) hth) (fun fl' s9 q=>?_) (fun _ _ z=>False.elim z)
  have hdX:=I.ok.hd
  cases fl' with
  | next =>
   obtain⟨σ',H',I',q⟩:=q
   exact⟨σ',H',I'.ofHd hdX,q⟩
  | brk =>
   obtain⟨σ',H',I',q⟩:=q
   exact⟨σ',H',I'.ofHd hdX,q⟩
  | cont =>
   obtain⟨σ',H',I',q⟩:=q
   exact⟨σ',H',I'.ofHd hdX,q⟩
  | ret u' =>
   obtain⟨v,σ',H',I',r,q⟩:=q
   exact⟨v,σ',H',I'.ofHd hdX,r,q⟩
section
variable {X:Cx}
theorem bn6 {elt iter tg:Expr} {ifs:List Expr} {scope:R8} {pos ipos:Pos} {cl:List (Str × Addr)} {N':List Str} {lk:List (Option Nat)} {wi:TI} {g:TG} {tt:TT} {te:TE} {use:Option (c6->Sem Unit)} {R:c6->c7->Prop} {Q:VK} {pins:List (Addr × Obj)} {s:c7} {σ:St} {H:Hp}
  (hc:X.calm=true) (hi:PI X tg iter wi) (hclos:ay3 scope X.env=pure cl) (hkind:scope.kind=.function)
  (hnames:∀ y∈scope.names,y.2=.local->scope.names.lookup y.1=some .local) (hcl:ay2 X.env cl) (hfr:am9 scope.names cl=true) (hlk:bo6 X N' lk scope cl)
  (hg:∀ s3 H3 fp,PG (D7 X scope cl N' s3 H3 fp fun _ _=>False) tg g) (ht:∀ s3 H3 fp,PTs (D7 X scope cl N' s3 H3 fp fun _ _=>False) ifs tt) (he:∀ s3 H3 fp,PE (D7 X scope cl N' s3 H3 fp fun _ _=>False) elt te)
  (hs:∀ x,aa5 iter X.env x=pure x) (I:Inv X pins σ H s) (h:bd9 wi lk g tt te σ H Q)
  (hend : ∀ (C D : Addr) (s' : c7) (H' : Hp), Inv X pins σ H' s' -> Q (.ref D) H' -> H' C = none -> C ≠ X.env.locals -> X.s₀.heap.objs.size <= C -> (∀ x c, X.env.cells.lookup x = some c -> c ≠ C) -> (∀ p ∈ X.pn ++ pins, p.1 ≠ C) -> (∃ m, s'.heap.Ns C m) ->
   ay4 (y6 X.prog X.w) X.A X.xe use R (.ref D) C (.ok .next) s') :
  o7 (y6 X.prog X.w) X.A (comprehension (.ListComp elt [⟨tg,iter,ifs,0⟩] scope pos) scope X.env ipos (newList []) false (eval iter X.env) use) R X.xe s:=by
 have hcellN:∀ y∈scope.names,y.2≠.cell:=fun y hy=>by
  unfold am9 at hfr
  rw[N3]at hfr
  have:=hfr y hy
  rw[C4]at this
  simpa using this.1
 refine ao1 (use:=use) rfl hs hclos hkind hnames (thn (hi pins s σ H _ I h) fun v s1 h1=>thn h1 fun itv s2 h2=>?_)
 obtain⟨it,fp,tn,J,H2,e,I2,T,st2,f2,q⟩:=h2
 subst e
 refine M0 ?_ (y9 _)
 have hD:H2 s2.heap.objs.size=none:=I2.hok.fresh (d4 _)
 have I3:=I2.lnew (ys:=[]) (its:=[]) (t':=s2.toks) .nil (y9 _)
 obtain⟨W,⟨m0,w0⟩,turn⟩:=q s2.heap.objs.size hD
 have fpl:∀ b∈fp,b<s2.heap.objs.size:=fun b hb=>by
  obtain⟨o,ho,_⟩:=T.obj 0 s2.heap st2 b hb
  exact d6 ho
 refine U7 hcellN (by intro y hy;cases hy) (fun h1 hns1 hsb1=>?_) hkind
 dsimp only at hns1 hsb1 ⊢
 have e3:s2.heap.push { cls:=.type "list",dict:=none,data:=.seq ([]:List c6).toArray }=s2.heap.push { cls:=.type "list",data:=.seq ([]:List c6).toArray }:=rfl
 generalize hh3:s2.heap.push { cls:=.type "list",dict:=none,data:=.seq ([]:List c6).toArray }=h3 at *
 have I3':Inv X pins σ (upd H2 s2.heap.objs.size (.lst [])) { s2 with heap:=h3,toks:=s2.toks }:=I3
 have size3:h3.objs.size=s2.heap.objs.size+1:=by rw[<- hh3,D0]
 have f3:∀ b∈fp,N8 X pins (upd H2 s2.heap.objs.size (.lst [])) b:=fun b hb=>by
  obtain⟨f0,fr⟩:=f2 b hb
  exact⟨by rw[v7 (j7 (fpl b hb))];exact f0,fr⟩
 have up:∀ b u,h3.get? b=some u->h1.get? b=some u:=fun b u eb=>by
  rw[hsb1.2 b (j7 (d6 eb))]
  exact c5 _ eb
 have I4:Inv (D7 X scope cl N' { s2 with heap:=h3,toks:=s2.toks } (upd H2 s2.heap.objs.size (.lst [])) fp fun _ _=>False) [] (ac9 lk σ) (upd H2 s2.heap.objs.size (.lst [])) { s2 with heap:=h1,toks:=s2.toks+([]:List (Str × c6)).length }:=
  ao8 (s3:={ s2 with heap:=h3,toks:=s2.toks }) I3' f3 hkind hcl hfr hlk hns1 up fun b hb=>by show b<h3.objs.size;rw[size3];exact C0 (fpl b hb)
 have st4:tn 0 h1:=T.keep 0 s2.heap h1 st2 fun b hb o eb=>up b o (by rw[<- hh3];exact c5 _ eb)
 have hCs:h3.objs.size=(O2 scope cl h3.objs.size X.env).locals:=rfl
 have stat:∀ {H':Hp},(∀ b∈fp,H' b=none)->∀ b∈fp,N8 (D7 X scope cl N' { s2 with heap:=h3,toks:=s2.toks } (upd H2 s2.heap.objs.size (.lst [])) fp fun _ _=>False) [] H' b:=fun {H'} hn b hb=>by
  obtain⟨f0,f1,f2',f3',f4,f5⟩:=f3 b hb
  refine⟨hn b hb,?_,fun z=>?_,.inl hb,fun x c ex=>f4 x c (hcl.get ex),fun p hp=>nomatch hp⟩
  ·show b≠h3.objs.size
   rw[size3]
   exact j7 (C0 (fpl b hb))
  ·rcases g6.mp (I3'.stkSub b z) with q | q
   ·exact f1 q
   ·exact f2' q
 have fin:∀ (s':c7) (σ':St) (H':Hp),Inv (D7 X scope cl N' { s2 with heap:=h3,toks:=s2.toks } (upd H2 s2.heap.objs.size (.lst [])) fp fun _ _=>False) [] σ' H' s'->Q (.ref s2.heap.objs.size) H' ->
   ay4 (y6 X.prog X.w) X.A X.xe use R (.ref s2.heap.objs.size) h3.objs.size (.ok .next) s':=fun s' σ' H' I' q'=>by
  obtain⟨m,hm,_⟩:=id I'.loc
  have I5:Inv X pins σ H' s':=I3'.call' (ch:=fp) I'.os I'.base I'.hok I'.bare fun b hb=>by
   obtain⟨f0,f1,f2',f3',f4,f5⟩:=f3 b hb
   exact⟨f3',f1,f4,f5⟩
  exact hend h3.objs.size s2.heap.objs.size s' H' I5 q' I'.free (K7 I3'.lt) I3'.sz (fun x c ex z=>by
   obtain⟨v',q2⟩:=I3'.cell x c ex
   exact absurd q2.lt (by rw[z];exact B8 _)) (fun p hp z=>absurd (d6 (I3'.pin p hp).1) (by rw[z];exact B8 _)) ⟨m,hm⟩
 have loop:∀ s5:c7,s5={ s2 with heap:=h1,toks:=s2.toks+([]:List (Str × c6)).length } ->
   am1 (y6 X.prog X.w) X.A (.compLoop (.ListComp elt [⟨tg,iter,ifs,0⟩] scope pos) 0 (.ref it) (.ref s2.heap.objs.size) (O2 scope cl h3.objs.size X.env)) (ay4 (y6 X.prog X.w) X.A X.xe use R (.ref s2.heap.objs.size) h3.objs.size) s5:=by
  rintro s5 rfl
  refine bP7 rfl (fun n s'=>∃ i xs σ' H',Inv (D7 X scope cl N' { s2 with heap:=h3,toks:=s2.toks } (upd H2 s2.heap.objs.size (.lst [])) fp fun _ _=>False) [] σ' H' s'/\tn i s'.heap/\(∀ b∈fp,H' b=none)/\W i n xs σ' H')
   (fun n s6 hI=>?_) m0 ⟨0,[],ac9 lk σ,_,I4,st4,fun b hb=>(f3 b hb).1,w0⟩
  obtain⟨i,xs,σ6,H6,I6,st6,fr6,w6⟩:=hI
  show o7 _ X.A ((compTurn (.ListComp elt [⟨tg,iter,ifs,0⟩] scope pos) 0 (.ref it) (.ref s2.heap.objs.size) (O2 scope cl h3.objs.size X.env)).onRaise (fun x=>do ax3 x (O2 scope cl h3.objs.size X.env);bj9 x)) _ _ s6
  refine ca0 ?_
  rw[bD0]
  refine b7 (af3 (b7 ?_))
  obtain⟨hD6,hw⟩:=turn i n xs σ6 H6 w6
  rcases hw with⟨stop,qn⟩ | ⟨go,hlen,step⟩
  ·refine thn (T.done (D7 X scope cl N' { s2 with heap:=h3,toks:=s2.toks } (upd H2 s2.heap.objs.size (.lst [])) fp fun _ _=>False) rfl rfl rfl hc i [] s6 σ6 H6 _ I6 (stat fr6) st6 stop) fun r s7 ⟨hr,I7⟩=>?_
   subst hr
   exact d3 (fin s7 σ6 H6 I7 qn)
  ·refine thn (T.item (D7 X scope cl N' { s2 with heap:=h3,toks:=s2.toks } (upd H2 s2.heap.objs.size (.lst [])) fp fun _ _=>False) rfl rfl rfl hc i [] s6 σ6 H6 _ I6 (stat fr6) st6 go) fun r s7 ⟨u,hr,h7⟩=>?_
   subst hr
   refine b7 (thn h7 fun _ s8 ⟨x,H8,I8,r8,y8,st8,fr8⟩=>?_)
   have I8':=I8.pinned (stat fr8) (T.obj _ _ st8)
   refine b7 (E3 (hg _ _ _ _ s8 σ6 H8 x u _ I8' r8 (step x H8 y8)) (fun _ s9 ⟨σ9,H9,I9,q9⟩=>?_) (fun _ _ z=>False.elim z))
   refine b7 (E3 (ht _ _ _ _ s9 σ9 H9 _ I9 q9) (fun ok s10 ⟨H10,I10,q10⟩=>?_) (fun _ _ z=>False.elim z))
   have bj2:∀ {σ':St} {H':Hp} {ys:List V} {s':c7},Inv (D7 X scope cl N' { s2 with heap:=h3,toks:=s2.toks } (upd H2 s2.heap.objs.size (.lst [])) fp fun _ _=>False) ([]++aj7 fp s8.heap) σ' H' s'->(∃ m',m'<n/\W (i+1) m' ys σ' H') ->
     ∃ m',m'<n/\∃ i xs σ' H',Inv (D7 X scope cl N' { s2 with heap:=h3,toks:=s2.toks } (upd H2 s2.heap.objs.size (.lst [])) fp fun _ _=>False) [] σ' H' s'/\tn i s'.heap/\(∀ b∈fp,H' b=none)/\W i m' xs σ' H':=fun {σ' H' ys s'} I' ⟨m',hm,w'⟩=>by
    refine⟨m',hm,i+1,ys,σ',H',I'.unpinned,T.keep _ _ _ st8 fun b hb o eb=>(I'.pin (b,o) (m9 _ (m9 _ (O3 hb eb)))).1,fun b hb=>?_,w'⟩
    obtain⟨o,eb,_⟩:=T.obj _ _ st8 b hb
    exact(I'.pin (b,o) (m9 _ (m9 _ (O3 hb eb)))).2.1
   cases ok with
   | false =>
    have q10':∃ m',m'<n/\W (i+1) m' xs σ9 H10:=by simpa using q10
    exact d3 ⟨rfl,bj2 I10 q10'⟩
   | true =>
    rw[if_pos rfl]at q10
    refine b7 (b7 (E3 (he _ _ _ _ s10 σ9 H10 _ I10 q10) (fun y s11 ⟨v11,H11,I11,r11,hD11,q11⟩=>?_) (fun _ _ z=>False.elim z)))
    refine b7 (E3 (S4 (X:=D7 X scope cl N' { s2 with heap:=h3,toks:=s2.toks } (upd H2 s2.heap.objs.size (.lst [])) fp fun _ _=>False) _ s11 σ9 H11 (.ref s2.heap.objs.size) [v11] (.ref s2.heap.objs.size) [y] (fun _ H'=>∃ m',m'<n/\W (i+1) m' (xs++[v11]) σ9 H') I11 rfl (.cons r11 .nil) ⟨s2.heap.objs.size,xs,v11,rfl,rfl,hD11,hlen,q11⟩) (fun _ s12 ⟨_,H12,I12,_,q12⟩=>?_) (fun _ _ z=>False.elim z))
    exact d3 (d3 ⟨rfl,bj2 I12 q12⟩)
 exact at8 (loop _ rfl) (T.self X.A 0 _ _ _ st4 (loop _ rfl))
def ca8 (i:Nat)(t:TE):TS:=fun D σ H=>t σ H fun v H1=>D.nx (σ.set i (some v)) H1
theorem aq5 {i:Nat}{y:Str}{py:Pos}{elt iter tg:Expr}{ifs:List Expr}{scope:R8}{pos spos:Pos}{cl:List (Str × Addr)}{N':List Str}{lk:List (Option Nat)}{wi:TI}{g:TG}{tt:TT}{te:TE}
  (hN:X.N.Nodup)(hy:X.N[i]?=some y)(hyl:X.env.scope.names.lookup y=some .local)
  (hsw:swapsWith (.ListComp elt [⟨tg,iter,ifs,0⟩] scope pos) (some (.Name y py)) spos.line X.env=pure true)
  (hc:X.calm=true)(hi:PI X tg iter wi)(hclos:ay3 scope X.env=pure cl)(hkind:scope.kind=.function)
  (hnames:∀ y∈scope.names,y.2=.local->scope.names.lookup y.1=some .local)(hcl:ay2 X.env cl)(hfr:am9 scope.names cl=true)(hlk:bo6 X N' lk scope cl)
  (hg:∀ s3 H3 fp,PG (D7 X scope cl N' s3 H3 fp fun _ _=>False) tg g)(ht:∀ s3 H3 fp,PTs (D7 X scope cl N' s3 H3 fp fun _ _=>False) ifs tt)(he:∀ s3 H3 fp,PE (D7 X scope cl N' s3 H3 fp fun _ _=>False) elt te)
  (hs:∀ x,aa5 iter X.env x=pure x:=by intro _;rfl):PS X (.Assign [.Name y py] (.ListComp elt [⟨tg,iter,ifs,0⟩] scope pos) spos) (ca8 i (bd9 wi lk g tt te)):=by
 intro pins s σ H D I h
 rw[exec_Assign_Name_used _ _ _ _ hsw]
 refine b7 (af3 (b7 ?_))
 show o7 _ X.A (do let _ <- comprehension (.ListComp elt [⟨tg,iter,ifs,0⟩] scope pos) scope X.env _ (newList []) false (eval iter X.env) (some (bP4 (.Name y py) X.env))) _ _ s
 refine b7 (thn (bn6 (use:=some (bP4 (.Name y py) X.env)) (R:=fun _ s'=>SP X pins D .next s') hc hi hclos hkind hnames hcl hfr hlk hg ht he hs I h
  fun C Dd s' H' I' q' hC hCL hCs hCc hCp ⟨m,hm⟩=>?_) fun _ s' hq=>d3 (d3 hq))
 show o7 _ X.A (bP4 (.Name y py) X.env (.ref Dd)) _ _ s'
 refine wpAny_assign_Name (aI7 (v:=.ref Dd) I' hN hy (.inl hyl) rfl (fun s2 I2 ⟨a,hsb,ha⟩=>?_) (.inr hyl))
 have hCa:C≠a:=by
  rcases ha with z | z
  ·rw[z];exact hCL
  ·exact(hCc y a z).symm
 refine⟨m,hm.sameBut hsb hCa,fun h' hs'=>?_⟩
 obtain⟨h0,g0,d0,t0,o0⟩:=s2
 exact⟨_,H',I2.turned (t':=t0) (it:=C) (fun b o hb eb=>(hs'.2 b hb).trans eb) hC hCL (.inr hCs) hCc hCp,q'⟩
end
end L2
namespace Grf
def S:Nat->(Nat->Int)->Int
 | 0,_=>0
 | n+1,f=>S n f+f n
theorem x8 {f g:Nat->Int}:∀ {n:Nat},(∀ i,i<n->f i=g i)->S n f=S n g
 | 0,_=>rfl
 | n+1,h=>by
  show S n f+f n=S n g+g n
  rw[x8 fun i hi=>h i (by omega),h n (by omega)]
theorem ae6 {f g:Nat->Int}:∀ {n:Nat},(∀ i,i<n->f i<=g i)->S n f<=S n g
 | 0,_=>G6 _
 | n+1,h=>by
  have h1:=ae6 (n:=n) fun i hi=>h i (by omega)
  have h2:=h n (by omega)
  show S n f+f n<=S n g+g n
  omega
theorem U5 (f g:Nat->Int):∀ n:Nat,S n (fun i=>f i+g i)=S n f+S n g
 | 0=>rfl
 | n+1=>by
  show S n (fun i=>f i+g i)+(f n+g n)=S n f+f n+(S n g+g n)
  rw[U5 f g n]
  omega
theorem G8 (f g:Nat->Int):∀ n:Nat,S n (fun i=>f i - g i)=S n f - S n g
 | 0=>rfl
 | n+1=>by
  show S n (fun i=>f i - g i)+(f n - g n)=S n f+f n - (S n g+g n)
  rw[G8 f g n]
  omega
theorem N0:∀ n:Nat,S n (fun _=>0)=0
 | 0=>rfl
 | n+1=>by
  show S n (fun _=>0)+0=0
  rw[N0 n];rfl
theorem P3 (c:Int):∀ n:Nat,S n (fun _=>c)=(n:Int)*c
 | 0=>by simp[S]
 | n+1=>by
  show S n (fun _=>c)+c=((n+1:Nat):Int)*c
  rw[P3 c n,show ((n+1:Nat):Int)=(n:Int)+1 by omega,Int.add_mul,aA3]
theorem aa1 (c:Int)(f:Nat->Int):∀ n:Nat,S n (fun i=>c*f i)=c*S n f
 | 0=>by simp[S]
 | n+1=>by
  show S n (fun i=>c*f i)+c*f n=c*(S n f+f n)
  rw[aa1 c f n,aZ0]
theorem R1 {f:Nat->Int}{n:Nat}(h:∀ i,i<n->0<=f i):0<=S n f:=by
 have:=ae6 (f:=fun _=>0) (g:=f) (n:=n) h
 rw[N0]at this
 exact this
theorem bA6 (f:Nat->Nat->Int)(m:Nat):∀ n:Nat,S n (fun i=>S m (fun j=>f i j))=S m (fun j=>S n (fun i=>f i j))
 | 0=>(N0 m).symm
 | n+1=>by
  show S n (fun i=>S m (fun j=>f i j))+S m (fun j=>f n j)=S m (fun j=>S n (fun i=>f i j)+f n j)
  rw[bA6 f m n,<- U5]
theorem as3 {n j:Nat}(c:Int)(h:j<n):S n (fun i=>if i=j then c else 0)=c:=by
 induction n with
 | zero=>omega
 | succ n ih =>
  show S n (fun i=>if i=j then c else 0)+(if n=j then c else 0)=c
  by_cases e:n=j
  ·rw[if_pos e,x8 (g:=fun _=>0) fun i hi=>if_neg (by omega),N0];omega
  ·rw[if_neg e,ih (by omega)];omega
theorem X6 {n j:Nat}{f g:Nat->Int}(h:j<n)(hf:∀ i,i<n->i≠j->f i=g i):S n f=S n g+(f j - g j):=by
 have:S n f=S n (fun i=>g i+(if i=j then f j - g j else 0)):=x8 fun i hi=>by
  by_cases e:i=j
  ·rw[if_pos e,e];omega
  ·rw[if_neg e,hf i hi e];omega
 rw[this,U5,as3 _ h]
theorem ay1 {n j:Nat}{f:Nat->Int}(h:j<n)(hf:∀ i,i<n->0<=f i):f j<=S n f:=by
 have h1:=X6 (f:=f) (g:=fun i=>if i=j then 0 else f i) h (fun i _ e=>by rw[if_neg e])
 have h2:0<=S n (fun i=>if i=j then 0 else f i):=R1 fun i hi=>by
  by_cases e:i=j
  ·rw[if_pos e];exact G6 _
  ·rw[if_neg e];exact hf i hi
 rw[if_pos rfl]at h1
 omega
theorem bL0 {n:Nat}{f g:Nat->Int}(h:S n f<S n g):∃ i,i<n/\f i<g i:=by
 induction n with
 | zero=>exact absurd h (aG5 _)
 | succ n ih =>
  by_cases e:f n<g n
  ·exact⟨n,by omega,e⟩
  ·have h':S n f+f n<S n g+g n:=h
   obtain⟨i,hi,h2⟩:=ih (by omega)
   exact⟨i,by omega,h2⟩
def b2 (b:Bool):Int:=if b then 1 else 0
theorem Y2:b2 true=1:=rfl
theorem T5:b2 false=0:=rfl
theorem F9 (b:Bool):0<=b2 b:=by cases b<;>decide
theorem aL3 (b:Bool):b2 b<=1:=by cases b<;>decide
structure Gph (g:Nat->Nat->Bool):Prop where
 sym:∀ i j,g i j=g j i
 irr:∀ i,g i i=false
def deg (n:Nat)(g:Nat->Nat->Bool)(i:Nat):Int:=S n fun j=>b2 (g i j)
def V4 (g:Nat->Nat->Bool)(a b:Nat)(v:Bool):Nat->Nat->Bool:=fun i j=>if (i=a/\j=b)\/(i=b/\j=a) then v else g i j
theorem P9 {g:Nat->Nat->Bool}{a b:Nat}{v:Bool}(h:Gph g)(hab:a≠b):Gph (V4 g a b v) where
 sym:=fun i j=>by
  unfold V4
  by_cases e:(i=a/\j=b)\/(i=b/\j=a)
  ·rw[if_pos e,if_pos (by omega)]
  ·rw[if_neg e,if_neg (by omega)];exact h.sym i j
 irr:=fun i=>by
  unfold V4
  rw[if_neg (by omega)];exact h.irr i
theorem N2 {g:Nat->Nat->Bool}{a b i j:Nat}{v:Bool}(e:¬ ((i=a/\j=b)\/(i=b/\j=a))):V4 g a b v i j=g i j:=if_neg e
theorem aN4 {g:Nat->Nat->Bool}{a b:Nat}{v:Bool}:V4 g a b v a b=v:=if_pos (.inl ⟨rfl,rfl⟩)
theorem W7 {n:Nat}{g:Nat->Nat->Bool}{a b:Nat}{v:Bool}(h:Gph g)(hab:a≠b)(ha:a<n)(hb:b<n)(i:Nat):deg n (V4 g a b v) i=deg n g i+(if i=a\/i=b then b2 v - b2 (g a b) else 0):=by
 unfold deg
 by_cases e1:i=a
 ·subst e1
  rw[if_pos (.inl rfl),X6 (g:=fun j=>b2 (g i j)) hb (fun j _ hj=>by show b2 _=_;rw[N2 (by omega)])]
  show _+(b2 (V4 g i b v i b) - _)=_
  rw[aN4]
 ·by_cases e2:i=b
  ·subst e2
   rw[if_pos (.inr rfl),X6 (g:=fun j=>b2 (g i j)) ha (fun j _ hj=>by show b2 _=_;rw[N2 (by omega)])]
   show _+(b2 (V4 g a i v i a) - _)=_
   have:V4 g a i v i a=v:=if_pos (.inr ⟨rfl,rfl⟩)
   rw[this,h.sym i a]
  ·rw[if_neg (by omega),x8 (g:=fun j=>b2 (g i j)) fun j _=>by show b2 _=_;rw[N2 (by omega)]]
   omega
end Grf
namespace Thk
open Grf
section
variable {m:Nat} {M L:Int} {c x:Nat->Int}
def sz (m:Nat)(σ:Nat->Bool):Int:=S m fun j=>b2 (σ j)
def fV (m:Nat)(M:Int)(c:Nat->Int)(σ τ:Nat->Bool):Int:=S m (fun j=>(b2 (σ j) - b2 (τ j))*c j) - M*(sz m σ*((m:Int) - 1 - sz m τ))
def Apart (m:Nat)(σ τ:Nat->Bool):Prop:=∀ j,j<m->¬ (σ j=true/\τ j=true)
theorem al1 (u v w c k:Int):(u - v)*(c - k)=(u - w)*c - (v - w)*c - k*(u - v):=by
 rw[af0,R6 k (u - v),<- Int.sub_mul]
 have:u - w - (v - w)=u - v:=by omega
 rw[this]
theorem al2 (u v w c k:Int):(u - v)*(c - k)=(w - v)*c - (w - u)*c - k*(u - v):=by
 rw[af0,R6 k (u - v),<- Int.sub_mul]
 have:w - v - (w - u)=u - v:=by omega
 rw[this]
theorem bO5 (σ σ' τ:Nat->Bool):fV m M c σ' τ=fV m M c σ τ+S m (fun j=>(b2 (σ' j) - b2 (σ j))*(c j - M*((m:Int) - 1 - sz m τ))):=by
 unfold fV
 have e1:S m (fun j=>(b2 (σ' j) - b2 (σ j))*(c j - M*((m:Int) - 1 - sz m τ)))=S m (fun j=>(b2 (σ' j) - b2 (τ j))*c j - (b2 (σ j) - b2 (τ j))*c j - (M*((m:Int) - 1 - sz m τ))*(b2 (σ' j) - b2 (σ j))):=x8 fun j _=>al1 _ _ _ _ _
 rw[e1,G8,G8,aa1,G8]
 unfold sz
 have e2:M*((m:Int) - 1 - S m fun j=>b2 (τ j))*((S m fun j=>b2 (σ' j)) - S m fun j=>b2 (σ j))=M*((S m fun j=>b2 (σ' j))*((m:Int) - 1 - S m fun j=>b2 (τ j))) - M*((S m fun j=>b2 (σ j))*((m:Int) - 1 - S m fun j=>b2 (τ j))):=by
  rw[af0,P8,P8,R6 ((m:Int) - 1 - S m fun j=>b2 (τ j)),R6 ((m:Int) - 1 - S m fun j=>b2 (τ j))]
 rw[e2]
 omega
theorem bO4 (σ τ τ':Nat->Bool):fV m M c σ τ'=fV m M c σ τ - S m (fun j=>(b2 (τ' j) - b2 (τ j))*(c j - M*sz m σ)):=by
 unfold fV
 have e1:S m (fun j=>(b2 (τ' j) - b2 (τ j))*(c j - M*sz m σ))=S m (fun j=>(b2 (σ j) - b2 (τ j))*c j - (b2 (σ j) - b2 (τ' j))*c j - (M*sz m σ)*(b2 (τ' j) - b2 (τ j))):=x8 fun j _=>al2 _ _ _ _ _
 rw[e1,G8,G8,aa1,G8]
 have e2:M*sz m σ*((S m fun j=>b2 (τ' j)) - S m fun j=>b2 (τ j))=M*(sz m σ*((m:Int) - 1 - sz m τ)) - M*(sz m σ*((m:Int) - 1 - sz m τ')):=by
  rw[<- af0,<- af0,P8]
  congr 2
  unfold sz
  omega
 rw[e2]
 omega
theorem bh7 (σ τ:Nat->Bool)(hM:0<=M):fV m M c σ τ<=S m (fun j=>(c j).natAbs)+M*((m:Int)*(m:Int))+M*(m:Int):=by
 unfold fV
 have s0:0<=sz m σ/\sz m σ<=m:=⟨R1 fun j _=>F9 _,by
  have:S m (fun j=>b2 (σ j))<=S m (fun _=>1):=ae6 fun j _=>aL3 _
  rw[P3]at this
  unfold sz
  omega⟩
 have t0:0<=sz m τ/\sz m τ<=m:=⟨R1 fun j _=>F9 _,by
  have:S m (fun j=>b2 (τ j))<=S m (fun _=>1):=ae6 fun j _=>aL3 _
  rw[P3]at this
  unfold sz
  omega⟩
 have a:S m (fun j=>(b2 (σ j) - b2 (τ j))*c j)<=S m (fun j=>((c j).natAbs:Int)):=ae6 fun j _=>by
  cases σ j<;>cases τ j<;>simp[b2]<;>omega
 have b:-(sz m σ)<=sz m σ*((m:Int) - 1 - sz m τ):=by
  have:sz m σ*(-1)<=sz m σ*((m:Int) - 1 - sz m τ):=Q2 (by omega) s0.1
  omega
 have d:M*(-(m:Int))<=M*(sz m σ*((m:Int) - 1 - sz m τ)):=Q2 (by omega) hM
 have e:0<=M*((m:Int)*(m:Int)):=bi9 hM (bi9 (by omega) (by omega))
 rw[Int.mul_neg]at d
 omega
theorem cf7 (hM:0<=M){σ τ:Nat->Bool}(h:Apart m σ τ):∃ σ' τ',Apart m σ' τ'/\fV m M c σ τ<=fV m M c σ' τ'/\∀ σ₁ τ₁,Apart m σ₁ τ₁->fV m M c σ₁ τ₁<=fV m M c σ' τ':=by
 obtain⟨N,hN⟩:∃ N:Int,N=S m (fun j=>((c j).natAbs:Int))+M*((m:Int)*(m:Int))+M*(m:Int):=⟨_,rfl⟩
 have key:∀ (n:Nat) (σ τ:Nat->Bool),Apart m σ τ->(N - fV m M c σ τ).toNat=n->∃ σ' τ',Apart m σ' τ'/\fV m M c σ τ<=fV m M c σ' τ'/\∀ σ₁ τ₁,Apart m σ₁ τ₁->fV m M c σ₁ τ₁<=fV m M c σ' τ':=by
  intro n
  induction n using Nat.strongRecOn with
  | _ n ih =>
   intro σ τ ha hn
   by_cases hm:∀ σ₁ τ₁,Apart m σ₁ τ₁->fV m M c σ₁ τ₁<=fV m M c σ τ
   ·exact⟨σ,τ,ha,G6 _,hm⟩
   ·obtain⟨σ₁,h1⟩:=Classical.not_forall.mp hm
    obtain⟨τ₁,h2⟩:=Classical.not_forall.mp h1
    obtain⟨a1,h3⟩:=Classical.not_imp.mp h2
    have b1:=bh7 (m:=m) (c:=c) σ₁ τ₁ hM
    have b0:=bh7 (m:=m) (c:=c) σ τ hM
    rw[<- hN]at b0 b1
    obtain⟨σ',τ',q1,q2,q3⟩:=ih (N - fV m M c σ₁ τ₁).toNat (by omega) σ₁ τ₁ a1 rfl
    exact⟨σ',τ',q1,by omega,q3⟩
 exact key _ σ τ h rfl
end
section
variable {m:Nat} {M L:Int} {c x:Nat->Int}
def Mx (m:Nat)(M:Int)(c:Nat->Int)(σ τ:Nat->Bool):Prop:=Apart m σ τ/\∀ σ₁ τ₁,Apart m σ₁ τ₁->fV m M c σ₁ τ₁<=fV m M c σ τ
def pP (m:Nat)(M:Int)(σ:Nat->Bool):Int:=M*sz m σ
def qQ (m:Nat)(M:Int)(τ:Nat->Bool):Int:=M*((m:Int) - 1 - sz m τ)
def setB (σ:Nat->Bool)(i:Nat)(v:Bool):Nat->Bool:=fun j=>if j=i then v else σ j
theorem be4 {σ:Nat->Bool}{i:Nat}{v:Bool}:setB σ i v i=v:=if_pos rfl
theorem aN5 {σ:Nat->Bool}{i j:Nat}{v:Bool}(h:j≠i):setB σ i v j=σ j:=if_neg h
theorem bO6 (σ:Nat->Bool)(i:Nat)(v:Bool)(g:Nat->Int)(hi:i<m):S m (fun j=>(b2 (setB σ i v j) - b2 (σ j))*g j)=(b2 v - b2 (σ i))*g i:=by
 rw[X6 (g:=fun _=>0) hi (fun j _ hj=>by rw[aN5 hj];simp),N0,be4]
 omega
theorem ce4 {σ τ:Nat->Bool}(h:Mx m M c σ τ){j:Nat}(hj:j<m)(hs:σ j=false)(ht:τ j=false):c j<=qQ m M τ:=by
 have a:=h.2 (setB σ j true) τ (fun i hi ⟨u,v⟩=>by
  by_cases e:i=j
  ·subst e;rw[ht]at v;cases v
  ·rw[aN5 e]at u;exact h.1 i hi ⟨u,v⟩)
 rw[bO5 σ (setB σ j true) τ,bO6 σ j true _ hj,hs]at a
 unfold qQ
 simp only[Y2,T5]at a
 omega
theorem ci7 {σ τ:Nat->Bool}(h:Mx m M c σ τ){j:Nat}(hj:j<m)(ht:τ j=true):c j<=pP m M σ:=by
 have a:=h.2 σ (setB τ j false) (fun i hi ⟨u,v⟩=>by
  by_cases e:i=j
  ·subst e;rw[be4]at v;cases v
  ·rw[aN5 e]at v;exact h.1 i hi ⟨u,v⟩)
 rw[bO4 σ τ (setB τ j false),bO6 τ j false _ hj,ht]at a
 unfold pP
 simp only[Y2,T5]at a
 omega
theorem bs2 {σ σ' τ:Nat->Bool}(h:∀ j,j<m->σ' j≠σ j->c j=qQ m M τ):fV m M c σ' τ=fV m M c σ τ:=by
 rw[bO5 σ σ' τ,x8 (g:=fun _=>0) fun j hj=>?_,N0,bB6]
 by_cases e:σ' j=σ j
 ·rw[e,aQ6,aa4]
 ·rw[h j hj e];unfold qQ;rw[aQ6,R7]
theorem bs1 {σ τ τ':Nat->Bool}(h:∀ j,j<m->τ' j≠τ j->c j=pP m M σ):fV m M c σ τ'=fV m M c σ τ:=by
 rw[bO4 σ τ τ',x8 (g:=fun _=>0) fun j hj=>?_,N0,at7]
 by_cases e:τ' j=τ j
 ·rw[e,aQ6,aa4]
 ·rw[h j hj e];unfold pP;rw[aQ6,R7]
structure Shr (m:Nat) (M L:Int) (c x:Nat->Int):Prop where
 m1:1<=M
 x0:∀ j,j<m->0<=x j
 xM:∀ j,j<m->x j<=M
 lo:∀ j,j<m->0<x j->L - 1<=c j
 hi:∀ j,j<m->x j<M->c j<=L
 A:∀ σ τ,Apart m σ τ->fV m M c σ τ<=S m fun j=>b2 (σ j)*(M - x j)+b2 (τ j)*x j
 B:∀ σ τ,Apart m σ τ->fV m M c σ τ<=S m fun j=>(1+b2 (σ j) - b2 (τ j))*(M - x j)
 C:∀ σ τ,Apart m σ τ->fV m M c σ τ<=S m fun j=>(1 - b2 (σ j)+b2 (τ j))*x j
def full (M:Int)(x:Nat->Int)(σ:Nat->Bool):Nat->Bool:=fun j=>σ j && decide (x j=M)
theorem bO7 {g:Nat->Int}(h:∀ j,j<m->g j<=0):S m g<=0:=by
 have:=ae6 (g:=fun _=>0) h
 rw[N0]at this
 exact this
end
section
variable {m:Nat} {M L:Int} {c x:Nat->Int}
end
section
variable {m:Nat} {M L a:Int} {c x d:Nat->Int}
def Kk (n:Nat)(M:Int)(d:Nat->Int):Prop:=∀ σ τ,Apart n σ τ->fV n M d σ τ<=0
end
end Thk
namespace Grf
theorem az6 {n:Nat}{g:Nat->Nat->Bool}{x y:Nat}(h:Gph g)(hy:y<n)(hxy:x≠y):S n (fun z=>if z=x\/z=y then 0 else b2 (g x z))=deg n g x - b2 (g x y):=by
 unfold deg
 rw[X6 (f:=fun z=>if z=x\/z=y then 0 else b2 (g x z)) (g:=fun z=>b2 (g x z)) hy (fun i _ hi=>?_)]
 ·show _+((if y=x\/y=y then (0:Int) else _) - _)=_
  rw[if_pos (.inr rfl)];omega
 ·show (if i=x\/i=y then (0:Int) else _)=_
  by_cases e:i=x
  ·rw[if_pos (.inl e),e,h.irr];rfl
  ·rw[if_neg (by omega)]
theorem cf6 {n:Nat}{g:Nat->Nat->Bool}{x y:Nat}(h:Gph g)(hx:x<n)(hy:y<n)(hxy:x≠y)(hd:deg n g y<deg n g x):∃ z,z<n/\z≠x/\z≠y/\g x z=true/\g y z=false:=by
 have h1:=az6 h hy hxy
 have h2:=az6 h hx (Ne.symm hxy)
 have h3:S n (fun z=>if z=y\/z=x then 0 else b2 (g y z))<S n (fun z=>if z=x\/z=y then 0 else b2 (g x z)):=by
  rw[h1,h2,h.sym y x];omega
 obtain⟨z,hz,hlt⟩:=bL0 h3
 by_cases e:z=x\/z=y
 ·rw[if_pos (show z=y\/z=x by omega),if_pos e]at hlt
  exact absurd hlt (aG5 _)
 ·rw[if_neg (show ¬ (z=y\/z=x) by omega),if_neg e]at hlt
  refine⟨z,hz,by omega,by omega,?_⟩
  cases h4:g x z<;>cases h5:g y z<;>rw[h4,h5]at hlt<;>simp_all [b2]
theorem find3 {n:Nat}{g:Nat->Nat->Bool}{x y v:Nat}(h:Gph g)(hx:x<n)(hy:y<n)(hv:v<n)(hxy:x≠y)(hxv:x≠v)(hyv:y≠v)(hd:deg n g y<=deg n g x)(h1:g y v=true)(h2:g x v=false) :
  ∃ z,z<n/\z≠x/\z≠y/\z≠v/\g x z=true/\g y z=false:=by
 have e1:=az6 h hy hxy
 have e2:=az6 h hx (Ne.symm hxy)
 have f1:=X6 (f:=fun z=>if z=v then 0 else (if z=x\/z=y then 0 else b2 (g x z))) (g:=fun z=>if z=x\/z=y then 0 else b2 (g x z)) hv (fun i _ hi=>by show (if i=v then (0:Int) else _)=_;rw[if_neg hi])
 have f2:=X6 (f:=fun z=>if z=v then 0 else (if z=y\/z=x then 0 else b2 (g y z))) (g:=fun z=>if z=y\/z=x then 0 else b2 (g y z)) hv (fun i _ hi=>by show (if i=v then (0:Int) else _)=_;rw[if_neg hi])
 have g1:(if v=v then (0:Int) else (if v=x\/v=y then 0 else b2 (g x v))) - (if v=x\/v=y then 0 else b2 (g x v))=0:=by
  rw[if_pos rfl,if_neg (by omega),h2];rfl
 have g2:(if v=v then (0:Int) else (if v=y\/v=x then 0 else b2 (g y v))) - (if v=y\/v=x then 0 else b2 (g y v)) = -1:=by
  rw[if_pos rfl,if_neg (by omega),h1];rfl
 rw[g1,e1]at f1
 rw[g2,e2,h.sym y x]at f2
 have h3:S n (fun z=>if z=v then 0 else (if z=y\/z=x then 0 else b2 (g y z)))<S n (fun z=>if z=v then 0 else (if z=x\/z=y then 0 else b2 (g x z))):=by
  rw[f1,f2];omega
 obtain⟨z,hz,hlt⟩:=bL0 h3
 by_cases ev:z=v
 ·rw[if_pos ev,if_pos ev]at hlt
  exact absurd hlt (aG5 _)
 ·rw[if_neg ev,if_neg ev]at hlt
  by_cases e:z=x\/z=y
  ·rw[if_pos (show z=y\/z=x by omega),if_pos e]at hlt
   exact absurd hlt (aG5 _)
  ·rw[if_neg (show ¬ (z=y\/z=x) by omega),if_neg e]at hlt
   refine⟨z,hz,by omega,by omega,ev,?_⟩
   cases h4:g x z<;>cases h5:g y z<;>rw[h4,h5]at hlt<;>simp_all [b2]
def aH9 (g:Nat->Nat->Bool)(a b c d:Nat):Nat->Nat->Bool:=V4 (V4 (V4 (V4 g a b false) c d false) a d true) c b true
structure Ex (g:Nat->Nat->Bool) (a b c d:Nat):Prop where
 ab:a≠b
 ac:a≠c
 ad:a≠d
 bc:b≠c
 bd:b≠d
 cd:c≠d
 t1:g a b=true
 t2:g c d=true
 n1:g a d=false
 n2:g c b=false
theorem by7 {g:Nat->Nat->Bool}{a b c d:Nat}(h:Gph g)(x:Ex g a b c d):Gph (aH9 g a b c d):=
 P9 (P9 (P9 (P9 h x.ab) x.cd) x.ad) (Ne.symm x.bc)
theorem by8 {n:Nat}{g:Nat->Nat->Bool}{a b c d:Nat}(h:Gph g)(x:Ex g a b c d)(ha:a<n)(hb:b<n)(hc:c<n)(hd:d<n)(i:Nat):deg n (aH9 g a b c d) i=deg n g i:=by
 obtain⟨ab,ac,ad,bc,bd,cd,t1,t2,n1,n2⟩:=x
 unfold aH9
 have h1:=P9 (v:=false) h ab
 have h2:=P9 (v:=false) h1 cd
 have h3:=P9 (v:=true) h2 ad
 rw[W7 h3 (Ne.symm bc) hc hb,W7 h2 ad ha hd,W7 h1 cd hc hd,W7 h ab ha hb]
 have v1:V4 g a b false c d=true:=by rw[N2 (by omega)];exact t2
 have v2:V4 (V4 g a b false) c d false a d=false:=by rw[N2 (by omega),N2 (by omega)];exact n1
 have v3:V4 (V4 (V4 g a b false) c d false) a d true c b=false:=by rw[N2 (by omega),N2 (by omega),N2 (by omega)];exact n2
 rw[t1,v1,v2,v3,Y2,T5]
 by_cases ea:i=a
 ·subst ea
  rw[if_pos (.inl rfl),if_neg (by omega),if_pos (.inl rfl),if_neg (by omega)];omega
 ·by_cases eb:i=b
  ·subst eb
   rw[if_pos (.inr rfl),if_neg (by omega),if_neg (by omega),if_pos (.inr rfl)];omega
  ·by_cases ec:i=c
   ·subst ec
    rw[if_neg (by omega),if_pos (.inl rfl),if_neg (by omega),if_pos (.inl rfl)];omega
   ·by_cases ed:i=d
    ·subst ed
     rw[if_neg (by omega),if_pos (.inr rfl),if_pos (.inr rfl),if_neg (by omega)];omega
    ·rw[if_neg (by omega),if_neg (by omega),if_neg (by omega),if_neg (by omega)];omega
theorem aX1 {g:Nat->Nat->Bool}{a b c d:Nat}(x:Ex g a b c d)(j:Nat):aH9 g a b c d a j=if j=b then false else if j=d then true else g a j:=by
 obtain⟨ab,ac,ad,bc,bd,cd,t1,t2,n1,n2⟩:=x
 unfold aH9
 rw[N2 (by omega)]
 by_cases e:j=d
 ·subst e
  rw[aN4,if_neg (by omega),if_pos rfl]
 ·rw[N2 (by omega),N2 (by omega),if_neg e]
  by_cases e2:j=b
  ·subst e2
   rw[aN4,if_pos rfl]
  ·rw[N2 (by omega),if_neg e2]
theorem cf2 {n v:Nat}{N:Nat->Bool}(hv:v<n)(hNv:N v=false):∀ (m:Nat) (g:Nat->Nat->Bool),Gph g->S n (fun j=>b2 (N j))=deg n g v ->
  (∀ x y,x<n->y<n->N x=true->N y=false->y≠v->deg n g y<=deg n g x)->S n (fun j=>b2 (N j && !g v j))=(m:Int) ->
  ∃ g',Gph g'/\(∀ i,i<n->deg n g' i=deg n g i)/\∀ j,j<n->g' v j=N j:=by
 intro m
 induction m with
 | zero =>
  intro g h hs hd hm
  refine⟨g,h,fun _ _=>rfl,fun j hj=>?_⟩
  have all:∀ j,j<n->N j=true->g v j=true:=fun j hj hN=>by
   have:=ay1 (f:=fun j=>b2 (N j && !g v j)) hj (fun i _=>F9 _)
   rw[hm]at this
   cases hg:g v j with
   | true=>rfl
   | false =>
    have e:b2 (N j && !g v j)=1:=by rw[hN,hg];rfl
    have t:b2 (N j && !g v j)<=0:=this
    omega
  have dif:S n (fun j=>b2 (g v j) - b2 (N j))=0:=by rw[G8];unfold deg at hs;omega
  have pos:∀ i,i<n->0<=b2 (g v i) - b2 (N i):=fun i hi=>by
   cases hN:N i with
   | true=>rw[all i hi hN];decide
   | false=>have:=F9 (g v i);rw[T5];omega
  have:=ay1 (f:=fun j=>b2 (g v j) - b2 (N j)) hj pos
  rw[dif]at this
  have p:=pos j hj
  cases hN:N j with
  | true=>exact all j hj hN
  | false =>
   cases hg:g v j with
   | false=>rfl
   | true =>
    have t:b2 (g v j) - b2 (N j)<=0:=this
    rw[hN,hg,Y2,T5]at t
    omega
 | succ m ih =>
  intro g h hs hd hm
  obtain⟨x,hx,hlt⟩:∃ x,x<n/\(fun _=>(0:Int)) x<b2 (N x && !g v x):=bL0 (f:=fun _=>0) (g:=fun j=>b2 (N j && !g v j)) (by rw[N0,hm];omega)
  have hNx:N x=true/\g v x=false:=by
   cases h1:N x<;>cases h2:g v x<;>rw[h1,h2]at hlt<;>simp_all [b2]
  obtain⟨y,hy,hlt2⟩:∃ y,y<n/\b2 (N y)<b2 (g v y):=by
   by_cases hc:∃ y,y<n/\b2 (N y)<b2 (g v y)
   ·exact hc
   ·have pos:∀ i,i<n->0<=b2 (N i) - b2 (g v i):=fun i hi=>by
     have:¬ b2 (N i)<b2 (g v i):=fun z=>hc ⟨i,hi,z⟩
     omega
    have t:=ay1 (f:=fun j=>b2 (N j) - b2 (g v j)) hx pos
    have e:S n (fun j=>b2 (N j) - b2 (g v j))=0:=by rw[G8];unfold deg at hs;omega
    rw[e,show b2 (N x) - b2 (g v x)=1 by rw[hNx.1,hNx.2];rfl]at t
    omega
  have hNy:N y=false/\g v y=true:=by
   cases h1:N y<;>cases h2:g v y<;>rw[h1,h2]at hlt2<;>simp_all [b2]
  have xv:x≠v:=fun e=>by rw[e,hNv]at hNx;exact absurd hNx.1 (by decide)
  have yv:y≠v:=fun e=>by rw[e,h.irr]at hNy;exact absurd hNy.2 (by decide)
  have xy:x≠y:=fun e=>by rw[e,hNy.1]at hNx;exact absurd hNx.1 (by decide)
  obtain⟨z,hz,zx,zy,zv,h1,h2⟩:=find3 h hx hy hv xy xv yv (hd x y hx hy hNx.1 hNy.1 yv) (by rw[h.sym];exact hNy.2) (by rw[h.sym];exact hNx.2)
  have ex:Ex g v y z x:=⟨Ne.symm yv,Ne.symm zv,Ne.symm xv,Ne.symm zy,Ne.symm xy,zx,hNy.2,by rw[h.sym];exact h1,hNx.2,by rw[h.sym];exact h2⟩
  have dg:=by8 h ex hv hy hz hx
  obtain⟨g',k1,k2,k3⟩:=ih (aH9 g v y z x) (by7 h ex) (by rw[dg];exact hs) (fun a b ha hb n1 n2 n3=>by rw[dg,dg];exact hd a b ha hb n1 n2 n3) (by
   have:=X6 (f:=fun j=>b2 (N j && !aH9 g v y z x v j)) (g:=fun j=>b2 (N j && !g v j)) hx (fun j _ hj=>by
    show b2 (N j && !aH9 g v y z x v j)=_
    rw[aX1 ex]
    by_cases e:j=y
    ·rw[if_pos e,e,hNy.1];rfl
    ·rw[if_neg e,if_neg hj])
   rw[this,hm]
   have e1:aH9 g v y z x v x=true:=by rw[aX1 ex,if_neg xy,if_pos rfl]
   show _+(b2 (N x && !aH9 g v y z x v x) - b2 (N x && !g v x))=_
   rw[e1,hNx.1,hNx.2]
   show ((m+1:Nat):Int)+(0 - 1)=_
   omega)
  exact⟨g',k1,fun i hi=>by rw[k2 i hi,dg],k3⟩
end Grf
namespace Grf
def cnt (n:Nat)(a:Nat->Bool):Int:=S n fun i=>b2 (a i)
def sm (n:Nat)(a:Nat->Bool)(d:Nat->Int):Int:=S n fun i=>if a i=true then d i else 0
def put (a:Nat->Bool)(j:Nat)(v:Bool):Nat->Bool:=fun i=>if i=j then v else a i
theorem au4 {a:Nat->Bool}{j:Nat}{v:Bool}:put a j v j=v:=if_pos rfl
theorem ac8 {a:Nat->Bool}{i j:Nat}{v:Bool}(h:i≠j):put a j v i=a i:=if_neg h
theorem ag6 {n j:Nat}{a:Nat->Bool}{v:Bool}(h:j<n):cnt n (put a j v)=cnt n a+(b2 v - b2 (a j)):=by
 unfold cnt
 rw[X6 (g:=fun i=>b2 (a i)) h (fun i _ hi=>by show b2 (put a j v i)=_;rw[ac8 hi])]
 show _+(b2 (put a j v j) - _)=_
 rw[au4]
theorem ao3 {n j:Nat}{a:Nat->Bool}{v:Bool}{d:Nat->Int}(h:j<n):sm n (put a j v) d=sm n a d+((if v=true then d j else 0) - (if a j=true then d j else 0)):=by
 unfold sm
 rw[X6 (g:=fun i=>if a i=true then d i else 0) h (fun i _ hi=>by show (if put a j v i=true then d i else 0)=_;rw[ac8 hi])]
 show _+((if put a j v j=true then d j else 0) - _)=_
 rw[au4]
theorem V9 (n:Nat)(a:Nat->Bool):0<=cnt n a:=R1 fun i _=>F9 _
theorem az7 {n:Nat}{a b:Nat->Bool}(h:∀ i,a i=true->b i=false):cnt n a+cnt n b<=n:=by
 unfold cnt
 rw[<- U5]
 have:=ae6 (f:=fun i=>b2 (a i)+b2 (b i)) (g:=fun _=>1) (n:=n) (fun i _=>by
  show b2 (a i)+b2 (b i)<=1
  cases ha:a i with
  | true=>rw[h i ha];decide
  | false=>have:=aL3 (b i);rw[T5];omega)
 rw[P3]at this
 omega
theorem aP6 {n j:Nat}{a b:Nat->Bool}(h:∀ i,a i=true->b i=false)(hj:j<n)(ha:a j=false)(hb:b j=false):cnt n a+cnt n b+1<=n:=by
 have:=az7 (n:=n) (a:=put a j true) (b:=b) (fun i hi=>by
  by_cases e:i=j
  ·rw[e];exact hb
  ·rw[ac8 e]at hi;exact h i hi)
 rw[ag6 hj,ha,Y2,T5]at this
 omega
theorem bz6 {n:Nat}{a:Nat->Bool}(h:∀ i,i<n->a i=false):cnt n a=0:=by
 unfold cnt
 rw[x8 (g:=fun _=>0) fun i hi=>by rw[h i hi];rfl]
 exact N0 n
theorem al0 {n:Nat}{a:Nat->Bool}{d:Nat->Int}(h:∀ i,i<n->a i=false):sm n a d=0:=by
 unfold sm
 rw[x8 (g:=fun _=>0) fun i hi=>by rw[h i hi];rfl]
 exact N0 n
theorem br7 {n j:Nat}{a:Nat->Bool}{d:Nat->Int}(hd:∀ i,i<n->0<=d i)(hj:j<n)(ha:a j=true):d j<=sm n a d:=by
 have:=ay1 (f:=fun i=>if a i=true then d i else 0) hj (fun i hi=>by
  cases a i with
  | true=>exact hd i hi
  | false=>exact G6 _)
 have e:(if a j=true then d j else 0)=d j:=if_pos ha
 unfold sm
 show d j<=_
 rw[<- e]
 exact this
theorem at9 {n:Nat}{a:Nat->Bool}{d:Nat->Int}(hd:∀ i,i<n->0<=d i):0<=sm n a d:=R1 fun i hi=>by
 cases a i with
 | true=>exact hd i hi
 | false=>exact G6 _
theorem bR6 {n i j:Nat}{a:Nat->Bool}{d:Nat->Int}(hd:∀ i,i<n->0<=d i)(hi:i<n)(hj:j<n)(hij:i≠j)(h1:a i=true)(h2:a j=true):d i+d j<=sm n a d:=by
 have e:=ao3 (d:=d) (a:=a) (v:=false) hi
 rw[h1,if_pos rfl,if_neg (by decide)]at e
 have:=br7 (a:=put a i false) hd hj (by rw[ac8 (Ne.symm hij)];exact h2)
 omega
theorem cc3 {n:Nat}{a:Nat->Bool}{d:Nat->Int}{m:Int}(h:∀ i,i<n->a i=true->d i<=m):sm n a d<=cnt n a*m:=by
 have e:cnt n a*m=S n (fun i=>m*b2 (a i)):=by rw[aa1,R6];rfl
 rw[e]
 refine ae6 fun i hi=>?_
 cases ha:a i with
 | true=>rw[if_pos rfl,Y2,L0];exact h i hi ha
 | false=>rw[if_neg (by decide),T5,R7];exact G6 _
theorem cc4 {n:Nat}{a:Nat->Bool}{d:Nat->Int}{m:Int}(h:∀ i,i<n->a i=true->d i=m):sm n a d=cnt n a*m:=by
 have e:cnt n a*m=S n (fun i=>m*b2 (a i)):=by rw[aa1,R6];rfl
 rw[e]
 refine x8 fun i hi=>?_
 cases ha:a i with
 | true=>rw[if_pos rfl,Y2,L0];exact h i hi ha
 | false=>rw[if_neg (by decide),T5,R7]
theorem az8 {n:Nat}{a:Nat->Bool}(h:cnt n a≠0):∃ i,i<n/\a i=true:=by
 by_cases hc:∃ i,i<n/\a i=true
 ·exact hc
 ·exact absurd (bz6 fun i hi=>by
   cases ha:a i with
   | false=>rfl
   | true=>exact absurd ⟨i,hi,ha⟩ hc) h
theorem cover {n:Nat}{a b:Nat->Bool}{d:Nat->Int}(h:∀ i,a i=true->b i=false)(hc:cnt n a+cnt n b=n):sm n a d+sm n b d=S n d:=by
 unfold sm
 rw[<- U5]
 refine x8 fun i hi=>?_
 cases ha:a i with
 | true=>rw[h i ha,if_pos rfl,if_neg (by decide)];omega
 | false =>
  cases hb:b i with
  | true=>rw[if_neg (by decide),if_pos rfl];omega
  | false=>have:=aP6 h hi ha hb;omega
def aL5 (n:Nat)(d:Nat->Int):Prop:=∀ a b:Nat->Bool,(∀ i,a i=true->b i=false)->sm n a d<=cnt n a*((n:Int) - 1 - cnt n b)+sm n b d
theorem bK4 (k:Int):∃ q,k*(k - 1)=2*q:=by
 rcases Int.emod_two_eq k with h | h
 ·exact⟨(k / 2)*(k - 1),by
   have:k=2*(k / 2):=by omega
   rw[<- P8,<- this]⟩
 ·exact⟨k*((k - 1) / 2),by
   have:k - 1=2*((k - 1) / 2):=by omega
   rw[Int.mul_left_comm,<- this]⟩
theorem bz2 {a b:Nat->Bool}(h:∀ i,a i=true->b i=false)(x y:Nat):∀ i,put a x false i=true->put b y false i=false:=fun i hi=>by
 by_cases e:i=x
 ·rw[e,au4]at hi;cases hi
 ·rw[ac8 e]at hi
  by_cases e2:i=y
  ·rw[e2,au4]
  ·rw[ac8 e2];exact h i hi
theorem bw6 {n t u:Nat}{d:Nat->Int}(K:aL5 n d)(hd:∀ i,i<n->0<=d i)(ev:∃ q,S n d=2*q)(ht:t<n)(hu:u<n)(htu:t≠u)(hup:0<d u)(hmax:∀ i,i<n->d i<=d t)(hmin:∀ i,i<n->0<d i->d u<=d i) :
  aL5 n (fun i=>d i - (if i=t then 1 else 0) - (if i=u then 1 else 0)):=by
 intro a b hab
 have hdt:d u<=d t:=hmax u hu
 have lower:∀ c:Nat->Bool,sm n c (fun i=>d i - (if i=t then 1 else 0) - (if i=u then 1 else 0))=sm n c d - b2 (c t) - b2 (c u):=fun c=>by
  have e:sm n c (fun i=>d i - (if i=t then 1 else 0) - (if i=u then 1 else 0))=S n (fun i=>(if c i=true then d i else 0) - (if i=t then b2 (c t) else 0) - (if i=u then b2 (c u) else 0)):=x8 fun i hi=>by
   show (if c i=true then (d i - (if i=t then 1 else 0) - (if i=u then 1 else 0)) else 0)=_
   by_cases e1:i=t
   ·subst e1
    rw[if_pos rfl,if_pos rfl,if_neg htu,if_neg htu]
    cases c i with
    | true=>rfl
    | false=>rfl
   ·rw[if_neg e1,if_neg e1]
    by_cases e2:i=u
    ·subst e2
     rw[if_pos rfl,if_pos rfl]
     cases c i with
     | true=>rfl
     | false=>rfl
    ·rw[if_neg e2,if_neg e2]
     cases c i with
     | true=>rw[if_pos rfl,if_pos rfl]
     | false=>rw[if_neg (by decide),if_neg (by decide)];omega
  rw[e,G8,G8,as3 _ ht,as3 _ hu]
  rfl
 rw[lower a,lower b]
 have K0:=K a b hab
 have ka:=V9 n a
 have kb:=V9 n b
 have kr:=az7 (n:=n) hab
 have sb:=at9 (a:=b) hd
 have ba:=fun x=>F9 (a x)
 have ab:=fun x=>aL3 (a x)
 generalize hk:cnt n a=k at *
 generalize hl:cnt n b=l at *
 have pq:k*((n:Int) - 1 - l)=k*(n:Int) - k - k*l:=by rw[af0,af0,L0]
 have rem:∀ s,s<n->a s=true->b t=true->sm n a d+((n:Int) - k - l)+d t - d s<=k*((n:Int) - 1 - l)+sm n b d:=fun s hs has hbt=>by
  have:=K (put a s false) (put b t false) (bz2 hab s t)
  rw[ao3 hs,ao3 ht,ag6 hs,ag6 ht,has,hbt,hk,hl]at this
  simp only[if_true,Y2,T5,o6,if_false]at this
  have e:(k+(0 - 1))*((n:Int) - 1 - (l+(0 - 1)))=k*((n:Int) - 1 - l)+k - (n:Int)+l:=by grind
  rw[e]at this
  omega
 have mov:b t=true->a t=false->sm n a d+d t<=(k+1)*((n:Int) - l)+sm n b d - d t:=fun hbt hat=>by
  have dj:∀ i,put a t true i=true->put b t false i=false:=fun i hi=>by
   by_cases e:i=t
   ·rw[e,au4]
   ·rw[ac8 e]at hi;rw[ac8 e];exact hab i hi
  have:=K (put a t true) (put b t false) dj
  rw[ao3 ht,ao3 ht,ag6 ht,ag6 ht,hat,hbt,hk,hl]at this
  simp only[if_true,Y2,T5,o6,if_false]at this
  have e:(k+(1 - 0))*((n:Int) - 1 - (l+(0 - 1)))=(k+1)*((n:Int) - l):=by grind
  rw[e]at this
  omega
 have nota:∀ i,b i=true->a i=false:=fun i hi=>by
  cases h:a i with
  | false=>rfl
  | true=>rw[hab i h]at hi;cases hi
 have empty:k=0->sm n a d=0:=fun hk0=>al0 fun i hi=>by
  cases h:a i with
  | false=>rfl
  | true =>
   have:=ay1 (f:=fun i=>b2 (a i)) hi (fun i _=>F9 _)
   have e:b2 (a i)=1:=by rw[h];rfl
   unfold cnt at hk
   have t:b2 (a i)<=S n (fun i=>b2 (a i)):=this
   omega
 cases hbt:b t with
 | false =>
  cases hbu:b u with
  | false=>have h1:=ba t;have h2:=ba u;rw[T5];omega
  | true =>
   rw[Y2,T5]
   cases hat:a t with
   | true=>have h2:=ba u;rw[Y2];omega
   | false =>
    rw[nota u hbu,T5]
    have dub:=br7 hd hu hbu
    have out:=aP6 hab ht hat hbt
    rw[hk,hl]at out
    by_cases c1:k+1<=d u
    ·have:=K a (put b u false) (fun i hi=>by
      by_cases e:i=u
      ·rw[e,au4]
      ·rw[ac8 e];exact hab i hi)
     rw[ao3 hu,ag6 hu,hbu,hk,hl]at this
     simp only[if_true,Y2,T5,o6,if_false]at this
     have e:k*((n:Int) - 1 - (l+(0 - 1)))=k*((n:Int) - 1 - l)+k:=by grind
     rw[e]at this
     omega
    ·by_cases c2:(n:Int) - l<=d t
     ·have:=K (put a t true) b (fun i hi=>by
       by_cases e:i=t
       ·rw[e];exact hbt
       ·rw[ac8 e]at hi;exact hab i hi)
      rw[ao3 ht,ag6 ht,hat,hk,hl]at this
      simp only[if_true,Y2,T5,o6,if_false]at this
      have e:(k+(1 - 0))*((n:Int) - 1 - l)=k*((n:Int) - 1 - l)+((n:Int) - 1 - l):=by grind
      rw[e]at this
      omega
     ·have h1:=cc3 (a:=a) (d:=d) (m:=(n:Int) - 1 - l) (n:=n) (fun i hi _=>by have:=hmax i hi;omega)
      rw[hk]at h1
      omega
 | true =>
  have hat:=nota t hbt
  rw[hat,Y2,T5]
  cases hbu:b u with
  | false =>
   rw[T5]
   cases hau:a u with
   | true=>rw[Y2];omega
   | false =>
    rw[T5]
    have out:=aP6 hab hu hau hbu
    rw[hk,hl]at out
    by_cases k0:k=0
    ·have h1:=empty k0
     have h2:=br7 hd ht hbt
     rw[h1,k0,aa4]
     omega
    ·obtain⟨s,hs,has⟩:=az8 (n:=n) (a:=a) (by rw[hk];exact k0)
     have h1:=rem s hs has hbt
     have h2:=hmax s hs
     omega
  | true =>
   rw[nota u hbu,Y2,T5]
   have two:=bR6 hd ht hu htu hbt hbu
   by_cases k0:k=0
   ·have h1:=empty k0
    rw[h1,k0,aa4]
    omega
   ·-- slack even where there is no place besides
    have par:(n:Int) - k - l=0->sm n a d<k*((n:Int) - 1 - l)+sm n b d->sm n a d+2<=k*((n:Int) - 1 - l)+sm n b d:=fun r0 hlt=>by
     obtain⟨q,hq⟩:=ev
     have cv:=cover (d:=d) hab (by rw[hk,hl];omega)
     obtain⟨q2,hq2⟩:=bK4 k
     have e:k*((n:Int) - 1 - l)=k*(k - 1):=by rw[show (n:Int) - 1 - l=k - 1 by omega]
     rw[e]at hlt ⊢
     omega
    by_cases hex:∃ s,s<n/\a s=true/\d s<d t
    ·obtain⟨s,hs,has,hlt⟩:=hex
     have h1:=rem s hs has hbt
     by_cases r0:(n:Int) - k - l=0
     ·have:=par r0 (by omega);omega
     ·omega
    ·have all:∀ i,i<n->a i=true->d i=d t:=fun i hi hai=>by
      have h1:=hmax i hi
      have h2:¬ d i<d t:=fun z=>hex ⟨i,hi,hai,z⟩
      omega
     obtain⟨s,hs,has⟩:=az8 (n:=n) (a:=a) (by rw[hk];exact k0)
     have h1:=rem s hs has hbt
     have h2:=all s hs has
     have mv:=mov hbt hat
     have sa:=cc4 (a:=a) (d:=d) (n:=n) all
     rw[hk]at sa
     generalize d t=m at *
     by_cases r2:2<=(n:Int) - k - l
     ·omega
     ·by_cases r1:(n:Int) - k - l=1
      ·have e1:(n:Int) - 1 - l=k:=by omega
       have e2:(n:Int) - l=k+1:=by omega
       rw[e1]
       rw[e2,sa]at mv
       rw[sa]
       have x1:(k+1)*(k+1)=k*k+2*k+1:=by grind
       rw[x1]at mv
       by_cases c1:m<=k
       ·have:=Q2 c1 ka
        omega
       ·by_cases c2:m=k+1
        ·rw[c2,aZ0,L0];omega
        ·omega
      ·have r0:(n:Int) - k - l=0:=by omega
       have e1:(n:Int) - 1 - l=k - 1:=by omega
       have e2:(n:Int) - l=k:=by omega
       have pr:=par r0
       rw[e1]at pr ⊢
       rw[e2,sa]at mv
       rw[sa]at pr ⊢
       have x1:(k+1)*k=k*k+k:=by grind
       have x2:k*(k - 1)=k*k - k:=by grind
       rw[x1]at mv
       rw[x2]at pr ⊢
       by_cases c1:m<=k - 1
       ·have:=Q2 c1 ka
        rw[x2]at this
        omega
       ·by_cases c2:m=k
        ·subst c2
         have:=pr (by omega)
         omega
        ·omega
end Grf
namespace Grf
theorem bc6 {p:Nat->Prop}{f:Nat->Int}:∀ {n:Nat},(∃ i,i<n/\p i)->∃ u,u<n/\p u/\∀ i,i<n->p i->f u<=f i:=by
 intro n
 induction n with
 | zero=>rintro⟨i,h,_⟩;omega
 | succ n ih =>
  rintro⟨i,hi,pi⟩
  by_cases h:∃ i,i<n/\p i
  ·obtain⟨u,hu,pu,hm⟩:=ih h
   by_cases c:p n/\f n<f u
   ·refine⟨n,by omega,c.1,fun j hj pj=>?_⟩
    by_cases e:j=n
    ·rw[e];exact G6 _
    ·have:=hm j (by omega) pj;have:=c.2;omega
   ·refine⟨u,by omega,pu,fun j hj pj=>?_⟩
    by_cases e:j=n
    ·subst e
     have:¬ f j<f u:=fun z=>c ⟨pj,z⟩
     omega
    ·exact hm j (by omega) pj
  ·have e:i=n:=by
    by_cases e:i=n
    ·exact e
    ·exact absurd ⟨i,by omega,pi⟩ h
   subst e
   refine⟨i,by omega,pi,fun j hj pj=>?_⟩
   by_cases e:j=i
   ·rw[e];exact G6 _
   ·exact absurd ⟨j,by omega,pj⟩ h
theorem bX5 {p:Nat->Prop}{f:Nat->Int}{n:Nat}(h:∃ i,i<n/\p i):∃ u,u<n/\p u/\∀ i,i<n->p i->f i<=f u:=by
 obtain⟨u,h1,h2,h3⟩:=bc6 (f:=fun i=>-f i) h
 exact⟨u,h1,h2,fun i hi pi=>by have:=h3 i hi pi;omega⟩
theorem by0:∀ (m n:Nat) (d:Nat->Int),(∀ i,i<n->0<=d i)->aL5 n d->S n d=2*(m:Int)->∃ g,Gph g/\∀ i,i<n->deg n g i=d i:=by
 intro m
 induction m with
 | zero =>
  intro n d hd K hs
  refine⟨fun _ _=>false,⟨fun _ _=>rfl,fun _=>rfl⟩,fun i hi=>?_⟩
  have h1:=ay1 hi hd
  have h2:=hd i hi
  have h3:deg n (fun _ _=>false) i=0:=N0 n
  rw[h3]
  have:S n d=0:=by rw[hs];rfl
  omega
 | succ m ih =>
  intro n d hd K hs
  have hpos:∃ i,i<n/\0<d i:=by
   have:=bL0 (f:=fun _=>0) (g:=d) (n:=n) (by rw[N0,hs];omega)
   exact this
  obtain⟨t,ht,htp,hmax0⟩:=bX5 (p:=fun i=>0<d i) (f:=d) hpos
  have hmax:∀ i,i<n->d i<=d t:=fun i hi=>by
   by_cases c:0<d i
   ·exact hmax0 i hi c
   ·omega
  have cb:cnt n (fun i=>decide (i≠t/\d i<=0))+cnt n (fun i=>decide (i≠t/\0<d i))+1=n:=by
   unfold cnt
   have e:=as3 (n:=n) (j:=t) 1 ht
   rw[<- U5]
   have:S n (fun i=>(b2 (decide (i≠t/\d i<=0))+b2 (decide (i≠t/\0<d i)))+(if i=t then 1 else 0))=(n:Int)*1:=by
    rw[<- P3]
    refine x8 fun i hi=>?_
    by_cases e1:i=t
    ·subst e1;simp[b2]
    ·by_cases c:0<d i
     ·have c':¬ d i<=0:=by omega
      simp[b2,e1,c,c']
     ·have c':d i<=0:=by omega
      simp[b2,e1,c,c']
   rw[U5,e]at this
   show S n (fun i=>b2 (decide (i≠t/\d i<=0))+b2 (decide (i≠t/\0<d i)))+1=_
   omega
  have ca:cnt n (fun i=>decide (i=t))=1:=by
   unfold cnt
   rw[x8 (g:=fun i=>if i=t then 1 else 0) fun i _=>by by_cases e:i=t<;>simp[b2,e]]
   exact as3 1 ht
  have sa:sm n (fun i=>decide (i=t)) d=d t:=by
   unfold sm
   rw[x8 (g:=fun i=>if i=t then d t else 0) fun i _=>by by_cases e:i=t<;>simp[e]]
   exact as3 _ ht
  have sb:sm n (fun i=>decide (i≠t/\d i<=0)) d=0:=by
   unfold sm
   rw[x8 (g:=fun _=>0) fun i hi=>by
    by_cases e:i≠t/\d i<=0
    ·have:=hd i hi
     rw[if_pos (decide_eq_true e)]
     have:=e.2
     omega
    ·rw[if_neg (show ¬ decide (i≠t/\d i<=0)=true by rw[decide_eq_false e];decide)]]
   exact N0 n
  have kt:=K (fun i=>decide (i=t)) (fun i=>decide (i≠t/\d i<=0)) (fun i hi=>by
   have:i=t:=of_decide_eq_true hi
   exact decide_eq_false fun z=>z.1 this)
  rw[ca,sa,sb,aA3]at kt
  have hoth:∃ i,i<n/\(i≠t/\0<d i):=by
   obtain⟨i,hi,h⟩:=az8 (n:=n) (a:=fun i=>decide (i≠t/\0<d i)) (by omega)
   exact⟨i,hi,of_decide_eq_true h⟩
  obtain⟨u,hu,⟨hut,hup⟩,hmin0⟩:=bc6 (p:=fun i=>i≠t/\0<d i) (f:=d) hoth
  have hmin:∀ i,i<n->0<d i->d u<=d i:=fun i hi hp=>by
   by_cases e:i=t
   ·rw[e];exact hmax u hu
   ·exact hmin0 i hi ⟨e,hp⟩
  have htu:t≠u:=Ne.symm hut
  have K':=bw6 K hd ⟨_,hs⟩ ht hu htu hup hmax hmin
  obtain⟨g,hg,dg⟩:=ih n _ (fun i hi=>by
   show 0<=d i - (if i=t then 1 else 0) - (if i=u then 1 else 0)
   by_cases e1:i=t
   ·subst e1;rw[if_pos rfl,if_neg htu];omega
   ·by_cases e2:i=u
    ·subst e2;rw[if_neg e1,if_pos rfl];omega
    ·rw[if_neg e1,if_neg e2];have:=hd i hi;omega) K' (by
   rw[G8,G8,as3 _ ht,as3 _ hu,hs];omega)
  cases hgu:g t u with
  | false =>
   refine⟨V4 g t u true,P9 hg htu,fun i hi=>?_⟩
   rw[W7 hg htu ht hu,dg i hi,hgu,Y2,T5]
   show d i - (if i=t then 1 else 0) - (if i=u then 1 else 0)+_=_
   by_cases e1:i=t
   ·subst e1;rw[if_pos rfl,if_neg htu,if_pos (.inl rfl)];omega
   ·by_cases e2:i=u
    ·subst e2;rw[if_neg e1,if_pos rfl,if_pos (.inr rfl)];omega
    ·rw[if_neg e1,if_neg e2,if_neg (by omega)];omega
  | true =>
   obtain⟨s,hs1,hst,hsp,hgs⟩:∃ s,s<n/\s≠t/\0<d s/\g t s=false:=by
    by_cases hc:∃ s,s<n/\s≠t/\0<d s/\g t s=false
    ·exact hc
    ·have le:cnt n (fun i=>decide (i≠t/\0<d i))<=deg n g t:=ae6 fun i hi=>by
      show b2 (decide (i≠t/\0<d i))<=b2 (g t i)
      by_cases e:i≠t/\0<d i
      ·have:g t i=true:=by
        cases h:g t i with
        | true=>rfl
        | false=>exact absurd ⟨i,hi,e.1,e.2,h⟩ hc
       rw[this,decide_eq_true e];exact G6 _
      ·rw[decide_eq_false e];exact F9 _
     have dt:=dg t ht
     have dt':deg n g t=d t - 1 - 0:=by
      rw[dt]
      show d t - (if t=t then 1 else 0) - (if t=u then 1 else 0)=_
      rw[if_pos rfl,if_neg htu]
     omega
   have su:s≠u:=fun e=>by rw[e,hgu]at hgs;cases hgs
   have ds:deg n g s=d s:=by
    rw[dg s hs1]
    show d s - (if s=t then 1 else 0) - (if s=u then 1 else 0)=_
    rw[if_neg hst,if_neg su];omega
   have du:deg n g u=d u - 1:=by
    rw[dg u hu]
    show d u - (if u=t then 1 else 0) - (if u=u then 1 else 0)=_
    rw[if_neg hut,if_pos rfl];omega
   obtain⟨z,hz,zs,zu,h1,h2⟩:=cf6 hg hs1 hu su (by have:=hmin s hs1 hsp;omega)
   have zt:z≠t:=fun e=>by rw[e,hg.sym,hgs]at h1;cases h1
   have g1:=P9 (v:=false) hg (Ne.symm zs)
   have g2:=P9 (v:=true) g1 (Ne.symm hst)
   refine⟨V4 (V4 (V4 g s z false) t s true) u z true,P9 g2 (Ne.symm zu),fun i hi=>?_⟩
   rw[W7 g2 (Ne.symm zu) hu hz,W7 g1 (Ne.symm hst) ht hs1,W7 hg (Ne.symm zs) hs1 hz,dg i hi]
   have v1:V4 g s z false t s=false:=by rw[N2 (by omega)];exact hgs
   have v2:V4 (V4 g s z false) t s true u z=false:=by rw[N2 (by omega),N2 (by omega)];exact h2
   rw[h1,v1,v2,Y2,T5]
   show d i - (if i=t then 1 else 0) - (if i=u then 1 else 0)+_+_+_=_
   by_cases e1:i=t
   ·subst e1;rw[if_pos rfl,if_neg htu,if_neg (by omega),if_pos (.inl rfl),if_neg (by omega)];omega
   ·by_cases e2:i=u
    ·subst e2;rw[if_neg e1,if_pos rfl,if_neg (by omega),if_neg (by omega),if_pos (.inl rfl)];omega
    ·rw[if_neg e1,if_neg e2]
     by_cases e3:i=s
     ·subst e3;rw[if_pos (.inl rfl),if_pos (.inr rfl),if_neg (by omega)];omega
     ·by_cases e4:i=z
      ·subst e4;rw[if_pos (.inr rfl),if_neg (by omega),if_pos (.inr rfl)];omega
      ·rw[if_neg (by omega),if_neg (by omega),if_neg (by omega)];omega
theorem bw5 {n:Nat}{g:Nat->Nat->Bool}{d:Nat->Int}(hg:Gph g)(dg:∀ i,i<n->deg n g i=d i):aL5 n d:=by
 intro a b hab
 have e1:sm n a d=S n (fun i=>S n (fun j=>if a i=true then (if b j=true then b2 (g i j) else 0) else 0))+S n (fun i=>S n (fun j=>if a i=true then (if b j=true then 0 else b2 (g i j)) else 0)):=by
  rw[<- U5]
  refine x8 fun i hi=>?_
  rw[<- U5]
  cases a i with
  | true =>
   rw[if_pos rfl,<- dg i hi]
   refine x8 fun j _=>?_
   cases b j with
   | true=>simp
   | false=>simp
  | false =>
   rw[if_neg (by decide),x8 (g:=fun _=>0) fun j _=>by simp,N0]
 have e2:S n (fun i=>S n (fun j=>if a i=true then (if b j=true then b2 (g i j) else 0) else 0))<=sm n b d:=by
  rw[bA6]
  refine ae6 fun j hj=>?_
  cases hb:b j with
  | true =>
   rw[if_pos rfl,<- dg j hj]
   refine ae6 fun i _=>?_
   show (if a i=true then (if true=true then b2 (g i j) else 0) else 0)<=b2 (g j i)
   rw[if_pos rfl,hg.sym j i]
   cases a i with
   | true=>rw[if_pos rfl];exact G6 _
   | false=>rw[if_neg (by decide)];exact F9 _
  | false =>
   rw[if_neg (by decide)]
   have:S n (fun i=>if a i=true then (if false=true then b2 (g i j) else 0) else 0)=0:=by
    rw[x8 (g:=fun _=>0) fun i _=>by simp]
    exact N0 n
   rw[this]
   exact G6 _
 have e3:S n (fun i=>S n (fun j=>if a i=true then (if b j=true then 0 else b2 (g i j)) else 0))<=cnt n a*((n:Int) - 1 - cnt n b):=by
  have:cnt n a*((n:Int) - 1 - cnt n b)=S n (fun i=>((n:Int) - 1 - cnt n b)*b2 (a i)):=by rw[aa1,R6];rfl
  rw[this]
  refine ae6 fun i hi=>?_
  cases ha:a i with
  | true =>
   rw[Y2,L0]
   have hbi:=hab i ha
   have t:S n (fun j=>if true=true then (if b j=true then 0 else b2 (g i j)) else 0)<=S n (fun j=>(1 - b2 (b j)) - (if j=i then 1 else 0)):=ae6 fun j hj=>by
    show (if true=true then (if b j=true then 0 else b2 (g i j)) else 0)<=_
    rw[if_pos rfl]
    by_cases e:j=i
    ·subst e
     rw[hbi,if_neg (by decide),hg.irr,if_pos rfl];decide
    ·rw[if_neg e]
     cases b j with
     | true=>rw[if_pos rfl];decide
     | false=>rw[if_neg (by decide)];have:=aL3 (g i j);rw[T5];omega
   rw[G8,G8,as3 _ hi,P3,L0]at t
   unfold cnt
   omega
  | false =>
   rw[T5,R7,x8 (g:=fun _=>0) fun j _=>by simp,N0]
   exact G6 _
 omega
end Grf
namespace Grf
def mnf (r x:Int):Int:=if r<x then r else x
theorem bg5 (r x:Int):mnf r x<=x:=by unfold mnf;split<;>omega
theorem aO4 (r x:Int):mnf r x<=r:=by unfold mnf;split<;>omega
theorem aV4 {r x y:Int}(h:x<=y):mnf r x<=mnf r y:=by unfold mnf;split<;>split<;>omega
def roomF (n:Nat)(d:Nat->Int)(A:Nat->Bool):Int:=cnt n A*(cnt n A - 1)+S n (fun i=>if A i=true then 0 else mnf (cnt n A) (d i)) - sm n A d
def Top (n:Nat)(d:Nat->Int)(A:Nat->Bool):Prop:=∀ i j,i<n->j<n->A i=true->A j=false->d j<=d i
theorem aS1 {n:Nat}{d:Nat->Int}{A a:Nat->Bool}{φ:Int->Int}(hφ:∀ x y,x<=y->φ x<=φ y)(ht:Top n d A)(hc:cnt n a=cnt n A):sm n a (fun i=>φ (d i))<=sm n A (fun i=>φ (d i)):=by
 by_cases h0:cnt n A=0
 ·have za:∀ i,i<n->a i=false:=fun i hi=>by
   cases h:a i with
   | false=>rfl
   | true =>
    have:=ay1 (f:=fun i=>b2 (a i)) hi (fun i _=>F9 _)
    have e:b2 (a i)=1:=by rw[h];rfl
    have t:b2 (a i)<=cnt n a:=this
    omega
  have zA:∀ i,i<n->A i=false:=fun i hi=>by
   cases h:A i with
   | false=>rfl
   | true =>
    have:=ay1 (f:=fun i=>b2 (A i)) hi (fun i _=>F9 _)
    have e:b2 (A i)=1:=by rw[h];rfl
    have t:b2 (A i)<=cnt n A:=this
    omega
  rw[al0 za,al0 zA]
  exact G6 _
 ·obtain⟨m,hm,hAm,hmin⟩:=bc6 (p:=fun i=>A i=true) (f:=d) (az8 h0)
  have key:S n (fun i=>(if a i=true then φ (d i) else 0) - (if A i=true then φ (d i) else 0))<=S n (fun i=>φ (d m)*b2 (a i) - φ (d m)*b2 (A i)):=ae6 fun i hi=>by
   cases ha:a i with
   | true =>
    cases hA:A i with
    | true=>rw[if_pos rfl];omega
    | false =>
     rw[if_pos rfl,if_neg (by decide),Y2,T5,L0,R7]
     have:=hφ _ _ (ht m i hm hi hAm hA)
     omega
   | false =>
    cases hA:A i with
    | true =>
     rw[if_pos rfl,if_neg (by decide),Y2,T5,L0,R7]
     have:=hφ _ _ (hmin i hi hA)
     omega
    | false=>rw[if_neg (by decide)];omega
  rw[G8,G8,aa1,aa1]at key
  have e:φ (d m)*S n (fun i=>b2 (a i))=φ (d m)*S n (fun i=>b2 (A i)):=by
   show φ (d m)*cnt n a=φ (d m)*cnt n A
   rw[hc]
  show S n (fun i=>if a i=true then φ (d i) else 0)<=S n (fun i=>if A i=true then φ (d i) else 0)
  omega
theorem bb7 {n:Nat}{d:Nat->Int}(hd:∀ i,i<n->0<=d i)(h:∀ r:Nat,1<=r->r<=n->∃ A,cnt n A=r/\Top n d A/\0<=roomF n d A):aL5 n d:=by
 intro a b hab
 have k0:=V9 n a
 have kr:=az7 (n:=n) hab
 have kb:=V9 n b
 by_cases hz:cnt n a=0
 ·have za:∀ i,i<n->a i=false:=fun i hi=>by
   cases h:a i with
   | false=>rfl
   | true =>
    have:=ay1 (f:=fun i=>b2 (a i)) hi (fun i _=>F9 _)
    have e:b2 (a i)=1:=by rw[h];rfl
    have t:b2 (a i)<=cnt n a:=this
    omega
  have:=at9 (a:=b) hd
  rw[al0 za,hz,aa4]
  omega
 ·obtain⟨A,hc,ht,r1⟩:=h (cnt n a).toNat (by omega) (by omega)
  have hcA:cnt n A=cnt n a:=by omega
  have r2:=aS1 (φ:=fun x=>x+mnf (cnt n a) x) (fun x y hxy=>by have:=aV4 (r:=cnt n a) hxy;omega) ht hcA.symm
  have sp:∀ c:Nat->Bool,sm n c (fun i=>d i+mnf (cnt n a) (d i))=sm n c d+S n (fun i=>mnf (cnt n a) (d i)) - S n (fun i=>if c i=true then 0 else mnf (cnt n a) (d i)):=fun c=>by
   unfold sm
   rw[<- U5,<- G8]
   refine x8 fun i _=>?_
   show (if c i=true then d i+mnf (cnt n a) (d i) else 0)=(if c i=true then d i else 0)+mnf (cnt n a) (d i) - (if c i=true then 0 else mnf (cnt n a) (d i))
   cases c i with
   | true=>rw[if_pos rfl,if_pos rfl,if_pos rfl];omega
   | false=>rw[if_neg (by decide),if_neg (by decide),if_neg (by decide)];omega
  rw[sp a,sp A]at r2
  unfold roomF at r1
  rw[hcA]at r1
  have low:S n (fun i=>if a i=true then 0 else mnf (cnt n a) (d i))<=sm n b d+cnt n a*((n:Int) - cnt n a - cnt n b):=by
   have e:cnt n a*((n:Int) - cnt n a - cnt n b)=S n (fun i=>cnt n a*(1 - b2 (a i) - b2 (b i))):=by
    rw[aa1,G8,G8,P3,L0];rfl
   rw[e]
   unfold sm
   rw[<- U5]
   refine ae6 fun i hi=>?_
   cases ha:a i with
   | true =>
    have hb:=hab i ha
    rw[if_pos rfl,hb,if_neg (by decide),Y2,T5]
    simp
   | false =>
    rw[if_neg (by decide),T5]
    cases b i with
    | true =>
     rw[if_pos rfl,Y2]
     have:=bg5 (cnt n a) (d i)
     simp
     exact this
    | false =>
     rw[if_neg (by decide),T5]
     have:=aO4 (cnt n a) (d i)
     simp
     exact this
  have x:cnt n a*((n:Int) - 1 - cnt n b)=cnt n a*(cnt n a - 1)+cnt n a*((n:Int) - cnt n a - cnt n b):=by grind
  rw[x]
  omega
theorem ba2 {n:Nat}{d:Nat->Int}(K:aL5 n d)(A:Nat->Bool):0<=roomF n d A:=by
 have k:=K A (fun i=>!A i && decide (d i<cnt n A)) (fun i hi=>by simp[hi])
 have e:S n (fun i=>if A i=true then 0 else mnf (cnt n A) (d i))=sm n (fun i=>!A i && decide (d i<cnt n A)) d+cnt n A*((n:Int) - cnt n A - cnt n (fun i=>!A i && decide (d i<cnt n A))):=by
  have e1:cnt n A*((n:Int) - cnt n A - cnt n (fun i=>!A i && decide (d i<cnt n A)))=S n (fun i=>cnt n A*(1 - b2 (A i) - b2 (!A i && decide (d i<cnt n A)))):=by
   rw[aa1,G8,G8,P3,L0];rfl
  rw[e1]
  unfold sm
  rw[<- U5]
  refine x8 fun i hi=>?_
  show (if A i=true then 0 else mnf (cnt n A) (d i))=(if (!A i && decide (d i<cnt n A))=true then d i else 0)+cnt n A*(1 - b2 (A i) - b2 (!A i && decide (d i<cnt n A)))
  cases hA:A i with
  | true=>simp[b2]
  | false =>
   generalize cnt n A=r
   by_cases c:d i<r
   ·rw[decide_eq_true c]
    simp[b2,mnf]
    omega
   ·rw[decide_eq_false c]
    simp[b2,mnf]
    omega
 unfold roomF
 rw[e]
 have x:cnt n A*((n:Int) - 1 - cnt n (fun i=>!A i && decide (d i<cnt n A)))=cnt n A*(cnt n A - 1)+cnt n A*((n:Int) - cnt n A - cnt n (fun i=>!A i && decide (d i<cnt n A))):=by grind
 rw[x]at k
 omega
theorem bz4 {g:Nat->Nat->Bool}(hg:Gph g):∀ n:Nat,∃ q,S n (deg n g)=2*q:=by
 intro n
 induction n with
 | zero=>exact⟨0,rfl⟩
 | succ n ih =>
  obtain⟨q,hq⟩:=ih
  refine⟨q+S n (fun i=>b2 (g i n)),?_⟩
  show S n (deg (n+1) g)+deg (n+1) g n=_
  have e1:S n (deg (n+1) g)=S n (deg n g)+S n (fun i=>b2 (g i n)):=by rw[<- U5];rfl
  have e2:deg (n+1) g n=S n (fun i=>b2 (g i n)):=by
   show S n (fun j=>b2 (g n j))+b2 (g n n)=_
   rw[hg.irr,T5,x8 (g:=fun i=>b2 (g i n)) fun i _=>by rw[hg.sym]]
   omega
  rw[e1,e2,hq]
  omega
end Grf
namespace Thk
open Grf
section
variable {n:Nat} {M:Int} {d:Nat->Int}
def Z0 (n:Nat)(M:Int)(d:Nat->Int)(A:Nat->Bool):Int:=M*(cnt n A*(cnt n A - 1))+S n (fun i=>if A i=true then 0 else mnf (M*cnt n A) (d i)) - sm n A d
theorem by6 (σ τ:Nat->Bool):fV n M d σ τ=sm n σ d - sm n τ d - M*(cnt n σ*((n:Int) - 1 - cnt n τ)):=by
 unfold fV sm
 rw[<- G8]
 congr 1
 refine x8 fun j _=>?_
 cases σ j<;>cases τ j<;>simp[b2]
theorem bs8 (s t:Int):M*(s*((n:Int) - 1 - t))=M*(s*(s - 1))+(M*s)*((n:Int) - s - t):=by
 rw[P8,<- aZ0,<- aZ0]
 congr 2
 omega
theorem bF0 (K:Kk n M d)(A:Nat->Bool):0<=Z0 n M d A:=by
 have k:=K A (fun i=>!A i && decide (d i<M*cnt n A)) (fun i _ ⟨u,v⟩=>by simp[u]at v)
 rw[by6,bs8]at k
 have e:S n (fun i=>if A i=true then 0 else mnf (M*cnt n A) (d i))=sm n (fun i=>!A i && decide (d i<M*cnt n A)) d+(M*cnt n A)*((n:Int) - cnt n A - cnt n (fun i=>!A i && decide (d i<M*cnt n A))):=by
  have e1:(M*cnt n A)*((n:Int) - cnt n A - cnt n (fun i=>!A i && decide (d i<M*cnt n A)))=S n (fun i=>(M*cnt n A)*(1 - b2 (A i) - b2 (!A i && decide (d i<M*cnt n A)))):=by
   rw[aa1,G8,G8,P3,L0];rfl
  rw[e1]
  unfold sm
  rw[<- U5]
  refine x8 fun i hi=>?_
  show (if A i=true then 0 else mnf (M*cnt n A) (d i))=(if (!A i && decide (d i<M*cnt n A))=true then d i else 0)+(M*cnt n A)*(1 - b2 (A i) - b2 (!A i && decide (d i<M*cnt n A)))
  cases hA:A i with
  | true=>simp[b2]
  | false =>
   generalize M*cnt n A=r
   by_cases c:d i<r
   ·rw[decide_eq_true c]
    simp[b2,mnf]
    omega
   ·rw[decide_eq_false c]
    simp[b2,mnf]
    omega
 unfold Z0
 rw[e]
 omega
structure Thw (M:Int) (g:Nat->Nat->Int):Prop where
 sym:∀ i j,g i j=g j i
 dia:∀ i,g i i=0
 lo:∀ i j,0<=g i j
 hi:∀ i j,g i j<=M
end
end Thk
namespace Web
def mn (r x:Int):Int:=if r<x then r else x
theorem ap9:∀ a b:List Int,(a++b).sum=a.sum+b.sum
 | [],b=>by simp
 | x::a,b=>by rw[List.cons_append,P7,P7,ap9 a b,Int.add_assoc]
theorem ap8:∀ a:List Int,a.reverse.sum=a.sum
 | []=>rfl
 | x::a=>by rw[Y3,ap9,ap8 a,P7,P7,List.sum_nil];omega
def up2 (ns:List Int):List Int:=PySem.W.sortI ns
theorem ay5 (ns:List Int):(up2 ns).length=ns.length:=(PySem.W.sortI_perm ns).length_eq
theorem bF2 {zs ns:List Int}(hp:zs.Perm ns)(hs:zs.Pairwise (·<=·)):zs=up2 ns:=PySem.W.eq_sortI hp hs
theorem bh6 {zs ns:List Int}(hp:zs.Perm ns)(hs:zs.Pairwise (·≥·)):zs=(up2 ns).reverse:=by
 have h:zs.reverse=up2 ns:=PySem.W.eq_sortI ((List.reverse_perm zs).trans hp) (by rw[List.pairwise_reverse];exact hs)
 rw[<- h,List.reverse_reverse]
def part (m:Nat)(r:Int)(g:List Int):Int:=((g.take m).map (mn r)).sum - (g.drop m).sum
def L4 (ns:List Int)(r:Nat):Int:=(r:Int)*((r:Int) - 1)+part (ns.length - r) r (up2 ns)
theorem bG3 {m i:Nat}{r x:Int}{g:List Int}(h:i<m)(hx:g[i]?=some x):part m r (g.take (i+1))=part m r (g.take i)+mn r x:=by
 have hl:(g.take i).length<=i:=List.length_take_le ..
 have hl2:(g.take i++[x]).length<=m:=by rw[p6,bB2];omega
 unfold part
 rw[C3,hx,af1,k8 hl2,ap1 hl2,k8 (A4 hl (aa3 h)),ap1 (A4 hl (aa3 h)),j9,ap9]
 simp
theorem bG4 {m i:Nat}{r x:Int}{g:List Int}(h:m<=i)(hx:g[i]?=some x):part m r (g.take (i+1))=part m r (g.take i) - x:=by
 have hi:i<g.length:=by
  rcases C9 i g.length with h | h
  ·exact h
  ·rw[r6 h]at hx;cases hx
 have hl:m<=(g.take i).length:=by rw[o4];omega
 unfold part
 rw[C3,hx,af1,List.take_append_of_le_length hl,List.drop_append_of_le_length hl,ap9,List.sum_singleton]
 omega
theorem bu1 (m:Nat)(r:Int):part m r []=0:=by unfold part;simp
theorem ba3 {ns zs:List Int}{r:Nat}(e:zs=(up2 ns).reverse):(r:Int)*((r:Int) - 1)+((zs.drop r).map (mn r)).sum - (zs.take r).sum=L4 ns r:=by
 unfold L4 part
 rw[e,bY5,bY6,bZ4,ap8,ap8,ay5]
 omega
end Web
namespace Web
inductive Wl where
 | below (p:Nat) | odd | wall (r:Nat) | free
 deriving DecidableEq
def AllP (ns:List Int):Prop:=∀ (j:Nat) (x:Int),ns[j]?=some x->0<=x
def bc9 (ns:List Int):Wl->Prop
 | .below p=>(∃ x,ns[p]?=some x/\x<0)/\∀ (j:Nat) (x:Int),j<p->ns[j]?=some x->0<=x
 | .odd=>AllP ns/\ns.sum % 2=1
 | .wall r=>AllP ns/\¬ ns.sum % 2=1/\1<=r/\r<=ns.length/\L4 ns r<0/\∀ k,1<=k->k<r->0<=L4 ns k
 | .free=>AllP ns/\¬ ns.sum % 2=1/\∀ k,1<=k->k<=ns.length->0<=L4 ns k
theorem bD7 {ns:List Int}{w u:Wl}(h:bc9 ns w)(g:bc9 ns u):w=u:=by
 cases w with
 | below p =>
  obtain⟨⟨x,hx,hx0⟩,hp⟩:=h
  have no:¬ AllP ns:=fun a=>by have:=a p x hx;omega
  cases u with
  | below q =>
   obtain⟨⟨y,hy,hy0⟩,hq⟩:=g
   rcases Y8 p q with l | l | l
   ·have:=hq p x l hx;omega
   ·rw[l]
   ·have:=hp q y l hy;omega
  | odd=>exact absurd g.1 no
  | wall r=>exact absurd g.1 no
  | free=>exact absurd g.1 no
 | odd =>
  cases u with
  | below q =>
   obtain⟨⟨y,hy,hy0⟩,hq⟩:=g
   have:=h.1 q y hy;omega
  | odd=>rfl
  | wall r=>exact absurd h.2 g.2.1
  | free=>exact absurd h.2 g.2.1
 | wall r =>
  obtain⟨a,b,r1,r2,r3,r4⟩:=h
  cases u with
  | below q =>
   obtain⟨⟨y,hy,hy0⟩,hq⟩:=g
   have:=a q y hy;omega
  | odd=>exact absurd g.2 b
  | wall s =>
   obtain⟨_,_,s1,s2,s3,s4⟩:=g
   rcases Y8 r s with l | l | l
   ·have:=s4 r r1 l;omega
   ·rw[l]
   ·have:=r4 s s1 l;omega
  | free=>have:=g.2.2 r r1 r2;omega
 | free =>
  cases u with
  | below q =>
   obtain⟨⟨y,hy,hy0⟩,hq⟩:=g
   have:=h.1 q y hy;omega
  | odd=>exact absurd g.2 h.2.1
  | wall s =>
   obtain⟨_,_,s1,s2,s3,s4⟩:=g
   have:=h.2.2 s s1 s2;omega
  | free=>rfl
end Web
namespace Web
open L2
def rng (n:Nat):List Int:=(Y5 0 n).map fun k:Nat=>(k:Int)
theorem R3 {n:Nat}{x:Int}:x∈rng n↔0<=x/\x<n:=by
 unfold rng
 constructor
 ·intro h
  obtain⟨k,hk,rfl⟩:=u6.mp h
  have:=aI3.mp hk
  omega
 ·intro h
  exact u6.mpr ⟨x.toNat,aI3.mpr ⟨by omega,by omega⟩,by omega⟩
theorem ab2 (n:Nat):(rng n).length=n:=by unfold rng;rw[b9,W9]
theorem V5 (n:Nat):(rng n).Nodup:=by
 unfold rng
 refine List.Pairwise.map _ (fun a b h=>?_) (List.nodup_range' (step:=1) (by decide))
 intro e
 exact h (by omega)
def rest (zs:List Int)(p:Int):List Int:=zs.filter fun x=>decide (x≠p)
theorem aC0 {zs:List Int}{p x:Int}:x∈rest zs p↔x∈zs/\x≠p:=by unfold rest;rw[O7,decide_eq_true_iff]
theorem aT7 {n:Nat}{zs:List Int}{p:Int}(hp:zs.Perm (rng n))(h0:0<=p)(h1:p<n):(rest zs p).length=n - 1:=by
 have nd:zs.Nodup:=hp.nodup_iff.mpr (V5 n)
 have hm:p∈zs:=hp.mem_iff.mpr (R3.mpr ⟨h0,h1⟩)
 have e:rest zs p=zs.erase p:=by
  unfold rest
  rw[nd.erase_eq_filter]
  congr 1
  funext x
  by_cases h:x=p<;>simp[h]
 rw[e,bj0 hm,hp.length_eq,ab2]
def ab6 (ns es:List Int)(i:Nat):Int:=if (i:Int)∈es then ns.getD i 0 - 1 else ns.getD i 0
def V1 (ns:List Int)(p:Nat)(es:List Int):List Int:=((o8 ns.length).filter fun i=>decide (i≠p)).map (ab6 ns es)
open Grf (S b2 Gph deg cnt sm Top roomF)
theorem bi6 (f:Nat->Int):∀ n:Nat,S n f=((o8 n).map f).sum
 | 0=>rfl
 | n+1=>by
  rw[E7,j9,ap9,<- bi6 f n]
  show S n f+f n=_+(f n+0)
  omega
theorem map_getD (φ:Int->Int)(xs:List Int):(o8 xs.length).map (fun i=>φ (xs.getD i 0))=xs.map φ:=by
 refine ak4 fun i=>?_
 rw[o9,o9]
 rcases C9 i xs.length with h | h
 ·rw[K4 h,i6 h]
  show some (φ (xs.getD i 0))=some (φ xs[i])
  rw[i3,i6 h]
  rfl
 ·rw[r6 h,r6 (by rw[B0];exact h)]
  rfl
theorem aF7 (φ:Int->Int)(xs:List Int):S xs.length (fun i=>φ (xs.getD i 0))=(xs.map φ).sum:=by rw[bi6,map_getD]
theorem bA7 (xs:List Int):S xs.length (fun i=>xs.getD i 0)=xs.sum:=by
 have:=aF7 (fun x=>x) xs
 rw[aL7]at this
 exact this
theorem aY2 {n:Nat}{f:Nat->Int}:∀ {L:List Int},L.Nodup->(∀ z∈L,0<=z/\z<n)->S n (fun i=>if (i:Int)∈L then f i else 0)=(L.map fun z=>f z.toNat).sum
 | [],_,_=>by
  rw[Grf.x8 (g:=fun _=>0) fun i _=>by simp]
  exact Grf.N0 n
 | z::L,nd,h=>by
  obtain⟨h1,h2⟩:=F5.mp nd
  obtain⟨z0,z1⟩:=h z i5
  rw[v8,P7,<- aY2 h2 fun y hy=>h y (d7 _ hy)]
  rw[Grf.X6 (j:=z.toNat) (f:=fun i=>if (i:Int)∈z::L then f i else 0) (g:=fun i=>if (i:Int)∈L then f i else 0) (by omega) (fun i _ hi=>by
   show (if (i:Int)∈z::L then f i else 0)=if (i:Int)∈L then f i else 0
   by_cases e:(i:Int)∈L
   ·rw[if_pos e,if_pos (d7 _ e)]
   ·rw[if_neg e,if_neg (fun c=>by
     rcases g6.mp c with c | c
     ·exact hi (by omega)
     ·exact e c)])]
  show _+((if ((z.toNat:Nat):Int)∈z::L then f z.toNat else 0) - (if ((z.toNat:Nat):Int)∈L then f z.toNat else 0))=_
  have ez:((z.toNat:Nat):Int)=z:=by omega
  rw[ez,if_pos i5,if_neg h1]
  omega
theorem bF1 (ns:List Int):(rng ns.length).map (fun z=>ns.getD z.toNat 0)=ns:=by
 unfold rng
 rw[V2,<- aw0]
 have:=map_getD (fun x=>x) ns
 rw[aL7]at this
 exact this
theorem aC8 {ns zs:List Int}(hp:zs.Perm (rng ns.length))(hs:zs.Pairwise (ole ns)):zs.map (fun z=>ns.getD z.toNat 0)=(up2 ns).reverse:=by
 refine bh6 ?_ ?_
 ·have:=hp.map (fun z:Int=>ns.getD z.toNat 0)
  rw[bF1]at this
  exact this
 ·refine List.Pairwise.map _ (fun a b h=>?_) hs
  have:=ar0.mp h
  show ns.getD b.toNat 0<=ns.getD a.toNat 0
  omega
theorem al5 {ns zs:List Int}(hp:zs.Perm (rng ns.length))(hs:zs.Pairwise (ole ns)){r:Nat}(hr:r<=ns.length) :
  cnt ns.length (fun i=>decide ((i:Int)∈zs.take r))=r/\Top ns.length (fun i=>ns.getD i 0) (fun i=>decide ((i:Int)∈zs.take r))/\roomF ns.length (fun i=>ns.getD i 0) (fun i=>decide ((i:Int)∈zs.take r))=L4 ns r:=by
 have nd:zs.Nodup:=hp.nodup_iff.mpr (V5 _)
 have hzl:zs.length=ns.length:=by rw[hp.length_eq,ab2]
 have hin:∀ z∈zs,0<=z/\z<(ns.length:Int):=fun z hz=>R3.mp (hp.mem_iff.mp hz)
 have ndA:(zs.take r).Nodup:=nd.sublist (S3 r zs)
 have ndB:(zs.drop r).Nodup:=nd.sublist (aI4 r zs)
 have inA:∀ z∈zs.take r,0<=z/\z<(ns.length:Int):=fun z hz=>hin z (L5 hz)
 have inB:∀ z∈zs.drop r,0<=z/\z<(ns.length:Int):=fun z hz=>hin z (aw1 hz)
 have app:=nd
 rw[<- O0 r zs]at app
 have cross:=(aI5.mp app).2.2
 have mem_or:∀ i:Nat,i<ns.length->(i:Int)∈zs.take r\/(i:Int)∈zs.drop r:=fun i hi=>by
  have:(i:Int)∈zs:=hp.mem_iff.mpr (R3.mpr ⟨by omega,by omega⟩)
  rw[<- O0 r zs]at this
  exact F3.mp this
 have hc:cnt ns.length (fun i=>decide ((i:Int)∈zs.take r))=r:=by
  have:=aY2 (n:=ns.length) (f:=fun _=>1) ndA inA
  have e:cnt ns.length (fun i=>decide ((i:Int)∈zs.take r))=S ns.length (fun i=>if (i:Int)∈zs.take r then 1 else 0):=Grf.x8 fun i _=>by
   by_cases c:(i:Int)∈zs.take r
   ·rw[if_pos c];simp[b2,c]
   ·rw[if_neg c];simp[b2,c]
  rw[e,this]
  have l:(zs.take r).length=r:=by rw[o4];omega
  have:∀ L:List Int,(L.map fun _=>(1:Int)).sum=L.length:=fun L=>by
   induction L with
   | nil=>rfl
   | cons a L ih=>rw[v8,P7,ih,A1];omega
  rw[this,l]
 refine⟨hc,fun i j hi hj h1 h2=>?_,?_⟩
 ·have a1:(i:Int)∈zs.take r:=of_decide_eq_true h1
  have a2:(j:Int)∈zs.drop r:=(mem_or j hj).resolve_left (of_decide_eq_false h2)
  have pw:=hs
  rw[<- O0 r zs]at pw
  have:=ar0.mp ((bB7.mp pw).2.2 _ a1 _ a2)
  rw[q0,q0]at this
  show ns.getD j 0<=ns.getD i 0
  omega
 ·have of:=aC8 hp hs
  have rm:=ba3 (ns:=ns) (r:=r) of
  unfold roomF
  rw[hc,<- rm,<- aF9,<- aG0,V2]
  have s1:sm ns.length (fun i=>decide ((i:Int)∈zs.take r)) (fun i=>ns.getD i 0)=((zs.take r).map fun z=>ns.getD z.toNat 0).sum:=by
   rw[<- aY2 (n:=ns.length) (f:=fun i=>ns.getD i 0) ndA inA]
   refine Grf.x8 fun i _=>?_
   show (if decide ((i:Int)∈zs.take r)=true then ns.getD i 0 else 0)=_
   by_cases c:(i:Int)∈zs.take r
   ·rw[if_pos c,decide_eq_true c,if_pos rfl]
   ·rw[if_neg c,decide_eq_false c,if_neg (by decide)]
  have s2:S ns.length (fun i=>if decide ((i:Int)∈zs.take r)=true then 0 else Grf.mnf r (ns.getD i 0))=((zs.drop r).map (mn r ∘ fun z=>ns.getD z.toNat 0)).sum:=by
   have:=aY2 (n:=ns.length) (f:=fun i=>mn r (ns.getD i 0)) ndB inB
   show _=((zs.drop r).map fun z=>mn r (ns.getD z.toNat 0)).sum
   rw[<- this]
   refine Grf.x8 fun i hi=>?_
   by_cases c:(i:Int)∈zs.take r
   ·rw[decide_eq_true c,if_pos rfl,if_neg (fun z=>cross _ c _ z rfl)]
   ·rw[decide_eq_false c,if_neg (by decide),if_pos ((mem_or i hi).resolve_left c)]
    rfl
  rw[s1,s2]
theorem ao5 (ns:List Int):∃ zs:List Int,zs.Perm (rng ns.length)/\zs.Pairwise (ole ns):=by
 let le:Int->Int->Bool:=fun x y=>decide (ns.getD y.toNat 0<ns.getD x.toNat 0\/(ns.getD x.toNat 0=ns.getD y.toNat 0/\x<=y))
 refine⟨(rng ns.length).mergeSort le,List.mergeSort_perm _ _,?_⟩
 have:=List.pairwise_mergeSort (le:=le) (fun a b c h1 h2=>?_) (fun a b=>?_) (rng ns.length)
 ·exact this.imp fun h=>ar0.mpr (of_decide_eq_true h)
 ·have g1:=of_decide_eq_true h1
  have g2:=of_decide_eq_true h2
  exact decide_eq_true (by omega)
 ·rw[Bool.or_eq_true]
  by_cases h:ns.getD b.toNat 0<ns.getD a.toNat 0\/(ns.getD a.toNat 0=ns.getD b.toNat 0/\a<=b)
  ·exact .inl (decide_eq_true h)
  ·exact .inr (decide_eq_true (by omega))
def Gr (ns:List Int):Prop:=∃ g,Gph g/\∀ i,i<ns.length->deg ns.length g i=ns.getD i 0
theorem aa0 {ns:List Int}(h:AllP ns){i:Nat}(hi:i<ns.length):0<=ns.getD i 0:=by
 rw[i3,i6 hi]
 exact h i _ (i6 hi)
theorem bh3 {ns:List Int}(h:bc9 ns .free):Gr ns:=by
 obtain⟨h1,h2,h3⟩:=h
 obtain⟨zs,hp,hs⟩:=ao5 ns
 have hd:∀ i,i<ns.length->0<=ns.getD i 0:=fun i hi=>aa0 h1 hi
 have K:=Grf.bb7 (d:=fun i=>ns.getD i 0) hd fun r r1 r2=>by
  obtain⟨a1,a2,a3⟩:=al5 hp hs r2
  exact⟨_,a1,a2,by rw[a3];exact h3 r r1 r2⟩
 have s0:0<=ns.sum:=by rw[<- bA7];exact Grf.R1 hd
 obtain⟨g,hg,dg⟩:=Grf.by0 (ns.sum / 2).toNat ns.length (fun i=>ns.getD i 0) hd K (by rw[bA7];omega)
 exact⟨g,hg,dg⟩
theorem aE1 {ns:List Int}(h:Gr ns):AllP ns:=by
 obtain⟨g,hg,dg⟩:=h
 intro j x hx
 have hj:j<ns.length:=by
  rcases C9 j ns.length with h | h
  ·exact h
  ·rw[r6 h]at hx;cases hx
 have:=dg j hj
 rw[i3,hx]at this
 have e:deg ns.length g j=x:=this
 rw[<- e]
 exact Grf.R1 fun i _=>Grf.F9 _
theorem bK1 {ns:List Int}(h:Gr ns):bc9 ns .free:=by
 have pos:=aE1 h
 obtain⟨g,hg,dg⟩:=h
 refine⟨pos,?_,fun k k1 k2=>?_⟩
 ·obtain⟨q,hq⟩:=Grf.bz4 hg ns.length
  rw[Grf.x8 (g:=fun i=>ns.getD i 0) fun i hi=>dg i hi,bA7]at hq
  omega
 ·obtain⟨zs,hp,hs⟩:=ao5 ns
  obtain⟨_,_,a3⟩:=al5 hp hs k2
  rw[<- a3]
  exact Grf.ba2 (Grf.bw5 hg dg) _
end Web
namespace Web
def ah6 (ns:List Int)(M r:Nat):Int:=(M:Int)*(r:Int)*((r:Int) - 1)+part (ns.length - r) ((M:Int)*(r:Int)) (up2 ns)
theorem ad6 (ns:List Int)(r:Nat):ah6 ns 1 r=L4 ns r:=by
 unfold ah6 L4
 rw[Int.natCast_one,aA3]
theorem aw8 {ns zs:List Int}{M r:Nat}(e:zs=(up2 ns).reverse):(M:Int)*(r:Int)*((r:Int) - 1)+((zs.drop r).map (mn ((M:Int)*(r:Int)))).sum - (zs.take r).sum=ah6 ns M r:=by
 unfold ah6 part
 rw[e,bY5,bY6,bZ4,ap8,ap8,ay5]
 omega
end Web
namespace Web
def ap0 (ns:List Int)(i:Nat):List Nat:=(o8 i).filter fun j=>decide (ns.getD j 0<0)
def bK7 (ns:List Int):List Int:=(ap0 ns ns.length).map Int.ofNat
theorem bo2 (ns:List Int)(i:Nat):ap0 ns (i+1)=ap0 ns i++(if ns.getD i 0<0 then [i] else []):=by
 unfold ap0
 rw[E7,O1]
 congr 1
 by_cases h:ns.getD i 0<0
 ·rw[if_pos h,an0 (by simpa using h),List.filter_nil]
 ·rw[if_neg h,an1 (by simpa using h),List.filter_nil]
theorem bA1 (ns:List Int)(i:Nat):(ap0 ns i).length<=i:=by
 unfold ap0
 exact A4 (K6 ..) (by rw[B0];exact d4 _)
theorem as1 {ns:List Int}{j:Nat}{x:Int}(h:ns[j]?=some x):ns.getD j 0=x:=by rw[i3,h];rfl
theorem aQ2 {ns:List Int}(h:ap0 ns ns.length=[]):∀ (j:Nat) (x:Int),ns[j]?=some x->0<=x:=fun j x e=>by
 have hj:j<ns.length:=by
  rcases C9 j ns.length with l | l
  ·exact l
  ·rw[r6 l]at e;cases e
 have:=ap2.mp h j (B9.mpr hj)
 rw[as1 e]at this
 have h2:¬ x<0:=fun q=>this (decide_eq_true q)
 omega
theorem aF4 {ns:List Int}{p:Nat}{t:List Nat}(h:ap0 ns ns.length=p::t):(∃ x,ns[p]?=some x/\x<0)/\∀ (j:Nat) (x:Int),j<p->ns[j]?=some x->0<=x:=by
 have hm:p∈ap0 ns ns.length:=by rw[h];exact i5
 have hp:=O7.mp hm
 have hl:=B9.mp hp.1
 have h0:=of_decide_eq_true hp.2
 refine⟨⟨_,i6 hl,by rw[as1 (i6 hl)]at h0;exact h0⟩,fun j x hj e=>?_⟩
 rcases bB8 x 0 with q | q
 ·have hjm:j∈ap0 ns ns.length:=O7.mpr ⟨B9.mpr (by omega),by rw[as1 e];exact decide_eq_true q⟩
  have hs:(ap0 ns ns.length).Pairwise (·<·):=List.Pairwise.filter _ bp1
  rw[h]at hs hjm
  rcases g6.mp hjm with r | r
  ·omega
  ·have:=(F1.mp hs).1 j r
   omega
 ·exact q
def bB0 (ns:List Int)(M:Nat):Wl->Prop
 | .below p=>(∃ x,ns[p]?=some x/\x<0)/\∀ (j:Nat) (x:Int),j<p->ns[j]?=some x->0<=x
 | .odd=>AllP ns/\ns.sum % 2=1
 | .wall r=>AllP ns/\¬ ns.sum % 2=1/\1<=r/\r<=ns.length/\ah6 ns M r<0/\∀ k,1<=k->k<r->0<=ah6 ns M k
 | .free=>AllP ns/\¬ ns.sum % 2=1/\∀ k,1<=k->k<=ns.length->0<=ah6 ns M k
theorem bd5 {ns:List Int}{x:Wl}(h:bB0 ns 1 x):bc9 ns x:=by
 cases x with
 | below p=>exact h
 | odd=>exact h
 | wall r=>exact⟨h.1,h.2.1,h.2.2.1,h.2.2.2.1,by rw[<- ad6];exact h.2.2.2.2.1,fun k k1 k2=>by rw[<- ad6];exact h.2.2.2.2.2 k k1 k2⟩
 | free=>exact⟨h.1,h.2.1,fun k k1 k2=>by rw[<- ad6];exact h.2.2 k k1 k2⟩
end Web
namespace Web
open L2 Grf Thk
theorem aC7 {ns zs:List Int}(hp:zs.Perm (rng ns.length))(hs:zs.Pairwise (ole ns)){M r:Nat}(hr:r<=ns.length) :
  Z0 ns.length M (fun i=>ns.getD i 0) (fun i=>decide ((i:Int)∈zs.take r))=ah6 ns M r:=by
 have nd:zs.Nodup:=hp.nodup_iff.mpr (V5 _)
 have hin:∀ z∈zs,0<=z/\z<(ns.length:Int):=fun z hz=>R3.mp (hp.mem_iff.mp hz)
 have ndA:(zs.take r).Nodup:=nd.sublist (S3 r zs)
 have ndB:(zs.drop r).Nodup:=nd.sublist (aI4 r zs)
 have inA:∀ z∈zs.take r,0<=z/\z<(ns.length:Int):=fun z hz=>hin z (L5 hz)
 have inB:∀ z∈zs.drop r,0<=z/\z<(ns.length:Int):=fun z hz=>hin z (aw1 hz)
 have app:=nd
 rw[<- O0 r zs]at app
 have cross:=(aI5.mp app).2.2
 have mem_or:∀ i:Nat,i<ns.length->(i:Int)∈zs.take r\/(i:Int)∈zs.drop r:=fun i hi=>by
  have:(i:Int)∈zs:=hp.mem_iff.mpr (R3.mpr ⟨by omega,by omega⟩)
  rw[<- O0 r zs]at this
  exact F3.mp this
 have hc:=(al5 hp hs hr).1
 have of:=aC8 hp hs
 have rm:=aw8 (ns:=ns) (M:=M) (r:=r) of
 unfold Z0
 rw[hc,<- rm,<- aF9,<- aG0,V2,<- P8]
 have s1:sm ns.length (fun i=>decide ((i:Int)∈zs.take r)) (fun i=>ns.getD i 0)=((zs.take r).map fun z=>ns.getD z.toNat 0).sum:=by
  rw[<- aY2 (n:=ns.length) (f:=fun i=>ns.getD i 0) ndA inA]
  refine Grf.x8 fun i _=>?_
  show (if decide ((i:Int)∈zs.take r)=true then ns.getD i 0 else 0)=_
  by_cases c:(i:Int)∈zs.take r
  ·rw[if_pos c,decide_eq_true c,if_pos rfl]
  ·rw[if_neg c,decide_eq_false c,if_neg (by decide)]
 have s2:S ns.length (fun i=>if decide ((i:Int)∈zs.take r)=true then 0 else Grf.mnf ((M:Int)*r) (ns.getD i 0))=((zs.drop r).map (mn ((M:Int)*r) ∘ fun z=>ns.getD z.toNat 0)).sum:=by
  have:=aY2 (n:=ns.length) (f:=fun i=>mn ((M:Int)*r) (ns.getD i 0)) ndB inB
  show _=((zs.drop r).map fun z=>mn ((M:Int)*r) (ns.getD z.toNat 0)).sum
  rw[<- this]
  refine Grf.x8 fun i hi=>?_
  by_cases c:(i:Int)∈zs.take r
  ·rw[decide_eq_true c,if_pos rfl,if_neg (fun z=>cross _ c _ z rfl)]
  ·rw[decide_eq_false c,if_neg (by decide),if_pos ((mem_or i hi).resolve_left c)]
   rfl
 rw[s1,s2]
theorem bJ4 {ns:List Int}{M:Nat}(h0:AllP ns)(h1:¬ ns.sum % 2=1)(h:Kk ns.length M (fun i=>ns.getD i 0)):bB0 ns M .free:=by
 obtain⟨zs,hp,hs⟩:=ao5 ns
 exact⟨h0,h1,fun r r1 r2=>by rw[<- aC7 hp hs r2];exact bF0 h _⟩
def abv (M L c:Int):Int:=if c - L<=0 then 0 else if c - L<=M then c - L else M
theorem bA3 {M:Int}(hM:1<=M)(L c:Int):abv M (L - 1) c - abv M L c=if abv M L c<abv M (L - 1) c then 1 else 0:=by
 unfold abv
 split<;>split<;>split<;>first | omega | (split<;>omega)
theorem bA4 {M L c:Int}(hM:1<=M)(h:abv M L c<abv M (L - 1) c):abv M L c=c - L/\0<=c - L/\c - L<M:=by
 unfold abv at *
 split at h<;>split at h<;>first | omega | (split at h<;>first | omega | (split at h<;>omega)) | skip
 all_goals (repeat' split)<;>omega
def ae1 (M L:Int)(ns:List Int):List Int:=(rng ns.length).filter fun z=>decide (abv M L (ns.getD z.toNat 0)<abv M (L - 1) (ns.getD z.toNat 0))
def aH7 (M L:Int)(ns:List Int)(k:Nat):List Int:=(ae1 M L ns).take k
def shx (M L:Int)(ns:List Int)(k:Nat)(j:Nat):Int:=abv M L (ns.getD j 0)+if (j:Int)∈aH7 M L ns k then 1 else 0
theorem aV2 (M L:Int)(ns:List Int):(ae1 M L ns).Nodup:=(V5 _).sublist bL6
theorem aV3 {M L:Int}{ns:List Int}:∀ z∈ae1 M L ns,0<=z/\z<ns.length:=fun z hz=>R3.mp (O7.mp hz).1
theorem au7 {M L:Int}{ns:List Int}{j:Nat}(hj:j<ns.length):(j:Int)∈ae1 M L ns↔abv M L (ns.getD j 0)<abv M (L - 1) (ns.getD j 0):=by
 unfold ae1
 rw[O7,R3,decide_eq_true_iff,q0]
 constructor
 ·exact fun h=>h.2
 ·exact fun h=>⟨⟨by omega,by omega⟩,h⟩
theorem bq1 (L:List Int):(L.map fun _=>(1:Int)).sum=L.length:=by
 induction L with
 | nil=>rfl
 | cons a L ih=>rw[v8,P7,ih,A1];omega
theorem bA8 {n:Nat}{L:List Int}(nd:L.Nodup)(h:∀ z∈L,0<=z/\z<n):S n (fun i=>if (i:Int)∈L then 1 else 0)=L.length:=by
 rw[aY2 (f:=fun _=>1) nd h,bq1]
theorem bm0 {M:Int}(hM:1<=M)(L:Int)(ns:List Int):((ae1 M L ns).length:Int)=(ns.map (abv M (L - 1))).sum - (ns.map (abv M L)).sum:=by
 rw[<- bA8 (aV2 M L ns) aV3,<- aF7,<- aF7,<- G8]
 refine Grf.x8 fun j hj=>?_
 rw[bA3 hM]
 by_cases c:abv M L (ns.getD j 0)<abv M (L - 1) (ns.getD j 0)
 ·rw[if_pos c,if_pos ((au7 hj).mpr c)]
 ·rw[if_neg c,if_neg fun h=>c ((au7 hj).mp h)]
structure Lvl (M:Int) (ns:List Int) (a L:Int):Prop where
 l0:0<=L
 le:(ns.map (abv M L)).sum<=a
 lt:0<L->a<(ns.map (abv M (L - 1))).sum
section
variable {M a L:Int} {ns:List Int}
theorem bE6 (hM:1<=M)(h:Lvl M ns a L)(h0:a<=(ns.map (abv M 0)).sum):S ns.length (shx M L ns (a - (ns.map (abv M L)).sum).toNat)=a:=by
 unfold shx
 rw[U5,aF7,bA8 (L:=aH7 M L ns (a - (ns.map (abv M L)).sum).toNat) ((aV2 M L ns).sublist (S3 _ _)) fun z hz=>aV3 z (L5 hz)]
 unfold aH7
 rw[o4]
 have l:=bm0 hM L ns
 have le:=h.le
 by_cases c:0<L
 ·have:=h.lt c
  omega
 ·have:L=0:=by have:=h.l0;omega
  subst this
  omega
theorem be3 {j:Nat}(hj:j<ns.length){k:Nat}(hM:1<=M)(h:(j:Int)∈aH7 M L ns k):abv M L (ns.getD j 0)=ns.getD j 0 - L/\0<=ns.getD j 0 - L/\ns.getD j 0 - L<M:=bA4 hM ((au7 hj).mp (L5 h))
theorem au1 (hM:1<=M)(k:Nat){j:Nat}(hj:j<ns.length):0<=shx M L ns k j/\shx M L ns k j<=M/\(0<shx M L ns k j->L - 1<=ns.getD j 0 - shx M L ns k j)/\(shx M L ns k j<M->ns.getD j 0 - shx M L ns k j<=L):=by
 unfold shx
 by_cases c:(j:Int)∈aH7 M L ns k
 ·obtain⟨e1,e2,e3⟩:=be3 hj hM c
  rw[if_pos c,e1]
  omega
 ·rw[if_neg c]
  unfold abv
  split
  ·omega
  ·split<;>omega
theorem bR9 (hM:1<=M)(h:Lvl M ns a L)(h0:a<=(ns.map (abv M 0)).sum){j:Nat}(hj:j<ns.length)(hn:0<=ns.getD j 0):shx M L ns (a - (ns.map (abv M L)).sum).toNat j<=ns.getD j 0:=by
 have l0:=h.l0
 unfold shx
 by_cases c:(j:Int)∈aH7 M L ns (a - (ns.map (abv M L)).sum).toNat
 ·obtain⟨e1,e2,e3⟩:=be3 hj hM c
  have:L≠0:=fun e=>by
   subst e
   have z:(a - (ns.map (abv M 0)).sum).toNat=0:=by omega
   rw[z]at c
   unfold aH7 at c
   rw[bd3]at c
   cases c
  rw[if_pos c,e1]
  omega
 ·rw[if_neg c]
  unfold abv
  split
  ·omega
  ·split<;>omega
end
end Web
namespace Thk
open Grf
section
variable {n:Nat} {L W:Int} {d c x:Nat->Int}
theorem aZ7 {σ τ:Nat->Bool}(h:Apart n σ τ):sz n σ+sz n τ<=n:=by
 unfold sz
 rw[<- U5]
 have:S n (fun j=>b2 (σ j)+b2 (τ j))<=S n (fun _=>1):=ae6 fun j hj=>by
  have:=h j hj
  cases a:σ j<;>cases b:τ j<;>simp[b2]
  exact this ⟨a,b⟩
 rw[P3]at this
 omega
theorem bR5 {σ τ:Nat->Bool}(h:Apart n σ τ)(e:sz n σ+sz n τ=n){j:Nat}(hj:j<n):b2 (σ j)+b2 (τ j)=1:=by
 have hz:S n (fun j=>1 - b2 (σ j) - b2 (τ j))=0:=by
  rw[G8,G8,P3]
  unfold sz at e
  omega
 have nn:∀ i,i<n->0<=1 - b2 (σ i) - b2 (τ i):=fun i hi=>by
  have:=h i hi
  cases a:σ i<;>cases b:τ i<;>simp[b2]
  exact absurd ⟨a,b⟩ this
 have a:=ay1 (f:=fun j=>1 - b2 (σ j) - b2 (τ j)) hj nn
 have b:=nn j hj
 have a':1 - b2 (σ j) - b2 (τ j)<=S n (fun j=>1 - b2 (σ j) - b2 (τ j)):=a
 omega
theorem by9 (q:Int):∃ e,(q+1)*q=2*e:=by
 rcases Int.emod_two_eq q with h | h
 ·obtain⟨t,ht⟩:∃ t,q=2*t:=⟨q / 2,by omega⟩
  exact⟨(q+1)*t,by rw[ht,<- P8,R6 (2*t+1) 2,P8]⟩
 ·obtain⟨t,ht⟩:∃ t,q+1=2*t:=⟨(q+1) / 2,by omega⟩
  exact⟨t*q,by rw[ht,P8]⟩
theorem bK3 (σ τ:Nat->Bool):fV n 1 c σ τ=S n (fun j=>b2 (σ j)*(c j - qQ n 1 τ) - b2 (τ j)*c j):=by
 have e:S n (fun j=>b2 (σ j)*(c j - qQ n 1 τ) - b2 (τ j)*c j)=S n (fun j=>(b2 (σ j) - b2 (τ j))*c j) - S n (fun j=>qQ n 1 τ*b2 (σ j)):=by
  rw[<- G8]
  refine x8 fun j _=>?_
  cases σ j<;>cases τ j<;>simp[b2]<;>omega
 rw[e,aa1]
 unfold fV qQ sz
 rw[aA3,aA3,R6]
theorem bv9 (hc:∀ j,j<n->c j=d j - x j)(c0:∀ j,j<n->0<=c j)(x0:∀ j,j<n->0<=x j)(lo:∀ j,j<n->0<x j->L - 1<=c j)(hi:∀ j,j<n->c j<=L)
  (hW:∀ σ τ,Apart n σ τ->fV n 1 d σ τ<=W)(hx:W<=S n x)(ev:∃ k,S n c=2*k):Kk n 1 c:=by
 intro σ0 τ0 h0
 obtain⟨σ,τ1,hap1,hge,hmx⟩:=cf7 (m:=n) (M:=1) (c:=c) (by decide) h0
 refine Classical.byContradiction fun hno=>?_
 have hf1:1<=fV n 1 c σ τ1:=by omega
 obtain⟨τ,hτ⟩:∃ τ:Nat->Bool,τ=fun j=>τ1 j && !decide (c j=pP n 1 σ):=⟨_,rfl⟩
 have tt:∀ j,τ j=true->τ1 j=true/\c j≠pP n 1 σ:=fun j h=>by
  rw[hτ]at h
  simpa using h
 have hs:fV n 1 c σ τ=fV n 1 c σ τ1:=bs1 fun j hj hne=>by
  refine Classical.byContradiction fun hz=>hne ?_
  rw[hτ]
  show (τ1 j && !decide (c j=pP n 1 σ))=τ1 j
  rw[decide_eq_false hz,bd2,Bool.and_true]
 have hap:Apart n σ τ:=fun j hj ⟨u,v⟩=>hap1 j hj ⟨u,(tt j v).1⟩
 have hM:Mx n 1 c σ τ:=⟨hap,fun σ₁ τ₁ h=>by rw[hs];exact hmx σ₁ τ₁ h⟩
 have ht:∀ j,j<n->τ j=true->c j<=pP n 1 σ - 1:=fun j hj h=>by
  have:=ci7 hM hj h
  have:=(tt j h).2
  omega
 have hf:1<=fV n 1 c σ τ:=by omega
 have caseA:∀ σ',Apart n σ' τ->(∀ j,j<n->0<x j->σ' j=true)->fV n 1 c σ' τ<=0:=fun σ' ha hcut=>by
  have e:fV n 1 c σ' τ=fV n 1 d σ' τ - S n x:=by
   unfold fV
   have:S n (fun j=>(b2 (σ' j) - b2 (τ j))*c j)=S n (fun j=>(b2 (σ' j) - b2 (τ j))*d j) - S n x:=by
    rw[<- G8]
    refine x8 fun j hj=>?_
    rw[hc j hj]
    have h0:=x0 j hj
    by_cases hx0:0<x j
    ·have hs':=hcut j hj hx0
     have ht':τ j=false:=by
      cases h:τ j
      ·rfl
      ·exact absurd ⟨hs',h⟩ (ha j hj)
     rw[hs',ht']
     simp[b2]
    ·have:x j=0:=by omega
     rw[this,at7,at7]
   omega
  have:=hW σ' τ ha
  omega
 have hpq:pP n 1 σ<=qQ n 1 τ+1:=by
  have:=aZ7 hap
  unfold pP qQ
  omega
 by_cases hA:∀ j,j<n->0<x j->σ j=true
 ·have:=caseA σ hap hA
  omega
 ·obtain⟨i,hi'⟩:=Classical.not_forall.mp hA
  obtain⟨hin,hi2⟩:=Classical.not_imp.mp hi'
  obtain⟨hxi,hsi⟩:=Classical.not_imp.mp hi2
  have hsi:σ i=false:=by simpa using hsi
  have li:=lo i hin hxi
  have hLq:L<=qQ n 1 τ+1:=by
   cases h:τ i with
   | false =>
    have:=ce4 hM hin hsi h
    omega
   | true =>
    have:=ht i hin h
    omega
  have fp:=bK3 (n:=n) (c:=c) σ τ
  by_cases hL:L<=qQ n 1 τ
  ·have:S n (fun j=>b2 (σ j)*(c j - qQ n 1 τ) - b2 (τ j)*c j)<=0:=bO7 fun j hj=>by
    have:=hi j hj
    have:=c0 j hj
    cases σ j<;>cases τ j<;>simp[b2]<;>omega
   omega
  ·have hLe:L=qQ n 1 τ+1:=by omega
   by_cases hT:∃ i,i<n/\0<x i/\τ i=true
   ·obtain⟨t,htn,hxt,htt⟩:=hT
    have lt:=lo t htn hxt
    have bd:S n (fun j=>b2 (σ j)*(c j - qQ n 1 τ) - b2 (τ j)*c j)<=S n (fun j=>b2 (σ j) - if j=t then qQ n 1 τ else 0):=ae6 fun j hj=>by
     have h1:=hi j hj
     have h2:=c0 j hj
     by_cases e:j=t
     ·subst e
      have hs0:σ j=false:=by
       cases h:σ j
       ·rfl
       ·exact absurd ⟨h,htt⟩ (hap j hj)
      rw[if_pos rfl,hs0,htt]
      simp[b2]
      omega
     ·rw[if_neg e]
      cases σ j<;>cases τ j<;>simp[b2]<;>omega
    have e2:S n (fun j=>b2 (σ j) - if j=t then qQ n 1 τ else 0)=sz n σ - qQ n 1 τ:=by
     rw[X6 (g:=fun j=>b2 (σ j)) htn (fun j _ hj=>by rw[if_neg hj,at7]),if_pos rfl]
     unfold sz
     omega
    have hsz:=aZ7 hap
    have hq:qQ n 1 τ=(n:Int) - 1 - sz n τ:=by unfold qQ;omega
    have all1:sz n σ+sz n τ=n:=by omega
    have f1:fV n 1 c σ τ=1:=by omega
    obtain⟨k,hk⟩:=ev
    obtain⟨e,he⟩:=by9 (qQ n 1 τ)
    have hp:sz n σ=qQ n 1 τ+1:=by omega
    have spl:S n (fun j=>(b2 (σ j) - b2 (τ j))*c j)=S n c - 2*S n (fun j=>b2 (τ j)*c j):=by
     rw[<- aa1,<- G8]
     refine x8 fun j hj=>?_
     have:=bR5 hap all1 hj
     have e1:b2 (σ j)=1 - b2 (τ j):=by omega
     rw[e1]
     cases τ j<;>simp[b2]<;>omega
    unfold fV at f1
    rw[spl,hk,<- hq,hp,he]at f1
    omega
   ·have hno':∀ j,j<n->0<x j->τ j=false:=fun j hj hxj=>by
     cases h:τ j
     ·rfl
     ·exact absurd ⟨j,hj,hxj,h⟩ hT
    have ap':Apart n (fun j=>σ j || decide (0<x j)) τ:=fun j hj ⟨u,v⟩=>by
     rcases Bool.or_eq_true_iff.mp u with u | u
     ·exact hap j hj ⟨u,v⟩
     ·rw[hno' j hj (of_decide_eq_true u)]at v
      cases v
    have same:fV n 1 c (fun j=>σ j || decide (0<x j)) τ=fV n 1 c σ τ:=bs2 fun j hj hne=>by
     have hne:(σ j || decide (0<x j))≠σ j:=hne
     have hs0:σ j=false:=by
      cases h:σ j
      ·rfl
      ·rw[h]at hne;exact absurd rfl hne
     have hxj:0<x j:=by
      refine Classical.byContradiction fun z=>hne ?_
      rw[hs0,decide_eq_false z]
      rfl
     have:=ce4 hM hj hs0 (hno' j hj hxj)
     have:=lo j hj hxj
     omega
    have:=caseA _ ap' (fun j hj hxj=>by
     show (σ j || decide (0<x j))=true
     rw[decide_eq_true hxj,Bool.or_true])
    omega
end
section
variable {n:Nat} {M:Int} {d:Nat->Int}
theorem bK2 {W:Int}(hd:∀ i,i<n->0<=d i)(hW:0<=W)(h:∀ r:Nat,1<=r->r<=n->∃ A,cnt n A=r/\Top n d A /\ -W<=Z0 n M d A):∀ σ τ,Apart n σ τ->fV n M d σ τ<=W:=by
 intro a0 b hab0
 rw[by6]
 let a:Nat->Bool:=fun i=>a0 i && !b i
 have ha0:∀ i,i<n->a i=a0 i:=fun i hi=>by
  show (a0 i && !b i)=a0 i
  cases e:a0 i<;>cases e':b i<;>first | rfl | exact absurd ⟨e,e'⟩ (hab0 i hi)
 have hab:∀ i,a i=true->b i=false:=fun i hi=>by
  have hi:(a0 i && !b i)=true:=hi
  cases e:b i
  ·rfl
  ·rw[e]at hi;simp at hi
 have ec:cnt n a0=cnt n a:=x8 fun i hi=>by rw[ha0 i hi]
 have es:sm n a0 d=sm n a d:=x8 fun i hi=>by rw[ha0 i hi]
 rw[ec,es]
 have k0:=V9 n a
 have kr:=az7 (n:=n) hab
 have kb:=V9 n b
 by_cases hz:cnt n a=0
 ·have za:∀ i,i<n->a i=false:=fun i hi=>by
   cases h:a i with
   | false=>rfl
   | true =>
    have:=ay1 (f:=fun i=>b2 (a i)) hi (fun i _=>F9 _)
    have e:b2 (a i)=1:=by rw[h];rfl
    have t:b2 (a i)<=cnt n a:=this
    omega
  have:=at9 (a:=b) hd
  rw[al0 za,hz,aa4,R7]
  omega
 ·obtain⟨A,hc,ht,r1⟩:=h (cnt n a).toNat (by omega) (by omega)
  have hcA:cnt n A=cnt n a:=by omega
  have r2:=aS1 (φ:=fun x=>x+mnf (M*cnt n a) x) (fun x y hxy=>by have:=aV4 (r:=M*cnt n a) hxy;omega) ht hcA.symm
  have sp:∀ c:Nat->Bool,sm n c (fun i=>d i+mnf (M*cnt n a) (d i))=sm n c d+S n (fun i=>mnf (M*cnt n a) (d i)) - S n (fun i=>if c i=true then 0 else mnf (M*cnt n a) (d i)):=fun c=>by
   unfold sm
   rw[<- U5,<- G8]
   refine x8 fun i _=>?_
   cases c i<;>simp
  rw[sp a,sp A]at r2
  unfold Z0 at r1
  rw[hcA]at r1
  have low:S n (fun i=>if a i=true then 0 else mnf (M*cnt n a) (d i))<=sm n b d+(M*cnt n a)*((n:Int) - cnt n a - cnt n b):=by
   have e:(M*cnt n a)*((n:Int) - cnt n a - cnt n b)=S n (fun i=>(M*cnt n a)*(1 - b2 (a i) - b2 (b i))):=by
    rw[aa1,G8,G8,P3,L0];rfl
   rw[e]
   unfold sm
   rw[<- U5]
   refine ae6 fun i hi=>?_
   have l1:=bg5 (M*cnt n a) (d i)
   have l2:=aO4 (M*cnt n a) (d i)
   cases ha:a i with
   | true=>rw[hab i ha];simp[b2]
   | false=>cases b i<;>simp[b2]<;>assumption
  rw[bs8]
  omega
theorem bX1 (A:Nat->Bool):fV n M d A (fun i=>!A i && decide (d i<M*cnt n A)) = -Z0 n M d A:=by
 rw[by6,bs8]
 have e:S n (fun i=>if A i=true then 0 else mnf (M*cnt n A) (d i))=sm n (fun i=>!A i && decide (d i<M*cnt n A)) d+(M*cnt n A)*((n:Int) - cnt n A - cnt n (fun i=>!A i && decide (d i<M*cnt n A))):=by
  have e1:(M*cnt n A)*((n:Int) - cnt n A - cnt n (fun i=>!A i && decide (d i<M*cnt n A)))=S n (fun i=>(M*cnt n A)*(1 - b2 (A i) - b2 (!A i && decide (d i<M*cnt n A)))):=by
   rw[aa1,G8,G8,P3,L0];rfl
  rw[e1]
  unfold sm
  rw[<- U5]
  refine x8 fun i hi=>?_
  show (if A i=true then 0 else mnf (M*cnt n A) (d i))=(if (!A i && decide (d i<M*cnt n A))=true then d i else 0)+(M*cnt n A)*(1 - b2 (A i) - b2 (!A i && decide (d i<M*cnt n A)))
  cases hA:A i with
  | true=>simp[b2]
  | false =>
   generalize M*cnt n A=r
   by_cases c:d i<r
   ·rw[decide_eq_true c]
    simp[b2,mnf]
    omega
   ·rw[decide_eq_false c]
    simp[b2,mnf]
    omega
 unfold Z0
 rw[e]
 omega
theorem bJ2 {w:Nat->Int}(K:Kk n M w)(hle:∀ i,i<n->w i<=d i)(A:Nat->Bool):-Z0 n M d A<=S n (fun i=>d i - w i):=by
 have k:=K A (fun i=>!A i && decide (d i<M*cnt n A)) (fun i _ ⟨u,v⟩=>by simp[u]at v)
 rw[<- bX1]
 have e:fV n M d A (fun i=>!A i && decide (d i<M*cnt n A)) - fV n M w A (fun i=>!A i && decide (d i<M*cnt n A))<=S n (fun i=>d i - w i):=by
  unfold fV
  dsimp only
  have e1:S n (fun j=>(b2 (A j) - b2 (!A j && decide (d j<M*cnt n A)))*d j) - S n (fun j=>(b2 (A j) - b2 (!A j && decide (d j<M*cnt n A)))*w j)<=S n (fun i=>d i - w i):=by
   rw[<- G8]
   refine ae6 fun i hi=>?_
   have:=hle i hi
   cases A i<;>cases decide (d i<M*cnt n A)<;>simp[b2]<;>omega
  omega
 omega
end
end Thk
namespace Web
open L2
open Grf (S b2 Gph deg V4)
theorem bf6 {n i j:Nat}(h1:i<j)(h2:j<n):[(i:Int),(j:Int)]∈U4 n:=by
 unfold U4
 refine bZ2.mpr ⟨i,B9.mpr (by omega),?_⟩
 unfold am6
 exact u6.mpr ⟨j - (i+1),B9.mpr (by omega),by
  rw[show ((j - (i+1):Nat):Int)=(j:Int) - ((i:Int)+1) by omega]
  rw[show (i:Int)+1+((j:Int) - ((i:Int)+1))=(j:Int) by omega]⟩
end Web
namespace Web
open L2 Grf Thk
def Z6 (s want:Int):Int:=want+(want+s) % 2
theorem aF8 (ns:List Int):S ns.length (fun i=>ns.getD i 0)=ns.sum:=by
 have:=aF7 (fun z=>z) ns
 rw[aL7]at this
 exact this
structure Lst (ns:List Int) (mn:Int):Prop where
 le:∀ r,r<=ns.length->mn<=L4 ns r
 at_:∃ r,r<=ns.length/\mn=L4 ns r
theorem aB9 {ns:List Int}{r:Nat}(hr:r<=ns.length):∃ A,Grf.cnt ns.length A=r/\Top ns.length (fun i=>ns.getD i 0) A/\Z0 ns.length 1 (fun i=>ns.getD i 0) A=L4 ns r:=by
 obtain⟨zs,hp,hs⟩:=ao5 ns
 obtain⟨a1,a2,_⟩:=al5 hp hs hr
 have:=aC7 hp hs (M:=1) hr
 rw[ad6]at this
 exact⟨_,a1,a2,this⟩
theorem bl1 {ns:List Int}(h0:AllP ns):L4 ns 0<=0:=by
 obtain⟨A,h1,_,h3⟩:=aB9 (ns:=ns) (r:=0) (y9 _)
 rw[<- h3]
 unfold Z0
 have hz:∀ i,i<ns.length->A i=false:=fun i hi=>by
  cases h:A i with
  | false=>rfl
  | true =>
   have a:=ay1 (f:=fun i=>b2 (A i)) hi (fun i _=>F9 _)
   have a':b2 (A i)<=Grf.cnt ns.length A:=a
   rw[h1,h,Y2]at a'
   exact absurd a' (by decide)
 have e1:sm ns.length A (fun i=>ns.getD i 0)=0:=al0 hz
 have e2:S ns.length (fun i=>if A i=true then 0 else mnf (1*Grf.cnt ns.length A) (ns.getD i 0))<=0:=bO7 fun i hi=>by
  rw[hz i hi,if_neg k9,h1]
  have:=aO4 (1*((0:Nat):Int)) (ns.getD i 0)
  omega
 rw[h1]at e2 ⊢
 rw[e1]
 simp at e2 ⊢
 exact e2
theorem bJ3 (n:Nat):Kk n 1 (fun _=>0):=fun σ τ h=>by
 unfold fV
 have hs:=aZ7 h
 have s0:0<=sz n σ:=R1 fun j _=>F9 _
 have t0:0<=sz n τ:=R1 fun j _=>F9 _
 rw[x8 (g:=fun _=>0) (fun j _=>R7 _),N0]
 by_cases c:sz n σ=0
 ·rw[c,aa4];decide
 ·have:=bi9 s0 (show 0<=(n:Int) - 1 - sz n τ by omega)
  omega
theorem Lst.want {ns:List Int}{mn:Int}(h:Lst ns mn)(h0:AllP ns):0 <= -mn /\ -mn<=ns.sum:=by
 refine⟨?_,?_⟩
 ·have:=h.le 0 (y9 _)
  have:=bl1 h0
  omega
 ·obtain⟨r,hr,rfl⟩:=h.at_
  obtain⟨A,_,_,h3⟩:=aB9 hr
  have:=bJ2 (d:=fun i=>ns.getD i 0) (bJ3 ns.length) (fun i hi=>aa0 h0 hi) A
  rw[h3,x8 (g:=fun i=>ns.getD i 0) (fun i _=>at7 _),aF8]at this
  exact this
theorem Lst.off {ns:List Int}{mn:Int}(h:Lst ns mn)(h0:AllP ns):0<=Z6 ns.sum (-mn) /\ -mn<=Z6 ns.sum (-mn)/\Z6 ns.sum (-mn)<=ns.sum/\(ns.sum - Z6 ns.sum (-mn)) % 2=0:=by
 have:=h.want h0
 unfold Z6
 omega
theorem aF6 (L c:Int):abv 0 L c=0:=by
 unfold abv
 by_cases h1:c - L<=0
 ·rw[if_pos h1]
 ·rw[if_neg h1,if_neg h1]
theorem bK9 {M:Int}{ns:List Int}(hM:∀ x∈ns,x<=M)(h0:AllP ns):(ns.map (abv M 0)).sum=ns.sum:=by
 have:ns.map (abv M 0)=ns:=by
  conv=>rhs;rw[<- aL7 ns]
  refine P6 fun x hx=>?_
  obtain⟨i,hi⟩:=B4.mp hx
  have:=h0 i x hi
  have:=hM x hx
  unfold abv
  split
  ·omega
  ·rw[if_pos (by omega)];omega
 rw[this]
def ad4 (ns xs:List Int):List Int:=(o8 ns.length).map fun j=>ns.getD j 0 - xs.getD j 0
theorem ad2 (ns xs:List Int):(ad4 ns xs).length=ns.length:=by unfold ad4;rw[b9,B0]
theorem ad3 {ns xs:List Int}{j:Nat}(h:j<ns.length):(ad4 ns xs).getD j 0=ns.getD j 0 - xs.getD j 0:=by
 unfold ad4
 rw[i3,o9,K4 h]
 rfl
theorem bw0 {ns xs:List Int} {M:Nat} {L mn:Int} (h0:AllP ns) (hM:∀ x∈ns,x<=(M:Int)) (hm:Lst ns mn) (hL:Lvl M ns (Z6 ns.sum (-mn)) L) (hx:∀ j,j<ns.length->xs.getD j 0=shx M L ns (Z6 ns.sum (-mn) - (ns.map (abv M L)).sum).toNat j) :
  Gr (ad4 ns xs)/\(∀ j,j<ns.length->0<=(ad4 ns xs).getD j 0/\(ad4 ns xs).getD j 0<=ns.getD j 0)/\(ad4 ns xs).sum=ns.sum - Z6 ns.sum (-mn):=by
 obtain⟨o0,o1,o2,o3⟩:=hm.off h0
 obtain⟨w0,w1⟩:=hm.want h0
 have hd:∀ i,i<ns.length->0<=ns.getD i 0:=fun i hi=>aa0 h0 hi
 have hle:∀ j,j<ns.length->ns.getD j 0<=(M:Int):=fun j hj=>by
  refine hM _ (i7 (i:=j) ?_)
  rw[i3,i6 hj]
  rfl
 generalize Z6 ns.sum (-mn)=a at o0 o1 o2 o3 hL hx ⊢
 have l0:=hL.l0
 obtain⟨x0,xn,lo,hi,xa⟩:(∀ j,j<ns.length->0<=xs.getD j 0)/\(∀ j,j<ns.length->xs.getD j 0<=ns.getD j 0)/\(∀ j,j<ns.length->0<xs.getD j 0->L - 1<=ns.getD j 0 - xs.getD j 0)/\(∀ j,j<ns.length->ns.getD j 0 - xs.getD j 0<=L)/\S ns.length (fun j=>xs.getD j 0)=a:=by
  rw[show S ns.length (fun j=>xs.getD j 0)=S ns.length (shx M L ns (a - (ns.map (abv M L)).sum).toNat) from Grf.x8 hx]
  by_cases hM1:1<=M
  ·have hM1':(1:Int)<=(M:Int):=by omega
   have hA:a<=(ns.map (abv M 0)).sum:=by rw[bK9 hM h0];exact o2
   refine⟨fun j hj=>?_,fun j hj=>?_,fun j hj=>?_,fun j hj=>?_,bE6 hM1' hL hA⟩
   ·rw[hx j hj];exact(au1 hM1' _ hj).1
   ·rw[hx j hj];exact bR9 hM1' hL hA hj (hd j hj)
   ·rw[hx j hj];exact(au1 hM1' _ hj).2.2.1
   ·rw[hx j hj]
    have f:=au1 (L:=L) hM1' (a - (ns.map (abv M L)).sum).toNat hj
    have:=hle j hj
    rcases bB8 (shx M L ns (a - (ns.map (abv M L)).sum).toNat j) M with z | z
    ·exact f.2.2.2 z
    ·omega
  ·have hM0:M=0:=by omega
   subst hM0
   have n0:∀ j,j<ns.length->ns.getD j 0=0:=fun j hj=>by
    have:=hd j hj
    have:=hle j hj
    omega
   have e0:ae1 ((0:Nat):Int) L ns=[]:=by
    unfold ae1
    refine ap2.mpr fun z _=>?_
    show ¬ decide (abv 0 L _<abv 0 (L - 1) _)=true
    rw[aF6,aF6]
    decide
   have z0:∀ k j,shx ((0:Nat):Int) L ns k j=0:=fun k j=>by
    unfold shx aH7
    rw[e0,List.take_nil,if_neg J3]
    show abv 0 L _+0=0
    rw[aF6]
    rfl
   have sm0:ns.sum=0:=by
    rw[<- aF8,Grf.x8 (g:=fun _=>0) n0,Grf.N0]
   refine⟨fun j hj=>?_,fun j hj=>?_,fun j hj h=>?_,fun j hj=>?_,?_⟩
   ·rw[hx j hj,z0];decide
   ·rw[hx j hj,z0,n0 j hj];decide
   ·rw[hx j hj,z0]at h;exact absurd h (by decide)
   ·rw[hx j hj,z0,n0 j hj];omega
   ·rw[Grf.x8 (g:=fun _=>0) (fun j _=>z0 _ j),Grf.N0];omega
 have hsum:S ns.length (fun j=>ns.getD j 0 - xs.getD j 0)=ns.sum - a:=by rw[Grf.G8,aF8,xa]
 have hsl:(ad4 ns xs).sum=ns.sum - a:=by
  rw[<- hsum,<- aF8,ad2]
  exact Grf.x8 fun j hj=>ad3 hj
 have ev:∃ k,S ns.length (fun j=>ns.getD j 0 - xs.getD j 0)=2*k:=⟨(ns.sum - a) / 2,by rw[hsum];omega⟩
 have kk:Kk ns.length 1 (fun j=>ns.getD j 0 - xs.getD j 0):=bv9 (L:=L) (W:=-mn) (d:=fun j=>ns.getD j 0) (x:=fun j=>xs.getD j 0) (fun j hj=>rfl) (fun j hj=>by have:=xn j hj;show 0<=ns.getD j 0 - xs.getD j 0;omega) x0 lo hi
  (bK2 hd w0 fun r r1 r2 => by
   obtain⟨A,a1,a2,a3⟩:=aB9 r2
   refine⟨A,a1,a2,?_⟩
   rw[a3]
   have:=hm.le r r2
   omega) (by rw[xa];exact o1) ev
 refine⟨bh3 (bd5 (bJ4 ?_ ?_ ?_)),fun j hj=>?_,hsl⟩
 ·intro j z hz
  have hj:j<ns.length:=by
   rw[<- ad2 ns xs]
   exact(m8.mp hz).1
  have e:=ad3 (xs:=xs) hj
  rw[i3,hz]at e
  have e:z=ns.getD j 0 - xs.getD j 0:=e
  have:=xn j hj
  omega
 ·rw[hsl];omega
 ·rw[ad2]
  intro σ τ h
  have:=kk σ τ h
  have e:fV ns.length 1 (fun i=>(ad4 ns xs).getD i 0) σ τ=fV ns.length 1 (fun j=>ns.getD j 0 - xs.getD j 0) σ τ:=by
   unfold fV
   congr 1
   refine Grf.x8 fun j hj=>?_
   show _*(ad4 ns xs).getD j 0=_
   rw[ad3 hj]
  show fV ns.length 1 (fun i=>(ad4 ns xs).getD i 0) σ τ<=0
  rw[e]
  exact this
 ·rw[ad3 hj]
  have:=xn j hj
  have:=x0 j hj
  omega
end Web
namespace L2
open PySem PySem.Spec PyProof.Rows
structure ZAp (z TI TO i1 i2:Addr) (f1 f2:List Addr):Prop where
 a1:TI≠z
 a2:TO≠z
 a3:i1≠z
 a4:i2≠z
 a5:TI≠TO
 a6:TI≠i1
 a7:TI≠i2
 a8:TO≠i1
 a9:TO≠i2
 b0:i1≠i2
 b1:z∉f1
 b2:z∉f2
 b3:TO∉f1
 b4:TO∉f2
 b5:i1∉f2
 b6:i2∉f1
section
variable {prog:j8} {w:x6} {A:u4} {E:c6->c7->Prop} {s:c7} {z TI TO i1 i2:Addr} {f1 f2:List Addr} {n1 n2 k:Nat} {P1 P2:Nat->c6->Prop} {S1 S2:Nat->Heap->Prop}
theorem T7 {it:Addr}{fp:List Addr}{n i:Nat}{P:Nat->c6->Prop}{St:Nat->Heap->Prop}(D:Draws prog w A it fp n P St){h h':Heap}{c:Addr}(st:St i h)(k:Heap.ExtBut c h h')(hc:c∉fp):St i h':=D.frame i h h' st fun b hb o e=>k b o (fun zz=>hc (zz ▸ hb)) e
theorem bD5 {Q:c6->c7->Prop} {a b:c6} (D:ZAp z TI TO i1 i2 f1 f2) (D1:Draws prog w A i1 f1 n1 P1 S1) (D2:Draws prog w A i2 f2 n2 P2 S2) (hz:aR6 s.heap z TI TO .none) (hTI:Y0 s.heap TI (.ref i1) (.ref i2)) (hTO:Y0 s.heap TO a b) (st1:S1 k s.heap) (st2:S2 k s.heap) (hk1:k<n1) (hk2:k<n2)
  (hQ : ∀ x y h' tk, P1 k x -> P2 k y -> aR6 h' z TI TO (ac4 s.heap.objs.size) -> Y0 h' TO x y -> S1 (k + 1) h' -> S2 (k + 1) h' -> Y0 h' s.heap.objs.size x y -> h'.objs.size = s.heap.objs.size + 1 ->
   (∀ c o,c≠z->c≠TO->c≠i1->c≠i2->s.heap.get? c=some o->h'.get? c=some o)->Q (.ref s.heap.objs.size) { s with heap:=h',toks:=tk }) :
  o7 (y6 prog w) A (ai3.«zip.__next__» ⟨[.ref z],[]⟩) (fun fin s'=>∃ v,fin=.done (.ret v)/\Q v s') E s:=by
 show o7 _ _ (field (.ref z) 2 >>= _) _ _ _;refine b7 (E5 hz rfl (x:=.bool false) rfl ?_)
 show o7 _ _ (field (.ref z) 3 >>= _) _ _ _;refine b7 (E5 hz rfl (x:=.ref TI) rfl (b7 (J2 hTI rfl ?_)))
 show o7 _ _ (Builtin.SmallTypes.ownedTupleIsFree (.ref z) >>= _) _ _ _;refine b7 ?_;unfold Builtin.SmallTypes.ownedTupleIsFree
 refine b7 (E5 hz rfl (x:=.none) rfl (d3 ?_));simp only[if_true]
 refine b7 (ah3 (b7 (E5 hz rfl (x:=.ref TO) rfl (b7 (Y1 hz (by simp) fun hA hzA hsA=>?_)))))
 replace hzA:aR6 hA z TI TO .ellipsis:=hzA
 refine b7 ?_;simp only[bZ5,List.zipIdx_nil,List.forIn_cons,List.forIn_nil]
 refine b7 (b7 (bD2 ?_));show o7 _ _ (Builtin.SmallTypes.nextOf (.ref i1) >>= _) _ _ _
 refine b7 (D1.item k _ _ _ hk1 (T7 D1 st1 hsA.extBut D.b1) fun x hB tB hx stB hsB=>d3 ?_)
 have hTOB:Y0 hB TO a b:=hsB.extBut _ _ D.a8 (hsA.extBut _ _ D.a2 hTO)
 refine b7 (J2 hTOB rfl (b7 (bY9 hTOB fun hC hTOC hsC=>?_)))
 replace hTOC:Y0 hC TO x b:=hTOC
 refine b7 (ai5 (d3 ?_));refine b7 (b7 (bD2 ?_));show o7 _ _ (Builtin.SmallTypes.nextOf (.ref i2) >>= _) _ _ _
 refine b7 (D2.item k _ _ _ hk2 (T7 D2 (T7 D2 (T7 D2 st2 hsA.extBut D.b2) hsB.extBut D.b5) hsC.extBut D.b4) fun y hD tD hy stD hsD=>d3 ?_)
 have hTOD:Y0 hD TO x b:=hsD.extBut _ _ D.a9 hTOC
 refine b7 (J2 hTOD rfl (b7 (bY9 hTOD fun hF hTOF hsF=>?_)))
 replace hTOF:Y0 hF TO x y:=hTOF
 refine b7 (ai5 (d3 (d3 (b7 (J2 hTOF rfl (b7 (bp4 ?_)))))))
 have hsz:hF.objs.size=s.heap.objs.size:=by rw[hsF.1,hsD.1,hsC.1,hsB.1,hsA.1]
 have hzF:aR6 hF z TI TO .ellipsis:=hsF.extBut _ _ D.a2.symm (hsD.extBut _ _ D.a4.symm (hsC.extBut _ _ D.a2.symm (hsB.extBut _ _ D.a3.symm hzA)))
 have hkF:∀ c o,c≠z->c≠TO->c≠i1->c≠i2->s.heap.get? c=some o->hF.get? c=some o:=fun c o c1 c2 c3 c4 e=>hsF.extBut _ _ c2 (hsD.extBut _ _ c4 (hsC.extBut _ _ c2 (hsB.extBut _ _ c3 (hsA.extBut _ _ c1 e))))
 have s1F:S1 (k+1) hF:=T7 D1 (T7 D1 (T7 D1 stB hsC.extBut D.b3) hsD.extBut D.b6) hsF.extBut D.b3
 have s2F:S2 (k+1) hF:=T7 D2 stD hsF.extBut D.b4
 have hzlt:z<hF.objs.size:=d6 hzF
 show o7 _ _ (Builtin.SmallTypes.ownedTupleHandOut (.ref z) (.ref hF.objs.size) >>= _) _ _ _;refine b7 ?_;unfold Builtin.SmallTypes.ownedTupleHandOut
 have hzG:aR6 (hF.push { cls:=.type "tuple",data:=.seq #[x,y] }) z TI TO .ellipsis:=c5 _ hzF
 refine b7 (Y1 hzG (by simp) fun hJ hzJ hsJ=>?_)
 replace hzJ:aR6 hJ z TI TO (ac4 hF.objs.size):=hzJ
 refine Y1 hzJ (by simp) fun hL hzL hsL=>?_
 replace hzL:aR6 hL z TI TO (ac4 hF.objs.size):=hzL
 have up:∀ c o,c≠z->hF.get? c=some o->hL.get? c=some o:=fun c o c1 e=>hsL.extBut _ _ c1 (hsJ.extBut _ _ c1 (c5 _ e))
 have hTL:Y0 hL hF.objs.size x y:=hsL.extBut _ _ (K7 hzlt) (hsJ.extBut _ _ (K7 hzlt) (i8 _ rfl))
 have hzs:hL.objs.size=hF.objs.size+1:=by rw[hsL.1,hsJ.1,D0]
 rw[hsz]at hzL hTL hzs
 refine d3 ⟨_,rfl,?_⟩;show Q (.ref hF.objs.size) _;rw[hsz]
 exact hQ x y hL tD hx hy hzL (up _ _ D.a2 hTOF) (D1.frame _ _ _ s1F fun b hb o e=>up b o (fun q=>D.b1 (q ▸ hb)) e) (D2.frame _ _ _ s2F fun b hb o e=>up b o (fun q=>D.b2 (q ▸ hb)) e) hTL hzs fun c o c1 c2 c3 c4 e=>up c o c1 (hkF c o c1 c2 c3 c4 e)
theorem bQ2 {Q:PySem.Fin->c7->Prop}{a b:c6}(D:ZAp z TI TO i1 i2 f1 f2)(D1:Draws prog w A i1 f1 n1 P1 S1)(hz:aR6 s.heap z TI TO .none)(hTI:Y0 s.heap TI (.ref i1) (.ref i2))(hTO:Y0 s.heap TO a b)(st1:S1 n1 s.heap)
  (hE:∀ h' e,(∀ c o,c≠z->c≠TO->c≠i1->c≠i2->s.heap.get? c=some o->h'.get? c=some o)->(∃ o,h'.get? e=some o/\o.cls=.type "StopIteration")->E (.ref e) { s with heap:=h' }) :
  o7 (y6 prog w) A (ai3.«zip.__next__» ⟨[.ref z],[]⟩) Q E s:=by
 show o7 _ _ (field (.ref z) 2 >>= _) _ _ _;refine b7 (E5 hz rfl (x:=.bool false) rfl ?_)
 show o7 _ _ (field (.ref z) 3 >>= _) _ _ _;refine b7 (E5 hz rfl (x:=.ref TI) rfl (b7 (J2 hTI rfl ?_)))
 show o7 _ _ (Builtin.SmallTypes.ownedTupleIsFree (.ref z) >>= _) _ _ _;refine b7 ?_;unfold Builtin.SmallTypes.ownedTupleIsFree
 refine b7 (E5 hz rfl (x:=.none) rfl (d3 ?_));simp only[if_true]
 refine b7 (ah3 (b7 (E5 hz rfl (x:=.ref TO) rfl (b7 (Y1 hz (by simp) fun hA hzA hsA=>?_)))))
 replace hzA:aR6 hA z TI TO .ellipsis:=hzA
 refine b7 ?_;simp only[bZ5,List.zipIdx_nil,List.forIn_cons,List.forIn_nil]
 refine b7 (b7 (bD2 ?_));show o7 _ _ (Builtin.SmallTypes.nextOf (.ref i1) >>= _) _ _ _
 refine b7 (D1.done _ _ _ (T7 D1 st1 hsA.extBut D.b1) fun hB e hsB he=>?_)
 obtain⟨oe,hoe,hce⟩:=he
 have hzB:aR6 hB z TI TO .ellipsis:=hsB _ _ D.a3.symm hzA
 have hez:e≠z:=fun x=>by subst x;rw[hzB]at hoe;cases hoe;simp at hce
 exact Y1 hzB (by simp) fun hC _ hsC=>hE hC e (fun c o c1 _ c3 _ x=>hsC.extBut _ _ c1 (hsB _ _ c3 (hsA.extBut _ _ c1 x))) ⟨oe,hsC.extBut _ _ hez hoe,hce⟩
theorem bD3 {Q:Option c6->c7->Prop} {a b:c6} (D:ZAp z TI TO i1 i2 f1 f2) (D1:Draws prog w A.in1 i1 f1 n1 P1 S1) (D2:Draws prog w A.in1 i2 f2 n2 P2 S2) (hz:aR6 s.heap z TI TO .none) (hTI:Y0 s.heap TI (.ref i1) (.ref i2)) (hTO:Y0 s.heap TO a b) (st1:S1 k s.heap) (st2:S2 k s.heap) (hk1:k<n1) (hk2:k<n2)
  (hQ : ∀ x y h' tk, P1 k x -> P2 k y -> aR6 h' z TI TO (ac4 s.heap.objs.size) -> Y0 h' TO x y -> S1 (k + 1) h' -> S2 (k + 1) h' -> Y0 h' s.heap.objs.size x y -> h'.objs.size = s.heap.objs.size + 1 ->
   (∀ c o,c≠z->c≠TO->c≠i1->c≠i2->s.heap.get? c=some o->h'.get? c=some o)->Q (some (.ref s.heap.objs.size)) { s with heap:=h',toks:=tk }):o7 (y6 prog w) A (aL8 (.ref z)) Q E s:=by
 have hT:s.TypeIs (.ref z) "zip":=⟨_,hz,rfl⟩;unfold aL8
 refine b7 (aM3 (J7 (name:=Str.ofString "__next__") hT F.slot_zip_next (K1 F.slot_zip_next hT F.entry_zip_next ?_ (F.args_zip_next_1 _))))
 exact bD5 D D1 D2 hz hTI hTO st1 st2 hk1 hk2 fun x y h' tk a0 a1 a2 a3 a4 a5 a6 a7 a8=>d3 (hQ x y h' tk a0 a1 a2 a3 a4 a5 a6 a7 a8)
theorem bD4 {Q:Option c6->c7->Prop}{a b:c6}(D:ZAp z TI TO i1 i2 f1 f2)(D1:Draws prog w A.in1 i1 f1 n1 P1 S1)(hz:aR6 s.heap z TI TO .none)(hTI:Y0 s.heap TI (.ref i1) (.ref i2))(hTO:Y0 s.heap TO a b)(st1:S1 n1 s.heap)
  (hQ:∀ h',(∀ c o,c≠z->c≠TO->c≠i1->c≠i2->s.heap.get? c=some o->h'.get? c=some o)->Q none { s with heap:=h' }):o7 (y6 prog w) A (aL8 (.ref z)) Q E s:=by
 have hT:s.TypeIs (.ref z) "zip":=⟨_,hz,rfl⟩;unfold aL8
 refine b7 (aM3 (J7 (name:=Str.ofString "__next__") hT F.slot_zip_next (K1 F.slot_zip_next hT F.entry_zip_next (bQ2 D D1 hz hTI hTO st1 fun h' e hk he=>?_) (F.args_zip_next_1 _))))
 obtain⟨o,ho,hc⟩:=he
 exact b7 (wpAny_isInstance (T:="StopIteration") (b:=true) ⟨o,ho,hc⟩ isSubtype_stop (d3 (hQ _ hk)))
end
abbrev zA (h:Heap)(p:Addr):Heap:=h.push { cls:=.type "list_iterator",data:=.fields #[.ref p,.int 0 0] }
section
variable {prog:j8} {w:x6} {A:u4} {E:c6->c7->Prop} {s:c7}
end
section
variable {X:Cx} {pins:List (Addr × Obj)} {σ:St} {H:Hp} {s:c7}
theorem bh4 {a c:Addr}{o:Obj}(I:Inv X pins σ H s)(f:N8 X pins H c)(lk:X.K.lookup a=some o):a≠c:=fun z=>by
 have e:=I.ok.mod.kin a o lk
 rw[z]at e
 rcases f.2.2.2.1 with h | h
 ·exact I.ok.noex c o e h
 ·exact absurd (p7 (d6 e) (A4 I.ok.bsz h)) (B8 _)
theorem cj5 {a c:Addr}{xs:List V}(I:Inv X pins σ H s)(f:N8 X pins H c)(q:SqL X.K H a xs):a≠c:=by
 rcases q with(q | ⟨o,q⟩) | ⟨o,its,n,lk,_⟩
 ·exact o5 q f.1
 ·exact o5 q f.1
 ·exact bh4 I f lk
theorem cj4 {a c:Addr}{xs:List V}(I:Inv X pins σ H s)(f:N8 X pins H c)(q:SqT X.K H a xs):a≠c:=by
 rcases q with(q | ⟨o,q⟩) | ⟨o,its,n,lk,_⟩
 ·exact o5 q f.1
 ·exact o5 q f.1
 ·exact bh4 I f lk
theorem Inv.tupled {h':Heap}{t':Nat}{fp:List Addr}{xs:List V}{its:List c6}(I:Inv X pins σ H s)(hf:∀ b∈fp,N8 X pins H b)(kp:∀ b o,b∉fp->s.heap.get? b=some o->h'.get? b=some o)
  (ht:h'.get? s.heap.objs.size=some { cls:=.type "tuple",data:=.seq its.toArray })(rv:D9 xs its)(hl:xs.length<=i9):Inv X pins σ (upd H s.heap.objs.size (.tup xs)) { s with heap:=h',toks:=t' }:=by
 have hT:H s.heap.objs.size=none:=I.hok.fresh (d4 _)
 have nH:∀ b o,H b=some o->b∉fp:=fun b o q hb=>by rw[(hf b hb).1]at q;cases q
 have keepH:∀ b o,H b=some o->upd H s.heap.objs.size (.tup xs) b=some o:=fun b o q=>by rw[v7 (o5 q hT)];exact q
 have hok2:HOk X.prog X.w (upd H s.heap.objs.size (.tup xs)) h':=fun b o eb=>by
  by_cases hb:b=s.heap.objs.size
  ·subst hb
   rw[c8]at eb
   cases eb
   exact⟨hl,its,rv,⟨_,ht,rfl,_,rfl⟩⟩
  ·rw[v7 hb]at eb
   refine(I.hok b o eb).stay (fun c v hcc q=>kp c v ?_ q) (fun c q=>keepH c _ q) fun c ys q=>keepH c _ q
   rcases hcc with z | z
   ·exact nH c o (by rw[z];exact eb)
   ·exact nH c _ z
 refine I.step (g':=s.gens) (d':=s.drawn) (t':=t') (ch:=fp) (fun b hb=>?_) (fun b o _ _ hcc q _=>kp b o hcc q) (fun b o _ _ hcc q _=>⟨o.slots,kp b o hcc q⟩) (fun b o _ q n=>?_) (fun b o hcc q=>⟨o,kp b o hcc q⟩) (fun b ys q=>keepH b _ q) (fun b o v q=>keepH b _ q) (fun b ps q=>⟨#[],by rw[keepH b _ q];simp⟩) (fun m hm=>?_) hok2 I.bare
 ·obtain⟨f0,f1,f2,f3,f4,f5⟩:=hf b hb
  exact⟨f3,f1,f4,f5⟩
 ·rw[v7 (j7 (d6 q))]
  exact n
 ·obtain⟨o,es,ep,ho,r⟩:=hm
  exact⟨o,es,ep,kp _ o (fun hb=>(hf _ hb).2.1 rfl) ho,r⟩
theorem Inv.turns {h':Heap}{t':Nat}{fp:List Addr}(I:Inv X pins σ H s)(hf:∀ b∈fp,N8 X pins H b)(kp:∀ b o,b∉fp->s.heap.get? b=some o->h'.get? b=some o):Inv X pins σ H { s with heap:=h',toks:=t' }:=by
 have nH:∀ b o,H b=some o->b∉fp:=fun b o q hb=>by rw[(hf b hb).1]at q;cases q
 refine I.step (g':=s.gens) (d':=s.drawn) (t':=t') (ch:=fp) (fun b hb=>?_) (fun b o _ _ hcc q _=>kp b o hcc q) (fun b o _ _ hcc q _=>⟨o.slots,kp b o hcc q⟩) (fun b o _ q n=>n) (fun b o hcc q=>⟨o,kp b o hcc q⟩) (fun b ys q=>q) (fun b o v q=>q) (fun b ps q=>⟨#[],by rw[q];simp⟩) (fun m hm=>?_) (fun b o eb=>?_) I.bare
 ·obtain⟨f0,f1,f2,f3,f4,f5⟩:=hf b hb
  exact⟨f3,f1,f4,f5⟩
 ·obtain⟨o,es,ep,ho,r⟩:=hm
  exact⟨o,es,ep,kp _ o (fun hb=>(hf _ hb).2.1 rfl) ho,r⟩
 ·refine(I.hok b o eb).stay (fun c v hcc q=>kp c v ?_ q) (fun c q=>q) fun c ys q=>q
  rcases hcc with z | z
  ·exact nH c o (by rw[z];exact eb)
  ·exact nH c _ z
end
theorem nd5 (n:Nat):[n+4,n+2,n+3,n,n+1].Nodup:=by
 simp only[F5,g6,N4,or_false,not_or,bd1,not_false_eq_true,and_true]
 omega
theorem ci6 {n k:Nat}(h:k∈[n+4,n+2,n+3,n,n+1]):n<=k:=by
 simp only[g6,N4,or_false]at h
 omega
section
variable {X:Cx}
end
def SqB (b:Bool)(K:W.Frag)(H:Hp)(a:Addr)(xs:List V):Prop:=match b with
 | true=>SqL K H a xs
 | false=>SqT K H a xs
def itB (b:Bool)(h:Heap)(i a:Addr)(k:Nat):Prop:=match b with
 | true=>h.IsListIter i a k
 | false=>h.IsTupleIter i a k
def isQ (b:Bool)(h:Heap)(a:Addr)(xs:Array c6):Prop:=match b with
 | true=>h.IsList a xs
 | false=>h.IsTuple a xs
def nmB (b:Bool):String:=match b with
 | true=>"list_iterator"
 | false=>"tuple_iterator"
theorem itB.obj {b:Bool}{h:Heap}{i a:Addr}{k:Nat}(q:itB b h i a k):∃ o,h.get? i=some o/\∃ v,o.data=.fields v:=by
 cases b with
 | true=>obtain⟨o,h1,_,h2⟩:=q;exact⟨o,h1,_,h2⟩
 | false=>obtain⟨o,h1,_,h2⟩:=q;exact⟨o,h1,_,h2⟩
theorem itB.at {b:Bool}{h h':Heap}{i a:Addr}{k:Nat}(q:itB b h i a k)(e:∀ o,h.get? i=some o->h'.get? i=some o):itB b h' i a k:=by
 cases b with
 | true=>exact Heap.IsListIter.at q e
 | false=>exact Heap.IsTupleIter.at q e
theorem bc2 {prog:j8}{w:x6}{A:u4}(b:Bool)(hh:A.handled=none)(it l:Addr)(hne:l≠it)(items:Array c6):Draws prog w A it [it,l] items.size (fun i v=>items[i]?=some v) (fun i h=>itB b h it l i/\isQ b h l items):=by
 cases b with
 | true=>exact Draws.list hh it l hne items
 | false=>exact av3 hh it l hne items
theorem bX0 {b:Bool}{X:Cx}{pins:List (Addr × Obj)}{σ:St}{H:Hp}{s:c7}{a c:Addr}{xs:List V}(I:Inv X pins σ H s)(f:N8 X pins H c)(q:SqB b X.K H a xs):a≠c:=by
 cases b with
 | true=>exact cj5 I f q
 | false=>exact cj4 I f q
theorem Inv.seqB {b:Bool}{X:Cx}{pins:List (Addr × Obj)}{σ:St}{H:Hp}{s:c7}{a:Addr}{xs:List V}(I:Inv X pins σ H s)(q:SqB b X.K H a xs):∃ its,D9 xs its/\isQ b s.heap a its.toArray:=by
 cases b with
 | true=>obtain⟨its,rv,pl,_⟩:=I.list q;exact⟨its,rv,pl.isList⟩
 | false=>obtain⟨its,rv,pt,_⟩:=I.tuple q;exact⟨its,rv,pt⟩
theorem Inv.seqB_inj {b:Bool}{X:Cx}{pins:List (Addr × Obj)}{σ:St}{H:Hp}{s:c7}{a:Addr}{xs ys:List V}(I:Inv X pins σ H s)(q:SqB b X.K H a xs)(r:SqB b X.K H a ys):xs=ys:=by
 cases b with
 | true=>exact I.list_inj q r
 | false=>exact I.tuple_inj q r
abbrev xA (b1:Bool)(h:Heap)(p:Addr):Heap:=h.push { cls:=.type (nmB b1),data:=.fields #[.ref p,.int 0 0] }
abbrev xB (b1 b2:Bool)(h:Heap)(p q:Addr):Heap:=(xA b1 h p).push { cls:=.type (nmB b2),data:=.fields #[.ref q,.int 0 0] }
abbrev xC (b1 b2:Bool)(h:Heap)(p q:Addr):Heap:=(xB b1 b2 h p q).push { cls:=.type "tuple",data:=.seq #[.ref h.objs.size,.ref (xA b1 h p).objs.size] }
abbrev xD (b1 b2:Bool)(h:Heap)(p q:Addr):Heap:=(xC b1 b2 h p q).push { cls:=.type "tuple",data:=.seq #[.none,.none] }
abbrev xE (b1 b2:Bool)(h:Heap)(p q:Addr):Heap:=(xD b1 b2 h p q).push { cls:=.type "zip",data:=.fields #[.none,.bool false,.bool false,.ref (xB b1 b2 h p q).objs.size,.ref (xC b1 b2 h p q).objs.size] }
set_option maxHeartbeats 2000000 in
theorem bb2 (b1 b2:Bool)(p q:Addr)(xs ys:Array c6) :
  Meets (ai3.«zip.__new__» ⟨[.type "zip",.ref p,.ref q],[]⟩) (fun _ R s=>isQ b1 s.heap p xs/\isQ b2 s.heap q ys/\R (.ok (.ret (.ref (xD b1 b2 s.heap p q).objs.size))) { s with heap:=xE b1 b2 s.heap p q }) :=
 .of_wp fun prog w A R s h=>by
  obtain⟨hp,g,d,tk,os⟩:=s;obtain⟨h1,h2,h⟩:=h
  have hsub:=sub_zip
  cases b1 with
  | true =>
   have hL:Heap.IsList (Shared.heap ⟨hp,g,d,tk,os⟩) p xs:=h1
   cases b2 with
   | true =>
    have hT:Heap.IsList (Shared.heap ⟨hp.push { cls:=.type "list_iterator",data:=.fields #[.ref p,.int 0 0] },g,d,tk,os⟩) q ys:=Heap.IsList.push h2 _
    wp_walk using M9 hL,M9 hT
    exact⟨_,rfl,h⟩
   | false =>
    have hT:Heap.IsTuple (Shared.heap ⟨hp.push { cls:=.type "list_iterator",data:=.fields #[.ref p,.int 0 0] },g,d,tk,os⟩) q ys:=Heap.IsTuple.push h2 _
    wp_walk using M9 hL,J4 hT
    exact⟨_,rfl,h⟩
  | false =>
   have hL:Heap.IsTuple (Shared.heap ⟨hp,g,d,tk,os⟩) p xs:=h1
   cases b2 with
   | true =>
    have hT:Heap.IsList (Shared.heap ⟨hp.push { cls:=.type "tuple_iterator",data:=.fields #[.ref p,.int 0 0] },g,d,tk,os⟩) q ys:=Heap.IsList.push h2 _
    wp_walk using J4 hL,M9 hT
    exact⟨_,rfl,h⟩
   | false =>
    have hT:Heap.IsTuple (Shared.heap ⟨hp.push { cls:=.type "tuple_iterator",data:=.fields #[.ref p,.int 0 0] },g,d,tk,os⟩) q ys:=Heap.IsTuple.push h2 _
    wp_walk using J4 hL,J4 hT
    exact⟨_,rfl,h⟩
theorem az4 {b:Bool}{h:Heap}{i p:Addr}(e:h.get? i=some { cls:=.type (nmB b),data:=.fields #[.ref p,.int 0 0] }):itB b h i p 0:=by
 cases b with
 | true=>exact⟨_,e,rfl,rfl⟩
 | false=>exact⟨_,e,rfl,rfl⟩
section
variable {prog:j8} {w:x6} {A:u4} {E:c6->c7->Prop} {s:c7}
theorem bn8 {b1 b2:Bool} {p q:Addr} {xs ys:Array c6} {Q:c6->c7->Prop} (h1:isQ b1 s.heap p xs) (h2:isQ b2 s.heap q ys)
  (h : ∀ h', aR6 h' (s.heap.objs.size + 4) (s.heap.objs.size + 2) (s.heap.objs.size + 3) .none -> Y0 h' (s.heap.objs.size + 2) (.ref s.heap.objs.size) (.ref (s.heap.objs.size + 1)) -> Y0 h' (s.heap.objs.size + 3) .none .none -> itB b1 h' s.heap.objs.size p 0 ->
   itB b2 h' (s.heap.objs.size+1) q 0->h'.objs.size=s.heap.objs.size+5->(∀ c o,s.heap.get? c=some o->h'.get? c=some o)->Q (.ref (s.heap.objs.size+4)) { s with heap:=h' }) :
  o7 (y6 prog w) A (call (.type "zip") [.ref p,.ref q]) Q E s:=by
 refine callType_new F.called_zip (by decide) (F.typeCall_zip_2 _ _) (F.newCall_zip_2 _ _) (fun obj=>F.args_object_init_3 obj _ _) F.entry_zip_new (bb2 b1 b2 p q xs ys) ⟨h1,h2,?_⟩
 have y1:(xA b1 s.heap p).objs.size=s.heap.objs.size+1:=D0 ..
 have y2:(xB b1 b2 s.heap p q).objs.size=s.heap.objs.size+2:=by rw[D0,y1]
 have y3:(xC b1 b2 s.heap p q).objs.size=s.heap.objs.size+3:=by rw[D0,y2]
 have y4:(xD b1 b2 s.heap p q).objs.size=s.heap.objs.size+4:=by rw[D0,y3]
 have y5:(xE b1 b2 s.heap p q).objs.size=s.heap.objs.size+5:=by rw[D0,y4]
 have p1:∀ {hh:Heap} {o:Obj} {b:Addr} {u:Obj},hh.get? b=some u->(hh.push o).get? b=some u:=fun e=>c5 _ e
 have g5:(xE b1 b2 s.heap p q).get? (xD b1 b2 s.heap p q).objs.size=some _:=i8 _ rfl
 have g4:(xE b1 b2 s.heap p q).get? (xC b1 b2 s.heap p q).objs.size=some _:=p1 (i8 _ rfl)
 have g3:(xE b1 b2 s.heap p q).get? (xB b1 b2 s.heap p q).objs.size=some _:=p1 (p1 (i8 _ rfl))
 have g2:(xE b1 b2 s.heap p q).get? (xA b1 s.heap p).objs.size=some _:=p1 (p1 (p1 (i8 _ rfl)))
 have g1:(xE b1 b2 s.heap p q).get? s.heap.objs.size=some _:=p1 (p1 (p1 (p1 (i8 _ rfl))))
 show _/\_
 rw[y2,y3,y4]at g5;rw[y1,y2]at g3;rw[y3]at g4;rw[y1]at g2;rw[y4]
 exact⟨⟨_,g5,rfl⟩,h _ g5 g3 g4 (az4 g1) (az4 g2) y5 fun c o x=>p1 (p1 (p1 (p1 (p1 x))))⟩
end
def bA9 (b1 b2:Bool)(K:W.Frag)(a b:Addr):It:=
 ⟨fun i H=>∃ xs ys x y,SqB b1 K H a xs/\SqB b2 K H b ys/\xs[i]?=some x/\ys[i]?=some y,fun i H x H'=>∃ t u v,H t=none/\x=.ref t/\(∀ xs,SqB b1 K H a xs->xs[i]?=some u)/\(∀ ys,SqB b2 K H b ys->ys[i]?=some v)/\H'=upd H t (.tup [u,v]),fun i H=>∃ xs,SqB b1 K H a xs/\xs.length=i⟩
def ce7 (K:W.Frag)(ta:TA):TI:=fun σ H R=>ta σ H fun vs H1=>∃ (b1 b2:Bool) (a b:Addr),vs=[.ref a,.ref b]/\(∃ xs,SqB b1 K H1 a xs)/\(∃ ys,SqB b2 K H1 b ys)/\R (bA9 b1 b2 K a b) H1
theorem bk5 {b1 b2:Bool}{P:j8}{w:x6}{K:W.Frag}{elts:List Expr}{x1:Nat}{pos:Pos}(a b z TI TO i1 i2:Addr)(nd:[z,TI,TO,i1,i2].Nodup) :
  Turn P w K (.Tuple elts x1 pos) (bA9 b1 b2 K a b) [z,TI,TO,i1,i2] z (fun i h=>aR6 h z TI TO .none/\Y0 h TI (.ref i1) (.ref i2)/\(∃ x y,Y0 h TO x y)/\itB b1 h i1 a i/\itB b2 h i2 b i) where
 mem:=by simp
 obj:=fun i h st c hc=>by
  obtain⟨hz,hTI,⟨x,y,hTO⟩,h1,h2⟩:=st
  obtain⟨o1,ho1,v1,hd1⟩:=h1.obj
  obtain⟨o2,ho2,v2,hd2⟩:=h2.obj
  simp only[g6,N4,or_false]at hc
  rcases hc with rfl | rfl | rfl | rfl | rfl
  ·exact⟨_,hz,fun v q=>by cases q⟩
  ·exact⟨_,hTI,fun v q=>by cases q⟩
  ·exact⟨_,hTO,fun v q=>by cases q⟩
  ·exact⟨o1,ho1,fun v q=>by rw[hd1]at q;cases q⟩
  ·exact⟨o2,ho2,fun v q=>by rw[hd2]at q;cases q⟩
 keep:=fun i h h' st k=>by
  obtain⟨hz,hTI,⟨x,y,hTO⟩,h1,h2⟩:=st
  exact⟨k z (by simp) _ hz,k TI (by simp) _ hTI,⟨x,y,k TO (by simp) _ hTO⟩,h1.at fun o q=>k i1 (by simp) o q,h2.at fun o q=>k i2 (by simp) o q⟩
 item:=by
  intro X hP hw hK hc i pins s σ H E I hf st hg
  subst hP hw hK
  obtain⟨xs,ys,x,y,q1,q2,hx,hy⟩:=hg
  obtain⟨hz,hTI,⟨o1,o2,hTO⟩,h1,h2⟩:=st
  obtain⟨its,rv,pl⟩:=I.seqB q1
  obtain⟨jts,rw',pt⟩:=I.seqB q2
  obtain⟨u,hu,ru⟩:=rv.get hx
  obtain⟨v,hv,rv'⟩:=rw'.get hy
  have fa:∀ c∈[z,TI,TO,i1,i2],a≠c:=fun c hc=>bX0 I (hf c hc) q1
  have fb:∀ c∈[z,TI,TO,i1,i2],b≠c:=fun c hc=>bX0 I (hf c hc) q2
  have hl1:isQ b1 s.heap a its.toArray:=pl
  have hl2:isQ b2 s.heap b jts.toArray:=pt
  have ui:its.toArray[i]?=some u:=by simpa using hu
  have vi:jts.toArray[i]?=some v:=by simpa using hv
  have lt1:i<its.toArray.size:=by
   rcases C9 i its.toArray.size with h | h
   ·exact h
   ·rw[an8 h]at ui;cases ui
  have lt2:i<jts.toArray.size:=by
   rcases C9 i jts.toArray.size with h | h
   ·exact h
   ·rw[an8 h]at vi;cases vi
  simp only[F5,g6,N4,or_false,not_or]at nd
  obtain⟨⟨n1,n2,n3,n4⟩,⟨n5,n6,n7⟩,⟨n8,n9⟩,n10,_⟩:=nd
  have ap:ZAp z TI TO i1 i2 [i1,a] [i2,b]:=by
   refine⟨Ne.symm n1,Ne.symm n2,Ne.symm n3,Ne.symm n4,n5,n6,n7,n8,n9,n10,?_,?_,?_,?_,?_,?_⟩
   ·simp[n3,Ne.symm (fa z (by simp))]
   ·simp[n4,Ne.symm (fb z (by simp))]
   ·simp[n8,Ne.symm (fa TO (by simp))]
   ·simp[n9,Ne.symm (fb TO (by simp))]
   ·simp[n10,Ne.symm (fb i1 (by simp))]
   ·simp[Ne.symm n10,Ne.symm (fa i2 (by simp))]
  refine bD3 (k:=i) ap (bc2 b1 (A:=X.A.in1) (I.ok.hd hc) i1 a (fa i1 (by simp)) its.toArray) (bc2 b2 (A:=X.A.in1) (I.ok.hd hc) i2 b (fb i2 (by simp)) jts.toArray) hz hTI hTO ⟨h1,hl1⟩ ⟨h2,hl2⟩ lt1 lt2 fun x' y' hA tk px py hzo hTOo st1 st2 hT hsz hk=>?_
  obtain rfl:u=x':=by have:=ui.symm.trans px;cases this;rfl
  obtain rfl:v=y':=by have:=vi.symm.trans py;cases this;rfl
  refine⟨_,rfl,?_⟩
  refine wpAny_letOwnedTupleGo_zip hzo fun hB hzB hsB=>?_
  have hsB':Heap.SameBut z hA hB:=hsB
  have zlt:z<s.heap.objs.size:=d6 hz
  have up:∀ c o,c≠z->hA.get? c=some o->hB.get? c=some o:=fun c o c1 e=>(hsB'.2 c c1).trans e
  have kp:∀ c o,c∉[z,TI,TO,i1,i2]->s.heap.get? c=some o->hB.get? c=some o:=fun c o hc e=>by
   simp only[g6,N4,or_false,not_or]at hc
   exact up c o hc.1 (hk c o hc.1 hc.2.2.1 hc.2.2.2.1 hc.2.2.2.2 e)
  have I2:Inv X pins σ (upd H s.heap.objs.size (.tup [x,y])) { s with heap:=hB,toks:=tk }:=I.tupled (its:=[u,v]) hf kp (up _ _ (K7 zlt) hT) (.cons ru (.cons rv' .nil)) (by show 2<=i9;decide)
  have hTn:H s.heap.objs.size=none:=I.hok.fresh (d4 _)
  refine⟨.ref s.heap.objs.size,_,I2,rfl,⟨s.heap.objs.size,x,y,hTn,rfl,fun zs hq=>by rw[I.seqB_inj hq q1];exact hx,fun zs hq=>by rw[I.seqB_inj hq q2];exact hy,rfl⟩,⟨hzB,?_,⟨u,v,up _ _ (Ne.symm n2) hTOo⟩,st1.1.at fun o e=>up i1 o (Ne.symm n3) e,st2.1.at fun o e=>up i2 o (Ne.symm n4) e⟩,fun c hc=>?_⟩
  ·exact up _ _ (Ne.symm n1) (hk _ _ (Ne.symm n1) n5 n6 n7 hTI)
  ·have lt:c<s.heap.objs.size:=by
    simp only[g6,N4,or_false]at hc
    rcases hc with rfl | rfl | rfl | rfl | rfl
    ·exact zlt
    ·exact d6 hTI
    ·exact d6 hTO
    ·obtain⟨o,ho,_⟩:=h1.obj;exact d6 ho
    ·obtain⟨o,ho,_⟩:=h2.obj;exact d6 ho
   rw[v7 (j7 lt)]
   exact(hf c hc).1
 done:=by
  intro X hP hw hK hc i pins s σ H E I hf st hg
  subst hP hw hK
  obtain⟨xs,q1,hx⟩:=hg
  obtain⟨hz,hTI,⟨o1,o2,hTO⟩,h1,h2⟩:=st
  obtain⟨its,rv,pl⟩:=I.seqB q1
  have hl:=rv.length
  have fa:∀ c∈[z,TI,TO,i1,i2],a≠c:=fun c hc=>bX0 I (hf c hc) q1
  simp only[F5,g6,N4,or_false,not_or]at nd
  obtain⟨⟨n1,n2,n3,n4⟩,⟨n5,n6,n7⟩,⟨n8,n9⟩,n10,_⟩:=nd
  have ap:ZAp z TI TO i1 i2 [i1,a] [i2]:=by
   refine⟨Ne.symm n1,Ne.symm n2,Ne.symm n3,Ne.symm n4,n5,n6,n7,n8,n9,n10,?_,?_,?_,?_,?_,?_⟩
   ·simp[n3,Ne.symm (fa z (by simp))]
   ·simp[n4]
   ·simp[n8,Ne.symm (fa TO (by simp))]
   ·simp[n9]
   ·simp[n10]
   ·simp[Ne.symm n10,Ne.symm (fa i2 (by simp))]
  have ei:i=its.toArray.size:=by rw[d5];omega
  refine bD4 ap (bc2 b1 (A:=X.A.in1) (I.ok.hd hc) i1 a (fa i1 (by simp)) its.toArray) hz hTI hTO ⟨by rw[<- ei];exact h1,pl⟩ fun h' hk=>⟨rfl,I.turns (t':=s.toks) hf fun c o hc' e=>?_⟩
  simp only[g6,N4,or_false,not_or]at hc'
  exact hk c o hc'.1 hc'.2.2.1 hc'.2.2.2.1 hc'.2.2.2.2 e
 self:=fun _ _ _ _ _ st h=>wpAny_pyIter_zip st.1 h
section
variable {X:Cx}
theorem bf3 {a b:Expr}{ta:TA}{elts:List Expr}{x1:Nat}{tpos p pos:Pos}(hg:Gl X "zip")(hm:X.mg "zip"=none)(ha:PA X [a,b] ta)(hv:M5 "zip"=some (.type "zip"):=by rfl)(hs:A2 [a,b] X.env=(false,eval a X.env)::A2 [b] X.env:=by rfl)(hpl:(S7 pos (A2 [b] X.env)).any (·.1)=false:=by rfl) :
  PI X (.Tuple elts x1 tpos) (.Call (.Name "zip" p) [a,b] [] pos) (ce7 X.K ta):=by
 intro pins s σ H R I h
 refine Call_ (V8 I hg hm hv (PyProof.Rows.callWith_type1 (thn (ha pos pins s σ H _ I h) fun us s1 ⟨vs,H1,I1,r1,q1⟩=>?_) hs hpl))
 obtain⟨b1,b2,c,d,e,⟨xs,hq⟩,⟨ys,hq2⟩,q⟩:=q1
 subst e
 obtain⟨u,v,rfl,rx,ry⟩:=vals2 r1
 cases rx
 cases ry
 obtain⟨its,rv,pl⟩:=I1.seqB hq
 obtain⟨jts,rv2,pt⟩:=I1.seqB hq2
 refine bn8 pl pt fun h' gz gTI gTO g1 g2 hsz kp=>?_
 refine wpAny_pyIter_zip gz ?_
 refine⟨s1.heap.objs.size+4,[s1.heap.objs.size+4,s1.heap.objs.size+2,s1.heap.objs.size+3,s1.heap.objs.size,s1.heap.objs.size+1],_,_,H1,rfl,I1.kept (t':=s1.toks) kp,bk5 c d (s1.heap.objs.size+4) (s1.heap.objs.size+2) (s1.heap.objs.size+3) s1.heap.objs.size (s1.heap.objs.size+1) ?_,⟨gz,gTI,⟨_,_,gTO⟩,g1,g2⟩,fun k hk=>?_,q⟩
 ·exact nd5 _
 ·have:=ci6 hk
  exact I1.fpOk this (I1.hok.fresh this)
end
theorem aK5 {b1 b2:Bool}{K:W.Frag}{a b D:Addr}{ys zs:List V}{g:TG}{tt:TT}{te:TE}{Qd:Hp->Prop}{σ0:St}{H0:Hp}(hyz:ys.length=zs.length)(Pv:Nat->List V->St->Hp->Prop)(h0:Pv 0 [] σ0 H0)(hz:ys.length<=i9)(hl:∀ i xs σ H,i<=ys.length->Pv i xs σ H->SqB b1 K H a ys/\SqB b2 K H b zs/\H D=some (.lst xs)/\xs.length<=i)
  (hs:∀ i xs x y t σ H (N:List V->St->Hp->Prop),(∀ xs' σ' H',Pv (i+1) xs' σ' H'->N xs' σ' H')->ys[i]?=some x->zs[i]?=some y->Pv i xs σ H->H t=none->g (.ref t) σ (upd H t (.tup [x,y])) fun σ2 H2=>tt σ2 H2 fun b H3=>if b=true then te σ2 H3 fun v H4=>H4 D=some (.lst xs)/\N (xs++[v]) σ2 (upd H4 D (.lst (xs++[v]))) else N xs σ2 H3)
  (hd:∀ xs σ H,Pv ys.length xs σ H->Qd H) :
  ∃ W:Nat->Nat->List V->St->Hp->Prop,(∃ m,W 0 m [] σ0 H0)/\∀ i m xs σ' H',W i m xs σ' H'->H' D=some (.lst xs)/\(((bA9 b1 b2 K a b).stop i H'/\Qd H')\/((bA9 b1 b2 K a b).go i H'/\xs.length<i9/\∀ x H'',(bA9 b1 b2 K a b).yld i H' x H''->g x σ' H'' fun σ2 H2=>tt σ2 H2 fun b H3 =>
   if b=true then te σ2 H3 fun v H4=>H4 D=some (.lst xs)/\∃ m',m'<m/\W (i+1) m' (xs++[v]) σ2 (upd H4 D (.lst (xs++[v]))) else ∃ m',m'<m/\W (i+1) m' xs σ2 H3)):=by
 refine⟨fun i m xs σ H=>m=ys.length - i/\i<=ys.length/\Pv i xs σ H,⟨ys.length,by simp,y9 _,h0⟩,?_⟩
 rintro i m xs σ H ⟨rfl,hi,p⟩
 obtain⟨q1,q2,hD,hx⟩:=hl i xs σ H hi p
 refine⟨hD,?_⟩
 by_cases hlt:i<ys.length
 ·refine .inr ⟨⟨ys,zs,ys[i],zs[i],q1,q2,by simp[hlt],by simp[hyz ▸ hlt]⟩,by omega,fun x H'' y=>?_⟩
  obtain⟨t,u,v,ht,e,hu,hv,e'⟩:=y
  subst e e'
  exact hs i xs u v t σ _ (fun zs σ' H'=>∃ m',m'<ys.length - i/\m'=ys.length - (i+1)/\i+1<=ys.length/\Pv (i+1) zs σ' H') (fun zs σ' H' r=>⟨_,by omega,rfl,hlt,r⟩) (hu ys q1) (hv zs q2) p ht
 ·obtain rfl:i=ys.length:=by omega
  exact .inl ⟨⟨ys,q1,rfl⟩,hd xs σ H p⟩
section
variable {X:Cx}
theorem bf4 {tg it:Expr}{w1 w2:TI}(h1:PI X tg it w1)(h2:PI X tg it w2):PI X tg it (fun σ H R=>w1 σ H R\/w2 σ H R):=
 fun pins s σ H R I h=>h.elim (h1 pins s σ H R I) (h2 pins s σ H R I)
theorem aK7 (hc:X.calm=true):Q8 X (.builtin "sum") (fun xs H Q=>∃ (p:Addr) (ns:List Int),xs=[.ref p]/\(SqL X.K H p (ns.map V.int)\/SqT X.K H p (ns.map V.int))/\Q (.int ns.sum) H) :=
 fun pins s σ H xs us Q I r ⟨p,ns,e,hq,q⟩=>hq.elim (fun h=>R0 hc pins s σ H xs us Q I r ⟨p,ns,e,h,q⟩) fun h=>bn9 hc pins s σ H xs us Q I r ⟨p,ns,e,h,q⟩
end
theorem ao9 {D:Addr}{J:It}{S:Hp->Prop}{ys:List V}{g:TG}{tt:TT}{te:TE}{Qd:Hp->Prop}{σ0:St}{H0:Hp}
  (hst:∀ i H,S H->ys.length=i->J.stop i H)(hgo:∀ i H,S H->i<ys.length->J.go i H)(hy:∀ i H x H'',S H->J.yld i H x H''->∃ (t:Addr) (v:V),H t=none/\x=.ref t/\ys[i]?=some v/\H''=upd H t (.tup [.int i,v]))
  (Pv:Nat->List V->St->Hp->Prop)(h0:Pv 0 [] σ0 H0)(hz:ys.length<=i9)(hl:∀ i xs σ H,i<=ys.length->Pv i xs σ H->S H/\H D=some (.lst xs)/\xs.length<=i)
  (hs:∀ i xs x t σ H (N:List V->St->Hp->Prop),(∀ xs' σ' H',Pv (i+1) xs' σ' H'->N xs' σ' H')->ys[i]?=some x->Pv i xs σ H->H t=none->g (.ref t) σ (upd H t (.tup [.int i,x])) fun σ2 H2=>tt σ2 H2 fun b H3=>if b=true then te σ2 H3 fun v H4=>H4 D=some (.lst xs)/\N (xs++[v]) σ2 (upd H4 D (.lst (xs++[v]))) else N xs σ2 H3)
  (hd:∀ xs σ H,Pv ys.length xs σ H->Qd H) :
  ∃ W:Nat->Nat->List V->St->Hp->Prop,(∃ m,W 0 m [] σ0 H0)/\∀ i m xs σ' H',W i m xs σ' H'->H' D=some (.lst xs)/\((J.stop i H'/\Qd H')\/(J.go i H'/\xs.length<i9/\∀ x H'',J.yld i H' x H''->g x σ' H'' fun σ2 H2=>tt σ2 H2 fun b H3 =>
   if b=true then te σ2 H3 fun v H4=>H4 D=some (.lst xs)/\∃ m',m'<m/\W (i+1) m' (xs++[v]) σ2 (upd H4 D (.lst (xs++[v]))) else ∃ m',m'<m/\W (i+1) m' xs σ2 H3)):=by
 refine⟨fun i m xs σ H=>m=ys.length - i/\i<=ys.length/\Pv i xs σ H,⟨ys.length,by simp,y9 _,h0⟩,?_⟩
 rintro i m xs σ H ⟨rfl,hi,p⟩
 obtain⟨q,hD,hx⟩:=hl i xs σ H hi p
 refine⟨hD,?_⟩
 by_cases hlt:i<ys.length
 ·refine .inr ⟨hgo i H q hlt,by omega,fun x H'' y=>?_⟩
  obtain⟨t,v,ht,e,hv,e'⟩:=hy i H x H'' q y
  subst e e'
  exact hs i xs v t σ _ (fun zs σ' H'=>∃ m',m'<ys.length - i/\m'=ys.length - (i+1)/\i+1<=ys.length/\Pv (i+1) zs σ' H') (fun zs σ' H' r=>⟨_,by omega,rfl,hlt,r⟩) hv p ht
 ·have e:i=ys.length:=by omega
  subst e
  exact .inl ⟨hst _ H q rfl,hd xs σ H p⟩
theorem bx1 {K:W.Frag}{a:Addr}{ys:List V}(i:Nat)(H:Hp)(q:SqL K H a ys)(h:ys.length=i):(Itn K a).stop i H:=⟨ys,q,at6 h⟩
theorem bx2 {K:W.Frag}{a:Addr}{ys:List V}(i:Nat)(H:Hp)(q:SqL K H a ys)(h:i<ys.length):(Itn K a).go i H:=⟨ys,ys[i],q,by simp[h]⟩
theorem bO1 {K:W.Frag}{a:Addr}{ys:List V}(i:Nat)(H:Hp)(x:V)(H'':Hp)(q:SqL K H a ys)(y:(Itn K a).yld i H x H''):∃ (t:Addr) (v:V),H t=none/\x=.ref t/\ys[i]?=some v/\H''=upd H t (.tup [.int i,v]):=by
 obtain⟨t,v,ht,e,hv,e'⟩:=y
 exact⟨t,v,ht,e,hv ys q,e'⟩
theorem bV9 {K:W.Frag}{a:Addr}{ys:List V}(i:Nat)(H:Hp)(q:SqT K H a ys)(h:ys.length=i):(Itm K a).stop i H:=⟨ys,q,h⟩
theorem bW0 {K:W.Frag}{a:Addr}{ys:List V}(i:Nat)(H:Hp)(q:SqT K H a ys)(h:i<ys.length):(Itm K a).go i H:=⟨ys,ys[i],q,by simp[h]⟩
theorem ce6 {K:W.Frag}{a:Addr}{ys:List V}(i:Nat)(H:Hp)(x:V)(H'':Hp)(q:SqT K H a ys)(y:(Itm K a).yld i H x H''):∃ (t:Addr) (v:V),H t=none/\x=.ref t/\ys[i]?=some v/\H''=upd H t (.tup [.int i,v]):=by
 obtain⟨t,v,ht,e,hv,e'⟩:=y
 exact⟨t,v,ht,e,hv ys q,e'⟩
theorem aE8 {K:W.Frag} {a:Addr} {ys:List V} {g:TG} {tt:TT} {te:TE} {Qd:Addr->Hp->Prop} {σ0:St} {H:Hp} (hS:SqL K H a ys\/SqT K H a ys) (hz:ys.length<=i9)
  (Pv:Addr->Nat->List V->St->Hp->Prop) (h0:∀ D,H D=none->Pv D 0 [] σ0 (upd H D (.lst []))) (hl:∀ D i xs σ H',H D=none->i<=ys.length->Pv D i xs σ H'->u9 H H'/\H' D=some (.lst xs)/\xs.length<=i)
  (hs:∀ D i xs x t σ H' (N:List V->St->Hp->Prop),H D=none->(∀ xs' σ' H'',Pv D (i+1) xs' σ' H''->N xs' σ' H'')->ys[i]?=some x->Pv D i xs σ H'->H' t=none->g (.ref t) σ (upd H' t (.tup [.int i,x])) fun σ2 H2=>tt σ2 H2 fun b H3=>if b=true then te σ2 H3 fun v H4=>H4 D=some (.lst xs)/\N (xs++[v]) σ2 (upd H4 D (.lst (xs++[v]))) else N xs σ2 H3)
  (hd:∀ D xs σ H',H D=none->Pv D ys.length xs σ H'->Qd D H') :
  (∃ b, [V.ref a] = [V.ref b] /\ (∃ xs, SqL K H b xs) /\ ∀ D, H D = none -> ∃ W : Nat -> Nat -> List V -> St -> Hp -> Prop, (∃ m, W 0 m [] σ0 (upd H D (.lst []))) /\ ∀ i m xs σ' H', W i m xs σ' H' -> H' D = some (.lst xs) /\ (((Itn K b).stop i H' /\ Qd D H') \/ ((Itn K b).go i H' /\ xs.length < i9 /\ ∀ x H'', (Itn K b).yld i H' x H'' -> g x σ' H'' fun σ2 H2 => tt σ2 H2 fun b H3 =>
   if b=true then te σ2 H3 fun v H4=>H4 D=some (.lst xs)/\∃ m',m'<m/\W (i+1) m' (xs++[v]) σ2 (upd H4 D (.lst (xs++[v]))) else ∃ m',m'<m/\W (i+1) m' xs σ2 H3))) \/
  (∃ b, [V.ref a] = [V.ref b] /\ (∃ xs, SqT K H b xs) /\ ∀ D, H D = none -> ∃ W : Nat -> Nat -> List V -> St -> Hp -> Prop, (∃ m, W 0 m [] σ0 (upd H D (.lst []))) /\ ∀ i m xs σ' H', W i m xs σ' H' -> H' D = some (.lst xs) /\ (((Itm K b).stop i H' /\ Qd D H') \/ ((Itm K b).go i H' /\ xs.length < i9 /\ ∀ x H'', (Itm K b).yld i H' x H'' -> g x σ' H'' fun σ2 H2 => tt σ2 H2 fun b H3 =>
   if b=true then te σ2 H3 fun v H4=>H4 D=some (.lst xs)/\∃ m',m'<m/\W (i+1) m' (xs++[v]) σ2 (upd H4 D (.lst (xs++[v]))) else ∃ m',m'<m/\W (i+1) m' xs σ2 H3))):=by
 rcases hS with hS | hS
 ·exact .inl ⟨a,rfl,⟨_,hS⟩,fun D hD=>ao9 (S:=fun H'=>SqL K H' a ys) bx1 bx2 bO1 (Pv D) (h0 D hD) hz (fun i xs σ H' hi p=>let ⟨s,g,l⟩:=hl D i xs σ H' hD hi p;⟨s.seq hS,g,l⟩) (fun i xs x t σ H' N kN hx p ht=>hs D i xs x t σ H' N hD kN hx p ht) (fun xs σ H' p=>hd D xs σ H' hD p)⟩
 ·exact .inr ⟨a,rfl,⟨_,hS⟩,fun D hD=>ao9 (S:=fun H'=>SqT K H' a ys) bV9 bW0 ce6 (Pv D) (h0 D hD) hz (fun i xs σ H' hi p=>let ⟨s,g,l⟩:=hl D i xs σ H' hD hi p;⟨s.seqT hS,g,l⟩) (fun i xs x t σ H' N kN hx p ht=>hs D i xs x t σ H' N hD kN hx p ht) (fun xs σ H' p=>hd D xs σ H' hD p)⟩
theorem aq7 {X:Cx}(K:W.Frag)(hK:X.K=K){es:List Expr}{k:Nat}{pos:Pos}{t:TGs}{n:Nat}(hc:X.calm=true)(h:PGs X es t)
  (hn:(ah2 es X.env).length=n:=by rfl)(hst:(ah2 es X.env).findIdx? (·.1)=none:=by rfl):PG X (.Tuple es k pos) (cf4 K n t):=by
 subst hK
 exact ao4 hc h hn hst
theorem aK6 {K:W.Frag} {a:Addr} {ys:List V} {g:TG} {tt:TT} {te:TE} {Qd:Addr->Hp->Prop} {σ0:St} {H:Hp} (hS:SqL K H a ys\/SqT K H a ys) (hz:ys.length<=i9)
  (Pv:Addr->Nat->List V->St->Hp->Prop) (h0:∀ D,H D=none->Pv D 0 [] σ0 (upd H D (.lst []))) (hl:∀ D i xs σ H',H D=none->i<=ys.length->Pv D i xs σ H'->u9 H H'/\H' D=some (.lst xs)/\xs.length<=i)
  (hs:∀ D i xs x σ H' (N:List V->St->Hp->Prop),H D=none->(∀ xs' σ' H'',Pv D (i+1) xs' σ' H''->N xs' σ' H'')->ys[i]?=some x->Pv D i xs σ H'->g x σ H' fun σ2 H2=>tt σ2 H2 fun b H3=>if b=true then te σ2 H3 fun v H4=>H4 D=some (.lst xs)/\N (xs++[v]) σ2 (upd H4 D (.lst (xs++[v]))) else N xs σ2 H3)
  (hd:∀ D xs σ H',H D=none->Pv D ys.length xs σ H'->Qd D H') :
  (∃ b, V.ref a = V.ref b /\ (∃ xs, SqL K H b xs) /\ ∀ D, H D = none -> ∃ W : Nat -> Nat -> List V -> St -> Hp -> Prop, (∃ m, W 0 m [] σ0 (upd H D (.lst []))) /\ ∀ i m xs σ' H', W i m xs σ' H' -> H' D = some (.lst xs) /\ (((Itl K b).stop i H' /\ Qd D H') \/ ((Itl K b).go i H' /\ xs.length < i9 /\ ∀ x H'', (Itl K b).yld i H' x H'' -> g x σ' H'' fun σ2 H2 => tt σ2 H2 fun b H3 =>
   if b=true then te σ2 H3 fun v H4=>H4 D=some (.lst xs)/\∃ m',m'<m/\W (i+1) m' (xs++[v]) σ2 (upd H4 D (.lst (xs++[v]))) else ∃ m',m'<m/\W (i+1) m' xs σ2 H3))) \/
  (∃ b, V.ref a = V.ref b /\ (∃ xs, SqT K H b xs) /\ ∀ D, H D = none -> ∃ W : Nat -> Nat -> List V -> St -> Hp -> Prop, (∃ m, W 0 m [] σ0 (upd H D (.lst []))) /\ ∀ i m xs σ' H', W i m xs σ' H' -> H' D = some (.lst xs) /\ (((Itt K b).stop i H' /\ Qd D H') \/ ((Itt K b).go i H' /\ xs.length < i9 /\ ∀ x H'', (Itt K b).yld i H' x H'' -> g x σ' H'' fun σ2 H2 => tt σ2 H2 fun b H3 =>
   if b=true then te σ2 H3 fun v H4=>H4 D=some (.lst xs)/\∃ m',m'<m/\W (i+1) m' (xs++[v]) σ2 (upd H4 D (.lst (xs++[v]))) else ∃ m',m'<m/\W (i+1) m' xs σ2 H3))):=by
 rcases hS with hS | hS
 ·exact .inl ⟨a,rfl,⟨_,hS⟩,fun D hD=>S5 (K:=K) (a:=a) (ys:=ys) (Pv D) (h0 D hD) hz (fun i xs σ H' hi p=>let ⟨s,g,l⟩:=hl D i xs σ H' hD hi p;⟨s.seq hS,g,l⟩) (fun i xs x σ H' N kN hx p=>hs D i xs x σ H' N hD kN hx p) (fun xs σ H' p=>hd D xs σ H' hD p)⟩
 ·exact .inr ⟨a,rfl,⟨_,hS⟩,fun D hD=>aX3 (K:=K) (a:=a) (ys:=ys) (Pv D) (h0 D hD) hz (fun i xs σ H' hi p=>let ⟨s,g,l⟩:=hl D i xs σ H' hD hi p;⟨s.seqT hS,g,l⟩) (fun i xs x σ H' N kN hx p=>hs D i xs x σ H' N hD kN hx p) (fun xs σ H' p=>hd D xs σ H' hD p)⟩
section
variable {X:Cx}
end
theorem bi3 (f:Nat->Int):∀ (n j:Nat),j<=n->f (U8 (fun i j=>decide (f i<f j)) n)<=f j
 | 0,j,h=>by rw[Nat.le_zero.mp h];exact G6 _
 | n+1,j,h=>by
  unfold U8
  have ih:=bi3 f n
  by_cases hb:f (n+1)<f (U8 (fun i j=>decide (f i<f j)) n)
  ·rw[if_pos (decide_eq_true hb)]
   rcases C9 j (n+1) with l | l
   ·have:=ih j (by omega);omega
   ·rw[show j=n+1 by omega];exact G6 _
  ·rw[if_neg (fun z=>hb (of_decide_eq_true z))]
   rcases C9 j (n+1) with l | l
   ·exact ih j (by omega)
   ·rw[show j=n+1 by omega];omega
theorem az9 (bt:Nat->Nat->Bool):∀ n:Nat,U8 bt n<=n
 | 0=>d4 _
 | n+1=>by
  unfold U8
  have:=az9 bt n
  split<;>omega
theorem aQ1 (f:Nat->Int):∀ (n j:Nat),j<=n->f j<=f (U8 (fun i j=>decide (f i > f j)) n)
 | 0,j,h=>by rw[Nat.le_zero.mp h];exact G6 _
 | n+1,j,h=>by
  unfold U8
  have ih:=aQ1 f n
  by_cases hb:f (n+1) > f (U8 (fun i j=>decide (f i > f j)) n)
  ·rw[if_pos (decide_eq_true hb)]
   rcases C9 j (n+1) with l | l
   ·have:=ih j (by omega);omega
   ·rw[show j=n+1 by omega];exact G6 _
  ·rw[if_neg (fun z=>hb (of_decide_eq_true z))]
   rcases C9 j (n+1) with l | l
   ·exact ih j (by omega)
   ·rw[show j=n+1 by omega];omega
section
variable {X:Cx}
theorem aK8 (hc:X.calm=true):Q8 X (.builtin "min") (fun xs H Q=>∃ (p:Addr) (ns:List Int),xs=[.ref p]/\SqL X.K H p (ns.map V.int)/\0<ns.length/\∀ m:Int,m∈ns->(∀ x∈ns,m<=x)->Q (.int m) H):=by
 intro pins s σ H xs us Q I r h
 obtain⟨p,ns,rfl,hq,hn,q⟩:=h
 obtain⟨u,rfl,rx⟩:=vals1 r
 cases rx
 obtain⟨its,r',pl,hz⟩:=I.list hq
 have hlen:its.length=ns.length:=by rw[<- r'.length,b9]
 have hi:G9 its ns:=intsAre_of r'
 obtain⟨ys,e⟩:=hi.allInts.items
 have hT:s.heap.IsList p (K9 ys):=by rw[<- e];exact pl.isList
 have hsz:(K9 ys).size=ns.length:=by rw[<- e,d5,hlen]
 have hnum:∀ j,j<ns.length->ap6 ys j=ns.getD j 0:=fun j hj=>by
  have hx:(ns.map V.int)[j]?=some (.int (ns.getD j 0)):=by simp[hj]
  obtain⟨v,hv,t,rfl⟩:=r'.get hx
  have hv':(K9 ys)[j]?=some (.int (ns.getD j 0) t):=by rw[<- e];simpa using hv
  obtain⟨t',ht'⟩:=W4 hv'
  injection ht' with h1 _
  exact h1.symm
 have hpl:p<s.heap.objs.size:=by
  obtain⟨o,ho,_⟩:=hT
  exact d6 ho
 refine call_min_walk (M9 hT ?_)
 refine⟨_,[_,p],[_],_,_,_,_,rfl,Walks.list (A:=X.A.in1) (I.ok.hd hc) _ p (j7 hpl) (K9 ys),
  ⟨⟨_,i8 _ rfl,rfl,rfl⟩,hT.push _⟩,fun c hc'=>?_,by rw[hsz];exact hn,CmpOf.ints_lt (ap6 ys) (fun _ _=>W4),fun v h' tk hP hk=>?_⟩
 ·show c<(s.heap.push _).objs.size
  rw[D0]
  rcases g6.mp hc' with rfl | hc'
  ·exact ac1 _
  ·rcases g6.mp hc' with rfl | hc'
   ·exact C0 hpl
   ·cases hc'
 ·have hold:∀ c o,s.heap.get? c=some o->h'.get? c=some o:=fun c o e=>by
   refine hk c o (fun hm=>?_) (c5 _ e)
   rcases g6.mp hm with e1 | hm
   ·exact absurd (d6 e) (by rw[e1];exact B8 _)
   ·cases hm
  obtain⟨t,rfl⟩:=W4 hP
  have hb:=az9 (fun i j=>decide (ap6 ys i<ap6 ys j)) ((K9 ys).size - 1)
  have hbl:U8 (fun i j=>decide (ap6 ys i<ap6 ys j)) ((K9 ys).size - 1)<ns.length:=by rw[hsz]at hb ⊢;omega
  refine⟨.int _,H,I.kept (t':=tk) hold,⟨t,rfl⟩,q _ ?_ fun x hx=>?_⟩
  ·rw[hnum _ hbl,i3,i6 hbl]
   exact U6 hbl
  ·obtain⟨j,hj,rfl⟩:=ac2.mp hx
   have:=bi3 (ap6 ys) ((K9 ys).size - 1) j (by rw[hsz];omega)
   rw[hnum j hj,i3,i6 hj]at this
   exact this
end
theorem ar2:(toString "max"++toString ".loop":String)="max.loop":=by decide
section
variable {prog:j8} {w:x6} {A:u4} {R:Result->c7->Prop} {I:Addr} {fp wr:List Addr} {n:Nat} {P:Nat->c6->Prop} {St:Nat->Heap->Prop} {d:c6}
theorem bv5 (W:Walks prog w A.in1 I fp wr n P St)(bt:Nat->Nat->Bool)(hcmp:CmpOf prog w A.in1 .Gt P bt)(S:Addr)(hSf:S∉fp):∀ (k j:Nat) (s:c7) (vb:c6) (c:Nat),n - (j+1)=k->j+1<=n->St (j+1) s.heap->P (U8 bt j) vb ->
  s.heap.get? S=some { cls:=.type "list",dict:=none,data:=.seq #[vb,vb] c,slots:=#[] }->(∀ v h' tk,P (U8 bt (n - 1)) v->(∀ b o,b∉wr->b≠S->s.heap.get? b=some o->h'.get? b=some o)->R (.ok (.ret v)) { s with heap:=h',toks:=tk }) ->
  am1 (y6 prog w) A (.builtin "max.loop" ⟨[.ref I,.none,.ref S],[("default",d)]⟩) R s:=by
 have hSw:S∉wr:=(fun h=>hSf (W.sub _ h));intro k
 induction k with
 | zero =>
  intro j s vb c hk hj hst hPb hS hR;have hin:j+1=n:=by omega
  refine P4 F.entry_max_loop ?_;rw[Around.under_plainId F.plain_max_loop _];show o7 _ A.in1 (bk1 (.ref S) >>= _) _ _ s
  refine b7 (J2 hS rfl ?_);show o7 _ A.in1 (tryCatch (aL8 (.ref I)) _ >>= _) _ _ s
  refine b7 (am3 (W.done s _ _ (hin ▸ hst) fun h' tk hk'=>?_));have hS':=hk' S _ hSw hS
  show o7 _ A.in1 (updateSeq S (fun _=>#[]) >>= _) _ _ _;refine b7 ?_
  refine bk3 hS' rfl (b7 (ai5 (d3 ?_)));exact hR vb _ tk (by rw[<- hin];exact hPb) fun b o hbw hbS e=>(x9 _ _ (Ne.symm hbS)).trans (hk' b o hbw e)
 | succ k ih =>
  intro j s vb c hk hj hst hPb hS hR;have hlt:j+1<n:=by omega
  refine P4 F.entry_max_loop ?_;rw[Around.under_plainId F.plain_max_loop _];show o7 _ A.in1 (bk1 (.ref S) >>= _) _ _ s
  refine b7 (J2 hS rfl ?_);show o7 _ A.in1 (tryCatch (aL8 (.ref I)) _ >>= _) _ _ s
  refine b7 (am3 (W.item (j+1) s _ _ hlt hst fun v h' tk hP hst' hk'=>?_));have hS':=hk' S _ hSw hS
  show o7 _ A.in1 (tryCatch (aG7 [v,v] (richCompare .Gt v vb >>= _)) _ >>= _) _ _ _;refine b7 (am3 (D3 (b7 (hcmp (j+1) (U8 bt j) v vb _ _ _ hP hPb ?_))))
  refine b7 (D3 (M8 ?_));refine b7 (ai5 (d3 ?_))
  cases hb:bt (j+1) (U8 bt j) with
  | true =>
   simp only[if_true];refine b7 ?_
   refine bk3 hS' rfl (b7 (ai5 ?_));rw[ar2]
   refine d3 ⟨af4 F.plain_max_loop _,ih (j+1) _ v _ (by omega) hlt (W.frame _ _ _ hst' fun b hbf o e=>?_) (by simp only[U8,hb,if_true];exact hP) (N9 _ hS' rfl) fun v' h'' tk'' hP' hk''=>?_⟩
   ·exact((x9 _ _ (fun h:S=b=>hSf (by rw[h];exact hbf))).trans e)
   ·exact(hR v' h'' tk'' hP' fun b o hbw hbS e=>hk'' b o hbw hbS ((x9 _ _ (Ne.symm hbS)).trans (hk' b o hbw e)))
  | false =>
   simp only[o6,if_false];refine b7 (ai5 ?_);rw[ar2]
   refine d3 ⟨af4 F.plain_max_loop _,ih (j+1) _ vb c (by omega) hlt hst' (by simp only[U8,hb,o6,if_false];exact hPb) hS' fun v' h'' tk'' hP' hk''=>?_⟩;exact hR v' h'' tk'' hP' fun b o hbw hbS e=>hk'' b o hbw hbS (hk' b o hbw e)
theorem bl8 (W:Walks prog w A.in1 I fp wr n P St)(bt:Nat->Nat->Bool)(hcmp:CmpOf prog w A.in1 .Gt P bt)(S:Addr)(hSf:S∉fp){s:c7}{c:Nat}(hst:St 0 s.heap)(hS:s.heap.get? S=some { cls:=.type "list",dict:=none,data:=.seq #[] c,slots:=#[] })
  (h0:n=0->∀ h' tk,(∀ b o,b∉wr->b≠S->s.heap.get? b=some o->h'.get? b=some o)->R (.ok (.ret d)) { s with heap:=h',toks:=tk })
  (hR:0<n->∀ v h' tk,P (U8 bt (n - 1)) v->(∀ b o,b∉wr->b≠S->s.heap.get? b=some o->h'.get? b=some o)->R (.ok (.ret v)) { s with heap:=h',toks:=tk }) :
  am1 (y6 prog w) A (.builtin "max.loop" ⟨[.ref I,.none,.ref S],[("default",d)]⟩) R s:=by
 have hSw:S∉wr:=(fun h=>hSf (W.sub _ h))
 refine P4 F.entry_max_loop ?_;rw[Around.under_plainId F.plain_max_loop _];show o7 _ A.in1 (bk1 (.ref S) >>= _) _ _ s
 refine b7 (J2 hS rfl ?_);show o7 _ A.in1 (tryCatch (aL8 (.ref I)) _ >>= _) _ _ s
 by_cases hn:0<n
 ·refine b7 (am3 (W.item 0 s _ _ hn hst fun v h' tk hP hst' hk'=>?_));have hS':=hk' S _ hSw hS
  show o7 _ A.in1 (updateSeq S (fun _=>#[v,v]) >>= _) _ _ _;refine b7 ?_
  refine bk3 hS' rfl ?_;rw[ar2]
  refine d3 ⟨af4 F.plain_max_loop _,bv5 W bt hcmp S hSf _ 0 _ v _ rfl hn (W.frame _ _ _ hst' fun b hbf o e=>?_) hP (N9 _ hS' rfl) fun v' h'' tk'' hP' hk''=>?_⟩
  ·exact((x9 _ _ (fun h:S=b=>hSf (by rw[h];exact hbf))).trans e)
  ·exact(hR hn v' h'' tk'' hP' fun b o hbw hbS e=>hk'' b o hbw hbS ((x9 _ _ (Ne.symm hbS)).trans (hk' b o hbw e)))
 ·have hz:n=0:=by omega
  refine b7 (am3 (W.done s _ _ (by rw[hz];exact hst) fun h' tk hk'=>?_))
  refine b7 (ah3 ?_)
  exact d3 (h0 hz h' tk fun b o hbw _ e=>hk' b o hbw e)
end
theorem bo4 (a v:c6):argsOk "max" ⟨[a],[(Str.ofString "default",v)]⟩:=by unfold argsOk;kernel_rfl
section
variable {X:Cx}
end
theorem isQ.push {b:Bool}{h:Heap}{a:Addr}{xs:Array c6}(q:isQ b h a xs)(o:Obj):isQ b (h.push o) a xs:=by
 cases b with
 | true=>exact Heap.IsList.push q o
 | false=>exact Heap.IsTuple.push q o
theorem isQ.obj {b:Bool}{h:Heap}{a:Addr}{xs:Array c6}(q:isQ b h a xs):∃ o,h.get? a=some o:=by
 cases b with
 | true=>obtain⟨o,h1,_⟩:=q;exact⟨o,h1⟩
 | false=>obtain⟨o,h1,_⟩:=q;exact⟨o,h1⟩
theorem bf1 {b:Bool}{prog:j8}{w:x6}{A:u4}{E:c6->c7->Prop}{s:c7}{a:Addr}{xs:Array c6}{Q:c6->c7->Prop}(q:isQ b s.heap a xs)(h:Q (.ref s.heap.objs.size) { s with heap:=s.heap.push { cls:=.type (nmB b),data:=.fields #[.ref a,.int 0 0] } }):o7 (y6 prog w) A (pyIter (.ref a)) Q E s:=by
 cases b with
 | true=>exact M9 q h
 | false=>exact J4 q h
theorem bp6 {prog:j8}{w:x6}{A:u4}(b:Bool)(hh:A.handled=none)(it l:Addr)(hne:l≠it)(items:Array c6):Walks prog w A it [it,l] [it] items.size (fun i v=>items[i]?=some v) (fun i h=>itB b h it l i/\isQ b h l items):=by
 cases b with
 | true=>exact Walks.list hh it l hne items
 | false=>exact Walks.tuple hh it l hne items
section
variable {X:Cx}
theorem bo1 (hc:X.calm=true):Q8 X (.builtin "max") (fun xs H Q=>∃ (b:Bool) (p:Addr) (ns:List Int),xs=[.ref p]/\SqB b X.K H p (ns.map V.int)/\0<ns.length/\∀ m:Int,m∈ns->(∀ x∈ns,x<=m)->Q (.int m) H):=by
 intro pins s σ H xs us Q I r h
 obtain⟨b,p,ns,rfl,hq,hn,q⟩:=h
 obtain⟨u,rfl,rx⟩:=vals1 r
 cases rx
 obtain⟨its,r',pl⟩:=I.seqB hq
 have hlen:its.length=ns.length:=by rw[<- r'.length,b9]
 have hi:G9 its ns:=intsAre_of r'
 obtain⟨ys,e⟩:=hi.allInts.items
 have hT:isQ b s.heap p (K9 ys):=by rw[<- e];exact pl
 have hsz:(K9 ys).size=ns.length:=by rw[<- e,d5,hlen]
 have hnum:∀ j,j<ns.length->ap6 ys j=ns.getD j 0:=fun j hj=>by
  have hx:(ns.map V.int)[j]?=some (.int (ns.getD j 0)):=by simp[hj]
  obtain⟨v,hv,t,rfl⟩:=r'.get hx
  have hv':(K9 ys)[j]?=some (.int (ns.getD j 0) t):=by rw[<- e];simpa using hv
  obtain⟨t',ht'⟩:=W4 hv'
  injection ht' with h1 _
  exact h1.symm
 have hpl:p<s.heap.objs.size:=by
  obtain⟨o,ho⟩:=hT.obj
  exact d6 ho
 refine call_max_walk (bf1 hT ?_)
 refine⟨_,[_,p],[_],_,_,_,_,rfl,bp6 b (A:=X.A.in1) (I.ok.hd hc) _ p (j7 hpl) (K9 ys),
  ⟨az4 (i8 _ rfl),hT.push _⟩,fun c hc'=>?_,by rw[hsz];exact hn,CmpOf.ints_gt (ap6 ys) (fun _ _=>W4),fun v h' tk hP hk=>?_⟩
 ·show c<(s.heap.push _).objs.size
  rw[D0]
  rcases g6.mp hc' with rfl | hc'
  ·exact ac1 _
  ·rcases g6.mp hc' with rfl | hc'
   ·exact C0 hpl
   ·cases hc'
 ·have hold:∀ c o,s.heap.get? c=some o->h'.get? c=some o:=fun c o e=>by
   refine hk c o (fun hm=>?_) (c5 _ e)
   rcases g6.mp hm with e1 | hm
   ·exact absurd (d6 e) (by rw[e1];exact B8 _)
   ·cases hm
  obtain⟨t,rfl⟩:=W4 hP
  have hb:=az9 (fun i j=>decide (ap6 ys i > ap6 ys j)) ((K9 ys).size - 1)
  have hbl:U8 (fun i j=>decide (ap6 ys i > ap6 ys j)) ((K9 ys).size - 1)<ns.length:=by rw[hsz]at hb ⊢;omega
  refine⟨.int _,H,I.kept (t':=tk) hold,⟨t,rfl⟩,q _ ?_ fun x hx=>?_⟩
  ·rw[hnum _ hbl,i3,i6 hbl]
   exact U6 hbl
  ·obtain⟨j,hj,rfl⟩:=ac2.mp hx
   have:=aQ1 (ap6 ys) ((K9 ys).size - 1) j (by rw[hsz];omega)
   rw[hnum j hj,i3,i6 hj]at this
   exact this
theorem bv6 {b:Bool}{pins:List (Addr × Obj)}{s:c7}{σ:St}{H:Hp}{E:c6->c7->Prop}{p:Addr}{ns:List Int}{d:c6}{Q:c6->c7->Prop}(hc:X.calm=true)(I:Inv X pins σ H s)(hq:SqB b X.K H p (ns.map V.int))
  (h0:ns=[]->∀ s',Inv X pins σ H s'->Q d s')(h1:∀ (m:Int) (t:Tok) (s':c7),m∈ns->(∀ x∈ns,x<=m)->Inv X pins σ H s'->Q (.int m t) s'):o7 (y6 X.prog X.w) X.A (call (.builtin "max") [.ref p] [(Str.ofString "default",d)]) Q E s:=by
 obtain⟨its,r',pl⟩:=I.seqB hq
 have hlen:its.length=ns.length:=by rw[<- r'.length,b9]
 have hi:G9 its ns:=intsAre_of r'
 obtain⟨ys,e⟩:=hi.allInts.items
 have hT:isQ b s.heap p (K9 ys):=by rw[<- e];exact pl
 have hsz:(K9 ys).size=ns.length:=by rw[<- e,d5,hlen]
 have hnum:∀ j,j<ns.length->ap6 ys j=ns.getD j 0:=fun j hj=>by
  have hx:(ns.map V.int)[j]?=some (.int (ns.getD j 0)):=by simp[hj]
  obtain⟨v,hv,t,rfl⟩:=r'.get hx
  have hv':(K9 ys)[j]?=some (.int (ns.getD j 0) t):=by rw[<- e];simpa using hv
  obtain⟨t',ht'⟩:=W4 hv'
  injection ht' with h1 _
  exact h1.symm
 have hpl:p<s.heap.objs.size:=by
  obtain⟨o,ho⟩:=hT.obj
  exact d6 ho
 refine kmk_tree PySem.F.kind_max PySem.F.plain_max PySem.F.entry_max (bo4 _ _) ?_;show o7 _ X.A.in1 (Builtin.Builtins.bindParams "max" ["key","default"] 0 ⟨[],[(Str.ofString "default",d)]⟩ >>= _) _ _ s
 refine b7 (bk2 (show Builtin.Builtins.bindParams "max" ["key","default"] 0 ⟨[],[(Str.ofString "default",d)]⟩=pure [none,some d] from rfl) ?_);refine b7 (d3 ?_)
 refine b7 (bf1 hT ?_);refine b7 (M0 ?_ (y9 _));rw[ar2]
 have hS:(s.heap.push { cls:=.type (nmB b),data:=.fields #[.ref p,.int 0 0] }).objs.size=s.heap.objs.size+1:=D0 ..
 have old:∀ c o,s.heap.get? c=some o->((s.heap.push { cls:=.type (nmB b),data:=.fields #[.ref p,.int 0 0] }).push (F7 "list" #[] 0)).get? c=some o:=fun c o e=>c5 _ (c5 _ e)
 refine d3 ⟨af4 PySem.F.plain_max_loop _,bl8 (bp6 b (A:=X.A.in1) (I.ok.hd hc) s.heap.objs.size p (j7 hpl) (K9 ys)) _ (CmpOf.ints_gt (ap6 ys) (fun _ _=>W4)) _ (fun hm=>?_) ⟨az4 (c5 _ (i8 _ rfl)),(hT.push _).push _⟩ (i8 _ rfl) (fun hn h' tk hk=>?_) fun hn v h' tk hP hk=>?_⟩
 ·rw[hS]at hm
  rcases g6.mp hm with e1 | hm
  ·exact absurd e1 (K7 (ac1 _))
  ·rcases g6.mp hm with e1 | hm
   ·exact absurd e1 (K7 (C0 hpl))
   ·cases hm
 ·have hold:∀ c o,s.heap.get? c=some o->h'.get? c=some o:=fun c o e=>hk c o (fun hm=>by
   rcases g6.mp hm with e1 | hm
   ·exact absurd (d6 e) (by rw[e1];exact B8 _)
   ·cases hm) (by rw[hS];exact j7 (C0 (d6 e))) (old c o e)
  exact h0 (an2.mp (by omega)) _ (I.kept (t':=tk) hold)
 ·have hold:∀ c o,s.heap.get? c=some o->h'.get? c=some o:=fun c o e=>hk c o (fun hm=>by
   rcases g6.mp hm with e1 | hm
   ·exact absurd (d6 e) (by rw[e1];exact B8 _)
   ·cases hm) (by rw[hS];exact j7 (C0 (d6 e))) (old c o e)
  obtain⟨t,rfl⟩:=W4 hP
  have hb:=az9 (fun i j=>decide (ap6 ys i > ap6 ys j)) ((K9 ys).size - 1)
  have hbl:U8 (fun i j=>decide (ap6 ys i > ap6 ys j)) ((K9 ys).size - 1)<ns.length:=by rw[hsz]at hb ⊢;omega
  refine h1 _ t _ ?_ (fun x hx=>?_) (I.kept (t':=tk) hold)
  ·rw[hnum _ hbl,i3,i6 hbl]
   exact U6 hbl
  ·obtain⟨j,hj,rfl⟩:=ac2.mp hx
   have:=aQ1 (ap6 ys) ((K9 ys).size - 1) j (by rw[hsz];omega)
   rw[hnum j hj,i3,i6 hj]at this
   exact this
end
def cb4 (K:W.Frag)(tr:TA):TE:=fun σ H Q=>tr σ H fun vs H1=>∃ (b:Bool) (p:Addr) (ns:List Int),vs=[.ref p]/\SqB b K H1 p (ns.map V.int)/\Web.AllP ns/\∀ m:Int,0<=m->(∀ x∈ns,x<=m)->Q (.int m) H1
theorem bG1 {X:Cx}{e:Expr}{np pos bpos kpos:Pos}{j:Nat}{tr:TA}(K:W.Frag)(hK:X.K=K)(hc:X.calm=true)(hg:Gl X "max")(hm:X.mg "max"=none)(ha:PA X [e] tr)
  (hs:S7 pos (A2 [e] X.env)=(false,eval e X.env)::S7 pos (A2 [] X.env):=by rfl)
  (hpl:(S7 pos (A2 [e] X.env)).any (·.1)=false:=by rfl) :
  PE X (.Call (.Name "max" np) [e] [⟨some "default",.Constant (.int 0) j bpos,kpos⟩] pos) (cb4 K tr):=by
 subst hK
 intro pins s σ H Q I h
 refine J5 (V8 I hg hm (show M5 "max"=some (.builtin "max") from rfl) ?_ (by decide) (by decide))
 refine ca2 (thn (ha pos pins s σ H _ I h) fun us s1 ⟨vs,H1,I1,r1,q1⟩=>?_) hs hpl rfl rfl
 obtain⟨b,p,ns,rfl,hq,hp,q⟩:=q1
 have hk:PK X [⟨some "default",.Constant (.int 0) j bpos,kpos⟩] (aS4 (tC (.int 0)) bp9):=aO0 d8 ba7
 refine thn (hk pos pins s1 σ H1 (fun zs H2=>zs=[.int 0]/\H2=H1) I1 ⟨rfl,rfl⟩) fun ws s2 ⟨zs,H2,I2,r2,ez,eH⟩=>?_
 subst ez eH
 obtain⟨w,rfl,rw⟩:=vals1 r2
 obtain⟨u,rfl,ru⟩:=vals1 r1
 obtain⟨t,rfl⟩:=rw
 cases ru
 exact bv6 hc I2 hq (fun e s' I'=>⟨.int 0,_,I',⟨_,rfl⟩,q 0 (by omega) fun x hx=>by rw[e]at hx;cases hx⟩) fun m t s' a1 a2 I'=>⟨.int m,_,I',⟨t,rfl⟩,q m (by
  obtain⟨i,hi⟩:=B4.mp a1
  exact hp i m hi) a2⟩
end L2
namespace L2
open PySem PySem.Spec PyProof.Rows PySem.SeqAt
section
variable {X:Cx}
theorem bg1:OpR X (W1 .Mult) (rI IntMulOk fun i j=>.int (i*j)):=opI fun _ _ _ _ _ _ _ hc q=>mul_int q hc
end
theorem U3 {X:Cx}{a b:Expr}{pos:Pos}{ta tb:TE}(K:W.Frag)(hK:X.K=K)(ha:PE X a ta)(hb:PE X b tb)(hs:aQ3 b):PE X (.Subscript a b pos) (tOp (rIx K) ta tb):=by
 cases hK
 exact C8 bx0 ha hb hs
end L2
namespace L2
open PySem PySem.Spec PyProof.Rows
section
variable {X:Cx}
end
section
variable {X:Cx}
theorem bo0 (K:W.Frag)(hK:X.K=K)(hc:X.calm=true):Q8 X (.builtin "sum") (fun xs H Q=>∃ (p:Addr) (ns:List Int),xs=[.ref p]/\SqL K H p (ns.map V.int)/\Q (.int ns.sum) H):=by subst hK;exact R0 hc
end
section
variable {X:Cx}
def bT0 (K:W.Frag):R2:=fun x y H Q=>∃ a b xs ys,x=.ref a/\y=.ref b/\SqT K H a xs/\SqT K H b ys/\ys≠[]/\xs.length+ys.length<=i9 /\
 (xs=[]->Q (.ref b) H)/\(xs≠[]->∀ p,H p=none->Q (.ref p) (upd H p (.tup (xs++ys))))
theorem bu4:OpR X (W1 .Add) (bT0 X.K):=by
 intro pins s σ H x y v u Q I rx ry h
 obtain⟨a,b,xs,ys,e1,e2,ha,hb,hy,hz,q1,q2⟩:=h
 by_cases hx:xs=[]
 ·subst e1 e2
  cases rx
  cases ry
  obtain⟨its,r1,p1,_⟩:=I.tuple ha
  obtain⟨its2,r2,p2,_⟩:=I.tuple hb
  have hv:its=[]:=r1.nil_iff.mpr hx
  obtain⟨⟨cls,dd,data,sl⟩,ho,hc,n,hd⟩:=id p1
  obtain⟨⟨cls2,dd2,data2,sl2⟩,ho2,hc2,n2,hd2⟩:=id p2
  simp only at hc hd hc2 hd2
  subst hc hd hc2 hd2
  exact aY4 ⟨_,ho,rfl⟩ ⟨_,ho2,rfl⟩ at3 aM1 PySem.F.slot_tuple_add PySem.F.entry_tuple_add (PySem.F.args_tuple_add_2 _ _)
   (tuple_addW0 a b its.toArray its2.toArray n n2 dd dd2 sl sl2 (by simp[hv])) ⟨ho,ho2,⟨.ref b,H,I,rfl,q1 hx⟩⟩
 ·exact bg3 pins s σ H x y v u Q I rx ry ⟨a,b,xs,ys,e1,e2,ha,hb,hx,hz,fun z=>absurd z hy,fun _=>q2 hx⟩
end
end L2
namespace L2
open PySem PySem.Spec PyProof.Rows PySem.SeqAt
section
variable {prog:j8} {w:x6} {A:u4} {E:c6->c7->Prop} {s:c7}
end
section
variable {prog:j8} {w:x6} {A:u4} {E:c6->c7->Prop} {s:c7}
end
section
variable {X:Cx}
end
section
variable {X:Cx}
end
section
variable {prog:j8} {w:x6} {A:u4} {E:c6->c7->Prop} {s:c7}
end
section
variable {X:Cx}
end
end L2
namespace L2
open PySem PySem.Spec PyProof.Rows
def am4 (H:Hp)(l:Addr->Option Obj):Hp:=fun b=>match l b with
 | some o=>some (Q7 b o)
 | none=>H b
def Z1 (H:Hp)(l:Addr->Option Obj):Hp:=fun b=>match l b with
 | some _=>none
 | none=>H b
section
variable {P:j8} {w:x6} {H H1 H2:Hp} {h h1 h2:Heap} {l:Addr->Option Obj} {fs:List Addr}
theorem ap7 {b:Addr}{o:Obj}(e:l b=some o):am4 H l b=some (Q7 b o):=by unfold am4;rw[e]
theorem J8 {b:Addr}(e:l b=none):am4 H l b=H b:=by unfold am4;rw[e]
theorem ad7 {b:Addr}{o:Obj}(e:l b=some o):Z1 H l b=none:=by unfold Z1;rw[e]
theorem J9 {b:Addr}(e:l b=none):Z1 H l b=H b:=by unfold Z1;rw[e]
theorem bL2 {b:Addr}{o:Obj}(e:h.get? b=some o):N7 P w H h b (Q7 b o):=⟨e,⟨o,e⟩,fun h1 h2 q z=>z _ q⟩
theorem HOk.trkd (x:HOk P w H h)(hl:∀ b o,l b=some o->h.get? b=some o/\H b=none):HOk P w (am4 H l) h:=fun a o e=>by
 cases hb:l a with
 | some q=>rw[ap7 hb]at e;cases e;exact bL2 (hl a q hb).1
 | none =>
  rw[J8 hb]at e
  have aux:∀ b u,H b=some u->am4 H l b=some u:=fun b u q=>by
   cases hb':l b with
   | some z=>rw[(hl b z hb').2]at q;cases q
   | none=>rw[J8 hb'];exact q
  exact(x a o e).stay (fun _ _ _ q=>q) (fun b q=>aux b _ q) (fun b xs q=>aux b _ q)
theorem av1 {b:Addr}{u:HO}(hl:∀ b o,l b=some o->H b=some (Q7 b o))(q:H b=some u)(hu:∀ o,u≠Q7 b o):l b=none:=by
 cases hb:l b with
 | some z=>rw[hl b z hb]at q;cases q;exact absurd rfl (hu z)
 | none=>rfl
theorem HOk.rmv (x:HOk P w H h)(hl:∀ b o,l b=some o->H b=some (Q7 b o)):HOk P w (Z1 H l) h:=fun a o e=>by
 cases hb:l a with
 | some q=>rw[ad7 hb]at e;cases e
 | none =>
  rw[J9 hb]at e
  refine(x a o e).stay (fun _ _ _ q=>q) (fun b q=>?_) (fun b xs q=>?_)
  ·rw[J9 (av1 hl q (fun o z=>by unfold Q7 at z;cases z))];exact q
  ·rw[J9 (av1 hl q (fun o z=>by unfold Q7 at z;cases z))];exact q
theorem Un.inner (un:Un fs [] (Z1 H l) H1 h h1)(hl:∀ b o,l b=some o->H b=some (Q7 b o)):Un fs [] H (am4 H1 l) h h1:=by
 have nn:∀ b,H b=none->l b=none:=fun b n=>by
  cases hb:l b with
  | some z=>rw[hl b z hb]at n;cases n
  | none=>rfl
 refine⟨fun b o e n hf hx=>un.keep b o e (by rw[J9 (nn b n)];exact n) hf hx,fun b o e n hf hx=>un.slot b o e (by rw[J9 (nn b n)];exact n) hf hx,fun b o e n hx=>?_,un.there,fun b xs q=>?_,fun b o u q=>?_,fun b ps q=>?_⟩
 ·rw[J8 (nn b n)]
  exact un.free b o e (by rw[J9 (nn b n)];exact n) hx
 ·have z:=av1 hl q (fun o z=>by unfold Q7 at z;cases z)
  rw[J8 z]
  exact un.tups b xs (by rw[J9 z];exact q)
 ·have z:=av1 hl q (fun o z=>by unfold Q7 at z;cases z)
  rw[J8 z]
  exact un.frzs b o u (by rw[J9 z];exact q)
 ·have z:=av1 hl q (fun o z=>by unfold Q7 at z;cases z)
  rw[J8 z]
  exact un.tbls b ps (by rw[J9 z];exact q)
theorem Un.outer (un:Un fs [] (am4 H l) H2 h h2)(hl:∀ b o,l b=some o->h.get? b=some o/\H b=none)(h2l:∀ b o,l b=some o->H2 b=some (Q7 b o))(ok2:HOk P w H2 h2):Un fs [] H (Z1 H2 l) h h2:=by
 have nn:∀ b u,H b=some u->l b=none:=fun b u q=>by
  cases hb:l b with
  | some z=>rw[(hl b z hb).2]at q;cases q
  | none=>rfl
 have at2:∀ b o,l b=some o->h2.get? b=some o:=fun b o e=>(ok2 b _ (h2l b o e)).1
 refine⟨fun b o e n hf hx=>?_,fun b o e n hf hx=>?_,fun b o e n hx=>?_,un.there,fun b xs q=>?_,fun b o u q=>?_,fun b ps q=>?_⟩
 ·cases hb:l b with
  | some z =>
   rw[(hl b z hb).1]at e
   cases e
   exact at2 b _ hb
  | none=>exact un.keep b o e (by rw[J8 hb];exact n) hf hx
 ·cases hb:l b with
  | some z =>
   rw[(hl b z hb).1]at e
   cases e
   exact⟨_,at2 b _ hb⟩
  | none=>exact un.slot b o e (by rw[J8 hb];exact n) hf hx
 ·cases hb:l b with
  | some z=>exact ad7 hb
  | none =>
   rw[J9 hb]
   exact un.free b o e (by rw[J8 hb];exact n) hx
 ·rw[J9 (nn b _ q)]
  exact un.tups b xs (by rw[J8 (nn b _ q)];exact q)
 ·rw[J9 (nn b _ q)]
  exact un.frzs b o u (by rw[J8 (nn b _ q)];exact q)
 ·rw[J9 (nn b _ q)]
  exact un.tbls b ps (by rw[J8 (nn b _ q)];exact q)
end
def bR4 (sp:Sp)(js:List (Nat × Addr))(t:TA):TE:=fun σ H Q=>t σ H fun vs H1=>∀ l:Addr->Option Obj,(∀ b o,l b=some o->H1 b=none)->(∀ p∈js,∀ v,σ[p.1]?=some (some v)->∃ o u,l p.2=some o/\o.data=.cell (some u)/\RelV v u) ->
 sp vs (am4 H1 l) (fun r H2=>(∀ b o,l b=some o->H2 b=some (Q7 b o))/\Q r (Z1 H2 l)) E0
section
variable {X:Cx} {k:Nat} {f:Addr} {fd:u0} {ps:List Str} {sp:Sp} {x:Str} {p pos:Pos} {e:Expr} {es:List Expr} {t:TA}
theorem bt9 {js:List (Nat × Addr)}(F:A8 X.prog X.w X.K X.mg X.base CX0 k f fd ps sp)(hr:X7 k X.A)(hg:Gl X x)(hm:X.mg x=some (.ref f))(hk:k6 X.K (.ref f)=true)(hb:Binds X.K fd ps [])
  (hj:∀ q∈js,X.s₀.heap.objs.size<=q.2/\∃ y,X.N[q.1]?=some y/\X.env.scope.names.lookup y=some .cell/\X.env.cells.lookup y=some q.2)
  (ha:PA X (e::es) t)(hdb:(x == ("__debug__":Str))=false:=by decide)(he:A2 (e::es) X.env=(false,eval e X.env)::A2 es X.env:=by rfl)(hpl:(S7 pos (A2 es X.env)).any (·.1)=false:=by rfl) :
  PE X (.Call (.Name x p) (e::es) [] pos) (bR4 sp js t):=by
 intro pins s σ H Q I h
 refine J5 (al8 I hg hm ?_ hdb)
 refine PySem.W.callWith_K (h₀:=X.base) I.ok.mod.kin hk (thn (ha pos pins s σ H _ I h) fun us s1 ⟨vs,H1,I1,r,q⟩=>⟨I1.kIn,?_⟩) he hpl
 obtain⟨l,hl⟩:∃ l:Addr->Option Obj,l=fun b=>if b∈js.map (·.2) then s1.heap.get? b else none:=⟨_,rfl⟩
 have l1:∀ b o,l b=some o->s1.heap.get? b=some o/\b∈js.map (·.2):=fun b o e=>by
  rw[hl]at e
  by_cases hb:b∈js.map (·.2)
  ·have e':(if b∈js.map (·.2) then s1.heap.get? b else none)=some o:=e
   rw[if_pos hb]at e'
   exact⟨e',hb⟩
  ·have e':(if b∈js.map (·.2) then s1.heap.get? b else none)=some o:=e
   rw[if_neg hb]at e'
   cases e'
 have l2:∀ b o,l b=some o->s1.heap.get? b=some o/\H1 b=none:=fun b o e=>by
  obtain⟨e1,e2⟩:=l1 b o e
  obtain⟨q,hq,rfl⟩:=u6.mp e2
  obtain⟨_,y,_,_,hc⟩:=hj q hq
  exact⟨e1,I1.freeC y _ hc⟩
 have l3:∀ q∈js,∀ v,σ[q.1]?=some (some v)->∃ o u,l q.2=some o/\o.data=.cell (some u)/\RelV v u:=fun q hq v hv=>by
  obtain⟨_,y,hN,hs,hc⟩:=hj q hq
  obtain⟨m,hn,lo⟩:=I1.loc
  obtain⟨u,ru,lk⟩:=lo q.1 y v hN hv (.inr (.inl hs))
  rcases lk with⟨z,_⟩ | ⟨_,c,hc',o,ho,hd⟩
  ·have z':X.env.scope.names.lookup y=some .local:=z
   rw[hs]at z'
   cases z'
  ·rw[hc]at hc'
   cases hc'
   refine⟨o,u,?_,hd,ru⟩
   rw[hl]
   show (if q.2∈js.map (·.2) then s1.heap.get? q.2 else none)=some o
   rw[if_pos (u6.mpr ⟨q,hq,rfl⟩)]
   exact ho
 have q':=q l (fun b o e=>(l2 b o e).2) l3
 have nofr:∀ q∈js,q.2∉frs X.stack:=fun q hq z=>by
  obtain⟨hge,y,_,_,hc⟩:=hj q hq
  have nf:q.2∉X.fs:=fun hb=>by
   obtain⟨_,o,ho,_⟩:=I1.ok.funs.mem hb
   exact absurd (p7 (d6 ho) hge) (B8 _)
  rcases I1.ok.stk with h1 | ⟨h1,h2⟩
  ·rw[h1]at z
   exact nf z
  ·rw[h1]at z
   unfold frs at z
   rw[G5,h2]at z
   rcases g6.mp z with z | z
   ·exact I1.cne y _ hc z
   ·exact nf z
 have e0:=I1.env0
 have e1:bB1 X.prog X.w X.K X.mg X.base X.A X.stack s1 (am4 H1 l):=by
  refine⟨e0.frames,e0.mod,fun b o e=>⟨(e0.bs b o e).1,?_⟩,e0.bsz,e0.funs,fun b hb=>?_,e0.hok.trkd l2,e0.bare⟩
  ·cases hb:l b with
   | none=>rw[J8 hb];exact(e0.bs b o e).2
   | some z =>
    obtain⟨q,hq,rfl⟩:=u6.mp (l1 b z hb).2
    have:=(hj q hq).1
    exact absurd (p7 (d6 e) (A4 I1.ok.bsz this)) (B8 _)
  ·cases hb':l b with
   | none=>rw[J8 hb'];exact e0.frf b hb
   | some z =>
    obtain⟨q,hq,rfl⟩:=u6.mp (l1 b z hb').2
    exact absurd hb (nofr q hq)
 have hlen:us.length=ps.length:=by rw[<- r.length];exact F.len _ _ _ _ q'
 have hbind:=hb s1 us I1.kIn (by rw[F4];exact hlen)
 rw[F4]at hbind
 refine aR1 (ac5 (F.run X.A X.stack s1 (am4 H1 l) ⟨us,[]⟩ us vs _ E0 hr e1 hbind r q') fun r s' hq=>?_)
 cases r with
 | error e=>exact False.elim hq
 | ok fl =>
  cases fl with
  | ret u =>
   obtain⟨v,H',os,bare,un,hok,rv,kept,qq⟩:=hq
   exact I1.after ⟨v,Z1 H' l,os,bare,un.outer l2 kept hok,hok.rmv kept,rv,qq⟩
  | next=>exact False.elim hq
  | brk=>exact False.elim hq
  | cont=>exact False.elim hq
end
def bN9 (P:j8)(w:x6)(K:W.Frag)(mg:Str->Option c6)(base:Heap)(A:u4)(outer:List Env)(qual:Str)(scope:R8)(cl:List (Str × Addr))(N':List Str)(f:Addr)(cv:c6)(s:c7)(H:Hp):Cx where
 prog:=P
 w:=w
 K:=K
 mg:=mg
 base:=base
 A:=A.deeper (ao7 qual scope cl f cv s)
 N:=N'
 s₀:=s
 H₀:=H
 env:=ao7 qual scope cl f cv s
 outer:=outer
 stack:=List.cons (ao7 qual scope cl f cv s) outer
 ex:=[]
 fn:=fun _=>false
 calm:=true
 pn:=[]
 xe:=fun _ _=>False
def cc2 (f c':Addr)(qual:Str)(ob:Obj)(l:Addr->Option Obj)(cvs:St)(te:TE):Sp:=fun vs H Q _=>∃ a,vs=[a]/\H f=some (Q7 f ob)/\H c'=some (ax1 c' qual)/\(∀ b o,l b=some o->H b=some (Q7 b o)) /\
 te (some a::cvs) (Z1 H l) fun v' H'=>(∀ b o,l b=some o->H' b=none)->Q v' (am4 H' l)
theorem bV2 {P:j8}{w:x6}{K:W.Frag}{mg:Str->Option c6}{base:Heap}{k:Nat}{qual p:Str}{params:an9}{body:Expr}{scope:R8}{cl:List (Str × Addr)}{N':List Str}{f c':Addr}{pm ctv:c6}{te:TE}{l:Addr->Option Obj}{cvs:St}
  (hkind:scope.kind=.function)(hco:scope.isCoroutine=false)(hgen:scope.isGenerator=false)(hfr:am9 scope.names cl=true)(hp:scope.names.lookup p=some .local)
  (hinj:∀ x y c,cl.lookup x=some c->cl.lookup y=some c->x=y)(hcl:∀ x c,cl.lookup x=some c->∃ o v,l c=some o/\o.data=.cell v)(hN:cvs.length=N'.length)
  (hv:∀ (i:Nat) (x:Str) (v:V),N'[i]?=some x->cvs[i]?=some (some v)->scope.names.lookup x=some .free/\∃ c o u,cl.lookup x=some c/\l c=some o/\o.data=.cell (some u)/\RelV v u)
  (he:∀ (A:u4) (outer:List Env) (s:c7) (H:Hp),X7 k (A.deeper (ao7 qual scope cl f (.ref c') s))->PE (bN9 P w K mg base A outer qual scope cl (p::N') f (.ref c') s H) body te) :
  A8 P w K mg base CX0 (k+1) f (PySem.W.kla_fn "<lambda>" qual params body scope cl pm (.ref c') ctv) [p] (cc2 f c' qual (PySem.W.kla_obj "<lambda>" qual params body scope cl pm c' ctv) l cvs te):=by
 refine⟨fun vs H Q E ⟨a,e,_⟩=>by rw[e];rfl,fun A outer s H args us vs Q E hr e0 hb r hsp=>?_⟩
 obtain⟨a,rfl,hf,hc,hl,ht⟩:=hsp
 obtain⟨u,rfl,ru⟩:=vals1 r
 have hmem:∀ y∈scope.names,y.2≠.cell/\(y.2=.free->(cl.lookup y.1).isSome=true):=fun y hy=>by
  unfold am9 at hfr
  rw[N3]at hfr
  have:=hfr y hy
  rw[C4]at this
  refine⟨by simpa using this.1,fun e=>?_⟩
  have h2:=this.2
  rw[e]at h2
  simpa using h2
 have at0:∀ b o,l b=some o->s.heap.get? b=some o:=fun b o e=>(e0.hok b _ (hl b o e)).1
 have nfr:∀ b o,l b=some o->b∉frs outer:=fun b o e z=>by
  have:=e0.frf b z
  rw[hl b o e]at this
  cases this
 have lim:s.heap.NoLimit:=e0.mod.nolimit.keeps fun b o e=>(e0.bs b o e).1
 refine PySem.W.kla_callFunE hr.depth (e0.hok f _ hf).1 rfl hco hgen rfl (e0.hok c' _ hc).1 (hb _ _ _ _ ?_)
 refine U7 (fun y hy=>(hmem y hy).1) (fun y hy=>by rw[B7.mp hy];exact hp) (fun h1 hns hsb=>?_) hkind
 have hk:∀ b o,s.heap.get? b=some o->h1.get? b=some o:=fun b o e=>hsb.extBut b o (j7 (d6 e)) (c5 _ e)
 refine⟨lim.keeps hk,?_⟩
 show am1 _ _ (.expr body (PySem.W.envX qual scope s.heap.objs.size f (.ref c') cl)) _ _
 have noE:∀ b:Addr,b∉([]:List Addr):=fun b z=>nomatch z
 have rn:∀ b,H b=none->Z1 H l b=none:=fun b n=>by
  cases hb:l b with
  | some z=>exact ad7 hb
  | none=>rw[J9 hb];exact n
 have hC:Z1 H l s.heap.objs.size=none:=rn _ (e0.hok.fresh (d4 _))
 have I:Inv (bN9 P w K mg base A outer qual scope cl (p::N') f (.ref c') s (Z1 H l)) [] (some a::cvs) (Z1 H l) { s with heap:=h1,toks:=s.toks+[(p,u)].length }:=by
  refine⟨⟨e0.mod,hkind,rfl,rfl,d4 _,hinj,fun x hx=>?_,(fun x c e=>by cases e),fun _=>hr.hd,Around.frames_deeper e0.frames,.inr ⟨rfl,rfl⟩,fun b z=>absurd z (noE b),fun b o e=>⟨(e0.bs b o e).1,rn b (e0.bs b o e).2⟩,e0.bsz,fun b _ _=>noE b,fun b z=>absurd z (noE b),e0.funs,fun b hb=>rn b (e0.frf b hb)⟩,
   rfl,e0.bare,Un.kept hk,⟨_,hns,fun i x v e1 e2 e3=>?_⟩,fun x c e=>?_,hC,fun x c e=>?_,(fun q hq=>nomatch hq),(e0.hok.rmv hl).kept hk,?_⟩
  ·have hx':scope.names.lookup x=some .cell\/scope.names.lookup x=some .free:=hx
   rcases hx' with h | h
   ·exact absurd rfl (hmem _ (PySem.mem_of_lookup h)).1
   ·exact v9.mp ((hmem _ (PySem.mem_of_lookup h)).2 rfl)
  ·cases i with
   | zero =>
    have e1':p=x:=by simpa using (show (p::N')[0]?=some x from e1)
    have e2':a=v:=by simpa using (show (some a::cvs)[0]?=some (some v) from e2)
    subst e1' e2'
    refine⟨u,ru,.inl ⟨hp,?_⟩⟩
    show [(p,u)].reverse.lookup p=some u
    simp[F6]
   | succ i =>
    have e1':N'[i]?=some x:=by simpa using (show (p::N')[i+1]?=some x from e1)
    have e2':cvs[i]?=some (some v):=by simpa using (show (some a::cvs)[i+1]?=some (some v) from e2)
    obtain⟨hs,c,o,u',hc1,hc2,hd,rv⟩:=hv i x v e1' e2'
    exact⟨u',rv,.inr ⟨.inr hs,c,hc1,o,hk c o (at0 c o hc2),hd⟩⟩
  ·obtain⟨o,v,h1',h2'⟩:=hcl x c e
   exact⟨v,o,hk c o (at0 c o h1'),h2'⟩
  ·obtain⟨o,v,h1',h2'⟩:=hcl x c e
   exact ad7 h1'
  ·show (some a::cvs).length=(p::N').length
   rw[A1,A1,hN]
 refine PySem.W.kla_codeExpr (E3 (he A outer s (Z1 H l) (hr.deeper _) [] _ _ (Z1 H l) _ I ht) (fun u' s' hq=>?_) fun _ _ z=>False.elim z)
 obtain⟨v',H',J,r',q⟩:=hq
 have un:Un (frs outer) [] (Z1 H l) H' s.heap s'.heap:=J.base
 have fr:∀ b o,l b=some o->H' b=none:=fun b o e=>un.free b o (at0 b o e) (ad7 e) (noE b)
 exact⟨v',am4 H' l,J.os,J.bare,un.inner hl,J.hok.trkd fun b o e=>⟨un.keep b o (at0 b o e) (ad7 e) (nfr b o e) (noE b),fr b o e⟩,r',q fr⟩
def bR3 (P:j8)(w:x6)(K:W.Frag)(mg:Str->Option c6)(base:Heap)(k i:Nat)(t:TA):TE:=fun σ H Q=>∃ (f:Addr) (ob:Obj) (fd:u0),σ[i]?=some (some (.ref f))/\H f=some (Q7 f ob)/\ob.data=.func fd/\t σ H fun vs H1=>∃ (ps:List Str) (sp:Sp),H1 f=some (Q7 f ob) /\
 A8 P w K mg base CX0 k f fd ps sp/\Binds K fd ps []/\sp vs H1 Q E0
theorem bt8 {X:Cx}{k i:Nat}{x:Str}{p pos:Pos}{e:Expr}{es:List Expr}{t:TA}(hr:X7 k X.A)(hN:X.N[i]?=some x)(hv:Vis X.env.scope x)(ha:PA X (e::es) t)(hd:(x == ("__debug__":Str))=false:=by decide)(hcd:(x == ("__classdict__":Str))=false:=by decide)
  (he:A2 (e::es) X.env=(false,eval e X.env)::A2 es X.env:=by rfl)(hpl:(S7 pos (A2 es X.env)).any (·.1)=false:=by rfl) :
  PE X (.Call (.Name x p) (e::es) [] pos) (bR3 X.prog X.w X.K X.mg X.base k i t):=by
 intro pins s σ H Q I h
 obtain⟨f,ob,fd,hσ,hf,hfd,h⟩:=h
 refine J5 (E3 (bt1 hN hv hd hcd pins s σ H (fun v H'=>v=.ref f/\H'=H) I ⟨_,hσ,rfl,rfl⟩) (fun u s0 hq=>?_) fun _ _ z=>z)
 obtain⟨v,H',I0,rv,rfl,rfl⟩:=hq
 cases rv
 have hfo:=(I0.hok f _ hf).1
 obtain⟨oc,od,odt,osl⟩:=ob
 have kin:∀ {hh:Heap},hh.get? f=some ⟨oc,od,odt,osl⟩->PySem.W.Frag.In [(f,⟨oc,od,odt,osl⟩)] hh:=fun {hh} e a o q=>by
  by_cases z:a=f
  ·subst z
   have:(some ⟨oc,od,odt,osl⟩:Option Obj)=some o:=by simpa [F6] using q
   rw[<- this];exact e
  ·have:(none:Option Obj)=some o:=by
    have zz:(a == f)=false:=by simpa using z
    simpa [F6,zz] using q
   cases this
 have hfd':odt=.func fd:=hfd
 subst hfd'
 refine PySem.W.callWith_K (K:=[(f,⟨oc,od,.func fd,osl⟩)]) (h₀:=s0.heap) (kin hfo) (by unfold k6;simp[F6]) (thn (ha pos pins s0 σ _ _ I0 h) fun us s1 ⟨vs,H1,I1,r,ps,sp,hf1,F,hb,q⟩=>⟨kin (I1.hok f _ hf1).1,?_⟩) he hpl
 have q':sp (vs++[]) H1 Q E0:=by rw[F4];exact q
 exact bs4 F hr hb .nil G4 I1 r q'
end L2
namespace L2
open PySem PySem.Spec PyProof.Rows PySem.SeqAt
def isI (z:Int):c6->Bool
 | .int c _=>c == z
 | _=>false
section
variable {X:Cx}
def bF3:V->List V->Hp->VK->Prop:=fun x vs H Q=>∃ (l:Addr) (ns:List Int) (z:Int) (j:Nat),x=.ref l/\vs=[.int z]/\H l=some (.lst (ns.map V.int))/\ns[j]?=some z/\(∀ m c,m<j->ns[m]?=some c->c≠z)/\j<1000/\Q (.int j) H
theorem bl9:MtM X "list.index" bF3:=by
 intro pins s σ H x vs v us Q I rx rv h
 obtain⟨l,ns,z,j,rfl,rfl,hH,hj,hno,hj1,q⟩:=h
 cases rx
 obtain⟨u,rfl,ru⟩:=vals1 rv
 obtain⟨t,rfl⟩:=ru
 obtain⟨zz,its,n,r,hl,e⟩:=I.lstM hH
 have hlen:=r.length
 rw[b9]at hlen
 have hjl:j<ns.length:=by
  rcases C9 j ns.length with h | h
  ·exact h
  ·rw[r6 h]at hj;cases hj
 have at_:∀ m (hm:m<ns.length),∃ t',its[m]?=some (.int ns[m] t'):=fun m hm=>by
  obtain⟨u,hu,ru⟩:=r.get (x:=.int ns[m]) (i:=m) (by rw[o9,i6 hm];rfl)
  obtain⟨t',rfl⟩:=ru
  exact⟨t',hu⟩
 have hsz:its.toArray.size=ns.length:=by rw[d5];omega
 refine aR3 F.slot_list_index ⟨_,e,rfl⟩ F.entry_list_index (F.args_list_index_2 _ _) (list_indexAt l its.toArray n none #[] (.int z t) (isI z) j (by rw[hsz];exact hjl) (by omega) ?_ ?_) ⟨e,fun y hy=>?_,?_⟩
 ·obtain⟨t',ht⟩:=at_ j hjl
  rw[i6 (by omega)]at ht
  injection ht with ht
  rw[i6 hjl]at hj
  injection hj with hj
  show isI z (its.toArray[j]'(by rw[hsz];exact hjl))=true
  rw[bB9,ht,hj]
  simp[isI]
 ·intro m hm hmj
  have hml:m<ns.length:=by rw[hsz]at hm;exact hm
  obtain⟨t',ht⟩:=at_ m hml
  rw[i6 (by omega)]at ht
  injection ht with ht
  have:=hno m ns[m] hmj (i6 hml)
  rw[bB9,ht]
  simp[isI,this]
 ·obtain⟨m,hm,e⟩:=ac2.mp (show y∈its by simpa using hy)
  obtain⟨t',ht⟩:=at_ m (by omega)
  rw[i6 hm,e]at ht
  injection ht with ht
  subst ht
  exact EqAt.int_int _ _ _ _
 ·exact⟨.int j,H,I.tok _,⟨_,rfl⟩,q⟩
end
end L2
namespace Web
open L2
open Grf (S b2 Gph deg cnt sm Top roomF)
def sk (p i:Nat):Nat:=if i<p then i else i+1
theorem bN0 (p i:Nat):sk p i≠p:=by unfold sk;split<;>omega
theorem bN1 {p i n:Nat}(h:i<n - 1)(hp:p<n):sk p i<n:=by unfold sk;split<;>omega
theorem bc8 {p:Nat}(f:Nat->Int):∀ {n:Nat},p<n->S n f=S (n - 1) (fun j=>f (sk p j))+f p
 | n+1,h=>by
  show S n f+f n=S n (fun j=>f (sk p j))+f p
  by_cases e:p=n
  ·subst e
   rw[Grf.x8 (g:=fun j=>f (sk p j)) fun i hi=>by show f i=f (sk p i);unfold sk;rw[if_pos hi]]
  ·have hp:p<n:=by omega
   rw[bc8 f hp]
   obtain⟨m,rfl⟩:∃ m,n=m+1:=⟨n - 1,by omega⟩
   have e1:sk p m=m+1:=by unfold sk;rw[if_neg (by omega)]
   show S m (fun j=>f (sk p j))+f p+f (m+1)=S m (fun j=>f (sk p j))+f (sk p m)+f p
   rw[e1]
   omega
theorem ab9 {p:Nat}:∀ {n:Nat},p<n->(o8 n).filter (fun i=>decide (i≠p))=(o8 (n - 1)).map (sk p)
 | n+1,h=>by
  rw[E7,O1,bY7]
  by_cases e:p=n
  ·subst e
   have e1:[p].filter (fun i=>decide (i≠p))=[]:=by simp
   rw[e1,F4,List.filter_eq_self.mpr fun a ha=>decide_eq_true (by have:=B9.mp ha;omega)]
   conv=>lhs;rw[<- List.map_id (o8 p)]
   exact P6 fun a ha=>by
    show a=sk p a
    unfold sk;rw[if_pos (B9.mp ha)]
  ·have hp:p<n:=by omega
   have e1:[n].filter (fun i=>decide (i≠p))=[n]:=by
    rw[aQ7,if_pos (decide_eq_true (Ne.symm e))];rfl
   rw[e1,ab9 hp]
   obtain⟨m,rfl⟩:∃ m,n=m+1:=⟨n - 1,by omega⟩
   have e2:sk p m=m+1:=by unfold sk;rw[if_neg (by omega)]
   rw[bY7,E7 (n:=m),j9,List.map_singleton,e2]
theorem aV6 {ns es:List Int}{p:Nat}(h:p<ns.length):V1 ns p es=(o8 (ns.length - 1)).map fun i=>ab6 ns es (sk p i):=by
 unfold V1
 rw[ab9 h,V2]
 rfl
theorem al7 {ns es:List Int}{p:Nat}(h:p<ns.length):(V1 ns p es).length=ns.length - 1:=by rw[aV6 h,b9,B0]
theorem aJ7 {ns es:List Int}{p i:Nat}(h:p<ns.length)(hi:i<ns.length - 1):(V1 ns p es).getD i 0=ab6 ns es (sk p i):=by
 rw[aV6 h,i3,o9,K4 hi]
 rfl
theorem bh0 {ns:List Int}(h:Gr ns){i:Nat}(hi:i<ns.length):ns.getD i 0<ns.length:=by
 obtain⟨g,hg,hd⟩:=h
 rw[<- hd i hi]
 unfold deg
 rw[bc8 (p:=i) _ hi,hg.irr]
 have h1:S (ns.length - 1) (fun j=>b2 (g i (sk i j)))<=S (ns.length - 1) (fun _=>1):=Grf.ae6 fun j _=>Grf.aL3 _
 rw[Grf.P3]at h1
 have:b2 false=0:=rfl
 omega
theorem bK0 {ns es:List Int} {p:Nat} (h:Gr ns) (hp:p<ns.length) (nd:es.Nodup) (he:∀ z∈es,0<=z/\z<ns.length/\z≠p) (hl:(es.length:Int)=ns.getD p 0)
  (ht:∀ x∈es,∀ y:Nat,y<ns.length->(y:Int)∉es->y≠p->ns.getD y 0<=ns.getD x.toNat 0):Gr (V1 ns p es):=by
 obtain⟨g,hg,hd⟩:=h
 have hs:S ns.length (fun j=>b2 (decide ((j:Int)∈es)))=(es.length:Int):=by
  rw[Grf.x8 (g:=fun i=>if (i:Int)∈es then 1 else 0) fun i _=>by
   by_cases e:(i:Int)∈es
   ·rw[decide_eq_true e,if_pos e];rfl
   ·rw[decide_eq_false e,if_neg e];rfl]
  rw[aY2 (f:=fun _=>1) nd fun z hz=>⟨(he z hz).1,(he z hz).2.1⟩]
  clear he hl ht nd
  induction es with
  | nil=>rfl
  | cons a es ih=>rw[v8,P7,ih,A1];omega
 have hNp:decide ((p:Int)∈es)=false:=decide_eq_false fun m=>(he _ m).2.2 rfl
 have hm:0<=S ns.length (fun j=>b2 (decide ((j:Int)∈es) && !g p j)):=Grf.R1 fun i _=>Grf.F9 _
 obtain⟨g',k1,k2,k3⟩:=Grf.cf2 (N:=fun j=>decide ((j:Int)∈es)) hp hNp (S ns.length (fun j=>b2 (decide ((j:Int)∈es) && !g p j))).toNat g hg (by rw[hs,hl,hd p hp])
  (fun x y hx hy hNx hNy hyp => by
   rw[hd x hx,hd y hy]
   have:=ht x (of_decide_eq_true hNx) y hy (of_decide_eq_false hNy) hyp
   rw[q0]at this
   exact this) (by omega)
 refine⟨fun i j=>g' (sk p i) (sk p j),⟨fun i j=>k1.sym _ _,fun i=>k1.irr _⟩,fun i hi=>?_⟩
 rw[al7 hp]at hi ⊢
 rw[aJ7 hp hi]
 have hsk:=bN1 (p:=p) hi hp
 have e1:=k2 _ hsk
 rw[hd _ hsk]at e1
 have e2:deg ns.length g' (sk p i)=S (ns.length - 1) (fun j=>b2 (g' (sk p i) (sk p j)))+b2 (g' (sk p i) p):=bc8 (p:=p) _ hp
 rw[e2,k1.sym (sk p i) p,k3 _ hsk]at e1
 show S (ns.length - 1) (fun j=>b2 (g' (sk p i) (sk p j)))=_
 generalize S (ns.length - 1) (fun j=>b2 (g' (sk p i) (sk p j)))=q at e1
 unfold ab6
 by_cases e:((sk p i:Nat):Int)∈es
 ·rw[decide_eq_true e]at e1
  rw[if_pos e]
  have:b2 true=1:=rfl
  omega
 ·rw[decide_eq_false e]at e1
  rw[if_neg e]
  have:b2 false=0:=rfl
  omega
theorem by1 {ns zs:List Int}{p:Nat}(h:Gr ns)(hp:p<ns.length)(hz:zs.Perm (rng ns.length))(hs:zs.Pairwise (ole ns)):Gr (V1 ns p ((rest zs p).take (ns.getD p 0).toNat)):=by
 have nz:(rest zs p).Nodup:=(hz.nodup_iff.mpr (V5 ns.length)).filter _
 have srt:(rest zs p).Pairwise (ole ns):=hs.filter _
 have h1:=bh0 h hp
 have h0:=aa0 (aE1 h) hp
 have hl:=aT7 hz (p:=p) (by omega) (by omega)
 refine bK0 h hp (nz.sublist (S3 _ _)) (fun z m=>?_) ?_ (fun x hx y hy hny hyp=>?_)
 ·obtain⟨m1,m2⟩:=aC0.mp (L5 m)
  obtain⟨c0,c1⟩:=R3.mp (hz.mem_iff.mp m1)
  exact⟨c0,c1,m2⟩
 ·rw[o4]
  omega
 ·have hyr:(y:Int)∈rest zs p:=aC0.mpr ⟨hz.mem_iff.mpr (R3.mpr ⟨by omega,by omega⟩),by omega⟩
  have e:=O0 (ns.getD p 0).toNat (rest zs p)
  rw[<- e]at hyr srt
  rcases F3.mp hyr with m | m
  ·exact absurd m hny
  ·have:=(bB7.mp srt).2.2 x hx y m
   rcases ar0.mp this with t | t
   ·rw[q0]at t;omega
   ·rw[q0]at t;omega
end Web
namespace Web
open L2
theorem up_eq {a b c d:Int}(h:up [a,b]=up [c,d]):(a=c/\b=d)\/(a=d/\b=c):=by
 unfold up at h
 injection h with h1 h2
 injection h2 with h2 _
 split at h1<;>split at h1<;>split at h2<;>split at h2<;>omega
def star (a:Int)(bs:List Int):List (List Int):=bs.map fun b=>[a,b]
theorem aE9 {a:Int}{q:Nat}:∀ {bs:List Int},a∉bs->U9 (star a bs) q=if (q:Int)=a then bs.length else bs.count (q:Int)
 | [],_=>by
  split<;>rfl
 | b::bs,h=>by
  have hb:a≠b:=fun e=>h (e ▸ i5)
  have hbs:a∉bs:=fun m=>h (d7 _ m)
  have ih:=aE9 (q:=q) hbs
  unfold star U9 at ih ⊢
  rw[v8,aQ8,ih,List.count_cons,A1]
  by_cases e:(q:Int)=a
  ·rw[if_pos e,if_pos e,if_pos (decide_eq_true (by rw[e];exact i5))]
  ·rw[if_neg e,if_neg e]
   by_cases e2:(q:Int)=b
   ·rw[if_pos (decide_eq_true (by rw[e2];exact d7 _ i5)),if_pos (by rw[e2];exact beq_self_eq_true b)]
   ·rw[if_neg (by
     intro z
     have:=of_decide_eq_true z
     rcases g6.mp this with t | t
     ·exact e t
     ·exact e2 (B7.mp t)),if_neg (by rw[beq_iff_eq];exact fun z=>e2 z.symm)]
theorem av5 {q:Int}:∀ {bs:List Int},bs.Nodup->bs.count q=if q∈bs then 1 else 0
 | [],_=>by rw[if_neg (by simp)];rfl
 | b::bs,nd=>by
  obtain⟨h1,h2⟩:=F5.mp nd
  rw[List.count_cons,av5 h2]
  by_cases e:b=q
  ·subst e
   rw[if_neg h1,if_pos i5,if_pos (beq_self_eq_true b)]
  ·rw[show (b == q)=false from beq_eq_false_iff_ne.mpr e]
   by_cases m:q∈bs
   ·rw[if_pos m,if_pos (d7 _ m)];rfl
   ·have m2:¬ q∈b::bs:=fun z=>by
     rcases g6.mp z with t | t
     ·exact e t.symm
     ·exact m t
    rw[if_neg m,if_neg m2];rfl
structure ak1 (ns ps left:List Int) (ks:List (List Int)):Prop where
 len:left.length=ps.length
 nd:ps.Nodup
 inn:∀ q∈ps,0<=q/\q<ns.length
 ends:∀ k∈ks,aa2 ns.length k
 nodup:(ks.map up).Nodup
 out:∀ a b:Int,[a,b]∈ks->¬ (a∈ps/\b∈ps)
 cnt:∀ i q:Nat,ps[i]?=some (q:Int)->(U9 ks q:Int)+left.getD i 0=ns.getD q 0
 done:∀ q:Nat,q<ns.length->(q:Int)∉ps->(U9 ks q:Int)=ns.getD q 0
theorem aV0 {ps:List Int}(nd:ps.Nodup){i j:Nat}{a:Int}(h1:ps[i]?=some a)(h2:ps[j]?=some a):i=j:=by
 have hi:i<ps.length:=by
  rcases C9 i ps.length with h | h
  ·exact h
  ·rw[r6 h]at h1;cases h1
 exact(List.getElem?_inj hi nd).mp (h1.trans h2.symm)
theorem bh2 {ps:List Int}{i:Nat}{a:Int}(h:ps[i]?=some a):ps.getD i 0=a:=by rw[i3,h];rfl
theorem bc1 {ps:List Int}{i:Nat}(h:i<ps.length):ps[i]?=some (ps.getD i 0):=by
 rw[i3,i6 h];rfl
theorem ak1.step {ns ps left ps' es:List Int}{ks:List (List Int)}{j:Nat}{a:Int}(h:ak1 ns ps left ks)(hj:ps[j]?=some a)(sub:ps'.Sublist ps)(hl:ps'.length=ps.length - 1)(hix:∀ i,i<ps.length - 1->ps'[i]?=ps[sk j i]?)
  (ne:es.Nodup)(he:∀ z∈es,0<=z/\z<ps.length/\z≠j)(hn:(es.length:Int)=left.getD j 0) :
  ak1 ns ps' (V1 left j es) (ks++star a (es.map fun z=>ps.getD z.toNat 0)):=by
 have hjl:j<ps.length:=by
  rcases C9 j ps.length with h | h
  ·exact h
  ·rw[r6 h]at hj;cases hj
 have hjl':j<left.length:=by rw[h.len];exact hjl
 have haps:a∈ps:=i7 hj
 have bget:∀ z∈es,ps[z.toNat]?=some (ps.getD z.toNat 0):=fun z hz=>bc1 (by have:=he z hz;omega)
 have bmem:∀ b∈es.map (fun z=>ps.getD z.toNat 0),b∈ps:=fun b hb=>by
  obtain⟨z,hz,rfl⟩:=u6.mp hb
  exact i7 (bget z hz)
 have anb:a∉es.map (fun z=>ps.getD z.toNat 0):=fun m=>by
  obtain⟨z,hz,e⟩:=u6.mp m
  have h1:=bget z hz
  rw[e]at h1
  have:=aV0 h.nd h1 hj
  have:=he z hz
  omega
 have ndb:(es.map (fun z=>ps.getD z.toNat 0)).Nodup:=by
  refine N1.mpr ?_
  rw[L8]
  refine List.Pairwise.imp_of_mem ?_ (N1.mp ne)
  intro x y hx hy hxy e
  have h1:=bget x hx
  rw[e]at h1
  have:=aV0 h.nd h1 (bget y hy)
  have:=he x hx
  have:=he y hy
  exact hxy (by omega)
 have ap:a∉ps':=fun m=>by
  obtain⟨i,hi⟩:=B4.mp m
  have hil:i<ps.length - 1:=by
   rcases C9 i ps'.length with h | h
   ·omega
   ·rw[r6 h]at hi;cases hi
  rw[hix i hil]at hi
  exact bN0 j i (aV0 h.nd hi hj)
 have bin:∀ (i q:Nat),ps[i]?=some (q:Int)->((q:Int)∈es.map (fun z=>ps.getD z.toNat 0)↔(i:Int)∈es):=fun i q hi=>by
  constructor
  ·intro m
   obtain⟨z,hz,e⟩:=u6.mp m
   have h1:=bget z hz
   rw[e]at h1
   have:=aV0 h.nd h1 hi
   have:=he z hz
   rwa [show (i:Int)=z by omega]
  ·intro m
   refine u6.mpr ⟨i,m,?_⟩
   rw[q0]
   exact bh2 hi
 refine⟨by rw[al7 hjl',hl,h.len],h.nd.sublist sub,fun q hq=>h.inn q (sub.subset hq),fun k hk=>?_,?_,fun c d hk=>?_,fun i q hi=>?_,fun q hq hnq=>?_⟩
 ·rcases F3.mp hk with hk | hk
  ·exact h.ends k hk
  ·obtain⟨b,hb,rfl⟩:=u6.mp hk
   have h1:=h.inn a haps
   have h2:=h.inn b (bmem b hb)
   have h3:a≠b:=fun e=>anb (e ▸ hb)
   exact⟨a.toNat,b.toNat,by omega,by omega,by omega,by rw[bP2 h1.1,bP2 h2.1]⟩
 ·rw[j9,aI5]
  refine⟨h.nodup,?_,fun x hx y hy e=>?_⟩
  ·unfold star
   rw[V2]
   refine N1.mpr ?_
   rw[L8]
   refine List.Pairwise.imp_of_mem ?_ (N1.mp ndb)
   intro x y hx hy hxy e
   rcases up_eq e with t | t
   ·exact hxy t.2
   ·exact anb (t.1 ▸ hy)
  ·obtain⟨k,hk,rfl⟩:=u6.mp hx
   obtain⟨k2,hk2,rfl⟩:=u6.mp hy
   obtain⟨b,hb,rfl⟩:=u6.mp hk2
   obtain⟨u,v,_,_,_,rfl⟩:=h.ends k hk
   refine h.out _ _ hk ?_
   rcases up_eq e with t | t
   ·rw[t.1,t.2];exact⟨haps,bmem b hb⟩
   ·rw[t.1,t.2];exact⟨bmem b hb,haps⟩
 ·rcases F3.mp hk with hk | hk
  ·exact fun z=>h.out c d hk ⟨sub.subset z.1,sub.subset z.2⟩
  ·obtain⟨b,hb,e⟩:=u6.mp hk
   injection e with e1 _
   intro z
   exact ap (e1 ▸ z.1)
 ·have hil:i<ps.length - 1:=by
   rcases C9 i ps'.length with h | h
   ·omega
   ·rw[r6 h]at hi;cases hi
  rw[hix i hil]at hi
  have hc:=h.cnt _ q hi
  have hqa:¬ (q:Int)=a:=fun e=>by
   rw[e]at hi
   exact bN0 j i (aV0 h.nd hi hj)
  rw[aJ7 hjl' (by rw[h.len];exact hil),aF0,aE9 anb,if_neg hqa,av5 ndb]
  unfold ab6
  by_cases m:((sk j i:Nat):Int)∈es
  ·rw[if_pos ((bin _ q hi).mpr m),if_pos m];omega
  ·rw[if_neg (fun z=>m ((bin _ q hi).mp z)),if_neg m];omega
 ·rw[aF0,aE9 anb]
  by_cases e:(q:Int)=a
  ·have hc:=h.cnt j q (by rw[e];exact hj)
   rw[if_pos e,b9]
   omega
  ·rw[if_neg e,av5 ndb]
   have hq':(q:Int)∉ps:=fun m=>by
    obtain⟨m',hm'⟩:=B4.mp m
    have hml:m'<ps.length:=by
     rcases C9 m' ps.length with h | h
     ·exact h
     ·rw[r6 h]at hm';cases hm'
    have hmj:m'≠j:=fun z=>by rw[z,hj]at hm';injection hm' with hm';exact e hm'.symm
    obtain⟨i,hi,hik⟩:∃ i,i<ps.length - 1/\sk j i=m':=by
     rcases C9 m' j with t | t
     ·exact⟨m',by omega,by unfold sk;rw[if_pos t]⟩
     ·exact⟨m' - 1,by omega,by unfold sk;rw[if_neg (by omega)];omega⟩
    have:=hix i hi
    rw[hik,hm']at this
    exact hnq (i7 this)
   rw[if_neg (fun m=>hq' (bmem _ m)),h.done q hq hq' |>.symm]
   omega
theorem ak1.last {ns left:List Int}{ks:List (List Int)}(h:ak1 ns [] left ks):tal ns.length ks=ns:=by
 apply ak4
 intro i
 rcases C9 i ns.length with hi | hi
 ·rw[af7 hi,h.done i hi (by simp),bc1 hi]
 ·rw[r6 (by rw[T9];exact hi),r6 hi]
theorem aN8 {n i:Nat}(h:i<n):(rng n)[i]?=some (i:Int):=by
 unfold rng
 rw[o9,List.getElem?_range' h]
 simp
theorem ak1.first (ns:List Int):ak1 ns (rng ns.length) ns [] where
 len:=(ab2 _).symm
 nd:=V5 _
 inn:=fun q hq=>R3.mp hq
 ends:=fun k hk=>absurd hk (by simp)
 nodup:=by simp
 out:=fun a b hk=>absurd hk (by simp)
 cnt:=fun i q hi=>by
  have hil:i<ns.length:=by
   rcases C9 i (rng ns.length).length with h | h
   ·rw[ab2]at h;exact h
   ·rw[r6 h]at hi;cases hi
  rw[aN8 hil]at hi
  injection hi with hi
  rw[show q=i by omega]
  show (0:Int)+_=_
  omega
 done:=fun q hq hn=>absurd (R3.mpr ⟨by omega,by omega⟩) hn
theorem aD0 {ns:List Int}:∀ {xs ys:List Int},xs.Perm ys->xs.Pairwise (ole ns)->ys.Pairwise (ole ns)->xs=ys
 | [],ys,p,_,_=>p.symm.eq_nil.symm
 | x::xs,[],p,_,_=>by
  have:=p.length_eq
  simp at this
 | x::xs,y::ys,p,h,q=>by
  have hxy:x=y:=by
   have h1:x∈y::ys:=p.mem_iff.mp i5
   have h2:y∈x::xs:=p.mem_iff.mpr i5
   rcases g6.mp h1 with e | e
   ·exact e
   ·rcases g6.mp h2 with e2 | e2
    ·exact e2.symm
    ·exact aU5 ((F1.mp h).1 y e2) ((F1.mp q).1 x e)
  subst hxy
  rw[aD0 ((List.perm_cons x).mp p) (F1.mp h).2 (F1.mp q).2]
theorem aD2:∀ {l m:List (List Int)},l.Nodup->(∀ x∈l,x∈m)->l.length<=m.length
 | [],m,_,_=>y9 _
 | x::l,m,nd,h=>by
  have h1:=F5.mp nd
  have hm:=h x i5
  have h2:∀ y∈l,y∈m.erase x:=fun y hy=>by
   have hne:y≠x:=fun e=>h1.1 (e ▸ hy)
   exact(List.mem_erase_of_ne hne).mpr (h y (d7 _ hy))
  have h3:=aD2 h1.2 h2
  rw[bj0 hm]at h3
  have h4:0<m.length:=List.length_pos_of_mem hm
  simp only[A1]
  omega
theorem bz7 {n q:Nat}:∀ {ks:List (List Int)},(∀ k∈ks,aa2 n k)->U9 (ks.map up) q=U9 ks q
 | [],_=>rfl
 | k::ks,h=>by
  have ih:=bz7 (q:=q) fun k hk=>h k (d7 _ hk)
  unfold U9 at ih ⊢
  rw[v8,aQ8,aQ8,ih]
  congr 1
  obtain⟨i,j,_,_,_,rfl⟩:=h k i5
  have e:((q:Int)∈up [(i:Int),(j:Int)])↔(q:Int)∈[(i:Int),(j:Int)]:=by
   unfold up
   simp only[g6,J3,or_false]
   split<;>split<;>omega
  by_cases z:(q:Int)∈[(i:Int),(j:Int)]
  ·rw[decide_eq_true z,decide_eq_true (e.mpr z)]
  ·rw[decide_eq_false z,decide_eq_false (fun t=>z (e.mp t))]
theorem bQ7 {n:Nat}{ks:List (List Int)}(h:∀ k∈ks,aa2 n k):tal n (ks.map up)=tal n ks:=by
 unfold tal
 refine P6 fun p _=>?_
 rw[bz7 h]
noncomputable def bG7 (ns:List Int):List Int:=Classical.choose (ao5 ns)
theorem ad9 (ns:List Int):(bG7 ns).Perm (rng ns.length):=(Classical.choose_spec (ao5 ns)).1
theorem aJ4 (ns:List Int):(bG7 ns).Pairwise (ole ns):=(Classical.choose_spec (ao5 ns)).2
theorem bf9 {ns zs:List Int}(hp:zs.Perm (rng ns.length))(hs:zs.Pairwise (ole ns)):zs=bG7 ns:=aD0 (hp.trans (ad9 ns).symm) hs (aJ4 ns)
noncomputable def chF (ns:List Int)(p:Nat):List Int:=(rest (bG7 ns) p).take (ns.getD p 0).toNat
theorem bz9 (ns:List Int)(p:Nat):(chF ns p).Nodup:=(((ad9 ns).nodup_iff.mpr (V5 ns.length)).filter _).sublist (S3 _ _)
theorem bc3 {ns:List Int}{p:Nat}{z:Int}(h:z∈chF ns p):0<=z/\z<ns.length/\z≠p:=by
 obtain⟨m1,m2⟩:=aC0.mp (L5 h)
 obtain⟨c0,c1⟩:=R3.mp ((ad9 ns).mem_iff.mp m1)
 exact⟨c0,c1,m2⟩
theorem aP7 {ns:List Int}{p:Nat}(h:Gr ns)(hp:p<ns.length):((chF ns p).length:Int)=ns.getD p 0:=by
 have h1:=bh0 h hp
 have h0:=aa0 (aE1 h) hp
 have hl:=aT7 (ad9 ns) (p:=(p:Int)) (by omega) (by omega)
 unfold chF
 rw[o4]
 omega
theorem bA0 {ns:List Int}{p:Nat}(h:Gr ns)(hp:p<ns.length):Gr (V1 ns p (chF ns p)):=by1 h hp (ad9 ns) (aJ4 ns)
noncomputable def bw4:Nat->List Int->List Int->List (List Int)
 | 0,_,_=>[]
 | m+1,left,ps=>star (ps.getD 0 0) ((chF left 0).map fun z=>ps.getD z.toNat 0)++bw4 m (V1 left 0 (chF left 0)) (ps.drop 1)
theorem ak1.go {ns ps left:List Int}{ks:List (List Int)}(h:ak1 ns ps left ks)(hg:Gr left)(h0:0<left.length) :
  ak1 ns (ps.drop 1) (V1 left 0 (chF left 0)) (ks++star (ps.getD 0 0) ((chF left 0).map fun z=>ps.getD z.toNat 0)):=by
 have hl:=h.len
 refine h.step (bc1 (by omega)) (aI4 1 ps) (by rw[E1]) (fun i hi=>?_) (bz9 left 0) (fun z hz=>?_) (aP7 hg h0)
 ·rw[bO9]
  congr 1
  unfold sk
  rw[if_neg (by omega)]
  omega
 ·have:=bc3 hz
  omega
def N6 (n p:Nat):List Int:=((o8 n).filter fun i=>decide (i≠p)).map fun i:Nat=>(i:Int)
theorem ak1.start {ns es:List Int}{p:Nat}(hp:p<ns.length)(ne:es.Nodup)(he:∀ z∈es,0<=z/\z<ns.length/\z≠p)(hn:(es.length:Int)=ns.getD p 0):ak1 ns (N6 ns.length p) (V1 ns p es) (star p es):=by
 have:=(ak1.first ns).step (j:=p) (a:=(p:Int)) (ps':=N6 ns.length p) (es:=es) (aN8 hp) ?_ ?_ ?_ ne (fun z hz=>by rw[ab2];exact he z hz) hn
 ·have e:es.map (fun z=>(rng ns.length).getD z.toNat 0)=es:=by
   conv=>rhs;rw[<- List.map_id es]
   refine P6 fun z hz=>?_
   have:=he z hz
   rw[bh2 (aN8 (n:=ns.length) (i:=z.toNat) (by omega))]
   show ((z.toNat:Nat):Int)=z
   omega
  rw[e,List.nil_append]at this
  exact this
 ·unfold N6 rng
  rw[<- aw0]
  exact List.Sublist.map _ bL6
 ·unfold N6
  rw[ab9 hp,b9,b9,B0,ab2]
 ·intro i hi
  rw[ab2]at hi
  unfold N6
  rw[ab9 hp,o9,o9,K4 hi,aN8 (bN1 hi hp)]
  rfl
end Web
namespace Tim
open PySem PyProof.Rows
theorem bm1:∀ n:Nat,n<64->minRun' n n 0=n:=by decide +kernel
section
variable {prog:j8} {w:x6} {A:u4} {E:c6->c7->Prop} {s:c7} {κ:aa7} {a₀:Array E8} {p:Array (Nat × Nat × Nat)} {O:aY7} {f:E8->O.α}
theorem aI6 (C:bL4 prog w A E s κ a₀ f){st:M6}{Q:Unit->M6->Prop}(d:O.α)(h3:a₀.size<64)(hp:(t7 st).Perm a₀)(hk:kindOf st=κ)(hf:aa8 st=none)(hpe:ac6 st=#[])
  (h:∀ st',(t7 st').Perm a₀->aa8 st'=none->(t7 st').toList.Pairwise (le (Bf f))->Q () st'):wpS (y6 prog w) A E s sortRuns' Q st:=by
 have hsz:(t7 st).size=a₀.size:=hp.size_eq
 rw[sortRuns'_eq]
 refine E2 (bC8 ?_)
 dsimp only
 rw[hsz]
 have hmr:=bm1 a₀.size h3
 generalize minRun' a₀.size a₀.size 0=mr at hmr ⊢
 refine E2 (wpS_mono (ak6
  (I:=fun x c st'=>(c=(none,0)/\x=0/\SI a₀ κ #[] st')\/(c=(none,a₀.size)/\SI a₀ κ #[(0,a₀.size,0)] st'/\R5 f d 0 (t7 st') a₀.size))
  (Q:=fun c st'=>c=(none,a₀.size)/\aa8 st'=none/\(t7 st').Perm a₀/\(ac6 st').size<=1/\R5 f d 0 (t7 st') a₀.size) ?step ?fin
  (.inl ⟨rfl,rfl,hp,hk,hf,hpe⟩)) ?post)
 case fin =>
  rintro c st' (⟨rfl,hx,I⟩ | ⟨rfl,I,hs⟩)
  ·have e0:a₀.size=0:=by omega
   refine⟨by rw[e0],I.failed,I.perm,by rw[I.pend];exact y9 _,fun i j _ hj=>?_⟩
   omega
  ·exact⟨rfl,I.failed,I.perm,by rw[I.pend];exact d4 _,hs⟩
 case step =>
  rintro x c st1 _ hx (⟨rfl,rfl,I⟩ | ⟨rfl,I,hs⟩)
  ·dsimp only
   have hpos:0<a₀.size:=by omega
   rw[if_neg (by omega)]
   refine E2 (wpS_countRun C d (p:=#[]) (by omega) (by omega) I fun n st2 hB2 hp2 hn1 hn2 hs2=>?_)
   dsimp only
   by_cases hlt:n<mr
   ·rw[if_pos hlt]
    refine E2 (aR7 ?_)
    refine E2 (ax6 C d (by omega) (by omega) hB2 hs2 fun st3 hB3 hp3 hs3=>?_)
    simp only[ad0,o6,if_false]
    have e:min (a₀.size - 0) mr=a₀.size:=by omega
    rw[e]at hs3 ⊢
    refine E2 (bC8 ?_)
    rw[hB3.pend]
    show wpS _ _ _ _ (do modify fun s=>setPending s ((ac6 s).push (0,a₀.size,0));pure (ForInStep.yield (none,0+a₀.size))) _ _
    refine E2 (wpS_modify (K8 (.inr ⟨by rw[ai7],⟨hB3.perm,hB3.kind,hB3.failed,?_⟩,hs3⟩)))
    show (ac6 st3).push (0,a₀.size,0)=_
    rw[hB3.pend]
    rfl
   ·rw[if_neg hlt]
    have e:n=a₀.size:=by omega
    subst e
    refine E2 (bC8 ?_)
    rw[hB2.pend]
    show wpS _ _ _ _ (do modify fun s=>setPending s ((ac6 s).push (0,a₀.size,0));pure (ForInStep.yield (none,0+a₀.size))) _ _
    refine E2 (wpS_modify (K8 (.inr ⟨by rw[ai7],⟨hB2.perm,hB2.kind,hB2.failed,?_⟩,hs2⟩)))
    show (ac6 st2).push (0,a₀.size,0)=_
    rw[hB2.pend]
    rfl
  ·dsimp only
   rw[if_pos (d4 _)]
   exact K8 ⟨rfl,I.failed,I.perm,by rw[I.pend];exact d4 _,hs⟩
 case post =>
  rintro c st1 ⟨rfl,I1,I2,I3,I4⟩
  try dsimp only
  refine E2 (wpS_mono (ak6
   (I:=fun x c st'=>c=(none,())/\st'=st1)
   (Q:=fun c st'=>c=(none,())/\st'=st1) ?fstep (fun _ _ q=>q) ⟨rfl,rfl⟩) ?fpost)
  case fstep =>
   rintro x c st2 _ hx ⟨rfl,rfl⟩
   refine E2 (bC8 ?_)
   try dsimp only
   rw[if_pos I3]
   exact K8 ⟨rfl,rfl⟩
  case fpost =>
   rintro c st2 ⟨rfl,rfl⟩
   refine K8 (h st2 I2 I1 ?_)
   have:=(bS8 I4 (by rw[I2.size_eq];omega)).1
   rw[ax2,k8 (by rw[p0,I2.size_eq];exact d4 _)]at this
   exact this
end
section
variable {prog:j8} {w:x6} {A:u4} {E:c6->c7->Prop} {s:c7}
theorem aA9 {a:Addr}{vs:List c6}{n:Nat}{P:PySem.Fin->c7->Prop}(ho:s.heap.get? a=some (F7 "list" vs.toArray n))(hz:vs.length<=i9)(h64:vs.length<64)
  (hv:∀ v∈vs,∃ i k,IsK prog w s.heap (i::k) v)(hna:∀ v∈vs,v≠.ref a)
  (h:∀ out:List c6,out.Perm vs->out.Pairwise (fun x y=>K2 (Q0 prog w s.heap y) (Q0 prog w s.heap x)=false)->P (.done (.ret .none)) { s with heap:=X0 s.heap a vs out.toArray }) :
  o7 (y6 prog w) A (ai3.«list.sort» ⟨[.ref a],[]⟩) P E s:=by
 rw[list_sort_plain]
 have ha:a<s.heap.objs.size:=d6 ho
 refine b7 (bQ0 ho rfl ?_)
 refine b7 (af5 ho rfl ?_ (by rw[d5];exact hz) (y9 _))
 obtain⟨e1,ho1⟩:∃ e1,(s.heap.update a (Obj.mapSeq fun _=>#[])).get? a=some (F7 "list" #[] e1):=⟨_,P5 ho (fun _=>#[])⟩
 refine b7 (bk0 ho1 rfl ?_)
 refine b7 (bp4 ?_ (by show vs.length<=_;exact hz))
 refine b7 (M0 ?_ (y9 _))
 refine D3 ?_
 generalize hH:((s.heap.update a (Obj.mapSeq fun _=>#[])).push (F7 "tuple" vs.toArray 0)).push (F7 "list" #[] 0)=h6
 have ho6:h6.get? a=some (F7 "list" #[] e1):=by rw[<- hH];exact c5 _ (c5 _ ho1)
 have keep:∀ b o,b≠a->s.heap.get? b=some o->h6.get? b=some o:=fun b o hb e=>by
  rw[<- hH]
  exact c5 _ (c5 _ ((x9 s.heap _ (Ne.symm hb)).trans e))
 have up:∀ v∈vs,∀ k,IsK prog w s.heap k v->IsK prog w h6 k v:=fun v hv' k hk=>by
  obtain⟨c,rfl,o,items,n,h2,h3⟩:=hk
  exact⟨c,rfl,o,items,n,keep c o (fun z=>hna _ hv' (by rw[z])) h2,h3⟩
 have fin:∀ st':M6,(t7 st').Perm (ca3 vs)->(t7 st').toList.Pairwise (le (Bf (O:=bb4) fun p=>Q0 prog w s.heap p.1))->P (.done (.ret .none)) { s with heap:=X0 s.heap a vs ((t7 st').map (·.2)) }:=fun st' hp hs=>by
  have hl:(t7 st').toList.Perm (vs.zip vs):=by rw[<- pairsOf_toList];exact ae9.mp hp
  have hm:((t7 st').map (·.2)).toList=(t7 st').toList.map (·.2):=bY3 ..
  have hz2:(vs.zip vs).map (·.2)=vs:=List.map_snd_zip (d4 _)
  have:=h ((t7 st').toList.map (·.2)) (by have:=hl.map (·.2);rw[hz2]at this;exact this) ?_
  ·rw[show (t7 st').map (·.2)=((t7 st').toList.map (·.2)).toArray by rw[<- hm]]
   exact this
  ·rw[L8]
   refine List.Pairwise.imp_of_mem ?_ hs
   intro x y hx hy hxy
   have ex:=(ak7 (hl.mem_iff.mp hx)).1
   have ey:=(ak7 (hl.mem_iff.mp hy)).1
   rw[<- ex,<- ey]
   exact hxy
 have out:∀ st':M6,(t7 st').Perm (ca3 vs)->aa8 st'=none->(t7 st').toList.Pairwise (le (Bf (O:=bb4) fun p=>Q0 prog w s.heap p.1)) ->
   o7 (y6 prog w) A (do
    let sorted:=(t7 st').map (·.2)
    let touched:=(<- seqEpoch a) != e1
    Builtin.List.listUpdate (.ref a) fun _=>sorted
    if let some e:=aa8 st' then rule "list.sort.comparison-raised";throw e
    if touched then rule "list.sort.modified";raiseError "ValueError" "list modified during sort"
    ret .none) P E { s with heap:=h6 }:=fun st' hp hf hs=>by
  dsimp only
  refine b7 (bk0 (s:={ s with heap:=h6 }) ho6 rfl ?_)
  refine b7 (af5 (s:={ s with heap:=h6 }) ho6 rfl ?_ (y9 _) (by refine A4 (at6 ((ai0 ..).trans (hp.size_eq.trans (bQ1 _)))) ?_;omega))
  rw[hf]
  simp only[bne_self_eq_false,o6,if_false]
  refine d3 ?_
  have:=fin st' hp hs
  unfold X0 at this
  rw[hH]at this
  exact this
 show o7 (y6 prog w) A _ P E { s with heap:=h6 }
 dsimp only
 by_cases h2:vs.toArray.size<2
 ·rw[if_pos h2,if_pos h2]
  refine b7 (d3 ?_)
  rw[StateT.run_pure]
  refine b7 (d3 ?_)
  refine out (SortSt.mk' general' (vs.toArray.zip vs.toArray) #[] 7 none) (Array.Perm.refl _) rfl ?_
  show (ca3 vs).toList.Pairwise _
  rw[D6]
  intro i j hi hj hij
  rw[p0,bQ1]at hj
  rw[d5]at h2
  omega
 ·rw[if_neg h2,if_neg h2]
  rw[d5]at h2
  refine b7 (aD6 (s:={ s with heap:=h6 }) (by omega) (fun v hv'=>?_) ?_)
  ·obtain⟨i,k,hk⟩:=hv v hv'
   exact⟨i,k,up v hv' _ hk⟩
  refine b7 (E3 (aI6 (s:={ s with heap:=h6 }) (a₀:=ca3 vs) (κ:=bC9 true) (O:=bb4) (f:=fun p=>Q0 prog w s.heap p.1) (st:=SortSt.mk' (bC9 true) (vs.toArray.zip vs.toArray) #[] 7 none)
   (Q:=fun _ st'=>(t7 st').Perm (ca3 vs)/\aa8 st'=none/\(t7 st').toList.Pairwise (le (Bf (O:=bb4) fun p=>Q0 prog w s.heap p.1))) ?_ ([]:List Int) (by rw[bQ1];exact h64) (Array.Perm.refl _) rfl rfl rfl fun st' a1 a2 a3=>⟨a1,a2,a3⟩) ?_ fun _ _ e=>e)
  ·intro x y hx hy Q hq
   rw[pairsOf_toList]at hx hy
   obtain⟨i,k,hk⟩:=hv x.1 (ak7 hx).2
   obtain⟨j,k',hk'⟩:=hv y.1 (ak7 hy).2
   refine aV5 (s:={ s with heap:=h6 }) (up _ (ak7 hx).2 _ hk) (up _ (ak7 hy).2 _ hk') ?_
   rw[<- O5 hk,<- O5 hk']
   exact hq
  ·rintro⟨⟨⟩,st'⟩ s' ⟨rfl,hp,hf,hs⟩
   exact out st' hp hf hs
theorem aA6 {l:Addr} {vs:List c6} {Q:c6->c7->Prop} (hl:s.heap.IsList l vs.toArray) (hz:vs.length<=i9) (h64:vs.length<64) (hv:∀ v∈vs,∃ i k,IsK prog w s.heap (i::k) v)
  (h : ∀ (out : List c6) (h' : Heap) (n : Nat), out.Perm vs -> out.Pairwise (fun x y => K2 (Q0 prog w s.heap y) (Q0 prog w s.heap x) = false) -> (∀ b o, s.heap.get? b = some o -> h'.get? b = some o) ->
   h'.get? (s.heap.objs.size+1)=some { cls:=.type "list",data:=.seq out.toArray n }->Q (.ref (s.heap.objs.size+1)) { s with heap:=h' }) :
  o7 (y6 prog w) A (call (.builtin "sorted") [.ref l]) Q E s:=by
 refine Calls.call_function_entry aH2 ax4 ax5 (bP9 _) ?_
 unfold ai3.«sorted»
 refine b7 (m:=aR4 "sorted" 1 1 _) (d3 ?_)
 refine b7 (collect_list hl ?_ hz)
 refine b7 (M0 ?_ hz)
 have hsz:((s.heap.push (F7 "list" #[] 0)).update s.heap.objs.size (Obj.mapSeq (·++vs.toArray))).objs.size=s.heap.objs.size+1:=by
  rw[bZ6,bB5]
 generalize hH:((s.heap.push (F7 "list" #[] 0)).update s.heap.objs.size (Obj.mapSeq (·++vs.toArray))).push (F7 "list" vs.toArray 0)=h2
 have hoL:h2.get? (s.heap.objs.size+1)=some (F7 "list" vs.toArray 0):=by
  rw[<- hH,<- hsz];exact i8 _ rfl
 have keep:∀ b o,s.heap.get? b=some o->h2.get? b=some o:=fun b o e=>by
  rw[<- hH]
  refine c5 _ ((x9 _ _ ?_).trans (c5 _ e))
  exact Ne.symm (j7 (d6 e))
 have hsz2:h2.objs.size=s.heap.objs.size+2:=by rw[<- hH,bB5,hsz]
 rw[hsz]
 have up:∀ v k,IsK prog w s.heap k v->IsK prog w h2 k v:=fun v k hk=>hk.up keep
 have kA:∀ v∈vs,Q0 prog w h2 v=Q0 prog w s.heap v:=fun v hv'=>by
  obtain⟨i,k,hk⟩:=hv v hv'
  rw[O5 hk,O5 (up v _ hk)]
 refine b7 (D3 (K1 am2 (s:={ s with heap:=h2 }) ⟨_,hoL,rfl⟩ ai6 (aA9 (s:={ s with heap:=h2 }) hoL hz h64 (fun v hv'=>?_) (fun v hv' z=>?_) fun out a1 a2=>⟨_,rfl,?_⟩) (bp3 _)))
 ·obtain⟨i,k,hk⟩:=hv v hv'
  exact⟨i,k,up v _ hk⟩
 ·obtain⟨i,k,a,rfl,o,items,n,ho,_⟩:=hv v hv'
  cases z
  exact absurd (d6 ho) (Nat.not_lt.mpr (Y9 _))
 ·have hlast:∃ n,(X0 h2 (s.heap.objs.size+1) vs out.toArray).get? (s.heap.objs.size+1)=some (F7 "list" out.toArray n):=by
   unfold X0
   have g1:=P5 hoL (fun _=>(#[]:Array c6))
   have g2:(((h2.update (s.heap.objs.size+1) (Obj.mapSeq fun _=>#[])).push (F7 "tuple" vs.toArray 0)).push (F7 "list" #[] 0)).get? (s.heap.objs.size+1)=_:=c5 _ (c5 _ g1)
   exact⟨_,P5 g2 (fun _=>out.toArray)⟩
  obtain⟨n,hn⟩:=hlast
  refine d3 ⟨_,rfl,h out _ n a1 ?_ (fun b o e=>?_) hn⟩
  ·refine List.Pairwise.imp_of_mem ?_ a2
   intro x y hx hy hxy
   rw[kA x (a1.mem_iff.mp hx),kA y (a1.mem_iff.mp hy)]at hxy
   exact hxy
  ·have hb:b≠s.heap.objs.size+1:=j7 (C0 (d6 e))
   unfold X0
   refine(x9 _ _ (Ne.symm hb)).trans (c5 _ (c5 _ ((x9 _ _ (Ne.symm hb)).trans (keep b o e))))
end
end Tim
namespace L2
open PySem PySem.Spec PyProof.Rows
section
variable {X:Cx}
theorem ag7:Q8 X (.builtin "sorted") (fun xs H Q=>∃ p ys ks,xs=[.ref p]/\SqL X.K H p ys/\C1 X.K H ys ks/\(∀ k∈ks,k≠[])/\ks.length<64 /\
  ∀ l zs ks',H l=none->ks'.Perm ks->ks'.Pairwise (fun a b=>Tim.K2 b a=false)->C1 X.K (upd H l (.lst zs)) zs ks'->Q (.ref l) (upd H l (.lst zs))):=by
 intro pins s σ H xs us Q I r h
 obtain⟨p,ys,ks,rfl,hq,ht,hne,h64,q⟩:=h
 obtain⟨u,rfl,rx⟩:=vals1 r
 cases rx
 obtain⟨its,r',pl,hz⟩:=I.list hq
 have hlen:=r'.length
 have hk:=V3 I ht r'
 have hv:∀ v∈its,∃ i k,Tim.IsK X.prog X.w s.heap (i::k) v:=fun v hv=>by
  obtain⟨j,hj⟩:=B4.mp hv
  obtain⟨k,h1,a,rfl,h2⟩:=Z5 hk hj
  cases k with
  | nil=>exact absurd rfl (hne [] (i7 h1))
  | cons i k=>exact⟨i,k,a,rfl,h2⟩
 refine Tim.aA6 pl.isList (by omega) (by have:=hk.length;omega) hv fun out h' n hp hs kp e=>?_
 obtain⟨zs,pz,rz⟩:=ab4 hp (W5 r')
 have rz':D9 zs out:=W5 rz
 have hzl:zs.length<=i9:=by rw[pz.length_eq];exact hz
 have hfr:H (s.heap.objs.size+1)=none:=I.hok.fresh (Y9 _)
 have keepS:∀ b o,H b=some o->upd H (s.heap.objs.size+1) (.lst zs) b=some o:=fun b o e=>by rw[v7 (o5 e hfr)];exact e
 refine⟨.ref (s.heap.objs.size+1),upd H (s.heap.objs.size+1) (.lst zs),I.laid (t':=s.toks) kp (Y9 _) (show N7 X.prog X.w _ h' _ (.lst zs) from ⟨hzl,out,n,rz',e⟩),rfl,?_⟩
 obtain⟨ks',pk,hk'⟩:=ab4 pz (show ac3 (fun y k=>∃ a,y=V.ref a/\SqT X.K H a (k.map V.int)) ys ks from ht)
 refine q _ zs ks' hfr pk ?_ (C1.same keepS hk')
 have hko:=V3 I (show C1 X.K H zs ks' from hk') rz'
 have eq:ks'=out.map (Tim.Q0 X.prog X.w s.heap):=by
  clear hs hp rz rz' hk' pk e
  induction hko with
  | nil=>rfl
  | cons r t ih =>
   obtain⟨a,rfl,hka⟩:=r
   rw[v8,Tim.O5 ⟨a,rfl,hka⟩,<- ih]
 rw[eq,L8]
 exact hs
end
section
variable {X:Cx} {pins:List (Addr × Obj)} {σ:St} {H:Hp} {s:c7} {A:u4} {E:c6->c7->Prop}
theorem bw8 {a kS:Addr}{vs:List c6}{zs:List Int}{keys:Array c6}{e e1:Nat}{key:Int->List Int}{P:PySem.Fin->c7->Prop}{H0:Hp}(I:Inv X pins σ H s)(hS:u9 H0 H)(hk:s.heap.get? kS=some (F7 "list" keys e))(ha:s.heap.get? a=some (F7 "list" #[] e1))
  (fk:N8 X pins H kS)(fa:N8 X pins H a)(hka:kS≠a)(hz:vs.length<=63)(hkl:keys.size=vs.length)(hi:G9 vs zs)
  (hK:ac3 (fun u k=>Tim.IsK X.prog X.w s.heap k u) keys.toList (zs.map key))(hne:∀ z,∃ i k,key z=i::k)(h:aQ5 X pins σ H0 a zs key P) :
  o7 (y6 X.prog X.w) A (ksk_end a false vs.toArray e1 (.ref kS) keys) P E s:=by
 obtain⟨k1,k2⟩:=aD7 hK hi
 have hzt:=ksk_zip keys vs
 unfold ksk_end
 dsimp only
 simp only[o6,if_false]
 by_cases h2:vs.toArray.size<2
 ·rw[if_pos h2,if_pos h2]
  refine b7 (d3 ?_)
  rw[StateT.run_pure]
  refine b7 (d3 ?_)
  refine aV8 (st:=SortSt.mk' general' (keys.zip vs.toArray) #[] 7 none) I hS hk ha fk fa hka (by omega) hkl hi hK (Array.Perm.refl _) rfl ?_ h
  show (keys.zip vs.toArray).toList.Pairwise _
  rw[D6]
  intro i j hi hj hij
  rw[p0,aY9,hkl]at hj
  rw[d5]at h2 hj
  omega
 ·rw[if_neg h2,if_neg h2]
  rw[d5]at h2
  have hmemK:∀ v∈keys.toList,∃ i k,Tim.IsK X.prog X.w s.heap (i::k) v:=fun v hv=>by
   obtain⟨j,hj⟩:=B4.mp hv
   obtain⟨k,q1,q2⟩:=Z5 hK hj
   obtain⟨z,_,rfl⟩:=u6.mp (i7 q1)
   obtain⟨i,k',ek⟩:=hne z
   rw[ek]at q2
   exact⟨i,k',q2⟩
  have kk:keyKind' keys=keyKind' keys.toList.toArray:=by rw[aa6]
  rw[kk]
  refine b7 (Tim.aD6 (vs:=keys.toList) (by rw[p0,hkl];omega) hmemK ?_)
  refine b7 (E3 (Tim.aI6 (a₀:=keys.zip vs.toArray) (κ:=bC9 true) (O:=Tim.bb4) (f:=fun p=>Tim.Q0 X.prog X.w s.heap p.1) (st:=SortSt.mk' (bC9 true) (keys.zip vs.toArray) #[] 7 none)
   (Q:=fun _ st'=>(t7 st').Perm (keys.zip vs.toArray)/\aa8 st'=none/\(t7 st').toList.Pairwise (Tim.le (Tim.Bf (O:=Tim.bb4) fun p=>Tim.Q0 X.prog X.w s.heap p.1))) ?_ ([]:List Int) (by rw[aY9,hkl,d5];omega) (Array.Perm.refl _) rfl rfl rfl fun st' a1 a2 a3=>⟨a1,a2,a3⟩) ?_ fun _ _ e=>e)
  ·intro x y hx hy Q hq
   rw[hzt]at hx hy
   refine Tim.aV5 (k1 x hx) (k1 y hy) ?_
   rw[<- Tim.O5 (k1 x hx),<- Tim.O5 (k1 y hy)]
   exact hq
  ·rintro⟨⟨⟩,st'⟩ s' ⟨rfl,hp,hf,hs⟩
   exact aV8 I hS hk ha fk fa hka (by omega) hkl hi hK hp hf hs h
theorem bm7 {a kS:Addr}{f:c6}{vs:List c6}{zs:List Int}{e1:Nat}{key:Int->List Int}{P:PySem.Fin->c7->Prop}(I:Inv X pins σ H s)(hk:s.heap.get? kS=some (F7 "list" #[] 0))(ha:s.heap.get? a=some (F7 "list" #[] e1))
  (fk:N8 X pins H kS)(fa:N8 X pins H a)(hka:kS≠a)(hz:vs.length<=63)(hi:G9 vs zs)(hne:∀ z,∃ i k,key z=i::k)(turn:∀ z∈zs,aQ4 X A σ H f key z)(h:aQ5 X pins σ H a zs key P) :
  o7 (y6 X.prog X.w) A (ksk_rest a f false vs.toArray e1 (.ref kS)) P E s:=by
 have hlen:=hi.length
 unfold ksk_rest
 refine b7 (ah3 ?_)
 first
  | rw[List.forIn_toArray]
  | (rw[<- ah1];simp only[ae8])
  | rw[<- ah1]
 refine b7 (ksk_fold (fun i s'=>∃ (kA:Array c6) (e:Nat) (H':Hp) (ys:List V),Inv X pins σ H' s'/\u9 H H'/\s'.heap.get? kS=some (F7 "list" kA e)/\s'.heap.get? a=some (F7 "list" #[] e1)/\N8 X pins H' kS/\N8 X pins H' a /\
   D9 ys kA.toList/\C1 X.K H' ys ((zs.take i).map key)) vs 0 s ⟨#[],0,H,[],I,u9.refl H,hk,ha,fk,fa,.nil,.nil⟩ ?step ?done)
 case step =>
  rintro j x s' hx ⟨kA,e,H',ys,I',hS,hk',ha',fk',fa',hv,ht⟩
  simp only[ai7]at ht ⊢
  have hj:j<vs.length:=(m8.mp hx).1
  obtain⟨z,t,hzj,rfl⟩:=bx7 hi hx
  have hzA:kA.size<=vs.length:=by
   have h1:ys.length=kA.size:=by rw[<- p0];exact hv.length
   have h2:=ht.len
   rw[b9,o4]at h2
   omega
  have Ip:=I'.pinned (fp:=[kS,a]) (fun b hb=>by
   rcases g6.mp hb with rfl | hb
   ·exact fk'
   ·rw[B7.mp hb];exact fa') (fun b hb=>by
   rcases g6.mp hb with rfl | hb
   ·exact⟨_,hk',fun v q=>by cases q⟩
   ·rw[B7.mp hb];exact⟨_,ha',fun v q=>by cases q⟩)
  refine b7 (aM3 (E3 (turn z (i7 hzj) t _ s' H' Ip hS) (fun v s'' he=>?_) fun _ _ hF=>hF.elim))
  obtain⟨k,H'',rfl,hk'',I'',hS'⟩:=he
  obtain⟨nk,fk0⟩:=by3 I'' i5 hk'
  obtain⟨na,fa0⟩:=by3 I'' (d7 _ i5) ha'
  have Iu:=I''.unpinned
  have fk'':N8 X pins H'' kS:=fk'.to fk0
  have fa'':N8 X pins H'' a:=fa'.to fa0
  have s1:=Heap.SameBut.update s''.heap kS (Obj.mapSeq (·.push (.ref k)))
  obtain⟨c2,hc2⟩:∃ c2,(s''.heap.update kS (Obj.mapSeq (·.push (Value.ref k)))).get? kS=some (F7 "list" (kA.push (.ref k)) c2):=⟨_,P5 nk (·.push (.ref k))⟩
  have ea:(kA.push (Value.ref k)).toList=kA.toList++[Value.ref k]:=by simp
  have ek:zs.take (j+1)=zs.take j++[z]:=by rw[C3,hzj];simp
  refine b7 (af5 nk rfl ?_ (by rw[E4];omega) (A4 (at6 (aQ9 ..)) (by rw[E4];omega)))
  refine d3 ⟨rfl,kA.push (.ref k),c2,H'',ys++[.ref k],?_,hS.trans hS',hc2,(s1.2 a hka.symm).trans na,fk'',fa'',?_,?_⟩
  ·exact Iu.turn (t':=s''.toks) fk'' fun b o hb q=>(s1.2 b hb).trans q
  ·rw[ea]
   exact hv.append (.cons rfl .nil)
  ·rw[ek,j9]
   exact C1.append (C1.same hS' ht) (.cons ⟨k,rfl,.of hk''⟩ .nil)
 case done =>
  rintro s' ⟨kA,e,H',ys,I',hS,hk',ha',fk',fa',hv,ht⟩
  have e3:zs.take (0+vs.length)=zs:=k8 (by omega)
  rw[e3]at ht
  refine b7 (bQ0 hk' rfl ?_)
  have h1:ys.length=kA.size:=by rw[<- p0];exact hv.length
  have h2:=ht.len
  rw[b9]at h2
  have hK:=V3 I' ht hv
  exact bw8 I' hS hk' ha' fk' fa' hka hz (by omega) hi (aC6 (fun u k q=>q) hK) hne h
theorem bm6 {a:Addr}{f:c6}{vs:List c6}{zs:List Int}{n:Nat}{key:Int->List Int}{P:PySem.Fin->c7->Prop}(I:Inv X pins σ H s)(ha:s.heap.get? a=some (F7 "list" vs.toArray n))
  (fa:N8 X pins H a)(hz:vs.length<=63)(hi:G9 vs zs)(hne:∀ z,∃ i k,key z=i::k)(turn:∀ z∈zs,aQ4 X A σ H f key z)(h:aQ5 X pins σ H a zs key P) :
  o7 (y6 X.prog X.w) A (ksk_tree a f false) P E s:=by
 have hlt:a<s.heap.objs.size:=d6 ha
 have s1:=Heap.SameBut.update s.heap a (Obj.mapSeq fun _=>(#[]:Array c6))
 obtain⟨e1,ho1⟩:∃ e1,(s.heap.update a (Obj.mapSeq fun _=>(#[]:Array c6))).get? a=some (F7 "list" #[] e1):=⟨_,P5 ha fun _=>#[]⟩
 have I1:Inv X pins σ H { s with heap:=s.heap.update a (Obj.mapSeq fun _=>(#[]:Array c6)),toks:=s.toks }:=I.turn fa fun b o hb q=>(s1.2 b hb).trans q
 unfold ksk_tree
 refine b7 (bQ0 ha rfl ?_)
 refine b7 (af5 ha rfl ?_ (by rw[d5,E4];omega) (y9 _))
 refine b7 (bk0 ho1 rfl ?_)
 refine b7 (bp4 ?_ (by show vs.length<=_;rw[E4];omega))
 refine b7 (M0 ?_ (y9 _))
 refine D3 ?_
 generalize hh2:(s.heap.update a (Obj.mapSeq fun _=>(#[]:Array c6))).push (F7 "tuple" vs.toArray 0)=h2
 have hsz:h2.objs.size=s.heap.objs.size+1:=by rw[<- hh2,bB5,bZ6]
 have I2:Inv X pins σ H { s with heap:=h2,toks:=s.toks }:=I1.kept (t':=s.toks) fun b o q=>by rw[<- hh2];exact c5 _ q
 have I3:Inv X pins σ H { s with heap:=h2.push (F7 "list" #[] 0),toks:=s.toks }:=I2.kept (t':=s.toks) fun b o q=>c5 _ q
 have fk:N8 X pins H h2.objs.size:=I2.fpOk (d4 _) (I2.hok.fresh (d4 _))
 refine bm7 (s:={ s with heap:=h2.push (F7 "list" #[] 0),toks:=s.toks }) (kS:=h2.objs.size) (e1:=e1) I3 (i8 _ rfl) ?_ fk fa (by rw[hsz];exact K7 (C0 hlt)) hz hi hne turn h
 refine c5 _ ?_
 rw[<- hh2]
 exact c5 _ ho1
theorem aS6 {r q:Addr}{n:Nat}{key:Int->List Int}{Q:c6->c7->Prop}(I:Inv X pins σ H s)(hh:A.handled=none)(hr:∃ t u v,IsRange s.heap r 0 n 1 t u v)(hn:n<=63)(hne:∀ z,∃ i k,key z=i::k)
  (turn:∀ z∈(Y5 0 n).map (fun k:Nat=>(k:Int)),aQ4 X A.in1.in1 σ H (.ref q) key z)
  (h:∀ (H':Hp) (s':c7) (D:Addr) (zs:List Int),u9 H H'->H' D=none->zs.Perm ((Y5 0 n).map fun k:Nat=>(k:Int))->zs.Pairwise (fun x y=>Tim.K2 (key y) (key x)=false)->Inv X pins σ (upd H' D (.lst (zs.map V.int))) s'->Q (.ref D) s') :
  o7 (y6 X.prog X.w) A (call (.builtin "sorted") [.ref r] [(Str.ofString "key",.ref q)]) Q E s:=by
 obtain⟨t,u,v,hr⟩:=hr
 refine bL9 aH2 ax4 ax5 (ksk_s1 _ _) ?_
 unfold ai3.«sorted»
 refine b7 (m:=aR4 "sorted" 1 1 _) (d3 ?_)
 refine b7 (aX4 (A:=A.in1) hh hr (A4 hn (by decide)) fun h1 tk vs kp hi=>?_)
 have hlen:=hi.length
 rw[b9,W9]at hlen
 have I1:Inv X pins σ H { s with heap:=h1,toks:=tk }:=I.kept kp
 refine b7 (M0 ?_ (by rw[E4];omega))
 have fD:N8 X pins H h1.objs.size:=I1.fpOk (d4 _) (I1.hok.fresh (d4 _))
 have I2:Inv X pins σ H { s with heap:=h1.push (F7 "list" vs.toArray 0),toks:=tk }:=I1.kept (t':=tk) fun b o q=>c5 _ q
 have hoL:(h1.push (F7 "list" vs.toArray 0)).get? h1.objs.size=some (F7 "list" vs.toArray 0):=i8 _ rfl
 refine b7 (D3 (ca1 am2 (s:={ s with heap:=h1.push (F7 "list" vs.toArray 0),toks:=tk }) ⟨_,hoL,rfl⟩ ai6 ?body (ksk_l1 _ _)))
 show o7 (y6 X.prog X.w) A.in1.in1 (ai3.«list.sort» ⟨[.ref h1.objs.size],[(Str.ofString "key",.ref q)]⟩) _ _ _
 rw[ksk_t1]
 refine bm6 I2 hoL fD (by omega) hi hne turn fun H' s' out zs' c I' hS fa' hout hi' hp hs=>⟨_,rfl,?_⟩
 have hl2:zs'.length<=63:=by rw[hp.length_eq,b9,W9];exact hn
 refine d3 ⟨_,rfl,h H' s' h1.objs.size zs' hS fa'.1 hp hs ?_⟩
 have:=I'.take (t':=s'.toks) (h':=s'.heap) (o:=.lst (zs'.map V.int)) fa' (fun b u _ q=>q) ⟨by rw[b9,E4];omega,out,c,ad1 hi',hout⟩
 exact this
end
def bE4 (P:Addr)(lpos:Pos)(qual:Str)(lk:List (Option Nat))(te:TE)(tr:TA):TE:=fun σ H Q=>tr σ H fun vs H1=>∃ (r:Addr) (n:Nat) (key:Int->List Int),vs=[.ref r]/\H1 r=some (.rng 0 n)/\n<=63/\(∀ z,∃ i k,key z=i::k)/\S6 P lpos qual H1 /\
 ∀ H2,S0 P H1 H2->S6 P lpos qual H2->(∀ (H3:Hp) (z:Nat),u9 H2 H3->z<n->te (some (.int z)::ac9 lk σ) H3 fun v H4=>∃ k,v=.ref k/\H4 k=some (.tup ((key z).map V.int))/\u9 H3 H4) /\
  ∀ (H':Hp) (D:Addr) (zs:List Int),u9 H2 H'->H' D=none->zs.Perm ((Y5 0 n).map fun k:Nat=>(k:Int))->zs.Pairwise (fun x y=>Tim.K2 (key y) (key x)=false)->Q (.ref D) (upd H' D (.lst (zs.map V.int)))
section
variable {X:Cx}
theorem bl3 {e body:Expr}{p:Str}{np pos lpos kpos:Pos}{params:an9}{scope:R8}{c P:Addr}{cl:List (Str × Addr)}{N':List Str}{lk:List (Option Nat)}{te:TE}{tr:TA}(hc:X.calm=true)(hd:X.A.depth<aG1)(hg:Gl X "sorted")(hm:X.mg "sorted"=none)(ha:PA X [e] tr)
  (B:as4 X.base X.mg c P)(hcode:X.env.code=.ref c)(hcl:ay3 scope X.env=pure cl)(hdef:defaultsOf params X.env=([],[]))(hkind:scope.kind=.function)(hco:scope.isCoroutine=false)(hgen:scope.isGenerator=false)(hclo:ay2 X.env cl)(hfr:am9 scope.names cl=true)(hlk:aL4 X N' lk scope cl)
  (hp:scope.names.lookup p=some .local)(hbind:∀ (pm ctv u:c6) (c':Addr),bC2 (PySem.W.kla_fn "<lambda>" (X.env.qual++"<lambda>") params body scope cl pm (.ref c') ctv) ⟨[u],[]⟩=pure [(p,u)])
  (he:∀ f c' s3 H3,PE (bw3 X X.A.in1.in1 (X.env.qual++"<lambda>") scope cl (p::N') f (.ref c') s3 H3) body te)
  (hs:S7 pos (A2 [e] X.env)=(false,eval e X.env)::S7 pos (A2 [] X.env):=by rfl)
  (hpl:(S7 pos (A2 [e] X.env)).any (·.1)=false:=by rfl) :
  PE X (.Call (.Name "sorted" np) [e] [⟨some "key",.Lambda params body scope lpos,kpos⟩] pos) (bE4 P lpos (X.env.qual++"<lambda>") lk te tr):=by
 intro pins s σ H Q I h
 refine J5 (V8 I hg hm (show M5 "sorted"=some (.builtin "sorted") from rfl) ?_ (by decide) (by decide))
 refine ca2 (thn (ha pos pins s σ H _ I h) fun us s1 ⟨vs,H1,I1,r1,q1⟩=>?_) hs hpl rfl rfl
 obtain⟨r,n,key,rfl,hr,hn,hne,tb,q⟩:=q1
 have hk:PK X [⟨some "key",.Lambda params body scope lpos,kpos⟩] (aS4 (cb5 P lpos (X.env.qual++"<lambda>") params body scope cl ((X.mg "__name__").getD .none)) bp9):=aO0 (bt4 B hcode hcl hdef) ba7
 refine thn (hk pos pins s1 σ H1 (fun zs H2=>∃ f c' ctv,zs=[.ref f]/\S0 P H1 H2/\S6 P lpos (X.env.qual++"<lambda>") H2/\H2 f=some (Q7 f (PySem.W.kla_obj "<lambda>" (X.env.qual++"<lambda>") params body scope cl ((X.mg "__name__").getD .none) c' ctv))/\H2 c'=some (ax1 c' (X.env.qual++"<lambda>"))) I1
  ⟨tb,fun f c' ctv H2 g1 g2 g3 g4 g5=>⟨f,c',ctv,rfl,g1,g2,g4,g5⟩⟩) fun ws s2 ⟨zs,H2,I2,r2,f,c',ctv,ez,g1,g2,g4,g5⟩=>?_
 subst ez
 obtain⟨w,rfl,rw⟩:=vals1 r2
 obtain⟨u,rfl,ru⟩:=vals1 r1
 cases rw
 cases ru
 obtain⟨wish,fin⟩:=q H2 g1 g2
 have rP:r≠P:=fun z=>by
  obtain⟨ps,hP,_⟩:=tb
  rw[z,hP]at hr
  cases hr
 have hr2:H2 r=some (.rng 0 n):=g1 r _ rP hr
 obtain⟨t1,t2,t3,hro⟩:=I2.hok r _ hr2
 have hh:X.A.handled=none:=I.ok.hd hc
 refine aS6 (n:=n) (key:=key) I2 hh ⟨t1,t2,t3,hro⟩ hn hne (fun z hz=>?_) fun H' s' D zs' a1 a2 a3 a4 I'=>⟨.ref D,_,I',rfl,fin H' D zs' a1 a2 a3 a4⟩
 obtain⟨k,hk',rfl⟩:=u6.mp hz
 have hkn:k<n:=by
  have:=aI3.mp hk'
  omega
 intro t pins' s3 H3 I3 sm
 have ho:s3.heap.get? f=some (PySem.W.kla_obj "<lambda>" (X.env.qual++"<lambda>") params body scope cl ((X.mg "__name__").getD .none) c' ctv):=(I3.hok f _ (sm _ _ g4)).1
 have hcd:s3.heap.CodeRec (.ref c') (X.env.qual++"<lambda>"):=(I3.hok c' _ (sm _ _ g5)).1
 refine E3 (bw2 (A:=X.A.in1.in1) (v:=.int k) (u:=.int k t) I3 I3.ok.frames hh hd ho hcd (hbind _ _ _ _) hkind hco hgen hclo hfr hlk hp ⟨t,rfl⟩ (he f c' s3 H3) (wish H3 k sm hkn)) (fun u' s' hq=>?_) fun _ _ z=>z
 obtain⟨v',H',J,r',kk,rfl,hkk,sm'⟩:=hq
 cases r'
 exact⟨kk,H',rfl,hkk,J,sm'⟩
end
end L2
namespace HT
open PySem PyProof.Rows
theorem bs5 (A:u4)(s:c7)(a:Int)(t:Tok)(c:Int)(u:Tok)(prog:j8)(w:x6)(E:c6->c7->Prop)(Q:c6->c7->Prop)(h:Q (.bool (decide (a<=c))) s) :
  o7 (y6 prog w) A (richCompare .LtE (.int a t) (.int c u)) Q E s:=
 (PyProof.Rows.le_int h:o7 (y6 prog w) A (G2 .LtE (.int a t) (.int c u)) Q E s)
section
open PySem.SeqAt
open PySem.AutoSeq1 (wpAny_loadPart')
open PySem.MeetsSeq PySem.MeetsSeq2 PySem.MeetsSeq3
theorem aH3 (l b:Addr) (items items2:Array c6) (n n2:Nat) (dd dd2:Option Addr) (sl sl2:Array (Option c6)) (ns ms:List Int) (hi:G9 items.toList ns) (hj:G9 items2.toList ms) (hlm:ns.length=ms.length) :
  Meets (ai3.«tuple.__le__» ⟨[.ref l,.ref b],[]⟩)
   (fun _ R s => s.heap.get? l = some { cls := .type "tuple", dict := dd, data := .seq items n, slots := sl } /\ s.heap.get? b = some { cls := .type "tuple", dict := dd2, data := .seq items2 n2, slots := sl2 } /\
    R (.ok (.ret (.bool (!lexLt ms ns)))) s):=
 .of_wp fun prog w A R s h=>by
  obtain⟨hp,g,d,tk,os⟩:=s;obtain⟨hl,hb,h⟩:=h
  have f2:=AutoSeq1.sub_tuple_tuple
  have z1:items.size=ns.length:=by rw[<- hi.length];simp
  have z2:items2.size=ms.length:=by rw[<- hj.length];simp
  wp_walk using wpAny_loadPart' hl,wpAny_loadPart' hb,at4 _ (fun rest b s'=>b.1=none/\s'=⟨hp,g,d,tk,os⟩/\∃ (vs ws:List c6) (ns' ms':List Int),rest=vs.zip ws /\
   G9 vs ns'/\G9 ws ms'/\ns'.length=ms'.length/\R (.ok (.ret (.bool (!lexLt ms' ns')))) ⟨hp,g,d,tk,os⟩) _
  case turn =>
   rintro⟨y,x⟩ rest b s' ⟨hb',rfl,vs,ws,ns',ms',hz,hvi,hwi,hlen,hR⟩
   cases hvi with
   | nil=>rw[List.zip_nil_left]at hz;cases hz
   | cons a t hvi' =>
    cases hwi with
    | nil=>rw[List.zip_nil_right]at hz;cases hz
    | cons c u hwi' =>
     rw[W8]at hz
     injection hz with hyx hrest
     injection hyx with hy hx
     subst hy hx
     rw[ag5]at hR
     simp only[A1]at hlen
     obtain⟨e,he,hiff⟩:=bz1 A.in1 ⟨hp,g,d,tk,os⟩ a t c u
     refine b7 (he prog w _ _ ?_)
     cases e with
     | true =>
      rw[if_pos (hiff.mp rfl).symm]at hR
      wp_walk
      exact⟨rfl,rfl,_,_,_,_,hrest,hvi',hwi',by omega,hR⟩
     | false =>
      rw[if_neg (fun q=>absurd (hiff.mpr q.symm) k9)]at hR
      have hri:=bs5 A.in1 ⟨hp,g,d,tk,os⟩ a t c u prog w
      wp_walk using hri
      refine⟨_,rfl,?_⟩
      have e2:decide (a<=c)=!decide (c<a):=by
       by_cases q:c<a
       ·rw[decide_eq_true q,decide_eq_false (by omega)];rfl
       ·rw[decide_eq_false q,decide_eq_true (by omega)];rfl
      simpa [e2] using hR
  case fin =>
   rintro⟨b1,b2⟩ s' ⟨hb',rfl,vs,ws,ns',ms',hz,hvi,hwi,hlen,hR⟩
   simp only at hb'
   subst hb'
   have hv:lexLt ms' ns'=false:=by
    cases hvi with
    | nil =>
     cases hwi with
     | nil=>rfl
     | cons _ _ _=>simp at hlen
    | cons _ _ _ =>
     cases hwi with
     | nil=>simp at hlen
     | cons _ _ _=>rw[W8]at hz;cases hz
   rw[hv]at hR
   wp_walk
   refine⟨_,rfl,?_⟩
   simpa [z1,z2,hlm,Builtin.Tuple.tupleCompareSizes] using hR
  exact⟨rfl,rfl,_,_,_,_,rfl,hi,hj,hlm,h⟩
end
end HT
namespace L2
open PySem PySem.Spec PyProof.Rows
section
variable {X:Cx}
def ci2 (K:W.Frag):R2:=fun x y H Q=>∃ a b ns ms,x=.ref a/\y=.ref b/\SqT K H a (ns.map V.int)/\SqT K H b (ms.map V.int)/\ns.length=ms.length/\Q (.bl (!HT.lexLt ms ns)) H
theorem bT4 (hu:X.A.units<ap5):OpR X (G2 .LtE) (ci2 X.K):=by
 intro pins s σ H x y v u Q I rx ry h
 obtain⟨a,b,ns,ms,rfl,rfl,ha,hb,hl,q⟩:=h
 cases rx
 cases ry
 obtain⟨its,r1,p1,_⟩:=I.tuple ha
 obtain⟨its2,r2,p2,_⟩:=I.tuple hb
 have i1:G9 its.toArray.toList ns:=intsAre_of r1
 have i2:G9 its2.toArray.toList ms:=intsAre_of r2
 obtain⟨⟨cls,dd,data,sl⟩,ho,hc,n,hd⟩:=id p1
 obtain⟨⟨cls2,dd2,data2,sl2⟩,ho2,hc2,n2,hd2⟩:=id p2
 simp only at hc hd hc2 hd2
 subst hc hd hc2 hd2
 exact richCompare_meets_room (op:=.LtE) ⟨_,ho,rfl⟩ ⟨_,ho2,rfl⟩ PySem.F.slot_tuple_le PySem.F.entry_tuple_le (PySem.F.args_tuple_le_2 _ _) (HT.aH3 a b its.toArray its2.toArray n n2 dd dd2 sl sl2 ns ms i1 i2 hl)
  ⟨ho,ho2,show Value.bool (!HT.lexLt ms ns)≠Value.notImplemented/\_ from ⟨(fun x=>nomatch x),⟨.bl (!HT.lexLt ms ns),H,I,rfl,q⟩⟩⟩ hu
end
def cd5:R2:=fun x y H Q=>∃ l b xs zs,x=.ref l/\y=.ref b/\H l=some (.lst xs)/\H b=some (.lst zs)/\xs.length+zs.length<=1000/\Q (.ref l) (upd H l (.lst (xs++zs)))
theorem bb9:fillsInplaceSlot (.type "list") "add" true=pure false:=by
 unfold fillsInplaceSlot
 show (typeLookup (.type "list") (dunderI "add") >>= fun fi=>pure (fi.isSome && !isSeqSlot fi))=pure false
 rw[F.slot_list_iadd.lookup]
 rw[pure_bind]
 congr 1
theorem bn0:seqSlot? (.type "list") (dunderI "add")=pure (some (.builtin "list.__iadd__")):=by
 unfold seqSlot?
 rw[F.slot_list_iadd.lookup]
 rfl
section
variable {X:Cx}
theorem bW1:PIp X .Add cd5:=by
 intro pins s σ H x y v u Q I rx ry h
 obtain⟨l,b,xs,zs,rfl,rfl,hH,hB,hz,q⟩:=h
 cases rx
 cases ry
 obtain⟨z,its,n,r,hl,e⟩:=I.lstM hH
 obtain⟨z2,its2,n2,r2,hl2,e2⟩:=I.lstM hB
 have hln:=r.length
 have hln2:=r2.length
 unfold inplaceOp
 refine D3 ?_
 refine b7 (ak5 (T:="list") ⟨_,e,rfl⟩ (b7 (bk2 bb9 ?_)))
 show o7 _ _ (if false=true then _ else _) _ _ s
 rw[if_neg k9]
 refine b7 (wpAny_binaryOp1_none (a:=.ref l) (b:=.ref b) (s:=s) (nm:="add") (T:="list") ⟨_,e,rfl⟩ ⟨_,e2,rfl⟩ noFill_list_add ?_)
 refine b7 (bk2 bn0 ?_)
 refine b7 (ah3 ?_)
 have hd:¬(!its.toArray.isEmpty && Builtin.List.listTooLong (its.toArray.size+its2.toArray.size))=true:=extend_door (by rw[d5,d5,E4];omega)
 refine aR3 F.slot_list_iadd ⟨_,e,rfl⟩ F.entry_list_iadd (F.args_list_iadd_2 _ _) (PySem.AutoSeq1.list___iadd___list_list_0 l its.toArray n b its2.toArray n2 hd (by rw[d5,E4];omega) (by rw[d5,d5,E4];omega)) ⟨e,e2,?_⟩
 refine⟨.ref l,_,I.lset (its':=its++its2) hH e ?_ (r.append r2) ?_,rfl,q⟩
 ·show its.toArray++its2.toArray=_
  simp
 ·rw[p6,E4];omega
end
section
variable {M:Model} {A:u4} {Er:c6->c7->Prop} {s:c7}
theorem bb6 {B:Heap}{env:Env}{outer:List Env}{L e:Addr}{cls a0 fl:c6}{Q:Unit->c7->Prop}(hfr:A.frames=some (env::outer))(hf:env.frame=some L)(h1:B.StaysIn s.heap)(h2:B.get? e=none)(h3:s.heap.FunFrames B (env::outer))(h4:s.heap.TracedAtW B e cls a0 fl)
  (hQ:∀ h',Heap.FlyingW B outer e cls a0 h'->s.heap.UpToSlots h'->Q () { s with heap:=h' }):o7 M A (leaving env (.ref e)) Q Er s:=by
 by_cases hfl:fl=ac4 L
 ·subst hfl
  unfold leaving
  refine b7 (wpAny_noteFrame_againW hf h4 (wpAny_landsW (L:=L) ⟨h1,h2,h3,h4⟩ fun h' x1 x2=>hQ h' ⟨x1.1,x1.2.1,x1.2.2.1.2.2,x1.2.2.2⟩ x2))
 ·obtain⟨oe,vs,T,oT,ts,he,⟨hcl,h0⟩,hd,e1,nT,Te,hT,dT,e3⟩:=h4
  subst hcl
  have oth:∀ b,b≠T->(s.heap.update T (Obj.mapFields (·.setIfInBounds 3 Value.none))).get? b=s.heap.get? b:=fun b z=>x9 _ _ (Ne.symm z)
  have noT:∀ b o,s.heap.get? b=some o->(∀ vs,o.data≠.fields vs)->b≠T:=fun b o q n z=>by
   rw[z,hT]at q
   cases q
   exact n ts dT
  unfold leaving ax3
  rw[hf]
  refine b7 (b7 (E5 he hd e1 ?_))
  rw[if_pos (by simp:(Value.ref T != Value.none)=true)]
  refine b7 (E5 hT dT e3 ?_)
  rw[if_neg (by simpa using hfl)]
  refine b7 (aG3 hT dT (af2.mp e3).1 ?_)
  refine wpAny_newEntryW hfr (h3.of_keeps fun b o q n=>⟨o,by rw[oth b (noT b o q n)];exact q,rfl⟩) hf (by rw[oth e (Ne.symm Te)];exact he) (fun b o q=>?_) h2 hd (af2.mp e1).1 h0 fun h' y=>?_
  ·rw[oth b (fun z=>by rw[z,nT]at q;cases q)]
   exact h1 b o q
  ·obtain⟨y1,y2,y3,y4⟩:=y
   exact hQ h' ⟨y1,h2,y2.2.2,y3⟩ fun b o q n=>y4 b o (by show (s.heap.update T _).get? b=_;rw[oth b (noT b o q n)];exact q) n
end
theorem aw9 {h h' B B':Heap}:∀ {l:List Env},(∀ b∈frs l,B.get? b=none->B'.get? b=none)->(∀ b∈frs l,∀ o,h.get? b=some o->(∀ vs,o.data≠.fields vs)->∃ o',h'.get? b=some o'/\∀ vs,o'.data≠.fields vs)->h.FunFrames B l->h'.FunFrames B' l
 | [],_,_,_=>trivial
 | env::r,k1,k2,⟨hk,⟨L,o,hf,hn,ho,hd⟩,hr⟩=>by
  have hL:L∈frs (env::r):=by unfold frs;rw[G5,hf];exact i5
  obtain⟨o',ho',hd'⟩:=k2 L hL o ho hd
  have up:∀ b∈frs r,b∈frs (env::r):=fun b hb=>by unfold frs;rw[G5,hf];exact d7 _ hb
  exact⟨hk,⟨L,o',hf,k1 L hL hn,ho',hd'⟩,aw9 (fun b hb=>k1 b (up b hb)) (fun b hb=>k2 b (up b hb)) hr⟩
def CXA (P:j8)(w:x6)(stack:List Env)(H:Hp)(s:c7)(E:XK)(e:c6)(s':c7):Prop:=
 ∃ x cls H2 fl,e=.ref x/\s'.os=s.os/\ap3 s'.gens/\Un (frs stack) [] H H2 s.heap s'.heap/\HOk P w H2 s'.heap/\s.heap.get? x=none/\H2 x=none /\
  (∃ B a0,(B.StaysIn s'.heap/\B.get? x=none/\s'.heap.FunFrames B stack/\s'.heap.TracedAtW B x cls a0 fl)/\∀ b o,s'.heap.get? b=some o->(H2 b≠none\/s.heap.get? b≠none)->b∉frs stack->B.get? b=some o)/\E cls none H2
section
variable {P:j8} {w:x6} {K:W.Frag} {mg:Str->Option c6} {base:Heap} {N:List Str} {qual:Str} {scope:R8} {f:Addr} {cd:c6} {A:u4} {outer:List Env} {s:c7} {H:Hp} {E:XK}
 {pins:List (Addr × Obj)} {σ:St} {H1:Hp} {s1:c7}
theorem cd9 {e:c6}{s2:c7}(I:Inv (Z8 (CXE P w) P w K mg base N qual scope f cd A outer s H E) pins σ H1 s1)(hc:CXA P w (Z8 (CXE P w) P w K mg base N qual scope f cd A outer s H E).stack H1 s1 E e s2):(Z8 (CXE P w) P w K mg base N qual scope f cd A outer s H E).xe e s2:=by
 obtain⟨x,cls,H2,fly,rfl,hos,hb2,u,hok,new,hxn,⟨B,a0,⟨k1,k2,k3,k4⟩,st⟩,hE⟩:=hc
 have hst:=I.stack
 have hfr:=I.ok.frames
 have hL:=I.free
 have hbs:Un (frs outer) [] H H1 s.heap s1.heap:=I.base
 change s1.heap.FunFrames base (J6 qual scope s.heap.objs.size f cd::outer) at hst
 change (A.deeper (J6 qual scope s.heap.objs.size f cd)).frames=some (J6 qual scope s.heap.objs.size f cd::outer) at hfr
 change H1 s.heap.objs.size=none at hL
 change Un (frs (J6 qual scope s.heap.objs.size f cd::outer)) [] H1 H2 s1.heap s2.heap at u
 change s2.heap.FunFrames B (J6 qual scope s.heap.objs.size f cd::outer) at k3
 have hff:frs (J6 qual scope s.heap.objs.size f cd::outer)=s.heap.objs.size::frs outer:=aE4 rfl
 have st':∀ b o,s2.heap.get? b=some o->(H2 b≠none\/s1.heap.get? b≠none)->b∉frs (J6 qual scope s.heap.objs.size f cd::outer)->B.get? b=some o:=st
 rw[hff]at u st'
 have hLo:∃ o,s1.heap.get? s.heap.objs.size=some o:=by
  obtain⟨m,⟨o,_,_,ho,_⟩,_⟩:=I.loc
  exact⟨o,ho⟩
 have hL2:H2 s.heap.objs.size=none:=by
  obtain⟨o,ho⟩:=hLo
  exact u.free _ o ho hL (by simp)
 have old:∀ b,(H2 b≠none\/s.heap.get? b≠none)->b∉frs outer->∃ o,s2.heap.get? b=some o/\B.get? b=some o:=fun b hb hno=>by
  have hne:b≠s.heap.objs.size:=by
   rcases hb with z | z
   ·intro q;rw[q]at z;exact z hL2
   ·obtain⟨o,z⟩:=L1 z
    exact j7 (d6 z)
  have hm:b∉s.heap.objs.size::frs outer:=fun hm=>by
   rcases g6.mp hm with q | q
   ·exact hne q
   ·exact hno q
  rcases hb with z | z
  ·obtain⟨o,z'⟩:=L1 z
   obtain⟨o',ho⟩:=(hok b o z').there
   exact⟨o',ho,st' b o' ho (.inl z) hm⟩
  ·obtain⟨o,z⟩:=L1 z
   obtain⟨o1,h1⟩:=hbs.there b o z (by simp)
   obtain⟨o2,h2⟩:=u.there b o1 h1 (by simp)
   exact⟨o2,h2,st' b o2 h2 (.inr (by rw[h1];simp)) hm⟩
 have u2:Un (frs outer) [] H H2 s.heap s2.heap:=by
  refine⟨fun b o e n hb hx=>?_,fun b o e n hb hx=>?_,fun b o e n hx=>?_,fun b o e hx=>?_,fun b xs e=>u.tups b xs (hbs.tups b xs e),fun b o v e=>u.frzs b o v (hbs.frzs b o v e),fun b ps e=>?_⟩
  ·refine u.keep b o (hbs.keep b o e n hb hx) (hbs.free b o e n hx) (fun hm=>?_) hx
   rcases g6.mp hm with q | q
   ·exact j7 (d6 e) q
   ·exact hb q
  ·obtain⟨sl,e1⟩:=hbs.slot b o e n hb hx
   obtain⟨sl2,e2⟩:=u.slot b _ e1 (hbs.free b o e n hx) (d7 _ hb) hx
   exact⟨sl2,e2⟩
  ·obtain⟨o',e1⟩:=hbs.there b o e hx
   exact u.free b o' e1 (hbs.free b o e n hx) hx
  ·obtain⟨o',e1⟩:=hbs.there b o e hx
   exact u.there b o' e1 hx
  ·obtain⟨m1,e1⟩:=hbs.tbls b ps e
   obtain⟨m2,e2⟩:=u.tbls b _ e1
   exact⟨m1++m2,by rw[e2,aA2]⟩
 have frNone:∀ b∈frs outer,H2 b=none:=fun b hb=>by
  have h1:=I.stkFree b (by
   show b∈frs (J6 qual scope s.heap.objs.size f cd::outer)
   rw[hff]
   exact d7 _ hb)
  obtain⟨_,o,ho,_⟩:=hst.mem (b:=b) (by
   show b∈frs (J6 qual scope s.heap.objs.size f cd::outer)
   rw[hff]
   exact d7 _ hb)
  exact u.free b o ho h1 (by simp)
 refine bb6 hfr rfl k1 k2 k3 k4 fun h' x1 x2=>?_
 have stay:∀ b o,s2.heap.get? b=some o->(H2 b≠none\/s.heap.get? b≠none)->b∉frs outer->h'.get? b=some o:=fun b o ho hb hno=>by
  obtain⟨o',ho',hB⟩:=old b hb hno
  rw[ho]at ho'
  cases ho'
  exact x1.1 b o hB
 refine⟨x,cls,H2,rfl,hos.trans I.os,hb2,u2.onto (fun b o ho hh hno=>stay b o ho (.inr hh) hno) (fun b o ho hh hm=>?_),hok.stays fun b o ho hh=>stay b o ho (.inl hh) fun hm=>hh (frNone b hm),?_,hxn,⟨B,a0,x1,fun b o ho hb hno=>?_⟩,hE⟩
 ·obtain⟨_,o',ho',hd⟩:=k3.mem (b:=b) (by
   show b∈frs (J6 qual scope s.heap.objs.size f cd::outer)
   rw[hff]
   exact d7 _ hm)
  rw[ho]at ho'
  cases ho'
  exact x2 b o ho hd
 ·cases q:s.heap.get? x with
  | none=>rfl
  | some o =>
   obtain⟨o',z⟩:=hbs.there x o q (by simp)
   rw[new]at z
   cases z
 ·obtain⟨o',ho',hB⟩:=old b hb hno
  have:=stay b o' ho' hb hno
  rw[ho]at this
  cases this
  exact hB
end
theorem bl7 {e:c6}{env env':Env}(h:env.frame=env'.frame):ax3 e env=ax3 e env':=by
 unfold ax3 PySem.frameOf
 rw[h]
def XeC (X:Cx)(E:XK)(pins:List (Addr × Obj))(σ:St)(C:Addr)(e:c6)(s':c7):Prop:=
 ∃ s1 H1 m,Inv X pins σ H1 s1/\N8 X pins H1 C/\s1.heap.Ns C m/\CXE X.prog X.w X.stack H1 s1 E e s'
section
variable {P:j8} {w:x6} {K:W.Frag} {mg:Str->Option c6} {base:Heap} {N:List Str} {qual:Str} {scope:R8} {f:Addr} {cd:c6} {A:u4} {outer:List Env} {s:c7} {H:Hp} {E:XK}
 {pins:List (Addr × Obj)} {σ:St}
theorem as0 {X:Cx}(eX:X=Z8 (CXE P w) P w K mg base N qual scope f cd A outer s H E){C:Addr}{cenv:Env}(hcf:cenv.frame=X.env.frame){e:c6}{s':c7}{Q:c6->c7->Prop}{acc:c6}(h:XeC X E pins σ C e s') :
  notedBy (y6 X.prog X.w) X.A cenv (fun x s''=>ay4 (y6 X.prog X.w) X.A X.xe none Q acc C (.error x) s'') e s':=by
 obtain⟨s1,H1,m,I1,fC,hn,x,cls,H2,rfl,hos,hb2,u,hok,new,hxn,⟨B,a0,fl,st⟩,hE⟩:=h
 have hstk:X.stack=X.env::X.outer:=by rw[eX];rfl
 have hf:X.env.frame=some X.env.locals:=by rw[eX];rfl
 have hfr:X.A.frames=some (X.env::X.outer):=by rw[<- hstk];exact I1.ok.frames
 rw[hstk]at fl
 have nC:C∉frs X.stack:=fun z=>by
  rcases g6.mp (I1.stkSub C z) with q | q
  ·exact fC.2.1 q
  ·exact fC.2.2.1 q
 obtain⟨oC,es,ep,hC,dC,rC⟩:=hn
 have hC':s'.heap.get? C=some oC:=u.keep C oC hC fC.1 nC (by simp)
 have hC2:H2 C=none:=u.free C oC hC fC.1 (by simp)
 have frN:∀ b∈frs X.stack,H2 b=none:=fun b hb=>by
  obtain⟨_,o,ho,_⟩:=I1.stack.mem hb
  exact u.free b o ho (I1.stkFree b hb) (by simp)
 unfold notedBy
 rw[bl7 hcf]
 refine wpAny_looks_onW hfr hf fl fun h4 held up=>?_
 obtain⟨k1,k2,k3,oe,vs,T,oT,ts,he,hcl,hd,e1,nT,Te,hT,dT,e3⟩:=held
 have hsz3:3<ts.size:=(af2.mp e3).1
 have hn4:h4.Ns C m:=up.ns ⟨oC,es,ep,hC',dC,rC⟩
 obtain⟨oC4,es4,ep4,hC4,dC4,_⟩:=id hn4
 have xC:x≠C:=fun z=>by
  rw[z,hC4]at he
  cases he
  rw[dC4]at hd
  cases hd
 have TC:T≠C:=fun z=>by
  rw[z,hC4]at hT
  cases hT
  rw[dC4]at dT
  cases dT
 refine⟨m,hn4,fun h5 hsb cenv' _=>?_⟩
 have g5:∀ b,b≠C->h5.get? b=h4.get? b:=fun b hb=>hsb.2 b hb
 have he5:=(g5 x xC).trans he
 have hT5:=(g5 T TC).trans hT
 unfold PySem.passOn
 refine b7 (E5 he5 hd e1 ?_)
 rw[if_neg (by simp:¬ ((Value.ref T == Value.none)=true))]
 refine b7 ?_
 unfold setFlight
 refine b7 (E5 he5 hd e1 ?_)
 rw[if_pos (by simp:(Value.ref T != Value.none)=true)]
 refine aG3 hT5 dT hsz3 (wpAny_throw ?_)
 generalize hfv:(cenv'.frame.elim Value.none fun f=>ac4 f)=fv
 have oth:∀ b,b≠T->(h5.update T (Obj.mapFields (·.setIfInBounds 3 fv))).get? b=h5.get? b:=fun b z=>x9 _ _ (Ne.symm z)
 have inB:∀ b o,B.get? b=some o->b≠C->(h5.update T (Obj.mapFields (·.setIfInBounds 3 fv))).get? b=some o:=fun b o q z=>by
  rw[oth b (fun z'=>by rw[z',nT]at q;cases q),g5 b z]
  exact k1 b o q
 have frO:∀ b∈frs X.stack,∀ o,s'.heap.get? b=some o->∃ sl,(h5.update T (Obj.mapFields (·.setIfInBounds 3 fv))).get? b=some { o with slots:=sl }:=fun b hb o q=>by
  obtain⟨_,o',q',nf⟩:=fl.2.2.1.mem (b:=b) (by rw[hstk]at hb;exact hb)
  rw[q]at q'
  cases q'
  obtain⟨sl,q4⟩:=up b o q nf
  refine⟨sl,?_⟩
  rw[oth b (fun z=>by rw[z,hT]at q4;cases q4;exact nf _ dT),g5 b (fun z=>nC (by rw[<- z];exact hb))]
  exact q4
 generalize hh6:h5.update T (Obj.mapFields (·.setIfInBounds 3 fv))=h6 at oth inB frO
 have I1':Inv X pins σ H1 { s1 with heap:=PySem.W.hideAll s1.heap [C],toks:=s1.toks }:=I1.turn fC fun b o hb q=>PySem.W.hideAll_get _ q (by simpa using hb)
 have nh:∀ {g:Heap} {b:Addr} {o:Obj},(PySem.W.hideAll g [C]).get? b=some o->b≠C:=fun {g b o} q z=>by
  rw[z,PySem.W.hideAll_none _ (B7.mpr rfl)]at q
  cases q
 subst eX
 refine cd9 (s1:={ s1 with heap:=PySem.W.hideAll s1.heap [C],toks:=s1.toks }) I1' ⟨x,cls,H2,fv,rfl,hos,hb2,?_,?_,?_,hxn,⟨PySem.W.hideAll B [C],a0,⟨?_,?_,?_,?_⟩,?_⟩,hE⟩
 ·refine⟨fun b o q n hb hx=>?_,fun b o q n hb hx=>?_,fun b o q n hx=>u.free b o (PySem.W.of_hideAll _ q) n hx,fun b o q hx=>?_,u.tups,u.frzs,u.tbls⟩
  ·have q1:=PySem.W.of_hideAll _ q
   exact inB b o (st b o (u.keep b o q1 n hb hx) (.inr (by rw[q1];simp)) hb) (nh q)
  ·obtain⟨sl,q1⟩:=u.slot b o (PySem.W.of_hideAll _ q) n hb hx
   obtain⟨sl',q2⟩:=frO b hb _ q1
   exact⟨sl',q2⟩
  ·have q1:=PySem.W.of_hideAll _ q
   obtain⟨o',q2⟩:=u.there b o q1 hx
   by_cases hb:b∈frs (Z8 (CXE P w) P w K mg base N qual scope f cd A outer s H E).stack
   ·obtain⟨sl,q3⟩:=frO b hb _ q2
    exact⟨_,q3⟩
   ·exact⟨o',inB b o' (st b o' q2 (.inr (by rw[q1];simp)) hb) (nh q)⟩
 ·refine hok.stays fun b o q hh=>inB b o (st b o q (.inl hh) fun z=>hh (frN b z)) fun z=>hh (by rw[z];exact hC2)
 ·cases q:(PySem.W.hideAll s1.heap [C]).get? x with
  | none=>rfl
  | some o =>
   rw[PySem.W.of_hideAll _ q]at new
   cases new
 ·exact fun b o q=>inB b o (PySem.W.of_hideAll _ q) (nh q)
 ·cases q:(PySem.W.hideAll B [C]).get? x with
  | none=>rfl
  | some o =>
   rw[PySem.W.of_hideAll _ q]at k2
   cases k2
 ·refine aw9 (fun b hb n=>?_) (fun b hb o q nf=>?_) fl.2.2.1
  ·cases q:(PySem.W.hideAll B [C]).get? b with
   | none=>rfl
   | some o =>
    rw[PySem.W.of_hideAll _ q]at n
    cases n
  ·obtain⟨sl,q2⟩:=frO b hb o q
   exact⟨_,q2,nf⟩
 ·refine⟨oe,vs,T,_,_,(oth x (Ne.symm Te)).trans he5,hcl,hd,e1,?_,Te,by rw[<- hh6];exact N9 _ hT5 (Obj.isFreed_of_fields (Obj.data_mapFields dT _)),Obj.data_mapFields dT _,by simp[hsz3]⟩
  cases q:(PySem.W.hideAll B [C]).get? T with
  | none=>rfl
  | some o =>
   rw[PySem.W.of_hideAll _ q]at nT
   cases nT
 ·intro b o q hh hb
  have bC:b≠C:=fun z=>by
   rcases hh with z' | z'
   ·exact z' (by rw[z];exact hC2)
   ·exact z' (by rw[z];exact PySem.W.hideAll_none _ (B7.mpr rfl))
  have hin:∃ o',s'.heap.get? b=some o'/\B.get? b=some o':=by
   rcases hh with z' | z'
   ·obtain⟨ho,q'⟩:=L1 z'
    obtain⟨o',q2⟩:=(hok b ho q').there
    exact⟨o',q2,st b o' q2 (.inl z') hb⟩
   ·obtain⟨o1,q'⟩:=L1 z'
    have q1:=PySem.W.of_hideAll _ q'
    obtain⟨o',q2⟩:=u.there b o1 q1 (by simp)
    exact⟨o',q2,st b o' q2 (.inr (by rw[q1];simp)) hb⟩
  obtain⟨o',q2,qB⟩:=hin
  have:=inB b o' qB bC
  have q':h6.get? b=some o:=q
  rw[this]at q'
  cases q'
  exact PySem.W.hideAll_get _ qB (by simpa using bC)
end
theorem cd8 {X:Cx}{pins:List (Addr × Obj)}{σ:St}{E:XK}{scope:R8}{cl:List (Str × Addr)}{N':List Str}{s3:c7}{H3:Hp}{fp:List Addr}(I3:Inv X pins σ H3 s3)(f3:∀ b∈fp,N8 X pins H3 b) :
  av6 (CXE X.prog X.w) (D7 X scope cl N' s3 H3 fp (XeC X E pins σ s3.heap.objs.size)) E:=by
 intro pins' σ' H1 s1 e s' I' hc
 obtain⟨m,hm,_⟩:=I'.loc
 refine⟨s1,H1,m,I3.call' (ch:=fp) I'.os I'.base I'.hok I'.bare fun b hb=>?_,I3.fpOk (d4 _) I'.free,hm,hc⟩
 obtain⟨f0,f1,f2',f3',f4,f5⟩:=f3 b hb
 exact⟨f3',f1,f4,f5⟩
section
variable {P:j8} {w:x6} {K:W.Frag} {mg:Str->Option c6} {base:Heap} {N:List Str} {qual:Str} {scope0:R8} {f:Addr} {cd:c6} {A:u4} {outer:List Env} {s0:c7} {H0:Hp} {E:XK} {X:Cx}
theorem bt5 (eX:X=Z8 (CXE P w) P w K mg base N qual scope0 f cd A outer s0 H0 E){elt iter tg:Expr}{ifs:List Expr}{scope:R8}{pos:Pos}{cl:List (Str × Addr)}{N':List Str}{lk:List (Option Nat)}{wi:TI}{g:TG}{tt:TT}{te:TE}(hc:X.calm=true)(hi:PI X tg iter wi)(hclos:ay3 scope X.env=pure cl)(hkind:scope.kind=.function)
  (hnames:∀ y∈scope.names,y.2=.local->scope.names.lookup y.1=some .local)(hcl:ay2 X.env cl)(hfr:am9 scope.names cl=true)(hlk:bo6 X N' lk scope cl)
  (hg:∀ pins σ s3 H3 fp,PG (D7 X scope cl N' s3 H3 fp (XeC X E pins σ s3.heap.objs.size)) tg g)(ht:∀ pins σ s3 H3 fp,PTs (D7 X scope cl N' s3 H3 fp (XeC X E pins σ s3.heap.objs.size)) ifs tt)(he:∀ pins σ s3 H3 fp,Inv X pins σ H3 s3->(∀ b∈fp,N8 X pins H3 b)->PE (D7 X scope cl N' s3 H3 fp (XeC X E pins σ s3.heap.objs.size)) elt te)
  (hs:∀ x,aa5 iter X.env x=pure x:=by intro _;rfl):PE X (.ListComp elt [⟨tg,iter,ifs,0⟩] scope pos) (bd9 wi lk g tt te):=by
 intro pins s σ H Q I h
 rw[eval_ListComp]
 have hcellN:∀ y∈scope.names,y.2≠.cell:=fun y hy=>by
  unfold am9 at hfr
  rw[N3]at hfr
  have:=hfr y hy
  rw[C4]at this
  simpa using this.1
 refine ao1 (use:=none) rfl hs hclos hkind hnames (thn (hi pins s σ H _ I h) fun v s1 h1=>thn h1 fun itv s2 h2=>?_)
 obtain⟨it,fp,tn,J,H2,e,I2,T,st2,f2,q⟩:=h2
 subst e
 refine M0 ?_ (y9 _)
 have hD:H2 s2.heap.objs.size=none:=I2.hok.fresh (d4 _)
 have I3:=I2.lnew (ys:=[]) (its:=[]) (t':=s2.toks) .nil (y9 _)
 obtain⟨W,⟨m0,w0⟩,turn⟩:=q s2.heap.objs.size hD
 have fpl:∀ b∈fp,b<s2.heap.objs.size:=fun b hb=>by
  obtain⟨o,ho,_⟩:=T.obj 0 s2.heap st2 b hb
  exact d6 ho
 refine U7 hcellN (by intro y hy;cases hy) (fun h1 hns1 hsb1=>?_) hkind
 dsimp only at hns1 hsb1 ⊢
 have e3:s2.heap.push { cls:=.type "list",dict:=none,data:=.seq ([]:List c6).toArray }=s2.heap.push { cls:=.type "list",data:=.seq ([]:List c6).toArray }:=rfl
 generalize hh3:s2.heap.push { cls:=.type "list",dict:=none,data:=.seq ([]:List c6).toArray }=h3 at *
 have I3':Inv X pins σ (upd H2 s2.heap.objs.size (.lst [])) { s2 with heap:=h3,toks:=s2.toks }:=I3
 have size3:h3.objs.size=s2.heap.objs.size+1:=by rw[<- hh3,D0]
 have f3:∀ b∈fp,N8 X pins (upd H2 s2.heap.objs.size (.lst [])) b:=fun b hb=>by
  obtain⟨f0,fr⟩:=f2 b hb
  exact⟨by rw[v7 (j7 (fpl b hb))];exact f0,fr⟩
 have up:∀ b u,h3.get? b=some u->h1.get? b=some u:=fun b u eb=>by
  rw[hsb1.2 b (j7 (d6 eb))]
  exact c5 _ eb
 have I4:Inv (D7 X scope cl N' { s2 with heap:=h3,toks:=s2.toks } (upd H2 s2.heap.objs.size (.lst [])) fp (XeC X E pins σ h3.objs.size)) [] (ac9 lk σ) (upd H2 s2.heap.objs.size (.lst [])) { s2 with heap:=h1,toks:=s2.toks+([]:List (Str × c6)).length }:=
  ao8 (s3:={ s2 with heap:=h3,toks:=s2.toks }) I3' f3 hkind hcl hfr hlk hns1 up fun b hb=>by show b<h3.objs.size;rw[size3];exact C0 (fpl b hb)
 have st4:tn 0 h1:=T.keep 0 s2.heap h1 st2 fun b hb o eb=>up b o (by rw[<- hh3];exact c5 _ eb)
 have hCs:h3.objs.size=(O2 scope cl h3.objs.size X.env).locals:=rfl
 have stat:∀ {H':Hp},(∀ b∈fp,H' b=none)->∀ b∈fp,N8 (D7 X scope cl N' { s2 with heap:=h3,toks:=s2.toks } (upd H2 s2.heap.objs.size (.lst [])) fp (XeC X E pins σ h3.objs.size)) [] H' b:=fun {H'} hn b hb=>by
  obtain⟨f0,f1,f2',f3',f4,f5⟩:=f3 b hb
  refine⟨hn b hb,?_,fun z=>?_,.inl hb,fun x c ex=>f4 x c (hcl.get ex),fun p hp=>nomatch hp⟩
  ·show b≠h3.objs.size
   rw[size3]
   exact j7 (C0 (fpl b hb))
  ·rcases g6.mp (I3'.stkSub b z) with q | q
   ·exact f1 q
   ·exact f2' q
 have fin:∀ (s':c7) (σ':St) (H':Hp),Inv (D7 X scope cl N' { s2 with heap:=h3,toks:=s2.toks } (upd H2 s2.heap.objs.size (.lst [])) fp (XeC X E pins σ h3.objs.size)) [] σ' H' s'->Q (.ref s2.heap.objs.size) H' ->
   ay4 (y6 X.prog X.w) X.A X.xe none (EP X pins σ Q) (.ref s2.heap.objs.size) h3.objs.size (.ok .next) s':=fun s' σ' H' I' q'=>by
  obtain⟨m,hm,_⟩:=id I'.loc
  have I5:Inv X pins σ H' s':=I3'.call' (ch:=fp) I'.os I'.base I'.hok I'.bare fun b hb=>by
   obtain⟨f0,f1,f2',f3',f4,f5⟩:=f3 b hb
   exact⟨f3',f1,f4,f5⟩
  refine⟨m,hm,fun h' hsb=>?_⟩
  refine⟨.ref s2.heap.objs.size,H',?_,rfl,q'⟩
  have hfc:H' h3.objs.size=none:=I'.free
  have hcl1:∀ b o,h3.get? b=some o->b≠h3.objs.size:=fun b o eb=>j7 (d6 eb)
  obtain⟨h0',g0,d0,t0,o0⟩:=s'
  refine I5.turned (t':=t0) (it:=h3.objs.size) (fun b o hb eb=>(hsb.2 b hb).trans eb) hfc ?_ (.inr I3'.sz) (fun x c ex z=>?_) (fun p hp z=>?_)
  ·exact K7 I3'.lt
  ·obtain⟨v',q2⟩:=I3'.cell x c ex
   exact absurd q2.lt (by rw[z];exact B8 _)
  ·exact absurd (d6 (I3'.pin p hp).1) (by rw[z];exact B8 _)
 have loop:∀ s5:c7,s5={ s2 with heap:=h1,toks:=s2.toks+([]:List (Str × c6)).length } ->
   am1 (y6 X.prog X.w) X.A (.compLoop (.ListComp elt [⟨tg,iter,ifs,0⟩] scope pos) 0 (.ref it) (.ref s2.heap.objs.size) (O2 scope cl h3.objs.size X.env)) (ay4 (y6 X.prog X.w) X.A X.xe none (EP X pins σ Q) (.ref s2.heap.objs.size) h3.objs.size) s5:=by
  rintro s5 rfl
  refine bP7 rfl (fun n s'=>∃ i xs σ' H',Inv (D7 X scope cl N' { s2 with heap:=h3,toks:=s2.toks } (upd H2 s2.heap.objs.size (.lst [])) fp (XeC X E pins σ h3.objs.size)) [] σ' H' s'/\tn i s'.heap/\(∀ b∈fp,H' b=none)/\W i n xs σ' H')
   (fun n s6 hI=>?_) m0 ⟨0,[],ac9 lk σ,_,I4,st4,fun b hb=>(f3 b hb).1,w0⟩
  obtain⟨i,xs,σ6,H6,I6,st6,fr6,w6⟩:=hI
  show o7 _ X.A ((compTurn (.ListComp elt [⟨tg,iter,ifs,0⟩] scope pos) 0 (.ref it) (.ref s2.heap.objs.size) (O2 scope cl h3.objs.size X.env)).onRaise (fun x=>do ax3 x (O2 scope cl h3.objs.size X.env);bj9 x)) _ _ s6
  refine ca0 ?_
  rw[bD0]
  refine b7 (af3 (b7 ?_))
  obtain⟨hD6,hw⟩:=turn i n xs σ6 H6 w6
  rcases hw with⟨stop,qn⟩ | ⟨go,hlen,step⟩
  ·refine thn (T.done (D7 X scope cl N' { s2 with heap:=h3,toks:=s2.toks } (upd H2 s2.heap.objs.size (.lst [])) fp (XeC X E pins σ h3.objs.size)) rfl rfl rfl hc i [] s6 σ6 H6 _ I6 (stat fr6) st6 stop) fun r s7 ⟨hr,I7⟩=>?_
   subst hr
   exact d3 (fin s7 σ6 H6 I7 qn)
  ·refine thn (T.item (D7 X scope cl N' { s2 with heap:=h3,toks:=s2.toks } (upd H2 s2.heap.objs.size (.lst [])) fp (XeC X E pins σ h3.objs.size)) rfl rfl rfl hc i [] s6 σ6 H6 _ I6 (stat fr6) st6 go) fun r s7 ⟨u,hr,h7⟩=>?_
   subst hr
   refine b7 (thn h7 fun _ s8 ⟨x,H8,I8,r8,y8,st8,fr8⟩=>?_)
   have I8':=I8.pinned (stat fr8) (T.obj _ _ st8)
   refine b7 (E3 (hg pins σ _ _ _ _ s8 σ6 H8 x u _ I8' r8 (step x H8 y8)) (fun _ s9 ⟨σ9,H9,I9,q9⟩=>?_) (fun _ _ z=>as0 eX rfl z))
   refine b7 (E3 (ht pins σ _ _ _ _ s9 σ9 H9 _ I9 q9) (fun ok s10 ⟨H10,I10,q10⟩=>?_) (fun _ _ z=>as0 eX rfl z))
   have bj2:∀ {σ':St} {H':Hp} {ys:List V} {s':c7},Inv (D7 X scope cl N' { s2 with heap:=h3,toks:=s2.toks } (upd H2 s2.heap.objs.size (.lst [])) fp (XeC X E pins σ h3.objs.size)) ([]++aj7 fp s8.heap) σ' H' s'->(∃ m',m'<n/\W (i+1) m' ys σ' H') ->
     ∃ m',m'<n/\∃ i xs σ' H',Inv (D7 X scope cl N' { s2 with heap:=h3,toks:=s2.toks } (upd H2 s2.heap.objs.size (.lst [])) fp (XeC X E pins σ h3.objs.size)) [] σ' H' s'/\tn i s'.heap/\(∀ b∈fp,H' b=none)/\W i m' xs σ' H':=fun {σ' H' ys s'} I' ⟨m',hm,w'⟩=>by
    refine⟨m',hm,i+1,ys,σ',H',I'.unpinned,T.keep _ _ _ st8 fun b hb o eb=>(I'.pin (b,o) (m9 _ (m9 _ (O3 hb eb)))).1,fun b hb=>?_,w'⟩
    obtain⟨o,eb,_⟩:=T.obj _ _ st8 b hb
    exact(I'.pin (b,o) (m9 _ (m9 _ (O3 hb eb)))).2.1
   cases ok with
   | false =>
    have q10':∃ m',m'<n/\W (i+1) m' xs σ9 H10:=by simpa using q10
    exact d3 ⟨rfl,bj2 I10 q10'⟩
   | true =>
    rw[if_pos rfl]at q10
    refine b7 (b7 (E3 (he pins σ _ _ _ I3' f3 _ s10 σ9 H10 _ I10 q10) (fun y s11 ⟨v11,H11,I11,r11,hD11,q11⟩=>?_) (fun _ _ z=>as0 eX rfl z)))
    refine b7 (E3 (S4 (X:=D7 X scope cl N' { s2 with heap:=h3,toks:=s2.toks } (upd H2 s2.heap.objs.size (.lst [])) fp (XeC X E pins σ h3.objs.size)) _ s11 σ9 H11 (.ref s2.heap.objs.size) [v11] (.ref s2.heap.objs.size) [y] (fun _ H'=>∃ m',m'<n/\W (i+1) m' (xs++[v11]) σ9 H') I11 rfl (.cons r11 .nil) ⟨s2.heap.objs.size,xs,v11,rfl,rfl,hD11,hlen,q11⟩) (fun _ s12 ⟨_,H12,I12,_,q12⟩=>?_) (fun _ _ z=>as0 eX rfl z))
    exact d3 (d3 ⟨rfl,bj2 I12 q12⟩)
 exact at8 (loop _ rfl) (T.self X.A 0 _ _ _ st4 (loop _ rfl))
end
end L2
namespace L2
open PySem PySem.Spec PyProof.Rows PySem.SeqAt
section
variable {X:Cx}
end
end L2
namespace PySem
section
variable {prog:j8} {w:x6} {K:Type} [DecidableEq K] {knd:HeapKind prog w K} {A:u4} {E:c6->c7->Prop} {s:c7}
end
end PySem
namespace PySem
section
variable {prog:j8} {w:x6} {K:Type} [DecidableEq K] {knd:HeapKind prog w K} {A:u4} {E:c6->c7->Prop} {s:c7}
end
end PySem
namespace L2
open PySem PySem.Spec PyProof.Rows
section
variable {X:Cx} {pins:List (Addr × Obj)} {σ:St} {H:Hp} {s:c7} {a:Addr}
end
section
variable {X:Cx}
end
section
variable {X:Cx}
end
end L2
namespace Web
open PySem L2
theorem bx6 {K:W.Frag}{A:u4}{H:Hp}{Q:VK}{l:Addr}{es:List Int}{z:Int}(hun:A.units+64<ap5)(hl:SqL K H l (es.map V.int))(q:Q (.bl (decide (z∈es))) H):ba4 K A false (.int z) (.ref l) H Q:=by
 refine⟨l,_,.int z,es.map .int,rfl,.inl hl,Dt.mkInt,F2.ints es,by simp[PyData.canLay0],lay_ints es,aZ3 hun (by simp[PyData.depth]),?_⟩
 rw[ar8,if_neg k9]
 exact q
inductive Wz where
 | odd | below (z:Int) | wall (z:Int)
theorem aX2 (a b:Int):decide (V.int a=V.int b)=decide (a=b):=by
 by_cases h:a=b
 ·rw[h,decide_eq_true rfl,decide_eq_true rfl]
 ·rw[decide_eq_false h,decide_eq_false (fun z=>h (by injection z))]
end Web
namespace L2
open PySem PySem.Spec PyProof.Rows
def X4 (i:Int)(n:Nat):List Int:=(Y5 0 n).map fun k:Nat=>i+(k:Int)
theorem aW2 (a:Int):∀ {vs:List c6} {n i:Nat},vs.length=n->(∀ j v,vs[j]?=some v->∃ t,v=Value.int (a+((i+j:Nat):Int)) t)->G9 vs ((Y5 i n).map fun k:Nat=>a+(k:Int))
 | [],n,i,e,_=>by subst e;exact .nil
 | v::vs,0,i,e,_=>by cases e
 | v::vs,n+1,i,e,h=>by
  obtain⟨t,rfl⟩:=h 0 v rfl
  rw[bZ3,v8]
  refine .cons _ t (aW2 a (by simpa using e) fun j v hv=>?_)
  obtain⟨t',e'⟩:=h (j+1) v (by simpa using hv)
  exact⟨t',by rw[e'];congr 2;omega⟩
section
variable {X:Cx}
def cb0 (ta:TA):TE:=fun σ H Q=>ta σ H fun vs H1=>∃ i j:Int,vs=[.int i,.int j]/\∀ r,H1 r=none->Q (.ref r) (upd H1 r (.rng i j))
theorem bf5 {a b:Expr}{ta:TA}{p pos:Pos}(hg:Gl X "range")(hm:X.mg "range"=none)(ha:PA X [a,b] ta)(hs:A2 [a,b] X.env=[(false,eval a X.env),(false,eval b X.env)]:=by rfl)(hs2:A2 [b] X.env=[(false,eval b X.env)]:=by rfl) :
  PE X (.Call (.Name "range" p) [a,b] [] pos) (cb0 ta):=by
 intro pins s σ H Q I h
 refine Call_ (V8 I hg hm bB4 (PyProof.Rows.callWith_type1 (thn (ha pos pins s σ H _ I h) fun us s1 ⟨vs,H1,I1,r1,q1⟩=>?_) (by rw[hs,hs2]) (by rw[hs2];rfl)))
 obtain⟨i,j,e,q⟩:=q1
 subst e
 cases r1 with
 | cons r rr =>
  cases rr with
  | cons r' rr =>
   cases rr
   obtain⟨t,rfl⟩:=r
   obtain⟨t',rfl⟩:=r'
   refine call_range_2 ?_
   have hf:H1 s1.heap.objs.size=none:=I1.hok.fresh (d4 _)
   exact⟨.ref s1.heap.objs.size,upd H1 s1.heap.objs.size (.rng i j),I1.laid (fun b o e=>c5 _ e) (d4 _) ⟨_,_,_,i8 _ rfl⟩,rfl,q _ hf⟩
theorem an6 (hc:X.calm=true):Q8 X (.type "list") (fun xs H Q=>∃ (r:Addr) (i j:Int) (n:Nat),xs=[.ref r]/\H r=some (.rng i j)/\j - i=n/\n<=1000 /\ -1000<=i/\i<=1000/\∀ l,H l=none->Q (.ref l) (upd H l (.lst ((X4 i n).map V.int)))):=by
 intro pins s σ H xs us Q I r h
 obtain⟨p,i,j,n,rfl,hq,hn,hn1,hi1,hi2,q⟩:=h
 obtain⟨u,rfl,rx⟩:=vals1 r
 cases rx
 obtain⟨t1,t2,t3,hr⟩:=I.hok p _ hq
 refine call_list_range (a:=i) (b:=j) (c:=1) (n:=n) (I.ok.hd hc) hr (small_one (by omega) (by omega) (by omega) (by omega)) (by rw[bC1];split<;>omega) (by omega) fun h' tk acc c' kp e hacc=>?_
 have hi:G9 acc.toList (X4 i n):=aW2 i (by rw[p0];exact hacc.1) fun k v hk=>by
  obtain⟨t',e⟩:=hacc.2 k v (by rw[<- u5];exact hk)
  exact⟨t',by rw[e];simp⟩
 have hl:(X4 i n).length=n:=by unfold X4;rw[b9,W9]
 exact⟨.ref s.heap.objs.size,_,I.laid (t':=tk) kp (d4 _) (show N7 X.prog X.w _ h' _ (.lst ((X4 i n).map V.int)) from ⟨by rw[b9,hl,E4];omega,acc.toList,c',ad1 hi,by rw[aa6];exact e⟩),rfl,q _ (I.hok.fresh (d4 _))⟩
end
theorem Z9 {lo:Int}{n:Nat}{D:Addr}{g:TG}{tt:TT}{te:TE}{Qd:Hp->Prop}{σ0:St}{H0:Hp}(Pv:Nat->List V->St->Hp->Prop)(h0:Pv 0 [] σ0 H0)(hz:n<=i9)(hl:∀ i xs σ H,i<=n->Pv i xs σ H->H D=some (.lst xs)/\xs.length<=i)
  (hs:∀ i xs σ H (N:List V->St->Hp->Prop),(∀ xs' σ' H',Pv (i+1) xs' σ' H'->N xs' σ' H')->i<n->Pv i xs σ H->g (.int (lo+i)) σ H fun σ2 H2=>tt σ2 H2 fun b H3=>if b=true then te σ2 H3 fun v H4=>H4 D=some (.lst xs)/\N (xs++[v]) σ2 (upd H4 D (.lst (xs++[v]))) else N xs σ2 H3)
  (hd:∀ xs σ H,Pv n xs σ H->Qd H) :
  ∃ W:Nat->Nat->List V->St->Hp->Prop,(∃ m,W 0 m [] σ0 H0)/\∀ i m xs σ' H',W i m xs σ' H'->H' D=some (.lst xs)/\(((Itr lo n).stop i H'/\Qd H')\/((Itr lo n).go i H'/\xs.length<i9/\∀ x H'',(Itr lo n).yld i H' x H''->g x σ' H'' fun σ2 H2=>tt σ2 H2 fun b H3 =>
   if b=true then te σ2 H3 fun v H4=>H4 D=some (.lst xs)/\∃ m',m'<m/\W (i+1) m' (xs++[v]) σ2 (upd H4 D (.lst (xs++[v]))) else ∃ m',m'<m/\W (i+1) m' xs σ2 H3)):=by
 refine⟨fun i m xs σ H=>m=n - i/\i<=n/\Pv i xs σ H,⟨n,by simp,y9 _,h0⟩,?_⟩
 rintro i m xs σ H ⟨rfl,hi,p⟩
 obtain⟨hD,hx⟩:=hl i xs σ H hi p
 refine⟨hD,?_⟩
 by_cases hlt:i<n
 ·refine .inr ⟨hlt,by omega,fun x H'' y=>?_⟩
  obtain⟨e,y⟩:=y
  subst e y
  exact hs i xs σ _ (fun zs σ' H'=>∃ m',m'<n - i/\m'=n - (i+1)/\i+1<=n/\Pv (i+1) zs σ' H') (fun zs σ' H' r=>⟨_,by omega,rfl,hlt,r⟩) hlt p
 ·obtain rfl:i=n:=by omega
  exact .inl ⟨d4 _,hd xs σ H p⟩
end L2
namespace Web
open PySem L2
def top (i:Nat):Stmt:=PySem.Challenge.pw_tallyweb_k51_what_shows_the_least_off.main.body.getD i (.Pass ⟨0,0,0,0⟩)
abbrev au2:Stmt:=top 8
abbrev sUp:Stmt:=top 9
abbrev aj5:Stmt:=top 10
abbrev am5:Stmt:=top 14
abbrev aB7:Stmt:=top 15
abbrev ah5:Stmt:=top 17
abbrev X3:Stmt:=top 18
abbrev aj4:Stmt:=top 19
abbrev aq1:Stmt:=top 20
abbrev X2:Stmt:=top 21
abbrev af8:Stmt:=top 22
abbrev aw2:Stmt:=top 23
abbrev ag0:Stmt:=top 25
abbrev aq3:Stmt:=top 26
abbrev aw4:Stmt:=top 27
abbrev aT4:Stmt:=top 28
abbrev aj2:Stmt:=top 30
abbrev aT5:Stmt:=top 31
abbrev ac7:Stmt:=top 32
abbrev aN7:Stmt:=top 34
abbrev aq2:Stmt:=top 35
abbrev aw5:Stmt:=top 37
abbrev aw7:Stmt:=top 40
abbrev af9:Stmt:=top 43
abbrev aT1:Stmt:=top 44
abbrev aw6:Stmt:=top 45
abbrev aj3:Stmt:=top 11
abbrev ab1:Stmt:=top 12
abbrev aj6:Stmt:=top 36
abbrev aw3:Stmt:=top 38
abbrev aN6:Stmt:=top 41
abbrev aT0:Stmt:=top 42
abbrev aT3:Stmt:=top 46
abbrev ab0:Stmt:=top 47
abbrev aH6:Stmt:=top 48
structure Bn (mg:Str->Option c6):Prop where
 len:mg "len"=none
 range:mg "range"=none
 enum:mg "enumerate"=none
 list:mg "list"=none
 tuple:mg "tuple"=none
 sorted:mg "sorted"=none
 set:mg "set"=none
 isin:mg "isinstance"=none
 int:mg "int"=none
 bool:mg "bool"=none
 min:mg "min"=none
 max:mg "max"=none
 sum:mg "sum"=none
 str:mg "str"=none
 ve:mg "ValueError"=none
 all:mg "all"=none
 zip:mg "zip"=none
theorem L3:1000<=i9:=by decide
theorem d9 {H:Hp}{l:Addr}{o:HO}(h:H l=none):u9 H (upd H l o):=fun b u e=>by
 rw[v7 (o5 e h)]
 exact e
section
variable {P:j8} {w:x6} {K:W.Frag} {mg:Str->Option c6} {base:Heap}
def br1:Sp:=fun vs H Q _=>∃ a b:Int,vs=[.int a,.int b]/\Q (.bl (decide (0<=b) && decide (b<a))) H
theorem cc8:B6 ["places","number"] ["places","number"] (j5 au2):=⟨rfl,rfl,rfl,by decide +kernel,rfl,by decide +kernel,by decide +kernel⟩
theorem bv2 {f:Addr}{fd:u0}(F:Fun K "is_place" "is_place" au2 f fd):A8 P w K mg base CX0 1 f fd ["places","number"] br1:=by
 refine F.ok cc8 (fun vs H Q E h=>?_) (fun cdv A outer s H vs Q E hr h=>?_)
 ·obtain⟨a,b,rfl,_⟩:=h
  rfl
 ·obtain⟨a,b,rfl,k⟩:=h
  refine⟨_,k7 (A9 (bt6 ab5 ae0 d8 (pv 1) (pv 0))),?_⟩
  refine⟨_,rfl,_,_,rfl,rfl,_,rfl,?_⟩
  cases e:decide ((0:Int)<=b) with
  | true =>
   refine J0 ⟨_,rfl,_,_,rfl,rfl,?_⟩
   rw[e,bo7]at k
   exact k
  | false =>
   refine K3 ?_
   rw[e,Bool.false_and]at k
   exact k
def cc1 (K:W.Frag):Sp:=fun vs H Q _=>∃ (n:Nat) (a:Addr) (k:List Int),vs=[.int n,.ref a]/\SqT K H a (k.map V.int)/\aa2 n k /\
 ∀ p,H p=none->Q (.ref p) (upd H p (.tup ((up k).map V.int)))
theorem cc6:B6 ["places","tie"] ["places","tie"] (j5 sUp):=⟨rfl,rfl,rfl,by decide +kernel,rfl,by decide +kernel,by decide +kernel⟩
theorem ce1 {f fI:Addr} {fd fdI:u0} (F:Fun K "turned_up" "turned_up" sUp f fd) (B:Bn mg) (FI:Fun K "is_place" "is_place" au2 fI fdI) (bI:Binds K fdI ["places","number"] []) (mI:mg "is_place"=some (.ref fI)) :
  A8 P w K mg base CX0 2 f fd ["places","tie"] (cc1 K):=by
 have GI:A8 P w K mg base CX0 1 fI fdI ["places","number"] br1:=bv2 FI
 refine F.ok cc6 (fun vs H Q E h=>?_) (fun cdv A outer s H vs Q E hr h=>?_)
 ·obtain⟨n,a,k,rfl,_⟩:=h
  rfl
 ·obtain⟨n,a,k,rfl,hS,⟨i,j,h1,h2,h3,rfl⟩,q⟩:=h
  refine⟨_,i4 (G7 (PW.pt (Z2 (Q9 (Z3 (q8 GI hr rfl mI FI.kp bI .nil G4 (b8 (pv 0) (b8 (C8 C5 (pv 1) d8 (fun _ _=>rfl)) c9)))))
     (ag1 (Q9 (Z3 (q8 GI hr rfl mI FI.kp bI .nil G4 (b8 (pv 0) (b8 (C8 C5 (pv 1) d8 (fun _ _=>rfl)) c9)))))))) V6 C7)
   (i4 (G7 (A6 W6 (C8 C5 (pv 1) d8 (fun _ _=>rfl)) (C8 C5 (pv 1) d8 (fun _ _=>rfl)) (C2 _)) V6 C7)
   (k7 (A9 (G0 (b8 (m4 (ae5 rfl) (by rfl) B.min (by rfl) (b8 (C8 C5 (pv 1) d8 (fun _ _ => rfl)) (b8 (C8 C5 (pv 1) d8 (fun _ _ => rfl)) c9)))
    (b8 (m4 (W0 rfl) (by rfl) B.max (by rfl) (b8 (C8 C5 (pv 1) d8 (fun _ _=>rfl)) (b8 (C8 C5 (pv 1) d8 (fun _ _=>rfl)) c9))) c9)))))),?_⟩
  have a0:atI (([(i:Int),(j:Int)]:List Int).map V.int) 0=some (.int i):=B3 (j:=0) rfl
  have a1:atI (([(i:Int),(j:Int)]:List Int).map V.int) 1=some (.int j):=B3 (j:=1) rfl
  refine⟨_,rfl,_,rfl,a,_,_,_,rfl,rfl,hS,a0,_,_,rfl,?_⟩
  rw[decide_eq_true (show (0:Int)<=i by omega),decide_eq_true (show (i:Int)<n by omega)]
  refine⟨_,rfl,K3 ?_⟩
  refine⟨_,rfl,_,rfl,a,_,_,_,rfl,rfl,hS,a1,_,_,rfl,?_⟩
  rw[decide_eq_true (show (0:Int)<=j by omega),decide_eq_true (show (j:Int)<n by omega)]
  refine⟨_,rfl,K3 ?_⟩
  refine⟨_,rfl,a,_,_,_,rfl,rfl,hS,a0,_,rfl,a,_,_,_,rfl,rfl,hS,a1,rfl,_,rfl,?_⟩
  rw[decide_eq_false (show ¬ V.int (i:Int)=V.int (j:Int) by intro z;injection z;omega)]
  refine K3 ?_
  refine⟨_,rfl,a,_,_,_,rfl,rfl,hS,a0,_,rfl,a,_,_,_,rfl,rfl,hS,a1,_,_,rfl,?_⟩
  refine⟨_,rfl,a,_,_,_,rfl,rfl,hS,a0,_,rfl,a,_,_,_,rfl,rfl,hS,a1,_,_,rfl,(by show 2<=i9;decide),fun p hp=>?_⟩
  exact q p hp
def br4 (K:W.Frag):Sp:=fun vs H Q _=>∃ (a:Addr) (ns:List Int) (k:Nat),vs=[.ref a,.int k]/\SqL K H a (ns.map V.int)/\∀ r:Int,Q (.int r) H
theorem bS6:B6 ["script","k"] ["script","k"] (j5 aw7):=⟨rfl,rfl,rfl,by decide +kernel,rfl,by decide +kernel,by decide +kernel⟩
theorem bI2 {f:Addr}{fd:u0}(F:Fun K "_law_cell_at" "_law_cell_at" aw7 f fd)(B:Bn mg):A8 P w K mg base CX0 1 f fd ["script","k"] (br4 K):=by
 refine F.ok bS6 (fun vs H Q E h=>?_) (fun cdv A outer s H vs Q E hr h=>?_)
 ·obtain⟨a,ns,k,rfl,_⟩:=h
  rfl
 ·obtain⟨a,ns,k,rfl,hS,q⟩:=h
  refine⟨_,i4 (G7 (A6 ae0 (pv 1) (m4 u7 (by rfl) B.len PySem.boot_len (b8 (pv 0) c9)) (C2 _)) (k7 (A9 (C8 P0 (pv 0) (pv 1) (fun _ _=>rfl)))) C7)
   (k7 (A9 d8)),?_⟩
  refine⟨_,rfl,_,rfl,a,_,rfl,.inl hS,_,_,rfl,rfl,_,rfl,?_⟩
  refine am7 (fun h=>?_) (fun h=>?_)
  ·have hl:k<ns.length:=by
    have:=of_decide_eq_true h
    rw[b9]at this
    omega
   refine⟨_,rfl,_,rfl,a,_,_,_,rfl,rfl,hS,B3 (j:=k) (v:=.int ns[k]) (by simp[hl]),?_⟩
   exact q _
  ·exact q _
def S9 (ns:List Int):Prop:=1<=ns.length/\ns.length<=24
def Sq (K:W.Frag)(H:Hp)(a:Addr)(ns:List Int):Prop:=SqL K H a (ns.map V.int)\/SqT K H a (ns.map V.int)
theorem Sq.same {H H':Hp}{a:Addr}{ns:List Int}(h:Sq K H a ns)(s:u9 H H'):Sq K H' a ns:=h.elim (fun h=>.inl (s.seq h)) fun h=>.inr (s.seqT h)
def aI8 (K:W.Frag)(CB:Addr):Sp:=fun vs H Q E=>∃ (a:Addr) (ns:List Int),vs=[.ref a]/\Sq K H a ns/\(S9 ns->Q .non H)/\(¬ S9 ns->E (.ref CB) none H)
theorem cd0:B6 ["tally"] ["tally"] (j5 am5):=⟨rfl,rfl,rfl,by decide +kernel,rfl,by decide +kernel,by decide +kernel⟩
theorem aO3 {f CB:Addr}{fd:u0}{tk:Tok}(F:Fun K "check_tally" "check_tally" am5 f fd)(B:Bn mg)(mM:mg "MOST_PLACES"=some (.int 24 tk))(mB:mg "BadTally"=some (.ref CB))(cB:ae7 K CB):A8 P w K mg base (CXE P w) 1 f fd ["tally"] (aI8 K CB):=by
 refine F.okX cd0 (fun vs H Q E h=>?_) (fun cdv A outer s H vs Q E hr h=>?_)
 ·obtain⟨a,ns,rfl,_⟩:=h
  rfl
 ·obtain⟨a,ns,rfl,hS,h1,h2⟩:=h
  refine⟨_,k7 (G7 (Q9 (ad8 ab5 ab5 d8 (m4 u7 (by rfl) B.len PySem.boot_len (b8 (pv 0) c9)) (az1 (v:=.int 24) (by rfl) mM ⟨tk,rfl⟩))) (k7 (Z4 (by rfl) mB cB)) C7),?_⟩
  refine⟨_,rfl,a,_,rfl,hS,_,_,rfl,rfl,_,rfl,?_⟩
  rw[b9]
  by_cases hp:(1:Int)<=(ns.length:Int)
  ·rw[decide_eq_true hp]
   refine J0 ⟨_,_,rfl,rfl,_,rfl,?_⟩
   by_cases hp':(ns.length:Int)<=24
   ·rw[decide_eq_true hp']
    exact K3 (h1 ⟨by omega,by omega⟩)
   ·rw[decide_eq_false hp']
    exact J0 (h2 fun z=>hp' (by have:=z.2;omega))
  ·rw[decide_eq_false hp]
   exact K3 ⟨_,rfl,J0 (h2 fun z=>hp (by have:=z.1;omega))⟩
end
section
variable {P:j8} {w:x6} {K:W.Frag} {mg:Str->Option c6} {base:Heap}
def bq7 (K:W.Frag):Sp:=fun vs H Q _=>∃ (n:Nat) (a:Addr) (ys:List V) (hs:List (List Int)),vs=[.int n,.ref a]/\1<=n/\n<=24/\(SqL K H a ys\/SqT K H a ys)/\C1 K H ys hs/\(∀ k∈hs,aa2 n k)/\(hs.map up).Nodup/\hs.length<64 /\
 ∀ p t zs ks H',u9 H H'->H p=none->H t=none->H' p=some (.tup [.int n,.ref t])->H' t=some (.tup zs)->C1 K H' zs ks->ks.Perm (hs.map up)->ks.Pairwise (fun a b=>Tim.K2 b a=false)->Q (.ref p) H'
theorem aB2:B6 ["places","ties","ascending"] ["places","ties"] (j5 aj5):=⟨rfl,rfl,rfl,by decide +kernel,rfl,by decide +kernel,by decide +kernel⟩
theorem bH6 {f fI fU:Addr} {fd fdI fdU:u0} {tk:Tok} (F:Fun K "made" "made" aj5 f fd) (B:Bn mg) (FI:Fun K "is_place" "is_place" au2 fI fdI) (bI:Binds K fdI ["places","number"] []) (mI:mg "is_place"=some (.ref fI))
  (FU:Fun K "turned_up" "turned_up" sUp fU fdU) (bU:Binds K fdU ["places","tie"] []) (mU:mg "turned_up"=some (.ref fU)) (mM:mg "MOST_PLACES"=some (.int 24 tk)) :
  A8 P w K mg base CX0 3 f fd ["places","ties"] (bq7 K):=by
 have GU:A8 P w K mg base CX0 2 fU fdU ["places","tie"] (cc1 K):=ce1 FU B FI bI mI
 refine F.ok aB2 (fun vs H Q E h=>?_) (fun cdv A outer s H vs Q E hr h=>?_)
 ·obtain⟨n,a,ys,hs,rfl,_⟩:=h
  rfl
 ·obtain⟨n,a,ys,hs,rfl,n1,n2,hS,hT,hE,hN,hL,q⟩:=h
  have hu8:=aG6 (bP3 (by decide:8<=64) _) hr.units
  have hyl:=hT.len
  have nd2:(["tie","places"]:List Str).Nodup:=by decide +kernel
  have step:∀ (D:Addr),H D=none->∀ (i:Nat) (xs:List V) (H':Hp) (x:V) (N:List V->Hp->Prop),u9 H H'->H' D=some (.lst xs)->C1 K H' xs ((hs.take i).map up)->ys[i]?=some x ->
    (∀ xs' H'',u9 H H''->H'' D=some (.lst xs')->C1 K H'' xs' ((hs.take (i+1)).map up)->N xs' H'') ->
    ∃ (m:Nat) (b:Addr) (k:List Int),[V.int n,x]=[.int m,.ref b]/\SqT K H' b (k.map V.int)/\aa2 m k/\∀ p,H' p=none->(upd H' p (.tup ((up k).map V.int))) D=some (.lst xs)/\N (xs++[.ref p]) (upd (upd H' p (.tup ((up k).map V.int))) D (.lst (xs++[.ref p]))):=by
   intro D hD i xs H' x N s1 hd ht hx k
   obtain⟨b,kk,rfl,hk,hq⟩:=hT.get hx
   refine⟨n,b,kk,rfl,s1.seqT hq,hE kk (i7 hk),fun p hp=>?_⟩
   have npd:D≠p:=o5 hd hp
   have hd':(upd H' p (.tup ((up kk).map V.int))) D=some (.lst xs):=by rw[v7 npd];exact hd
   refine⟨hd',k _ _ ((s1.trans (d9 hp)).upd hD) c8 ?_⟩
   have e:(hs.take (i+1)).map up=(hs.take i).map up++[up kk]:=by
    rw[C3,hk,j9]
    rfl
   rw[e]
   refine C1.updL hd' (C1.append (u9.tups (d9 hp) ht) (C1.one (SqT.of c8)))
  rcases hS with hS | hS
  ·refine⟨_,i4 (G7 (Q9 (ad8 ab5 ab5 d8 (pv 0) (az1 (v:=.int 24) rfl mM ⟨_,rfl⟩))) V6 C7)
    (i4 (B1 (i := 2) aB2.nd rfl (Or.inl rfl) (m4 ag7 (by rfl) B.sorted (by rfl) (b8
     (O9 (N' := ["tie", "places"]) (lk := [none, some 0]) rfl (R4 (pv 1)) (by rfl) rfl (by decide +kernel) (by exact ⟨rfl, trivial⟩) (by rfl) (by exact LkL.ok ⟨⟨rfl, Or.inl rfl, rfl, Or.inl rfl⟩, trivial⟩)
      (fun _ _ _=>y7 (i:=0) nd2 rfl (Or.inl rfl)) (fun _ _ _=>Q3) (fun _ _ _=>q8 GU hr (by rfl) mU FU.kp bU .nil G4 (b8 (pv 1) (b8 (pv 0) c9)))) c9)))
    (i4 (G7 (A6 ae0 (m4 call_len_set (by rfl) B.len PySem.boot_len (b8 (L9 (aF1 rfl hu8) (by rfl) B.set (by rfl) (b8 (pv 2) c9)) c9)) (m4 u7 (by rfl) B.len PySem.boot_len (b8 (pv 2) c9)) (C2 _)) V6 C7)
    (k7 (A9 (G0 (b8 (pv 0) (b8 (L9 O8 (by rfl) B.tuple (by rfl) (b8 (pv 2) c9)) c9))))))),?_⟩
   refine⟨_,rfl,_,_,rfl,rfl,_,rfl,?_⟩
   rw[decide_eq_true (show (1:Int)<=n by omega)]
   refine J0 ⟨_,_,rfl,rfl,_,rfl,?_⟩
   rw[decide_eq_true (show (n:Int)<=24 by omega)]
   refine K3 ?_
   refine⟨_,rfl,a,rfl,⟨_,hS⟩,fun D hD=>S5 (K:=K) (a:=a) (D:=D) (ys:=ys) (fun i xs σ' H'=>∃ v,σ'=[v,some (.int n)]/\u9 H H'/\H' D=some (.lst xs)/\C1 K H' xs ((hs.take i).map up)) ⟨none,rfl,d9 hD,c8,.nil⟩ (by have:=L3;omega)
    (fun i xs σ' H' hi ⟨_,_,s1,h1,h2⟩=>⟨s1.seq hS,h1,by have:=h2.len;simp at this;omega⟩) ?_ ?_⟩
   ·rintro i xs x σ' H' N kN hx ⟨v,rfl,s1,h1,h2⟩
    refine B2 ?_
    refine N5 ?_
    refine⟨_,rfl,_,rfl,?_⟩
    exact step D hD i xs H' x (fun xs' H''=>N xs' _ H'') s1 h1 h2 hx fun xs' H'' a1 a2 a3=>kN _ _ _ ⟨_,rfl,a1,a2,a3⟩
   ·rintro xs σ' H1 ⟨v,rfl,s1,h1,h2⟩
    rw[k8 (by omega)]at h2
    have hup:∀ k∈hs.map up,Up n k:=fun k hk=>by
     obtain⟨k0,h0,rfl⟩:=u6.mp hk
     exact(hE k0 h0).up
    refine⟨D,xs,_,rfl,SqL.of h1,h2,(fun k hk z=>by have:=(hup k hk).len;rw[z]at this;cases this),(by rw[b9];omega),fun l zs ks hl pk hs1 ht1=>?_⟩
    have hkl:ks.length=hs.length:=by rw[pk.length_eq,b9]
    have hzl:=ht1.len
    have s2:u9 H (upd H1 l (.lst zs)):=s1.trans (d9 hl)
    refine⟨_,rfl,l,zs,ks,rfl,SqL.of c8,ht1,(fun k hk=>(hup k (pk.mem_iff.mp hk)).key n2),by omega,fun S hSn=>?_⟩
    have hlS:l≠S:=o5 c8 hSn
    have s3:=s2.trans (d9 (o:=aI1 P w S (ks.foldl Sett.T4 []).length) hSn)
    have l3:(upd (upd H1 l (.lst zs)) S (aI1 P w S (ks.foldl Sett.T4 []).length)) l=some (.lst zs):=by rw[v7 hlS,c8]
    refine⟨S,_,rfl,c8,_,rfl,l,zs,rfl,.inl (SqL.of l3),_,_,rfl,rfl,_,rfl,?_⟩
    have hfold:(ks.foldl Sett.T4 []).length=zs.length:=by
     have:=(Sett.ae2 ks []).mpr ⟨(pk.nodup_iff).mpr hN,fun x _=>by simp⟩
     simp at this
     omega
    rw[hfold,decide_eq_false (by omega)]
    refine K3 ?_
    refine⟨_,rfl,_,rfl,l,zs,rfl,.inl ⟨SqL.of (by rw[hfold]at l3;exact l3),fun t ht=>⟨(by show 2<=i9;decide),fun p hp=>?_⟩⟩⟩
    rw[hfold]at s3
    have s4:=(s3.trans (d9 (o:=.tup zs) ht)).trans (d9 (o:=.tup [.int n,.ref t]) hp)
    refine q p t zs ks _ s4 ((s3.trans (d9 ht)).free hp) (s3.free ht) c8 ?_ ?_ pk hs1
    ·rw[v7 (o5 c8 hp),c8]
    ·exact u9.tups (((d9 hSn).trans (d9 ht)).trans (d9 hp)) ht1
  ·refine⟨_,i4 (G7 (Q9 (ad8 ab5 ab5 d8 (pv 0) (az1 (v:=.int 24) rfl mM ⟨_,rfl⟩))) V6 C7)
    (i4 (B1 (i := 2) aB2.nd rfl (Or.inl rfl) (m4 ag7 (by rfl) B.sorted (by rfl) (b8
     (O9 (N' := ["tie", "places"]) (lk := [none, some 0]) rfl (aC2 (pv 1)) (by rfl) rfl (by decide +kernel) (by exact ⟨rfl, trivial⟩) (by rfl) (by exact LkL.ok ⟨⟨rfl, Or.inl rfl, rfl, Or.inl rfl⟩, trivial⟩)
      (fun _ _ _=>y7 (i:=0) nd2 rfl (Or.inl rfl)) (fun _ _ _=>Q3) (fun _ _ _=>q8 GU hr (by rfl) mU FU.kp bU .nil G4 (b8 (pv 1) (b8 (pv 0) c9)))) c9)))
    (i4 (G7 (A6 ae0 (m4 call_len_set (by rfl) B.len PySem.boot_len (b8 (L9 (aF1 rfl hu8) (by rfl) B.set (by rfl) (b8 (pv 2) c9)) c9)) (m4 u7 (by rfl) B.len PySem.boot_len (b8 (pv 2) c9)) (C2 _)) V6 C7)
    (k7 (A9 (G0 (b8 (pv 0) (b8 (L9 O8 (by rfl) B.tuple (by rfl) (b8 (pv 2) c9)) c9))))))),?_⟩
   refine⟨_,rfl,_,_,rfl,rfl,_,rfl,?_⟩
   rw[decide_eq_true (show (1:Int)<=n by omega)]
   refine J0 ⟨_,_,rfl,rfl,_,rfl,?_⟩
   rw[decide_eq_true (show (n:Int)<=24 by omega)]
   refine K3 ?_
   refine⟨_,rfl,a,rfl,⟨_,hS⟩,fun D hD=>aX3 (K:=K) (a:=a) (D:=D) (ys:=ys) (fun i xs σ' H'=>∃ v,σ'=[v,some (.int n)]/\u9 H H'/\H' D=some (.lst xs)/\C1 K H' xs ((hs.take i).map up)) ⟨none,rfl,d9 hD,c8,.nil⟩ (by have:=L3;omega)
    (fun i xs σ' H' hi ⟨_,_,s1,h1,h2⟩=>⟨s1.seqT hS,h1,by have:=h2.len;simp at this;omega⟩) ?_ ?_⟩
   ·rintro i xs x σ' H' N kN hx ⟨v,rfl,s1,h1,h2⟩
    refine B2 ?_
    refine N5 ?_
    refine⟨_,rfl,_,rfl,?_⟩
    exact step D hD i xs H' x (fun xs' H''=>N xs' _ H'') s1 h1 h2 hx fun xs' H'' a1 a2 a3=>kN _ _ _ ⟨_,rfl,a1,a2,a3⟩
   ·rintro xs σ' H1 ⟨v,rfl,s1,h1,h2⟩
    rw[k8 (by omega)]at h2
    have hup:∀ k∈hs.map up,Up n k:=fun k hk=>by
     obtain⟨k0,h0,rfl⟩:=u6.mp hk
     exact(hE k0 h0).up
    refine⟨D,xs,_,rfl,SqL.of h1,h2,(fun k hk z=>by have:=(hup k hk).len;rw[z]at this;cases this),(by rw[b9];omega),fun l zs ks hl pk hs1 ht1=>?_⟩
    have hkl:ks.length=hs.length:=by rw[pk.length_eq,b9]
    have hzl:=ht1.len
    have s2:u9 H (upd H1 l (.lst zs)):=s1.trans (d9 hl)
    refine⟨_,rfl,l,zs,ks,rfl,SqL.of c8,ht1,(fun k hk=>(hup k (pk.mem_iff.mp hk)).key n2),by omega,fun S hSn=>?_⟩
    have hlS:l≠S:=o5 c8 hSn
    have s3:=s2.trans (d9 (o:=aI1 P w S (ks.foldl Sett.T4 []).length) hSn)
    have l3:(upd (upd H1 l (.lst zs)) S (aI1 P w S (ks.foldl Sett.T4 []).length)) l=some (.lst zs):=by rw[v7 hlS,c8]
    refine⟨S,_,rfl,c8,_,rfl,l,zs,rfl,.inl (SqL.of l3),_,_,rfl,rfl,_,rfl,?_⟩
    have hfold:(ks.foldl Sett.T4 []).length=zs.length:=by
     have:=(Sett.ae2 ks []).mpr ⟨(pk.nodup_iff).mpr hN,fun x _=>by simp⟩
     simp at this
     omega
    rw[hfold,decide_eq_false (by omega)]
    refine K3 ?_
    refine⟨_,rfl,_,rfl,l,zs,rfl,.inl ⟨SqL.of (by rw[hfold]at l3;exact l3),fun t ht=>⟨(by show 2<=i9;decide),fun p hp=>?_⟩⟩⟩
    rw[hfold]at s3
    have s4:=(s3.trans (d9 (o:=.tup zs) ht)).trans (d9 (o:=.tup [.int n,.ref t]) hp)
    refine q p t zs ks _ s4 ((s3.trans (d9 ht)).free hp) (s3.free ht) c8 ?_ ?_ pk hs1
    ·rw[v7 (o5 c8 hp),c8]
    ·exact u9.tups (((d9 hSn).trans (d9 ht)).trans (d9 hp)) ht1
end
def ce5 (st:Stmt):Pos:=match (A7 st).getD 1 (.Pass ⟨0,0,0,0⟩) with
 | .Return (some (.Call _ _ [⟨_,.Lambda _ _ _ p,_⟩] _)) _=>p
 | _=>⟨0,0,0,0⟩
def ci8:Str:=(("order_of":Str)++(".<locals>.":Str))++("<lambda>":Str)
abbrev Tb (P:Addr)(H:Hp):Prop:=S6 P (ce5 aB7) ci8 H
theorem S0.sqL {K:W.Frag}{P a:Addr}{H H':Hp}{xs:List V}{po:Pos}{qu:Str}(g:S0 P H H')(t:S6 P po qu H)(h:SqL K H a xs):SqL K H' a xs:=by
 obtain⟨ps,hP,_⟩:=t
 rcases h with(h | ⟨o,h⟩) | h
 ·exact .inl (.inl (g a _ (fun z=>by rw[z,hP]at h;cases h) h))
 ·exact .inl (.inr ⟨o,g a _ (fun z=>by rw[z,hP]at h;cases h) h⟩)
 ·exact .inr h
theorem S0.sqT {K:W.Frag}{P a:Addr}{H H':Hp}{xs:List V}{po:Pos}{qu:Str}(g:S0 P H H')(t:S6 P po qu H)(h:SqT K H a xs):SqT K H' a xs:=by
 obtain⟨ps,hP,_⟩:=t
 rcases h with(h | ⟨o,h⟩) | h
 ·exact .inl (.inl (g a _ (fun z=>by rw[z,hP]at h;cases h) h))
 ·exact .inl (.inr ⟨o,g a _ (fun z=>by rw[z,hP]at h;cases h) h⟩)
 ·exact .inr h
theorem Sq.grow {K:W.Frag}{P a:Addr}{H H':Hp}{ns:List Int}{po:Pos}{qu:Str}(h:Sq K H a ns)(g:S0 P H H')(t:S6 P po qu H):Sq K H' a ns:=h.elim (fun h=>.inl (S0.sqL g t h)) fun h=>.inr (S0.sqT g t h)
theorem aL4.one {X:Cx}{x:Str}{j:Nat}{scope:R8}{cl:List (Str × Addr)}(h:X.N[j]?=some x/\(X.env.scope.names.lookup x=some .cell\/X.env.scope.names.lookup x=some .free)/\(cl.lookup x).isSome=true/\(scope.names.lookup x=some .cell\/scope.names.lookup x=some .free)) :
  aL4 X [x] [some j] scope cl:=⟨rfl,fun i j' y e1 e2=>by
 cases i with
 | zero =>
  have e1':x=y:=by simpa using e1
  have e2':j=j':=by simpa using e2
  subst e1' e2'
  exact h
 | succ i=>simp at e1⟩
theorem bT3 {X:Cx}{a b:Expr}{pos:Pos}{ta tb:TE}(K:W.Frag)(hK:X.K=K)(ha:PE X a ta)(hb:PE X b tb)(hs:aQ3 b):PE X (.Subscript a b pos) (tOp (rIx K) ta tb):=by
 cases hK
 exact C8 bx0 ha hb hs
section
variable {P:j8} {w:x6} {K:W.Frag} {mg:Str->Option c6} {base:Heap}
def bM7 (K:W.Frag)(CB PT:Addr):Sp:=fun vs H Q E=>∃ (a:Addr) (ns:List Int),vs=[.ref a]/\Sq K H a ns /\
 (S9 ns->Tb PT H/\∀ (zs:List Int) (D:Addr) (H':Hp),S0 PT H H'->Tb PT H'->H' D=some (.lst (zs.map V.int))->zs.Perm (rng ns.length)->zs.Pairwise (ole ns)->Q (.ref D) H')/\(¬ S9 ns->E (.ref CB) none H)
theorem cc7:B6 ["tally"] ["tally"] (j5 aB7):=⟨rfl,rfl,rfl,by decide +kernel,rfl,by decide +kernel,by decide +kernel⟩
theorem bU5 {f fT CB c PT:Addr} {fd fdT:u0} {tk:Tok} (F:Fun K "order_of" "order_of" aB7 f fd) (hc:fd.code=.ref c) (LB:as4 base mg c PT) (B:Bn mg) (FT:Fun K "check_tally" "check_tally" am5 fT fdT) (bT:Binds K fdT ["tally"] []) (mT:mg "check_tally"=some (.ref fT))
  (mM:mg "MOST_PLACES"=some (.int 24 tk)) (mB:mg "BadTally"=some (.ref CB)) (cB:ae7 K CB):A8 P w K mg base (CXE P w) 2 f fd ["tally"] (bM7 K CB PT):=by
 have GT:A8 P w K mg base (CXE P w) 1 fT fdT ["tally"] (aI8 K CB):=aO3 FT B mM mB cB
 refine F.okXC hc cc7 (fun vs H Q E h=>?_) (fun A outer s H vs Q E hr h=>?_)
 ·obtain⟨a,ns,rfl,_⟩:=h
  rfl
 ·obtain⟨a,ns,rfl,hS,h1,h2⟩:=h
  have hsl:=L3
  refine⟨_,i4 (U0 (q8 GT hr (by rfl) mT FT.kp bT .nil an3 (b8 (pv 0) c9)))
   (k7 (A9 (bl3 (p := "place") (N' := ["tally"]) (lk := [some 0]) rfl hr.depth (by rfl) B.sorted (b8 (bF8 (by rfl) B.range (b8 (m4 u7 (by rfl) B.len PySem.boot_len (b8 (pv 0) c9)) c9)) c9)
    LB rfl (by rfl) (by rfl) rfl rfl rfl (by exact⟨rfl,trivial⟩) (by rfl) (by exact aL4.one ⟨rfl,Or.inl rfl,rfl,Or.inr rfl⟩) rfl (fun _ _ _ _=>rfl)
    (fun _ _ _ _=>G0 (b8 (ab3 T8 (bT3 K rfl (pv 1) (pv 0) (fun _ _=>rfl))) (b8 (pv 0) c9)))))),?_⟩
  refine⟨_,rfl,a,ns,rfl,hS,fun ht=>?_,h2⟩
  obtain⟨tb,q⟩:=h1 ht
  refine⟨_,rfl,a,_,rfl,hS,(ns.map V.int).length,rfl,by rw[b9];have:=ht.2;omega,fun r hr0=>?_⟩
  have s0:=d9 (o:=.rng 0 ((ns.map V.int).length:Int)) hr0
  have tb1:Tb PT (upd H r (.rng 0 ((ns.map V.int).length:Int))):=tb.same s0
  refine⟨r,(ns.map V.int).length,bl5 ns,rfl,c8,by rw[b9];have:=ht.2;omega,bH1 ns,tb1,fun H2 g2 tb2=>⟨fun H3 z sm hz=>?_,fun H' D zs sm hD hp hs=>?_⟩⟩
  ·have hS3:Sq K H3 a ns:=((hS.same s0).grow g2 tb1).same sm
   rw[b9]at hz
   have hat:atI (ns.map V.int) (z:Int)=some (.int (ns.getD z 0)):=B3 (j:=z) (by simp[hz])
   have fin:∀ k,H3 k=none->(∃ k',(V.ref k:V)=.ref k'/\(upd H3 k (.tup [.int (-(ns.getD z 0)),.int z])) k'=some (.tup ((bl5 ns z).map V.int))/\u9 H3 (upd H3 k (.tup [.int (-(ns.getD z 0)),.int z]))):=fun k hk=>⟨k,rfl,c8,d9 hk⟩
   rcases hS3 with h3 | h3
   ·exact⟨_,rfl,_,rfl,.inl ⟨a,_,_,_,rfl,rfl,h3,hat,_,rfl,_,rfl,(by show 2<=i9;decide),fin⟩⟩
   ·exact⟨_,rfl,_,rfl,.inr (.inl ⟨a,_,_,_,rfl,rfl,h3,hat,_,rfl,_,rfl,(by show 2<=i9;decide),fin⟩)⟩
  ·have sD:=d9 (o:=.lst (zs.map V.int)) hD
   rw[b9]at hp
   exact q zs D _ (((s0.grow PT).trans g2).trans ((sm.trans sD).grow PT)) (tb2.same (sm.trans sD)) c8 hp hs
end
theorem an5 (ns:List Int)(k:Nat):ae4 (ns.map V.int) (some (k:Int)) none=(ns.drop k).map V.int:=by rw[av4,aF9]
theorem aj9 (ns:List Int)(k:Nat):ae4 (ns.map V.int) none (some (k:Int))=(ns.take k).map V.int:=by rw[aP5,aG0]
theorem Q6 {ns:List Int}{i:Nat}{x:V}(h:(ns.map V.int)[i]?=some x):∃ z:Int,ns[i]?=some z/\x=V.int z:=by
 rw[o9]at h
 cases e:ns[i]? with
 | none=>rw[e]at h;cases h
 | some z=>rw[e]at h;cases h;exact⟨z,rfl,rfl⟩
theorem ag9 {ns:List Int}{j:Nat}(h:j<ns.length):atI (ns.map V.int) (j:Int)=some (.int (ns.getD j 0)):=B3 (j:=j) (by simp[h])
theorem aV9 {K:W.Frag}{H:Hp}{a:Addr}{ns:List Int}{j:Nat}{Q:VK}(h:Sq K H a ns)(hj:j<ns.length)(q:Q (.int (ns.getD j 0)) H):rIx K (.ref a) (.int j) H Q:=
 h.elim (fun h=>.inl ⟨a,_,_,_,rfl,rfl,h,ag9 hj,q⟩) fun h=>.inr (.inl ⟨a,_,_,_,rfl,rfl,h,ag9 hj,q⟩)
theorem aq8 {P:j8}{w:x6}{X:Cx}:av6 (CXE P w) X E0:=fun _ _ _ _ _ _ _ h=>by
 obtain⟨_,_,_,_,_,_,_,_,_,_,_,hE⟩:=h
 exact hE.elim
theorem bg6 (z:Int):(PyData.int z).canLay0=true:=by simp[PyData.canLay0]
theorem bh8 (z:Int):(PyData.int z).depth<=8:=by simp[PyData.depth]
theorem bJ9 {K:W.Frag}{A:u4}{H:Hp}{Q:VK}{l:Addr}{es:List Int}{z:Int}(hun:A.units+64<ap5)(hl:SqL K H l (es.map V.int))(q:Q (.bl (decide (z∈es))) H):ba4 K A false (.int z) (.ref l) H Q:=by
 refine⟨l,_,.int z,es.map .int,rfl,.inl hl,Dt.mkInt,F2.ints es,bg6 z,lay_ints es,aZ3 hun (A4 (bh8 z) (by decide)),?_⟩
 rw[ar8,if_neg k9]
 exact q
theorem bb1 {K:W.Frag}{A:u4}{H:Hp}{Q:VK}{l:Addr}{es:List Int}{z:Int}(hun:A.units+64<ap5)(hl:SqL K H l (es.map V.int))(q:Q (.bl (!decide (z∈es))) H):ba4 K A true (.int z) (.ref l) H Q:=by
 refine⟨l,_,.int z,es.map .int,rfl,.inl hl,Dt.mkInt,F2.ints es,bg6 z,lay_ints es,aZ3 hun (A4 (bh8 z) (by decide)),?_⟩
 rw[ar8,if_pos rfl]
 exact q
def X9 (ps zs:List Int):List Int:=zs.filter fun x=>!decide (x∈ps)
theorem aJ3 (p:Int)(zs:List Int):X9 [p] zs=rest zs p:=by
 unfold X9 rest
 congr 1
 funext x
 by_cases h:x=p<;>simp[h]
theorem aK1 {PT l:Addr}{H H':Hp}{po:Pos}{qu:Str}(g:S0 PT H H')(t:S6 PT po qu H')(h:H' l=none):H l=none:=by
 cases e:H l with
 | none=>rfl
 | some o =>
  by_cases z:l=PT
  ·obtain⟨ps,hP,_⟩:=t
   rw[z,hP]at h
   cases h
  ·rw[g l o z e]at h
   cases h
section
variable {P:j8} {w:x6} {K:W.Frag} {mg:Str->Option c6} {base:Heap}
def aN1 (K:W.Frag)(PT:Addr):Sp:=fun vs H Q _=>∃ (a pa:Addr) (ns ps:List Int) (k:Nat),vs=[.ref a,.int k,.ref pa]/\Sq K H a ns/\S9 ns/\SqL K H pa (ps.map V.int)/\Tb PT H /\
 ∀ (zs:List Int) (D:Addr) (H':Hp),S0 PT H H'->Tb PT H'->H D=none->zs.Perm (rng ns.length)->zs.Pairwise (ole ns)->H' D=some (.lst (((X9 ps zs).take k).map V.int))->Q (.ref D) H'
theorem bE8:B6 ["tally","many","passed_over"] ["tally","many","passed_over"] (j5 ag0):=⟨rfl,rfl,rfl,by decide +kernel,rfl,by decide +kernel,by decide +kernel⟩
theorem aU7 {f fO fT CB c PT:Addr} {fd fdO fdT:u0} {tk:Tok} (F:Fun K "first_of_order" "first_of_order" ag0 f fd) (B:Bn mg) (FO:Fun K "order_of" "order_of" aB7 fO fdO) (bO:Binds K fdO ["tally"] []) (mO:mg "order_of"=some (.ref fO)) (hc:fdO.code=.ref c) (LB:as4 base mg c PT)
  (FT:Fun K "check_tally" "check_tally" am5 fT fdT) (bT:Binds K fdT ["tally"] []) (mT:mg "check_tally"=some (.ref fT)) (mM:mg "MOST_PLACES"=some (.int 24 tk)) (mB:mg "BadTally"=some (.ref CB)) (cB:ae7 K CB):A8 P w K mg base (CXE P w) 3 f fd ["tally","many","passed_over"] (aN1 K PT):=by
 have GO:A8 P w K mg base (CXE P w) 2 fO fdO ["tally"] (bM7 K CB PT):=bU5 FO hc LB B FT bT mT mM mB cB
 refine F.okX bE8 (fun vs H Q E h=>?_) (fun cdv A outer s H vs Q E hr h=>?_)
 ·obtain⟨a,pa,ns,ps,k,rfl,_⟩:=h
  rfl
 ·obtain⟨a,pa,ns,ps,k,rfl,hS,ht,hpa,tb,q⟩:=h
  have hsl:=L3
  have hun:=hr.units
  have t2:=ht.2
  have nd2:(["place","passed_over"]:List Str).Nodup:=by decide +kernel
  refine⟨_,k7 (A9 (O4 al4 (O9 (N':=["place","passed_over"]) (lk:=[none,some 2]) rfl (R4 (q8 GO hr (by rfl) mO FO.kp bO .nil (aq8 (P:=P) (w:=w)) (b8 (pv 0) c9))) (by rfl) rfl (by decide +kernel) (by exact⟨rfl,trivial⟩) (by rfl) (by exact LkL.ok ⟨⟨rfl,Or.inl rfl,rfl,Or.inl rfl⟩,trivial⟩)
   (fun _ _ _=>y7 (i:=0) nd2 rfl (Or.inl rfl)) (fun _ _ _=>ag2 (A6 (ba9 K hr.around rfl rfl) (pv 0) (pv 1) (by rfl))) (fun _ _ _=>pv 0)) U1 (Q4 (pv 1)))),?_⟩
  refine⟨_,rfl,a,ns,rfl,hS,fun _=>⟨tb,fun zs D1 H1 g1 tb1 gD hp hs=>⟨D1,rfl,⟨_,SqL.of gD⟩,fun D hD=>?_⟩⟩,fun h=>absurd ht h⟩
  have hzl:zs.length=ns.length:=by rw[hp.length_eq,ab2]
  have hpa1:=S0.sqL g1 tb hpa
  refine S5 (K:=K) (a:=D1) (D:=D) (ys:=zs.map V.int) (fun i xs σ' H'=>(∃ v,σ'=[v,some (.ref pa)])/\u9 H1 H'/\H' D=some (.lst xs)/\xs=(X9 ps (zs.take i)).map V.int) ⟨⟨none,rfl⟩,d9 hD,c8,rfl⟩ (by rw[b9];omega)
   (fun i xs σ' H' hi ⟨_, s6, h6, e6⟩ => ⟨SqL.of (s6 _ _ gD), h6, by
    rw[e6,b9]
    have:=K6 (fun x=>!decide (x∈ps)) (zs.take i)
    rw[o4]at this
    unfold X9
    omega⟩) ?_ ?_
  ·rintro i xs x σ' H' N kN hx ⟨⟨v,rfl⟩,s6,h6,rfl⟩
   obtain⟨z,hz,rfl⟩:=Q6 hx
   refine B2 ?_
   refine⟨_,rfl,_,rfl,bb1 hun (s6.seq hpa1) ⟨_,rfl,?_⟩⟩
   have et:X9 ps (zs.take (i+1))=X9 ps (zs.take i)++X9 ps [z]:=by
    unfold X9
    rw[C3,hz,af1,O1]
   by_cases hm:z∈ps
   ·rw[decide_eq_true hm]
    refine K3 ?_
    refine kN _ _ _ ⟨⟨_,rfl⟩,s6,h6,?_⟩
    have e0:X9 ps [z]=[]:=by unfold X9;rw[an1 (by rw[decide_eq_true hm];decide)];rfl
    rw[et,e0,F4]
   ·rw[decide_eq_false hm]
    refine J0 ?_
    refine⟨_,rfl,h6,kN _ _ _ ⟨⟨_,rfl⟩,s6.upd hD,c8,?_⟩⟩
    have e0:X9 ps [z]=[z]:=by unfold X9;rw[an0 (by rw[decide_eq_false hm];decide)];rfl
    rw[et,e0,j9]
    rfl
  ·rintro xs σ' H3 ⟨⟨v,rfl⟩,s6,h6,rfl⟩
   rw[k8 (by rw[b9];exact d4 _)]at h6
   refine⟨_,rfl,_,rfl,D,_,rfl,SqL.of h6,fun l hl=>?_⟩
   rw[aj9]
   have s7:=s6.trans (d9 (o:=.lst (((X9 ps zs).take k).map V.int)) hl)
   exact q zs l _ (g1.trans (s7.grow PT)) (tb1.same s7) (aK1 (g1.trans (s6.grow PT)) (tb1.same s6) hl) hp hs c8
def bq8 (K:W.Frag):Sp:=fun vs H Q _=>∃ (a ea:Addr) (ns es:List Int) (p:Nat),vs=[.ref a,.int p,.ref ea]/\Sq K H a ns/\ns.length<=24/\SqL K H ea (es.map V.int) /\
 ∀ (l:Addr) (H':Hp),u9 H H'->H l=none->H' l=some (.lst ((V1 ns p es).map V.int))->Q (.ref l) H'
theorem br8:B6 ["tally","place","ends","others"] ["tally","place","ends"] (j5 aq3):=⟨rfl,rfl,rfl,by decide +kernel,rfl,by decide +kernel,by decide +kernel⟩
theorem bw9 {n p:Nat}{z:Int}(h:z∈N6 n p):∃ j:Nat,z=(j:Int)/\j<n:=by
 obtain⟨j,hj,rfl⟩:=u6.mp h
 exact⟨j,rfl,B9.mp (O7.mp hj).1⟩
theorem bm8 (ns es:List Int)(p:Nat):(N6 ns.length p).map (fun z=>ab6 ns es z.toNat)=V1 ns p es:=by
 unfold N6 V1
 rw[V2]
 refine P6 fun j _=>?_
 show ab6 ns es (j:Int).toNat=_
 rw[q0]
set_option maxHeartbeats 1000000 in
theorem bH7 {f:Addr} {fd:u0} (F:Fun K "left_of_others" "left_of_others" aq3 f fd) (B:Bn mg):A8 P w K mg base CX0 1 f fd ["tally","place","ends"] (bq8 K):=by
 refine F.ok br8 (fun vs H Q E h=>?_) (fun cdv A outer s H vs Q E hr h=>?_)
 ·obtain⟨a,ea,ns,es,p,rfl,_⟩:=h
  rfl
 ·obtain⟨a,ea,ns,es,p,rfl,hS,hn,hea,q⟩:=h
  have hsl:=L3
  have hun:=hr.units
  have nd2:(["one","place"]:List Str).Nodup:=by decide +kernel
  have nd3:(["one","tally","ends"]:List Str).Nodup:=by decide +kernel
  refine⟨_,i4 (aq5 (i:=3) br8.nd rfl rfl (by rfl) (N':=["one","place"]) (lk:=[none,some 1]) rfl (Q5 rfl B.range (b8 (m4 u7 (by rfl) B.len PySem.boot_len (b8 (pv 0) c9)) c9)) (by rfl) rfl (by decide +kernel) (by exact⟨rfl,trivial⟩) (by rfl) (by exact LkL.ok ⟨⟨rfl,Or.inl rfl,rfl,Or.inl rfl⟩,trivial⟩)
     (fun _ _ _=>y7 (i:=0) nd2 rfl (Or.inl rfl)) (fun _ _ _=>ag2 (A6 aC9 (pv 0) (pv 1) (C2 _))) (fun _ _ _=>pv 0))
   (k7 (A9 (O9 (N':=["one","tally","ends"]) (lk:=[none,some 0,some 2]) rfl (R4 (pv 3)) (by rfl) rfl (by decide +kernel) (by exact⟨rfl,rfl,trivial⟩) (by rfl) (by exact LkL.ok ⟨⟨rfl,Or.inl rfl,rfl,Or.inl rfl⟩,⟨rfl,Or.inl rfl,rfl,Or.inl rfl⟩,trivial⟩)
     (fun _ _ _=>y7 (i:=0) nd3 rfl (Or.inl rfl)) (fun _ _ _=>Q3) (fun _ _ _=>aU4 (A6 (bg2 K hr.around rfl rfl) (pv 0) (pv 2) (by rfl)) (p8 R9 (U3 K rfl (pv 1) (pv 0) (fun _ _=>rfl)) d8) (U3 K rfl (pv 1) (pv 0) (fun _ _=>rfl)))))),?_⟩
  refine⟨_,rfl,a,_,rfl,hS,(ns.length:Int),congrArg (fun z:Nat=>[V.int (z:Int)]) (b9 ..),by omega,by omega,fun D hD=>?_⟩
  rw[q0]
  refine Z9 (lo:=0) (n:=ns.length) (D:=D) (fun i xs σ' H'=>(∃ v,σ'=[v,some (.int p)])/\u9 H H'/\H' D=some (.lst xs)/\xs=(N6 i p).map V.int) ⟨⟨none,rfl⟩,d9 hD,c8,rfl⟩ (by omega)
   (fun i xs σ' H' hi ⟨_, s6, h6, e6⟩ => ⟨h6, by
    rw[e6,b9]
    unfold N6
    rw[b9]
    have:=K6 (fun j=>decide (j≠p)) (o8 i)
    rw[B0]at this
    exact this⟩) ?_ ?_
  ·rintro i xs σ' H' N kN hi ⟨⟨v,rfl⟩,s6,h6,rfl⟩
   have e0:((0:Int)+(i:Int))=(i:Int):=by omega
   rw[e0]
   refine B2 ?_
   refine⟨_,rfl,_,rfl,rfl,_,rfl,?_⟩
   have et:N6 (i+1) p=N6 i p++(if i=p then [] else [(i:Int)]):=by
    unfold N6
    rw[E7,O1,j9]
    congr 1
    by_cases h:i=p<;>simp[h]
   by_cases hm:i=p
   ·refine aD8 (by rw[hm]) ?_
    refine kN _ _ _ ⟨⟨_,rfl⟩,s6,h6,?_⟩
    rw[et,if_pos hm,F4]
   ·rw[decide_eq_false (show ¬ (V.int (i:Int)=V.int (p:Int)) from fun z=>hm (by injection z;omega))]
    refine J0 ?_
    refine⟨_,rfl,h6,kN _ _ _ ⟨⟨_,rfl⟩,s6.upd hD,c8,?_⟩⟩
    rw[et,if_neg hm,j9]
    rfl
  ·rintro xs σ' H3 ⟨⟨v,rfl⟩,s6,h6,rfl⟩
   have hkl:(N6 ns.length p).length<=24:=by
    unfold N6
    rw[b9]
    have:=K6 (fun j=>decide (j≠p)) (o8 ns.length)
    rw[B0]at this
    omega
   refine⟨_,rfl,D,rfl,⟨_,SqL.of h6⟩,fun D2 hD2=>?_⟩
   have hS3:=hS.same s6
   have hea3:=s6.seq hea
   refine S5 (K:=K) (a:=D) (D:=D2) (ys:=(N6 ns.length p).map V.int) (fun i xs σ' H'=>(∃ v,σ'=[v,some (.ref a),some (.ref ea)])/\u9 H3 H'/\H' D2=some (.lst xs)/\xs=(((N6 ns.length p).take i).map fun z=>ab6 ns es z.toNat).map V.int) ⟨⟨none,rfl⟩,d9 hD2,c8,rfl⟩ (by rw[b9];omega)
    (fun i xs σ' H' hi ⟨_,s8,h8,e8⟩=>⟨SqL.of (s8 _ _ h6),h8,by rw[e8,b9,b9,o4];omega⟩) ?_ ?_
   ·rintro i xs x σ' H' N kN hx ⟨⟨v,rfl⟩,s8,h8,rfl⟩
    obtain⟨z,hz,rfl⟩:=Q6 hx
    obtain⟨j,rfl,hj⟩:=bw9 (i7 hz)
    refine B2 (N5 ?_)
    have fin:∀ y:Int,y=ab6 ns es j->(H' D2=some (.lst ((((N6 ns.length p).take i).map fun z=>ab6 ns es z.toNat).map V.int))/\N ((((N6 ns.length p).take i).map fun z=>ab6 ns es z.toNat).map V.int++[.int y]) [some (.int j),some (.ref a),some (.ref ea)] (upd H' D2 (.lst ((((N6 ns.length p).take i).map fun z=>ab6 ns es z.toNat).map V.int++[.int y])))):=fun y ey=>by
     refine⟨h8,kN _ _ _ ⟨⟨_,rfl⟩,s8.upd hD2,c8,?_⟩⟩
     rw[C3,hz,j9,j9,ey]
     rfl
    refine⟨_,rfl,_,rfl,bJ9 hun (s8.seq hea3) ⟨_,rfl,?_⟩⟩
    by_cases hm:(j:Int)∈es
    ·rw[decide_eq_true hm]
     refine J0 ⟨_,rfl,_,rfl,aV9 (hS3.same s8) hj ⟨_,_,rfl,rfl,fin _ ?_⟩⟩
     unfold ab6
     rw[if_pos hm]
    ·rw[decide_eq_false hm]
     refine K3 ⟨_,rfl,_,rfl,aV9 (hS3.same s8) hj (fin _ ?_)⟩
     unfold ab6
     rw[if_neg hm]
   ·rintro xs σ' H4 ⟨⟨v,rfl⟩,s8,h8,rfl⟩
    rw[k8 (by rw[b9];exact d4 _),bm8]at h8
    exact q D2 H4 (s6.trans s8) (s6.free hD2) h8
end
theorem p40:(0:Int)<10 ^ (X1 40):=Int.pow_pos (by decide)
theorem aa9 (ns:List Int)(j:Nat)(v:Int):(ns.map V.int).set j (.int v)=(ns.set j v).map V.int:=by rw[as9]
theorem bO3 {k:Int}(h0:0<=k)(h1:k<1000):-(2 ^ 63)<=k/\k<2 ^ 63:=by
 constructor<;>omega
theorem bN5 (n:Nat)(z:Int):(A5 n [V.int z]).flatten=(A5 n z).map V.int:=by
 induction n with
 | zero=>rfl
 | succ n ih=>rw[M4,Y4,ih,M4];rfl
section
variable {P:j8} {w:x6} {K:W.Frag} {mg:Str->Option c6} {base:Heap}
def aZ9 (K:W.Frag):Sp:=fun vs H Q _=>∃ (a:Addr) (ns:List Int),vs=[.ref a]/\Sq K H a ns/\ns.length<64/\∀ (l:Addr) (H':Hp),u9 H H'->H l=none->H' l=some (.lst ((up2 ns).reverse.map V.int))->Q (.ref l) H'
theorem bS5:B6 ["tally"] ["tally"] (j5 ah5):=⟨rfl,rfl,rfl,by decide +kernel,rfl,by decide +kernel,by decide +kernel⟩
theorem bg4 {f:Addr}{fd:u0}(F:Fun K "falling" "falling" ah5 f fd)(B:Bn mg):A8 P w K mg base CX0 1 f fd ["tally"] (aZ9 K):=by
 refine F.ok bS5 (fun vs H Q E h=>?_) (fun cdv A outer s H vs Q E hr h=>?_)
 ·obtain⟨a,ns,rfl,_⟩:=h
  rfl
 ·obtain⟨a,ns,rfl,hS,h64,q⟩:=h
  refine⟨_,k7 (A9 (bt2 K rfl (by rfl) B.sorted (b8 (pv 0) c9))),?_⟩
  refine⟨_,rfl,a,ns,rfl,hS,h64,fun l zs hl hp hs=>?_⟩
  rw[bh6 hp hs]
  exact q l _ (d9 hl) hl c8
def aN2 (K:W.Frag):Sp:=fun vs H Q _=>∃ (a:Addr) (ns:List Int) (M r:Nat),vs=[.ref a,.int M,.int r]/\SqL K H a ((up2 ns).reverse.map V.int)/\M<=1000000/\r<=100/\ns.length<64/\∀ (H':Hp),u9 H H'->Q (.int (ah6 ns M r)) H'
theorem be7:B6 ["numbers","most","r","from_others"] ["numbers","most","r"] (j5 X3):=⟨rfl,rfl,rfl,by decide +kernel,rfl,by decide +kernel,by decide +kernel⟩
theorem aU8 {f:Addr} {fd:u0} (F:Fun K "room_among" "room_among" X3 f fd) (B:Bn mg):A8 P w K mg base CX0 1 f fd ["numbers","most","r"] (aN2 K):=by
 refine F.ok be7 (fun vs H Q E h=>?_) (fun cdv A outer s H vs Q E hr h=>?_)
 ·obtain⟨a,ns,M,r,rfl,_⟩:=h
  rfl
 ·obtain⟨a,ns,M,r,rfl,hS,hM,hr1,h64,q⟩:=h
  have hsl:=L3
  have nd2:(["number","most","r"]:List Str).Nodup:=by decide +kernel
  have hlen:(up2 ns).reverse.length=ns.length:=by rw[V0,ay5]
  generalize hz:(up2 ns).reverse=zs at hS hlen
  refine⟨_,i4 (B1 (i:=3) be7.nd rfl (Or.inl rfl) (m4 (R0 rfl) (by rfl) B.sum (by rfl) (b8
    (O9 (N' := ["number", "most", "r"]) (lk := [none, some 1, some 2]) rfl (R4 (O4 al4 (pv 0) (Q4 (pv 2)) U1)) (by rfl) rfl (by decide +kernel) (by exact ⟨rfl, rfl, trivial⟩) (by rfl) (by exact LkL.ok ⟨⟨rfl, Or.inl rfl, rfl, Or.inl rfl⟩, ⟨rfl, Or.inl rfl, rfl, Or.inl rfl⟩, trivial⟩)
     (fun _ _ _=>y7 (i:=0) nd2 rfl (Or.inl rfl)) (fun _ _ _=>Q3) (fun _ _ _=>m4 (ae5 rfl) (by rfl) B.min (by rfl) (b8 (pv 0) (b8 (p8 aj8 (pv 1) (pv 2)) c9)))) c9)))
   (k7 (A9 (p8 R9 (p8 G3 (p8 aj8 (p8 aj8 (pv 1) (pv 2)) (p8 R9 (pv 2) d8)) (pv 3)) (m4 (R0 rfl) (by rfl) B.sum (by rfl) (b8 (O4 al4 (pv 0) U1 (Q4 (pv 2))) c9))))),?_⟩
  refine⟨_,rfl,_,rfl,_,rfl,a,_,rfl,hS,fun c hc=>?_⟩
  rw[an5]
  have s1:=d9 (o:=.lst ((zs.drop r).map V.int)) hc
  refine⟨c,rfl,⟨_,SqL.of c8⟩,fun D hD=>S5 (K:=K) (a:=c) (D:=D) (ys:=(zs.drop r).map V.int) (fun i xs σ' H'=>∃ v,σ'=[v,some (.int M),some (.int r)]/\u9 H H'/\H' c=some (.lst ((zs.drop r).map V.int))/\xs=(((zs.drop r).take i).map (mn ((M:Int)*(r:Int)))).map V.int/\H' D=some (.lst xs))
    ⟨none,rfl,s1.trans (d9 hD),d9 hD _ _ c8,by simp,c8⟩ (by rw[b9,E1];omega) (fun i xs σ' H' hi ⟨_,_,s3,g3,e3,h3⟩=>⟨SqL.of g3,h3,by rw[e3,b9,b9,o4,E1];omega⟩) ?_ ?_⟩
  ·rintro i xs x σ' H' N kN hx ⟨v,rfl,s3,g3,rfl,h3⟩
   obtain⟨z,hz',rfl⟩:=Q6 hx
   refine B2 (N5 ?_)
   refine⟨_,rfl,_,rfl,_,rfl,_,_,rfl,rfl,.inl ⟨by omega,by omega⟩,_,_,rfl,?_⟩
   refine⟨h3,kN _ _ _ ⟨_,rfl,s3.upd (s1.free hD),?_,?_,c8⟩⟩
   ·rw[v7 (o5 c8 hD)];exact g3
   ·rw[C3,hz',j9,j9];rfl
  ·rintro xs σ' H3 ⟨v,rfl,s3,g3,rfl,h3⟩
   rw[k8 (by rw[b9];exact d4 _)]at h3
   refine⟨D,_,rfl,SqL.of h3,?_⟩
   refine⟨_,rfl,_,rfl,_,_,rfl,rfl,.inl ⟨by omega,by omega⟩,_,rfl,_,_,rfl,rfl,_,_,rfl,rfl,.inr ⟨by omega,by omega⟩,_,rfl,_,_,rfl,rfl,?_⟩
   refine⟨_,rfl,_,rfl,_,rfl,a,_,rfl,s3.seq hS,fun c2 hc2=>?_⟩
   rw[aj9]
   refine⟨c2,_,rfl,SqL.of c8,_,_,rfl,rfl,?_⟩
   have fin:=q _ (s3.trans (d9 (o:=.lst ((zs.take r).map V.int)) hc2))
   rw[<- aw8 (M:=M) (r:=r) hz.symm]at fin
   exact fin
end
def wlT:Wl->List V
 | .below p=>[.str "below",.int p]
 | .odd=>[.str "odd"]
 | .wall r=>[.str "wall",.int r]
 | .free=>[]
def cg1 (H:Hp)(v:V)(x:Wl):Prop:=(x=.free/\v=.non)\/(x≠.free/\∃ a,v=.ref a/\H a=some (.tup (wlT x)))
theorem bJ7 {a b:Int}(h:decide (V.int a=V.int b)=true):a=b:=by
 have:=of_decide_eq_true h
 injection this
theorem bx4 {a b:Int}(h:¬ decide (V.int a=V.int b)=true):¬ a=b:=fun e=>h (by rw[e];exact decide_eq_true rfl)
section
variable {P:j8} {w:x6} {K:W.Frag} {mg:Str->Option c6} {base:Heap}
def ay6 (K:W.Frag):Sp:=fun vs H Q _=>∃ (a:Addr) (ns:List Int),vs=[.ref a]/\Sq K H a ns/\ns.length<=100/\∀ (l:Addr) (H':Hp),u9 H H'->H l=none->H' l=some (.lst ((bK7 ns).map V.int))->Q (.ref l) H'
theorem bE9:B6 ["numbers"] ["numbers"] (j5 X2):=⟨rfl,rfl,rfl,by decide +kernel,rfl,by decide +kernel,by decide +kernel⟩
theorem aD1 {f:Addr}{fd:u0}(F:Fun K "places_below" "places_below" X2 f fd)(B:Bn mg):A8 P w K mg base CX0 1 f fd ["numbers"] (ay6 K):=by
 refine F.ok bE9 (fun vs H Q E h=>?_) (fun cdv A outer s H vs Q E hr h=>?_)
 ·obtain⟨a,ns,rfl,_⟩:=h
  rfl
 ·obtain⟨a,ns,rfl,hS,hn,q⟩:=h
  have hsl:=L3
  have nd2:(["place","number"]:List Str).Nodup:=by decide +kernel
  refine⟨_,k7 (A9 (O9 (N':=["place","number"]) (lk:=[none,none]) rfl (bf4 (aq6 (by rfl) B.enum (b8 (pv 0) c9)) (aU3 (by rfl) B.enum (b8 (pv 0) c9))) (by rfl) rfl (by decide +kernel) (by exact trivial) (by rfl) (by exact LkL.ok trivial)
     (fun _ _ _=>aq7 (n:=2) K rfl rfl (E6 (y7 (i:=0) nd2 rfl (Or.inl rfl)) (E6 (y7 (i:=1) nd2 rfl (Or.inl rfl)) U2))) (fun _ _ _=>ag2 (A6 ae0 (pv 1) d8 (C2 _))) (fun _ _ _=>pv 0))),?_⟩
  refine Or.imp (fun h=>⟨_,rfl,h⟩) (fun h=>⟨_,rfl,h⟩) (aE8 (K:=K) (a:=a) (ys:=ns.map V.int) hS (by rw[b9];omega)
   (fun D i xs σ' H'=>(∃ v u,σ'=[v,u])/\u9 H H'/\H' D=some (.lst xs)/\xs=((ap0 ns i).map Int.ofNat).map V.int) (fun D hD=>⟨⟨none,none,rfl⟩,d9 hD,c8,rfl⟩)
   (fun D i xs σ' H' hD hi ⟨_,s1,h1,e1⟩=>⟨s1,h1,by rw[e1,b9,b9];exact bA1 ns i⟩) ?_ ?_)
  ·rintro D i xs x t σ' H' N hD kN hx ⟨⟨v,u,rfl⟩,s1,h1,rfl⟩ ht
   obtain⟨z,hz,rfl⟩:=Q6 hx
   have s2:=d9 (o:=.tup [.int i,.int z]) ht
   refine⟨t,_,rfl,SqT.of c8,rfl,_,_,rfl,_,_,rfl,rfl,?_⟩
   refine⟨_,rfl,_,_,rfl,rfl,_,rfl,?_⟩
   have e3:=bo2 ns i
   rw[as1 hz]at e3
   by_cases hb:z<0
   ·rw[decide_eq_true hb]
    refine J0 ⟨_,rfl,s2 _ _ h1,kN _ _ _ ⟨⟨_,_,rfl⟩,(s1.trans s2).upd hD,c8,?_⟩⟩
    rw[e3,if_pos hb,j9,j9]
    rfl
   ·rw[decide_eq_false hb]
    refine K3 (kN _ _ _ ⟨⟨_,_,rfl⟩,s1.trans s2,s2 _ _ h1,?_⟩)
    rw[e3,if_neg hb,F4]
  ·rintro D xs σ' H' hD ⟨⟨v,u,rfl⟩,s1,h1,rfl⟩
   rw[b9]at h1
   exact q D H' s1 hD h1
def be1 (K:W.Frag)(CB:Addr):Sp:=fun vs H Q E=>∃ (a:Addr) (ns:List Int) (M:Nat),vs=[.ref a,.int M]/\Sq K H a ns/\M<=1000000/\(S9 ns->∀ (v:V) (x:Wl) (H':Hp),u9 H H'->bB0 ns M x->cg1 H' v x->Q v H')/\(¬ S9 ns->E (.ref CB) none H)
theorem ay8:B6 ["tally","most","below","numbers","r"] ["tally","most"] (j5 af8):=⟨rfl,rfl,rfl,by decide +kernel,rfl,by decide +kernel,by decide +kernel⟩
set_option maxHeartbeats 1000000 in
theorem bu7 {f fT fF fA fβ CB:Addr} {fd fdT fdF fdA fdβ:u0} {tk:Tok} (F:Fun K "wall_with" "wall_with" af8 f fd) (B:Bn mg) (FT:Fun K "check_tally" "check_tally" am5 fT fdT) (bT:Binds K fdT ["tally"] []) (mT:mg "check_tally"=some (.ref fT))
  (FF:Fun K "falling" "falling" ah5 fF fdF) (bF:Binds K fdF ["tally"] []) (mF:mg "falling"=some (.ref fF)) (FA:Fun K "room_among" "room_among" X3 fA fdA) (bA:Binds K fdA ["numbers","most","r"] []) (mA:mg "room_among"=some (.ref fA))
  (Fβ:Fun K "places_below" "places_below" X2 fβ fdβ) (bβ:Binds K fdβ ["numbers"] []) (mβ:mg "places_below"=some (.ref fβ))
  (mM:mg "MOST_PLACES"=some (.int 24 tk)) (mB:mg "BadTally"=some (.ref CB)) (cB:ae7 K CB):A8 P w K mg base (CXE P w) 2 f fd ["tally","most"] (be1 K CB):=by
 have GT:A8 P w K mg base (CXE P w) 1 fT fdT ["tally"] (aI8 K CB):=aO3 FT B mM mB cB
 have GF:A8 P w K mg base CX0 1 fF fdF ["tally"] (aZ9 K):=bg4 FF B
 have GA:A8 P w K mg base CX0 1 fA fdA ["numbers","most","r"] (aN2 K):=aU8 FA B
 have GL:A8 P w K mg base CX0 1 fβ fdβ ["numbers"] (ay6 K):=aD1 Fβ B
 refine F.okX ay8 (fun vs H Q E h=>?_) (fun cdv A outer s H vs Q E hr h=>?_)
 ·obtain⟨a,ns,M,rfl,_⟩:=h
  rfl
 ·obtain⟨a,ns,M,rfl,hS,hM,h1,h2⟩:=h
  have hsl:=L3
  refine⟨_,i4 (U0 (q8 GT hr (by rfl) mT FT.kp bT .nil an3 (b8 (pv 0) c9)))
    (i4 (B1 (i:=2) ay8.nd rfl (Or.inl rfl) (q8 GL hr (by rfl) mβ Fβ.kp bβ .nil G4 (b8 (pv 0) c9)))
    (i4 (G7 (aC1 (pv 2) (fun _=>rfl)) (k7 (A9 (G0 (b8 aC3 (b8 (C8 P0 (pv 2) d8 (fun _ _=>rfl)) c9))))) C7)
    (i4 (G7 (A6 W6 (p8 L7 (m4 (aK7 rfl) (by rfl) B.sum (by rfl) (b8 (pv 0) c9)) d8) d8 (C2 _)) (k7 (A9 (G0 (b8 aC3 c9)))) C7)
    (i4 (B1 (i:=3) ay8.nd rfl (Or.inl rfl) (q8 GF hr (by rfl) mF FF.kp bF .nil G4 (b8 (pv 0) c9)))
    (i4 (V7 bs9 rfl (aJ1 rfl B.range (b8 d8 (b8 (p8 G3 (m4 u7 (by rfl) B.len PySem.boot_len (b8 (pv 3) c9)) d8) c9))) (y7 (i := 4) ay8.nd rfl (Or.inl rfl))
     (k7 (G7 (A6 ae0 (q8 GA hr (by rfl) mA FA.kp bA .nil G4 (b8 (pv 3) (b8 (pv 1) (b8 (pv 4) c9)))) d8 (C2 _)) (k7 (A9 (G0 (b8 aC3 (b8 (pv 4) c9))))) C7)))
    (k7 (A9 au6))))))),?_⟩
  refine⟨_,rfl,a,ns,rfl,hS,fun ht=>?_,h2⟩
  have t2:=ht.2
  refine⟨_,rfl,a,ns,rfl,hS,by omega,fun bl H1 s1 hbl g1=>?_⟩
  refine⟨_,rfl,_,.inl ⟨_,SqL.of g1,rfl⟩,?_⟩
  unfold bK7 at g1 ⊢
  cases hb:ap0 ns ns.length with
  | cons p ps =>
   rw[hb]at g1
   refine J0 ⟨_,rfl,bl,_,_,_,rfl,rfl,SqL.of g1,B3 (j:=0) rfl,(by show 2<=i9;decide),fun q hq=>?_⟩
   exact h1 ht _ (.below p) _ (s1.trans (d9 hq)) (aF4 hb) (.inr ⟨by simp,q,rfl,c8⟩)
  | nil =>
   have hall:AllP ns:=aQ2 hb
   refine K3 ?_
   refine⟨_,rfl,a,ns,rfl,hS.same s1,_,_,rfl,rfl,(by show (0:Int)<2;decide),rfl,_,rfl,?_⟩
   refine am7 (fun h=>?_) (fun h=>?_)
   ·exact⟨(by show 1<=i9;decide),fun p hp=>h1 ht _ .odd _ (s1.trans (d9 hp)) ⟨hall,bJ7 h⟩ (.inr ⟨by simp,p,rfl,c8⟩)⟩
   ·have hev:=bx4 h
    refine⟨_,rfl,a,ns,rfl,hS.same s1,by omega,fun l H2 s2 hl g2=>?_⟩
    refine⟨_,rfl,l,_,rfl,.inl (SqL.of g2),_,_,rfl,rfl,1,((ns.length:Int)+1),by rw[b9,V0,ay5],⟨by omega,by omega,by omega,by omega⟩,?_⟩
    rw[show ((ns.length:Int)+1 - 1).toNat=ns.length by omega]
    refine Y7 (lo:=1) (n:=ns.length) (fun i σ H3=>∃ e4,σ=[some (.ref a),some (.int M),some (.ref bl),some (.ref l),e4]/\u9 H2 H3/\∀ k,1<=k->k<i+1->0<=ah6 ns M k) ⟨none,rfl,u9.refl H2,fun k k1 k2=>by omega⟩ ?_ ?_
    ·rintro i σ H3 hi ⟨e4,rfl,s3,hrm⟩
     have e0:((1:Int)+(i:Int))=((i+1:Nat):Int):=by omega
     rw[e0]
     refine B2 ?_
     refine⟨_,rfl,_,rfl,_,rfl,l,ns,M,i+1,rfl,SqL.of (s3 _ _ g2),hM,by omega,by omega,fun H4 s4=>⟨_,_,rfl,rfl,_,rfl,?_⟩⟩
     refine am7 (fun h=>?_) (fun h=>?_)
     ·refine⟨_,rfl,(by show 2<=i9;decide),fun p hp=>?_⟩
      exact h1 ht _ (.wall (i+1)) _ ((((s1.trans s2).trans s3).trans s4).trans (d9 hp)) ⟨hall,hev,by omega,by omega,of_decide_eq_true h,hrm⟩ (.inr ⟨by simp,p,rfl,c8⟩)
     ·have h':¬ ah6 ns M (i+1)<0:=fun q=>h (decide_eq_true q)
      refine⟨_,rfl,s3.trans s4,fun k k1 k2=>?_⟩
      rcases C9 k (i+1) with l1 | l1
      ·exact hrm k k1 l1
      ·rw[show k=i+1 by omega];omega
    ·rintro σ H3 ⟨e4,rfl,s3,hrm⟩
     exact h1 ht _ .free _ ((s1.trans s2).trans s3) ⟨hall,hev,fun k k1 k2=>hrm k k1 (by omega)⟩ (.inl ⟨rfl,rfl⟩)
def bq3 (K:W.Frag)(CB:Addr):Sp:=fun vs H Q E=>∃ (a:Addr) (ns:List Int),vs=[.ref a]/\Sq K H a ns/\(S9 ns->∀ (v:V) (x:Wl) (H':Hp),u9 H H'->bc9 ns x->cg1 H' v x->Q v H')/\(¬ S9 ns->E (.ref CB) none H)
theorem bS0:B6 ["tally"] ["tally"] (j5 aw2):=⟨rfl,rfl,rfl,by decide +kernel,rfl,by decide +kernel,by decide +kernel⟩
theorem bH2 {f fω fT fF fA fβ CB:Addr}{fd fdω fdT fdF fdA fdβ:u0}{tk:Tok}(F:Fun K "wall_of" "wall_of" aw2 f fd)(B:Bn mg)(FT:Fun K "check_tally" "check_tally" am5 fT fdT)(bT:Binds K fdT ["tally"] [])(mT:mg "check_tally"=some (.ref fT))
  (FF:Fun K "falling" "falling" ah5 fF fdF)(bF:Binds K fdF ["tally"] [])(mF:mg "falling"=some (.ref fF))(FA:Fun K "room_among" "room_among" X3 fA fdA)(bA:Binds K fdA ["numbers","most","r"] [])(mA:mg "room_among"=some (.ref fA))
  (Fβ:Fun K "places_below" "places_below" X2 fβ fdβ)(bβ:Binds K fdβ ["numbers"] [])(mβ:mg "places_below"=some (.ref fβ))(Fω:Fun K "wall_with" "wall_with" af8 fω fdω)(bω:Binds K fdω ["tally","most"] [])(mω:mg "wall_with"=some (.ref fω))
  (mM:mg "MOST_PLACES"=some (.int 24 tk))(mB:mg "BadTally"=some (.ref CB))(cB:ae7 K CB):A8 P w K mg base (CXE P w) 3 f fd ["tally"] (bq3 K CB):=by
 have GW:A8 P w K mg base (CXE P w) 2 fω fdω ["tally","most"] (be1 K CB):=bu7 Fω B FT bT mT FF bF mF FA bA mA Fβ bβ mβ mM mB cB
 refine F.okX bS0 (fun vs H Q E h=>?_) (fun cdv A outer s H vs Q E hr h=>?_)
 ·obtain⟨a,ns,rfl,_⟩:=h
  rfl
 ·obtain⟨a,ns,rfl,hS,h1,h2⟩:=h
  refine⟨_,k7 (A9 (q8 GW hr (by rfl) mω Fω.kp bω .nil an3 (b8 (pv 0) (b8 d8 c9)))),?_⟩
  exact⟨_,rfl,a,ns,1,rfl,hS,by decide,fun ht v x H' s' hx hv=>h1 ht v x H' s' (bd5 hx) hv,h2⟩
end
theorem aE0 {PT l:Addr}{H H':Hp}{xs:List V}{po:Pos}{qu:Str}(g:S0 PT H H')(t:S6 PT po qu H)(h:H l=some (.lst xs)):H' l=some (.lst xs):=by
 obtain⟨ps,hP,_⟩:=t
 exact g l _ (fun z=>by rw[z,hP]at h;cases h) h
theorem aK0 {K:W.Frag}{PT:Addr}{H H':Hp}{po:Pos}{qu:Str}(g:S0 PT H H')(t:S6 PT po qu H):∀ {zs:List V} {ks:List (List Int)},C1 K H zs ks->C1 K H' zs ks
 | _,_,.nil=>.nil
 | _,_,.cons ⟨a,e,h⟩ r=>.cons ⟨a,e,S0.sqT g t h⟩ (aK0 g t r)
section
variable {P:j8} {w:x6} {K:W.Frag} {mg:Str->Option c6} {base:Heap}
theorem bG5:∀ n:Nat,n<=11->(U4 n).length<=55:=by decide +kernel
theorem ca4 {n:Nat}(hn:n<=11){ks:List (List Int)}(nd:ks.Nodup)(h:∀ k∈ks,Up n k):ks.length<=55:=
 A4 (aD2 nd fun k hk=>by
  obtain⟨i,j,h1,h2,rfl⟩:=h k hk
  exact bf6 h1 h2) (bG5 n hn)
theorem ak1.len55 {ns ps left:List Int}{ks:List (List Int)}(h:ak1 ns ps left ks)(hn:ns.length<=11):ks.length<=55:=by
 have:=ca4 hn h.nodup fun k hk=>by
  obtain⟨k',hk',rfl⟩:=u6.mp hk
  exact(h.ends k' hk').up
 rw[b9]at this
 exact this
noncomputable def aW9 (ns:List Int)(p:Nat)(es:List Int):List (List Int):=star p es++bw4 (ns.length - 1) (V1 ns p es) (N6 ns.length p)
def bq9 (K:W.Frag)(PT:Addr):Sp:=fun vs H Q _=>∃ (a ea:Addr) (ns es:List Int) (p:Nat),vs=[.ref a,.int p,.ref ea]/\Sq K H a ns/\S9 ns/\ns.length<=11/\p<ns.length/\SqL K H ea (es.map V.int)/\es.Nodup/\es.length<=24/\(∀ z∈es,0<=z/\z<ns.length/\z≠p)/\(es.length:Int)=ns.getD p 0/\Gr (V1 ns p es)/\Tb PT H /\
 ∀ (r t:Addr) (zs:List V) (ks:List (List Int)) (H':Hp),S0 PT H H'->Tb PT H'->H' r=some (.tup [.int ns.length,.ref t])->H' t=some (.tup zs)->C1 K H' zs ks->ks.Perm ((aW9 ns p es).map up)->ks.Pairwise (fun a b=>Tim.K2 b a=false)->tal ns.length ks=ns->(∀ k∈ks,Up ns.length k)->ks.Nodup->Q (.ref r) H'
theorem aj1:B6 ["tally","place","ends","ties","places","left","chosen"] ["tally","place","ends"] (j5 aw4):=⟨rfl,rfl,rfl,by decide +kernel,rfl,by decide +kernel,by decide +kernel⟩
set_option maxHeartbeats 2000000 in
theorem bH9 {f fI fU fV fO fT fF fL CB c PT:Addr} {fd fdI fdU fdV fdO fdT fdF fdL:u0} {tk:Tok} (F:Fun K "laid_around" "laid_around" aw4 f fd) (B:Bn mg) (FI:Fun K "is_place" "is_place" au2 fI fdI) (bI:Binds K fdI ["places","number"] []) (mI:mg "is_place"=some (.ref fI))
    (FU:Fun K "turned_up" "turned_up" sUp fU fdU) (bU:Binds K fdU ["places","tie"] []) (mU:mg "turned_up"=some (.ref fU)) (FV:Fun K "made" "made" aj5 fV fdV) (bV:Binds K fdV ["places","ties"] []) (mV:mg "made"=some (.ref fV))
    (FO:Fun K "order_of" "order_of" aB7 fO fdO) (bO:Binds K fdO ["tally"] []) (mO:mg "order_of"=some (.ref fO)) (hc:fdO.code=.ref c) (LB:as4 base mg c PT)
    (FT:Fun K "check_tally" "check_tally" am5 fT fdT) (bT:Binds K fdT ["tally"] []) (mT:mg "check_tally"=some (.ref fT)) (FF:Fun K "first_of_order" "first_of_order" ag0 fF fdF) (bF:Binds K fdF ["tally","many","passed_over"] []) (mF:mg "first_of_order"=some (.ref fF))
    (FL:Fun K "left_of_others" "left_of_others" aq3 fL fdL) (bL:Binds K fdL ["tally","place","ends"] []) (mL:mg "left_of_others"=some (.ref fL))
    (mM:mg "MOST_PLACES"=some (.int 24 tk)) (mB:mg "BadTally"=some (.ref CB)) (cB:ae7 K CB):A8 P w K mg base CX0 4 f fd ["tally","place","ends"] (bq9 K PT):=by
  have GF:A8 P w K mg base (CXE P w) 3 fF fdF ["tally","many","passed_over"] (aN1 K PT):=aU7 FF B FO bO mO hc LB FT bT mT mM mB cB
  have GL:A8 P w K mg base CX0 3 fL fdL ["tally","place","ends"] (bq8 K):=(bH7 FL B).mono (by decide)
  have GV:A8 P w K mg base CX0 3 fV fdV ["places","ties"] (bq7 K):=bH6 FV B FI bI mI FU bU mU mM
  refine F.ok aj1 (fun vs H Q E h=>?_) (fun cdv A outer s H vs Q E hr h=>?_)
  · obtain⟨a,ea,ns,es,p,rfl,_⟩:=h
    rfl
  · obtain⟨a,ea,ns,es,p,rfl,hS,ht,h11,hp,hea,ne,hel,he,hn,hg,tb,q⟩:=h
    have hsl:=L3
    have t2:=ht.2
    have nd1:(["end","place"]:List Str).Nodup:=by decide +kernel
    have nd2:(["one","place"]:List Str).Nodup:=by decide +kernel
    have nd3:(["one","places"]:List Str).Nodup:=by decide +kernel
    refine⟨_,i4 (aq5 (i:=3) aj1.nd rfl rfl (by rfl) (N':=["end","place"]) (lk:=[none,some 1]) rfl (R4 (pv 2)) (by rfl) rfl (by decide +kernel) (by exact⟨rfl,trivial⟩) (by rfl) (by exact LkL.ok ⟨⟨rfl,Or.inl rfl,rfl,Or.inl rfl⟩,trivial⟩)
          (fun _ _ _=>y7 (i:=0) nd1 rfl (Or.inl rfl)) (fun _ _ _=>Q3) (fun _ _ _=>G0 (b8 (pv 1) (b8 (pv 0) c9))))
      (i4 (B1 (i:=4) aj1.nd rfl (Or.inr rfl) (O9 (N':=["one","place"]) (lk:=[none,some 1]) rfl (Q5 rfl B.range (b8 (m4 u7 (by rfl) B.len PySem.boot_len (b8 (pv 0) c9)) c9)) (by rfl) rfl (by decide +kernel) (by exact⟨rfl,trivial⟩) (by rfl) (by exact LkL.ok ⟨⟨rfl,Or.inl rfl,rfl,Or.inl rfl⟩,trivial⟩)
          (fun _ _ _=>y7 (i:=0) nd2 rfl (Or.inl rfl)) (fun _ _ _=>ag2 (A6 aC9 (pv 0) (pv 1) (C2 _))) (fun _ _ _=>pv 0)))
      (i4 (B1 (i:=5) aj1.nd rfl (Or.inl rfl) (q8 GL hr (by rfl) mL FL.kp bL .nil G4 (b8 (pv 0) (b8 (pv 1) (b8 (pv 2) c9)))))
      (i4 (aU1 PassesOwn.never (aC1 (pv 5) (fun _=>rfl))
        (i4 (B1 (i:=6) aj1.nd rfl (Or.inl rfl) (q8 GF hr (by rfl) mF FF.kp bF .nil (aq8 (P:=P) (w:=w)) (b8 (pv 5) (b8 (C8 P0 (pv 5) d8 (fun _ _=>rfl)) (b8 (X5 (b8 d8 c9)) c9)))))
        (i4 (bT2 (i:=3) aj1.nd rfl (Or.inl rfl) (O9 (N':=["one","places"]) (lk:=[none,some 4]) rfl (R4 (pv 6)) (by rfl) rfl (by decide +kernel) (by exact⟨rfl,trivial⟩) (by rfl) (by exact LkL.ok ⟨⟨rfl,Or.inl rfl,rfl,Or.inl rfl⟩,trivial⟩)
            (fun _ _ _=>y7 (i:=0) nd3 rfl (Or.inl rfl)) (fun _ _ _=>Q3) (fun _ _ _=>G0 (b8 (U3 K rfl (pv 1) d8 (fun _ _=>rfl)) (b8 (U3 K rfl (pv 1) (pv 0) (fun _ _=>rfl)) c9)))) bW1)
        (i4 (B1 (i:=5) aj1.nd rfl (Or.inl rfl) (q8 GL hr (by rfl) mL FL.kp bL .nil G4 (b8 (pv 5) (b8 d8 (b8 (pv 6) c9)))))
        (k7 (B1 (i:=4) aj1.nd rfl (Or.inr rfl) (O4 al4 (pv 4) (Q4 d8) U1)))))))
      (k7 (A9 (q8 GV hr (by rfl) mV FV.kp bV .nil G4 (b8 (m4 u7 (by rfl) B.len PySem.boot_len (b8 (pv 0) c9)) (b8 (pv 3) c9)))))))),?_⟩
    have hun:=hr.units
    refine⟨_,rfl,ea,rfl,⟨_,hea⟩,fun D hD=>S5 (K:=K) (a:=ea) (D:=D) (ys:=es.map V.int) (fun i xs σ' H'=>(∃ v,σ'=[v,some (.int p)])/\u9 H H'/\H' D=some (.lst xs)/\C1 K H' xs (star p (es.take i)))
      ⟨⟨none, rfl⟩, d9 hD, c8, .nil⟩ (by rw [b9]; omega) (fun i xs σ' H' hi ⟨_, s6, h6, t6⟩ => ⟨s6.seq hea, h6, by
        have h7:=t6.len
        unfold star at h7
        rw[b9,o4]at h7
        omega⟩) ?_ ?_⟩
    · rintro i xs x σ' H' N kN hx ⟨⟨v,rfl⟩,s6,h6,t6⟩
      obtain⟨z,hz,rfl⟩:=Q6 hx
      refine B2 (N5 ?_)
      refine⟨_,rfl,_,rfl,(by show 2<=i9;decide),fun t ft=>?_⟩
      have st:=d9 (o:=.tup [.int (p:Int),.int z]) ft
      have h6':=st _ _ h6
      refine⟨h6',kN _ _ _ ⟨⟨_,rfl⟩,(s6.trans st).upd hD,c8,?_⟩⟩
      have et:star p (es.take (i+1))=star p (es.take i)++[[(p:Int),z]]:=by
        unfold star
        rw[C3,hz,j9]
        rfl
      rw[et]
      refine C1.updL h6' (C1.append (st.tups t6) (C1.one (SqT.of ?_)))
      exact c8
    · rintro xs σ' H1 ⟨⟨v,rfl⟩,s1,h1,t1⟩
      rw[k8 (by rw[b9];exact d4 _)]at t1
      have hS1:=hS.same s1
      refine⟨_,rfl,a,_,rfl,hS1,(ns.length:Int),congrArg (fun z:Nat=>[V.int (z:Int)]) (b9 ..),by omega,by omega,fun D2 hD2=>?_⟩
      rw[q0]
      refine Z9 (lo:=0) (n:=ns.length) (D:=D2) (fun i xs σ' H'=>(∃ v,σ'=[v,some (.int p)])/\u9 H1 H'/\H' D2=some (.lst xs)/\xs=(N6 i p).map V.int) ⟨⟨none,rfl⟩,d9 hD2,c8,rfl⟩ (by omega)
        (fun i xs σ' H' hi ⟨_,s6,h6,e6⟩=>⟨h6,by
          rw[e6,b9]
          unfold N6
          rw[b9]
          have:=K6 (fun j=>decide (j≠p)) (o8 i)
          rw[B0]at this
          exact this⟩) ?_ ?_
      · rintro i xs σ' H' N kN hi ⟨⟨v,rfl⟩,s6,h6,rfl⟩
        have e0:((0:Int)+(i:Int))=(i:Int):=by omega
        rw[e0]
        refine B2 ?_
        refine⟨_,rfl,_,rfl,rfl,_,rfl,?_⟩
        have et:N6 (i+1) p=N6 i p++(if i=p then [] else [(i:Int)]):=by
          unfold N6
          rw[E7,O1,j9]
          congr 1
          by_cases h:i=p<;>simp[h]
        by_cases hm:i=p
        · refine aD8 (by rw[hm]) ?_
          refine kN _ _ _ ⟨⟨_,rfl⟩,s6,h6,?_⟩
          rw[et,if_pos hm,F4]
        · rw[decide_eq_false (show ¬ (V.int (i:Int)=V.int (p:Int)) from fun z=>hm (by injection z;omega))]
          refine J0 ?_
          refine⟨_,rfl,h6,kN _ _ _ ⟨⟨_,rfl⟩,s6.upd hD2,c8,?_⟩⟩
          rw[et,if_neg hm,j9]
          rfl
      · rintro xs2 σ' H2 ⟨⟨v2,rfl⟩,s2,h2,rfl⟩
        have s12:=s1.trans s2
        refine⟨_,rfl,_,rfl,_,rfl,a,ea,ns,es,p,rfl,hS.same s12,t2,s12.seq hea,fun l3 H3 s3 f3 g3=>?_⟩
        have s23:=s2.trans s3
        refine⟨fun m σ Ha=>∃ (ks:List (List Int)) (ps left:List Int) (zs:List V) (pa la:Addr) (e6:Option V),σ=[some (.ref a),some (.int p),some (.ref ea),some (.ref D),some (.ref pa),some (.ref la),e6]/\left.length=m/\m<24/\ak1 ns ps left ks/\Gr left/\ks++bw4 m left ps=aW9 ns p es/\Ha D=some (.lst zs)/\C1 K Ha zs ks /\
            Ha pa=some (.lst (ps.map V.int))/\pa≠D/\Ha la=some (.lst (left.map V.int))/\la≠D/\S0 PT H Ha/\Tb PT Ha,
          ⟨ns.length - 1,star p es,N6 ns.length p,V1 ns p es,xs,D2,l3,none,rfl,al7 hp,by omega,ak1.start hp ne he hn,hg,rfl,s23 _ _ h1,s23.tups t1,s3 _ _ h2,(o5 h1 hD2).symm,g3,(o5 (s2 _ _ h1) f3).symm,(s12.trans s3).grow PT,tb.same (s12.trans s3)⟩,?_⟩
        rintro m σ Ha ⟨ks,ps,left,zs,pa,la,e6,rfl,hm,hm2,hI,hG,hF,gD,tD,gp,np,gl,nl,gr,tbA⟩
        have hpl:=hI.len
        refine⟨_,rfl,!(left.map V.int).isEmpty,.inl ⟨_,SqL.of gl,rfl⟩,?_⟩
        cases m with
        | zero =>
          obtain rfl:left=[]:=an2.mp hm
          obtain rfl:ps=[]:=an2.mp hpl.symm
          have hF:ks=aW9 ns p es:=by
            have:ks++[]=aW9 ns p es:=hF
            rw[F4]at this
            exact this
          have hle:=hI.len55 h11
          refine K3 ?_
          refine⟨_,rfl,a,_,rfl,hS.grow gr tb,_,rfl,ns.length,D,zs,ks,by rw[b9];rfl,ht.1,t2,.inl (SqL.of gD),tD,hI.ends,hI.nodup,by omega,fun r t zs2 ks2 H' s' _ _ k1 k2 tt pm so=>?_⟩
          refine q r t zs2 ks2 H' (gr.trans (s'.grow PT)) (tbA.same s') k1 k2 tt (by rw[<- hF];exact pm) so ?_ (fun k hk=>?_) (pm.nodup_iff.mpr hI.nodup)
          · rw[bp8 pm,bQ7 hI.ends]
            exact hI.last
          · obtain⟨k',hk',rfl⟩:=u6.mp (pm.mem_iff.mp hk)
            exact(hI.ends k' hk').up
        | succ m =>
          have h0:0<left.length:=by omega
          have hnn:=aa0 (aE1 hG) h0
          obtain⟨k,hk⟩:∃ k:Nat,left.getD 0 0=(k:Int):=⟨(left.getD 0 0).toNat,by omega⟩
          have at0:atI (left.map V.int) 0=some (.int (k:Int)):=by
            rw[<- hk]
            exact ag9 (j:=0) h0
          have hne:(left.map V.int).isEmpty=false:=by
            cases left with
            | nil=>exact absurd h0 (B8 _)
            | cons _ _=>rfl
          rw[hne]
          refine J0 ⟨_,fun σ' H' h=>⟨m,ac1 m,h⟩,?_⟩
          refine⟨_,rfl,_,rfl,la,_,_,_,rfl,rfl,SqL.of gl,at0,(by show 1<=i9;decide),fun lz fz=>?_⟩
          have sz:=d9 (o:=.lst [.int 0]) fz
          refine⟨la,lz,left,[0],k,rfl,.inl (SqL.of (sz _ _ gl)),⟨by omega,by omega⟩,SqL.of c8,tbA.same sz,fun os D4 Hc gc tbC f4 hp4 hs4 g4=>?_⟩
          have ech:(X9 [0] os).take k=chF left 0:=by
            rw[aJ3,bf9 hp4 hs4]
            unfold chF
            rw[hk,q0]
            rfl
          rw[ech]at g4
          have tbz:=tbA.same sz
          have gDc:=aE0 gc tbz (sz _ _ gD)
          have gpc:=aE0 gc tbz (sz _ _ gp)
          have glc:=aE0 gc tbz (sz _ _ gl)
          have tDc:=aK0 gc tbz (sz.tups tD)
          have grc:=gr.trans ((sz.grow PT).trans gc)
          have n4:D4≠D:=(o5 (sz _ _ gD) f4).symm
          have hcl:(chF left 0).length<=24:=by
            have h1:=aP7 hG h0
            have h2:=bh0 hG h0
            omega
          have hgo:=hI.go hG h0
          have hle:=hgo.len55 h11
          generalize upd Ha lz (.lst [.int 0])=Hz at gc f4
          refine⟨_,rfl,_,rfl,D4,rfl,⟨_,SqL.of g4⟩,fun D5 hD5=>S5 (K:=K) (a:=D4) (D:=D5) (ys:=(chF left 0).map V.int) (fun i xs σ' H'=>(∃ v,σ'=[v,some (.ref pa)])/\u9 Hc H'/\H' D5=some (.lst xs)/\C1 K H' xs (star (ps.getD 0 0) (((chF left 0).take i).map fun z=>ps.getD z.toNat 0)))
            ⟨⟨none, rfl⟩, d9 hD5, c8, .nil⟩ (by rw [b9]; omega) (fun i xs σ' H' hi ⟨_, s6, h6, t6⟩ => ⟨SqL.of (s6 _ _ g4), h6, by
              have h7:=t6.len
              unfold star at h7
              rw[b9,b9,o4]at h7
              omega⟩) ?_ ?_⟩
          · rintro i xs x σ' H' N kN hx ⟨⟨v,rfl⟩,s6,h6,t6⟩
            obtain⟨z,hz,rfl⟩:=Q6 hx
            have hz2:=bc3 (i7 hz)
            obtain⟨j,rfl⟩:∃ j:Nat,z=(j:Int):=⟨z.toNat,by omega⟩
            refine B2 (N5 ?_)
            have hpa6:Sq K H' pa ps:=.inl (SqL.of (s6 _ _ gpc))
            refine⟨_,rfl,aV9 (j:=0) hpa6 (by omega) ⟨_,rfl,_,rfl,aV9 hpa6 (j:=j) (by omega) ⟨(by show 2<=i9;decide),fun t ft=>?_⟩⟩⟩
            have st:=d9 (o:=.tup [.int (ps.getD 0 0),.int (ps.getD j 0)]) ft
            have h6':=st _ _ h6
            refine⟨h6',kN _ _ _ ⟨⟨_,rfl⟩,(s6.trans st).upd hD5,c8,?_⟩⟩
            have et:star (ps.getD 0 0) (((chF left 0).take (i+1)).map fun z=>ps.getD z.toNat 0)=star (ps.getD 0 0) (((chF left 0).take i).map fun z=>ps.getD z.toNat 0)++[[ps.getD 0 0,ps.getD j 0]]:=by
              unfold star
              rw[C3,hz,j9,j9]
              rfl
            rw[et]
            refine C1.updL h6' (C1.append (st.tups t6) (C1.one (SqT.of ?_)))
            exact c8
          · rintro xs5 σ' H5 ⟨⟨v5,rfl⟩,s5,h5,t5⟩
            rw[k8 (by rw[b9];exact d4 _)]at t5
            have gD5:=s5 _ _ gDc
            have hl5:=t5.len
            have hlD:=tDc.len
            rw[p6]at hle
            refine⟨D,D5,zs,xs5,rfl,rfl,gD5,h5,by omega,?_⟩
            have fD:H D=none:=hD
            have gu:S0 PT H (upd H5 D (.lst (zs++xs5))):=by
              intro b o nb hb
              rw[v7 (o5 hb fD)]
              exact(grc.trans (s5.grow PT)) b o nb hb
            have tb6:Tb PT (upd H5 D (.lst (zs++xs5))):=by
              obtain⟨ps',hP,hx⟩:=tbC.same s5
              refine⟨ps',?_,hx.1,hx.2.imp id fun⟨c',e,h⟩=>⟨c',e,by rw[v7 (fun z=>by rw[z,gD5]at h;cases h)];exact h⟩⟩
              rw[v7 (fun z=>by rw[z,gD5]at hP;cases hP)]
              exact hP
            have gl6:(upd H5 D (.lst (zs++xs5))) la=some (.lst (left.map V.int)):=by rw[v7 nl];exact s5 _ _ glc
            have gp6:(upd H5 D (.lst (zs++xs5))) pa=some (.lst (ps.map V.int)):=by rw[v7 np];exact s5 _ _ gpc
            have g46:(upd H5 D (.lst (zs++xs5))) D4=some (.lst ((chF left 0).map V.int)):=by rw[v7 n4];exact s5 _ _ g4
            have gD6:(upd H5 D (.lst (zs++xs5))) D=some (.lst (zs++xs5)):=c8
            have t6:C1 K (upd H5 D (.lst (zs++xs5))) (zs++xs5) (ks++star (ps.getD 0 0) ((chF left 0).map fun z=>ps.getD z.toNat 0)):=C1.updL gD5 (C1.append (s5.tups tDc) t5)
            generalize upd H5 D (.lst (zs++xs5))=H6 at gu tb6 gl6 gp6 g46 gD6 t6 ⊢
            refine⟨_,rfl,_,rfl,la,D4,left,chF left 0,0,rfl,.inl (SqL.of gl6),by omega,SqL.of g46,fun l7 H7 s7 f7 g7=>?_⟩
            refine⟨_,rfl,_,rfl,pa,ps.map V.int,rfl,SqL.of (s7 _ _ gp6),fun l8 f8=>?_⟩
            have ec:ae4 (ps.map V.int) (some 1) none=(ps.drop 1).map V.int:=an5 ps 1
            rw[ec]
            have s8:=d9 (o:=.lst ((ps.drop 1).map V.int)) f8
            have s78:=s7.trans s8
            refine⟨_,ps.drop 1,V1 left 0 (chF left 0),zs++xs5,l8,l7,_,rfl,by rw[al7 h0];omega,by omega,hgo,bA0 hG h0,?_,s78 _ _ gD6,s78.tups t6,c8,(o5 (s7 _ _ gD6) f8).symm,s8 _ _ g7,(o5 gD6 f7).symm,gu.trans (s78.grow PT),tb6.same s78⟩
            rw[aI2]
            exact hF
end
structure aY1 (K:W.Frag) (H:Hp) (b:Addr) (ns:List Int) (ks:List (List Int)):Prop where
 at_:∃ t zs,H b=some (.tup [.int ns.length,.ref t])/\H t=some (.tup zs)/\C1 K H zs ks
 prm:ks.Perm ((aW9 ns 0 (chF ns 0)).map up)
 srt:ks.Pairwise (fun a b=>Tim.K2 b a=false)
 tal_:tal ns.length ks=ns
 ups:∀ k∈ks,Up ns.length k
 nd:ks.Nodup
def cg5 (K:W.Frag)(H:Hp)(r:Addr)(ns:List Int):Prop:=
 (∃ (x:Wl) (b:Addr),x≠.free/\bc9 ns x/\H r=some (.tup [.str "wall",.ref b])/\H b=some (.tup (wlT x))) \/
 (Gr ns/\∃ (b:Addr) (ks:List (List Int)),H r=some (.tup [.str "web",.ref b])/\aY1 K H b ns ks)
section
variable {P:j8} {w:x6} {K:W.Frag} {mg:Str->Option c6} {base:Heap}
def br5 (K:W.Frag)(CB PT:Addr):Sp:=fun vs H Q E=>∃ (a:Addr) (ns:List Int),vs=[.ref a]/\Sq K H a ns/\ns.length<=11/\(S9 ns->Tb PT H/\∀ (r:Addr) (H':Hp),S0 PT H H'->Tb PT H'->cg5 K H' r ns->Q (.ref r) H')/\(¬ S9 ns->E (.ref CB) none H)
theorem br9:B6 ["tally","wall"] ["tally"] (j5 aT4):=⟨rfl,rfl,rfl,by decide +kernel,rfl,by decide +kernel,by decide +kernel⟩
set_option maxHeartbeats 2000000 in
theorem bV0 {f fI fU fV fO fT fF fL fY fW fG fA fβ fω CB c PT:Addr}{fd fdI fdU fdV fdO fdT fdF fdL fdY fdW fdG fdA fdβ fdω:u0}{tk:Tok}(F:Fun K "answered" "answered" aT4 f fd)(B:Bn mg)(FI:Fun K "is_place" "is_place" au2 fI fdI)(bI:Binds K fdI ["places","number"] [])(mI:mg "is_place"=some (.ref fI))
  (FU:Fun K "turned_up" "turned_up" sUp fU fdU)(bU:Binds K fdU ["places","tie"] [])(mU:mg "turned_up"=some (.ref fU))(FV:Fun K "made" "made" aj5 fV fdV)(bV:Binds K fdV ["places","ties"] [])(mV:mg "made"=some (.ref fV))
  (FO:Fun K "order_of" "order_of" aB7 fO fdO)(bO:Binds K fdO ["tally"] [])(mO:mg "order_of"=some (.ref fO))(hc:fdO.code=.ref c)(LB:as4 base mg c PT)
  (FT:Fun K "check_tally" "check_tally" am5 fT fdT)(bT:Binds K fdT ["tally"] [])(mT:mg "check_tally"=some (.ref fT))(FF:Fun K "first_of_order" "first_of_order" ag0 fF fdF)(bF:Binds K fdF ["tally","many","passed_over"] [])(mF:mg "first_of_order"=some (.ref fF))
  (FL:Fun K "left_of_others" "left_of_others" aq3 fL fdL)(bL:Binds K fdL ["tally","place","ends"] [])(mL:mg "left_of_others"=some (.ref fL))(FY:Fun K "laid_around" "laid_around" aw4 fY fdY)(bY:Binds K fdY ["tally","place","ends"] [])(mY:mg "laid_around"=some (.ref fY))
  (FW:Fun K "wall_of" "wall_of" aw2 fW fdW)(bW:Binds K fdW ["tally"] [])(mW:mg "wall_of"=some (.ref fW))(FG:Fun K "falling" "falling" ah5 fG fdG)(bG:Binds K fdG ["tally"] [])(mG:mg "falling"=some (.ref fG))
  (FA:Fun K "room_among" "room_among" X3 fA fdA)(bA:Binds K fdA ["numbers","most","r"] [])(mA:mg "room_among"=some (.ref fA))(Fβ:Fun K "places_below" "places_below" X2 fβ fdβ)(bβ:Binds K fdβ ["numbers"] [])(mβ:mg "places_below"=some (.ref fβ))(Fω:Fun K "wall_with" "wall_with" af8 fω fdω)(bω:Binds K fdω ["tally","most"] [])(mω:mg "wall_with"=some (.ref fω))
  (mM:mg "MOST_PLACES"=some (.int 24 tk))(mB:mg "BadTally"=some (.ref CB))(cB:ae7 K CB):A8 P w K mg base (CXE P w) 5 f fd ["tally"] (br5 K CB PT):=by
 have GF:A8 P w K mg base (CXE P w) 4 fF fdF ["tally","many","passed_over"] (aN1 K PT):=(aU7 FF B FO bO mO hc LB FT bT mT mM mB cB).mono (by decide)
 have GY:A8 P w K mg base CX0 4 fY fdY ["tally","place","ends"] (bq9 K PT):=bH9 FY B FI bI mI FU bU mU FV bV mV FO bO mO hc LB FT bT mT FF bF mF FL bL mL mM mB cB
 have GW:A8 P w K mg base (CXE P w) 4 fW fdW ["tally"] (bq3 K CB):=(bH2 FW B FT bT mT FG bG mG FA bA mA Fβ bβ mβ Fω bω mω mM mB cB).mono (by decide)
 refine F.okX br9 (fun vs H Q E h=>?_) (fun cdv A outer s H vs Q E hr h=>?_)
 ·obtain⟨a,ns,rfl,_⟩:=h
  rfl
 ·obtain⟨a,ns,rfl,hS,h11,h1,h2⟩:=h
  have hsl:=L3
  refine⟨_,i4 (B1 (i:=1) br9.nd rfl (Or.inl rfl) (q8 GW hr (by rfl) mW FW.kp bW .nil an3 (b8 (pv 0) c9)))
   (i4 (G7 (A6 bG8 (pv 1) au6 (C2 _)) (k7 (A9 (G0 (b8 aC3 (b8 (pv 1) c9))))) C7)
   (k7 (A9 (G0 (b8 aC3 (b8 (q8 GY hr (by rfl) mY FY.kp bY .nil G4 (b8 (pv 0) (b8 d8 (b8 (q8 GF hr (by rfl) mF FF.kp bF .nil (aq8 (P:=P) (w:=w)) (b8 (pv 0) (b8 (U3 K rfl (pv 0) d8 (fun _ _=>rfl)) (b8 (X5 (b8 d8 c9)) c9)))) c9)))) c9)))))),?_⟩
  refine⟨_,rfl,a,ns,rfl,hS,fun ht v x H1 s1 hw hv=>?_,h2⟩
  obtain⟨tb,q⟩:=h1 ht
  have t2:=ht.2
  refine⟨_,rfl,rfl,_,rfl,?_⟩
  obtain⟨rfl,rfl⟩ | ⟨hx,b,rfl,gb⟩:=hv
  ·have hG:=bh3 hw
   refine K3 ?_
   have h0:0<ns.length:=ht.1
   have hnn:=aa0 (aE1 hG) h0
   obtain⟨k,hk⟩:∃ k:Nat,ns.getD 0 0=(k:Int):=⟨(ns.getD 0 0).toNat,by omega⟩
   have hS1:=hS.same s1
   have tb1:=tb.same s1
   refine⟨_,rfl,_,rfl,_,rfl,aV9 (j:=0) hS1 h0 ?_⟩
   rw[hk]
   refine⟨(by show 1<=i9;decide),fun lz fz=>?_⟩
   have sz:=d9 (o:=.lst [.int 0]) fz
   refine⟨a,lz,ns,[0],k,rfl,hS1.same sz,ht,SqL.of c8,tb1.same sz,fun os D4 Hc gc tbC f4 hp4 hs4 g4=>?_⟩
   have ech:(X9 [0] os).take k=chF ns 0:=by
    rw[aJ3,bf9 hp4 hs4]
    unfold chF
    rw[hk,q0]
    rfl
   rw[ech]at g4
   have hcl:=aP7 hG h0
   have hlt:=bh0 hG h0
   refine⟨a,D4,ns,chF ns 0,0,rfl,(hS1.same sz).grow gc (tb1.same sz),ht,h11,h0,SqL.of g4,bz9 ns 0,by omega,fun z hz=>bc3 hz,hcl,bA0 hG h0,tbC,fun r t zs ks H5 g5 tb5 k1 k2 tt pm so tl ups nd=>?_⟩
   refine⟨(by show 2<=i9;decide),fun p fp=>?_⟩
   have sp:=d9 (o:=.tup [.str "web",.ref r]) fp
   exact q p _ ((((s1.trans sz).grow PT).trans (gc.trans g5)).trans (sp.grow PT)) (tb5.same sp) (.inr ⟨hG,r,ks,c8,⟨⟨t,zs,sp _ _ k1,sp _ _ k2,sp.tups tt⟩,pm,so,tl,ups,nd⟩⟩)
  ·refine J0 ⟨_,rfl,(by show 2<=i9;decide),fun p fp=>?_⟩
   have sp:=d9 (o:=.tup [.str "wall",.ref b]) fp
   exact q p _ ((s1.trans sp).grow PT) (tb.same (s1.trans sp)) (.inl ⟨x,b,hx,hw,c8,sp _ _ gb⟩)
end
section
variable {P:j8} {w:x6} {K:W.Frag} {mg:Str->Option c6} {base:Heap}
def isR (ns:List Int)(r:Int):Prop:=0<=r/\r<=ns.length
def be2 (K:W.Frag)(CB CN:Addr):Sp:=fun vs H Q E=>∃ (a:Addr) (ns:List Int) (M:Nat) (r:Int),vs=[.ref a,.int M,.int r]/\Sq K H a ns/\M<=1000000/\(S9 ns->isR ns r->∀ H':Hp,u9 H H'->Q (.int (ah6 ns M r.toNat)) H')/\(S9 ns->¬ isR ns r->E (.ref CN) none H)/\(¬ S9 ns->E (.ref CB) none H)
theorem bE7:B6 ["tally","most","r"] ["tally","most","r"] (j5 aj4):=⟨rfl,rfl,rfl,by decide +kernel,rfl,by decide +kernel,by decide +kernel⟩
theorem bu9 {f fT fF fA CB CN:Addr}{fd fdT fdF fdA:u0}{tk:Tok}(F:Fun K "room_with" "room_with" aj4 f fd)(B:Bn mg)(FT:Fun K "check_tally" "check_tally" am5 fT fdT)(bT:Binds K fdT ["tally"] [])(mT:mg "check_tally"=some (.ref fT))
  (FF:Fun K "falling" "falling" ah5 fF fdF)(bF:Binds K fdF ["tally"] [])(mF:mg "falling"=some (.ref fF))(FA:Fun K "room_among" "room_among" X3 fA fdA)(bA:Binds K fdA ["numbers","most","r"] [])(mA:mg "room_among"=some (.ref fA))
  (mM:mg "MOST_PLACES"=some (.int 24 tk))(mB:mg "BadTally"=some (.ref CB))(cB:ae7 K CB)(mN:mg "BadNumber"=some (.ref CN))(cN:ae7 K CN):A8 P w K mg base (CXE P w) 2 f fd ["tally","most","r"] (be2 K CB CN):=by
 have GT:A8 P w K mg base (CXE P w) 1 fT fdT ["tally"] (aI8 K CB):=aO3 FT B mM mB cB
 have GF:A8 P w K mg base CX0 1 fF fdF ["tally"] (aZ9 K):=bg4 FF B
 have GA:A8 P w K mg base CX0 1 fA fdA ["numbers","most","r"] (aN2 K):=aU8 FA B
 refine F.okX bE7 (fun vs H Q E h=>?_) (fun cdv A outer s H vs Q E hr h=>?_)
 ·obtain⟨a,ns,M,r,rfl,_⟩:=h
  rfl
 ·obtain⟨a,ns,M,r,rfl,hS,hM,h1,h2,h3⟩:=h
  refine⟨_,i4 (U0 (q8 GT hr (by rfl) mT FT.kp bT .nil an3 (b8 (pv 0) c9)))
   (i4 (G7 (Q9 (ad8 ab5 ab5 d8 (pv 2) (m4 u7 (by rfl) B.len PySem.boot_len (b8 (pv 0) c9)))) (k7 (Z4 (by rfl) mN cN)) C7)
   (k7 (A9 (q8 GA hr (by rfl) mA FA.kp bA .nil G4 (b8 (q8 GF hr (by rfl) mF FF.kp bF .nil G4 (b8 (pv 0) c9)) (b8 (pv 1) (b8 (pv 2) c9))))))),?_⟩
  refine⟨_,rfl,a,ns,rfl,hS,fun ht=>?_,h3⟩
  have t2:=ht.2
  refine⟨_,rfl,_,_,rfl,rfl,_,rfl,?_⟩
  by_cases hp:(0:Int)<=r
  ·rw[decide_eq_true hp]
   refine J0 ⟨_,rfl,a,_,rfl,hS,_,_,rfl,rfl,_,rfl,?_⟩
   rw[b9]
   by_cases hp':r<=(ns.length:Int)
   ·rw[decide_eq_true hp']
    refine K3 ?_
    obtain⟨k,rfl⟩:∃ k:Nat,r=(k:Int):=⟨r.toNat,by omega⟩
    refine⟨_,rfl,a,ns,rfl,hS,by omega,fun l H1 s1 hl g1=>?_⟩
    refine⟨_,rfl,_,rfl,l,ns,M,k,rfl,SqL.of g1,hM,by omega,by omega,fun H2 s2=>?_⟩
    exact h1 ht ⟨hp,hp'⟩ H2 (s1.trans s2)
   ·rw[decide_eq_false hp']
    exact J0 (h2 ht fun z=>hp' z.2)
  ·rw[decide_eq_false hp]
   exact K3 ⟨_,rfl,J0 (h2 ht fun z=>hp z.1)⟩
def aM8 (K:W.Frag)(CB CN:Addr):Sp:=fun vs H Q E=>∃ (a:Addr) (ns:List Int) (r:Int),vs=[.ref a,.int r]/\Sq K H a ns/\(S9 ns->isR ns r->∀ H':Hp,u9 H H'->Q (.int (L4 ns r.toNat)) H')/\(S9 ns->¬ isR ns r->E (.ref CN) none H)/\(¬ S9 ns->E (.ref CB) none H)
theorem bS2:B6 ["tally","r"] ["tally","r"] (j5 aq1):=⟨rfl,rfl,rfl,by decide +kernel,rfl,by decide +kernel,by decide +kernel⟩
theorem bH3 {f fW fT fF fA CB CN:Addr}{fd fdW fdT fdF fdA:u0}{tk:Tok}(F:Fun K "room" "room" aq1 f fd)(B:Bn mg)(FT:Fun K "check_tally" "check_tally" am5 fT fdT)(bT:Binds K fdT ["tally"] [])(mT:mg "check_tally"=some (.ref fT))
  (FF:Fun K "falling" "falling" ah5 fF fdF)(bF:Binds K fdF ["tally"] [])(mF:mg "falling"=some (.ref fF))(FA:Fun K "room_among" "room_among" X3 fA fdA)(bA:Binds K fdA ["numbers","most","r"] [])(mA:mg "room_among"=some (.ref fA))
  (FW:Fun K "room_with" "room_with" aj4 fW fdW)(bW:Binds K fdW ["tally","most","r"] [])(mW:mg "room_with"=some (.ref fW))
  (mM:mg "MOST_PLACES"=some (.int 24 tk))(mB:mg "BadTally"=some (.ref CB))(cB:ae7 K CB)(mN:mg "BadNumber"=some (.ref CN))(cN:ae7 K CN):A8 P w K mg base (CXE P w) 3 f fd ["tally","r"] (aM8 K CB CN):=by
 have GW:A8 P w K mg base (CXE P w) 2 fW fdW ["tally","most","r"] (be2 K CB CN):=bu9 FW B FT bT mT FF bF mF FA bA mA mM mB cB mN cN
 refine F.okX bS2 (fun vs H Q E h=>?_) (fun cdv A outer s H vs Q E hr h=>?_)
 ·obtain⟨a,ns,r,rfl,_⟩:=h
  rfl
 ·obtain⟨a,ns,r,rfl,hS,h1,h2,h3⟩:=h
  refine⟨_,k7 (A9 (q8 GW hr (by rfl) mW FW.kp bW .nil an3 (b8 (pv 0) (b8 d8 (b8 (pv 1) c9))))),?_⟩
  refine⟨_,rfl,_,rfl,a,ns,1,r,rfl,hS,by decide,fun ht hr' H' s'=>?_,h2,h3⟩
  rw[ad6]
  exact h1 ht hr' H' s'
end
theorem bX6 (M L c:Int)(hM:0<=M):(if (if c - L > 0 then c - L else 0)<M then (if c - L > 0 then c - L else 0) else M)=abv M L c:=by
 unfold abv
 by_cases h1:c - L<=0
 ·have e:(if c - L > 0 then c - L else 0)=0:=if_neg (by omega)
  rw[if_pos h1,e]
  by_cases h0:(0:Int)<M
  ·rw[if_pos h0]
  ·rw[if_neg h0];omega
 ·have e:(if c - L > 0 then c - L else 0)=c - L:=if_pos (by omega)
  rw[if_neg h1,e]
  by_cases h2:c - L<=M
  ·rw[if_pos h2]
   by_cases h3:c - L<M
   ·rw[if_pos h3]
   ·rw[if_neg h3];omega
  ·rw[if_neg h2,if_neg (by omega)]
theorem bv7 {x k1 k2 k3:Str}{c a1 a2 a3:Addr}(h:F6 x [(k1,a1),(k2,a2),(k3,a3)]=some c):(x=k1/\c=a1)\/(x=k2/\c=a2)\/(x=k3/\c=a3):=by
 by_cases z1:x=k1
 ·subst z1
  simp[F6]at h
  exact .inl ⟨rfl,h.symm⟩
 ·have e1:(x == k1)=false:=by simpa using z1
  by_cases z2:x=k2
  ·subst z2
   simp[F6,e1]at h
   exact .inr (.inl ⟨rfl,h.symm⟩)
  ·have e2:(x == k2)=false:=by simpa using z2
   by_cases z3:x=k3
   ·subst z3
    simp[F6,e1,e2]at h
    exact .inr (.inr ⟨rfl,h.symm⟩)
   ·have e3:(x == k3)=false:=by simpa using z3
    simp[F6,e1,e2,e3]at h
theorem cj0 {x y k1 k2 k3:Str}{c a1 a2 a3:Addr}(n12:a1≠a2)(n13:a1≠a3)(n23:a2≠a3)(hx:F6 x [(k1,a1),(k2,a2),(k3,a3)]=some c)(hy:F6 y [(k1,a1),(k2,a2),(k3,a3)]=some c):x=y:=by
 rcases bv7 hx with⟨rfl,e⟩ | ⟨rfl,e⟩ | ⟨rfl,e⟩<;>rcases bv7 hy with⟨h,e'⟩ | ⟨h,e'⟩ | ⟨h,e'⟩
 all_goals first | exact h.symm | exact absurd (e.symm.trans e') n12 | exact absurd (e.symm.trans e') n13 | exact absurd (e.symm.trans e') n23 | exact absurd (e'.symm.trans e) n12 | exact absurd (e'.symm.trans e) n13 | exact absurd (e'.symm.trans e) n23
theorem lk1 {k1 k2 k3:Str}{a1 a2 a3:Addr}:F6 k1 [(k1,a1),(k2,a2),(k3,a3)]=some a1:=by simp[F6]
theorem lk2 {k1 k2 k3:Str}{a1 a2 a3:Addr}(h:(k2 == k1)=false):F6 k2 [(k1,a1),(k2,a2),(k3,a3)]=some a2:=by simp[F6,h]
theorem lk3 {k1 k2 k3:Str}{a1 a2 a3:Addr}(h:(k3 == k1)=false)(h':(k3 == k2)=false):F6 k3 [(k1,a1),(k2,a2),(k3,a3)]=some a3:=by simp[F6,h,h']
theorem bi5 {M L:Int}:∀ {ns:List Int},(∀ x∈ns,x<=L)->(ns.map (abv M L)).sum=0
 | [],_=>rfl
 | c::ns,h=>by
  rw[v8,P7,bi5 fun x hx=>h x (d7 _ hx)]
  have:=h c i5
  unfold abv
  rw[if_pos (by omega)]
  rfl
def mpN (M L:Int)(ns:List Int)(i:Nat):List Int:=((o8 i).filter fun j=>decide (abv M L (ns.getD j 0)<abv M (L - 1) (ns.getD j 0))).map fun j:Nat=>(j:Int)
theorem aV1 (M L:Int)(ns:List Int)(i:Nat):mpN M L ns (i+1)=mpN M L ns i++(if abv M L (ns.getD i 0)<abv M (L - 1) (ns.getD i 0) then [(i:Int)] else []):=by
 unfold mpN
 rw[E7,O1,j9]
 congr 1
 by_cases h:abv M L (ns.getD i 0)<abv M (L - 1) (ns.getD i 0)
 ·rw[if_pos h,aQ7,if_pos (decide_eq_true h)];rfl
 ·rw[if_neg h,aQ7,if_neg (by rw[decide_eq_false h];decide)];rfl
theorem bI5 (M L:Int)(ns:List Int):mpN M L ns ns.length=ae1 M L ns:=by
 unfold mpN ae1 rng
 rw[List.filter_map,<- aw0]
 congr 1
theorem bI4 (M L:Int)(ns:List Int)(i:Nat):(mpN M L ns i).length<=i:=by
 unfold mpN
 rw[b9]
 have:=K6 (fun j=>decide (abv M L (ns.getD j 0)<abv M (L - 1) (ns.getD j 0))) (o8 i)
 rw[B0]at this
 exact this
theorem aE2 {M L:Int}{ns:List Int}{j:Nat}(h:j<ns.length):(ns.map (abv M L)).getD j 0=abv M L (ns.getD j 0):=by
 rw[i3,i3,o9,i6 h]
 rfl
theorem bn3 {f:Nat->Int}{n j:Nat}(h:j<n):((o8 n).map f).getD j 0=f j:=by
 rw[i3,o9,K4 h]
 rfl
theorem cg0 {K:W.Frag}{H:Hp}{a:Addr}{ns:List Int}{j:Nat}{Q:VK}(h:SqL K H a (ns.map V.int))(hj:j<ns.length)(q:Q (.int (ns.getD j 0)) H):rIx K (.ref a) (.int j) H Q:=.inl ⟨a,_,_,_,rfl,rfl,h,ag9 hj,q⟩
seal L2.PE L2.PA L2.PS L2.PSs L2.PT
section
variable {P:j8} {w:x6} {K:W.Frag} {mg:Str->Option c6} {base:Heap}
def be0 (P:j8)(w:x6)(K:W.Frag)(mg:Str->Option c6)(base:Heap)(k:Nat):Sp:=fun vs H Q _=>∃ (lo hi:Int) (f:Addr) (ob:Obj) (fd:u0) (x:Str) (sp:Sp) (J:Hp->Prop) (p:Int->Bool),vs=[.int lo,.int hi,.ref f]/\lo<=hi/\ob.data=.func fd /\
 A8 P w K mg base CX0 k f fd [x] sp/\Binds K fd [x] []/\(∀ H,J H->H f=some (Q7 f ob))/\(∀ (H:Hp) (m:Int) (Q:VK),J H->lo<=m->m<hi->(∀ H',u9 H H'->J H'->Q (.bl (p m)) H')->sp [.int m] H Q E0)/\J H /\
 ∀ (r:Int) (H':Hp),lo<=r->r<=hi->(r<hi->p r=true)->(lo<r->p (r - 1)=false)->J H'->u9 H H'->Q (.int r) H'
theorem ay7:B6 ["low","high","holds","middle"] ["low","high","holds"] (j5 aj2):=⟨rfl,rfl,rfl,by decide +kernel,rfl,by decide +kernel,by decide +kernel⟩
theorem bu6 {k:Nat} {f:Addr} {fd:u0} (F:Fun K "least_where" "least_where" aj2 f fd):A8 P w K mg base CX0 (k+1) f fd ["low","high","holds"] (be0 P w K mg base k):=by
 refine F.ok ay7 (fun vs H Q E h=>?_) (fun cdv A outer s H vs Q E hr h=>?_)
 ·obtain⟨lo,hi,fl,ob,fd,x,sp,J,p,rfl,_⟩:=h
  rfl
 ·obtain⟨lo,hi,fl,ob,fdl,x,sp,J,p,rfl,hlh,hob,FL,bL,hJ,hcall,hJ0,q⟩:=h
  refine⟨_,i4 (aU1 PassesOwn.never (A6 ae0 (pv 0) (pv 1) (C2 _))
   (i4 (B1 (i:=3) ay7.nd rfl (Or.inl rfl) (p8 W2 (p8 G3 (pv 0) (pv 1)) d8))
   (k7 (G7 (Z3 (bt8 hr (i := 2) rfl (Or.inl rfl) (b8 (pv 3) c9)))
    (k7 (B1 (i:=1) ay7.nd rfl (Or.inl rfl) (pv 3))) (k7 (B1 (i:=0) ay7.nd rfl (Or.inl rfl) (p8 G3 (pv 3) d8)))))))
   (k7 (A9 (pv 0))),?_⟩
  refine⟨fun m σ H1=>∃ (a b:Int) (e3:Option V),m=(b - a).toNat/\σ=[some (.int a),some (.int b),some (.ref fl),e3]/\lo<=a/\a<=b/\b<=hi/\(b<hi->p b=true)/\(lo<a->p (a - 1)=false)/\J H1/\u9 H H1,⟨_,lo,hi,none,rfl,rfl,by omega,hlh,by omega,fun z=>absurd z (by omega),fun z=>absurd z (by omega),hJ0,u9.refl H⟩,?_⟩
  rintro m σ H1 ⟨a,b,e3,rfl,rfl,h1,h2,h3,h4,h5,h6,h7⟩
  refine⟨_,rfl,_,rfl,_,_,rfl,rfl,_,rfl,?_⟩
  refine am7 (fun hc=>?_) (fun hc=>?_)
  ·have hab:=of_decide_eq_true hc
   refine⟨fun σ' H'=>∃ (a' b':Int) (e3:Option V),(b' - a').toNat<(b - a).toNat/\σ'=[some (.int a'),some (.int b'),some (.ref fl),e3]/\lo<=a'/\a'<=b'/\b'<=hi/\(b'<hi->p b'=true)/\(lo<a'->p (a' - 1)=false)/\J H'/\u9 H H',fun σ' H' ⟨a',b',e3',z0,z1,z2,z3,z4,z5,z6,z7,z8⟩=>⟨_,z0,a',b',e3',rfl,z1,z2,z3,z4,z5,z6,z7,z8⟩,?_⟩
   refine⟨_,rfl,_,rfl,_,_,rfl,rfl,_,_,rfl,rfl,⟨by decide,by decide⟩,?_⟩
   refine Y6 fun c hcm=>?_
   refine B2 ?_
   have hc1:a<=c:=by omega
   have hc2:c<b:=by omega
   refine⟨fl,ob,fdl,rfl,hJ _ h6,hob,_,rfl,[x],sp,hJ _ h6,FL,bL,hcall H1 c _ h6 (by omega) (by omega) fun H2 s2 j2=>⟨_,rfl,?_⟩⟩
   refine am7 (fun hp=>?_) (fun hp=>?_)
   ·exact⟨_,rfl,a,c,_,by omega,rfl,h1,by omega,by omega,fun _=>hp,h5,j2,h7.trans s2⟩
   ·refine⟨_,rfl,_,_,rfl,rfl,c+1,b,_,by omega,rfl,by omega,by omega,h3,h4,fun _=>?_,j2,h7.trans s2⟩
    rw[show c+1 - 1=c by omega]
    simpa using hp
  ·have hab:¬ a<b:=fun z=>hc (decide_eq_true z)
   have e:b=a:=by omega
   rw[e]at h4
   exact⟨_,rfl,q a H1 h1 (by omega) h4 h5 h6 h7⟩
def br6 (K:W.Frag):Sp:=fun vs H Q _=>∃ (a:Addr) (ns:List Int) (L M:Int),vs=[.ref a,.int L,.int M]/\Sq K H a ns/\ns.length<=100/\0<=M/\∀ (l:Addr) (H':Hp),u9 H H'->H l=none->H' l=some (.lst ((ns.map (abv M L)).map V.int))->Q (.ref l) H'
theorem cd1:B6 ["numbers","level","most"] ["numbers","level","most"] (j5 aT5):=⟨rfl,rfl,rfl,by decide +kernel,rfl,by decide +kernel,by decide +kernel⟩
theorem bV1 {f:Addr}{fd:u0}(F:Fun K "above" "above" aT5 f fd)(B:Bn mg):A8 P w K mg base CX0 1 f fd ["numbers","level","most"] (br6 K):=by
 refine F.ok cd1 (fun vs H Q E h=>?_) (fun cdv A outer s H vs Q E hr h=>?_)
 ·obtain⟨a,ns,L,M,rfl,_⟩:=h
  rfl
 ·obtain⟨a,ns,L,M,rfl,hS,hn,hM,q⟩:=h
  have hsl:=L3
  have nd3:(["number","level","most"]:List Str).Nodup:=by decide +kernel
  refine⟨_,k7 (A9 (O9 (N':=["number","level","most"]) (lk:=[none,some 1,some 2]) rfl (bf4 (R4 (pv 0)) (aC2 (pv 0))) (by rfl) rfl (by decide +kernel) (by exact⟨rfl,rfl,trivial⟩) (by rfl) (by exact LkL.ok ⟨⟨rfl,Or.inl rfl,rfl,Or.inl rfl⟩,⟨rfl,Or.inl rfl,rfl,Or.inl rfl⟩,trivial⟩)
     (fun _ _ _=>y7 (i:=0) nd3 rfl (Or.inl rfl)) (fun _ _ _=>Q3) (fun _ _ _=>m4 (ae5 rfl) (by rfl) B.min (by rfl) (b8 (pv 2) (b8 (m4 (W0 rfl) (by rfl) B.max (by rfl) (b8 d8 (b8 (p8 R9 (pv 0) (pv 1)) c9))) c9))))),?_⟩
  refine Or.imp (fun h=>⟨_,rfl,h⟩) (fun h=>⟨_,rfl,h⟩) (aK6 (K:=K) (a:=a) (ys:=ns.map V.int) hS (by rw[b9];omega) (fun D i xs σ' H'=>(∃ v,σ'=[v,some (.int L),some (.int M)])/\u9 H H'/\H' D=some (.lst xs)/\xs=((ns.take i).map (abv M L)).map V.int)
   (fun D hD=>⟨⟨none,rfl⟩,d9 hD,c8,rfl⟩) (fun D i xs σ' H' hD hi ⟨_,s6,h6,e6⟩=>⟨s6,h6,by rw[e6,b9,b9,o4];omega⟩) ?_ ?_)
  ·rintro D i xs x σ' H' N hD kN hx ⟨⟨v,rfl⟩,s6,h6,rfl⟩
   obtain⟨z,hz,rfl⟩:=Q6 hx
   refine B2 (N5 ?_)
   refine⟨_,rfl,_,rfl,_,rfl,_,_,rfl,rfl,_,_,rfl,_,_,rfl,?_⟩
   rw[bX6 M L z hM]
   refine⟨h6,kN _ _ _ ⟨⟨_,rfl⟩,s6.upd hD,c8,?_⟩⟩
   rw[C3,hz,j9,j9]
   rfl
  ·rintro D xs σ' H' hD ⟨⟨v,rfl⟩,s6,h6,rfl⟩
   rw[k8 (by rw[b9];exact d4 _)]at h6
   exact q D H' s6 hD h6
def bV3 (st:Stmt):Pos:=match (A7 st).getD 0 (.Pass ⟨0,0,0,0⟩) with
 | .Assign _ (.Call _ [_,_,.Lambda _ _ _ p] _ _) _=>p
 | _=>⟨0,0,0,0⟩
def ah7 (st:Stmt):an9 × Expr × R8:=match (A7 st).getD 0 (.Pass ⟨0,0,0,0⟩) with
 | .Assign _ (.Call _ [_,_,.Lambda a b c _] _ _) _=>(a,b,c)
 | _=>({ posonlyargs:=[],args:=[],vararg:=none,kwonlyargs:=[],kw_defaults:=[],kwarg:=none,defaults:=[] },.Constant .none 0 ⟨0,0,0,0⟩,{ kind:=.function,names:=[],isGenerator:=false,isCoroutine:=false })
def aJ8:Str:=(("shares":Str)++(".<locals>.":Str))++("<lambda>":Str)
abbrev Tb2 (P:Addr)(H:Hp):Prop:=S6 P (bV3 ac7) aJ8 H
theorem Sq.rmv {K:W.Frag}{a:Addr}{H:Hp}{l:Addr->Option Obj}{ns:List Int}(h:Sq K H a ns)(hl:∀ b o,l b=some o->H b=some (Q7 b o)):Sq K (Z1 H l) a ns:=by
 have go:∀ u,(∀ o,u≠Q7 a o)->H a=some u->Z1 H l a=some u:=fun u hu q=>by rw[J9 (av1 hl q hu)];exact q
 rcases h with((h | ⟨o,h⟩) | h) | ((h | ⟨o,h⟩) | h)
 ·exact .inl (.inl (.inl (go _ (fun o z=>by unfold Q7 at z;cases z) h)))
 ·exact .inl (.inl (.inr ⟨o,go _ (fun o z=>by unfold Q7 at z;cases z) h⟩))
 ·exact .inl (.inr h)
 ·exact .inr (.inl (.inl (go _ (fun o z=>by unfold Q7 at z;cases z) h)))
 ·exact .inr (.inl (.inr ⟨o,go _ (fun o z=>by unfold Q7 at z;cases z) h⟩))
 ·exact .inr (.inr h)
theorem bs0 {H:Hp}{l:Addr->Option Obj}(hl:∀ b o,l b=some o->H b=none):u9 H (am4 H l):=fun b u e=>by
 cases hb:l b with
 | some z=>rw[hl b z hb]at e;cases e
 | none=>rw[J8 hb];exact e
theorem bk9 {H H':Hp}{l:Addr->Option Obj}(hl:∀ b o,l b=some o->H b=some (Q7 b o))(s:u9 (Z1 H l) H'):u9 H (am4 H' l):=fun b u e=>by
 cases hb:l b with
 | some z=>rw[hl b z hb]at e;rw[ap7 hb];exact e
 | none=>rw[J8 hb];exact s b u (by rw[J9 hb];exact e)
theorem bs3 {H H2:Hp}{l:Addr->Option Obj}(hl:∀ b o,l b=some o->H b=none)(s:u9 (am4 H l) H2):u9 H (Z1 H2 l):=fun b u e=>by
 cases hb:l b with
 | some z=>rw[hl b z hb]at e;cases e
 | none=>rw[J9 hb];exact s b u (by rw[J8 hb];exact e)
def bq4 (K:W.Frag)(PT:Addr):Sp:=fun vs H Q _=>∃ (na:Addr) (ns:List Int) (a:Int) (M:Nat),vs=[.ref na,.int a,.int M]/\Sq K H na ns/\ns.length<=24/\AllP ns/\0<=a/\Tb2 PT H /\
 ∀ (l:Addr) (xs:List Int) (L:Int) (H':Hp),S0 PT H H'->Tb2 PT H'->Lvl M ns a L->xs.length=ns.length->(∀ j,j<ns.length->xs.getD j 0=shx M L ns (a - (ns.map (abv M L)).sum).toNat j)->H l=none->H' l=some (.lst (xs.map V.int))->Q (.ref l) H'
theorem aS9:B6 ["numbers","much","most","level","taken","deeper","one_more"] ["numbers","much","most"] (j5 ac7):=⟨rfl,rfl,rfl,by decide +kernel,rfl,by decide +kernel,by decide +kernel⟩
set_option maxHeartbeats 4000000 in
theorem bU3 {f fA fW c PT:Addr}{fd fdA fdW:u0}(F:Fun K "shares" "shares" ac7 f fd)(hc:fd.code=.ref c)(LB:as4 base mg c PT)(B:Bn mg)(FA:Fun K "above" "above" aT5 fA fdA)(bA:Binds K fdA ["numbers","level","most"] [])(mA:mg "above"=some (.ref fA))
  (FW:Fun K "least_where" "least_where" aj2 fW fdW)(bW:Binds K fdW ["low","high","holds"] [])(mW:mg "least_where"=some (.ref fW)):A8 P w K mg base (CXE P w) 4 f fd ["numbers","much","most"] (bq4 K PT):=by
 have GA:A8 P w K mg base CX0 1 fA fdA ["numbers","level","most"] (br6 K):=bV1 FA B
 have GA3:A8 P w K mg base CX0 3 fA fdA ["numbers","level","most"] (br6 K):=GA.mono (by decide)
 have GW:A8 P w K mg base CX0 3 fW fdW ["low","high","holds"] (be0 P w K mg base 2):=bu6 FW
 refine F.okXC hc aS9 (fun vs H Q E h=>?_) (fun A outer s H vs Q E hr h=>?_)
 ·obtain⟨na,ns,a,M,rfl,_⟩:=h
  rfl
 ·obtain⟨na,ns,a,M,rfl,hS,hn,hp,ha,tb,q⟩:=h
  have hsl:=L3
  have hun:=hr.units
  have nd3:(["place","deeper","taken"]:List Str).Nodup:=by decide +kernel
  have nd4:(["place","many","one_more"]:List Str).Nodup:=by decide +kernel
  refine⟨_,i4 (B1 (i:=3) aS9.nd rfl (Or.inl rfl) (bt9 (js:=[(0,s.heap.objs.size+1),(1,s.heap.objs.size+2),(2,s.heap.objs.size+3)]) GW hr (by rfl) mW FW.kp bW (fun q hq=>by
     simp only[g6,J3,or_false]at hq
     rcases hq with e | e | e
     ·rw[e];exact⟨Q1 _ _,"numbers",rfl,rfl,rfl⟩
     ·rw[e];exact⟨Q1 _ _,"much",rfl,rfl,rfl⟩
     ·rw[e];exact⟨Q1 _ _,"most",rfl,rfl,rfl⟩) (b8 d8 (b8 (bG1 K rfl rfl (by rfl) B.max (b8 (pv 0) c9)) (b8 (bt4 LB rfl (by rfl) (by rfl)) c9)))))
   (i4 (B1 (i:=4) aS9.nd rfl (Or.inr rfl) (q8 GA3 hr (by rfl) mA FA.kp bA .nil G4 (b8 (pv 0) (b8 (pv 3) (b8 (pv 2) c9)))))
   (i4 (B1 (i:=5) aS9.nd rfl (Or.inr rfl) (q8 GA3 hr (by rfl) mA FA.kp bA .nil G4 (b8 (pv 0) (b8 (p8 R9 (pv 3) d8) (b8 (pv 2) c9)))))
   (i4 (B1 (i:=6) aS9.nd rfl (Or.inr rfl) (O4 al4 (O9 (N':=["place","deeper","taken"]) (lk:=[none,some 5,some 4]) rfl (Q5 rfl B.range (b8 (m4 u7 (by rfl) B.len PySem.boot_len (b8 (pv 0) c9)) c9)) (by rfl) rfl (by decide +kernel) (by exact⟨rfl,rfl,trivial⟩) (by rfl) (by exact LkL.ok ⟨⟨rfl,Or.inl rfl,rfl,Or.inl rfl⟩,⟨rfl,Or.inl rfl,rfl,Or.inl rfl⟩,trivial⟩)
     (fun _ _ _=>y7 (i:=0) nd3 rfl (Or.inl rfl)) (fun _ _ _=>ag2 (A6 bu3 (U3 K rfl (pv 1) (pv 0) (fun _ _=>rfl)) (U3 K rfl (pv 2) (pv 0) (fun _ _=>rfl)) (C2 _))) (fun _ _ _=>pv 0)) U1 (Q4 (p8 R9 (pv 1) (m4 (R0 rfl) (by rfl) B.sum (by rfl) (b8 (pv 4) c9))))))
   (k7 (A9 (O9 (N':=["place","many","one_more"]) (lk:=[none,none,some 6]) rfl (bf4 (aq6 (by rfl) B.enum (b8 (pv 4) c9)) (aU3 (by rfl) B.enum (b8 (pv 4) c9))) (by rfl) rfl (by decide +kernel) (by exact⟨rfl,trivial⟩) (by rfl) (by exact LkL.ok ⟨⟨rfl,Or.inl rfl,rfl,Or.inl rfl⟩,trivial⟩)
     (fun _ _ _=>aq7 (n:=2) K rfl rfl (E6 (y7 (i:=0) nd4 rfl (Or.inl rfl)) (E6 (y7 (i:=1) nd4 rfl (Or.inl rfl)) U2))) (fun _ _ _=>Q3) (fun _ _ _=>aU4 (A6 (bg2 K hr.around rfl rfl) (pv 0) (pv 2) (by rfl)) (p8 G3 (pv 1) d8) (pv 1)))))))),?_⟩
  obtain⟨bb,hB⟩:∃ b,SqB b K H na (ns.map V.int):=hS.elim (fun h=>⟨true,h⟩) fun h=>⟨false,h⟩
  refine⟨_,rfl,bb,na,ns,rfl,hB,hp,fun hi h0 hmx=>⟨tb,fun fl c' ctv H2 g2 tb2 hfn hfo hco l hl hjv=>?_⟩⟩
  obtain⟨o1,u1,hl1,hd1,ru1⟩:=hjv _ i5 (.ref na) rfl
  obtain⟨o2,u2,hl2,hd2,ru2⟩:=hjv _ (d7 _ i5) (.int a) rfl
  obtain⟨o3,u3,hl3,hd3,ru3⟩:=hjv _ (d7 _ (d7 _ i5)) (.int (M:Int)) rfl
  have hS2:=Sq.grow hS g2 tb
  have st:=bs0 hl
  have n1:(("much":Str) == ("numbers":Str))=false:=by decide +kernel
  have n2:(("most":Str) == ("numbers":Str))=false:=by decide +kernel
  have n3:(("most":Str) == ("much":Str))=false:=by decide +kernel
  refine⟨0,hi,fl,PySem.W.kla_obj "<lambda>" aJ8 (ah7 ac7).1 (ah7 ac7).2.1 (ah7 ac7).2.2 [("numbers",s.heap.objs.size+1),("much",s.heap.objs.size+2),("most",s.heap.objs.size+3)] ((mg "__name__").getD .none) c' ctv,PySem.W.kla_fn "<lambda>" aJ8 (ah7 ac7).1 (ah7 ac7).2.1 (ah7 ac7).2.2 [("numbers",s.heap.objs.size+1),("much",s.heap.objs.size+2),("most",s.heap.objs.size+3)] ((mg "__name__").getD .none) (.ref c') ctv,"tried",?sp,?J,?p,rfl,h0,rfl,?F,?b,?h3,?h4,?h5,?h6⟩
  case F =>
   refine bV2 (k:=1) (p:="tried") (qual:=aJ8) (params:=(ah7 ac7).1) (body:=(ah7 ac7).2.1) (scope:=(ah7 ac7).2.2) (cl:=[("numbers",s.heap.objs.size+1),("much",s.heap.objs.size+2),("most",s.heap.objs.size+3)]) (f:=fl) (c':=c') (l:=l) (cvs:=[some (.int (M:Int)),some (.int a),some (.ref na)]) (N':=["most","much","numbers"]) rfl rfl rfl (by rfl) rfl ?_ ?_ rfl ?_ (fun A' outer' s' H' hr'=>ag4 ab5 (m4 (bo0 K rfl rfl) (by rfl) B.sum (by rfl) (b8 (q8 GA hr' (by rfl) mA FA.kp bA .nil G4 (b8 (pv 3) (b8 (pv 0) (b8 (pv 1) c9)))) c9)) (pv 2) (by rfl))
   ·intro x y c hx hy
    exact cj0 (show (s.heap.objs.size+1:Nat)≠s.heap.objs.size+2 by omega) (show (s.heap.objs.size+1:Nat)≠s.heap.objs.size+3 by omega) (show (s.heap.objs.size+2:Nat)≠s.heap.objs.size+3 by omega) hx hy
   ·intro x c hx
    rcases bv7 hx with⟨_,e⟩ | ⟨_,e⟩ | ⟨_,e⟩
    ·rw[e];exact⟨o1,_,hl1,hd1⟩
    ·rw[e];exact⟨o2,_,hl2,hd2⟩
    ·rw[e];exact⟨o3,_,hl3,hd3⟩
   ·intro i x v e1 e2
    match i,e1,e2 with
    | 0,e1,e2 =>
     have e1':("most":Str)=x:=Option.some.inj e1
     have e2':V.int (M:Int)=v:=Option.some.inj (Option.some.inj e2)
     subst e1' e2'
     exact⟨rfl,_,o3,u3,lk3 n2 n3,hl3,hd3,ru3⟩
    | 1,e1,e2 =>
     have e1':("much":Str)=x:=Option.some.inj e1
     have e2':V.int a=v:=Option.some.inj (Option.some.inj e2)
     subst e1' e2'
     exact⟨rfl,_,o2,u2,lk2 n1,hl2,hd2,ru2⟩
    | 2,e1,e2 =>
     have e1':("numbers":Str)=x:=Option.some.inj e1
     have e2':V.ref na=v:=Option.some.inj (Option.some.inj e2)
     subst e1' e2'
     exact⟨rfl,_,o1,u1,lk1,hl1,hd1,ru1⟩
    | i+3,e1,e2=>cases e1
  case b=>exact .all fun us hl=>match us,hl with | [_],_=>rfl
  case J=>exact fun Hx=>Hx fl=some (Q7 fl (PySem.W.kla_obj "<lambda>" aJ8 (ah7 ac7).1 (ah7 ac7).2.1 (ah7 ac7).2.2 [("numbers",s.heap.objs.size+1),("much",s.heap.objs.size+2),("most",s.heap.objs.size+3)] ((mg "__name__").getD .none) c' ctv))/\Hx c'=some (ax1 c' aJ8)/\(∀ b o,l b=some o->Hx b=some (Q7 b o))/\Sq K Hx na ns
  case p=>exact fun t=>decide ((ns.map (abv M t)).sum<=a)
  case h3=>exact fun Hx h=>h.1
  case h4 =>
   rintro Hx m Qx ⟨j1,j2,j3,j4⟩ hm1 hm2 hq
   refine⟨.int m,rfl,j1,j2,j3,?_⟩
   refine⟨_,rfl,_,rfl,_,rfl,na,ns,m,M,rfl,Sq.rmv j4 j3,by omega,by omega,fun l8 H8 s8 f8 g8=>⟨l8,_,rfl,SqL.of g8,_,rfl,_,_,rfl,rfl,fun hfr=>?_⟩⟩
   have sb:=bk9 j3 s8
   exact hq _ sb ⟨sb _ _ j1,sb _ _ j2,fun b o e=>ap7 e,j4.same sb⟩
  case h5=>exact⟨st _ _ hfo,st _ _ hco,fun b o e=>ap7 e,hS2.same st⟩
  case h6 =>
   rintro L H' hr1 hr2 hp1 hp2 ⟨j1,j2,j3,j4⟩ s'
   have so:=bs3 hl s'
   refine⟨j3,?_⟩
   have hlv:Lvl M ns a L:=by
    refine⟨hr1,?_,fun h=>?_⟩
    ·rcases bB8 L hi with z | z
     ·exact of_decide_eq_true (hp1 z)
     ·rw[bi5 fun x hx=>Int.le_trans (hmx x hx) z]
      exact ha
    ·have:=of_decide_eq_false (hp2 h)
     omega
   have g3:S0 PT H (Z1 H' l):=g2.trans (so.grow PT)
   have tb3:=tb2.same so
   have hS3:=hS2.same so
   generalize Z1 H' l=H3 at g3 tb3 hS3 ⊢
   refine⟨_,rfl,_,rfl,_,rfl,na,ns,L,M,rfl,hS3,by omega,by omega,fun lt H4 s4 f4 g4=>?_⟩
   refine⟨_,rfl,_,rfl,_,_,rfl,rfl,_,rfl,na,ns,L - 1,M,rfl,hS3.same s4,by omega,by omega,fun ld H5 s5 f5 g5=>?_⟩
   have g45:=s5 _ _ g4
   have hS5:=hS3.same (s4.trans s5)
   have hle:=hlv.le
   obtain⟨k,hk⟩:∃ k:Nat,a - (ns.map (abv M L)).sum=(k:Int):=⟨(a - (ns.map (abv M L)).sum).toNat,by omega⟩
   refine⟨_,rfl,na,_,rfl,hS5,(ns.length:Int),congrArg (fun z:Nat=>[V.int (z:Int)]) (b9 ..),by omega,by omega,fun D hD=>?_⟩
   rw[q0]
   refine Z9 (lo:=0) (n:=ns.length) (D:=D) (fun i xs σ' H'=>(∃ v,σ'=[v,some (.ref ld),some (.ref lt)])/\u9 H5 H'/\H' D=some (.lst xs)/\xs=(mpN M L ns i).map V.int) ⟨⟨none,rfl⟩,d9 hD,c8,rfl⟩ (by omega)
    (fun i xs σ' H' hi ⟨_,s6,h6,e6⟩=>⟨h6,by rw[e6,b9];exact bI4 M L ns i⟩) ?_ ?_
   ·rintro i xs σ' H' N kN hi ⟨⟨v,rfl⟩,s6,h6,rfl⟩
    have e0:((0:Int)+(i:Int))=(i:Int):=by omega
    rw[e0]
    refine B2 ?_
    refine⟨_,rfl,_,rfl,cg0 (SqL.of (s6 _ _ g5)) (by rw[b9];exact hi) ⟨_,rfl,_,rfl,cg0 (SqL.of (s6 _ _ g45)) (by rw[b9];exact hi) ⟨_,_,rfl,rfl,_,rfl,?_⟩⟩⟩
    rw[aE2 hi,aE2 hi]
    by_cases hm:abv M L (ns.getD i 0)<abv M (L - 1) (ns.getD i 0)
    ·rw[decide_eq_true hm]
     refine J0 ⟨_,rfl,h6,kN _ _ _ ⟨⟨_,rfl⟩,s6.upd hD,c8,?_⟩⟩
     rw[aV1,if_pos hm,j9]
     rfl
    ·rw[decide_eq_false hm]
     refine K3 (kN _ _ _ ⟨⟨_,rfl⟩,s6,h6,?_⟩)
     rw[aV1,if_neg hm,F4]
   ·rintro xs σ' H6 ⟨⟨v,rfl⟩,s6,h6,rfl⟩
    rw[bI5]at h6
    refine⟨_,rfl,_,rfl,lt,_,rfl,SqL.of (s6 _ _ g45),_,_,rfl,rfl,_,rfl,D,_,rfl,SqL.of h6,fun lo flo=>?_⟩
    rw[hk,aj9]
    have s7:=d9 (o:=.lst (((ae1 M L ns).take k).map V.int)) flo
    have g7:(upd H6 lo (.lst (((ae1 M L ns).take k).map V.int))) lo=some (.lst ((aH7 M L ns k).map V.int)):=c8
    have s57:=s6.trans s7
    generalize upd H6 lo (.lst (((ae1 M L ns).take k).map V.int))=H7 at s57 g7 ⊢
    have g47:=s57 _ _ g45
    refine Or.imp (fun h=>⟨_,rfl,h⟩) (fun h=>⟨_,rfl,h⟩) (aE8 (K:=K) (a:=lt) (ys:=(ns.map (abv M L)).map V.int) (.inl (SqL.of g47)) (by rw[b9,b9];omega)
     (fun D i xs σ' H'=>(∃ v u,σ'=[v,u,some (.ref lo)])/\u9 H7 H'/\H' D=some (.lst xs)/\xs=((o8 i).map (shx M L ns k)).map V.int) (fun D hD=>⟨⟨none,none,rfl⟩,d9 hD,c8,rfl⟩)
     (fun D i xs σ' H' hD hi ⟨_,s1,h1,e1⟩=>⟨s1,h1,by rw[e1,b9,b9,B0];exact d4 _⟩) ?_ ?_)
    ·rintro D8 i xs x t σ' H' N hD8 kN hx ⟨⟨v,u,rfl⟩,s1,h1,rfl⟩ ht'
     obtain⟨z,hz,rfl⟩:=Q6 hx
     have s2:=d9 (o:=.tup [.int i,.int z]) ht'
     have hi:i<ns.length:=by
      rcases C9 i ns.length with h | h
      ·exact h
      ·rw[r6 (by rw[b9];exact h)]at hz;cases hz
     have ez:z=abv M L (ns.getD i 0):=by
      rw[<- aE2 hi,i3,hz]
      rfl
     refine⟨t,_,rfl,SqT.of c8,rfl,_,_,rfl,_,_,rfl,rfl,N5 ?_⟩
     refine⟨_,rfl,_,rfl,bx6 hun (SqL.of ((s1.trans s2) _ _ g7)) ⟨_,rfl,?_⟩⟩
     have ex:((o8 (i+1)).map (shx M L ns k)).map V.int=((o8 i).map (shx M L ns k)).map V.int++[V.int (shx M L ns k i)]:=by
      rw[E7,j9,j9]
      rfl
     by_cases hm:(i:Int)∈aH7 M L ns k
     ·rw[decide_eq_true hm]
      refine J0 ⟨_,rfl,_,_,rfl,rfl,s2 _ _ h1,kN _ _ _ ⟨⟨_,_,rfl⟩,(s1.trans s2).upd hD8,c8,?_⟩⟩
      rw[ex]
      unfold shx
      rw[if_pos hm,ez]
     ·rw[decide_eq_false hm]
      refine K3 ⟨_,rfl,s2 _ _ h1,kN _ _ _ ⟨⟨_,_,rfl⟩,(s1.trans s2).upd hD8,c8,?_⟩⟩
      rw[ex]
      unfold shx
      rw[if_neg hm,ez,bB6]
    ·rintro D8 xs σ' H8 hD8 ⟨⟨v,u,rfl⟩,s1,h1,rfl⟩
     rw[b9,b9]at h1
     have sE:=(s4.trans s5).trans (s57.trans s1)
     have sF:=(s4.trans s5).trans s57
     refine q D8 _ L H8 (g3.trans (sE.grow PT)) (tb3.same sE) hlv (by rw[b9,B0]) (fun j hj=>?_) (aK1 (g3.trans (sF.grow PT)) (tb3.same sF) hD8) h1
     rw[bn3 hj,hk,q0]
end
end Web
namespace Web
open PySem L2
def Gw (P P':Addr)(H H':Hp):Prop:=∀ b o,b≠P->b≠P'->H b=some o->H' b=some o
theorem Gw.trans {P P':Addr}{H H1 H2:Hp}(a:Gw P P' H H1)(b:Gw P P' H1 H2):Gw P P' H H2:=fun c o n n' h=>b c o n n' (a c o n n' h)
theorem aS2 {P P':Addr}{po po':Pos}{qu qu':Str}{H H':Hp}(g:S0 P H H')(t:S6 P po qu H)(t':S6 P' po' qu' H)(hne:P'≠P):S6 P' po' qu' H':=by
 obtain⟨ps,hP,_⟩:=t
 obtain⟨qs,h1,h2,h3⟩:=t'
 refine⟨qs,g _ _ hne h1,h2,h3.imp id fun⟨c,e,h⟩=>⟨c,e,g _ _ (fun z=>?_) h⟩⟩
 rw[z,hP]at h
 unfold ax1 at h
 cases h
def LOK (ns:List Int):Prop:=ns.length<=11
theorem LOK.le {ns cs:List Int}(h:LOK ns)(e:cs.length=ns.length):cs.length<=11:=by unfold LOK at h;omega
theorem SqB.same {b:Bool}{K:W.Frag}{H H':Hp}{a:Addr}{xs:List V}(h:SqB b K H a xs)(s:u9 H H'):SqB b K H' a xs:=by
 cases b with
 | true=>exact s.seq h
 | false=>exact s.seqT h
structure Fst (ns:List Int) (mn:Int) (j:Nat):Prop where
 le:j<=ns.length
 eq:L4 ns j=mn
 no:∀ k,k<j->L4 ns k≠mn
theorem bW9 {ns:List Int}{mn:Int}(h:∃ r,r<=ns.length/\mn=L4 ns r):∃ j,Fst ns mn j:=by
 obtain⟨r,r1,r2⟩:=h
 obtain⟨j,⟨h1,h2⟩,h3⟩:=Sett.aP2 (P:=fun j=>j<=ns.length/\L4 ns j=mn) ⟨r,r1,r2.symm⟩
 exact⟨j,h1,h2,fun k hk e=>h3 k hk ⟨by omega,e⟩⟩
def bL3 (ns cs:List Int)(mn:Int):Prop:=∃ (M:Nat) (L:Int) (xs:List Int),(M:Int)∈ns/\(∀ x∈ns,x<=(M:Int))/\Lvl M ns (Z6 ns.sum (-mn)) L/\xs.length=ns.length/\(∀ j,j<ns.length->xs.getD j 0=shx M L ns (Z6 ns.sum (-mn) - (ns.map (abv M L)).sum).toNat j)/\cs=ad4 ns xs
theorem bL3.facts {ns cs:List Int}{mn:Int}(h:bL3 ns cs mn)(h0:AllP ns)(hm:Lst ns mn):Gr cs/\cs.length=ns.length/\(∀ j,j<ns.length->0<=cs.getD j 0/\cs.getD j 0<=ns.getD j 0)/\cs.sum=ns.sum - Z6 ns.sum (-mn):=by
 obtain⟨M,L,xs,h1,h2,h3,h4,h5,rfl⟩:=h
 obtain⟨a,b,c⟩:=bw0 h0 h2 hm h3 h5
 exact⟨a,ad2 _ _,b,c⟩
structure LoT (K:W.Frag) (H:Hp) (p b:Addr) (ns cs:List Int) (ks:List (List Int)) (mn:Int) (j:Nat):Prop where
 lst:Lst ns mn
 fst:Fst ns mn j
 cs_:bL3 ns cs mn
 tup:H p=some (.tup [.int (Z6 ns.sum (-mn)),.ref b,.int (j:Int)])
 web:aY1 K H b cs ks
theorem aY1.same {K:W.Frag}{H H':Hp}{b:Addr}{ns:List Int}{ks:List (List Int)}(h:aY1 K H b ns ks)(s:u9 H H'):aY1 K H' b ns ks:=by
 obtain⟨⟨t,zs,h1,h2,h3⟩,a,b,c,d,e⟩:=h
 exact⟨⟨t,zs,s _ _ h1,s _ _ h2,s.tups h3⟩,a,b,c,d,e⟩
def Tbs (PT PU:Addr)(H:Hp):Prop:=Tb PT H/\Tb2 PU H/\PT≠PU
theorem Tbs.same {PT PU:Addr}{H H':Hp}(h:Tbs PT PU H)(s:u9 H H'):Tbs PT PU H':=⟨h.1.same s,h.2.1.same s,h.2.2⟩
theorem bW8 {P P':Addr}{H H':Hp}(g:S0 P H H'):Gw P P' H H':=fun b o n _ e=>g b o n e
theorem bW7 {P P':Addr}{H H':Hp}(g:S0 P' H H'):Gw P P' H H':=fun b o _ n e=>g b o n e
theorem aP0 {H H':Hp}{P P':Addr}(s:u9 H H'):Gw P P' H H':=fun b o _ _ e=>s b o e
section
variable {PT PU:Addr} {H H':Hp} (g:Gw PT PU H H') (t:Tbs PT PU H)
include g t
theorem aW4 {a:Addr}{o:HO}(h:H a=some o)(ho:∀ ps,o≠.tbl ps):H' a=some o:=by
 obtain⟨⟨ps,hP,_⟩,⟨qs,hQ,_⟩,_⟩:=t
 exact g a o (fun z=>by rw[z,hP]at h;cases h;exact ho _ rfl) (fun z=>by rw[z,hQ]at h;cases h;exact ho _ rfl) h
theorem aP1 {a:Addr}{xs:List V}(h:H a=some (.lst xs)):H' a=some (.lst xs):=aW4 g t h fun _ z=>by cases z
theorem bx9 {K:W.Frag}{a:Addr}{xs:List V}(h:SqL K H a xs):SqL K H' a xs:=by
 rcases h with(h | ⟨o,h⟩) | h
 ·exact .inl (.inl (aW4 g t h fun _ z=>by cases z))
 ·exact .inl (.inr ⟨o,aW4 g t h fun _ z=>by cases z⟩)
 ·exact .inr h
theorem bW6 {K:W.Frag}{a:Addr}{xs:List V}(h:SqT K H a xs):SqT K H' a xs:=by
 rcases h with(h | ⟨o,h⟩) | h
 ·exact .inl (.inl (aW4 g t h fun _ z=>by cases z))
 ·exact .inl (.inr ⟨o,aW4 g t h fun _ z=>by cases z⟩)
 ·exact .inr h
theorem cf3 {K:W.Frag}{a:Addr}{ns:List Int}(h:Sq K H a ns):Sq K H' a ns:=h.elim (fun h=>.inl (bx9 g t h)) fun h=>.inr (bW6 g t h)
end
theorem aB8 {ns:List Int}{n r:Nat}(h:r<n):((o8 n).map (L4 ns))[r]?=some (L4 ns r):=by rw[o9,K4 h];rfl
seal L2.PE L2.PA L2.PS L2.PSs L2.PT
section
variable {P:j8} {w:x6} {K:W.Frag} {mg:Str->Option c6} {base:Heap}
def br3 (K:W.Frag)(CB CW:Addr):Sp:=fun vs H Q E=>∃ (a:Addr) (ns:List Int),vs=[.ref a]/\Sq K H a ns/\(S9 ns->AllP ns->∀ H':Hp,u9 H H'->Q .non H')/\(¬ S9 ns->E (.ref CB) none H)/\(S9 ns->¬ AllP ns->∀ H':Hp,u9 H H'->E (.ref CW) none H')
theorem cc9:B6 ["tally"] ["tally"] (j5 aN7):=⟨rfl,rfl,rfl,by decide +kernel,rfl,by decide +kernel,by decide +kernel⟩
theorem bU9 {f fT fβ CB CW:Addr}{fd fdT fdβ:u0}(F:Fun K "check_none_below" "check_none_below" aN7 f fd)(FT:Fun K "check_tally" "check_tally" am5 fT fdT)(bT:Binds K fdT ["tally"] [])(mT:mg "check_tally"=some (.ref fT))(GT:A8 P w K mg base (CXE P w) 1 fT fdT ["tally"] (aI8 K CB))
  (Fβ:Fun K "places_below" "places_below" X2 fβ fdβ)(bβ:Binds K fdβ ["numbers"] [])(mβ:mg "places_below"=some (.ref fβ))(Gβ:A8 P w K mg base CX0 1 fβ fdβ ["numbers"] (ay6 K))(mW:mg "NoWeb"=some (.ref CW))(cW:ae7 K CW):A8 P w K mg base (CXE P w) 2 f fd ["tally"] (br3 K CB CW):=by
 refine F.okX cc9 (fun vs H Q E h=>?_) (fun cdv A outer s H vs Q E hr h=>?_)
 ·obtain⟨a,ns,rfl,_⟩:=h
  rfl
 ·obtain⟨a,ns,rfl,hS,q,qb,qw⟩:=h
  refine⟨_,i4 (U0 (q8 GT hr (by rfl) mT FT.kp bT .nil an3 (b8 (pv 0) c9)))
   (k7 (G7 (aC1 (q8 Gβ hr (by rfl) mβ Fβ.kp bβ .nil G4 (b8 (pv 0) c9)) (fun _=>rfl)) (k7 (Z4 (by rfl) mW cW)) C7)),?_⟩
  refine⟨_,rfl,a,ns,rfl,hS,fun ht=>?_,qb⟩
  have t2:=ht.2
  refine⟨_,rfl,a,ns,rfl,hS,by omega,fun bl H1 s1 hbl g1=>?_⟩
  refine⟨_,.inl ⟨_,SqL.of g1,rfl⟩,?_⟩
  unfold bK7 at g1 ⊢
  cases hb:ap0 ns ns.length with
  | cons p ps =>
   refine J0 (qw ht (fun z=>?_) H1 s1)
   obtain⟨x,h1,h2⟩:=(aF4 hb).1
   have:=z p x h1
   omega
  | nil=>exact K3 (q ht (aQ2 hb) H1 s1)
def aZ8 (K:W.Frag):Sp:=fun vs H Q _=>∃ (a:Addr) (ns:List Int) (z:Int),vs=[.ref a,.int z]/\Sq K H a ns/\Q (.int (Z6 ns.sum z)) H
theorem bS3:B6 ["tally","want"] ["tally","want"] (j5 aq2):=⟨rfl,rfl,rfl,by decide +kernel,rfl,by decide +kernel,by decide +kernel⟩
theorem bH4 {f:Addr}{fd:u0}(F:Fun K "off_by_want" "off_by_want" aq2 f fd)(B:Bn mg):A8 P w K mg base CX0 1 f fd ["tally","want"] (aZ8 K):=by
 refine F.ok bS3 (fun vs H Q E h=>?_) (fun cdv A outer s H vs Q E hr h=>?_)
 ·obtain⟨a,ns,z,rfl,_⟩:=h
  rfl
 ·obtain⟨a,ns,z,rfl,hS,q⟩:=h
  refine⟨_,k7 (A9 (p8 G3 (pv 1) (p8 L7 (p8 G3 (pv 1) (m4 (aK7 rfl) (by rfl) B.sum (by rfl) (b8 (pv 0) c9))) d8))),?_⟩
  exact⟨_,rfl,_,rfl,_,rfl,a,ns,rfl,hS,_,_,rfl,rfl,_,_,rfl,rfl,(by show (0:Int)<2;decide),_,_,rfl,rfl,q⟩
def br0 (K:W.Frag)(CB CW PT PU:Addr):Sp:=fun vs H Q E=>∃ (a:Addr) (ns:List Int),vs=[.ref a]/\Sq K H a ns/\ns.length<=24/\LOK ns /\
 (S9 ns->AllP ns->Tbs PT PU H/\∀ (p b:Addr) (cs:List Int) (ks:List (List Int)) (mn:Int) (j:Nat) (H':Hp),Gw PT PU H H'->Tbs PT PU H'->H p=none->LoT K H' p b ns cs ks mn j->Q (.ref p) H')/\(¬ S9 ns->E (.ref CB) none H)/\(S9 ns->¬ AllP ns->∀ H':Hp,u9 H H'->E (.ref CW) none H')
theorem aB3:B6 ["tally","rooms","much","lacking","web"] ["tally"] (j5 aw5):=⟨rfl,rfl,rfl,by decide +kernel,rfl,by decide +kernel,by decide +kernel⟩
set_option maxHeartbeats 4000000 in
theorem bI0 {f fC fM fO fS fX CB CW CN PT PU:Addr}{fd fdC fdM fdO fdS fdX:u0}(F:Fun K "least_off" "least_off" aw5 f fd)(B:Bn mg)
  (FC:Fun K "check_none_below" "check_none_below" aN7 fC fdC)(bC:Binds K fdC ["tally"] [])(mC:mg "check_none_below"=some (.ref fC))(GC:A8 P w K mg base (CXE P w) 5 fC fdC ["tally"] (br3 K CB CW))
  (FM:Fun K "room" "room" aq1 fM fdM)(bM:Binds K fdM ["tally","r"] [])(mM:mg "room"=some (.ref fM))(GM:A8 P w K mg base (CXE P w) 5 fM fdM ["tally","r"] (aM8 K CB CN))
  (FO:Fun K "off_by_want" "off_by_want" aq2 fO fdO)(bO:Binds K fdO ["tally","want"] [])(mO:mg "off_by_want"=some (.ref fO))(GO:A8 P w K mg base CX0 5 fO fdO ["tally","want"] (aZ8 K))
  (FS:Fun K "shares" "shares" ac7 fS fdS)(bS:Binds K fdS ["numbers","much","most"] [])(mS:mg "shares"=some (.ref fS))(GS:A8 P w K mg base (CXE P w) 5 fS fdS ["numbers","much","most"] (bq4 K PU))
  (FX:Fun K "answered" "answered" aT4 fX fdX)(bX:Binds K fdX ["tally"] [])(mX:mg "answered"=some (.ref fX))(GX:A8 P w K mg base (CXE P w) 5 fX fdX ["tally"] (br5 K CB PT)):A8 P w K mg base (CXE P w) 6 f fd ["tally"] (br0 K CB CW PT PU):=by
 refine F.okX aB3 (fun vs H Q E h=>?_) (fun cdv A outer s H vs Q E hr h=>?_)
 ·obtain⟨a,ns,rfl,_⟩:=h
  rfl
 ·obtain⟨a,ns,rfl,hS,h24,hok,q,qb,qw⟩:=h
  have hsl:=L3
  have nd2:(["r","tally"]:List Str).Nodup:=by decide +kernel
  have nd3:(["number","less"]:List Str).Nodup:=by decide +kernel
  refine⟨_,i4 (U0 (q8 GC hr (by rfl) mC FC.kp bC .nil an3 (b8 (pv 0) c9)))
   (i4 (aq5 (i:=1) aB3.nd rfl rfl (by rfl) (N':=["r","tally"]) (lk:=[none,some 0]) rfl (Q5 rfl B.range (b8 (p8 G3 (m4 u7 (by rfl) B.len PySem.boot_len (b8 (pv 0) c9)) d8) c9)) (by rfl) rfl (by decide +kernel) (by exact⟨rfl,trivial⟩) (by rfl) (by exact LkL.ok ⟨⟨rfl,Or.inl rfl,rfl,Or.inl rfl⟩,trivial⟩)
     (fun _ _ _=>y7 (i:=0) nd2 rfl (Or.inl rfl)) (fun _ _ _=>Q3) (fun _ _ _=>q8 GM hr (by rfl) mM FM.kp bM .nil (aq8 (P:=P) (w:=w)) (b8 (pv 1) (b8 (pv 0) c9))))
   (i4 (B1 (i:=2) aB3.nd rfl (Or.inl rfl) (q8 GO hr (by rfl) mO FO.kp bO .nil G4 (b8 (pv 0) (b8 (ab3 T8 (m4 (aK8 rfl) (by rfl) B.min (by rfl) (b8 (pv 1) c9))) c9))))
   (i4 (B1 (i:=3) aB3.nd rfl (Or.inl rfl) (q8 GS hr (by rfl) mS FS.kp bS .nil (aq8 (P:=P) (w:=w)) (b8 (pv 0) (b8 (pv 2) (b8 (m4 (bo1 rfl) (by rfl) B.max (by rfl) (b8 (pv 0) c9)) c9)))))
   (i4 (B1 (i:=4) aB3.nd rfl (Or.inl rfl) (C8 C5 (q8 GX hr (by rfl) mX FX.kp bX .nil (aq8 (P:=P) (w:=w)) (b8 (O9 (N':=["number","less"]) (lk:=[none,none]) rfl (bf3 (by rfl) B.zip (b8 (pv 0) (b8 (pv 3) c9))) (by rfl) rfl (by decide +kernel) (by exact trivial) (by rfl) (by exact LkL.ok trivial)
     (fun _ _ _=>aq7 (n:=2) K rfl rfl (E6 (y7 (i:=0) nd3 rfl (Or.inl rfl)) (E6 (y7 (i:=1) nd3 rfl (Or.inl rfl)) U2))) (fun _ _ _=>Q3) (fun _ _ _=>p8 R9 (pv 0) (pv 1))) c9)) d8 (fun _ _=>rfl)))
   (k7 (A9 (G0 (b8 (pv 2) (b8 (pv 4) (b8 (aJ2 PySem.F.plainAttrs_list PySem.F.slot_list_index PySem.F.type_list_index bl9 (pv 1) (b8 (m4 (aK8 rfl) (by rfl) B.min (by rfl) (b8 (pv 1) c9)) c9)) c9)))))))))),?_⟩
  refine⟨_,rfl,a,ns,rfl,hS,fun ht h0 H1 s1=>?_,qb,qw⟩
  obtain⟨tbs,q⟩:=q ht h0
  have t2:=ht.2
  have t1:=ht.1
  have hS1:=hS.same s1
  refine⟨_,rfl,a,_,rfl,hS1,_,_,rfl,rfl,((ns.length+1:Nat):Int),congrArg (fun z:Nat=>[V.int ((z:Int)+1)]) (b9 ..),by omega,by omega,fun D hD=>?_⟩
  rw[q0]
  refine Z9 (lo:=0) (n:=ns.length+1) (D:=D) (fun i xs σ' H'=>(∃ v,σ'=[v,some (.ref a)])/\u9 H1 H'/\H' D=some (.lst xs)/\xs=((o8 i).map (L4 ns)).map V.int) ⟨⟨none,rfl⟩,d9 hD,c8,rfl⟩ (by omega)
   (fun i xs σ' H' hi ⟨_,s6,h6,e6⟩=>⟨h6,by rw[e6,b9,b9,B0];exact d4 _⟩) ?_ ?_
  ·rintro i xs σ' H' N kN hi ⟨⟨v,rfl⟩,s6,h6,rfl⟩
   rw[show ((0:Int)+(i:Int))=(i:Int) by omega]
   refine B2 (N5 ?_)
   refine⟨_,rfl,_,rfl,a,ns,(i:Int),rfl,hS1.same s6,fun _ _ H7 s7=>?_,fun _ h=>absurd ⟨by omega,by omega⟩ h,fun h=>absurd ht h⟩
   have h7:=s7 _ _ h6
   refine⟨h7,kN _ _ _ ⟨⟨_,rfl⟩,(s6.trans s7).upd hD,c8,?_⟩⟩
   rw[E7,j9,j9]
   rfl
  rintro xs σ' H2 ⟨⟨v,rfl⟩,s2,gD,rfl⟩
  have fD:H D=none:=s1.free hD
  have s12:=s1.trans s2
  have hS2:=hS.same s12
  have hrl:((o8 (ns.length+1)).map (L4 ns)).length=ns.length+1:=by rw[b9,B0]
  refine⟨_,rfl,_,rfl,D,_,rfl,SqL.of gD,by omega,fun mn hm1 hm2=>⟨mn,rfl,a,ns,-mn,rfl,hS2,?_⟩⟩
  have hmr:∃ r,r<=ns.length/\mn=L4 ns r:=by
   obtain⟨r,hr1,hr2⟩:=u6.mp hm1
   have:=B9.mp hr1
   exact⟨r,by omega,hr2.symm⟩
  have hL:Lst ns mn:=⟨fun r hr=>hm2 _ (i7 (aB8 (by omega))),hmr⟩
  obtain⟨j,hj⟩:=bW9 hmr
  obtain⟨o0,o1,o2,o3⟩:=hL.off h0
  refine B2 ?_
  obtain⟨bb,hB⟩:∃ b,SqB b K H2 a (ns.map V.int):=hS2.elim (fun h=>⟨true,h⟩) fun h=>⟨false,h⟩
  refine⟨_,rfl,_,rfl,_,rfl,bb,a,ns,rfl,hB,by omega,fun mx hx1 hx2=>?_⟩
  have mx0:0<=mx:=by
   obtain⟨i,hi⟩:=B4.mp hx1
   exact h0 i mx hi
  obtain⟨M,rfl⟩:∃ M:Nat,mx=(M:Int):=⟨mx.toNat,by omega⟩
  have tbs2:=tbs.same s12
  refine⟨a,ns,_,M,rfl,hS2,by omega,h0,o0,tbs2.2.1,fun lx xs L H3 g3 tb3 hLv hxl hx flx glx=>?_⟩
  have gw3:Gw PT PU H2 H3:=bW7 g3
  have tbs3:Tbs PT PU H3:=⟨aS2 g3 tbs2.2.1 tbs2.1 tbs2.2.2,tb3,tbs2.2.2⟩
  have hS3:=cf3 gw3 tbs2 hS2
  have gD3:=aP1 gw3 tbs2 gD
  refine B2 ?_
  obtain⟨b3,hB3⟩:∃ b,SqB b K H3 a (ns.map V.int):=hS3.elim (fun h=>⟨true,h⟩) fun h=>⟨false,h⟩
  refine⟨_,rfl,_,rfl,b3,true,a,lx,rfl,⟨_,hB3⟩,⟨_,SqL.of glx⟩,fun D4 hD4=>?_⟩
  refine aK5 (b1:=b3) (b2:=true) (K:=K) (a:=a) (b:=lx) (D:=D4) (ys:=ns.map V.int) (zs:=xs.map V.int) (by rw[b9,b9,hxl]) (fun i ds σ' H'=>(∃ v u,σ'=[v,u])/\u9 H3 H'/\H' D4=some (.lst ds)/\ds=((o8 i).map fun j=>ns.getD j 0 - xs.getD j 0).map V.int)
   ⟨⟨none,none,rfl⟩,d9 hD4,c8,rfl⟩ (by rw[b9];omega) (fun i ds σ' H' hi ⟨_,s8,h8,e8⟩=>⟨SqB.same hB3 s8,SqL.of (s8 _ _ glx),h8,by rw[e8,b9,b9,B0];exact d4 _⟩) ?_ ?_
  ·rintro i ds x y t σ' H' N kN hx hy ⟨⟨v,u,rfl⟩,s8,h8,rfl⟩ ht'
   obtain⟨z1,hz1,rfl⟩:=Q6 hx
   obtain⟨z2,hz2,rfl⟩:=Q6 hy
   have s9:=d9 (o:=.tup [.int z1,.int z2]) ht'
   refine⟨t,_,rfl,SqT.of c8,rfl,_,_,rfl,_,_,rfl,rfl,N5 ?_⟩
   refine⟨_,rfl,_,rfl,_,_,rfl,rfl,s9 _ _ h8,kN _ _ _ ⟨⟨_,_,rfl⟩,(s8.trans s9).upd hD4,c8,?_⟩⟩
   rw[E7,j9,j9]
   show _=_++[V.int (ns.getD i 0 - xs.getD i 0)]
   rw[i3,i3,hz1,hz2]
   rfl
  rintro ds σ' H4 ⟨⟨v,u,rfl⟩,s4,gD4,rfl⟩
  rw[b9]at gD4
  have hcs:bL3 ns (ad4 ns xs) mn:=⟨M,L,xs,hx1,hx2,hLv,hxl,hx,rfl⟩
  have gD4':H4 D4=some (.lst ((ad4 ns xs).map V.int)):=gD4
  obtain⟨hGr,hcl,_,_⟩:=hcs.facts h0 hL
  generalize ad4 ns xs=cs at hcs gD4' hGr hcl
  have tbs4:=tbs3.same s4
  have htc:S9 cs:=⟨by omega,by omega⟩
  refine⟨D4,cs,rfl,.inl (SqL.of gD4'),LOK.le hok hcl,fun _=>⟨tbs4.1,fun rA H5 g5 tb5 ans=>?_⟩,fun h=>absurd htc h⟩
  rcases ans with⟨x,b,k1,k2,k3,k4⟩ | ⟨_,b,ks,k1,k2⟩
  ·exact absurd (bD7 k2 (bK1 hGr)) k1
  have a1:atI ([.str "web",.ref b]:List V) 1=some (.ref b):=B3 (j:=1) rfl
  have gw5:Gw PT PU H4 H5:=bW8 g5
  have tbs5:Tbs PT PU H5:=⟨tb5,aS2 g5 tbs4.1 tbs4.2.1 (fun z=>tbs4.2.2 z.symm),tbs4.2.2⟩
  have gD5:=aP1 gw5 tbs4 (s4 _ _ gD3)
  refine⟨rA,_,_,_,rfl,rfl,SqT.of k1,a1,?_⟩
  refine B2 ?_
  have hne:∀ m c,m<j->((o8 (ns.length+1)).map (L4 ns))[m]?=some c->c≠mn:=fun m c hm e=>by
   have:=hj.le
   rw[aB8 (by omega)]at e
   cases e
   exact hj.no m hm
  refine⟨_,rfl,_,rfl,_,rfl,.inl ⟨rfl,_,SqL.of gD5⟩,_,rfl,D,_,rfl,SqL.of gD5,by omega,fun mn' hn1 hn2=>?_⟩
  obtain rfl:mn'=mn:=by
   have:=hm2 _ hn1
   have:=hn2 _ hm1
   omega
  have hjl:=hj.le
  refine⟨D,_,mn',j,rfl,rfl,gD5,by rw[aB8 (by omega),hj.eq],hne,by omega,?_⟩
  refine⟨(by show 3<=i9;decide),fun p fp=>?_⟩
  have sp:=d9 (o:=.tup [.int (Z6 ns.sum (-mn')),.ref b,.int (j:Int)]) fp
  have gwA:Gw PT PU H H5:=((aP0 s12).trans gw3).trans ((aP0 s4).trans gw5)
  refine q p b cs ks mn' j _ (gwA.trans (aP0 sp)) (tbs5.same sp) ?_ ⟨hL,hj,hcs,c8,k2.same sp⟩
  cases e:H p with
  | none=>rfl
  | some o =>
   by_cases z1:p=PT
   ·obtain⟨⟨ps,hP,_⟩,_⟩:=tbs5
    rw[z1,hP]at fp
    cases fp
   ·by_cases z2:p=PU
    ·obtain⟨_,⟨ps,hP,_⟩,_⟩:=tbs5
     rw[z2,hP]at fp
     cases fp
    ·rw[gwA p o z1 z2 e]at fp
     cases fp
end
end Web
namespace Web
open PySem L2
theorem rep0 (n:Nat):(A5 n [V.int 0]).flatten=(tal n []).map V.int:=by
 rw[bE3]
 exact bN5 n 0
def cg2 (K:W.Frag)(H:Hp)(p:Addr)(n:Nat)(ks:List (List Int)):Prop:=∃ t zs,SqT K H p [.int n,.ref t]/\SqT K H t zs/\C1 K H zs ks
theorem bI9 {n:Nat}{a b:List Int}(ha:Up n a)(hb:Up n b)(hne:a≠b)(h:Tim.K2 b a=false):Tim.K2 a b=true:=by
 obtain⟨i,j,_,_,rfl⟩:=ha
 obtain⟨u,v,_,_,rfl⟩:=hb
 unfold Tim.K2 Tim.K2 at h ⊢
 by_cases e1:(u:Int)=i
 ·rw[if_pos e1]at h
  rw[if_pos e1.symm]
  by_cases e2:(v:Int)=j
  ·exact absurd (by rw[e1,e2]) hne
  ·rw[if_neg e2]at h
   rw[if_neg (Ne.symm e2)]
   have:=of_decide_eq_false h
   exact decide_eq_true (by omega)
 ·rw[if_neg e1]at h
  rw[if_neg (Ne.symm e1)]
  have:=of_decide_eq_false h
  exact decide_eq_true (by omega)
theorem bX4 {n:Nat}{ks:List (List Int)}(ups:∀ k∈ks,Up n k)(nd:ks.Nodup)(so:ks.Pairwise (fun a b=>Tim.K2 b a=false)):Asc ks:=by
 have h2:=N1.mp nd
 have h3:=so.and h2
 exact List.Pairwise.imp_of_mem (fun {a b} ha hb h=>bI9 (ups a ha) (ups b hb) h.2 h.1) h3
theorem aM5 {n:Nat}:∀ {ks:List (List Int)},(∀ k∈ks,Up n k)->ks.map up=ks
 | [],_=>rfl
 | k::ks,h=>by
  rw[v8,aM5 fun x hx=>h x (d7 _ hx)]
  rw[ca5 (h k i5)]
structure Tld (n:Nat) (ks:List (List Int)):Prop where
 ups:∀ k∈ks,Up n k
 nd:ks.Nodup
 srt:ks.Pairwise (fun a b=>Tim.K2 b a=false)
def GoodW (n:Int)(hs:List (List Int)):Prop:=∃ m:Nat,n=m/\1<=m/\m<=24/\(∀ k∈hs,aa2 m k)/\(hs.map up).Nodup
def Wx (K:W.Frag)(H:Hp)(p:Addr)(z:Int)(ks:List (List Int)):Prop:=(∃ t zs,SqT K H p [.int z,.ref t]/\SqT K H t zs/\C1 K H zs ks)/\(∀ k∈ks,∃ a b,k=[a,b])/\ks.length<64
theorem Wx.same {K:W.Frag}{H H':Hp}{p:Addr}{z:Int}{ks:List (List Int)}(h:Wx K H p z ks)(s:u9 H H'):Wx K H' p z ks:=by
 obtain⟨⟨t,zs,h1,h2,h3⟩,a,b⟩:=h
 exact⟨⟨t,zs,s.seqT h1,s.seqT h2,s.tups h3⟩,a,b⟩
structure Tl (z:Int) (n:Nat) (ks:List (List Int)):Prop where
 z:z=n
 n1:1<=n
 n2:n<=24
 t:Tld n ks
theorem bQ6 {z:Int}{hs ks:List (List Int)}(h:GoodW z hs)(pm:ks.Perm (hs.map up))(so:ks.Pairwise (fun a b=>Tim.K2 b a=false)):ks=hs↔∃ n:Nat,Tl z n hs:=by
 obtain⟨m,rfl,m1,m2,hE,hN⟩:=h
 constructor
 ·intro e
  subst e
  have hup:∀ k∈ks,Up m k:=fun k hk=>by
   obtain⟨k0,h0,rfl⟩:=u6.mp (pm.mem_iff.mp hk)
   exact(hE k0 h0).up
  exact⟨m,rfl,m1,m2,⟨hup,pm.nodup_iff.mpr hN,so⟩⟩
 ·rintro⟨n,e,_,_,T⟩
  have:n=m:=by omega
  subst this
  rw[aM5 T.ups]at pm
  exact aX9 (bX4 T.ups T.nd T.srt) pm so
theorem bE2 {z:Int}{n:Nat}{hs:List (List Int)}(h:Tl z n hs):GoodW z hs:=⟨n,h.z,h.n1,h.n2,fun k hk=>(h.t.ups k hk).ends,by rw[aM5 h.t.ups];exact h.t.nd⟩
seal L2.PE L2.PA L2.PS L2.PSs L2.PT
section
variable {P:j8} {w:x6} {K:W.Frag} {mg:Str->Option c6} {base:Heap}
def bM4 (K:W.Frag):Sp:=fun vs H Q _=>∃ (p:Addr) (n:Nat) (ks:List (List Int)),vs=[.ref p]/\cg2 K H p n ks/\n<=24/\(∀ k∈ks,aa2 n k)/\∀ l H',u9 H H'->H l=none->H' l=some (.lst ((tal n ks).map V.int))->Q (.ref l) H'
def cg7 (K:W.Frag)(H:Hp)(p l:Addr)(n:Nat)(ks:List (List Int))(i:Nat)(σ:St)(H2:Hp):Prop:=∃ a b,σ=[some (.ref p),some (.ref l),a,b]/\u9 H H2/\H2 l=some (.lst ((tal n (ks.take i)).map V.int))
theorem ay9:B6 ["web","tally","one","other"] ["web"] (j5 aj3):=⟨rfl,rfl,rfl,by decide +kernel,rfl,by decide +kernel,by decide +kernel⟩
theorem bU1 {f:Addr} {fd:u0} (F:Fun K "tally_of" "tally_of" aj3 f fd):A8 P w K mg base CX0 1 f fd ["web"] (bM4 K):=by
 refine F.ok ay9 (fun vs H Q E h=>?_) (fun cdv A outer s H vs Q E hr h=>?_)
 ·obtain⟨p,n,ks,rfl,_⟩:=h
  rfl
 ·obtain⟨p,n,ks,rfl,⟨t,zs,h1,h2,h3⟩,hn,hE,q⟩:=h
  have hsl:=L3
  refine⟨_,i4 (B1 (i:=1) ay9.nd rfl (Or.inl rfl) (p8 ba8 (X5 (b8 d8 c9)) (C8 C5 (pv 0) d8 (fun _ _=>rfl))))
   (i4 (V7 PassesOwn.never rfl (aC2 (C8 C5 (pv 0) d8 (fun _ _ => rfl))) (ao4 rfl (E6 (y7 (i := 2) ay9.nd rfl (Or.inl rfl)) (E6 (y7 (i := 3) ay9.nd rfl (Or.inl rfl)) U2)))
    (i4 (bf2 (pv 1) (pv 2) aW6 d8 bx3 set_list) (k7 (bf2 (pv 1) (pv 3) aW6 d8 bx3 set_list))))
   (k7 (A9 (pv 1)))),?_⟩
  have a0:atI ([.int n,.ref t]:List V) 0=some (.int n):=B3 (j:=0) rfl
  have a1:atI ([.int n,.ref t]:List V) 1=some (.ref t):=B3 (j:=1) rfl
  refine⟨(by show 1<=i9;decide),fun l0 f0=>?_⟩
  have s0:=d9 (o:=.lst [.int 0]) f0
  refine⟨_,rfl,p,_,_,_,rfl,rfl,s0.seqT h1,a0,l0,n,[.int 0],rfl,rfl,c8,by omega,by omega,?_,fun l hl=>?_⟩
  ·show 1*(n:Int).toNat<=i9
   omega
  have en:(n:Int).toNat=n:=by omega
  rw[en,rep0]
  have s1:=s0.trans (d9 (o:=.lst ((tal n []).map V.int)) hl)
  have g1:(upd (upd H l0 (.lst [.int 0])) l (.lst ((tal n []).map V.int))) l=some (.lst ((tal n []).map V.int)):=c8
  have fl:H l=none:=s0.free hl
  generalize upd (upd H l0 (.lst [.int 0])) l (.lst ((tal n []).map V.int))=H1 at s1 g1 ⊢
  have hz:=h3.len
  refine⟨_,rfl,p,_,_,_,rfl,rfl,s1.seqT h1,a1,t,rfl,⟨_,s1.seqT h2⟩,?_⟩
  refine bh5 (K:=K) (a:=t) (xs:=zs) (cg7 K H p l n ks) ⟨none,none,rfl,s1,by rw[bd3];exact g1⟩ (fun i σ H2 _ ⟨_,_,_,s2,_⟩=>s2.seqT h2) ?_ ?_
  ·rintro i x σ H2 hx ⟨ea,eb,rfl,s2,g2⟩
   obtain⟨pa,pk,rfl,hk,hq⟩:=h3.get hx
   obtain⟨i1,j1,u1,u2,u3,epk⟩:=hE pk (i7 hk)
   have hq2:=s2.seqT hq
   rw[epk]at hq2
   refine⟨pa,_,rfl,hq2,rfl,_,_,rfl,_,_,rfl,rfl,?_⟩
   have t1:((tal n (ks.take i)).map V.int)[i1]?=some (.int (U9 (ks.take i) i1)):=by rw[o9,af7 u1];rfl
   have t2:(((tal n (ks.take i)).map V.int).set i1 (.int ((U9 (ks.take i) i1:Int)+1)))[j1]?=some (.int (U9 (ks.take i) j1)):=by
    rw[ac0 u3,o9,af7 u2];rfl
   have lt:((tal n (ks.take i)).map V.int).length=n:=by rw[b9,T9]
   refine⟨_,rfl,_,rfl,l,_,_,_,rfl,rfl,SqL.of g2,B3 t1,_,_,rfl,rfl,l,_,_,i1,rfl,rfl,g2,by rw[lt];exact ab7 u1,?_⟩
   refine⟨_,rfl,_,rfl,l,_,_,_,rfl,rfl,SqL.of c8,B3 t2,_,_,rfl,rfl,l,_,_,j1,rfl,rfl,c8,by rw[K5,lt];exact ab7 u2,?_⟩
   refine⟨_,_,rfl,?_,?_⟩
   ·rw[aM6]
    exact s2.upd fl
   ·rw[c8,C3,hk,af1,epk,<- bd8 u1 u2 u3 (ks.take i) _ _ rfl rfl,as9,as9]
  ·rintro σ H2 ⟨ea,eb,rfl,s2,g2⟩
   rw[k8 (by omega)]at g2
   exact⟨_,rfl,q l H2 s2 fl g2⟩
def bM2 (K:W.Frag)(CW:Addr):Sp:=fun vs H Q E=>∃ (n:Nat) (a:Addr) (p q:Int),vs=[.int n,.ref a]/\SqT K H a (([p,q]:List Int).map V.int) /\
 (aa2 n [p,q]->∀ t,H t=none->Q (.ref t) (upd H t (.tup ((up [p,q]).map V.int))))/\(¬ aa2 n [p,q]->E (.ref CW) none H)
theorem bv3 {n:Nat}{p:Int}(h:¬ (0<=p/\p<(n:Int))):(decide ((0:Int)<=p) && decide (p<(n:Int)))=false:=by
 rw[Bool.and_eq_false_iff]
 by_cases z:(0:Int)<=p
 ·exact .inr (decide_eq_false fun z'=>h ⟨z,z'⟩)
 ·exact .inl (decide_eq_false z)
theorem ar9 {n:Nat}{p q:Int}:aa2 n [p,q]↔(0<=p/\p<(n:Int))/\(0<=q/\q<(n:Int))/\p≠q:=by
 constructor
 ·rintro⟨i,j,h1,h2,h3,e⟩
  injection e with e1 e2
  injection e2 with e2 _
  subst e1 e2
  exact⟨⟨by omega,by omega⟩,⟨by omega,by omega⟩,by omega⟩
 ·rintro⟨⟨a,b⟩,⟨c,d⟩,e⟩
  exact⟨p.toNat,q.toNat,by omega,by omega,by omega,by congr 1;omega;congr 1;omega⟩
theorem bT9 {f fI CW:Addr} {fd fdI:u0} (F:Fun K "turned_up" "turned_up" sUp f fd) (B:Bn mg) (FI:Fun K "is_place" "is_place" au2 fI fdI) (bI:Binds K fdI ["places","number"] []) (mI:mg "is_place"=some (.ref fI)) (mW:mg "BadWeb"=some (.ref CW)) (cW:ae7 K CW) :
  A8 P w K mg base (CXE P w) 2 f fd ["places","tie"] (bM2 K CW):=by
 have GI:A8 P w K mg base CX0 1 fI fdI ["places","number"] br1:=bv2 FI
 refine F.okX cc6 (fun vs H Q E h=>?_) (fun cdv A outer s H vs Q E hr h=>?_)
 ·obtain⟨n,a,p,q,rfl,_⟩:=h
  rfl
 ·obtain⟨n,a,p,q,rfl,hS,h1,h2⟩:=h
  refine⟨_,i4 (G7 (PW.pt (Z2 (Q9 (Z3 (q8 GI hr rfl mI FI.kp bI .nil G4 (b8 (pv 0) (b8 (C8 C5 (pv 1) d8 (fun _ _=>rfl)) c9)))))
     (ag1 (Q9 (Z3 (q8 GI hr rfl mI FI.kp bI .nil G4 (b8 (pv 0) (b8 (C8 C5 (pv 1) d8 (fun _ _=>rfl)) c9)))))))) (k7 (Z4 (by rfl) mW cW)) C7)
   (i4 (G7 (A6 W6 (C8 C5 (pv 1) d8 (fun _ _=>rfl)) (C8 C5 (pv 1) d8 (fun _ _=>rfl)) (C2 _)) (k7 (Z4 (by rfl) mW cW)) C7)
   (k7 (A9 (G0 (b8 (m4 (ae5 rfl) (by rfl) B.min (by rfl) (b8 (C8 C5 (pv 1) d8 (fun _ _ => rfl)) (b8 (C8 C5 (pv 1) d8 (fun _ _ => rfl)) c9)))
    (b8 (m4 (W0 rfl) (by rfl) B.max (by rfl) (b8 (C8 C5 (pv 1) d8 (fun _ _=>rfl)) (b8 (C8 C5 (pv 1) d8 (fun _ _=>rfl)) c9))) c9)))))),?_⟩
  have a0:atI (([p,q]:List Int).map V.int) 0=some (.int p):=B3 (j:=0) rfl
  have a1:atI (([p,q]:List Int).map V.int) 1=some (.int q):=B3 (j:=1) rfl
  refine⟨_,rfl,_,rfl,a,_,_,_,rfl,rfl,hS,a0,_,_,rfl,?_⟩
  by_cases hp:0<=p/\p<(n:Int)
  ·rw[decide_eq_true hp.1,decide_eq_true hp.2]
   refine⟨_,rfl,K3 ?_⟩
   refine⟨_,rfl,_,rfl,a,_,_,_,rfl,rfl,hS,a1,_,_,rfl,?_⟩
   by_cases hq:0<=q/\q<(n:Int)
   ·rw[decide_eq_true hq.1,decide_eq_true hq.2]
    refine⟨_,rfl,K3 ?_⟩
    refine⟨_,rfl,a,_,_,_,rfl,rfl,hS,a0,_,rfl,a,_,_,_,rfl,rfl,hS,a1,rfl,_,rfl,?_⟩
    by_cases hpq:p=q
    ·rw[decide_eq_true (by rw[hpq])]
     exact J0 (h2 fun z=>(ar9.mp z).2.2 hpq)
    ·rw[decide_eq_false (show ¬ V.int p=V.int q by intro z;injection z;exact hpq ‹_›)]
     refine K3 ?_
     refine⟨_,rfl,a,_,_,_,rfl,rfl,hS,a0,_,rfl,a,_,_,_,rfl,rfl,hS,a1,_,_,rfl,?_⟩
     refine⟨_,rfl,a,_,_,_,rfl,rfl,hS,a0,_,rfl,a,_,_,_,rfl,rfl,hS,a1,_,_,rfl,(by show 2<=i9;decide),fun t ht=>?_⟩
     exact h1 (ar9.mpr ⟨hp,hq,hpq⟩) t ht
   ·rw[bv3 hq]
    exact⟨_,rfl,J0 (h2 fun z=>hq (ar9.mp z).2.1)⟩
  ·rw[bv3 hp]
   exact⟨_,rfl,J0 (J0 (h2 fun z=>hp (ar9.mp z).1))⟩
def aN0 (K:W.Frag)(CW:Addr):Sp:=fun vs H Q E=>∃ (n:Int) (a:Addr) (ys:List V) (hs:List (List Int)),vs=[.int n,.ref a]/\(SqL K H a ys\/SqT K H a ys)/\C1 K H ys hs/\(∀ k∈hs,∃ p q,k=[p,q])/\hs.length<64 /\
 (GoodW n hs->∀ (p t:Addr) (zs:List V) (ks:List (List Int)) (H':Hp),u9 H H'->H' p=some (.tup [.int n,.ref t])->H' t=some (.tup zs)->C1 K H' zs ks->ks.Perm (hs.map up)->ks.Pairwise (fun a b=>Tim.K2 b a=false)->Q (.ref p) H')/\(¬ GoodW n hs->∀ H',u9 H H'->E (.ref CW) none H')
theorem bv1 {f fI fU CW:Addr} {fd fdI fdU:u0} {tk:Tok} (F:Fun K "made" "made" aj5 f fd) (B:Bn mg) (FI:Fun K "is_place" "is_place" au2 fI fdI) (bI:Binds K fdI ["places","number"] []) (mI:mg "is_place"=some (.ref fI))
  (FU:Fun K "turned_up" "turned_up" sUp fU fdU) (bU:Binds K fdU ["places","tie"] []) (mU:mg "turned_up"=some (.ref fU)) (mM:mg "MOST_PLACES"=some (.int 24 tk)) (mW:mg "BadWeb"=some (.ref CW)) (cW:ae7 K CW) :
  A8 P w K mg base (CXE P w) 3 f fd ["places","ties"] (aN0 K CW):=by
 have GU:A8 P w K mg base (CXE P w) 2 fU fdU ["places","tie"] (bM2 K CW):=bT9 FU B FI bI mI mW cW
 refine F.okX aB2 (fun vs H Q E h=>?_) (fun cdv A outer s H vs Q E hr h=>?_)
 ·obtain⟨n,a,ys,hs,rfl,_⟩:=h
  rfl
 ·obtain⟨n,a,ys,hs,rfl,hS,hT,h2,hL,q,qE⟩:=h
  have hu8:=aG6 (bP3 (by decide:8<=64) _) hr.units
  have hyl:=hT.len
  have nd2:(["tie","places"]:List Str).Nodup:=by decide +kernel
  refine⟨_,i4 (G7 (Q9 (ad8 ab5 ab5 d8 (pv 0) (az1 (v:=.int 24) rfl mM ⟨_,rfl⟩))) (k7 (Z4 (by rfl) mW cW)) C7)
    (i4 (B1 (i := 2) aB2.nd rfl (Or.inl rfl) (m4 ag7 (by rfl) B.sorted (by rfl) (b8
     (bt5 (E := E) rfl (N' := ["tie", "places"]) (lk := [none, some 0]) rfl (bf4 (R4 (pv 1)) (aC2 (pv 1))) (by rfl) rfl (by decide +kernel) (by exact ⟨rfl, trivial⟩) (by rfl) (by exact LkL.ok ⟨⟨rfl, Or.inl rfl, rfl, Or.inl rfl⟩, trivial⟩)
      (fun _ _ _ _ _=>y7 (i:=0) nd2 rfl (Or.inl rfl)) (fun _ _ _ _ _=>Q3) (fun _ _ _ _ _ I3 f3=>q8 GU hr (by rfl) mU FU.kp bU .nil (cd8 I3 f3) (b8 (pv 1) (b8 (pv 0) c9)))) c9)))
    (i4 (G7 (A6 ae0 (m4 call_len_set (by rfl) B.len PySem.boot_len (b8 (L9 (aF1 rfl hu8) (by rfl) B.set (by rfl) (b8 (pv 2) c9)) c9)) (m4 u7 (by rfl) B.len PySem.boot_len (b8 (pv 2) c9)) (C2 _)) (k7 (Z4 (by rfl) mW cW)) C7)
    (k7 (A9 (G0 (b8 (pv 0) (b8 (L9 O8 (by rfl) B.tuple (by rfl) (b8 (pv 2) c9)) c9))))))),?_⟩
  refine⟨_,rfl,_,_,rfl,rfl,_,rfl,?_⟩
  by_cases n1:(1:Int)<=n
  ·rw[decide_eq_true n1]
   refine J0 ⟨_,_,rfl,rfl,_,rfl,?_⟩
   by_cases n2:n<=24
   ·rw[decide_eq_true n2]
    refine K3 ?_
    obtain⟨m,rfl⟩:∃ m:Nat,n=(m:Int):=⟨n.toNat,by omega⟩
    have m1:1<=m:=by omega
    have m2:m<=24:=by omega
    refine Or.imp (fun h=>⟨_,rfl,h⟩) (fun h=>⟨_,rfl,h⟩) (aK6 (K:=K) (a:=a) (ys:=ys) hS (by have:=L3;omega) (fun D i xs σ' H'=>∃ v,σ'=[v,some (.int m)]/\u9 H H'/\H' D=some (.lst xs)/\C1 K H' xs ((hs.take i).map up)/\∀ k∈hs.take i,aa2 m k) (fun D hD=>⟨none,rfl,d9 hD,c8,.nil,(fun k hk=>by simp at hk)⟩)
     (fun D i xs σ' H' hD hi ⟨_,_,s1,h1,h2,_⟩=>⟨s1,h1,by have:=h2.len;simp at this;omega⟩) ?_ ?_)
    ·rintro D i xs x σ' H' N hD kN hx ⟨v,rfl,s1,hd,ht,hE⟩
     refine B2 ?_
     refine N5 ?_
     obtain⟨b,kk,rfl,hk,hq⟩:=hT.get hx
     obtain⟨p,pq,rfl⟩:=h2 kk (i7 hk)
     refine⟨_,rfl,_,rfl,m,b,p,pq,rfl,s1.seqT hq,fun hend t htn=>?_,fun hbad=>qE (fun⟨m',em,_,_,g,_⟩=>hbad ?_) _ s1⟩
     ·have npd:D≠t:=o5 hd htn
      have hd':(upd H' t (.tup ((up [p,pq]).map V.int))) D=some (.lst xs):=by rw[v7 npd];exact hd
      have ek:hs.take (i+1)=hs.take i++[[p,pq]]:=by rw[C3,hk];rfl
      refine⟨hd',kN _ _ _ ⟨_,rfl,(s1.trans (d9 htn)).upd hD,c8,?_,fun k hk'=>?_⟩⟩
      ·rw[ek,j9]
       exact C1.updL hd' (C1.append (u9.tups (d9 htn) ht) (C1.one (SqT.of c8)))
      ·rw[ek]at hk'
       rcases F3.mp hk' with z | z
       ·exact hE k z
       ·rw[B7.mp z];exact hend
     ·have em':m'=m:=by omega
      subst em'
      exact g _ (i7 hk)
    ·rintro D xs σ' H1 hD ⟨v,rfl,s1,h1,h2',hE⟩
     rw[k8 (by omega)]at h2' hE
     have hup:∀ k∈hs.map up,Up m k:=fun k hk=>by
      obtain⟨k0,h0,rfl⟩:=u6.mp hk
      exact(hE k0 h0).up
     refine⟨D,xs,_,rfl,SqL.of h1,h2',(fun k hk z=>by have:=(hup k hk).len;rw[z]at this;cases this),(by rw[b9];omega),fun l zs ks hl pk hs1 ht1=>?_⟩
     have hkl:ks.length=hs.length:=by rw[pk.length_eq,b9]
     have hzl:=ht1.len
     have s2:u9 H (upd H1 l (.lst zs)):=s1.trans (d9 hl)
     refine⟨_,rfl,l,zs,ks,rfl,SqL.of c8,ht1,(fun k hk=>(hup k (pk.mem_iff.mp hk)).key m2),by omega,fun S hSn=>?_⟩
     have hlS:l≠S:=o5 c8 hSn
     have s3:=s2.trans (d9 (o:=aI1 P w S (ks.foldl Sett.T4 []).length) hSn)
     have l3:(upd (upd H1 l (.lst zs)) S (aI1 P w S (ks.foldl Sett.T4 []).length)) l=some (.lst zs):=by rw[v7 hlS,c8]
     refine⟨S,_,rfl,c8,_,rfl,l,zs,rfl,.inl (SqL.of l3),_,_,rfl,rfl,_,rfl,?_⟩
     by_cases hN:(hs.map up).Nodup
     ·have hfold:(ks.foldl Sett.T4 []).length=zs.length:=by
       have:=(Sett.ae2 ks []).mpr ⟨(pk.nodup_iff).mpr hN,fun x _=>by simp⟩
       simp at this
       omega
      rw[decide_eq_false (by omega)]
      refine K3 ?_
      refine⟨_,rfl,_,rfl,l,zs,rfl,.inl ⟨SqL.of l3,fun t ht=>⟨(by show 2<=i9;decide),fun p hp=>?_⟩⟩⟩
      have st:=d9 (o:=.tup zs) ht
      have sp:=d9 (o:=.tup [.int (m:Int),.ref t]) hp
      exact q ⟨m,rfl,m1,m2,hE,hN⟩ p t zs ks _ ((s3.trans st).trans sp) c8 (sp _ _ c8) (((d9 (o:=aI1 P w S (ks.foldl Sett.T4 []).length) hSn).trans (st.trans sp)).tups ht1) pk hs1
     ·have hfold:(ks.foldl Sett.T4 []).length<zs.length:=by
       have h1:=Sett.ar7 ks []
       have h3:(ks.foldl Sett.T4 []).length≠([]:List (List Int)).length+ks.length:=fun z=>hN ((pk.nodup_iff).mp ((Sett.ae2 ks []).mp z).1)
       simp at h1 h3
       omega
      rw[decide_eq_true (by omega)]
      refine J0 (qE (fun⟨m',em,_,_,_,g⟩=>hN g) _ s3)
   ·rw[decide_eq_false n2]
    exact J0 (qE (fun⟨m',em,_,z,_,_⟩=>n2 (by omega)) _ (u9.refl H))
  ·rw[decide_eq_false n1]
   exact K3 ⟨_,rfl,J0 (qE (fun⟨m',em,z,_,_,_⟩=>n1 (by omega)) _ (u9.refl H))⟩
def aM7 (K:W.Frag):Sp:=fun vs H Q _=>∃ (p:Addr) (z:Int) (ks:List (List Int)),vs=[.ref p]/\Wx K H p z ks/\∀ (b:Bool) (H':Hp),u9 H H'->(b=true↔∃ n:Nat,Tl z n ks)->Q (.bl b) H'
theorem bS1:B6 ["web"] ["web"] (j5 ab1):=⟨rfl,rfl,rfl,by decide +kernel,rfl,by decide +kernel,by decide +kernel⟩
theorem bu8 {f fV CX:Addr}{fd fdV:u0}(F:Fun K "is_told" "is_told" ab1 f fd)(FV:Fun K "made" "made" aj5 fV fdV)(bV:Binds K fdV ["places","ties"] [])(mV:mg "made"=some (.ref fV))(GV:A8 P w K mg base (CXE P w) 3 fV fdV ["places","ties"] (aN0 K CX))(mX:mg "BadWeb"=some (.ref CX))(xX:PySem.W.exmOne K (.ref CX) (.ref CX)=some true):A8 P w K mg base CX0 4 f fd ["web"] (aM7 K):=by
 refine F.ok bS1 (fun vs H Q E h=>?_) (fun cdv A outer s H vs Q E hr h=>?_)
 ·obtain⟨p,z,ks,rfl,_⟩:=h
  rfl
 ·obtain⟨p,z,ks,rfl,⟨⟨t,zs,h1,h2,h3⟩,hp2,hkl⟩,q⟩:=h
  have hun:=hr.units
  refine⟨_,k7 (bF7 (by rfl) mX rfl rfl (fun _ _=>k7 (A9 (ag4 (bG9 K hr.around rfl rfl) (bt7 GV hr (by rfl) mV FV.kp bV bG2 (b8 (U3 K rfl (pv 0) d8 (fun _ _=>rfl)) (b8 (U3 K rfl (pv 0) d8 (fun _ _=>rfl)) c9))) (pv 0) (C2 _)))) (fun _=>k7 (A9 aC4))),?_⟩
  have a0:atI ([.int z,.ref t]:List V) 0=some (.int z):=B3 (j:=0) rfl
  have a1:atI ([.int z,.ref t]:List V) 1=some (.ref t):=B3 (j:=1) rfl
  refine⟨fun σ' cls _ H'=>u9 H H'/\cls=.ref CX/\¬ GoodW z ks,?_,?_⟩
  ·refine⟨_,rfl,.inr (.inl ⟨p,_,_,_,rfl,rfl,h1,a0,_,rfl,.inr (.inl ⟨p,_,_,_,rfl,rfl,h1,a1,?_⟩)⟩)⟩
   refine⟨z,t,zs,ks,rfl,.inr h2,h3,hp2,hkl,fun hg r t' zs2 ks2 H' s' k1 k2 tt pm so=>?_,fun hg H' s'=>⟨s',rfl,hg⟩⟩
   have hw:Dt K H' (dW z ks) (.ref p):=Dt.mkT (s'.seqT h1) (.mkC .mkInt (.mkC (Dt.mkT (s'.seqT h2) (s'.tups h3).dtAll) .mkN))
   have hw2:Dt K H' (dW z ks2) (.ref r):=Dt.mkT (SqT.of k1) (.mkC .mkInt (.mkC (Dt.mkT (SqT.of k2) tt.dtAll) .mkN))
   refine⟨_,rfl,_,_,hw2,hw,bN8 _ _,bN8 _ _,?_,?_⟩
   ·refine bd6 hun (A4 (aZ1 _ _) ?_)
    have:=cf9 z ks2
    omega
   ·rw[if_neg k9,cf8,decide_eq_true rfl,bo7]
    refine q _ H' s' ?_
    rw[decide_eq_true_iff]
    exact bQ6 hg pm so
  ·rintro σ' cls H' ⟨s',rfl,hg⟩
   exact⟨xX,q false H' s' ⟨fun h=>(by cases h),fun⟨n,h⟩=>absurd (bE2 h) hg⟩⟩
end
end Web
namespace Web
open PySem L2
seal L2.PE L2.PA L2.PS L2.PSs L2.PT
section
variable {P:j8} {w:x6} {K:W.Frag} {mg:Str->Option c6} {base:Heap}
def aM9 (K:W.Frag):Sp:=fun vs H Q _=>∃ n:Nat,vs=[.int n]/\n<=24/\∀ l zs H',u9 H H'->H l=none->H' l=some (.lst zs)->C1 K H' zs (U4 n)->Q (.ref l) H'
theorem az0:B6 ["places","pairs","one","other"] ["places"] (j5 af9):=⟨rfl,rfl,rfl,by decide +kernel,rfl,by decide +kernel,by decide +kernel⟩
theorem aU6 {f:Addr} {fd:u0} (F:Fun K "_law_pairs" "_law_pairs" af9 f fd) (B:Bn mg):A8 P w K mg base CX0 1 f fd ["places"] (aM9 K):=by
 refine F.ok az0 (fun vs H Q E h=>?_) (fun cdv A outer s H vs Q E hr h=>?_)
 ·obtain⟨n,rfl,_⟩:=h
  rfl
 ·obtain⟨n,rfl,hn,q⟩:=h
  refine⟨_,i4 (B1 (i:=1) az0.nd rfl (Or.inl rfl) (X5 c9))
   (i4 (V7 PassesOwn.never rfl (Q5 rfl B.range (b8 (pv 0) c9)) (y7 (i := 2) az0.nd rfl (Or.inl rfl))
    (k7 (V7 PassesOwn.never rfl (aJ1 rfl B.range (b8 (p8 G3 (pv 2) d8) (b8 (pv 0) c9))) (y7 (i := 3) az0.nd rfl (Or.inl rfl))
     (k7 (U0 (aJ2 PySem.F.plainAttrs_list PySem.F.slot_list_append PySem.F.type_list_append S4 (pv 1) (b8 (G0 (b8 (pv 2) (b8 (pv 3) c9))) c9)))))))
   (k7 (A9 (pv 1)))),?_⟩
  refine⟨by show 0<=i9;omega,fun l hl=>?_⟩
  have hlen:=aJ6 n hn
  have hsl:=L3
  refine⟨_,rfl,n,rfl,by omega,by omega,Y7 (lo:=0) (n:=n) (fun i σ H1=>∃ a b zs,σ=[some (.int n),some (.ref l),a,b]/\u9 H H1/\H1 l=some (.lst zs)/\C1 K H1 zs ((o8 i).flatMap fun j=>am6 j (n - (j+1))))
   ⟨none,none,[],rfl,d9 hl,c8,.nil⟩ ?_ ?_⟩
  ·rintro i σ H1 hi ⟨a,b,zs,rfl,s1,h1,t1⟩
   refine⟨_,rfl,_,_,rfl,rfl,_,rfl,_,_,rfl,⟨by omega,by omega,by omega,by omega⟩,Y7 (lo:=0+(i:Int)+1) (fun d σ H2=>∃ b zs,σ=[some (.int n),some (.ref l),some (.int (0+i)),b]/\u9 H H2/\H2 l=some (.lst zs)/\C1 K H2 zs (((o8 i).flatMap fun j=>am6 j (n - (j+1)))++am6 i d))
    ⟨b,zs,rfl,s1,h1,by simpa [am6] using t1⟩ ?_ ?_⟩
   ·rintro d σ H2 hd ⟨b,zs,rfl,s2,h2,t2⟩
    have hlz:=t2.len
    have hpart:=bv8 n (i+1) (by omega)
    rw[aC5,p6]at hpart
    have hrow:∀ m,(am6 i m).length=m:=fun m=>by simp[am6]
    rw[p6,hrow]at hlz
    rw[hrow]at hpart
    refine⟨_,rfl,.inl ⟨rfl,_,SqL.of h2⟩,_,rfl,_,rfl,(by show 2<=i9;decide),fun p hp=>?_⟩
    have hlp:l≠p:=o5 h2 hp
    have h2':(upd H2 p (.tup [.int (0+(i:Int)),.int (0+(i:Int)+1+(d:Int))])) l=some (.lst zs):=by rw[v7 hlp];exact h2
    refine⟨l,zs,_,rfl,rfl,h2',by omega,?_⟩
    refine⟨_,_,rfl,(s2.trans (d9 hp)).upd hl,c8,?_⟩
    rw[bl0,<- aI2]
    refine C1.updL h2' (C1.append (u9.tups (d9 hp) t2) (C1.one (SqT.of ?_)))
    rw[c8]
    simp
   ·rintro σ H2 ⟨b,zs,rfl,s2,h2,t2⟩
    refine⟨_,_,zs,rfl,s2,h2,?_⟩
    rw[aC5]
    have e:((n:Int) - (0+(i:Int)+1)).toNat=n - (i+1):=by omega
    rw[e]at t2
    exact t2
  ·rintro σ H1 ⟨a,b,zs,rfl,s1,h1,t1⟩
   exact⟨_,rfl,q l zs H1 s1 hl h1 t1⟩
end
end Web
namespace Web
open PySem L2
theorem bR8 (z:Int)(h:0<=z/\z<6):∃ v:Int,atI ([.int 1,.int (-1),.int 2,.int (-2),.int 7,.int (-7)]:List V) z=some (.int v):=by
 have:z=0\/z=1\/z=2\/z=3\/z=4\/z=5:=by omega
 rcases this with h | h | h | h | h | h
 ·rw[h];exact⟨_,B3 (j:=0) rfl⟩
 ·rw[h];exact⟨_,B3 (j:=1) rfl⟩
 ·rw[h];exact⟨_,B3 (j:=2) rfl⟩
 ·rw[h];exact⟨_,B3 (j:=3) rfl⟩
 ·rw[h];exact⟨_,B3 (j:=4) rfl⟩
 ·rw[h];exact⟨_,B3 (j:=5) rfl⟩
section
variable {P:j8} {w:x6} {K:W.Frag} {mg:Str->Option c6} {base:Heap}
def bq6:Sp:=fun vs H Q _=>∃ (c k b:Int),vs=[.int c,.int k,.int b]/\0<b/\∀ r:Int,0<=r->r<b->Q (.int r) H
theorem be6:B6 ["cell","k","bound","prime","one"] ["cell","k","bound"] (j5 aN6):=⟨rfl,rfl,rfl,by decide +kernel,rfl,by decide +kernel,by decide +kernel⟩
theorem bv0 {f:Addr}{fd:u0}(F:Fun K "_law_mixed" "_law_mixed" aN6 f fd):A8 P w K mg base CX0 1 f fd ["cell","k","bound"] bq6:=by
 refine F.ok be6 (fun vs H Q E h=>?_) (fun cdv A outer s H vs Q E hr h=>?_)
 ·obtain⟨c,k,b,rfl,_⟩:=h
  rfl
 ·obtain⟨c,k,b,rfl,hb,q⟩:=h
  refine⟨_,i4 (B1 (i:=3) be6.nd rfl (Or.inl rfl) d8)
   (i4 (B1 (i:=4) be6.nd rfl (Or.inl rfl) (p8 L7 (p8 aj8 (p8 G3 (p8 L7 (pv 0) (pv 3)) (p8 aj8 (p8 G3 (pv 1) d8) d8)) d8) (pv 3)))
   (i4 (B1 (i:=4) be6.nd rfl (Or.inl rfl) (p8 L7 (p8 aj8 (pv 4) (pv 4)) (pv 3)))
   (k7 (A9 (p8 L7 (p8 W2 (p8 L7 (p8 aj8 (p8 G3 (pv 4) (pv 1)) d8) (pv 3)) d8) (pv 2)))))),?_⟩
  have pp:(0:Int)<2305843009213693951:=by decide
  refine⟨_,rfl,_,rfl,_,_,rfl,rfl,pp,_,rfl,_,_,rfl,rfl,_,_,rfl,rfl,.inr ⟨by decide,by decide⟩,_,_,rfl,rfl,_,_,rfl,rfl,.inr ⟨by decide,by decide⟩,_,rfl,_,_,rfl,rfl,pp,?_⟩
  generalize ho:((c % 2305843009213693951+(k+3)*1000000007)*1152921504606846883 % 2305843009213693951:Int)=o
  have h1:0<=o:=by rw[<- ho];exact M7 _ (by decide)
  have h2:o<2305843009213693951:=by rw[<- ho];exact J1 _ pp
  refine⟨_,rfl,_,rfl,_,_,rfl,rfl,.inl ⟨by omega,by omega⟩,_,rfl,_,_,rfl,rfl,pp,?_⟩
  refine⟨_,rfl,_,rfl,_,_,rfl,rfl,_,_,rfl,rfl,.inr ⟨by decide,by decide⟩,_,rfl,_,_,rfl,rfl,pp,_,_,rfl,rfl,⟨by decide,by decide⟩,_,rfl,_,_,rfl,rfl,hb,?_⟩
  exact q _ (M7 _ (by omega)) (J1 _ hb)
def bM3 (K:W.Frag):Sp:=fun vs H Q _=>∃ (a:Addr) (ns:List Int) (m:Nat),vs=[.ref a,.int m]/\SqL K H a (ns.map V.int)/\1<=m/\m<=24/\∀ (l:Addr) (ts:List Int) (H':Hp),1<=ts.length->ts.length<=m->u9 H H'->H l=none->H' l=some (.lst (ts.map V.int))->Q (.ref l) H'
theorem ah4:B6 ["script","most","base","places","way","cell","tally","rest","place","k","pair","far"] ["script","most"] (j5 aT0):=⟨rfl,rfl,rfl,by decide +kernel,rfl,by decide +kernel,by decide +kernel⟩
def cg6 (H:Hp)(a l:Addr)(m b n y c:Int)(k:Nat)(σ:St)(H2:Hp):Prop:=
 ∃ (ts:List Int) (e7 e8 e9 e10 e11:Option V),σ=[some (.ref a),some (.int m),some (.int b),some (.int n),some (.int y),some (.int c),some (.ref l),e7,e8,e9,e10,e11]/\u9 H H2/\H2 l=some (.lst (ts.map V.int))/\ts.length=k
set_option maxHeartbeats 1000000 in
theorem bU0 {f fC fM fP:Addr} {fd fdC fdM fdP:u0} (F:Fun K "_law_tally" "_law_tally" aT0 f fd) (B:Bn mg) (FC:Fun K "_law_cell_at" "_law_cell_at" aw7 fC fdC) (bC:Binds K fdC ["script","k"] []) (mC:mg "_law_cell_at"=some (.ref fC))
  (FM:Fun K "_law_mixed" "_law_mixed" aN6 fM fdM) (bM:Binds K fdM ["cell","k","bound"] []) (mM:mg "_law_mixed"=some (.ref fM)) (FP:Fun K "_law_pairs" "_law_pairs" af9 fP fdP) (bP:Binds K fdP ["places"] []) (mP:mg "_law_pairs"=some (.ref fP)) :
  A8 P w K mg base CX0 2 f fd ["script","most"] (bM3 K):=by
 have GC:A8 P w K mg base CX0 1 fC fdC ["script","k"] (br4 K):=bI2 FC B
 have GM:A8 P w K mg base CX0 1 fM fdM ["cell","k","bound"] bq6:=bv0 FM
 have GP:A8 P w K mg base CX0 1 fP fdP ["places"] (aM9 K):=aU6 FP B
 refine F.ok ah4 (fun vs H Q E h=>?_) (fun cdv A outer s H vs Q E hr h=>?_)
 ·obtain⟨a,ns,m,rfl,_⟩:=h
  rfl
 ·obtain⟨a,ns,m,rfl,hS,hm1,hm2,q⟩:=h
  have hsl:=L3
  refine⟨_,i4 (B1 (i:=2) ah4.nd rfl (Or.inl rfl) (p8 L7 (q8 GC hr (by rfl) mC FC.kp bC .nil G4 (b8 (pv 0) (b8 d8 c9))) (p8 aO2 d8 d8)))
   (i4 (B1 (i:=3) ah4.nd rfl (Or.inl rfl) (p8 G3 d8 (p8 L7 (pv 2) (pv 1))))
   (i4 (B1 (i:=4) ah4.nd rfl (Or.inl rfl) (p8 L7 (p8 W2 (pv 2) (pv 1)) d8))
   (i4 (B1 (i:=5) ah4.nd rfl (Or.inl rfl) (q8 GC hr (by rfl) mC FC.kp bC .nil G4 (b8 (pv 0) (b8 d8 c9))))
   (i4 (B1 (i:=6) ah4.nd rfl (Or.inl rfl) (p8 ba8 (X5 (b8 d8 c9)) (pv 3)))
   (aN9 (G7 (A6 ae0 (pv 4) d8 (C2 _))
     (i4 (B1 (i:=7) ah4.nd rfl (Or.inl rfl) (pv 5))
     (k7 (V7 PassesOwn.never rfl (Q5 rfl B.range (b8 (pv 3) c9)) (y7 (i := 8) ah4.nd rfl (Or.inl rfl))
      (i4 (ag3 (p8 L7 (pv 7) (p8 G3 (pv 3) (pv 4))) (au5 (pv 6) (pv 8) set_list))
      (k7 (B1 (i:=7) ah4.nd rfl (Or.inl rfl) (p8 W2 (pv 7) (p8 G3 (pv 3) (pv 4)))))))))
     (k7 (V7 PassesOwn.never rfl (aq6 (by rfl) B.enum (b8 (q8 GP hr (by rfl) mP FP.kp bP .nil G4 (b8 (pv 3) c9)) c9))
      (ao4 rfl (E6 (y7 (i:=9) ah4.nd rfl (Or.inl rfl)) (E6 (y7 (i:=10) ah4.nd rfl (Or.inl rfl)) U2)))
      (k7 (G7 (A6 ae0 (q8 GM hr (by rfl) mM FM.kp bM .nil G4 (b8 (pv 5) (b8 (pv 9) (b8 d8 c9)))) (p8 L7 (p8 W2 (p8 W2 (pv 2) (pv 1)) d8) d8) (C2 _))
       (i4 (ag3 (p8 G3 (C8 P0 (pv 6) (C8 C5 (pv 10) d8 (fun _ _=>rfl)) (fun _ _=>rfl)) d8) (au5 (pv 6) (C8 C5 (pv 10) d8 (fun _ _=>rfl)) set_list))
       (k7 (ag3 (p8 G3 (C8 P0 (pv 6) (C8 C5 (pv 10) d8 (fun _ _=>rfl)) (fun _ _=>rfl)) d8) (au5 (pv 6) (C8 C5 (pv 10) d8 (fun _ _=>rfl)) set_list)))) C7)))))
   (i4 (G7 (A6 W6 (pv 4) d8 (C2 _))
     (i4 (B1 (i:=11) ah4.nd rfl (Or.inl rfl) (p8 L7 (q8 GC hr (by rfl) mC FC.kp bC .nil G4 (b8 (pv 0) (b8 d8 c9))) (p8 aO2 d8 d8)))
     (k7 (ag3 (p8 G3 (C8 P0 (pv 6) (p8 L7 (pv 11) (pv 3)) (fun _ _ => rfl)) (C8 P0 (X5 (b8 d8 (b8 (ab3 T8 d8) (b8 d8 (b8 (ab3 T8 d8) (b8 d8 (b8 (ab3 T8 d8) c9))))))) (p8 L7 (p8 W2 (pv 11) d8) d8) (fun _ _ => rfl)))
      (au5 (pv 6) (p8 L7 (pv 11) (pv 3)) set_list)))) C7)
   (k7 (A9 (pv 6))))))))),?_⟩
  refine⟨_,rfl,a,ns,0,rfl,hS,fun c0=>?_⟩
  refine⟨_,_,rfl,rfl,⟨by decide,by decide,by decide⟩,_,_,rfl,rfl,p40,?_⟩
  refine Y6 fun b _=>?_
  have hm0:(0:Int)<(m:Int):=by omega
  have hb1:0<=b % (m:Int):=M7 _ (by omega)
  have hb2:b % (m:Int)<m:=J1 _ hm0
  obtain⟨n,hn⟩:∃ n:Nat,1+b % (m:Int)=(n:Int):=⟨(1+b % (m:Int)).toNat,by omega⟩
  refine⟨_,rfl,_,rfl,_,_,rfl,rfl,hm0,_,_,rfl,rfl,?_⟩
  refine aW8 (congrArg V.int hn) ?_
  refine⟨_,rfl,_,rfl,_,_,rfl,rfl,⟨hm0,by omega⟩,_,_,rfl,rfl,(by show (0:Int)<4;decide),?_⟩
  refine Y6 fun y hy=>?_
  have hy1:0<=y:=by rw[hy];exact M7 _ (by decide)
  have hy2:y<4:=by rw[hy];exact J1 _ (by decide)
  clear hy
  refine⟨_,rfl,a,ns,1,rfl,hS,fun c=>?_⟩
  have hk:=bO3 (k:=(n:Int)) (by omega) (by omega)
  refine⟨(by show 1<=i9;decide),fun l0 f0=>⟨_,rfl,l0,_,_,rfl,rfl,c8,hk.1,hk.2,by show 1*_<=i9;omega,fun l hl=>?_⟩⟩
  have s0:=d9 (o:=.lst [.int 0]) f0
  have hlH:H l=none:=s0.free hl
  rw[q0,bN5]
  have sA:=s0.trans (d9 (o:=.lst ((A5 n (0:Int)).map V.int)) hl)
  have gA:(upd (upd H l0 (.lst [.int 0])) l (.lst ((A5 n (0:Int)).map V.int))) l=some (.lst ((A5 n (0:Int)).map V.int)):=c8
  generalize upd (upd H l0 (.lst [.int 0])) l (.lst ((A5 n (0:Int)).map V.int))=HA at sA gA
  refine⟨cg6 H a l m b n y c n,?_,?_⟩
  ·refine⟨_,rfl,_,_,rfl,rfl,_,rfl,?_⟩
   refine am7 (fun h=>?_) (fun h=>?_)
   ·-- by digits
    refine⟨_,rfl,?_⟩
    refine⟨_,rfl,n,rfl,by omega,by omega,Y7 (lo:=0) (n:=n) (fun i σ H1=>∃ (ts:List Int) (rest:Int) (e8:Option V),σ=[some (.ref a),some (.int m),some (.int b),some (.int n),some (.int y),some (.int c),some (.ref l),some (.int rest),e8,none,none,none]/\u9 H H1/\H1 l=some (.lst (ts.map V.int))/\ts.length=n)
     ⟨A5 n 0,c,none,rfl,sA,gA,as7⟩ ?_ ?_⟩
    ·rintro i σ H1 hi ⟨ts,rest,e8,rfl,s1,g1,hl1⟩
     have e0:((0:Int)+(i:Int))=(i:Int):=by omega
     rw[e0]
     have hp:(0:Int)<(n:Int)+y:=by omega
     refine B2 ?_
     refine⟨_,rfl,_,rfl,_,rfl,_,_,rfl,rfl,_,_,rfl,rfl,hp,_,rfl,_,rfl,l,_,_,i,rfl,rfl,g1,ab7 (by rw[b9];omega),?_⟩
     rw[aa9]
     refine⟨_,rfl,_,rfl,_,rfl,_,_,rfl,rfl,_,_,rfl,rfl,⟨hp,by omega⟩,?_⟩
     exact⟨_,_,_,rfl,s1.upd hlH,c8,by rw[K5];exact hl1⟩
    ·rintro σ H1 ⟨ts,rest,e8,rfl,s1,g1,hl1⟩
     exact⟨ts,_,_,_,_,_,rfl,s1,g1,hl1⟩
   ·-- by ties
    refine⟨_,rfl,n,rfl,by omega,fun l1 zs1 H1 s1 f1 h1 t1=>⟨l1,rfl,⟨_,SqL.of h1⟩,?_⟩⟩
    have n0:l≠l1:=o5 gA f1
    have hz1:=t1.len
    have hpl:=aJ6 n (by omega)
    refine aX0 (K:=K) (a:=l1) (xs:=zs1) (fun i σ H2=>∃ (ts:List Int) (e9 e10:Option V),σ=[some (.ref a),some (.int m),some (.int b),some (.int n),some (.int y),some (.int c),some (.ref l),none,none,e9,e10,none]/\u9 H H2/\H2 l=some (.lst (ts.map V.int))/\ts.length=n/\H2 l1=some (.lst zs1)/\C1 K H2 zs1 (U4 n))
     ⟨A5 n 0,none,none,rfl,sA.trans s1,s1 _ _ gA,as7,h1,t1⟩ (fun i σ H2 _ ⟨_,_,_,_,_,_,_,h,_⟩=>SqL.of h) ?_ ?_
    ·rintro i x t σ H2 hx ⟨ts,e9,e10,rfl,s2,g2,hl2,h2,t2⟩ ht
     obtain⟨pa,pk,rfl,hk',hq⟩:=t2.get hx
     obtain⟨u,v,huv,hvn,rfl⟩:=au9 (i7 hk')
     have s3:=d9 (o:=.tup [.int i,.ref pa]) ht
     have g3:=s3 _ _ g2
     have h3:=s3 _ _ h2
     have t3:=s3.tups t2
     have q3:=s3.seqT hq
     have s03:=s2.trans s3
     refine⟨t,_,rfl,SqT.of c8,rfl,_,_,rfl,_,_,rfl,rfl,?_⟩
     generalize upd H2 t (.tup [.int i,.ref pa])=H3 at g3 h3 t3 q3 s03
     clear s3 ht s2 g2 h2 t2 hq hx
     refine⟨_,rfl,_,rfl,c,(i:Int),5,rfl,by decide,fun r _ _=>⟨_,rfl,_,rfl,_,_,rfl,rfl,⟨hm0,by omega⟩,_,_,rfl,rfl,⟨by decide,by decide⟩,_,_,rfl,rfl,(by show (0:Int)<6;decide),_,_,rfl,rfl,_,rfl,?_⟩⟩
     have at0:atI (([(u:Int),(v:Int)]:List Int).map V.int) 0=some (.int u):=B3 (j:=0) rfl
     have at1:atI (([(u:Int),(v:Int)]:List Int).map V.int) 1=some (.int v):=B3 (j:=1) rfl
     refine am7 (fun h=>?_) (fun h=>?_)
     ·have hu:u<ts.length:=by omega
      have hv:v<ts.length:=by omega
      refine⟨_,rfl,_,rfl,pa,_,_,_,rfl,rfl,q3,at0,l,_,_,_,rfl,rfl,SqL.of g3,ag9 hu,_,_,rfl,rfl,_,rfl,_,rfl,pa,_,_,_,rfl,rfl,q3,at0,l,_,_,u,rfl,rfl,g3,ab7 (by rw[b9];omega),?_⟩
      rw[aa9]
      have q4:=q3.updL (zs:=((ts.set u (ts.getD u 0+1)).map V.int)) g3
      have hv2:v<(ts.set u (ts.getD u 0+1)).length:=by rw[K5];omega
      refine⟨_,rfl,_,rfl,pa,_,_,_,rfl,rfl,q4,at1,l,_,_,_,rfl,rfl,SqL.of c8,ag9 hv2,_,_,rfl,rfl,_,rfl,_,rfl,pa,_,_,_,rfl,rfl,q4,at1,l,_,_,v,rfl,rfl,c8,ab7 (by rw[b9];omega),?_⟩
      rw[aa9,aM6]
      exact⟨_,_,_,rfl,s03.upd hlH,c8,by rw[K5,K5];exact hl2,by rw[v7 n0.symm];exact h3,C1.updL g3 t3⟩
     ·exact⟨_,_,_,rfl,s03,g3,hl2,h3,t3⟩
    ·rintro σ H2 ⟨ts,e9,e10,rfl,s2,g2,hl2,h2,t2⟩
     exact⟨ts,_,_,_,_,_,rfl,s2,g2,hl2⟩
  ·rintro σ' H' ⟨ts,e7,e8,e9,e10,e11,rfl,s1,g1,hl1⟩
   refine⟨_,rfl,rfl,_,rfl,?_⟩
   refine am7 (fun h=>?_) (fun h=>?_)
   ·refine⟨_,rfl,a,ns,2,rfl,s1.seq hS,fun c2=>?_⟩
    refine⟨_,_,rfl,rfl,⟨by decide,by decide,by decide⟩,_,_,rfl,rfl,p40,?_⟩
    refine Y6 fun fr _=>?_
    have hn0:(0:Int)<(n:Int):=by omega
    obtain⟨j,hj,hjn⟩:∃ j:Nat,fr % (n:Int)=(j:Int)/\j<n:=by
     have h1:=M7 fr (show (n:Int)≠0 by omega)
     have h2:=J1 fr hn0
     exact⟨(fr % (n:Int)).toNat,by omega,by omega⟩
    obtain⟨v,hv⟩:=bR8 (fr / 24 % 6) ⟨M7 _ (by decide),J1 _ (by decide)⟩
    refine⟨_,rfl,_,rfl,_,rfl,_,_,rfl,rfl,hn0,l,_,_,_,rfl,rfl,SqL.of g1,by rw[hj];exact ag9 (by omega),?_⟩
    refine⟨_,rfl,_,rfl,_,rfl,(by show 6<=i9;decide),fun l6 f6=>?_⟩
    have s6:=d9 (o:=.lst [.int 1,.int (-1),.int 2,.int (-2),.int 7,.int (-7)]) f6
    refine⟨_,rfl,_,_,rfl,rfl,⟨by decide,by decide⟩,_,_,rfl,rfl,(by show (0:Int)<6;decide),l6,_,_,_,rfl,rfl,SqL.of c8,hv,_,_,rfl,rfl,?_⟩
    refine⟨_,rfl,_,rfl,_,rfl,_,_,rfl,rfl,hn0,l,_,_,j,rfl,rfl,s6 _ _ g1,by rw[hj];exact ab7 (by rw[b9];omega),?_⟩
    rw[aa9]
    exact⟨_,rfl,q l _ _ (by rw[K5];omega) (by rw[K5];omega) ((s1.trans s6).upd hlH) hlH c8⟩
   ·exact⟨_,rfl,q l ts H' (by omega) (by omega) s1 hlH g1⟩
end
end Web
namespace HT
open PySem PyProof.Rows
section
variable {prog:j8} {w:x6} {A:u4} {E:c6->c7->Prop} {s:c7}
theorem ar6 {t sl:Addr}{items:Array c6}{vl vu:c6}{lo hi:Option Int}{Q:c6->c7->Prop}(ht:IsTup s.heap t items)(hs:s.heap.IsSliceOf sl vl vu .none)(pl:aY5 vl lo)(pu:aY5 vu hi)
  (hw:sIx items.size 0 lo=0/\sIx items.size items.size hi=items.size)
  (h:Q (.ref t) s):o7 (y6 prog w) A (ap4 (.ref t) (.ref sl)) Q E s:=by
 obtain⟨os,hos,hcs,hds⟩:=id hs
 have hTs:s.TypeIs (.ref sl) "slice":=⟨os,hos,hcs⟩
 unfold ap4
 try with_reducible refine D3 ?_
 first | refine b7 (d3 ?_) | skip
 refine b7 (aR2 ht.typeIs (by decide) ?_)
 refine b7 (J7 (name:=Str.ofString "__getitem__") ht.typeIs PyProof.Rows.slot_tuple_getitem
  (K1 PyProof.Rows.slot_tuple_getitem ht.typeIs aH0 ?_ (aM2 _ _)))
 show o7 _ _ (Builtin.Tuple.tupleItemsOf (.ref t) >>= _) _ _ s
 refine b7 (bC4 ht ?_)
 refine b7 (ak5 hTs ?_)
 rw[if_pos (by decide)]
 refine b7 (ad5 hs pl pu ?_)
 have hno:(((sIx items.size 0 lo:Nat):Int) == 0 && (1:Int) == 1 && (sIx items.size items.size hi - sIx items.size 0 lo) == items.size)=true:=by
  rw[hw.1,hw.2]
  simp
 show o7 _ _ (if (((sIx items.size 0 lo:Nat):Int) == 0 && (1:Int) == 1 && (sIx items.size items.size hi - sIx items.size 0 lo) == items.size)=true then _ else _) _ _ s
 rw[if_pos hno]
 refine b7 (m:=Builtin.Tuple.tupleIsExact _) (b7 (ak5 ht.typeIs (d3 ?_)))
 rw[if_pos (by decide)]
 exact b7 (ah3 (d3 ⟨_,rfl,d3 h⟩))
theorem ae3 {α β:Type}{f g:α->Option β}:∀ {l:List α},(∀ x∈l,f x=g x)->l.filterMap f=l.filterMap g
 | [],_=>rfl
 | x::l,h=>by
  rw[G5,G5,h x i5,ae3 fun y hy=>h y (d7 _ hy)]
theorem ba5 (n:Nat):Builtin.Slice.slicePlaces ((n:Int) - 1) (-1) (-1)=n:=by
 unfold Builtin.Slice.slicePlaces
 rw[if_neg (by decide)]
 by_cases h:(n:Int) - 1 > -1
 ·rw[if_pos h]
  show (((n:Int) - 1 - -1 - 1) / (1:Int)+1).toNat=n
  rw[Int.ediv_one]
  omega
 ·rw[if_neg h]
  show (0:Nat)=n
  omega
theorem aY0 {sl:Addr}{tk:Tok}{n:Nat}{Q:Int × Int × Nat->c7->Prop}(hs:s.heap.IsSliceOf sl .none .none (.int (-1) tk))(h:Q ((n:Int) - 1,-1,n) s):o7 (y6 prog w) A (Builtin.Slice.sliceApplied (.ref sl) (pure (n:Int))) Q E s:=by
 obtain⟨os,hos,hcs,hds⟩:=id hs
 unfold Builtin.Slice.sliceApplied Builtin.Slice.sliceFields
 refine b7 (b7 (E5 hos hds (x:=.none) rfl (b7 (E5 hos hds (x:=.none) rfl (b7 (E5 hos hds (x:=.int (-1) tk) rfl (d3 ?_)))))))
 refine b7 (slicePart_int ?_)
 show o7 _ _ (if ((-1:Int) == 0)=true then _ else _) _ _ s
 rw[if_neg (by decide)]
 refine b7 (aG2 (b7 (aG2 (b7 (d3 ?_)))))
 show o7 _ _ (pure (((n:Int) - 1),(-1:Int),Builtin.Slice.slicePlaces ((n:Int) - 1) (-1) (-1))) _ _ s
 rw[ba5]
 exact d3 h
theorem bt0 (xs:Array c6):((o8 xs.size).filterMap fun(m:Nat)=>xs[((xs.size:Int) - 1+(m:Int)*(-1)).toNat]?).toArray=xs.toList.reverse.toArray:=by
 have h:=aU2 xs.reverse 0 xs.size
 have e:((o8 xs.size).filterMap fun(m:Nat)=>xs[((xs.size:Int) - 1+(m:Int)*(-1)).toNat]?)=(o8 xs.size).filterMap fun(m:Nat)=>xs.reverse[(((0:Nat):Int)+(m:Int)*1).toNat]?:=by
  refine ae3 fun m hm=>?_
  have hm:=B9.mp hm
  have e1:(((0:Nat):Int)+(m:Int)*1).toNat=m:=by omega
  have e2:((xs.size:Int) - 1+(m:Int)*(-1)).toNat=xs.size - 1 - m:=by omega
  rw[e1,e2,Array.getElem?_reverse hm]
 rw[e,h,ax2,Array.toList_reverse,k8 (by simp)]
theorem aW7 {t sl:Addr}{items:Array c6}{tk:Tok}{Q:c6->c7->Prop}(ht:IsTup s.heap t items)(hs:s.heap.IsSliceOf sl .none .none (.int (-1) tk))
  (h:Q (.ref s.heap.objs.size) { s with heap:=s.heap.push { cls:=.type "tuple",data:=.seq items.toList.reverse.toArray } })(hsz:items.size<=i9):o7 (y6 prog w) A (ap4 (.ref t) (.ref sl)) Q E s:=by
 have htake:sizeOk (.seq items.toList.reverse.toArray):=by
  show items.toList.reverse.toArray.size<=i9
  rw[d5,V0,p0]
  exact hsz
 obtain⟨os,hos,hcs,hds⟩:=id hs
 have hTs:s.TypeIs (.ref sl) "slice":=⟨os,hos,hcs⟩
 unfold ap4
 try with_reducible refine D3 ?_
 first | refine b7 (d3 ?_) | skip
 refine b7 (aR2 ht.typeIs (by decide) ?_)
 refine b7 (J7 (name:=Str.ofString "__getitem__") ht.typeIs PyProof.Rows.slot_tuple_getitem
  (K1 PyProof.Rows.slot_tuple_getitem ht.typeIs aH0 ?_ (aM2 _ _)))
 show o7 _ _ (Builtin.Tuple.tupleItemsOf (.ref t) >>= _) _ _ s
 refine b7 (bC4 ht ?_)
 refine b7 (ak5 hTs ?_)
 rw[if_pos (by decide)]
 refine b7 (aY0 hs ?_)
 show o7 _ _ (if (((items.size:Int) - 1) == 0 && (-1:Int) == 1 && items.size == items.size)=true then _ else _) _ _ s
 rw[if_neg (by simp)]
 show o7 _ _ ((Builtin.Tuple.tupleExact (((o8 items.size).filterMap fun(m:Nat)=>items[((items.size:Int) - 1+(m:Int)*(-1)).toNat]?).toArray)) >>= _) _ _ s
 rw[bt0]
 first
  | exact b7 (m:=Builtin.Tuple.tupleExact _) (G1 (d3 ⟨_,rfl,d3 h⟩) htake)
  | exact b7 (m:=Builtin.Tuple.tupleExact _) (G1 (b7 (d3 (d3 ⟨_,rfl,d3 h⟩))) htake)
  | exact b7 (b7 (m:=Builtin.Tuple.tupleExact _) (G1 (d3 (d3 ⟨_,rfl,d3 h⟩)) htake))
  | exact b7 (b7 (m:=Builtin.Tuple.tupleExact _) (G1 (d3 ⟨_,rfl,d3 h⟩) htake))
end
end HT
namespace L2
open PySem PySem.Spec PyProof.Rows
section
variable {X:Cx} {e st:Expr} {te ts:TE} {pos p2:Pos}
def ci0 (K:W.Frag):V->Option Int->Option Int->Hp->VK->Prop:=fun x lo hi H Q=>∃ a xs,x=.ref a/\SqT K H a xs/\∀ (p:Addr) (H':Hp),u9 H H'->SqT K H' p (ae4 xs lo hi)->Q (.ref p) H'
theorem aB6 {H:Hp}{l:Addr}{o:HO}(h:H l=none):u9 H (upd H l o):=fun b u e=>by
 rw[v7 (o5 e h)]
 exact e
theorem al3:SlR X (ci0 X.K):=by
 intro pins s σ H x v vl vu lo hi sl Q I rx hs pl pu h
 obtain⟨a,xs,e,hx,q⟩:=h
 by_cases hw:HT.sIx xs.length 0 lo=0/\HT.sIx xs.length xs.length hi=xs.length
 ·subst e
  cases rx
  obtain⟨its,r,ht,hz⟩:=I.tuple hx
  have hlen:its.toArray.size=xs.length:=by rw[d5];exact r.length.symm
  refine⟨"tuple",_,PyProof.Rows.slot_tuple_getitem.lookup,ht.typeIs,?_⟩
  refine HT.ar6 ht hs pl pu (by rw[hlen];exact hw) ⟨.ref a,H,I,rfl,q a H (u9.refl H) ?_⟩
  have ec:ae4 xs lo hi=xs:=by
   unfold ae4
   rw[hw.1,hw.2,ax2,k8 (by omega)]
  rw[ec]
  exact hx
 ·exact bR7 pins s σ H x v vl vu lo hi sl Q I rx hs pl pu ⟨a,xs,e,hx,hw,fun p hp=>q p _ (aB6 hp) (SqT.of c8)⟩
def cd7 (K:W.Frag):R2:=fun x y H Q=>∃ a b xs ys,x=.ref a/\y=.ref b/\SqT K H a xs/\SqT K H b ys/\xs.length+ys.length<=i9/\∀ (p:Addr) (H':Hp),u9 H H'->SqT K H' p (xs++ys)->Q (.ref p) H'
theorem aq9:OpR X (W1 .Add) (cd7 X.K):=by
 intro pins s σ H x y v u Q I rx ry h
 obtain⟨a,b,xs,ys,e1,e2,ha,hb,hz,q⟩:=h
 by_cases hx:xs=[]
 ·by_cases hy:ys=[]
  ·subst e1 e2
   cases rx
   cases ry
   obtain⟨its,r1,p1,_⟩:=I.tuple ha
   obtain⟨its2,r2,p2,_⟩:=I.tuple hb
   have hv:its=[]:=r1.nil_iff.mpr hx
   obtain⟨⟨cls,dd,data,sl⟩,ho,hc,n,hd⟩:=id p1
   obtain⟨⟨cls2,dd2,data2,sl2⟩,ho2,hc2,n2,hd2⟩:=id p2
   simp only at hc hd hc2 hd2
   subst hc hd hc2 hd2
   refine aY4 ⟨_,ho,rfl⟩ ⟨_,ho2,rfl⟩ at3 aM1 PySem.F.slot_tuple_add PySem.F.entry_tuple_add (PySem.F.args_tuple_add_2 _ _)
    (tuple_addW0 a b its.toArray its2.toArray n n2 dd dd2 sl sl2 (by simp[hv])) ⟨ho,ho2,⟨.ref b,H,I,rfl,q b H (u9.refl H) ?_⟩⟩
   rw[hx]
   exact hb
  ·exact bu4 pins s σ H x y v u Q I rx ry ⟨a,b,xs,ys,e1,e2,ha,hb,hy,hz,fun z=>q b H (u9.refl H) (by rw[z];exact hb),fun _ p hp=>q p _ (aB6 hp) (SqT.of c8)⟩
 ·exact bg3 pins s σ H x y v u Q I rx ry ⟨a,b,xs,ys,e1,e2,ha,hb,hx,hz,fun z=>q a H (u9.refl H) (by rw[z,F4];exact ha),fun _ p hp=>q p _ (aB6 hp) (SqT.of c8)⟩
def cb1 (K:W.Frag)(te ts:TE):TE:=fun σ H Q=>te σ H fun x H1=>ts σ H1 fun y H2=>y=.int (-1)/\∃ a xs,x=.ref a/\SqT K H2 a xs/\∀ p,H2 p=none->Q (.ref p) (upd H2 p (.tup xs.reverse))
theorem bF9 (he:PE X e te)(hst:PE X st ts)(hsu:∃ ops:c6->c6->List c6,∀ v u,bZ8 (.Slice none none (some st) p2) false v u=operate (ops v u) (ap4 v u):=by exact⟨_,fun _ _=>by with_unfolding_all rfl⟩):PE X (.Subscript e (.Slice none none (some st) p2) pos) (cb1 X.K te ts):=by
 intro pins s σ H Q I h
 refine Subscript_ (thn (he pins s σ H _ I h) fun v s1 ⟨x,H1,I1,r1,q1⟩=>?_)
 refine wpAny_Slice ?_
 rw[bC5]
 refine d3 (d3 ?_)
 rw[evalPart_some]
 refine thn (hst pins s1 σ H1 _ I1 q1) fun w s2 ⟨y,H2,I2,r2,ey,a,xs,ex,hS,q⟩=>?_
 subst ey ex
 obtain⟨tk,rfl⟩:=r2
 cases r1
 have I4:Inv X pins σ H2 { s2 with heap:=s2.heap.push { cls:=.type "slice",data:=.fields #[.none,.none,.int (-1) tk] } }:=I2.kept (t':=s2.toks) fun b ob q=>c5 _ q
 obtain⟨its,r,ht,hz⟩:=I4.tuple hS
 show o7 (y6 X.prog X.w) X.A (bC6 e (.Slice none none (some st) p2) (.ref a) (.ref s2.heap.objs.size)) (EP X pins σ Q) X.xe { s2 with heap:=s2.heap.push { cls:=.type "slice",data:=.fields #[.none,.none,.int (-1) tk] } }
 obtain⟨ops,hsu⟩:=hsu
 have hl:its.length=xs.length:=r.length.symm
 refine tail_any (ops:=ops (.ref a) (.ref s2.heap.objs.size)) ht.typeIs PyProof.Rows.slot_tuple_getitem.lookup (HT.aW7 ht (Heap.IsSliceOf.new ..) ?_ (by rw[d5,hl];exact hz)) (hsu _ _)
 exact⟨.ref _,_,I4.laid (t':=s2.toks) (o:=.tup xs.reverse) (fun b ob q=>c5 _ q) (d4 _) ⟨(by rw[V0];exact hz),its.reverse,r.reverse,IsTup.new _ _⟩,rfl,q _ (I4.hok.fresh (d4 _))⟩
end
end L2
namespace Web
open PySem L2
theorem bI7 {a b c d:Int}(h:Tim.K2 [c,d] [a,b]=false)(hne:([a,b]:List Int)≠[c,d]):HT.lexLt [a,b] [c,d]=true:=by
 unfold Tim.K2 Tim.K2 at h
 rw[HT.ag5]
 by_cases e1:c=a
 ·rw[if_pos e1]at h
  rw[if_pos e1.symm,HT.ag5]
  by_cases e2:d=b
  ·exact absurd (by rw[e1,e2]) hne
  ·rw[if_neg e2]at h
   rw[if_neg (Ne.symm e2)]
   have:=of_decide_eq_false h
   exact decide_eq_true (by omega)
 ·rw[if_neg e1]at h
  rw[if_neg (Ne.symm e1)]
  have:=of_decide_eq_false h
  exact decide_eq_true (by omega)
theorem bm3 {c d:Int}(h:0<=c):HT.lexLt [-1,-1] [c,d]=true:=by
 rw[HT.ag5,if_neg (by omega)]
 exact decide_eq_true (by omega)
def an4 (ks:List (List Int)):Nat->List Int
 | 0=>[-1,-1]
 | i+1=>ks.getD i []
theorem bJ0 {n:Nat}{ks:List (List Int)}(T:Tld n ks){i:Nat}{k:List Int}(h:ks[i]?=some k):HT.lexLt (an4 ks i) k=true/\(an4 ks i).length=2:=by
 obtain⟨u,v,_,_,rfl⟩:=T.ups k (i7 h)
 cases i with
 | zero=>exact⟨bm3 (by omega),rfl⟩
 | succ i =>
  have hil:i+1<ks.length:=(m8.mp h).1
  have e1:ks[i]?=some ks[i]:=i6 (by omega)
  have el:an4 ks (i+1)=ks[i]:=by show ks.getD i []=_;rw[i3,e1];rfl
  have e2:ks[i+1]=[(u:Int),(v:Int)]:=by
   have:=i6 hil
   rw[h]at this
   exact(Option.some.inj this).symm
  have p1:=D6.mp T.srt i (i+1) (by omega) hil (by omega)
  have p2:=D6.mp T.nd i (i+1) (by omega) hil (by omega)
  obtain⟨a,b,_,_,e3⟩:=T.ups ks[i] (U6 _)
  rw[el]
  rw[e2]at p1 p2
  rw[e3]at p1 p2 ⊢
  exact⟨bI7 p1 p2,rfl⟩
theorem bq2 {ns ms:List Int}(h:ms.length=ns.length):(ad4 ns ms).sum=ns.sum - ms.sum:=by
 rw[<- aF8,ad2,Grf.x8 (fun j hj=>ad3 (xs:=ms) hj),Grf.G8,aF8]
 have:=aF8 ms
 rw[h]at this
 rw[this]
seal L2.PE L2.PA L2.PS L2.PSs L2.PT
section
variable {P:j8} {w:x6} {K:W.Frag} {mg:Str->Option c6} {base:Heap}
def bM6 (K:W.Frag):Sp:=fun vs H Q _=>∃ (a:Addr) (ns:List Int) (r:Nat),vs=[.ref a,.int r]/\SqL K H a (ns.map V.int)/\r<=ns.length/\ns.length<=24/\∀ (H':Hp),u9 H H'->Q (.int (L4 ns r)) H'
theorem aJ0:B6 ["tally","r","rest","space","k"] ["tally","r"] (j5 aT1):=⟨rfl,rfl,rfl,by decide +kernel,rfl,by decide +kernel,by decide +kernel⟩
theorem bU4 {f:Addr} {fd:u0} (F:Fun K "_law_room_at" "_law_room_at" aT1 f fd) (B:Bn mg):A8 P w K mg base CX0 1 f fd ["tally","r"] (bM6 K):=by
 refine F.ok aJ0 (fun vs H Q E h=>?_) (fun cdv A outer s H vs Q E hr h=>?_)
 ·obtain⟨a,ns,r,rfl,_⟩:=h
  rfl
 ·obtain⟨a,ns,r,rfl,hS,hr1,hn,q⟩:=h
  have hsl:=L3
  refine⟨_,i4 (B1 (i:=2) aJ0.nd rfl (Or.inl rfl) (m4 bc4 (by rfl) B.sorted (by rfl) (b8 (pv 0) c9)))
   (i4 (B1 (i:=3) aJ0.nd rfl (Or.inl rfl) (p8 aj8 (pv 1) (p8 R9 (pv 1) d8)))
   (i4 (V7 PassesOwn.never rfl (Q5 rfl B.range (b8 (m4 u7 (by rfl) B.len PySem.boot_len (b8 (pv 2) c9)) c9)) (y7 (i := 4) aJ0.nd rfl (Or.inl rfl))
    (k7 (G7 (A6 ae0 (pv 4) (p8 R9 (m4 u7 (by rfl) B.len PySem.boot_len (b8 (pv 2) c9)) (pv 1)) (C2 _))
     (k7 (B1 (i:=3) aJ0.nd rfl (Or.inl rfl) (p8 G3 (pv 3) (m4 (ae5 rfl) (by rfl) B.min (by rfl) (b8 (C8 P0 (pv 2) (pv 4) (fun _ _=>rfl)) (b8 (pv 1) c9))))))
     (k7 (B1 (i:=3) aJ0.nd rfl (Or.inl rfl) (p8 R9 (pv 3) (C8 P0 (pv 2) (pv 4) (fun _ _=>rfl))))))))
   (k7 (A9 (pv 3))))),?_⟩
  refine⟨_,rfl,a,ns,rfl,.inl hS,by omega,fun l zs hl hp hs=>?_⟩
  have ez:=bF2 hp hs
  have hzl:zs.length=ns.length:=hp.length_eq
  have s1:=d9 (o:=.lst (zs.map V.int)) hl
  refine⟨_,rfl,_,rfl,_,_,rfl,rfl,_,_,rfl,rfl,.inl ⟨by omega,by omega⟩,?_⟩
  refine⟨_,rfl,l,_,rfl,.inl (SqL.of c8),(ns.length:Int),by rw[b9,hzl],by omega,by omega,?_⟩
  rw[q0]
  refine Y7 (lo:=0) (n:=ns.length) (fun i σ H1=>∃ (b:Option V),σ=[some (.ref a),some (.int r),some (.ref l),some (.int ((r:Int)*((r:Int) - 1)+part (ns.length - r) r (zs.take i))),b]/\u9 H H1/\H1 l=some (.lst (zs.map V.int)))
   ⟨none,by rw[bd3,bu1,bB6];rfl,s1,c8⟩ ?_ ?_
  ·rintro i σ H1 hi ⟨b,rfl,s2,g2⟩
   have e0:((0:Int)+(i:Int))=(i:Int):=by omega
   rw[e0]
   obtain⟨x,hx⟩:∃ x,zs[i]?=some x:=⟨_,i6 (by omega)⟩
   have hat:atI (zs.map V.int) (i:Int)=some (.int x):=B3 (j:=i) (by rw[o9,hx];rfl)
   refine B2 ?_
   refine⟨_,rfl,_,rfl,l,_,rfl,.inl (SqL.of g2),_,rfl,_,_,rfl,rfl,_,_,rfl,rfl,_,rfl,?_⟩
   rw[b9,hzl]
   by_cases hi2:i<ns.length - r
   ·rw[decide_eq_true (show (i:Int)<(ns.length:Int) - (r:Int) by omega)]
    refine J0 ?_
    refine⟨_,rfl,_,rfl,_,rfl,l,_,_,_,rfl,rfl,SqL.of g2,hat,_,rfl,_,_,rfl,_,_,rfl,rfl,?_⟩
    refine⟨some (.int (i:Int)),?_,s2,g2⟩
    rw[bG3 hi2 hx,<- Int.add_assoc]
    rfl
   ·rw[decide_eq_false (show ¬ (i:Int)<(ns.length:Int) - (r:Int) by omega)]
    refine K3 ?_
    refine⟨_,rfl,_,rfl,_,rfl,l,_,_,_,rfl,rfl,SqL.of g2,hat,_,_,rfl,rfl,?_⟩
    refine⟨some (.int (i:Int)),?_,s2,g2⟩
    rw[bG4 (by omega) hx,<- Int.add_sub_assoc]
    rfl
  ·rintro σ H1 ⟨b,rfl,s2,g2⟩
   refine⟨_,rfl,?_⟩
   rw[k8 (by omega),ez]
   exact q H1 s2
end
end Web
namespace Web
open PySem L2
theorem ce3 (a b c d:Int):HT.lexLt [a,b] [c,d]=Tim.K2 [a,b] [c,d]:=by
 unfold HT.lexLt Tim.K2 HT.lexLt Tim.K2
 by_cases h:a=c
 ·rw[if_pos h,if_pos h]
  by_cases g:b=d
  ·rw[if_pos g,if_pos g]
   rfl
  ·rw[if_neg g,if_neg g]
 ·rw[if_neg h,if_neg h]
theorem bs6 {α:Type}{R:α->α->Prop}(tr:∀ a b c,R a b->R b c->R a c):∀ l:List α,(∀ (m:Nat) (a b:α),l[m]?=some a->l[m+1]?=some b->R a b)->l.Pairwise R
 | [],_=>.nil
 | x::l,h=>by
  have ih:=bs6 tr l fun m a b e1 e2=>h (m+1) a b (by simpa using e1) (by simpa using e2)
  refine F1.mpr ⟨?_,ih⟩
  cases l with
  | nil=>intro y hy;cases hy
  | cons y l =>
   have hxy:=h 0 x y rfl rfl
   intro z hz
   rcases g6.mp hz with e | e
   ·rw[e];exact hxy
   ·exact tr _ _ _ hxy ((F1.mp ih).1 z e)
theorem bE1 {n:Nat}{ks:List (List Int)}(hu:∀ k∈ks,Up n k)(h:∀ (m:Nat) (a b:List Int),ks[m]?=some a->ks[m+1]?=some b->HT.lexLt a b=true):Tld n ks:=by
 have hA:Asc ks:=bs6 (fun a b c=>Tim.ar3 a b c) ks fun m a b e1 e2=>by
  have hl:=h m a b e1 e2
  obtain⟨i,j,_,_,rfl⟩:=hu a (i7 e1)
  obtain⟨u,v,_,_,rfl⟩:=hu b (i7 e2)
  rw[ce3]at hl
  exact hl
 refine⟨hu,bo3 hA,List.Pairwise.imp (fun {a b} e=>?_) hA⟩
 cases g:Tim.K2 b a with
 | false=>rfl
 | true =>
  have:=Tim.ar3 _ _ _ e g
  rw[Tim.ar4]at this
  cases this
theorem bw1 {ks:List (List Int)}(h:∀ k∈ks,∃ a b,k=[a,b]){i:Nat}(hi:i<ks.length):(an4 ks i).length=2:=by
 cases i with
 | zero=>rfl
 | succ i =>
  have e1:ks[i]?=some ks[i]:=i6 (by omega)
  obtain⟨a,b,e⟩:=h ks[i] (U6 _)
  show (ks.getD i []).length=2
  rw[i3,e1,Option.getD_some,e]
  rfl
seal L2.PE L2.PA L2.PS L2.PSs L2.PT
section
variable {P:j8} {w:x6} {K:W.Frag} {mg:Str->Option c6} {base:Heap}
def br2 (K:W.Frag):Sp:=fun vs H Q _=>∃ (r:Addr) (n:Nat) (z:Int) (ks:List (List Int)),vs=[.ref r,.int n]/\Wx K H r z ks/\n<=24/\(¬ (z=n/\Tld n ks)->∀ H':Hp,u9 H H'->Q .non H')/\(z=n->Tld n ks->∀ (l:Addr) (H':Hp),u9 H H'->H l=none->H' l=some (.lst ((tal n ks).map V.int))->Q (.ref l) H')
theorem aB5:B6 ["found","places","counts","last","tie"] ["found","places"] (j5 aw6):=⟨rfl,rfl,rfl,by decide +kernel,rfl,by decide +kernel,by decide +kernel⟩
set_option maxHeartbeats 2000000 in
theorem bI1 {f:Addr} {fd:u0} (F:Fun K "_law_counts" "_law_counts" aw6 f fd) (B:Bn mg):A8 P w K mg base CX0 1 f fd ["found","places"] (br2 K):=by
 refine F.ok aB5 (fun vs H Q E h=>?_) (fun cdv A outer s H vs Q E hr h=>?_)
 ·obtain⟨r,n,z,ks,rfl,_⟩:=h
  rfl
 ·obtain⟨r,n,z,ks,rfl,⟨⟨t,zs,gr,gt,tz⟩,hp2,hkl⟩,h11,qn,q⟩:=h
  have hsl:=L3
  have hun:=hr.units
  have hu8:=aG6 (Q1 _ 64) hr.units
  have a0:atI ([.int z,.ref t]:List V) 0=some (.int z):=B3 (j:=0) rfl
  have a1:atI ([.int z,.ref t]:List V) 1=some (.ref t):=B3 (j:=1) rfl
  refine⟨_,i4 (G7 (PW.pt (Z2 (Q9 (Z3 (m4 ag8 (by rfl) B.isin (by rfl) (b8 (pv 0) (b8 (az2 (v:=.ty "tuple") (by rfl) B.tuple (by rfl) rfl) c9)))))
     (Z2 (A6 aC9 (m4 u7 (by rfl) B.len PySem.boot_len (b8 (pv 0) c9)) d8 (C2 _))
     (Z2 (A6 aC9 (C8 C5 (pv 0) d8 (fun _ _=>rfl)) (pv 1) (C2 _))
     (ag1 (Q9 (Z3 (m4 ag8 (by rfl) B.isin (by rfl) (b8 (C8 C5 (pv 0) d8 (fun _ _=>rfl)) (b8 (az2 (v:=.ty "tuple") (by rfl) B.tuple (by rfl) rfl) c9)))))))))) (k7 (A9 au6)) C7)
   (i4 (B1 (i:=2) aB5.nd rfl (Or.inl rfl) (p8 ba8 (X5 (b8 d8 c9)) (pv 1)))
   (i4 (B1 (i:=3) aB5.nd rfl (Or.inl rfl) (G0 (b8 (ab3 T8 d8) (b8 (ab3 T8 d8) c9))))
   (i4 (V7 PassesOwn.never rfl (aC2 (C8 C5 (pv 0) d8 (fun _ _ => rfl))) (y7 (i := 4) aB5.nd rfl (Or.inl rfl))
    (i4 (G7 (PW.pt (Z2 (Q9 (Z3 (m4 ag8 (by rfl) B.isin (by rfl) (b8 (pv 4) (b8 (az2 (v:=.ty "tuple") (by rfl) B.tuple (by rfl) rfl) c9)))))
      (Z2 (A6 aC9 (m4 u7 (by rfl) B.len PySem.boot_len (b8 (pv 4) c9)) d8 (C2 _))
      (ag1 (A6 (bT4 hu8) (pv 4) (pv 3) (C2 _)))))) (k7 (A9 au6)) C7)
    (i4 (G7 (PW.pt (Z2 (A6 ae0 (C8 C5 (pv 4) d8 (fun _ _=>rfl)) d8 (C2 _))
      (Z2 (A6 bN6 (C8 C5 (pv 4) d8 (fun _ _=>rfl)) (C8 C5 (pv 4) d8 (fun _ _=>rfl)) (C2 _))
      (ag1 (A6 bN6 (C8 C5 (pv 4) d8 (fun _ _=>rfl)) (pv 1) (C2 _)))))) (k7 (A9 au6)) C7)
    (i4 (ag3 (p8 G3 (C8 P0 (pv 2) (C8 C5 (pv 4) d8 (fun _ _=>rfl)) (fun _ _=>rfl)) d8) (au5 (pv 2) (C8 C5 (pv 4) d8 (fun _ _=>rfl)) set_list))
    (i4 (ag3 (p8 G3 (C8 P0 (pv 2) (C8 C5 (pv 4) d8 (fun _ _=>rfl)) (fun _ _=>rfl)) d8) (au5 (pv 2) (C8 C5 (pv 4) d8 (fun _ _=>rfl)) set_list))
    (k7 (B1 (i:=3) aB5.nd rfl (Or.inl rfl) (pv 4))))))))
   (k7 (A9 (pv 2)))))),?_⟩
  refine⟨_,rfl,r,_,_,true,rfl,gr,rfl,_,rfl,K3 ?_⟩
  refine⟨_,rfl,r,_,rfl,.inr (gr),rfl,_,rfl,aD8 rfl ?_⟩
  refine⟨_,rfl,r,_,_,_,rfl,rfl,gr,a0,_,rfl,rfl,_,rfl,?_⟩
  by_cases hzn:(V.int z)=V.int (n:Int)
  rotate_left
  ·rw[decide_eq_false hzn]
   exact J0 (J0 (qn (fun h=>hzn (by rw[h.1])) H (u9.refl H)))
  have hzn':z=(n:Int):=by injection hzn
  subst hzn'
  refine aD8 rfl ?_
  refine⟨_,rfl,r,_,_,_,rfl,rfl,gr,a1,t,_,_,true,rfl,gt,rfl,_,rfl,K3 ?_⟩
  have hk:=bO3 (k:=(n:Int)) (by omega) (by omega)
  refine⟨(by show 1<=i9;decide),fun l0 f0=>⟨_,rfl,l0,_,_,rfl,rfl,c8,hk.1,hk.2,by show 1*_<=i9;omega,fun lc fc=>?_⟩⟩
  rw[q0,rep0]
  have s0:=d9 (o:=.lst [.int 0]) f0
  have s1:=s0.trans (d9 (o:=.lst ((tal n []).map V.int)) fc)
  have gc1:(upd (upd H l0 (.lst [.int 0])) lc (.lst ((tal n []).map V.int))) lc=some (.lst ((tal n (ks.take 0)).map V.int)):=c8
  have fcH:H lc=none:=s0.free fc
  generalize upd (upd H l0 (.lst [.int 0])) lc (.lst ((tal n []).map V.int))=H1 at s1 gc1 ⊢
  refine⟨_,rfl,_,rfl,(by show 2<=i9;omega),fun lp flp=>?_⟩
  have s2:=d9 (o:=.tup [.int (-1),.int (-1)]) flp
  have gl2:(upd H1 lp (.tup [.int (-1),.int (-1)])) lp=some (.tup ((an4 ks 0).map V.int)):=c8
  have gc2:=s2 _ _ gc1
  have s12:=s1.trans s2
  generalize upd H1 lp (.tup [.int (-1),.int (-1)])=H2 at s12 gl2 gc2 ⊢
  have hzl:=tz.len
  refine⟨_,rfl,r,_,_,_,rfl,rfl,s12.seqT gr,a1,t,rfl,⟨_,s12.seqT gt⟩,bh5 (K:=K) (a:=t) (xs:=zs) (fun i σ Ha=>∃ (lp:Addr) (e4:Option V),σ=[some (.ref r),some (.int (n:Int)),some (.ref lc),some (.ref lp),e4]/\u9 H Ha/\Ha lc=some (.lst ((tal n (ks.take i)).map V.int))/\(i<ks.length->SqT K Ha lp ((an4 ks i).map V.int))/\(∀ k∈ks.take i,Up n k)/\∀ (m:Nat) (x y:List Int),m+1<i->ks[m]?=some x->ks[m+1]?=some y->HT.lexLt x y=true)
   ⟨lp,none,rfl,s12,gc2,fun _=>SqT.of gl2,fun k hk=>absurd hk J3,fun m x y hm=>absurd hm (aY8 _)⟩ (fun i σ Ha _ ⟨_,_,_,s,_⟩=>s.seqT gt) ?_ ?_⟩
  ·rintro i x σ Ha hx ⟨lp,e4,rfl,sa,gca,gla,hup,hadj⟩
   obtain⟨pa,pk,rfl,hk',hq⟩:=tz.get hx
   have hil:i<ks.length:=(m8.mp hk').1
   have hl2:=bw1 hp2 hil
   have bad:(¬ Tld n ks)->Q .non Ha:=fun hT=>qn (fun h=>hT h.2) Ha sa
   have gl3:=gla hil
   obtain⟨uz,vz,rfl⟩:=hp2 pk (i7 hk')
   have at0:atI (([uz,vz]:List Int).map V.int) 0=some (.int uz):=B3 (j:=0) rfl
   have at1:atI (([uz,vz]:List Int).map V.int) 1=some (.int vz):=B3 (j:=1) rfl
   have nup:(¬ Up n [uz,vz])->Q .non Ha:=fun hb=>bad fun T=>hb (T.ups _ (i7 hk'))
   have upi:Up n [uz,vz]->0<=uz/\uz<vz/\vz<n:=fun⟨x,y,h1,h2,e⟩=>by
    injection e with e1 e2
    injection e2 with e2 _
    omega
   have q5:=sa.seqT hq
   refine B2 ?_
   refine⟨_,rfl,pa,_,_,true,rfl,q5,rfl,_,rfl,K3 ?_⟩
   refine⟨_,rfl,pa,_,rfl,.inr q5,rfl,_,rfl,aD8 rfl ?_⟩
   refine⟨_,rfl,_,rfl,pa,lp,[uz,vz],an4 ks i,rfl,rfl,q5,gl3,hl2.symm,_,rfl,?_⟩
   cases hlt:HT.lexLt (an4 ks i) [uz,vz] with
   | false=>exact J0 (bad fun T=>by rw[(bJ0 T hk').1]at hlt;cases hlt)
   | true =>
   refine K3 ?_
   refine⟨_,rfl,pa,_,_,_,rfl,rfl,q5,at0,_,_,rfl,rfl,_,rfl,?_⟩
   by_cases c1:uz<0
   ·rw[decide_eq_true c1]
    exact J0 (J0 (nup fun h=>by have:=upi h;omega))
   rw[decide_eq_false c1]
   refine K3 ?_
   refine⟨_,rfl,pa,_,_,_,rfl,rfl,q5,at0,_,rfl,pa,_,_,_,rfl,rfl,q5,at1,_,_,rfl,rfl,_,rfl,?_⟩
   by_cases c2:vz<=uz
   ·rw[decide_eq_true c2]
    exact J0 (J0 (nup fun h=>by have:=upi h;omega))
   rw[decide_eq_false c2]
   refine K3 ?_
   refine⟨_,rfl,pa,_,_,_,rfl,rfl,q5,at1,_,rfl,_,_,rfl,rfl,_,rfl,?_⟩
   by_cases c3:(n:Int)<=vz
   ·rw[decide_eq_true c3]
    exact J0 (nup fun h=>by have:=upi h;omega)
   rw[decide_eq_false c3]
   refine K3 ?_
   obtain⟨u,rfl⟩:∃ u:Nat,uz=(u:Int):=⟨uz.toNat,by omega⟩
   obtain⟨v,rfl⟩:∃ v:Nat,vz=(v:Int):=⟨vz.toNat,by omega⟩
   have huv:u<v:=by omega
   have hvn:v<n:=by omega
   have etk:ks.take (i+1)=ks.take i++[[(u:Int),(v:Int)]]:=by rw[C3,hk'];rfl
   have t1':((tal n (ks.take i)).map V.int)[u]?=some (.int (U9 (ks.take i) u)):=by rw[o9,af7 (by omega)];rfl
   have t2':(((tal n (ks.take i)).map V.int).set u (.int ((U9 (ks.take i) u:Int)+1)))[v]?=some (.int (U9 (ks.take i) v)):=by
    rw[ac0 (by omega),o9,af7 hvn];rfl
   have lt':((tal n (ks.take i)).map V.int).length=n:=by rw[b9,T9]
   refine⟨_,rfl,_,rfl,pa,_,_,_,rfl,rfl,q5,at0,lc,_,_,_,rfl,rfl,SqL.of gca,B3 t1',_,_,rfl,rfl,_,rfl,_,rfl,pa,_,_,_,rfl,rfl,q5,at0,lc,_,_,u,rfl,rfl,gca,by rw[lt'];exact ab7 (by omega),?_⟩
   have q6:=q5.updL (zs:=((tal n (ks.take i)).map V.int).set u (.int ((U9 (ks.take i) u:Int)+1))) gca
   refine⟨_,rfl,_,rfl,pa,_,_,_,rfl,rfl,q6,at1,lc,_,_,_,rfl,rfl,SqL.of c8,B3 t2',_,_,rfl,rfl,_,rfl,_,rfl,pa,_,_,_,rfl,rfl,q6,at1,lc,_,_,v,rfl,rfl,c8,by rw[K5,lt'];exact ab7 hvn,?_⟩
   rw[aM6]
   have el:(((tal n (ks.take i)).map V.int).set u (.int ((U9 (ks.take i) u:Int)+1))).set v (.int ((U9 (ks.take i) v:Int)+1))=(tal n (ks.take (i+1))).map V.int:=by
    rw[etk,<- bd8 (n:=n) (i:=u) (j:=v) (by omega) hvn (by omega) (ks.take i) _ _ rfl rfl,as9,as9]
   rw[el]
   refine⟨_,rfl,pa,_,rfl,sa.upd fcH,c8,fun _=>?_,fun k hk=>?_,fun m x y hm e1 e2=>?_⟩
   rotate_left
   ·rw[etk]at hk
    rcases F3.mp hk with h | h
    ·exact hup k h
    ·rw[B7.mp h]
     exact⟨u,v,huv,hvn,rfl⟩
   ·by_cases em:m+1=i
    ·subst em
     rw[hk']at e2
     cases e2
     have e3:an4 ks (m+1)=x:=by show ks.getD m []=_;rw[i3,e1];rfl
     rw[<- e3]
     exact hlt
    ·exact hadj m x y (by omega) e1 e2
   have e2:an4 ks (i+1)=[(u:Int),(v:Int)]:=by show ks.getD i []=_;rw[i3,hk'];rfl
   rw[e2]
   exact q5.updL gca
  ·rintro σ Ha ⟨lp,e4,rfl,sa,gca,_,hup,hadj⟩
   rw[k8 (by omega)]at gca hup
   have T:Tld n ks:=bE1 hup fun m x y e1 e2=>by
    have hm:m+1<ks.length:=(m8.mp e2).1
    exact hadj m x y (by omega) e1 e2
   exact⟨_,rfl,q rfl T lc Ha sa fcH gca⟩
end
end Web
namespace Web
open PySem L2
theorem bG0 {X:Cx}{a:Expr}{ta:TE}{pos:Pos}(ha:PE X a ta):PE X (.UnaryOp .Not a pos) (fun σ H Q=>ta σ H fun x H1=>∃ k,bX7 X.K x H1 k/\Q (.bl (!k)) H1):=by
 intro pins s σ H Q I h
 refine PyProof.Rows.UnaryOp_ (thn (ha pins s σ H _ I h) fun v s1 ⟨x,H1,I1,r1,k,e,q1⟩=>?_)
 refine PyProof.Rows.not_of (thn (bp7 pins s1 σ H1 x v (fun b H2=>Q (.bl (!b)) H2) I1 r1 ⟨k,e,q1⟩) fun b s2 h2=>?_)
 obtain⟨H2,I2,q2⟩:=h2
 exact⟨.bl (!b),H2,I2,rfl,q2⟩
structure Lks (ns ts:List Int) (z:Int):Prop where
 len:ts.length=ns.length
 le:∀ j,j<ns.length->ts.getD j 0<=ns.getD j 0
 sum:ns.sum - ts.sum=z
def bL1 (ns:List Int)(n:Int)(ks:List (List Int))(z:Int):Prop:=∃ m:Nat,Tl n m ks/\Lks ns (tal m ks) z
theorem ff {p:Prop}(h:¬ p):false=true↔p:=⟨fun h=>(by cases h),fun g=>absurd g h⟩
seal L2.PE L2.PA L2.PS L2.PSs L2.PT
section
variable {P:j8} {w:x6} {K:W.Frag} {mg:Str->Option c6} {base:Heap}
def bM8 (K:W.Frag):Sp:=fun vs H Q _=>∃ (a p:Addr) (ns:List Int) (n:Int) (ks:List (List Int)) (z:Int),vs=[.ref a,.ref p,.int z]/\Sq K H a ns/\ns.length<=24/\Wx K H p n ks/\∀ (b:Bool) (H':Hp),u9 H H'->(b=true↔bL1 ns n ks z)->Q (.bl b) H'
theorem bN2:B6 ["tally","web","much","lacking"] ["tally","web","much"] (j5 aj6):=⟨rfl,rfl,rfl,by decide +kernel,rfl,by decide +kernel,by decide +kernel⟩
set_option maxHeartbeats 2000000 in
theorem bU6 {f fD fL fβ:Addr}{fd fdD fdL fdβ:u0}(F:Fun K "lacks" "lacks" aj6 f fd)(B:Bn mg)
  (FD:Fun K "is_told" "is_told" ab1 fD fdD)(bD:Binds K fdD ["web"] [])(mD:mg "is_told"=some (.ref fD))(GD:A8 P w K mg base CX0 5 fD fdD ["web"] (aM7 K))
  (FL:Fun K "tally_of" "tally_of" aj3 fL fdL)(bL:Binds K fdL ["web"] [])(mL:mg "tally_of"=some (.ref fL))(GL:A8 P w K mg base CX0 5 fL fdL ["web"] (bM4 K))
  (Fβ:Fun K "places_below" "places_below" X2 fβ fdβ)(bβ:Binds K fdβ ["numbers"] [])(mβ:mg "places_below"=some (.ref fβ))(Gβ:A8 P w K mg base CX0 5 fβ fdβ ["numbers"] (ay6 K)):A8 P w K mg base CX0 6 f fd ["tally","web","much"] (bM8 K):=by
 refine F.ok bN2 (fun vs H Q E h=>?_) (fun cdv A outer s H vs Q E hr h=>?_)
 ·obtain⟨a,p,ns,n,ks,z,rfl,_⟩:=h
  rfl
 ·obtain⟨a,p,ns,n0,ks,z,rfl,hS,hn24,hw,q⟩:=h
  have hsl:=L3
  have nd2:(["number","many"]:List Str).Nodup:=by decide +kernel
  refine⟨_,i4 (G7 (PW.pt (Z2 (Q9 (Z3 (q8 GD hr (by rfl) mD FD.kp bD .nil G4 (b8 (pv 1) c9)))) (ag1 (A6 aC9 (C8 C5 (pv 1) d8 (fun _ _=>rfl)) (m4 u7 (by rfl) B.len PySem.boot_len (b8 (pv 0) c9)) (C2 _))))) (k7 (A9 aC4)) C7)
   (i4 (aq5 (i:=3) bN2.nd rfl rfl (by rfl) (N':=["number","many"]) (lk:=[none,none]) rfl (bf3 (by rfl) B.zip (b8 (pv 0) (b8 (q8 GL hr (by rfl) mL FL.kp bL .nil G4 (b8 (pv 1) c9)) c9))) (by rfl) rfl (by decide +kernel) (by exact trivial) (by rfl) (by exact LkL.ok trivial)
     (fun _ _ _=>aq7 (n:=2) K rfl rfl (E6 (y7 (i:=0) nd2 rfl (Or.inl rfl)) (E6 (y7 (i:=1) nd2 rfl (Or.inl rfl)) U2))) (fun _ _ _=>Q3) (fun _ _ _=>p8 R9 (pv 0) (pv 1)))
   (k7 (A9 (bu0 (bG0 (q8 Gβ hr (by rfl) mβ Fβ.kp bβ .nil G4 (b8 (pv 3) c9))) (bt3 (ag4 W6 (m4 (R0 rfl) (by rfl) B.sum (by rfl) (b8 (pv 3) c9)) (pv 2) (C2 _))))))),?_⟩
  refine⟨_,rfl,p,n0,ks,rfl,hw,fun b H1 s1 hb=>⟨_,rfl,?_⟩⟩
  cases b with
  | false =>
   refine J0 (J0 (q false H1 s1 (ff fun⟨m,T,_⟩=>?_)))
   exact absurd (hb.mpr ⟨m,T⟩) (by decide)
  | true =>
  refine K3 ?_
  obtain⟨n,TL⟩:=hb.mp rfl
  obtain rfl:=TL.z
  have n1:=TL.n1
  have n2:=TL.n2
  have T:=TL.t
  have lk:bL1 ns n ks z↔Lks ns (tal n ks) z:=⟨fun⟨m,T',h⟩=>by rw[show n=m from by have:=T'.z;omega];exact h,fun h=>⟨n,TL,h⟩⟩
  rw[lk]at q
  have hw:=hw.1
  obtain⟨t,zs,w1,w2,w3⟩:∃ t zs,SqT K H1 p [.int (n:Int),.ref t]/\SqT K H1 t zs/\C1 K H1 zs ks:=let ⟨t,zs,y1,y2,y3⟩:=hw;⟨t,zs,s1.seqT y1,s1.seqT y2,s1.tups y3⟩
  have a0:atI ([.int n,.ref t]:List V) 0=some (.int n):=B3 (j:=0) rfl
  refine⟨_,rfl,p,_,_,_,rfl,rfl,w1,a0,_,rfl,a,_,rfl,hS.same s1,rfl,_,rfl,?_⟩
  rw[b9]
  by_cases hnl:(V.int (n:Int))=V.int (ns.length:Int)
  ·refine aD8 hnl ?_
   have hnl':n=ns.length:=by injection hnl with e;omega
   refine⟨_,rfl,_,rfl,p,n,ks,rfl,⟨t,zs,w1,w2,w3⟩,n2,fun k hk=>(T.ups k hk).ends,fun l2 H2 s2 fl2 gl2=>?_⟩
   have s12:=s1.trans s2
   have hS2:=hS.same s12
   have htl:(tal n ks).length=ns.length:=by rw[T9,hnl']
   obtain⟨b1,hA⟩:∃ b,SqB b K H2 a (ns.map V.int):=hS2.elim (fun h=>⟨true,h⟩) fun h=>⟨false,h⟩
   refine⟨b1,true,a,l2,rfl,⟨_,hA⟩,⟨_,SqL.of gl2⟩,fun D hD=>?_⟩
   refine aK5 (b1:=b1) (b2:=true) (K:=K) (a:=a) (b:=l2) (D:=D) (ys:=ns.map V.int) (zs:=(tal n ks).map V.int) (by rw[b9,b9,htl]) (fun i ds σ' H'=>(∃ v u,σ'=[v,u])/\u9 H2 H'/\H' D=some (.lst ds)/\ds=((o8 i).map fun j=>ns.getD j 0 - (tal n ks).getD j 0).map V.int)
    ⟨⟨none,none,rfl⟩,d9 hD,c8,rfl⟩ (by rw[b9];omega) (fun i ds σ' H' hi ⟨_,s8,h8,e8⟩=>⟨SqB.same hA s8,SqL.of (s8 _ _ gl2),h8,by rw[e8,b9,b9,B0];exact d4 _⟩) ?_ ?_
   ·rintro i ds x y t σ' H' N kN hx hy ⟨⟨v,u,rfl⟩,s8,h8,rfl⟩ ht'
    obtain⟨z1,hz1,rfl⟩:=Q6 hx
    obtain⟨z2,hz2,rfl⟩:=Q6 hy
    have s9:=d9 (o:=.tup [.int z1,.int z2]) ht'
    refine⟨t,_,rfl,SqT.of c8,rfl,_,_,rfl,_,_,rfl,rfl,N5 ?_⟩
    refine⟨_,rfl,_,rfl,_,_,rfl,rfl,s9 _ _ h8,kN _ _ _ ⟨⟨_,_,rfl⟩,(s8.trans s9).upd hD,c8,?_⟩⟩
    rw[E7,j9,j9]
    show _=_++[V.int (ns.getD i 0 - (tal n ks).getD i 0)]
    rw[i3,i3,hz1,hz2]
    rfl
   rintro ds σ' H3 ⟨⟨v,u,rfl⟩,s3,gD,rfl⟩
   rw[b9]at gD
   have gD':H3 D=some (.lst ((ad4 ns (tal n ks)).map V.int)):=gD
   have hsl2:=ad2 ns (tal n ks)
   have hsm:=bq2 htl
   have hget:∀ j,j<ns.length->(ad4 ns (tal n ks)).getD j 0=ns.getD j 0 - (tal n ks).getD j 0:=fun j hj=>ad3 hj
   generalize ad4 ns (tal n ks)=us at gD' hsl2 hsm hget
   refine⟨_,rfl,D,us,rfl,.inl (SqL.of gD'),by omega,fun bl H4 s4 hbl g4=>?_⟩
   have sA:=(s12.trans s3).trans s4
   refine⟨_,.inl ⟨_,SqL.of g4,rfl⟩,_,rfl,?_⟩
   unfold bK7 at g4 ⊢
   cases hb:ap0 us us.length with
   | cons p ps =>
    refine K3 (q false H4 sA (ff fun h=>?_))
    obtain⟨x,h1,h2⟩:=(aF4 hb).1
    have hp:p<us.length:=(m8.mp h1).1
    have e1:=hget p (by omega)
    rw[i3,h1]at e1
    have e1:x=ns.getD p 0 - (tal n ks).getD p 0:=e1
    have:=h.le p (by omega)
    omega
   | nil =>
    refine J0 ⟨_,rfl,D,us,rfl,SqL.of (s4 _ _ gD'),_,rfl,rfl,?_⟩
    refine q _ H4 sA ?_
    rw[aX2,decide_eq_true_iff]
    refine⟨fun h=>⟨htl,fun j hj=>?_,by omega⟩,fun h=>by have:=h.sum;omega⟩
    have h1:=hget j hj
    have h2:=aQ2 hb j (us.getD j 0) (by rw[i3,i6 (by omega)];rfl)
    omega
  ·rw[decide_eq_false hnl]
   refine J0 (q false H1 s1 (ff fun h=>?_))
   have:=h.len
   rw[T9]at this
   exact absurd (congrArg (fun m:Nat=>V.int (m:Int)) this) hnl
structure bY0 (ns:List Int) (n:Int) (ks:List (List Int)) (z r:Int):Prop where
 r0:0<=r
 r1:r<=ns.length
 lks:bL1 ns n ks z
 want:z=Z6 ns.sum (-L4 ns r.toNat)
def bq5 (K:W.Frag)(CB CW:Addr):Sp:=fun vs H Q E=>∃ (a t p:Addr) (ns:List Int) (n:Int) (ks:List (List Int)) (z r:Int),vs=[.ref a,.ref t]/\Sq K H a ns/\SqT K H t [.int z,.ref p,.int r]/\Wx K H p n ks /\
 (S9 ns->AllP ns->∀ (b:Bool) (H':Hp),u9 H H'->(b=true↔bY0 ns n ks z r)->Q (.bl b) H')/\(¬ S9 ns->E (.ref CB) none H)/\(S9 ns->¬ AllP ns->∀ H':Hp,u9 H H'->E (.ref CW) none H')
theorem bS4:B6 ["tally","told"] ["tally","told"] (j5 aw3):=⟨rfl,rfl,rfl,by decide +kernel,rfl,by decide +kernel,by decide +kernel⟩
set_option maxHeartbeats 2000000 in
theorem bH5 {f fC fK fO fM CB CW CN:Addr}{fd fdC fdK fdO fdM:u0}(F:Fun K "off_shows" "off_shows" aw3 f fd)(B:Bn mg)
  (FC:Fun K "check_none_below" "check_none_below" aN7 fC fdC)(bC:Binds K fdC ["tally"] [])(mC:mg "check_none_below"=some (.ref fC))(GC:A8 P w K mg base (CXE P w) 6 fC fdC ["tally"] (br3 K CB CW))
  (FK:Fun K "lacks" "lacks" aj6 fK fdK)(bK:Binds K fdK ["tally","web","much"] [])(mK:mg "lacks"=some (.ref fK))(GK:A8 P w K mg base CX0 6 fK fdK ["tally","web","much"] (bM8 K))
  (FO:Fun K "off_by_want" "off_by_want" aq2 fO fdO)(bO:Binds K fdO ["tally","want"] [])(mO:mg "off_by_want"=some (.ref fO))(GO:A8 P w K mg base CX0 6 fO fdO ["tally","want"] (aZ8 K))
  (FM:Fun K "room" "room" aq1 fM fdM)(bM:Binds K fdM ["tally","r"] [])(mM:mg "room"=some (.ref fM))(GM:A8 P w K mg base (CXE P w) 6 fM fdM ["tally","r"] (aM8 K CB CN)):A8 P w K mg base (CXE P w) 7 f fd ["tally","told"] (bq5 K CB CW):=by
 refine F.okX bS4 (fun vs H Q E h=>?_) (fun cdv A outer s H vs Q E hr h=>?_)
 ·obtain⟨a,t,p,ns,n,ks,z,r,rfl,_⟩:=h
  rfl
 ·obtain⟨a,t,p,ns,n,ks,z,r,rfl,hS,hT,hw,q,qb,qw⟩:=h
  refine⟨_,i4 (U0 (q8 GC hr (by rfl) mC FC.kp bC .nil an3 (b8 (pv 0) c9)))
   (i4 (G7 (PW.pt (Z2 (Q9 (ad8 ab5 ab5 d8 (C8 C5 (pv 1) d8 (fun _ _=>rfl)) (m4 u7 (by rfl) B.len PySem.boot_len (b8 (pv 0) c9)))) (ag1 (Q9 (Z3 (q8 GK hr (by rfl) mK FK.kp bK .nil G4 (b8 (pv 0) (b8 (C8 C5 (pv 1) d8 (fun _ _=>rfl)) (b8 (C8 C5 (pv 1) d8 (fun _ _=>rfl)) c9))))))))) (k7 (A9 aC4)) C7)
   (k7 (A9 (ag4 W6 (C8 C5 (pv 1) d8 (fun _ _=>rfl)) (q8 GO hr (by rfl) mO FO.kp bO .nil G4 (b8 (pv 0) (b8 (ab3 T8 (q8 GM hr (by rfl) mM FM.kp bM .nil an3 (b8 (pv 0) (b8 (C8 C5 (pv 1) d8 (fun _ _=>rfl)) c9)))) c9))) (C2 _))))),?_⟩
  have a0:atI ([.int z,.ref p,.int r]:List V) 0=some (.int z):=B3 (j:=0) rfl
  have a1:atI ([.int z,.ref p,.int r]:List V) 1=some (.ref p):=B3 (j:=1) rfl
  have a2:atI ([.int z,.ref p,.int r]:List V) 2=some (.int r):=B3 (j:=2) rfl
  refine⟨_,rfl,a,ns,rfl,hS,fun ht h0 H1 s1=>?_,qb,qw⟩
  have t2:=ht.2
  have q:=q ht h0
  have hT1:=s1.seqT hT
  refine⟨_,rfl,t,_,_,_,rfl,rfl,hT1,a2,_,_,rfl,rfl,_,rfl,?_⟩
  by_cases c1:(0:Int)<=r
  ·rw[decide_eq_true c1]
   refine J0 ⟨_,rfl,a,_,rfl,hS.same s1,_,_,rfl,rfl,_,rfl,?_⟩
   rw[b9]
   by_cases c2:r<=(ns.length:Int)
   ·rw[decide_eq_true c2]
    refine K3 ?_
    refine⟨_,rfl,_,rfl,t,_,_,_,rfl,rfl,hT1,a1,_,rfl,t,_,_,_,rfl,rfl,hT1,a0,a,p,ns,n,ks,z,rfl,hS.same s1,t2,hw.same s1,fun b H2 s2 hb=>⟨_,rfl,?_⟩⟩
    have s12:=s1.trans s2
    cases b with
    | false =>
     refine J0 (q false H2 s12 (ff fun h=>?_))
     exact absurd (hb.mpr h.lks) (by decide)
    | true =>
     refine K3 ?_
     have hT2:=s12.seqT hT
     refine⟨_,rfl,t,_,_,_,rfl,rfl,hT2,a0,_,rfl,_,rfl,_,rfl,t,_,_,_,rfl,rfl,hT2,a2,a,ns,r,rfl,hS.same s12,fun _ _ H3 s3=>?_,fun _ h=>absurd ⟨c1,c2⟩ h,fun h=>absurd ht h⟩
     refine⟨_,rfl,a,ns,_,rfl,hS.same (s12.trans s3),rfl,?_⟩
     refine q _ H3 (s12.trans s3) ?_
     rw[aX2,decide_eq_true_iff]
     exact⟨fun h=>⟨c1,c2,hb.mp rfl,h⟩,fun h=>h.want⟩
   ·rw[decide_eq_false c2]
    exact J0 (q false H1 s1 (ff fun h=>absurd h.r1 c2))
  ·rw[decide_eq_false c1]
   exact K3 ⟨_,rfl,J0 (q false H1 s1 (ff fun h=>absurd h.r0 c1))⟩
end
end Web
namespace Web
open PySem L2
def ovN (ns ms:List Int)(i:Nat):List Int:=((o8 i).filter fun j=>decide (ns.getD j 0<ms.getD j 0)).map fun j:Nat=>(j:Int)
theorem bu2 (ns ms:List Int)(i:Nat):ovN ns ms (i+1)=ovN ns ms i++(if ns.getD i 0<ms.getD i 0 then [(i:Int)] else []):=by
 unfold ovN
 rw[E7,O1,j9]
 congr 1
 by_cases h:ns.getD i 0<ms.getD i 0
 ·rw[an0 (by exact decide_eq_true h),if_pos h]
  rfl
 ·rw[an1 (by rw[decide_eq_false h];decide),if_neg h]
  rfl
theorem bG6 (ns ms:List Int)(i:Nat):(ovN ns ms i).length<=i:=by
 unfold ovN
 rw[b9]
 have:=K6 (fun j=>decide (ns.getD j 0<ms.getD j 0)) (o8 i)
 rw[B0]at this
 exact this
theorem bf8 {ns ms:List Int}{n:Nat}:ovN ns ms n=[]↔∀ j,j<n->ms.getD j 0<=ns.getD j 0:=by
 unfold ovN
 rw[List.map_eq_nil_iff,ap2]
 refine⟨fun h j hj=>?_,fun h j hj=>?_⟩
 ·have:=h j (B9.mpr hj)
  have:¬ (ns.getD j 0<ms.getD j 0):=fun z=>this (decide_eq_true z)
  omega
 ·have:=h j (B9.mp hj)
  intro z
  have:=of_decide_eq_true z
  omega
seal L2.PE L2.PA L2.PS L2.PSs L2.PT
section
variable {P:j8} {w:x6} {K:W.Frag} {mg:Str->Option c6} {base:Heap}
def bM9 (K:W.Frag):Sp:=fun vs H Q _=>∃ (a t p:Addr) (ns:List Int) (n:Int) (ks:List (List Int)) (z r:Int),vs=[.ref a,.ref t]/\SqL K H a (ns.map V.int)/\S9 ns/\SqT K H t [.int z,.ref p,.int r]/\Wx K H p n ks/\∀ (b:Bool) (H':Hp),u9 H H'->(b=true↔bY0 ns n ks z r)->Q (.bl b) H'
theorem aB4:B6 ["tally","told","much","web","r","counts","want"] ["tally","told"] (j5 aT3):=⟨rfl,rfl,rfl,by decide +kernel,rfl,by decide +kernel,by decide +kernel⟩
set_option maxHeartbeats 2000000 in
theorem bU8 {f fC fR:Addr}{fd fdC fdR:u0}(F:Fun K "_law_due" "_law_due" aT3 f fd)(B:Bn mg)
  (FC:Fun K "_law_counts" "_law_counts" aw6 fC fdC)(bC:Binds K fdC ["found","places"] [])(mC:mg "_law_counts"=some (.ref fC))(FR:Fun K "_law_room_at" "_law_room_at" aT1 fR fdR)(bR:Binds K fdR ["tally","r"] [])(mR:mg "_law_room_at"=some (.ref fR)):A8 P w K mg base CX0 2 f fd ["tally","told"] (bM9 K):=by
 have GC:A8 P w K mg base CX0 1 fC fdC ["found","places"] (br2 K):=bI1 FC B
 have GR:A8 P w K mg base CX0 1 fR fdR ["tally","r"] (bM6 K):=bU4 FR B
 refine F.ok aB4 (fun vs H Q E h=>?_) (fun cdv A outer s H vs Q E hr h=>?_)
 ·obtain⟨a,t,p,ns,n,ks,z,r,rfl,_⟩:=h
  rfl
 ·obtain⟨a,t,p,ns,n,ks,z,r,rfl,hS,ht,hT,hw,q⟩:=h
  have hsl:=L3
  have hun:=hr.units
  have t2:=ht.2
  have nd3:(["place","counts","tally"]:List Str).Nodup:=by decide +kernel
  refine⟨_,i4 (ag3 (pv 1) (ao4 rfl (E6 (y7 (i:=2) aB4.nd rfl (Or.inl rfl)) (E6 (y7 (i:=3) aB4.nd rfl (Or.inl rfl)) (E6 (y7 (i:=4) aB4.nd rfl (Or.inl rfl)) U2)))))
   (i4 (B1 (i:=5) aB4.nd rfl (Or.inr rfl) (q8 GC hr (by rfl) mC FC.kp bC .nil G4 (b8 (pv 3) (b8 (m4 u7 (by rfl) B.len PySem.boot_len (b8 (pv 0) c9)) c9))))
   (i4 (G7 (PW.pt (Z2 (A6 bT5 (pv 5) au6 (by rfl)) (Z2 (A6 ae0 (pv 4) d8 (C2 _)) (ag1 (A6 bu3 (pv 4) (m4 u7 (by rfl) B.len PySem.boot_len (b8 (pv 0) c9)) (C2 _)))))) (k7 (A9 aC4)) C7)
   (i4 (G7 (A6 bb0 (O9 (N':=["place","counts","tally"]) (lk:=[none,some 5,some 0]) rfl (Q5 rfl B.range (b8 (m4 u7 (by rfl) B.len PySem.boot_len (b8 (pv 0) c9)) c9)) (by rfl) rfl (by decide +kernel) (by exact⟨rfl,rfl,trivial⟩) (by rfl) (by exact LkL.ok ⟨⟨rfl,Or.inl rfl,rfl,Or.inl rfl⟩,⟨rfl,Or.inl rfl,rfl,Or.inl rfl⟩,trivial⟩) (fun _ _ _=>y7 (i:=0) nd3 rfl (Or.inl rfl)) (fun _ _ _=>ag2 (A6 bu3 (U3 K rfl (pv 1) (pv 0) (fun _ _=>rfl)) (U3 K rfl (pv 2) (pv 0) (fun _ _=>rfl)) (C2 _))) (fun _ _ _=>pv 0)) (X5 c9) (C2 _)) (k7 (A9 aC4)) C7)
   (i4 (B1 (i:=6) aB4.nd rfl (Or.inl rfl) (p8 R9 d8 (q8 GR hr (by rfl) mR FR.kp bR .nil G4 (b8 (pv 0) (b8 (pv 4) c9)))))
   (aN9 (G7 (A6 W6 (p8 L7 (p8 G3 (pv 6) (m4 (R0 rfl) (by rfl) B.sum (by rfl) (b8 (pv 0) c9))) d8) d8 (C2 _)) (k7 (B1 (i:=6) aB4.nd rfl (Or.inl rfl) (p8 G3 (pv 6) d8))) C7)
   (k7 (A9 (bu0 (ag4 W6 (p8 R9 (m4 (R0 rfl) (by rfl) B.sum (by rfl) (b8 (pv 0) c9)) (m4 (R0 rfl) (by rfl) B.sum (by rfl) (b8 (pv 5) c9))) (pv 2) (C2 _)) (bt3 (ag4 W6 (pv 6) (pv 2) (C2 _))))))))))),?_⟩
  refine⟨_,rfl,t,_,rfl,hT,rfl,_,_,rfl,_,_,rfl,_,_,rfl,rfl,?_⟩
  refine⟨_,rfl,_,rfl,a,_,rfl,.inl hS,p,ns.length,n,ks,by rw[b9];rfl,hw,t2,fun hno H1 s1=>?_,fun hn T lc H1 s1 fc gc=>?_⟩
  ·refine B2 ?_
   refine⟨_,rfl,rfl,_,rfl,J0 (J0 (q false H1 s1 (ff fun h=>hno ?_)))⟩
   obtain⟨m,TL,hl⟩:=h.lks
   have e:=hl.len
   rw[T9]at e
   exact⟨by rw[TL.z,e],by rw[<- e];exact TL.t⟩
  refine B2 ?_
  have lk:bL1 ns n ks z↔Lks ns (tal ns.length ks) z:=⟨fun⟨m,T',h⟩=>by
   have e:=h.len
   rw[T9]at e
   rw[<- e]
   rw[e]at h ⊢
   exact h,fun h=>⟨ns.length,⟨hn,ht.1,t2,T⟩,h⟩⟩
  have htl:(tal ns.length ks).length=ns.length:=T9 _ _
  generalize tal ns.length ks=ms at gc lk htl
  refine⟨_,rfl,rfl,_,rfl,K3 ⟨_,rfl,_,_,rfl,rfl,_,rfl,?_⟩⟩
  by_cases c1:r<0
  ·rw[decide_eq_true c1]
   exact J0 (J0 (q false H1 s1 (ff fun h=>by have:=h.r0;omega)))
  rw[decide_eq_false c1]
  refine K3 ⟨_,rfl,_,rfl,a,_,rfl,.inl (s1.seq hS),_,_,rfl,rfl,_,rfl,?_⟩
  rw[b9]
  by_cases c2:(ns.length:Int)<r
  ·rw[decide_eq_true c2]
   exact J0 (q false H1 s1 (ff fun h=>by have:=h.r1;omega))
  rw[decide_eq_false c2]
  refine K3 ?_
  obtain⟨rn,rfl⟩:∃ rn:Nat,r=(rn:Int):=⟨r.toNat,by omega⟩
  refine⟨_,rfl,a,_,rfl,.inl (s1.seq hS),(ns.length:Int),congrArg (fun z:Nat=>[V.int (z:Int)]) (b9 ..),by omega,by omega,fun D hD=>?_⟩
  rw[q0]
  refine Z9 (lo:=0) (n:=ns.length) (D:=D) (fun i xs σ' H'=>(∃ v,σ'=[v,some (.ref lc),some (.ref a)])/\u9 H1 H'/\H' D=some (.lst xs)/\xs=(ovN ns ms i).map V.int) ⟨⟨none,rfl⟩,d9 hD,c8,rfl⟩ (by omega)
   (fun i xs σ' H' hi ⟨_,s6,h6,e6⟩=>⟨h6,by rw[e6,b9];exact bG6 _ _ _⟩) ?_ ?_
  ·rintro i xs σ' H' N kN hi ⟨⟨v,rfl⟩,s6,h6,rfl⟩
   have e0:((0:Int)+(i:Int))=(i:Int):=by omega
   rw[e0]
   refine B2 ?_
   refine⟨_,rfl,_,rfl,.inl ⟨lc,_,_,_,rfl,rfl,SqL.of (s6 _ _ gc),ag9 (by omega),_,rfl,_,rfl,.inl ⟨a,_,_,_,rfl,rfl,(s1.trans s6).seq hS,ag9 hi,_,_,rfl,rfl,_,rfl,?_⟩⟩⟩
   have et:=bu2 ns ms i
   by_cases hm:ns.getD i 0<ms.getD i 0
   ·rw[decide_eq_true hm]
    refine J0 ?_
    refine⟨_,rfl,h6,kN _ _ _ ⟨⟨_,rfl⟩,s6.upd hD,c8,?_⟩⟩
    rw[et,if_pos hm,j9]
    rfl
   ·rw[decide_eq_false hm]
    refine K3 (kN _ _ _ ⟨⟨_,rfl⟩,s6,h6,?_⟩)
    rw[et,if_neg hm,F4]
  rintro xs σ' H2 ⟨⟨v,rfl⟩,s2,gD,rfl⟩
  refine⟨(by show 0<=i9;omega),fun le fe=>?_⟩
  have s3:=d9 (o:=.lst []) fe
  refine⟨.list ((ovN ns ms ns.length).map .int),.list (([]:List Int).map .int),Dt.mkLi (SqL.of (s3 _ _ gD)),Dt.mkLi (SqL.of c8),aO6 _,aO6 _,?_,_,rfl,?_⟩
  ·refine bd6 hun (A4 (aZ1 _ _) ?_)
   have:=bz3 (ovN ns ms ns.length)
   omega
  have s123:=s1.trans (s2.trans s3)
  have gc3:=(s2.trans s3) _ _ gc
  have hS3:=s123.seq hS
  generalize upd H2 le (.lst [])=H3 at s123 gc3 hS3 ⊢
  rw[if_pos rfl,bz0]
  by_cases hov:ovN ns ms ns.length=[]
  rotate_left
  ·rw[decide_eq_false hov]
   exact J0 (q false H3 s123 (ff fun h=>hov (bf8.mpr fun j hj=>((lk.mp h.lks).le j hj))))
  rw[decide_eq_true hov]
  refine K3 ?_
  have hle:=bf8.mp hov
  refine⟨_,rfl,_,rfl,a,ns,rn,rfl,hS3,by omega,t2,fun H4 s4=>⟨_,_,rfl,rfl,?_⟩⟩
  refine B2 ?_
  have sA:=s123.trans s4
  refine⟨fun σ Hc=>σ=[some (.ref a),some (.ref t),some (.int z),some (.ref p),some (.int (rn:Int)),some (.ref lc),some (.int (Z6 ns.sum (-L4 ns rn)))]/\Hc=H4,?_,?_⟩
  ·refine⟨_,rfl,_,rfl,a,ns,rfl,sA.seq hS,_,_,rfl,rfl,_,_,rfl,rfl,(by show (0:Int)<2;decide),rfl,_,rfl,?_⟩
   rw[aX2]
   by_cases c3:(0 - L4 ns rn+ns.sum) % 2=1
   ·rw[decide_eq_true c3]
    refine J0 ⟨_,rfl,_,_,rfl,rfl,?_⟩
    refine⟨?_,rfl⟩
    rw[show Z6 ns.sum (-L4 ns rn)=0 - L4 ns rn+1 by unfold Z6;omega]
    rfl
   ·rw[decide_eq_false c3]
    refine K3 ⟨?_,rfl⟩
    rw[show Z6 ns.sum (-L4 ns rn)=0 - L4 ns rn by unfold Z6;omega]
    rfl
  rintro σ Hc ⟨rfl,rfl⟩
  refine⟨_,rfl,a,ns,rfl,sA.seq hS,_,rfl,lc,ms,rfl,SqL.of (s4 _ _ gc3),_,_,rfl,rfl,_,rfl,rfl,_,rfl,?_⟩
  rw[aX2]
  by_cases c4:ns.sum - ms.sum=z
  ·rw[decide_eq_true c4]
   refine J0 ⟨_,rfl,_,rfl,rfl,?_⟩
   refine q _ _ sA ?_
   rw[aX2,decide_eq_true_iff]
   exact⟨fun h=>⟨by omega,by omega,lk.mpr ⟨htl,hle,c4⟩,h.symm⟩,fun h=>h.want.symm⟩
  ·rw[decide_eq_false c4]
   exact K3 (q false _ sA (ff fun h=>c4 (lk.mp h.lks).sum))
end
end Web
namespace Tim
open PySem PyProof.Rows
section
variable {prog:j8} {w:x6} {A:u4} {E:c6->c7->Prop} {s:c7}
theorem aA5 {l:Addr} {vs:List c6} {T:String} {o:Obj} {c:Nat} {Q:c6->c7->Prop} (hT:T="list"\/T="tuple") (ho:s.heap.get? l=some o) (hc:o.cls=.type T) (hd:o.data=.seq vs.toArray c) (hz:vs.length<=i9) (h64:vs.length<64) (hv:∀ v∈vs,∃ i k,IsK prog w s.heap (i::k) v)
  (h : ∀ (out : List c6) (h1 h' : Heap) (n : Nat), (∀ b o, s.heap.get? b = some o -> h1.get? b = some o) -> out.Perm vs -> out.Pairwise (fun x y => K2 (Q0 prog w s.heap y) (Q0 prog w s.heap x) = false) -> (∀ b o, h1.get? b = some o -> h'.get? b = some o) ->
   h'.get? h1.objs.size=some { cls:=.type "list",data:=.seq out.toArray n }->Q (.ref h1.objs.size) { s with heap:=h' }) :
  o7 (y6 prog w) A (call (.builtin "sorted") [.ref l]) Q E s:=by
 refine Calls.call_function_entry aH2 ax4 ax5 (bP9 _) ?_
 unfold ai3.«sorted»
 refine b7 (m:=aR4 "sorted" 1 1 _) (d3 ?_)
 refine b7 (aR5 l hT ho hc hd (fun h1 kp=>?_) (by rw[d5];exact hz))
 rw[ae8]
 refine b7 (M0 ?_ hz)
 generalize hH:h1.push (F7 "list" vs.toArray 0)=h2
 have hoL:h2.get? h1.objs.size=some (F7 "list" vs.toArray 0):=by
  rw[<- hH];exact i8 _ rfl
 have keep1:∀ b o,h1.get? b=some o->h2.get? b=some o:=fun b o e=>by
  rw[<- hH]
  exact c5 _ e
 have keep:∀ b o,s.heap.get? b=some o->h2.get? b=some o:=fun b o e=>keep1 b o (kp b o e)
 have up:∀ v k,IsK prog w s.heap k v->IsK prog w h2 k v:=fun v k hk=>hk.up keep
 have kA:∀ v∈vs,Q0 prog w h2 v=Q0 prog w s.heap v:=fun v hv'=>by
  obtain⟨i,k,hk⟩:=hv v hv'
  rw[O5 hk,O5 (up v _ hk)]
 refine b7 (D3 (K1 am2 (s:={ s with heap:=h2 }) ⟨_,hoL,rfl⟩ ai6 (aA9 (s:={ s with heap:=h2 }) hoL hz h64 (fun v hv'=>?_) (fun v hv' z=>?_) fun out a1 a2=>⟨_,rfl,?_⟩) (bp3 _)))
 ·obtain⟨i,k,hk⟩:=hv v hv'
  exact⟨i,k,up v _ hk⟩
 ·obtain⟨i,k,a,rfl,o,items,n,ho,_⟩:=hv v hv'
  cases z
  exact absurd (d6 (kp _ _ ho)) (B8 _)
 ·have hlast:∃ n,(X0 h2 h1.objs.size vs out.toArray).get? h1.objs.size=some (F7 "list" out.toArray n):=by
   unfold X0
   have g1:=P5 hoL (fun _=>(#[]:Array c6))
   have g2:(((h2.update h1.objs.size (Obj.mapSeq fun _=>#[])).push (F7 "tuple" vs.toArray 0)).push (F7 "list" #[] 0)).get? h1.objs.size=_:=c5 _ (c5 _ g1)
   exact⟨_,P5 g2 (fun _=>out.toArray)⟩
  obtain⟨n,hn⟩:=hlast
  refine d3 ⟨_,rfl,h out h1 _ n kp a1 ?_ (fun b o e=>?_) hn⟩
  ·refine List.Pairwise.imp_of_mem ?_ a2
   intro x y hx hy hxy
   rw[kA x (a1.mem_iff.mp hx),kA y (a1.mem_iff.mp hy)]at hxy
   exact hxy
  ·have hb:b≠h1.objs.size:=j7 (d6 e)
   unfold X0
   refine(x9 _ _ (Ne.symm hb)).trans (c5 _ (c5 _ ((x9 _ _ (Ne.symm hb)).trans (keep1 b o e))))
end
end Tim
namespace L2
open PySem PySem.Spec PyProof.Rows
section
variable {X:Cx}
theorem aP8:Q8 X (.builtin "sorted") (fun xs H Q=>∃ p ys ks,xs=[.ref p]/\(SqL X.K H p ys\/SqT X.K H p ys)/\C1 X.K H ys ks/\(∀ k∈ks,k≠[])/\ks.length<64 /\
  ∀ l zs ks',H l=none->ks'.Perm ks->ks'.Pairwise (fun a b=>Tim.K2 b a=false)->C1 X.K (upd H l (.lst zs)) zs ks'->Q (.ref l) (upd H l (.lst zs))):=by
 intro pins s σ H xs us Q I r h
 obtain⟨p,ys,ks,rfl,hq,ht,hne,h64,q⟩:=h
 obtain⟨u,rfl,rx⟩:=vals1 r
 cases rx
 obtain⟨its,T,o,c,r',hT,ho,hc,hd,hz⟩:∃ (its:List c6) (T:String) (o:Obj) (c:Nat),D9 ys its/\(T="list"\/T="tuple")/\s.heap.get? p=some o/\o.cls=.type T/\o.data=.seq its.toArray c/\ys.length<=i9:=by
  rcases hq with hq | hq
  ·obtain⟨its,r',pl,hz⟩:=I.list hq
   obtain⟨o,ho,hc,n,hd⟩:=pl.isList
   exact⟨its,"list",o,n,r',.inl rfl,ho,hc,hd,hz⟩
  ·obtain⟨its,r',pl,hz⟩:=I.tuple hq
   obtain⟨o,ho,hc,n,hd⟩:=pl
   exact⟨its,"tuple",o,n,r',.inr rfl,ho,hc,hd,hz⟩
 have hlen:=r'.length
 have hk:=V3 I ht r'
 have hv:∀ v∈its,∃ i k,Tim.IsK X.prog X.w s.heap (i::k) v:=fun v hv=>by
  obtain⟨j,hj⟩:=B4.mp hv
  obtain⟨k,h1,a,rfl,h2⟩:=Z5 hk hj
  cases k with
  | nil=>exact absurd rfl (hne [] (i7 h1))
  | cons i k=>exact⟨i,k,a,rfl,h2⟩
 refine Tim.aA5 hT ho hc hd (by omega) (by have:=hk.length;omega) hv fun out h1 h' n kp1 hp hs kp e=>?_
 have I1:Inv X pins σ H { s with heap:=h1,toks:=s.toks }:=I.kept kp1
 obtain⟨zs,pz,rz⟩:=ab4 hp (W5 r')
 have rz':D9 zs out:=W5 rz
 have hzl:zs.length<=i9:=by rw[pz.length_eq];exact hz
 have hfr:H h1.objs.size=none:=I1.hok.fresh (d4 _)
 have keepS:∀ b o,H b=some o->upd H h1.objs.size (.lst zs) b=some o:=fun b o e=>by rw[v7 (o5 e hfr)];exact e
 refine⟨.ref h1.objs.size,upd H h1.objs.size (.lst zs),I1.laid (t':=s.toks) kp (d4 _) (show N7 X.prog X.w _ h' _ (.lst zs) from ⟨hzl,out,n,rz',e⟩),rfl,?_⟩
 obtain⟨ks',pk,hk'⟩:=ab4 pz (show ac3 (fun y k=>∃ a,y=V.ref a/\SqT X.K H a (k.map V.int)) ys ks from ht)
 refine q _ zs ks' hfr pk ?_ (C1.same keepS hk')
 have hko:=V3 I (show C1 X.K H zs ks' from hk') rz'
 have eq:ks'=out.map (Tim.Q0 X.prog X.w s.heap):=by
  clear hs hp rz rz' hk' pk e
  induction hko with
  | nil=>rfl
  | cons r t ih =>
   obtain⟨a,rfl,hka⟩:=r
   rw[v8,Tim.O5 ⟨a,rfl,hka⟩,<- ih]
 rw[eq,L8]
 exact hs
end
end L2
namespace Web
open PySem L2
def APr (ks:List (List Int)):Prop:=∀ k∈ks,∃ a b,k=[a,b]
theorem APr.sub {ks ls:List (List Int)}(h:APr ks)(s:∀ k∈ls,k∈ks):APr ls:=fun k hk=>h k (s k hk)
theorem APr.app {ks ls:List (List Int)}(h:APr ks)(g:APr ls):APr (ks++ls):=fun k hk=>(F3.mp hk).elim (h k) (g k)
theorem APr.one (a b:Int):APr [[a,b]]:=fun k hk=>⟨a,b,B7.mp hk⟩
theorem ak9 {K:W.Frag}{H:Hp}:∀ {ys:List V} {ks:List (List Int)} (n:Nat),C1 K H ys ks->C1 K H (ys.drop n) (ks.drop n)
 | _,_,0,t=>t
 | _,_,n+1,.nil=>.nil
 | _,_,n+1,.cons r t=>ak9 n t
theorem ak8 {K:W.Frag}{H:Hp}:∀ {ys:List V} {ks:List (List Int)} (n:Nat),C1 K H ys ks->C1 K H (ys.take n) (ks.take n)
 | _,_,0,t=>.nil
 | _,_,n+1,.nil=>.nil
 | _,_,n+1,.cons r t=>.cons r (ak8 n t)
theorem aS0 {K:W.Frag}{H:Hp}:∀ {ys:List V} {ks:List (List Int)},C1 K H ys ks->C1 K H ys.reverse ks.reverse
 | _,_,.nil=>.nil
 | _,_,.cons r t=>by
  rw[Y3,Y3]
  exact C1.append (aS0 t) (.cons r .nil)
theorem bf7 {K:W.Frag}{H:Hp}{zs:List V}{ks:List (List Int)}{m:Nat}(t:C1 K H zs ks)(a:APr ks)(hm:m<ks.length):∃ (pa:Addr) (u v:Int),zs[m]?=some (.ref pa)/\ks[m]?=some [u,v]/\SqT K H pa (([u,v]:List Int).map V.int):=by
 have hl:=t.len
 have hz:zs[m]?=some (zs[m]'(by omega)):=i6 (by omega)
 obtain⟨pa,pk,e,hk,hq⟩:=t.get hz
 obtain⟨u,v,rfl⟩:=a pk (i7 hk)
 rw[e]at hz
 exact⟨pa,u,v,hz,hk,hq⟩
theorem bs7:∀ n:Nat,n<11->(U4 n).length<=45:=by decide +kernel
theorem ci4:∀ n:Nat,n<11->2<=n->0<(U4 n).length:=by decide +kernel
theorem tup_ne (ks:List (List Int)):PyData.eqv (.tuple (ks.map dP)) (.tuple [])=ks.isEmpty:=by
 cases ks<;>simp[PyData.eqv,PyData.eqvAll]
theorem bD8 (a b z:Int):∃ v:Int,atI ([.int a,.int b]:List V) (z % 2)=some (.int v):=by
 have:z % 2=0\/z % 2=1:=by omega
 rcases this with h | h
 ·exact⟨a,by rw[h];exact B3 (j:=0) rfl⟩
 ·exact⟨b,by rw[h];exact B3 (j:=1) rfl⟩
seal L2.PE L2.PA L2.PS L2.PSs L2.PT
section
variable {P:j8} {w:x6} {K:W.Frag} {mg:Str->Option c6} {base:Heap}
def bM5 (K:W.Frag):Sp:=fun vs H Q _=>∃ (p:Addr) (n:Nat) (ks:List (List Int)) (c:Int),vs=[.ref p,.int c]/\Wx K H p n ks/\1<=n/\n<=10/\ks.length<=45/\∀ (p':Addr) (z':Int) (ks':List (List Int)) (H':Hp),u9 H H'->Wx K H' p' z' ks'->Q (.ref p') H'
theorem aI9:B6 ["web","cell","places","ties","way","at","pair"] ["web","cell"] (j5 ab0):=⟨rfl,rfl,rfl,by decide +kernel,rfl,by decide +kernel,by decide +kernel⟩
set_option maxHeartbeats 4000000 in
theorem bU2 {f fP fM:Addr}{fd fdP fdM:u0}(F:Fun K "_law_spoilt" "_law_spoilt" ab0 f fd)(B:Bn mg)(FP:Fun K "_law_pairs" "_law_pairs" af9 fP fdP)(bP:Binds K fdP ["places"] [])(mP:mg "_law_pairs"=some (.ref fP))(GP:A8 P w K mg base CX0 1 fP fdP ["places"] (aM9 K))
  (FM:Fun K "_law_mixed" "_law_mixed" aN6 fM fdM)(bM:Binds K fdM ["cell","k","bound"] [])(mM:mg "_law_mixed"=some (.ref fM))(GM:A8 P w K mg base CX0 1 fM fdM ["cell","k","bound"] bq6):A8 P w K mg base CX0 2 f fd ["web","cell"] (bM5 K):=by
 refine F.ok aI9 (fun vs H Q E h=>?_) (fun cdv A outer s H vs Q E hr h=>?_)
 ·obtain⟨p,n,ks,c,rfl,_⟩:=h
  rfl
 ·obtain⟨p,n,ks,c,rfl,hw,n1,n2,hk0,q⟩:=h
  have hw0:=hw
  obtain⟨⟨t,zs,w1,w2,w3⟩,hp0,_⟩:=hw
  have hp0:APr ks:=hp0
  have hsl:=L3
  have hun:=hr.units
  have hzl:=w3.len
  have nd3:(["k","pair","cell"]:List Str).Nodup:=by decide +kernel
  refine⟨_,i4 (ag3 (pv 0) (ao4 rfl (E6 (y7 (i:=2) aI9.nd rfl (Or.inl rfl)) (E6 (y7 (i:=3) aI9.nd rfl (Or.inl rfl)) U2))))
   (i4 (B1 (i:=4) aI9.nd rfl (Or.inl rfl) (p8 L7 (pv 1) d8))
   (i4 (B1 (i:=5) aI9.nd rfl (Or.inl rfl) (p8 L7 (p8 W2 (pv 1) d8) (m4 (W0 rfl) (by rfl) B.max (by rfl) (b8 d8 (b8 (m4 u7 (by rfl) B.len PySem.boot_len (b8 (pv 3) c9)) c9)))))
   (i4 (G7 (A6 W6 (pv 4) d8 (C2 _)) (k7 (A9 (G0 (b8 (pv 2) (b8 (p8 aq9 (O4 al3 (pv 3) U1 (Q4 (pv 5))) (O4 al3 (pv 3) (Q4 (p8 G3 (pv 5) d8)) U1)) c9))))) C7)
   (i4 (G7 (A6 W6 (pv 4) d8 (C2 _)) (i4 (B1 (i:=6) aI9.nd rfl (Or.inl rfl) (C8 P0 (q8 GP hr (by rfl) mP FP.kp bP .nil G4 (b8 (m4 (W0 rfl) (by rfl) B.max (by rfl) (b8 d8 (b8 (pv 2) c9))) c9)) (p8 L7 (p8 W2 (pv 1) d8) (m4 u7 (by rfl) B.len PySem.boot_len (b8 (q8 GP hr (by rfl) mP FP.kp bP .nil G4 (b8 (m4 (W0 rfl) (by rfl) B.max (by rfl) (b8 d8 (b8 (pv 2) c9))) c9)) c9))) (fun _ _=>rfl))) (k7 (A9 (G0 (b8 (pv 2) (b8 (L9 O8 (by rfl) B.tuple (by rfl) (b8 (m4 aP8 (by rfl) B.sorted (by rfl) (b8 (p8 aq9 (pv 3) (G0 (b8 (pv 6) c9))) c9)) c9)) c9)))))) C7)
   (i4 (G7 (A6 W6 (pv 4) d8 (C2 _)) (k7 (A9 (G0 (b8 (pv 2) (b8 (bF9 (pv 3) (ab3 T8 d8)) c9))))) C7)
   (aN9 (G7 (PW.pt (bT1 (A6 W6 (pv 4) d8 (C2 _)) (bF6 (A6 bb0 (pv 3) (G0 c9) (C2 _))))) (k7 (A9 (G0 (b8 (pv 2) (b8 (p8 aq9 (p8 aq9 (O4 al3 (pv 3) U1 (Q4 (pv 5))) (G0 (b8 (G0 (b8 (C8 C5 (C8 C5 (pv 3) (pv 5) (fun _ _=>rfl)) d8 (fun _ _=>rfl)) (b8 (C8 C5 (C8 C5 (pv 3) (pv 5) (fun _ _=>rfl)) d8 (fun _ _=>rfl)) c9))) c9))) (O4 al3 (pv 3) (Q4 (p8 G3 (pv 5) d8)) U1)) c9))))) C7)
   (i4 (G7 (A6 W6 (pv 4) d8 (C2 _)) (k7 (A9 (G0 (b8 (pv 2) (b8 (p8 aq9 (O4 al3 (pv 3) U1 (Q4 (p8 G3 (pv 5) d8))) (O4 al3 (pv 3) (Q4 (pv 5)) U1)) c9))))) C7)
   (i4 (G7 (A6 W6 (pv 4) d8 (C2 _)) (k7 (A9 (G0 (b8 (p8 G3 (pv 2) (C8 P0 (X5 (b8 d8 (b8 (ab3 T8 d8) c9))) (p8 L7 (p8 W2 (pv 1) d8) d8) (fun _ _=>rfl))) (b8 (pv 3) c9))))) C7)
   (i4 (G7 (A6 W6 (pv 4) d8 (C2 _)) (k7 (A9 (G0 (b8 (pv 2) (b8 (L9 O8 (by rfl) B.tuple (by rfl) (b8 (O9 (N':=["k","pair","cell"]) (lk:=[none,none,some 1]) rfl (aq6 (by rfl) B.enum (b8 (q8 GP hr (by rfl) mP FP.kp bP .nil G4 (b8 (pv 2) c9)) c9)) (by rfl) rfl (by decide +kernel) (by exact⟨rfl,trivial⟩) (by rfl) (by exact LkL.ok ⟨⟨rfl,Or.inl rfl,rfl,Or.inl rfl⟩,trivial⟩) (fun _ _ _=>aq7 (n:=2) K rfl rfl (E6 (y7 (i:=0) nd3 rfl (Or.inl rfl)) (E6 (y7 (i:=1) nd3 rfl (Or.inl rfl)) U2))) (fun _ _ _=>ag2 (A6 W6 (q8 GM hr (by rfl) mM FM.kp bM .nil G4 (b8 (pv 2) (b8 (pv 0) (b8 d8 c9)))) d8 (C2 _))) (fun _ _ _=>pv 1)) c9)) c9))))) C7)
   (k7 (A9 (pv 0)))))))))))),?_⟩
  have fin:∀ (H':Hp) (t':Addr) (zs':List V) (ks':List (List Int)) (z':Int),u9 H H'->SqT K H' t' zs'->C1 K H' zs' ks'->APr ks'->ks'.length<64->2<=i9/\∀ p3,H' p3=none->Q (.ref p3) (upd H' p3 (.tup [.int z',.ref t'])):=fun H' t' zs' ks' z' s' g' u' a' l'=>⟨by decide,fun p3 f3=>by
   have s3:=d9 (o:=.tup [.int z',.ref t']) f3
   exact q p3 z' ks' _ (s'.trans s3) ⟨⟨t',zs',SqT.of c8,s3.seqT g',s3.tups u'⟩,a',l'⟩⟩
  refine⟨_,rfl,p,_,rfl,w1,rfl,_,_,rfl,_,_,rfl,rfl,?_⟩
  refine⟨_,rfl,_,_,rfl,rfl,(by show (0:Int)<8;decide),?_⟩
  refine Y6 fun way _=>?_
  refine⟨_,rfl,_,_,rfl,rfl,⟨by decide,by decide⟩,_,rfl,t,_,rfl,.inr w2,_,_,rfl,_,_,rfl,rfl,?_⟩
  have hmx:(0:Int)<(if (zs.length:Int) > 1 then (zs.length:Int) else 1):=by split<;>omega
  refine⟨hmx,?_⟩
  obtain⟨m,hm,hm2⟩:∃ m:Nat,c / 8 % (if (zs.length:Int) > 1 then (zs.length:Int) else 1)=(m:Int)/\(ks≠[]->m<ks.length):=by
   have q1:=M7 (c / 8) (show (if (zs.length:Int) > 1 then (zs.length:Int) else 1)≠0 by omega)
   have q2:=J1 (c / 8) hmx
   refine⟨(c / 8 % (if (zs.length:Int) > 1 then (zs.length:Int) else 1)).toNat,by omega,fun hne=>?_⟩
   have:0<ks.length:=List.length_pos_iff.mpr hne
   by_cases hc:(zs.length:Int) > 1
   ·rw[if_pos hc]at q2 q1 ⊢
    omega
   ·rw[if_neg hc]at q2 q1 ⊢
    omega
  refine aW8 (v':=.int (m:Int)) (congrArg V.int hm) ?_
  have e1:=aP5 zs m
  have e2:ae4 zs (some ((m:Int)+1)) none=zs.drop (m+1):=av4 zs (m+1)
  have e3:ae4 zs none (some ((m:Int)+1))=zs.take (m+1):=aP5 zs (m+1)
  have e4:=av4 zs m
  have aT:∀ j,APr (ks.take j):=fun j=>hp0.sub fun k hk=>L5 hk
  have aD:∀ j,APr (ks.drop j):=fun j=>hp0.sub fun k hk=>aw1 hk
  refine⟨_,rfl,rfl,_,rfl,am7 (fun _=>?_) (fun _=>?_)⟩
  ·refine⟨_,rfl,_,rfl,_,rfl,_,rfl,t,_,rfl,w2,fun p1 H1 s1 g1=>?_⟩
   refine⟨_,rfl,_,rfl,_,_,rfl,rfl,_,rfl,t,_,rfl,s1.seqT w2,fun p2 H2 s2 g2=>?_⟩
   rw[e1]at g1
   rw[e2]at g2
   refine⟨p1,p2,_,_,rfl,rfl,s2.seqT g1,g2,by rw[o4,E1];omega,fun p3 H3 s3 g3=>?_⟩
   have sA:=(s1.trans s2).trans s3
   exact fin H3 p3 _ (ks.take m++ks.drop (m+1)) n sA g3 ((ak8 m (sA.tups w3)).append (ak9 (m+1) (sA.tups w3))) ((aT m).app (aD (m+1))) (by rw[p6,o4,E1];omega)
  refine⟨_,rfl,rfl,_,rfl,am7 (fun _=>?_) (fun _=>?_)⟩
  ·obtain⟨N,hN,hN2,hN3⟩:∃ N:Nat,(if (n:Int) > 2 then (n:Int) else 2)=(N:Int)/\2<=N/\N<=10:=by
    by_cases h:(n:Int) > 2
    ·exact⟨n,by rw[if_pos h],by omega,n2⟩
    ·exact⟨2,by rw[if_neg h];rfl,by omega,by omega⟩
   have hpl:=bs7 N (by omega)
   have hpp:=ci4 N (by omega) hN2
   refine⟨_,rfl,_,_,rfl,N,congrArg (fun z:Int=>[V.int z]) hN,by omega,fun l1 z1 H1 s1 f1 g1 u1=>?_⟩
   refine⟨_,rfl,_,_,rfl,rfl,⟨by decide,by decide⟩,_,rfl,_,_,rfl,N,congrArg (fun z:Int=>[V.int z]) hN,by omega,fun l2 z2 H2 s2 f2 g2 u2=>?_⟩
   have hz1:=u1.len
   have hz2:=u2.len
   have q1:=M7 (c / 8) (show ((z2.length:Int))≠0 by omega)
   have q2:=J1 (c / 8) (show (0:Int)<(z2.length:Int) by omega)
   obtain⟨j,hj⟩:∃ j:Nat,c / 8 % (z2.length:Int)=(j:Int):=⟨(c / 8 % (z2.length:Int)).toNat,by omega⟩
   obtain⟨pa,u,v,hz,hkm,hq⟩:=bf7 (m:=j) u1 (fun k hk=>let ⟨i,j,_,_,e⟩:=au9 hk;⟨i,j,e⟩) (by omega)
   refine⟨l2,_,rfl,.inl (SqL.of g2),_,_,rfl,rfl,(by show (0:Int)<(z2.length:Int);omega),l1,_,_,_,rfl,rfl,SqL.of (s2 _ _ g1),(by rw[hj];exact B3 hz),?_⟩
   refine B2 ?_
   have s12:=s1.trans s2
   refine⟨_,rfl,_,rfl,_,rfl,(by show 1<=i9;decide),fun tb fb=>?_⟩
   have sb:=d9 (o:=.tup [.ref pa]) fb
   have sB:=s12.trans sb
   refine⟨t,tb,_,_,rfl,rfl,sB.seqT w2,SqT.of c8,(by show zs.length+1<=i9;omega),fun p3 H3 s3 g3=>?_⟩
   have sC:=sB.trans s3
   have tA:C1 K H3 (zs++[.ref pa]) (ks++[[u,v]]):=C1.append (sC.tups w3) (.cons ⟨pa,rfl,((s2.trans sb).trans s3).seqT hq⟩ .nil)
   have aA:APr (ks++[[u,v]]):=APr.app hp0 (APr.one _ _)
   refine⟨p3,_,_,rfl,.inr g3,tA,fun k hk=>?_,by rw[p6];show _+1<64;omega,fun l4 zs4 ks4 f4 pm _ t4=>?_⟩
   ·obtain⟨x,y,e⟩:=aA k hk
    rw[e]
    intro z
    cases z
   have s4:=d9 (o:=.lst zs4) f4
   refine⟨l4,_,rfl,.inl ⟨SqL.of c8,fun t5 f5=>?_⟩⟩
   have s5:=d9 (o:=.tup zs4) f5
   have hpl:=pm.length_eq
   rw[p6]at hpl
   exact fin _ t5 zs4 ks4 n ((sC.trans s4).trans s5) (SqT.of c8) (s5.tups t4) (aA.sub fun k hk=>pm.mem_iff.mp hk) (by rw[hpl];show _+1<64;omega)
  refine⟨_,rfl,rfl,_,rfl,am7 (fun _=>?_) (fun _=>?_)⟩
  ·refine⟨_,rfl,_,rfl,_,rfl,rfl,t,_,rfl,w2,fun p1 f1=>?_⟩
   have s1:=d9 (o:=.tup zs.reverse) f1
   exact fin _ p1 _ ks.reverse n s1 (SqT.of c8) (aS0 (s1.tups w3)) (hp0.sub fun k hk=>List.mem_reverse.mp hk) (by rw[V0];omega)
  refine⟨fun σ Hc=>σ=[some (.ref p),some (.int c),some (.int (n:Int)),some (.ref t),some (.int way),some (.int (m:Int)),none]/\u9 H Hc,?_,?_⟩
  ·refine⟨_,rfl,rfl,_,rfl,am7 (fun _=>?_) (fun _=>K3 ⟨rfl,u9.refl H⟩)⟩
   refine⟨_,rfl,(by show 0<=i9;omega),fun l0 f0=>?_⟩
   have s0:=d9 (o:=.tup []) f0
   refine⟨.tuple (ks.map dP),.tuple [],Dt.mkT (s0.seqT w2) (s0.tups w3).dtAll,Dt.mkT (SqT.of c8) .mkN,by simp[PyData.canLay0,av0],by simp[PyData.canLay0,PyData.canLayAll0],?_,_,rfl,?_⟩
   ·refine bd6 hun (A4 (Nat.min_le_right _ _) ?_)
    simp[PyData.depth,PyData.depthAll]
   rw[if_pos rfl,tup_ne]
   cases hks:ks.isEmpty with
   | true=>exact K3 ⟨rfl,s0⟩
   | false =>
   refine J0 ?_
   have hne:ks≠[]:=by intro z;rw[z]at hks;cases hks
   have hm3:=hm2 hne
   obtain⟨pa,u,v,hz,hkm,hq⟩:=bf7 w3 hp0 hm3
   have b0:atI (([u,v]:List Int).map V.int) 0=some (.int u):=B3 (j:=0) rfl
   have b1:atI (([u,v]:List Int).map V.int) 1=some (.int v):=B3 (j:=1) rfl
   refine⟨_,rfl,_,rfl,_,rfl,_,rfl,t,_,rfl,s0.seqT w2,fun p1 H1 s1 g1=>?_⟩
   have s01:=s0.trans s1
   refine⟨_,rfl,_,rfl,t,_,_,_,rfl,rfl,s01.seqT w2,B3 hz,pa,_,_,_,rfl,rfl,s01.seqT hq,b1,_,rfl,_,rfl,t,_,_,_,rfl,rfl,s01.seqT w2,B3 hz,pa,_,_,_,rfl,rfl,s01.seqT hq,b0,(by show 2<=i9;decide),fun a1 f1=>⟨(by show 1<=i9;decide),fun a2 f2=>?_⟩⟩
   have v1:=d9 (o:=.tup (([v,u]:List Int).map V.int)) f1
   have v2:=d9 (o:=.tup [.ref a1]) f2
   rw[e1]at g1
   refine⟨p1,a2,_,_,rfl,rfl,(v1.trans v2).seqT g1,SqT.of c8,(by rw[o4];show _+1<=_;omega),fun p3 H3 s3 g3=>?_⟩
   have s13:=s01.trans ((v1.trans v2).trans s3)
   refine⟨_,rfl,_,rfl,_,_,rfl,rfl,_,rfl,t,_,rfl,s13.seqT w2,fun p4 H4 s4 g4=>?_⟩
   rw[e2]at g4
   refine⟨p3,p4,_,_,rfl,rfl,s4.seqT g3,g4,(by rw[p6,o4,E1];show _+1+_<=_;omega),fun p5 H5 s5 g5=>?_⟩
   have sA:=(s13.trans s4).trans s5
   exact fin H5 p5 _ ((ks.take m++[[v,u]])++ks.drop (m+1)) n sA g5 (((ak8 m (sA.tups w3)).append (.cons ⟨a1,rfl,SqT.of (((v2.trans s3).trans (s4.trans s5)) _ _ c8)⟩ .nil)).append (ak9 (m+1) (sA.tups w3))) (((aT m).app (APr.one v u)).app (aD (m+1))) (by rw[p6,p6,o4,E1];show _+1+_<64;omega)
  rintro σ Hc ⟨rfl,sc⟩
  have w2:=sc.seqT w2
  have w3:=sc.tups w3
  refine⟨_,rfl,rfl,_,rfl,am7 (fun _=>?_) (fun _=>?_)⟩
  ·refine⟨_,rfl,_,rfl,_,rfl,_,_,rfl,rfl,_,rfl,t,_,rfl,w2,fun p1 H1 s1 g1=>?_⟩
   refine⟨_,rfl,_,rfl,_,rfl,t,_,rfl,s1.seqT w2,fun p2 H2 s2 g2=>?_⟩
   rw[e3]at g1
   rw[e4]at g2
   refine⟨p1,p2,_,_,rfl,rfl,s2.seqT g1,g2,by rw[o4,E1];omega,fun p3 H3 s3 g3=>?_⟩
   have sA:=(s1.trans s2).trans s3
   exact fin H3 p3 _ (ks.take (m+1)++ks.drop m) n (sc.trans sA) g3 ((ak8 (m+1) (sA.tups w3)).append (ak9 m (sA.tups w3))) ((aT (m+1)).app (aD m)) (by rw[p6,o4,E1];omega)
  refine⟨_,rfl,rfl,_,rfl,am7 (fun _=>?_) (fun _=>?_)⟩
  ·obtain⟨v,hv⟩:=bD8 1 (-1) (c / 8)
   refine⟨_,rfl,_,rfl,(by show 2<=i9;decide),fun l1 f1=>?_⟩
   have s1:=d9 (o:=.lst [.int 1,.int (-1)]) f1
   refine⟨_,rfl,_,_,rfl,rfl,⟨by decide,by decide⟩,_,_,rfl,rfl,(by show (0:Int)<2;decide),l1,_,_,_,rfl,rfl,SqL.of c8,hv,_,_,rfl,rfl,_,rfl,?_⟩
   exact fin _ t _ ks ((n:Int)+v) (sc.trans s1) (s1.seqT w2) (s1.tups w3) hp0 (by omega)
  refine⟨_,rfl,rfl,_,rfl,am7 (fun _=>?_) (fun _=>?_)⟩
  ·refine⟨_,rfl,_,rfl,n,rfl,by omega,fun l1 z1 H1 s1 f1 g1 u1=>?_⟩
   have hz1:=u1.len
   have hpl:=bs7 n (by omega)
   refine⟨l1,rfl,⟨_,SqL.of g1⟩,fun D hD=>ao9 (S:=fun H'=>SqL K H' l1 z1) bx1 bx2 bO1 (fun i xs σ' H'=>(∃ v u,σ'=[v,u,some (.int c)])/\u9 H1 H'/\H' D=some (.lst xs)/\∃ ks6,C1 K H' xs ks6/\(∀ k∈ks6,k∈U4 n)/\ks6.length<=i)
    ⟨⟨none,none,rfl⟩,d9 hD,c8,[],.nil,fun k hk=>absurd hk J3,d4 _⟩ (by omega) (fun i xs σ' H' hi ⟨_,s6,h6,ks6,t6,_,l6⟩=>⟨SqL.of (s6 _ _ g1),h6,by rw[t6.len];exact l6⟩) ?_ ?_⟩
   ·rintro i xs x t9 σ' H' N kN hx ⟨⟨v,u,rfl⟩,s6,h6,ks6,t6,m6,l6⟩ ht9
    obtain⟨pa,pk,rfl,hk',hq⟩:=u1.get hx
    have s9:=d9 (o:=.tup [.int (i:Int),.ref pa]) ht9
    refine⟨t9,_,rfl,SqT.of c8,rfl,_,_,rfl,_,_,rfl,rfl,?_⟩
    refine⟨_,rfl,_,rfl,c,i,3,rfl,by decide,fun r _ _=>⟨rfl,_,rfl,am7 (fun _=>?_) (fun _=>?_)⟩⟩
    ·refine⟨_,rfl,s9 _ _ h6,kN _ _ _ ⟨⟨_,_,rfl⟩,(s6.trans s9).upd hD,c8,ks6++[pk],?_,fun k hk=>?_,by rw[p6];show _+1<=_;omega⟩⟩
     ·exact C1.updL (s9 _ _ h6) (C1.append (s9.tups t6) (.cons ⟨pa,rfl,(s6.trans s9).seqT hq⟩ .nil))
     ·rcases F3.mp hk with h | h
      ·exact m6 k h
      ·rw[B7.mp h]
       exact i7 hk'
    ·exact kN _ _ _ ⟨⟨_,_,rfl⟩,s6.trans s9,s9 _ _ h6,ks6,s9.tups t6,m6,Nat.le_succ_of_le l6⟩
   ·rintro xs σ' H3 ⟨_,s6,h6,ks6,t6,m6,l6⟩
    refine⟨D,_,rfl,.inl ⟨SqL.of h6,fun t5 f5=>?_⟩⟩
    have s5:=d9 (o:=.tup xs) f5
    exact fin _ t5 xs ks6 n (((sc.trans s1).trans s6).trans s5) (SqT.of c8) (s5.tups t6) (fun k hk=>let ⟨i,j,_,_,e⟩:=au9 (m6 k hk);⟨i,j,e⟩) (by omega)
  exact⟨_,rfl,q p n ks Hc sc (hw0.same sc)⟩
end
end Web
namespace Web
open PySem L2
theorem Wx.updL {K:W.Frag}{H:Hp}{p l:Addr}{z:Int}{ks:List (List Int)}{xs us:List V}(h:Wx K H p z ks)(hl:H l=some (.lst xs)):Wx K (upd H l (.lst us)) p z ks:=by
 obtain⟨⟨t,zs,h1,h2,h3⟩,a,b⟩:=h
 exact⟨⟨t,zs,SqT.updL h1 hl,SqT.updL h2 hl,C1.updL hl h3⟩,a,b⟩
theorem bJ6 {K:W.Frag}{A:u4}{H:Hp}{Q:VK}{l u:Addr}{ns:List Int}(hun:A.units+64<ap5)(gl:SqL K H l (ns.map V.int))(gu:SqL K H u (ns.map V.int))(q:Q (.bl false) H):bF4 K A true (.ref l) (.ref u) H Q:=by
 refine⟨.list (ns.map .int),.list (ns.map .int),Dt.mkLi gl,Dt.mkLi gu,aO6 _,aO6 _,?_,?_⟩
 ·refine bd6 hun (A4 (aZ1 _ _) ?_)
  have:=bz3 ns
  omega
 ·show Q (.bl (!PyData.eqv _ _)) _
  rw[bz0,decide_eq_true rfl]
  exact q
theorem bK6 {b c:Bool}{p:Prop}(h:b=true↔p)(g:c=true↔p):b=c:=by
 cases b<;>cases c
 ·rfl
 ·exact absurd (h.mpr (g.mp rfl)) (by decide)
 ·exact absurd (g.mpr (h.mp rfl)) (by decide)
 ·rfl
theorem bT6 {X:Cx}:OpR X (G2 .Is) (fun x y H Q=>∃ i j,x=.bl i/\y=.bl j/\Q (.bl (decide (i=j))) H):=by
 intro pins s σ H x y v u Q I rx ry h
 obtain⟨i,j,rfl,rfl,q⟩:=h
 cases rx
 cases ry
 exact PyProof.Rows.is_bool (F8 I q (by cases i<;>cases j<;>rfl))
theorem ci5:(0:Int)<10 ^ (X1 40):=Int.pow_pos (by decide)
def Tds (K:W.Frag)(H:Hp)(us:List V):Prop:=∀ u∈us,∃ (t p:Addr) (n:Int) (ks:List (List Int)) (z r:Int),u=.ref t/\SqT K H t [.int z,.ref p,.int r]/\Wx K H p n ks
theorem Tds.same {K:W.Frag}{H H':Hp}{us:List V}(h:Tds K H us)(s:u9 H H'):Tds K H' us:=fun u hu=>let ⟨t,p,n,ks,z,r,e,a,b⟩:=h u hu;⟨t,p,n,ks,z,r,e,s.seqT a,b.same s⟩
theorem Tds.app {K:W.Frag}{H:Hp}{l t p:Addr}{n z r:Int}{ks:List (List Int)}{us:List V}(h:Tds K H us)(hl:H l=some (.lst us))(ht:SqT K H t [.int z,.ref p,.int r])(hw:Wx K H p n ks):Tds K (upd H l (.lst (us++[.ref t]))) (us++[.ref t]):=by
 intro u hu
 rcases F3.mp hu with e | e
 ·obtain⟨t,p,n,ks,z,r,e,a,b⟩:=h u e
  exact⟨t,p,n,ks,z,r,e,SqT.updL a hl,b.updL hl⟩
 ·exact⟨t,p,n,ks,z,r,B7.mp e,SqT.updL ht hl,hw.updL hl⟩
structure TdI (K:W.Frag) (HB H:Hp) (lt:Addr) (us:List V) (m:Nat):Prop where
 s:u9 HB H
 g:H lt=some (.lst us)
 t:Tds K H us
 l:us.length<=m
theorem TdI.same {K:W.Frag}{HB H H':Hp}{lt:Addr}{us:List V}{m:Nat}(h:TdI K HB H lt us m)(s:u9 H H'):TdI K HB H' lt us m:=⟨h.s.trans s,s _ _ h.g,h.t.same s,h.l⟩
theorem TdI.app {K:W.Frag}{HB H:Hp}{lt t p:Addr}{n z r:Int}{ks:List (List Int)}{us:List V}{m:Nat}(h:TdI K HB H lt us m)(f:HB lt=none)(ht:SqT K H t [.int z,.ref p,.int r])(hw:Wx K H p n ks):TdI K HB (upd H lt (.lst (us++[.ref t]))) lt (us++[.ref t]) (m+1):=
 ⟨h.s.upd f,c8,h.t.app h.g ht hw,by rw[p6];exact Nat.succ_le_succ h.l⟩
seal L2.PE L2.PA L2.PS L2.PSs L2.PT
section
variable {P:j8} {w:x6} {K:W.Frag} {mg:Str->Option c6} {base:Heap}
def aS5 (K:W.Frag)(PT PU:Addr):Sp:=fun vs H Q _=>∃ (a:Addr) (ns:List Int),vs=[.ref a]/\SqL K H a (ns.map V.int)/\ns.length<=63/\Tb PT H/\Tb2 PU H/\PT≠PU/\∀ H',Q (.bl true) H'
theorem X8:B6 ["script","tally","handed","much","web","r","tolds","other","more","k","cell","spoilt","lack","told","found"] ["script"] (j5 aH6):=⟨rfl,rfl,rfl,by decide +kernel,rfl,by decide +kernel,by decide +kernel⟩
set_option maxHeartbeats 4000000 in
theorem bH8 {f fY fO fS fF fD CB CW PT PU:Addr}{fd fdY fdO fdS fdF fdD:u0}(F:Fun K "law" "law" aH6 f fd)(B:Bn mg)
  (FY:Fun K "_law_tally" "_law_tally" aT0 fY fdY)(bY:Binds K fdY ["script","most"] [])(mY:mg "_law_tally"=some (.ref fY))(GY:A8 P w K mg base CX0 9 fY fdY ["script","most"] (bM3 K))
  (FO:Fun K "least_off" "least_off" aw5 fO fdO)(bO:Binds K fdO ["tally"] [])(mO:mg "least_off"=some (.ref fO))(GO:A8 P w K mg base (CXE P w) 9 fO fdO ["tally"] (br0 K CB CW PT PU))
  (FS:Fun K "_law_spoilt" "_law_spoilt" ab0 fS fdS)(bS:Binds K fdS ["web","cell"] [])(mS:mg "_law_spoilt"=some (.ref fS))(GS:A8 P w K mg base CX0 9 fS fdS ["web","cell"] (bM5 K))
  (FF:Fun K "off_shows" "off_shows" aw3 fF fdF)(bF:Binds K fdF ["tally","told"] [])(mF:mg "off_shows"=some (.ref fF))(GF:A8 P w K mg base (CXE P w) 9 fF fdF ["tally","told"] (bq5 K CB CW))
  (FD:Fun K "_law_due" "_law_due" aT3 fD fdD)(bD:Binds K fdD ["tally","told"] [])(mD:mg "_law_due"=some (.ref fD))(GD:A8 P w K mg base CX0 9 fD fdD ["tally","told"] (bM9 K)):A8 P w K mg base CX0 10 f fd ["script"] (aS5 K PT PU):=by
 refine F.ok X8 (fun vs H Q E h=>?_) (fun cdv A outer s H vs Q E hr h=>?_)
 ·obtain⟨a,ns,rfl,_⟩:=h
  rfl
 ·obtain⟨sc,ms,rfl,hS,hlen,tb1,tb2,hne,q⟩:=h
  have hsl:=L3
  have hun:=hr.units
  have nd1:(["number"]:List Str).Nodup:=by decide +kernel
  refine⟨_,i4 (aq5 (i:=1) X8.nd rfl rfl (by rfl) (N':=["number"]) (lk:=[none]) rfl (R4 (q8 GY hr (by rfl) mY FY.kp bY .nil G4 (b8 (pv 0) (b8 d8 c9)))) (by rfl) rfl (by decide +kernel) (by exact trivial) (by rfl) (by exact LkL.ok trivial) (fun _ _ _=>y7 (i:=0) nd1 rfl (Or.inl rfl)) (fun _ _ _=>Q3) (fun _ _ _=>m4 (W0 rfl) (by rfl) B.max (by rfl) (b8 d8 (b8 (pv 0) c9))))
   (i4 (B1 (i:=2) X8.nd rfl (Or.inl rfl) (L9 aP9 (by rfl) B.list (by rfl) (b8 (pv 1) c9)))
   (i4 (ag3 (q8 GO hr (by rfl) mO FO.kp bO .nil (aq8 (P:=P) (w:=w)) (b8 (pv 2) c9)) (ao4 rfl (E6 (y7 (i:=3) X8.nd rfl (Or.inl rfl)) (E6 (y7 (i:=4) X8.nd rfl (Or.inl rfl)) (E6 (y7 (i:=5) X8.nd rfl (Or.inl rfl)) U2)))))
   (i4 (B1 (i:=6) X8.nd rfl (Or.inl rfl) (X5 c9))
   (i4 (V7 PassesOwn.never rfl (R4 (p8 bu5 (L9 (an6 rfl) (by rfl) B.list (by rfl) (b8 (bf5 (by rfl) B.range (b8 (ab3 T8 d8) (b8 (p8 G3 (m4 u7 (by rfl) B.len PySem.boot_len (b8 (pv 1) c9)) d8) c9))) c9)) (X5 (b8 (p8 aO2 d8 d8) c9)))) (y7 (i:=7) X8.nd rfl (Or.inl rfl)) (k7 (U0 (aJ2 PySem.F.plainAttrs_list PySem.F.slot_list_append PySem.F.type_list_append S4 (pv 6) (b8 (G0 (b8 (pv 3) (b8 (pv 4) (b8 (pv 7) c9)))) c9)))))
   (i4 (V7 PassesOwn.never rfl (R4 (X5 (b8 (ab3 T8 d8) (b8 (ab3 T8 d8) (b8 d8 (b8 d8 (b8 (p8 R9 (ab3 T8 d8) (p8 bg1 d8 (pv 3))) c9))))))) (y7 (i:=8) X8.nd rfl (Or.inl rfl)) (k7 (U0 (aJ2 PySem.F.plainAttrs_list PySem.F.slot_list_append PySem.F.type_list_append S4 (pv 6) (b8 (G0 (b8 (p8 G3 (pv 3) (pv 8)) (b8 (pv 4) (b8 (pv 5) c9)))) c9)))))
   (i4 (V7 PassesOwn.never rfl (aq6 (by rfl) B.enum (b8 (p8 bu5 (L9 (an6 rfl) (by rfl) B.list (by rfl) (b8 (bf5 (by rfl) B.range (b8 d8 (b8 d8 c9))) c9)) (O4 al4 (pv 0) (Q4 d8) (Q4 d8))) c9)) (ao4 rfl (E6 (y7 (i:=9) X8.nd rfl (Or.inl rfl)) (E6 (y7 (i:=10) X8.nd rfl (Or.inl rfl)) U2))) (i4 (B1 (i:=11) X8.nd rfl (Or.inl rfl) (q8 GS hr (by rfl) mS FS.kp bS .nil G4 (b8 (pv 4) (b8 (p8 L7 (pv 10) (p8 aO2 d8 d8)) c9))))
   (i4 (B1 (i:=12) X8.nd rfl (Or.inl rfl) (p8 R9 (m4 (R0 rfl) (by rfl) B.sum (by rfl) (b8 (pv 1) c9)) (p8 bg1 d8 (m4 u7 (by rfl) B.len PySem.boot_len (b8 (C8 C5 (pv 11) d8 (fun _ _=>rfl)) c9)))))
   (i4 (U0 (aJ2 PySem.F.plainAttrs_list PySem.F.slot_list_append PySem.F.type_list_append S4 (pv 6) (b8 (G0 (b8 (pv 3) (b8 (pv 11) (b8 (pv 5) c9)))) c9)))
   (k7 (V7 PassesOwn.never rfl (Q5 rfl B.range (b8 (p8 G3 (m4 u7 (by rfl) B.len PySem.boot_len (b8 (pv 1) c9)) d8) c9)) (y7 (i:=7) X8.nd rfl (Or.inl rfl)) (k7 (U0 (aJ2 PySem.F.plainAttrs_list PySem.F.slot_list_append PySem.F.type_list_append S4 (pv 6) (b8 (G0 (b8 (pv 12) (b8 (pv 11) (b8 (pv 7) c9)))) c9))))))))))
   (i4 (V7 PassesOwn.never rfl (R4 (pv 6)) (y7 (i:=13) X8.nd rfl (Or.inl rfl)) (i4 (B1 (i:=14) X8.nd rfl (Or.inl rfl) (q8 GF hr (by rfl) mF FF.kp bF .nil (aq8 (P:=P) (w:=w)) (b8 (pv 2) (b8 (pv 13) c9))))
   (k7 (G7 (PW.pt (Z2 (Q9 (Z3 (m4 (aQ0 K rfl) (by rfl) B.isin (by rfl) (b8 (pv 14) (b8 (az2 (v:=.ty "bool") (by rfl) B.bool (by rfl) rfl) c9))))) (Z2 (A6 aC9 (pv 14) (q8 GD hr (by rfl) mD FD.kp bD .nil G4 (b8 (pv 1) (b8 (pv 13) c9))) (C2 _)) (ag1 (A6 bb0 (pv 2) (pv 1) (C2 _)))))) V6 C7))))
   (k7 (A9 (ag4 bT6 (q8 GF hr (by rfl) mF FF.kp bF .nil (aq8 (P:=P) (w:=w)) (b8 (L9 O8 (by rfl) B.tuple (by rfl) (b8 (pv 1) c9)) (b8 (G0 (b8 (pv 3) (b8 (pv 4) (b8 (pv 5) c9)))) c9))) aC4 (by rfl))))))))))),?_⟩
  refine⟨_,rfl,sc,ms,10,rfl,hS,by decide,by decide,fun ly ys H1 y1 y2 s1 fly gly=>?_⟩
  refine⟨ly,rfl,⟨_,SqL.of gly⟩,fun D hD=>S5 (K:=K) (a:=ly) (D:=D) (ys:=ys.map V.int) (fun i xs σ' H'=>(∃ v,σ'=[v])/\u9 H1 H'/\H' D=some (.lst xs)/\xs=((ys.take i).map fun z=>if z > 0 then z else 0).map V.int)
   ⟨⟨none,rfl⟩,d9 hD,c8,rfl⟩ (by rw[b9];omega) (fun i xs σ' H' hi ⟨_,s6,h6,e6⟩=>⟨SqL.of (s6 _ _ gly),h6,by rw[e6,b9,b9,o4];omega⟩) ?_ ?_⟩
  ·rintro i xs x σ' H' N kN hx ⟨⟨v,rfl⟩,s6,h6,rfl⟩
   obtain⟨z,hz,rfl⟩:=Q6 hx
   refine B2 (N5 ?_)
   refine⟨_,rfl,_,_,rfl,h6,kN _ _ _ ⟨⟨_,rfl⟩,s6.upd hD,c8,?_⟩⟩
   rw[C3,hz,j9,j9]
   rfl
  rintro xs σ' H2 ⟨⟨v,rfl⟩,s2,gD,rfl⟩
  rw[k8 (by rw[b9];exact d4 _)]at gD
  have h0:AllP (ys.map fun z=>if z > 0 then z else 0):=fun j x e=>by
   obtain⟨z,_,rfl⟩:=u6.mp (i7 e)
   split<;>omega
  have hl0:(ys.map fun z=>if z > 0 then z else 0).length=ys.length:=b9 ..
  generalize (ys.map fun z=>if z > 0 then z else 0)=ns at gD h0 hl0
  have s12:=s1.trans s2
  have tb2':Tbs PT PU H:=⟨tb1,tb2,hne⟩
  have tbs2:=tb2'.same s12
  have hS2:=s12.seq hS
  have ht:S9 ns:=⟨by omega,by omega⟩
  refine⟨_,rfl,D,_,rfl,.inl (SqL.of gD),fun lh flh=>?_⟩
  have s3:=d9 (o:=.lst (ns.map V.int)) flh
  have gh:(upd H2 lh (.lst (ns.map V.int))) lh=some (.lst (ns.map V.int)):=c8
  have gD3:=s3 _ _ gD
  have tbs3:=tbs2.same s3
  have hS3:=s3.seq hS2
  generalize upd H2 lh (.lst (ns.map V.int))=H3 at gh gD3 tbs3 hS3 ⊢
  refine B2 ?_
  refine⟨_,rfl,lh,ns,rfl,.inl (SqL.of gh),by omega,(by unfold LOK;omega),fun _ _=>⟨tbs3,fun p b cs ks mn j HB gw tbsB fp T=>?_⟩,fun h=>absurd ht h,fun _ h=>absurd h0 h⟩
  obtain⟨hG,hcl,hle,hsum⟩:=T.cs_.facts h0 T.lst
  have ghB:=aP1 gw tbs3 gh
  have gDB:=aP1 gw tbs3 gD3
  have hSB:=bx9 gw tbs3 hS3
  obtain⟨⟨tz,zz,wa,wb,wc⟩,_,hsrt,htal,hups,hnd⟩:=T.web
  have hkl:ks.length<=45:=by
   have h1:ks.length<=(U4 ns.length).length:=aD2 hnd fun k hk=>by
    obtain⟨i,j,hi,hj,e⟩:=hups k hk
    rw[e]
    rw[hcl]at hj
    exact bf6 hi hj
   have:=bs7 ns.length (by omega)
   omega
  rw[hcl]at wa hups htal
  have hW:Wx K HB b (ns.length:Int) ks:=⟨⟨tz,zz,SqT.of wa,SqT.of wb,wc⟩,fun k hk=>let ⟨i,j,_,_,e⟩:=hups k hk;⟨i,j,e⟩,by omega⟩
  have TL:Tl (ns.length:Int) ns.length ks:=⟨rfl,ht.1,ht.2,hups,hnd,hsrt⟩
  have good:bY0 ns ns.length ks (Z6 ns.sum (-mn)) (j:Int):=by
   refine⟨by omega,by have:=T.fst.le;omega,⟨ns.length,TL,?_⟩,?_⟩
   ·rw[htal]
    exact⟨hcl,fun i hi=>(hle i hi).2,by omega⟩
   ·rw[q0,T.fst.eq]
  have gp:=T.tup
  generalize Z6 ns.sum (-mn)=z at gp good hsum
  refine⟨p,_,rfl,SqT.of gp,rfl,_,_,rfl,_,_,rfl,_,_,rfl,rfl,?_⟩
  refine⟨(by show 0<=i9;omega),fun lt flt=>?_⟩
  have I0:TdI K HB (upd HB lt (.lst [])) lt [] 0:=⟨d9 flt,c8,fun u hu=>absurd hu J3,d4 _⟩
  generalize upd HB lt (.lst [])=H4 at I0 ⊢
  refine B2 ?_
  refine⟨_,rfl,_,rfl,D,_,rfl,.inl (SqL.of (I0.s _ _ gDB)),_,_,rfl,rfl,-1,(ns.length:Int)+3,by rw[b9],fun r fr=>?_⟩
  have sr:=d9 (o:=.rng (-1) ((ns.length:Int)+3)) fr
  refine⟨r,-1,(ns.length:Int)+3,ns.length+4,rfl,c8,by omega,by omega,by decide,by decide,fun l5 f5=>?_⟩
  have s5:=d9 (o:=.lst ((X4 (-1) (ns.length+4)).map V.int)) f5
  refine⟨_,_,rfl,rfl,⟨by decide,by decide,by decide⟩,(by show 1<=i9;decide),fun l6 f6=>?_⟩
  have s6:=d9 (o:=.lst [.int (10 ^ (X1 50))]) f6
  have hrl:(X4 (-1) (ns.length+4)).length=ns.length+4:=by unfold X4;rw[b9,W9]
  refine⟨l5,l6,_,_,rfl,rfl,s6 _ _ c8,c8,(by rw[b9,hrl];show _+1<=_;omega),fun l7 f7=>?_⟩
  have s7:=d9 (o:=.lst ((X4 (-1) (ns.length+4)).map V.int++[.int (10 ^ (X1 50))])) f7
  have sA:=((sr.trans s5).trans s6).trans s7
  have I1:=I0.same sA
  have n7:l7≠lt:=(o5 (((sr.trans s5).trans s6) _ _ I0.g) f7).symm
  have g7:upd (upd (upd (upd H4 r (.rng (-1) ((ns.length:Int)+3))) l5 (.lst ((X4 (-1) (ns.length+4)).map V.int))) l6 (.lst [.int (10 ^ (X1 50))])) l7 (.lst ((X4 (-1) (ns.length+4)).map V.int++[.int (10 ^ (X1 50))])) l7=some (.lst ((X4 (-1) (ns.length+4)++[10 ^ (X1 50)]).map V.int)):=by rw[j9];exact c8
  generalize upd (upd (upd (upd H4 r (.rng (-1) ((ns.length:Int)+3))) l5 (.lst ((X4 (-1) (ns.length+4)).map V.int))) l6 (.lst [.int (10 ^ (X1 50))])) l7 (.lst ((X4 (-1) (ns.length+4)).map V.int++[.int (10 ^ (X1 50))]))=H5 at I1 g7 ⊢
  have hL7:(X4 (-1) (ns.length+4)++[10 ^ (X1 50)]:List Int).length<=15:=by rw[p6,hrl];show _+1<=_;omega
  generalize (X4 (-1) (ns.length+4)++[10 ^ (X1 50)]:List Int)=rs at g7 hL7
  refine⟨l7,rfl,⟨_,SqL.of g7⟩,aE5 (K:=K) (a:=l7) (xs:=rs.map V.int) (fun i σ Ha=>∃ (us:List V) (e7:Option V),σ=[some (.ref sc),some (.ref D),some (.ref lh),some (.int z),some (.ref b),some (.int (j:Int)),some (.ref lt),e7,none,none,none,none,none,none,none]/\TdI K HB Ha lt us i/\Ha l7=some (.lst (rs.map V.int))) ⟨[],none,rfl,I1,g7⟩ (fun i σ Ha _ ⟨_,_,_,_,g⟩=>SqL.of g) ?_ ?_⟩
  ·rintro i x σ Ha hx ⟨us,e7,rfl,I,ga⟩
   obtain⟨y,rfl⟩:=int_at hx
   have hi:i<rs.length:=by have:=(m8.mp hx).1;rw[b9]at this;exact this
   refine B2 ?_
   refine⟨_,rfl,.inl ⟨rfl,_,SqL.of I.g⟩,_,rfl,_,rfl,_,rfl,(by show 3<=i9;decide),fun t9 f9=>?_⟩
   have s9:=d9 (o:=.tup [.int z,.ref b,.int y]) f9
   have I9:=I.same s9
   refine⟨lt,us,_,rfl,rfl,I9.g,(by have:=I.l;omega),?_⟩
   exact⟨_,_,rfl,I9.app flt (SqT.of c8) (hW.same I9.s),by rw[v7 n7];exact s9 _ _ ga⟩
  rintro σ Ha ⟨us1,e7,rfl,I,_⟩
  rw[b9]at I
  refine⟨_,rfl,_,rfl,_,rfl,_,rfl,_,_,rfl,rfl,IntMulOk.of_left (by decide),_,_,rfl,rfl,(by show 5<=i9;decide),fun l8 f8=>?_⟩
  have s8:=d9 (o:=.lst [.int (-2),.int (-1),.int 1,.int 2,.int (-1 - 2*z)]) f8
  have I8:=I.same s8
  have n8:l8≠lt:=(o5 I.g f8).symm
  have g8:upd Ha l8 (.lst [.int (-2),.int (-1),.int 1,.int 2,.int (-1 - 2*z)]) l8=some (.lst (([-2,-1,1,2,-1 - 2*z]:List Int).map V.int)):=c8
  generalize upd Ha l8 (.lst [.int (-2),.int (-1),.int 1,.int 2,.int (-1 - 2*z)])=H6 at I8 g8 ⊢
  refine⟨l8,rfl,⟨_,SqL.of g8⟩,aE5 (K:=K) (a:=l8) (xs:=([-2,-1,1,2,-1 - 2*z]:List Int).map V.int) (fun i σ Ha=>∃ (us:List V) (e8:Option V),σ=[some (.ref sc),some (.ref D),some (.ref lh),some (.int z),some (.ref b),some (.int (j:Int)),some (.ref lt),e7,e8,none,none,none,none,none,none]/\TdI K HB Ha lt us (rs.length+i)/\Ha l8=some (.lst (([-2,-1,1,2,-1 - 2*z]:List Int).map V.int))) ⟨us1,none,rfl,I8,g8⟩ (fun i σ Ha _ ⟨_,_,_,_,g⟩=>SqL.of g) ?_ ?_⟩
  ·rintro i x σ Hb hx ⟨us,e8,rfl,Ib,gb⟩
   obtain⟨y,rfl⟩:=int_at hx
   have hi:i<5:=(m8.mp hx).1
   refine B2 ?_
   refine⟨_,rfl,.inl ⟨rfl,_,SqL.of Ib.g⟩,_,rfl,_,rfl,_,_,rfl,rfl,_,rfl,_,rfl,(by show 3<=i9;decide),fun t9 f9=>?_⟩
   have s9:=d9 (o:=.tup [.int (z+y),.ref b,.int (j:Int)]) f9
   have I9:=Ib.same s9
   refine⟨lt,us,_,rfl,rfl,I9.g,(by have:=Ib.l;omega),?_⟩
   exact⟨_,_,rfl,I9.app flt (SqT.of c8) (hW.same I9.s),by rw[v7 n8];exact s9 _ _ gb⟩
  rintro σ Hb ⟨us2,e8,rfl,Ib,_⟩
  have Ib:TdI K HB Hb lt us2 (rs.length+5):=Ib
  obtain⟨vs,hvs,hvl⟩:=bn5 ms (some 3) (some 15)
  have hv12:vs.length<=63:=by
   have:=ak0 (ms.map V.int) (some 3) (some 15)
   rw[hvs,b9,b9]at this
   omega
  refine⟨1,8,rfl,fun r fr=>?_⟩
  have sr:=d9 (o:=.rng 1 8) fr
  refine⟨r,1,8,7,rfl,c8,by decide,by decide,by decide,by decide,fun l5 f5=>?_⟩
  have s5:=d9 (o:=.lst ((X4 1 7).map V.int)) f5
  refine⟨_,rfl,_,rfl,_,rfl,sc,ms.map V.int,rfl,((Ib.s.trans sr).trans s5).seq hSB,fun l6 f6=>?_⟩
  rw[hvs]
  have s6:=d9 (o:=.lst (vs.map V.int)) f6
  refine⟨l5,l6,_,_,rfl,rfl,s6 _ _ c8,c8,(by rw[b9,b9];show 7+_<=_;omega),fun l9 f9=>?_⟩
  have s7:=d9 (o:=.lst ((X4 1 7).map V.int++vs.map V.int)) f9
  have Ic:=Ib.same (((sr.trans s5).trans s6).trans s7)
  have n9:l9≠lt:=(o5 (((sr.trans s5).trans s6) _ _ Ib.g) f9).symm
  have g9:upd (upd (upd (upd Hb r (.rng 1 8)) l5 (.lst ((X4 1 7).map V.int))) l6 (.lst (vs.map V.int))) l9 (.lst ((X4 1 7).map V.int++vs.map V.int)) l9=some (.lst ((X4 1 7++vs).map V.int)):=by rw[j9];exact c8
  generalize upd (upd (upd (upd Hb r (.rng 1 8)) l5 (.lst ((X4 1 7).map V.int))) l6 (.lst (vs.map V.int))) l9 (.lst ((X4 1 7).map V.int++vs.map V.int))=H7 at Ic g9 ⊢
  have hc9:(X4 1 7++vs).length<=70:=by rw[p6];show 7+_<=_;omega
  generalize X4 1 7++vs=ces at g9 hc9
  refine⟨l9,rfl,⟨_,SqL.of g9⟩,aX0 (K:=K) (a:=l9) (xs:=ces.map V.int) (fun i σ Ha=>∃ (us:List V) (e7 e9 e10 e11 e12:Option V),σ=[some (.ref sc),some (.ref D),some (.ref lh),some (.int z),some (.ref b),some (.int (j:Int)),some (.ref lt),e7,e8,e9,e10,e11,e12,none,none]/\TdI K HB Ha lt us (20+12*i)/\Ha l9=some (.lst (ces.map V.int))) ⟨us2,_,none,none,none,none,rfl,⟨Ic.s,Ic.g,Ic.t,by have:=Ic.l;omega⟩,g9⟩ (fun i σ Ha _ ⟨_,_,_,_,_,_,_,_,g⟩=>SqL.of g) ?_ ?_⟩
  ·rintro i x t8 σ Hd hx ⟨us,e7,e9,e10,e11,e12,rfl,Id,gd⟩ ht8
   obtain⟨y,rfl⟩:=int_at hx
   have hi:i<ces.length:=by have:=(m8.mp hx).1;rw[b9]at this;exact this
   have st8:=d9 (o:=.tup [.int (i:Int),.int y]) ht8
   refine⟨t8,_,rfl,SqT.of c8,rfl,_,_,rfl,_,_,rfl,rfl,?_⟩
   have Ie:=Id.same st8
   have ge:=st8 _ _ gd
   generalize upd Hd t8 (.tup [.int (i:Int),.int y])=He at Ie ge ⊢
   refine⟨_,rfl,_,rfl,_,_,rfl,rfl,⟨by decide,by decide,by decide⟩,_,_,rfl,rfl,ci5,b,ns.length,ks,_,rfl,hW.same Ie.s,ht.1,by omega,hkl,fun p' z' ks' Hf sf wf=>?_⟩
   refine B2 ?_
   have If:=Ie.same sf
   have gf:=sf _ _ ge
   obtain⟨⟨tt,zt,x1,x2,x3⟩,_,_⟩:=id wf
   have xa1:atI ([.int z',.ref tt]:List V) 1=some (.ref tt):=B3 (j:=1) rfl
   refine⟨_,rfl,D,ns,rfl,SqL.of (If.s _ _ gDB),_,rfl,p',_,_,_,rfl,rfl,x1,xa1,tt,_,rfl,.inr x2,_,_,rfl,rfl,IntMulOk.of_left (by decide),_,_,rfl,rfl,?_⟩
   refine Y6 fun lack _=>?_
   refine⟨_,rfl,.inl ⟨rfl,_,SqL.of If.g⟩,_,rfl,_,rfl,_,rfl,(by show 3<=i9;decide),fun t9 f9=>?_⟩
   have s9:=d9 (o:=.tup [.int z,.ref p',.int (j:Int)]) f9
   have I9:=If.same s9
   refine⟨lt,us,_,rfl,rfl,I9.g,(by have:=Id.l;omega),?_⟩
   have I10:=I9.app flt (SqT.of c8) (wf.same s9)
   have g10:upd (upd Hf t9 (.tup [.int z,.ref p',.int (j:Int)])) lt (.lst (us++[.ref t9])) l9=some (.lst (ces.map V.int)):=by rw[v7 n9];exact s9 _ _ gf
   have w10:=(wf.same s9).updL (us:=us++[.ref t9]) I9.g
   generalize upd (upd Hf t9 (.tup [.int z,.ref p',.int (j:Int)])) lt (.lst (us++[.ref t9]))=Hg at I10 g10 w10 ⊢
   refine⟨_,rfl,D,_,rfl,.inl (SqL.of (I10.s _ _ gDB)),_,_,rfl,rfl,(ns.length:Int)+1,by rw[b9],by omega,by omega,?_⟩
   rw[show ((ns.length:Int)+1).toNat=ns.length+1 by omega]
   refine Y7 (lo:=0) (n:=ns.length+1) (fun d σ Hh=>∃ (us:List V) (e7:Option V),σ=[some (.ref sc),some (.ref D),some (.ref lh),some (.int z),some (.ref b),some (.int (j:Int)),some (.ref lt),e7,e8,some (.int (i:Int)),some (.int y),some (.ref p'),some (.int lack),none,none]/\TdI K HB Hh lt us (20+12*i+1+d)/\Hh l9=some (.lst (ces.map V.int))/\Wx K Hh p' z' ks') ⟨_,_,rfl,I10,g10,w10⟩ ?_ ?_
   ·rintro d σ Hh hd ⟨us',e7,rfl,Ih,gh',wh⟩
    refine B2 ?_
    refine⟨_,rfl,.inl ⟨rfl,_,SqL.of Ih.g⟩,_,rfl,_,rfl,_,rfl,(by show 3<=i9;decide),fun t10 f10=>?_⟩
    have s10:=d9 (o:=.tup [.int lack,.ref p',.int ((0:Int)+(d:Int))]) f10
    have I11:=Ih.same s10
    refine⟨lt,us',_,rfl,rfl,I11.g,(by have:=Ih.l;omega),?_⟩
    exact⟨_,_,rfl,I11.app flt (SqT.of c8) (wh.same s10),by rw[v7 n9];exact s10 _ _ gh',(wh.same s10).updL I11.g⟩
   ·rintro σ Hh ⟨us',e7,rfl,Ih,gh',_⟩
    exact⟨us',_,_,_,_,_,rfl,⟨Ih.s,Ih.g,Ih.t,by have:=Ih.l;omega⟩,gh'⟩
  rintro σ Hd ⟨us,e7,e9,e10,e11,e12,rfl,Id,_⟩
  refine⟨_,rfl,lt,rfl,⟨_,SqL.of Id.g⟩,aE5 (K:=K) (a:=lt) (xs:=us) (fun i σ Ha=>∃ (e13 e14:Option V),σ=[some (.ref sc),some (.ref D),some (.ref lh),some (.int z),some (.ref b),some (.int (j:Int)),some (.ref lt),e7,e8,e9,e10,e11,e12,e13,e14]/\u9 Hd Ha) ⟨none,none,rfl,u9.refl Hd⟩ (fun i σ Ha _ ⟨_,_,_,s⟩=>SqL.of (s _ _ Id.g)) ?_ ?_⟩
  ·rintro i u σ Ha hu ⟨e13,e14,rfl,sa⟩
   obtain⟨t,p9,n9',ks9,z9,r9,rfl,ht9,hw9⟩:=Id.t u (i7 hu)
   have hha:=SqL.of (K:=K) ((Id.s.trans sa) _ _ ghB)
   have hda:=SqL.of (K:=K) ((Id.s.trans sa) _ _ gDB)
   refine B2 ?_
   refine⟨_,rfl,_,rfl,lh,t,p9,ns,n9',ks9,z9,r9,rfl,.inl hha,sa.seqT ht9,hw9.same sa,fun _ _ b1 H8 s8 hb1=>?_,fun h=>absurd ht h,fun _ h=>absurd h0 h⟩
   refine B2 ?_
   refine⟨_,rfl,_,_,_,true,rfl,.bl b1,rfl,_,rfl,K3 ?_⟩
   refine⟨_,rfl,_,rfl,_,rfl,D,t,p9,ns,n9',ks9,z9,r9,rfl,s8.seq hda,ht,(sa.trans s8).seqT ht9,hw9.same (sa.trans s8),fun b2 H9 s9 hb2=>?_⟩
   obtain rfl:=bK6 hb1 hb2
   refine⟨rfl,_,rfl,aD8 rfl ?_⟩
   have s89:=s8.trans s9
   refine⟨_,rfl,_,rfl,bJ6 hun (s89.seq hha) (s89.seq hda) ⟨_,rfl,K3 ?_⟩⟩
   exact⟨_,_,rfl,sa.trans s89⟩
  rintro σ Ha ⟨e13,e14,rfl,sa⟩
  have sB:=Id.s.trans sa
  refine⟨_,rfl,D,_,rfl,.inl ⟨SqL.of (sB _ _ gDB),fun tu ftu=>?_⟩⟩
  have su:=d9 (o:=.tup (ns.map V.int)) ftu
  refine⟨_,rfl,_,rfl,_,rfl,(by show 3<=i9;decide),fun tv ftv=>?_⟩
  have sv:=d9 (o:=.tup [.int z,.ref b,.int (j:Int)]) ftv
  refine⟨tu,tv,b,ns,ns.length,ks,z,j,rfl,.inr (SqT.of (sv _ _ c8)),SqT.of c8,hW.same (sB.trans (su.trans sv)),fun _ _ b1 H8 s8 hb1=>?_,fun h=>absurd ht h,fun _ h=>absurd h0 h⟩
  rw[hb1.mpr good]
  exact⟨true,true,rfl,rfl,q _⟩
theorem bU7 {f fI fU fV fH fι fT fO fG fA fρ fM fβ fω fW fF fL fY fX fD fE fS fN fQ fψ fJ fν fC fK fα fP fR fδ fφ fτ CB CN CW CX c PT d PU:Addr}{fd fdI fdU fdV fdH fdι fdT fdO fdG fdA fdρ fdM fdβ fdω fdW fdF fdL fdY fdX fdD fdE fdS fdN fdQ fdψ fdJ fdν fdC fdK fdα fdP fdR fdδ fdφ fdτ:u0}{tk:Tok}(F0:Fun K "law" "law" aH6 f fd)(Bx:Bn mg)(mo:mg "MOST_PLACES"=some (.int 24 tk))
  (FI:Fun K "is_place" "is_place" au2 fI fdI)(bI:Binds K fdI ["places","number"] [])(mI:mg "is_place"=some (.ref fI))
  (FU:Fun K "turned_up" "turned_up" sUp fU fdU)(bU:Binds K fdU ["places","tie"] [])(mU:mg "turned_up"=some (.ref fU))
  (FV:Fun K "made" "made" aj5 fV fdV)(bV:Binds K fdV ["places","ties"] [])(mV:mg "made"=some (.ref fV))
  (FH:Fun K "tally_of" "tally_of" aj3 fH fdH)(bH:Binds K fdH ["web"] [])(mH:mg "tally_of"=some (.ref fH))
  (Fι:Fun K "is_told" "is_told" ab1 fι fdι)(bι:Binds K fdι ["web"] [])(mι:mg "is_told"=some (.ref fι))
  (FT:Fun K "check_tally" "check_tally" am5 fT fdT)(bT:Binds K fdT ["tally"] [])(mT:mg "check_tally"=some (.ref fT))
  (FO:Fun K "order_of" "order_of" aB7 fO fdO)(bO:Binds K fdO ["tally"] [])(mO:mg "order_of"=some (.ref fO))
  (FG:Fun K "falling" "falling" ah5 fG fdG)(bG:Binds K fdG ["tally"] [])(mG:mg "falling"=some (.ref fG))
  (FA:Fun K "room_among" "room_among" X3 fA fdA)(bA:Binds K fdA ["numbers","most","r"] [])(mA:mg "room_among"=some (.ref fA))
  (Fρ:Fun K "room_with" "room_with" aj4 fρ fdρ)(bρ:Binds K fdρ ["tally","most","r"] [])(mρ:mg "room_with"=some (.ref fρ))
  (FM:Fun K "room" "room" aq1 fM fdM)(bM:Binds K fdM ["tally","r"] [])(mM:mg "room"=some (.ref fM))
  (Fβ:Fun K "places_below" "places_below" X2 fβ fdβ)(bβ:Binds K fdβ ["numbers"] [])(mβ:mg "places_below"=some (.ref fβ))
  (Fω:Fun K "wall_with" "wall_with" af8 fω fdω)(bω:Binds K fdω ["tally","most"] [])(mω:mg "wall_with"=some (.ref fω))
  (FW:Fun K "wall_of" "wall_of" aw2 fW fdW)(bW:Binds K fdW ["tally"] [])(mW:mg "wall_of"=some (.ref fW))
  (FF:Fun K "first_of_order" "first_of_order" ag0 fF fdF)(bF:Binds K fdF ["tally","many","passed_over"] [])(mF:mg "first_of_order"=some (.ref fF))
  (FL:Fun K "left_of_others" "left_of_others" aq3 fL fdL)(bL:Binds K fdL ["tally","place","ends"] [])(mL:mg "left_of_others"=some (.ref fL))
  (FY:Fun K "laid_around" "laid_around" aw4 fY fdY)(bY:Binds K fdY ["tally","place","ends"] [])(mY:mg "laid_around"=some (.ref fY))
  (FX:Fun K "answered" "answered" aT4 fX fdX)(bX:Binds K fdX ["tally"] [])(mX:mg "answered"=some (.ref fX))
  (FD:Fun K "least_where" "least_where" aj2 fD fdD)(bD:Binds K fdD ["low","high","holds"] [])(mD:mg "least_where"=some (.ref fD))
  (FE:Fun K "above" "above" aT5 fE fdE)(bE:Binds K fdE ["numbers","level","most"] [])(mE:mg "above"=some (.ref fE))
  (FS:Fun K "shares" "shares" ac7 fS fdS)(bS:Binds K fdS ["numbers","much","most"] [])(mS:mg "shares"=some (.ref fS))
  (FN:Fun K "check_none_below" "check_none_below" aN7 fN fdN)(bN:Binds K fdN ["tally"] [])(mN:mg "check_none_below"=some (.ref fN))
  (FQ:Fun K "off_by_want" "off_by_want" aq2 fQ fdQ)(bQ:Binds K fdQ ["tally","want"] [])(mQ:mg "off_by_want"=some (.ref fQ))
  (Fψ:Fun K "lacks" "lacks" aj6 fψ fdψ)(bψ:Binds K fdψ ["tally","web","much"] [])(mψ:mg "lacks"=some (.ref fψ))
  (FJ:Fun K "least_off" "least_off" aw5 fJ fdJ)(bJ:Binds K fdJ ["tally"] [])(mJ:mg "least_off"=some (.ref fJ))
  (Fν:Fun K "off_shows" "off_shows" aw3 fν fdν)(bν:Binds K fdν ["tally","told"] [])(mν:mg "off_shows"=some (.ref fν))
  (FC:Fun K "_law_cell_at" "_law_cell_at" aw7 fC fdC)(bC:Binds K fdC ["script","k"] [])(mC:mg "_law_cell_at"=some (.ref fC))
  (FK:Fun K "_law_mixed" "_law_mixed" aN6 fK fdK)(bK:Binds K fdK ["cell","k","bound"] [])(mK:mg "_law_mixed"=some (.ref fK))
  (Fα:Fun K "_law_tally" "_law_tally" aT0 fα fdα)(bα:Binds K fdα ["script","most"] [])(mα:mg "_law_tally"=some (.ref fα))
  (FP:Fun K "_law_pairs" "_law_pairs" af9 fP fdP)(bP:Binds K fdP ["places"] [])(mP:mg "_law_pairs"=some (.ref fP))
  (FR:Fun K "_law_room_at" "_law_room_at" aT1 fR fdR)(bR:Binds K fdR ["tally","r"] [])(mR:mg "_law_room_at"=some (.ref fR))
  (Fδ:Fun K "_law_counts" "_law_counts" aw6 fδ fdδ)(bδ:Binds K fdδ ["found","places"] [])(mδ:mg "_law_counts"=some (.ref fδ))
  (Fφ:Fun K "_law_due" "_law_due" aT3 fφ fdφ)(bφ:Binds K fdφ ["tally","told"] [])(mφ:mg "_law_due"=some (.ref fφ))
  (Fτ:Fun K "_law_spoilt" "_law_spoilt" ab0 fτ fdτ)(bτ:Binds K fdτ ["web","cell"] [])(mτ:mg "_law_spoilt"=some (.ref fτ))
  (xB:mg "BadTally"=some (.ref CB))(yB:ae7 K CB)(xN:mg "BadNumber"=some (.ref CN))(yN:ae7 K CN)(xW:mg "NoWeb"=some (.ref CW))(yW:ae7 K CW)(xX:mg "BadWeb"=some (.ref CX))(yX:ae7 K CX)(zX:PySem.W.exmOne K (.ref CX) (.ref CX)=some true)(hc:fdO.code=.ref c)(LB:as4 base mg c PT)(hd:fdS.code=.ref d)(LD:as4 base mg d PU):A8 P w K mg base CX0 10 f fd ["script"] (aS5 K PT PU):=by
 have GT:A8 P w K mg base (CXE P w) 1 fT fdT ["tally"] (aI8 K CB):=aO3 FT Bx mo xB yB
 have GN:=bU9 (P:=P) (w:=w) (base:=base) FN FT bT mT GT Fβ bβ mβ (aD1 Fβ Bx) xW yW
 have GM:A8 P w K mg base (CXE P w) 3 fM fdM ["tally","r"] (aM8 K CB CN):=bH3 FM Bx FT bT mT FG bG mG FA bA mA Fρ bρ mρ mo xB yB xN yN
 have GS:A8 P w K mg base (CXE P w) 4 fS fdS ["numbers","much","most"] (bq4 K PU):=bU3 FS hd LD Bx FE bE mE FD bD mD
 have GX:A8 P w K mg base (CXE P w) 5 fX fdX ["tally"] (br5 K CB PT):=bV0 FX Bx FI bI mI FU bU mU FV bV mV FO bO mO hc LB FT bT mT FF bF mF FL bL mL FY bY mY FW bW mW FG bG mG FA bA mA Fβ bβ mβ Fω bω mω mo xB yB
 have GV:A8 P w K mg base (CXE P w) 3 fV fdV ["places","ties"] (aN0 K CX):=bv1 FV Bx FI bI mI FU bU mU mo xX yX
 have Gι:A8 P w K mg base CX0 4 fι fdι ["web"] (aM7 K):=bu8 Fι FV bV mV GV xX zX
 have GQ:=bH4 (P:=P) (w:=w) (base:=base) FQ Bx
 have Gψ:=bU6 (P:=P) (w:=w) (base:=base) Fψ Bx Fι bι mι (Gι.mono (by decide)) FH bH mH ((bU1 FH).mono (by decide)) Fβ bβ mβ ((aD1 Fβ Bx).mono (by decide))
 have Gν:=bH5 (P:=P) (w:=w) (base:=base) Fν Bx FN bN mN (GN.mono (by decide)) Fψ bψ mψ Gψ FQ bQ mQ (GQ.mono (by decide)) FM bM mM (GM.mono (by decide))
 have GJ:=bI0 (P:=P) (w:=w) (base:=base) FJ Bx FN bN mN (GN.mono (by decide)) FM bM mM (GM.mono (by decide)) FQ bQ mQ (GQ.mono (by decide)) FS bS mS (GS.mono (by decide)) FX bX mX GX
 have Gφ:=bU8 (P:=P) (w:=w) (base:=base) Fφ Bx Fδ bδ mδ FR bR mR
 have Gτ:=bU2 (P:=P) (w:=w) (base:=base) Fτ Bx FP bP mP (aU6 FP Bx) FK bK mK (bv0 FK)
 exact bH8 F0 Bx Fα bα mα (A8.mono (bU0 Fα Bx FC bC mC FK bK mK FP bP mP) (by decide)) FJ bJ mJ (GJ.mono (by decide)) Fτ bτ mτ (Gτ.mono (by decide)) Fν bν mν (Gν.mono (by decide)) Fφ bφ mφ (Gφ.mono (by decide))
end
end Web
namespace Web
open PySem L2
def ax7 (K:W.Frag):List (Addr × Addr):=match PySem.W.tabIn K "order_of",PySem.W.tabIn K "shares" with
 | some q,some r=>[q,r]
 | _,_=>[]
def aU0 (K:W.Frag):Addr:=((PySem.W.tabIn K "order_of").getD (0,0)).2
def aT9 (K:W.Frag):Addr:=((PySem.W.tabIn K "shares").getD (0,0)).2
theorem ls1 {p:List c6->Prop}(h:∀ x0,p [x0]):∀ us,us.length=1->p us
 | [x0],_=>h x0
theorem ls2 {p:List c6->Prop}(h:∀ x0 x1,p [x0,x1]):∀ us,us.length=2->p us
 | [x0,x1],_=>h x0 x1
theorem ls3 {p:List c6->Prop}(h:∀ x0 x1 x2,p [x0,x1,x2]):∀ us,us.length=3->p us
 | [x0,x1,x2],_=>h x0 x1 x2
set_option maxHeartbeats 0 in
theorem all_mk {l:PySem.W.OpenLaw}{w:x6}{K:W.Frag}{h:Heap}{mg:Str->Option c6}{fa fI fU fV fH fι fT fO fG fA fρ fM fβ fω fW fF fL fY fX fD fE fS fN fQ fψ fJ fν fC fK fα fP fR fδ fφ fτ fZ CBadTally CBadNumber CNoWeb CBadWeb:Addr}{tk:Tok}(X:K.In h)(G:h.Ns j0 mg)(hfa:mg "law"=some (.ref fa))
  {odI anI odU anU odV anV odH anH odι anι odT anT odO anO odG anG odA anA odρ anρ odM anM odβ anβ odω anω odW anW odF anF odL anL odY anY odX anX odD anD odE anE odS anS odN anN odQ anQ odψ anψ odJ anJ odν anν odC anC odK anK odα anα odP anP odR anR odδ anδ odφ anφ odτ anτ odZ anZ:Option Addr}{slI slU slV slH slι slT slO slG slA slρ slM slβ slω slW slF slL slY slX slD slE slS slN slQ slψ slJ slν slC slK slα slP slR slδ slφ slτ slZ:Array (Option c6)}
  {ocI kVI dcI pmI cdI ctI ocU kVU dcU pmU cdU ctU ocV kVV dcV pmV cdV ctV ocH kVH dcH pmH cdH ctH ocι kVι dcι pmι cdι ctι ocT kVT dcT pmT cdT ctT ocO kVO dcO pmO cdO ctO ocG kVG dcG pmG cdG ctG ocA kVA dcA pmA cdA ctA ocρ kVρ dcρ pmρ cdρ ctρ ocM kVM dcM pmM cdM ctM ocβ kVβ dcβ pmβ cdβ ctβ ocω kVω dcω pmω cdω ctω ocW kVW dcW pmW cdW ctW ocF kVF dcF pmF cdF ctF ocL kVL dcL pmL cdL ctL ocY kVY dcY pmY cdY ctY ocX kVX dcX pmX cdX ctX ocD kVD dcD pmD cdD ctD ocE kVE dcE pmE cdE ctE ocS kVS dcS pmS cdS ctS ocN kVN dcN pmN cdN ctN ocQ kVQ dcQ pmQ cdQ ctQ ocψ kVψ dcψ pmψ cdψ ctψ ocJ kVJ dcJ pmJ cdJ ctJ ocν kVν dcν pmν cdν ctν ocC kVC dcC pmC cdC ctC ocK kVK dcK pmK cdK ctK ocα kVα dcα pmα cdα ctα ocP kVP dcP pmP cdP ctP ocR kVR dcR pmR cdR ctR ocδ kVδ dcδ pmδ cdδ ctδ ocφ kVφ dcφ pmφ cdφ ctφ ocτ kVτ dcτ pmτ cdτ ctτ ocZ kVZ dcZ pmZ cdZ ctZ:c6}
  (aI:j6 K j0 "is_place"=some (some (.ref fI)))(lI:K.lookup fI=some ⟨ocI,odI,.func (m7 "is_place" "is_place" (B5 au2) (A7 au2) (j5 au2) .none kVI dcI pmI anI cdI ctI),slI⟩)(cI:m3 K cdI "is_place"=true)(kI:k6 K (.ref fI)=true)
  (aU:j6 K j0 "turned_up"=some (some (.ref fU)))(lU:K.lookup fU=some ⟨ocU,odU,.func (m7 "turned_up" "turned_up" (B5 sUp) (A7 sUp) (j5 sUp) .none kVU dcU pmU anU cdU ctU),slU⟩)(cU:m3 K cdU "turned_up"=true)(kU:k6 K (.ref fU)=true)
  (aV:j6 K j0 "made"=some (some (.ref fV)))(lV:K.lookup fV=some ⟨ocV,odV,.func (m7 "made" "made" (B5 aj5) (A7 aj5) (j5 aj5) .none kVV dcV pmV anV cdV ctV),slV⟩)(cV:m3 K cdV "made"=true)(kV:k6 K (.ref fV)=true)
  (aH:j6 K j0 "tally_of"=some (some (.ref fH)))(lH:K.lookup fH=some ⟨ocH,odH,.func (m7 "tally_of" "tally_of" (B5 aj3) (A7 aj3) (j5 aj3) .none kVH dcH pmH anH cdH ctH),slH⟩)(cH:m3 K cdH "tally_of"=true)(kH:k6 K (.ref fH)=true)
  (aι:j6 K j0 "is_told"=some (some (.ref fι)))(lι:K.lookup fι=some ⟨ocι,odι,.func (m7 "is_told" "is_told" (B5 ab1) (A7 ab1) (j5 ab1) .none kVι dcι pmι anι cdι ctι),slι⟩)(cι:m3 K cdι "is_told"=true)(kι:k6 K (.ref fι)=true)
  (aT:j6 K j0 "check_tally"=some (some (.ref fT)))(lT:K.lookup fT=some ⟨ocT,odT,.func (m7 "check_tally" "check_tally" (B5 am5) (A7 am5) (j5 am5) .none kVT dcT pmT anT cdT ctT),slT⟩)(cT:m3 K cdT "check_tally"=true)(kT:k6 K (.ref fT)=true)
  (aO:j6 K j0 "order_of"=some (some (.ref fO)))(lO:K.lookup fO=some ⟨ocO,odO,.func (m7 "order_of" "order_of" (B5 aB7) (A7 aB7) (j5 aB7) .none kVO dcO pmO anO cdO ctO),slO⟩)(cO:m3 K cdO "order_of"=true)(kO:k6 K (.ref fO)=true)
  (aG:j6 K j0 "falling"=some (some (.ref fG)))(lG:K.lookup fG=some ⟨ocG,odG,.func (m7 "falling" "falling" (B5 ah5) (A7 ah5) (j5 ah5) .none kVG dcG pmG anG cdG ctG),slG⟩)(cG:m3 K cdG "falling"=true)(kG:k6 K (.ref fG)=true)
  (aA:j6 K j0 "room_among"=some (some (.ref fA)))(lA:K.lookup fA=some ⟨ocA,odA,.func (m7 "room_among" "room_among" (B5 X3) (A7 X3) (j5 X3) .none kVA dcA pmA anA cdA ctA),slA⟩)(cA:m3 K cdA "room_among"=true)(kA:k6 K (.ref fA)=true)
  (aρ:j6 K j0 "room_with"=some (some (.ref fρ)))(lρ:K.lookup fρ=some ⟨ocρ,odρ,.func (m7 "room_with" "room_with" (B5 aj4) (A7 aj4) (j5 aj4) .none kVρ dcρ pmρ anρ cdρ ctρ),slρ⟩)(cρ:m3 K cdρ "room_with"=true)(kρ:k6 K (.ref fρ)=true)
  (aM:j6 K j0 "room"=some (some (.ref fM)))(lM:K.lookup fM=some ⟨ocM,odM,.func (m7 "room" "room" (B5 aq1) (A7 aq1) (j5 aq1) .none kVM dcM pmM anM cdM ctM),slM⟩)(cM:m3 K cdM "room"=true)(kM:k6 K (.ref fM)=true)
  (aβ:j6 K j0 "places_below"=some (some (.ref fβ)))(lβ:K.lookup fβ=some ⟨ocβ,odβ,.func (m7 "places_below" "places_below" (B5 X2) (A7 X2) (j5 X2) .none kVβ dcβ pmβ anβ cdβ ctβ),slβ⟩)(cβ:m3 K cdβ "places_below"=true)(kβ:k6 K (.ref fβ)=true)
  (aω:j6 K j0 "wall_with"=some (some (.ref fω)))(lω:K.lookup fω=some ⟨ocω,odω,.func (m7 "wall_with" "wall_with" (B5 af8) (A7 af8) (j5 af8) .none kVω dcω pmω anω cdω ctω),slω⟩)(cω:m3 K cdω "wall_with"=true)(kω:k6 K (.ref fω)=true)
  (aW:j6 K j0 "wall_of"=some (some (.ref fW)))(lW:K.lookup fW=some ⟨ocW,odW,.func (m7 "wall_of" "wall_of" (B5 aw2) (A7 aw2) (j5 aw2) .none kVW dcW pmW anW cdW ctW),slW⟩)(cW:m3 K cdW "wall_of"=true)(kW:k6 K (.ref fW)=true)
  (aF:j6 K j0 "first_of_order"=some (some (.ref fF)))(lF:K.lookup fF=some ⟨ocF,odF,.func (m7 "first_of_order" "first_of_order" (B5 ag0) (A7 ag0) (j5 ag0) .none kVF dcF pmF anF cdF ctF),slF⟩)(cF:m3 K cdF "first_of_order"=true)(kF:k6 K (.ref fF)=true)
  (aL:j6 K j0 "left_of_others"=some (some (.ref fL)))(lL:K.lookup fL=some ⟨ocL,odL,.func (m7 "left_of_others" "left_of_others" (B5 aq3) (A7 aq3) (j5 aq3) .none kVL dcL pmL anL cdL ctL),slL⟩)(cL:m3 K cdL "left_of_others"=true)(kL:k6 K (.ref fL)=true)
  (aY:j6 K j0 "laid_around"=some (some (.ref fY)))(lY:K.lookup fY=some ⟨ocY,odY,.func (m7 "laid_around" "laid_around" (B5 aw4) (A7 aw4) (j5 aw4) .none kVY dcY pmY anY cdY ctY),slY⟩)(cY:m3 K cdY "laid_around"=true)(kY:k6 K (.ref fY)=true)
  (aX:j6 K j0 "answered"=some (some (.ref fX)))(lX:K.lookup fX=some ⟨ocX,odX,.func (m7 "answered" "answered" (B5 aT4) (A7 aT4) (j5 aT4) .none kVX dcX pmX anX cdX ctX),slX⟩)(cX:m3 K cdX "answered"=true)(kX:k6 K (.ref fX)=true)
  (aD:j6 K j0 "least_where"=some (some (.ref fD)))(lD:K.lookup fD=some ⟨ocD,odD,.func (m7 "least_where" "least_where" (B5 aj2) (A7 aj2) (j5 aj2) .none kVD dcD pmD anD cdD ctD),slD⟩)(cD:m3 K cdD "least_where"=true)(kD:k6 K (.ref fD)=true)
  (aE:j6 K j0 "above"=some (some (.ref fE)))(lE:K.lookup fE=some ⟨ocE,odE,.func (m7 "above" "above" (B5 aT5) (A7 aT5) (j5 aT5) .none kVE dcE pmE anE cdE ctE),slE⟩)(cE:m3 K cdE "above"=true)(kE:k6 K (.ref fE)=true)
  (aS:j6 K j0 "shares"=some (some (.ref fS)))(lS:K.lookup fS=some ⟨ocS,odS,.func (m7 "shares" "shares" (B5 ac7) (A7 ac7) (j5 ac7) .none kVS dcS pmS anS cdS ctS),slS⟩)(cS:m3 K cdS "shares"=true)(kS:k6 K (.ref fS)=true)
  (aN:j6 K j0 "check_none_below"=some (some (.ref fN)))(lN:K.lookup fN=some ⟨ocN,odN,.func (m7 "check_none_below" "check_none_below" (B5 aN7) (A7 aN7) (j5 aN7) .none kVN dcN pmN anN cdN ctN),slN⟩)(cN:m3 K cdN "check_none_below"=true)(kN:k6 K (.ref fN)=true)
  (aQ:j6 K j0 "off_by_want"=some (some (.ref fQ)))(lQ:K.lookup fQ=some ⟨ocQ,odQ,.func (m7 "off_by_want" "off_by_want" (B5 aq2) (A7 aq2) (j5 aq2) .none kVQ dcQ pmQ anQ cdQ ctQ),slQ⟩)(cQ:m3 K cdQ "off_by_want"=true)(kQ:k6 K (.ref fQ)=true)
  (aψ:j6 K j0 "lacks"=some (some (.ref fψ)))(lψ:K.lookup fψ=some ⟨ocψ,odψ,.func (m7 "lacks" "lacks" (B5 aj6) (A7 aj6) (j5 aj6) .none kVψ dcψ pmψ anψ cdψ ctψ),slψ⟩)(cψ:m3 K cdψ "lacks"=true)(kψ:k6 K (.ref fψ)=true)
  (aJ:j6 K j0 "least_off"=some (some (.ref fJ)))(lJ:K.lookup fJ=some ⟨ocJ,odJ,.func (m7 "least_off" "least_off" (B5 aw5) (A7 aw5) (j5 aw5) .none kVJ dcJ pmJ anJ cdJ ctJ),slJ⟩)(cJ:m3 K cdJ "least_off"=true)(kJ:k6 K (.ref fJ)=true)
  (aν:j6 K j0 "off_shows"=some (some (.ref fν)))(lν:K.lookup fν=some ⟨ocν,odν,.func (m7 "off_shows" "off_shows" (B5 aw3) (A7 aw3) (j5 aw3) .none kVν dcν pmν anν cdν ctν),slν⟩)(cν:m3 K cdν "off_shows"=true)(kν:k6 K (.ref fν)=true)
  (aC:j6 K j0 "_law_cell_at"=some (some (.ref fC)))(lC:K.lookup fC=some ⟨ocC,odC,.func (m7 "_law_cell_at" "_law_cell_at" (B5 aw7) (A7 aw7) (j5 aw7) .none kVC dcC pmC anC cdC ctC),slC⟩)(cC:m3 K cdC "_law_cell_at"=true)(kC:k6 K (.ref fC)=true)
  (aK:j6 K j0 "_law_mixed"=some (some (.ref fK)))(lK:K.lookup fK=some ⟨ocK,odK,.func (m7 "_law_mixed" "_law_mixed" (B5 aN6) (A7 aN6) (j5 aN6) .none kVK dcK pmK anK cdK ctK),slK⟩)(cK:m3 K cdK "_law_mixed"=true)(kK:k6 K (.ref fK)=true)
  (aα:j6 K j0 "_law_tally"=some (some (.ref fα)))(lα:K.lookup fα=some ⟨ocα,odα,.func (m7 "_law_tally" "_law_tally" (B5 aT0) (A7 aT0) (j5 aT0) .none kVα dcα pmα anα cdα ctα),slα⟩)(cα:m3 K cdα "_law_tally"=true)(kα:k6 K (.ref fα)=true)
  (aP:j6 K j0 "_law_pairs"=some (some (.ref fP)))(lP:K.lookup fP=some ⟨ocP,odP,.func (m7 "_law_pairs" "_law_pairs" (B5 af9) (A7 af9) (j5 af9) .none kVP dcP pmP anP cdP ctP),slP⟩)(cP:m3 K cdP "_law_pairs"=true)(kP:k6 K (.ref fP)=true)
  (aR:j6 K j0 "_law_room_at"=some (some (.ref fR)))(lR:K.lookup fR=some ⟨ocR,odR,.func (m7 "_law_room_at" "_law_room_at" (B5 aT1) (A7 aT1) (j5 aT1) .none kVR dcR pmR anR cdR ctR),slR⟩)(cR:m3 K cdR "_law_room_at"=true)(kR:k6 K (.ref fR)=true)
  (aδ:j6 K j0 "_law_counts"=some (some (.ref fδ)))(lδ:K.lookup fδ=some ⟨ocδ,odδ,.func (m7 "_law_counts" "_law_counts" (B5 aw6) (A7 aw6) (j5 aw6) .none kVδ dcδ pmδ anδ cdδ ctδ),slδ⟩)(cδ:m3 K cdδ "_law_counts"=true)(kδ:k6 K (.ref fδ)=true)
  (aφ:j6 K j0 "_law_due"=some (some (.ref fφ)))(lφ:K.lookup fφ=some ⟨ocφ,odφ,.func (m7 "_law_due" "_law_due" (B5 aT3) (A7 aT3) (j5 aT3) .none kVφ dcφ pmφ anφ cdφ ctφ),slφ⟩)(cφ:m3 K cdφ "_law_due"=true)(kφ:k6 K (.ref fφ)=true)
  (aτ:j6 K j0 "_law_spoilt"=some (some (.ref fτ)))(lτ:K.lookup fτ=some ⟨ocτ,odτ,.func (m7 "_law_spoilt" "_law_spoilt" (B5 ab0) (A7 ab0) (j5 ab0) .none kVτ dcτ pmτ anτ cdτ ctτ),slτ⟩)(cτ:m3 K cdτ "_law_spoilt"=true)(kτ:k6 K (.ref fτ)=true)
  (aZ:j6 K j0 "law"=some (some (.ref fZ)))(lZ:K.lookup fZ=some ⟨ocZ,odZ,.func (m7 "law" "law" (B5 aH6) (A7 aH6) (j5 aH6) .none kVZ dcZ pmZ anZ cdZ ctZ),slZ⟩)(cZ:m3 K cdZ "law"=true)(kZ:k6 K (.ref fZ)=true)
  (mo:j6 K j0 "MOST_PLACES"=some (some (.int 24 tk)))
  (aBadTally:j6 K j0 "BadTally"=some (some (.ref CBadTally)))
  (aBadNumber:j6 K j0 "BadNumber"=some (some (.ref CBadNumber)))
  (aNoWeb:j6 K j0 "NoWeb"=some (some (.ref CNoWeb)))
  (aBadWeb:j6 K j0 "BadWeb"=some (some (.ref CBadWeb)))
  (qBadTally:PySem.W.excIn K CBadTally [.type "ValueError",.type "Exception",.type "BaseException",.type "object"] "ValueError.__new__"=true)
  (xmBadTally:PySem.W.exmOne K (.ref CBadTally) (.ref CBadTally)=some true)
  (qBadNumber:PySem.W.excIn K CBadNumber [.type "ValueError",.type "Exception",.type "BaseException",.type "object"] "ValueError.__new__"=true)
  (xmBadNumber:PySem.W.exmOne K (.ref CBadNumber) (.ref CBadNumber)=some true)
  (qNoWeb:PySem.W.excIn K CNoWeb [.type "ValueError",.type "Exception",.type "BaseException",.type "object"] "ValueError.__new__"=true)
  (xmNoWeb:PySem.W.exmOne K (.ref CNoWeb) (.ref CNoWeb)=some true)
  (qBadWeb:PySem.W.excIn K CBadWeb [.type "ValueError",.type "Exception",.type "BaseException",.type "object"] "ValueError.__new__"=true)
  (xmBadWeb:PySem.W.exmOne K (.ref CBadWeb) (.ref CBadWeb)=some true)
  (tb:(PySem.W.tabIn K "order_of").isSome=true)
  (tb2:(PySem.W.tabIn K "shares").isSome=true)
  (z1:j6 K j0 "len"=some none)
  (z2:j6 K j0 "range"=some none)
  (z3:j6 K j0 "enumerate"=some none)
  (z4:j6 K j0 "list"=some none)
  (z5:j6 K j0 "tuple"=some none)
  (z6:j6 K j0 "sorted"=some none)
  (z7:j6 K j0 "set"=some none)
  (z8:j6 K j0 "isinstance"=some none)
  (z9:j6 K j0 "int"=some none)
  (z10:j6 K j0 "bool"=some none)
  (z11:j6 K j0 "min"=some none)
  (z12:j6 K j0 "max"=some none)
  (z13:j6 K j0 "sum"=some none)
  (z14:j6 K j0 "str"=some none)
  (z15:j6 K j0 "ValueError"=some none)
  (z16:j6 K j0 "all"=some none)
  (z17:j6 K j0 "zip"=some none) :
  ∃ fd:u0,(∀ (s:c7) (v:c6),bj3 s fd ⟨[v],[]⟩ [("script",v)])/\∀ base:Heap,K.In base->base.Ns j0 mg->(∀ q∈ax7 K,as4 base mg q.1 q.2)->A8 l.prog w K mg base CX0 10 fa fd ["script"] (aS5 K (aU0 K) (aT9 K)):=by
 have e:=hfa.symm.trans (m5 X G aZ)
 cases e
 have B:Bn mg:=⟨A3 X G z1,A3 X G z2,A3 X G z3,A3 X G z4,A3 X G z5,A3 X G z6,A3 X G z7,A3 X G z8,A3 X G z9,A3 X G z10,A3 X G z11,A3 X G z12,A3 X G z13,A3 X G z14,A3 X G z15,A3 X G z16,A3 X G z17⟩
 have FI:=E9 (st:=au2) lI cI kI
 have bI:=FI.binds (ps:=["places","number"]) fun _ _ _ _ _ _=>ls2 fun _ _=>rfl
 have FU:=E9 (st:=sUp) lU cU kU
 have bU:=FU.binds (ps:=["places","tie"]) fun _ _ _ _ _ _=>ls2 fun _ _=>rfl
 have FV:=E9 (st:=aj5) lV cV kV
 have bV:=FV.binds (ps:=["places","ties"]) fun _ _ _ _ _ _=>ls2 fun _ _=>rfl
 have FH:=E9 (st:=aj3) lH cH kH
 have bH:=FH.binds (ps:=["web"]) fun _ _ _ _ _ _=>ls1 fun _=>rfl
 have Fι:=E9 (st:=ab1) lι cι kι
 have bι:=Fι.binds (ps:=["web"]) fun _ _ _ _ _ _=>ls1 fun _=>rfl
 have FT:=E9 (st:=am5) lT cT kT
 have bT:=FT.binds (ps:=["tally"]) fun _ _ _ _ _ _=>ls1 fun _=>rfl
 have FO:=E9 (st:=aB7) lO cO kO
 have bO:=FO.binds (ps:=["tally"]) fun _ _ _ _ _ _=>ls1 fun _=>rfl
 have FG:=E9 (st:=ah5) lG cG kG
 have bG:=FG.binds (ps:=["tally"]) fun _ _ _ _ _ _=>ls1 fun _=>rfl
 have FA:=E9 (st:=X3) lA cA kA
 have bA:=FA.binds (ps:=["numbers","most","r"]) fun _ _ _ _ _ _=>ls3 fun _ _ _=>rfl
 have Fρ:=E9 (st:=aj4) lρ cρ kρ
 have bρ:=Fρ.binds (ps:=["tally","most","r"]) fun _ _ _ _ _ _=>ls3 fun _ _ _=>rfl
 have FM:=E9 (st:=aq1) lM cM kM
 have bM:=FM.binds (ps:=["tally","r"]) fun _ _ _ _ _ _=>ls2 fun _ _=>rfl
 have Fβ:=E9 (st:=X2) lβ cβ kβ
 have bβ:=Fβ.binds (ps:=["numbers"]) fun _ _ _ _ _ _=>ls1 fun _=>rfl
 have Fω:=E9 (st:=af8) lω cω kω
 have bω:=Fω.binds (ps:=["tally","most"]) fun _ _ _ _ _ _=>ls2 fun _ _=>rfl
 have FW:=E9 (st:=aw2) lW cW kW
 have bW:=FW.binds (ps:=["tally"]) fun _ _ _ _ _ _=>ls1 fun _=>rfl
 have FF:=E9 (st:=ag0) lF cF kF
 have bF:=FF.binds (ps:=["tally","many","passed_over"]) fun _ _ _ _ _ _=>ls3 fun _ _ _=>rfl
 have FL:=E9 (st:=aq3) lL cL kL
 have bL:=FL.binds (ps:=["tally","place","ends"]) fun _ _ _ _ _ _=>ls3 fun _ _ _=>rfl
 have FY:=E9 (st:=aw4) lY cY kY
 have bY:=FY.binds (ps:=["tally","place","ends"]) fun _ _ _ _ _ _=>ls3 fun _ _ _=>rfl
 have FX:=E9 (st:=aT4) lX cX kX
 have bX:=FX.binds (ps:=["tally"]) fun _ _ _ _ _ _=>ls1 fun _=>rfl
 have FD:=E9 (st:=aj2) lD cD kD
 have bD:=FD.binds (ps:=["low","high","holds"]) fun _ _ _ _ _ _=>ls3 fun _ _ _=>rfl
 have FE:=E9 (st:=aT5) lE cE kE
 have bE:=FE.binds (ps:=["numbers","level","most"]) fun _ _ _ _ _ _=>ls3 fun _ _ _=>rfl
 have FS:=E9 (st:=ac7) lS cS kS
 have bS:=FS.binds (ps:=["numbers","much","most"]) fun _ _ _ _ _ _=>ls3 fun _ _ _=>rfl
 have FN:=E9 (st:=aN7) lN cN kN
 have bN:=FN.binds (ps:=["tally"]) fun _ _ _ _ _ _=>ls1 fun _=>rfl
 have FQ:=E9 (st:=aq2) lQ cQ kQ
 have bQ:=FQ.binds (ps:=["tally","want"]) fun _ _ _ _ _ _=>ls2 fun _ _=>rfl
 have Fψ:=E9 (st:=aj6) lψ cψ kψ
 have bψ:=Fψ.binds (ps:=["tally","web","much"]) fun _ _ _ _ _ _=>ls3 fun _ _ _=>rfl
 have FJ:=E9 (st:=aw5) lJ cJ kJ
 have bJ:=FJ.binds (ps:=["tally"]) fun _ _ _ _ _ _=>ls1 fun _=>rfl
 have Fν:=E9 (st:=aw3) lν cν kν
 have bν:=Fν.binds (ps:=["tally","told"]) fun _ _ _ _ _ _=>ls2 fun _ _=>rfl
 have FC:=E9 (st:=aw7) lC cC kC
 have bC:=FC.binds (ps:=["script","k"]) fun _ _ _ _ _ _=>ls2 fun _ _=>rfl
 have FK:=E9 (st:=aN6) lK cK kK
 have bK:=FK.binds (ps:=["cell","k","bound"]) fun _ _ _ _ _ _=>ls3 fun _ _ _=>rfl
 have Fα:=E9 (st:=aT0) lα cα kα
 have bα:=Fα.binds (ps:=["script","most"]) fun _ _ _ _ _ _=>ls2 fun _ _=>rfl
 have FP:=E9 (st:=af9) lP cP kP
 have bP:=FP.binds (ps:=["places"]) fun _ _ _ _ _ _=>ls1 fun _=>rfl
 have FR:=E9 (st:=aT1) lR cR kR
 have bR:=FR.binds (ps:=["tally","r"]) fun _ _ _ _ _ _=>ls2 fun _ _=>rfl
 have Fδ:=E9 (st:=aw6) lδ cδ kδ
 have bδ:=Fδ.binds (ps:=["found","places"]) fun _ _ _ _ _ _=>ls2 fun _ _=>rfl
 have Fφ:=E9 (st:=aT3) lφ cφ kφ
 have bφ:=Fφ.binds (ps:=["tally","told"]) fun _ _ _ _ _ _=>ls2 fun _ _=>rfl
 have Fτ:=E9 (st:=ab0) lτ cτ kτ
 have bτ:=Fτ.binds (ps:=["web","cell"]) fun _ _ _ _ _ _=>ls2 fun _ _=>rfl
 have FZ:=E9 (st:=aH6) lZ cZ kZ
 obtain⟨⟨c,PT⟩,hcp⟩:=v9.mp tb
 obtain⟨⟨d,PU⟩,hdp⟩:=v9.mp tb2
 have hc:=aS3 hcp aO lO
 have hd:=aS3 hdp aS lS
 have ept:aU0 K=PT:=by unfold aU0;rw[hcp];rfl
 have epu:aT9 K=PU:=by unfold aT9;rw[hdp];rfl
 have ets:ax7 K=[(c,PT),(d,PU)]:=by unfold ax7;rw[hcp,hdp]
 rw[ept,epu,ets]
 exact⟨m7 "law" "law" (B5 aH6) (A7 aH6) (j5 aH6) .none kVZ dcZ pmZ anZ cdZ ctZ,fun s v=>.of_eq rfl,fun base _ _ hL=>bU7 FZ B (m5 X G mo) FI bI (m5 X G aI) FU bU (m5 X G aU) FV bV (m5 X G aV) FH bH (m5 X G aH) Fι bι (m5 X G aι) FT bT (m5 X G aT) FO bO (m5 X G aO) FG bG (m5 X G aG) FA bA (m5 X G aA) Fρ bρ (m5 X G aρ) FM bM (m5 X G aM) Fβ bβ (m5 X G aβ) Fω bω (m5 X G aω) FW bW (m5 X G aW) FF bF (m5 X G aF) FL bL (m5 X G aL) FY bY (m5 X G aY) FX bX (m5 X G aX) FD bD (m5 X G aD) FE bE (m5 X G aE) FS bS (m5 X G aS) FN bN (m5 X G aN) FQ bQ (m5 X G aQ) Fψ bψ (m5 X G aψ) FJ bJ (m5 X G aJ) Fν bν (m5 X G aν) FC bC (m5 X G aC) FK bK (m5 X G aK) Fα bα (m5 X G aα) FP bP (m5 X G aP) FR bR (m5 X G aR) Fδ bδ (m5 X G aδ) Fφ bφ (m5 X G aφ) Fτ bτ (m5 X G aτ) (m5 X G aBadTally) ⟨qBadTally⟩ (m5 X G aBadNumber) ⟨qBadNumber⟩ (m5 X G aNoWeb) ⟨qNoWeb⟩ (m5 X G aBadWeb) ⟨qBadWeb⟩ xmBadWeb hc (hL (c,PT) i5) hd (hL (d,PU) (d7 _ i5))⟩
theorem walk {l:PySem.W.OpenLaw} {q:j8} {loose:List Str} {XP:(Str->Option c6)->Heap->Prop} {YP:x6->Heap->Prop} {d:DefRec} {K:Params->PySem.W.Frag} (hn:l.most=some 63) (hdf:d.params.defaults=[])
  (hY:∀ (w:x6) (h:Heap),YP w h->(K w.params).In h) (hK0:∀ w:x6,PySem.W.noTabs (K w.params)=true) (hrec:((PyProof.Rows.recsOf q).find? (fun e=>e.name == ("order_of":Str))).isSome=true) (htb:∀ w:x6,(PySem.W.tabIn (K w.params) "order_of").isSome=true) (hrec2:((PyProof.Rows.recsOf q).find? (fun e=>e.name == ("shares":Str))).isSome=true) (htb2:∀ w:x6,(PySem.W.tabIn (K w.params) "shares").isSome=true) (hne:∀ w:x6,decide (aU0 (K w.params)=aT9 (K w.params))=false)
  (F : ∀ (w : x6) (mg : Str -> Option c6) (fa : Addr) (h : Heap), (K w.params).In h -> h.Ns j0 mg -> mg d.name = some (.ref fa) ->
   ∃ fd:u0,(∀ (s:c7) (u:c6),bj3 s fd ⟨[u],[]⟩ [("script",u)])/\∀ base:Heap,(K w.params).In base->base.Ns j0 mg->(∀ q∈ax7 (K w.params),as4 base mg q.1 q.2)->A8 l.prog w (K w.params) mg base CX0 10 fa fd ["script"] (aS5 (K w.params) (aU0 (K w.params)) (aT9 (K w.params)))) :
  PySem.W.WalkO q loose XP YP l.row.toRowW d [] (fun f vs=>PySem.call f vs):=by
 refine L2.walk_ofT (n:=63) (k:=10) (x:="script") (CX:=fun _=>CX0) (sp:=fun w _=>aS5 (K w.params) (aU0 (K w.params)) (aT9 (K w.params))) (ts:=fun w=>ax7 (K w.params)) hn (by decide) hdf ⟨rfl,by decide,by decide⟩ hY hK0 (fun w loose mean mg mb h T X=>?_) F (fun w H a ns hl hT hS=>?_) fun _ _ _ _ _ z=>z
 ·obtain⟨⟨c,PT⟩,hcp⟩:=v9.mp (htb w)
  obtain⟨⟨e,PU⟩,hep⟩:=v9.mp (htb2 w)
  obtain⟨d',hd'⟩:=v9.mp hrec
  obtain⟨d2,hd2⟩:=v9.mp hrec2
  have ets:ax7 (K w.params)=[(c,PT),(e,PU)]:=by unfold ax7;rw[hcp,hep]
  show PySem.W.TabsAt (ax7 (K w.params)) h
  rw[ets]
  intro r hr
  rcases g6.mp hr with hr | hr
  ·rw[hr]
   exact PySem.W.tab_of T X hd' hcp
  ·rw[B7.mp hr]
   exact PySem.W.tab_of T X hd2 hep
 ·obtain⟨⟨c,PT⟩,hcp⟩:=v9.mp (htb w)
  obtain⟨⟨e,PU⟩,hep⟩:=v9.mp (htb2 w)
  have ets:ax7 (K w.params)=[(c,PT),(e,PU)]:=by unfold ax7;rw[hcp,hep]
  have ept:aU0 (K w.params)=PT:=by unfold aU0;rw[hcp];rfl
  have epu:aT9 (K w.params)=PU:=by unfold aT9;rw[hep];rfl
  have hn:=of_decide_eq_false (hne w)
  refine⟨a,ns,rfl,hS,hl,?_,?_,hn,fun _=>rfl⟩
  ·rw[ept]
   exact⟨#[],hT (c,PT) (by show (c,PT)∈ax7 (K w.params);rw[ets];exact i5),trivial,.inl rfl⟩
  ·rw[epu]
   exact⟨#[],hT (e,PU) (by show (e,PU)∈ax7 (K w.params);rw[ets];exact d7 _ i5),trivial,.inl rfl⟩
end Web
set_option Elab.async false
namespace PySem.W.Fast
def tw449856115992086762:=0
def tw16692902003213411587:=0
def tw8143724214793205649:=0
def tw5389513935232571622:=0
def tw9982998806265192397:=0
def tw15280896436612663326:=0
def tw16993539502109572095:=0
def tw1668022197173059381:=0
def tw14731338137597108494:=0
def tw16025496710327623230:=0
def tw7466430297234763639:=0
def tw15052528997280673102:=0
def tw16576064201919103315:=0
def tw9047601177401954169:=0
def tw10524173293799024174:=0
def tw9772072672810849037:=0
def tw10046372953146511615:=0
def tw9356004341353735317:=0
def tw15799732613696251980:=0
def tw13968342913728416679:=0
def tw16261197214819580757:=0
def tw13257040517899525358:=0
def tw16714465148276289321:=0
def tw6070211700331157051:=0
def tw5167985152837241809:=0
def tw10008996829390229711:=0
def tw15862310453080120280:=0
def tw16306935982068925835:=0
def tw9706218014432138231:=0
def tw15690312692166021944:=0
def tw449206253254343554:=0
def tw6584886554903171087:=0
def tw13058031184975177216:=0
def tw15361229972413280384:=0
def tw2383230139972153383:=0
def tw12357789761688242976:=0
def tw11992249465747758243:=0
def tw15407532788888058011:=0
def tw17637147430662084712:=0
def tw15212901104693395477:=0
def tw11071520094917147633:=0
def tw8936811114752099458:=0
def tw2842650685599477763:=0
def tw6952288554668320753:=0
def tw3196256186730466741:=0
def tw5184925992444549411:=0
def tw5985442579307474498:=0
def tw12442403760867428322:=0
def tw7969712447421881167:=0
def tw12830465986527019702:=0
def tw457331814931073212:=0
def tw11371658515592396450:=0
def tw1663383058528161423:=0
def tw17442890790068361387:=0
def tw16522435635872745790:=0
def tw7628004354687324444:=0
def tw13972298701435150843:=0
def tw4205691127016325373:=0
def tw6235352131368092921:=0
def tw13322014793490818996:=0
def tw8591813798333852984:=0
def tw4630309997768124890:=0
def tw15884716700233295683:=0
def tw4747165166520795588:=0
def tw17067984561812023951:=0
def tw13951995290383474589:=0
def tw16395462716857127650:=0
def tw8264915093251371461:=0
def tw8438593101920491228:=0
def tw17153199555555755216:=0
def tw575570521159397712:=0
def tw15882266225574591043:=0
def tw17333883671813711818:=0
def tw3374009544837089127:=0
def tw10005296447634144665:=0
def tw8834527017949857270:=0
def tw6104374508695330305:=0
def tw3588261456320495214:=0
def tw14948646404317645981:=0
def tw6988494600368250761:=0
def tw12209435934221040035:=0
def tw1991123550551665542:=0
def tw12415920936050614794:=0
def tw11565272618841741339:=0
def tw13567262124179855793:=0
def tw5970112466114807454:=0
def tw379274479161614060:=0
def tw18407008173153852932:=0
def tw10562741461818941195:=0
def tw6547861184900365799:=0
def tw11743377462556870222:=0
def tw18189753992907045903:=0
def tw731576539431683315:=0
def tw5797303834959901862:=0
def tw18213999436925519343:=0
def tw11469514577909328010:=0
def tw15320670222302320417:=0
def tw8591110192695458278:=0
def tw11492156059130499548:=0
def tw24538480799330596:=0
def tw13567612365901359233:=0
def tw3218357804840176911:=0
def tw13094529117361771669:=0
def tw6021612790115188477:=0
def tw14522021664035096701:=0
def tw926607747542327499:=0
def tw5344261660145425630:=0
def tw9582319338720247995:=0
def tw339020763494894862:=0
def tw6210270804414216354:=0
def tw10924567842470994142:=0
def tw12823450363466150396:=0
def tw15371000717080827614:=0
def tw17118145358730364244:=0
def tw4030352561808467434:=0
def tw15814220322211905520:=0
def tw8498031670549215438:=0
def tw10409411495079189407:=0
def tw7547391059998541392:=0
def tw3434297805450700364:=0
def tw5148698921538621234:=0
def tw14043321912319675053:=0
def tw2480494940063409840:=0
def tw1634620750376042795:=0
def tw15448922935716597934:=0
def tw9079015813564493866:=0
def tw9846067037951818360:=0
def tw11273808343226300821:=0
def tw17521291947725894928:=0
def tw3098355354026687656:=0
def tw17931752511857447493:=0
def tw17874918352114396389:=0
def tw395500020442676894:=0
def tw17251960990590125383:=0
def tw6050381094748258266:=0
def tw15946027873909173539:=0
def tw6505358031438767381:=0
def tw14863395211212715706:=0
def tw13262441862822106010:=0
def tw9273671754195817987:=0
def tw18262055240573293529:=0
def tw16271672910504192163:=0
def tw18413830783600208804:=0
def tw4960336496066605981:=0
def tw13800949603401244218:=0
def tw6542024484444069636:=0
def tw7408073766623495211:=0
def tw5847975953538691727:=0
def tw15628710135914929968:=0
def tw16074911234160828850:=0
def tw11638051547793466191:=0
def tw1306717396181294872:=0
def tw14622802224173741111:=0
def tw3301763958078484585:=0
def tw6994920199366029221:=0
def tw6539051036123687188:=0
def tw15194996168899059471:=0
def tw2476895647026420921:=0
def tw15000114693638436501:=0
def tw17727196048057996010:=0
def tw1487036642685596980:=0
def tw7973053941817004752:=0
def tw15364712654084511363:=0
def tw10866605589670780049:=0
def tw3003682143843174957:=0
def tw8569401989065432047:=0
def tw16576768811800492050:=0
def tw8577154941151488245:=0
def tw15792450189884306100:=0
def tw6281971678347559471:=0
def tw14115228159632592073:=0
def tw16602286954661270878:=0
def tw10281655317268139750:=0
def tw17705934518371698703:=0
def tw7197714095604024353:=0
def tw9251251196249317889:=0
def tw12423837784986733475:=0
def tw9879025474207583317:=0
def tw8175468638143146761:=0
def tw31107061451189542:=0
def tw17228484618782257896:=0
end PySem.W.Fast
open PySem PySem.W PyProof.Rows
set_option maxRecDepth 100000 in
set_option maxHeartbeats 0 in
theorem PySem.Challenge.cw_tallyweb_k51_what_shows_the_least_off_holds : PySem.Challenge.rw_tallyweb_k51_what_shows_the_least_off.Holds := by
 w_on; o_law; k_head; (case hw => w_witness2)
 k_fill
 refine Web.walk (l := PySem.Challenge.rw_tallyweb_k51_what_shows_the_least_off) rfl rfl (fun w h Y => PySem.W.km_in_of Y) ?hN0 ?hR0 ?hT0 ?hR1 ?hT1 ?hE0 ?F
 case hN0 => intro w; kernel_rfl
 case hR0 => kernel_rfl
 case hT0 => intro w; kernel_rfl
 case hR1 => kernel_rfl
 case hT1 => intro w; kernel_rfl
 case hE0 => intro w; kernel_rfl
 case F =>
  intro w mg fa h KX G hmg
  refine' Web.all_mk KX G hmg ?aI ?lI ?cI ?kI ?aU ?lU ?cU ?kU ?aV ?lV ?cV ?kV ?aH ?lH ?cH ?kH ?aι ?lι ?cι ?kι ?aT ?lT ?cT ?kT ?aO ?lO ?cO ?kO ?aG ?lG ?cG ?kG ?aA ?lA ?cA ?kA ?aρ ?lρ ?cρ ?kρ ?aM ?lM ?cM ?kM ?aβ ?lβ ?cβ ?kβ ?aω ?lω ?cω ?kω ?aW ?lW ?cW ?kW ?aF ?lF ?cF ?kF ?aL ?lL ?cL ?kL ?aY ?lY ?cY ?kY ?aX ?lX ?cX ?kX ?aD ?lD ?cD ?kD ?aE ?lE ?cE ?kE ?aS ?lS ?cS ?kS ?aN ?lN ?cN ?kN ?aQ ?lQ ?cQ ?kQ ?aψ ?lψ ?cψ ?kψ ?aJ ?lJ ?cJ ?kJ ?aν ?lν ?cν ?kν ?aC ?lC ?cC ?kC ?aK ?lK ?cK ?kK ?aα ?lα ?cα ?kα ?aP ?lP ?cP ?kP ?aR ?lR ?cR ?kR ?aδ ?lδ ?cδ ?kδ ?aφ ?lφ ?cφ ?kφ ?aτ ?lτ ?cτ ?kτ ?aZ ?lZ ?cZ ?kZ ?mo ?aBadTally ?aBadNumber ?aNoWeb ?aBadWeb ?qBadTally ?xmBadTally ?qBadNumber ?xmBadNumber ?qNoWeb ?xmNoWeb ?qBadWeb ?xmBadWeb ?tb ?tb2 ?z1 ?z2 ?z3 ?z4 ?z5 ?z6 ?z7 ?z8 ?z9 ?z10 ?z11 ?z12 ?z13 ?z14 ?z15 ?z16 ?z17
  (case aI => k_is); (case lI => k_is); (case cI => k_is); (case kI => k_is)
  (case aU => k_is); (case lU => k_is); (case cU => k_is); (case kU => k_is)
  (case aV => k_is); (case lV => k_is); (case cV => k_is); (case kV => k_is)
  (case aH => k_is); (case lH => k_is); (case cH => k_is); (case kH => k_is)
  (case aι => k_is); (case lι => k_is); (case cι => k_is); (case kι => k_is)
  (case aT => k_is); (case lT => k_is); (case cT => k_is); (case kT => k_is)
  (case aO => k_is); (case lO => k_is); (case cO => k_is); (case kO => k_is)
  (case aG => k_is); (case lG => k_is); (case cG => k_is); (case kG => k_is)
  (case aA => k_is); (case lA => k_is); (case cA => k_is); (case kA => k_is)
  (case aρ => k_is); (case lρ => k_is); (case cρ => k_is); (case kρ => k_is)
  (case aM => k_is); (case lM => k_is); (case cM => k_is); (case kM => k_is)
  (case aβ => k_is); (case lβ => k_is); (case cβ => k_is); (case kβ => k_is)
  (case aω => k_is); (case lω => k_is); (case cω => k_is); (case kω => k_is)
  (case aW => k_is); (case lW => k_is); (case cW => k_is); (case kW => k_is)
  (case aF => k_is); (case lF => k_is); (case cF => k_is); (case kF => k_is)
  (case aL => k_is); (case lL => k_is); (case cL => k_is); (case kL => k_is)
  (case aY => k_is); (case lY => k_is); (case cY => k_is); (case kY => k_is)
  (case aX => k_is); (case lX => k_is); (case cX => k_is); (case kX => k_is)
  (case aD => k_is); (case lD => k_is); (case cD => k_is); (case kD => k_is)
  (case aE => k_is); (case lE => k_is); (case cE => k_is); (case kE => k_is)
  (case aS => k_is); (case lS => k_is); (case cS => k_is); (case kS => k_is)
  (case aN => k_is); (case lN => k_is); (case cN => k_is); (case kN => k_is)
  (case aQ => k_is); (case lQ => k_is); (case cQ => k_is); (case kQ => k_is)
  (case aψ => k_is); (case lψ => k_is); (case cψ => k_is); (case kψ => k_is)
  (case aJ => k_is); (case lJ => k_is); (case cJ => k_is); (case kJ => k_is)
  (case aν => k_is); (case lν => k_is); (case cν => k_is); (case kν => k_is)
  (case aC => k_is); (case lC => k_is); (case cC => k_is); (case kC => k_is)
  (case aK => k_is); (case lK => k_is); (case cK => k_is); (case kK => k_is)
  (case aα => k_is); (case lα => k_is); (case cα => k_is); (case kα => k_is)
  (case aP => k_is); (case lP => k_is); (case cP => k_is); (case kP => k_is)
  (case aR => k_is); (case lR => k_is); (case cR => k_is); (case kR => k_is)
  (case aδ => k_is); (case lδ => k_is); (case cδ => k_is); (case kδ => k_is)
  (case aφ => k_is); (case lφ => k_is); (case cφ => k_is); (case kφ => k_is)
  (case aτ => k_is); (case lτ => k_is); (case cτ => k_is); (case kτ => k_is)
  (case aZ => k_is); (case lZ => k_is); (case cZ => k_is); (case kZ => k_is)
  (case mo => k_is); (case aBadTally => k_is); (case aBadNumber => k_is); (case aNoWeb => k_is)
  (case aBadWeb => k_is); (case qBadTally => k_exc); (case xmBadTally => kts_exm); (case qBadNumber => k_exc)
  (case xmBadNumber => kts_exm); (case qNoWeb => k_exc); (case xmNoWeb => kts_exm); (case qBadWeb => k_exc)
  (case xmBadWeb => kts_exm); (case tb => kernel_rfl); (case tb2 => kernel_rfl); (case z1 => k_is)
  (case z2 => k_is); (case z3 => k_is); (case z4 => k_is); (case z5 => k_is)
  (case z6 => k_is); (case z7 => k_is); (case z8 => k_is); (case z9 => k_is)
  (case z10 => k_is); (case z11 => k_is); (case z12 => k_is); (case z13 => k_is)
  (case z14 => k_is); (case z15 => k_is); (case z16 => k_is); (case z17 => k_is)
#print axioms PySem.Challenge.cw_tallyweb_k51_what_shows_the_least_off_holds

