import PyProof.Rows.All
import Wide.All
import OpenK.AllK
import Wide.FinOn
import Lean
import PyProof.EqAt
import PyProof.EqKinds
import PyProof.TupleCall
import PyProof.Rows.SortRunsK
import PyProof.Rows.SortShellK
import KE.KSortTup
import PyProof.TupleKey
import PySem.SetOps
import PyProof.Rows.SetFrom
import PyProof.EnumFor
import PyProof.EnumStmt
import PyProof.EnumMake
import PyProof.P3Eq
import PyProof.NeData
import PyProof.P3In
import PyProof.Rows.SumAny
import KE.KLam
import KE.KSortKey
import PyProof.ListRange
import KE.KTryMore
import PyProof.NsDelKeeps
import PyProof.RulesAs
import PyProof.ExcBaseAll.ValueError
import PyProof.ExcArgsOwn
import KE.KIsAll
import PyProof.Rows.SortRev
import PyProof.TupleOfSeq
import PyProof.Draws
import KE.KTupSum
import Wide.Txt2
import PyProof.ZipIter
import PyProof.Rows.TupAdd
import KE.KMinKey
import PyProof.Cells
import PyProof.DictWalks
import PyProof.ConsumeWalk
import PyProof.DictKeyH
import PyProof.ListNew
import PyProof.ConsumeS
import PyProof.WalksMore
import PyProof.ListOps
import PyProof.AutoSeq1
import PyProof.DictRoadsH
import PyProof.MeetsDictList
import KE.KDictOf
import PyProof.DictUpdate
import PyProof.DictCopy
import KE.RegKIsAll
import KE.RegKTryMore
import PySem.Challenge.RW_tallyweb_k54_changes_refused
local macro_rules | `(tactic| omega) => `(tactic| lia)
set_option autoImplicit false
set_option linter.all false
set_option Elab.async false
set_option maxRecDepth 100000
open List renaming length_map->b7,getElem?_eq_some_iff->c9,mem_cons_of_mem->d3,mem_cons->d4,size_toArray->d6,mem_of_getElem?->f9,getElem?_eq_getElem->g6,mem_cons_self->g9,getD_eq_getElem?_getD->i6,map_append->j9,take_of_length_le->k9,mem_append_right->o5,length_append->o6,mem_iff_getElem?->o7,getElem?_map->p0,map_cons->p7,getElem?_eq_none->p9,range->q0,length_take->q8,length_cons->t4,mem_map->t8,replicate->v9,pairwise_iff_getElem->x6,mem_append->y7,length_range->y9,pairwise_append->A2,append_assoc->B3,take_append_drop->B4,mem_range->B7,take_add_one->C8,mem_singleton->C9,append_nil->D7,nodup_cons->E5,lookup->E6,range_succ->E7,length_drop->F3,pairwise_cons->G3,mem_append_left->G4,mem_of_mem_take->G5,getElem?_append_right->J3,drop_of_length_le->J6,getElem?_range->J8,length_set->K3,length_filter_le->K4,not_mem_nil->K8,take_sublist->L5,replicate_succ->L8,nodup_iff_pairwise_ne->M8,mem_nil_iff->N1,filter_append->N8,mem_of_mem_drop->O4,mem_filter->O9,flatten_cons->P0,nil_append->P3,pairwise_map->P4,map_congr_left->Q3,sum_cons->Q4,all_eq_true->Q9,getElem?_drop->R8,getElem?_take->R9,ext_getElem?->T6,mem_iff_getElem->U6,getElem?_append_left->V6,extract_eq_take_drop->V7,filterMap_cons->V9,getElem?_take_of_lt->W4,map_map->W6,reverse_perm->Z3,drop_sublist->Z4,pairwise_reverse->aa7,drop_append->ab3,take_append_of_le_length->ab4,getElem_mem->ab5,getElem?_set_ne->ac3,foldl->ac7,foldl_cons->ae5,mem_filterMap->ah7,getElem_range->ah9,drop_eq_getElem_cons->ai6,length->am6,range'->am7,filter_cons_of_pos->am8,filter_cons_of_neg->am9,length_eq_zero_iff->an0,any_toArray->an3,getElem?_set_self->ap1,of_mem_zip->ar8,length_replicate->ar9,range_eq_range'->av3,nodup_nil->aw2,length_pos_iff->ax1,zip_cons_cons->aF7,any_cons->aF8,map_drop->aF9,map_take->aG0,length_range'->aG1,mem_range'_1->aH7,nodup_append->aH8,map_id'->aL1,map_set->aL2,mem_reverse->aP3,zipIdx_cons->aP4,drop_append_of_le_length->aP6,eq_nil_of_length_eq_zero->aP7,filter_cons->aP9,countP_cons->aQ0,take->aY6,length_nil->aY8,drop_drop->bd5,drop_zero->bd6,take_zero->be0,length_erase_of_mem->bj5,pairwise_lt_range->bo7,drop_eq_nil_of_le->bo8,filter_eq_nil_iff->bo9,perm_append_comm->bB0,getElem_toArray->bB9,reverse_append->bK7,flatMap_append->bK9,toList_toArray->bL0,filter_sublist->bL1,length_reverse->bL2,getElem_of_mem->bL3,map->bP3,getElem?_set->bY9,drop_reverse->bZ0,take_reverse->bZ1,cons_append->bZ4,take_append->bZ5,lookup_cons->bZ8,mem_flatMap->bZ9,map_reverse->ca0
open PySem renaming wpAny_bind->b9,mainGlobals->d8,wpAny_pure->i8,sizeLine->j5,wpAny->r6,model->t9,starEach->u5,tupleKeyHash->u7,intKind->A6,wpAny_mono->E1,sizeLine_eq->E4,intItems->E8,wpAny_holding->F0,wpAny_seqItems->G8,wpAny_pyIter_tuple->G9,wpAny_Call_Name_kw->J0,compareOp->K1,wpAny_pyIter_list->K2,IsTupleKey->L3,bootBuiltins->L9,wpAny_truthy_bool->M3,codeAny_builtin->M7,wpAny_field->O5,intItems_at->O6,backTo->S4,wpAny_passesOwn->U3,argBest->U4,wpAny_newList->U7,wpAny_setState_of->U8,compEnvC->U9,wpAny_execs_nil->Y2,wpAny_callSpecial?_slot->Y4,IsPair->Y5,wpAny_setField_rec->Y6,wpAny_loadPart_at->aa9,codeAny_mono->ac4,numAt->ac5,wpAny_call_entry->ac8,Paired->ae6,wpAny_newFunctionEnv->ae7,PyData->ae8,plainId_quiet->af1,assignEach->ag8,rawInt->ai0,sliceBounds->ai1,unsupported->ai2,wpAny_letGo->ai3,codeAny->am1,wpAny_tryCatch->am2,foldedSetIterable->an5,cLine->an6,wpAny_rule->an7,ofAClassStatement->an9,wpAny_pyIter_enum->ao0,wpAny_standAt->ap2,binaryOp->ap3,codeAny_call_builtin->az9,recursionLimit->aG2,holding->aG4,Keyword->aG5,keywordEach->aG6,pyNext->aL3,behindInMarks->aL4,NameKind->aL5,wpAny_attempt->aL6,setSearchFrom->aL8,builtinsNs->aQ2,wpAny_call->aQ3,typeLookup->aQ4,call_meets->aQ5,closureFor->aQ6,wpAny_newObj_type->aQ7,IsZip->aQ8,seqIndex_neg->aY9,wpAny_execs_cons->aZ2,wpAny_forIn_list->aZ3,bindArgs->be1,letOwnedTupleGo->bj6,BindsTo->bj7,seqIndex_of->bj8,callerA->bj9,hashByValue->bk3,seqItems?->bk4,wpAny_of_eq->bk5,wpAny_updateSeq->bk6,wpAny_letOwnedTupleGo_enum->bo6,wpAny_newTuple->bp0,wpAny_comprehension_free->bB5,GenState->bC0,backToKw->bC1,attributeBase->bC2,compPost->bC4,ReadsAll->bC5,wpAny_onRaise->bC6,wpAny_getItem_list_neg->bL5,codeAny_compStart_list->bL6,assign->bP4,again->bP5,setSearch->bP9,wpAny_eqIsQuiet_tuple->bQ0,codeAmong->bQ1,codeAny_handlers_test->bQ2,wpAny_loadName_local->bZ2,wpAny_updateSeq_pair->bZ3,wpAny_loadName_cell->ca2,wpAny_handleBy_cons->ca8
open PySem.Heap renaming get?_push_of_some->c5,lt_size->c8,get?_push_size->j0,get?_update_other->A8,size_push->B1,get?_update_self->S3,get?_none_of_le->av2,size_update->bZ6
open Nat renaming le_refl->d5,ne_of_lt->k7,lt_of_lt_of_le->o9,zero_le->u4,le_trans->A1,lt_succ_of_lt->A4,lt_irrefl->A9,lt_or_ge->B0,lt_or_eq_of_le->K7,ne_of_gt->L4,zero_add->N9,add_sub_cancel_left->Q6,le_add_right->W0,lt_succ_self->W1,add_le_add_left->W5,le_succ->Z7,lt_trichotomy->Z8,add_sub_cancel->ai7,succ_pos->ai8,le_of_succ_le->al9,le_of_lt_succ->am0,le_of_lt->as0,le_of_eq->as1,add_zero->aP5,min_le_left->aZ1,div_div_eq_div_mul->bB1,sub_self->bB7,testBit_two_pow->bO9,mod_lt->bZ7
open Array renaming getElem?_toList->d7,length_toList->k8,size_push->A5,toList_append->B5,size_extract->G0,size_append->J7,perm_iff_toList_perm->M5,toList_push->Y1,toList_extract->ab1,toList_reverse->ab2,forIn_toList->ag7,size_map->ah8,getElem?_eq_none->an4,toArray_toList->as2,toList_setIfInBounds->aY5,getElem?_append_left->aY7,size_setIfInBounds->bd7,getElem?_replicate->bd8,mem_toList_iff->bB2,setIfInBounds->bB6,append_assoc->bK6,size_reverse->bK8,getD->bP0,toList_map->bY8
open PySem.W renaming nsIn->i7,mg_none_of->v8,mg_of->F7,keepIn->Q5,fnOf->V8,codeIn->aQ1,clsIn->ca1
open Bool renaming false_ne_true->j7,false_eq_true->m8,and_eq_true->D9,not_true->T7,eq_iff_iff->ar7,not_false->bd9,not_eq_true'->bY7
open PyProof.Rows renaming wpS_bind->j8,wpS_pure->l9,arrOf->m9,pendingOf->B6,wpS_forRange->F2,seqObj->J1,IntsAre->M6,envOfC->O1,failedOf->O2,wpS_mono->X2,get?_update_seq->Y3,listUpdate_at->af0,elem'->ai9,mem_zip_self->ak2,sortedHeap->an8,AllBare->aw3,wpS_get->aw4,wpS_modify->ax3,wpS_reverse->aG7,KeyOrd->aL7,mirror_perm->bk0,seqEpoch_at->bk1,entry_list_sort->bk2,slot_list_sort->bp1,setPending->bB3,size_push'->bB4,tuples'->bC3,subscriptTail_builtinR->bL4,call_function_entry_kw->bL7,listItems_at->bP6,plain_sorted->bP7,entry_sorted->bP8,getElem?_mirror_all->ca3,pairsOf->ca4,kind_sorted->ca5,wpAny_call_entry_kw->ca6,callWith_kw->ca7
open Option renaming isSome_iff_exists->p6,toList_some->ax2,getD_none->bO8
open Int renaming toNat_natCast->u6,le_refl->F4,emod_lt_of_pos->G6,mul_one->K9,emod_nonneg->M0,mul_assoc->Q7,mul_le_mul_of_nonneg_left->R0,mul_comm->S8,mul_zero->S9,zero_mul->aa8,mul_sub->ae9,sub_zero->as3,toNat->as4,one_mul->az8,lt_irrefl->aG3,sub_self->aP8,mul_add->aZ0,mul_nonneg->bj4,lt_or_le->bB8,toNat_of_nonneg->bP1,pow_pos->bP2
variable {A:PySem.Around}{B:PyProof.Rows.Keyed->PyProof.Rows.Keyed->Bool}{C CB a c f fT:PySem.Addr}{E Q:PySem.Value->PySem.Shared->Prop}{M:PySem.Model}{N N' ps:List PySem.Str}{P prog:PySem.Program}{R:PyProof.Rows.Keyed->PyProof.Rows.Keyed->Prop}{XP:(PySem.Str->Option PySem.Value)->PySem.Heap->Prop}{YP:PySem.World->PySem.Heap->Prop}{a₀:Array PyProof.Rows.Keyed}{b:Nat->Option (Option Nat) × Nat × Nat->StateT PyProof.Rows.SortSt PySem.Sem (ForInStep (Option (Option Nat) × Nat × Nat))}{body:List PySem.Stmt}{cl:List (PySem.Str × PySem.Addr)}{d:Nat->Int}{e o tg:PySem.Expr}{elts es:List PySem.Expr}{fd fdA fdC fdF fdI fdO fdT fdβ:PySem.FuncData}{fp:List PySem.Addr}{g:Nat->Nat->Bool}{h h':PySem.Heap}{i j n p t':Nat}{its us vs:List PySem.Value}{k ns zs:List Int}{ks:List (List Int)}{l:PySem.Addr->Option PySem.Obj}{lk:List (Option Nat)}{out ra rb:List PyProof.Rows.Keyed}{params:PySem.Arguments}{pins:List (PySem.Addr × PySem.Obj)}{pos:PySem.Pos}{qual x:PySem.Str}{s:PySem.Shared}{scope:PySem.Scope}{t:PySem.SetTable}{tk:PySem.Tok}{u v:PySem.Value}{w:PySem.World}{κ:PyProof.Rows.SortKind}{τ:Nat->Bool}
namespace L2
open PySem PySem.Spec PyProof.Rows
abbrev Key:=Sum Int Str
def bO1:Key->Value->Bool
 | .inl k,v=>Value.isInt k v
 | .inr x,v=>Value.isStrOf x v
def ci6 (w:World):Key->Int
 | .inl k=>hashInt k
 | .inr x=>hashStr w x
theorem L7:∀ {k:Key} {v:Value},bO1 k v=true->(∃ i t,k=Sum.inl i/\v=Value.int i t)\/(∃ x t,k=Sum.inr x/\v=Value.str x t)
 | .inl i,v,h=>by
  obtain⟨t,e⟩:=Value.isInt_shape (k:=i) (v:=v) h
  exact .inl ⟨i,t,rfl,e⟩
 | .inr x,v,h=>by
  obtain⟨t,e⟩:=Value.isStrOf_shape (x:=x) (v:=v) h
  exact .inr ⟨x,t,rfl,e⟩
theorem bV8 (a b:Int):decide ((Sum.inl a:Key)=Sum.inl b)=(a == b):=by
 by_cases e:a=b
 ·subst e;simp
 ·have h:¬ (Sum.inl a:Key)=Sum.inl b:=fun q=>e (Sum.inl.inj q)
  rw[decide_eq_false h]
  exact(beq_eq_false_iff_ne.mpr e).symm
theorem bV5 (a b:Str):decide ((Sum.inr a:Key)=Sum.inr b)=decide (a=b):=by
 by_cases e:a=b
 ·subst e;simp
 ·have h:¬ (Sum.inr a:Key)=Sum.inr b:=fun q=>e (Sum.inr.inj q)
  rw[decide_eq_false h,decide_eq_false e]
theorem bV7 (a:Int)(b:Str):decide ((Sum.inl a:Key)=Sum.inr b)=false:=decide_eq_false (fun q=>nomatch q)
theorem bV6 (a:Str)(b:Int):decide ((Sum.inr a:Key)=Sum.inl b)=false:=decide_eq_false (fun q=>nomatch q)
def aO0 (prog:Program) (w:World):PySem.KeyKind prog w Key where
  is:=bO1
  hash:=ci6 w
  inj:=fun v a b ha hb=>by
    rcases L7 ha with⟨i,t,rfl,rfl⟩ | ⟨x,t,rfl,rfl⟩
    · rcases L7 hb with⟨j,u,rfl,e⟩ | ⟨y,u,rfl,e⟩
      · injection e with e1 _;rw[e1]
      · exact nomatch e
    · rcases L7 hb with⟨j,u,rfl,e⟩ | ⟨y,u,rfl,e⟩
      · exact nomatch e
      · injection e with e1 _;rw[e1]
  byValue := fun k v h => by
    rcases L7 h with⟨i,t,rfl,rfl⟩ | ⟨x,t,rfl,rfl⟩<;>rfl
  pyHash:=fun hv h=>by
    rcases L7 hv with⟨i,t,rfl,rfl⟩ | ⟨x,t,rfl,rfl⟩
    · exact wpAny_pyHash_int h
    · exact wpAny_pyHash_str h
  eqBool:=fun hu hv h=>by
    rcases L7 hu with⟨i,t,rfl,rfl⟩ | ⟨x,t,rfl,rfl⟩
    · rcases L7 hv with⟨j,u,rfl,rfl⟩ | ⟨y,u,rfl,rfl⟩
      · rw[bV8]at h;exact wpAny_eqBool_int h
      · rw[bV7]at h;exact SeqAt.EqAt.int_str i t y u _ _ _ _ h
    · rcases L7 hv with⟨j,u,rfl,rfl⟩ | ⟨y,u,rfl,rfl⟩
      · rw[bV6]at h;exact SeqAt.EqAt.str_int x t j u _ _ _ _ h
      · rw[bV5]at h;exact wpAny_eqBool_str h
  «strs»:=fun k x t v h=>by
    rcases L7 h with⟨i,u,rfl,e⟩ | ⟨y,u,rfl,e⟩
    · exact nomatch e
    · injection e with e1 _
      subst e1
      cases v<;>rfl
inductive V where
 | non | bl (b:Bool) | int (i:Int) | str (x:Str) | byt (b:Array UInt8) | flt (b:UInt64) | ref (a:Addr) | ty (n:String)
 deriving DecidableEq
def RelV:V->Value->Prop
 | .non,u=>u=Value.none
 | .bl b,u=>u=Value.bool b
 | .int i,u=>∃ t,u=Value.int i t
 | .str x,u=>∃ t,u=Value.str x t
 | .byt b,u=>∃ t,u=Value.bytes b t
 | .flt b,u=>∃ t,u=Value.float b t
 | .ref a,u=>u=Value.ref a
 | .ty n,u=>u=Value.type n
abbrev D6:List V->List Value->Prop:=ae6 RelV
theorem D6.length {xs:List V}(r:D6 xs us):xs.length=us.length:=Paired.length r
theorem D6.get:∀ {xs:List V} {us:List Value} {i:Nat} {x:V},D6 xs us->xs[i]?=some x->∃ u,us[i]?=some u/\RelV x u
 | _,_,_,_,.nil,e=>by simp at e
 | _,_,0,_,.cons r _,e=>by simp at e;subst e;exact⟨_,rfl,r⟩
 | _,_,i+1,x,.cons _ t,e=>by
  obtain⟨u,h1,h2⟩:=D6.get (i:=i) (x:=x) t (by simpa using e)
  exact⟨u,by simpa using h1,h2⟩
theorem D6.set {x:V}(r:RelV x u):∀ {xs:List V} {us:List Value} (i:Nat),D6 xs us->D6 (xs.set i x) (us.set i u)
 | _,_,_,.nil=>.nil
 | _,_,0,.cons _ t=>.cons r t
 | _,_,i+1,.cons q t=>.cons q (D6.set r i t)
theorem D6.append:∀ {xs ys:List V} {us ws:List Value},D6 xs us->D6 ys ws->D6 (xs++ys) (us++ws)
 | _,_,_,_,.nil,s=>s
 | _,_,_,_,.cons r t,s=>.cons r (D6.append t s)
theorem D6.take:∀ {xs:List V} {us:List Value} (n:Nat),D6 xs us->D6 (xs.take n) (us.take n)
 | _,_,0,_=>.nil
 | _,_,_+1,.nil=>.nil
 | _,_,n+1,.cons r t=>.cons r (D6.take n t)
theorem D6.drop:∀ {xs:List V} {us:List Value} (n:Nat),D6 xs us->D6 (xs.drop n) (us.drop n)
 | _,_,0,r=>r
 | _,_,_+1,.nil=>.nil
 | _,_,n+1,.cons _ t=>D6.drop n t
def cg1:Option V->Option Value->Prop
 | some v,some u=>RelV v u
 | none,none=>True
 | _,_=>False
def KV {κ:Type}:List (κ × V)->List (κ × Value)->Prop:=ae6 fun(p:κ × V) (q:κ × Value)=>p.1=q.1/\RelV p.2 q.2
def kV:Key->V
 | .inl i=>.int i
 | .inr x=>.str x
inductive HO where
  | lst (xs:List V)
  | tup (xs:List V)
  | dK (kvs:List (Key × V)) | dT (kvs:List (List Key × V))
  | set (S:Int->Bool) (n:Nat)
  | ins (C dx:Addr) (fs:List (Str × V))
  | own (x:Addr)
  | xd (fs:List (Str × V))
  | met (f x:Addr)
  | rng (lo hi:Int)
  | frz (o:Obj) (u:HO)
  | tbl (ps:Array Value)
  | ext (φ:Heap->Prop)
abbrev Hp:=Addr->Option HO
def upd (H:Hp)(a:Addr)(o:HO):Hp:=fun b=>if b=a then some o else H b
theorem c6 {H:Hp}{o:HO}:upd H a o a=some o:=by unfold upd;rw[if_pos rfl]
theorem r9 {H:Hp}{b:Addr}{o:HO}(h:b≠a):upd H a o b=H b:=by unfold upd;rw[if_neg h]
theorem be4 {H:Hp}{o u:HO}:upd (upd H a o) a u=upd H a u:=by
 funext b;unfold upd;split<;>rfl
theorem bN8 {H:Hp}{b:Addr}{o u:HO}(h:H a=some o)(h':H b=some u)(d:o≠u):a≠b:=by
 intro e;subst e;rw[h]at h';exact d (Option.some.inj h')
theorem o8 {H:Hp}{b:Addr}{o:HO}(h:H a=some o)(h':H b=none):a≠b:=by
 intro e;subst e;rw[h]at h';cases h'
section
variable (P:Program) (w:World)
def U1 (H:Hp)(h:Heap)(a:Addr):HO->Prop
 | .lst xs=>xs.length<=j5/\∃ (its:List Value) (n:Nat),D6 xs its/\h.get? a=some { cls:=.type "list",data:=.seq its.toArray n }
 | .tup xs=>xs.length<=j5/\∃ its:List Value,D6 xs its/\IsTup h a its.toArray
 | .dK kvs=>kvs.length<=j5/\(a == sysModules)=false/\∃ vs,KV kvs vs/\h.DictOf (aO0 P w) a vs
 | .dT kvs=>kvs.length<=j5/\(a == sysModules)=false/\∃ xs:List (List Key × Addr × Value),
   ae6 (fun(p:List Key × V) (q:List Key × Addr × Value)=>p.1=q.1/\H q.2.1=some (.tup (p.1.map kV))/\RelV p.2 q.2.2) kvs xs /\
   ∃ o es ep,h.get? a=some o/\o.ExactDict/\o.data=.dict es ep/\es.toList=xs.map (entryOfKey (tupleKind (aO0 P w)))/\(xs.map (·.1)).Nodup
 | .set S n=>h.SetOf (A6 P w) a S n
 | .ins C dx fs=>H dx=some (.own a)/\fs.length<=1000/\dx≠a/\h.get? a=some (PySem.W.instObj C dx) /\
   ∃ mA,h.Ns1 dx mA/\(∀ f,cg1 (fs.lookup f) (mA f))/\PySem.Within mA (fs.map (·.1))
 | .own _=>∃ o,h.get? a=some o
 | .xd fs=>∃ mA,h.Ns1 a mA/\∀ f,cg1 (fs.lookup f) (mA f)
 | .rng lo hi=>∃ t u v,h.get? a=some { cls:=.type "range",data:=.fields #[.int lo t,.int hi u,.int 1 v] }
 | .frz o u=>h.get? a=some o/\U1 H h a u
 | .tbl ps=>h.get? a=some { cls:=.none,data:=.fields ps }
 | .met f x=>h.get? a=some (PySem.W.methodObj (.ref f) (.ref x))
 | .ext φ=>φ h/\(∃ o,h.get? a=some o)/\∀ h1 h2:Heap,φ h1->(∀ o,h1.get? a=some o->h2.get? a=some o)->φ h2
def HOk (H:Hp)(h:Heap):Prop:=∀ a o,H a=some o->U1 P w H h a o
end
section
variable {H H':Hp} {o:HO}
theorem U1.lt (x:U1 P w H h a o):a<h.objs.size:=by
 cases o with
 | lst xs=>obtain⟨_,_,_,_,e⟩:=x;exact c8 e
 | tup xs=>obtain⟨_,_,_,p⟩:=x;exact p.lt
 | dK kvs=>obtain⟨_,_,_,_,o,_,_,e,_⟩:=x;exact c8 e
 | dT kvs=>obtain⟨_,_,_,_,o,_,_,e,_⟩:=x;exact c8 e
 | set S n=>obtain⟨o,_,_,_,e,_⟩:=x;exact c8 e
 | ins C dx fs=>obtain⟨_,_,_,e,_⟩:=x;exact c8 e
 | own y=>obtain⟨_,e⟩:=x;exact c8 e
 | xd fs=>obtain⟨_,⟨_,_,_,e,_⟩,_⟩:=x;exact c8 e
 | rng lo hi=>obtain⟨_,_,_,e⟩:=x;exact c8 e
 | frz ob u=>obtain⟨e,_⟩:=x;exact c8 e
 | tbl ps=>exact c8 (show h.get? a=some _ from x)
 | met f y=>exact c8 (show h.get? a=some _ from x)
 | ext φ=>obtain⟨_,⟨_,e⟩,_⟩:=x;exact c8 e
theorem Paired.mapP {α β:Type}{F G:α->β->Prop}:∀ {l₁:List α} {l₂:List β},ae6 F l₁ l₂->(∀ a b,F a b->G a b)->ae6 G l₁ l₂
 | _,_,.nil,_=>.nil
 | _,_,.cons r t,f=>.cons (f _ _ r) (Paired.mapP t f)
theorem U1.stay (x:U1 P w H h a o)(k:∀ b u,(b=a\/H b=some (.own a))->h.get? b=some u->h'.get? b=some u)
  (ho:∀ b,H b=some (.own a)->H' b=some (.own a))(ht:∀ b xs,H b=some (.tup xs)->H' b=some (.tup xs)):U1 P w H' h' a o:=by
 induction o with
 | lst xs=>obtain⟨z,its,n,r,e⟩:=x;exact⟨z,its,n,r,k _ _ (.inl rfl) e⟩
 | tup xs=>obtain⟨z,its,r,ob,e,c⟩:=x;exact⟨z,its,r,ob,k _ _ (.inl rfl) e,c⟩
 | dK kvs=>obtain⟨z,y,vs,r,ob,es,ep,e,c⟩:=x;exact⟨z,y,vs,r,ob,es,ep,k _ _ (.inl rfl) e,c⟩
 | dT kvs =>
  obtain⟨z,y,xs,r,ob,es,ep,e,c⟩:=x
  exact⟨z,y,xs,Paired.mapP r fun p q z=>⟨z.1,ht _ _ z.2.1,z.2.2⟩,ob,es,ep,k _ _ (.inl rfl) e,c⟩
 | set S n=>obtain⟨ob,es,ep,t,e,c⟩:=x;exact⟨ob,es,ep,t,k _ _ (.inl rfl) e,c⟩
 | ins C dx fs =>
  obtain⟨d,z,ne,e,mA,⟨od,es,ep,e2,c⟩,r⟩:=x
  exact⟨ho _ d,z,ne,k _ _ (.inl rfl) e,mA,⟨od,es,ep,k _ _ (.inr d) e2,c⟩,r⟩
 | own y=>obtain⟨ob,e⟩:=x;exact⟨ob,k _ _ (.inl rfl) e⟩
 | xd fs=>obtain⟨mA,⟨od,es,ep,e,c⟩,r⟩:=x;exact⟨mA,⟨od,es,ep,k _ _ (.inl rfl) e,c⟩,r⟩
 | rng lo hi=>obtain⟨t,u,v,e⟩:=x;exact⟨t,u,v,k _ _ (.inl rfl) e⟩
 | frz ob u ih=>obtain⟨e,q⟩:=x;exact⟨k _ _ (.inl rfl) e,ih q⟩
 | tbl ps =>
  have e:h.get? a=some { cls:=.none,data:=.fields ps }:=x
  show h'.get? a=some { cls:=.none,data:=.fields ps }
  exact k a _ (.inl rfl) e
 | met f y =>
  have e:h.get? a=some (PySem.W.methodObj (.ref f) (.ref y)):=x
  show h'.get? a=some (PySem.W.methodObj (.ref f) (.ref y))
  exact k a _ (.inl rfl) e
 | ext φ=>obtain⟨p,⟨o,e⟩,st⟩:=x;exact⟨st _ _ p fun o q=>k _ _ (.inl rfl) q,⟨o,k _ _ (.inl rfl) e⟩,st⟩
theorem HOk.lt (x:HOk P w H h)(e:H a=some o):a<h.objs.size:=(x a o e).lt
theorem HOk.fresh (x:HOk P w H h)(e:h.objs.size<=a):H a=none:=by
 cases q:H a with
 | none=>rfl
 | some u=>exact absurd (o9 (x.lt q) e) (A9 _)
theorem HOk.kept (x:HOk P w H h)(k:∀ b u,h.get? b=some u->h'.get? b=some u):HOk P w H h':=fun a o e =>
 (x a o e).stay (fun b u _ q=>k b u q) (fun _ q=>q) fun _ _ q=>q
theorem HOk.laid (x:HOk P w H h)(k:∀ b u,h.get? b=some u->h'.get? b=some u)(hp:h.objs.size<=a)(new:U1 P w (upd H a o) h' a o):HOk P w (upd H a o) h':=fun b u e=>by
 have hn:=x.fresh hp
 by_cases hb:b=a
 ·subst hb;rw[c6]at e;cases e;exact new
 ·rw[r9 hb]at e
  exact(x b u e).stay (fun c v _ q=>k c v q) (fun c q=>by rw[r9 (o8 q hn)];exact q) fun c xs q=>by rw[r9 (o8 q hn)];exact q
end
def Rd (H:Hp)(a:Addr)(u:HO):Prop:=H a=some u\/∃ o,H a=some (.frz o u)
theorem Rd.ok {H:Hp}{u:HO}(r:Rd H a u)(x:HOk P w H h):U1 P w H h a u:=by
 rcases r with r | ⟨o,r⟩
 ·exact x a u r
 ·obtain⟨_,q⟩:=x a _ r
  exact q
def Mut:Option HO->Prop
 | some (.lst _)=>True
 | some (.dK _)=>True
 | some (.dT _)=>True
 | some (.set _ _)=>True
 | some (.ins _ _ _)=>True
 | some (.ext _)=>True
 | _=>False
section
variable {H:Hp} {x e:Addr} {o':HO}
theorem HOk.write (ok:HOk P w H h)(mu:Mut (H x))(he:e=x\/H e=some (.own x))(k:∀ b u,b≠e->h.get? b=some u->h'.get? b=some u)(heo:∃ u,h'.get? e=some u)
  (new:U1 P w (upd H x o') h' x o'):HOk P w (upd H x o') h':=fun b u q=>by
 have nown:∀ c y,H c=some (.own y)->c≠x:=fun c y r z=>by subst z;rw[r]at mu;exact mu
 have ntup:∀ c xs,H c=some (.tup xs)->c≠x:=fun c xs r z=>by subst z;rw[r]at mu;exact mu
 by_cases hb:b=x
 ·subst hb;rw[c6]at q;cases q;exact new
 ·rw[r9 hb]at q
  by_cases hbe:b=e
  ·have q':H b=some (.own x):=by
    rcases he with z | z
    ·exact absurd (hbe.trans z) hb
    ·rw[hbe];exact z
   rw[q]at q';cases q'
   obtain⟨v,hv⟩:=heo
   exact⟨v,by rw[hbe];exact hv⟩
  ·refine(ok b u q).stay (fun c v hc r=>k c v ?_ r) (fun c r=>by rw[r9 (nown c b r)];exact r) fun c xs r=>by rw[r9 (ntup c xs r)];exact r
   rcases hc with rfl | hc
   ·exact hbe
   ·rintro rfl
    rcases he with z | z
    ·exact nown c b hc z
    ·rw[hc]at z;cases z;exact hb rfl
end
structure Un (fs ex:List Addr) (H H':Hp) (h h':Heap):Prop where
 keep:∀ b o,h.get? b=some o->H b=none->b∉fs->b∉ex->h'.get? b=some o
 slot:∀ b o,h.get? b=some o->H b=none->b∈fs->b∉ex->∃ sl,h'.get? b=some { o with slots:=sl }
 free:∀ b o,h.get? b=some o->H b=none->b∉ex->H' b=none
 there:∀ b o,h.get? b=some o->b∉ex->∃ o',h'.get? b=some o'
 tups:∀ b xs,H b=some (.tup xs)->H' b=some (.tup xs)
 frzs:∀ b o u,H b=some (.frz o u)->H' b=some (.frz o u)
 tbls:∀ b ps,H b=some (.tbl ps)->∃ more,H' b=some (.tbl (ps++more))
section
variable {fs fs' ex ex':List Addr} {H H1 H2:Hp} {h1 h2:Heap} {x e:Addr} {o:HO}
theorem Un.any (u:Un fs ex H H1 h h1){b:Addr}{ob:Obj}(q:h.get? b=some ob)(n:H b=none)(hx:b∉ex):∃ sl,h1.get? b=some { ob with slots:=sl }:=by
 by_cases hb:b∈fs
 ·exact u.slot b ob q n hb hx
 ·exact⟨ob.slots,u.keep b ob q n hb hx⟩
theorem Un.kept (k:∀ b u,h.get? b=some u->h'.get? b=some u):Un fs ex H H h h':=
 ⟨fun b ob q _ _ _=>k b ob q,fun b ob q _ _ _=>⟨ob.slots,k b ob q⟩,fun _ _ _ n _=>n,fun b ob q _=>⟨ob,k b ob q⟩,fun _ _ q=>q,fun _ _ _ q=>q,fun _ ps q=>⟨#[],by rw[q];simp⟩⟩
theorem Un.refl:Un fs ex H H h h:=Un.kept fun _ _ q=>q
theorem Un.laid (k:∀ b u,h.get? b=some u->h'.get? b=some u)(hp:h.objs.size<=a)(hn:H a=none):Un fs ex H (upd H a o) h h' where
 keep:=fun b u q _ _ _=>k b u q
 slot:=fun b u q _ _ _=>⟨u.slots,k b u q⟩
 free:=fun b u q n _=>by rw[r9 (k7 (o9 (c8 q) hp))];exact n
 there:=fun b u q _=>⟨u,k b u q⟩
 tups:=fun b xs q=>by rw[r9 (o8 q hn)];exact q
 frzs:=fun b u xs q=>by rw[r9 (o8 q hn)];exact q
 tbls:=fun b ps q=>⟨#[],by rw[r9 (o8 q hn),q];simp⟩
theorem Un.write (mu:Mut (H x))(he:e=x\/H e=some (.own x))(k:∀ b u,b≠e->h.get? b=some u->h'.get? b=some u)(heo:∃ u,h'.get? e=some u):Un fs ex H (upd H x o) h h':=by
 have hx:∀ b,H b=none->b≠x:=fun b n z=>by subst z;rw[n]at mu;exact mu
 have hb:∀ b,H b=none->b≠e:=fun b n z=>by
  subst z
  rcases he with r | r
  ·exact hx b n r
  ·rw[n]at r;cases r
 have hm:∀ b u,H b=some u->¬ Mut (some u)->b≠x:=fun b u q nm z=>by subst z;rw[q]at mu;exact nm mu
 refine⟨fun b u q n _ _=>k b u (hb b n) q,fun b u q n _ _=>⟨u.slots,k b u (hb b n) q⟩,fun b u q n _=>by rw[r9 (hx b n)];exact n,fun b u q _=>?_,
  fun b xs q=>by rw[r9 (hm b _ q fun z=>z)];exact q,fun b u xs q=>by rw[r9 (hm b _ q fun z=>z)];exact q,fun b ps q=>⟨#[],by rw[r9 (hm b _ q fun z=>z),q];simp⟩⟩
 by_cases hbe:b=e
 ·subst hbe;exact heo
 ·exact⟨u,k b u hbe q⟩
end
def trk (h:Heap)(H:Hp):List Addr:=(q0 h.objs.size).filter fun a=>(H a).isSome
def aH2 (h:Heap)(H:Hp):Heap:=PySem.W.hideAll h (trk h H)
theorem bm9 (h:Heap)(H:Hp):(aH2 h H).objs.size=h.objs.size:=PySem.W.hideAll_size _ _
theorem bx1 {H:Hp}{b:Addr}{o:Obj}(e:h.get? b=some o)(n:H b=none):(aH2 h H).get? b=some o:=
 PySem.W.hideAll_get _ e fun hm=>by
  have q:(H b).isSome=true:=(O9.mp hm).2
  rw[n]at q;simp at q
theorem bH3 {H:Hp}{b:Addr}{o:Obj}(e:(aH2 h H).get? b=some o):h.get? b=some o/\H b=none:=by
 have e':h.get? b=some o:=PySem.W.of_hideAll (trk h H) e
 refine⟨e',?_⟩
 cases q:H b with
 | none=>rfl
 | some x =>
  have hm:b∈trk h H:=O9.mpr ⟨B7.mpr (c8 e'),by simp[q]⟩
  have z:(aH2 h H).get? b=none:=PySem.W.hideAll_none (trk h H) hm
  rw[z]at e;cases e
def bK0 (g h:Heap)(L:Addr):List (Addr × Obj):=(q0 h.objs.size).filterMap fun a=>if a=L\/(g.get? a).isSome=true then none else (h.get? a).map fun o=>(a,o)
def rest (g h:Heap)(L d:Addr):List (Addr × Obj):=(bK0 g h L).filter fun p=>decide (p.1≠d)
end L2
variable {H H':L2.Hp}{Qd:L2.Hp->Prop}{gV:List L2.V->List L2.V->List L2.V}{xs ys:List L2.V}
namespace L2
open PySem PySem.Spec PyProof.Rows
structure Mod (K:W.Frag) (mg:Str->Option Value) (base:Heap):Prop where
 kin:K.In base
 glob:base.Ns d8 mg
 blt:∃ mb,base.Ns aQ2 mb/\∀ x:Str,x≠"__name__"->mb x=L9 x
 nolimit:base.NoLimit
structure Cx where
 prog:Program
 w:World
 K:W.Frag
 mg:Str->Option Value
 base:Heap
 A:Around
 N:List Str
 s₀:Shared
 H₀:Hp
 env:Env
 outer:List Env
 stack:List Env
 ex:List Addr
 fn:Str->Bool
 calm:Bool
 pn:List (Addr × Obj)
 xe:Value->Shared->Prop
def frs (l:List Env):List Addr:=l.filterMap (·.frame)
abbrev Cx.fs (X:Cx):List Addr:=frs X.outer
def Vis (sc:Scope)(x:Str):Prop:=sc.names.lookup x=some .local\/sc.names.lookup x=some .cell\/sc.names.lookup x=some .free
def Loc (sc:Scope)(x:Str):Prop:=sc.names.lookup x=some .local\/sc.names.lookup x=some .cell
def Look (env:Env)(h:Heap)(m:Str->Option Value)(x:Str)(u:Value):Prop:=
 (env.kindOf x=some .local/\m x=some u)\/((env.kindOf x=some .cell\/env.kindOf x=some .free)/\∃ c,env.cells.lookup x=some c/\h.IsCell c (some u))
structure Cx.Ok (X:Cx):Prop where
 mod:Mod X.K X.mg X.base
 kind:X.env.scope.kind=.function
 glob:X.env.globals=d8
 blt:X.env.builtins=aQ2
 above:X.s₀.heap.objs.size<=X.env.locals
 inj:∀ x y c,X.env.cells.lookup x=some c->X.env.cells.lookup y=some c->x=y
 has:∀ x,(X.env.kindOf x=some .cell\/X.env.kindOf x=some .free)->∃ c,X.env.cells.lookup x=some c
 cab:∀ x c,X.fn x=true->X.env.cells.lookup x=some c->X.s₀.heap.objs.size<=c
 hd:X.calm=true->X.A.handled=none
 frames:X.A.frames=some X.stack
 stk:X.stack=X.outer\/(X.stack=X.env::X.outer/\X.env.frame=some X.env.locals)
 exf:∀ b∈X.ex,b≠X.env.locals/\∀ x c,X.env.cells.lookup x=some c->c≠b
 bs:∀ b o,X.base.get? b=some o->X.s₀.heap.get? b=some o/\X.H₀ b=none
 bsz:X.base.objs.size<=X.s₀.heap.objs.size
 noex:∀ b o,X.base.get? b=some o->b∉X.ex
 exfs:∀ b∈X.ex,b∉X.fs
 funs:X.s₀.heap.FunFrames X.base X.outer
 frf:∀ b∈X.fs,X.H₀ b=none
structure Inv (X:Cx) (pins:List (Addr × Obj)) (σ:List (Option V)) (H:Hp) (s:Shared):Prop where
 ok:X.Ok
 os:s.os=X.s₀.os
 bare:aw3 s.gens
 base:Un X.fs X.ex X.H₀ H X.s₀.heap s.heap
 loc:∃ m,s.heap.Ns X.env.locals m/\∀ (i:Nat) (x:Str) (v:V),X.N[i]?=some x->σ[i]?=some (some v)->Vis X.env.scope x->∃ u,RelV v u/\Look X.env s.heap m x u
 cell:∀ x c,X.env.cells.lookup x=some c->∃ v,s.heap.IsCell c v
 free:H X.env.locals=none
 freeC:∀ x c,X.env.cells.lookup x=some c->H c=none
 pin:∀ p∈X.pn++pins,s.heap.get? p.1=some p.2/\H p.1=none/\p.1≠X.env.locals/\p.1∉X.fs/\∀ v,p.2.data≠.cell v
 hok:HOk X.prog X.w H s.heap
 len:σ.length=X.N.length
section
variable {X:Cx} {σ:List (Option V)}
theorem Cx.Ok.nofr (ok:X.Ok){b:Addr}{o:Obj}(e:X.base.get? b=some o):b∉X.fs:=fun hb=>by
 have:=(ok.funs.mem hb).1
 rw[e]at this;cases this
theorem Inv.bs (I:Inv X pins σ H s):∀ b o,X.base.get? b=some o->s.heap.get? b=some o/\H b=none:=fun b o e =>
 ⟨I.base.keep b o (I.ok.bs b o e).1 (I.ok.bs b o e).2 (I.ok.nofr e) (I.ok.noex b o e),I.base.free b o (I.ok.bs b o e).1 (I.ok.bs b o e).2 (I.ok.noex b o e)⟩
theorem Inv.bk (I:Inv X pins σ H s):∀ b o,X.base.get? b=some o->s.heap.get? b=some o:=fun b o e=>(I.bs b o e).1
theorem Inv.mod (I:Inv X pins σ H s):Mod X.K X.mg X.base:=I.ok.mod
theorem Inv.kIn (I:Inv X pins σ H s):X.K.In s.heap:=I.ok.mod.kin.keeps I.bk
theorem Inv.nolimit (I:Inv X pins σ H s):s.heap.NoLimit:=I.ok.mod.nolimit.keeps I.bk
theorem Inv.lt (I:Inv X pins σ H s):X.env.locals<s.heap.objs.size:=let ⟨_,hn,_⟩:=I.loc;hn.lt
theorem Inv.sz (I:Inv X pins σ H s):X.s₀.heap.objs.size<=s.heap.objs.size:=A1 I.ok.above (as0 I.lt)
theorem Inv.nofs (I:Inv X pins σ H s)(h:s.heap.objs.size<=a):a∉X.fs:=fun hb=>by
 obtain⟨_,o,ho,_⟩:=I.ok.funs.mem hb
 exact absurd (o9 (c8 ho) (A1 I.sz h)) (A9 _)
theorem Inv.cne (I:Inv X pins σ H s):∀ x c,X.env.cells.lookup x=some c->c≠X.env.locals:=fun x c e z=>by
 obtain⟨v,o,ho,hd⟩:=I.cell x c e
 obtain⟨m,⟨o',es,ep,ho',hd',_⟩,_⟩:=I.loc
 rw[z,ho']at ho;cases ho;rw[hd']at hd;cases hd
theorem Inv.funs (I:Inv X pins σ H s):s.heap.FunFrames X.base X.outer:=by
 have all:∀ (l:List Env),(∀ b∈frs l,b∈X.fs)->X.s₀.heap.FunFrames X.base l->s.heap.FunFrames X.base l:=by
  intro l
  induction l with
  | nil=>intro _ _;trivial
  | cons env r ih =>
   intro hs hl
   obtain⟨hk,⟨L,o,hf,hn,ho,hd⟩,hr⟩:=hl
   have hL:L∈X.fs:=hs L (by unfold frs;rw[V9,hf];exact g9)
   obtain⟨sl,e⟩:=I.base.slot L o ho (I.ok.frf L hL) hL fun z=>I.ok.exfs L z hL
   exact⟨hk,⟨L,_,hf,hn,e,hd⟩,ih (fun b hb=>hs b (by unfold frs;rw[V9,hf];exact d3 _ hb)) hr⟩
 exact all X.outer (fun _ hb=>hb) I.ok.funs
theorem Inv.stack (I:Inv X pins σ H s):s.heap.FunFrames X.base X.stack:=by
 rcases I.ok.stk with e | ⟨e,hf⟩
 ·rw[e];exact I.funs
 ·rw[e]
  obtain⟨m,hn,_⟩:=I.loc
  refine .cons (by rw[I.ok.kind];decide) hf hn ?_ I.funs
  exact av2 (A1 I.ok.bsz I.ok.above)
theorem Inv.stkSub (I:Inv X pins σ H s):∀ b∈frs X.stack,b∈X.env.locals::X.fs:=fun b hb=>by
 rcases I.ok.stk with e | ⟨e,hf⟩
 ·rw[e]at hb;exact d3 _ hb
 ·rw[e]at hb
  unfold frs at hb
  rw[V9,hf]at hb
  exact hb
theorem Inv.stkFree (I:Inv X pins σ H s):∀ b∈frs X.stack,H b=none:=fun b hb=>by
 rcases d4.mp (I.stkSub b hb) with e | hb
 ·rw[e];exact I.free
 ·obtain⟨_,o,ho,_⟩:=I.ok.funs.mem hb
  exact I.base.free b o ho (I.ok.frf b hb) fun z=>I.ok.exfs b z hb
theorem Inv.step {g':Array bC0}{d':Drawn}{ch:List Addr}(I:Inv X pins σ H s)
  (hch:∀ b∈ch,(b∈X.ex\/X.s₀.heap.objs.size<=b)/\b≠X.env.locals/\(∀ x c,X.env.cells.lookup x=some c->c≠b)/\∀ p∈X.pn++pins,p.1≠b)
  (keep:∀ b o,b≠X.env.locals->b∉X.fs->b∉ch->s.heap.get? b=some o->H b=none->h'.get? b=some o)
  (slot:∀ b o,b≠X.env.locals->b∈X.fs->b∉ch->s.heap.get? b=some o->H b=none->∃ sl,h'.get? b=some { o with slots:=sl })(free:∀ b o,b∉ch->s.heap.get? b=some o->H b=none->H' b=none)
  (there:∀ b o,b∉ch->s.heap.get? b=some o->∃ o',h'.get? b=some o')
  (tups:∀ b xs,H b=some (.tup xs)->H' b=some (.tup xs))(frzs:∀ b o u,H b=some (.frz o u)->H' b=some (.frz o u))(tbls:∀ b ps,H b=some (.tbl ps)->∃ more,H' b=some (.tbl (ps++more)))
  (ns:∀ m,s.heap.Ns X.env.locals m->h'.Ns X.env.locals m)(hok:HOk X.prog X.w H' h')(hg:aw3 g') :
  Inv X pins σ H' { s with heap:=h',gens:=g',drawn:=d',toks:=t' }:=by
 have neL:∀ b o,X.s₀.heap.get? b=some o->b≠X.env.locals:=fun b o e=>k7 (o9 (c8 e) I.ok.above)
 have neC:∀ b o,X.s₀.heap.get? b=some o->b∉X.ex->b∉ch:=fun b o e hx hb=>by
  rcases(hch b hb).1 with z | z
  ·exact hx z
  ·exact absurd (o9 (c8 e) z) (A9 _)
 have cellK:∀ x c,X.env.cells.lookup x=some c->∀ v,s.heap.IsCell c v->h'.IsCell c v:=fun x c e v ⟨o,ho,hd⟩=>by
  have nch:c∉ch:=fun z=>(hch c z).2.2.1 x c e rfl
  by_cases hc:c∈X.fs
  ·obtain⟨sl,q⟩:=slot c o (I.cne x c e) hc nch ho (I.freeC x c e)
   exact⟨_,q,hd⟩
  ·exact⟨o,keep c o (I.cne x c e) hc nch ho (I.freeC x c e),hd⟩
 refine⟨I.ok,I.os,hg,⟨fun b o e n hb hx=>?_,fun b o e n hb hx=>?_,fun b o e n hx=>?_,fun b o e hx=>?_,fun b xs e=>tups b xs (I.base.tups b xs e),fun b o xs e=>frzs b o xs (I.base.frzs b o xs e),fun b ps e=>?_⟩,?_,fun x c e=>?_,?_,fun x c e=>?_,fun p hp=>?_,hok,I.len⟩
 ·exact keep b o (neL b o e) hb (neC b o e hx) (I.base.keep b o e n hb hx) (I.base.free b o e n hx)
 ·obtain⟨sl,e1⟩:=I.base.slot b o e n hb hx
  obtain⟨sl',e2⟩:=slot b _ (neL b o e) hb (neC b o e hx) e1 (I.base.free b o e n hx)
  exact⟨sl',e2⟩
 ·obtain⟨o',e1⟩:=I.base.there b o e hx
  exact free b o' (neC b o e hx) e1 (I.base.free b o e n hx)
 ·obtain⟨o',e1⟩:=I.base.there b o e hx
  exact there b o' (neC b o e hx) e1
 ·obtain⟨m1,e1⟩:=I.base.tbls b ps e
  obtain⟨m2,e2⟩:=tbls b _ e1
  exact⟨m1++m2,by rw[e2,bK6]⟩
 ·obtain⟨m,hn,hl⟩:=I.loc
  refine⟨m,ns m hn,fun i x v e1 e2 e3=>?_⟩
  obtain⟨u,r,l⟩:=hl i x v e1 e2 e3
  refine⟨u,r,?_⟩
  rcases l with l | ⟨k,c,e,z⟩
  ·exact .inl l
  ·exact .inr ⟨k,c,e,cellK x c e _ z⟩
 ·obtain⟨v,z⟩:=I.cell x c e
  exact⟨v,cellK x c e v z⟩
 ·obtain⟨m,⟨o,_,_,ho,_⟩,_⟩:=I.loc
  exact free _ o (fun z=>(hch _ z).2.1 rfl) ho I.free
 ·obtain⟨v,o,ho,hd⟩:=I.cell x c e
  exact free c o (fun z=>(hch c z).2.2.1 x c e rfl) ho (I.freeC x c e)
 ·obtain⟨e,n,ne,nf,d⟩:=I.pin p hp
  have nch:p.1∉ch:=fun z=>(hch p.1 z).2.2.2 p hp rfl
  exact⟨keep p.1 p.2 ne nf nch e n,free p.1 p.2 nch e n,ne,nf,d⟩
theorem Inv.un (I:Inv X pins σ H s)(u:Un X.fs [] H H' s.heap h')(hok:HOk X.prog X.w H' h'):Inv X pins σ H' { s with heap:=h',toks:=t' }:=by
 obtain⟨m,⟨o,es,ep,ho,r⟩,_⟩:=id I.loc
 obtain⟨sl,hL⟩:=u.any ho I.free (by simp)
 exact I.step (g':=s.gens) (d':=s.drawn) (ch:=[]) (fun _ z=>nomatch z) (fun b o _ hb _ e n=>u.keep b o e n hb (by simp)) (fun b o _ hb _ e n=>u.slot b o e n hb (by simp)) (fun b o _ e n=>u.free b o e n (by simp)) (fun b o _ e=>u.there b o e (by simp)) u.tups u.frzs u.tbls (fun m' hm=>by
  obtain⟨o',es',ep',ho',r'⟩:=hm
  rw[ho]at ho';cases ho'
  exact⟨_,es',ep',hL,r'⟩) hok I.bare
theorem Inv.call {g':Array bC0}{d':Drawn}{ch:List Addr}(I:Inv X pins σ H s)(u:Un (frs X.stack) ch H H' s.heap h')(hok:HOk X.prog X.w H' h')(hg:aw3 g')
  (hch:∀ b∈ch,(b∈X.ex\/X.s₀.heap.objs.size<=b)/\b≠X.env.locals/\(∀ x c,X.env.cells.lookup x=some c->c≠b)/\∀ p∈X.pn++pins,p.1≠b) :
  Inv X pins σ H' { s with heap:=h',gens:=g',drawn:=d',toks:=t' }:=by
 obtain⟨m,⟨o,es,ep,ho,r⟩,_⟩:=id I.loc
 obtain⟨sl,hL⟩:=u.any ho I.free fun z=>(hch _ z).2.1 rfl
 exact I.step (ch:=ch) hch (fun b o hL hb hc e n=>u.keep b o e n (fun z=>(d4.mp (I.stkSub b z)).elim hL hb) hc) (fun b o _ _ hc e n=>u.any e n hc) (fun b o hc e n=>u.free b o e n hc) (fun b o hc e=>u.there b o e hc) u.tups u.frzs u.tbls (fun m' hm=>by
  obtain⟨o',es',ep',ho',r'⟩:=hm
  rw[ho]at ho';cases ho'
  exact⟨_,es',ep',hL,r'⟩) hok hg
theorem Inv.turned {it:Addr}(I:Inv X pins σ H s)(k:∀ b o,b≠it->s.heap.get? b=some o->h'.get? b=some o)(hn:H it=none)(hL:it≠X.env.locals)
  (h1:it∈X.ex\/X.s₀.heap.objs.size<=it)(h2:∀ x c,X.env.cells.lookup x=some c->c≠it)(h3:∀ p∈X.pn++pins,p.1≠it):Inv X pins σ H { s with heap:=h',toks:=t' }:=by
 have nit:∀ b u,H b=some u->b≠it:=fun b u e z=>by rw[z,hn]at e;cases e
 refine I.step (g':=s.gens) (d':=s.drawn) (ch:=[it]) (fun b hb=>?_) (fun b o _ _ hc e _=>k b o (fun z=>hc (by simp[z])) e) (fun b o _ _ hc e _=>⟨o.slots,k b o (fun z=>hc (by simp[z])) e⟩) (fun _ _ _ _ n=>n)
  (fun b o hc e=>⟨o,k b o (fun z=>hc (by simp[z])) e⟩) (fun _ _ e=>e) (fun _ _ _ e=>e) (fun b ps e=>⟨#[],by rw[e];simp⟩) (fun m hm=>?_) (fun b u e=>?_) I.bare
 ·have e:b=it:=by simpa using hb
  subst e
  exact⟨h1,hL,h2,h3⟩
 ·obtain⟨o,es,ep,ho,r⟩:=hm
  exact⟨o,es,ep,k _ o (Ne.symm hL) ho,r⟩
 ·refine(I.hok b u e).stay (fun c v hc q=>k c v ?_ q) (fun _ q=>q) fun _ _ q=>q
  rcases hc with z | z
  ·rw[z];exact nit b u e
  ·exact nit c _ z
theorem Inv.tok (I:Inv X pins σ H s)(t:Nat):Inv X pins σ H { s with toks:=t }:=I.un (h':=s.heap) (t':=t) Un.refl I.hok
theorem Inv.kept (I:Inv X pins σ H s)(k:∀ b u,s.heap.get? b=some u->h'.get? b=some u):Inv X pins σ H { s with heap:=h',toks:=t' }:=I.un (Un.kept k) (I.hok.kept k)
theorem Inv.laid {o:HO}(I:Inv X pins σ H s)(k:∀ b u,s.heap.get? b=some u->h'.get? b=some u)(hp:s.heap.objs.size<=a)(new:U1 X.prog X.w (upd H a o) h' a o) :
  Inv X pins σ (upd H a o) { s with heap:=h',toks:=t' }:=I.un (Un.laid k hp (I.hok.fresh hp)) (I.hok.laid k hp new)
theorem Inv.write {x e:Addr}{o:HO}(I:Inv X pins σ H s)(mu:Mut (H x))(he:e=x\/H e=some (.own x))(k:∀ b u,b≠e->s.heap.get? b=some u->h'.get? b=some u)(heo:∃ u,h'.get? e=some u)
  (new:U1 X.prog X.w (upd H x o) h' x o):Inv X pins σ (upd H x o) { s with heap:=h',toks:=t' }:=I.un (Un.write mu he k heo) (I.hok.write mu he k heo new)
theorem Inv.pins_of {pins':List (Addr × Obj)}(I:Inv X pins σ H s)(h:∀ p∈pins',s.heap.get? p.1=some p.2/\H p.1=none/\p.1≠X.env.locals/\p.1∉X.fs/\∀ v,p.2.data≠.cell v):Inv X pins' σ H s:=
 ⟨I.ok,I.os,I.bare,I.base,I.loc,I.cell,I.free,I.freeC,fun p hp=>(y7.mp hp).elim (fun z=>I.pin p (G4 _ z)) (h p),I.hok,I.len⟩
theorem aC7 (hN:N.Nodup)(a:N[i]?=some x)(b:N[j]?=some x):i=j:=by
 obtain⟨h1,e1⟩:=c9.mp a
 obtain⟨h2,e2⟩:=c9.mp b
 exact(List.getElem_inj hN).mp (e1.trans e2.symm)
theorem aI0 {v:V}{Q:Unit->Shared->Prop}(I:Inv X pins σ H s)(hN:X.N.Nodup)(hi:X.N[i]?=some x)(hx:Loc X.env.scope x)(r:RelV v u)
  (h:∀ s',Inv X pins (σ.set i (some v)) H s'->(∃ a,Heap.SameBut a s.heap s'.heap/\(a=X.env.locals\/X.env.cells.lookup x=some a))->Q () s')(hf:X.fn x=true\/X.env.scope.names.lookup x=some .local:=by first | exact .inl rfl | exact .inr rfl | assumption):r6 M A (storeName X.env x u) Q E s:=by
 obtain⟨m,hn,hl⟩:=id I.loc
 have hcls:(X.env.scope.kind == .class || (X.env.scope.kind == .module && X.env.locals != X.env.globals))=false:=by rw[I.ok.kind];rfl
 have hiσ:i<σ.length:=by rw[I.len];exact(c9.mp hi).1
 have cne:=I.cne
 have tracked:∀ {a:Addr} {h':Heap},(∃ o,s.heap.get? a=some o/\H a=none)->Heap.SameBut a s.heap h'->HOk X.prog X.w H h':=fun {a h'} ha hs b ob e=>by
  obtain⟨_,_,hfree⟩:=ha
  refine(I.hok b ob e).stay (fun c w' hc q=>(hs.2 c ?_).trans q) (fun _ q=>q) fun _ _ q=>q
  rintro rfl
  rcases hc with rfl | hc
  ·rw[hfree]at e;cases e
  ·rw[hfree]at hc;cases hc
 rcases hx with hk | hk
 ·refine wpAny_storeName_local hk hn (fun h' hn' hs=>?_) hcls
  obtain⟨oL,_,_,hoL,_⟩:=id hn
  refine h _ ⟨I.ok,I.os,I.bare,⟨fun b o e n hb hx=>?_,fun b o e n hb hx=>?_,I.base.free,fun b o e hx=>?_,I.base.tups,I.base.frzs,I.base.tbls⟩,⟨_,hn',fun j y v' e1 e2 e3=>?_⟩,fun y c e=>?_,I.free,I.freeC,fun p hp=>?_,tracked ⟨oL,hoL,I.free⟩ hs,by simpa using I.len⟩ ⟨_,hs,.inl rfl⟩
  ·exact(hs.2 b (k7 (o9 (c8 e) I.ok.above))).trans (I.base.keep b o e n hb hx)
  ·obtain⟨sl,e1⟩:=I.base.slot b o e n hb hx
   exact⟨sl,(hs.2 b (k7 (o9 (c8 e) I.ok.above))).trans e1⟩
  ·obtain⟨o',e1⟩:=I.base.there b o e hx
   exact⟨o',(hs.2 b (k7 (o9 (c8 e) I.ok.above))).trans e1⟩
  ·by_cases hj:j=i
   ·subst hj
    rw[hi]at e1;cases e1
    rw[ap1 hiσ]at e2
    cases e2
    exact⟨u,r,.inl ⟨hk,by simp⟩⟩
   ·rw[ac3 (Ne.symm hj)]at e2
    obtain⟨u',r',q⟩:=hl j y v' e1 e2 e3
    refine⟨u',r',?_⟩
    rcases q with⟨k,e⟩ | ⟨k,c,e,z⟩
    ·refine .inl ⟨k,?_⟩
     have:y≠x:=fun e=>hj (aC7 hN e1 (e ▸ hi))
     simp[this,e]
    ·exact .inr ⟨k,c,e,z.sameBut hs (cne y c e)⟩
  ·obtain⟨w',z⟩:=I.cell y c e
   exact⟨w',z.sameBut hs (cne y c e)⟩
  ·obtain⟨e,n,ne,nf,d⟩:=I.pin p hp
   exact⟨(hs.2 p.1 ne).trans e,n,ne,nf,d⟩
 ·have hfn:X.fn x=true:=by
   rcases hf with z | z
   ·exact z
   ·rw[z]at hk;cases hk
  obtain⟨c,hc⟩:=I.ok.has x (.inl hk)
  obtain⟨w',z⟩:=I.cell x c hc
  refine wpAny_storeName_cell I.ok.kind hk hc z (fun h' hc' hs=>?_)
  obtain⟨oc,hoc,hocd⟩:=id z
  refine h { s with heap:=h' } ⟨I.ok,I.os,I.bare,⟨fun b o e n hb hx=>?_,fun b o e n hb hx=>?_,I.base.free,fun b o e hx=>?_,I.base.tups,I.base.frzs,I.base.tbls⟩,⟨m,hn.sameBut hs (Ne.symm (cne x c hc)),fun j y v' e1 e2 e3=>?_⟩,fun y c' e=>?_,I.free,I.freeC,fun p hp=>?_,tracked ⟨oc,hoc,I.freeC x c hc⟩ hs,by simpa using I.len⟩ ⟨c,hs,.inr hc⟩
  ·exact(hs.2 b (k7 (o9 (c8 e) (I.ok.cab x c hfn hc)))).trans (I.base.keep b o e n hb hx)
  ·obtain⟨sl,e1⟩:=I.base.slot b o e n hb hx
   exact⟨sl,(hs.2 b (k7 (o9 (c8 e) (I.ok.cab x c hfn hc)))).trans e1⟩
  ·obtain⟨o',e1⟩:=I.base.there b o e hx
   exact⟨o',(hs.2 b (k7 (o9 (c8 e) (I.ok.cab x c hfn hc)))).trans e1⟩
  ·by_cases hj:j=i
   ·subst hj
    rw[hi]at e1;cases e1
    rw[ap1 hiσ]at e2
    cases e2
    exact⟨u,r,.inr ⟨.inl hk,c,hc,hc'⟩⟩
   ·rw[ac3 (Ne.symm hj)]at e2
    obtain⟨u',r',q⟩:=hl j y v' e1 e2 e3
    refine⟨u',r',?_⟩
    rcases q with q | ⟨k,c',e,z'⟩
    ·exact .inl q
    ·refine .inr ⟨k,c',e,z'.sameBut hs ?_⟩
     rintro rfl
     exact hj (aC7 hN e1 (I.ok.inj _ _ _ e hc ▸ hi))
  ·by_cases hcc:c'=c
   ·subst hcc;exact⟨_,hc'⟩
   ·obtain⟨w2,z2⟩:=I.cell y c' e
    exact⟨w2,z2.sameBut hs hcc⟩
  ·obtain⟨e,n,ne,nf,d⟩:=I.pin p hp
   refine⟨(hs.2 p.1 ?_).trans e,n,ne,nf,d⟩
   intro q
   rw[q,hoc]at e
   have q':oc=p.2:=Option.some.inj e
   exact d w' (by rw[<- q'];exact hocd)
theorem ap8 {v:V}{Q:Unit->Shared->Prop}(I:Inv X pins σ H s)(hN:X.N.Nodup)(hi:X.N[i]?=some x)(hx:Loc X.env.scope x)(r:RelV v u)
  (h:∀ s',Inv X pins (σ.set i (some v)) H s'->Q () s')(hf:X.fn x=true\/X.env.scope.names.lookup x=some .local:=by first | exact .inl rfl | exact .inr rfl | assumption):r6 M A (storeName X.env x u) Q E s:=
 aI0 I hN hi hx r (fun s' I' _=>h s' I') hf
theorem Inv.call' {s':Shared}{ch:List Addr}(I:Inv X pins σ H s)(ho:s'.os=s.os)(u:Un (frs X.stack) ch H H' s.heap s'.heap)(hok:HOk X.prog X.w H' s'.heap)(hg:aw3 s'.gens)
  (hch:∀ b∈ch,(b∈X.ex\/X.s₀.heap.objs.size<=b)/\b≠X.env.locals/\(∀ x c,X.env.cells.lookup x=some c->c≠b)/\∀ p∈X.pn++pins,p.1≠b):Inv X pins σ H' s':=by
 obtain⟨h',g',d',t',o'⟩:=s'
 have e:o'=s.os:=ho
 subst e
 exact I.call (g':=g') (t':=t') (d':=d') u hok hg hch
end
abbrev XK:=Value->Option Addr->Hp->Prop
abbrev St:=List (Option V)
abbrev VK:=V->Hp->Prop
abbrev TE:=St->Hp->VK->Prop
abbrev TT:=St->Hp->(Bool->Hp->Prop)->Prop
abbrev TA:=St->Hp->(List V->Hp->Prop)->Prop
structure Ends where
 nx:St->Hp->Prop
 rt:VK
 bk:St->Hp->Prop:=fun _ _=>False
 ct:St->Hp->Prop:=fun _ _=>False
abbrev TS:=Ends->St->Hp->Prop
def EP (X:Cx)(pins:List (Addr × Obj))(σ:St)(Q:VK)(u:Value)(s':Shared):Prop:=∃ v H',Inv X pins σ H' s'/\RelV v u/\Q v H'
def TP (X:Cx)(pins:List (Addr × Obj))(σ:St)(Q:Bool->Hp->Prop)(b:Bool)(s':Shared):Prop:=∃ H',Inv X pins σ H' s'/\Q b H'
def AP (X:Cx)(pins:List (Addr × Obj))(σ:St)(Q:List V->Hp->Prop)(us:List Value)(s':Shared):Prop:=∃ vs H',Inv X pins σ H' s'/\D6 vs us/\Q vs H'
def SP (X:Cx)(pins:List (Addr × Obj))(D:Ends)(f:Flow)(s':Shared):Prop:=
 match f with
 | .next=>∃ σ' H',Inv X pins σ' H' s'/\D.nx σ' H'
 | .brk=>∃ σ' H',Inv X pins σ' H' s'/\D.bk σ' H'
 | .cont=>∃ σ' H',Inv X pins σ' H' s'/\D.ct σ' H'
 | .ret u=>∃ v σ' H',Inv X pins σ' H' s'/\RelV v u/\D.rt v H'
def PE (X:Cx)(e:Expr)(t:TE):Prop:=
 ∀ (pins:List (Addr × Obj)) (s:Shared) (σ:St) (H:Hp) (Q:VK),Inv X pins σ H s->t σ H Q->r6 (t9 X.prog X.w) X.A (eval e X.env) (EP X pins σ Q) X.xe s
def PT (X:Cx)(e:Expr)(t:TT):Prop:=
 ∀ (pins:List (Addr × Obj)) (s:Shared) (σ:St) (H:Hp) (Q:Bool->Hp->Prop),Inv X pins σ H s->t σ H Q->r6 (t9 X.prog X.w) X.A (isTrue e X.env (eval e X.env)) (TP X pins σ Q) X.xe s
def PW (X:Cx)(e:Expr)(t:TT):Prop:=
 ∀ (whole:Sem Value) (pins:List (Addr × Obj)) (s:Shared) (σ:St) (H:Hp) (Q:Bool->Hp->Prop),Inv X pins σ H s->t σ H Q->r6 (t9 X.prog X.w) X.A (isTrue e X.env whole) (TP X pins σ Q) X.xe s
theorem PW.pt {X:Cx}{t:TT}(h:PW X e t):PT X e t:=h _
def PA (X:Cx)(es:List Expr)(t:TA):Prop:=
 ∀ (pos:Pos) (pins:List (Addr × Obj)) (s:Shared) (σ:St) (H:Hp) (Q:List V->Hp->Prop),Inv X pins σ H s->t σ H Q->r6 (t9 X.prog X.w) X.A (spliced (S4 pos (u5 es X.env))) (AP X pins σ Q) X.xe s
def PS (X:Cx)(st:Stmt)(t:TS):Prop:=
 ∀ (pins:List (Addr × Obj)) (s:Shared) (σ:St) (H:Hp) (D:Ends),Inv X pins σ H s->t D σ H->r6 (t9 X.prog X.w) X.A (exec st X.env) (SP X pins D) X.xe s
def PSs (X:Cx)(st:List Stmt)(t:TS):Prop:=
 ∀ (pins:List (Addr × Obj)) (s:Shared) (σ:St) (H:Hp) (D:Ends),Inv X pins σ H s->t D σ H->r6 (t9 X.prog X.w) X.A (execs st X.env) (SP X pins D) X.xe s
theorem thn {α:Type}{t:Sem α}{Q Q':α->Shared->Prop}(h:r6 M A t Q E s)(hQ:∀ a s,Q a s->Q' a s):r6 M A t Q' E s:=E1 h hQ fun _ _ x=>x
end L2
variable {X:L2.Cx}{r:L2.V->List L2.V->L2.Hp->L2.VK->Prop}{ta te:L2.TE}{σ:L2.St}
namespace L2
open PySem PySem.Spec PyProof.Rows
section
def cb0 (i:Nat):TE:=fun σ H Q=>∃ v,σ[i]?=some (some v)/\Q v H
def tC (v:V):TE:=fun _ H Q=>Q v H
theorem bt0 (hN:X.N[i]?=some x)(hv:Vis X.env.scope x)(hd:(x == ("__debug__":Str))=false:=by decide)(hcd:(x == ("__classdict__":Str))=false:=by decide):PE X (.Name x pos) (cb0 i):=by
 intro pins s σ H Q I h
 obtain⟨v,e,h⟩:=h
 obtain⟨m,hn,hl⟩:=I.loc
 obtain⟨u,r,l⟩:=hl i x v hN e hv
 have fin:EP X pins σ Q u s:=⟨v,H,I,r,h⟩
 rcases l with⟨hk,hm⟩ | ⟨hk,c,hc,hcell⟩
 ·exact wpAny_Name (bZ2 I.ok.kind hk hn hm fin) hd
 ·rcases hk with hk | hk
  ·exact wpAny_Name (ca2 I.ok.kind hk hc hcell fin) hd
  ·exact wpAny_Name (wpAny_loadName_free I.ok.kind hk hc hcell fin hcd) hd
theorem i9 {i j pos}:PE X (.Constant (.int i) j pos) (tC (.int i)):=fun _ _ _ H _ I h=>wpAny_Constant_int ⟨.int i,H,I.tok _,⟨_,rfl⟩,h⟩
theorem ah2 {b j pos}:PE X (.Constant (.bool b) j pos) (tC (.bl b)):=fun _ _ _ H _ I h=>Constant_bool ⟨.bl b,H,I,rfl,h⟩
theorem bt3 {j pos}:PE X (.Constant .none j pos) (tC .non):=fun _ _ _ H _ I h=>Constant_none ⟨.non,H,I,rfl,h⟩
theorem aB9 {x j pos}:PE X (.Constant (.str x) j pos) (tC (.str x)):=fun _ _ _ H _ I h=>Calls.Constant_str ⟨.str x,H,I.tok _,⟨_,rfl⟩,h⟩
def Gl (X:Cx)(x:Str):Prop:=X.env.kindOf x=some .globalImplicit
theorem af9 (I:Inv X pins σ H s)(hg:Gl X x)(hm:X.mg x=some u)(h:Q u s)
  (hd:(x == ("__debug__":Str))=false:=by decide):r6 (t9 X.prog X.w) X.A (eval (.Name x pos) X.env) Q E s :=
 Calls.Name_function_global I.ok.kind hg (Calls.loadGlobal_global (by rw[I.ok.glob];exact I.mod.glob.keeps I.bk) hm h) hd
theorem X8 (I:Inv X pins σ H s)(hg:Gl X x)(hm:X.mg x=none)(hv:L9 x=some u)(h:Q u s)
  (hn:x≠"__name__":=by decide)(hd:(x == ("__debug__":Str))=false:=by decide):r6 (t9 X.prog X.w) X.A (eval (.Name x pos) X.env) Q E s:=by
 obtain⟨mb,h1,h2⟩:=I.mod.blt
 exact Calls.Name_function_global I.ok.kind hg (Calls.loadGlobal_builtin (by rw[I.ok.glob];exact I.mod.glob.keeps I.bk) hm (by rw[I.ok.blt];exact h1.keeps I.bk) ((h2 x hn).trans hv) h) hd
theorem S6 {v:V}(hg:Gl X x)(hm:X.mg x=some u)(r:RelV v u)(hd:(x == ("__debug__":Str))=false:=by decide):PE X (.Name x pos) (tC v) :=
 fun _ _ _ H _ I h=>af9 I hg hm ⟨v,H,I,r,h⟩ hd
theorem bF5 {v:V}(hg:Gl X x)(hm:X.mg x=none)(hv:L9 x=some u)(r:RelV v u)(hn:x≠"__name__":=by decide)(hd:(x == ("__debug__":Str))=false:=by decide):PE X (.Name x pos) (tC v) :=
 fun _ _ _ H _ I h=>X8 I hg hm hv ⟨v,H,I,r,h⟩ hn hd
variable {a b:Expr} {tb:TE}
def tB (t:TE):TT:=fun σ H Q=>t σ H fun x H1=>∃ c,x=.bl c/\Q c H1
theorem aB3 {t:TE}(h:PE X e t)(he:∀ whole,isTrue e X.env whole=(do let v <- whole;standAt e.pos;aG4 [v] (truthy v)):=by intro _;rfl):PT X e (tB t):=by
 intro pins s σ H Q I hw
 refine isTrue_plain (thn (h pins s σ H _ I hw) fun v s1 ⟨x,H1,I1,r1,q1⟩=>?_) (he _)
 obtain⟨d,rfl,q⟩:=q1
 cases r1
 exact M3 ⟨H1,I1,q⟩
variable {tA tB':TT} {rest:List Expr}
def ch8 (t u:TT):TT:=fun σ H Q=>t σ H fun c H1=>if c=true then u σ H1 Q else Q false H1
def tOr (t u:TT):TT:=fun σ H Q=>t σ H fun c H1=>if c=true then Q true H1 else u σ H1 Q
def ch2 (t:TT):TT:=fun σ H Q=>t σ H fun c H1=>Q (!c) H1
theorem bE8 (ha:PT X a tA):PW X (.BoolOp .And [a] pos) tA:=by
 intro wh pins s σ H Q I h
 refine isTrue_and (thn (ha pins s σ H Q I h) fun c s1 e=>?_)
 cases c with
 | true=>exact isTrue_and_nil e
 | false=>exact e
theorem at6 (ha:PT X a tA):PW X (.BoolOp .Or [a] pos) tA:=by
 intro wh pins s σ H Q I h
 refine isTrue_or (thn (ha pins s σ H Q I h) fun c s1 e=>?_)
 cases c with
 | false=>exact isTrue_or_nil e
 | true=>exact e
theorem bT0 (ha:PT X a tA)(hb:PW X (.BoolOp .And (b::rest) pos) tB'):PW X (.BoolOp .And (a::b::rest) pos) (ch8 tA tB'):=by
 intro wh pins s σ H Q I h
 refine isTrue_and (thn (ha pins s σ H _ I h) fun c s1 ⟨H1,I1,q1⟩=>?_)
 cases c with
 | true=>exact hb wh pins s1 σ H1 Q I1 q1
 | false=>exact⟨H1,I1,q1⟩
theorem aI7 (ha:PT X a tA)(hb:PW X (.BoolOp .Or (b::rest) pos) tB'):PW X (.BoolOp .Or (a::b::rest) pos) (tOr tA tB'):=by
 intro wh pins s σ H Q I h
 refine isTrue_or (thn (ha pins s σ H _ I h) fun c s1 ⟨H1,I1,q1⟩=>?_)
 cases c with
 | true=>exact⟨H1,I1,q1⟩
 | false=>exact hb wh pins s1 σ H1 Q I1 q1
theorem af5 (ha:PT X a tA):PT X (.UnaryOp .Not a pos) (ch2 tA):=by
 intro pins s σ H Q I h
 exact isTrue_not (ha pins s σ H (fun c H1=>Q (!c) H1) I h)
def cc1 (ta tb:TE):TE:=fun σ H Q=>ta σ H fun x H1=>∃ c,x=.bl c/\if c=true then tb σ H1 Q else Q (.bl false) H1
theorem bT2 {op}{t:TE}(h:PE X a t):PE X (.BoolOp op [a] pos) t:=fun pins s σ H Q I hw=>BoolOp_one (h pins s σ H Q I hw)
theorem bT5 (ha:PE X a ta)(hb:PE X (.BoolOp .And (b::rest) pos) tb):PE X (.BoolOp .And (a::b::rest) pos) (cc1 ta tb):=by
 intro pins s σ H Q I h
 refine BoolOp_and (thn (ha pins s σ H _ I h) fun v s1 ⟨x,H1,I1,r1,q1⟩=>?_)
 obtain⟨c,rfl,q1⟩:=q1
 cases r1
 refine M3 ?_
 cases c with
 | true=>exact hb pins s1 σ H1 Q I1 q1
 | false=>exact⟨.bl false,H1,I1,rfl,q1⟩
def tIf (t:TT)(ta tb:TE):TE:=fun σ H Q=>t σ H fun c H1=>if c=true then ta σ H1 Q else tb σ H1 Q
theorem aU2 {c:Expr}(hc:PT X c tA)(ha:PE X a ta)(hb:PE X b tb):PE X (.IfExp c a b pos) (tIf tA ta tb):=by
 intro pins s σ H Q I h
 refine wpAny_IfExp (thn (hc pins s σ H _ I h) fun d s1 ⟨H1,I1,q1⟩=>?_)
 cases d with
 | true=>exact ha pins s1 σ H1 Q I1 q1
 | false=>exact hb pins s1 σ H1 Q I1 q1
end
def SqL (K:W.Frag)(H:Hp)(a:Addr)(xs:List V):Prop:=
 Rd H a (.lst xs) \/
  ∃ (o:Obj) (its:Array Value) (n:Nat),K.lookup a=some o/\o.cls=.type "list"/\o.dict=none/\o.data=.seq its n/\its.size<=j5/\D6 xs its.toList
def SqT (K:W.Frag)(H:Hp)(a:Addr)(xs:List V):Prop:=
 Rd H a (.tup xs) \/
  ∃ (o:Obj) (its:Array Value) (n:Nat),K.lookup a=some o/\o.cls=.type "tuple"/\o.data=.seq its n/\its.size<=j5/\D6 xs its.toList
def cj4:Value->Option V
 | .none=>some .non
 | .bool b=>some (.bl b)
 | .int i _=>some (.int i)
 | .str x _=>some (.str x)
 | .bytes b _=>some (.byt b)
 | .float b _=>some (.flt b)
 | .ref a=>some (.ref a)
 | .type n=>some (.ty n)
 | _=>none
theorem RelV.abs {x:V}(r:RelV x u):cj4 u=some x:=by
 cases x with
 | non=>cases r;rfl
 | bl _=>cases r;rfl
 | int _=>obtain⟨t,rfl⟩:=r;rfl
 | str _=>obtain⟨t,rfl⟩:=r;rfl
 | byt _=>obtain⟨t,rfl⟩:=r;rfl
 | flt _=>obtain⟨t,rfl⟩:=r;rfl
 | ref _=>cases r;rfl
 | ty _=>cases r;rfl
theorem RelV.inj {x y:V}(r:RelV x u)(q:RelV y u):x=y:=Option.some.inj (r.abs.symm.trans q.abs)
theorem D6.inj:∀ {xs ys:List V} {us:List Value},D6 xs us->D6 ys us->xs=ys
 | _,_,_,.nil,.nil=>rfl
 | _,_,_,.cons r t,.cons r' t'=>by rw[r.inj r',D6.inj t t']
theorem SqL.of {K:W.Frag}(h:H a=some (.lst xs)):SqL K H a xs:=.inl (.inl h)
theorem SqT.of {K:W.Frag}(h:H a=some (.tup xs)):SqT K H a xs:=.inl (.inl h)
theorem Inv.list (I:Inv X pins σ H s)(h:SqL X.K H a xs):∃ its:List Value,D6 xs its/\PlainL s.heap a its.toArray/\xs.length<=j5:=by
 rcases h with h | ⟨o,its,n,hk,hc,hd,hs,hz,r⟩
 ·obtain⟨z,its,n,r,e⟩:=h.ok I.hok
  exact⟨its,r,⟨_,n,e,rfl,rfl,rfl⟩,z⟩
 ·refine⟨its.toList,r,⟨o,n,I.kIn a o hk,hc,hd,by simpa using hs⟩,?_⟩
  have e:=r.length
  simp only[k8]at e
  omega
theorem Inv.tuple (I:Inv X pins σ H s)(h:SqT X.K H a xs):∃ its:List Value,D6 xs its/\IsTup s.heap a its.toArray/\xs.length<=j5:=by
 rcases h with h | ⟨o,its,n,hk,hc,hs,hz,r⟩
 ·obtain⟨z,its,r,p⟩:=h.ok I.hok
  exact⟨its,r,p,z⟩
 ·refine⟨its.toList,r,⟨o,I.kIn a o hk,hc,n,by simpa using hs⟩,?_⟩
  have e:=r.length
  simp only[k8]at e
  omega
theorem Inv.list_inj (I:Inv X pins σ H s)(h:SqL X.K H a xs)(h':SqL X.K H a ys):xs=ys:=by
 obtain⟨its,r,⟨o,n,e,_,_,d⟩,_⟩:=I.list h
 obtain⟨its',r',⟨o',n',e',_,_,d'⟩,_⟩:=I.list h'
 rw[e]at e';cases e'
 rw[d]at d'
 injection d' with d1 _
 have:its=its':=by simpa using congrArg Array.toList d1
 subst this
 exact r.inj r'
theorem Inv.tuple_inj (I:Inv X pins σ H s)(h:SqT X.K H a xs)(h':SqT X.K H a ys):xs=ys:=by
 obtain⟨its,r,⟨o,e,_,n,d⟩,_⟩:=I.tuple h
 obtain⟨its',r',⟨o',e',_,n',d'⟩,_⟩:=I.tuple h'
 rw[e]at e';cases e'
 rw[d]at d'
 injection d' with d1 _
 have:its=its':=by simpa using congrArg Array.toList d1
 subst this
 exact r.inj r'
abbrev Cx.wish (X:Cx)(E:Value->Shared->Prop):Cx:={ X with xe:=E }
abbrev Cx.nox (X:Cx):Cx:=X.wish fun _ _=>False
theorem Cx.Ok.wish (ok:X.Ok)(E:Value->Shared->Prop):(X.wish E).Ok:=
 ⟨ok.mod,ok.kind,ok.glob,ok.blt,ok.above,ok.inj,ok.has,ok.cab,ok.hd,ok.frames,ok.stk,ok.exf,ok.bs,ok.bsz,ok.noex,ok.exfs,ok.funs,ok.frf⟩
theorem Cx.Ok.unwish (ok:(X.wish E).Ok):X.Ok:=
 ⟨ok.mod,ok.kind,ok.glob,ok.blt,ok.above,ok.inj,ok.has,ok.cab,ok.hd,ok.frames,ok.stk,ok.exf,ok.bs,ok.bsz,ok.noex,ok.exfs,ok.funs,ok.frf⟩
theorem Inv.wish (I:Inv X pins σ H s)(E:Value->Shared->Prop):Inv (X.wish E) pins σ H s:=⟨I.ok.wish E,I.os,I.bare,I.base,I.loc,I.cell,I.free,I.freeC,I.pin,I.hok,I.len⟩
theorem Inv.unwish (I:Inv (X.wish E) pins σ H s):Inv X pins σ H s:=⟨I.ok.unwish,I.os,I.bare,I.base,I.loc,I.cell,I.free,I.freeC,I.pin,I.hok,I.len⟩
theorem SP.unwish {D:Ends}{f:Flow}{s':Shared}(h:SP (X.wish E) pins D f s'):SP X pins D f s':=by
 cases f with
 | next=>obtain⟨σ',H',I,q⟩:=h;exact⟨σ',H',I.unwish,q⟩
 | brk=>obtain⟨σ',H',I,q⟩:=h;exact⟨σ',H',I.unwish,q⟩
 | cont=>obtain⟨σ',H',I,q⟩:=h;exact⟨σ',H',I.unwish,q⟩
 | ret u=>obtain⟨v,σ',H',I,r,q⟩:=h;exact⟨v,σ',H',I.unwish,r,q⟩
theorem PSs.nox {st:List Stmt}{t:TS}(h:PSs X.nox st t):PSs X st t:=fun pins s σ H D I hw =>
 E1 (h pins s σ H D (I.wish _) hw) (fun _ _ q=>q.unwish) fun _ _ z=>False.elim z
section
variable {st:Stmt} {rest:List Stmt} {t u:TS}
def cb5:TS:=fun D σ H=>D.nx σ H
def ch0 (t u:TS):TS:=fun D σ H=>t { D with nx:=u D } σ H
theorem F9:PSs X [] cb5:=fun _ _ σ H _ I h=>Y2 ⟨σ,H,I,h⟩
theorem j6 (h1:PS X st t)(h2:PSs X rest u):PSs X (st::rest) (ch0 t u):=by
 intro pins s σ H D I h
 refine aZ2 (thn (h1 pins s σ H { D with nx:=u D } I h) fun f s1 q=>?_)
 cases f with
 | next =>
  obtain⟨σ',H',I',q⟩:=q
  exact h2 pins s1 σ' H' D I' q
 | ret v=>exact q
 | brk=>exact q
 | cont=>exact q
theorem o4 (h1:PS X st t):PSs X [st] t:=by
 intro pins s σ H D I h
 refine aZ2 (thn (h1 pins s σ H D I h) fun f s1 q=>?_)
 cases f with
 | next=>exact Y2 q
 | ret v=>exact q
 | brk=>exact q
 | cont=>exact q
theorem Inv.quiet (I:Inv X pins σ H s):interactive X.env=false:=by simp[interactive,I.ok.kind]
def cb8 (te:TE):TS:=fun D σ H=>te σ H fun _ H1=>D.nx σ H1
theorem R3 (he:PE X e te)(hs:swapsWith e none pos.line X.env=pure false:=by rfl):PS X (.Expr e pos) (cb8 te):=by
 intro pins s σ H D I h
 exact wpAny_Expr_any (thn (he pins s σ H _ I h) fun v s1 ⟨x,H1,I1,r1,q1⟩=>⟨σ,H1,I1,q1⟩) I.quiet hs
def ch1 (te:TE):TS:=fun D σ H=>te σ H D.rt
theorem B2 (he:PE X e te):PS X (.Return (some e) pos) (ch1 te):=by
 intro pins s σ H D I h
 exact wpAny_Return_some (thn (he pins s σ H _ I h) fun v s1 ⟨x,H1,I1,r1,q1⟩=>⟨x,σ,H1,I1,r1,q1⟩)
def ch4 (c:TT)(t u:TS):TS:=fun D σ H=>c σ H fun b H1=>if b=true then t D σ H1 else u D σ H1
theorem O0 {c:Expr}{a b:List Stmt}{tc:TT}(hc:PT X c tc)(ha:PSs X a t)(hb:PSs X b u):PS X (.If c a b pos) (ch4 tc t u):=by
 intro pins s σ H D I h
 refine wpAny_If (thn (hc pins s σ H _ I h) fun d s1 ⟨H1,I1,q1⟩=>?_)
 cases d with
 | true=>exact ha pins s1 σ H1 D I1 q1
 | false=>exact hb pins s1 σ H1 D I1 q1
def bR2:TS:=fun _ _ _=>False
theorem R1 {sts:List Stmt}:PSs X sts bR2:=fun _ _ _ _ _ _ h=>h.elim
end
abbrev TG:=V->St->Hp->(St->Hp->Prop)->Prop
abbrev TGs:=List V->St->Hp->(St->Hp->Prop)->Prop
def PG (X:Cx)(target:Expr)(t:TG):Prop:=
 ∀ (pins:List (Addr × Obj)) (s:Shared) (σ:St) (H:Hp) (v:V) (u:Value) (Q:St->Hp->Prop),Inv X pins σ H s->RelV v u->t v σ H Q ->
  r6 (t9 X.prog X.w) X.A (bP4 target X.env u) (fun _ s'=>∃ σ' H',Inv X pins σ' H' s'/\Q σ' H') X.xe s
def PGs (X:Cx)(ts:List Expr)(t:TGs):Prop:=
 ∀ (pins:List (Addr × Obj)) (s:Shared) (σ:St) (H:Hp) (vs:List V) (us:List Value) (Q:St->Hp->Prop),Inv X pins σ H s->D6 vs us->t vs σ H Q ->
  r6 (t9 X.prog X.w) X.A (assignInOrder ((ag8 ts X.env).map (·.2)) us) (fun _ s'=>∃ σ' H',Inv X pins σ' H' s'/\Q σ' H') X.xe s
abbrev bA1:=V->V->V->Hp->(Hp->Prop)->Prop
def bY5 (X:Cx)(t:bA1):Prop:=
 ∀ (pins:List (Addr × Obj)) (s:Shared) (σ:St) (H:Hp) (o i v:V) (ov iv u:Value) (Q:Hp->Prop),Inv X pins σ H s->RelV o ov->RelV i iv->RelV v u->t o i v H Q ->
  r6 (t9 X.prog X.w) X.A (setItem ov iv u) (fun _ s'=>∃ H',Inv X pins σ H' s'/\Q H') X.xe s
abbrev TIp:=V->V->Hp->VK->Prop
def PIp (X:Cx)(op:Operator)(t:TIp):Prop:=
 ∀ (pins:List (Addr × Obj)) (s:Shared) (σ:St) (H:Hp) (x y:V) (v u:Value) (Q:VK),Inv X pins σ H s->RelV x v->RelV y u->t x y H Q ->
  r6 (t9 X.prog X.w) X.A (inplaceOp op v u) (EP X pins σ Q) X.xe s
def aD9 (i:Nat):TG:=fun v σ H Q=>Q (σ.set i (some v)) H
theorem A3 (hN:X.N.Nodup)(hi:X.N[i]?=some x)(hx:Loc X.env.scope x)(hf:X.fn x=true\/X.env.scope.names.lookup x=some .local:=by first | exact .inl rfl | exact .inr rfl | assumption):PG X (.Name x pos) (aD9 i):=by
 intro pins s σ H v u Q I r h
 exact wpAny_assign_Name (ap8 I hN hi hx r (fun s' I'=>⟨_,H,I',h⟩) hf)
def cj0:TGs:=fun vs σ H Q=>vs=[]/\Q σ H
def cf2 (t:TG)(u:TGs):TGs:=fun vs σ H Q=>∃ v r,vs=v::r/\t v σ H fun σ' H'=>u r σ' H' Q
theorem al0:PGs X [] cj0:=by
 intro pins s σ H vs us Q I r h
 obtain⟨e,h⟩:=h
 subst e
 cases r
 exact assignInOrder_nil ⟨σ,H,I,h⟩
theorem O7 {t:TG}{u:TGs}(h1:PG X e t)(h2:PGs X es u)
  (hs:(ag8 (e::es) X.env).map (·.2)=bP4 e X.env::(ag8 es X.env).map (·.2):=by rfl):PGs X (e::es) (cf2 t u):=by
 intro pins s σ H vs us Q I r h
 obtain⟨v,vr,e1,h⟩:=h
 subst e1
 cases r with
 | cons r rr =>
  rw[hs]
  refine assignInOrder_cons (thn (h1 pins s σ H _ _ _ I r h) fun _ s1 ⟨σ1,H1,I1,q1⟩=>?_)
  exact h2 pins s1 σ1 H1 _ _ Q I1 rr q1
def cf1 (K:W.Frag)(n:Nat)(t:TGs):TG:=fun v σ H Q=>∃ a xs,v=.ref a/\SqT K H a xs/\xs.length=n/\t xs σ H Q
theorem bb4 {k:Nat}{t:TGs}(hc:X.calm=true)(h:PGs X es t)
  (hn:(ag8 es X.env).length=n:=by rfl)(hst:(ag8 es X.env).findIdx? (·.1)=none:=by rfl):PG X (.Tuple es k pos) (cf1 X.K n t):=by
 intro pins s σ H v u Q I r hw
 obtain⟨a,xs,e1,hq,hl,hw⟩:=hw
 subst e1
 cases r
 obtain⟨its,rv,ht,hz⟩:=I.tuple hq
 refine assign_Tuple_tuple (I.ok.hd hc) ht (by simp[hn,<- hl,rv.length]) hst fun h' hx=>?_
 have I1:Inv X pins σ H { s with heap:=h' }:=I.kept (t':=s.toks) fun b o e=>hx b o (k7 (c8 e)) e
 exact h pins _ σ H xs _ Q I1 (by simpa using rv) hw
def ci9 (to ti:TE)(t:bA1):TG:=fun v σ H Q=>to σ H fun o H1=>ti σ H1 fun i H2=>t o i v H2 fun H3=>Q σ H3
theorem aB7 {i:Expr} {to ti:TE} {t:bA1} (ho:PE X o to) (hi:PE X i ti) (hs:bY5 X t)
  (ha : ∀ v, bP4 (.Subscript o i pos) X.env v = (do
   let ov <- aG4 [v] (eval o X.env)
   let iv <- aG4 [v,ov] (eval i X.env)
   standAt pos
   aG4 [v,ov,iv] (setItem ov iv v)
   release [v,ov,iv] []):=by intro _;rfl):PG X (.Subscript o i pos) (ci9 to ti t):=by
 intro pins s σ H v u Q I r h
 rw[ha]
 refine b9 (F0 (thn (ho pins s σ H _ I h) fun ov s1 ⟨x,H1,I1,r1,q1⟩=>?_))
 refine b9 (F0 (thn (hi pins s1 σ H1 _ I1 q1) fun iv s2 ⟨y,H2,I2,r2,q2⟩=>?_))
 refine b9 (ap2 (b9 (F0 (thn (hs pins s2 σ H2 x y v ov iv u _ I2 r1 r2 r q2) fun _ s3 ⟨H3,I3,q3⟩=>?_))))
 exact wpAny_release ⟨σ,H3,I3,q3⟩
def cc0 (te:TE)(g:TG):TS:=fun D σ H=>te σ H fun x H1=>g x σ H1 D.nx
theorem aB6 {g:TG}(he:PE X e te)(hg:PG X tg g)(hs:swapsWithSole [tg] e pos.line X.env=pure false:=by rfl)(hw:swappedStores [tg] e X.env=pure none:=by rfl)
  (h1:(ag8 [tg] X.env).map (·.2)=[bP4 tg X.env]:=by rfl):PS X (.Assign [tg] e pos) (cc0 te g):=by
 intro pins s σ H D I h
 refine wpAny_Assign_stores (thn (he pins s σ H _ I h) fun v s1 ⟨x,H1,I1,r1,q1⟩=>?_) hs hw
 rw[h1]
 exact thn (hg pins s1 σ H1 x v _ I1 r1 q1) fun _ s2 q=>q
theorem A7 {pos':Pos}(hN:X.N.Nodup)(hi:X.N[i]?=some x)(hx:Loc X.env.scope x)(he:PE X e te)(hs:swapsWith e (some (.Name x pos')) pos.line X.env=pure false:=by rfl)(hf:X.fn x=true\/X.env.scope.names.lookup x=some .local:=by first | exact .inl rfl | exact .inr rfl | assumption) :
  PS X (.Assign [.Name x pos'] e pos) (cc0 te (aD9 i)):=by
 intro pins s σ H D I h
 refine wpAny_Assign_Name (thn (he pins s σ H _ I h) fun v s1 ⟨y,H1,I1,r1,q1⟩=>?_) hs
 exact ap8 I1 hN hi hx r1 (fun s2 I2=>⟨_,H1,I2,q1⟩) hf
def ch7 (i:Nat)(te:TE)(ti:TIp):TS:=fun D σ H=>∃ x,σ[i]?=some (some x)/\te σ H fun y H1=>ti x y H1 fun z H2=>D.nx (σ.set i (some z)) H2
theorem bs7 {op:Operator}{ti:TIp}{pos':Pos}(hN:X.N.Nodup)(hi:X.N[i]?=some x)(hx:Loc X.env.scope x)(he:PE X e te)(ho:PIp X op ti)(hf:X.fn x=true\/X.env.scope.names.lookup x=some .local:=by first | exact .inl rfl | exact .inr rfl | assumption) :
  PS X (.AugAssign (.Name x pos') op e pos) (ch7 i te ti):=by
 intro pins s σ H D I h
 obtain⟨v,e1,h⟩:=h
 obtain⟨m,hn,hl⟩:=I.loc
 have vis:Vis X.env.scope x:=by rcases hx with k | k;exact .inl k;exact .inr (.inl k)
 obtain⟨u,r,l⟩:=hl i x v hi e1 vis
 refine wpAny_AugAssign_Name ?_
 have go:r6 (t9 X.prog X.w) X.A (eval e X.env) (fun w s₂=>r6 (t9 X.prog X.w) X.A (inplaceOp op u w) (fun r s₃=>r6 (t9 X.prog X.w) X.A (storeName X.env x r) (fun _=>SP X pins D .next) X.xe s₃) X.xe s₂) X.xe s:=by
  refine thn (he pins s σ H _ I h) fun w s1 ⟨y,H1,I1,r1,q1⟩=>?_
  refine thn (ho pins s1 σ H1 v y u w _ I1 r r1 q1) fun z s2 ⟨zv,H2,I2,r2,q2⟩=>?_
  exact ap8 I2 hN hi hx r2 (fun s3 I3=>⟨_,H2,I3,q2⟩) hf
 rcases l with⟨hk,hm⟩ | ⟨hk,c,hc,hcell⟩
 ·exact bZ2 I.ok.kind hk hn hm go
 ·rcases hk with hk | hk
  ·exact ca2 I.ok.kind hk hc hcell go
  ·rcases hx with k | k
   ·have:X.env.scope.names.lookup x=some .free:=hk
    rw[k]at this;cases this
   ·have:X.env.scope.names.lookup x=some .free:=hk
    rw[k]at this;cases this
def cb9 (to ti te:TE)(tget:V->V->Hp->VK->Prop)(tip:TIp)(tset:bA1):TS:=fun D σ H=>to σ H fun o H1=>ti σ H1 fun i H2=>tget o i H2 fun x H3=>te σ H3 fun y H4=>tip x y H4 fun z H5=>tset o i z H5 fun H6=>D.nx σ H6
def cg2 (X:Cx)(t:V->V->Hp->VK->Prop):Prop:=
 ∀ (pins:List (Addr × Obj)) (s:Shared) (σ:St) (H:Hp) (o i:V) (ov iv:Value) (Q:VK),Inv X pins σ H s->RelV o ov->RelV i iv->t o i H Q ->
  r6 (t9 X.prog X.w) X.A (getItem ov iv) (EP X pins σ Q) X.xe s
theorem bg3 {i:Expr}{to ti:TE}{tget:V->V->Hp->VK->Prop}{tip:TIp}{tset:bA1}{op:Operator}{tpos:Pos}(ho:PE X o to)(hi:PE X i ti)(hg:cg2 X tget)(he:PE X e te)(hp:PIp X op tip)(hs:bY5 X tset)
  (ha:∀ ov iv new,augStore i ov iv new=(do aG4 [new,ov,iv] (setItem ov iv new);release [new,ov,iv] [];pure .next):=by intros;rfl):PS X (.AugAssign (.Subscript o i tpos) op e pos) (cb9 to ti te tget tip tset):=by
 intro pins s σ H D I h
 refine wpAny_AugAssign_SubscriptAny (thn (ho pins s σ H _ I h) fun ov s1 ⟨x1,H1,I1,r1,q1⟩=>?_) ha
 refine thn (hi pins s1 σ H1 _ I1 q1) fun iv s2 ⟨x2,H2,I2,r2,q2⟩=>?_
 refine thn (hg pins s2 σ H2 x1 x2 ov iv _ I2 r1 r2 q2) fun old s3 ⟨x3,H3,I3,r3,q3⟩=>?_
 refine thn (he pins s3 σ H3 _ I3 q3) fun v s4 ⟨x4,H4,I4,r4,q4⟩=>?_
 refine thn (hp pins s4 σ H4 x3 x4 old v _ I4 r3 r4 q4) fun new s5 ⟨x5,H5,I5,r5,q5⟩=>?_
 exact thn (hs pins s5 σ H5 x1 x2 x5 ov iv new _ I5 r1 r2 r5 q5) fun _ s6 ⟨H6,I6,q6⟩=>⟨σ,H6,I6,q6⟩
def ipI (f:Int->Int->Int):TIp:=fun x y H Q=>∃ i j,x=.int i/\y=.int j/\Q (.int (f i j)) H
theorem bw6:PIp X .Add (ipI fun i j=>i+j):=by
 intro pins s σ H x y v u Q I r1 r2 h
 obtain⟨i,j,e1,e2,q⟩:=h
 subst e1;subst e2
 obtain⟨t,rfl⟩:=r1
 obtain⟨t',rfl⟩:=r2
 exact iadd_int ⟨.int _,H,I.tok _,⟨_,rfl⟩,q⟩
def bQ8 (c:TT)(tb:TS):TS:=fun D σ H=>∃ W:Nat->St->Hp->Prop,(∃ m,W m σ H)/\∀ m σ H,W m σ H ->
 c σ H fun b H1=>if b=true then ∃ N:St->Hp->Prop,(∀ σ' H',N σ' H'->∃ m',m'<m/\W m' σ' H')/\tb { D with nx:=N,ct:=N,bk:=D.nx } σ H1 else D.nx σ H1
theorem aT9 {c:Expr}{tc:TT}{tb:TS}(hp:PassesOwn (t9 X.prog X.w) X.A X.env X.xe)(hc:PT X c tc)(hb:PSs X body tb):PS X (.While c body [] pos) (bQ8 tc tb):=by
 intro pins s σ H D I h
 obtain⟨W,⟨m0,w0⟩,turn⟩:=h
 refine wpAny_While (codeAny_whileLoop (fun n s'=>∃ σ' H',Inv X pins σ' H' s'/\W n σ' H') ?_ m0 ⟨σ,H,I,w0⟩)
 rintro n s1 ⟨σ1,H1,I1,w1⟩
 refine U3 hp (thn (hc pins s1 σ1 H1 _ I1 (turn n σ1 H1 w1)) fun b s2 ⟨H2,I2,q2⟩=>?_)
 cases b with
 | true =>
  obtain⟨N,hN,q2⟩:=q2
  rw[if_pos rfl]
  refine U3 hp (thn (hb pins s2 σ1 H2 _ I2 q2) fun f s3 q3=>?_)
  cases f with
  | next =>
   obtain⟨σ3,H3,I3,n3⟩:=q3
   obtain⟨m',hm,w3⟩:=hN σ3 H3 n3
   exact⟨m',hm,σ3,H3,I3,w3⟩
  | cont =>
   obtain⟨σ3,H3,I3,n3⟩:=q3
   obtain⟨m',hm,w3⟩:=hN σ3 H3 n3
   exact⟨m',hm,σ3,H3,I3,w3⟩
  | brk=>exact q3
  | ret v=>exact q3
 | false =>
  rw[if_neg j7]
  exact Y2 ⟨σ1,H2,I2,q2⟩
structure It where
 go:Nat->Hp->Prop
 yld:Nat->Hp->V->Hp->Prop
 stop:Nat->Hp->Prop
def Q2 (X:Cx)(pins:List (Addr × Obj))(H:Hp)(b:Addr):Prop:=
 H b=none/\b≠X.env.locals/\b∉X.fs/\(b∈X.ex\/X.s₀.heap.objs.size<=b)/\(∀ x c,X.env.cells.lookup x=some c->c≠b)/\∀ p∈X.pn++pins,p.1≠b
theorem Inv.fpOk {b:Addr}(I:Inv X pins σ H s)(hb:s.heap.objs.size<=b)(hn:H' b=none):Q2 X pins H' b:=by
 refine⟨hn,L4 (o9 I.lt hb),I.nofs hb,.inr (A1 I.sz hb),fun x c e z=>?_,fun p hp z=>?_⟩
 ·obtain⟨v,q⟩:=I.cell x c e
  exact absurd (o9 q.lt (by rw[z];exact hb)) (A9 _)
 ·exact absurd (o9 (c8 (I.pin p hp).1) (by rw[z];exact hb)) (A9 _)
structure Turn (P:Program) (w:World) (K:W.Frag) (tg:Expr) (J:It) (fp:List Addr) (it:Addr) (tn:Nat->Heap->Prop):Prop where
 mem:it∈fp
 obj:∀ i h,tn i h->∀ b∈fp,∃ o,h.get? b=some o/\∀ v,o.data≠.cell v
 keep:∀ i h h',tn i h->(∀ b∈fp,∀ o,h.get? b=some o->h'.get? b=some o)->tn i h'
 item:∀ (X:Cx),X.prog=P->X.w=w->X.K=K->X.calm=true->∀ (i:Nat) (pins:List (Addr × Obj)) (s:Shared) (σ:St) (H:Hp) (E:Value->Shared->Prop),Inv X pins σ H s->(∀ b∈fp,Q2 X pins H b)->tn i s.heap->J.go i H ->
  r6 (t9 P w) X.A (aL3 (.ref it)) (fun r s1=>∃ u,r=some u /\
   r6 (t9 P w) X.A (bj6 tg (.ref it) u) (fun _ s2=>∃ x H',Inv X pins σ H' s2/\RelV x u/\J.yld i H x H'/\tn (i+1) s2.heap/\∀ b∈fp,H' b=none) E s1) E s
 done:∀ (X:Cx),X.prog=P->X.w=w->X.K=K->X.calm=true->∀ (i:Nat) (pins:List (Addr × Obj)) (s:Shared) (σ:St) (H:Hp) (E:Value->Shared->Prop),Inv X pins σ H s->(∀ b∈fp,Q2 X pins H b)->tn i s.heap->J.stop i H ->
  r6 (t9 P w) X.A (aL3 (.ref it)) (fun r s1=>r=none/\Inv X pins σ H s1) E s
 self:∀ (A:Around) (i:Nat) (s:Shared) (Q:Value->Shared->Prop) (E:Value->Shared->Prop),tn i s.heap->Q (.ref it) s->r6 (t9 P w) A (pyIter (.ref it)) Q E s
abbrev TI:=St->Hp->(It->Hp->Prop)->Prop
def PIE (X:Cx)(pins:List (Addr × Obj))(σ:St)(tg:Expr)(R:It->Hp->Prop)(itv:Value)(s2:Shared):Prop:=
 ∃ (it:Addr) (fp:List Addr) (tn:Nat->Heap->Prop) (J:It) (H':Hp),itv=.ref it/\Inv X pins σ H' s2/\Turn X.prog X.w X.K tg J fp it tn/\tn 0 s2.heap/\(∀ b∈fp,Q2 X pins H' b)/\R J H'
def PI (X:Cx)(tg iter:Expr)(wi:TI):Prop:=
 ∀ (pins:List (Addr × Obj)) (s:Shared) (σ:St) (H:Hp) (R:It->Hp->Prop),Inv X pins σ H s->wi σ H R ->
  r6 (t9 X.prog X.w) X.A (eval iter X.env) (fun v s1=>r6 (t9 X.prog X.w) X.A (pyIter v) (PIE X pins σ tg R) X.xe s1) X.xe s
theorem bx4 {it:Addr} {o:Obj} {n:String} {vs:Array Value} {Q:Unit->Shared->Prop} (ho:s.heap.get? it=some o) (hc:o.cls=.type n) (hd:o.data=.fields vs)
    (hn:["enumerate","zip","dict_itemiterator","dict_reverseitemiterator","odict_iterator","itertools.zip_longest","itertools.pairwise"].contains n=false) (hQ:Q () s):r6 M A (bj6 tg (.ref it) u) Q E s:=by
  unfold bj6
  cases tg<;>first
    | exact i8 hQ
    | (cases u<;>first
        | exact i8 hQ
        | (refine b9 (wpAny_load ho ?_)
           rw[hc,hd]
           show r6 M A (if (["enumerate","zip","dict_itemiterator","dict_reverseitemiterator","odict_iterator","itertools.zip_longest","itertools.pairwise"].contains n && vs[0]? == some (ai0 _))=true then _ else _) Q E s
           rw[if_neg (by intro h;rw[hn,Bool.false_and]at h;cases h)]
           exact i8 hQ))
def Itl (K:W.Frag)(a:Addr):It:=
 ⟨fun i H=>∃ xs x,SqL K H a xs/\xs[i]?=some x,fun i H x H'=>H'=H/\∀ xs,SqL K H a xs->xs[i]?=some x,fun i H=>∃ xs,SqL K H a xs/\xs.length<=i⟩
def Itt (K:W.Frag)(a:Addr):It:=
 ⟨fun i H=>∃ xs x,SqT K H a xs/\xs[i]?=some x,fun i H x H'=>H'=H/\∀ xs,SqT K H a xs->xs[i]?=some x,fun i H=>∃ xs,SqT K H a xs/\xs.length<=i⟩
def Itr (lo:Int)(n:Nat):It:=⟨fun i _=>i<n,fun i H x H'=>H'=H/\x=.int (lo+i),fun i _=>n<=i⟩
theorem bk9 {K:W.Frag}(a it:Addr):Turn P w K tg (Itl K a) [it] it (fun i h=>h.IsListIter it a i) where
 mem:=by simp
 obj:=fun i h st b hb=>by
  have e:b=it:=by simpa using hb
  subst e
  obtain⟨o,e,c,d⟩:=st
  exact⟨o,e,fun v z=>by rw[d]at z;cases z⟩
 keep:=fun i h h' st k=>st.at fun o e=>k it (by simp) o e
 item:=by
  intro X hP hw hK hc i pins s σ H E I hf st hg
  subst hP hw hK
  obtain⟨xs,x,hq,hx⟩:=hg
  obtain⟨its,rv,p,hz⟩:=I.list hq
  obtain⟨u,hu,ru⟩:=rv.get hx
  obtain⟨f0,f1,f2,f3,f4,f5⟩:=hf it (by simp)
  refine wpAny_pyNext_list_item st p.isList (x:=u) (by simpa using hu) fun h' st' sb=>?_
  have I1:Inv X pins σ H { s with heap:=h' }:=I.turned (t':=s.toks) (fun b o hb e=>(sb.2 b hb).trans e) f0 f1 f3 f4 f5
  obtain⟨o,e,c,d⟩:=id st'
  exact⟨u,rfl,bx4 (s:={ s with heap:=h' }) e c d (by decide) ⟨x,H,I1,ru,⟨rfl,fun ys hy=>by rw[I.list_inj hy hq];exact hx⟩,st',fun b hb=>(hf b hb).1⟩⟩
 done:=by
  intro X hP hw hK hc i pins s σ H E I hf st hg
  subst hP hw hK
  obtain⟨xs,hq,hx⟩:=hg
  obtain⟨its,rv,p,hz⟩:=I.list hq
  obtain⟨f0,f1,f2,f3,f4,f5⟩:=hf it (by simp)
  have hl:=rv.length
  exact wpAny_pyNext_list_end (I.ok.hd hc) st p.isList (by simp;omega) fun h' eb=>⟨rfl,I.turned (t':=s.toks) (fun b o hb e=>eb b o hb e) f0 f1 f3 f4 f5⟩
 self:=fun _ _ _ _ _ st h=>wpAny_pyIter_listiter st h
theorem aZ5 {K:W.Frag}(a it:Addr):Turn P w K tg (Itt K a) [it] it (fun i h=>h.IsTupleIter it a i) where
 mem:=by simp
 obj:=fun i h st b hb=>by
  have e:b=it:=by simpa using hb
  subst e
  obtain⟨o,e,c,d⟩:=st
  exact⟨o,e,fun v z=>by rw[d]at z;cases z⟩
 keep:=fun i h h' st k=>st.at fun o e=>k it (by simp) o e
 item:=by
  intro X hP hw hK hc i pins s σ H E I hf st hg
  subst hP hw hK
  obtain⟨xs,x,hq,hx⟩:=hg
  obtain⟨its,rv,p,hz⟩:=I.tuple hq
  obtain⟨u,hu,ru⟩:=rv.get hx
  obtain⟨f0,f1,f2,f3,f4,f5⟩:=hf it (by simp)
  refine wpAny_pyNext_tuple_item st (show s.heap.IsTuple a its.toArray from p) (x:=u) (by simpa using hu) fun h' st' sb=>?_
  have I1:Inv X pins σ H { s with heap:=h' }:=I.turned (t':=s.toks) (fun b o hb e=>(sb.2 b hb).trans e) f0 f1 f3 f4 f5
  obtain⟨o,e,c,d⟩:=id st'
  exact⟨u,rfl,bx4 (s:={ s with heap:=h' }) e c d (by decide) ⟨x,H,I1,ru,⟨rfl,fun ys hy=>by rw[I.tuple_inj hy hq];exact hx⟩,st',fun b hb=>(hf b hb).1⟩⟩
 done:=by
  intro X hP hw hK hc i pins s σ H E I hf st hg
  subst hP hw hK
  obtain⟨xs,hq,hx⟩:=hg
  obtain⟨its,rv,p,hz⟩:=I.tuple hq
  obtain⟨f0,f1,f2,f3,f4,f5⟩:=hf it (by simp)
  have hl:=rv.length
  exact wpAny_pyNext_tuple_end (I.ok.hd hc) st (show s.heap.IsTuple a its.toArray from p) (by simp;omega) fun h' eb=>⟨rfl,I.turned (t':=s.toks) (fun b o hb e=>eb b o hb e) f0 f1 f3 f4 f5⟩
 self:=fun _ _ _ _ _ st h=>wpAny_pyIter_tupleiter st h
theorem aZ6 {K:W.Frag}(it:Addr)(lo:Int)(n:Nat):Turn P w K tg (Itr lo n) [it] it (fun i h=>IsRangeIter h it (lo+(i:Nat)*1) ((n:Int) - (i:Nat)) 1) where
 mem:=by simp
 obj:=fun i h st b hb=>by
  have e:b=it:=by simpa using hb
  subst e
  exact⟨_,st,fun v z=>by
   have z':Data.fields _=Data.cell v:=z
   cases z'⟩
 keep:=fun i h h' st k=>k it (by simp) _ st
 item:=by
  intro X hP hw hK hc i pins s σ H E I hf st hg
  subst hP hw hK
  obtain⟨f0,f1,f2,f3,f4,f5⟩:=hf it (by simp)
  have W:=Walks.range (prog:=X.prog) (w:=X.w) (I.ok.hd hc) it lo 1 n
  refine W.item i s _ _ hg st fun v h' tk hv st' kk=>?_
  obtain⟨t,rfl⟩:=hv
  have I1:Inv X pins σ H { s with heap:=h',toks:=tk }:=I.turned (fun b o hb e=>kk b o (by simpa using hb) e) f0 f1 f3 f4 f5
  refine⟨_,rfl,bx4 (s:={ s with heap:=h',toks:=tk }) (n:="range_iterator") st' rfl rfl (by decide) ⟨.int (lo+i),H,I1,⟨t,?_⟩,⟨rfl,rfl⟩,st',fun b hb=>(hf b hb).1⟩⟩
  rw[K9]
 done:=by
  intro X hP hw hK hc i pins s σ H E I hf st hg
  subst hP hw hK
  obtain⟨f0,f1,f2,f3,f4,f5⟩:=hf it (by simp)
  exact wpAny_pyNext_range_end (I.ok.hd hc) st (by have:n<=i:=hg;omega) fun h' eb=>⟨rfl,I.turned (t':=s.toks) (fun b o hb e=>eb b o hb e) f0 f1 f3 f4 f5⟩
 self:=fun _ _ _ _ _ st h=>wpAny_pyIter_rangeiter st h
def ce7 (K:W.Frag)(tl:TE):TI:=fun σ H R=>tl σ H fun x H1=>∃ a,x=.ref a/\(∃ xs,SqL K H1 a xs)/\R (Itl K a) H1
def ci8 (K:W.Frag)(tl:TE):TI:=fun σ H R=>tl σ H fun x H1=>∃ a,x=.ref a/\(∃ xs,SqT K H1 a xs)/\R (Itt K a) H1
theorem R4 {l:Expr}{tl:TE}(hl:PE X l tl):PI X tg l (ce7 X.K tl):=by
 intro pins s σ H R I h
 refine thn (hl pins s σ H _ I h) fun v s1 ⟨x,H1,I1,r1,q1⟩=>?_
 obtain⟨a,e,⟨xs,hq⟩,q⟩:=q1
 subst e
 cases r1
 obtain⟨its,rv,p,hz⟩:=I1.list hq
 refine K2 p.isList ?_
 refine⟨s1.heap.objs.size,[s1.heap.objs.size],_,_,H1,rfl,I1.kept (t':=s1.toks) fun b o e=>c5 _ e,bk9 a _,⟨_,j0 _ rfl,rfl,rfl⟩,fun b hb=>?_,q⟩
 have e:b=s1.heap.objs.size:=by simpa using hb
 subst e
 exact I1.fpOk (d5 _) (I1.hok.fresh (d5 _))
theorem aN4 {l:Expr}{tl:TE}(hl:PE X l tl):PI X tg l (ci8 X.K tl):=by
 intro pins s σ H R I h
 refine thn (hl pins s σ H _ I h) fun v s1 ⟨x,H1,I1,r1,q1⟩=>?_
 obtain⟨a,e,⟨xs,hq⟩,q⟩:=q1
 subst e
 cases r1
 obtain⟨its,rv,p,hz⟩:=I1.tuple hq
 refine G9 (show s1.heap.IsTuple a its.toArray from p) ?_
 refine⟨s1.heap.objs.size,[s1.heap.objs.size],_,_,H1,rfl,I1.kept (t':=s1.toks) fun b o e=>c5 _ e,aZ5 a _,⟨_,j0 _ rfl,rfl,rfl⟩,fun b hb=>?_,q⟩
 have e:b=s1.heap.objs.size:=by simpa using hb
 subst e
 exact I1.fpOk (d5 _) (I1.hok.fresh (d5 _))
theorem aT6 {R:It->Hp->Prop}{lo hi:Int}{t u v:Tok}{tk:Nat}(I:Inv X pins σ H s)(h1:-(2 ^ 62)<=lo)(h2:lo<2 ^ 62)(h3:-(2 ^ 62)<=hi)(h4:hi<2 ^ 62)
  (q:R (Itr lo (hi - lo).toNat) H):r6 (t9 X.prog X.w) X.A (pyIter (.ref s.heap.objs.size)) (PIE X pins σ tg R) E { s with heap:=s.heap.push { cls:=.type "range",data:=.fields #[.int lo t,.int hi u,.int 1 v] },toks:=tk }:=by
 refine wpAny_pyIter_range (IsRange.new ..) (small_one h1 h2 h3 h4) ?_
 have I1:Inv X pins σ H { s with heap:=s.heap.push { cls:=.type "range",data:=.fields #[.int lo t,.int hi u,.int 1 v] },toks:=tk }:=I.kept fun b o e=>c5 _ e
 refine⟨(s.heap.push { cls:=.type "range",data:=.fields #[.int lo t,.int hi u,.int 1 v] }).objs.size,[(s.heap.push { cls:=.type "range",data:=.fields #[.int lo t,.int hi u,.int 1 v] }).objs.size],_,_,H,rfl,
  I1.kept (t':=tk) fun b o e=>c5 _ e,aZ6 _ lo (hi - lo).toNat,?_,fun b hb=>?_,q⟩
 ·have e1:lo+((0:Nat):Int)*1=lo:=by simp
  have e2:(((hi - lo).toNat:Nat):Int) - ((0:Nat):Int)=Builtin.Range.rangeSize lo hi 1:=by rw[rangeSize_one];split<;>omega
  show IsRangeIter _ _ (lo+((0:Nat):Int)*1) ((((hi - lo).toNat:Nat):Int) - ((0:Nat):Int)) 1
  rw[e1,e2]
  exact j0 _ rfl
 ·have e:b=(s.heap.push { cls:=.type "range",data:=.fields #[.int lo t,.int hi u,.int 1 v] }).objs.size:=by simpa using hb
  subst e
  exact I1.fpOk (d5 _) (I1.hok.fresh (d5 _))
def ce6 (ta:TA):TI:=fun σ H R=>ta σ H fun vs H1=>∃ j:Int,vs=[.int j] /\ -(2 ^ 62)<=j/\j<2 ^ 62/\R (Itr 0 j.toNat) H1
def ce5 (ta:TA):TI:=fun σ H R=>ta σ H fun vs H1=>∃ i j:Int,vs=[.int i,.int j]/\(-(2 ^ 62)<=i/\i<2 ^ 62 /\ -(2 ^ 62)<=j/\j<2 ^ 62)/\R (Itr i (j - i).toNat) H1
theorem T8 {a:Expr}{ta:TA}{p:Pos}(hg:Gl X "range")(hm:X.mg "range"=none)(ha:PA X [a] ta)(hs:u5 [a] X.env=[(false,eval a X.env)]:=by rfl):PI X tg (.Call (.Name "range" p) [a] [] pos) (ce6 ta):=by
 intro pins s σ H R I h
 refine Call_ (X8 I hg hm boot_range (PyProof.Rows.callWith_type1 (thn (ha pos pins s σ H _ I h) fun us s1 ⟨vs,H1,I1,r1,q1⟩=>?_) hs rfl))
 obtain⟨j,e,q1,q2,q⟩:=q1
 subst e
 cases r1 with
 | cons r rr =>
  cases rr
  obtain⟨t,rfl⟩:=r
  exact call_range_1 (aT6 I1 (by omega) (by omega) q1 q2 (by simpa using q))
theorem at8 {a b:Expr}{ta:TA}{p:Pos}(hg:Gl X "range")(hm:X.mg "range"=none)(ha:PA X [a,b] ta)(hs:u5 [a,b] X.env=[(false,eval a X.env),(false,eval b X.env)]:=by rfl)(hs2:u5 [b] X.env=[(false,eval b X.env)]:=by rfl) :
  PI X tg (.Call (.Name "range" p) [a,b] [] pos) (ce5 ta):=by
 intro pins s σ H R I h
 refine Call_ (X8 I hg hm boot_range (PyProof.Rows.callWith_type1 (thn (ha pos pins s σ H _ I h) fun us s1 ⟨vs,H1,I1,r1,q1⟩=>?_) (by rw[hs,hs2]) (by rw[hs2];rfl)))
 obtain⟨i,j,e,⟨q1,q2,q3,q4⟩,q⟩:=q1
 subst e
 cases r1 with
 | cons r rr =>
  cases rr with
  | cons r' rr =>
   cases rr
   obtain⟨t,rfl⟩:=r
   obtain⟨t',rfl⟩:=r'
   exact call_range_2 (aT6 I1 q1 q2 q3 q4 q)
def ch5 (wi:TI)(g:TG)(tb:TS):TS:=fun D σ H=>wi σ H fun J H1=>∃ W:Nat->Nat->St->Hp->Prop,(∃ m,W 0 m σ H1)/\∀ i m σ H,W i m σ H ->
 (J.stop i H/\D.nx σ H)\/(J.go i H/\∃ N:St->Hp->Prop,(∀ σ' H',N σ' H'->∃ m',m'<m/\W (i+1) m' σ' H')/\∀ x H',J.yld i H x H'->g x σ H' fun σ2 H2=>tb { D with nx:=N,ct:=N,bk:=D.nx } σ2 H2)
def ao3 (fp:List Addr)(h:Heap):List (Addr × Obj):=fp.filterMap fun b=>(h.get? b).map fun o=>(b,o)
theorem T4 {b:Addr}{o:Obj}(hb:b∈fp)(e:h.get? b=some o):(b,o)∈ao3 fp h:=ah7.mpr ⟨b,hb,by rw[e];rfl⟩
theorem bl8 {p:Addr × Obj}(hp:p∈ao3 fp h):p.1∈fp/\h.get? p.1=some p.2:=by
 obtain⟨b,hb,e⟩:=ah7.mp hp
 cases q:h.get? b with
 | none=>rw[q]at e;cases e
 | some o =>
  rw[q]at e
  have e':(b,o)=p:=Option.some.inj e
  subst e'
  exact⟨hb,q⟩
theorem Inv.pinned (I:Inv X pins σ H s)(hf:∀ b∈fp,Q2 X pins H b)(ho:∀ b∈fp,∃ o,s.heap.get? b=some o/\∀ v,o.data≠.cell v):Inv X (pins++ao3 fp s.heap) σ H s:=
 I.pins_of fun p hp=>(y7.mp hp).elim (fun z=>I.pin p (o5 _ z)) fun z=>by
  obtain⟨hb,e⟩:=bl8 z
  obtain⟨f0,f1,f2,_⟩:=hf p.1 hb
  obtain⟨o,e',d⟩:=ho p.1 hb
  rw[e]at e';cases e'
  exact⟨e,f0,f1,f2,d⟩
theorem Inv.unpinned {pl:List (Addr × Obj)}(I:Inv X (pins++pl) σ H s):Inv X pins σ H s:=I.pins_of fun p hp=>I.pin p (o5 _ (G4 _ hp))
theorem aa2 {iter:Expr}{wi:TI}{g:TG}{tb:TS}(hp:PassesOwn (t9 X.prog X.w) X.A X.env X.xe)(hc:X.calm=true)(hi:PI X tg iter wi)(hg:PG X tg g)(hb:PSs X body tb)
  (hs:∀ x,an5 iter X.env x=pure x:=by intro _;rfl):PS X (.For tg iter body [] pos) (ch5 wi g tb):=by
 intro pins s σ H D I h
 refine wpAny_For (thn (hi pins s σ H _ I h) fun v s1 h1=>thn h1 fun itv s2 h2=>?_) hs
 obtain⟨it,fp,tn,J,H2,e,I2,T,st2,f2,W,⟨m0,w0⟩,turn⟩:=h2
 subst e
 have stat:∀ {H':Hp},(∀ b∈fp,H' b=none)->∀ b∈fp,Q2 X pins H' b:=fun hn b hb=>⟨hn b hb,(f2 b hb).2⟩
 refine codeAny_forLoop_any (fun n s'=>∃ i σ' H',Inv X pins σ' H' s'/\tn i s'.heap/\(∀ b∈fp,H' b=none)/\W i n σ' H') ?_ m0 ⟨0,σ,H2,I2,st2,fun b hb=>(f2 b hb).1,w0⟩
 rintro n s3 ⟨i,σ3,H3,I3,st3,fr3,w3⟩
 rcases turn i n σ3 H3 w3 with⟨stop,qn⟩ | ⟨go,N,hN,step⟩
 ·refine U3 hp (thn (T.done X rfl rfl rfl hc i pins s3 σ3 H3 X.xe I3 (stat fr3) st3 stop) fun r s4 ⟨hr,I4⟩=>?_)
  subst hr
  exact Y2 ⟨σ3,H3,I4,qn⟩
 ·refine U3 hp (thn (T.item X rfl rfl rfl hc i pins s3 σ3 H3 X.xe I3 (stat fr3) st3 go) fun r s4 ⟨u,hr,h4⟩=>?_)
  subst hr
  refine U3 hp (thn h4 fun _ s5 ⟨x,H5,I5,r5,y5,st5,fr5⟩=>?_)
  have I5':=I5.pinned (stat fr5) (T.obj _ _ st5)
  refine U3 hp (thn (hg _ s5 σ3 H5 x u _ I5' r5 (step x H5 y5)) fun _ s6 ⟨σ6,H6,I6,q6⟩=>?_)
  refine U3 hp (thn (hb _ s6 σ6 H6 _ I6 q6) fun f s7 q7=>?_)
  have bP5:∀ {σ7:St} {H7:Hp},Inv X (pins++ao3 fp s5.heap) σ7 H7 s7->N σ7 H7->∃ m,m<n/\∃ i σ' H',Inv X pins σ' H' s7/\tn i s7.heap/\(∀ b∈fp,H' b=none)/\W i m σ' H':=fun {σ7 H7} I7 n7=>by
   obtain⟨m',hm,w7⟩:=hN σ7 H7 n7
   refine⟨m',hm,i+1,σ7,H7,I7.unpinned,T.keep _ _ _ st5 fun b hb o e=>(I7.pin (b,o) (o5 _ (o5 _ (T4 hb e)))).1,fun b hb=>?_,w7⟩
   obtain⟨o,e,d⟩:=T.obj _ _ st5 b hb
   exact(I7.pin (b,o) (o5 _ (o5 _ (T4 hb e)))).2.1
  cases f with
  | next=>obtain⟨σ7,H7,I7,n7⟩:=q7;exact bP5 I7 n7
  | cont=>obtain⟨σ7,H7,I7,n7⟩:=q7;exact bP5 I7 n7
  | brk=>obtain⟨σ7,H7,I7,q7⟩:=q7;exact⟨σ7,H7,I7.unpinned,q7⟩
  | ret v=>obtain⟨x7,σ7,H7,I7,r7,q7⟩:=q7;exact⟨x7,σ7,H7,I7.unpinned,r7,q7⟩
theorem aE0 {K:W.Frag}{g:TG}{tb:TS}{D:Ends}(Pv:Nat->St->Hp->Prop)(h0:Pv 0 σ H)(hl:∀ i σ H,i<=xs.length->Pv i σ H->SqL K H a xs)
  (hs:∀ i x σ H,xs[i]?=some x->Pv i σ H->g x σ H fun σ2 H2=>tb { D with nx:=Pv (i+1),ct:=Pv (i+1),bk:=D.nx } σ2 H2)(hd:∀ σ H,Pv xs.length σ H->D.nx σ H) :
  ∃ W:Nat->Nat->St->Hp->Prop,(∃ m,W 0 m σ H)/\∀ i m σ H,W i m σ H ->
   ((Itl K a).stop i H/\D.nx σ H)\/((Itl K a).go i H/\∃ N:St->Hp->Prop,(∀ σ' H',N σ' H'->∃ m',m'<m/\W (i+1) m' σ' H')/\∀ x H',(Itl K a).yld i H x H'->g x σ H' fun σ2 H2=>tb { D with nx:=N,ct:=N,bk:=D.nx } σ2 H2):=by
 refine⟨fun i m σ H=>m=xs.length - i/\i<=xs.length/\Pv i σ H,⟨xs.length,by simp,u4 _,h0⟩,?_⟩
 rintro i m σ H ⟨rfl,hi,p⟩
 have q:=hl i σ H hi p
 by_cases hlt:i<xs.length
 ·refine .inr ⟨⟨xs,xs[i],q,by simp[hlt]⟩,Pv (i+1),fun σ' H' p'=>⟨xs.length - (i+1),by omega,rfl,hlt,p'⟩,fun x H' y=>?_⟩
  obtain⟨e,y⟩:=y
  subst e
  exact hs i x σ _ (y xs q) p
 ·have e:i=xs.length:=by omega
  subst e
  exact .inl ⟨⟨xs,q,d5 _⟩,hd σ H p⟩
theorem bJ3 {K:W.Frag}{g:TG}{tb:TS}{D:Ends}(Pv:Nat->St->Hp->Prop)(h0:Pv 0 σ H)(hl:∀ i σ H,i<=xs.length->Pv i σ H->SqT K H a xs)
  (hs:∀ i x σ H,xs[i]?=some x->Pv i σ H->g x σ H fun σ2 H2=>tb { D with nx:=Pv (i+1),ct:=Pv (i+1),bk:=D.nx } σ2 H2)(hd:∀ σ H,Pv xs.length σ H->D.nx σ H) :
  ∃ W:Nat->Nat->St->Hp->Prop,(∃ m,W 0 m σ H)/\∀ i m σ H,W i m σ H ->
   ((Itt K a).stop i H/\D.nx σ H)\/((Itt K a).go i H/\∃ N:St->Hp->Prop,(∀ σ' H',N σ' H'->∃ m',m'<m/\W (i+1) m' σ' H')/\∀ x H',(Itt K a).yld i H x H'->g x σ H' fun σ2 H2=>tb { D with nx:=N,ct:=N,bk:=D.nx } σ2 H2):=by
 refine⟨fun i m σ H=>m=xs.length - i/\i<=xs.length/\Pv i σ H,⟨xs.length,by simp,u4 _,h0⟩,?_⟩
 rintro i m σ H ⟨rfl,hi,p⟩
 have q:=hl i σ H hi p
 by_cases hlt:i<xs.length
 ·refine .inr ⟨⟨xs,xs[i],q,by simp[hlt]⟩,Pv (i+1),fun σ' H' p'=>⟨xs.length - (i+1),by omega,rfl,hlt,p'⟩,fun x H' y=>?_⟩
  obtain⟨e,y⟩:=y
  subst e
  exact hs i x σ _ (y xs q) p
 ·have e:i=xs.length:=by omega
  subst e
  exact .inl ⟨⟨xs,q,d5 _⟩,hd σ H p⟩
theorem Z6 {lo:Int}{g:TG}{tb:TS}{D:Ends}(Pv:Nat->St->Hp->Prop)(h0:Pv 0 σ H)
  (hs:∀ i σ H,i<n->Pv i σ H->g (.int (lo+i)) σ H fun σ2 H2=>tb { D with nx:=Pv (i+1),ct:=Pv (i+1),bk:=D.nx } σ2 H2)(hd:∀ σ H,Pv n σ H->D.nx σ H) :
  ∃ W:Nat->Nat->St->Hp->Prop,(∃ m,W 0 m σ H)/\∀ i m σ H,W i m σ H ->
   ((Itr lo n).stop i H/\D.nx σ H)\/((Itr lo n).go i H/\∃ N:St->Hp->Prop,(∀ σ' H',N σ' H'->∃ m',m'<m/\W (i+1) m' σ' H')/\∀ x H',(Itr lo n).yld i H x H'->g x σ H' fun σ2 H2=>tb { D with nx:=N,ct:=N,bk:=D.nx } σ2 H2):=by
 refine⟨fun i m σ H=>m=n - i/\i<=n/\Pv i σ H,⟨n,by simp,u4 _,h0⟩,?_⟩
 rintro i m σ H ⟨rfl,hi,p⟩
 by_cases hlt:i<n
 ·refine .inr ⟨hlt,Pv (i+1),fun σ' H' p'=>⟨n - (i+1),by omega,rfl,hlt,p'⟩,fun x H' y=>?_⟩
  obtain⟨e,y⟩:=y
  subst e y
  exact hs i σ _ hlt p
 ·have e:i=n:=by omega
  subst e
  exact .inl ⟨d5 _,hd σ H p⟩
abbrev R2:=V->V->Hp->VK->Prop
def OpR (X:Cx)(f:Value->Value->Sem Value)(r:R2):Prop:=
 ∀ (pins:List (Addr × Obj)) (s:Shared) (σ:St) (H:Hp) (x y:V) (v u:Value) (Q:VK),Inv X pins σ H s->RelV x v->RelV y u->r x y H Q ->
  r6 (t9 X.prog X.w) X.A (f v u) (EP X pins σ Q) X.xe s
def UnR (X:Cx)(f:Value->Sem Value)(r:V->Hp->VK->Prop):Prop:=
 ∀ (pins:List (Addr × Obj)) (s:Shared) (σ:St) (H:Hp) (x:V) (v:Value) (Q:VK),Inv X pins σ H s->RelV x v->r x H Q ->
  r6 (t9 X.prog X.w) X.A (f v) (EP X pins σ Q) X.xe s
def U2 (X:Cx)(f:Value)(r:List V->Hp->VK->Prop):Prop:=
 ∀ (pins:List (Addr × Obj)) (s:Shared) (σ:St) (H:Hp) (xs:List V) (us:List Value) (Q:VK),Inv X pins σ H s->D6 xs us->r xs H Q ->
  r6 (t9 X.prog X.w) X.A (call f us) (EP X pins σ Q) X.xe s
def cj5 (X:Cx)(r:V->Hp->(Bool->Hp->Prop)->Prop):Prop:=
 ∀ (pins:List (Addr × Obj)) (s:Shared) (σ:St) (H:Hp) (x:V) (v:Value) (Q:Bool->Hp->Prop),Inv X pins σ H s->RelV x v->r x H Q ->
  r6 (t9 X.prog X.w) X.A (truthy v) (TP X pins σ Q) X.xe s
def tOp (r:R2)(ta tb:TE):TE:=fun σ H Q=>ta σ H fun x H1=>tb σ H1 fun y H2=>r x y H2 Q
def tUn (r:V->Hp->VK->Prop)(ta:TE):TE:=fun σ H Q=>ta σ H fun x H1=>r x H1 Q
def rI (C:Int->Int->Prop)(g:Int->Int->V):R2:=fun x y H Q=>∃ i j,x=.int i/\y=.int j/\C i j/\Q (g i j) H
def rI0 (g:Int->Int->V):R2:=fun x y H Q=>∃ i j,x=.int i/\y=.int j/\Q (g i j) H
def rU (g:Int->V):V->Hp->VK->Prop:=fun x H Q=>∃ i,x=.int i/\Q (g i) H
section
variable {a b c:Expr} {tb tc:TE}
theorem bY0 (ha:PE X a ta)(hb:PE X b tb){R:V->V->Hp->Prop}(I:Inv X pins σ H s)
  (h:ta σ H fun x H1=>tb σ H1 fun y H2=>R x y H2){f:Value->Value->Sem Value}
  (hf:∀ v u s2 x y H2,Inv X pins σ H2 s2->RelV x v->RelV y u->R x y H2->r6 (t9 X.prog X.w) X.A (f v u) Q X.xe s2) :
  r6 (t9 X.prog X.w) X.A (eval a X.env) (fun v s₁=>r6 (t9 X.prog X.w) X.A (eval b X.env) (fun u s₂=>r6 (t9 X.prog X.w) X.A (f v u) Q X.xe s₂) X.xe s₁) X.xe s:=by
 refine thn (ha pins s σ H _ I h) fun v s1 ⟨x,H1,I1,r1,q1⟩=>?_
 refine thn (hb pins s1 σ H1 _ I1 q1) fun u s2 ⟨y,H2,I2,r2,q2⟩=>?_
 exact hf v u s2 x y H2 I2 r1 r2 q2
theorem v7 {op:Operator}{r:R2}(ho:OpR X (ap3 op) r)(ha:PE X a ta)(hb:PE X b tb):PE X (.BinOp a op b pos) (tOp r ta tb):=by
 intro pins s σ H Q I h
 exact wpAny_BinOp (bY0 ha hb I h fun v u s2 x y H2 I2 rx ry q=>ho pins s2 σ H2 x y v u Q I2 rx ry q)
theorem aB8 {op:UnaryOp}{r:V->Hp->VK->Prop}(ho:UnR X (unaryOp op) r)(ha:PE X a ta):PE X (.UnaryOp op a pos) (tUn r ta):=by
 intro pins s σ H Q I h
 exact UnaryOp_ (thn (ha pins s σ H _ I h) fun v s1 ⟨x,H1,I1,r1,q1⟩=>ho pins s1 σ H1 x v Q I1 r1 q1)
theorem opI {f:Value->Value->Sem Value}{C:Int->Int->Prop}{g:Int->Int->Int}
  (rule:∀ (i j:Int) (t u:Tok) (s:Shared) (Q:Value->Shared->Prop) (E:Value->Shared->Prop),C i j->Q (.int (g i j) s.toks) { s with toks:=s.toks+1 }->r6 (t9 X.prog X.w) X.A (f (.int i t) (.int j u)) Q E s) :
  OpR X f (rI C fun i j=>.int (g i j)):=by
 intro pins s σ H x y v u Q I rx ry h
 obtain⟨i,j,rfl,rfl,hc,q⟩:=h
 obtain⟨t,rfl⟩:=rx
 obtain⟨t',rfl⟩:=ry
 exact rule i j t t' s _ _ hc ⟨.int (g i j),H,I.tok _,⟨_,rfl⟩,q⟩
theorem cd7 {f:Value->Value->Sem Value}{g:Int->Int->Int}
  (rule:∀ (i j:Int) (t u:Tok) (s:Shared) (Q:Value->Shared->Prop) (E:Value->Shared->Prop),Q (.int (g i j) s.toks) { s with toks:=s.toks+1 }->r6 (t9 X.prog X.w) X.A (f (.int i t) (.int j u)) Q E s) :
  OpR X f (rI0 fun i j=>.int (g i j)):=by
 intro pins s σ H x y v u Q I rx ry h
 obtain⟨i,j,rfl,rfl,q⟩:=h
 obtain⟨t,rfl⟩:=rx
 obtain⟨t',rfl⟩:=ry
 exact rule i j t t' s _ _ ⟨.int (g i j),H,I.tok _,⟨_,rfl⟩,q⟩
theorem bG0 {f:Value->Value->Sem Value}{g:Int->Int->Bool}
  (rule:∀ (i j:Int) (t u:Tok) (s:Shared) (Q:Value->Shared->Prop) (E:Value->Shared->Prop),Q (.bool (g i j)) s->r6 (t9 X.prog X.w) X.A (f (.int i t) (.int j u)) Q E s) :
  OpR X f (rI0 fun i j=>.bl (g i j)):=by
 intro pins s σ H x y v u Q I rx ry h
 obtain⟨i,j,rfl,rfl,q⟩:=h
 obtain⟨t,rfl⟩:=rx
 obtain⟨t',rfl⟩:=ry
 exact rule i j t t' s _ _ ⟨.bl (g i j),H,I,rfl,q⟩
def cj9 (i j:Int):Prop:=0<j/\j<1073741824
def cj8 (i j:Int):Prop:=0<=j/\j<=1000000/\i.natAbs<2 ^ 64
def bY6 (i j:Int):Prop:=(-(2 ^ 64)<i/\i<2 ^ 64)\/(-(2 ^ 64)<j/\j<2 ^ 64)
theorem bY6.ok {i j:Int}(h:bY6 i j):IntMulOk i j:=by
 rcases h with⟨h1,h2⟩ | ⟨h1,h2⟩
 ·exact .of_left (intBits_le_64 h1 h2)
 ·exact .of_right (intBits_le_64 h1 h2)
theorem N4:OpR X (ap3 .Add) (rI0 fun i j=>.int (i+j)):=cd7 fun _ _ _ _ _ _ _ q=>add_int q
theorem V2:OpR X (ap3 .Sub) (rI0 fun i j=>.int (i - j)):=cd7 fun _ _ _ _ _ _ _ q=>sub_int q
theorem ao5:OpR X (ap3 .Mult) (rI bY6 fun i j=>.int (i*j)):=opI fun _ _ _ _ _ _ _ hc q=>mul_int q hc.ok
theorem Y9:OpR X (ap3 .FloorDiv) (rI cj9 fun i j=>.int (i / j)):=opI fun i j _ _ _ _ _ hc q=>by
 have h1:(0:Int)<j:=hc.1
 have h2:j<1073741824:=hc.2
 exact floordiv_int (by omega) (by rw[Int.fdiv_eq_ediv_of_nonneg i (by omega)];exact q) (.inl (PyProof.noPylong_small (by omega)))
theorem N3:OpR X (ap3 .Mod) (rI (fun _ j=>0<j) fun i j=>.int (i % j)):=opI fun i j _ _ _ _ _ hc q=>by
 have h1:(0:Int)<j:=hc
 exact mod_int' (by omega) (by rw[Int.fmod_eq_emod_of_nonneg i (by omega)];exact q)
theorem aN7:OpR X (ap3 .Pow) (rI cj8 fun i j=>.int (i ^ j.toNat)):=opI fun _ _ _ _ _ _ _ hc q=>pow_int_small hc.1 hc.2.1 hc.2.2 q
theorem unI {f:Value->Sem Value}{g:Int->Int}
  (rule:∀ (i:Int) (t:Tok) (s:Shared) (Q:Value->Shared->Prop) (E:Value->Shared->Prop),Q (.int (g i) s.toks) { s with toks:=s.toks+1 }->r6 (t9 X.prog X.w) X.A (f (.int i t)) Q E s) :
  UnR X f (rU fun i=>.int (g i)):=by
 intro pins s σ H x v Q I rx h
 obtain⟨i,rfl,q⟩:=h
 obtain⟨t,rfl⟩:=rx
 exact rule i t s _ _ ⟨.int (g i),H,I.tok _,⟨_,rfl⟩,q⟩
theorem ao1:UnR X (unaryOp .USub) (rU fun i=>.int (-i)):=unI fun _ _ _ _ _ q=>neg_int q
end
def cc6:V->V->Bool
 | .non,.non=>true | .non,.int _=>true | .int _,.non=>true | .non,.bl _=>true | .bl _,.non=>true | .non,.str _=>true | .str _,.non=>true
 | .int _,.int _=>true | .bl _,.bl _=>true | .str _,.str _=>true | .byt _,.byt _=>true
 | .int _,.str _=>true | .str _,.int _=>true | .bl _,.str _=>true | .str _,.bl _=>true
 | _,_=>false
def rEq:R2:=fun x y H Q=>cc6 x y=true/\Q (.bl (decide (x=y))) H
def rNe:R2:=fun x y H Q=>cc6 x y=true/\Q (.bl (!decide (x=y))) H
theorem bi6 {i j:Int}:decide (V.int i=V.int j)=(i == j):=by
 rw[ar7]
 simp
theorem by9 {i j:Bool}:decide (V.bl i=V.bl j)=(i == j):=by
 rw[ar7]
 simp
theorem bi5 {i j:Str}:decide (V.str i=V.str j)=(i == j):=by
 rw[ar7]
 simp
theorem bi7 {i j:Array UInt8}:decide (V.byt i=V.byt j)=(i.toList == j.toList):=by
 rw[ar7]
 cases i
 cases j
 simp
section
variable {a b c:Expr} {tb tc:TE}
theorem F1 {Q:VK}{k k':Bool}(I:Inv X pins σ H s)(q:Q (.bl k) H)(e:k=k'):EP X pins σ Q (.bool k') s:=by
 subst e
 exact⟨.bl k,H,I,rfl,q⟩
theorem av8:OpR X (K1 .Eq) rEq:=by
 intro pins s σ H x y v u Q I rx ry h
 obtain⟨hs,q⟩:=h
 cases x with
 | non =>
  cases rx
  cases y with
  | non=>cases ry;exact PySem.EqNone.eq_none_none (F1 I q (by simp))
  | bl j=>cases ry;exact PySem.EqNone.eq_none_bool (F1 I q (by simp))
  | int j=>obtain⟨t',rfl⟩:=ry;exact PySem.EqNone.eq_none_int (F1 I q (by simp))
  | str j=>obtain⟨t',rfl⟩:=ry;exact PySem.EqNone.eq_none_str (F1 I q (by simp))
  | _=>exact absurd (show false=true from hs) j7
 | bl i =>
  cases rx
  cases y with
  | non=>cases ry;exact PySem.EqNone.eq_bool_none (F1 I q (by simp))
  | bl j=>cases ry;exact eq_bool (F1 I q by9)
  | str j=>obtain⟨t',rfl⟩:=ry;exact PySem.EqMixed.eq_bool_str (F1 I q (by simp))
  | _=>exact absurd (show false=true from hs) j7
 | int i =>
  obtain⟨t,rfl⟩:=rx
  cases y with
  | non=>cases ry;exact PySem.EqNone.eq_int_none (F1 I q (by simp))
  | int j=>obtain⟨t',rfl⟩:=ry;exact eq_int (F1 I q bi6)
  | str j=>obtain⟨t',rfl⟩:=ry;exact PySem.EqMixed.eq_int_str (F1 I q (by simp))
  | _=>exact absurd (show false=true from hs) j7
 | str i =>
  obtain⟨t,rfl⟩:=rx
  cases y with
  | non=>cases ry;exact PySem.EqNone.eq_str_none (F1 I q (by simp))
  | bl j=>cases ry;exact PySem.EqMixed.eq_str_bool (F1 I q (by simp))
  | int j=>obtain⟨t',rfl⟩:=ry;exact PySem.EqMixed.eq_str_int (F1 I q (by simp))
  | str j=>obtain⟨t',rfl⟩:=ry;exact eq_str (F1 I q bi5)
  | _=>exact absurd (show false=true from hs) j7
 | byt i =>
  obtain⟨t,rfl⟩:=rx
  cases y with
  | byt j=>obtain⟨t',rfl⟩:=ry;exact PySem.W.eq_bytes (F1 I q bi7)
  | _=>exact absurd (show false=true from hs) j7
 | _=>cases y<;>exact absurd (show false=true from hs) j7
theorem bt8:OpR X (K1 .NotEq) rNe:=by
 intro pins s σ H x y v u Q I rx ry h
 obtain⟨hs,q⟩:=h
 cases x with
 | non =>
  cases rx
  cases y with
  | non=>cases ry;exact PySem.EqNone.ne_none_none (F1 I q (by simp))
  | bl j=>cases ry;exact PySem.EqNone.ne_none_bool (F1 I q (by simp))
  | int j=>obtain⟨t',rfl⟩:=ry;exact PySem.EqNone.ne_none_int (F1 I q (by simp))
  | str j=>obtain⟨t',rfl⟩:=ry;exact PySem.EqNone.ne_none_str (F1 I q (by simp))
  | _=>exact absurd (show false=true from hs) j7
 | bl i =>
  cases rx
  cases y with
  | non=>cases ry;exact PySem.EqNone.ne_bool_none (F1 I q (by simp))
  | bl j=>cases ry;exact ne_bool (F1 I q (congrArg not by9))
  | str j=>obtain⟨t',rfl⟩:=ry;exact PySem.EqMixed.ne_bool_str (F1 I q (by simp))
  | _=>exact absurd (show false=true from hs) j7
 | int i =>
  obtain⟨t,rfl⟩:=rx
  cases y with
  | non=>cases ry;exact PySem.EqNone.ne_int_none (F1 I q (by simp))
  | int j=>obtain⟨t',rfl⟩:=ry;exact ne_int (F1 I q (congrArg not bi6))
  | str j=>obtain⟨t',rfl⟩:=ry;exact PySem.EqMixed.ne_int_str (F1 I q (by simp))
  | _=>exact absurd (show false=true from hs) j7
 | str i =>
  obtain⟨t,rfl⟩:=rx
  cases y with
  | non=>cases ry;exact PySem.EqNone.ne_str_none (F1 I q (by simp))
  | bl j=>cases ry;exact PySem.EqMixed.ne_str_bool (F1 I q (by simp))
  | int j=>obtain⟨t',rfl⟩:=ry;exact PySem.EqMixed.ne_str_int (F1 I q (by simp))
  | str j=>obtain⟨t',rfl⟩:=ry;exact ne_str (F1 I q (congrArg not bi5))
  | _=>exact absurd (show false=true from hs) j7
 | byt i =>
  obtain⟨t,rfl⟩:=rx
  cases y with
  | byt j=>obtain⟨t',rfl⟩:=ry;exact PySem.W.ne_bytes (F1 I q (congrArg not bi7))
  | _=>exact absurd (show false=true from hs) j7
 | _=>cases y<;>exact absurd (show false=true from hs) j7
theorem aj6:OpR X (K1 .Lt) (rI0 fun i j=>.bl (decide (i<j))):=bG0 fun _ _ _ _ _ _ _ q=>lt_int q
theorem ah4:OpR X (K1 .LtE) (rI0 fun i j=>.bl (decide (i<=j))):=bG0 fun _ _ _ _ _ _ _ q=>le_int q
theorem bN7:OpR X (K1 .Gt) (rI0 fun i j=>.bl (decide (j<i))):=bG0 fun _ _ _ _ _ _ _ q=>gt_int q
theorem cd6:OpR X (K1 .GtE) (rI0 fun i j=>.bl (decide (j<=i))):=bG0 fun _ _ _ _ _ _ _ q=>ge_int q
theorem bF8:OpR X (K1 .IsNot) (fun x y H Q=>y=.non/\Q (.bl (!decide (x=.non))) H):=by
 intro pins s σ H x y v u Q I rx ry h
 obtain⟨rfl,q⟩:=h
 cases ry
 refine isnot_none_gen (F1 I q ?_)
 cases x<;>first
  | (cases rx;rfl)
  | (obtain⟨t,rfl⟩:=rx;rfl)
theorem F5 (b:Expr){op:CmpOp}(h:op≠.In:=by decide)(h2:op≠.NotIn:=by decide):aL4 op b=false:=by
 have e1:(op == CmpOp.In)=false:=by cases op<;>first | rfl | exact absurd rfl h
 have e2:(op == CmpOp.NotIn)=false:=by cases op<;>first | rfl | exact absurd rfl h2
 cases b<;>simp[aL4,e1,e2]
theorem ay3 {op:CmpOp}{r:R2}(ho:OpR X (K1 op) r)(ha:PE X a ta)(hb:PE X b tb)(hm:aL4 op b=false):PE X (.Compare a [op] [b] pos) (tOp r ta tb):=by
 intro pins s σ H Q I h
 exact wpAny_Compare1 (bY0 ha hb I h fun v u s2 x y H2 I2 rx ry q=>ho pins s2 σ H2 x y v u Q I2 rx ry q) hm
def bL9 (t:TE):TT:=fun σ H Q=>t σ H fun x H'=>∃ k,x=.bl k/\Q k H'
theorem D3 {op:CmpOp}{r:R2}(ho:OpR X (K1 op) r)(ha:PE X a ta)(hb:PE X b tb)(hm:aL4 op b=false):PT X (.Compare a [op] [b] pos) (bL9 (tOp r ta tb)):=by
 intro pins s σ H Q I h
 refine wpAny_isTrue_Compare1 (thn (ha pins s σ H _ I h) fun v s1 ⟨x,H1,I1,r1,q1⟩=>thn (hb pins s1 σ H1 _ I1 q1) fun u s2 ⟨y,H2,I2,r2,q2⟩ =>
  thn (ho pins s2 σ H2 x y v u _ I2 r1 r2 q2) fun c s3 ⟨z,H3,I3,r3,k,e,q3⟩=>?_) hm
 subst e
 cases r3
 exact M3 ⟨H3,I3,q3⟩
def bq0 (r r':R2)(ta tb tc:TE):TE:=fun σ H Q=>ta σ H fun x H1=>tb σ H1 fun y H2=>r x y H2 fun z H3=>∃ k,z=.bl k /\
 (if k=true then tc σ H3 fun w' H4=>r' y w' H4 Q else Q (.bl false) H3)
theorem bt5 {op op':CmpOp}{r r':R2}(ho:OpR X (K1 op) r)(ho':OpR X (K1 op') r')(ha:PE X a ta)(hb:PE X b tb)(hc:PE X c tc)
  (hm:lastMarks [op,op'] [b,c]=false:=by with_unfolding_all rfl):PE X (.Compare a [op,op'] [b,c] pos) (bq0 r r' ta tb tc):=by
 intro pins s σ H Q I h
 refine Compare_chain (thn (ha pins s σ H _ I h) fun v s1 ⟨x,H1,I1,r1,q1⟩=>chain_link (thn (hb pins s1 σ H1 _ I1 q1) fun u s2 ⟨y,H2,I2,r2,q2⟩ =>
  thn (ho pins s2 σ H2 x y v u _ I2 r1 r2 q2) fun d s3 ⟨z,H3,I3,r3,k,e,q3⟩=>?_)) hm
 subst e
 cases r3
 refine M3 ?_
 cases k with
 | false=>exact ite_ff ⟨.bl false,H3,I3,rfl,q3⟩
 | true=>exact ite_tt (chain_last (thn (hc pins s3 σ H3 _ I3 q3) fun w' s4 ⟨z',H4,I4,r4,q4⟩=>ho' pins s4 σ H4 y z' u w' Q I4 r2 r4 q4))
theorem aj4 {op op':CmpOp}{r r':R2}(ho:OpR X (K1 op) r)(ho':OpR X (K1 op') r')(ha:PE X a ta)(hb:PE X b tb)(hc:PE X c tc)
  (hm:lastMarks [op,op'] [b,c]=false:=by with_unfolding_all rfl):PT X (.Compare a [op,op'] [b,c] pos) (bL9 (bq0 r r' ta tb tc)):=by
 intro pins s σ H Q I h
 refine isTrue_chain (thn (ha pins s σ H _ I h) fun v s1 ⟨x,H1,I1,r1,q1⟩=>test_link (thn (hb pins s1 σ H1 _ I1 q1) fun u s2 ⟨y,H2,I2,r2,q2⟩ =>
  thn (ho pins s2 σ H2 x y v u _ I2 r1 r2 q2) fun d s3 ⟨z,H3,I3,r3,k,e,q3⟩=>?_)) hm
 subst e
 cases r3
 refine M3 ?_
 cases k with
 | false =>
  obtain⟨k',e',q'⟩:=q3
  cases e'
  exact ite_ff ⟨H3,I3,q'⟩
 | true =>
  refine ite_tt (test_last (thn (hc pins s3 σ H3 _ I3 q3) fun w' s4 ⟨z',H4,I4,r4,q4⟩=>thn (ho' pins s4 σ H4 y z' u w' _ I4 r2 r4 q4) fun d' s5 ⟨z2,H5,I5,r5,k2,e2,q5⟩=>?_))
  subst e2
  cases r5
  exact M3 ⟨H5,I5,q5⟩
def bY4 (K:W.Frag)(x:V)(H:Hp)(k:Bool):Prop:=
 match x with
 | .non=>k=false
 | .bl b=>k=b
 | .int i=>k=(i != 0)
 | .str y=>y.length<=j5/\k=((y.length:Int) != 0)
 | .byt y=>y.size<=j5/\k=((y.size:Int) != 0)
 | .ref p=>(∃ xs,SqL K H p xs/\k=!xs.isEmpty)\/(∃ xs,SqT K H p xs/\k=!xs.isEmpty)\/∃ kvs,H p=some (.dK kvs)/\k=!kvs.isEmpty
 | _=>False
theorem bc3 {κ:Type}{kvs:List (κ × V)}{vs:List (κ × Value)}(r:KV kvs vs):(!vs.isEmpty)=!kvs.isEmpty:=by
 cases r<;>rfl
theorem aD5 (r:D6 xs its):(!its.toArray.isEmpty)=!xs.isEmpty:=by
 cases r<;>simp
theorem ao6:(j5:Nat)<2 ^ 63:=by rw[E4];decide
theorem bp6:cj5 X (fun x H Q=>∃ k,bY4 X.K x H k/\Q k H):=by
 intro pins s σ H x v Q I rx h
 obtain⟨k,e,q⟩:=h
 have hl:=ao6
 have hs:j5=16777216:=E4
 cases x with
 | non =>
  cases rx
  have e':k=false:=e
  subst e'
  exact truthy_none ⟨H,I,q⟩
 | bl b =>
  cases rx
  have e':k=b:=e
  subst e'
  exact M3 ⟨H,I,q⟩
 | int i =>
  obtain⟨t,rfl⟩:=rx
  have e':k=(i != 0):=e
  subst e'
  exact PySem.P.truthy_int ⟨H,I,q⟩
 | str y =>
  obtain⟨t,rfl⟩:=rx
  obtain⟨hy,e'⟩:y.length<=j5/\k=((y.length:Int) != 0):=e
  subst e'
  exact PySem.P.truthy_str (by omega) ⟨H,I.tok _,q⟩
 | byt y =>
  obtain⟨t,rfl⟩:=rx
  obtain⟨hy,e'⟩:y.size<=j5/\k=((y.size:Int) != 0):=e
  subst e'
  exact PySem.W.truthy_bytes (by omega) ⟨H,I.tok _,q⟩
 | ref p =>
  cases rx
  have e':(∃ xs,SqL X.K H p xs/\k=!xs.isEmpty)\/(∃ xs,SqT X.K H p xs/\k=!xs.isEmpty)\/∃ kvs,H p=some (.dK kvs)/\k=!kvs.isEmpty:=e
  rcases e' with⟨xs,hx,e'⟩ | ⟨xs,hx,e'⟩ | ⟨kvs,hx,e'⟩
  ·subst e'
   obtain⟨its,r,pl,hz⟩:=I.list hx
   have hlen:=r.length
   exact wpAny_truthy_list pl.isList (by simp only[d6];omega) ⟨H,I.tok _,by rw[aD5 r];exact q⟩
  ·subst e'
   obtain⟨its,r,pl,hz⟩:=I.tuple hx
   have hlen:=r.length
   exact truthy_tuple pl (by simp only[d6];omega) ⟨H,I.tok _,by rw[aD5 r];exact q⟩
  ·subst e'
   obtain⟨hz,hS,vs,r,m⟩:kvs.length<=j5/\(p == sysModules)=false/\∃ vs,KV kvs vs/\s.heap.DictOf (aO0 X.prog X.w) p vs:=I.hok p _ hx
   have hlen:kvs.length=vs.length:=Paired.length r
   exact wpAny_truthy_dict hS m (by omega) ⟨H,I.tok _,by rw[bc3 r];exact q⟩
 | _=>exact(show False from e).elim
theorem aB4 (ha:PE X a ta)(he:∀ whole,isTrue a X.env whole=(do let v <- whole;standAt a.pos;aG4 [v] (truthy v))) :
  PT X a (fun σ H Q=>ta σ H fun x H'=>∃ k,bY4 X.K x H' k/\Q k H'):=by
 intro pins s σ H Q I h
 exact isTrue_plain (thn (ha pins s σ H _ I h) fun v s1 ⟨x,H1,I1,r1,q1⟩=>bp6 pins s1 σ H1 x v Q I1 r1 q1) (he _)
theorem vals1 {x:V}(r:D6 [x] us):∃ u,us=[u]/\RelV x u:=by
 cases r with
 | cons r1 r2=>cases r2;exact⟨_,rfl,r1⟩
theorem vals2 {x y:V}(r:D6 [x,y] us):∃ u w',us=[u,w']/\RelV x u/\RelV y w':=by
 cases r with
 | cons r1 r2 =>
  cases r2 with
  | cons r3 r4=>cases r4;exact⟨_,_,rfl,r1,r3⟩
theorem au9 (hc:X.calm=true):U2 X (.builtin "max") (fun xs H Q=>∃ i j,xs=[.int i,.int j]/\Q (.int (if j > i then j else i)) H):=by
 intro pins s σ H xs us Q I r h
 obtain⟨i,j,rfl,q⟩:=h
 obtain⟨u,w',rfl,⟨t,rfl⟩,⟨t',rfl⟩⟩:=vals2 r
 refine max_two_ints (I.ok.hd hc) fun h' tk k=>⟨_,H,I.kept k,?_,q⟩
 by_cases hj:j > i
 ·rw[if_pos hj,if_pos hj];exact⟨_,rfl⟩
 ·rw[if_neg hj,if_neg hj];exact⟨_,rfl⟩
theorem al8 (hc:X.calm=true):U2 X (.builtin "min") (fun xs H Q=>∃ i j,xs=[.int i,.int j]/\Q (.int (if j<i then j else i)) H):=by
 intro pins s σ H xs us Q I r h
 obtain⟨i,j,rfl,q⟩:=h
 obtain⟨u,w',rfl,⟨t,rfl⟩,⟨t',rfl⟩⟩:=vals2 r
 refine min_two_ints (I.ok.hd hc) fun h' tk k=>⟨_,H,I.kept k,?_,q⟩
 by_cases hj:j<i
 ·rw[if_pos hj,if_pos hj];exact⟨_,rfl⟩
 ·rw[if_neg hj,if_neg hj];exact⟨_,rfl⟩
end
structure ck0 (h:Heap) (x dx C:Addr) (mA:Str->Option Value):Prop where
 obj:h.get? x=some (PySem.W.instObj C dx)
 ns:h.Ns1 dx mA
 ne:dx≠x
section
variable {K:W.Frag} {x dx:Addr} {mA:Str->Option Value} {name:Str}
end
section
variable {dx:Addr} {fs fs':List (Str × V)}
end
structure Cls (K:W.Frag) (C:Addr):Prop where
 pg:PySem.W.plainGet K C Str.empty=true
 hd:PySem.W.hasDictIn K C=true
 po:PySem.W.plainOver K C=true
 sa:PySem.W.findIn K (.ref C) "__setattr__"=some (some (.builtin "object.__setattr__"))
structure Con (K:W.Frag) (C:Addr) (f:Str) (v:V) (u:Value):Prop where
 at_:PySem.W.findIn K (.ref C) f=some (some u)
 rel:RelV v u
 get:PySem.W.specialIn K u "__get__"=some none
 cp:PySem.W.copiedNames.contains f=false
structure ck1 (K:W.Frag) (C:Addr) (m:Str) (f:Addr):Prop where
 at_:PySem.W.findIn K (.ref C) m=some (some (.ref f))
 fn:PySem.W.isFn K (.ref f)=true
 kp:Q5 K (.ref f)=true
section
variable {dx:Addr} {fs:List (Str × V)} {f:Str} {v:V}
end
section
variable {value:Expr} {f:Str} {pos' tpos:Pos} {tv:TE}
end
section
variable {c:Value} {b:Bool}
inductive aF2 (K:W.Frag) (H:Hp):V->Value->Prop where
 | non:aF2 K H .non (.type "NoneType")
 | bl (x:Bool):aF2 K H (.bl x) (.type "bool")
 | int (i:Int):aF2 K H (.int i) (.type "int")
 | str (x:Str):aF2 K H (.str x) (.type "str")
 | flt (x:UInt64):aF2 K H (.flt x) (.type "float")
 | lst {a:Addr} {xs:List V} (e:H a=some (.lst xs)):aF2 K H (.ref a) (.type "list")
 | frz {a:Addr} {o:Obj} {xs:List V} (e:H a=some (.frz o (.lst xs))):aF2 K H (.ref a) (.type "list")
 | tup {a:Addr} {xs:List V} (e:H a=some (.tup xs)):aF2 K H (.ref a) (.type "tuple")
 | dK {a:Addr} {kvs:List (Key × V)} (e:H a=some (.dK kvs)):aF2 K H (.ref a) (.type "dict")
 | dT {a:Addr} {kvs:List (List Key × V)} (e:H a=some (.dT kvs)):aF2 K H (.ref a) (.type "dict")
 | ins {a C dx:Addr} {fs:List (Str × V)} (e:H a=some (.ins C dx fs)) (cl:Cls K C) (ha:PySem.W.findIn K (.ref C) "__class__"=some (some (.builtin "object.__class__")))
   (hn:PySem.W.specialIn K (.builtin "object.__class__") "__get__"=some (some (.builtin "getset_descriptor.__get__"))) (htk:PySem.W.takesIn K (.builtin "object.__class__")=some true)
   (hm:PySem.W.mroIn K C (.type "object")=some true):aF2 K H (.ref a) (.ref C)
end
structure X7 (k:Nat) (A:Around):Prop where
 hd:A.handled=none
 dp:A.depth+3*k+5<aG2
 un:A.units+16*k+200<an6
theorem X7.mono {k:Nat}(r:X7 k A)(h:j<=k):X7 j A:=⟨r.hd,by have:=r.dp;omega,by have:=r.un;omega⟩
theorem X7.deeper {k:Nat}(r:X7 (k+1) A)(env:Env):X7 k (A.deeper env):=
 ⟨r.hd,by have:=r.dp;show A.depth+1+3*k+5<_;omega,by have:=r.un;show A.units+3+16*k+200<_;omega⟩
theorem X7.depth {k:Nat}(r:X7 k A):A.depth<aG2:=by have:=r.dp;omega
theorem X7.units {k:Nat}(r:X7 k A):A.units+64<an6:=by have:=r.un;omega
def bp8:TA:=fun _ H Q=>Q [] H
def aR9 (ta:TE)(tr:TA):TA:=fun σ H Q=>ta σ H fun x H1=>tr σ H1 fun xs H2=>Q (x::xs) H2
section
variable {t:TA}
theorem c7:PA X [] bp8:=fun _ _ _ _ H Q I h=>Calls.spliced_nil ⟨[],H,I,.nil,h⟩
theorem b8 (ha:PE X e te)(hr:PA X es t)(hs:u5 (e::es) X.env=(false,eval e X.env)::u5 es X.env:=by rfl):PA X (e::es) (aR9 te t):=by
 intro pos pins s σ H Q I h
 rw[hs]
 show r6 _ _ (spliced ((false,eval e X.env)::S4 pos (u5 es X.env))) _ _ s
 refine Calls.spliced_cons (thn (ha pins s σ H _ I h) fun u s1 ⟨x,H1,I1,r1,q1⟩=>?_)
 exact thn (hr pos pins s1 σ H1 _ I1 q1) fun us s2 ⟨xs,H2,I2,r2,q2⟩=>⟨x::xs,H2,I2,.cons r1 r2,q2⟩
def cg8 (t:TA):TE:=fun σ H Q=>t σ H fun xs H1=>xs.length<=j5/\∀ p,H1 p=none->Q (.ref p) (upd H1 p (.tup xs))
def ch3 (t:TA):TE:=fun σ H Q=>t σ H fun xs H1=>xs.length<=j5/\∀ p,H1 p=none->Q (.ref p) (upd H1 p (.lst xs))
theorem N2 {x1}(h:PA X es t):PE X (.Tuple es x1 pos) (cg8 t):=by
 intro pins s σ H Q I hq
 refine wpAny_Tuple_spliced (thn (h pos pins s σ H _ I hq) fun us s1 ⟨xs,H1,I1,r,z,q⟩=>⟨by rw[<- r.length];exact z,?_⟩)
 have hf:H1 s1.heap.objs.size=none:=I1.hok.fresh (d5 _)
 refine⟨.ref s1.heap.objs.size,upd H1 s1.heap.objs.size (.tup xs),I1.laid (t':=s1.toks) (fun b u e=>c5 _ e) (d5 _) ?_,rfl,q _ hf⟩
 exact⟨z,us,r,⟨_,j0 _ rfl,rfl,_,rfl⟩⟩
theorem P6 (h:PA X es t):PE X (.List es pos) (ch3 t):=by
 intro pins s σ H Q I hq
 refine wpAny_List_spliced (thn (h pos pins s σ H _ I hq) fun us s1 ⟨xs,H1,I1,r,z,q⟩=>⟨by rw[<- r.length];exact z,?_⟩)
 have hf:H1 s1.heap.objs.size=none:=I1.hok.fresh (d5 _)
 refine⟨.ref s1.heap.objs.size,upd H1 s1.heap.objs.size (.lst xs),I1.laid (t':=s1.toks) (fun b u e=>c5 _ e) (d5 _) ?_,rfl,q _ hf⟩
 exact⟨z,us,0,r,j0 _ rfl⟩
end
abbrev Sp:=List V->Hp->VK->XK->Prop
abbrev CXT:=List Env->Hp->Shared->XK->Value->Shared->Prop
structure bA8 (P:Program) (w:World) (K:W.Frag) (mg:Str->Option Value) (base:Heap) (A:Around) (outer:List Env) (s:Shared) (H:Hp):Prop where
 frames:A.frames=some outer
 mod:Mod K mg base
 bs:∀ b o,base.get? b=some o->s.heap.get? b=some o/\H b=none
 bsz:base.objs.size<=s.heap.objs.size
 funs:s.heap.FunFrames base outer
 frf:∀ b∈frs outer,H b=none
 hok:HOk P w H s.heap
 bare:aw3 s.gens
def CE (outer:List Env)(P:Program)(w:World)(H:Hp)(s:Shared)(Q:VK)(u:Value)(s':Shared):Prop:=
 ∃ v H',s'.os=s.os/\aw3 s'.gens/\Un (frs outer) [] H H' s.heap s'.heap/\HOk P w H' s'.heap/\RelV v u/\Q v H'
def CR (CX:CXT)(outer:List Env)(P:Program)(w:World)(H:Hp)(s:Shared)(Q:VK)(E:XK)(r:Result)(s':Shared):Prop:=
 match r with
 | .ok (.ret u)=>CE outer P w H s Q u s'
 | .ok _=>False
 | .error e=>CX outer H s E e s'
structure x8 (P:Program) (w:World) (K:W.Frag) (mg:Str->Option Value) (base:Heap) (CX:CXT) (k:Nat) (f:Addr) (fd:FuncData) (ps:List Str) (sp:Sp):Prop where
 len:∀ vs H Q E,sp vs H Q E->vs.length=ps.length
 run:∀ (A:Around) (outer:List Env) (s:Shared) (H:Hp) (args:Args) (us:List Value) (vs:List V) (Q:VK) (E:XK),X7 k A->bA8 P w K mg base A outer s H->bj7 s fd args (ps.zip us)->D6 vs us->sp vs H Q E ->
  am1 (t9 P w) A (.call (.ref f) args) (CR CX outer P w H s Q E) s
theorem x8.mono {K:W.Frag}{mg:Str->Option Value}{base:Heap}{CX:CXT}{k:Nat}{sp:Sp}(F:x8 P w K mg base CX j f fd ps sp)(h:j<=k) :
  x8 P w K mg base CX k f fd ps sp:=⟨F.len,fun A outer s H args us vs Q E hr=>F.run A outer s H args us vs Q E (hr.mono h)⟩
section
variable {s':Shared}
theorem Inv.env0 (I:Inv X pins σ H s):bA8 X.prog X.w X.K X.mg X.base X.A X.stack s H:=
 ⟨I.ok.frames,I.ok.mod,I.bs,A1 I.ok.bsz I.sz,I.stack,I.stkFree,I.hok,I.bare⟩
theorem Inv.after {Q:VK}(I:Inv X pins σ H s)(h:CE X.stack X.prog X.w H s Q u s'):EP X pins σ Q u s':=by
 obtain⟨v,H',os,bare,un,hok,r,q⟩:=h
 obtain⟨hh,g,d,t,os'⟩:=s'
 obtain rfl:os'=s.os:=os
 exact⟨v,H',I.call (h':=hh) (g':=g) (d':=d) (t':=t) (ch:=[]) un hok bare (fun b z=>absurd z (by simp)),r,q⟩
end
def bM0 (sp:Sp)(dvs:List V)(E:XK)(t:TA):TE:=fun σ H Q=>t σ H fun vs H1=>sp (vs++dvs) H1 Q E
def Binds (K:W.Frag)(fd:FuncData)(ps:List Str)(ds:List Value):Prop:=
 ∀ (s:Shared) (us:List Value),K.In s.heap->(us++ds).length=ps.length->bj7 s fd ⟨us,[]⟩ (ps.zip (us++ds))
theorem Binds.all {K:W.Frag}(h:∀ us:List Value,us.length=ps.length->be1 fd ⟨us,[]⟩=pure (ps.zip us)):Binds K fd ps []:=fun s us _ hl=>by
 rw[D7]at hl ⊢
 exact .of_eq (h us hl)
def av0 (CX:CXT)(X:Cx)(E:XK):Prop:=∀ (pins:List (Addr × Obj)) (σ:St) (H:Hp) (s:Shared) (e:Value) (s':Shared),Inv X pins σ H s->CX X.stack H s E e s'->X.xe e s'
section
variable {CX:CXT} {k:Nat} {sp:Sp} {dvs:List V} {ds:List Value} {E:XK} {m:Str} {p apos:Pos} {t:TA}
theorem bs6 {Q:VK}{vs:List V}(F:x8 X.prog X.w X.K X.mg X.base CX k f fd ps sp)(hr:X7 k X.A)(hb:Binds X.K fd ps ds)(hd:D6 dvs ds)(hx:av0 CX X E)
  (I:Inv X pins σ H s)(r:D6 vs us)(h:sp (vs++dvs) H Q E):r6 (t9 X.prog X.w) X.A (call (.ref f) us) (EP X pins σ Q) X.xe s:=by
 have r2:D6 (vs++dvs) (us++ds):=r.append hd
 have hl:(us++ds).length=ps.length:=by rw[<- r2.length];exact F.len _ _ _ _ h
 refine aQ3 (ac4 (F.run X.A X.stack s H ⟨us,[]⟩ (us++ds) (vs++dvs) Q E hr I.env0 (hb s us I.kIn hl) r2 h) fun r s' hq=>?_)
 cases r with
 | error e=>exact hx pins σ H s e s' I hq
 | ok fl =>
  cases fl with
  | ret u=>exact I.after hq
  | next=>exact False.elim hq
  | brk=>exact False.elim hq
  | cont=>exact False.elim hq
theorem ay4 (F:x8 X.prog X.w X.K X.mg X.base CX k f fd ps sp)(hr:X7 k X.A)(hg:Gl X x)(hm:X.mg x=some (.ref f))(hk:Q5 X.K (.ref f)=true)(hb:Binds X.K fd ps ds)(hd:D6 dvs ds)(hx:av0 CX X E)
  (ha:PA X (e::es) t)(hdb:(x == ("__debug__":Str))=false:=by decide)(he:u5 (e::es) X.env=(false,eval e X.env)::u5 es X.env:=by rfl)(hpl:(S4 pos (u5 es X.env)).any (·.1)=false:=by rfl) :
  PE X (.Call (.Name x p) (e::es) [] pos) (bM0 sp dvs E t):=by
 intro pins s σ H Q I h
 refine J0 (af9 I hg hm ?_ hdb)
 refine PySem.W.callWith_K (h₀:=X.base) I.ok.mod.kin hk (thn (ha pos pins s σ H _ I h) fun us s1 ⟨vs,H1,I1,r,q⟩=>⟨I1.kIn,?_⟩) he hpl
 exact bs6 F hr hb hd hx I1 r q
structure Mk (K:W.Frag) (C f:Addr):Prop where
 makes:PySem.W.makesIn K C=true
 init:PySem.W.findIn K (.ref C) "__init__"=some (some (.ref f))
 fn:PySem.W.isFn K (.ref f)=true
 kp:Q5 K (.ref C)=true
end
def PK (X:Cx)(kws:List aG5)(t:TA):Prop:=
 ∀ (pos:Pos) (pins:List (Addr × Obj)) (s:Shared) (σ:St) (H:Hp) (Q:List V->Hp->Prop),Inv X pins σ H s->t σ H Q->r6 (t9 X.prog X.w) X.A (evalAll ((bC1 pos (aG6 kws X.env)).map (·.2))) (AP X pins σ Q) X.xe s
section
variable {CX:CXT} {k:Nat} {ks:List Str} {sp:Sp} {E:XK} {m:Str} {p apos kpos:Pos} {kws:List aG5} {t tk:TA} {nm:Option Str}
theorem bb3:PK X [] bp8:=fun _ _ _ _ H Q I h=>wpAny_evalAll_nil ⟨[],H,I,.nil,h⟩
theorem aN2 (ha:PE X e te)(hr:PK X kws t):PK X (⟨nm,e,kpos⟩::kws) (aR9 te t):=by
 intro pos pins s σ H Q I h
 show r6 _ _ (evalAll ((do let v <- eval e X.env;standAt pos;pure v)::(bC1 pos (aG6 kws X.env)).map (·.2))) _ _ s
 refine wpAny_evalAll_cons (b9 (thn (ha pins s σ H _ I h) fun u s1 ⟨x,H1,I1,r1,q1⟩=>b9 (ap2 (i8 ?_))))
 exact thn (hr pos pins s1 σ H1 _ I1 q1) fun us s2 ⟨xs,H2,I2,r2,q2⟩=>⟨x::xs,H2,I2,.cons r1 r2,q2⟩
structure cj7 (K:W.Frag) (fd:FuncData) (ps ks:List Str) (g:List Value->List Value->List Value) (gV:List V->List V->List V):Prop where
 to:∀ (s:Shared) (us ws:List Value),K.In s.heap->(g us ws).length=ps.length->bj7 s fd ⟨us,ks.zip ws⟩ (ps.zip (g us ws))
 rel:∀ {vs:List V} {us:List Value} {zs:List V} {ws:List Value},D6 vs us->D6 zs ws->D6 (gV vs zs) (g us ws)
variable {g:List Value->List Value->List Value}
end
structure x9 (N P:List Str) (sc:Scope):Prop where
 kind:sc.kind=.function
 co:sc.isCoroutine=false
 gen:sc.isGenerator=false
 nd:N.Nodup
 pre:N.take P.length=P
 par:∀ x∈P,sc.names.lookup x=some .local\/sc.names.lookup x=some .cell
 nofree:∀ y∈sc.names,y.2≠.free
theorem x9.mk' {P:List Str}{sc:Scope}(a:sc.kind=.function:=by rfl)(b:sc.isCoroutine=false:=by rfl)(c:sc.isGenerator=false:=by rfl)(d:N.Nodup:=by decide +kernel)(e:N.take P.length=P:=by rfl)(f:∀ x∈P,sc.names.lookup x=some .local\/sc.names.lookup x=some .cell:=by decide +kernel)(g:∀ y∈sc.names,y.2≠.free:=by decide +kernel):x9 N P sc:=⟨a,b,c,d,e,f,g⟩
theorem aK3 {kindOf:Str->Option aL5}:∀ {binds:List (Str × Value)} {m:Str->Option Value},(∀ v,(x,v)∉binds)->bindL kindOf binds m x=m x
 | [],_,_=>rfl
 | (n,v)::r,m,h=>by
  unfold bindL
  rw[aK3 fun w hw=>h w (d3 _ hw)]
  split
  ·have:x≠n:=by rintro rfl;exact h v g9
   simp[this]
  ·rfl
theorem aK5 {kindOf:Str->Option aL5}:∀ {binds:List (Str × Value)} {m:Str->Option Value},(∀ v,(x,v)∉binds)->bindC kindOf binds m x=m x
 | [],_,_=>rfl
 | (n,v)::r,m,h=>by
  unfold bindC
  rw[aK5 fun w hw=>h w (d3 _ hw)]
  split
  ·rfl
  ·have:x≠n:=by rintro rfl;exact h v g9
   simp[this]
theorem aK4 {kindOf:Str->Option aL5}:∀ {P:List Str} {vs:List Value} {i:Nat} {m:Str->Option Value},P.Nodup->P[i]?=some x->vs[i]?=some v->kindOf x=some .local ->
  bindL kindOf (P.zip vs) m x=some v
 | [],_,_,_,_,h,_,_=>by simp at h
 | _::_,[],_,_,_,_,h,_=>by simp at h
 | p::P,w::vs,0,m,nd,h1,h2,hk=>by
  simp at h1 h2;subst h1;subst h2
  show bindL kindOf ((p,w)::P.zip vs) m p=_
  unfold bindL
  rw[aK3 fun v hv=>(E5.mp nd).1 (ar8 hv).1,if_pos hk]
  simp
 | p::P,w::vs,i+1,m,nd,h1,h2,hk=>by
  show bindL kindOf ((p,w)::P.zip vs) m x=_
  unfold bindL
  exact aK4 (i:=i) (E5.mp nd).2 (by simpa using h1) (by simpa using h2) hk
theorem aK6 {kindOf:Str->Option aL5}:∀ {P:List Str} {vs:List Value} {i:Nat} {m:Str->Option Value},P.Nodup->P[i]?=some x->vs[i]?=some v->kindOf x≠some .local ->
  bindC kindOf (P.zip vs) m x=some v
 | [],_,_,_,_,h,_,_=>by simp at h
 | _::_,[],_,_,_,_,h,_=>by simp at h
 | p::P,w::vs,0,m,nd,h1,h2,hk=>by
  simp at h1 h2;subst h1;subst h2
  show bindC kindOf ((p,w)::P.zip vs) m p=_
  unfold bindC
  rw[aK5 fun v hv=>(E5.mp nd).1 (ar8 hv).1,if_neg hk]
  simp
 | p::P,w::vs,i+1,m,nd,h1,h2,hk=>by
  show bindC kindOf ((p,w)::P.zip vs) m x=_
  unfold bindC
  exact aK6 (i:=i) (E5.mp nd).2 (by simpa using h1) (by simpa using h2) hk
def start (N:List Str)(vs:List V):St:=vs.map some++v9 (N.length - vs.length) none
def aj8 (CX:CXT)(P:Program)(w:World)(K:W.Frag)(mg:Str->Option Value)(base:Heap)(N:List Str)(qual:Str)(scope:Scope)(f:Addr)(cd:Value)(A:Around)(outer:List Env)(s:Shared)(H:Hp)(E:XK):Cx where
 prog:=P
 w:=w
 K:=K
 mg:=mg
 base:=base
 A:=A.deeper (O1 qual scope s.heap.objs.size f cd)
 N:=N
 s₀:=s
 H₀:=H
 env:=O1 qual scope s.heap.objs.size f cd
 outer:=outer
 stack:=O1 qual scope s.heap.objs.size f cd::outer
 ex:=[]
 calm:=true
 fn:=fun _=>true
 pn:=[]
 xe:=fun e s'=>r6 (t9 P w) (A.deeper (O1 qual scope s.heap.objs.size f cd)) (leaving (O1 qual scope s.heap.objs.size f cd) e) (fun _ s''=>CX outer H s E e s'') (fun e' s''=>CX outer H s E e' s'') s'
theorem aX9 {sc:Scope}(h:sc.names.lookup x=some .cell):∃ c,(cellsFrom n sc.names []).lookup x=some c:=by
 have q:=PySem.W.cellsFrom_some sc.names n [] (.inl h)
 exact p6.mp q
theorem bm8 {CX:CXT}{K:W.Frag}{mg:Str->Option Value}{base:Heap}{cd:Value}{outer:List Env}{s1:Shared}{E:XK}{vs:List V}
  (S:x9 N ps scope)(hd:A.handled=none)(e0:bA8 P w K mg base A outer s H)(hl:vs.length=ps.length)(r:D6 vs us)
  (x:InCallC s s.heap.objs.size (bindL (O1 qual scope s.heap.objs.size f cd).kindOf (ps.zip us) fun _=>none) (cellsFrom (s.heap.objs.size+1) scope.names []) (bindC (O1 qual scope s.heap.objs.size f cd).kindOf (ps.zip us) fun _=>none) s1) :
  Inv (aj8 CX P w K mg base N qual scope f cd A outer s H E) [] (start N vs) H s1:=by
 have hpl:ps.length<=N.length:=by have:=congrArg am6 S.pre;rw[q8]at this;omega
 obtain⟨h1,tk,rfl,hk⟩:=x.done
 have noA:∀ b:Addr,b∉(aj8 CX P w K mg base N qual scope f cd A outer s H E).ex:=fun b z=>absurd (show b∈([]:List Addr) from z) (by simp)
 refine⟨⟨e0.mod,S.kind,rfl,rfl,d5 _,fun y z c h1 h2=>?_,fun y hy=>?_,fun y c _ h=>?_,fun _=>hd,Around.frames_deeper e0.frames,.inr ⟨rfl,rfl⟩,fun b z=>absurd z (noA b),e0.bs,e0.bsz,fun b _ _=>noA b,fun b z=>absurd z (noA b),e0.funs,e0.frf⟩,
  rfl,e0.bare,Un.kept hk,⟨_,x.toInCall.ns,fun i y v h1 h2 h3=>?_⟩,fun y c h=>⟨_,x.cell y c h⟩,e0.hok.fresh (d5 _),fun y c h=>?_,fun p hp=>absurd (show p∈([]:List (Addr × Obj)) from hp) (by simp),e0.hok.kept hk,?_⟩
 ·exact name_of_addr x.apart (PySem.mem_of_lookup h1) (PySem.mem_of_lookup h2)
 ·have hy:scope.names.lookup y=some .cell\/scope.names.lookup y=some .free:=hy
  rcases hy with hy | hy
  ·exact aX9 hy
  ·exact absurd rfl (S.nofree _ (PySem.mem_of_lookup hy))
 ·exact as0 (x.above y c (PySem.mem_of_lookup h))
 ·have hi:i<vs.length:=by
   unfold start at h2
   by_cases hi:i<vs.length
   ·exact hi
   ·rw[J3 (by simpa using hi)]at h2
    rw[List.getElem?_replicate]at h2
    split at h2<;>cases h2
  have ha:vs[i]?=some v:=by
   unfold start at h2
   rw[V6 (by simpa using hi),p0]at h2
   cases e:vs[i]? with
   | none=>rw[e]at h2;cases h2
   | some a=>rw[e]at h2;cases h2;rfl
  obtain⟨u,hu,rv⟩:=r.get ha
  have hp:ps[i]?=some y:=by
   rw[<- S.pre,W4 (by omega)];exact h1
  have ndP:ps.Nodup:=by rw[<- S.pre];exact S.nd.sublist (L5 _ _)
  refine⟨u,rv,?_⟩
  rcases S.par y (f9 hp) with k | k
  ·exact .inl ⟨k,aK4 ndP hp hu k⟩
  ·obtain⟨c,e⟩:=aX9 (n:=s.heap.objs.size+1) k
   refine .inr ⟨.inl k,c,e,?_⟩
   have q:=x.cell y c e
   rw[aK6 ndP hp hu (by show scope.names.lookup y≠_;rw[k];decide)]at q
   exact q
 ·exact e0.hok.fresh (as0 (x.above y c (PySem.mem_of_lookup h)))
 ·unfold start
  show _=N.length
  rw[o6,b7,ar9]
  omega
theorem bx8 {CX:CXT} {K:W.Frag} {mg:Str->Option Value} {base:Heap} {k:Nat} {name:Str} {dV kV doc pm cdv ct oc:Value} {an od:Option Addr}
  {osl:Array (Option Value)} {sp:Sp} (lk:K.lookup f=some ⟨oc,od,.func (V8 name qual params body scope dV kV doc pm an cdv ct),osl⟩) (hcd:aQ1 K cdv qual=true) (S:x9 N ps scope)
  (len:∀ vs H Q E,sp vs H Q E->vs.length=ps.length)
  (hbody : ∀ (A : Around) (outer : List Env) (s : Shared) (H : Hp) (vs : List V) (Q : VK) (E : XK), X7 k (A.deeper (O1 qual scope s.heap.objs.size f cdv)) -> sp vs H Q E ->
   ∃ t,PSs (aj8 CX P w K mg base N qual scope f cdv A outer s H E) body t/\t { nx:=fun _ H'=>Q .non H',rt:=Q } (start N vs) H) :
  x8 P w K mg base CX (k+1) f (V8 name qual params body scope dV kV doc pm an cdv ct) ps sp:=by
 refine⟨len,fun A outer s H args us vs Q E hr e0 hb r hsp=>?_⟩
 have hl:=len _ _ _ _ hsp
 have KX:K.In s.heap:=e0.mod.kin.keeps fun b o e=>(e0.bs b o e).1
 have lim:s.heap.NoLimit:=e0.mod.nolimit.keeps fun b o e=>(e0.bs b o e).1
 have hkind:∀ y∈ps.zip us,scope.names.lookup y.1=some .local\/(scope.names.lookup y.1=some .cell/\((cellsFrom (s.heap.objs.size+1) scope.names []).lookup y.1).isSome=true):=fun⟨n,v⟩ hy=>by
  rcases S.par n (ar8 hy).1 with q | q
  ·exact .inl q
  ·exact .inr ⟨q,PySem.W.cellsFrom_some _ _ _ (.inl q)⟩
 refine codeAny_call_function hr.depth (KX _ _ lk) rfl S.co S.gen rfl (PySem.W.codeRec_of KX hcd) (hb _ _ _ _ ?_)
 refine wpAny_newFunctionEnv_cells S.kind hkind fun env he s1 x=>?_
 subst he
 refine⟨lim.keeps x.toInCall.keep,codeAny_func ?_⟩
 obtain⟨t,ht,hq⟩:=hbody A outer s H vs Q E (hr.deeper _) hsp
 have I:Inv (aj8 CX P w K mg base N qual scope f cdv A outer s H E) [] (start N vs) H s1:=bm8 S hr.hd e0 hl r x
 refine E1 (ht [] s1 (start N vs) H _ I hq) (fun fl s' hs=>?_) fun e s' hs=>hs
 have fin:∀ {σ':St} {H':Hp} {v:V} {u:Value},Inv (aj8 CX P w K mg base N qual scope f cdv A outer s H E) [] σ' H' s'->RelV v u->Q v H'->CE outer P w H s Q u s':=
  fun {σ' H' v u} J rv q=>⟨v,H',J.os,J.bare,J.base,J.hok,rv,q⟩
 cases fl with
 | ret u =>
  obtain⟨v,σ',H',J,rv,q⟩:=hs
  exact fin J rv q
 | next =>
  obtain⟨σ',H',J,q⟩:=hs
  exact fin (v:=V.non) (u:=Value.none) J rfl q
 | brk =>
  obtain⟨_,_,_,q⟩:=hs
  exact False.elim q
 | cont =>
  obtain⟨_,_,_,q⟩:=hs
  exact False.elim q
section
variable {p:Pos} {t:TA} {id T:String} {r:List V->Hp->VK->Prop}
def tCB (r:List V->Hp->VK->Prop)(t:TA):TE:=fun σ H Q=>t σ H fun vs H1=>r vs H1 Q
theorem p8 (hc:U2 X (.builtin id) r)(hg:Gl X x)(hm:X.mg x=none)(hv:L9 x=some (.builtin id))(ha:PA X (e::es) t)(hn:x≠"__name__":=by decide)(hdb:(x == ("__debug__":Str))=false:=by decide)
  (he:u5 (e::es) X.env=(false,eval e X.env)::u5 es X.env:=by rfl)(hpl:(S4 pos (u5 es X.env)).any (·.1)=false:=by rfl):PE X (.Call (.Name x p) (e::es) [] pos) (tCB r t):=by
 intro pins s σ H Q I h
 refine J0 (X8 I hg hm hv ?_ hn hdb)
 exact PyProof.Rows.callWith_builtin1 (thn (ha pos pins s σ H _ I h) fun us s1 ⟨vs,H1,I1,r1,q1⟩=>hc pins s1 σ H1 vs us Q I1 r1 q1) he hpl
theorem T9 (hc:U2 X (.type T) r)(hg:Gl X x)(hm:X.mg x=none)(hv:L9 x=some (.type T))(ha:PA X (e::es) t)(hn:x≠"__name__":=by decide)(hdb:(x == ("__debug__":Str))=false:=by decide)
  (he:u5 (e::es) X.env=(false,eval e X.env)::u5 es X.env:=by rfl)(hpl:(S4 pos (u5 es X.env)).any (·.1)=false:=by rfl):PE X (.Call (.Name x p) (e::es) [] pos) (tCB r t):=by
 intro pins s σ H Q I h
 refine J0 (X8 I hg hm hv ?_ hn hdb)
 exact PyProof.Rows.callWith_type1 (thn (ha pos pins s σ H _ I h) fun us s1 ⟨vs,H1,I1,r1,q1⟩=>hc pins s1 σ H1 vs us Q I1 r1 q1) he hpl
end
end L2
namespace HT
open PySem PyProof.Rows
section
open PySem.SeqAt
open PySem.AutoSeq1 (wpAny_loadPart')
open PySem.MeetsSeq PySem.MeetsSeq2 PySem.MeetsSeq3
end
def sIx (n d:Nat):Option Int->Nat
 | none=>d
 | some v=>if v<0 then (v+(n:Int)).toNat else min v.toNat n
theorem aT0 (n d:Nat):sIx n d none=d:=rfl
theorem bf5 (n d k:Nat):sIx n d (some (k:Int))=min k n:=by
 show (if (k:Int)<0 then ((k:Int)+(n:Int)).toNat else min (k:Int).toNat n)=min k n
 rw[if_neg (by omega),u6]
end HT
namespace L2
open PySem PySem.Spec PyProof.Rows
abbrev TO:=St->Hp->(Option Int->Hp->Prop)->Prop
def PO (X:Cx)(e:Option Expr)(t:TO):Prop:=
 ∀ (pins:List (Addr × Obj)) (s:Shared) (σ:St) (H:Hp) (Q:Option Int->Hp->Prop),Inv X pins σ H s->t σ H Q ->
  r6 (t9 X.prog X.w) X.A (evalPart e X.env) (fun u s'=>∃ o H',Inv X pins σ H' s'/\IsPart u o/\Q o H') X.xe s
def bD7:TO:=fun _ H Q=>Q none H
def cb4 (t:TE):TO:=fun σ H Q=>t σ H fun x H1=>∃ i,x=.int i/\Q (some i) H1
theorem intsAre_of:∀ {us:List Value},D6 (ns.map V.int) us->M6 us ns:=by
 induction ns with
 | nil=>intro us r;rw[List.map_nil]at r;cases r;exact .nil
 | cons n ns ih =>
  intro us r
  rw[p7]at r
  cases r with
  | cons r1 r2 =>
   obtain⟨t,e⟩:=r1
   subst e
   exact .cons n t (ih r2)
section
variable {lo hi:Option Expr} {tl th:TO} {p2:Pos}
theorem aq3:PO X none bD7:=by
 intro pins s σ H Q I h
 rw[evalPart_none]
 exact i8 ⟨none,H,I,.none,h⟩
theorem af6 (h:PE X e te):PO X (some e) (cb4 te):=by
 intro pins s σ H Q I hw
 rw[evalPart_some]
 refine thn (h pins s σ H _ I hw) fun u s1 ⟨x,H1,I1,r1,q1⟩=>?_
 obtain⟨i,rfl,q⟩:=q1
 obtain⟨t,rfl⟩:=r1
 exact⟨some i,H1,I1,.int i t,q⟩
def SlR (X:Cx)(r:V->Option Int->Option Int->Hp->VK->Prop):Prop:=
 ∀ (pins:List (Addr × Obj)) (s:Shared) (σ:St) (H:Hp) (x:V) (v vl vu:Value) (lo hi:Option Int) (sl:Addr) (Q:VK),Inv X pins σ H s->RelV x v->s.heap.IsSliceOf sl vl vu .none->IsPart vl lo->IsPart vu hi->r x lo hi H Q ->
  ∃ T id,aQ4 (.type T) "__getitem__"=pure (some (.builtin id))/\s.TypeIs v T/\r6 (t9 X.prog X.w) X.A (getItem v (.ref sl)) (EP X pins σ Q) X.xe s
def tSl (r:V->Option Int->Option Int->Hp->VK->Prop)(te:TE)(tl th:TO):TE:=fun σ H Q=>te σ H fun x H1=>tl σ H1 fun l H2=>th σ H2 fun u H3=>r x l u H3 Q
theorem ad6 {r:V->Option Int->Option Int->Hp->VK->Prop}(hr:SlR X r)(he:PE X e te)(hl:PO X lo tl)(hu:PO X hi th):PE X (.Subscript e (.Slice lo hi none p2) pos) (tSl r te tl th):=by
 intro pins s σ H Q I h
 refine Subscript_ (thn (he pins s σ H _ I h) fun v s1 ⟨x,H1,I1,r1,q1⟩=>?_)
 refine wpAny_Slice (thn (hl pins s1 σ H1 _ I1 q1) fun vl s2 ⟨l,H2,I2,pl,q2⟩=>thn (hu pins s2 σ H2 _ I2 q2) fun vu s3 ⟨u,H3,I3,pu,q3⟩=>?_)
 rw[evalPart_none]
 refine i8 ?_
 have I4:Inv X pins σ H3 { s3 with heap:=s3.heap.push { cls:=.type "slice",data:=.fields #[vl,vu,.none] } }:=I3.kept (t':=s3.toks) fun b ob q=>c5 _ q
 obtain⟨T,id,hT,ht,hg⟩:=hr pins { s3 with heap:=s3.heap.push { cls:=.type "slice",data:=.fields #[vl,vu,.none] } } σ H3 x v vl vu l u s3.heap.objs.size Q I4 r1 (Heap.IsSliceOf.new ..) pl pu q3
 show r6 (t9 X.prog X.w) X.A (subscriptTail e (.Slice lo hi none p2) v (.ref s3.heap.objs.size)) (EP X pins σ Q) X.xe { s3 with heap:=s3.heap.push { cls:=.type "slice",data:=.fields #[vl,vu,.none] } }
 exact tail_any (ops:=[.ref s3.heap.objs.size,v]) ht hT hg (by with_unfolding_all rfl)
def au6 (xs:List V)(lo hi:Option Int):List V:=(xs.drop (HT.sIx xs.length 0 lo)).take (HT.sIx xs.length xs.length hi - HT.sIx xs.length 0 lo)
theorem aX5 (xs:List V)(lo hi:Option Int):(au6 xs lo hi).length<=xs.length:=by
 unfold au6
 rw[q8,F3]
 omega
end
def ixN (n:Nat)(i:Int):Option Nat:=if 0<=i then (if i<n then some i.toNat else none) else if -(n:Int)<=i then some (i+n).toNat else none
def atI {α:Type}(xs:List α)(i:Int):Option α:=(ixN xs.length i).bind fun j=>xs[j]?
theorem bh4 {i:Int}(h:ixN n i=some j):seqIndex? i n=some j/\j<n /\ -(n:Int)<=i/\i<n:=by
 unfold ixN at h
 by_cases h0:0<=i
 ·rw[if_pos h0]at h
  by_cases h1:i<n
  ·rw[if_pos h1]at h
   have e:i.toNat=j:=Option.some.inj h
   exact⟨by rw[bj8 h0 h1,e],by omega,by omega,h1⟩
  ·rw[if_neg h1]at h;cases h
 ·rw[if_neg h0]at h
  by_cases h1:-(n:Int)<=i
  ·rw[if_pos h1]at h
   have e:(i+n).toNat=j:=Option.some.inj h
   exact⟨by rw[aY9 (by omega) h1,e],by omega,h1,by omega⟩
  ·rw[if_neg h1]at h;cases h
theorem az5 {α:Type}{xs:List α}{i:Int}{v:α}(h:atI xs i=some v):∃ j,seqIndex? i xs.length=some j/\xs[j]?=some v/\j<xs.length /\ -(xs.length:Int)<=i/\i<xs.length:=by
 unfold atI at h
 cases e:ixN xs.length i with
 | none=>rw[e]at h;cases h
 | some j =>
  rw[e]at h
  obtain⟨h1,h2,h3,h4⟩:=bh4 e
  exact⟨j,h1,h,h2,h3,h4⟩
theorem B8 {α:Type}{xs:List α}{v:α}(h:xs[j]?=some v):atI xs (j:Int)=some v:=by
 have hj:j<xs.length:=(c9.mp h).1
 have e:ixN xs.length (j:Int)=some j:=by
  unfold ixN
  rw[if_pos (by omega),if_pos (by omega)];simp
 unfold atI;rw[e];exact h
def az6 (b:Expr):Prop:=∀ o i,subscripted b false o i=operate [o,i] (getItem o i)
def IxR (X:Cx)(r:R2):Prop:=
 ∀ (value slice:Expr) (pins:List (Addr × Obj)) (s:Shared) (σ:St) (H:Hp) (x y:V) (v u:Value) (Q:VK),Inv X pins σ H s->RelV x v->RelV y u->r x y H Q ->
  subscripted slice false v u=operate [v,u] (getItem v u)->r6 (t9 X.prog X.w) X.A (subscriptTail value slice v u) (EP X pins σ Q) X.xe s
def MtR (X:Cx)(id:String)(r:V->List V->Hp->VK->Prop):Prop:=
 ∀ (pins:List (Addr × Obj)) (s:Shared) (σ:St) (H:Hp) (x:V) (xs:List V) (v:Value) (us:List Value) (Q:VK),Inv X pins σ H s->RelV x v->D6 xs us->r x xs H Q ->
  r6 (t9 X.prog X.w) X.A (call (.builtin id) (v::us)) (EP X pins σ Q) X.xe s
section
variable {a b:Expr} {tb:TE}
theorem IxR.or {r r':R2}(h:IxR X r)(h':IxR X r'):IxR X (fun x y H Q=>r x y H Q\/r' x y H Q):=by
 intro value slice pins s σ H x y v u Q I rx ry q hs
 rcases q with q | q
 ·exact h value slice pins s σ H x y v u Q I rx ry q hs
 ·exact h' value slice pins s σ H x y v u Q I rx ry q hs
theorem G1 {r:R2}(hr:IxR X r)(ha:PE X a ta)(hb:PE X b tb)(hs:az6 b):PE X (.Subscript a b pos) (tOp r ta tb):=by
 intro pins s σ H Q I h
 exact Subscript_ (bY0 ha hb I h fun v u s2 x y H2 I2 rx ry q=>hr a b pins s2 σ H2 x y v u Q I2 rx ry q (hs _ _))
def bS9 (K:W.Frag):R2:=fun x y H Q=>∃ p xs i v,x=.ref p/\y=.int i/\SqL K H p xs/\atI xs i=some v/\Q v H
def bS8 (K:W.Frag):R2:=fun x y H Q=>∃ p xs i v,x=.ref p/\y=.int i/\SqT K H p xs/\atI xs i=some v/\Q v H
def cd4:R2:=fun x y H Q=>∃ z i c,x=.str z/\y=.int i/\z.length<=j5/\atI z.cps.toList i=some c/\Q (.str ⟨#[c]⟩) H
theorem X4:IxR X (bS9 X.K):=by
 intro value slice pins s σ H x y v u Q I rx ry h hs
 obtain⟨p,xs,i,z,rfl,rfl,hq,he,q⟩:=h
 cases rx
 obtain⟨t,rfl⟩:=ry
 obtain⟨its,r,pl,hz⟩:=I.list hq
 obtain⟨j,h1,h2,h3,h4,h5⟩:=az5 he
 obtain⟨w,ew,rw'⟩:=r.get h2
 have hl:=r.length
 have hn:=ao6
 have fin:EP X pins σ Q w s:=⟨z,H,I,rw',q⟩
 by_cases h0:0<=i
 ·have hj:i.toNat=j:=by
   rw[bj8 h0 h5]at h1
   exact Option.some.inj h1
  exact item_listR pl.isList h0 (by omega) (by rw[hj];simpa using ew) fin hs
 ·have hj:(i+(its.toArray.size:Int)).toNat=j:=by
   rw[aY9 (by omega) h4]at h1
   rw[d6,<- hl]
   exact Option.some.inj h1
  exact bL4 (x:=w) pl.isList.typeIs slot_list_getitem.lookup
   (bL5 (Q:=fun r s'=>r=w/\EP X pins σ Q r s') pl.isList (by omega) (by rw[d6]<;>omega) (by omega) (by rw[hj];simpa using ew) ⟨rfl,fin⟩) hs
theorem G7:IxR X (bS8 X.K):=by
 intro value slice pins s σ H x y v u Q I rx ry h hs
 obtain⟨p,xs,i,z,rfl,rfl,hq,he,q⟩:=h
 cases rx
 obtain⟨t,rfl⟩:=ry
 obtain⟨its,r,pl,hz⟩:=I.tuple hq
 obtain⟨j,h1,h2,h3,h4,h5⟩:=az5 he
 obtain⟨w,ew,rw'⟩:=r.get h2
 have hl:=r.length
 have hn:=ao6
 have fin:EP X pins σ Q w s:=⟨z,H,I,rw',q⟩
 exact bL4 (x:=w) pl.typeIs slot_tuple_getitem.lookup
  (getItem_tuple (j:=j) (Q:=fun r s'=>r=w/\EP X pins σ Q r s') pl (by omega) (by omega) (by rw[d6,<- hl];exact h1) (by simpa using ew) ⟨rfl,fin⟩) hs
theorem bV9:IxR X cd4:=by
 intro value slice pins s σ H x y v u Q I rx ry h hs
 obtain⟨z,i,c,rfl,rfl,hz,he,q⟩:=h
 obtain⟨t,rfl⟩:=rx
 obtain⟨t',rfl⟩:=ry
 obtain⟨j,h1,h2,h3,h4,h5⟩:=az5 he
 have hl:z.cps.toList.length=z.length:=by simp[Str.length]
 rw[hl]at h1 h4 h5
 have hn:=ao6
 exact tail_any (typeIs_str s z t) slot_str_getitem.lookup (getItem_str (c:=c) (by
  have e1:decide (i < -(2 ^ 63:Int))=false:=decide_eq_false (by omega)
  have e2:decide (i≥2 ^ 63)=false:=decide_eq_false (by omega)
  rw[e1,e2,Bool.or_false]) (by rw[h1];simpa using h2) ⟨.str ⟨#[c]⟩,H,I.tok _,⟨_,rfl⟩,q⟩) hs
def rIx (K:W.Frag):R2:=fun x y H Q=>bS9 K x y H Q\/bS8 K x y H Q\/cd4 x y H Q
theorem bw3:IxR X (rIx X.K):=X4.or (G7.or bV9)
theorem bb9 (its:List Value)(n j:Nat)(u:Value):Obj.mapSeq (·.setIfInBounds j u) { cls:=.type "list",data:=.seq its.toArray n }={ cls:=.type "list",data:=.seq (its.set j u).toArray n }:=by
 simp[Obj.mapSeq]
theorem Inv.lst {p:Addr}(I:Inv X pins σ H s)(h:H p=some (.lst xs)) :
  ∃ (its:List Value) (n:Nat),D6 xs its/\s.heap.get? p=some { cls:=.type "list",data:=.seq its.toArray n }/\xs.length<=j5:=by
 obtain⟨z,its,n,r,e⟩:=I.hok p _ h
 exact⟨its,n,r,e,z⟩
theorem Inv.lstUpd {p:Addr}{its':List Value}{n':Nat}{f:Obj->Obj}(I:Inv X pins σ H s)(h:H p=some (.lst xs))
  (ho:s.heap.get? p=some { cls:=.type "list",data:=.seq its.toArray n })(hf:f { cls:=.type "list",data:=.seq its.toArray n }={ cls:=.type "list",data:=.seq its'.toArray n' })(r:D6 ys its')(hz:ys.length<=j5)(t:Nat) :
  Inv X pins σ (upd H p (.lst ys)) { s with heap:=s.heap.update p f,toks:=t }:=by
 have e:(s.heap.update p f).get? p=some { cls:=.type "list",data:=.seq its'.toArray n' }:=by
  rw[S3 f ho (by rw[hf]<;>rfl),hf]
 refine I.write (x:=p) (e:=p) (by rw[h];trivial) (.inl rfl) (fun b u hb q=>(A8 _ _ (Ne.symm hb)).trans q) ⟨_,e⟩ ?_
 exact⟨hz,its',n',r,e⟩
def cd3:V->V->V->Hp->(Hp->Prop)->Prop:=fun o i v H Q=>∃ p xs k j,o=.ref p/\i=.int k/\H p=some (.lst xs)/\ixN xs.length k=some j/\Q (upd H p (.lst (xs.set j v)))
theorem set_list:bY5 X cd3:=by
 intro pins s σ H o i v ov iv u Q I ro ri rv h
 obtain⟨p,xs,k,j,rfl,rfl,hp,hj,q⟩:=h
 cases ro
 obtain⟨t,rfl⟩:=ri
 obtain⟨its,n,r,ho,hz⟩:=I.lst hp
 obtain⟨h1,h2,h3,h4⟩:=bh4 hj
 have hl:=r.length
 have hn:=ao6
 have I':Inv X pins σ (upd H p (.lst (xs.set j v))) { s with heap:=s.heap.update p (Obj.mapSeq (·.setIfInBounds j u)) }:=
  I.lstUpd hp ho (bb9 its n j u) (r.set rv j) (by rw[K3];exact hz) s.toks
 by_cases h0:0<=k
 ·have hk:k.toNat=j:=by
   rw[bj8 h0 h4]at h1
   exact Option.some.inj h1
  exact PySem.W.ki_setAt ho h0 (by omega) (by rw[d6,<- hl];exact h4) (by rw[hk];exact⟨_,I',q⟩)
 ·have hk:(k+(its.toArray.size:Int)).toNat=j:=by
   rw[aY9 (by omega) h3]at h1
   rw[d6,<- hl]
   exact Option.some.inj h1
  exact PySem.W.ki_setBack ho (by omega) (by rw[d6,<- hl];exact h3) (by omega) (by rw[hk];exact⟨_,I',q⟩)
theorem aM7 (lo hi:Option Int)(n:Nat):(ai1 lo hi none n).1=((HT.sIx n 0 lo:Nat):Int)/\(ai1 lo hi none n).2.1=((HT.sIx n n hi:Nat):Int)/\(ai1 lo hi none n).2.2=1:=by
 refine⟨?_,?_,rfl⟩
 ·cases lo with
  | none=>simp[ai1,HT.sIx]
  | some i =>
   simp only[ai1,HT.sIx,bO8,show (1:Int) > 0 by decide,if_true]
   by_cases h:i<0
   ·simp only[h,if_true]<;>omega
   ·simp only[h,if_false]<;>omega
 ·cases hi with
  | none=>simp[ai1,HT.sIx]
  | some i =>
   simp only[ai1,HT.sIx,bO8,show (1:Int) > 0 by decide,if_true]
   by_cases h:i<0
   ·simp only[h,if_true]<;>omega
   ·simp only[h,if_false]<;>omega
theorem aG9 (its:List Value)(lo hi:Option Int):slicePick its.toArray lo hi none=((its.drop (HT.sIx its.length 0 lo)).take (HT.sIx its.length its.length hi - HT.sIx its.length 0 lo)).toArray:=by
 obtain⟨h1,h2,h3⟩:=aM7 lo hi its.toArray.size
 unfold slicePick
 rw[h1,h2,h3]
 simp only[sliceRange_one,pick_run,d6]<;>rfl
def ci0 (K:W.Frag):V->Option Int->Option Int->Hp->VK->Prop:=fun x lo hi H Q=>∃ a xs,x=.ref a/\SqL K H a xs/\∀ p,H p=none->Q (.ref p) (upd H p (.lst (au6 xs lo hi)))
theorem ak8:SlR X (ci0 X.K):=by
 intro pins s σ H x v vl vu lo hi sl Q I rx hs pl pu h
 obtain⟨a,xs,rfl,hx,q⟩:=h
 cases rx
 obtain⟨its,r,ht,hz⟩:=I.list hx
 have hlen:=r.length
 refine⟨"list",_,slot_list_getitem.lookup,ht.isList.typeIs,?_⟩
 refine wpAny_getItem_list_slice ht.isList hs pl pu .none (by simp) ?_ (by rw[d6]<;>omega)
 rw[aG9,<- hlen]
 refine⟨.ref s.heap.objs.size,_,I.laid (t':=s.toks) (o:=.lst (au6 xs lo hi)) (fun b ob q=>c5 _ q) (d5 _) ?_,rfl,q _ (I.hok.fresh (d5 _))⟩
 exact⟨A1 (aX5 xs lo hi) hz,_,0,(r.drop (HT.sIx xs.length 0 lo)).take (HT.sIx xs.length xs.length hi - HT.sIx xs.length 0 lo),j0 _ rfl⟩
theorem A0:U2 X (.builtin "len") (fun xs H Q=>∃ p ys,xs=[.ref p]/\(SqL X.K H p ys\/SqT X.K H p ys)/\Q (.int ys.length) H):=by
 intro pins s σ H xs us Q I r h
 obtain⟨p,ys,rfl,hq,q⟩:=h
 obtain⟨u,rfl,rx⟩:=vals1 r
 cases rx
 have hn:=ao6
 rcases hq with hq | hq
 ·obtain⟨its,r',pl,hz⟩:=I.list hq
  have hlen:=r'.length
  exact Calls.call_len_list pl.isList (by simp only[d6]<;>omega) ⟨.int ys.length,H,I.tok _,⟨s.toks+1,by rw[d6,hlen]⟩,q⟩
 ·obtain⟨its,r',pl,hz⟩:=I.tuple hq
  have hlen:=r'.length
  exact len_tuple pl (by simp only[d6]<;>omega) ⟨.int ys.length,H,I.tok _,⟨s.toks+1,by rw[d6,hlen]⟩,q⟩
theorem ar1:U2 X (.type "list") (fun xs H Q=>∃ p ys,xs=[.ref p]/\(SqL X.K H p ys\/SqT X.K H p ys)/\∀ l,H l=none->Q (.ref l) (upd H l (.lst ys))):=by
 intro pins s σ H xs us Q I r h
 obtain⟨p,ys,rfl,hq,q⟩:=h
 obtain⟨u,rfl,rx⟩:=vals1 r
 cases rx
 have fin:∀ (its:List Value),D6 ys its->ys.length<=j5->∀ (h':Heap) (c':Nat),(∀ b o',s.heap.get? b=some o'->h'.get? b=some o') ->
   h'.get? s.heap.objs.size=some { cls:=.type "list",dict:=none,data:=.seq its.toArray c',slots:=#[] }->EP X pins σ Q (.ref s.heap.objs.size) { s with heap:=h' }:=fun its r' hz h' c' kp e =>
  ⟨.ref s.heap.objs.size,_,I.laid (t':=s.toks) kp (d5 _) (show U1 X.prog X.w _ h' _ (.lst ys) from ⟨hz,its,c',r',e⟩),rfl,q _ (I.hok.fresh (d5 _))⟩
 rcases hq with hq | hq
 ·obtain⟨its,r',pl,hz⟩:=I.list hq
  have hlen:=r'.length
  obtain⟨o,ho,hc,n,hd⟩:=pl.isList
  exact call_list_seq p (.inl rfl) ho hc hd (fun h' c' kp e=>fin its r' hz h' c' kp e) (by simp only[d6]<;>omega)
 ·obtain⟨its,r',pl,hz⟩:=I.tuple hq
  have hlen:=r'.length
  obtain⟨o,ho,hc,n,hd⟩:=pl
  exact call_list_seq p (.inr rfl) ho hc hd (fun h' c' kp e=>fin its r' hz h' c' kp e) (by simp only[d6]<;>omega)
theorem X5:U2 X (.type "tuple") (fun xs H Q=>∃ p ys,xs=[.ref p]/\((SqL X.K H p ys/\∀ l,H l=none->Q (.ref l) (upd H l (.tup ys)))\/(SqT X.K H p ys/\Q (.ref p) H))):=by
 intro pins s σ H xs us Q I r h
 obtain⟨p,ys,rfl,h⟩:=h
 obtain⟨u,rfl,rx⟩:=vals1 r
 cases rx
 rcases h with⟨hq,q⟩ | ⟨hq,q⟩
 ·obtain⟨its,r',pl,hz⟩:=I.list hq
  have hlen:=r'.length
  refine call_tuple_list pl.isList (fun h' kp=>?_) (by simp only[d6]<;>omega)
  have I1:Inv X pins σ H { s with heap:=h' }:=I.kept (t':=s.toks) kp
  have I2:Inv X pins σ (upd H h'.objs.size (.tup ys)) { s with heap:=h'.push { cls:=.type "tuple",data:=.seq its.toArray } } :=
   I1.laid (t':=s.toks) (fun b o e=>c5 _ e) (d5 _) (show U1 X.prog X.w _ _ _ (.tup ys) from ⟨hz,its,r',IsTup.new _ _⟩)
  exact⟨.ref h'.objs.size,_,I2,rfl,q _ (I1.hok.fresh (d5 _))⟩
 ·obtain⟨its,r',pl,hz⟩:=I.tuple hq
  exact call_tuple_same pl ⟨.ref p,H,I,rfl,q⟩
def tyV (K:W.Frag)(T:String)(x:V)(H:Hp):Prop:=match x with
 | .str _=>T="str"
 | .int _=>T="int"
 | .ref p=>(T="list"/\∃ xs,SqL K H p xs)\/(T="tuple"/\∃ o,K.lookup p=some o/\o.cls=.type "tuple"/\o.dict=none) \/
   (T="dict"/\((∃ kvs,H p=some (.dK kvs))\/∃ kvs,H p=some (.dT kvs)))\/(T="set"/\∃ S n,H p=some (.set S n))
 | _=>False
theorem bQ5 {T:String}{x:V}(I:Inv X pins σ H s)(r:RelV x v)(ty:tyV X.K T x H) :
  s.TypeIs v T/\∀ a,v=.ref a->∃ ob,s.heap.get? a=some ob/\ob.dict=none:=by
 cases x with
 | str z =>
  obtain⟨t,rfl⟩:=r
  cases (show T="str" from ty)
  exact⟨typeIs_str s z t,fun _ e=>nomatch e⟩
 | int i =>
  obtain⟨t,rfl⟩:=r
  cases (show T="int" from ty)
  exact⟨typeIs_int s i t,fun _ e=>nomatch e⟩
 | ref p =>
  cases r
  rcases ty with⟨rfl,xs,hq⟩ | ⟨rfl,o,hk,hc,hd⟩ | ⟨rfl,hk⟩ | ⟨rfl,S,n,hk⟩
  ·obtain⟨its,_,pl,_⟩:=I.list hq
   refine⟨pl.isList.typeIs,fun a e=>?_⟩
   cases e
   obtain⟨o,n,e,c,hd,_⟩:=pl
   exact⟨o,e,hd⟩
  ·refine⟨⟨o,I.kIn p o hk,hc⟩,fun a e=>?_⟩
   cases e
   exact⟨o,I.kIn _ o hk,hd⟩
  ·have z:∃ o,s.heap.get? p=some o/\o.ExactDict:=by
    rcases hk with⟨kvs,hk⟩ | ⟨kvs,hk⟩
    ·obtain⟨_,_,_,_,o,_,_,e,ex,_⟩:=I.hok p _ hk
     exact⟨o,e,ex⟩
    ·obtain⟨_,_,_,_,o,_,_,e,ex,_⟩:=I.hok p _ hk
     exact⟨o,e,ex⟩
   obtain⟨o,e,ex⟩:=z
   refine⟨⟨o,e,ex.1⟩,fun a e2=>?_⟩
   cases e2
   exact⟨o,e,ex.2.1⟩
  ·obtain⟨o,_,_,_,e,ex,_⟩:=I.hok p _ hk
   refine⟨⟨o,e,ex.1⟩,fun a e2=>?_⟩
   cases e2
   exact⟨o,e,ex.2.1⟩
 | _=>exact False.elim ty
def tBM (K:W.Frag)(T:String)(r:V->List V->Hp->VK->Prop)(to:TE)(t:TA):TE:=fun σ H Q=>to σ H fun x H1=>tyV K T x H1/\t σ H1 fun xs H2=>r x xs H2 Q
variable {to:TE} {t:TA} {name:Str} {apos cpos:Pos} {T id:String}
theorem bg6 (pa:PlainAttrs T) (slot:Slot T name id) (hty:typeOf (.builtin id)=pure (.type "method_descriptor")) (hm:MtR X id r) (ho:PE X o to) (ha:PA X (e::es) t)
  (hbase:bC2 o name X.env (eval o X.env)=eval o X.env:=by rfl)
  (hfew : ((S4 cpos (u5 (e :: es) X.env)).all (fun x => !x.1) && (bC1 cpos (aG6 [] X.env)).all (fun x => x.1.isSome)
   && decide ((e::es).length+([]:List aG5).length+(if ([]:List aG5).isEmpty then 0 else 1)<30))=true:=by rfl)
  (hline:(apos.endLine == cpos.line)=true:=by rfl) (hs:u5 (e::es) X.env=(false,eval e X.env)::u5 es X.env:=by rfl) (hplain:(S4 cpos (u5 es X.env)).any (·.1)=false:=by rfl) :
  PE X (.Call (.Attribute o name apos) (e::es) [] cpos) (tBM X.K T r to t):=by
 intro pins s σ H Q I h
 refine wpAny_Call_method_late hbase hfew hline rfl (thn (ho pins s σ H _ I h) fun v s1 ⟨x,H1,I1,r1,ty,q1⟩=>?_)
 obtain⟨h1,h2⟩:=bQ5 I1 r1 ty
 refine⟨T,id,pa,slot,hty,h1,h2,?_⟩
 have hA:=ha cpos pins s1 σ H1 _ I1 q1
 rw[hs]at hA ⊢
 refine Calls.callWith_builtin (by show (false || (S4 cpos (u5 es X.env)).any (·.1))=false;rw[hplain]<;>rfl) (Calls.evalArgs_plain ?_)
 exact thn hA fun us s2 ⟨vs,H2,I2,r2,q2⟩=>hm pins s2 σ H2 x vs v us Q I2 r1 r2 q2
/- xs.append(e),list.index on a module's tuple .. are MtR facts of 06m -/
end
def MtM (X:Cx)(id:String)(r:V->List V->Hp->VK->Prop):Prop:=
 ∀ (pins:List (Addr × Obj)) (s:Shared) (σ:St) (H:Hp) (x:V) (xs:List V) (v:Value) (us:List Value) (Q:VK),Inv X pins σ H s->RelV x v->D6 xs us->r x xs H Q ->
  r6 (t9 X.prog X.w) X.A (call (.builtin id) (v::us)) (EP X pins σ Q) X.xe s
theorem D6.one:∀ {x:V} {us:List Value},D6 [x] us->∃ u,us=[u]/\RelV x u
 | _,_,.cons r .nil=>⟨_,rfl,r⟩
theorem D6.two:∀ {x y:V} {us:List Value},D6 [x,y] us->∃ u v,us=[u,v]/\RelV x u/\RelV y v
 | _,_,_,.cons r (.cons q .nil)=>⟨_,_,rfl,r,q⟩
theorem D6.rep (h:D6 xs us):∀ k:Nat,D6 (v9 k xs).flatten (v9 k us).flatten
 | 0=>.nil
 | k+1=>by
  rw[L8,L8,P0,P0]
  exact D6.append h (D6.rep h k)
theorem foldl_rep (its:List Value):∀ (k:Nat) (acc:List Value),
  ac7 (fun x1 x2=>x1++x2) acc.toArray (v9 k its.toArray)=(acc++(v9 k its).flatten).toArray
 | 0,acc=>by simp
 | k+1,acc=>by
  have e:acc.toArray++its.toArray=(acc++its).toArray:=by simp
  have e2:(acc++its)++(v9 k its).flatten=acc++(v9 (k+1) its).flatten:=by
   rw[L8,P0,B3]
  rw[<- e2,<- foldl_rep its k (acc++its),<- e,L8,ae5]
section
variable {l b:Addr} {zs:List V}
theorem Inv.lset {its':List Value}{f:Array Value->Array Value}(I:Inv X pins σ H s)(hH:H l=some (.lst xs))
  (e:s.heap.get? l=some { cls:=.type "list",data:=.seq its.toArray n })(hf:f its.toArray=its'.toArray)(hv:D6 ys its')(hz:ys.length<=j5) :
  Inv X pins σ (upd H l (.lst ys)) { s with heap:=s.heap.update l (Obj.mapSeq f),toks:=t' }:=by
 have q:=PySem.IsL.update e f
 rw[hf]at q
 refine I.write (x:=l) (e:=l) (by rw[hH];exact trivial) (.inl rfl) (fun b' u hb hu=>(A8 s.heap (Obj.mapSeq f) (Ne.symm hb)).trans hu) ⟨_,q⟩ ?_
 exact⟨hz,its',_,hv,q⟩
theorem Inv.lnew (I:Inv X pins σ H s)(hv:D6 ys its)(hz:ys.length<=j5) :
  Inv X pins σ (upd H s.heap.objs.size (.lst ys)) { s with heap:=s.heap.push { cls:=.type "list",data:=.seq its.toArray },toks:=t' } :=
 I.laid (fun _ _ q=>c5 _ q) (d5 _) ⟨hz,its,0,hv,j0 _ rfl⟩
theorem Inv.fresh (I:Inv X pins σ H s):H s.heap.objs.size=none:=I.hok.fresh (d5 _)
theorem Inv.lstM (I:Inv X pins σ H s)(hH:H l=some (.lst xs)):xs.length<=j5/\∃ (its:List Value) (n:Nat),D6 xs its/\xs.length=its.length/\s.heap.get? l=some { cls:=.type "list",data:=.seq its.toArray n }:=by
 obtain⟨z,its,n,r,e⟩:=I.hok l _ hH
 exact⟨z,its,n,r,r.length,e⟩
theorem bu5 (h:n<=j5):Builtin.List.listTooLong n=false:=by
 unfold Builtin.List.listTooLong
 exact decide_eq_false (by omega)
end
def bE7:V->List V->Hp->VK->Prop:=fun x vs H Q=>∃ l xs y,x=.ref l/\vs=[y]/\H l=some (.lst xs)/\xs.length<j5/\Q .non (upd H l (.lst (xs++[y])))
theorem ad9:MtM X "list.append" bE7:=by
 intro pins s σ H x vs v us Q I rx rv h
 obtain⟨l,xs,y,rfl,rfl,hH,hz,q⟩:=h
 cases rx
 obtain⟨u,rfl,ru⟩:=rv.one
 obtain⟨z,its,n,r,hl,e⟩:=I.lstM hH
 refine aQ5 F.slot_list_append ⟨_,e,rfl⟩ F.entry_list_append (F.args_list_append_2 _ _) (PySem.list_append l its.toArray n u (by rw[d6];omega)) ⟨e,?_⟩
 refine⟨.non,_,I.lset (its':=its++[u]) hH e (by simp) (r.append (.cons ru .nil)) ?_,rfl,q⟩
 rw[o6,List.length_singleton]
 omega
def ci2:R2:=fun x y H Q=>∃ l b xs zs,x=.ref l/\y=.ref b/\H l=some (.lst xs)/\H b=some (.lst zs)/\xs.length+zs.length<=j5/\∀ p,H p=none->Q (.ref p) (upd H p (.lst (xs++zs)))
theorem bt9:OpR X (ap3 .Add) ci2:=by
 intro pins s σ H x y v u Q I rx ry h
 obtain⟨l,b,xs,zs,rfl,rfl,hH,hB,hz,q⟩:=h
 cases rx
 cases ry
 obtain⟨z,its,n,r,hl,e⟩:=I.lstM hH
 obtain⟨z2,its2,n2,r2,hl2,e2⟩:=I.lstM hB
 refine PySem.P.add_list e e2 ?_ (by rw[d6,d6];omega)
 have ea:its.toArray++its2.toArray=(its++its2).toArray:=by simp
 rw[ea]
 exact⟨.ref _,_,I.lnew (t':=s.toks) (r.append r2) (by rw[o6];omega),rfl,q _ I.fresh⟩
def ci1:R2:=fun x y H Q=>∃ l k xs,x=.ref l/\y=.int k/\H l=some (.lst xs) /\ -(2 ^ 63)<=k/\k<2 ^ 63/\xs.length*k.toNat<=j5 /\
 ∀ p,H p=none->Q (.ref p) (upd H p (.lst (v9 k.toNat xs).flatten))
theorem len_rep {α:Type}(xs:List α)(k:Nat):(v9 k xs).flatten.length=k*xs.length:=by
 induction k with
 | zero=>simp
 | succ k ih=>rw[L8,P0,o6,ih,Nat.succ_mul,Nat.add_comm]
theorem bb5:OpR X (ap3 .Mult) ci1:=by
 intro pins s σ H x y v u Q I rx ry h
 obtain⟨l,k,xs,rfl,rfl,hH,h1,h2,hz,q⟩:=h
 cases rx
 obtain⟨t,rfl⟩:=ry
 obtain⟨z,its,n,r,hl,e⟩:=I.lstM hH
 have hlen:its.toArray.size*k.toNat<=j5:=by rw[d6,<- hl];exact hz
 have hcap:¬ its.toArray.size*k.toNat > (2 ^ 63 - 1) / 8:=by
  have:(j5:Nat)<=(2 ^ 63 - 1) / 8:=by decide
  omega
 have hfit:¬ (!Builtin.List.listFitsIndex k)=true:=by
  rw[fitsIndex_both h1 h2]
  exact j7
 have hlong:¬ Builtin.List.listTooLong (its.toArray.size*k.toNat)=true:=by
  rw[bu5 hlen]
  exact j7
 have hnew:ac7 (fun x1 x2=>x1++x2) #[] (v9 (if its.toArray.isEmpty=true then 0 else k.toNat) its.toArray)=(v9 k.toNat its).flatten.toArray:=by
  have f0:∀ m:Nat,ac7 (fun x1 x2=>x1++x2) #[] (v9 m its.toArray)=(v9 m its).flatten.toArray:=fun m=>by
   have:=foldl_rep its m []
   rw[P3]at this
   exact this
  rw[f0]
  cases its with
  | nil=>simp
  | cons a r'=>rw[if_neg (by simp)]
 refine wpAny_binaryOp_repeat_ref (T:="list") (U:="int") (by decide) ⟨_,e,rfl⟩ (fun s'=>typeIs_int s' k t) noFill_list_mul F.fills_int_mul F.slot_int_rmul repeat_list F.slot_int_index.lookup
  (aQ5 F.slot_int_rmul (typeIs_int s k t) F.entry_int_rmul (F.args_int_rmul_2 _ _) (int___rmul___int_list k t l its.toArray n)
   ⟨e,rfl,⟨_,e,rfl⟩,aQ5 F.slot_list_mul ⟨_,e,rfl⟩ F.entry_list_mul (F.args_list_mul_2 _ _) (AutoListH.list___mul___list_int_3 l its.toArray n k t hfit hcap hlong) ⟨e,?_⟩⟩)
 rw[hnew]
 exact⟨.ref _,_,I.lnew (t':=s.toks) (r.rep k.toNat) (by rw[len_rep,Nat.mul_comm];exact hz),rfl,q _ I.fresh⟩
end L2
namespace Att
open PySem PySem.W PySem.Calls PyProof.Rows
theorem aw8 {P:Params}:∀ (ns:List Int) (vs:List Value),WellAll P h vs (ns.map WData.int)->M6 vs ns:=by
 intro ns
 induction ns with
 | nil =>
  intro vs w
  rw[List.map_nil]at w
  cases w
  exact .nil
 | cons n ns ih =>
  intro vs w
  rw[p7]at w
  cases w with
  | cons a b =>
   cases a
   exact .cons _ _ (ih _ b)
theorem bl2 {l:OpenLaw}(hn:l.most=some n){P:Params}{args:List WData}{vals:List Value}
  (hpre:l.row.toRowW.claim.pre args=true)(hwl:WellAll P h vals args) :
  ∃ a vs ns,vals=[Value.ref a]/\args=[WData.list (ns.map WData.int)]/\h.get? a=some { cls:=.type "list",data:=.seq vs.toArray }/\M6 vs ns/\ns.length<=n:=by
 have hsh:WShape.hasAll [] args [.list .int]=true:=(pre_splitW hpre).1
 have hc:l.pre.holds [] { args:=args }=true:=(pre_splitW hpre).2
 obtain⟨d,r,rfl,h1,h2⟩:=hasAllW_cons hsh
 obtain rfl:=hasAllW_nil h2
 obtain⟨xs,rfl,h3⟩:=hasW_list h1
 obtain⟨ns,rfl⟩:=items_int h3
 have hlen:ns.length<=n:=by
  unfold OpenLaw.pre at hc
  have h4:(WTm.not (.lt (.lit (.int (n:Int))) (.len (.arg 0)))).holds [] { args:=[.list (ns.map .int)] }=true:=by
   have h4:=(holds_andW hc).1
   rw[hn]at h4
   exact h4
  have h5:=condW_of h4 (w_not (w_lt w_lit (w_len_list (w_arg rfl))))
  rw[b7]at h5
  refine Nat.le_of_not_lt fun q=>?_
  have q':(n:Int)<((ns.length:Nat):Int):=by omega
  first
   | (rw[decide_eq_true q']at h5;exact absurd h5 (by decide))
   | (simp at h5;omega)
 cases hwl with
 | cons w1 w2 =>
  cases w2
  cases w1 with
  | list ho hall=>exact⟨_,_,ns,rfl,rfl,ho,aw8 ns _ hall,hlen⟩
theorem bl5 (l:OpenLaw)(args:List WData):l.row.toRowW.claim.post args (.bool true) args=true:=
 postW_of (r:=l.row.toRowW) (X:=(true == true))
  (show WShape.has [] (.bool true) .bool=true by first | rfl | decide | simp[WShape.has,WShape.arms,WShape.armsAll])
  (show (WTm.eq .res (.lit (.bool true))).value [] { args:=args,res:=some (.bool true),after:=args }=some (.bool (true == true)) from w_eq_bool (w_res rfl) w_lit) rfl
theorem attach_call {l:OpenLaw} {q:Program} {loose:List Str} {d:DefRec}
  (hn:l.most=some n) (hdf:d.params.defaults=[])
  (call : ∀ (w : World) (s₀ s₁ : Shared) (mg mb : Str -> Option Value) (fa : Addr) (o : Obj) (pm cd doc : Value) (a : Addr) (vs : List Value) (ns : List Int),
   Ground q loose [] XP w s₀ mg mb s₁.heap->YP w s₁.heap ->
   s₁.heap.get? fa=some o->o.data=.func (docDef d.name d.params d.body d.scope pm cd doc)->s₁.heap.CodeRec cd d.name->mg d.name=some (.ref fa) ->
   s₁.heap.get? a=some { cls:=.type "list",data:=.seq vs.toArray }->M6 vs ns->ns.length<=n->s₁.gens=#[] ->
   am1 (t9 l.prog w) bj9 (.call (.ref fa) ⟨[.ref a],[]⟩) (fun r s'=>r=.ok (.ret (.bool true))/\OldK s₁.heap s'.heap/\s'.os=s₁.os/\aw3 s'.gens) s₁) :
  WalkO q loose XP YP l.row.toRowW d [] (fun f vs=>PySem.call f vs):=by
 intro w s₀ s₁ mg mb G Y fa o pm cd doc dV kV ho hd hcd hD hmg hg args vals as hpre hlay hrd hwl hlo
 obtain rfl:dV=.none:=Dflts.none hD hdf
 obtain rfl:kV=.none:=Dflts.noKw hD
 obtain⟨a,vs,ns,rfl,rfl,hobj,hints,hlen⟩:=bl2 hn hpre hwl
 refine enter_call (ac4 (call w s₀ s₁ mg mb fa o pm cd doc a vs ns G Y ho (fd_plain hd) hcd hmg hobj hints hlen hg) fun r s' hq=>?_)
 obtain⟨rfl,h2,h3,h4⟩:=hq
 exact⟨.inl ⟨.bool true,.bool true,[],rfl,fun _=>rfl,.bool true,bl5 l _,fun _=>⟨List.Pairwise.nil,fun _ hm=>(nomatch hm)⟩⟩,h2,h3,h4⟩
section
variable {K:Frag}
end
end Att
namespace L2
open PySem PySem.Spec PyProof.Rows
theorem ak5:∀ {vs:List Value} {ns:List Int},M6 vs ns->D6 (ns.map V.int) vs
 | _,_,.nil=>.nil
 | _,_,.cons n t h=>.cons ⟨t,rfl⟩ (ak5 h)
end L2
namespace L2
open PySem PySem.Spec PyProof.Rows
def al7 (s:Stmt):Arguments:=match s with
 | .FunctionDef _ a _ _ _ _ _ _ _ _=>a
 | _=>{ posonlyargs:=[],args:=[],vararg:=none,kwonlyargs:=[],kw_defaults:=[],kwarg:=none,defaults:=[] }
def S7 (s:Stmt):List Stmt:=match s with
 | .FunctionDef _ _ b _ _ _ _ _ _ _=>b
 | _=>[]
def p5 (s:Stmt):Scope:=match s with
 | .FunctionDef _ _ _ _ _ _ sc _ _ _=>sc
 | _=>{ kind:=.function,names:=[],isGenerator:=false,isCoroutine:=false }
abbrev CX0:CXT:=fun _ _ _ _ _ _=>False
abbrev E0:XK:=fun _ _ _=>False
theorem G2:av0 CX0 X E0:=fun _ _ _ _ _ _ _ h=>h.elim
structure Fun (K:W.Frag) (x qual:Str) (st:Stmt) (f:Addr) (fd:FuncData):Prop where
 ex:∃ (oc:Value) (od:Option Addr) (kV doc pm:Value) (an:Option Addr) (cdv ct:Value) (osl:Array (Option Value)),
  fd=V8 x qual (al7 st) (S7 st) (p5 st) .none kV doc pm an cdv ct/\K.lookup f=some ⟨oc,od,.func fd,osl⟩/\aQ1 K cdv qual=true
 kp:Q5 K (.ref f)=true
section
variable {K:W.Frag} {mg:Str->Option Value} {base:Heap}
theorem Fun.ok {st:Stmt} {k:Nat} {sp:Sp} (F:Fun K x qual st f fd) (S:x9 N ps (p5 st))
  (hbody : ∀ (cdv : Value) (A : Around) (outer : List Env) (s : Shared) (H : Hp) (vs : List V) (Q : VK) (E : XK), X7 k (A.deeper (O1 qual (p5 st) s.heap.objs.size f cdv)) -> sp vs H Q E ->
   ∃ t,PSs (aj8 CX0 P w K mg base N qual (p5 st) f cdv A outer s H E).nox (S7 st) t/\t { nx:=fun _ H'=>Q .non H',rt:=Q } (start N vs) H) (len:∀ vs H Q E,sp vs H Q E->vs.length=ps.length:=by intro _ _ _ _ h;repeat first | (obtain⟨rfl,_⟩:=h;rfl) | obtain⟨_,h⟩:=h):x8 P w K mg base CX0 (k+1) f fd ps sp:=by
 obtain⟨oc,od,kV,doc,pm,an,cdv,ct,osl,rfl,lk,hcd⟩:=F.ex
 refine bx8 lk hcd S len fun A outer s H vs Q E hr hsp=>?_
 obtain⟨t,h,q⟩:=hbody cdv A outer s H vs Q E hr hsp
 exact⟨t,h.nox,q⟩
theorem Fun.binds {st:Stmt}(F:Fun K x qual st f fd)
  (h:∀ (kV doc pm:Value) (an:Option Addr) (cdv ct:Value) (us:List Value),us.length=ps.length->be1 (V8 x qual (al7 st) (S7 st) (p5 st) .none kV doc pm an cdv ct) ⟨us,[]⟩=pure (ps.zip us)):Binds K fd ps []:=by
 obtain⟨oc,od,kV,doc,pm,an,cdv,ct,osl,rfl,lk,hcd⟩:=F.ex
 exact .all (h kV doc pm an cdv ct)
theorem fun_mk {st:Stmt}{oc:Value}{od an:Option Addr}{osl:Array (Option Value)}{kV doc pm cdv ct:Value}(l:K.lookup f=some ⟨oc,od,.func (V8 x qual (al7 st) (S7 st) (p5 st) .none kV doc pm an cdv ct),osl⟩)
  (c:aQ1 K cdv qual=true)(k:Q5 K (.ref f)=true):Fun K x qual st f (V8 x qual (al7 st) (S7 st) (p5 st) .none kV doc pm an cdv ct):=⟨⟨oc,od,kV,doc,pm,an,cdv,ct,osl,rfl,l,c⟩,k⟩
structure Fq (K:W.Frag) (mg:Str->Option Value) (x:Str) (st:Stmt) (f:Addr) (fd:FuncData) (ps:List Str):Prop where
 F:Fun K x x st f fd
 b:Binds K fd ps []
 m:mg x=some (.ref f)
theorem D0 {CX:CXT}{k:Nat}{sp:Sp}{t:TA}{E:XK}{p:Pos}{st:Stmt}(F:x8 X.prog X.w X.K X.mg X.base CX k f fd ps sp)(hr:X7 k X.A)(hg:Gl X x)(q:Fq X.K X.mg x st f fd ps)(hx:av0 CX X E)
  (ha:PA X (e::es) t)(hdb:(x == ("__debug__":Str))=false:=by decide)(he:u5 (e::es) X.env=(false,eval e X.env)::u5 es X.env:=by rfl)(hpl:(S4 pos (u5 es X.env)).any (·.1)=false:=by rfl) :
  PE X (.Call (.Name x p) (e::es) [] pos) (bM0 sp [] E t):=ay4 F hr hg q.m q.F.kp q.b .nil hx ha hdb he hpl
end
theorem pv (i:Nat)(hN:X.N[i]?=some x:=by rfl)(hv:Vis X.env.scope x:=by first | exact Or.inl rfl | exact Or.inr (Or.inl rfl) | exact Or.inr (Or.inr rfl))(hd:(x == ("__debug__":Str))=false:=by decide)
  (hcd:(x == ("__classdict__":Str))=false:=by decide):PE X (.Name x pos) (cb0 i):=bt0 hN hv hd hcd
theorem O3 {A B:Prop}(h:B):if false=true then A else B:=by
 rw[if_neg j7]
 exact h
theorem P7 {A B:Prop}(h:A):if true=true then A else B:=by
 rw[if_pos rfl]
 exact h
theorem aW4 {c A B:Prop}[Decidable c](h1:c->A)(h2:¬ c->B):if c then A else B:=by
 by_cases h:c
 ·rw[if_pos h]
  exact h1 h
 ·rw[if_neg h]
  exact h2 h
theorem bw4 {c A B:Prop}[Decidable c](hc:c)(h:B):if (!decide c)=true then A else B:=by
 rw[decide_eq_true hc]
 exact O3 h
def u9 (H H':Hp):Prop:=∀ b o,H b=some o->H' b=some o
theorem u9.refl (H:Hp):u9 H H:=fun _ _ h=>h
theorem u9.trans {H1 H2:Hp}(a:u9 H H1)(b:u9 H1 H2):u9 H H2:=fun c o h=>b c o (a c o h)
theorem u9.free (e:u9 H H'){l:Addr}(h:H' l=Option.none):H l=Option.none:=by
 cases q:H l with
 | none=>rfl
 | some o =>
  rw[e l o q]at h
  cases h
theorem u9.seq {K:W.Frag}(e:u9 H H')(h:SqL K H a xs):SqL K H' a xs:=by
 rcases h with(h | ⟨o,h⟩) | h
 ·exact .inl (.inl (e _ _ h))
 ·exact .inl (.inr ⟨o,e _ _ h⟩)
 ·exact .inr h
end L2
namespace Tim
open PySem PyProof.Rows
def Z1:Bool->Keyed->Array Keyed->Nat->Nat->Nat->StateT SortSt Sem (Option Nat):=sortPriv% PySem.Builtin.gallop
def P5:Nat->StateT SortSt Sem Unit:=sortPriv% PySem.Builtin.setMinGallop
def aC9:Array Keyed->Array Keyed->StateT SortSt Sem (Array Keyed):=sortPriv% PySem.Builtin.mergeLo
def aD0:Array Keyed->Array Keyed->StateT SortSt Sem (Array Keyed):=sortPriv% PySem.Builtin.mergeHi
def ag5 (left:Bool)(key:Keyed)(arr:Array Keyed)(base:Nat)(i:Nat):StateT SortSt Sem (Option Bool):=do
 let x <- ai9 arr (base+i)
 if left then lt' x key else return (<- lt' key x).map (!·)
theorem bc7 (left:Bool)(key:Keyed)(arr:Array Keyed)(base n hint:Nat):Z1 left key arr base n hint=(do
 let mut lastofs:=0
 let mut ofs:=1
 let mut lo:=0
 let mut hi:=0
 let some right <- ag5 left key arr base hint | return none
 if right then
  let maxofs:=n - hint
  for _ in [0:n] do
   if ofs≥maxofs then break
   let some more <- ag5 left key arr base (hint+ofs) | return none
   if !more then break
   lastofs:=ofs
   ofs:=2*ofs+1
  lo:=hint+lastofs+1
  hi:=hint+min ofs maxofs
 else
  let maxofs:=hint+1
  for _ in [0:n] do
   if ofs≥maxofs then break
   let some found <- ag5 left key arr base (hint - ofs) | return none
   if found then break
   lastofs:=ofs
   ofs:=2*ofs+1
  lo:=hint+1 - min ofs maxofs
  hi:=hint - lastofs
 for _ in [0:n] do
  if lo≥hi then break
  let m:=lo+(hi - lo) / 2
  let some more <- ag5 left key arr base m | return none
  if more then lo:=m+1 else hi:=m
 return some hi):=rfl
theorem as8 (g:Nat):P5 g=modify (fun s=>SortSt.mk' (kindOf s) (m9 s) (B6 s) g (O2 s)):=rfl
structure Ord (B:Keyed->Keyed->Bool):Prop where
 irr:∀ x,B x x=false
 tr:∀ x y z,B x y=true->B y z=true->B x z=true
 ng:∀ x y z,B x z=true->B x y=true\/B y z=true
def le (B:Keyed->Keyed->Bool)(x y:Keyed):Prop:=B y x=false
theorem Ord.rf (o:Ord B)(x:Keyed):le B x x:=o.irr x
theorem Ord.of_lt (o:Ord B){x y:Keyed}(h:B x y=true):le B x y:=by
 unfold le
 cases e:B y x with
 | false=>rfl
 | true =>
  have:=o.tr _ _ _ h e
  rw[o.irr]at this
  cases this
theorem Ord.trans (o:Ord B){x y z:Keyed}(h1:le B x y)(h2:le B y z):le B x z:=by
 unfold le at *
 cases e:B z x with
 | false=>rfl
 | true =>
  rcases o.ng _ y _ e with h | h
  ·rw[h2]at h;cases h
  ·rw[h1]at h;cases h
theorem Ord.lt_le (o:Ord B){x y z:Keyed}(h1:B x y=true)(h2:le B y z):B x z=true:=by
 unfold le at h2
 rcases o.ng _ z _ h1 with h | h
 ·exact h
 ·rw[h2]at h;cases h
theorem Ord.le_lt (o:Ord B){x y z:Keyed}(h1:le B x y)(h2:B y z=true):B x z=true:=by
 unfold le at h1
 rcases o.ng _ x _ h2 with h | h
 ·rw[h1]at h;cases h
 ·exact h
section
variable {S:Keyed->Prop}
def Cmp (prog:Program)(w:World)(A:Around)(E:Value->Shared->Prop)(s:Shared)(κ:SortKind)(S:Keyed->Prop)(B:Keyed->Keyed->Bool):Prop:=
 ∀ (x y:Keyed),S x->S y->∀ (Q:Bool->Shared->Prop),Q (B x y) s->r6 (t9 prog w) A (keyLt' κ x.1 y.1) Q (fun _ _=>False) s
theorem aA0 (C:Cmp prog w A E s κ S B){x y:Keyed}{st:SortSt}{Q:Option Bool->SortSt->Prop}(hk:kindOf st=κ)(hx:S x)(hy:S y)(h:Q (some (B x y)) st):wpS (t9 prog w) A E s (lt' x y) Q st:=by
 rw[lt'_eq]
 refine j8 (aw4 ?_)
 rw[hk]
 refine j8 (wpS_lift (aL6 ?_))
 refine E1 (C x y hx hy (fun b s'=>s'=s/\b=B x y) ⟨rfl,rfl⟩) (fun b s' hb=>?_) (fun _ _ f=>f.elim)
 obtain⟨rfl,rfl⟩:=hb
 exact⟨rfl,l9 h⟩
theorem E2 {arr:Array Keyed}{x:Keyed}{st:SortSt}{Q:Keyed->SortSt->Prop}(hi:arr[i]?=some x)(h:Q x st):wpS (t9 prog w) A E s (ai9 arr i) Q st:=by
 rw[elem'_eq,hi]
 exact l9 h
theorem bk7 (C:Cmp prog w A E s κ S B){x y:Keyed}{st:SortSt}{Q:Option Bool->SortSt->Prop}(hk:kindOf st=κ)(hi:(m9 st)[i]?=some x)(hj:(m9 st)[j]?=some y)(hx:S x)(hy:S y)(h:Q (some (B x y)) st) :
  wpS (t9 prog w) A E s (ltAt' i j) Q st:=by
 rw[ltAt'_eq]
 refine j8 (aw4 ?_)
 show wpS _ _ _ _ (do let x <- ai9 (m9 st) i;let y <- ai9 (m9 st) j;lt' x y) Q st
 exact j8 (E2 hi (j8 (E2 hj (aA0 C hk hx hy h))))
theorem ac9 {n:String}{st:SortSt}{Q:Unit->SortSt->Prop}(h:Q () st):wpS (t9 prog w) A E s (liftM (rule n):StateT SortSt Sem Unit) Q st:=wpS_lift (an7 ⟨rfl,h⟩)
def byn (B:Keyed->Keyed->Bool)(left:Bool)(key x:Keyed):Bool:=if left=true then B x key else !B key x
theorem aZ4 (C:Cmp prog w A E s κ S B){left:Bool}{key x:Keyed}{arr:Array Keyed}{base:Nat}{st:SortSt}{Q:Option Bool->SortSt->Prop}(hk:kindOf st=κ)(hi:arr[base+i]?=some x)(hx:S x)(hy:S key)
  (h:Q (some (byn B left key x)) st):wpS (t9 prog w) A E s (ag5 left key arr base i) Q st:=by
 unfold ag5
 refine j8 (E2 hi ?_)
 cases left with
 | true=>exact aA0 C hk hx hy h
 | false=>exact j8 (aA0 C hk hy hx (l9 h))
theorem aH9 {st:SortSt} {Q:Option Nat->SortSt->Prop} (P:Nat->Bool) {f:Nat->Option (Option Nat) × Nat × Nat->StateT SortSt Sem (ForInStep (Option (Option Nat) × Nat × Nat))} {k:Option (Option Nat) × Nat × Nat->StateT SortSt Sem (Option Nat)}
  (mono:∀ i j,i<=j->j<n->P j=true->P i=true)
  (hf : ∀ x lo hi (R : ForInStep (Option (Option Nat) × Nat × Nat) -> SortSt -> Prop), hi <= n -> (hi <= lo -> R (.done (none, lo, hi)) st) -> (lo < hi -> P (lo + (hi - lo) / 2) = true -> R (.yield (none, lo + (hi - lo) / 2 + 1, hi)) st) ->
   (lo<hi->P (lo+(hi - lo) / 2)=false->R (.yield (none,lo,lo+(hi - lo) / 2)) st)->wpS (t9 prog w) A E s (f x (none,lo,hi)) R st)
  (hk:∀ lo hi (R:Option Nat->SortSt->Prop),R (some hi) st->wpS (t9 prog w) A E s (k (none,lo,hi)) R st)
  (h:∀ k,k<=n->(∀ i,i<k->P i=true)->(∀ i,k<=i->i<n->P i=false)->Q (some k) st) {lo hi:Nat}
  (h1:lo<=hi) (h2:hi<=n) (h3:∀ i,i<lo->P i=true) (h4:∀ i,hi<=i->i<n->P i=false) :
  wpS (t9 prog w) A E s (forIn [:n] ((none,lo,hi):Option (Option Nat) × Nat × Nat) f >>= k) Q st:=by
 have anti:∀ i j,i<=j->j<n->P i=false->P j=false:=fun i j h1 h2 h3=>by
  cases e:P j with
  | false=>rfl
  | true=>rw[mono i j h1 h2 e]at h3;cases h3
 refine j8 (X2 (F2 (I:=fun x c st'=>st'=st/\∃ lo hi,c=(none,lo,hi)/\lo<=hi/\hi<=n/\hi - lo<=n - x/\(∀ i,i<lo->P i=true)/\(∀ i,hi<=i->i<n->P i=false))
  (Q:=fun c st'=>st'=st/\∃ k,c=(none,k,k)/\k<=n/\(∀ i,i<k->P i=true)/\(∀ i,k<=i->i<n->P i=false)) ?step ?fin ⟨rfl,lo,hi,rfl,h1,h2,by omega,h3,h4⟩) ?post)
 case fin =>
  rintro c st' ⟨rfl,lo,hi,rfl,h1,h2,hm,h3,h4⟩
  have:lo=hi:=by omega
  subst this
  exact⟨rfl,lo,rfl,h2,h3,h4⟩
 case post =>
  rintro c st' ⟨rfl,k,rfl,h2,h3,h4⟩
  exact hk _ _ _ (h k h2 h3 h4)
 case step =>
  rintro x c st' _ hx ⟨rfl,lo,hi,rfl,h1,h2,hm,h3,h4⟩
  refine hf x lo hi _ h2 (fun hge=>?_) (fun hlt e=>?_) (fun hlt e=>?_)
  ·have:lo=hi:=by omega
   subst this
   exact⟨rfl,lo,rfl,h2,h3,h4⟩
  ·exact⟨rfl,_,hi,rfl,by omega,h2,by omega,fun i hi'=>mono i _ (by omega) (by omega) e,h4⟩
  ·exact⟨rfl,lo,_,rfl,by omega,by omega,by omega,h3,fun i h5 h6=>anti _ i h5 h6 e⟩
theorem aL9 {left:Bool} {key:Keyed} {arr:Array Keyed} {base hint:Nat} {st:SortSt} {Q:Option Nat->SortSt->Prop} (P:Nat->Bool)
  (hP:∀ i,i<n->∀ R:Option Bool->SortSt->Prop,R (some (P i)) st->wpS (t9 prog w) A E s (ag5 left key arr base i) R st)
  (mono:∀ i j,i<=j->j<n->P j=true->P i=true) (hh:hint<n)
  (h:∀ k,k<=n->(∀ i,i<k->P i=true)->(∀ i,k<=i->i<n->P i=false)->Q (some k) st) :
  wpS (t9 prog w) A E s (Z1 left key arr base n hint) Q st:=by
 have anti:∀ i j,i<=j->j<n->P i=false->P j=false:=fun i j h1 h2 h3=>by
  cases e:P j with
  | false=>rfl
  | true=>rw[mono i j h1 h2 e]at h3;cases h3
 rw[bc7]
 dsimp only
 refine j8 (hP hint hh _ ?_)
 cases e0:P hint with
 | true =>
  dsimp only
  rw[if_pos rfl]
  refine j8 (X2 (F2 (I:=fun x c st'=>st'=st/\∃ l o,c=(none,l,o)/\l<o/\x+1<=o/\hint+l<n/\P (hint+l)=true)
   (Q:=fun c st'=>st'=st/\∃ l o,c=(none,l,o)/\l<o/\hint+l<n/\P (hint+l)=true/\(n - hint<=o\/(hint+o<n/\P (hint+o)=false))) ?step ?fin ⟨rfl,0,1,rfl,by omega,by omega,by omega,e0⟩) ?post)
  case fin =>
   rintro c st' ⟨rfl,l,o,rfl,h1,h2,h3,h4⟩
   exact⟨rfl,l,o,rfl,h1,h3,h4,.inl (by omega)⟩
  case post =>
   rintro c st' ⟨rfl,l,o,rfl,h1,h3,h4,h5⟩
   dsimp only
   refine aH9 P mono
    (fun x lo hi R hn a b c => by
     dsimp only
     by_cases hge:lo≥hi
     ·rw[if_pos hge]
      exact l9 (a hge)
     ·rw[if_neg hge]
      refine j8 (hP _ (by omega) _ ?_)
      cases e:P (lo+(hi - lo) / 2) with
      | true =>
       dsimp only
       rw[if_pos rfl]
       exact l9 (b (by omega) e)
      | false =>
       dsimp only
       rw[if_neg j7]
       exact l9 (c (by omega) e)) (fun lo hi R hR=>l9 hR) h (lo:=hint+l+1) (hi:=hint+min o (n - hint)) (by omega) (by omega) (fun i hi=>mono i _ (by omega) h3 h4) (fun i h6 h7=>?_)
   rcases h5 with h5 | ⟨h5,h8⟩
   ·omega
   ·exact anti _ i (by omega) h7 h8
  case step =>
   rintro x c st' _ hx ⟨rfl,l,o,rfl,h1,h2,h3,h4⟩
   dsimp only
   by_cases hge:o≥n - hint
   ·rw[if_pos hge]
    exact l9 ⟨rfl,l,o,rfl,h1,h3,h4,.inl hge⟩
   ·rw[if_neg hge]
    refine j8 (hP _ (by omega) _ ?_)
    cases e:P (hint+o) with
    | true =>
     dsimp only
     rw[if_neg (by simp)]
     exact l9 ⟨rfl,o,2*o+1,rfl,by omega,by omega,by omega,e⟩
    | false =>
     dsimp only
     rw[if_pos (by simp)]
     exact l9 ⟨rfl,l,o,rfl,h1,h3,h4,.inr ⟨by omega,e⟩⟩
 | false =>
  dsimp only
  rw[if_neg j7]
  refine j8 (X2 (F2 (I:=fun x c st'=>st'=st/\∃ l o,c=(none,l,o)/\l<o/\x+1<=o/\l<=hint/\P (hint - l)=false)
   (Q:=fun c st'=>st'=st/\∃ l o,c=(none,l,o)/\l<o/\l<=hint/\P (hint - l)=false/\(hint+1<=o\/(o<=hint/\P (hint - o)=true))) ?step ?fin ⟨rfl,0,1,rfl,by omega,by omega,by omega,e0⟩) ?post)
  case fin =>
   rintro c st' ⟨rfl,l,o,rfl,h1,h2,h3,h4⟩
   exact⟨rfl,l,o,rfl,h1,h3,h4,.inl (by omega)⟩
  case post =>
   rintro c st' ⟨rfl,l,o,rfl,h1,h3,h4,h5⟩
   dsimp only
   refine aH9 P mono
    (fun x lo hi R hn a b c => by
     dsimp only
     by_cases hge:lo≥hi
     ·rw[if_pos hge]
      exact l9 (a hge)
     ·rw[if_neg hge]
      refine j8 (hP _ (by omega) _ ?_)
      cases e:P (lo+(hi - lo) / 2) with
      | true =>
       dsimp only
       rw[if_pos rfl]
       exact l9 (b (by omega) e)
      | false =>
       dsimp only
       rw[if_neg j7]
       exact l9 (c (by omega) e)) (fun lo hi R hR=>l9 hR) h (lo:=hint+1 - min o (hint+1)) (hi:=hint - l) (by omega) (by omega) (fun i hi=>?_) (fun i h6 h7=>anti _ i h6 h7 h4)
   rcases h5 with h5 | ⟨h5,h8⟩
   ·omega
   ·exact mono i _ (by omega) (by omega) h8
  case step =>
   rintro x c st' _ hx ⟨rfl,l,o,rfl,h1,h2,h3,h4⟩
   dsimp only
   by_cases hge:o≥hint+1
   ·rw[if_pos hge]
    exact l9 ⟨rfl,l,o,rfl,h1,h3,h4,.inl hge⟩
   ·rw[if_neg hge]
    refine j8 (hP _ (by omega) _ ?_)
    cases e:P (hint - o) with
    | true =>
     dsimp only
     rw[if_pos rfl]
     exact l9 ⟨rfl,l,o,rfl,h1,h3,h4,.inr ⟨by omega,e⟩⟩
    | false =>
     dsimp only
     rw[if_neg j7]
     exact l9 ⟨rfl,o,2*o+1,rfl,by omega,by omega,by omega,e⟩
theorem W7 (o:Ord B)(C:Cmp prog w A E s κ S B){left:Bool}{key:Keyed}{arr:Array Keyed}{base hint:Nat}{st:SortSt}{Q:Option Nat->SortSt->Prop}(hk:kindOf st=κ)(hkey:S key)(hb:base+n<=arr.size)
  (hS:∀ (i:Nat) (x:Keyed),i<n->arr[base+i]?=some x->S x)
  (hs:∀ (i j:Nat) (x y:Keyed),i<=j->j<n->arr[base+i]?=some x->arr[base+j]?=some y->le B x y)(hh:hint<n)
  (h:∀ k,k<=n->(∀ (i:Nat) (x:Keyed),i<k->arr[base+i]?=some x->byn B left key x=true)->(∀ (i:Nat) (x:Keyed),k<=i->i<n->arr[base+i]?=some x->byn B left key x=false)->Q (some k) st) :
  wpS (t9 prog w) A E s (Z1 left key arr base n hint) Q st:=by
 have ex:∀ i,i<n->∃ x,arr[base+i]?=some x:=fun i hi=>⟨arr[base+i]'(by omega),getElem?_pos arr _ (by omega)⟩
 have ev:∀ (i:Nat) (x:Keyed),arr[base+i]?=some x->((arr[base+i]?).getD key)=x:=fun i x e=>by rw[e];rfl
 refine aL9 (fun i=>byn B left key ((arr[base+i]?).getD key)) (fun i hi R hR=>?_) (fun i j hij hj hp=>?_) hh (fun k hk' h1 h2=>h k hk' (fun i x hi e=>?_) (fun i x h3 h4 e=>?_))
 ·obtain⟨x,e⟩:=ex i hi
  rw[ev i x e]at hR
  exact aZ4 C hk e (hS i x hi e) hkey hR
 ·obtain⟨x,e⟩:=ex i (by omega)
  obtain⟨y,e'⟩:=ex j hj
  rw[ev j y e']at hp
  rw[ev i x e]
  have l:=hs i j x y hij hj e e'
  unfold byn at hp ⊢
  cases left with
  | true =>
   simp only[if_true]at hp ⊢
   exact o.le_lt l hp
  | false =>
   simp only[m8,if_false,bY7]at hp ⊢
   exact o.trans l hp
 ·have:=h1 i hi;rw[ev i x e]at this;exact this
 ·have:=h2 i h3 h4;rw[ev i x e]at this;exact this
end
theorem aV2 (a b:Array Keyed):aC9 a b=(do
 rule "list.sort.merge-lo"
 let total:=a.size+b.size
 let done (out:Array Keyed) (ia ib:Nat):=out++a.extract ia a.size++b.extract ib b.size
 let lastOfA (out:Array Keyed) (ia ib:Nat):=out++b.extract ib b.size++a.extract ia a.size
 let mut out:Array Keyed:=#[<- ai9 b 0]
 let mut ia:=0
 let mut ib:=1
 if ib == b.size then return done out ia ib
 if ia+1 == a.size then return lastOfA out ia ib
 let mut minGallop:=gallopOf (<- get)
 for _ in [0:total] do
  let mut acount:=0
  let mut bcount:=0
  for _ in [0:total] do
   let some bWins <- lt' (<- ai9 b ib) (<- ai9 a ia) | return done out ia ib
   if bWins then
    out:=out.push (<- ai9 b ib);ib:=ib+1;bcount:=bcount+1;acount:=0
    if ib == b.size then return done out ia ib
    if bcount≥minGallop then break
   else
    out:=out.push (<- ai9 a ia);ia:=ia+1;acount:=acount+1;bcount:=0
    if ia+1 == a.size then return lastOfA out ia ib
    if acount≥minGallop then break
  rule "list.sort.gallop"
  minGallop:=minGallop+1
  for _ in [0:total] do
   if minGallop > 1 then minGallop:=minGallop - 1
   P5 minGallop
   let some k <- Z1 false (<- ai9 b ib) a ia (a.size - ia) 0 | return done out ia ib
   acount:=k
   if k > 0 then
    out:=out++a.extract ia (ia+k);ia:=ia+k
    if ia+1 == a.size then return lastOfA out ia ib
    if ia == a.size then return done out ia ib
   out:=out.push (<- ai9 b ib);ib:=ib+1
   if ib == b.size then return done out ia ib
   let some k <- Z1 true (<- ai9 a ia) b ib (b.size - ib) 0 | return done out ia ib
   bcount:=k
   if k > 0 then
    out:=out++b.extract ib (ib+k);ib:=ib+k
    if ib == b.size then return done out ia ib
   out:=out.push (<- ai9 a ia);ia:=ia+1
   if ia+1 == a.size then return lastOfA out ia ib
   if acount<7 && bcount<7 then break
  minGallop:=minGallop+1
  P5 minGallop
 ai2 "internal:list.sort.merge-bound"):=rfl
theorem aV3 (a b:Array Keyed):aD0 a b=(do
 rule "list.sort.merge-hi"
 let total:=a.size+b.size
 let done (out:Array Keyed) (na nb:Nat):=a.extract 0 na++b.extract 0 nb++out.reverse
 let firstOfB (out:Array Keyed) (na nb:Nat):=b.extract 0 nb++a.extract 0 na++out.reverse
 let mut na:=a.size - 1
 let mut nb:=b.size
 let mut out:Array Keyed:=#[<- ai9 a na]
 if na == 0 then return done out na nb
 if nb == 1 then return firstOfB out na nb
 let mut minGallop:=gallopOf (<- get)
 for _ in [0:total] do
  let mut acount:=0
  let mut bcount:=0
  for _ in [0:total] do
   let some aWins <- lt' (<- ai9 b (nb - 1)) (<- ai9 a (na - 1)) | return done out na nb
   if aWins then
    na:=na - 1;out:=out.push (<- ai9 a na);acount:=acount+1;bcount:=0
    if na == 0 then return done out na nb
    if acount≥minGallop then break
   else
    nb:=nb - 1;out:=out.push (<- ai9 b nb);bcount:=bcount+1;acount:=0
    if nb == 1 then return firstOfB out na nb
    if bcount≥minGallop then break
  rule "list.sort.gallop"
  minGallop:=minGallop+1
  for _ in [0:total] do
   if minGallop > 1 then minGallop:=minGallop - 1
   P5 minGallop
   let some at_ <- Z1 false (<- ai9 b (nb - 1)) a 0 na (na - 1) | return done out na nb
   let k:=na - at_
   acount:=k
   if k > 0 then
    out:=out++(a.extract at_ na).reverse;na:=at_
    if na == 0 then return done out na nb
   nb:=nb - 1;out:=out.push (<- ai9 b nb)
   if nb == 1 then return firstOfB out na nb
   let some at_ <- Z1 true (<- ai9 a (na - 1)) b 0 nb (nb - 1) | return done out na nb
   let k:=nb - at_
   bcount:=k
   if k > 0 then
    out:=out++(b.extract at_ nb).reverse;nb:=at_
    if nb == 1 then return firstOfB out na nb
    if nb == 0 then return done out na nb
   na:=na - 1;out:=out.push (<- ai9 a na)
   if na == 0 then return done out na nb
   if acount<7 && bcount<7 then break
  minGallop:=minGallop+1
  P5 minGallop
 ai2 "internal:list.sort.merge-bound"):=rfl
structure MI (R:Keyed->Keyed->Prop) (out ra rb all:List Keyed):Prop where
 so:out.Pairwise R
 oa:∀ x∈out,∀ y∈ra,R x y
 ob:∀ x∈out,∀ y∈rb,R x y
 sa:ra.Pairwise R
 sb:rb.Pairwise R
 pm:(out++(ra++rb)).Perm all
theorem MI.blkA {blk all:List Keyed}(m:MI R out (blk++ra) rb all)(h:∀ x∈blk,∀ y∈rb,R x y):MI R (out++blk) ra rb all:=by
 obtain⟨s1,s2,s3⟩:=A2.mp m.sa
 refine⟨A2.mpr ⟨m.so,s1,fun x hx y hy=>m.oa x hx y (G4 _ hy)⟩,fun x hx y hy=>?_,fun x hx y hy=>?_,s2,m.sb,?_⟩
 ·rcases y7.mp hx with hx | hx
  ·exact m.oa x hx y (o5 _ hy)
  ·exact s3 x hx y hy
 ·rcases y7.mp hx with hx | hx
  ·exact m.ob x hx y hy
  ·exact h x hx y hy
 ·have:=m.pm
  simpa [B3] using this
theorem MI.blkB {blk all:List Keyed}(m:MI R out ra (blk++rb) all)(h:∀ x∈blk,∀ y∈ra,R x y):MI R (out++blk) ra rb all:=by
 obtain⟨s1,s2,s3⟩:=A2.mp m.sb
 refine⟨A2.mpr ⟨m.so,s1,fun x hx y hy=>m.ob x hx y (G4 _ hy)⟩,fun x hx y hy=>?_,fun x hx y hy=>?_,m.sa,s2,?_⟩
 ·rcases y7.mp hx with hx | hx
  ·exact m.oa x hx y hy
  ·exact h x hx y hy
 ·rcases y7.mp hx with hx | hx
  ·exact m.ob x hx y (o5 _ hy)
  ·exact s3 x hx y hy
 ·refine List.Perm.trans ?_ m.pm
  rw[B3]
  refine List.Perm.append_left _ ?_
  rw[<- B3,<- B3]
  exact List.Perm.append_right _ bB0
theorem MI.oneA {x:Keyed}{all:List Keyed}(m:MI R out (x::ra) rb all)(h:∀ y∈rb,R x y):MI R (out++[x]) ra rb all:=
 MI.blkA (blk:=[x]) m fun z hz y hy=>by rw[C9.mp hz];exact h y hy
theorem MI.oneB {x:Keyed}{all:List Keyed}(m:MI R out ra (x::rb) all)(h:∀ y∈ra,R x y):MI R (out++[x]) ra rb all:=
 MI.blkB (blk:=[x]) m fun z hz y hy=>by rw[C9.mp hz];exact h y hy
theorem MI.endAB {all:List Keyed}(m:MI R out ra rb all)(h:∀ x∈ra,∀ y∈rb,R x y):(out++(ra++rb)).Pairwise R/\(out++(ra++rb)).Perm all:=by
 refine⟨A2.mpr ⟨m.so,A2.mpr ⟨m.sa,m.sb,h⟩,fun x hx y hy=>?_⟩,m.pm⟩
 rcases y7.mp hy with hy | hy
 ·exact m.oa x hx y hy
 ·exact m.ob x hx y hy
theorem MI.endBA {all:List Keyed}(m:MI R out ra rb all)(h:∀ x∈rb,∀ y∈ra,R x y):(out++(rb++ra)).Pairwise R/\(out++(rb++ra)).Perm all:=by
 refine⟨A2.mpr ⟨m.so,A2.mpr ⟨m.sb,m.sa,h⟩,fun x hx y hy=>?_⟩,List.Perm.trans (List.Perm.append_left _ bB0) m.pm⟩
 rcases y7.mp hy with hy | hy
 ·exact m.ob x hx y hy
 ·exact m.oa x hx y hy
theorem drop_cons {α:Type}{l:List α}{x:α}(h:l[i]?=some x):l.drop i=x::l.drop (i+1):=by
 obtain⟨hi,rfl⟩:=c9.mp h
 exact ai6 hi
theorem ao8 {α:Type}(l:List α)(i k:Nat):l.drop i=(l.drop i).take k++l.drop (i+k):=by
 rw[<- bd5]
 exact(B4 k (l.drop i)).symm
theorem J2 {α:Type}{l:List α}{x:α}(h:x∈l.drop i):∃ j,i<=j/\j<l.length/\l[j]?=some x:=by
 obtain⟨k,hk⟩:=o7.mp h
 rw[R8]at hk
 exact⟨i+k,by omega,(c9.mp hk).1,hk⟩
theorem X3 {α:Type}{l:List α}{k:Nat}{x:α}(h:x∈(l.drop i).take k):∃ j,j<k/\l[i+j]?=some x:=by
 obtain⟨j,hj⟩:=o7.mp h
 rw[R9]at hj
 split at hj
 ·rename_i hlt
  rw[R8]at hj
  exact⟨j,hlt,hj⟩
 ·cases hj
theorem aX3 (a:Array Keyed)(i k:Nat):(a.extract i (i+k)).toList=(a.toList.drop i).take k:=by
 rw[ab1,V7,Q6]
theorem az0 (a:Array Keyed)(i:Nat):(a.extract i a.size).toList=a.toList.drop i:=by
 rw[ab1,V7]
 exact k9 (by simp)
theorem aO5 (a:Array Keyed)(i:Nat):(a.extract 0 i).toList=a.toList.take i:=by
 rw[ab1,V7,bd6,Nat.sub_zero]
structure Sm (st st':SortSt):Prop where
 k:kindOf st'=kindOf st
 a:m9 st'=m9 st
 p:B6 st'=B6 st
 f:O2 st'=O2 st
theorem Sm.rfl' (st:SortSt):Sm st st:=⟨rfl,rfl,rfl,rfl⟩
theorem Sm.mg {st st':SortSt}(h:Sm st st')(g:Nat):Sm st (SortSt.mk' (kindOf st') (m9 st') (B6 st') g (O2 st')):=⟨h.k,h.a,h.p,h.f⟩
section
variable {S:Keyed->Prop}
theorem ak4 {g:Nat}{st:SortSt}{Q:Unit->SortSt->Prop}(h:Q () (SortSt.mk' (kindOf st) (m9 st) (B6 st) g (O2 st))):wpS (t9 prog w) A E s (P5 g) Q st:=by
 rw[as8]
 exact ax3 h
structure LoI (B:Keyed->Keyed->Bool) (a b out:Array Keyed) (ia ib:Nat):Prop where
 m:MI (le B) out.toList (a.toList.drop ia) (b.toList.drop ib) (a.toList++b.toList)
 ha:ia+1<a.size
 hb:ib<b.size
 sz:out.size=ia+ib
def Good (B:Keyed->Keyed->Bool)(a b r:Array Keyed):Prop:=r.toList.Pairwise (le B)/\r.toList.Perm (a.toList++b.toList)
theorem K5 {α σ:Type}{c:Prop}[Decidable c]{X Y:StateT σ Sem α}{Q:α->σ->Prop}{st:σ}(h:c)(k:wpS M A E s X Q st):wpS M A E s (if c then X else Y) Q st:=by
 rw[if_pos h]
 exact k
theorem J9 {α σ:Type}{c:Prop}[Decidable c]{X Y:StateT σ Sem α}{Q:α->σ->Prop}{st:σ}(h:¬ c)(k:wpS M A E s Y Q st):wpS M A E s (if c then X else Y) Q st:=by
 rw[if_neg h]
 exact k
theorem ak3 {α σ:Type}{c:Prop}[Decidable c]{X Y:StateT σ Sem α}{Q:α->σ->Prop}{st:σ}(h:wpS M A E s X Q st)(k:wpS M A E s Y Q st):wpS M A E s (if c then X else Y) Q st:=by
 split
 ·exact h
 ·exact k
theorem aR1 {α σ:Type}{c:Nat->Prop}[∀ m,Decidable (c m)]{X Y:Nat->StateT σ Sem α}{Q:α->σ->Prop}{st:σ}(hX:∀ m,X m=Y (m - 1))(h:∀ m,wpS M A E s (Y m) Q st):∀ m,wpS M A E s (if c m then X m else Y m) Q st:=fun m=>by
 split
 ·rw[hX]
  exact h _
 ·exact h m
theorem ap4 {α σ β γ:Type}{u0:β}{v0:γ}{c:β->γ->Prop}[∀ u v,Decidable (c u v)]{X Y:β->γ->StateT σ Sem α}{Q:α->σ->Prop}{st:σ}{R:β->γ->Prop}(J:∀ u v,R u v->wpS M A E s (Y u v) Q st)(h1:c u0 v0->(∀ u v,R u v->wpS M A E s (Y u v) Q st)->wpS M A E s (X u0 v0) Q st)(h2:¬ c u0 v0->R u0 v0):∀ u,u0=u->∀ v,v0=v->wpS M A E s (if c u v then X u v else Y u v) Q st:=by
 rintro _ rfl _ rfl
 by_cases h:c u0 v0
 ·rw[if_pos h]
  exact h1 h J
 ·rw[if_neg h]
  exact J u0 v0 (h2 h)
theorem aQ9 (o:Ord B)(C:Cmp prog w A E s κ S B){a b:Array Keyed}{st:SortSt}{Q:Array Keyed->SortSt->Prop}(hk:kindOf st=κ)(hSa:∀ x∈a.toList,S x)(hSb:∀ x∈b.toList,S x)
  (sa:a.toList.Pairwise (le B))(sb:b.toList.Pairwise (le B))(ha:0<a.size)(hb:0<b.size)
  (h0:∀ x y,b[0]?=some x->a[0]?=some y->B x y=true)(hl:∀ x∈b.toList,∀ y,a[a.size - 1]?=some y->B x y=true)
  (h:∀ r st',Sm st st'->Good B a b r->Q r st'):wpS (t9 prog w) A E s (aC9 a b) Q st:=by
 have ga:∀ i,i<a.size->∃ x,a[i]?=some x/\a.toList[i]?=some x/\S x:=fun i hi=>by
  refine⟨a[i],getElem?_pos a i hi,by rw[d7];exact getElem?_pos a i hi,hSa _ (by simp)⟩
 have gb:∀ i,i<b.size->∃ x,b[i]?=some x/\b.toList[i]?=some x/\S x:=fun i hi=>by
  refine⟨b[i],getElem?_pos b i hi,by rw[d7];exact getElem?_pos b i hi,hSb _ (by simp)⟩
 have leA:∀ (i j:Nat) (x y:Keyed),i<=j->a.toList[i]?=some x->a.toList[j]?=some y->le B x y:=fun i j x y hij hx hy=>by
  obtain⟨h1,rfl⟩:=c9.mp hx
  obtain⟨h2,rfl⟩:=c9.mp hy
  rcases K7 hij with hlt | rfl
  ·exact x6.mp sa i j h1 h2 hlt
  ·exact o.rf _
 have leB:∀ (i j:Nat) (x y:Keyed),i<=j->b.toList[i]?=some x->b.toList[j]?=some y->le B x y:=fun i j x y hij hx hy=>by
  obtain⟨h1,rfl⟩:=c9.mp hx
  obtain⟨h2,rfl⟩:=c9.mp hy
  rcases K7 hij with hlt | rfl
  ·exact x6.mp sb i j h1 h2 hlt
  ·exact o.rf _
 have tl:∀ (z:Array Keyed) (i:Nat),z[i]?=z.toList[i]?:=fun z i=>(d7 ..).symm
 have goodDone:∀ (out:Array Keyed) (ia ib:Nat),MI (le B) out.toList (a.toList.drop ia) (b.toList.drop ib) (a.toList++b.toList)->ib=b.size->Good B a b (out++a.extract ia a.size++b.extract ib b.size):=fun out ia ib m e=>by
  have en:b.toList.drop ib=[]:=by rw[e];exact J6 (by simp)
  have:=m.endAB (fun x _ y hy=>by rw[en]at hy;cases hy)
  unfold Good
  rw[B5,B5,az0,az0,B3]
  exact this
 have lastA:∀ (ia:Nat) (x:Keyed),ia+1=a.size->x∈a.toList.drop ia->a[a.size - 1]?=some x:=fun ia x e hx=>by
  obtain⟨j,h1,h2,h3⟩:=J2 hx
  have:j=a.size - 1:=by rw[k8]at h2;omega
  rw[<- this,tl]
  exact h3
 have goodLast:∀ (out:Array Keyed) (ia ib:Nat),MI (le B) out.toList (a.toList.drop ia) (b.toList.drop ib) (a.toList++b.toList)->ia+1=a.size->Good B a b (out++b.extract ib b.size++a.extract ia a.size):=fun out ia ib m e=>by
  have:=m.endBA (fun x hx y hy=>o.of_lt (hl x (O4 hx) y (lastA ia y e hy)))
  unfold Good
  rw[B5,B5,az0,az0,B3]
  exact this
 have pushB:∀ (out:Array Keyed) (ia ib:Nat) (x:Keyed),MI (le B) out.toList (a.toList.drop ia) (b.toList.drop ib) (a.toList++b.toList)->b.toList[ib]?=some x->(∀ y∈a.toList.drop ia,le B x y) ->
   MI (le B) (out.push x).toList (a.toList.drop ia) (b.toList.drop (ib+1)) (a.toList++b.toList):=fun out ia ib x m e hx=>by
  rw[drop_cons e]at m
  rw[Y1]
  exact m.oneB hx
 have pushA:∀ (out:Array Keyed) (ia ib:Nat) (x:Keyed),MI (le B) out.toList (a.toList.drop ia) (b.toList.drop ib) (a.toList++b.toList)->a.toList[ia]?=some x->(∀ y∈b.toList.drop ib,le B x y) ->
   MI (le B) (out.push x).toList (a.toList.drop (ia+1)) (b.toList.drop ib) (a.toList++b.toList):=fun out ia ib x m e hx=>by
  rw[drop_cons e]at m
  rw[Y1]
  exact m.oneA hx
 have blkA:∀ (out:Array Keyed) (ia ib k:Nat),MI (le B) out.toList (a.toList.drop ia) (b.toList.drop ib) (a.toList++b.toList)->(∀ x∈(a.toList.drop ia).take k,∀ y∈b.toList.drop ib,le B x y) ->
   MI (le B) (out++a.extract ia (ia+k)).toList (a.toList.drop (ia+k)) (b.toList.drop ib) (a.toList++b.toList):=fun out ia ib k m hx=>by
  rw[ao8 a.toList ia k]at m
  rw[B5,aX3]
  exact m.blkA hx
 have blkB:∀ (out:Array Keyed) (ia ib k:Nat),MI (le B) out.toList (a.toList.drop ia) (b.toList.drop ib) (a.toList++b.toList)->(∀ x∈(b.toList.drop ib).take k,∀ y∈a.toList.drop ia,le B x y) ->
   MI (le B) (out++b.extract ib (ib+k)).toList (a.toList.drop ia) (b.toList.drop (ib+k)) (a.toList++b.toList):=fun out ia ib k m hx=>by
  rw[ao8 b.toList ib k]at m
  rw[B5,aX3]
  exact m.blkB hx
 rw[aV2]
 refine j8 (ac9 ?_)
 obtain⟨b0,eb0,eb0',Sb0⟩:=gb 0 hb
 obtain⟨a0,ea0,ea0',Sa0⟩:=ga 0 ha
 have lt0:=h0 b0 a0 eb0 ea0
 refine j8 (E2 eb0 ?_)
 have m0:MI (le B) ([]:List Keyed) (a.toList.drop 0) (b.toList.drop 0) (a.toList++b.toList):=⟨List.Pairwise.nil,(fun _ hx=>nomatch hx),(fun _ hx=>nomatch hx),sa,sb,List.Perm.refl _⟩
 have m1:MI (le B) (#[b0]:Array Keyed).toList (a.toList.drop 0) (b.toList.drop 1) (a.toList++b.toList):=pushB #[] 0 0 b0 m0 eb0' fun y hy=>by
  obtain⟨j,h1,h2,h3⟩:=J2 hy
  exact o.of_lt (o.lt_le lt0 (leA 0 j a0 y (u4 _) ea0' h3))
 by_cases e1:1=b.size
 ·refine K5 (by simpa using e1) ?_
  exact l9 (h _ st (Sm.rfl' st) (goodDone _ 0 1 m1 e1))
 refine J9 (by simpa using e1) ?_
 by_cases e2:0+1=a.size
 ·refine K5 (by simpa using e2) ?_
  exact l9 (h _ st (Sm.rfl' st) (goodLast _ 0 1 m1 e2))
 refine J9 (by simpa using e2) ?_
 refine j8 (aw4 ?_)
 have I0:LoI B a b #[b0] 0 1:=⟨m1,by omega,by omega,rfl⟩
 refine j8 (X2 (F2
  (I:=fun x c st'=>Sm st st'/\∃ out ia ib mg,c=(none,out,ia,ib,mg)/\LoI B a b out ia ib/\x+1<=out.size)
  (Q:=fun c st'=>Sm st st'/\∃ r out ia ib mg,c=(some r,out,ia,ib,mg)/\Good B a b r) ?step ?fin ⟨Sm.rfl' st,#[b0],0,1,_,rfl,I0,by simp⟩) ?post)
 case fin =>
  rintro c st' ⟨hS,out,ia,ib,mg,rfl,I,hx⟩
  have h1:=I.sz
  have h2:=I.ha
  have h3:=I.hb
  exfalso
  omega
 case post =>
  rintro c st' ⟨hS,r,out,ia,ib,mg,rfl,hg⟩
  exact l9 (h r st' hS hg)
 case step =>
  rintro x c st1 _ hx ⟨hS1,out,ia,ib,mg,rfl,I,hsz⟩
  refine j8 (X2 (F2
   (I:=fun j c st'=>Sm st st'/\∃ out' ia' ib' ac bc,c=(none,out',ia',ib',ac,bc)/\LoI B a b out' ia' ib'/\x+1<=out'.size/\(1<=j->x+2<=out'.size))
   (Q:=fun c st'=>Sm st st'/\((∃ r out' ia' ib' ac bc,c=(some r,out',ia',ib',ac,bc)/\Good B a b r)\/(∃ out' ia' ib' ac bc,c=(none,out',ia',ib',ac,bc)/\LoI B a b out' ia' ib'/\x+2<=out'.size)))
   ?istep ?ifin ⟨hS1,out,ia,ib,0,0,rfl,I,hsz,by omega⟩) ?ipost)
  case ifin =>
   rintro c st' ⟨hS,out',ia',ib',ac,bc,rfl,I',h1,h2⟩
   exact⟨hS,.inr ⟨out',ia',ib',ac,bc,rfl,I',h2 (by omega)⟩⟩
  case istep =>
   rintro j c st' _ hj ⟨hS,out',ia',ib',ac,bc,rfl,I',h1,_⟩
   obtain⟨bx,eb,eb',Sb⟩:=gb ib' I'.hb
   obtain⟨ax,ea,ea',Sa⟩:=ga ia' (by have:=I'.ha;omega)
   refine j8 (E2 eb (j8 (E2 ea (j8 (aA0 C (hS.k.trans hk) Sb Sa ?_)))))
   cases ew:B bx ax with
   | true =>
    refine K5 rfl ?_
    refine j8 (E2 eb ?_)
    have m2:=pushB out' ia' ib' bx I'.m eb' fun y hy=>by
     obtain⟨j,h1,h2,h3⟩:=J2 hy
     exact o.of_lt (o.lt_le ew (leA ia' j ax y h1 ea' h3))
    by_cases e3:ib'+1=b.size
    ·refine K5 (by simpa using e3) ?_
     exact l9 ⟨hS,.inl ⟨_,_,_,_,_,_,rfl,goodDone _ _ _ m2 e3⟩⟩
    refine J9 (by simpa using e3) ?_
    have I2:LoI B a b (out'.push bx) ia' (ib'+1):=⟨m2,I'.ha,by have:=I'.hb;omega,by rw[A5,I'.sz];omega⟩
    have z2:x+2<=(out'.push bx).size:=by rw[A5];omega
    refine ak3 ?_ ?_
    ·exact l9 ⟨hS,.inr ⟨_,_,_,_,_,rfl,I2,z2⟩⟩
    ·exact l9 ⟨hS,_,_,_,_,_,rfl,I2,al9 z2,fun _=>z2⟩
   | false =>
    refine J9 j7 ?_
    refine j8 (E2 ea ?_)
    have m2:=pushA out' ia' ib' ax I'.m ea' fun y hy=>by
     obtain⟨j,h1,h2,h3⟩:=J2 hy
     exact o.trans ew (leB ib' j bx y h1 eb' h3)
    by_cases e3:ia'+1+1=a.size
    ·refine K5 (by simpa using e3) ?_
     exact l9 ⟨hS,.inl ⟨_,_,_,_,_,_,rfl,goodLast _ _ _ m2 e3⟩⟩
    refine J9 (by simpa using e3) ?_
    have I2:LoI B a b (out'.push ax) (ia'+1) ib':=⟨m2,by have:=I'.ha;omega,I'.hb,by rw[A5,I'.sz];omega⟩
    have z2:x+2<=(out'.push ax).size:=by rw[A5];omega
    refine ak3 ?_ ?_
    ·exact l9 ⟨hS,.inr ⟨_,_,_,_,_,rfl,I2,z2⟩⟩
    ·exact l9 ⟨hS,_,_,_,_,_,rfl,I2,al9 z2,fun _=>z2⟩
  case ipost =>
   rintro c st2 ⟨hS2,⟨r,out',ia',ib',ac,bc,rfl,hg⟩ | ⟨out',ia',ib',ac,bc,rfl,I',hz⟩⟩
   ·exact l9 ⟨hS2,r,_,_,_,_,rfl,hg⟩
   refine j8 (ac9 ?_)
   refine j8 (X2 (F2
    (I:=fun j c st'=>Sm st st'/\∃ out' ia' ib' mg ac bc,c=(none,out',ia',ib',mg,ac,bc)/\LoI B a b out' ia' ib'/\x+2<=out'.size)
    (Q:=fun c st'=>Sm st st'/\((∃ r out' ia' ib' mg ac bc,c=(some r,out',ia',ib',mg,ac,bc)/\Good B a b r)\/(∃ out' ia' ib' mg ac bc,c=(none,out',ia',ib',mg,ac,bc)/\LoI B a b out' ia' ib'/\x+2<=out'.size)))
    ?gstep ?gfin ⟨hS2,out',ia',ib',_,ac,bc,rfl,I',hz⟩) ?gpost)
   case gfin =>
    rintro c st' ⟨hS,out',ia',ib',mg,ac,bc,rfl,I',h1⟩
    exact⟨hS,.inr ⟨out',ia',ib',mg,ac,bc,rfl,I',h1⟩⟩
   case gpost =>
    rintro c st3 ⟨hS3,⟨r,out',ia',ib',mg,ac,bc,rfl,hg⟩ | ⟨out',ia',ib',mg,ac,bc,rfl,I',hz⟩⟩
    ·exact l9 ⟨hS3,r,_,_,_,_,rfl,hg⟩
    exact j8 (ak4 (l9 ⟨hS3.mg _,_,_,_,_,rfl,I',by omega⟩))
   case gstep =>
    rintro j c st' _ hj ⟨hS,out',ia',ib',mg,ac,bc,rfl,I',hz⟩
    dsimp (config:={ zeta:=false }) only
    obtain⟨bx,eb,eb',Sb⟩:=gb ib' I'.hb
    obtain⟨al,eal,eal',Sal⟩:=ga (a.size - 1) (by omega)
    revert mg
    refine aR1 (fun _=>rfl) fun mg1=>?_
    try dsimp (config:={ zeta:=false }) only
    refine j8 (ak4 (j8 (E2 eb ?_)))
    refine j8 (W7 o C (hS.k.trans hk) Sb (by have:=I'.ha;omega) (fun i y hi e=>hSa y (f9 (by rw[<- tl];exact e))) (fun i j y z hij hj e e'=>leA _ _ y z (W5 hij _) (by rw[<- tl];exact e) (by rw[<- tl];exact e')) (by have:=I'.ha;omega) fun k hkn hlt hge=>?_)
    dsimp (config:={ zeta:=false }) only
    have hS':=hS
    have hlt':∀ y∈(a.toList.drop ia').take k,∀ z∈b.toList.drop ib',le B y z:=fun y hy z hz'=>by
     obtain⟨i,hi,e⟩:=X3 hy
     have q:=hlt i y hi (by rw[tl];exact e)
     obtain⟨j',h1,h2,h3⟩:=J2 hz'
     simp only[byn,m8,if_false,bY7]at q
     exact o.trans q (leB ib' j' bx z h1 eb' h3)
    have m1':=blkA out' ia' ib' k I'.m hlt'
    have hge':∀ y∈a.toList.drop (ia'+k),B bx y=true:=fun y hy=>by
     obtain⟨j',h1,h2,h3⟩:=J2 hy
     have q:=hge (j' - ia') y (by omega) (by rw[k8]at h2;omega) (by rw[show ia'+(j' - ia')=j' by omega,tl];exact h3)
     simpa [byn] using q
    have hka:ia'+k<a.size:=by
     rcases B0 (ia'+k) a.size with q | q
     ·exact q
     ·exfalso
      have h9:=I'.ha
      have q1:=hlt (a.size - 1 - ia') al (by omega) (by rw[show ia'+(a.size - 1 - ia')=a.size - 1 by omega];exact eal)
      have q2:=hl bx (f9 eb') al eal
      simp[byn,q2]at q1
    generalize eo:out'=o
    generalize en:ia'=n
    revert o n
    refine ap4 (R:=fun out1 ia1=>MI (le B) out1.toList (a.toList.drop ia1) (b.toList.drop ib') (a.toList++b.toList)/\(∀ y∈a.toList.drop ia1,B bx y=true)/\ia1+1<a.size/\out1.size=ia1+ib'/\x+2<=out1.size) ?_ (fun hk J=>?_) (fun hk=>?_)
    rotate_left
    ·by_cases e4:ia'+k+1=a.size
     ·refine K5 (by simpa using e4) ?_
      exact l9 ⟨hS.mg _,.inl ⟨_,_,_,_,_,_,_,rfl,goodLast _ _ _ m1' e4⟩⟩
     refine J9 (by simpa using e4) (J9 (by simp;omega) ?_)
     exact J (out'++a.extract ia' (ia'+k)) (ia'+k) ⟨m1',hge',by omega,by rw[J7,G0,I'.sz];omega,by rw[J7];omega⟩
    ·have e9:k=0:=by omega
     rw[e9]at hge'
     exact⟨I'.m,hge',I'.ha,I'.sz,hz⟩
    rintro out1 ia1 ⟨m1,hge1,hne1,sz1,z1⟩
    refine j8 (E2 eb ?_)
    have m2:=pushB out1 ia1 ib' bx m1 eb' fun y hy=>o.of_lt (hge1 y hy)
    by_cases e5:ib'+1=b.size
    ·refine K5 (by simpa using e5) ?_
     exact l9 ⟨hS.mg _,.inl ⟨_,_,_,_,_,_,_,rfl,goodDone _ _ _ m2 e5⟩⟩
    refine J9 (by simpa using e5) ?_
    generalize ho:out1.push bx=o2 at m2 ⊢
    have so2:o2.size=out1.size+1:=by rw[<- ho,A5]
    generalize hn:ib'+1=n2 at m2 e5 ⊢
    obtain⟨ax,ea,ea',Sa⟩:=ga ia1 (by omega)
    have hib:=I'.hb
    refine j8 (E2 ea ?_)
    refine j8 (W7 o C (hS.k.trans hk) Sa (by omega) (fun i y hi e=>hSb y (f9 (by rw[<- tl];exact e))) (fun i j y z hij hj e e'=>leB _ _ y z (W5 hij _) (by rw[<- tl];exact e) (by rw[<- tl];exact e')) (by omega) fun k' hkn' hlt2 hge2=>?_)
    dsimp (config:={ zeta:=false }) only
    have hlt2':∀ y∈(b.toList.drop n2).take k',∀ z∈a.toList.drop ia1,le B y z:=fun y hy z hz'=>by
     obtain⟨i,hi,e⟩:=X3 hy
     have q:=hlt2 i y hi (by rw[tl];exact e)
     obtain⟨j',h1,h2,h3⟩:=J2 hz'
     simp only[byn,if_true]at q
     exact o.of_lt (o.lt_le q (leA ia1 j' ax z h1 ea' h3))
    have m3':=blkB o2 ia1 n2 k' m2 hlt2'
    have hge2':∀ y∈b.toList.drop (n2+k'),le B ax y:=fun y hy=>by
     obtain⟨j',h1,h2,h3⟩:=J2 hy
     have q:=hge2 (j' - n2) y (by omega) (by rw[k8]at h2;omega) (by rw[show n2+(j' - n2)=j' by omega,tl];exact h3)
     show B y ax=false
     simpa [byn] using q
    have sz2:o2.size=ia1+n2:=by omega
    generalize eo:o2=o
    generalize en:n2=n
    revert o n
    refine ap4 (R:=fun out2 ib2=>MI (le B) out2.toList (a.toList.drop ia1) (b.toList.drop ib2) (a.toList++b.toList)/\(∀ y∈b.toList.drop ib2,le B ax y)/\ib2<b.size/\out2.size=ia1+ib2/\x+2<=out2.size) ?_ (fun hk J=>?_) (fun hk=>?_)
    rotate_left
    ·by_cases e6:n2+k'=b.size
     ·refine K5 (by simpa using e6) ?_
      exact l9 ⟨hS.mg _,.inl ⟨_,_,_,_,_,_,_,rfl,goodDone _ _ _ m3' e6⟩⟩
     refine J9 (by simpa using e6) ?_
     exact J (o2++b.extract n2 (n2+k')) (n2+k') ⟨m3',hge2',by omega,by rw[J7,G0,sz2];omega,by rw[J7];omega⟩
    ·have e8:k'=0:=by omega
     rw[e8]at hge2'
     exact⟨m2,hge2',by omega,sz2,by omega⟩
    rintro out2 ib2 ⟨m3,hge3,hne3,sz3,z3⟩
    refine j8 (E2 ea ?_)
    have m4:=pushA out2 ia1 ib2 ax m3 ea' hge3
    by_cases e7:ia1+1+1=a.size
    ·refine K5 (by simpa using e7) ?_
     exact l9 ⟨hS.mg _,.inl ⟨_,_,_,_,_,_,_,rfl,goodLast _ _ _ m4 e7⟩⟩
    refine J9 (by simpa using e7) ?_
    have I4:LoI B a b (out2.push ax) (ia1+1) ib2:=⟨m4,by omega,hne3,by rw[A5,sz3];omega⟩
    have z4:x+2<=(out2.push ax).size:=by
     rw[A5,sz3]
     have:=I'.sz
     omega
    refine ak3 ?_ ?_
    ·exact l9 ⟨hS.mg _,.inr ⟨_,_,_,_,_,_,rfl,I4,z4⟩⟩
    ·exact l9 ⟨hS.mg _,_,_,_,_,_,_,rfl,I4,z4⟩
end
theorem aR5 {α:Type}{l:List α}{x:α}(h:l[n]?=some x):(l.take (n+1)).reverse=x::(l.take n).reverse:=by
 rw[C8,h,bK7]
 rfl
theorem aj0 {α:Type}(l:List α){k:Nat}(h:k<=n):(l.take n).reverse=((l.drop k).take (n - k)).reverse++(l.take k).reverse:=by
 rw[<- bK7]
 congr 1
 obtain⟨d,rfl⟩:=Nat.le.dest h
 rw[Q6,List.take_add]
theorem K6 {α:Type}{l:List α}{x:α}(h:x∈(l.take n).reverse):∃ j,j<n/\j<l.length/\l[j]?=some x:=by
 rw[aP3]at h
 obtain⟨j,hj⟩:=o7.mp h
 rw[R9]at hj
 split at hj
 ·rename_i hlt
  exact⟨j,hlt,(c9.mp hj).1,hj⟩
 ·cases hj
theorem ay9 (a:Array Keyed)(i k:Nat):(a.extract i k).toList=(a.toList.drop i).take (k - i):=by
 rw[ab1,V7]
section
variable {S:Keyed->Prop}
abbrev HM (B:Keyed->Keyed->Bool)(a b out:Array Keyed)(na nb:Nat):Prop:=MI (fun x y=>le B y x) out.toList (a.toList.take na).reverse (b.toList.take nb).reverse (a.toList++b.toList)
structure HiI (B:Keyed->Keyed->Bool) (a b out:Array Keyed) (na nb:Nat):Prop where
 m:HM B a b out na nb
 ha:0<na
 ha':na<=a.size
 hb:1<nb
 hb':nb<=b.size
 sz:out.size+na+nb=a.size+b.size
theorem aR0 (o:Ord B)(C:Cmp prog w A E s κ S B){a b:Array Keyed}{st:SortSt}{Q:Array Keyed->SortSt->Prop}(hk:kindOf st=κ)(hSa:∀ x∈a.toList,S x)(hSb:∀ x∈b.toList,S x)
  (sa:a.toList.Pairwise (le B))(sb:b.toList.Pairwise (le B))(ha:0<a.size)(hb:0<b.size)
  (h0:∀ x y,b[0]?=some x->a[0]?=some y->B x y=true)(hl:∀ x∈b.toList,∀ y,a[a.size - 1]?=some y->B x y=true)
  (h:∀ r st',Sm st st'->Good B a b r->Q r st'):wpS (t9 prog w) A E s (aD0 a b) Q st:=by
 have ga:∀ i,i<a.size->∃ x,a[i]?=some x/\a.toList[i]?=some x/\S x:=fun i hi=>by
  refine⟨a[i],getElem?_pos a i hi,by rw[d7];exact getElem?_pos a i hi,hSa _ (by simp)⟩
 have gb:∀ i,i<b.size->∃ x,b[i]?=some x/\b.toList[i]?=some x/\S x:=fun i hi=>by
  refine⟨b[i],getElem?_pos b i hi,by rw[d7];exact getElem?_pos b i hi,hSb _ (by simp)⟩
 have leA:∀ (i j:Nat) (x y:Keyed),i<=j->a.toList[i]?=some x->a.toList[j]?=some y->le B x y:=fun i j x y hij hx hy=>by
  obtain⟨h1,rfl⟩:=c9.mp hx
  obtain⟨h2,rfl⟩:=c9.mp hy
  rcases K7 hij with hlt | rfl
  ·exact x6.mp sa i j h1 h2 hlt
  ·exact o.rf _
 have leB:∀ (i j:Nat) (x y:Keyed),i<=j->b.toList[i]?=some x->b.toList[j]?=some y->le B x y:=fun i j x y hij hx hy=>by
  obtain⟨h1,rfl⟩:=c9.mp hx
  obtain⟨h2,rfl⟩:=c9.mp hy
  rcases K7 hij with hlt | rfl
  ·exact x6.mp sb i j h1 h2 hlt
  ·exact o.rf _
 have tl:∀ (z:Array Keyed) (i:Nat),z[i]?=z.toList[i]?:=fun z i=>(d7 ..).symm
 have rel:∀ {l:List Keyed},l.Pairwise (fun x y=>le B y x)->l.reverse.Pairwise (le B):=fun {l} hp=>aa7.mpr hp
 have goodDone:∀ (out:Array Keyed) (na nb:Nat),HM B a b out na nb->(na=0\/nb=0)->Good B a b (a.extract 0 na++b.extract 0 nb++out.reverse):=fun out na nb m e=>by
  have:=m.endBA (fun x hx y hy=>by
   rcases e with rfl | rfl
   ·simp at hy
   ·simp at hx)
  unfold Good
  rw[B5,B5,aO5,aO5,ab2]
  have q:(out.toList++((b.toList.take nb).reverse++(a.toList.take na).reverse)).reverse=a.toList.take na++b.toList.take nb++out.toList.reverse:=by simp
  exact⟨by rw[<- q];exact rel this.1,by rw[<- q];exact(Z3 _).trans this.2⟩
 obtain⟨b0,eb0,eb0',Sb0⟩:=gb 0 hb
 obtain⟨a0,ea0,ea0',Sa0⟩:=ga 0 ha
 have lt0:=h0 b0 a0 eb0 ea0
 have goodFirst:∀ (out:Array Keyed) (na nb:Nat),HM B a b out na nb->nb=1->Good B a b (b.extract 0 nb++a.extract 0 na++out.reverse):=fun out na nb m e=>by
  have:=m.endAB (fun x hx y hy=>by
   subst e
   obtain⟨i,h1,h2,h3⟩:=K6 hx
   obtain⟨j,h4,h5,h6⟩:=K6 hy
   have:j=0:=by omega
   subst this
   rw[eb0']at h6
   cases h6
   exact o.of_lt (o.lt_le lt0 (leA 0 i a0 x (u4 _) ea0' h3)))
  unfold Good
  rw[B5,B5,aO5,aO5,ab2]
  have q:(out.toList++((a.toList.take na).reverse++(b.toList.take nb).reverse)).reverse=b.toList.take nb++a.toList.take na++out.toList.reverse:=by simp
  exact⟨by rw[<- q];exact rel this.1,by rw[<- q];exact(Z3 _).trans this.2⟩
 have pushA:∀ (out:Array Keyed) (na nb:Nat) (x:Keyed),0<na->HM B a b out na nb->a.toList[na - 1]?=some x->(∀ y∈(b.toList.take nb).reverse,le B y x)->HM B a b (out.push x) (na - 1) nb:=fun out na nb x hn m e hx=>by
  obtain⟨n,rfl⟩:∃ n,na=n+1:=⟨na - 1,by omega⟩
  unfold HM at m ⊢
  rw[ai7]at e ⊢
  rw[aR5 e]at m
  rw[Y1]
  exact m.oneA hx
 have pushB:∀ (out:Array Keyed) (na nb:Nat) (x:Keyed),0<nb->HM B a b out na nb->b.toList[nb - 1]?=some x->(∀ y∈(a.toList.take na).reverse,le B y x)->HM B a b (out.push x) na (nb - 1):=fun out na nb x hn m e hx=>by
  obtain⟨n,rfl⟩:∃ n,nb=n+1:=⟨nb - 1,by omega⟩
  unfold HM at m ⊢
  rw[ai7]at e ⊢
  rw[aR5 e]at m
  rw[Y1]
  exact m.oneB hx
 have blkA:∀ (out:Array Keyed) (na nb k:Nat),k<=na->HM B a b out na nb->(∀ x∈((a.toList.drop k).take (na - k)).reverse,∀ y∈(b.toList.take nb).reverse,le B y x)->HM B a b (out++(a.extract k na).reverse) k nb:=fun out na nb k hkn m hx=>by
  unfold HM at m ⊢
  rw[aj0 a.toList hkn]at m
  rw[B5,ab2,ay9]
  exact m.blkA hx
 have blkB:∀ (out:Array Keyed) (na nb k:Nat),k<=nb->HM B a b out na nb->(∀ x∈((b.toList.drop k).take (nb - k)).reverse,∀ y∈(a.toList.take na).reverse,le B y x)->HM B a b (out++(b.extract k nb).reverse) na k:=fun out na nb k hkn m hx=>by
  unfold HM at m ⊢
  rw[aj0 b.toList hkn]at m
  rw[B5,ab2,ay9]
  exact m.blkB hx
 rw[aV3]
 refine j8 (ac9 ?_)
 obtain⟨al,eal,eal',Sal⟩:=ga (a.size - 1) (by omega)
 refine j8 (E2 eal ?_)
 have m0:HM B a b #[] a.size b.size:=by
  unfold HM
  rw[k9 (by simp),k9 (by simp)]
  refine⟨List.Pairwise.nil,(fun _ hx=>nomatch hx),(fun _ hx=>nomatch hx),aa7.mpr sa,aa7.mpr sb,?_⟩
  rw[P3]
  exact List.Perm.append (Z3 _) (Z3 _)
 have m1:HM B a b #[al] (a.size - 1) b.size:=pushA #[] a.size b.size al ha m0 eal' fun y hy=>by
  obtain⟨j,h1,h2,h3⟩:=K6 hy
  exact o.of_lt (hl y (f9 h3) al eal)
 by_cases e1:a.size - 1=0
 ·refine K5 (by simpa using e1) ?_
  exact l9 (h _ st (Sm.rfl' st) (goodDone _ _ _ m1 (.inl e1)))
 refine J9 (by simpa using e1) ?_
 by_cases e2:b.size=1
 ·refine K5 (by simpa using e2) ?_
  exact l9 (h _ st (Sm.rfl' st) (goodFirst _ _ _ m1 e2))
 refine J9 (by simpa using e2) ?_
 refine j8 (aw4 ?_)
 have I0:HiI B a b #[al] (a.size - 1) b.size:=⟨m1,by omega,by omega,by omega,by omega,by simp;omega⟩
 refine j8 (X2 (F2
  (I:=fun x c st'=>Sm st st'/\∃ na nb out mg,c=(none,na,nb,out,mg)/\HiI B a b out na nb/\x+1<=out.size)
  (Q:=fun c st'=>Sm st st'/\∃ r na nb out mg,c=(some r,na,nb,out,mg)/\Good B a b r) ?step ?fin ⟨Sm.rfl' st,_,_,#[al],_,rfl,I0,by simp⟩) ?post)
 case fin =>
  rintro c st' ⟨hS,na,nb,out,mg,rfl,I,hx⟩
  have h1:=I.sz
  have h2:=I.ha
  have h3:=I.hb
  exfalso
  omega
 case post =>
  rintro c st' ⟨hS,r,na,nb,out,mg,rfl,hg⟩
  exact l9 (h r st' hS hg)
 case step =>
  rintro x c st1 _ hx ⟨hS1,na,nb,out,mg,rfl,I,hsz⟩
  refine j8 (X2 (F2
   (I:=fun j c st'=>Sm st st'/\∃ na' nb' out' ac bc,c=(none,na',nb',out',ac,bc)/\HiI B a b out' na' nb'/\x+1<=out'.size/\(1<=j->x+2<=out'.size))
   (Q:=fun c st'=>Sm st st'/\((∃ r na' nb' out' ac bc,c=(some r,na',nb',out',ac,bc)/\Good B a b r)\/(∃ na' nb' out' ac bc,c=(none,na',nb',out',ac,bc)/\HiI B a b out' na' nb'/\x+2<=out'.size)))
   ?istep ?ifin ⟨hS1,na,nb,out,0,0,rfl,I,hsz,by omega⟩) ?ipost)
  case ifin =>
   rintro c st' ⟨hS,na',nb',out',ac,bc,rfl,I',h1,h2⟩
   exact⟨hS,.inr ⟨na',nb',out',ac,bc,rfl,I',h2 (by omega)⟩⟩
  case istep =>
   rintro j c st' _ hj ⟨hS,na',nb',out',ac,bc,rfl,I',h1,_⟩
   have i1:=I'.ha
   have i2:=I'.ha'
   have i3:=I'.hb
   have i4:=I'.hb'
   have i5:=I'.sz
   obtain⟨bx,eb,eb',Sb⟩:=gb (nb' - 1) (by omega)
   obtain⟨ax,ea,ea',Sa⟩:=ga (na' - 1) (by omega)
   refine j8 (E2 eb (j8 (E2 ea (j8 (aA0 C (hS.k.trans hk) Sb Sa ?_)))))
   cases ew:B bx ax with
   | true =>
    refine K5 rfl ?_
    refine j8 (E2 ea ?_)
    have m2:=pushA out' na' nb' ax i1 I'.m ea' fun y hy=>by
     obtain⟨j,h1,h2,h3⟩:=K6 hy
     exact o.of_lt (o.le_lt (leB j (nb' - 1) y bx (by omega) h3 eb') ew)
    by_cases e3:na' - 1=0
    ·refine K5 (by simpa using e3) ?_
     exact l9 ⟨hS,.inl ⟨_,_,_,_,_,_,rfl,goodDone _ _ _ m2 (.inl e3)⟩⟩
    refine J9 (by simpa using e3) ?_
    have I2:HiI B a b (out'.push ax) (na' - 1) nb':=⟨m2,by omega,by omega,i3,i4,by rw[A5];omega⟩
    have z2:x+2<=(out'.push ax).size:=by rw[A5];omega
    refine ak3 ?_ ?_
    ·exact l9 ⟨hS,.inr ⟨_,_,_,_,_,rfl,I2,z2⟩⟩
    ·exact l9 ⟨hS,_,_,_,_,_,rfl,I2,al9 z2,fun _=>z2⟩
   | false =>
    refine J9 j7 ?_
    refine j8 (E2 eb ?_)
    have m2:=pushB out' na' nb' bx (by omega) I'.m eb' fun y hy=>by
     obtain⟨j,h1,h2,h3⟩:=K6 hy
     exact o.trans (leA j (na' - 1) y ax (by omega) h3 ea') ew
    by_cases e3:nb' - 1=1
    ·refine K5 (by simpa using e3) ?_
     exact l9 ⟨hS,.inl ⟨_,_,_,_,_,_,rfl,goodFirst _ _ _ m2 e3⟩⟩
    refine J9 (by simpa using e3) ?_
    have I2:HiI B a b (out'.push bx) na' (nb' - 1):=⟨m2,i1,i2,by omega,by omega,by rw[A5];omega⟩
    have z2:x+2<=(out'.push bx).size:=by rw[A5];omega
    refine ak3 ?_ ?_
    ·exact l9 ⟨hS,.inr ⟨_,_,_,_,_,rfl,I2,z2⟩⟩
    ·exact l9 ⟨hS,_,_,_,_,_,rfl,I2,al9 z2,fun _=>z2⟩
  case ipost =>
   rintro c st2 ⟨hS2,⟨r,na',nb',out',ac,bc,rfl,hg⟩ | ⟨na',nb',out',ac,bc,rfl,I',hz⟩⟩
   ·exact l9 ⟨hS2,r,_,_,_,_,rfl,hg⟩
   refine j8 (ac9 ?_)
   refine j8 (X2 (F2
    (I:=fun j c st'=>Sm st st'/\∃ na' nb' out' mg ac bc,c=(none,na',nb',out',mg,ac,bc)/\HiI B a b out' na' nb'/\x+2<=out'.size)
    (Q:=fun c st'=>Sm st st'/\((∃ r na' nb' out' mg ac bc,c=(some r,na',nb',out',mg,ac,bc)/\Good B a b r)\/(∃ na' nb' out' mg ac bc,c=(none,na',nb',out',mg,ac,bc)/\HiI B a b out' na' nb'/\x+2<=out'.size)))
    ?gstep ?gfin ⟨hS2,na',nb',out',_,ac,bc,rfl,I',hz⟩) ?gpost)
   case gfin =>
    rintro c st' ⟨hS,na',nb',out',mg,ac,bc,rfl,I',h1⟩
    exact⟨hS,.inr ⟨na',nb',out',mg,ac,bc,rfl,I',h1⟩⟩
   case gpost =>
    rintro c st3 ⟨hS3,⟨r,na',nb',out',mg,ac,bc,rfl,hg⟩ | ⟨na',nb',out',mg,ac,bc,rfl,I',hz⟩⟩
    ·exact l9 ⟨hS3,r,_,_,_,_,rfl,hg⟩
    exact j8 (ak4 (l9 ⟨hS3.mg _,_,_,_,_,rfl,I',by omega⟩))
   case gstep =>
    rintro j c st' _ hj ⟨hS,na',nb',out',mg,ac,bc,rfl,I',hz⟩
    dsimp (config:={ zeta:=false }) only
    have i1:=I'.ha
    have i2:=I'.ha'
    have i3:=I'.hb
    have i4:=I'.hb'
    have i5:=I'.sz
    obtain⟨bx,eb,eb',Sb⟩:=gb (nb' - 1) (by omega)
    revert mg
    refine aR1 (fun _=>rfl) fun mg1=>?_
    try dsimp (config:={ zeta:=false }) only
    refine j8 (ak4 (j8 (E2 eb ?_)))
    refine j8 (W7 o C (hS.k.trans hk) Sb (by omega) (fun i y hi e=>hSa y (f9 (by rw[<- tl];exact e))) (fun i j y z hij hj e e'=>leA _ _ y z (W5 hij _) (by rw[<- tl];exact e) (by rw[<- tl];exact e')) (by omega) fun k hkn hlt hge=>?_)
    dsimp (config:={ zeta:=false }) only
    have hlt':∀ y∈(a.toList.take k).reverse,le B y bx:=fun y hy=>by
     obtain⟨i,h1,h2,h3⟩:=K6 hy
     have q:=hlt i y h1 (by rw[N9,tl];exact h3)
     show B bx y=false
     simpa [byn] using q
    have hge':∀ y∈((a.toList.drop k).take (na' - k)).reverse,∀ z∈(b.toList.take nb').reverse,le B z y:=fun y hy z hz'=>by
     rw[aP3]at hy
     obtain⟨i,h1,h3⟩:=X3 hy
     have q:=hge (k+i) y (by omega) (by omega) (by rw[N9,tl];exact h3)
     obtain⟨j',h4,h5,h6⟩:=K6 hz'
     have q':B bx y=true:=by simpa [byn] using q
     exact o.of_lt (o.le_lt (leB j' (nb' - 1) z bx (by omega) h6 eb') q')
    have m1':=blkA out' na' nb' k hkn I'.m hge'
    generalize hd:na' - k=d
    generalize eo:out'=o
    generalize en:na'=n
    revert o n
    refine ap4 (R:=fun out1 na1=>HM B a b out1 na1 nb'/\(∀ y∈(a.toList.take na1).reverse,le B y bx)/\0<na1/\na1<=a.size/\out1.size+na1+nb'=a.size+b.size/\x+2<=out1.size) ?_ (fun hk J=>?_) (fun hk=>?_)
    rotate_left
    ·by_cases e4:k=0
     ·refine K5 (by simpa using e4) ?_
      exact l9 ⟨hS.mg _,.inl ⟨_,_,_,_,_,_,_,rfl,goodDone _ _ _ m1' (.inl e4)⟩⟩
     refine J9 (by simpa using e4) ?_
     exact J (out'++(a.extract k na').reverse) k ⟨m1',hlt',by omega,by omega,by rw[J7,bK8,G0];omega,by rw[J7];omega⟩
    ·have e9:k=na':=by omega
     exact⟨I'.m,by rw[<- e9];exact hlt',i1,i2,i5,hz⟩
    rintro out1 na1 ⟨m1,hge1,hne1,hle1,sz1,z1⟩
    refine j8 (E2 eb ?_)
    have m2:=pushB out1 na1 nb' bx (by omega) m1 eb' hge1
    by_cases e5:nb' - 1=1
    ·refine K5 (by simpa using e5) ?_
     exact l9 ⟨hS.mg _,.inl ⟨_,_,_,_,_,_,_,rfl,goodFirst _ _ _ m2 e5⟩⟩
    refine J9 (by simpa using e5) ?_
    generalize ho:out1.push bx=o2 at m2 ⊢
    have so2:o2.size=out1.size+1:=by rw[<- ho,A5]
    generalize hn:nb' - 1=n2 at m2 e5 ⊢
    obtain⟨ax,ea,ea',Sa⟩:=ga (na1 - 1) (by omega)
    refine j8 (E2 ea ?_)
    refine j8 (W7 o C (hS.k.trans hk) Sa (by omega) (fun i y hi e=>hSb y (f9 (by rw[<- tl];exact e))) (fun i j y z hij hj e e'=>leB _ _ y z (W5 hij _) (by rw[<- tl];exact e) (by rw[<- tl];exact e')) (by omega) fun k' hkn' hlt2 hge2=>?_)
    dsimp (config:={ zeta:=false }) only
    have hlt2':∀ y∈(b.toList.take k').reverse,le B y ax:=fun y hy=>by
     obtain⟨i,h1,h2,h3⟩:=K6 hy
     have q:=hlt2 i y h1 (by rw[N9,tl];exact h3)
     have q':B y ax=true:=by simpa [byn] using q
     exact o.of_lt q'
    have hge2':∀ y∈((b.toList.drop k').take (n2 - k')).reverse,∀ z∈(a.toList.take na1).reverse,le B z y:=fun y hy z hz'=>by
     rw[aP3]at hy
     obtain⟨i,h1,h3⟩:=X3 hy
     have q:=hge2 (k'+i) y (by omega) (by omega) (by rw[N9,tl];exact h3)
     obtain⟨j',h4,h5,h6⟩:=K6 hz'
     have q':B y ax=false:=by simpa [byn] using q
     exact o.trans (leA j' (na1 - 1) z ax (by omega) h6 ea') q'
    have m3':=blkB o2 na1 n2 k' hkn' m2 hge2'
    have sz2:o2.size+na1+n2=a.size+b.size:=by omega
    generalize hd2:n2 - k'=d2
    generalize eo:o2=o
    generalize en:n2=n
    revert o n
    refine ap4 (R:=fun out2 nb2=>HM B a b out2 na1 nb2/\(∀ y∈(b.toList.take nb2).reverse,le B y ax)/\1<nb2/\nb2<=b.size/\out2.size+na1+nb2=a.size+b.size/\x+2<=out2.size) ?_ (fun hk J=>?_) (fun hk=>?_)
    rotate_left
    ·by_cases e6:k'=1
     ·refine K5 (by simpa using e6) ?_
      exact l9 ⟨hS.mg _,.inl ⟨_,_,_,_,_,_,_,rfl,goodFirst _ _ _ m3' e6⟩⟩
     refine J9 (by simpa using e6) ?_
     by_cases e7:k'=0
     ·refine K5 (by simpa using e7) ?_
      exact l9 ⟨hS.mg _,.inl ⟨_,_,_,_,_,_,_,rfl,goodDone _ _ _ m3' (.inr e7)⟩⟩
     refine J9 (by simpa using e7) ?_
     exact J (o2++(b.extract k' n2).reverse) k' ⟨m3',hlt2',by omega,by omega,by rw[J7,bK8,G0];omega,by rw[J7];omega⟩
    ·have e8:k'=n2:=by omega
     exact⟨m2,by rw[<- e8];exact hlt2',by omega,by omega,sz2,by omega⟩
    rintro out2 nb2 ⟨m3,hge3,hne3,hle3,sz3,z3⟩
    refine j8 (E2 ea ?_)
    have m4:=pushA out2 na1 nb2 ax hne1 m3 ea' hge3
    by_cases e7:na1 - 1=0
    ·refine K5 (by simpa using e7) ?_
     exact l9 ⟨hS.mg _,.inl ⟨_,_,_,_,_,_,_,rfl,goodDone _ _ _ m4 (.inl e7)⟩⟩
    refine J9 (by simpa using e7) ?_
    have I4:HiI B a b (out2.push ax) (na1 - 1) nb2:=⟨m4,by omega,by omega,hne3,hle3,by rw[A5];omega⟩
    have z4:x+2<=(out2.push ax).size:=by
     rw[A5]
     omega
    refine ak3 ?_ ?_
    ·exact l9 ⟨hS.mg _,.inr ⟨_,_,_,_,_,_,rfl,I4,z4⟩⟩
    ·exact l9 ⟨hS.mg _,_,_,_,_,_,_,rfl,I4,z4⟩
end
def KF {O:aL7}(f:Keyed->O.α)(d:O.α)(xs:Array Keyed)(i:Nat):O.α:=match xs[i]? with
 | some p=>f p
 | none=>d
def Bf {O:aL7}(f:Keyed->O.α)(x y:Keyed):Bool:=O.blt (f x) (f y)
theorem Bf.ord {O:aL7}(f:Keyed->O.α):Ord (Bf f):=⟨fun x=>O.irrefl _,fun x y z=>O.trans _ _ _,fun x y z=>O.negTrans _ _ _⟩
section
variable {O:aL7} {f:Keyed->O.α} {d:O.α}
theorem ak1 {xs ys:Array Keyed}(h:xs[i]?=ys[j]?):KF f d xs i=KF f d ys j:=by unfold KF;rw[h]
theorem az7 {xs:Array Keyed}{x:Keyed}(h:xs[i]?=some x):KF f d xs i=f x:=by unfold KF;rw[h]
theorem aL0 {xs:Array Keyed}{src dd:Nat}(hs:src<xs.size)(hd:dd<=src)(k:Nat) :
  KF f d (bubble xs src dd) k=if k=src - dd then KF f d xs src else if src - dd<k/\k<=src then KF f d xs (k - 1) else KF f d xs k:=by
 have e:=getElem?_bubble hs dd hd k
 repeat' split at e
 all_goals first
  | (rw[if_pos (by assumption)];exact ak1 e)
  | (rw[if_neg (by assumption),if_pos (by assumption)];exact ak1 e)
  | (rw[if_neg (by assumption),if_neg (by assumption)];exact ak1 e)
theorem av1 {xs:Array Keyed}(hj:j<=xs.size)(k:Nat):KF f d (mirror xs i j ((j - i) / 2)) k=if i<=k/\k<j then KF f d xs (i+j - 1 - k) else KF f d xs k:=by
 have e:=ca3 (i:=i) hj k
 split at e
 ·rw[if_pos (by assumption)];exact ak1 e
 ·rw[if_neg (by assumption)];exact ak1 e
theorem O8 {xs:Array Keyed}(hj:j<=xs.size)(heq:∀ k,i<=k->k<j->KF f d xs k=KF f d xs (j - 1))(k:Nat):KF f d (mirror xs i j ((j - i) / 2)) k=KF f d xs k:=by
 rw[av1 hj]
 split
 ·rw[heq _ (by omega) (by omega),heq k (by omega) (by omega)]
 ·rfl
end
def V4 {O:aL7}(f:Keyed->O.α)(d:O.α)(lo:Nat)(xs:Array Keyed)(k:Nat):Prop:=∀ i j,i<=j->j<k->O.kle (KF f d xs (lo+i)) (KF f d xs (lo+j))
def ag6 {O:aL7}(f:Keyed->O.α)(d:O.α)(lo:Nat)(xs:Array Keyed)(k:Nat):Prop:=∀ i j,i<=j->j<k->O.kle (KF f d xs (lo+j)) (KF f d xs (lo+i))
def Pre (lo:Nat)(xs ys:Array Keyed):Prop:=∀ k,k<lo->ys[k]?=xs[k]?
theorem Pre.rf (lo:Nat)(xs:Array Keyed):Pre lo xs xs:=fun _ _=>rfl
theorem Pre.trans {lo:Nat}{xs ys zs:Array Keyed}(a:Pre lo xs ys)(b:Pre lo ys zs):Pre lo xs zs:=fun k hk=>(b k hk).trans (a k hk)
theorem Pre.mirror {lo:Nat}{xs:Array Keyed}(hj:j<=xs.size)(hi:lo<=i):Pre lo xs (mirror xs i j ((j - i) / 2)):=fun k hk=>by
 rw[ca3 hj,if_neg (by omega)]
theorem Pre.bubble {lo src dd:Nat}{xs:Array Keyed}(hs:src<xs.size)(hd:dd<=src)(hl:lo<=src - dd):Pre lo xs (bubble xs src dd):=fun k hk=>by
 rw[getElem?_bubble hs dd hd,if_neg (by omega),if_neg (by omega)]
structure SI (a₀:Array Keyed) (κ:SortKind) (p:Array (Nat × Nat × Nat)) (st:SortSt):Prop where
 perm:(m9 st).Perm a₀
 kind:kindOf st=κ
 failed:O2 st=none
 pend:B6 st=p
section
variable {p:Array (Nat × Nat × Nat)} {O:aL7} {f:Keyed->O.α} {d:O.α}
theorem SI.size {st:SortSt}(h:SI a₀ κ p st):(m9 st).size=a₀.size:=h.perm.size_eq
theorem SI.setArr {st:SortSt}(h:SI a₀ κ p st){xs:Array Keyed}(hp:xs.Perm (m9 st)):SI a₀ κ p (setArr st xs):=⟨hp.trans h.perm,h.kind,h.failed,h.pend⟩
theorem SI.at {st:SortSt}(h:SI a₀ κ p st)(hi:i<a₀.size):∃ x,(m9 st)[i]?=some x/\x∈a₀.toList:=by
 have hi':i<(m9 st).size:=by rw[h.size];exact hi
 exact⟨(m9 st)[i],getElem?_pos _ i hi',(M5.mp h.perm).mem_iff.mp (by simp)⟩
abbrev bK5 (prog:Program)(w:World)(A:Around)(E:Value->Shared->Prop)(s:Shared)(κ:SortKind)(a₀:Array Keyed){O:aL7}(f:Keyed->O.α):Prop:=Cmp prog w A E s κ (·∈a₀.toList) (Bf f)
theorem af2 (C:bK5 prog w A E s κ a₀ f){st:SortSt}{Q:Option Bool->SortSt->Prop}(hB:SI a₀ κ p st)(hi:i<a₀.size)(hj:j<a₀.size)
  (h:Q (some (O.blt (KF f d (m9 st) i) (KF f d (m9 st) j))) st):wpS (t9 prog w) A E s (ltAt' i j) Q st:=by
 obtain⟨x,e1,hx⟩:=hB.at hi
 obtain⟨y,e2,hy⟩:=hB.at hj
 rw[az7 e1,az7 e2]at h
 exact bk7 C hB.kind e1 e2 hx hy h
theorem be2 {st:SortSt} {lo a nrem:Nat} {Q:Option (Option Nat) × Nat->SortSt->Prop} {b:Nat->Option (Option Nat) × Nat->StateT SortSt Sem (ForInStep (Option (Option Nat) × Nat))} (ha:1<=a) (han:a<=nrem)
  (hb : ∀ x n (R : ForInStep (Option (Option Nat) × Nat) -> SortSt -> Prop), 1 <= n -> n < nrem -> (O.klt (KF f d (m9 st) (lo + n)) (KF f d (m9 st) (lo + n - 1)) -> R (.done (none, n)) st) ->
   (O.kle (KF f d (m9 st) (lo+n - 1)) (KF f d (m9 st) (lo+n))->R (.yield (none,n+1)) st)->wpS (t9 prog w) A E s (b x (none,n)) R st)
  (hs:V4 f d lo (m9 st) a)
  (h:∀ n,a<=n->n<=nrem->V4 f d lo (m9 st) n->(n=nrem\/O.klt (KF f d (m9 st) (lo+n)) (KF f d (m9 st) (lo+n - 1)))->Q (none,n) st) :
  wpS (t9 prog w) A E s (forIn [a:nrem] (none,a) b) Q st:=by
 refine F2 (I:=fun x c st'=>st'=st/\c=(none,x)/\V4 f d lo (m9 st) x) ?step ?fin ⟨rfl,rfl,hs⟩
 case fin =>
  rintro c st' ⟨rfl,rfl,hs'⟩
  rw[show max a nrem=nrem by omega]at hs' ⊢
  exact h nrem han (d5 _) hs' (.inl rfl)
 case step =>
  rintro x c st' hax hxn ⟨rfl,rfl,hs'⟩
  refine hb x x _ (by omega) hxn (fun q=>h x hax (by omega) hs' (.inr q)) (fun q=>⟨rfl,rfl,fun i j hij hj=>?_⟩)
  by_cases hjx:j<x
  ·exact hs' i j hij hjx
  ·have hj':j=x:=by omega
   subst hj'
   by_cases hi':i=j
   ·subst hi';exact KeyOrd.kle_refl _
   ·refine KeyOrd.kle_trans (hs' i (j - 1) (by omega) (by omega)) ?_
    rw[show lo+(j - 1)=lo+j - 1 by omega]
    exact q
theorem bp2 {st:SortSt} {lo nrem:Nat} {Q:Option (Option Nat) × Nat × Nat->SortSt->Prop} (hn:lo+nrem<=a₀.size) (h1:1<=n) (hnn:n<=nrem) (hB:SI a₀ κ p st)
  (hb : ∀ y x neq st' (R : ForInStep (Option (Option Nat) × Nat × Nat) -> SortSt -> Prop), SI a₀ κ p st' -> 1 <= x -> x < nrem ->
   (O.klt (KF f d (m9 st') (lo+x)) (KF f d (m9 st') (lo+x - 1))->0<neq->R (.yield (none,x+1,0)) (setArr st' (mirror (m9 st') (lo+x - (neq+1)) (lo+x) ((lo+x - (lo+x - (neq+1))) / 2)))) ->
   (O.klt (KF f d (m9 st') (lo+x)) (KF f d (m9 st') (lo+x - 1))->R (.yield (none,x+1,0)) st') ->
   (R (.done (none,x,neq)) st') ->
   (O.kle (KF f d (m9 st') (lo+x - 1)) (KF f d (m9 st') (lo+x))->O.kle (KF f d (m9 st') (lo+x)) (KF f d (m9 st') (lo+x - 1))->R (.yield (none,x+1,neq+1)) st')->wpS (t9 prog w) A E s (b y (none,x,neq)) R st')
  (hs:ag6 f d lo (m9 st) n)
  (h:∀ m neq st',SI a₀ κ p st'->Pre lo (m9 st) (m9 st')->n<=m->m<=nrem->ag6 f d lo (m9 st') m->neq+1<=m->(∀ i,m - (neq+1)<=i->i<m->KF f d (m9 st') (lo+i)=KF f d (m9 st') (lo+m - 1))->Q (none,m,neq) st') :
  wpS (t9 prog w) A E s (forIn [n:nrem] (none,n,0) b) Q st:=by
 refine F2 (I:=fun x c st'=>∃ neq,c=(none,x,neq)/\SI a₀ κ p st'/\Pre lo (m9 st) (m9 st')/\ag6 f d lo (m9 st') x/\neq+1<=x /\
   (∀ i,x - (neq+1)<=i->i<x->KF f d (m9 st') (lo+i)=KF f d (m9 st') (lo+x - 1))) ?step ?fin ⟨0,rfl,hB,Pre.rf _ _,hs,by omega,fun i h1 h2=>by congr 1;omega⟩
 case fin =>
  rintro c st' ⟨neq,rfl,hB',hp',hs',hq,he⟩
  rw[show max n nrem=nrem by omega]at hs' hq he ⊢
  exact h nrem neq st' hB' hp' hnn (d5 _) hs' hq he
 case step =>
  rintro x c st' hax hxn ⟨neq,rfl,hB',hp',hs',hq,he⟩
  have hsz:lo+x<=(m9 st').size:=by rw[hB'.size];omega
  have step1:O.klt (KF f d (m9 st') (lo+x)) (KF f d (m9 st') (lo+x - 1))->∀ xs:Array Keyed,(∀ k,KF f d xs k=KF f d (m9 st') k)->ag6 f d lo xs (x+1):=by
   intro hless xs hk i j hij hj
   rw[hk,hk]
   by_cases hjx:j<x
   ·exact hs' i j hij hjx
   ·have hj':j=x:=by omega
    subst hj'
    by_cases hi':i=j
    ·subst hi';exact KeyOrd.kle_refl _
    ·refine KeyOrd.kle_trans (KeyOrd.kle_of_klt hless) ?_
     rw[show lo+j - 1=lo+(j - 1) by omega]
     exact hs' i (j - 1) (by omega) (by omega)
  have he':∀ k,lo+x - (neq+1)<=k->k<lo+x->KF f d (m9 st') k=KF f d (m9 st') (lo+x - 1):=fun k h1 h2=>by
   have:=he (k - lo) (by omega) (by omega)
   rw[show lo+(k - lo)=k by omega]at this
   exact this
  refine hb x x neq st' _ hB' (by omega) hxn (fun q hneq=>?_) (fun q=>?_) (h x neq st' hB' hp' hax (by omega) hs' hq he) (fun q q'=>?_)
  ·exact⟨0,rfl,hB'.setArr (bk0 _ _ _ _),hp'.trans (Pre.mirror hsz (by omega)),step1 q _ (O8 hsz he'),by omega,fun i h1 h2=>by congr 1;omega⟩
  ·exact⟨0,rfl,hB',hp',step1 q _ (fun _=>rfl),by omega,fun i h1 h2=>by congr 1;omega⟩
  ·have heqx:KF f d (m9 st') (lo+x)=KF f d (m9 st') (lo+x - 1):=KeyOrd.kle_antisymm q' q
   refine⟨neq+1,rfl,hB',hp',fun i j hij hj=>?_,by omega,fun i h1 h2=>?_⟩
   ·by_cases hjx:j<x
    ·exact hs' i j hij hjx
    ·have hj':j=x:=by omega
     subst hj'
     by_cases hi':i=j
     ·subst hi';exact KeyOrd.kle_refl _
     ·rw[heqx,show lo+j - 1=lo+(j - 1) by omega];exact hs' i (j - 1) (by omega) (by omega)
   ·rw[show lo+(x+1) - 1=lo+x by omega]
    by_cases hix:i=x
    ·subst hix;rfl
    ·rw[heqx];exact he i (by omega) (by omega)
theorem wpS_countRun (C:bK5 prog w A E s κ a₀ f) {st:SortSt} {lo nrem:Nat} {Q:Option Nat->SortSt->Prop} (d:O.α) (hn:lo+nrem<=a₀.size) (h1:1<=nrem) (hB:SI a₀ κ p st)
    (h:∀ m st',SI a₀ κ p st'->Pre lo (m9 st) (m9 st')->1<=m->m<=nrem->V4 f d lo (m9 st') m->Q (some m) st') :
    wpS (t9 prog w) A E s (countRun' lo nrem) Q st:=by
  rw[countRun'_eq]
  dsimp only
  refine j8 (be2 (f:=f) (d:=d) (lo:=lo) (d5 1) h1 (fun x n R hn1 hn2 q1 q2=>?_) (fun i j hij hj=>by have:i=j:=(by omega);subst this;exact KeyOrd.kle_refl _) fun n hn1 hn2 hsn hor=>?_)
  · dsimp only
    refine j8 (af2 (d:=d) C hB (by omega) (by omega) ?_)
    cases e:O.blt (KF f d (m9 st) (lo+n)) (KF f d (m9 st) (lo+n - 1)) with
    | true=>exact l9 (q1 e)
    | false=>exact l9 (q2 e)
  dsimp only
  by_cases hnn:n=nrem
  · rw[if_pos (by simpa using hnn)]
    exact l9 (h n st hB (Pre.rf _ _) hn1 hn2 hsn)
  rw[if_neg (by simpa using hnn)]
  have hlt:=hor.resolve_left hnn
  by_cases hrose:1<n/\O.blt (KF f d (m9 st) lo) (KF f d (m9 st) (lo+n - 1))=true
  · rw[if_pos hrose.1]
    refine j8 (af2 (d:=d) C hB (by omega) (by omega) ?_)
    rw[hrose.2]
    exact l9 (h n st hB (Pre.rf _ _) hn1 hn2 hsn)
  have hfell:1<n->O.blt (KF f d (m9 st) lo) (KF f d (m9 st) (lo+n - 1))=false:=fun hgt=>by
    cases e:O.blt (KF f d (m9 st) lo) (KF f d (m9 st) (lo+n - 1)) with
    | false=>rfl
    | true=>exact absurd ⟨hgt,e⟩ hrose
  have fall:∃ st2,SI a₀ κ p st2/\Pre lo (m9 st) (m9 st2)/\ag6 f d lo (m9 st2) (n+1)/\(n > 1->st2=setArr st (mirror (m9 st) lo (lo+n) ((lo+n - lo) / 2)))/\(¬ n > 1->st2=st):=by
    by_cases hgt:1<n
    · have hfell:=hfell hgt
      have hsz:lo+n<=(m9 st).size:=by rw[hB.size];omega
      have hall:∀ k,lo<=k->k<lo+n->KF f d (m9 st) k=KF f d (m9 st) (lo+n - 1):=by
        intro k hk0 hk
        have a1:=hsn 0 (k - lo) (by omega) (by omega)
        have a2:=hsn (k - lo) (n - 1) (by omega) (by omega)
        rw[show lo+0=lo by omega,show lo+(k - lo)=k by omega]at a1
        rw[show lo+(k - lo)=k by omega,show lo+(n - 1)=lo+n - 1 by omega]at a2
        exact KeyOrd.kle_antisymm a2 (KeyOrd.kle_trans hfell a1)
      refine⟨_,hB.setArr (bk0 _ _ _ _),Pre.mirror hsz (d5 _),?_,fun _=>rfl,fun e=>by omega⟩
      intro i j hij hj
      show O.kle (KF f d (mirror (m9 st) _ _ _) (lo+j)) (KF f d (mirror (m9 st) _ _ _) (lo+i))
      rw[O8 hsz hall,O8 hsz hall]
      by_cases hjn:j<n
      · rw[hall (lo+i) (by omega) (by omega),hall (lo+j) (by omega) (by omega)];exact KeyOrd.kle_refl _
      · have hj':j=n:=by omega
        subst hj'
        by_cases hi':i=j
        · subst hi';exact KeyOrd.kle_refl _
        · rw[hall (lo+i) (by omega) (by omega)];exact KeyOrd.kle_of_klt hlt
    · have hn1':n=1:=by omega
      subst hn1'
      refine⟨st,hB,Pre.rf _ _,?_,fun q=>by omega,fun _=>rfl⟩
      intro i j hij hj
      by_cases hi':i=j
      · subst hi';exact KeyOrd.kle_refl _
      · have hi0:i=0:=by omega
        have hj1:j=1:=by omega
        subst hi0;subst hj1
        rw[show lo+0=lo+1 - 1 by omega]
        exact KeyOrd.kle_of_klt hlt
  obtain⟨st2,hB2,hp2,hs2,e2,e3⟩:=fall
  by_cases hgt:n > 1
  all_goals first
    | (rw [if_pos hgt]
       refine j8 (af2 (d:=d) C hB (by omega) (by omega) ?_)
       rw[hfell hgt]
       dsimp only
       rw[if_neg j7]
       refine j8 (aG7 ?_)
       rw[<- e2 hgt])
    | (rw [if_neg hgt]
       have e3:=e3 hgt
       rw[<- e3])
  all_goals
    clear e2 e3
    refine j8 (ac9 ?_)
    refine j8 (bp2 (f:=f) (d:=d) (lo:=lo) hn (by omega) (by omega) hB2 (fun y x neq st' R hB' x1 x2 q1 q2 q3 q4=>?_) hs2 fun m neq st' hB' hp' hm1 hm2 hs' hq he=>?_)
    · dsimp only
      refine j8 (af2 (d:=d) C hB' (by omega) (by omega) ?_)
      cases e:O.blt (KF f d (m9 st') (lo+x)) (KF f d (m9 st') (lo+x - 1)) with
      | true =>
        dsimp only
        rw[if_pos rfl]
        split
        · rename_i hz
          exact j8 (aG7 (l9 (q1 e hz)))
        · exact l9 (q2 e)
      | false =>
        dsimp only
        rw[if_neg j7]
        refine j8 (af2 (d:=d) C hB' (by omega) (by omega) ?_)
        cases e':O.blt (KF f d (m9 st') (lo+x - 1)) (KF f d (m9 st') (lo+x)) with
        | true=>exact l9 q3
        | false=>exact l9 (q4 e e')
    · dsimp only
      have hsz:lo+m<=(m9 st').size:=by rw[hB'.size];omega
      have he':∀ k,lo+m - (neq+1)<=k->k<lo+m->KF f d (m9 st') k=KF f d (m9 st') (lo+m - 1):=fun k h1 h2=>by
        have:=he (k - lo) (by omega) (by omega)
        rw[show lo+(k - lo)=k by omega]at this
        exact this
      have tailOk:∀ st3,SI a₀ κ p st3->Pre lo (m9 st) (m9 st3)->ag6 f d lo (m9 st3) m->SI a₀ κ p (setArr st3 (mirror (m9 st3) lo (lo+m) ((lo+m - lo) / 2)))/\Pre lo (m9 st) (mirror (m9 st3) lo (lo+m) ((lo+m - lo) / 2))/\V4 f d lo (mirror (m9 st3) lo (lo+m) ((lo+m - lo) / 2)) m:=fun st3 hB3 hp3 hs3=>by
        have hsz3:lo+m<=(m9 st3).size:=by rw[hB3.size];omega
        refine⟨hB3.setArr (bk0 _ _ _ _),hp3.trans (Pre.mirror hsz3 (d5 _)),fun i j hij hj=>?_⟩
        rw[av1 hsz3,av1 hsz3,if_pos (by omega),if_pos (by omega),show lo+(lo+m) - 1 - (lo+i)=lo+(m - 1 - i) by omega,show lo+(lo+m) - 1 - (lo+j)=lo+(m - 1 - j) by omega]
        exact hs3 _ _ (by omega) (by omega)
      have mm:ag6 f d lo (mirror (m9 st') (lo+m - (neq+1)) (lo+m) ((lo+m - (lo+m - (neq+1))) / 2)) m:=fun i j hij hj=>by
        rw[O8 hsz he',O8 hsz he']
        exact hs' i j hij hj
      by_cases hneq:neq > 0
      all_goals first
        | (rw [if_pos hneq]
           refine j8 (aG7 (j8 (aG7 ?_)))
           obtain⟨hB4,hp4,hs4⟩:=tailOk (setArr st' (mirror (m9 st') (lo+m - (neq+1)) (lo+m) ((lo+m - (lo+m - (neq+1))) / 2))) (hB'.setArr (bk0 _ _ _ _)) ((hp2.trans hp').trans (Pre.mirror hsz (by omega))) mm)
        | (rw [if_neg hneq]
           refine j8 (aG7 ?_)
           obtain⟨hB4,hp4,hs4⟩:=tailOk st' hB' (hp2.trans hp') hs')
      all_goals
        refine j8 (be2 (f:=f) (d:=d) (lo:=lo) (by omega) hm2 (fun x n R hn1 hn2 q1 q2=>?_) hs4 fun n' hn1' hn2' hsn' _=>l9 (h n' _ hB4 hp4 (by omega) hn2' hsn'))
        dsimp only
        refine j8 (af2 (d:=d) C hB4 (by omega) (by omega) ?_)
        revert q1 q2
        generalize KF f d (m9 _) (lo+n)=u
        generalize KF f d (m9 _) (lo+n - 1)=v
        intro q1 q2
        cases e:O.blt u v with
        | true=>exact l9 (q1 e)
        | false=>exact l9 (q2 e)
theorem aw5 (C:bK5 prog w A E s κ a₀ f) {st:SortSt} {lo ok:Nat} {Q:Bool->SortSt->Prop} (d:O.α) (hn:lo+n<=a₀.size) (hok:ok<=n) (hB:SI a₀ κ p st) (hs:V4 f d lo (m9 st) ok)
  (h:∀ st',SI a₀ κ p st'->Pre lo (m9 st) (m9 st')->V4 f d lo (m9 st') n->Q true st'):wpS (t9 prog w) A E s (binarySort' lo n ok) Q st:=by
 rw[binarySort'_eq]
 refine j8 (X2 (F2 (I:=fun k c st'=>c=(none,())/\SI a₀ κ p st'/\Pre lo (m9 st) (m9 st')/\V4 f d lo (m9 st') (min k n))
  (Q:=fun c st'=>c=(none,())/\SI a₀ κ p st'/\Pre lo (m9 st) (m9 st')/\V4 f d lo (m9 st') n) ?step ?fin ?init) ?post)
 case post =>
  rintro c st' ⟨rfl,hB',hp',hs'⟩
  exact l9 (h st' hB' hp' hs')
 case init =>
  refine⟨rfl,hB,Pre.rf _ _,fun i j hij hj=>?_⟩
  by_cases h1:ok=0
  ·have:i=j:=by omega
   subst this;exact KeyOrd.kle_refl _
  ·exact hs i j hij (by omega)
 case fin =>
  rintro c st' ⟨hc,hB',hp',hs'⟩
  refine⟨hc,hB',hp',?_⟩
  rwa [show min (max (max ok 1) n) n=n by omega]at hs'
 case step =>
  rintro k c st' hak hkn ⟨rfl,hB',hp',hs'⟩
  rw[show min k n=k by omega]at hs'
  have hk:lo+k<a₀.size:=by omega
  refine j8 (X2 (F2 (I:=fun x c st''=>st''=st'/\∃ l r,c=(none,l,r)/\l<=r/\r<=k/\r - l<=k - x /\
    (∀ i,i<l->O.kle (KF f d (m9 st') (lo+i)) (KF f d (m9 st') (lo+k)))/\(∀ i,r<=i->i<k->O.klt (KF f d (m9 st') (lo+k)) (KF f d (m9 st') (lo+i))))
   (Q := fun c st'' => st'' = st' /\ ∃ l r, c = (none, l, r) /\ l <= k /\
    (∀ i,i<l->O.kle (KF f d (m9 st') (lo+i)) (KF f d (m9 st') (lo+k)))/\(∀ i,l<=i->i<k->O.klt (KF f d (m9 st') (lo+k)) (KF f d (m9 st') (lo+i)))) ?istep ?ifin ?iinit) ?ipost)
  case iinit=>exact⟨rfl,0,k,rfl,by omega,by omega,by omega,fun i hi=>by omega,fun i h1 h2=>by omega⟩
  case ifin =>
   rintro c st'' ⟨rfl,l,r,rfl,hlr,hrk,hm,hlo,hhi⟩
   have:l=r:=by omega
   subst this
   exact⟨rfl,l,l,rfl,hrk,hlo,hhi⟩
  case istep =>
   rintro x c st'' _ hxk ⟨rfl,l,r,rfl,hlr,hrk,hm,hlo,hhi⟩
   dsimp only
   by_cases hge:l≥r
   ·rw[if_pos hge]
    have:l=r:=by omega
    subst this
    exact l9 ⟨rfl,l,l,rfl,hrk,hlo,hhi⟩
   ·rw[if_neg hge]
    refine j8 (af2 (d:=d) C hB' hk (by omega) ?_)
    cases hless:O.blt (KF f d (m9 st'') (lo+k)) (KF f d (m9 st'') (lo+(l+r) / 2))
    case true =>
     simp only[if_true]
     refine l9 ⟨rfl,l,(l+r) / 2,rfl,by omega,by omega,by omega,hlo,fun i h1 h2=>?_⟩
     exact KeyOrd.klt_of_klt_of_kle hless (hs' _ _ h1 h2)
    case false =>
     simp only[m8,if_false]
     refine l9 ⟨rfl,(l+r) / 2+1,r,rfl,by omega,by omega,by omega,fun i h1=>?_,hhi⟩
     exact KeyOrd.kle_trans (hs' i ((l+r) / 2) (by omega) (by omega)) (show O.kle _ _ from hless)
  case ipost =>
   rintro c st'' ⟨rfl,l,r,rfl,hlk,hlo,hhi⟩
   show wpS _ _ _ _ (do moveDown' (lo+k) (lo+l);pure (ForInStep.yield (none,()))) _ _
   rw[moveDown'_eq]
   have hks:lo+k<(m9 st'').size:=by rw[hB'.size];exact hk
   refine j8 (ax3 (l9 ⟨rfl,hB'.setArr (bubble_perm _ _ _),hp'.trans (Pre.bubble hks (by omega) (by omega)),?_⟩))
   rw[show min (k+1) n=k+1 by omega]
   intro i j hij hj
   show O.kle (KF f d (bubble (m9 st'') (lo+k) (lo+k - (lo+l))) (lo+i)) (KF f d (bubble (m9 st'') (lo+k) (lo+k - (lo+l))) (lo+j))
   rw[aL0 hks (by omega),aL0 hks (by omega),show lo+k - (lo+k - (lo+l))=lo+l by omega]
   have e1:∀ t:Nat,0<t->lo+t - 1=lo+(t - 1):=fun t ht=>by omega
   repeat' split
   all_goals first
    | (exfalso;omega)
    | exact KeyOrd.kle_refl _
    | exact hlo _ (by omega)
    | (rw[e1 _ (by omega)];exact KeyOrd.kle_of_klt (hhi _ (by omega) (by omega)))
    | exact KeyOrd.kle_of_klt (hhi _ (by omega) (by omega))
    | exact hs' _ _ (by omega) (by omega)
    | (rw[e1 _ (by omega)];exact hs' _ _ (by omega) (by omega))
    | (rw[e1 _ (by omega),e1 _ (by omega)];exact hs' _ _ (by omega) (by omega))
end
theorem aV4 (i:Nat):mergeAt' i=(do
 let s <- get
 let (some (sa,na,power),some (sb,nb,_)):=((B6 s)[i]?,(B6 s)[i+1]?) | ai2 "internal:list.sort.pending"
 set (bB3 s (((B6 s).setIfInBounds i (sa,na+nb,power)).eraseIdxIfInBounds (i+1)))
 let some k <- Z1 false (<- ai9 (m9 s) sb) (m9 s) sa na 0 | return false
 let (sa,na):=(sa+k,na - k)
 if na == 0 then return true
 let some nb <- Z1 true (<- ai9 (m9 s) (sa+na - 1)) (m9 s) sb nb (nb - 1) | return false
 if nb == 0 then return true
 let x:=(m9 s).extract sa sb
 let y:=(m9 s).extract sb (sb+nb)
 let merged <- if na<=nb then aC9 x y else aD0 x y
 modify fun s=>setArr s (merged.toList.zipIdx.foldl (fun a (p,j)=>a.setIfInBounds (sa+j) p) (m9 s))
 return (O2 (<- get)).isNone):=rfl
def shape (ps:List (Nat × Nat × Nat)):List (Nat × Nat):=ps.map fun x=>(x.1,x.2.1)
def aq5:Nat->List (List Keyed)->List (Nat × Nat)
 | _,[]=>[]
 | k,r::rs=>(k,r.length)::aq5 (k+r.length) rs
theorem ab9:∀ (k:Nat) (rs ts:List (List Keyed)),aq5 k (rs++ts)=aq5 k rs++aq5 (k+rs.flatten.length) ts
 | k,[],ts=>by simp[aq5]
 | k,r::rs,ts=>by
  rw[bZ4]
  show (k,r.length)::aq5 (k+r.length) (rs++ts)=(k,r.length)::(aq5 (k+r.length) rs++_)
  rw[ab9 (k+r.length) rs ts,P0,o6,Nat.add_assoc]
theorem ab8:∀ (k:Nat) (rs:List (List Keyed)),(aq5 k rs).length=rs.length
 | _,[]=>rfl
 | k,r::rs=>by
  show (aq5 (k+r.length) rs).length+1=rs.length+1
  rw[ab8]
theorem aS0 {α:Type}{l:List α}(h:i+1<l.length):∃ l1 u v l2,l=l1++u::v::l2/\l1.length=i:=by
 refine⟨l.take i,l[i],l[i+1],l.drop (i+2),?_,by rw[q8];omega⟩
 rw[<- ai6,<- ai6,B4]
theorem aX2 (b:Nat):∀ (m:List Keyed) (k:Nat) (arr:Array Keyed),b+k+m.length<=arr.size ->
  (ac7 (fun a x=>match x with | (p,j)=>bB6 a (b+j) p) arr (m.zipIdx k)).toList=arr.toList.take (b+k)++(m++arr.toList.drop (b+k+m.length))
 | [],k,arr,h=>by simp
 | x::m,k,arr,h=>by
  rw[t4]at h
  rw[aP4,ae5,aX2 b m (k+1) _ (by rw[bd7];omega)]
  dsimp only
  rw[aY5]
  have hl:b+k<arr.toList.length:=by rw[k8];omega
  rw[List.set_eq_take_append_cons_drop,if_pos hl]
  have e1:(aY6 (b+k) arr.toList).length=b+k:=by rw[q8];omega
  have e2:(aY6 (b+k) arr.toList++x::List.drop (b+k+1) arr.toList).take (b+(k+1))=aY6 (b+k) arr.toList++[x]:=by
   rw[bZ5,e1,show b+(k+1) - (b+k)=1 by omega,k9 (by rw[e1];omega)]
   rfl
  have e3:(aY6 (b+k) arr.toList++x::List.drop (b+k+1) arr.toList).drop (b+(k+1)+m.length)=arr.toList.drop (b+k+(m.length+1)):=by
   rw[ab3,e1,J6 (by rw[e1];omega),P3,show b+(k+1)+m.length - (b+k)=m.length+1 by omega,List.drop_succ_cons,bd5]
   congr 1
   omega
  rw[e2,e3,B3]
  rfl
theorem bD1 {σ:Type}{x:σ}{Q:PUnit->σ->Prop}{st:σ}(h:Q ⟨⟩ x):wpS M A E s (set x:StateT σ Sem PUnit) Q st:=by
 unfold wpS;rw[StateT.run_set];exact i8 ⟨rfl,h⟩
structure SR (a₀:Array Keyed) (κ:SortKind) (B:Keyed->Keyed->Bool) (runs:List (List Keyed)) (suf:List Keyed) (st:SortSt):Prop where
 perm:(m9 st).Perm a₀
 kind:kindOf st=κ
 failed:O2 st=none
 sh:shape (B6 st).toList=aq5 0 runs
 ok:∀ r∈runs,r≠[]/\r.Pairwise (le B)
 arr:(m9 st).toList=runs.flatten++suf
theorem ad7 {l:List Keyed}(h:l.Pairwise R)(rf:∀ x,R x x){x y:Keyed}(hij:i<=j)(hx:l[i]?=some x)(hy:l[j]?=some y):R x y:=by
 obtain⟨h1,rfl⟩:=c9.mp hx
 obtain⟨h2,rfl⟩:=c9.mp hy
 rcases K7 hij with hlt | rfl
 ·exact x6.mp h i j h1 h2 hlt
 ·exact rf _
theorem av5 (o:Ord B)(C:Cmp prog w A E s κ (·∈a₀.toList) B){st:SortSt}{runs:List (List Keyed)}{suf:List Keyed}{Q:Bool->SortSt->Prop}(I:SR a₀ κ B runs suf st)(hi:i+1<runs.length)
  (h:∀ runs' st',SR a₀ κ B runs' suf st'->runs'.length+1=runs.length->runs'.flatten.length=runs.flatten.length->Q true st'):wpS (t9 prog w) A E s (mergeAt' i) Q st:=by
 obtain⟨r1,R,R',r2,rfl,hr1⟩:=aS0 hi
 have hpl:(B6 st).toList.length=(r1++R::R'::r2).length:=by
  have:=congrArg am6 I.sh
  rw[ab8]at this
  unfold shape at this
  rw[b7]at this
  exact this
 obtain⟨l1,u,v,l2,hp,hl1⟩:=aS0 (l:=(B6 st).toList) (i:=i) (by rw[hpl];exact hi)
 have hsh:=I.sh
 rw[hp,ab9]at hsh
 unfold shape at hsh
 rw[j9]at hsh
 obtain⟨s1,s2⟩:=List.append_inj hsh (by rw[b7,ab8,hl1,hr1])
 rw[p7,p7]at s2
 simp only[aq5,List.cons.injEq,N9]at s2
 obtain⟨su,sv,s2⟩:=s2
 obtain⟨sa,na,pw⟩:=u
 obtain⟨sb,nb,pw2⟩:=v
 simp only[Prod.mk.injEq]at su sv
 obtain⟨hsa,hna⟩:=su
 obtain⟨hsb,hnb⟩:=sv
 have okR:=I.ok R (by simp)
 have okR':=I.ok R' (by simp)
 have nR:0<R.length:=ax1.mpr okR.1
 have nR':0<R'.length:=ax1.mpr okR'.1
 have g1:(B6 st)[i]?=some (sa,na,pw):=by
  rw[<- d7,hp,J3 (by omega),hl1,bB7]
  rfl
 have g2:(B6 st)[i+1]?=some (sb,nb,pw2):=by
  rw[<- d7,hp,J3 (by omega),hl1,show i+1 - i=1 by omega]
  rfl
 have harr:(m9 st).toList=r1.flatten++(R++(R'++(r2.flatten++suf))):=by
  rw[I.arr]
  simp
 have hsize:(m9 st).size=sa+(na+(nb+(r2.flatten++suf).length)):=by
  rw[<- k8,harr,o6,o6,o6,hsa,hna,hnb]
 have atR:∀ k,k<na->(m9 st)[sa+k]?=R[k]?:=fun k hk=>by
  rw[<- d7,harr,J3 (by omega),hsa,Q6,V6 (by omega)]
 have atR':∀ k,k<nb->(m9 st)[sb+k]?=R'[k]?:=fun k hk=>by
  rw[<- d7,harr,J3 (by omega),J3 (by omega),V6 (by omega)]
  congr 1
  omega
 have inS:∀ x∈(m9 st).toList,x∈a₀.toList:=fun x hx=>(M5.mp I.perm).mem_iff.mp hx
 have hpend:∀ M:List Keyed,M.length=na+nb->shape (((B6 st).setIfInBounds i (sa,na+nb,pw)).eraseIdxIfInBounds (i+1)).toList=aq5 0 (r1++M::r2):=fun M hM=>by
  have e:(((B6 st).setIfInBounds i (sa,na+nb,pw)).eraseIdxIfInBounds (i+1)).toList=l1++(sa,na+nb,pw)::l2:=by
   rw[Array.toList_eraseIdxIfInBounds,aY5,hp]
   subst hl1
   rw[List.set_append_right _ _ (d5 _),bB7,List.set_cons_zero,List.eraseIdx_append_of_length_le (by omega)]
   rw[show l1.length+1 - l1.length=1 by omega]
   rfl
  unfold shape
  rw[e,j9,s1,ab9,p7]
  show _++(sa,na+nb)::_=_++(0+r1.flatten.length,M.length)::aq5 (0+r1.flatten.length+M.length) r2
  rw[hM,s2,N9,hsa,hna,hnb,Nat.add_assoc]
 have fin:∀ (st':SortSt) (M:List Keyed),kindOf st'=κ->O2 st'=none->B6 st'=((B6 st).setIfInBounds i (sa,na+nb,pw)).eraseIdxIfInBounds (i+1) ->
   (m9 st').toList=r1.flatten++(M++(r2.flatten++suf))->M.Perm (R++R')->M.Pairwise (le B)->Q true st':=fun st' M k1 k2 k3 k4 k5 k6=>by
  have hM:M.length=na+nb:=by rw[k5.length_eq,o6,hna,hnb]
  refine h (r1++M::r2) st' ⟨?_,k1,k2,by rw[k3];exact hpend M hM,fun r hr=>?_,?_⟩ (by simp;omega) (by simp;omega)
  ·refine Array.Perm.trans ?_ I.perm
   rw[M5,k4,harr]
   refine List.Perm.append_left _ ?_
   rw[<- B3 R]
   exact List.Perm.append_right _ k5
  ·rcases y7.mp hr with hr | hr
   ·exact I.ok r (G4 _ hr)
   ·rcases d4.mp hr with rfl | hr
    ·exact⟨by intro e;rw[e]at hM;simp at hM;omega,k6⟩
    ·exact I.ok r (o5 _ (d3 _ (d3 _ hr)))
  ·rw[k4];simp
 have both:(∀ x∈R,∀ y∈R',le B x y)->(R++R').Pairwise (le B):=fun hxy=>A2.mpr ⟨okR.2,okR'.2,hxy⟩
 rw[aV4]
 refine j8 (aw4 ?_)
 rw[g1,g2]
 dsimp only
 refine j8 (bD1 ?_)
 obtain⟨y0,ey0⟩:∃ y0,R'[0]?=some y0:=⟨R'[0],g6 nR'⟩
 have ey:(m9 st)[sb]?=some y0:=by
  have:=atR' 0 (by omega)
  rw[aP5]at this
  rw[this,ey0]
 refine j8 (E2 ey ?_)
 have hy0:y0∈a₀.toList:=inS y0 (f9 (by rw[d7];exact ey))
 refine j8 (W7 o C (by exact I.kind) hy0 (by omega) (fun i x hi' e=>inS x (f9 (by rw[d7];exact e)))
  (fun i j x y hij hj e e'=>ad7 okR.2 o.rf hij (by rw[<- atR i (by omega)];exact e) (by rw[<- atR j hj];exact e')) (by omega) fun k hk hlt hge=>?_)
 dsimp only
 have leR:∀ (j:Nat) (x:Keyed),j<k->R[j]?=some x->le B x y0:=fun j x hj e=>by
  have q:=hlt j x hj (by rw[atR j (by omega)];exact e)
  show B y0 x=false
  simpa [byn] using q
 have gtR:∀ (j:Nat) (x:Keyed),k<=j->R[j]?=some x->B y0 x=true:=fun j x hj e=>by
  have hjl:j<R.length:=(c9.mp e).1
  have q:=hge j x hj (by omega) (by rw[atR j (by omega)];exact e)
  simpa [byn] using q
 have leY:∀ y∈R',le B y0 y:=fun y hy=>by
  obtain⟨j,hj⟩:=o7.mp hy
  exact ad7 okR'.2 o.rf (u4 j) ey0 hj
 by_cases e0:na - k=0
 ·rw[if_pos (by simpa using e0)]
  refine l9 (fin _ (R++R') I.kind I.failed rfl ?_ (List.Perm.refl _) (both fun x hx y hy=>?_))
  ·show (m9 st).toList=_
   rw[harr];simp
  ·obtain⟨j,hj⟩:=o7.mp hx
   have hjl:j<R.length:=(c9.mp hj).1
   exact o.trans (leR j x (by omega) hj) (leY y hy)
 rw[if_neg (by simpa using e0)]
 obtain⟨xl,exl⟩:∃ xl,R[na - 1]?=some xl:=⟨R[na - 1]'(by omega),g6 (by omega)⟩
 have ex:(m9 st)[sa+k+(na - k) - 1]?=some xl:=by
  rw[show sa+k+(na - k) - 1=sa+(na - 1) by omega,atR _ (by omega),exl]
 refine j8 (E2 ex ?_)
 have hxl:xl∈a₀.toList:=inS xl (f9 (by rw[d7];exact ex))
 refine j8 (W7 o C (by exact I.kind) hxl (by omega) (fun i x hi' e=>inS x (f9 (by rw[d7];exact e)))
  (fun i j x y hij hj e e'=>ad7 okR'.2 o.rf hij (by rw[<- atR' i (by omega)];exact e) (by rw[<- atR' j hj];exact e')) (by omega) fun k2 hk2 hlt2 hge2=>?_)
 dsimp only
 have ltY:∀ (j:Nat) (x:Keyed),j<k2->R'[j]?=some x->B x xl=true:=fun j x hj e=>by
  have q:=hlt2 j x hj (by rw[atR' j (by omega)];exact e)
  simpa [byn] using q
 have geY:∀ (j:Nat) (x:Keyed),k2<=j->R'[j]?=some x->le B xl x:=fun j x hj e=>by
  have hjl:j<R'.length:=(c9.mp e).1
  have q:=hge2 j x hj (by omega) (by rw[atR' j (by omega)];exact e)
  show B x xl=false
  simpa [byn] using q
 have leX:∀ x∈R,le B x xl:=fun x hx=>by
  obtain⟨j,hj⟩:=o7.mp hx
  have hjl:j<R.length:=(c9.mp hj).1
  exact ad7 okR.2 o.rf (by omega) hj exl
 by_cases e1:k2=0
 ·rw[if_pos (by simpa using e1)]
  refine l9 (fin _ (R++R') I.kind I.failed rfl ?_ (List.Perm.refl _) (both fun x hx y hy=>?_))
  ·show (m9 st).toList=_
   rw[harr];simp
  ·obtain⟨j,hj⟩:=o7.mp hy
   exact o.trans (leX x hx) (geY j y (by omega) hj)
 rw[if_neg (by simpa using e1)]
 have ex1:((m9 st).extract (sa+k) sb).toList=R.drop k:=by
  rw[ay9,harr,hsa,ab3,J6 (by omega),P3,Q6,aP6 (by omega),ab4 (by rw[F3];omega)]
  exact k9 (by rw[F3];omega)
 have ey1:((m9 st).extract sb (sb+k2)).toList=R'.take k2:=by
  rw[ay9,harr,hsb,<- B3,ab3,J6 (by rw[o6];omega),P3,o6,bB7,bd6,Q6,ab4 (by omega)]
 have sx:((m9 st).extract (sa+k) sb).size=na - k:=by rw[<- k8,ex1,F3];omega
 have sy:((m9 st).extract sb (sb+k2)).size=k2:=by rw[<- k8,ey1,q8];omega
 have pre1:∀ x y,((m9 st).extract sb (sb+k2))[0]?=some x->((m9 st).extract (sa+k) sb)[0]?=some y->B x y=true:=fun x y hx hy=>by
  rw[<- d7,ey1,W4 (by omega),ey0]at hx
  cases hx
  rw[<- d7,ex1,R8]at hy
  exact gtR (k+0) y (by omega) hy
 have pre2:∀ x∈((m9 st).extract sb (sb+k2)).toList,∀ y,((m9 st).extract (sa+k) sb)[((m9 st).extract (sa+k) sb).size - 1]?=some y->B x y=true:=fun x hx y hy=>by
  rw[<- d7,ex1,R8,sx,show k+(na - k - 1)=na - 1 by omega,exl]at hy
  cases hy
  rw[ey1]at hx
  obtain⟨j,hj⟩:=o7.mp hx
  rw[R9]at hj
  split at hj
  ·rename_i hlt'
   exact ltY j x hlt' hj
  ·cases hj
 have sS1:∀ x∈((m9 st).extract (sa+k) sb).toList,x∈a₀.toList:=fun x hx=>by
  rw[ex1]at hx
  refine inS x ?_
  rw[harr]
  exact o5 _ (G4 _ (O4 hx))
 have sS2:∀ x∈((m9 st).extract sb (sb+k2)).toList,x∈a₀.toList:=fun x hx=>by
  rw[ey1]at hx
  refine inS x ?_
  rw[harr]
  exact o5 _ (o5 _ (G4 _ (G5 hx)))
 have so1:((m9 st).extract (sa+k) sb).toList.Pairwise (le B):=by rw[ex1];exact okR.2.sublist (Z4 _ _)
 have so2:((m9 st).extract sb (sb+k2)).toList.Pairwise (le B):=by rw[ey1];exact okR'.2.sublist (L5 _ _)
 have done:∀ (r:Array Keyed) (st3:SortSt),Sm (bB3 st (((B6 st).setIfInBounds i (sa,na+nb,pw)).eraseIdxIfInBounds (i+1))) st3->Good B ((m9 st).extract (sa+k) sb) ((m9 st).extract sb (sb+k2)) r ->
   wpS (t9 prog w) A E s (do
    modify fun s=>setArr s (ac7 (fun a x=>match x with | (p,j)=>bB6 a (sa+k+j) p) (m9 s) r.toList.zipIdx)
    let __do_lift <- get
    pure (O2 __do_lift).isNone) Q st3:=fun r st3 hS hg=>by
  refine j8 (ax3 (j8 (aw4 (l9 ?_))))
  have hf:O2 st3=none:=hS.f.trans I.failed
  show Q (O2 st3).isNone _
  rw[hf]
  obtain⟨g1,g2⟩:=hg
  rw[ex1,ey1]at g2
  have hrl:r.toList.length=na - k+k2:=by rw[g2.length_eq,o6,F3,q8];omega
  refine fin _ (R.take k++(r.toList++R'.drop k2)) (hS.k.trans I.kind) hf hS.p ?_ ?_ ?_
  ·show (ac7 _ (m9 st3) (r.toList.zipIdx 0)).toList=_
   rw[hS.a]
   show (ac7 _ (m9 st) (r.toList.zipIdx 0)).toList=_
   rw[aX2 (sa+k) r.toList 0 (m9 st) (by omega),harr,aP5,hrl]
   have t1:aY6 (sa+k) (r1.flatten++(R++(R'++(r2.flatten++suf))))=r1.flatten++R.take k:=by
    rw[bZ5,k9 (by omega),show sa+k - r1.flatten.length=k by omega,ab4 (by omega)]
   have t2:List.drop (sa+k+(na - k+k2)) (r1.flatten++(R++(R'++(r2.flatten++suf))))=R'.drop k2++(r2.flatten++suf):=by
    rw[ab3,J6 (by omega),P3,ab3,J6 (by omega),P3,aP6 (by omega)]
    congr 2
    omega
   rw[t1,t2]
   simp
  ·have:(R.take k++(r.toList++R'.drop k2)).Perm (R.take k++((R.drop k++R'.take k2)++R'.drop k2)):=List.Perm.append_left _ (List.Perm.append_right _ g2)
   refine this.trans (List.Perm.of_eq ?_)
   rw[B3,B4,<- B3,B4]
  ·have inM:∀ z∈r.toList,z∈R.drop k\/z∈R'.take k2:=fun z hz=>y7.mp (g2.mem_iff.mp hz)
   have tk:∀ {l:List Keyed} {n:Nat} {x:Keyed},x∈l.take n->∃ j,j<n/\l[j]?=some x:=fun {l n x} hx=>by
    obtain⟨j,hj⟩:=o7.mp hx
    rw[R9]at hj
    split at hj
    ·rename_i hlt'
     exact⟨j,hlt',hj⟩
    ·cases hj
   refine A2.mpr ⟨okR.2.sublist (L5 _ _),A2.mpr ⟨g1,okR'.2.sublist (Z4 _ _),fun x hx y hy=>?_⟩,fun x hx y hy=>?_⟩
   ·obtain⟨j,h1,h2,h3⟩:=J2 hy
    rcases inM x hx with hx | hx
    ·exact o.trans (leX x (O4 hx)) (geY j y h1 h3)
    ·obtain⟨i',h4,h5⟩:=tk hx
     exact ad7 okR'.2 o.rf (by omega) h5 h3
   ·obtain⟨i',h4,h5⟩:=tk hx
    rcases y7.mp hy with hy | hy
    ·rcases inM y hy with hy | hy
     ·obtain⟨j,h1,h2,h3⟩:=J2 hy
      exact ad7 okR.2 o.rf (by omega) h5 h3
     ·exact o.trans (leR i' x h4 h5) (leY y (G5 hy))
    ·exact o.trans (leR i' x h4 h5) (leY y (O4 hy))
 by_cases e2:na - k<=k2
 ·rw[if_pos e2]
  exact j8 (aQ9 o C (by exact I.kind) sS1 sS2 so1 so2 (by omega) (by omega) pre1 pre2 fun r st3 hS hg=>done r st3 hS hg)
 ·rw[if_neg e2]
  exact j8 (aR0 o C (by exact I.kind) sS1 sS2 so1 so2 (by omega) (by omega) pre1 pre2 fun r st3 hS hg=>done r st3 hS hg)
theorem aU1 {runs:List (List Keyed)}{suf:List Keyed}{st:SortSt}(I:SR a₀ κ B runs suf st):(B6 st).size=runs.length:=by
 have:=congrArg am6 I.sh
 rw[ab8]at this
 unfold shape at this
 rw[b7,k8]at this
 exact this
theorem bf6:∀ (runs:List (List Keyed)),(∀ r∈runs,r≠[]/\r.Pairwise (le B))->runs.length<=runs.flatten.length
 | [],_=>d5 _
 | r::rs,h=>by
  have h1:=bf6 rs fun r hr=>h r (d3 _ hr)
  have h2:0<r.length:=ax1.mpr (h r g9).1
  rw[t4,P0,o6]
  omega
section
variable {O:aL7} {f:Keyed->O.α}
theorem bS7 {d:O.α}{xs:Array Keyed}{lo:Nat}(hs:V4 f d lo xs n)(hn:lo+n<=xs.size):((xs.toList.drop lo).take n).Pairwise (le (Bf f))/\((xs.toList.drop lo).take n).length=n:=by
 refine⟨x6.mpr fun i j hi hj hij=>?_,by rw[q8,F3,k8];omega⟩
 have hjn:j<n:=by rw[q8]at hj;omega
 have gi:∀ k,(hk:k<n)->(xs.toList.drop lo)[k]?=some (xs[lo+k]'(by omega)):=fun k hk=>by
  rw[R8,d7]
  exact getElem?_pos xs _ _
 have e1:((xs.toList.drop lo).take n)[i]=xs[lo+i]'(by omega):=by
  have:=gi i (by omega)
  rw[<- W4 (show i<n by omega),g6 hi]at this
  exact Option.some.inj this
 have e2:((xs.toList.drop lo).take n)[j]=xs[lo+j]'(by omega):=by
  have:=gi j hjn
  rw[<- W4 hjn,g6 hj]at this
  exact Option.some.inj this
 rw[e1,e2]
 have:=hs i j (as0 hij) hjn
 rw[az7 (getElem?_pos xs (lo+i) (by omega)),az7 (getElem?_pos xs (lo+j) (by omega))]at this
 exact this
theorem aR6 {lo:Nat}{xs ys:Array Keyed}(h:Pre lo xs ys)(hz:ys.size=xs.size):ys.toList.take lo=xs.toList.take lo:=by
 apply T6
 intro k
 rw[R9,R9]
 split
 ·rw[d7,d7]
  exact h k (by assumption)
 ·rfl
theorem av4 (C:bK5 prog w A E s κ a₀ f) {st:SortSt} {Q:Unit->SortSt->Prop} (d:O.α) (hp:(m9 st).Perm a₀) (hk:kindOf st=κ) (hf:O2 st=none) (hpe:B6 st=#[])
    (h:∀ st',(m9 st').Perm a₀->O2 st'=none->(m9 st').toList.Pairwise (le (Bf f))->Q () st'):wpS (t9 prog w) A E s sortRuns' Q st:=by
  have o:Ord (Bf f):=Bf.ord f
  have hsz:(m9 st).size=a₀.size:=hp.size_eq
  rw[sortRuns'_eq]
  refine j8 (aw4 ?_)
  dsimp only
  rw[hsz]
  refine j8 (X2 (F2
    (I:=fun x c st'=>∃ runs suf lo,c=(none,lo)/\SR a₀ κ (Bf f) runs suf st'/\lo=runs.flatten.length/\(x<=lo\/lo=a₀.size)/\lo<=a₀.size)
    (Q:=fun c st'=>∃ runs,c=(none,a₀.size)/\SR a₀ κ (Bf f) runs [] st') ?step ?fin
    ⟨[],(m9 st).toList,0,rfl,⟨hp,hk,hf,by rw[hpe];rfl,(fun _ hr=>nomatch hr),by simp⟩,rfl,.inl (d5 _),u4 _⟩) ?post)
  case fin =>
    rintro c st' ⟨runs,suf,lo,rfl,I,h1,h2,h3⟩
    have e:lo=a₀.size:=by omega
    have hl:=congrArg am6 I.arr
    rw[k8,I.perm.size_eq,o6]at hl
    have:suf=[]:=aP7 (by omega)
    subst this
    exact⟨runs,by rw[e],I⟩
  case step =>
    rintro x c st1 _ hx ⟨runs,suf,lo,rfl,I,h1,h2,h3⟩
    dsimp only
    by_cases hge:lo≥a₀.size
    · rw[if_pos hge]
      have e:lo=a₀.size:=by omega
      have hl:=congrArg am6 I.arr
      rw[k8,I.perm.size_eq,o6]at hl
      have:suf=[]:=aP7 (by omega)
      subst this
      exact l9 ⟨runs,by rw[e],I⟩
    rw[if_neg hge]
    refine j8 (wpS_countRun C d (p:=B6 st1) (by omega) (by omega) ⟨I.perm,I.kind,I.failed,rfl⟩ fun n st2 hB2 hp2 hn1 hn2 hs2=>?_)
    dsimp only
    have cont:∀ (n':Nat) (st3:SortSt),SI a₀ κ (B6 st1) st3->Pre lo (m9 st1) (m9 st3)->1<=n'->n'<=a₀.size - lo->V4 f d lo (m9 st3) n' ->
        ∃ run suf',SR a₀ κ (Bf f) runs (run++suf') st3/\run.length=n'/\run.Pairwise (le (Bf f)):=fun n' st3 hB3 hp3 k1 k2 hs3=>by
      obtain⟨q1,q2⟩:=bS7 hs3 (by rw[hB3.size];omega)
      refine⟨((m9 st3).toList.drop lo).take n',(m9 st3).toList.drop (lo+n'),⟨hB3.perm,hB3.kind,hB3.failed,by rw[hB3.pend];exact I.sh,I.ok,?_⟩,q2,q1⟩
      rw[<- ao8]
      refine(B4 lo (m9 st3).toList).symm.trans ?_
      congr 1
      rw[aR6 hp3 (by rw[hB3.size,I.perm.size_eq]),I.arr,h1]
      exact List.take_left
    have more:∀ (rs:List (List Keyed)) (run suf':List Keyed) (n':Nat) (st3:SortSt),SR a₀ κ (Bf f) rs (run++suf') st3->rs.flatten.length=lo->run.length=n'->run.Pairwise (le (Bf f))->1<=n'->n'<=a₀.size - lo ->
        ∃ runs suf lo',((none,lo+n'):Option Unit × Nat)=(none,lo')/\SR a₀ κ (Bf f) runs suf (bB3 st3 ((B6 st3).push (lo,n',0)))/\lo'=runs.flatten.length/\(x+1<=lo'\/lo'=a₀.size)/\lo'<=a₀.size:=fun rs run suf' n' st3 I3 e1 e2 e3 k1 k2=>by
      refine⟨rs++[run],suf',lo+n',rfl,⟨I3.perm,I3.kind,I3.failed,?_,fun r hr=>?_,?_⟩,by simp[e1,e2],by omega,by omega⟩
      · show shape ((B6 st3).push (lo,n',0)).toList=_
        rw[Y1,ab9,<- I3.sh]
        unfold shape
        rw[j9,N9,e1]
        simp[aq5,e2]
      · rcases y7.mp hr with hr | hr
        · exact I3.ok r hr
        · rw[C9.mp hr]
          exact⟨by intro z;rw[z]at e2;simp at e2;omega,e3⟩
      · show (m9 st3).toList=_
        rw[I3.arr]
        simp
    by_cases hlt:n<minRun' a₀.size a₀.size 0
    all_goals first
      | (rw [if_pos hlt]
         refine j8 (ac9 ?_)
         refine j8 (aw5 C d (by omega) (by omega) hB2 hs2 fun st3 hB3 hp3 hs3=>?_)
         simp only[T7,m8,if_false]
         obtain⟨run,suf',I3,e2,e3⟩:=cont _ st3 hB3 (hp2.trans hp3) (by omega) (by omega) hs3
         have k1:1<=min (a₀.size - lo) (minRun' a₀.size a₀.size 0):=by omega
         have k2:min (a₀.size - lo) (minRun' a₀.size a₀.size 0)<=a₀.size - lo:=by omega
         revert e2 k1 k2
         generalize min (a₀.size - lo) (minRun' a₀.size a₀.size 0)=n'
         intro e2 k1 k2)
      | (rw [if_neg hlt]
         obtain⟨run,suf',I3,e2,e3⟩:=cont n st2 hB2 hp2 hn1 hn2 hs2
         have k1:1<=n:=hn1
         have k2:n<=a₀.size - lo:=hn2
         revert e2 k1 k2
         generalize n=n'
         intro e2 k1 k2)
    all_goals
      refine j8 (aw4 ?_)
      split
      ·
        rename_i s1 n1 pw1 hback
        refine j8 (X2 (F2
          (I:=fun _ c st'=>c=(none,())/\∃ rs,SR a₀ κ (Bf f) rs (run++suf') st'/\rs.flatten.length=lo)
          (Q:=fun c st'=>c=(none,())/\∃ rs,SR a₀ κ (Bf f) rs (run++suf') st'/\rs.flatten.length=lo) ?mstep (fun _ _ q=>q) ⟨rfl,runs,I3,h1.symm⟩) ?mpost)
        case mstep =>
          rintro y c st4 _ _ ⟨rfl,rs,I4,e4⟩
          refine j8 (aw4 ?_)
          try dsimp only
          by_cases hz:(B6 st4).size > 1
          · rw[if_pos hz]
            split
            · split
              · exact l9 ⟨rfl,rs,I4,e4⟩
              · refine j8 (av5 o C I4 (by rw[<- aU1 I4];omega) fun rs' st5 I5 _ e5=>?_)
                simp only[T7,m8,if_false]
                exact l9 ⟨rfl,rs',I5,e5.trans e4⟩
            · exact l9 ⟨rfl,rs,I4,e4⟩
          · rw[if_neg hz]
            exact l9 ⟨rfl,rs,I4,e4⟩
        case mpost =>
          rintro c st4 ⟨rfl,rs,I4,e4⟩
          try dsimp only
          refine j8 (ax3 ?_)
          have I5:SR a₀ κ (Bf f) rs (run++suf') (bB3 st4 ((B6 st4).modify ((B6 st4).size - 1) fun x=>match x with | (st,len,snd)=>(st,len,power' a₀.size (2*s1+n1) (2*s1+n1+n1+n') a₀.size))):=by
            refine⟨I4.perm,I4.kind,I4.failed,?_,I4.ok,I4.arr⟩
            rw[<- I4.sh]
            show shape ((B6 st4).modify _ _).toList=_
            rw[Array.toList_modify]
            unfold shape
            apply T6
            intro k
            rw[p0,p0,List.getElem?_modify]
            cases (B6 st4).toList[k]? with
            | none=>rfl
            | some v =>
              obtain⟨v1,v2,v3⟩:=v
              simp only[Option.map_some]
              split<;>rfl
          exact j8 (ax3 (l9 (more rs run suf' n' _ I5 e4 e2 e3 k1 k2)))
      · exact j8 (ax3 (l9 (more runs run suf' n' _ I3 h1.symm e2 e3 k1 k2)))
  case post =>
    rintro c st1 ⟨runs,rfl,I⟩
    try dsimp only
    refine j8 (X2 (F2
      (I:=fun x c st'=>c=(none,())/\∃ rs,SR a₀ κ (Bf f) rs [] st'/\(rs.length+x<=a₀.size\/rs.length<=1))
      (Q:=fun c st'=>c=(none,())/\∃ rs,SR a₀ κ (Bf f) rs [] st'/\rs.length<=1) ?fstep ?ffin ⟨rfl,runs,I,.inl ?fst⟩) ?fpost)
    case fst =>
      have h1:=bf6 runs I.ok
      have hl:=congrArg am6 I.arr
      rw[k8,I.perm.size_eq,D7]at hl
      omega
    case ffin =>
      rintro c st' ⟨rfl,rs,I',q⟩
      exact⟨rfl,rs,I',by omega⟩
    case fstep =>
      rintro x c st2 _ hx ⟨rfl,rs,I2,q⟩
      refine j8 (aw4 ?_)
      try dsimp only
      have hpl:=aU1 I2
      by_cases hz:(B6 st2).size<=1
      · rw[if_pos hz]
        exact l9 ⟨rfl,rs,I2,by omega⟩
      rw[if_neg hz]
      refine j8 (av5 o C I2 ?_ fun rs' st3 I3 e3 _=>?_)
      · (repeat' split)<;>omega
      · simp only[T7,m8,if_false]
        exact l9 ⟨rfl,rs',I3,by omega⟩
    case fpost =>
      rintro c st2 ⟨rfl,rs,I2,q⟩
      refine l9 (h st2 I2.perm I2.failed ?_)
      rw[I2.arr,D7]
      match rs,I2.ok,q with
      | [],_,_=>exact List.Pairwise.nil
      | [r],ok,_=>simpa using (ok r (by simp)).2
end
end Tim
namespace Tim
open PySem PyProof.Rows PySem.W
def N5:List Int->List Int->Bool
 | [],[]=>false
 | [],_::_=>true
 | _::_,[]=>false
 | a::x,b::y=>if a=b then N5 x y else decide (a<b)
theorem aV6:∀ x,N5 x x=false
 | []=>rfl
 | a::x=>by unfold N5;rw[if_pos rfl];exact aV6 x
theorem aO1:∀ x y z,N5 x y=true->N5 y z=true->N5 x z=true
 | [],[],z,h,_=>by cases h
 | [],_::_,[],_,h=>by cases h
 | [],_::_,_::_,_,_=>rfl
 | _::_,[],z,h,_=>by cases h
 | _::_,_::_,[],_,h=>by cases h
 | a::x,b::y,c::z,h1,h2=>by
  unfold N5 at h1 h2 ⊢
  by_cases e1:a=b
  ·subst e1
   rw[if_pos rfl]at h1
   by_cases e2:a=c
   ·rw[if_pos e2]at h2 ⊢
    exact aO1 x y z h1 h2
   ·rw[if_neg e2]at h2 ⊢
    exact h2
  ·rw[if_neg e1,decide_eq_true_eq]at h1
   by_cases e2:b=c
   ·subst e2
    rw[if_neg e1,decide_eq_true_eq]
    exact h1
   ·rw[if_neg e2,decide_eq_true_eq]at h2
    rw[if_neg (by omega),decide_eq_true_eq]
    omega
theorem aD2:∀ x y,N5 x y=false->N5 y x=false->x=y
 | [],[],_,_=>rfl
 | [],_::_,h,_=>by cases h
 | _::_,[],_,h=>by cases h
 | a::x,b::y,h1,h2=>by
  unfold N5 at h1 h2
  by_cases e:a=b
  ·subst e
   rw[if_pos rfl]at h1 h2
   rw[aD2 x y h1 h2]
  ·rw[if_neg e,decide_eq_false_iff_not]at h1
   rw[if_neg (Ne.symm e),decide_eq_false_iff_not]at h2
   omega
theorem bH8 (x y z:List Int)(h:N5 x z=true):N5 x y=true\/N5 y z=true:=by
 cases e1:N5 x y with
 | true=>exact .inl rfl
 | false =>
  cases e2:N5 y x with
  | true=>exact .inr (aO1 _ _ _ e2 h)
  | false=>rw[aD2 x y e1 e2]at h;exact .inr h
def bc0:aL7:=⟨List Int,N5,aV6,aO1,bH8,aD2⟩
def IsK (prog:Program)(w:World)(h:Heap)(k:List Int)(v:Value):Prop:=∃ a,v=.ref a/\L3 (A6 prog w) h k a
theorem IsK.inj {k':List Int}(x:IsK prog w h k v)(y:IsK prog w h k' v):k=k':=by
 obtain⟨a,rfl,h1⟩:=x
 obtain⟨b,e,h2⟩:=y
 cases e
 exact h1.inj h2
open Classical in
noncomputable def W3 (prog:Program)(w:World)(h:Heap)(v:Value):List Int:=if q:∃ k,IsK prog w h k v then Classical.choose q else []
theorem V3 (x:IsK prog w h k v):W3 prog w h v=k:=by
 unfold W3
 rw[dif_pos ⟨k,x⟩]
 exact(Classical.choose_spec (⟨k,x⟩:∃ k,IsK prog w h k v)).inj x
theorem IsK.up (x:IsK prog w h k v)(hs:∀ b o,h.get? b=some o->h'.get? b=some o):IsK prog w h' k v:=by
 obtain⟨a,e,o,items,n,h2,h3⟩:=x
 exact⟨a,e,o,items,n,hs a o h2,h3⟩
theorem aJ1 {b:Bool}{Q:Bool->Shared->Prop}(hb:b=true):∀ (x y:List Int) (vs us:List Value) (i:Nat) (fin:Bool),ItemsAre (A6 prog w) x vs->ItemsAre (A6 prog w) y us->(x.length<y.length↔fin=true)->Q (N5 x y) s->KatLex prog w A b fin Q (vs.zip us) i s
 | [],[],_,_,i,fin,.nil,.nil,hf,h=>by
  have:fin=false:=by cases fin with | false=>rfl | true=>exact absurd (hf.mpr rfl) (by simp)
  subst this
  exact kat_nil h
 | [],_::_,_,_,i,fin,.nil,.cons _ _,hf,h=>by
  have:fin=true:=hf.mp (by simp)
  subst this
  exact kat_nil h
 | _::_,[],_,_,i,fin,.cons _ _,.nil,hf,h=>by
  have:fin=false:=by cases fin with | false=>rfl | true=>exact absurd (hf.mpr rfl) (by simp)
  subst this
  exact kat_nil h
 | a::x,c::y,_,_,i,fin,.cons h1 t1,.cons h2 t2,hf,h=>by
  obtain⟨t,rfl⟩:=Value.isInt_shape h1
  obtain⟨u,rfl⟩:=Value.isInt_shape h2
  rw[aF7]
  refine kat_cons (wpAny_eqBool_int ?_)
  unfold N5 at h
  by_cases e:a=c
  ·subst e
   rw[if_pos rfl]at h
   rw[show (a == a)=true by simp]
   exact kat_yes (aJ1 hb x y _ _ (i+1) fin t1 t2 (by rw[<- hf];simp) h)
  ·rw[if_neg e]at h
   rw[show (a == c)=false by simpa using e]
   refine kat_no ?_
   cases hi:(b && i == 0) with
   | true=>exact oneLt_int h
   | false=>exact kat_one _ _ (lt_int h)
theorem aV5 {x y:Value}{k':List Int}{Q:Bool->Shared->Prop}(hx:IsK prog w s.heap k x)(hy:IsK prog w s.heap k' y)(h:Q (N5 k k') s):r6 (t9 prog w) A (keyLt' (bC3 true) x y) Q E s:=by
 obtain⟨a,rfl,o,xs,n,ho,hc,hd,hi⟩:=hx
 obtain⟨b,rfl,o',ys,n',ho',hc',hd',hi'⟩:=hy
 refine kat_lt ho hd ho' hd' (aJ1 rfl k k' _ _ 0 _ hi hi' ?_ h)
 have e1:k.length=xs.size:=by have:=hi.length;simpa using this
 have e2:k'.length=ys.size:=by have:=hi'.length;simpa using this
 rw[e1,e2]
 simp
theorem aD3 {Q:SortKind->Shared->Prop}(hne:0<vs.length)(hv:∀ v∈vs,∃ i k,IsK prog w s.heap (i::k) v)(h:Q (bC3 true) s):r6 (t9 prog w) A (keyKind' vs.toArray) Q E s:=by
 have ex:∀ l:List Value,(∀ v∈l,∃ i k,IsK prog w s.heap (i::k) v)->∃ fs:List Value,KatTups s.heap l fs/\fs.length=l.length/\∀ v∈fs,∃ i t,v=.int i t:=fun l=>by
  induction l with
  | nil=>intro _;exact⟨[],KatTups.nil,rfl,(fun _ h=>nomatch h)⟩
  | cons v l ih =>
   intro hl
   obtain⟨i,k,a,rfl,o,xs,n,ho,hc,hd,hi⟩:=hl v g9
   obtain⟨fs,f1,f2,f3⟩:=ih fun v hv=>hl v (d3 _ hv)
   obtain⟨f,hf,t,rfl⟩:∃ f,xs[0]?=some f/\∃ t,f=.int i t:=by
    cases e:xs.toList with
    | nil=>rw[e]at hi;cases hi
    | cons f r =>
     rw[e]at hi
     cases hi with
     | cons h1 _ =>
      obtain⟨t,et⟩:=Value.isInt_shape h1
      exact⟨f,by rw[<- d7,e];rfl,t,et⟩
   refine⟨.int i t::fs,KatTups.cons ho hc hd hf f1,by rw[t4,f2,t4],fun v hv=>?_⟩
   rcases d4.mp hv with rfl | hv
   ·exact⟨i,t,rfl⟩
   ·exact f3 v hv
 obtain⟨fs,f1,f2,f3⟩:=ex vs hv
 refine kat_kind (T:=.type "int") f1 (by omega) (fun v hv=>?_) (by decide) ?_
 ·obtain⟨i,t,rfl⟩:=f3 v hv
  exact .now
 ·exact h
theorem bl1 {P:PySem.Fin->Shared->Prop}(ho:s.heap.get? a=some (J1 "list" vs.toArray n))(hz:vs.length<=j5)
  (hv:∀ v∈vs,∃ i k,IsK prog w s.heap (i::k) v)(hna:∀ v∈vs,v≠.ref a)
  (h:∀ out:List Value,out.Perm vs->out.Pairwise (fun x y=>N5 (W3 prog w s.heap y) (W3 prog w s.heap x)=false)->P (.done (.ret .none)) { s with heap:=an8 s.heap a vs out.toArray }) :
  r6 (t9 prog w) A (Builtin.«list.sort» ⟨[.ref a],[]⟩) P E s:=by
 rw[list_sort_plain]
 have ha:a<s.heap.objs.size:=c8 ho
 refine b9 (bP6 ho rfl ?_)
 refine b9 (af0 ho rfl ?_ (by rw[d6];exact hz) (u4 _))
 obtain⟨e1,ho1⟩:∃ e1,(s.heap.update a (Obj.mapSeq fun _=>#[])).get? a=some (J1 "list" #[] e1):=⟨_,Y3 ho (fun _=>#[])⟩
 refine b9 (bk1 ho1 rfl ?_)
 refine b9 (bp0 ?_ (by show vs.length<=_;exact hz))
 refine b9 (U7 ?_ (u4 _))
 refine F0 ?_
 generalize hH:((s.heap.update a (Obj.mapSeq fun _=>#[])).push (J1 "tuple" vs.toArray 0)).push (J1 "list" #[] 0)=h6
 have ho6:h6.get? a=some (J1 "list" #[] e1):=by rw[<- hH];exact c5 _ (c5 _ ho1)
 have keep:∀ b o,b≠a->s.heap.get? b=some o->h6.get? b=some o:=fun b o hb e=>by
  rw[<- hH]
  exact c5 _ (c5 _ ((A8 s.heap _ (Ne.symm hb)).trans e))
 have up:∀ v∈vs,∀ k,IsK prog w s.heap k v->IsK prog w h6 k v:=fun v hv' k hk=>by
  obtain⟨c,rfl,o,items,n,h2,h3⟩:=hk
  exact⟨c,rfl,o,items,n,keep c o (fun z=>hna _ hv' (by rw[z])) h2,h3⟩
 have fin:∀ st':SortSt,(m9 st').Perm (ca4 vs)->(m9 st').toList.Pairwise (le (Bf (O:=bc0) fun p=>W3 prog w s.heap p.1))->P (.done (.ret .none)) { s with heap:=an8 s.heap a vs ((m9 st').map (·.2)) }:=fun st' hp hs=>by
  have hl:(m9 st').toList.Perm (vs.zip vs):=by rw[<- pairsOf_toList];exact M5.mp hp
  have hm:((m9 st').map (·.2)).toList=(m9 st').toList.map (·.2):=bY8 ..
  have hz2:(vs.zip vs).map (·.2)=vs:=List.map_snd_zip (d5 _)
  have:=h ((m9 st').toList.map (·.2)) (by have:=hl.map (·.2);rw[hz2]at this;exact this) ?_
  ·rw[show (m9 st').map (·.2)=((m9 st').toList.map (·.2)).toArray by rw[<- hm]]
   exact this
  ·rw[P4]
   refine List.Pairwise.imp_of_mem ?_ hs
   intro x y hx hy hxy
   have ex:=(ak2 (hl.mem_iff.mp hx)).1
   have ey:=(ak2 (hl.mem_iff.mp hy)).1
   rw[<- ex,<- ey]
   exact hxy
 have out:∀ st':SortSt,(m9 st').Perm (ca4 vs)->O2 st'=none->(m9 st').toList.Pairwise (le (Bf (O:=bc0) fun p=>W3 prog w s.heap p.1)) ->
   r6 (t9 prog w) A (do
    let sorted:=(m9 st').map (·.2)
    let touched:=(<- seqEpoch a) != e1
    Builtin.List.listUpdate (.ref a) fun _=>sorted
    if let some e:=O2 st' then rule "list.sort.comparison-raised";throw e
    if touched then rule "list.sort.modified";raiseError "ValueError" "list modified during sort"
    ret .none) P E { s with heap:=h6 }:=fun st' hp hf hs=>by
  dsimp only
  refine b9 (bk1 (s:={ s with heap:=h6 }) ho6 rfl ?_)
  refine b9 (af0 (s:={ s with heap:=h6 }) ho6 rfl ?_ (u4 _) (by refine A1 (as1 ((ah8 ..).trans (hp.size_eq.trans (pairsOf_size _)))) ?_;omega))
  rw[hf]
  simp only[bne_self_eq_false,m8,if_false]
  refine i8 ?_
  have:=fin st' hp hs
  unfold an8 at this
  rw[hH]at this
  exact this
 show r6 (t9 prog w) A _ P E { s with heap:=h6 }
 dsimp only
 by_cases h2:vs.toArray.size<2
 ·rw[if_pos h2,if_pos h2]
  refine b9 (i8 ?_)
  rw[StateT.run_pure]
  refine b9 (i8 ?_)
  refine out (SortSt.mk' general' (vs.toArray.zip vs.toArray) #[] 7 none) (Array.Perm.refl _) rfl ?_
  show (ca4 vs).toList.Pairwise _
  rw[x6]
  intro i j hi hj hij
  rw[k8,pairsOf_size]at hj
  rw[d6]at h2
  omega
 ·rw[if_neg h2,if_neg h2]
  rw[d6]at h2
  refine b9 (aD3 (s:={ s with heap:=h6 }) (by omega) (fun v hv'=>?_) ?_)
  ·obtain⟨i,k,hk⟩:=hv v hv'
   exact⟨i,k,up v hv' _ hk⟩
  refine b9 (E1 (av4 (s:={ s with heap:=h6 }) (a₀:=ca4 vs) (κ:=bC3 true) (O:=bc0) (f:=fun p=>W3 prog w s.heap p.1) (st:=SortSt.mk' (bC3 true) (vs.toArray.zip vs.toArray) #[] 7 none)
   (Q:=fun _ st'=>(m9 st').Perm (ca4 vs)/\O2 st'=none/\(m9 st').toList.Pairwise (le (Bf (O:=bc0) fun p=>W3 prog w s.heap p.1))) ?_ ([]:List Int) (Array.Perm.refl _) rfl rfl rfl fun st' a1 a2 a3=>⟨a1,a2,a3⟩) ?_ fun _ _ e=>e)
  ·intro x y hx hy Q hq
   rw[pairsOf_toList]at hx hy
   obtain⟨i,k,hk⟩:=hv x.1 (ak2 hx).2
   obtain⟨j,k',hk'⟩:=hv y.1 (ak2 hy).2
   refine aV5 (s:={ s with heap:=h6 }) (up _ (ak2 hx).2 _ hk) (up _ (ak2 hy).2 _ hk') ?_
   rw[<- V3 hk,<- V3 hk']
   exact hq
  ·rintro⟨⟨⟩,st'⟩ s' ⟨rfl,hp,hf,hs⟩
   exact out st' hp hf hs
theorem aG8 {l:Addr} (hl:s.heap.IsList l vs.toArray) (hz:vs.length<=j5) (hv:∀ v∈vs,∃ i k,IsK prog w s.heap (i::k) v)
  (h : ∀ (out : List Value) (h' : Heap) (n : Nat), out.Perm vs -> out.Pairwise (fun x y => N5 (W3 prog w s.heap y) (W3 prog w s.heap x) = false) -> (∀ b o, s.heap.get? b = some o -> h'.get? b = some o) ->
   h'.get? (s.heap.objs.size+1)=some { cls:=.type "list",data:=.seq out.toArray n }->Q (.ref (s.heap.objs.size+1)) { s with heap:=h' }) :
  r6 (t9 prog w) A (call (.builtin "sorted") [.ref l]) Q E s:=by
 refine Calls.call_function_entry ca5 bP7 bP8 (args_sorted1 _) ?_
 unfold Builtin.«sorted»
 refine b9 (m:=checkCount "sorted" 1 1 _) (i8 ?_)
 refine b9 (collect_list hl ?_ hz)
 refine b9 (U7 ?_ hz)
 have hsz:((s.heap.push (J1 "list" #[] 0)).update s.heap.objs.size (Obj.mapSeq (·++vs.toArray))).objs.size=s.heap.objs.size+1:=by
  rw[bZ6,bB4]
 generalize hH:((s.heap.push (J1 "list" #[] 0)).update s.heap.objs.size (Obj.mapSeq (·++vs.toArray))).push (J1 "list" vs.toArray 0)=h2
 have hoL:h2.get? (s.heap.objs.size+1)=some (J1 "list" vs.toArray 0):=by
  rw[<- hH,<- hsz];exact j0 _ rfl
 have keep:∀ b o,s.heap.get? b=some o->h2.get? b=some o:=fun b o e=>by
  rw[<- hH]
  refine c5 _ ((A8 _ _ ?_).trans (c5 _ e))
  exact Ne.symm (k7 (c8 e))
 have hsz2:h2.objs.size=s.heap.objs.size+2:=by rw[<- hH,bB4,hsz]
 rw[hsz]
 have up:∀ v k,IsK prog w s.heap k v->IsK prog w h2 k v:=fun v k hk=>hk.up keep
 have kA:∀ v∈vs,W3 prog w h2 v=W3 prog w s.heap v:=fun v hv'=>by
  obtain⟨i,k,hk⟩:=hv v hv'
  rw[V3 hk,V3 (up v _ hk)]
 refine b9 (F0 (ac8 bp1 (s:={ s with heap:=h2 }) ⟨_,hoL,rfl⟩ bk2 (bl1 (s:={ s with heap:=h2 }) hoL hz (fun v hv'=>?_) (fun v hv' z=>?_) fun out a1 a2=>⟨_,rfl,?_⟩) (args_list_sort _)))
 ·obtain⟨i,k,hk⟩:=hv v hv'
  exact⟨i,k,up v _ hk⟩
 ·obtain⟨i,k,a,rfl,o,items,n,ho,_⟩:=hv v hv'
  cases z
  exact absurd (c8 ho) (Nat.not_lt.mpr (Z7 _))
 ·have hlast:∃ n,(an8 h2 (s.heap.objs.size+1) vs out.toArray).get? (s.heap.objs.size+1)=some (J1 "list" out.toArray n):=by
   unfold an8
   have g1:=Y3 hoL (fun _=>(#[]:Array Value))
   have g2:(((h2.update (s.heap.objs.size+1) (Obj.mapSeq fun _=>#[])).push (J1 "tuple" vs.toArray 0)).push (J1 "list" #[] 0)).get? (s.heap.objs.size+1)=_:=c5 _ (c5 _ g1)
   exact⟨_,Y3 g2 (fun _=>out.toArray)⟩
  obtain⟨n,hn⟩:=hlast
  refine i8 ⟨_,rfl,h out _ n a1 ?_ (fun b o e=>?_) hn⟩
  ·refine List.Pairwise.imp_of_mem ?_ a2
   intro x y hx hy hxy
   rw[kA x (a1.mem_iff.mp hx),kA y (a1.mem_iff.mp hy)]at hxy
   exact hxy
  ·have hb:b≠s.heap.objs.size+1:=k7 (A4 (c8 e))
   unfold an8
   refine(A8 _ _ (Ne.symm hb)).trans (c5 _ (c5 _ ((A8 _ _ (Ne.symm hb)).trans (keep b o e))))
end Tim
namespace Sett
open PySem PySem.SetTable
theorem aO6 {P:Nat->Prop}(h:∃ n,P n):∃ n,P n/\∀ m,m<n->¬ P m:=by
 obtain⟨n,hn⟩:=h
 induction n using Nat.strongRecOn with
 | ind n ih =>
  by_cases q:∃ m,m<n/\P m
  ·obtain⟨m,hm,pm⟩:=q
   exact ih m hm pm
  ·exact⟨n,hn,fun m hm pm=>q ⟨m,hm,pm⟩⟩
def st (m i pt:Nat):Probe:={ j:=i,more:=runEnd m i - i,i:=i,perturb:=pt,dummy:=none }
def it (t:SetTable):Nat->Probe->Probe
 | 0,p=>p
 | n+1,p=>it t n (t.advance p)
theorem aO4 (t:SetTable):∀ (a b:Nat) (p:Probe),it t (a+b) p=it t b (it t a p)
 | 0,b,p=>by rw[N9];rfl
 | a+1,b,p=>by
  rw[show a+1+b=(a+b)+1 by omega]
  exact aO4 t a b (t.advance p)
theorem al6 (t:SetTable)(n:Nat)(p:Probe):it t (n+1) p=t.advance (it t n p):=aO4 t n 1 p
theorem at5 (m i:Nat):i<=runEnd m i/\runEnd m i<=i+9:=by unfold runEnd;split<;>omega
theorem aT3 {m:Nat}(h:i<=m):runEnd m i<=m:=by unfold runEnd;split<;>omega
theorem aO2 (t:SetTable)(i pt:Nat):∀ k,k<=runEnd t.mask i - i->it t k (st t.mask i pt)={ j:=i+k,more:=runEnd t.mask i - i - k,i:=i,perturb:=pt,dummy:=none }
 | 0,_=>rfl
 | k+1,h=>by
  rw[al6,aO2 t i pt k (by omega)]
  unfold advance
  dsimp only
  rw[if_pos (by omega)]
  simp only[Probe.mk.injEq,and_true,true_and]
  omega
theorem aO3 (t:SetTable)(i pt:Nat):it t (runEnd t.mask i - i+1) (st t.mask i pt)=st t.mask (leap t.mask i pt).1 (leap t.mask i pt).2:=by
 rw[al6,aO2 t i pt _ (d5 _)]
 unfold advance
 dsimp only
 rw[if_neg (by omega)]
 rfl
def rn (m i pt:Nat):Nat->Nat × Nat
 | 0=>(i,pt)
 | r+1=>leap m (rn m i pt r).1 (rn m i pt r).2
theorem bN4 (m i pt:Nat):∀ r,(rn m i pt r).2=pt / 32 ^ r
 | 0=>by simp[rn]
 | r+1=>by
  show (rn m i pt r).2 / 32=_
  rw[bN4 m i pt r,bB1,Nat.pow_succ]
theorem bN5 (m i pt:Nat)(h:i<=m):∀ r,(rn m i pt r).1<=m
 | 0=>h
 | r+1=>am0 (bZ7 _ (ai8 m))
theorem bO2 (t:SetTable)(i pt:Nat):∀ r,∃ n,n<=10*r/\it t n (st t.mask i pt)=st t.mask (rn t.mask i pt r).1 (rn t.mask i pt r).2
 | 0=>⟨0,d5 _,rfl⟩
 | r+1=>by
  obtain⟨n,hn,e⟩:=bO2 t i pt r
  have h9:=at5 t.mask (rn t.mask i pt r).1
  refine⟨n+(runEnd t.mask (rn t.mask i pt r).1 - (rn t.mask i pt r).1+1),by omega,?_⟩
  rw[aO4,e,aO3]
  rfl
def f5 (m i:Nat):Nat:=(i*5+1) % (m+1)
def orb (m:Nat):Nat->Nat->List Nat
 | 0,_=>[]
 | k+1,i=>i::orb m k (f5 m i)
def Full (m:Nat):Prop:=∀ b,b<=m->∀ a,a<=m->∃ n,n<=m/\Nat.repeat (f5 m) n a=b
def chk (m:Nat):Bool:=(orb m (m+1) 0).foldl (fun acc i=>acc ||| 2 ^ i) 0 == 2 ^ (m+1) - 1
theorem aY1:∀ (l:List Nat) (acc b:Nat),(l.foldl (fun acc i=>acc ||| 2 ^ i) acc).testBit b=true->acc.testBit b=true\/b∈l
 | [],acc,b,h=>.inl h
 | i::l,acc,b,h=>by
  rcases aY1 l _ b h with q | q
  ·rw[Nat.testBit_or,Bool.or_eq_true]at q
   rcases q with q | q
   ·exact .inl q
   ·rw[bO9]at q
    exact .inr (by rw[of_decide_eq_true q];exact g9)
  ·exact .inr (d3 _ q)
theorem aq2 (f:Nat->Nat)(a:Nat):∀ n k,Nat.repeat f (n+k) a=Nat.repeat f k (Nat.repeat f n a)
 | n,0=>rfl
 | n,k+1=>by
  show f (Nat.repeat f (n+k) a)=f (Nat.repeat f k (Nat.repeat f n a))
  rw[aq2 f a n k]
theorem bg8 (m:Nat):∀ k i x,x∈orb m k i->∃ n,n<k/\Nat.repeat (f5 m) n i=x
 | 0,i,x,h=>by cases h
 | k+1,i,x,h=>by
  rcases d4.mp h with rfl | h
  ·exact⟨0,ai8 _,rfl⟩
  ·obtain⟨n,hn,e⟩:=bg8 m k (f5 m i) x h
   refine⟨n+1,by omega,?_⟩
   rw[Nat.add_comm n 1,aq2]
   exact e
theorem ay7 {m:Nat}(hc:chk m=true)(hz:Nat.repeat (f5 m) (m+1) 0=0):Full m:=by
 intro b hb a ha
 unfold chk at hc
 have hc:=eq_of_beq hc
 have get:∀ x,x<=m->∃ n,n<m+1/\Nat.repeat (f5 m) n 0=x:=fun x hx=>by
  have hb:(2 ^ (m+1) - 1).testBit x=true:=by rw[Nat.testBit_two_pow_sub_one];exact decide_eq_true (by omega)
  rw[<- hc]at hb
  rcases aY1 _ _ _ hb with q | q
  ·simp at q
  ·exact bg8 m (m+1) 0 x q
 obtain⟨p,hp,ep⟩:=get a ha
 obtain⟨q,hq,eq⟩:=get b hb
 by_cases h:p<=q
 ·refine⟨q - p,by omega,?_⟩
  rw[<- ep,<- aq2,show p+(q - p)=q by omega,eq]
 ·refine⟨m+1 - p+q,by omega,?_⟩
  rw[<- ep,<- aq2,show p+(m+1 - p+q)=(m+1)+q by omega,aq2,hz,eq]
def Good (m:Nat):Prop:=m=7\/m=31\/m=127\/m=511
set_option maxRecDepth 100000 in
theorem Good.full {m:Nat}(h:Good m):Full m:=by
 rcases h with rfl | rfl | rfl | rfl
 ·exact ay7 (by decide +kernel) (by decide +kernel)
 ·exact ay7 (by decide +kernel) (by decide +kernel)
 ·exact ay7 (by decide +kernel) (by decide +kernel)
 ·exact ay7 (by decide +kernel) (by decide +kernel)
theorem bf7 (m i pt:Nat)(hp:pt<2 ^ 64):∀ k,(rn m i pt (13+k)).1=Nat.repeat (f5 m) k (rn m i pt 13).1
 | 0=>rfl
 | k+1=>by
  show (leap m (rn m i pt (13+k)).1 (rn m i pt (13+k)).2).1=f5 m (Nat.repeat (f5 m) k (rn m i pt 13).1)
  rw[<- bf7 m i pt hp k]
  unfold leap f5
  have:(rn m i pt (13+k)).2 / 32=0:=by
   rw[bN4,Nat.pow_add,<- bB1]
   have:pt / 32 ^ 13=0:=Nat.div_eq_of_lt (Nat.lt_trans hp (by decide))
   rw[this]
   simp
  dsimp only
  rw[this,aP5]
theorem bf8 {m pt b:Nat}(g:Good m)(hi:i<=m)(hp:pt<2 ^ 64)(hb:b<=m):∃ r,r<turns m/\(rn m i pt r).1=b:=by
 obtain⟨n,hn,e⟩:=g.full b hb (rn m i pt 13).1 (bN5 m i pt hi 13)
 exact⟨13+n,by unfold turns;omega,by rw[bf7 m i pt hp];exact e⟩
theorem bI5 (t:SetTable){pt b:Nat}(g:Good t.mask)(hi:i<=t.mask)(hp:pt<2 ^ 64)(hb:b<=t.mask):∃ n,n<10*turns t.mask/\(it t n (st t.mask i pt)).j=b:=by
 obtain⟨r,hr,e⟩:=bf8 g hi hp hb
 obtain⟨n,hn,e'⟩:=bO2 t i pt r
 refine⟨n,by omega,?_⟩
 rw[e']
 exact e
theorem aW5 (t:SetTable):∀ (n:Nat) (p:Probe),(it t n p).dummy=p.dummy
 | 0,p=>rfl
 | n+1,p=>by
  show (it t n (t.advance p)).dummy=_
  rw[aW5 t n]
  unfold advance
  split<;>rfl
theorem bi9 (h:Int):bits h<2 ^ 64:=by
 unfold bits
 have h1:=M0 h (show (2 ^ 64:Int)≠0 by decide)
 have h2:=G6 h (show (0:Int)<2 ^ 64 by decide)
 omega
theorem aj2 (t:SetTable)(h:Int):t.probeStart h=st t.mask (bits h % (t.mask+1)) (bits h):=rfl
theorem ay5 {t':SetTable}(h:t'.mask=t.mask):∀ (n:Nat) (p:Probe),it t' n p=it t n p
 | 0,p=>rfl
 | n+1,p=>by
  show it t' n (t'.advance p)=it t n (t.advance p)
  have:t'.advance p=t.advance p:=by unfold advance;rw[h]
  rw[this,ay5 h n]
def Asc (xs:Array Nat):Prop:=∀ (i j a b:Nat),i<j->xs[i]?=some a->xs[j]?=some b->a<b
theorem aE8 {xs:Array Nat}(asc:Asc xs)(j:Nat):∀ (fuel lo hi:Nat),hi - lo<=fuel->lo<=hi->hi<=xs.size->(∀ i a,i<lo->xs[i]?=some a->a<j)->(∀ i a,hi<=i->xs[i]?=some a->j<=a) ->
  (below.go xs j fuel lo hi)<=xs.size/\(∀ i a,i<below.go xs j fuel lo hi->xs[i]?=some a->a<j)/\(∀ i a,below.go xs j fuel lo hi<=i->xs[i]?=some a->j<=a)
 | 0,lo,hi,h0,h1,h2,h3,h4=>by
  have:lo=hi:=by omega
  subst this
  exact⟨h2,h3,h4⟩
 | fuel+1,lo,hi,h0,h1,h2,h3,h4=>by
  unfold below.go
  by_cases hlt:lo<hi
  ·rw[if_pos hlt]
   dsimp only
   have hm:(lo+hi) / 2<xs.size:=by omega
   have hg:xs.getD ((lo+hi) / 2) j=xs[(lo+hi) / 2]:=by simp[bP0,hm]
   have hq:xs[(lo+hi) / 2]?=some xs[(lo+hi) / 2]:=getElem?_pos xs _ hm
   by_cases hc:xs.getD ((lo+hi) / 2) j<j
   ·rw[if_pos hc]
    refine aE8 asc j fuel _ hi (by omega) (by omega) h2 (fun i a hi' e=>?_) h4
    rw[hg]at hc
    by_cases he:i=(lo+hi) / 2
    ·subst he;rw[hq]at e;cases e;exact hc
    ·have:=asc i _ a _ (by omega) e hq
     omega
   ·rw[if_neg hc]
    refine aE8 asc j fuel lo _ (by omega) (by omega) (by omega) h3 (fun i a hi' e=>?_)
    rw[hg]at hc
    by_cases he:i=(lo+hi) / 2
    ·subst he;rw[hq]at e;cases e;omega
    ·have:=asc _ i _ a (by omega) hq e
     omega
  ·rw[if_neg hlt]
   have:lo=hi:=by omega
   subst this
   exact⟨h2,h3,h4⟩
theorem aE7 {xs:Array Nat}(asc:Asc xs)(j:Nat):below xs j<=xs.size/\(∀ i a,i<below xs j->xs[i]?=some a->a<j)/\(∀ i a,below xs j<=i->xs[i]?=some a->j<=a):=
 aE8 asc j xs.size 0 xs.size (by omega) (by omega) (d5 _) (fun i a h=>by omega) fun i a h e=>by
  have:=(getElem?_eq_some_iff.mp e).1
  omega
theorem below_at {xs:Array Nat}(asc:Asc xs)(h:xs[i]?=some j):below xs j=i:=by
 obtain⟨h1,h2,h3⟩:=aE7 asc j
 rcases Z8 (below xs j) i with q | q | q
 ·exfalso
  have hlt:below xs j<xs.size:=Nat.lt_trans q (getElem?_eq_some_iff.mp h).1
  have e:=getElem?_pos xs (below xs j) hlt
  have a1:=h3 (below xs j) _ (d5 _) e
  have a2:=asc _ _ _ _ q e h
  omega
 ·exact q
 ·have:=h2 i j q h
  omega
theorem as6 (asc:Asc t.place)(h:t.place[i]?=some j):t.slot j=.live i:=by
 unfold slot
 dsimp only
 rw[below_at asc h,h]
 simp
theorem ba5 (hd:t.dummies=#[])(h:∀ i:Nat,t.place[i]?≠some j):t.slot j=.empty:=by
 unfold slot
 dsimp only
 rw[if_neg (by simpa using h _),if_neg (by rw[hd];simp[has])]
theorem aW8 {hashAt:Nat->Int}{h:Int}:∀ (n fuel:Nat) (p:Probe),n<fuel->(∀ k,k<n->∃ i,t.slot (it t k p).j=.live i/\hashAt i≠h)->t.slot (it t n p).j=.empty ->
  probe.go t hashAt h fuel p=some (.empty (it t n p).j (it t n p).dummy)
 | 0,fuel+1,p,_,_,he=>by
  unfold probe.go
  have he':t.slot p.j=.empty:=he
  rw[he']
  rfl
 | n+1,fuel+1,p,hl,hk,he=>by
  obtain⟨i,e,hne⟩:=hk 0 (ai8 _)
  have e':t.slot p.j=.live i:=e
  unfold probe.go
  rw[e']
  dsimp only
  rw[if_neg (by simpa using hne)]
  exact aW8 n fuel (t.advance p) (by omega) (fun k hk'=>hk (k+1) (by omega)) he
theorem bh8 {hashAt:Nat->Int}{h:Int}:∀ (n fuel:Nat) (p:Probe),n<fuel->(∀ k,k<n->∃ i,t.slot (it t k p).j=.live i/\hashAt i≠h)->t.slot (it t n p).j=.live i->hashAt i=h ->
  ∃ q,probe.go t hashAt h fuel p=some (.candidate (it t n p).j i q)
 | 0,fuel+1,p,_,_,he,hh=>by
  unfold probe.go
  have he':t.slot p.j=.live i:=he
  rw[he']
  dsimp only
  rw[if_pos (by simpa using hh)]
  exact⟨_,rfl⟩
 | n+1,fuel+1,p,hl,hk,he,hh=>by
  obtain⟨i',e,hne⟩:=hk 0 (ai8 _)
  have e':t.slot p.j=.live i':=e
  unfold probe.go
  rw[e']
  dsimp only
  rw[if_neg (by simpa using hne)]
  exact bh8 n fuel (t.advance p) (by omega) (fun k hk'=>hk (k+1) (by omega)) he hh
abbrev En:=Int × Value
structure Tb (t:SetTable) (es:Array En):Prop where
 dum:t.dummies=#[]
 len:t.place.size=es.size
 asc:Asc t.place
 bnd:∀ (i j:Nat),t.place[i]?=some j->j<=t.mask
 good:Good t.mask
 nf:es.size*5<t.mask*3
 path:∀ (i:Nat) (e:En),es[i]?=some e->∃ n,n<10*turns t.mask/\t.place[i]?=some (it t n (t.probeStart e.1)).j/\∀ k,k<n->∃ i':Nat,t.place[i']?=some (it t k (t.probeStart e.1)).j
theorem bz7 {xs:Array Nat}(asc:Asc xs):∀ (i a:Nat),xs[i]?=some a->i<=a
 | 0,a,_=>u4 _
 | i+1,a,h=>by
  have hi:i+1<xs.size:=(getElem?_eq_some_iff.mp h).1
  have e:=getElem?_pos xs i (by omega)
  have h1:=bz7 asc i _ e
  have h2:=asc i (i+1) _ a (by omega) e h
  omega
theorem bn1 {xs:Array Nat}(asc:Asc xs){m:Nat}(h:xs.size<=m):∃ b,b<=m/\∀ i:Nat,xs[i]?≠some b:=by
 by_cases q:∃ i,i<xs.size/\xs[i]?≠some i
 ·obtain⟨i,⟨hi,hne⟩,hmin⟩:=aO6 q
  refine⟨i,by omega,fun k e=>?_⟩
  have hk:=bz7 asc k i e
  rcases K7 hk with hlt | rfl
  ·have ek:xs[k]?=some k:=Classical.byContradiction fun z=>hmin k hlt ⟨by omega,z⟩
   rw[ek]at e
   cases e
   omega
  ·exact hne e
 ·refine⟨xs.size,h,fun k e=>?_⟩
  have hk:k<xs.size:=(getElem?_eq_some_iff.mp e).1
  have ek:xs[k]?=some k:=Classical.byContradiction fun z=>q ⟨k,hk,z⟩
  rw[ek]at e
  cases e
  omega
theorem Tb.small {es:Array En}(T:Tb t es):es.size<=t.mask:=by
 have:=T.nf
 omega
theorem Tb.fits {es:Array En}(T:Tb t es):t.fits es.size=true:=by
 unfold SetTable.fits fill
 rw[T.dum,T.len]
 have:=T.small
 simp
 exact this
theorem Tb.odd {es:Array En}(T:Tb t es):t.gaveWay=false:=by
 unfold gaveWay
 rcases T.good with e | e | e | e<;>rw[e]<;>rfl
def hashOf (es:Array En)(i:Nat):Int:=(es[i]?.map (·.1)).getD 0
theorem ac1 {es:Array En}{e:En}(h:es[i]?=some e):hashOf es i=e.1:=by unfold hashOf;rw[h];rfl
theorem aj1 (t:SetTable)(h:Int):bits h % (t.mask+1)<=t.mask:=am0 (bZ7 _ (ai8 _))
theorem Tb.absent {es:Array En}(T:Tb t es){h:Int}(hh:∀ e∈es.toList,e.1≠h):∃ n,n<10*turns t.mask/\(∀ i:Nat,t.place[i]?≠some (it t n (t.probeStart h)).j)/\(it t n (t.probeStart h)).j<=t.mask /\
  (∀ k,k<n->∃ i':Nat,t.place[i']?=some (it t k (t.probeStart h)).j)/\t.probe (hashOf es) h (t.probeStart h)=some (.empty (it t n (t.probeStart h)).j none):=by
 obtain⟨b,hb,hfree⟩:=bn1 T.asc (m:=t.mask) (by rw[T.len];exact T.small)
 obtain⟨n0,hn0,e0⟩:=bI5 t T.good (aj1 t h) (bi9 h) hb
 rw[<- aj2]at e0
 obtain⟨n,⟨hfr,hn,hle⟩,hmin⟩:=aO6 (P:=fun n=>(∀ i:Nat,t.place[i]?≠some (it t n (t.probeStart h)).j)/\n<=n0/\(it t n (t.probeStart h)).j<=t.mask) ⟨n0,by rw[e0];exact hfree,d5 _,by rw[e0];exact hb⟩
 have hocc:∀ k,k<n->∃ i':Nat,t.place[i']?=some (it t k (t.probeStart h)).j:=fun k hk=>Classical.byContradiction fun z=>by
  have hk':∀ i:Nat,t.place[i]?≠some (it t k (t.probeStart h)).j:=fun i e=>z ⟨i,e⟩
  by_cases hkm:(it t k (t.probeStart h)).j<=t.mask
  ·exact hmin k hk ⟨hk',by omega,hkm⟩
  ·-- every place on the way is a slot
   exact hkm (by
    clear z hk' hkm hmin hfr hle hn hk
    rw[aj2]
    induction k with
    | zero=>exact aj1 t h
    | succ k ih =>
     have key:∀ k,∃ r c,c<=runEnd t.mask (rn t.mask (bits h % (t.mask+1)) (bits h) r).1 - (rn t.mask (bits h % (t.mask+1)) (bits h) r).1 /\
       it t k (st t.mask (bits h % (t.mask+1)) (bits h))=it t c (st t.mask (rn t.mask (bits h % (t.mask+1)) (bits h) r).1 (rn t.mask (bits h % (t.mask+1)) (bits h) r).2):=fun k=>by
      induction k with
      | zero=>exact⟨0,0,u4 _,rfl⟩
      | succ k ih =>
       obtain⟨r,c,hc,e⟩:=ih
       rcases K7 hc with hlt | heq
       ·exact⟨r,c+1,hlt,by rw[al6,e,<- al6]⟩
       ·refine⟨r+1,0,u4 _,?_⟩
        rw[al6,e,<- al6,heq,aO3]
        rfl
     obtain⟨r,c,hc,e⟩:=key (k+1)
     rw[e,aO2 t _ _ c hc]
     have h1:=bN5 t.mask (bits h % (t.mask+1)) (bits h) (aj1 t h) r
     have h2:=aT3 h1
     have h3:=at5 t.mask (rn t.mask (bits h % (t.mask+1)) (bits h) r).1
     show (rn t.mask (bits h % (t.mask+1)) (bits h) r).1+c<=t.mask
     omega)
 refine⟨n,by omega,hfr,hle,hocc,?_⟩
 unfold probe
 have:=aW8 (hashAt:=hashOf es) (h:=h) n (10*turns t.mask) (t.probeStart h) (by omega) (fun k hk=>?_) (ba5 T.dum hfr)
 ·rw[this,aW5]
  rfl
 ·obtain⟨i',e⟩:=hocc k hk
  refine⟨i',as6 T.asc e,?_⟩
  have hi:i'<es.size:=by rw[<- T.len];exact(getElem?_eq_some_iff.mp e).1
  have e2:=getElem?_pos es i' hi
  rw[ac1 e2]
  exact hh _ (by simp)
theorem Tb.present {es:Array En}(T:Tb t es){e:En}(he:es[i]?=some e)(hu:∀ (k:Nat) (e':En),es[k]?=some e'->e'.1=e.1->k=i):∃ j q,t.probe (hashOf es) e.1 (t.probeStart e.1)=some (.candidate j i q):=by
 obtain⟨n,hn,hp,hocc⟩:=T.path i e he
 unfold probe
 obtain⟨m,⟨hm,i1,hi1,hs1⟩,hmin⟩:=aO6 (P:=fun m=>m<=n/\∃ i1:Nat,t.place[i1]?=some (it t m (t.probeStart e.1)).j/\hashOf es i1=e.1) ⟨n,d5 _,i,hp,ac1 he⟩
 have hi2:i1<es.size:=by rw[<- T.len];exact(getElem?_eq_some_iff.mp hi1).1
 have e2:=getElem?_pos es i1 hi2
 rw[ac1 e2]at hs1
 have hii:i1=i:=hu i1 _ e2 hs1
 subst hii
 obtain⟨q,hq⟩:=bh8 (hashAt:=hashOf es) (h:=e.1) (i:=i1) m (10*turns t.mask) (t.probeStart e.1) (by omega) (fun k hk=>by
  obtain⟨i',e3⟩:=hocc k (by omega)
  exact⟨i',as6 T.asc e3,fun z=>hmin k hk ⟨by omega,i',e3,z⟩⟩) (as6 T.asc hi1) (ac1 he)
 exact⟨_,q,hq⟩
theorem get_ins {α:Type}{xs:Array α}{x:α}(hp:p<=xs.size)(i:Nat):(insertAt xs p x)[i]?=if i<p then xs[i]? else if i=p then some x else xs[i - 1]?:=by
 unfold insertAt
 have e0:((xs.extract 0 p).push x).size=p+1:=by rw[A5,G0];omega
 by_cases h1:i<p
 ·rw[if_pos h1,aY7 (by omega),Array.getElem?_push_lt (by rw[G0];omega)]
  rw[Array.getElem_extract]
  simp only[N9]
  exact(getElem?_pos xs i (by omega)).symm
 ·rw[if_neg h1]
  by_cases h2:i=p
  ·subst h2
   rw[if_pos rfl,aY7 (by omega)]
   have e1:(xs.extract 0 i).size=i:=by rw[G0];omega
   rw[Array.getElem?_push,e1,if_pos rfl]
  ·rw[if_neg h2,Array.getElem?_append_right (by omega),e0,Array.getElem?_extract]
   split
   ·congr 1;omega
   ·rw[getElem?_neg]
    omega
theorem ap9 {α:Type}{xs:Array α}{x:α}(hp:p<=xs.size):(insertAt xs p x).size=xs.size+1:=by
 unfold insertAt
 rw[J7,A5,G0,G0]
 omega
theorem bH7 {α:Type}{xs:Array α}{x:α}(hp:p<=xs.size)(y:α):y∈(insertAt xs p x).toList↔y=x\/y∈xs.toList:=by
 constructor
 ·intro h
  obtain⟨i,hi⟩:=o7.mp h
  rw[d7,get_ins hp]at hi
  split at hi
  ·exact .inr (f9 (by rw[d7];exact hi))
  ·split at hi
   ·cases hi;exact .inl rfl
   ·exact .inr (f9 (by rw[d7];exact hi))
 ·rintro(rfl | h)
  ·exact f9 (i:=p) (by rw[d7,get_ins hp,if_neg (A9 _),if_pos rfl])
  ·obtain⟨i,hi⟩:=o7.mp h
   rw[d7]at hi
   have hi':i<xs.size:=(getElem?_eq_some_iff.mp hi).1
   by_cases q:i<p
   ·exact f9 (i:=i) (by rw[d7,get_ins hp,if_pos q];exact hi)
   ·exact f9 (i:=i+1) (by rw[d7,get_ins hp,if_neg (by omega),if_neg (by omega)];simpa using hi)
structure Tb' (t:SetTable) (es:Array En):Prop where
 dum:t.dummies=#[]
 len:t.place.size=es.size
 asc:Asc t.place
 bnd:∀ (i j:Nat),t.place[i]?=some j->j<=t.mask
 good:Good t.mask
 fil:es.size<=t.mask
 path:∀ (i:Nat) (e:En),es[i]?=some e->∃ n,n<10*turns t.mask/\t.place[i]?=some (it t n (t.probeStart e.1)).j/\∀ k,k<n->∃ i':Nat,t.place[i']?=some (it t k (t.probeStart e.1)).j
theorem Tb'.full {es:Array En}(T:Tb' t es)(h:es.size*5<t.mask*3):Tb t es:=⟨T.dum,T.len,T.asc,T.bnd,T.good,h,T.path⟩
theorem Tb'.fits {es:Array En}(T:Tb' t es):t.fits es.size=true:=by
 unfold SetTable.fits fill
 rw[T.dum,T.len]
 have:=T.fil
 simp
 exact this
theorem Tb'.plain {es:Array En}(T:Tb' t es)(b:Bool):Tb' { t with plain:=b } es:=by
 have e:∀ n (p:Probe),it { t with plain:=b } n p=it t n p:=fun n p=>ay5 (t:=t) (t':={ t with plain:=b }) rfl n p
 refine⟨T.dum,T.len,T.asc,T.bnd,T.good,T.fil,fun i x hx=>?_⟩
 obtain⟨n,h1,h2,h3⟩:=T.path i x hx
 exact⟨n,h1,by rw[e];exact h2,fun k hk=>by rw[e];exact h3 k hk⟩
theorem Tb.put {es:Array En}(T:Tb t es){h:Int}{x:Value}(hn:n<10*turns t.mask)(hfr:∀ i:Nat,t.place[i]?≠some (it t n (t.probeStart h)).j)(hle:(it t n (t.probeStart h)).j<=t.mask)
  (hocc:∀ k,k<n->∃ i':Nat,t.place[i']?=some (it t k (t.probeStart h)).j) :
  (t.put (it t n (t.probeStart h)).j).2<=es.size/\Tb' (t.put (it t n (t.probeStart h)).j).1 (insertAt es (t.put (it t n (t.probeStart h)).j).2 (h,x)):=by
 generalize hj:(it t n (t.probeStart h)).j=j at *
 obtain⟨b1,b2,b3⟩:=aE7 T.asc j
 have hp:(t.put j).2=below t.place j:=rfl
 have hd:has t.dummies j=false:=by rw[T.dum];simp[has]
 have ht:(t.put j).1={ t with place:=insertAt t.place (below t.place j) j }:=by
  unfold SetTable.put
  dsimp only
  rw[if_neg (by rw[hd];exact j7)]
 have hm:(t.put j).1.mask=t.mask:=by rw[ht]
 have hpl:(t.put j).1.place=insertAt t.place (below t.place j) j:=by rw[ht]
 have hsz:=T.nf
 have old:∀ (i a:Nat),t.place[i]?=some a->∃ i':Nat,(insertAt t.place (below t.place j) j)[i']?=some a:=fun i a e=>by
  by_cases q:i<below t.place j
  ·exact⟨i,by rw[get_ins b1,if_pos q];exact e⟩
  ·exact⟨i+1,by rw[get_ins b1,if_neg (by omega),if_neg (by omega)];simpa using e⟩
 have hit:∀ k (p:Probe),it (t.put j).1 k p=it t k p:=fun k p=>ay5 hm k p
 have hst:∀ z:Int,(t.put j).1.probeStart z=t.probeStart z:=fun z=>by rw[aj2,aj2,hm]
 refine⟨by rw[hp,<- T.len];exact b1,?_⟩
 rw[hp]
 refine⟨by rw[ht];exact T.dum,by rw[hpl,ap9 b1,ap9 (by rw[<- T.len];exact b1),T.len],?_,?_,by rw[hm];exact T.good,?_,?_⟩
 ·rw[hpl]
  intro i k a c hik ea ec
  rw[get_ins b1]at ea ec
  split at ea
  ·rename_i hi
   split at ec
   ·exact T.asc i k a c hik ea ec
   ·split at ec
    ·cases ec;exact b2 i a hi ea
    ·exact T.asc i (k - 1) a c (by omega) ea ec
  ·split at ea
   ·rename_i hi1 hi2
    cases ea
    rw[if_neg (by omega),if_neg (by omega)]at ec
    have h1:=b3 (k - 1) c (by omega) ec
    rcases K7 h1 with h2 | h2
    ·exact h2
    ·subst h2;exact absurd ec (hfr (k - 1))
   ·rw[if_neg (by omega),if_neg (by omega)]at ec
    exact T.asc (i - 1) (k - 1) a c (by omega) ea ec
 ·rw[hpl,hm]
  intro i a ea
  rw[get_ins b1]at ea
  split at ea
  ·exact T.bnd i a ea
  ·split at ea
   ·cases ea;exact hle
   ·exact T.bnd _ a ea
 ·rw[hm,ap9 (by rw[<- T.len];exact b1)]
  have:=T.good
  unfold Good at this
  omega
 ·intro i e he
  rw[hpl,hm]
  have b1':below t.place j<=es.size:=by rw[<- T.len];exact b1
  rw[get_ins b1']at he
  have lift:∀ (i0:Nat) (i':Nat),es[i0]?=some e->(∀ a,t.place[i0]?=some a->(insertAt t.place (below t.place j) j)[i']?=some a) ->
    ∃ n,n<10*turns t.mask/\(insertAt t.place (below t.place j) j)[i']?=some (it (t.put j).1 n ((t.put j).1.probeStart e.1)).j/\∀ k,k<n->∃ i':Nat,(insertAt t.place (below t.place j) j)[i']?=some (it (t.put j).1 k ((t.put j).1.probeStart e.1)).j:=fun i0 i' h0 h1=>by
   obtain⟨n',q1,q2,q3⟩:=T.path i0 e h0
   refine⟨n',q1,?_,fun k hk=>?_⟩
   ·rw[hit,hst];exact h1 _ q2
   ·obtain⟨i2,e2⟩:=q3 k hk
    rw[hit,hst]
    exact old i2 _ e2
  split at he
  ·rename_i hi
   exact lift i i he fun a ea=>by rw[get_ins b1,if_pos hi];exact ea
  ·split at he
   ·rename_i hi1 hi2
    cases he
    refine⟨n,hn,?_,fun k hk=>?_⟩
    ·rw[hit,hst,hj,get_ins b1,if_neg hi1,if_pos hi2]
    ·obtain⟨i2,e2⟩:=hocc k hk
     rw[hit,hst]
     exact old i2 _ e2
   ·rename_i hi1 hi2
    exact lift (i - 1) i he fun a ea=>by rw[get_ins b1,if_neg hi1,if_neg hi2];exact ea
theorem aN3:∀ (k n:Nat) (g:Nat->Nat),(∀ i,i<n->g i<k)->(∀ i j,i<n->j<n->g i=g j->i=j)->n<=k
 | 0,n,g,h,_=>by
  rcases Nat.eq_zero_or_pos n with e | e
  ·omega
  ·exact absurd (h 0 e) (Nat.not_lt_zero _)
 | k+1,0,g,_,_=>u4 _
 | k+1,n+1,g,h,inj=>by
  by_cases q:∃ i0,i0<n+1/\g i0=k
  ·obtain⟨i0,h0,e0⟩:=q
   have:=aN3 k n (fun i=>if i=i0 then g n else g i) (fun i hi=>?_) (fun i j hi hj e=>?_)
   ·omega
   ·try dsimp only
    split
    ·rename_i hii
     have h1:=h n (by omega)
     have h2:g n≠k:=fun z=>by have:=inj n i0 (by omega) h0 (by rw[z,e0]);omega
     omega
    ·have h1:=h i (by omega)
     have h2:g i≠k:=fun z=>by have:=inj i i0 (by omega) h0 (by rw[z,e0]);omega
     omega
   ·try dsimp only at e
    split at e
    ·split at e
     ·omega
     ·have:=inj n j (by omega) (by omega) e;omega
    ·split at e
     ·have:=inj i n (by omega) (by omega) e;omega
     ·exact inj i j (by omega) (by omega) e
  ·have:=aN3 k (n+1) g (fun i hi=>?_) inj
   ·omega
   ·have h1:=h i hi
    have h2:g i≠k:=fun z=>q ⟨i,hi,z⟩
    omega
structure LI (t:SetTable) (hs:Array Int) (owner:Array (Option Nat)) (k:Nat):Prop where
 size:owner.size=t.mask+1
 lt:∀ (j i:Nat),owner[j]?=some (some i)->i<k
 inj:∀ (j j' i:Nat),owner[j]?=some (some i)->owner[j']?=some (some i)->j=j'
 has:∀ (i:Nat) (h:Int),i<k->hs[i]?=some h->∃ n,n<10*turns t.mask/\owner[(it t n (t.probeStart h)).j]?=some (some i)/\∀ c,c<n->∃ i':Nat,owner[(it t c (t.probeStart h)).j]?=some (some i')
theorem LI.free {hs:Array Int}{owner:Array (Option Nat)}{k:Nat}(L:LI t hs owner k)(hk:k<=t.mask):∃ b,b<=t.mask/\owner[b]?=some none:=by
 apply Classical.byContradiction
 intro z
 have all:∀ b,b<=t.mask->∃ i,owner[b]?=some (some i):=fun b hb=>by
  have e:=getElem?_pos owner b (by rw[L.size];omega)
  cases q:owner[b]'(by rw[L.size];omega) with
  | none=>rw[q]at e;exact absurd ⟨b,hb,e⟩ z
  | some i=>rw[q]at e;exact⟨i,e⟩
 have:=aN3 k (t.mask+1) (fun b=>match owner[b]? with | some (some i)=>i | _=>0) (fun b hb=>?_) (fun b b' hb hb' e=>?_)
 ·omega
 ·obtain⟨i,e⟩:=all b (by omega)
  try dsimp only
  rw[e]
  exact L.lt b i e
 ·obtain⟨i,e1⟩:=all b (by omega)
  obtain⟨i',e2⟩:=all b' (by omega)
  try dsimp only at e
  rw[e1,e2]at e
  dsimp only at e
  subst e
  exact L.inj b b' i e1 e2
theorem aJ7 (t:SetTable)(owner:Array (Option Nat))(hz:owner.size=t.mask+1):∀ (fuel i pt:Nat),i<=t.mask->(∃ r,r<fuel/\∃ b,b=(rn t.mask i pt r).1/\owner[b]?=some none) ->
  ∃ n,n<10*fuel/\layClean.free t.mask owner fuel i pt=some (it t n (st t.mask i pt)).j/\owner[(it t n (st t.mask i pt)).j]?=some none/\∀ c,c<n->∃ i':Nat,owner[(it t c (st t.mask i pt)).j]?=some (some i')
 | 0,i,pt,_,⟨r,hr,_⟩=>absurd hr (Nat.not_lt_zero _)
 | fuel+1,i,pt,hi,⟨r,hr,b,hb,hbo⟩=>by
  have h9:=at5 t.mask i
  have hm:=aT3 hi
  unfold layClean.free
  have slotOf:∀ k,k<=runEnd t.mask i - i->(it t k (st t.mask i pt)).j=i+k:=fun k hk=>by rw[aO2 t i pt k hk]
  have getS:∀ k,k<=runEnd t.mask i - i->(owner.getD (i+k) (some 0)).isNone=false->∃ i':Nat,owner[i+k]?=some (some i'):=fun k hk e=>by
   have hlt:i+k<owner.size:=by omega
   have e1:=getElem?_pos owner (i+k) hlt
   have e2:owner.getD (i+k) (some 0)=owner[i+k]:=by simp[bP0,hlt]
   rw[e2]at e
   cases q:owner[i+k] with
   | none=>rw[q]at e;cases e
   | some i'=>rw[q]at e1;exact⟨i',e1⟩
  cases hf:(q0 (runEnd t.mask i+1 - i)).find? (fun k=>(owner.getD (i+k) (some 0)).isNone) with
  | some k =>
   dsimp only
   rw[List.find?_eq_some_iff_getElem]at hf
   obtain⟨hp,k',hk',ek,hbef⟩:=hf
   rw[y9]at hk'
   rw[ah9]at ek
   subst ek
   refine⟨k',by omega,by rw[slotOf k' (by omega)],?_,fun c hc=>?_⟩
   ·rw[slotOf k' (by omega)]
    have hlt:i+k'<owner.size:=by omega
    have e2:owner.getD (i+k') (some 0)=owner[i+k']:=by simp[bP0,hlt]
    rw[e2]at hp
    rw[getElem?_pos owner _ hlt]
    cases q:owner[i+k'] with
    | none=>rfl
    | some z=>rw[q]at hp;cases hp
   ·rw[slotOf c (by omega)]
    have:=hbef c hc
    rw[ah9]at this
    exact getS c (by omega) (by simpa using this)
  | none =>
   dsimp only
   rw[List.find?_eq_none]at hf
   have all:∀ c,c<=runEnd t.mask i - i->∃ i':Nat,owner[i+c]?=some (some i'):=fun c hc=>getS c hc (by simpa only [Bool.not_eq_true] using hf c (B7.mpr (by omega)))
   have hr0:r≠0:=fun z=>by
    subst z
    obtain⟨i',e⟩:=all 0 (u4 _)
    have hb':b=i:=hb
    rw[hb']at hbo
    rw[aP5,hbo]at e
    cases e
   obtain⟨r',rfl⟩:∃ r',r=r'+1:=⟨r - 1,by omega⟩
   have shift:∀ r,rn t.mask (leap t.mask i pt).1 (leap t.mask i pt).2 r=rn t.mask i pt (r+1):=fun r=>by
    induction r with
    | zero=>rfl
    | succ r ih =>
     show leap t.mask _ _=leap t.mask _ _
     rw[ih]
   obtain⟨n,hn,e1,e2,e3⟩:=aJ7 t owner hz fuel (leap t.mask i pt).1 (leap t.mask i pt).2 (am0 (bZ7 _ (ai8 _))) ⟨r',by omega,b,by rw[hb,shift],hbo⟩
   have sh:∀ c,it t (runEnd t.mask i - i+1+c) (st t.mask i pt)=it t c (st t.mask (leap t.mask i pt).1 (leap t.mask i pt).2):=fun c=>by rw[aO4,aO3]
   refine⟨runEnd t.mask i - i+1+n,by omega,by rw[sh];exact e1,by rw[sh];exact e2,fun c hc=>?_⟩
   by_cases q:c<=runEnd t.mask i - i
   ·rw[slotOf c q]
    exact all c q
   ·have:=e3 (c - (runEnd t.mask i - i+1)) (by omega)
    rw[<- sh,show runEnd t.mask i - i+1+(c - (runEnd t.mask i - i+1))=c by omega]at this
    exact this
theorem aV9 (t:SetTable)(g:Good t.mask)(hs:Array Int)(hsz:hs.size<=t.mask):∀ (l:List Int) (k:Nat) (owner:Array (Option Nat)),LI t hs owner k->hs.toList.drop k=l ->
  ∃ owner',(l.foldl (fun acc h=>do
   let (owner,k) <- acc
   let j <- layClean.free t.mask owner (turns t.mask) (bits h % (t.mask+1)) (bits h)
   pure (owner.setIfInBounds j (some k),k+1)) (some (owner,k)))=some (owner',k+l.length)/\LI t hs owner' (k+l.length)
 | [],k,owner,L,_=>⟨owner,rfl,L⟩
 | h::l,k,owner,L,hd=>by
  have hk:k<hs.size:=by
   apply Classical.byContradiction
   intro z
   rw[J6 (by rw[k8];omega)]at hd
   cases hd
  have hget:hs[k]?=some h:=by
   rw[<- d7]
   have:=congrArg (fun l=>l[0]?) hd
   simpa using this
  obtain⟨b,hb,hbo⟩:=L.free (by omega)
  obtain⟨r,hr,er⟩:=bf8 g (aj1 t h) (bi9 h) hb
  obtain⟨n,hn,e1,e2,e3⟩:=aJ7 t owner L.size (turns t.mask) (bits h % (t.mask+1)) (bits h) (aj1 t h) ⟨r,hr,b,er.symm,hbo⟩
  rw[<- aj2]at e1 e2 e3
  have hjs:(it t n (t.probeStart h)).j<owner.size:=(getElem?_eq_some_iff.mp e2).1
  have gs:∀ x,(owner.setIfInBounds (it t n (t.probeStart h)).j (some k))[x]?=if (it t n (t.probeStart h)).j=x then some (some k) else owner[x]?:=fun x=>by
   rw[Array.getElem?_setIfInBounds]
   split
   ·rename_i hx;subst hx;simp[hjs]
   ·rfl
  have occ:∀ (x i:Nat),owner[x]?=some (some i)->∃ i':Nat,(owner.setIfInBounds (it t n (t.probeStart h)).j (some k))[x]?=some (some i'):=fun x i e=>by
   rw[gs];split
   ·exact⟨k,rfl⟩
   ·exact⟨i,e⟩
  have L':LI t hs (owner.setIfInBounds (it t n (t.probeStart h)).j (some k)) (k+1):=by
   refine⟨by rw[bd7];exact L.size,fun j i e=>?_,fun j j' i ea ec=>?_,fun i h' hi hh=>?_⟩
   ·rw[gs]at e
    split at e
    ·cases e;omega
    ·have:=L.lt j i e;omega
   ·rw[gs]at ea ec
    split at ea
    ·rename_i q1
     cases ea
     split at ec
     ·rename_i q2;rw[<- q1,<- q2]
     ·have:=L.lt j' k ec;omega
    ·split at ec
     ·cases ec
      have:=L.lt j k ea;omega
     ·exact L.inj j j' i ea ec
   ·by_cases q:i=k
    ·subst q
     rw[hget]at hh
     cases hh
     refine⟨n,hn,by rw[gs,if_pos rfl],fun c hc=>?_⟩
     obtain⟨i',e⟩:=e3 c hc
     exact occ _ i' e
    ·obtain⟨n',q1,q2,q3⟩:=L.has i h' (by omega) hh
     refine⟨n',q1,?_,fun c hc=>?_⟩
     ·rw[gs]
      split
      ·rename_i q4
       rw[q4]at e2
       rw[e2]at q2
       cases q2
      ·exact q2
     ·obtain⟨i',e⟩:=q3 c hc
      exact occ _ i' e
  obtain⟨owner',f1,f2⟩:=aV9 t g hs hsz l (k+1) _ L' (by
   have e5:hs.toList.drop (k+1)=(hs.toList.drop k).drop 1:=by rw[bd5]
   rw[e5,hd]
   rfl)
  refine⟨owner',?_,?_⟩
  ·rw[ae5]
   have:(do
     let (owner,k) <- some (owner,k)
     let j <- layClean.free t.mask owner (turns t.mask) (bits h % (t.mask+1)) (bits h)
     pure (owner.setIfInBounds j (some k),k+1))=some (owner.setIfInBounds (it t n (t.probeStart h)).j (some k),k+1):=by
    show (layClean.free t.mask owner (turns t.mask) (bits h % (t.mask+1)) (bits h) >>= fun j=>pure (owner.setIfInBounds j (some k),k+1))=_
    rw[e1]
    rfl
   rw[this,f1,t4]
   congr 2
   omega
  ·rw[t4,show k+(l.length+1)=k+1+l.length by omega]
   exact f2
theorem bv4 {M finger moves:Nat}{led plain:Bool}{es:Array En}(g:Good M)(hsz:es.size*5<M*3) :
  ∃ t2 order,laid M finger moves led plain (es.map (·.1))=some (t2,order)/\Tb t2 (order.filterMap (es[·]?))/\(order.filterMap (es[·]?)).toList.Perm es.toList/\order.toList.Perm (q0 es.size)/\t2.led=led/\t2.plain=plain:=by
 let t:SetTable:={ mask:=M,place:=#[],dummies:=#[],finger:=finger,led:=led,moves:=moves,plain:=plain }
 have ht:t.mask=M:=rfl
 have h0:LI t (es.map (·.1)) (Array.replicate (M+1) none) 0:=by
  refine⟨by simp[ht],fun j i e=>?_,fun j j' i e=>?_,fun i h hi=>by omega⟩
  ·rw[bd8]at e;split at e<;>cases e
  ·rw[bd8]at e;split at e<;>cases e
 obtain⟨owner,f1,L⟩:=aV9 t g (es.map (·.1)) (by rw[ah8,ht];omega) (es.map (·.1)).toList 0 _ h0 rfl
 rw[N9,k8,ah8]at f1 L
 have hlay:layClean M (es.map (·.1))=some owner:=by
  unfold layClean
  rw[<- Array.foldl_toList]
  have:(ac7 _ _ (es.map (·.1)).toList)=some (owner,es.size):=f1
  rw[this]
  rfl
 let live:List (Nat × Nat):=(q0 (M+1)).filterMap fun j=>(owner.getD j none).map (j,·)
 have hlive:∀ p:Nat × Nat,p∈live↔owner[p.1]?=some (some p.2):=fun p=>by
  obtain⟨j,i⟩:=p
  have hg:∀ j,owner.getD j none=(owner[j]?).getD none:=fun j=>by simp
  show (j,i)∈List.filterMap _ _↔_
  rw[ah7]
  constructor
  ·rintro⟨j',hj',e⟩
   rw[hg]at e
   cases q:owner[j']? with
   | none=>rw[q]at e;cases e
   | some z =>
    rw[q]at e
    cases z with
    | none=>cases e
    | some i' =>
     have e':(j',i')=(j,i):=Option.some.inj e
     cases e'
     exact q
  ·intro e
   have hj:j<owner.size:=(getElem?_eq_some_iff.mp e).1
   refine⟨j,B7.mpr (by rw[L.size,ht]at hj;exact hj),?_⟩
   rw[hg,e]
   rfl
 have hpw:live.Pairwise (fun a b=>a.1<b.1):=by
  show (List.filterMap _ _).Pairwise _
  rw[List.pairwise_filterMap]
  refine List.Pairwise.imp ?_ bo7
  intro a b hab p hp q hq
  cases h1:owner.getD a none with
  | none=>rw[h1]at hp;cases hp
  | some i =>
   cases h2:owner.getD b none with
   | none=>rw[h2]at hq;cases hq
   | some i' =>
    rw[h1]at hp
    rw[h2]at hq
    have e1:(a,i)=p:=Option.some.inj hp
    have e2:(b,i')=q:=Option.some.inj hq
    subst e1 e2
    exact hab
 have hnd:(live.map (·.2)).Nodup:=by
  unfold List.Nodup
  rw[P4]
  refine List.Pairwise.imp_of_mem ?_ hpw
  intro a b ha hb hab e
  have h1:=(hlive a).mp ha
  have h2:=(hlive b).mp hb
  rw[<- e]at h2
  have:=L.inj _ _ _ h1 h2
  omega
 have hord:(live.map (·.2)).Perm (q0 es.size):=by
  refine(List.perm_ext_iff_of_nodup hnd List.nodup_range).mpr fun i=>?_
  rw[B7,t8]
  constructor
  ·rintro⟨p,hp,rfl⟩
   exact L.lt _ _ ((hlive p).mp hp)
  ·intro hi
   obtain⟨n,_,q,_⟩:=L.has i ((es.map (·.1))[i]'(by rw[ah8];exact hi)) hi (getElem?_pos _ _ _)
   exact⟨(_,i),(hlive _).mpr q,rfl⟩
 have hlen:live.length=es.size:=by have:=hord.length_eq;simpa using this
 have hes:∀ i,i∈live.map (·.2)->∃ e,es[i]?=some e:=fun i hi=>by
  have:=hord.mem_iff.mp hi
  rw[B7]at this
  exact⟨es[i],getElem?_pos es i this⟩
 have fm:∀ (l:List Nat),(∀ i∈l,∃ e,es[i]?=some e)->(l.filterMap (es[·]?)).length=l.length/\∀ (p:Nat),(l.filterMap (es[·]?))[p]?=(l[p]?).bind (es[·]?):=fun l=>by
  induction l with
  | nil=>intro _;exact⟨rfl,fun p=>rfl⟩
  | cons a l ih =>
   intro h
   obtain⟨e,he⟩:=h a g9
   obtain⟨i1,i2⟩:=ih fun i hi=>h i (d3 _ hi)
   rw[List.filterMap_cons_some he]
   refine⟨by rw[t4,i1,t4],fun p=>?_⟩
   cases p with
   | zero=>simp[he]
   | succ p=>simpa using i2 p
 obtain⟨fl,fg⟩:=fm _ hes
 have hperm:((live.map (·.2)).filterMap (es[·]?)).Perm es.toList:=by
  refine(hord.filterMap _).trans (List.Perm.of_eq ?_)
  apply T6
  intro p
  obtain⟨_,g2⟩:=fm (q0 es.size) fun i hi=>⟨es[i]'(B7.mp hi),getElem?_pos es i (B7.mp hi)⟩
  rw[g2,show es.toList[p]?=es[p]? from d7 ..]
  by_cases hp:p<es.size
  ·rw[J8 hp];rfl
  ·rw[p9 (by simp;omega),getElem?_neg es p hp];rfl
 let t2:SetTable:={ mask:=M,place:=(live.map (·.1)).toArray,dummies:=#[],finger:=finger,led:=led,moves:=moves,plain:=plain }
 have hes':((live.map (·.2)).toArray.filterMap (es[·]?)).toList=(live.map (·.2)).filterMap (es[·]?):=by simp
 have getE:∀ (p:Nat) (e:En),((live.map (·.2)).toArray.filterMap (es[·]?))[p]?=some e->∃ j i:Nat,live[p]?=some (j,i)/\es[i]?=some e:=fun p e h=>by
  rw[<- d7,hes',fg,p0]at h
  cases q:live[p]? with
  | none=>rw[q]at h;cases h
  | some ji=>rw[q]at h;exact⟨ji.1,ji.2,rfl,h⟩
 have getP:∀ (p:Nat) (j:Nat),t2.place[p]?=some j↔∃ i,live[p]?=some (j,i):=fun p j=>by
  show (live.map (·.1)).toArray[p]?=some j↔_
  rw[List.getElem?_toArray,p0]
  cases q:live[p]? with
  | none=>simp
  | some ji =>
   obtain⟨a,b⟩:=ji
   simp
 have itE:∀ n (p:Probe),it t2 n p=it t n p:=fun n p=>ay5 (t:=t) (t':=t2) rfl n p
 refine⟨t2,(live.map (·.2)).toArray,?_,?_,(by rw[hes'];exact hperm),hord,rfl,rfl⟩
 ·unfold laid
  rw[hlay]
  rfl
 ·refine⟨rfl,?_,?_,?_,g,?_,?_⟩
  ·show (live.map (·.1)).toArray.size=_
   rw[d6,b7,<- k8,hes',fl,b7]
  ·intro i j a b hij ea eb
   obtain⟨_,ea⟩:=(getP i a).mp ea
   obtain⟨_,eb⟩:=(getP j b).mp eb
   obtain⟨h1,e1⟩:=c9.mp ea
   obtain⟨h2,e2⟩:=c9.mp eb
   have:=x6.mp hpw i j h1 h2 hij
   rw[e1,e2]at this
   exact this
  ·intro i j e
   obtain⟨i',e⟩:=(getP i j).mp e
   have:=(hlive _).mp (f9 e)
   have hj:j<owner.size:=(getElem?_eq_some_iff.mp this).1
   rw[L.size]at hj
   show j<=M
   exact am0 hj
  ·rw[<- k8,hes',fl,b7,hlen]
   exact hsz
  ·intro p e he
   obtain⟨j,i,hl,hi⟩:=getE p e he
   have ho:=(hlive _).mp (f9 hl)
   have hi':i<es.size:=(getElem?_eq_some_iff.mp hi).1
   obtain⟨n,q1,q2,q3⟩:=L.has i e.1 hi' (by rw[Array.getElem?_map,hi];rfl)
   have ej:=L.inj _ _ _ ho q2
   refine⟨n,q1,?_,fun c hc=>?_⟩
   ·rw[itE]
    exact(getP p _).mpr ⟨i,by rw[hl];congr 2⟩
   ·obtain⟨i',e'⟩:=q3 c hc
    obtain⟨p',hp'⟩:=o7.mp ((hlive (_,i')).mpr e')
    exact⟨p',by rw[itE];exact(getP p' _).mpr ⟨i',hp'⟩⟩
theorem bI0 {M finger moves:Nat}{led plain:Bool}{es:Array En}(g:Good M)(hsz:es.size*5<M*3) :
  ∃ t2 order,laid M finger moves led plain (es.map (·.1))=some (t2,order)/\Tb t2 (order.filterMap (es[·]?))/\(order.filterMap (es[·]?)).toList.Perm es.toList:=
 let ⟨a,b,c,d,e,_⟩:=bv4 (finger:=finger) (moves:=moves) (led:=led) (plain:=plain) g hsz;⟨a,b,c,d,e⟩
end Sett
namespace Sett
open PySem PySem.SetTable PyProof.Rows
def al4:List Nat->Nat->Bool
 | [],_=>true
 | x::l,acc=>!acc.testBit x && al4 l (acc ||| 2 ^ x)
theorem aq6:∀ (l:List Nat) (acc:Nat),al4 l acc=true->l.Nodup/\∀ x∈l,acc.testBit x=false
 | [],_,_=>⟨aw2,(fun _ h=>nomatch h)⟩
 | x::l,acc,h=>by
  unfold al4 at h
  rw[D9]at h
  obtain⟨h1,h2⟩:=h
  obtain⟨n,m⟩:=aq6 l _ h2
  have m':∀ y∈l,acc.testBit y=false/\x≠y:=fun y hy=>by
   have:=m y hy
   rw[Nat.testBit_or,Bool.or_eq_false_iff,bO9]at this
   exact⟨this.1,of_decide_eq_false this.2⟩
  refine⟨E5.mpr ⟨fun hx=>(m' x hx).2 rfl,n⟩,fun y hy=>?_⟩
  rcases d4.mp hy with rfl | hy
  ·simpa using h1
  ·exact(m' y hy).1
def hp (n:Nat):Nat:=bits (reduceHash (Builtin.Tuple.tupleHashOf [hashInt ((n / 24:Nat):Int),hashInt ((n % 24:Nat):Int)])) % 3708
set_option maxRecDepth 100000 in
theorem bW6:al4 ((q0 576).map hp) 0=true:=by decide +kernel
theorem bW5 {a b:Nat}(ha:a<576)(hb:b<576)(h:hp a=hp b):a=b:=by
 have:=(aq6 _ _ bW6).1
 unfold List.Nodup at this
 rw[P4]at this
 rw[x6]at this
 rcases Z8 a b with q | q | q
 ·have:=this a b (by simpa using ha) (by simpa using hb) q
  simp only[ah9]at this
  exact absurd h this
 ·exact q
 ·have:=this b a (by simpa using hb) (by simpa using ha) q
  simp only[ah9]at this
  exact absurd h.symm this
def aw0 (ks:List Int):Prop:=∃ i j:Nat,i<24/\j<24/\ks=[(i:Int),(j:Int)]
theorem aW6 {k':List Int}(h1:aw0 k)(h2:aw0 k')(e:u7 (A6 prog w) k=u7 (A6 prog w) k'):k=k':=by
 obtain⟨i,j,hi,hj,rfl⟩:=h1
 obtain⟨i',j',hi',hj',rfl⟩:=h2
 have e2:hp (24*i+j)=hp (24*i'+j'):=by
  unfold hp
  rw[show (24*i+j) / 24=i by omega,show (24*i+j) % 24=j by omega,show (24*i'+j') / 24=i' by omega,show (24*i'+j') % 24=j' by omega]
  exact congrArg (fun z=>bits z % 3708) e
 have:=bW5 (by omega) (by omega) e2
 have h3:i=i':=by omega
 have h4:j=j':=by omega
 rw[h3,h4]
def am5 (prog:Program)(w:World)(h:Heap)(k:List Int)(e:En):Prop:=∃ a,e.2=.ref a/\L3 (A6 prog w) h k a/\e.1=u7 (A6 prog w) k
def aw9 (prog:Program)(w:World)(hk h:Heap)(S:Addr)(ks:List (List Int)):Prop:=
 ∃ o es ep t,h.get? S=some o/\o.ExactSet/\o.data=.set es ep t/\Tb t es/\es.size=ks.length/\ks.Nodup/\(∀ k∈ks,aw0 k)/\(∀ k∈ks,∃ e∈es.toList,am5 prog w hk k e)/\∀ e∈es.toList,∃ k∈ks,am5 prog w hk k e
theorem bv9 (x:L3 (A6 prog w) h k a)(hs:∀ b o,h.get? b=some o->h'.get? b=some o):L3 (A6 prog w) h' k a:=by
 obtain⟨o,items,n,h2,h3⟩:=x
 exact⟨o,items,n,hs a o h2,h3⟩
theorem am5.up {e:En}(x:am5 prog w h k e)(hs:∀ b o,h.get? b=some o->h'.get? b=some o):am5 prog w h' k e:=by
 obtain⟨a,h1,h2,h6⟩:=x
 exact⟨a,h1,bv9 h2 hs,h6⟩
theorem am5.inj {k':List Int}{e:En}(x:am5 prog w h k e)(y:am5 prog w h k' e):k=k':=by
 obtain⟨a,h1,h2,_⟩:=x
 obtain⟨b,h3,h4,_⟩:=y
 rw[h1]at h3
 cases h3
 exact h2.inj h4
theorem bd0 (x:Addr)(es:Array En):byScan (.ref x) es=false:=by
 unfold byScan Value.scannable
 rfl
theorem au3 {x:Addr}{Q:Bool->Shared->Prop}(hx:L3 (A6 prog w) s.heap k x)(h:Q true s):r6 (t9 prog w) A (bk3 8 (.ref x)) Q E s:=by
 have hT:=hx.typeIs
 obtain⟨o,items,n,ho,hc,hd,hi⟩:=hx
 unfold bk3
 refine b9 (wpAny_specialOf hT F.slot_tuple_hash.lookup ?_)
 dsimp only
 refine b9 (G8 ho hd ?_)
 show r6 _ _ (forIn items _ _ >>= _) _ _ s
 rw[<- ag7]
 have hv:∀ v∈items.toList,∃ i t,v=.int i t:=fun v hv=>by
  clear ho hd
  generalize items.toList=l at hi hv
  induction hi with
  | nil=>cases hv
  | cons h1 _ ih =>
   rcases d4.mp hv with rfl | hv
   ·obtain⟨t,e⟩:=Value.isInt_shape h1
    exact⟨_,t,e⟩
   ·exact ih hv
 refine b9 (aZ3 _ (fun rest r s'=>r.1=none/\s'=s/\∀ v∈rest,∃ i t,v=.int i t) _ ?_ ?_ _ _ ⟨rfl,rfl,hv⟩)
 ·rintro v rest r s' ⟨hr,rfl,hall⟩
  obtain⟨i,t,rfl⟩:=hall v g9
  have e:bk3 7 (.int i t)=pure true:=by unfold bk3;rfl
  rw[e]
  refine b9 (i8 ?_)
  simp only[T7,m8,if_false]
  exact i8 ⟨rfl,rfl,fun u hu'=>hall u (d3 _ hu')⟩
 ·rintro⟨r1,r2⟩ s' ⟨hr,rfl,_⟩
  simp only at hr
  subst hr
  exact i8 h
theorem aH0 {S x:Addr}{o:Obj}{es:Array En}{ep:Nat}{h:Int}{Q:SetFound->Shared->Prop}(ho:s.heap.get? S=some o)(hd:o.data=.set es ep t)(T:Tb t es)(hh:∀ e∈es.toList,e.1≠h)
  (hq:∀ n,n<10*turns t.mask->(∀ i:Nat,t.place[i]?≠some (it t n (t.probeStart h)).j)->(it t n (t.probeStart h)).j<=t.mask->(∀ k,k<n->∃ i':Nat,t.place[i']?=some (it t k (t.probeStart h)).j)->Q (.free (it t n (t.probeStart h)).j false) s) :
  r6 (t9 prog w) A (bP9 S (.ref x) h true) Q E s:=by
 obtain⟨n,h1,h2,h3,h4,h5⟩:=T.absent hh
 unfold bP9 aL8
 refine b9 (U8 ho hd T.fits ?_)
 dsimp only
 rw[T.odd]
 simp only[m8,if_false]
 split
 ·rename_i met hm
  have e:=hm.symm.trans h5
  cases e
  exact i8 (hq n h1 h2 h3 h4)
 ·rename_i hm
  exact absurd h5 (fun z=>hm _ z)
theorem aX8 {x:Addr}{Q:Bool->Shared->Prop}(hx:L3 (A6 prog w) s.heap k x)(h:Q false s):r6 (t9 prog w) A (an9 8 (.ref x)) Q E s:=by
 have hT:=hx.typeIs
 obtain⟨o,items,n,ho,hc,hd,hi⟩:=hx
 unfold an9
 refine b9 (wpAny_typeOf hT ?_)
 dsimp only
 rw[if_pos (by decide)]
 refine b9 (i8 ?_)
 simp only[T7,m8,if_false]
 refine b9 (G8 ho hd ?_)
 dsimp only
 rw[<- ag7]
 have hv:∀ v∈items.toList,∃ i t,v=.int i t:=fun v hv=>by
  clear ho hd
  generalize items.toList=l at hi hv
  induction hi with
  | nil=>cases hv
  | cons h1 _ ih =>
   rcases d4.mp hv with rfl | hv
   ·obtain⟨t,e⟩:=Value.isInt_shape h1
    exact⟨_,t,e⟩
   ·exact ih hv
 refine b9 (aZ3 _ (fun rest r s'=>r.1=none/\s'=s/\∀ v∈rest,∃ i t,v=.int i t) _ ?_ ?_ _ _ ⟨rfl,rfl,hv⟩)
 ·rintro v rest r s' ⟨hr,rfl,hall⟩
  obtain⟨i,t,rfl⟩:=hall v g9
  have e:an9 7 (.int i t)=pure false:=by unfold an9;rfl
  rw[e]
  refine b9 (i8 ?_)
  simp only[m8,if_false]
  exact i8 ⟨rfl,rfl,fun u hu'=>hall u (d3 _ hu')⟩
 ·rintro⟨r1,r2⟩ s' ⟨hr,rfl,_⟩
  simp only at hr
  subst hr
  exact i8 h
theorem bQ4 {x:Addr}{l:List Value}{Q:Bool->Shared->Prop}(hx:L3 (A6 prog w) s.heap k x)(hl:∀ v∈l,∃ a k',v=.ref a/\L3 (A6 prog w) s.heap k' a)(h:Q false s) :
  r6 (t9 prog w) A (searchCouldBeSeen (.ref x) l) Q E s:=by
 unfold searchCouldBeSeen
 refine b9 (aZ3 _ (fun rest r s'=>r.1=none/\s'=s/\∀ v∈rest,∃ a k',v=.ref a/\L3 (A6 prog w) s.heap k' a) _ ?_ ?_ _ _ ⟨rfl,rfl,hl⟩)
 ·rintro v rest r s' ⟨hr,rfl,hall⟩
  obtain⟨a,k',rfl,ha⟩:=hall v g9
  have hrest:∀ v∈rest,∃ a k',v=.ref a/\L3 (A6 prog w) s'.heap k' a:=fun u hu'=>hall u (d3 _ hu')
  dsimp only
  split
  ·exact i8 ⟨rfl,rfl,hrest⟩
  ·refine b9 (bQ0 hx ?_)
   simp only[T7,m8,if_false]
   refine b9 (bQ0 ha ?_)
   simp only[T7,m8,if_false]
   refine b9 (aX8 hx ?_)
   simp only[m8,if_false]
   refine b9 (aX8 ha ?_)
   simp only[m8,if_false]
   exact i8 ⟨rfl,rfl,hrest⟩
 ·rintro⟨r1,r2⟩ s' ⟨hr,rfl,_⟩
  simp only at hr
  subst hr
  exact i8 h
theorem aA2 {S x:Addr}{o:Obj}{es:Array En}{ep:Nat}{e:En}{Q:SetFound->Shared->Prop}(hu:A.units<an6)(ho:s.heap.get? S=some o)(hd:o.data=.set es ep t)(T:Tb t es)
  (hx:L3 (A6 prog w) s.heap k x)(he:es[i]?=some e)(hk:am5 prog w s.heap k e)(hall:∀ e∈es.toList,∃ k,am5 prog w s.heap k e)(huq:∀ (c:Nat) (e':En),es[c]?=some e'->e'.1=e.1->c=i)
  (hq:Q (.there none) s):r6 (t9 prog w) A (bP9 S (.ref x) (u7 (A6 prog w) k) true) Q E s:=by
 obtain⟨y,hy1,hy2,hy3⟩:=hk
 obtain⟨j,q,hp⟩:=T.present he huq
 rw[hy3]at hp
 unfold bP9 aL8
 refine b9 (U8 ho hd T.fits ?_)
 dsimp only
 rw[T.odd]
 simp only[m8,if_false]
 have fin:r6 (t9 prog w) A (do
   let some (_,y):=es[i]? | ai2 "internal:set-entry"
   let equal <- aG4 [y] (eqBool y (.ref x))
   let (es',_,t') <- setState S
   if true && equal then return .there none
   let some same:=t'.sameMemory t.moves t.mask | ai2 "set.changed-during-lookup:is-the-new-block-at-the-old-address"
   let still <- match (if same then t'.slot j else .empty) with
    | .live i'=>match es'[i']? with
     | some (_,y')=>do pure (if <- isSame y' y then some i' else none)
     | none=>pure none
    | _=>pure none
   match still with
   | none=>rule "set.search.anew";aL8 S (.ref x) (u7 (A6 prog w) k) true 99999 none
   | some i'=>if equal then return .there (some i') else aL8 S (.ref x) (u7 (A6 prog w) k) true 99999 (some q)) Q E s:=by
  rw[he]
  obtain⟨e1,e2⟩:=e
  have hy1:e2=.ref y:=hy1
  subst hy1
  dsimp only
  refine b9 (F0 (wpAny_eqBool_tuple hu hy2 hx ?_))
  refine b9 (U8 ho hd T.fits ?_)
  dsimp only
  rw[decide_eq_true rfl]
  simp only[Bool.and_self,if_true]
  exact i8 hq
 split
 ·rename_i met hm
  have e9:=hm.symm.trans hp
  cases e9
  dsimp only
  cases hled:t.led with
  | true =>
   simp only[T7,m8,if_false]
   exact fin
  | false =>
   simp only[bd9,if_true]
   refine b9 (bQ4 hx (fun v hv=>?_) ?_)
   ·rw[t8]at hv
    obtain⟨e',he',rfl⟩:=hv
    have he'':e'∈es.toList:=by
     have:=Array.mem_filter.mp (bB2.mp he')
     exact bB2.mpr this.1
    obtain⟨k',a,h1,h2,_⟩:=hall e' he''
    exact⟨a,k',h1,h2⟩
   ·simp only[m8,if_false]
    exact fin
 ·rename_i hm
  exact absurd hp (fun z=>hm _ z)
theorem thr {m:Nat}(g:Good m)(h1:n*5<m*3)(h2:m*3<=(n+1)*5)(h3:n<300):(m=7/\n+1=5)\/(m=31/\n+1=19)\/(m=127/\n+1=77):=by
 rcases g with rfl | rfl | rfl | rfl<;>omega
theorem bc5 {m:Nat}(g:Good m)(h1:n*5<m*3)(h2:m*3<=(n+1)*5)(h3:n<300):Good (sizeAbove (grown (n+1)) - 1)/\(n+1)*5<(sizeAbove (grown (n+1)) - 1)*3/\sizeAbove (grown (n+1))<=4096:=by
 rcases thr g h1 h2 h3 with⟨_,e⟩ | ⟨_,e⟩ | ⟨_,e⟩<;>rw[e]<;>refine⟨?_,by decide +kernel,by decide +kernel⟩
 ·exact .inr (.inl (by decide +kernel))
 ·exact .inr (.inr (.inl (by decide +kernel)))
 ·exact .inr (.inr (.inr (by decide +kernel)))
theorem bD4 {es:Array En}(T:Tb' t es):t.tooFull=decide (t.mask*3<=es.size*5):=by
 unfold tooFull PySem.SetTable.fill
 rw[T.dum,T.len]
 rfl
theorem stored {S:Addr}{o:Obj}{es es':Array En}{ep:Nat}{t':SetTable}(ho:h.get? S=some o)(hd:o.data=.set es ep t) :
  (h.update S (Obj.putSet es' t')).get? S=some { o with data:=.set es' (ep+1) t' }:=by
 have:=S3 (Obj.putSet es' t') ho (by rw[putSet_of es' t' hd];rfl)
 rw[putSet_of es' t' hd]at this
 exact this
theorem aS3 {S x:Addr}{Q:Bool->Shared->Prop}{hp:Heap}(hup:∀ b o,hp.get? b=some o->s.heap.get? b=some o)(hu:A.units<an6)(hS:aw9 prog w hp s.heap S ks)(hx0:L3 (A6 prog w) hp k x)(hk:aw0 k)(hn:ks.length<300)
  (hq:∀ (b:Bool) (h':Heap) (tk:Nat),s.toks<=tk->Heap.SameBut S s.heap h'->aw9 prog w hp h' S (if k∈ks then ks else k::ks)->Q b { s with heap:=h',toks:=tk }) :
  r6 (t9 prog w) A (setAdd S (.ref x)) Q E s:=by
 have hx:=bv9 hx0 hup
 unfold setAdd
 refine F0 (b9 (wpAny_pyHash_tuple hu hx ?_))
 obtain⟨o,es,ep,t,ho,hex,hd,T,hsz,hnd,hok,hto,hfrom⟩:=hS
 unfold setAddHashed
 refine F0 ?_
 unfold setAddHashedIn
 refine b9 (U8 (s:={ s with toks:=s.toks+(k.length+1) }) ho hd T.fits ?_)
 dsimp only
 rw[bd0]
 simp only[m8,if_false]
 by_cases hmem:k∈ks
 ·-- it is there
  obtain⟨e,he,hek⟩:=hto k hmem
  obtain⟨i,hi⟩:=o7.mp he
  rw[d7]at hi
  have huq:∀ (c:Nat) (e':En),es[c]?=some e'->e'.1=e.1->c=i:=fun c e' hc hh=>by
   apply Classical.byContradiction
   intro hci
   have hkey:∀ (c:Nat),c<es.size->∃ kk,kk∈ks/\∃ e,es[c]?=some e/\am5 prog w hp kk e:=fun c hc=>by
    have e:=getElem?_pos es c hc
    obtain⟨kk,h1,h2⟩:=hfrom es[c] (by simp)
    exact⟨kk,h1,_,e,h2⟩
   have e'k:am5 prog w hp k e':=by
    obtain⟨kk,h1,h2⟩:=hfrom e' (f9 (by rw[d7];exact hc))
    have h3:=h2
    obtain⟨_,_,_,h4⟩:=h2
    have h5:=hek
    obtain⟨_,_,_,h6⟩:=h5
    have:kk=k:=aW6 (prog:=prog) (w:=w) (hok kk h1) hk (by rw[<- h4,hh,h6])
    rw[<- this]
    exact h3
   have hch:∀ n,n<ks.length->∃ c,c<es.size/\∃ e,es[c]?=some e/\∃ kk,ks[n]?=some kk/\am5 prog w hp kk e:=fun n hn'=>by
    obtain⟨e,he,hek⟩:=hto ks[n] (ab5 hn')
    obtain⟨c,hc⟩:=o7.mp he
    rw[d7]at hc
    exact⟨c,(getElem?_eq_some_iff.mp hc).1,e,hc,ks[n],g6 hn',hek⟩
   have:=aN3 (es.size - 1) ks.length (fun n=>if hn':n<ks.length then (let c0:=Classical.choose (hch n hn');let c1:=if c0=c then i else c0;if c1<c then c1 else c1 - 1) else 0) ?_ ?_
   ·have hc':=(getElem?_eq_some_iff.mp hc).1
    omega
   ·intro n hn'
    dsimp only
    rw[dif_pos hn']
    have hp:=Classical.choose_spec (hch n hn')
    generalize Classical.choose (hch n hn')=c0 at hp
    obtain⟨p1,_⟩:=hp
    have hc':=(getElem?_eq_some_iff.mp hc).1
    have hi':=(getElem?_eq_some_iff.mp hi).1
    split<;>split<;>omega
   ·intro n n' hn1 hn2 eqn
    dsimp only at eqn
    rw[dif_pos hn1,dif_pos hn2]at eqn
    have hp:=Classical.choose_spec (hch n hn1)
    have hp':=Classical.choose_spec (hch n' hn2)
    generalize Classical.choose (hch n hn1)=c0 at hp eqn
    generalize Classical.choose (hch n' hn2)=c0' at hp' eqn
    obtain⟨p1,e1,p2,kk,p3,p4⟩:=hp
    obtain⟨p1',e1',p2',kk',p3',p4'⟩:=hp'
    have same:kk=kk':=by
     have r1:am5 prog w hp kk (if c0=c then e else e1):=by
      split
      ·rename_i hcc
       subst hcc
       rw[hc]at p2
       cases p2
       have:=p4.inj e'k
       rw[this]
       exact hek
      ·exact p4
     have r2:am5 prog w hp kk' (if c0'=c then e else e1'):=by
      split
      ·rename_i hcc
       subst hcc
       rw[hc]at p2'
       cases p2'
       have:=p4'.inj e'k
       rw[this]
       exact hek
      ·exact p4'
     have g1:es[if c0=c then i else c0]?=some (if c0=c then e else e1):=by split<;>assumption
     have g2:es[if c0'=c then i else c0']?=some (if c0'=c then e else e1'):=by split<;>assumption
     have ne1:(if c0=c then i else c0)≠c:=by split<;>omega
     have ne2:(if c0'=c then i else c0')≠c:=by split<;>omega
     have eqc:(if c0=c then i else c0)=(if c0'=c then i else c0'):=by
      generalize (if c0=c then i else c0)=u at eqn ne1
      generalize (if c0'=c then i else c0')=v at eqn ne2
      split at eqn<;>split at eqn<;>omega
     rw[eqc,g2]at g1
     rw[<- Option.some.inj g1]at r1
     exact r1.inj r2
    subst same
    obtain⟨q1,q2⟩:=c9.mp p3
    obtain⟨q3,q4⟩:=c9.mp p3'
    rcases Z8 n n' with z | z | z
    ·exact absurd (q2.trans q4.symm) (x6.mp hnd n n' q1 q3 z)
    ·exact z
    ·exact absurd (q4.trans q2.symm) (x6.mp hnd n' n q3 q1 z)
  refine b9 (aA2 (s:={ s with toks:=s.toks+(k.length+1) }) hu ho hd T hx hi (hek.up hup) (fun e he=>?_) huq ?_)
  ·obtain⟨kk,_,h2⟩:=hfrom e he
   exact⟨kk,h2.up hup⟩
  ·refine i8 ?_
   have:=hq false s.heap (s.toks+(k.length+1)) (W0 _ _) (Heap.SameBut.refl S s.heap)
   rw[if_pos hmem]at this
   exact this ⟨o,es,ep,t,ho,hex,hd,T,hsz,hnd,hok,hto,hfrom⟩
 ·-- it is new
  have hh:∀ e∈es.toList,e.1≠u7 (A6 prog w) k:=fun e he z=>by
   obtain⟨kk,h1,h2⟩:=hfrom e he
   obtain⟨_,_,_,h4⟩:=h2
   have:kk=k:=aW6 (prog:=prog) (w:=w) (hok kk h1) hk (by rw[<- h4,z])
   exact hmem (this ▸ h1)
  refine b9 (aH0 (s:={ s with toks:=s.toks+(k.length+1) }) ho hd T hh fun n hn1 hfr hle hocc=>?_)
  dsimp only
  refine b9 (U8 (s:={ s with toks:=s.toks+(k.length+1) }) ho hd T.fits ?_)
  dsimp only
  obtain⟨hp1,T1⟩:=T.put (h:=u7 (A6 prog w) k) (x:=Value.ref x) hn1 hfr hle hocc
  generalize hpt:t.put (it t n (t.probeStart (u7 (A6 prog w) k))).j=tp at hp1 T1 ⊢
  have hled:tp.1.mask=t.mask:=by
   rw[<- hpt]
   unfold SetTable.put
   rfl
  obtain⟨t1,p⟩:=tp
  dsimp only at hp1 T1 hled ⊢
  have hsz1:(insertAt es p (u7 (A6 prog w) k,Value.ref x)).size=es.size+1:=ap9 hp1
  have fits1:(insertAt es p (u7 (A6 prog w) k,Value.ref x)).size<=j5:=by rw[hsz1,hsz,E4];omega
  have made:∀ (h':Heap) (o':Obj) (es':Array En) (ep':Nat) (t':SetTable),Heap.SameBut S s.heap h'->h'.get? S=some o'->o'.ExactSet->o'.data=.set es' ep' t'->Tb t' es' ->
    es'.toList.Perm (insertAt es p (u7 (A6 prog w) k,Value.ref x)).toList->aw9 prog w hp h' S (k::ks):=fun h' o' es' ep' t' hsb ho' hex' hd' T' hpm=>by
   have hmemE:∀ e,e∈es'.toList↔e=(u7 (A6 prog w) k,Value.ref x)\/e∈es.toList:=fun e=>by rw[hpm.mem_iff];exact bH7 hp1 e
   have hnew:am5 prog w hp k (u7 (A6 prog w) k,Value.ref x):=⟨x,rfl,hx0,rfl⟩
   refine⟨o',es',ep',t',ho',hex',hd',T',?_,E5.mpr ⟨hmem,hnd⟩,fun kk hkk=>?_,fun kk hkk=>?_,fun e he=>?_⟩
   ·have:=hpm.length_eq
    rw[k8,k8,hsz1,hsz]at this
    rw[this,t4]
   ·rcases d4.mp hkk with rfl | hkk
    ·exact hk
    ·exact hok kk hkk
   ·rcases d4.mp hkk with rfl | hkk
    ·exact⟨_,(hmemE _).mpr (.inl rfl),hnew⟩
    ·obtain⟨e,he,hek⟩:=hto kk hkk
     exact⟨e,(hmemE e).mpr (.inr he),hek⟩
   ·rcases(hmemE e).mp he with rfl | he
    ·exact⟨k,g9,hnew⟩
    ·obtain⟨kk,h1,h2⟩:=hfrom e he
     exact⟨kk,d3 _ h1,h2⟩
  have rest:∀ b:Bool,r6 (t9 prog w) A (do
    storeSet S (insertAt es p (u7 (A6 prog w) k,Value.ref x)) (if b=true then t1 else { t1 with plain:=false })
    if (!false && (if b=true then t1 else { t1 with plain:=false }).tooFull)=true then do
     setRelay S (grown (es.size+1))
     pure true
    else pure true) Q E { s with toks:=s.toks+(k.length+1) }:=fun b=>by
   have T2:Tb' (if b=true then t1 else { t1 with plain:=false }) (insertAt es p (u7 (A6 prog w) k,Value.ref x)):=by
    split
    ·exact T1
    ·exact T1.plain false
   have hm2:(if b=true then t1 else { t1 with plain:=false }).mask=t.mask:=by split<;>exact hled
   generalize (if b=true then t1 else { t1 with plain:=false })=t2 at T2 hm2
   refine b9 (wpAny_storeSet_of (s:={ s with toks:=s.toks+(k.length+1) }) ho hd ?_ fits1)
   have ho1:=stored (es':=insertAt es p (u7 (A6 prog w) k,Value.ref x)) (t':=t2) ho hd
   have hsb1:=Heap.SameBut.update s.heap S (Obj.putSet (insertAt es p (u7 (A6 prog w) k,Value.ref x)) t2)
   rw[bD4 T2]
   simp only[bd9,Bool.true_and,decide_eq_true_eq]
   by_cases hful:t2.mask*3<=(insertAt es p (u7 (A6 prog w) k,Value.ref x)).size*5
   ·rw[if_pos hful]
    rw[hsz1,hm2]at hful
    obtain⟨g1,g2,g3⟩:=bc5 T.good T.nf hful (by rw[hsz];exact hn)
    unfold setRelay
    refine b9 (b9 (U8 (s:={ s with heap:=s.heap.update S (Obj.putSet (insertAt es p (u7 (A6 prog w) k,Value.ref x)) t2),toks:=s.toks+(k.length+1) }) ho1 rfl T2.fits ?_))
    dsimp only
    rw[if_neg (by rw[E4];omega)]
    obtain⟨t3,order,hl3,T3,hpm3⟩:=bI0 (M:=sizeAbove (grown (es.size+1)) - 1) (finger:=t2.finger) (moves:=t2.movedTo (sizeAbove (grown (es.size+1)) - 1)) (led:=t2.led) (plain:=t2.plain) (es:=insertAt es p (u7 (A6 prog w) k,Value.ref x)) g1 (by rw[hsz1];exact g2)
    have hrel:t2.relaid ((insertAt es p (u7 (A6 prog w) k,Value.ref x)).map (·.1)) (grown (es.size+1))=some (t3,order):=by
     unfold relaid
     exact hl3
    rw[hrel]
    have hsz3:(order.filterMap ((insertAt es p (u7 (A6 prog w) k,Value.ref x))[·]?)).size=(insertAt es p (u7 (A6 prog w) k,Value.ref x)).size:=by
     rw[<- k8,hpm3.length_eq,k8]
    refine b9 ?_
    show r6 _ _ (if ((order.filterMap ((insertAt es p (u7 (A6 prog w) k,Value.ref x))[·]?)).size != (insertAt es p (u7 (A6 prog w) k,Value.ref x)).size)=true then _ else _) _ _ _
    rw[if_neg (by rw[hsz3];simp)]
    first | refine i8 ?_ | refine b9 (i8 (i8 ?_))
    dsimp only
    refine wpAny_storeSet_of (s:={ s with heap:=s.heap.update S (Obj.putSet (insertAt es p (u7 (A6 prog w) k,Value.ref x)) t2),toks:=s.toks+(k.length+1) }) ho1 rfl ?_ (by rw[hsz3];exact fits1)
    refine i8 ?_
    have ho2:=stored (es':=order.filterMap ((insertAt es p (u7 (A6 prog w) k,Value.ref x))[·]?)) (t':=t3) ho1 rfl
    have hsb2:=hsb1.trans (Heap.SameBut.update _ S (Obj.putSet (order.filterMap ((insertAt es p (u7 (A6 prog w) k,Value.ref x))[·]?)) t3))
    have:=hq true _ (s.toks+(k.length+1)) (W0 _ _) hsb2
    rw[if_neg hmem]at this
    exact this (made _ _ _ _ _ hsb2 ho2 hex rfl T3 hpm3)
   ·rw[if_neg hful]
    refine i8 ?_
    have:=hq true _ (s.toks+(k.length+1)) (W0 _ _) hsb1
    rw[if_neg hmem]at this
    exact this (made _ _ _ _ _ hsb1 ho1 hex rfl (T2.full (by omega)) (List.Perm.refl _))
  cases hpl:t1.plain with
  | true =>
   rw[if_pos rfl]
   refine b9 (au3 (s:={ s with toks:=s.toks+(k.length+1) }) hx ?_)
   exact rest true
  | false =>
   rw[if_neg j7]
   refine b9 (i8 ?_)
   exact rest true
def Z0 (ks:List (List Int))(k:List Int):List (List Int):=if k∈ks then ks else k::ks
theorem bw8 (ks:List (List Int))(k:List Int):(Z0 ks k).length<=ks.length+1:=by unfold Z0;split<;>simp
theorem ay8:∀ (l ks:List (List Int)),(l.foldl Z0 ks).length<=ks.length+l.length
 | [],ks=>by simp
 | k::l,ks=>by
  rw[ae5]
  have h1:=ay8 l (Z0 ks k)
  have h2:=bw8 ks k
  rw[t4]
  omega
theorem au4:∀ (l ks:List (List Int)),(l.foldl Z0 ks).length=ks.length+l.length↔l.Nodup/\∀ x∈l,x∉ks
 | [],ks=>by simp
 | k::l,ks=>by
  rw[ae5,t4,E5]
  by_cases h:k∈ks
  ·have e:Z0 ks k=ks:=by unfold Z0;rw[if_pos h]
   rw[e]
   have:=ay8 l ks
   constructor
   ·intro q;omega
   ·rintro⟨_,q⟩
    exact absurd h (q k g9)
  ·have e:Z0 ks k=k::ks:=by unfold Z0;rw[if_neg h]
   rw[e]
   have:=au4 l (k::ks)
   rw[t4]at this
   constructor
   ·intro q
    obtain⟨q1,q2⟩:=this.mp (by omega)
    refine⟨⟨fun hk=>q2 k hk g9,q1⟩,fun x hx=>?_⟩
    rcases d4.mp hx with rfl | hx
    ·exact h
    ·exact fun z=>q2 x hx (d3 _ z)
   ·rintro⟨⟨q1,q2⟩,q3⟩
    have:=this.mpr ⟨q2,fun x hx z=>by
     rcases d4.mp z with rfl | z
     ·exact q1 hx
     ·exact q3 x (d3 _ hx) z⟩
    omega
theorem aR2 {R:Result->Shared->Prop}{I:Addr}{wr:List Addr}{G:Array bC0->Array bC0->Prop}{P:Nat->Value->Prop}{St:Nat->Shared->Prop}
  (W:WalksS prog w A.in1 I fp wr G n P St)(hu:A.in1.units<an6)(S:Addr)(hSf:S∉fp)(hp:Heap)(hS0:hp.get? S=none)(hw0:∀ b∈wr,hp.get? b=none)(keys:List (List Int))(hn:keys.length=n)(hb:n<300)
  (hkey:∀ i v,P i v->∃ x k,v=.ref x/\keys[i]?=some k/\aw0 k/\L3 (A6 prog w) hp k x) :
  ∀ (c i:Nat) (s:Shared),n - i=c->i<=n->St i s->(∀ b o,hp.get? b=some o->s.heap.get? b=some o)->aw9 prog w hp s.heap S ((keys.take i).foldl Z0 []) ->
   (∀ s',Moved (S::wr) G s s'->aw9 prog w hp s'.heap S (keys.foldl Z0 [])->R (.ok (.ret .none)) s') ->
   am1 (t9 prog w) A (.builtin "set.update.loop" ⟨[.ref S,.ref I],[]⟩) R s:=by
 have hSw:S∉wr:=fun h=>hSf (W.sub _ h)
 have hsub:∀ b∈wr,b∈S::wr:=fun b hb=>d3 _ hb
 have nw:∀ b o,hp.get? b=some o->b∉wr:=fun b o e hm=>by rw[hw0 b hm]at e;cases e
 have nS:∀ b o,hp.get? b=some o->b≠S:=fun b o e hm=>by rw[hm,hS0]at e;cases e
 have setKept:∀ {s s':Shared} {ks:List (List Int)},aw9 prog w hp s.heap S ks->(∀ b o,b∉wr->s.heap.get? b=some o->s'.heap.get? b=some o)->aw9 prog w hp s'.heap S ks:=fun {s s' ks} hS hk=>by
  obtain⟨o,es,ep,t,ho,rest⟩:=hS
  exact⟨o,es,ep,t,hk S o hSw ho,rest⟩
 intro c
 induction c with
 | zero =>
  intro i s hk hi hst hup hS hR
  have hin:i=n:=by omega
  subst hin
  refine M7 PyProof.Rows.F.entry_set_update_loop ?_
  rw[Around.under_plainId PyProof.Rows.F.plain_set_update_loop _]
  show r6 _ A.in1 (aL3 (.ref I) >>= _) _ _ s
  refine b9 (W.done s _ _ hst fun s' hm=>?_)
  show r6 _ A.in1 (ret Value.none) _ _ s'
  refine i8 (hR s' (hm.mono hsub) ?_)
  have:=setKept hS hm.heap
  rw[k9 (by omega)]at this
  exact this
 | succ c ih =>
  intro i s hk hi hst hup hS hR
  have hlt:i<n:=by omega
  refine M7 PyProof.Rows.F.entry_set_update_loop ?_
  rw[Around.under_plainId PyProof.Rows.F.plain_set_update_loop _]
  show r6 _ A.in1 (aL3 (.ref I) >>= _) _ _ s
  refine b9 (W.item i s _ _ hlt hst fun v s' hP hst' hm=>?_)
  obtain⟨x,k,rfl,hki,hok,hx⟩:=hkey i v hP
  have hup':∀ b o,hp.get? b=some o->s'.heap.get? b=some o:=fun b o e=>hm.heap b o (nw b o e) (hup b o e)
  have hS':=setKept (s':=s') hS hm.heap
  show r6 _ A.in1 (aG4 [Value.ref x] (setAdd S (.ref x)) >>= _) _ _ s'
  refine b9 (F0 ?_)
  have hlen:((keys.take i).foldl Z0 []).length<300:=by
   have:=ay8 (keys.take i) []
   rw[q8]at this
   simp only[aY8]at this
   omega
  refine aS3 hup' hu hS' hx hok hlen fun b h' tk htk hsb hS2=>?_
  have hS3:aw9 prog w hp h' S ((keys.take (i+1)).foldl Z0 []):=by
   rw[C8,hki,List.foldl_append]
   exact hS2
  refine i8 ⟨af1 PyProof.Rows.F.plain_set_update_loop _,ih (i+1) _ (by omega) hlt (W.frame _ s' _ _ hst' htk fun b hb o e=>?_) (fun b o e=>?_) hS3 fun s'' hm'' hS''=>?_⟩
  ·rw[hsb.2 b (fun h:b=S=>hSf (h ▸ hb))];exact e
  ·show h'.get? b=some o
   rw[hsb.2 b (nS b o e)]
   exact hup' b o e
  ·refine hR s'' (Moved.trans W.gtrans ((hm.mono hsub).then_heap htk fun b o hb e=>?_) hm'') hS''
   rw[hsb.2 b (fun h:b=S=>hb (h ▸ g9))];exact e
set_option maxRecDepth 100000 in
set_option maxHeartbeats 3200000 in
theorem aS2 {l:Addr}{items:Array Value}{keys:List (List Int)}(hh:A.handled=none)(hu:A.units+8<an6)(hl:s.heap.IsList l items)(hn:keys.length=items.size)(hb:items.size<300)
  (hkey:∀ (i:Nat) (v:Value),items[i]?=some v->∃ x k,v=.ref x/\keys[i]?=some k/\aw0 k/\L3 (A6 prog w) s.heap k x)
  (h:∀ (h':Heap) (tk:Nat),aw9 prog w s.heap h' s.heap.objs.size (keys.foldl Z0 [])->(∀ b o,s.heap.get? b=some o->h'.get? b=some o)->Q (.ref s.heap.objs.size) { s with heap:=h',toks:=tk }) :
  r6 (t9 prog w) A (call (.type "set") [.ref l]) Q E s:=by
 obtain⟨c,tl,hmro⟩:=F.called_set.mro
 have hmade:=F.called_set.made
 have hsub:=F.called_set.sub
 refine aQ3 (codeAny_of_tree ?_)
 show r6 _ _ (callAny (.type "set") _) _ _ _
 refine i8 ⟨Code.quiet_builtin _ (by decide +kernel),M7 F.entry_type_call ?_⟩
 rw[Around.under_plain (weight_type_call_type "set" [.ref l] []) rfl]
 have h1:=F.called_set.notType
 have h2:=F.called_set.canCreate
 have hct:=F.typeCall_set_1 (.ref l)
 repeat (any_goals (first | assumption | wp_step))
 refine ac4 (code_set_new_1 (.ref l) (E:=E) (Q₁:=fun obj s₁=>∃ led:Bool,obj=.ref s.heap.objs.size/\s₁={ s with heap:=s.heap.push { cls:=.type "set",dict:=none,data:=.set #[] 0 (.fresh 0 0 led) } }) fun led=>⟨led,rfl,rfl⟩) fun r s₁ hr=>?_
 cases r with
 | error e=>exact hr
 | ok fl =>
  cases fl with
  | ret obj =>
   obtain⟨led,rfl,rfl⟩:=hr
   have hS:(s.heap.push { cls:=.type "set",dict:=none,data:=.set #[] 0 (.fresh 0 0 led) }).get? s.heap.objs.size=some { cls:=.type "set",dict:=none,data:=.set #[] 0 (.fresh 0 0 led) }:=j0 _ rfl
   have hT:Shared.TypeIs { s with heap:=s.heap.push { cls:=.type "set",dict:=none,data:=.set #[] 0 (.fresh 0 0 led) } } (.ref s.heap.objs.size) "set":=⟨_,hS,rfl⟩
   have hli:=F.called_set.init.lookup
   have hbi:=F.called_set.init.bind (.ref s.heap.objs.size)
   repeat (any_goals (first | assumption | wp_step))
   refine ac4 (az9 (R:=wants (fun r s₂=>r=.none/\∃ h' tk,s₂={ s with heap:=h',toks:=tk }/\aw9 prog w s.heap h' s.heap.objs.size (keys.foldl Z0 [])/\(∀ b o,s.heap.get? b=some o->h'.get? b=some o)) E) F.called_set.init.plain F.entry_set_init (check_set_init_1 hT ?_)) fun r₂ s₂ hr₂=>?_
   ·obtain⟨ol,hol,hcl,nl,hdl⟩:=hl
    obtain⟨ocls,odict,odata,oslots⟩:=ol
    simp only at hcl hdl
    subst hcl;subst hdl
    have hol':(s.heap.push { cls:=.type "set",dict:=none,data:=.set #[] 0 (.fresh 0 0 led) }).get? l=some { cls:=.type "list",dict:=odict,data:=.seq items nl,slots:=oslots }:=c5 _ hol
    have hsls:=F.sub_list_set
    have hslf:=F.sub_list_frozenset
    have hne:(Value.type "list" == Value.type "dict")=false:=by decide
    have hl1:(s.heap.push { cls:=.type "set",dict:=none,data:=.set #[] 0 (.fresh 0 0 led) }).IsList l items:=⟨_,hol',rfl,nl,rfl⟩
    unfold Builtin.«set.__init__» noKeywords Builtin.Frozenset.updateFrom
    generalize hPI:pyIter=PI
    wp_walk
    subst hPI
    refine K2 hl1 ?_
    refine b9 (wpAny_runValue ?_)
    have hlS:l<s.heap.objs.size:=c8 hol
    have hh3:A.in1.in1.in1.handled=none:=by simp[hh]
    have hneI:l≠(s.heap.push { cls:=.type "set",dict:=none,data:=.set #[] 0 (.fresh 0 0 led) }).objs.size:=by
     rw[B1];exact k7 (A4 hlS)
    have hSf:s.heap.objs.size∉[(s.heap.push { cls:=.type "set",dict:=none,data:=.set #[] 0 (.fresh 0 0 led) }).objs.size,l]:=by
     rw[B1];simp only[d4,C9,K8,or_false,not_or]
     exact⟨k7 (W1 _),L4 hlS⟩
    refine aR2 ((Walks.list hh3 _ l hneI items).toS) ?hu s.heap.objs.size hSf s.heap ?hn ?hw keys hn hb hkey (items.size - 0) 0 _ (by omega) (u4 _)
     ⟨⟨_,j0 _ rfl,rfl,rfl⟩,(hl1.push _)⟩ (fun b o e=>c5 _ (c5 _ e)) ?hS0 ?hR
    case hu=>show A.units+1+1+1<an6;omega
    case hn=>exact av2 (d5 _)
    case hw =>
     intro b hb
     have e:b=(s.heap.push { cls:=.type "set",dict:=none,data:=.set #[] 0 (.fresh 0 0 led) }).objs.size:=by simpa using hb
     rw[e]
     exact av2 (by rw[B1];exact Z7 _)
    case hS0 =>
     have hget:((s.heap.push { cls:=.type "set",dict:=none,data:=.set #[] 0 (.fresh 0 0 led) }).push { cls:=.type "list_iterator",data:=.fields #[.ref l,.int 0 0] }).get? s.heap.objs.size
       = some { cls:=.type "set",dict:=none,data:=.set #[] 0 (.fresh 0 0 led) }:=c5 _ hS
     refine⟨_,_,_,_,hget,⟨rfl,rfl,rfl⟩,rfl,⟨rfl,rfl,?_,?_,.inl rfl,by show 0*5<7*3;decide,?_⟩,rfl,aw2,(fun _ h=>nomatch h),(fun _ h=>nomatch h),(fun _ h=>nomatch h)⟩
     ·intro i j a b hij ea
      simp[SetTable.fresh]at ea
     ·intro i j ea
      simp[SetTable.fresh]at ea
     ·intro i e ea
      simp at ea
    case hR =>
     intro s' hm hS'
     obtain⟨h',g',d',tk',os'⟩:=s'
     have eg:g'=s.gens:=hm.gens
     have ed:d'=s.drawn:=hm.drawn
     have eo:os'=s.os:=hm.os
     subst eg;subst ed;subst eo
     show r6 _ _ _ _ _ _
     refine i8 ?_
     show r6 _ _ (ret Value.none) _ _ _
     refine i8 ⟨rfl,h',tk',rfl,hS',fun b o e=>?_⟩
     have hlt:=c8 e
     have hb1:b≠s.heap.objs.size:=k7 hlt
     have hb2:b≠(s.heap.push { cls:=.type "set",dict:=none,data:=.set #[] 0 (.fresh 0 0 led) }).objs.size:=by
      rw[B1];exact k7 (A4 hlt)
     exact hm.heap b o (by simp only[d4,C9,K8,or_false,not_or];exact⟨hb1,hb2⟩) (c5 _ (c5 _ e))
   ·cases r₂ with
    | error e=>exact hr₂
    | ok fl₂ =>
     cases fl₂ with
     | ret r =>
      obtain⟨rfl,h',tk,rfl,hS',hk'⟩:=hr₂
      repeat (any_goals (first | assumption | wp_step))
      exact h _ _ hS' hk'
     | _=>exact hr₂.elim
  | _=>exact hr.elim
theorem bc1 {S:Addr}{hp:Heap}(hS:aw9 prog w hp s.heap S ks)(hn:ks.length<300)(h:∀ t tk,Q (.int ks.length t) { s with toks:=tk }) :
  r6 (t9 prog w) A (call (.builtin "len") [.ref S]) Q E s:=by
 obtain⟨o,es,ep,t,ho,hex,hd,T,hsz,_⟩:=hS
 refine call_len_set ho hex hd T.fits (by omega) ?_
 rw[hsz]
 exact h _ _
end Sett
namespace L2
open PySem PySem.Spec PyProof.Rows
def C0 (K:W.Frag)(H:Hp)(ys:List V)(ks:List (List Int)):Prop:=ae6 (fun y k=>∃ a,y=V.ref a/\SqT K H a (k.map V.int)) ys ks
theorem C0.len {K:W.Frag}(t:C0 K H ys ks):ys.length=ks.length:=Paired.length t
theorem C0.get {K:W.Frag}:∀ {ys:List V} {ks:List (List Int)} {i:Nat} {y:V},C0 K H ys ks->ys[i]?=some y->∃ a k,y=V.ref a/\ks[i]?=some k/\SqT K H a (k.map V.int)
 | _,_,_,_,.nil,e=>by simp at e
 | _,_,0,_,.cons r _,e=>by
  simp at e
  subst e
  obtain⟨a,h1,h2⟩:=r
  exact⟨a,_,h1,rfl,h2⟩
 | _,_,i+1,y,.cons _ t,e=>by
  obtain⟨a,k,h1,h2,h3⟩:=C0.get (i:=i) (y:=y) t (by simpa using e)
  exact⟨a,k,h1,by simpa using h2,h3⟩
theorem C0.same {K:W.Frag}(hs:∀ b o,H b=some o->H' b=some o):∀ {ys:List V} {ks:List (List Int)},C0 K H ys ks->C0 K H' ys ks
 | _,_,.nil=>.nil
 | _,_,.cons r t=>by
  obtain⟨a,h1,h2⟩:=r
  refine .cons ⟨a,h1,?_⟩ (C0.same hs t)
  rcases h2 with(h | ⟨o,h⟩) | h
  ·exact .inl (.inl (hs _ _ h))
  ·exact .inl (.inr ⟨o,hs _ _ h⟩)
  ·exact .inr h
theorem C0.append {K:W.Frag}:∀ {ys zs:List V} {ks ls:List (List Int)},C0 K H ys ks->C0 K H zs ls->C0 K H (ys++zs) (ks++ls)
 | _,_,_,_,.nil,s=>s
 | _,_,_,_,.cons r t,s=>.cons r (C0.append t s)
theorem aW3:∀ {k:List Int} {its:List Value},D6 (k.map V.int) its->ItemsAre (A6 prog w) k its
 | [],_,.nil=>.nil
 | i::k,_,.cons r t=>by
  obtain⟨tk,rfl⟩:=r
  exact .cons (by simp[A6,Value.isInt]) (aW3 t)
theorem bD3 (I:Inv X pins σ H s)(h:SqT X.K H a (k.map V.int)):L3 (A6 X.prog X.w) s.heap k a:=by
 obtain⟨its,r,⟨o,ho,hc,n,hd⟩,_⟩:=I.tuple h
 exact⟨o,its.toArray,n,ho,hc,hd,by simpa using aW3 r⟩
theorem ad0 (I:Inv X pins σ H s):∀ {ys:List V} {ks:List (List Int)} {us:List Value},C0 X.K H ys ks->D6 ys us->ae6 (fun u k=>∃ a,u=Value.ref a/\L3 (A6 X.prog X.w) s.heap k a) us ks
 | _,_,_,.nil,.nil=>.nil
 | _,_,_,.cons r t,.cons q v=>by
  obtain⟨a,rfl,h⟩:=r
  cases q
  exact .cons ⟨a,rfl,bD3 I h⟩ (ad0 I t v)
theorem af8 {α β:Type}{R:α->β->Prop}:∀ {l:List α} {m:List β} {i:Nat} {x:α},ae6 R l m->l[i]?=some x->∃ y,m[i]?=some y/\R x y
 | _,_,_,_,.nil,e=>by simp at e
 | _,_,0,_,.cons r _,e=>by simp at e;subst e;exact⟨_,rfl,r⟩
 | _,_,i+1,x,.cons _ t,e=>by
  obtain⟨y,h1,h2⟩:=af8 (i:=i) (x:=x) t (by simpa using e)
  exact⟨y,by simpa using h1,h2⟩
theorem av7 {α β:Type}{R:α->β->Prop}{l l':List α}(p:l'.Perm l):∀ {m:List β},ae6 R l m->∃ m',m'.Perm m/\ae6 R l' m':=by
 induction p with
 | nil=>intro m h;exact⟨m,List.Perm.refl _,h⟩
 | cons x _ ih =>
  intro m h
  cases h with
  | cons r t =>
   obtain⟨m',p',h'⟩:=ih t
   exact⟨_::m',p'.cons _,.cons r h'⟩
 | swap x y l =>
  intro m h
  cases h with
  | cons r t =>
   cases t with
   | cons r' t'=>exact⟨_::_::_,List.Perm.swap _ _ _,.cons r' (.cons r t')⟩
 | trans _ _ ih1 ih2 =>
  intro m h
  obtain⟨m1,p1,h1⟩:=ih2 h
  obtain⟨m2,p2,h2⟩:=ih1 h1
  exact⟨m2,p2.trans p1,h2⟩
theorem aj5 {α β:Type}{R:α->β->Prop}:∀ {l:List α} {m:List β},ae6 R l m->ae6 (fun b a=>R a b) m l
 | _,_,.nil=>.nil
 | _,_,.cons r t=>.cons r (aj5 t)
theorem aC1 {α β:Type}{R S:α->β->Prop}(f:∀ a b,R a b->S a b):∀ {l:List α} {m:List β},ae6 R l m->ae6 S l m
 | _,_,.nil=>.nil
 | _,_,.cons r t=>.cons (f _ _ r) (aC1 f t)
theorem av9:U2 X (.builtin "sorted") (fun xs H Q=>∃ p ys ks,xs=[.ref p]/\SqL X.K H p ys/\C0 X.K H ys ks/\(∀ k∈ks,k≠[]) /\
  ∀ l zs ks',H l=none->ks'.Perm ks->ks'.Pairwise (fun a b=>Tim.N5 b a=false)->C0 X.K (upd H l (.lst zs)) zs ks'->Q (.ref l) (upd H l (.lst zs))):=by
 intro pins s σ H xs us Q I r h
 obtain⟨p,ys,ks,rfl,hq,ht,hne,q⟩:=h
 obtain⟨u,rfl,rx⟩:=vals1 r
 cases rx
 obtain⟨its,r',pl,hz⟩:=I.list hq
 have hlen:=r'.length
 have hk:=ad0 I ht r'
 have hv:∀ v∈its,∃ i k,Tim.IsK X.prog X.w s.heap (i::k) v:=fun v hv=>by
  obtain⟨j,hj⟩:=o7.mp hv
  obtain⟨k,h1,a,rfl,h2⟩:=af8 hk hj
  cases k with
  | nil=>exact absurd rfl (hne [] (f9 h1))
  | cons i k=>exact⟨i,k,a,rfl,h2⟩
 refine Tim.aG8 pl.isList (by omega) hv fun out h' n hp hs kp e=>?_
 obtain⟨zs,pz,rz⟩:=av7 hp (aj5 r')
 have rz':D6 zs out:=aj5 rz
 have hzl:zs.length<=j5:=by rw[pz.length_eq];exact hz
 have hfr:H (s.heap.objs.size+1)=none:=I.hok.fresh (Z7 _)
 have keepS:∀ b o,H b=some o->upd H (s.heap.objs.size+1) (.lst zs) b=some o:=fun b o e=>by rw[r9 (o8 e hfr)];exact e
 refine⟨.ref (s.heap.objs.size+1),upd H (s.heap.objs.size+1) (.lst zs),I.laid (t':=s.toks) kp (Z7 _) (show U1 X.prog X.w _ h' _ (.lst zs) from ⟨hzl,out,n,rz',e⟩),rfl,?_⟩
 obtain⟨ks',pk,hk'⟩:=av7 pz (show ae6 (fun y k=>∃ a,y=V.ref a/\SqT X.K H a (k.map V.int)) ys ks from ht)
 refine q _ zs ks' hfr pk ?_ (C0.same keepS hk')
 have hko:=ad0 I (show C0 X.K H zs ks' from hk') rz'
 have eq:ks'=out.map (Tim.W3 X.prog X.w s.heap):=by
  clear hs hp rz rz' hk' pk e
  induction hko with
  | nil=>rfl
  | cons r t ih =>
   obtain⟨a,rfl,hka⟩:=r
   rw[p7,Tim.V3 ⟨a,rfl,hka⟩,<- ih]
 rw[eq,P4]
 exact hs
def bd2 (P:Program)(w:World)(S:Addr)(n:Nat):HO:=.ext fun h=>∃ hk ks,ks.length=n/\n<300/\Sett.aw9 P w hk h S ks
theorem aY0 (hc:X.calm=true)(hu:X.A.units+8<an6):U2 X (.type "set") (fun xs H Q=>∃ p ys ks,xs=[.ref p]/\SqL X.K H p ys/\C0 X.K H ys ks/\(∀ k∈ks,Sett.aw0 k)/\ks.length<300 /\
  ∀ S,H S=none->Q (.ref S) (upd H S (bd2 X.prog X.w S (ks.foldl Sett.Z0 []).length))):=by
 intro pins s σ H xs us Q I r h
 obtain⟨p,ys,ks,rfl,hq,ht,hok,hb,q⟩:=h
 obtain⟨u,rfl,rx⟩:=vals1 r
 cases rx
 obtain⟨its,r',pl,hz⟩:=I.list hq
 have hlen:=r'.length
 have hk:=ad0 I ht r'
 have hkl:=ht.len
 refine Sett.aS2 (keys:=ks) (I.ok.hd hc) hu pl.isList (by simp;omega) (by simp;omega) (fun i v hv=>?_) fun h' tk hS kp=>?_
 ·obtain⟨k,h1,a,rfl,h2⟩:=af8 hk (by simpa using hv)
  exact⟨a,k,rfl,h1,hok k (f9 h1),h2⟩
 ·have hle:=Sett.ay8 ks []
  simp only[aY8]at hle
  refine⟨.ref s.heap.objs.size,_,I.laid (o:=bd2 X.prog X.w s.heap.objs.size (ks.foldl Sett.Z0 []).length) (t':=tk) kp (d5 _) ?_,rfl,q _ (I.hok.fresh (d5 _))⟩
  refine⟨⟨s.heap,ks.foldl Sett.Z0 [],rfl,by omega,hS⟩,?_,fun h1 h2 ⟨hk1,ks1,e1,e2,hS1⟩ hkeep=>⟨hk1,ks1,e1,e2,?_⟩⟩
  ·obtain⟨o,_,_,_,ho,_⟩:=hS
   exact⟨o,ho⟩
  ·obtain⟨o,es,ep,t,ho,rest⟩:=hS1
   exact⟨o,es,ep,t,hkeep o ho,rest⟩
theorem call_len_set:U2 X (.builtin "len") (fun xs H Q=>∃ S n,xs=[.ref S]/\H S=some (bd2 X.prog X.w S n)/\Q (.int n) H):=by
 intro pins s σ H xs us Q I r h
 obtain⟨S,n,rfl,hS,q⟩:=h
 obtain⟨u,rfl,rx⟩:=vals1 r
 cases rx
 obtain⟨⟨hk,ks,e1,e2,hS1⟩,_⟩:=I.hok S _ hS
 refine Sett.bc1 hS1 (by omega) fun t tk=>?_
 exact⟨.int n,H,I.tok _,⟨t,by rw[e1]⟩,q⟩
def F8 (X:Cx)(scope:Scope)(cl:List (Str × Addr))(N':List Str)(s₃:Shared)(H₃:Hp)(fp:List Addr)(xe':Value->Shared->Prop):Cx:=
 { X with N:=N',s₀:=s₃,H₀:=H₃,env:=U9 scope cl s₃.heap.objs.size X.env,outer:=X.stack,ex:=fp,fn:=fun _=>false,pn:=[],xe:=xe' }
def aF6 (env:Env):List (Str × Addr)->Prop
 | []=>True
 | (x,c)::r=>env.cells.lookup x=some c/\aF6 env r
theorem aF6.get {env:Env}:∀ {cl:List (Str × Addr)} {x:Str} {c:Addr},aF6 env cl->cl.lookup x=some c->env.cells.lookup x=some c
 | [],_,_,_,h=>by cases h
 | (y,d)::r,x,c,⟨h1,h2⟩,h=>by
  rw[bZ8]at h
  cases e:x == y with
  | true =>
   rw[e]at h
   cases h
   rw[eq_of_beq e]
   exact h1
  | false =>
   rw[e]at h
   exact aF6.get h2 h
def ar6 (names:List (Str × aL5))(cl:List (Str × Addr)):Bool:=names.all fun y=>y.2 != .cell && (y.2 != .free || (cl.lookup y.1).isSome)
theorem aa3 {env:Env}:∀ {names:List (Str × aL5)} {x:Str} {k:aL5},(names.map fun(n,k)=>if (k == NameKind.free && env.scope.kind == .function && env.kindOf n == some .cell) then (n,NameKind.cell) else (n,k)).lookup x=some k ->
  ∃ k',(x,k')∈names/\(k'=k\/(k'=.free/\k=.cell))
 | [],_,_,h=>by cases h
 | (n,k0)::r,x,k,h=>by
  rw[p7]at h
  have hn:∀ k1,(E6 x ((n,k1)::r.map fun(n,k)=>if (k == NameKind.free && env.scope.kind == .function && env.kindOf n == some .cell) then (n,NameKind.cell) else (n,k)))=some k->(x=n/\k1=k)\/∃ k',(x,k')∈r/\(k'=k\/(k'=.free/\k=.cell)):=fun k1 h=>by
   rw[bZ8]at h
   cases e:x == n with
   | true=>rw[e]at h;cases h;exact .inl ⟨eq_of_beq e,rfl⟩
   | false=>rw[e]at h;exact .inr (aa3 h)
  dsimp only at h
  by_cases hc:(k0 == NameKind.free && env.scope.kind == .function && env.kindOf n == some .cell)=true
  ·rw[if_pos hc]at h
   rcases hn _ h with⟨rfl,rfl⟩ | ⟨k',h1,h2⟩
   ·simp only[D9]at hc
    have e0:k0=.free:=eq_of_beq hc.1.1
    exact⟨k0,g9,.inr ⟨e0,rfl⟩⟩
   ·exact⟨k',d3 _ h1,h2⟩
  ·rw[if_neg hc]at h
   rcases hn _ h with⟨rfl,rfl⟩ | ⟨k',h1,h2⟩
   ·exact⟨k0,g9,.inl rfl⟩
   ·exact⟨k',d3 _ h1,h2⟩
def ag3 (lk:List (Option Nat))(σ:St):St:=lk.map fun o=>o.bind fun j=>(σ[j]?).join
def bA5 (X:Cx)(N':List Str)(lk:List (Option Nat))(scope:Scope)(cl:List (Str × Addr)):Prop:=
 lk.length=N'.length/\∀ (i j:Nat) (x:Str),N'[i]?=some x->lk[i]?=some (some j)->X.N[j]?=some x/\(X.env.scope.names.lookup x=some .cell\/X.env.scope.names.lookup x=some .free)/\(cl.lookup x).isSome=true /\
  ((U9 scope cl 0 X.env).kindOf x=some .cell\/(U9 scope cl 0 X.env).kindOf x=some .free)
theorem aE2 {H3:Hp}{s3:Shared}{h1:Heap}{tk:Nat}{xe':Value->Shared->Prop}{m0:Str->Option Value}
  (I:Inv X pins σ H3 s3)(hf:∀ b∈fp,Q2 X pins H3 b)(hkind:scope.kind=.function)(hcl:aF6 X.env cl)(hfr:ar6 scope.names cl=true)(hlk:bA5 X N' lk scope cl)
  (hn:h1.Ns s3.heap.objs.size m0)(hk:∀ b u,s3.heap.get? b=some u->h1.get? b=some u)(hfs:∀ b∈fp,b<s3.heap.objs.size):Inv (F8 X scope cl N' s3 H3 fp xe') [] (ag3 lk σ) H3 { s3 with heap:=h1,toks:=tk }:=by
 have hC:H3 s3.heap.objs.size=none:=I.hok.fresh (d5 _)
 have hmem:∀ y∈scope.names,y.2≠.cell/\(y.2=.free->(cl.lookup y.1).isSome=true):=fun y hy=>by
  unfold ar6 at hfr
  rw[Q9]at hfr
  have:=hfr y hy
  rw[D9]at this
  refine⟨by simpa using this.1,fun e=>?_⟩
  have h2:=this.2
  rw[e]at h2
  simpa using h2
 have hcell:∀ x c,cl.lookup x=some c->X.env.cells.lookup x=some c:=fun x c e=>hcl.get e
 have clt:∀ x c,cl.lookup x=some c->c<s3.heap.objs.size:=fun x c e=>by
  obtain⟨v,q⟩:=I.cell x c (hcell x c e)
  exact q.lt
 refine⟨⟨I.ok.mod,hkind,I.ok.glob,I.ok.blt,d5 _,fun x y c e1 e2=>I.ok.inj x y c (hcell x c e1) (hcell y c e2),fun x hx=>?_,(fun x c e=>by cases e),I.ok.hd,I.ok.frames,.inl rfl,fun b hb=>?_,fun b o e=>I.bs b o e,A1 I.ok.bsz I.sz,fun b o e hb=>?_,fun b hb z=>?_,I.stack,I.stkFree⟩,
  rfl,I.bare,Un.kept hk,⟨m0,hn,fun i x v e1 e2 e3=>?_⟩,fun x c e=>?_,hC,fun x c e=>?_,(fun p hp=>nomatch hp),I.hok.kept hk,?_⟩
 ·have hx':(relabel scope X.env).names.lookup x=some .cell\/(relabel scope X.env).names.lookup x=some .free:=hx
  have:∃ k',(x,k')∈scope.names/\k'=.free:=by
   rcases hx' with h | h
   ·obtain⟨k',h1,h2⟩:=aa3 h
    rcases h2 with h2 | h2
    ·exact absurd h2 (hmem _ h1).1
    ·exact⟨k',h1,h2.1⟩
   ·obtain⟨k',h1,h2⟩:=aa3 h
    rcases h2 with h2 | h2
    ·exact⟨k',h1,h2⟩
    ·exact⟨k',h1,h2.1⟩
  obtain⟨k',h1,h2⟩:=this
  exact p6.mp ((hmem _ h1).2 h2)
 ·obtain⟨f0,f1,f2,f3,f4,f5⟩:=hf b hb
  exact⟨k7 (hfs b hb),fun x c e=>f4 x c (hcell x c e)⟩
 ·obtain⟨f0,f1,f2,f3,f4,f5⟩:=hf b hb
  rcases f3 with f3 | f3
  ·exact I.ok.noex b o e f3
  ·exact absurd (o9 (c8 e) (A1 I.ok.bsz f3)) (A9 _)
 ·obtain⟨f0,f1,f2,f3,f4,f5⟩:=hf b hb
  rcases d4.mp (I.stkSub b z) with e | e
  ·exact f1 e
  ·exact f2 e
 ·-- a captured name
  have e2':(ag3 lk σ)[i]?=some (some v):=e2
  unfold ag3 at e2'
  rw[p0]at e2'
  cases hq:lk[i]? with
  | none=>rw[hq]at e2';cases e2'
  | some o =>
   rw[hq]at e2'
   have e2'':(o.bind fun j=>(σ[j]?).join)=some v:=Option.some.inj e2'
   cases o with
   | none=>cases e2''
   | some j =>
    obtain⟨q1,q2,q3,q4⟩:=hlk.2 i j x e1 hq
    have hσ:σ[j]?=some (some v):=by
     have z:(σ[j]?).join=some v:=e2''
     cases hh:σ[j]? with
     | none=>rw[hh]at z;cases z
     | some o=>rw[hh]at z;rw[show o=some v from z]
    obtain⟨m,hnX,hl⟩:=I.loc
    obtain⟨u,r,lo⟩:=hl j x v q1 hσ (q2.elim (fun a=>.inr (.inl a)) (fun a=>.inr (.inr a)))
    refine⟨u,r,.inr ?_⟩
    obtain⟨c,hc⟩:=p6.mp q3
    refine⟨q4,c,hc,?_⟩
    have hcX:=hcell x c hc
    rcases lo with⟨k,_⟩ | ⟨_,c',hc',z⟩
    ·have k':X.env.scope.names.lookup x=some .local:=k
     rw[k']at q2
     rcases q2 with q2 | q2<;>cases q2
    ·rw[hcX]at hc'
     cases hc'
     obtain⟨o,ho,hd⟩:=z
     exact⟨o,hk c o ho,hd⟩
 ·obtain⟨v,o,ho,hd⟩:=I.cell x c (hcell x c e)
  exact⟨v,o,hk c o ho,hd⟩
 ·exact I.freeC x c (hcell x c e)
 ·show (ag3 lk σ).length=N'.length
  unfold ag3
  rw[b7]
  exact hlk.1
def PTs (X:Cx)(ifs:List Expr)(t:TT):Prop:=
 ∀ (pins:List (Addr × Obj)) (s:Shared) (σ:St) (H:Hp) (Q:Bool->Hp->Prop),Inv X pins σ H s->t σ H Q->r6 (t9 X.prog X.w) X.A (forIn ifs true fun c r=>if r=true then do let ok <- isTrue c X.env (eval c X.env);pure (ForInStep.yield ok) else pure (ForInStep.yield r)) (TP X pins σ Q) X.xe s
def bL8:TT:=fun _ H Q=>Q true H
theorem P9:PTs X [] bL8:=fun pins s σ H Q I h=>wpAny_tests_nil ⟨H,I,h⟩
theorem ak9 {c:Expr}{t:TT}(h:PT X c t):PTs X [c] t:=fun pins s σ H Q I q=>wpAny_tests_one (h pins s σ H Q I q)
def bp9 (wi:TI)(lk:List (Option Nat))(g:TG)(tt:TT)(te:TE):TE:=fun σ H Q=>wi σ H fun J H1=>∀ D,H1 D=none->∃ W:Nat->Nat->List V->St->Hp->Prop,(∃ m,W 0 m [] (ag3 lk σ) (upd H1 D (.lst [])))/\∀ i m xs σ' H',W i m xs σ' H' ->
 H' D=some (.lst xs)/\((J.stop i H'/\Q (.ref D) H')\/(J.go i H'/\xs.length<j5/\∀ x H'',J.yld i H' x H''->g x σ' H'' fun σ2 H2=>tt σ2 H2 fun b H3 =>
  if b=true then te σ2 H3 fun v H4=>H4 D=some (.lst xs)/\∃ m',m'<m/\W (i+1) m' (xs++[v]) σ2 (upd H4 D (.lst (xs++[v]))) else ∃ m',m'<m/\W (i+1) m' xs σ2 H3))
theorem N0 {elt iter:Expr}{ifs:List Expr}{wi:TI}{g:TG}{tt:TT}(hc:X.calm=true)(hi:PI X tg iter wi)(hclos:aQ6 scope X.env=pure cl)(hkind:scope.kind=.function)
  (hnames:∀ y∈scope.names,y.2=.local->scope.names.lookup y.1=some .local)(hcl:aF6 X.env cl)(hfr:ar6 scope.names cl=true)(hlk:bA5 X N' lk scope cl)
  (hg:∀ s3 H3 fp,PG (F8 X scope cl N' s3 H3 fp fun _ _=>False) tg g)(ht:∀ s3 H3 fp,PTs (F8 X scope cl N' s3 H3 fp fun _ _=>False) ifs tt)(he:∀ s3 H3 fp,PE (F8 X scope cl N' s3 H3 fp fun _ _=>False) elt te)
  (hs:∀ x,an5 iter X.env x=pure x:=by intro _;rfl):PE X (.ListComp elt [⟨tg,iter,ifs,0⟩] scope pos) (bp9 wi lk g tt te):=by
 intro pins s σ H Q I h
 rw[eval_ListComp]
 have hcellN:∀ y∈scope.names,y.2≠.cell:=fun y hy=>by
  unfold ar6 at hfr
  rw[Q9]at hfr
  have:=hfr y hy
  rw[D9]at this
  simpa using this.1
 refine bB5 (use:=none) rfl hs hclos hkind hnames (thn (hi pins s σ H _ I h) fun v s1 h1=>thn h1 fun itv s2 h2=>?_)
 obtain⟨it,fp,tn,J,H2,e,I2,T,st2,f2,q⟩:=h2
 subst e
 refine U7 ?_ (u4 _)
 have hD:H2 s2.heap.objs.size=none:=I2.hok.fresh (d5 _)
 have I3:=I2.lnew (ys:=[]) (its:=[]) (t':=s2.toks) .nil (u4 _)
 obtain⟨W,⟨m0,w0⟩,turn⟩:=q s2.heap.objs.size hD
 have fpl:∀ b∈fp,b<s2.heap.objs.size:=fun b hb=>by
  obtain⟨o,ho,_⟩:=T.obj 0 s2.heap st2 b hb
  exact c8 ho
 refine ae7 hcellN (by intro y hy;cases hy) (fun h1 hns1 hsb1=>?_) hkind
 dsimp only at hns1 hsb1 ⊢
 have e3:s2.heap.push { cls:=.type "list",dict:=none,data:=.seq ([]:List Value).toArray }=s2.heap.push { cls:=.type "list",data:=.seq ([]:List Value).toArray }:=rfl
 generalize hh3:s2.heap.push { cls:=.type "list",dict:=none,data:=.seq ([]:List Value).toArray }=h3 at *
 have I3':Inv X pins σ (upd H2 s2.heap.objs.size (.lst [])) { s2 with heap:=h3,toks:=s2.toks }:=I3
 have size3:h3.objs.size=s2.heap.objs.size+1:=by rw[<- hh3,B1]
 have f3:∀ b∈fp,Q2 X pins (upd H2 s2.heap.objs.size (.lst [])) b:=fun b hb=>by
  obtain⟨f0,fr⟩:=f2 b hb
  exact⟨by rw[r9 (k7 (fpl b hb))];exact f0,fr⟩
 have up:∀ b u,h3.get? b=some u->h1.get? b=some u:=fun b u eb=>by
  rw[hsb1.2 b (k7 (c8 eb))]
  exact c5 _ eb
 have I4:Inv (F8 X scope cl N' { s2 with heap:=h3,toks:=s2.toks } (upd H2 s2.heap.objs.size (.lst [])) fp fun _ _=>False) [] (ag3 lk σ) (upd H2 s2.heap.objs.size (.lst [])) { s2 with heap:=h1,toks:=s2.toks+([]:List (Str × Value)).length }:=
  aE2 (s3:={ s2 with heap:=h3,toks:=s2.toks }) I3' f3 hkind hcl hfr hlk hns1 up fun b hb=>by show b<h3.objs.size;rw[size3];exact A4 (fpl b hb)
 have st4:tn 0 h1:=T.keep 0 s2.heap h1 st2 fun b hb o eb=>up b o (by rw[<- hh3];exact c5 _ eb)
 have hCs:h3.objs.size=(U9 scope cl h3.objs.size X.env).locals:=rfl
 have stat:∀ {H':Hp},(∀ b∈fp,H' b=none)->∀ b∈fp,Q2 (F8 X scope cl N' { s2 with heap:=h3,toks:=s2.toks } (upd H2 s2.heap.objs.size (.lst [])) fp fun _ _=>False) [] H' b:=fun {H'} hn b hb=>by
  obtain⟨f0,f1,f2',f3',f4,f5⟩:=f3 b hb
  refine⟨hn b hb,?_,fun z=>?_,.inl hb,fun x c ex=>f4 x c (hcl.get ex),fun p hp=>nomatch hp⟩
  ·show b≠h3.objs.size
   rw[size3]
   exact k7 (A4 (fpl b hb))
  ·rcases d4.mp (I3'.stkSub b z) with q | q
   ·exact f1 q
   ·exact f2' q
 have fin:∀ (s':Shared) (σ':St) (H':Hp),Inv (F8 X scope cl N' { s2 with heap:=h3,toks:=s2.toks } (upd H2 s2.heap.objs.size (.lst [])) fp fun _ _=>False) [] σ' H' s'->Q (.ref s2.heap.objs.size) H' ->
   bC4 (t9 X.prog X.w) X.A X.xe none (EP X pins σ Q) (.ref s2.heap.objs.size) h3.objs.size (.ok .next) s':=fun s' σ' H' I' q'=>by
  obtain⟨m,hm,_⟩:=id I'.loc
  have I5:Inv X pins σ H' s':=I3'.call' (ch:=fp) I'.os I'.base I'.hok I'.bare fun b hb=>by
   obtain⟨f0,f1,f2',f3',f4,f5⟩:=f3 b hb
   exact⟨f3',f1,f4,f5⟩
  refine⟨m,hm,fun h' hsb=>?_⟩
  refine⟨.ref s2.heap.objs.size,H',?_,rfl,q'⟩
  have hfc:H' h3.objs.size=none:=I'.free
  have hcl1:∀ b o,h3.get? b=some o->b≠h3.objs.size:=fun b o eb=>k7 (c8 eb)
  obtain⟨h0',g0,d0,t0,o0⟩:=s'
  refine I5.turned (t':=t0) (it:=h3.objs.size) (fun b o hb eb=>(hsb.2 b hb).trans eb) hfc ?_ (.inr I3'.sz) (fun x c ex z=>?_) (fun p hp z=>?_)
  ·exact L4 I3'.lt
  ·obtain⟨v',q2⟩:=I3'.cell x c ex
   exact absurd q2.lt (by rw[z];exact A9 _)
  ·exact absurd (c8 (I3'.pin p hp).1) (by rw[z];exact A9 _)
 have loop:∀ s5:Shared,s5={ s2 with heap:=h1,toks:=s2.toks+([]:List (Str × Value)).length } ->
   am1 (t9 X.prog X.w) X.A (.compLoop (.ListComp elt [⟨tg,iter,ifs,0⟩] scope pos) 0 (.ref it) (.ref s2.heap.objs.size) (U9 scope cl h3.objs.size X.env)) (bC4 (t9 X.prog X.w) X.A X.xe none (EP X pins σ Q) (.ref s2.heap.objs.size) h3.objs.size) s5:=by
  rintro s5 rfl
  refine codeAny_loop rfl (fun n s'=>∃ i xs σ' H',Inv (F8 X scope cl N' { s2 with heap:=h3,toks:=s2.toks } (upd H2 s2.heap.objs.size (.lst [])) fp fun _ _=>False) [] σ' H' s'/\tn i s'.heap/\(∀ b∈fp,H' b=none)/\W i n xs σ' H')
   (fun n s6 hI=>?_) m0 ⟨0,[],ag3 lk σ,_,I4,st4,fun b hb=>(f3 b hb).1,w0⟩
  obtain⟨i,xs,σ6,H6,I6,st6,fr6,w6⟩:=hI
  show r6 _ X.A ((compTurn (.ListComp elt [⟨tg,iter,ifs,0⟩] scope pos) 0 (.ref it) (.ref s2.heap.objs.size) (U9 scope cl h3.objs.size X.env)).onRaise (fun x=>do noteFrame x (U9 scope cl h3.objs.size X.env);theTreesLotGoes x)) _ _ s6
  refine wpAny_noted ?_
  rw[compTurn_list]
  refine b9 (ap2 (b9 ?_))
  obtain⟨hD6,hw⟩:=turn i n xs σ6 H6 w6
  rcases hw with⟨stop,qn⟩ | ⟨go,hlen,step⟩
  ·refine thn (T.done (F8 X scope cl N' { s2 with heap:=h3,toks:=s2.toks } (upd H2 s2.heap.objs.size (.lst [])) fp fun _ _=>False) rfl rfl rfl hc i [] s6 σ6 H6 _ I6 (stat fr6) st6 stop) fun r s7 ⟨hr,I7⟩=>?_
   subst hr
   exact i8 (fin s7 σ6 H6 I7 qn)
  ·refine thn (T.item (F8 X scope cl N' { s2 with heap:=h3,toks:=s2.toks } (upd H2 s2.heap.objs.size (.lst [])) fp fun _ _=>False) rfl rfl rfl hc i [] s6 σ6 H6 _ I6 (stat fr6) st6 go) fun r s7 ⟨u,hr,h7⟩=>?_
   subst hr
   refine b9 (thn h7 fun _ s8 ⟨x,H8,I8,r8,y8,st8,fr8⟩=>?_)
   have I8':=I8.pinned (stat fr8) (T.obj _ _ st8)
   refine b9 (E1 (hg _ _ _ _ s8 σ6 H8 x u _ I8' r8 (step x H8 y8)) (fun _ s9 ⟨σ9,H9,I9,q9⟩=>?_) (fun _ _ z=>False.elim z))
   refine b9 (E1 (ht _ _ _ _ s9 σ9 H9 _ I9 q9) (fun ok s10 ⟨H10,I10,q10⟩=>?_) (fun _ _ z=>False.elim z))
   have bP5:∀ {σ':St} {H':Hp} {ys:List V} {s':Shared},Inv (F8 X scope cl N' { s2 with heap:=h3,toks:=s2.toks } (upd H2 s2.heap.objs.size (.lst [])) fp fun _ _=>False) ([]++ao3 fp s8.heap) σ' H' s'->(∃ m',m'<n/\W (i+1) m' ys σ' H') ->
     ∃ m',m'<n/\∃ i xs σ' H',Inv (F8 X scope cl N' { s2 with heap:=h3,toks:=s2.toks } (upd H2 s2.heap.objs.size (.lst [])) fp fun _ _=>False) [] σ' H' s'/\tn i s'.heap/\(∀ b∈fp,H' b=none)/\W i m' xs σ' H':=fun {σ' H' ys s'} I' ⟨m',hm,w'⟩=>by
    refine⟨m',hm,i+1,ys,σ',H',I'.unpinned,T.keep _ _ _ st8 fun b hb o eb=>(I'.pin (b,o) (o5 _ (o5 _ (T4 hb eb)))).1,fun b hb=>?_,w'⟩
    obtain⟨o,eb,_⟩:=T.obj _ _ st8 b hb
    exact(I'.pin (b,o) (o5 _ (o5 _ (T4 hb eb)))).2.1
   cases ok with
   | false =>
    have q10':∃ m',m'<n/\W (i+1) m' xs σ9 H10:=by simpa using q10
    exact i8 ⟨rfl,bP5 I10 q10'⟩
   | true =>
    rw[if_pos rfl]at q10
    refine b9 (b9 (E1 (he _ _ _ _ s10 σ9 H10 _ I10 q10) (fun y s11 ⟨v11,H11,I11,r11,hD11,q11⟩=>?_) (fun _ _ z=>False.elim z)))
    refine b9 (E1 (ad9 (X:=F8 X scope cl N' { s2 with heap:=h3,toks:=s2.toks } (upd H2 s2.heap.objs.size (.lst [])) fp fun _ _=>False) _ s11 σ9 H11 (.ref s2.heap.objs.size) [v11] (.ref s2.heap.objs.size) [y] (fun _ H'=>∃ m',m'<n/\W (i+1) m' (xs++[v11]) σ9 H') I11 rfl (.cons r11 .nil) ⟨s2.heap.objs.size,xs,v11,rfl,rfl,hD11,hlen,q11⟩) (fun _ s12 ⟨_,H12,I12,_,q12⟩=>?_) (fun _ _ z=>False.elim z))
    exact i8 (i8 ⟨rfl,bP5 I12 q12⟩)
 exact bL6 (loop _ rfl) (T.self X.A 0 _ _ _ st4 (loop _ rfl))
def Itn (K:W.Frag)(a:Addr):It:=
 ⟨fun i H=>∃ xs x,SqL K H a xs/\xs[i]?=some x,fun i H x H'=>∃ t v,H t=none/\x=.ref t/\(∀ xs,SqL K H a xs->xs[i]?=some v)/\H'=upd H t (.tup [.int i,v]),fun i H=>∃ xs,SqL K H a xs/\xs.length<=i⟩
def ce8 (K:W.Frag)(ta:TA):TI:=fun σ H R=>ta σ H fun vs H1=>∃ a,vs=[.ref a]/\(∃ xs,SqL K H1 a xs)/\R (Itn K a) H1
theorem bl0 {K:W.Frag}{x1:Nat}(a it e:Addr)(hne:e≠it):Turn P w K (.Tuple elts x1 pos) (Itn K a) [e,it] e (fun i h=>(∃ old,IsEnum h e it (i:Int) old)/\h.IsListIter it a i) where
 mem:=by simp
 obj:=fun i h st b hb=>by
  obtain⟨⟨old,he⟩,o,ho,hc,hd⟩:=st
  rcases d4.mp hb with rfl | hb
  ·exact⟨_,he,fun v z=>by cases z⟩
  ·have eb:b=it:=by simpa using hb
   subst eb
   exact⟨o,ho,fun v z=>by rw[hd]at z;cases z⟩
 keep:=fun i h h' st k=>by
  obtain⟨⟨old,he⟩,hit⟩:=st
  exact⟨⟨old,k e (by simp) _ he⟩,hit.at fun o q=>k it (by simp) o q⟩
 item:=by
  intro X hP hw hK hc i pins s σ H E I hf st hg
  subst hP hw hK
  obtain⟨xs,x,hq,hx⟩:=hg
  obtain⟨⟨old,he⟩,hit⟩:=st
  obtain⟨its,rv,p,hz⟩:=I.list hq
  obtain⟨u,hu,ru⟩:=rv.get hx
  obtain⟨f0,f1,f2,f3,f4,f5⟩:=hf e (by simp)
  obtain⟨g0,g1,g2,g3,g4,g5⟩:=hf it (by simp)
  refine wpAny_pyNext_enum_item he hit p.isList (x:=u) (by simpa using hu) hne fun h1 heo hit1 ht1 hz1 hk1=>?_
  refine⟨_,rfl,?_⟩
  refine bo6 heo fun h2 he2 hs2=>?_
  have hlt:e<s.heap.objs.size:=c8 he
  have hs2':Heap.SameBut e h1 h2:=hs2
  have ht2:h2.get? s.heap.objs.size=some { cls:=.type "tuple",data:=.seq #[.int i s.toks,u] }:=(hs2'.2 _ (L4 hlt)).trans ht1
  have kp:∀ b o,b≠e->b≠it->s.heap.get? b=some o->h2.get? b=some o:=fun b o h1' h2' q=>(hs2'.2 b h1').trans (hk1 b o h1' h2' q)
  have hT:H s.heap.objs.size=none:=I.hok.fresh (d5 _)
  have nH:∀ b,H b≠none->b≠e/\b≠it:=fun b hb=>⟨fun z=>hb (z ▸ f0),fun z=>hb (z ▸ g0)⟩
  have keepH:∀ b o,H b=some o->upd H s.heap.objs.size (.tup [.int i,x]) b=some o:=fun b o q=>by rw[r9 (o8 q hT)];exact q
  have hok2:HOk X.prog X.w (upd H s.heap.objs.size (.tup [.int i,x])) h2:=fun b o eb=>by
   by_cases hb:b=s.heap.objs.size
   ·subst hb
    rw[c6]at eb
    cases eb
    exact⟨by show 2<=j5;decide,[.int i s.toks,u],.cons ⟨_,rfl⟩ (.cons ru .nil),⟨_,ht2,rfl,_,rfl⟩⟩
   ·rw[r9 hb]at eb
    refine(I.hok b o eb).stay (fun c v hcc q=>kp c v ?_ ?_ q) (fun c q=>keepH c _ q) fun c ys q=>keepH c _ q
    ·rcases hcc with z | z
     ·exact(nH c (by rw[z,eb];simp)).1
     ·exact(nH c (by rw[z];simp)).1
    ·rcases hcc with z | z
     ·exact(nH c (by rw[z,eb];simp)).2
     ·exact(nH c (by rw[z];simp)).2
  have I2:Inv X pins σ (upd H s.heap.objs.size (.tup [.int i,x])) { s with heap:=h2,toks:=s.toks+1 }:=by
   refine I.step (g':=s.gens) (d':=s.drawn) (t':=s.toks+1) (ch:=[e,it]) (fun b hb=>?_) (fun b o _ _ hcc q _=>kp b o (fun z=>hcc (by simp[z])) (fun z=>hcc (by simp[z])) q) (fun b o _ _ hcc q _=>⟨o.slots,kp b o (fun z=>hcc (by simp[z])) (fun z=>hcc (by simp[z])) q⟩) (fun b o _ q n=>?_)
    (fun b o hcc q=>⟨o,kp b o (fun z=>hcc (by simp[z])) (fun z=>hcc (by simp[z])) q⟩) (fun b ys q=>keepH b _ q) (fun b o v q=>keepH b _ q) (fun b ps q=>⟨#[],by rw[keepH b _ q];simp⟩) (fun m hm=>?_) hok2 I.bare
   ·rcases d4.mp hb with rfl | hb
    ·exact⟨f3,f1,f4,f5⟩
    ·have eb:b=it:=by simpa using hb
     subst eb
     exact⟨g3,g1,g4,g5⟩
   ·rw[r9 (k7 (c8 q))]
    exact n
   ·obtain⟨o,es,ep,ho,r⟩:=hm
    exact⟨o,es,ep,kp _ o (Ne.symm f1) (Ne.symm g1) ho,r⟩
  have hilt:it<s.heap.objs.size:=by
   obtain⟨o,ho,_⟩:=id hit
   exact c8 ho
  refine⟨.ref s.heap.objs.size,_,I2,rfl,⟨s.heap.objs.size,x,hT,rfl,fun ys hy=>by rw[I.list_inj hy hq];exact hx,rfl⟩,⟨⟨u,?_⟩,?_⟩,fun b hb=>?_⟩
  ·have:=he2
   rw[show ((i:Int)+1)=(((i+1:Nat):Int)) by simp]at this
   exact this
  ·exact hit1.at fun o q=>(hs2'.2 it (Ne.symm hne)).trans q
  ·rcases d4.mp hb with rfl | hb
   ·rw[r9 (k7 hlt)];exact f0
   ·have eb:b=it:=by simpa using hb
    subst eb
    rw[r9 (k7 hilt)]
    exact g0
 done:=by
  intro X hP hw hK hc i pins s σ H E I hf st hg
  subst hP hw hK
  obtain⟨xs,hq,hx⟩:=hg
  obtain⟨⟨old,he⟩,hit⟩:=st
  obtain⟨its,rv,p,hz⟩:=I.list hq
  obtain⟨g0,g1,g2,g3,g4,g5⟩:=hf it (by simp)
  have hl:=rv.length
  exact wpAny_pyNext_enum_end (I.ok.hd hc) he hit p.isList (by simp;omega) fun h' eb=>⟨rfl,I.turned (t':=s.toks) (fun b o hb q=>eb b o hb q) g0 g1 g3 g4 g5⟩
 self:=fun _ _ _ _ _ st h=>by
  obtain⟨⟨old,he⟩,_⟩:=st
  exact ao0 he h
theorem aN5 {a:Expr}{ta:TA}{x1:Nat}{tpos p:Pos}(hg:Gl X "enumerate")(hm:X.mg "enumerate"=none)(ha:PA X [a] ta)(hv:L9 "enumerate"=some (.type "enumerate"):=by rfl)(hs:u5 [a] X.env=[(false,eval a X.env)]:=by rfl) :
  PI X (.Tuple elts x1 tpos) (.Call (.Name "enumerate" p) [a] [] pos) (ce8 X.K ta):=by
 intro pins s σ H R I h
 refine Call_ (X8 I hg hm hv (PyProof.Rows.callWith_type1 (thn (ha pos pins s σ H _ I h) fun us s1 ⟨vs,H1,I1,r1,q1⟩=>?_) hs rfl))
 obtain⟨b,e,⟨xs,hq⟩,q⟩:=q1
 subst e
 obtain⟨u,rfl,rx⟩:=vals1 r1
 cases rx
 obtain⟨its,rv,pl,hz⟩:=I1.list hq
 refine call_enumerate_list pl.isList fun h' he hit hsz kp=>?_
 refine ao0 he ?_
 have hne:s1.heap.objs.size+1≠s1.heap.objs.size:=Nat.succ_ne_self _
 refine⟨s1.heap.objs.size+1,[s1.heap.objs.size+1,s1.heap.objs.size],_,_,H1,rfl,I1.kept (t':=s1.toks) kp,bl0 b s1.heap.objs.size (s1.heap.objs.size+1) hne,⟨⟨_,he⟩,hit⟩,fun c hc=>?_,q⟩
 rcases d4.mp hc with rfl | hc
 ·exact I1.fpOk (Z7 _) (I1.hok.fresh (Z7 _))
 ·have e:c=s1.heap.objs.size:=by simpa using hc
  subst e
  exact I1.fpOk (d5 _) (I1.hok.fresh (d5 _))
theorem bx7 {K:W.Frag}{g:TG}{tb:TS}{D:Ends}(Pv:Nat->St->Hp->Prop)(h0:Pv 0 σ H)(hl:∀ i σ H,i<=xs.length->Pv i σ H->SqL K H a xs)
  (hs:∀ i x t σ H,xs[i]?=some x->Pv i σ H->H t=none->g (.ref t) σ (upd H t (.tup [.int i,x])) fun σ2 H2=>tb { D with nx:=Pv (i+1),ct:=Pv (i+1),bk:=D.nx } σ2 H2)(hd:∀ σ H,Pv xs.length σ H->D.nx σ H) :
  ∃ W:Nat->Nat->St->Hp->Prop,(∃ m,W 0 m σ H)/\∀ i m σ H,W i m σ H ->
   ((Itn K a).stop i H/\D.nx σ H)\/((Itn K a).go i H/\∃ N:St->Hp->Prop,(∀ σ' H',N σ' H'->∃ m',m'<m/\W (i+1) m' σ' H')/\∀ x H',(Itn K a).yld i H x H'->g x σ H' fun σ2 H2=>tb { D with nx:=N,ct:=N,bk:=D.nx } σ2 H2):=by
 refine⟨fun i m σ H=>m=xs.length - i/\i<=xs.length/\Pv i σ H,⟨xs.length,by simp,u4 _,h0⟩,?_⟩
 rintro i m σ H ⟨rfl,hi,p⟩
 have q:=hl i σ H hi p
 by_cases hlt:i<xs.length
 ·refine .inr ⟨⟨xs,xs[i],q,by simp[hlt]⟩,Pv (i+1),fun σ' H' p'=>⟨xs.length - (i+1),by omega,rfl,hlt,p'⟩,fun x H' y=>?_⟩
  obtain⟨t,v,ht,e,hv,e'⟩:=y
  subst e e'
  exact hs i v t σ H (hv xs q) p ht
 ·have e:i=xs.length:=by omega
  subst e
  exact .inl ⟨⟨xs,q,d5 _⟩,hd σ H p⟩
theorem R6 {K:W.Frag}{D:Addr}{g:TG}{tt:TT}{σ0:St}{H0:Hp}(Pv:Nat->List V->St->Hp->Prop)(h0:Pv 0 [] σ0 H0)(hz:ys.length<=j5)(hl:∀ i xs σ H,i<=ys.length->Pv i xs σ H->SqL K H a ys/\H D=some (.lst xs)/\xs.length<=i)
  (hs:∀ i xs x σ H (N:List V->St->Hp->Prop),(∀ xs' σ' H',Pv (i+1) xs' σ' H'->N xs' σ' H')->ys[i]?=some x->Pv i xs σ H->g x σ H fun σ2 H2=>tt σ2 H2 fun b H3=>if b=true then te σ2 H3 fun v H4=>H4 D=some (.lst xs)/\N (xs++[v]) σ2 (upd H4 D (.lst (xs++[v]))) else N xs σ2 H3)
  (hd:∀ xs σ H,Pv ys.length xs σ H->Qd H) :
  ∃ W:Nat->Nat->List V->St->Hp->Prop,(∃ m,W 0 m [] σ0 H0)/\∀ i m xs σ' H',W i m xs σ' H'->H' D=some (.lst xs)/\(((Itl K a).stop i H'/\Qd H')\/((Itl K a).go i H'/\xs.length<j5/\∀ x H'',(Itl K a).yld i H' x H''->g x σ' H'' fun σ2 H2=>tt σ2 H2 fun b H3 =>
   if b=true then te σ2 H3 fun v H4=>H4 D=some (.lst xs)/\∃ m',m'<m/\W (i+1) m' (xs++[v]) σ2 (upd H4 D (.lst (xs++[v]))) else ∃ m',m'<m/\W (i+1) m' xs σ2 H3)):=by
 refine⟨fun i m xs σ H=>m=ys.length - i/\i<=ys.length/\Pv i xs σ H,⟨ys.length,by simp,u4 _,h0⟩,?_⟩
 rintro i m xs σ H ⟨rfl,hi,p⟩
 obtain⟨q,hD,hx⟩:=hl i xs σ H hi p
 refine⟨hD,?_⟩
 by_cases hlt:i<ys.length
 ·refine .inr ⟨⟨ys,ys[i],q,by simp[hlt]⟩,by omega,fun x H'' y=>?_⟩
  obtain⟨e,y⟩:=y
  subst e
  exact hs i xs x σ _ (fun zs σ' H'=>∃ m',m'<ys.length - i/\m'=ys.length - (i+1)/\i+1<=ys.length/\Pv (i+1) zs σ' H') (fun zs σ' H' r=>⟨_,by omega,rfl,hlt,r⟩) (y ys q) p
 ·have e:i=ys.length:=by omega
  subst e
  exact .inl ⟨⟨ys,q,d5 _⟩,hd xs σ H p⟩
theorem aX6 {K:W.Frag}{D:Addr}{g:TG}{tt:TT}{σ0:St}{H0:Hp}(Pv:Nat->List V->St->Hp->Prop)(h0:Pv 0 [] σ0 H0)(hz:ys.length<=j5)(hl:∀ i xs σ H,i<=ys.length->Pv i xs σ H->SqT K H a ys/\H D=some (.lst xs)/\xs.length<=i)
  (hs:∀ i xs x σ H (N:List V->St->Hp->Prop),(∀ xs' σ' H',Pv (i+1) xs' σ' H'->N xs' σ' H')->ys[i]?=some x->Pv i xs σ H->g x σ H fun σ2 H2=>tt σ2 H2 fun b H3=>if b=true then te σ2 H3 fun v H4=>H4 D=some (.lst xs)/\N (xs++[v]) σ2 (upd H4 D (.lst (xs++[v]))) else N xs σ2 H3)
  (hd:∀ xs σ H,Pv ys.length xs σ H->Qd H) :
  ∃ W:Nat->Nat->List V->St->Hp->Prop,(∃ m,W 0 m [] σ0 H0)/\∀ i m xs σ' H',W i m xs σ' H'->H' D=some (.lst xs)/\(((Itt K a).stop i H'/\Qd H')\/((Itt K a).go i H'/\xs.length<j5/\∀ x H'',(Itt K a).yld i H' x H''->g x σ' H'' fun σ2 H2=>tt σ2 H2 fun b H3 =>
   if b=true then te σ2 H3 fun v H4=>H4 D=some (.lst xs)/\∃ m',m'<m/\W (i+1) m' (xs++[v]) σ2 (upd H4 D (.lst (xs++[v]))) else ∃ m',m'<m/\W (i+1) m' xs σ2 H3)):=by
 refine⟨fun i m xs σ H=>m=ys.length - i/\i<=ys.length/\Pv i xs σ H,⟨ys.length,by simp,u4 _,h0⟩,?_⟩
 rintro i m xs σ H ⟨rfl,hi,p⟩
 obtain⟨q,hD,hx⟩:=hl i xs σ H hi p
 refine⟨hD,?_⟩
 by_cases hlt:i<ys.length
 ·refine .inr ⟨⟨ys,ys[i],q,by simp[hlt]⟩,by omega,fun x H'' y=>?_⟩
  obtain⟨e,y⟩:=y
  subst e
  exact hs i xs x σ _ (fun zs σ' H'=>∃ m',m'<ys.length - i/\m'=ys.length - (i+1)/\i+1<=ys.length/\Pv (i+1) zs σ' H') (fun zs σ' H' r=>⟨_,by omega,rfl,hlt,r⟩) (y ys q) p
 ·have e:i=ys.length:=by omega
  subst e
  exact .inl ⟨⟨ys,q,d5 _⟩,hd xs σ H p⟩
mutual
def Dt (K:W.Frag)(H:Hp):ae8->V->Prop
 | .none,v=>v=.non
 | .bool b,v=>v=.bl b
 | .int i,v=>v=.int i
 | .str x,v=>v=.str x
 | .list ds,v=>∃ a xs,v=.ref a/\SqL K H a xs/\E3 K H ds xs
 | .tuple ds,v=>∃ a xs,v=.ref a/\SqT K H a xs/\E3 K H ds xs
 | .dict _,_=>False
def E3 (K:W.Frag)(H:Hp):List ae8->List V->Prop
 | [],xs=>xs=[]
 | d::ds,xs=>∃ y ys,xs=y::ys/\Dt K H d y/\E3 K H ds ys
end
mutual
theorem Dt.reads (I:Inv X pins σ H s):∀ (d:ae8) (v:V) (u:Value),Dt X.K H d v->RelV v u->∃ as,Reads s.heap u d as
 | .none,v,u,h,r=>by unfold Dt at h;subst h;cases r;exact⟨_,.none⟩
 | .bool b,v,u,h,r=>by unfold Dt at h;subst h;cases r;exact⟨_,.bool b⟩
 | .int i,v,u,h,r=>by unfold Dt at h;subst h;obtain⟨t,rfl⟩:=r;exact⟨_,.int i t⟩
 | .str x,v,u,h,r=>by unfold Dt at h;subst h;obtain⟨t,rfl⟩:=r;exact⟨_,.str x t⟩
 | .list ds,v,u,h,r=>by
  unfold Dt at h
  obtain⟨a,xs,rfl,hq,hd⟩:=h
  cases r
  obtain⟨its,rv,⟨o,n,ho,hc,_,hdd⟩,_⟩:=I.list hq
  obtain⟨as,ra⟩:=E3.reads I ds xs its hd rv
  exact⟨_,.list ho hc hdd (by simpa using ra)⟩
 | .tuple ds,v,u,h,r=>by
  unfold Dt at h
  obtain⟨a,xs,rfl,hq,hd⟩:=h
  cases r
  obtain⟨its,rv,⟨o,ho,hc,n,hdd⟩,_⟩:=I.tuple hq
  obtain⟨as,ra⟩:=E3.reads I ds xs its hd rv
  exact⟨_,.tuple ho hc hdd (by simpa using ra)⟩
 | .dict _,v,u,h,r=>by unfold Dt at h;exact h.elim
theorem E3.reads (I:Inv X pins σ H s):∀ (ds:List ae8) (xs:List V) (us:List Value),E3 X.K H ds xs->D6 xs us->∃ as,bC5 s.heap us ds as
 | [],xs,us,h,r=>by unfold E3 at h;subst h;cases r;exact⟨_,.nil⟩
 | d::ds,xs,us,h,r=>by
  unfold E3 at h
  obtain⟨y,ys,rfl,h1,h2⟩:=h
  cases r with
  | cons q t =>
   obtain⟨as,ra⟩:=Dt.reads I d y _ h1 q
   obtain⟨bs,rb⟩:=E3.reads I ds ys _ h2 t
   exact⟨_,.cons ra rb⟩
end
mutual
theorem Dt.same {K:W.Frag}(hs:∀ b o,H b=some o->H' b=some o):∀ (d:ae8) (v:V),Dt K H d v->Dt K H' d v
 | .none,v,h=>by unfold Dt at h ⊢;exact h
 | .bool b,v,h=>by unfold Dt at h ⊢;exact h
 | .int i,v,h=>by unfold Dt at h ⊢;exact h
 | .str x,v,h=>by unfold Dt at h ⊢;exact h
 | .list ds,v,h=>by
  unfold Dt at h ⊢
  obtain⟨a,xs,rfl,hq,hd⟩:=h
  refine⟨a,xs,rfl,?_,E3.same hs ds xs hd⟩
  rcases hq with(h | ⟨o,h⟩) | h
  ·exact .inl (.inl (hs _ _ h))
  ·exact .inl (.inr ⟨o,hs _ _ h⟩)
  ·exact .inr h
 | .tuple ds,v,h=>by
  unfold Dt at h ⊢
  obtain⟨a,xs,rfl,hq,hd⟩:=h
  refine⟨a,xs,rfl,?_,E3.same hs ds xs hd⟩
  rcases hq with(h | ⟨o,h⟩) | h
  ·exact .inl (.inl (hs _ _ h))
  ·exact .inl (.inr ⟨o,hs _ _ h⟩)
  ·exact .inr h
 | .dict _,v,h=>by unfold Dt at h;exact h.elim
theorem E3.same {K:W.Frag}(hs:∀ b o,H b=some o->H' b=some o):∀ (ds:List ae8) (xs:List V),E3 K H ds xs->E3 K H' ds xs
 | [],xs,h=>by unfold E3 at h ⊢;exact h
 | d::ds,xs,h=>by
  unfold E3 at h ⊢
  obtain⟨y,ys,rfl,h1,h2⟩:=h
  exact⟨y,ys,rfl,Dt.same hs d y h1,E3.same hs ds ys h2⟩
end
def dP (k:List Int):ae8:=.tuple (k.map .int)
theorem E3.ints {K:W.Frag}:∀ (k:List Int),E3 K H (k.map PyData.int) (k.map V.int)
 | []=>by unfold E3;rfl
 | i::k=>by
  rw[p7,p7]
  unfold E3
  exact⟨_,_,rfl,by unfold Dt;rfl,E3.ints k⟩
theorem E3.tups {K:W.Frag}:∀ {ys:List V} {ks:List (List Int)},C0 K H ys ks->E3 K H (ks.map dP) ys
 | _,_,.nil=>by unfold E3;rfl
 | _,_,.cons r t=>by
  obtain⟨a,rfl,h⟩:=r
  rw[p7]
  unfold E3
  refine⟨_,_,rfl,?_,E3.tups t⟩
  unfold dP Dt
  exact⟨a,_,rfl,h,E3.ints _⟩
theorem lay_ints:∀ k:List Int,PyData.canLayAll0 (k.map .int)=true
 | []=>by simp[PyData.canLayAll0]
 | i::k=>by rw[p7];simp[PyData.canLayAll0,PyData.canLay0,lay_ints k]
theorem au1:∀ ks:List (List Int),PyData.canLayAll0 (ks.map dP)=true
 | []=>by simp[PyData.canLayAll0]
 | k::ks=>by rw[p7];simp[PyData.canLayAll0,PyData.canLay0,dP,lay_ints k,au1 ks]
theorem aq8:∀ k k':List Int,PyData.eqvAll (k.map .int) (k'.map .int)=decide (k=k')
 | [],[]=>by simp[PyData.eqvAll]
 | [],_::_=>by simp[PyData.eqvAll]
 | _::_,[]=>by simp[PyData.eqvAll]
 | i::k,j::k'=>by
  rw[p7,p7]
  simp only[PyData.eqvAll,PyData.eqv,aq8 k k']
  by_cases h:i=j
  ·subst h;simp
  ·simp[h]
theorem aJ8:∀ ks ks':List (List Int),PyData.eqvAll (ks.map dP) (ks'.map dP)=decide (ks=ks')
 | [],[]=>by simp[PyData.eqvAll]
 | [],_::_=>by simp[PyData.eqvAll]
 | _::_,[]=>by simp[PyData.eqvAll]
 | k::ks,k'::ks'=>by
  rw[p7,p7]
  simp only[PyData.eqvAll,PyData.eqv,dP,aq8 k k']
  rw[aJ8 ks ks']
  by_cases h:k=k'
  ·subst h;simp
  ·simp[h]
theorem ar0:∀ k:List Int,PyData.depthAll (k.map .int)<=1
 | []=>by simp[PyData.depthAll]
 | i::k=>by
  have:=ar0 k
  rw[p7]
  simp only[PyData.depthAll,PyData.depth]
  omega
theorem aJ9:∀ ks:List (List Int),PyData.depthAll (ks.map dP)<=2
 | []=>by simp[PyData.depthAll]
 | k::ks=>by
  have h1:=ar0 k
  have h2:=aJ9 ks
  rw[p7]
  simp only[PyData.depthAll,PyData.depth,dP]at h2 ⊢
  omega
def bb2 (K:W.Frag)(A:Around)(neg:Bool):R2:=fun x y H Q=>∃ dx dy,Dt K H dx x/\Dt K H dy y/\dx.canLay0=true/\dy.canLay0=true/\A.units+min dx.depth dy.depth<an6/\Q (.bl (if neg then !PyData.eqv dx dy else PyData.eqv dx dy)) H
theorem bT7:OpR X (K1 .Eq) (bb2 X.K X.A false):=by
 intro pins s σ H x y v u Q I rx ry h
 obtain⟨dx,dy,h1,h2,h3,h4,h5,q⟩:=h
 obtain⟨as,ra⟩:=h1.reads I dx x v rx
 obtain⟨bs,rb⟩:=h2.reads I dy y u ry
 exact SeqAt.compareEq_reads ra rb h3 h4 h5 ⟨.bl _,H,I,rfl,q⟩
theorem bb6:OpR X (K1 .NotEq) (bb2 X.K X.A true):=by
 intro pins s σ H x y v u Q I rx ry h
 obtain⟨dx,dy,h1,h2,h3,h4,h5,q⟩:=h
 obtain⟨as,ra⟩:=h1.reads I dx x v rx
 obtain⟨bs,rb⟩:=h2.reads I dy y u ry
 exact SeqAt.compareNe_reads ra rb h3 h4 h5 ⟨.bl _,H,I,rfl,q⟩
def bb1 (K:W.Frag)(A:Around)(neg:Bool):R2:=fun x y H Q=>∃ p xs dx ds,y=.ref p/\(SqL K H p xs\/SqT K H p xs)/\Dt K H dx x/\E3 K H ds xs/\dx.canLay0=true/\PyData.canLayAll0 ds=true/\A.units+1+dx.depth<an6 /\
 Q (.bl (if neg then !ds.any (fun d=>PyData.eqv d dx) else ds.any (fun d=>PyData.eqv d dx))) H
open Classical in
noncomputable def aO8 (h:Heap)(dx:ae8)(v:Value):Bool:=if q:∃ d as,d.canLay0=true/\Reads h v d as then PyData.eqv (Classical.choose q) dx else false
theorem aO7 {dx d:ae8}{as:List Addr}(hl:d.canLay0=true)(r:Reads h v d as):aO8 h dx v=PyData.eqv d dx:=by
 unfold aO8
 have q:∃ d as,d.canLay0=true/\Reads h v d as:=⟨d,as,hl,r⟩
 rw[dif_pos q]
 obtain⟨as',h1,h2⟩:=Classical.choose_spec q
 rw[SeqAt.Reads.unique _ _ _ _ _ h1 h2 r]
theorem aF0 {dx:ae8}:∀ {ds:List ae8} {us:List Value} {as:List Addr},PyData.canLayAll0 ds=true->bC5 h us ds as->us.any (aO8 h dx)=ds.any (fun d=>PyData.eqv d dx)
 | _,_,_,_,.nil=>rfl
 | d::ds,u::us,_,hl,.cons r t=>by
  have hl':d.canLay0=true/\PyData.canLayAll0 ds=true:=by simpa [PyData.canLayAll0] using hl
  rw[aF8,aF8,aO7 hl'.1 r,aF0 hl'.2 t]
theorem au0:∀ {ds:List ae8} {us:List Value} {as:List Addr} {u:Value},PyData.canLayAll0 ds=true->bC5 h us ds as->u∈us->∃ d as,d.canLay0=true/\Reads h u d as
 | _,_,_,_,_,.nil,hu=>by cases hu
 | d::ds,_::us,_,u,hl,.cons r t,hu=>by
  have hl':d.canLay0=true/\PyData.canLayAll0 ds=true:=by simpa [PyData.canLayAll0] using hl
  rcases d4.mp hu with rfl | hu
  ·exact⟨d,_,hl'.1,r⟩
  ·exact au0 hl'.2 t hu
theorem bT6:OpR X (K1 .In) (bb1 X.K X.A false):=by
 intro pins s σ H x y v u Q I rx ry h
 obtain⟨p,xs,dx,ds,rfl,hq,h1,h2,h3,h4,h5,q⟩:=h
 cases ry
 obtain⟨bs,rb⟩:=h1.reads I dx x v rx
 have he:∀ (its:List Value) (as:List Addr),bC5 s.heap its ds as->∀ y,y∈its.toArray->SeqAt.EqAt X.A.in1 s y v (aO8 s.heap dx y):=fun its as ra y hy=>by
  obtain⟨d,cs,hl,rd⟩:=au0 h4 ra (by simpa using hy)
  rw[aO7 hl rd]
  refine SeqAt.eqAt_reads d dx X.A.in1 s y v cs bs rd rb hl h3 ?_
  show X.A.units+1+min d.depth dx.depth<an6
  omega
 rcases hq with hq | hq
 ·obtain⟨its,rv,pl,hz⟩:=I.list hq
  obtain⟨as,ra⟩:=h2.reads I ds xs its rv
  refine SeqAt.in_listAt (aO8 s.heap dx) pl.isList (he its as ra) ⟨.bl _,H,I,rfl,?_⟩
  rw[an3,aF0 h4 ra]
  exact q
 ·obtain⟨its,rv,pl,hz⟩:=I.tuple hq
  obtain⟨as,ra⟩:=h2.reads I ds xs its rv
  refine SeqAt.in_tupleAt (aO8 s.heap dx) pl (he its as ra) ⟨.bl _,H,I,rfl,?_⟩
  rw[an3,aF0 h4 ra]
  exact q
theorem bl6:OpR X (K1 .NotIn) (bb1 X.K X.A true):=by
 intro pins s σ H x y v u Q I rx ry h
 obtain⟨p,xs,dx,ds,rfl,hq,h1,h2,h3,h4,h5,q⟩:=h
 cases ry
 obtain⟨bs,rb⟩:=h1.reads I dx x v rx
 have he:∀ (its:List Value) (as:List Addr),bC5 s.heap its ds as->∀ y,y∈its.toArray->SeqAt.EqAt X.A.in1 s y v (aO8 s.heap dx y):=fun its as ra y hy=>by
  obtain⟨d,cs,hl,rd⟩:=au0 h4 ra (by simpa using hy)
  rw[aO7 hl rd]
  refine SeqAt.eqAt_reads d dx X.A.in1 s y v cs bs rd rb hl h3 ?_
  show X.A.units+1+min d.depth dx.depth<an6
  omega
 rcases hq with hq | hq
 ·obtain⟨its,rv,pl,hz⟩:=I.list hq
  obtain⟨as,ra⟩:=h2.reads I ds xs its rv
  refine SeqAt.notIn_listAt (aO8 s.heap dx) pl.isList (he its as ra) ⟨.bl _,H,I,rfl,?_⟩
  rw[an3,aF0 h4 ra]
  exact q
 ·obtain⟨its,rv,pl,hz⟩:=I.tuple hq
  obtain⟨as,ra⟩:=h2.reads I ds xs its rv
  refine SeqAt.notIn_tupleAt (aO8 s.heap dx) pl (he its as ra) ⟨.bl _,H,I,rfl,?_⟩
  rw[an3,aF0 h4 ra]
  exact q
end L2
namespace L2
open PySem PySem.Spec PyProof.Rows
theorem ae2 (hc:X.calm=true):U2 X (.builtin "sum") (fun xs H Q=>∃ (p:Addr) (ns:List Int),xs=[.ref p]/\SqL X.K H p (ns.map V.int)/\Q (.int ns.sum) H):=by
 intro pins s σ H xs us Q I r h
 obtain⟨p,ns,rfl,hq,q⟩:=h
 obtain⟨u,rfl,rx⟩:=vals1 r
 cases rx
 obtain⟨its,r',pl,hz⟩:=I.list hq
 have hi:M6 its ns:=intsAre_of r'
 obtain⟨ys,e⟩:=hi.allInts.items
 refine sum_intListG (xs:=ys) (I.ok.hd hc) (by rw[<- e];exact pl.isList) fun h' tk t' hk=>⟨.int ns.sum,H,I.kept (t':=tk) hk,⟨t',?_⟩,q⟩
 have e2:numsOf (E8 ys).toList=ns:=by rw[<- e];exact hi.numsOf
 rw[nums_intItems]at e2
 rw[preSum_eq,k9 (by simp),e2]
theorem aW9:cg2 X (bS9 X.K):=by
 intro pins s σ H o i ov iv Q I ro ri h
 obtain⟨p,xs,k,z,rfl,rfl,hq,he,q⟩:=h
 cases ro
 obtain⟨t,rfl⟩:=ri
 obtain⟨its,r,pl,hz⟩:=I.list hq
 obtain⟨j,h1,h2,h3,h4,h5⟩:=az5 he
 obtain⟨w,ew,rw'⟩:=r.get h2
 have hl:=r.length
 have hn:=ao6
 have fin:EP X pins σ Q w s:=⟨z,H,I,rw',q⟩
 by_cases h0:0<=k
 ·have hj:k.toNat=j:=by
   rw[bj8 h0 h5]at h1
   exact Option.some.inj h1
  exact wpAny_getItem_list pl.isList h0 (by omega) (by rw[hj];simpa using ew) fin
 ·have hj:(k+(its.toArray.size:Int)).toNat=j:=by
   rw[aY9 (by omega) h4]at h1
   rw[d6,<- hl]
   exact Option.some.inj h1
  exact bL5 pl.isList (by omega) (by rw[d6];omega) (by omega) (by rw[hj];simpa using ew) fin
def LkL (X:Cx)(scope:Scope)(cl:List (Str × Addr)):List Str->List (Option Nat)->Prop
 | [],[]=>True
 | _::N,none::lk=>LkL X scope cl N lk
 | x::N,some j::lk=>(X.N[j]?=some x/\(X.env.scope.names.lookup x=some .cell\/X.env.scope.names.lookup x=some .free)/\(cl.lookup x).isSome=true /\
  ((U9 scope cl 0 X.env).kindOf x=some .cell\/(U9 scope cl 0 X.env).kindOf x=some .free))/\LkL X scope cl N lk
 | _,_=>False
theorem LkL.len:∀ {N:List Str} {lk:List (Option Nat)},LkL X scope cl N lk->lk.length=N.length
 | [],[],_=>rfl
 | _::N,none::lk,h=>congrArg (·+1) (LkL.len (N:=N) (lk:=lk) h)
 | _::N,some _::lk,h=>congrArg (·+1) (LkL.len (N:=N) (lk:=lk) h.2)
 | [],_::_,h=>h.elim
 | _::_,[],h=>h.elim
theorem LkL.get:∀ {N:List Str} {lk:List (Option Nat)},LkL X scope cl N lk->∀ (i j:Nat) (x:Str),N[i]?=some x->lk[i]?=some (some j) ->
  X.N[j]?=some x/\(X.env.scope.names.lookup x=some .cell\/X.env.scope.names.lookup x=some .free)/\(cl.lookup x).isSome=true/\((U9 scope cl 0 X.env).kindOf x=some .cell\/(U9 scope cl 0 X.env).kindOf x=some .free)
 | [],[],_,i,j,x,h1,_=>by simp at h1
 | _::N,none::lk,h,0,j,x,h1,h2=>by simp at h2
 | _::N,none::lk,h,i+1,j,x,h1,h2=>LkL.get (N:=N) (lk:=lk) h i j x (by simpa using h1) (by simpa using h2)
 | y::N,some k::lk,h,0,j,x,h1,h2=>by
  simp at h1 h2
  subst h1 h2
  exact h.1
 | _::N,some _::lk,h,i+1,j,x,h1,h2=>LkL.get (N:=N) (lk:=lk) h.2 i j x (by simpa using h1) (by simpa using h2)
 | [],_::_,h,_,_,_,_,_=>h.elim
 | _::_,[],h,_,_,_,_,_=>h.elim
theorem LkL.ok (h:LkL X scope cl N lk):bA5 X N lk scope cl:=⟨h.len,h.get⟩
theorem L6 {A B:Hp->Prop}(h:A H):bL8 σ H (fun b H3=>if b=true then A H3 else B H3):=by
 show if true=true then A H else B H
 exact P7 h
theorem B9 {v:V}{Q:St->Hp->Prop}(h:Q (σ.set i (some v)) H):aD9 i v σ H Q:=h
theorem SqT.updL {K:W.Frag}{l:Addr}{zs:List V}(h:SqT K H a ys)(hl:H l=some (.lst xs)):SqT K (upd H l (.lst zs)) a ys:=by
 rcases h with(h | ⟨o,h⟩) | h
 ·exact .inl (.inl (by rw[r9 (bN8 h hl (by intro z;cases z))];exact h))
 ·exact .inl (.inr ⟨o,by rw[r9 (bN8 h hl (by intro z;cases z))];exact h⟩)
 ·exact .inr h
theorem C0.updL {K:W.Frag}{l:Addr}{zs:List V}(hl:H l=some (.lst xs)):∀ {ys:List V} {ks:List (List Int)},C0 K H ys ks->C0 K (upd H l (.lst zs)) ys ks
 | _,_,.nil=>.nil
 | _,_,.cons r t=>by
  obtain⟨a,h1,h2⟩:=r
  exact .cons ⟨a,h1,h2.updL hl⟩ (C0.updL hl t)
theorem C0.one {K:W.Frag}(h:SqT K H a (k.map V.int)):C0 K H [.ref a] [k]:=.cons ⟨a,rfl,h⟩ .nil
theorem u9.seqT {K:W.Frag}(e:u9 H H')(h:SqT K H a xs):SqT K H' a xs:=by
 rcases h with(h | ⟨o,h⟩) | h
 ·exact .inl (.inl (e _ _ h))
 ·exact .inl (.inr ⟨o,e _ _ h⟩)
 ·exact .inr h
theorem u9.tups {K:W.Frag}(e:u9 H H')(h:C0 K H ys ks):C0 K H' ys ks:=C0.same e h
theorem u9.upd {l:Addr}{o:HO}(e:u9 H H')(h:H l=none):u9 H (upd H' l o):=fun b u q=>by
 rw[r9 (o8 q h)]
 exact e b u q
end L2
namespace L2
open PySem
theorem bx5 {v v':V}{Q:St->Hp->Prop}(e:v=v')(h:aD9 i v' σ H Q):aD9 i v σ H Q:=by
 rw[e]
 exact h
theorem bn5 (xs:List V)(k:Nat):au6 xs (some (k:Int)) none=xs.drop k:=by
 unfold au6
 rw[HT.bf5,HT.aT0]
 rcases Nat.le_total k xs.length with h | h
 ·rw[Nat.min_eq_left h]
  exact k9 (by rw[F3];omega)
 ·rw[Nat.min_eq_right h,bo8 h,bo8 (d5 _)]
  simp
theorem bJ8 (xs:List V)(k:Nat):au6 xs none (some (k:Int))=xs.take k:=by
 unfold au6
 rw[HT.bf5,HT.aT0,bd6,Nat.sub_zero]
 rcases Nat.le_total k xs.length with h | h
 ·rw[Nat.min_eq_left h]
 ·rw[Nat.min_eq_right h,k9 h,k9 (d5 _)]
theorem aM1 {u d:Nat}(h:u+64<an6)(hd:d<=60):u+1+d<an6:=by omega
theorem bp5 {u d:Nat}(h:u+64<an6)(hd:d<=64):u+d<an6:=by omega
theorem Dt.mkInt {K:W.Frag}{i:Int}:Dt K H (.int i) (.int i):=by unfold Dt;rfl
theorem Dt.mkL {K:W.Frag}{ds:List ae8}(h:SqL K H a xs)(d:E3 K H ds xs):Dt K H (.list ds) (.ref a):=by unfold Dt;exact⟨a,xs,rfl,h,d⟩
theorem Dt.mkT {K:W.Frag}{ds:List ae8}(h:SqT K H a xs)(d:E3 K H ds xs):Dt K H (.tuple ds) (.ref a):=by unfold Dt;exact⟨a,xs,rfl,h,d⟩
theorem E3.mkN {K:W.Frag}:E3 K H [] []:=by unfold E3;rfl
theorem E3.mkC {K:W.Frag}{d:ae8}{x:V}{ds:List ae8}(h:Dt K H d x)(t:E3 K H ds xs):E3 K H (d::ds) (x::xs):=by unfold E3;exact⟨x,xs,rfl,h,t⟩
theorem Z5 {z:Int}{Q:St->Hp->Prop}(h:∀ c:Int,c=z->aD9 i (.int c) σ H Q):aD9 i (.int z) σ H Q:=h z rfl
theorem int_at {x:V}(h:(ns.map V.int)[i]?=some x):∃ z:Int,x=V.int z:=by
 rw[p0]at h
 cases e:ns[i]? with
 | none=>rw[e]at h;cases h
 | some z=>rw[e]at h;exact⟨z,(Option.some.inj h).symm⟩
theorem bn4 (ns:List Int)(lo hi:Option Int):∃ ms:List Int,au6 (ns.map V.int) lo hi=ms.map V.int/\ms.length<=ns.length:=by
 unfold au6
 rw[<- aF9,<- aG0]
 exact⟨_,rfl,by rw[q8,F3];omega⟩
theorem ag0 (h:j<n):ixN n (j:Int)=some j:=by
 unfold ixN
 rw[if_pos (by omega),if_pos (by omega)]
 simp
theorem bX7 (a b:List Int):PyData.eqv (dP a) (dP b)=decide (a=b):=by
 unfold dP
 simp only[PyData.eqv]
 exact aq8 a b
theorem bz8 (k:List Int):∀ ks:List (List Int),(ks.map dP).any (fun d=>PyData.eqv d (dP k))=decide (k∈ks)
 | []=>by simp
 | l::ks=>by
  rw[p7,aF8,bX7,bz8 k ks]
  by_cases h:l=k
  ·subst h;simp
  ·have h':k≠l:=fun e=>h e.symm
   simp[h,h']
theorem bV2 (k:List Int):(dP k).canLay0=true:=by simp[dP,PyData.canLay0,lay_ints]
theorem bX9 (k:List Int):(dP k).depth<=2:=by
 have:=ar0 k
 simp only[dP,PyData.depth]
 omega
theorem Dt.mkP {K:W.Frag}(h:SqT K H a (k.map V.int)):Dt K H (dP k) (.ref a):=by
 unfold dP
 exact Dt.mkT h (E3.ints k)
theorem bv1 (k:List Int):(PyData.list (k.map .int)).canLay0=true:=by simp[PyData.canLay0,lay_ints]
theorem bX8 (k:List Int):(PyData.list (k.map .int)).depth<=2:=by
 have:=ar0 k
 simp only[PyData.depth]
 omega
theorem bX6 (a b:List Int):PyData.eqv (.list (a.map .int)) (.list (b.map .int))=decide (a=b):=by
 simp only[PyData.eqv]
 exact aq8 a b
theorem Dt.mkLi {K:W.Frag}(h:SqL K H a (k.map V.int)):Dt K H (.list (k.map .int)) (.ref a):=Dt.mkL h (E3.ints k)
theorem C0.dtAll {K:W.Frag}(t:C0 K H ys ks):E3 K H (ks.map dP) ys:=E3.tups t
def dW (n:Int)(ks:List (List Int)):ae8:=.tuple [.int n,.tuple (ks.map dP)]
theorem bN9 (n:Int)(ks:List (List Int)):(dW n ks).canLay0=true:=by simp[dW,PyData.canLay0,PyData.canLayAll0,au1]
theorem cf8 (n:Int)(ks:List (List Int)):(dW n ks).depth<=4:=by
 have:=aJ9 ks
 simp only[dW,PyData.depth,PyData.depthAll]
 omega
theorem cf6 (n m:Int)(ks ls:List (List Int)):PyData.eqv (dW n ks) (dW m ls)=(decide (n=m) && decide (ks=ls)):=by
 simp only[dW,PyData.eqv,PyData.eqvAll,aJ8,Bool.and_true]
 by_cases h:n=m
 ·subst h;simp
 ·simp[h]
end L2
namespace Web
open PySem L2
def ad3 (i m:Nat):List (List Int):=(q0 m).map fun(d:Nat)=>([(i:Int),(i:Int)+1+(d:Int)]:List Int)
def V1 (n:Nat):List (List Int):=(q0 n).flatMap fun i=>ad3 i (n - (i+1))
def Up (n:Nat)(k:List Int):Prop:=∃ i j:Nat,i<j/\j<n/\k=[(i:Int),(j:Int)]
theorem bm2 (h:k∈V1 n):Up n k:=by
 unfold V1 at h
 obtain⟨i,hi,hk⟩:=bZ9.mp h
 unfold ad3 at hk
 obtain⟨d,hd,rfl⟩:=t8.mp hk
 rw[B7]at hi hd
 exact⟨i,i+1+d,by omega,by omega,by simp⟩
def Asc (ks:List (List Int)):Prop:=ks.Pairwise fun a b=>Tim.N5 a b=true
theorem ae1:∀ n:Nat,n<=24->(V1 n).length<=276:=by decide +kernel
theorem af7 (n i:Nat):((q0 (i+1)).flatMap fun j=>ad3 j (n - (j+1)))=((q0 i).flatMap fun j=>ad3 j (n - (j+1)))++ad3 i (n - (i+1)):=by
 rw[E7,bK9]
 simp
theorem aI6 (i m:Nat):ad3 i (m+1)=ad3 i m++[[(i:Int),(i:Int)+1+(m:Int)]]:=by
 unfold ad3
 rw[E7,j9]
 rfl
theorem aV7 (n:Nat):∀ i:Nat,i<=n->((q0 i).flatMap fun j=>ad3 j (n - (j+1))).length<=(V1 n).length:=by
 intro i hi
 unfold V1
 obtain⟨d,rfl⟩:=Nat.exists_eq_add_of_le hi
 rw[List.range_add,bK9,o6]
 omega
theorem aY2:∀ {ks ls:List (List Int)},Asc ks->ls.Perm ks->ls.Pairwise (fun a b=>Tim.N5 b a=false)->ls=ks
 | [],ls,_,p,_=>p.eq_nil
 | k::ks,[],_,p,_=>by
  have:=p.length_eq
  simp at this
 | k::ks,l::ls,h,p,q=>by
  have hkl:l=k:=by
   have h1:l∈k::ks:=p.mem_iff.mp g9
   have h2:k∈l::ls:=p.mem_iff.mpr g9
   rcases d4.mp h1 with e | e
   ·exact e
   ·rcases d4.mp h2 with e2 | e2
    ·exact e2.symm
    ·have a1:=(G3.mp h).1 l e
     have a2:=(G3.mp q).1 k e2
     rw[a1]at a2
     cases a2
  subst hkl
  rw[aY2 (G3.mp h).2 ((List.perm_cons _).mp p) (G3.mp q).2]
def up:List Int->List Int
 | [a,b]=>[if b<a then b else a,if b > a then b else a]
 | k=>k
theorem ca9 (h:Up n k):up k=k:=by
 obtain⟨i,j,h1,h2,rfl⟩:=h
 show [if (j:Int)<i then (j:Int) else i,if (j:Int) > i then (j:Int) else i]=_
 rw[if_neg (by omega),if_pos (by omega)]
theorem Up.key (h:Up n k)(hn:n<=24):Sett.aw0 k:=by
 obtain⟨i,j,h1,h2,rfl⟩:=h
 exact⟨i,j,by omega,by omega,rfl⟩
theorem Up.len (h:Up n k):k.length=2:=by
 obtain⟨i,j,h1,h2,rfl⟩:=h
 rfl
def an2 (n:Nat)(k:List Int):Prop:=∃ i j:Nat,i<n/\j<n/\i≠j/\k=[(i:Int),(j:Int)]
theorem an2.up (h:an2 n k):Up n (up k):=by
 obtain⟨i,j,h1,h2,h3,rfl⟩:=h
 show Up n [if (j:Int)<i then (j:Int) else i,if (j:Int) > i then (j:Int) else i]
 by_cases h:i<j
 ·rw[if_neg (by omega),if_pos (by omega)]
  exact⟨i,j,h,h2,rfl⟩
 ·rw[if_pos (by omega),if_neg (by omega)]
  exact⟨j,i,by omega,h1,rfl⟩
theorem Up.ends (h:Up n k):an2 n k:=by
 obtain⟨i,j,h1,h2,rfl⟩:=h
 exact⟨i,j,by omega,h2,by omega,rfl⟩
end Web
namespace L2
open PySem
def X7.around {k:Nat}{A:Around}(_:X7 k A):Around:=A
theorem bF9 (K:W.Frag)(A:Around)(hK:X.K=K)(hA:X.A=A):OpR X (K1 .Eq) (bb2 K A false):=by subst hK hA;exact bT7
theorem bg9 (K:W.Frag)(A:Around)(hK:X.K=K)(hA:X.A=A):OpR X (K1 .In) (bb1 K A false):=by subst hK hA;exact bT6
theorem aC4 (K:W.Frag)(A:Around)(hK:X.K=K)(hA:X.A=A):OpR X (K1 .NotIn) (bb1 K A true):=by subst hK hA;exact bl6
end L2
namespace L2
open PySem PySem.Spec PyProof.Rows
section
variable {to:TE} {t:TA} {name:Str} {apos cpos:Pos} {T id:String}
theorem bT4 (K:W.Frag)(hK:X.K=K){te:TE}(h:PE X e (tBM X.K T r to t)):PE X e (tBM K T r to t):=by subst hK;exact h
theorem aq9 (p:Int):∀ k:List Int,(k.map PyData.int).any (fun d=>PyData.eqv d (.int p))=decide (p∈k)
 | []=>by simp
 | i::k=>by
  rw[p7,aF8,aq9 p k]
  by_cases h:i=p
  ·subst h;simp[PyData.eqv]
  ·have h':p≠i:=fun e=>h e.symm
   simp[PyData.eqv,h,h']
end
theorem bh5:∀ {vs:List Value} {n i:Nat},vs.length=n->(∀ j v,vs[j]?=some v->∃ t,v=Value.int (((i+j:Nat):Int)) t)->M6 vs ((am7 i n).map fun k:Nat=>(k:Int))
 | [],n,i,e,_=>by subst e;exact .nil
 | v::vs,0,i,e,_=>by cases e
 | v::vs,n+1,i,e,h=>by
  obtain⟨t,rfl⟩:=h 0 v rfl
  rw[List.range'_succ,p7]
  refine .cons _ t (bh5 (by simpa using e) fun j v hv=>?_)
  obtain⟨t',e'⟩:=h (j+1) v (by simpa using hv)
  exact⟨t',by rw[e'];congr 2;omega⟩
theorem aX7 {r:Addr}{t u v:Tok}{Q:List Value->Shared->Prop}(hh:A.handled=none)(hr:IsRange s.heap r 0 n 1 t u v)(hn:n<=1000)
  (h:∀ h' tk vs,(∀ b o,s.heap.get? b=some o->h'.get? b=some o)->M6 vs ((am7 0 n).map fun k:Nat=>(k:Int))->Q vs { s with heap:=h',toks:=tk }) :
  r6 (t9 prog w) A (collect (.ref r)) Q E s:=by
 unfold collect
 refine b9 (wpAny_runValue (M7 F.entry_proto_collect ?_))
 rw[Around.under_plainId F.plain_proto_collect _]
 show r6 _ A.in1 (newList [] >>= fun l=>bP5 (.builtin "list.__iadd__" ⟨[l,.ref r],[]⟩)) _ _ s
 refine b9 (aQ7 ?_)
 refine i8 ⟨af1 F.plain_list_iadd _,M7 F.entry_list_iadd ?_⟩
 rw[Around.under_plainId F.plain_list_iadd _]
 show r6 _ A.in1 (Builtin.List.listExtendWith (.ref s.heap.objs.size) (.ref r) (.ref s.heap.objs.size)) _ _ _
 have hS:(s.heap.push { cls:=.type "list",data:=.seq ([]:List Value).toArray }).get? s.heap.objs.size=some { cls:=.type "list",data:=.seq #[] }:=j0 _ rfl
 have hrs:Builtin.Range.rangeSize 0 n 1=(n:Int):=by rw[rangeSize_one];split<;>omega
 refine wpAny_extend_range (R:=fun rr s'=>match rr with
  | .ok (.ret v)=>r6 (t9 prog w) A (match v with
   | .ref a=>(do
    let o <- load a
    match o.data with
    | .seq xs _=>pure xs.toList
    | _=>ai2 "internal:collect")
   | _=>ai2 "internal:collect") Q E s'
  | .ok _=>False
  | .error e=>E e s') (s:={ s with heap:=s.heap.push { cls:=.type "list",data:=.seq ([]:List Value).toArray } }) (n:=n) hh (c5 _ hr) (small_one (by omega) (by omega) (by omega) (by omega)) hrs (by omega) s.heap.objs.size _ 0 hS fun h' tk acc' c' hk hS' hacc=>?_
 show r6 _ A (load s.heap.objs.size >>= _) _ _ _
 refine b9 (wpAny_load hS' ?_)
 refine i8 (h h' tk _ (fun b o e=>hk b o (k7 (c8 e)) (c5 _ e)) (bh5 (by rw[k8];exact hacc.1) fun j v hj=>?_))
 obtain⟨t',e⟩:=hacc.2 j v (by rw[<- d7];exact hj)
 exact⟨t',by rw[e];congr 1;omega⟩
theorem Q2.to {b:Addr}(f:Q2 X pins H b)(h:H' b=none):Q2 X pins H' b:=⟨h,f.2⟩
theorem Inv.turn {it:Addr}(I:Inv X pins σ H s)(f:Q2 X pins H it)(k:∀ b o,b≠it->s.heap.get? b=some o->h'.get? b=some o):Inv X pins σ H { s with heap:=h',toks:=t' }:=
 I.turned k f.1 f.2.1 f.2.2.2.1 f.2.2.2.2.1 f.2.2.2.2.2
theorem Inv.take {o:HO}(I:Inv X pins σ H s)(f:Q2 X pins H a)(k:∀ b u,b≠a->s.heap.get? b=some u->h'.get? b=some u)(new:U1 X.prog X.w (upd H a o) h' a o):Inv X pins σ (upd H a o) { s with heap:=h',toks:=t' }:=by
 have hn:=f.1
 have ne:∀ b u,H b=some u->b≠a:=fun b u e=>o8 e hn
 have kp:∀ b u,H b=some u->upd H a o b=some u:=fun b u e=>by rw[r9 (ne b u e)];exact e
 refine I.step (g':=s.gens) (d':=s.drawn) (ch:=[a]) (fun b hb=>?_) (fun b u _ _ hc e _=>k b u (fun z=>hc (by simp[z])) e) (fun b u _ _ hc e _=>⟨u.slots,k b u (fun z=>hc (by simp[z])) e⟩) (fun b u hc _ n=>by rw[r9 (fun z=>hc (by simp[z]))];exact n)
  (fun b u hc e=>⟨u,k b u (fun z=>hc (by simp[z])) e⟩) (fun b xs e=>kp b _ e) (fun b u xs e=>kp b _ e) (fun b ps e=>⟨#[],by rw[kp b _ e];simp⟩) (fun m hm=>?_) (fun b u e=>?_) I.bare
 ·have e:b=a:=by simpa using hb
  subst e
  exact⟨f.2.2.2.1,f.2.1,f.2.2.2.2.1,f.2.2.2.2.2⟩
 ·obtain⟨o',es,ep,ho,r⟩:=hm
  exact⟨o',es,ep,k _ o' (Ne.symm f.2.1) ho,r⟩
 ·by_cases hb:b=a
  ·subst hb
   rw[c6]at e
   cases e
   exact new
  ·rw[r9 hb]at e
   refine(I.hok b u e).stay (fun c v hc q=>k c v ?_ q) (fun c q=>?_) fun c xs q=>?_
   ·rcases hc with z | z
    ·rw[z];exact hb
    ·exact ne c _ z
   ·exact kp _ _ q
   ·exact kp _ _ q
abbrev aP1 (X:Cx)(A:Around)(σ:St)(H:Hp)(f:Value)(key:Int->List Int)(z:Int):Prop:=∀ (t:Tok) (pins':List (Addr × Obj)) (s':Shared) (H':Hp),Inv X pins' σ H' s'->u9 H H' ->
 r6 (t9 X.prog X.w) A (call f [.int z t]) (fun u s''=>∃ k H'',u=.ref k/\H'' k=some (.tup ((key z).map V.int))/\Inv X pins' σ H'' s''/\u9 H' H'') (fun _ _=>False) s'
abbrev aP2 (X:Cx)(pins:List (Addr × Obj))(σ:St)(H:Hp)(a:Addr)(zs:List Int)(key:Int->List Int)(P:PySem.Fin->Shared->Prop):Prop:=∀ (H':Hp) (s':Shared) (out:List Value) (zs':List Int) (c:Nat),Inv X pins σ H' s'->u9 H H'->Q2 X pins H' a ->
 s'.heap.get? a=some (J1 "list" out.toArray c)->M6 out zs'->zs'.Perm zs->zs'.Pairwise (fun x y=>Tim.N5 (key y) (key x)=false)->P (.done (.ret .none)) s'
theorem aD4 {key:Int->List Int}:∀ {ks vs:List Value} {zs:List Int},ae6 (fun u k=>Tim.IsK prog w h k u) ks (zs.map key)->M6 vs zs ->
  (∀ p∈ks.zip vs,Tim.IsK prog w h (key (numOf p.2)) p.1)/\(ks.zip vs).map (fun p=>numOf p.2)=zs
 | _,_,[],.nil,.nil=>⟨fun p h=>(nomatch h),rfl⟩
 | _,_,z::zs,.cons r t,.cons _ t' q=>by
  obtain⟨h1,h2⟩:=aD4 t q
  refine⟨fun p hp=>?_,by rw[aF7,p7,h2];rfl⟩
  rw[aF7]at hp
  rcases d4.mp hp with rfl | hp
  ·exact r
  ·exact h1 p hp
theorem aJ4:∀ {vs:List Value} {zs:List Int},M6 vs zs->∀ v∈vs,∃ t,v=.int (numOf v) t
 | _,_,.nil,v,h=>by cases h
 | _,_,.cons z t q,v,h=>by
  rcases d4.mp h with rfl | h
  ·exact⟨t,rfl⟩
  ·exact aJ4 q v h
theorem bh6:∀ {vs:List Value},(∀ v∈vs,∃ t,v=.int (numOf v) t)->M6 vs (vs.map numOf)
 | [],_=>.nil
 | v::vs,h=>by
  obtain⟨t,e⟩:=h v g9
  rw[p7]
  rw[e]
  exact .cons _ t (bh6 fun v hv=>h v (d3 _ hv))
set_option maxHeartbeats 2000000 in
theorem aW1 {kS:Addr}{keys:Array Value}{e e1:Nat}{key:Int->List Int}{P:PySem.Fin->Shared->Prop}{st:SortSt}{H0:Hp}(I:Inv X pins σ H s)(hS:u9 H0 H)(hk:s.heap.get? kS=some (J1 "list" keys e))(ha:s.heap.get? a=some (J1 "list" #[] e1))
  (fk:Q2 X pins H kS)(fa:Q2 X pins H a)(hka:kS≠a)(hz:vs.length<=1000)(hkl:keys.size=vs.length)(hi:M6 vs zs)
  (hK:ae6 (fun u k=>Tim.IsK X.prog X.w s.heap k u) keys.toList (zs.map key))(hp:(m9 st).Perm (keys.zip vs.toArray))(hf:O2 st=none)
  (hs:(m9 st).toList.Pairwise (Tim.le (Tim.Bf (O:=Tim.bc0) fun p=>Tim.W3 X.prog X.w s.heap p.1)))(h:aP2 X pins σ H0 a zs key P) :
  r6 (t9 X.prog X.w) A (ksk_tail a false e1 (.ref kS) st) P E s:=by
 obtain⟨k1,k2⟩:=aD4 hK hi
 have hl:(m9 st).toList.Perm (keys.toList.zip vs):=by rw[<- ksk_zip];exact M5.mp hp
 have hsz2:(m9 st).size=vs.length:=by rw[hp.size_eq,Array.size_zip,hkl,d6,Nat.min_self]
 have s1:=Heap.SameBut.update s.heap kS (Obj.mapSeq fun _=>(#[]:Array Value))
 have na1:(s.heap.update kS (Obj.mapSeq fun _=>(#[]:Array Value))).get? a=some (J1 "list" #[] e1):=(s1.2 a hka.symm).trans ha
 have hout:((m9 st).map (·.2)).size=vs.length:=by rw[ah8];exact hsz2
 have hmem:∀ v∈(m9 st).toList.map (·.2),∃ t,v=.int (numOf v) t:=fun v hv=>by
  obtain⟨p,hp',rfl⟩:=t8.mp hv
  exact aJ4 hi _ (ar8 (hl.mem_iff.mp hp')).2
 unfold ksk_tail
 dsimp only
 refine b9 (af0 hk rfl ?_ (by rw[hkl,E4];omega) (u4 _))
 refine b9 (ai3 ?_)
 refine b9 (bk1 na1 rfl ?_)
 refine b9 (af0 na1 rfl ?_ (u4 _) (A1 (as1 hout) (by rw[E4];omega)))
 rw[hf]
 simp only[bne_self_eq_false,m8,if_false]
 have I1:Inv X pins σ H { s with heap:=s.heap.update kS (Obj.mapSeq fun _=>(#[]:Array Value)),toks:=s.toks }:=I.turn fk fun b o hb q=>(s1.2 b hb).trans q
 have s2:=Heap.SameBut.update (s.heap.update kS (Obj.mapSeq fun _=>(#[]:Array Value))) a (Obj.mapSeq fun _=>(m9 st).map (·.2))
 have I2:Inv X pins σ H { s with heap:=(s.heap.update kS (Obj.mapSeq fun _=>(#[]:Array Value))).update a (Obj.mapSeq fun _=>(m9 st).map (·.2)),toks:=s.toks }:=
  I1.turn (t':=s.toks) fa fun b o hb q=>(s2.2 b hb).trans q
 obtain⟨c2,hc2⟩:∃ c2,((s.heap.update kS (Obj.mapSeq fun _=>(#[]:Array Value))).update a (Obj.mapSeq fun _=>(m9 st).map (·.2))).get? a=some (J1 "list" ((m9 st).map (·.2)) c2):=⟨_,Y3 na1 fun _=>(m9 st).map (·.2)⟩
 have eo:((m9 st).toList.map (·.2)).toArray=(m9 st).map (·.2):=by rw[<- bY8,as2]
 refine i8 (h H _ ((m9 st).toList.map (·.2)) (((m9 st).toList.map (·.2)).map numOf) c2 I2 hS fa (by rw[eo];exact hc2) (bh6 hmem) ?_ ?_)
 ·have:=hl.map fun p=>numOf p.2
  rw[k2]at this
  rw[W6]
  exact this
 ·rw[W6,P4]
  refine List.Pairwise.imp_of_mem ?_ hs
  intro x y hx hy hxy
  have ex:=Tim.V3 (k1 x (hl.mem_iff.mp hx))
  have ey:=Tim.V3 (k1 y (hl.mem_iff.mp hy))
  have hxy':Tim.N5 (Tim.W3 X.prog X.w s.heap y.1) (Tim.W3 X.prog X.w s.heap x.1)=false:=hxy
  rw[ex,ey]at hxy'
  exact hxy'
theorem bI4 {kS:Addr}{keys:Array Value}{e e1:Nat}{key:Int->List Int}{P:PySem.Fin->Shared->Prop}{H0:Hp}(I:Inv X pins σ H s)(hS:u9 H0 H)(hk:s.heap.get? kS=some (J1 "list" keys e))(ha:s.heap.get? a=some (J1 "list" #[] e1))
  (fk:Q2 X pins H kS)(fa:Q2 X pins H a)(hka:kS≠a)(hz:vs.length<=1000)(hkl:keys.size=vs.length)(hi:M6 vs zs)
  (hK:ae6 (fun u k=>Tim.IsK X.prog X.w s.heap k u) keys.toList (zs.map key))(hne:∀ z,∃ i k,key z=i::k)(h:aP2 X pins σ H0 a zs key P) :
  r6 (t9 X.prog X.w) A (ksk_end a false vs.toArray e1 (.ref kS) keys) P E s:=by
 obtain⟨k1,k2⟩:=aD4 hK hi
 have hzt:=ksk_zip keys vs
 unfold ksk_end
 dsimp only
 simp only[m8,if_false]
 by_cases h2:vs.toArray.size<2
 ·rw[if_pos h2,if_pos h2]
  refine b9 (i8 ?_)
  rw[StateT.run_pure]
  refine b9 (i8 ?_)
  refine aW1 (st:=SortSt.mk' general' (keys.zip vs.toArray) #[] 7 none) I hS hk ha fk fa hka hz hkl hi hK (Array.Perm.refl _) rfl ?_ h
  show (keys.zip vs.toArray).toList.Pairwise _
  rw[x6]
  intro i j hi hj hij
  rw[k8,Array.size_zip,hkl]at hj
  rw[d6]at h2 hj
  omega
 ·rw[if_neg h2,if_neg h2]
  rw[d6]at h2
  have hmemK:∀ v∈keys.toList,∃ i k,Tim.IsK X.prog X.w s.heap (i::k) v:=fun v hv=>by
   obtain⟨j,hj⟩:=o7.mp hv
   obtain⟨k,q1,q2⟩:=af8 hK hj
   obtain⟨z,_,rfl⟩:=t8.mp (f9 q1)
   obtain⟨i,k',ek⟩:=hne z
   rw[ek]at q2
   exact⟨i,k',q2⟩
  have kk:keyKind' keys=keyKind' keys.toList.toArray:=by rw[as2]
  rw[kk]
  refine b9 (Tim.aD3 (vs:=keys.toList) (by rw[k8,hkl];omega) hmemK ?_)
  refine b9 (E1 (Tim.av4 (a₀:=keys.zip vs.toArray) (κ:=bC3 true) (O:=Tim.bc0) (f:=fun p=>Tim.W3 X.prog X.w s.heap p.1) (st:=SortSt.mk' (bC3 true) (keys.zip vs.toArray) #[] 7 none)
   (Q:=fun _ st'=>(m9 st').Perm (keys.zip vs.toArray)/\O2 st'=none/\(m9 st').toList.Pairwise (Tim.le (Tim.Bf (O:=Tim.bc0) fun p=>Tim.W3 X.prog X.w s.heap p.1))) ?_ ([]:List Int) (Array.Perm.refl _) rfl rfl rfl fun st' a1 a2 a3=>⟨a1,a2,a3⟩) ?_ fun _ _ e=>e)
  ·intro x y hx hy Q hq
   rw[hzt]at hx hy
   refine Tim.aV5 (k1 x hx) (k1 y hy) ?_
   rw[<- Tim.V3 (k1 x hx),<- Tim.V3 (k1 y hy)]
   exact hq
  ·rintro⟨⟨⟩,st'⟩ s' ⟨rfl,hp,hf,hs⟩
   exact aW1 I hS hk ha fk fa hka hz hkl hi hK hp hf hs h
theorem bx0:∀ {vs:List Value} {zs:List Int} {j:Nat} {x:Value},M6 vs zs->vs[j]?=some x->∃ z t,zs[j]?=some z/\x=.int z t
 | _,_,_,_,.nil,h=>by simp at h
 | _,_,0,_,.cons n t q,h=>by simp at h;exact⟨n,t,rfl,h.symm⟩
 | _,_,j+1,_,.cons n t q,h=>by
  obtain⟨z,t',h1,h2⟩:=bx0 q (by simpa using h)
  exact⟨z,t',by simpa using h1,h2⟩
theorem bx6 {s':Shared}{b:Addr}{o:Obj}(I:Inv X (pins++ao3 fp h) σ H' s')(hb:b∈fp)(e:h.get? b=some o):s'.heap.get? b=some o/\H' b=none:=
 let p:=I.pin (b,o) (o5 _ (o5 _ (T4 hb e)))
 ⟨p.1,p.2.1⟩
theorem bw1 {kS:Addr}{f:Value}{e1:Nat}{key:Int->List Int}{P:PySem.Fin->Shared->Prop}(I:Inv X pins σ H s)(hk:s.heap.get? kS=some (J1 "list" #[] 0))(ha:s.heap.get? a=some (J1 "list" #[] e1))
  (fk:Q2 X pins H kS)(fa:Q2 X pins H a)(hka:kS≠a)(hz:vs.length<=1000)(hi:M6 vs zs)(hne:∀ z,∃ i k,key z=i::k)(turn:∀ z∈zs,aP1 X A σ H f key z)(h:aP2 X pins σ H a zs key P) :
  r6 (t9 X.prog X.w) A (ksk_rest a f false vs.toArray e1 (.ref kS)) P E s:=by
 have hlen:=hi.length
 unfold ksk_rest
 refine b9 (an7 ?_)
 first
  | rw[List.forIn_toArray]
  | (rw[<- ag7];simp only[bL0])
  | rw[<- ag7]
 refine b9 (ksk_fold (fun i s'=>∃ (kA:Array Value) (e:Nat) (H':Hp) (ys:List V),Inv X pins σ H' s'/\u9 H H'/\s'.heap.get? kS=some (J1 "list" kA e)/\s'.heap.get? a=some (J1 "list" #[] e1)/\Q2 X pins H' kS/\Q2 X pins H' a /\
   D6 ys kA.toList/\C0 X.K H' ys ((zs.take i).map key)) vs 0 s ⟨#[],0,H,[],I,u9.refl H,hk,ha,fk,fa,.nil,.nil⟩ ?step ?done)
 case step =>
  rintro j x s' hx ⟨kA,e,H',ys,I',hS,hk',ha',fk',fa',hv,ht⟩
  simp only[N9]at ht ⊢
  have hj:j<vs.length:=(c9.mp hx).1
  obtain⟨z,t,hzj,rfl⟩:=bx0 hi hx
  have hzA:kA.size<=vs.length:=by
   have h1:ys.length=kA.size:=by rw[<- k8];exact hv.length
   have h2:=ht.len
   rw[b7,q8]at h2
   omega
  have Ip:=I'.pinned (fp:=[kS,a]) (fun b hb=>by
   rcases d4.mp hb with rfl | hb
   ·exact fk'
   ·rw[C9.mp hb];exact fa') (fun b hb=>by
   rcases d4.mp hb with rfl | hb
   ·exact⟨_,hk',fun v q=>by cases q⟩
   ·rw[C9.mp hb];exact⟨_,ha',fun v q=>by cases q⟩)
  refine b9 (aL6 (E1 (turn z (f9 hzj) t _ s' H' Ip hS) (fun v s'' he=>?_) fun _ _ hF=>hF.elim))
  obtain⟨k,H'',rfl,hk'',I'',hS'⟩:=he
  obtain⟨nk,fk0⟩:=bx6 I'' g9 hk'
  obtain⟨na,fa0⟩:=bx6 I'' (d3 _ g9) ha'
  have Iu:=I''.unpinned
  have fk'':Q2 X pins H'' kS:=fk'.to fk0
  have fa'':Q2 X pins H'' a:=fa'.to fa0
  have s1:=Heap.SameBut.update s''.heap kS (Obj.mapSeq (·.push (.ref k)))
  obtain⟨c2,hc2⟩:∃ c2,(s''.heap.update kS (Obj.mapSeq (·.push (Value.ref k)))).get? kS=some (J1 "list" (kA.push (.ref k)) c2):=⟨_,Y3 nk (·.push (.ref k))⟩
  have ea:(kA.push (Value.ref k)).toList=kA.toList++[Value.ref k]:=by simp
  have ek:zs.take (j+1)=zs.take j++[z]:=by rw[C8,hzj];simp
  refine b9 (af0 nk rfl ?_ (by rw[E4];omega) (A1 (as1 (A5 ..)) (by rw[E4];omega)))
  refine i8 ⟨rfl,kA.push (.ref k),c2,H'',ys++[.ref k],?_,hS.trans hS',hc2,(s1.2 a hka.symm).trans na,fk'',fa'',?_,?_⟩
  ·exact Iu.turn (t':=s''.toks) fk'' fun b o hb q=>(s1.2 b hb).trans q
  ·rw[ea]
   exact hv.append (.cons rfl .nil)
  ·rw[ek,j9]
   exact C0.append (C0.same hS' ht) (.cons ⟨k,rfl,.of hk''⟩ .nil)
 case done =>
  rintro s' ⟨kA,e,H',ys,I',hS,hk',ha',fk',fa',hv,ht⟩
  have e3:zs.take (0+vs.length)=zs:=k9 (by omega)
  rw[e3]at ht
  refine b9 (bP6 hk' rfl ?_)
  have h1:ys.length=kA.size:=by rw[<- k8];exact hv.length
  have h2:=ht.len
  rw[b7]at h2
  have hK:=ad0 I' ht hv
  exact bI4 I' hS hk' ha' fk' fa' hka hz (by omega) hi (aC1 (fun u k q=>q) hK) hne h
theorem bw0 {f:Value}{key:Int->List Int}{P:PySem.Fin->Shared->Prop}(I:Inv X pins σ H s)(ha:s.heap.get? a=some (J1 "list" vs.toArray n))
  (fa:Q2 X pins H a)(hz:vs.length<=1000)(hi:M6 vs zs)(hne:∀ z,∃ i k,key z=i::k)(turn:∀ z∈zs,aP1 X A σ H f key z)(h:aP2 X pins σ H a zs key P) :
  r6 (t9 X.prog X.w) A (ksk_tree a f false) P E s:=by
 have hlt:a<s.heap.objs.size:=c8 ha
 have s1:=Heap.SameBut.update s.heap a (Obj.mapSeq fun _=>(#[]:Array Value))
 obtain⟨e1,ho1⟩:∃ e1,(s.heap.update a (Obj.mapSeq fun _=>(#[]:Array Value))).get? a=some (J1 "list" #[] e1):=⟨_,Y3 ha fun _=>#[]⟩
 have I1:Inv X pins σ H { s with heap:=s.heap.update a (Obj.mapSeq fun _=>(#[]:Array Value)),toks:=s.toks }:=I.turn fa fun b o hb q=>(s1.2 b hb).trans q
 unfold ksk_tree
 refine b9 (bP6 ha rfl ?_)
 refine b9 (af0 ha rfl ?_ (by rw[d6,E4];omega) (u4 _))
 refine b9 (bk1 ho1 rfl ?_)
 refine b9 (bp0 ?_ (by show vs.length<=_;rw[E4];omega))
 refine b9 (U7 ?_ (u4 _))
 refine F0 ?_
 generalize hh2:(s.heap.update a (Obj.mapSeq fun _=>(#[]:Array Value))).push (J1 "tuple" vs.toArray 0)=h2
 have hsz:h2.objs.size=s.heap.objs.size+1:=by rw[<- hh2,bB4,bZ6]
 have I2:Inv X pins σ H { s with heap:=h2,toks:=s.toks }:=I1.kept (t':=s.toks) fun b o q=>by rw[<- hh2];exact c5 _ q
 have I3:Inv X pins σ H { s with heap:=h2.push (J1 "list" #[] 0),toks:=s.toks }:=I2.kept (t':=s.toks) fun b o q=>c5 _ q
 have fk:Q2 X pins H h2.objs.size:=I2.fpOk (d5 _) (I2.hok.fresh (d5 _))
 refine bw1 (s:={ s with heap:=h2.push (J1 "list" #[] 0),toks:=s.toks }) (kS:=h2.objs.size) (e1:=e1) I3 (j0 _ rfl) ?_ fk fa (by rw[hsz];exact L4 (A4 hlt)) hz hi hne turn h
 refine c5 _ ?_
 rw[<- hh2]
 exact c5 _ ho1
theorem ba3 {r q:Addr}{key:Int->List Int}(I:Inv X pins σ H s)(hh:A.handled=none)(hr:∃ t u v,IsRange s.heap r 0 n 1 t u v)(hn:n<=1000)(hne:∀ z,∃ i k,key z=i::k)
  (turn:∀ z∈(am7 0 n).map (fun k:Nat=>(k:Int)),aP1 X A.in1.in1 σ H (.ref q) key z)
  (h:∀ (H':Hp) (s':Shared) (D:Addr) (zs:List Int),u9 H H'->H' D=none->zs.Perm ((am7 0 n).map fun k:Nat=>(k:Int))->zs.Pairwise (fun x y=>Tim.N5 (key y) (key x)=false)->Inv X pins σ (upd H' D (.lst (zs.map V.int))) s'->Q (.ref D) s') :
  r6 (t9 X.prog X.w) A (call (.builtin "sorted") [.ref r] [(Str.ofString "key",.ref q)]) Q E s:=by
 obtain⟨t,u,v,hr⟩:=hr
 refine bL7 ca5 bP7 bP8 (ksk_s1 _ _) ?_
 unfold Builtin.«sorted»
 refine b9 (m:=checkCount "sorted" 1 1 _) (i8 ?_)
 refine b9 (aX7 (A:=A.in1) hh hr hn fun h1 tk vs kp hi=>?_)
 have hlen:=hi.length
 rw[b7,aG1]at hlen
 have I1:Inv X pins σ H { s with heap:=h1,toks:=tk }:=I.kept kp
 refine b9 (U7 ?_ (by rw[E4];omega))
 have fD:Q2 X pins H h1.objs.size:=I1.fpOk (d5 _) (I1.hok.fresh (d5 _))
 have I2:Inv X pins σ H { s with heap:=h1.push (J1 "list" vs.toArray 0),toks:=tk }:=I1.kept (t':=tk) fun b o q=>c5 _ q
 have hoL:(h1.push (J1 "list" vs.toArray 0)).get? h1.objs.size=some (J1 "list" vs.toArray 0):=j0 _ rfl
 refine b9 (F0 (ca6 bp1 (s:={ s with heap:=h1.push (J1 "list" vs.toArray 0),toks:=tk }) ⟨_,hoL,rfl⟩ bk2 ?body (ksk_l1 _ _)))
 show r6 (t9 X.prog X.w) A.in1.in1 (Builtin.«list.sort» ⟨[.ref h1.objs.size],[(Str.ofString "key",.ref q)]⟩) _ _ _
 rw[ksk_t1]
 refine bw0 I2 hoL fD (by omega) hi hne turn fun H' s' out zs' c I' hS fa' hout hi' hp hs=>⟨_,rfl,?_⟩
 have hl2:zs'.length<=1000:=by rw[hp.length_eq,b7,aG1];exact hn
 refine i8 ⟨_,rfl,h H' s' h1.objs.size zs' hS fa'.1 hp hs ?_⟩
 have:=I'.take (t':=s'.toks) (h':=s'.heap) (o:=.lst (zs'.map V.int)) fa' (fun b u _ q=>q) ⟨by rw[b7,E4];omega,out,c,ak5 hi',hout⟩
 exact this
abbrev ao7 (qual:Str)(scope:Scope)(cl:List (Str × Addr))(f:Addr)(cv:Value)(s:Shared):Env:=PySem.W.envX qual scope s.heap.objs.size f cv cl
def bv3 (X:Cx)(A:Around)(qual:Str)(scope:Scope)(cl:List (Str × Addr))(N':List Str)(f:Addr)(cv:Value)(s:Shared)(H:Hp):Cx:=
 { X with A:=A.deeper (ao7 qual scope cl f cv s),N:=N',s₀:=s,H₀:=H,env:=ao7 qual scope cl f cv s,outer:=X.stack,stack:=List.cons (ao7 qual scope cl f cv s) X.stack,ex:=[],fn:=fun _=>false,calm:=true,pn:=[],xe:=fun _ _=>False }
def aK8 (X:Cx)(N':List Str)(lk:List (Option Nat))(scope:Scope)(cl:List (Str × Addr)):Prop:=
 lk.length=N'.length/\∀ (i j:Nat) (x:Str),N'[i]?=some x->lk[i]?=some (some j)->X.N[j]?=some x/\(X.env.scope.names.lookup x=some .cell\/X.env.scope.names.lookup x=some .free)/\(cl.lookup x).isSome=true /\
  (scope.names.lookup x=some .cell\/scope.names.lookup x=some .free)
theorem bm4 {h1:Heap}{tk:Nat}{p:Str}{cv:Value}{v:V}(I:Inv X pins σ H s)(hA:A.frames=some X.stack)(hh:A.handled=none)(hkind:scope.kind=.function)(hcl:aF6 X.env cl)(hfr:ar6 scope.names cl=true)(hlk:aK8 X N' lk scope cl)
  (hp:scope.names.lookup p=some .local)(rv:RelV v u)(hn:h1.Ns s.heap.objs.size (fun y=>[(p,u)].reverse.lookup y))(hk:∀ b o,s.heap.get? b=some o->h1.get? b=some o) :
  Inv (bv3 X A qual scope cl (p::N') f cv s H) [] (some v::ag3 lk σ) H { s with heap:=h1,toks:=tk }:=by
 have hC:H s.heap.objs.size=none:=I.hok.fresh (d5 _)
 have hmem:∀ y∈scope.names,y.2≠.cell/\(y.2=.free->(cl.lookup y.1).isSome=true):=fun y hy=>by
  unfold ar6 at hfr
  rw[Q9]at hfr
  have:=hfr y hy
  rw[D9]at this
  refine⟨by simpa using this.1,fun e=>?_⟩
  have h2:=this.2
  rw[e]at h2
  simpa using h2
 have hcell:∀ x c,cl.lookup x=some c->X.env.cells.lookup x=some c:=fun x c e=>hcl.get e
 have noE:∀ b:Addr,b∉([]:List Addr):=fun b z=>nomatch z
 refine⟨⟨I.ok.mod,hkind,rfl,rfl,d5 _,fun x y c e1 e2=>I.ok.inj x y c (hcell x c e1) (hcell y c e2),fun x hx=>?_,(fun x c e=>by cases e),fun _=>hh,Around.frames_deeper hA,.inr ⟨rfl,rfl⟩,fun b z=>absurd z (noE b),fun b o e=>I.bs b o e,A1 I.ok.bsz I.sz,fun b _ _=>noE b,fun b z=>absurd z (noE b),I.stack,I.stkFree⟩,
  rfl,I.bare,Un.kept hk,⟨_,hn,fun i x w e1 e2 e3=>?_⟩,fun x c e=>?_,hC,fun x c e=>I.freeC x c (hcell x c e),(fun q hq=>nomatch hq),I.hok.kept hk,?_⟩
 ·have hx':scope.names.lookup x=some .cell\/scope.names.lookup x=some .free:=hx
  rcases hx' with h | h
  ·exact absurd rfl (hmem _ (PySem.mem_of_lookup h)).1
  ·exact p6.mp ((hmem _ (PySem.mem_of_lookup h)).2 rfl)
 ·cases i with
  | zero =>
   have e1':p=x:=by simpa using (show (p::N')[0]?=some x from e1)
   have e2':v=w:=by simpa using (show (some v::ag3 lk σ)[0]?=some (some w) from e2)
   subst e1' e2'
   refine⟨u,rv,.inl ⟨hp,?_⟩⟩
   show [(p,u)].reverse.lookup p=some u
   simp[E6]
  | succ i =>
   have e1':N'[i]?=some x:=by simpa using (show (p::N')[i+1]?=some x from e1)
   have e2':(ag3 lk σ)[i]?=some (some w):=by simpa using (show (some v::ag3 lk σ)[i+1]?=some (some w) from e2)
   unfold ag3 at e2'
   rw[p0]at e2'
   cases hq:lk[i]? with
   | none=>rw[hq]at e2';cases e2'
   | some o =>
    rw[hq]at e2'
    have e2'':(o.bind fun j=>(σ[j]?).join)=some w:=Option.some.inj e2'
    cases o with
    | none=>cases e2''
    | some j =>
     obtain⟨q1,q2,q3,q4⟩:=hlk.2 i j x e1' hq
     have hσ:σ[j]?=some (some w):=by
      have z:(σ[j]?).join=some w:=e2''
      cases hh:σ[j]? with
      | none=>rw[hh]at z;cases z
      | some o=>rw[hh]at z;rw[show o=some w from z]
     obtain⟨m,hnX,hl⟩:=I.loc
     obtain⟨u',r,lo⟩:=hl j x w q1 hσ (q2.elim (fun a=>.inr (.inl a)) (fun a=>.inr (.inr a)))
     refine⟨u',r,.inr ?_⟩
     obtain⟨c,hc⟩:=p6.mp q3
     refine⟨q4,c,hc,?_⟩
     have hcX:=hcell x c hc
     rcases lo with⟨k,_⟩ | ⟨_,c',hc',z⟩
     ·have k':X.env.scope.names.lookup x=some .local:=k
      rw[k']at q2
      rcases q2 with q2 | q2<;>cases q2
     ·rw[hcX]at hc'
      cases hc'
      obtain⟨o,ho,hd⟩:=z
      exact⟨o,hk c o ho,hd⟩
 ·obtain⟨w,o,ho,hd⟩:=I.cell x c (hcell x c e)
  exact⟨w,o,hk c o ho,hd⟩
 ·show (some v::ag3 lk σ).length=(p::N').length
  unfold ag3
  rw[t4,b7,t4,hlk.1]
theorem bv2 {name p:Str}{body:Expr}{c':Addr}{pm ctv:Value}{v:V}{Q:VK}(I:Inv X pins σ H s)(hA:A.frames=some X.stack)(hh:A.handled=none)(hroom:A.depth<aG2)
  (ho:s.heap.get? f=some (PySem.W.kla_obj name qual params body scope cl pm c' ctv))(hcd:s.heap.CodeRec (.ref c') qual)(hbind:be1 (PySem.W.kla_fn name qual params body scope cl pm (.ref c') ctv) ⟨[u],[]⟩=pure [(p,u)])
  (hkind:scope.kind=.function)(hco:scope.isCoroutine=false)(hgen:scope.isGenerator=false)(hcl:aF6 X.env cl)(hfr:ar6 scope.names cl=true)(hlk:aK8 X N' lk scope cl)(hp:scope.names.lookup p=some .local)(rv:RelV v u)
  (he:PE (bv3 X A qual scope cl (p::N') f (.ref c') s H) body te)(ht:te (some v::ag3 lk σ) H Q) :
  r6 (t9 X.prog X.w) A (call (.ref f) [u]) (fun u' s'=>∃ v' H',Inv X pins σ H' s'/\RelV v' u'/\Q v' H') (fun _ _=>False) s:=by
 have hcellN:∀ y∈scope.names,y.2≠.cell:=fun y hy=>by
  unfold ar6 at hfr
  rw[Q9]at hfr
  have:=hfr y hy
  rw[D9]at this
  simpa using this.1
 refine aQ3 (PySem.W.kla_callFunE hroom ho rfl hco hgen rfl hcd ?_)
 show r6 _ _ (be1 (PySem.W.kla_fn name qual params body scope cl pm (.ref c') ctv) ⟨[u],[]⟩) _ _ s
 rw[hbind]
 refine i8 (ae7 hcellN (fun y hy=>by rw[C9.mp hy];exact hp) (fun h1 hns hsb=>?_) hkind)
 have hk₁:∀ b o,s.heap.get? b=some o->h1.get? b=some o:=fun b o e=>hsb.extBut b o (k7 (c8 e)) (c5 _ e)
 refine⟨I.nolimit.keeps hk₁,?_⟩
 show am1 _ _ (.expr body (PySem.W.envX qual scope s.heap.objs.size f (.ref c') cl)) _ _
 have I1:=bm4 (tk:=s.toks+[(p,u)].length) (qual:=qual) (f:=f) (cv:=.ref c') I hA hh hkind hcl hfr hlk hp rv hns hk₁
 refine PySem.W.kla_codeExpr (E1 (he [] _ _ H Q I1 ht) (fun u' s' hq=>?_) fun _ _ z=>False.elim z)
 obtain⟨v',H',J,r',q⟩:=hq
 exact⟨v',H',I.call' (ch:=[]) J.os J.base J.hok J.bare (fun b z=>nomatch z),r',q⟩
def aw1 (c:Addr)(qual:Str):HO:=.ext fun h=>h.CodeRec (.ref c) qual
def R7 (f:Addr)(o:Obj):HO:=.ext fun h=>h.get? f=some o
def U0 (P:Addr)(pos:Pos)(qual:Str)(H:Hp):Prop:=∃ ps,H P=some (.tbl ps)/\TriplesOk ps.toList/\(bQ1 pos ps.toList=none\/∃ c',bQ1 pos ps.toList=some (.ref c')/\H c'=some (aw1 c' qual))
def T5 (P:Addr)(H H':Hp):Prop:=∀ b o,b≠P->H b=some o->H' b=some o
theorem T5.trans {P:Addr}{H1 H2:Hp}(a:T5 P H H1)(b:T5 P H1 H2):T5 P H H2:=fun c o n h=>b c o n (a c o n h)
theorem u9.grow (P:Addr)(h:u9 H H'):T5 P H H':=fun b o _ q=>h b o q
theorem U0.same {P:Addr}(t:U0 P pos qual H)(h:u9 H H'):U0 P pos qual H':=by
 obtain⟨ps,h1,h2,h3⟩:=t
 refine⟨ps,h _ _ h1,h2,?_⟩
 rcases h3 with h3 | ⟨c',h3,h4⟩
 ·exact .inl h3
 ·exact .inr ⟨c',h3,h _ _ h4⟩
structure ar5 (base:Heap) (mg:Str->Option Value) (c P:Addr):Prop where
 hd:PySem.W.CodeHd base c P
 blt:base.BuiltinsAt mg P
 ne:d8≠P
theorem bo5 {c:Value}{l:List Value}(h:TriplesOk l)(hn:bQ1 pos l=none):bQ1 pos (l++[ai0 pos.line,ai0 pos.col,c])=some c:=codeAmong_snoc l h hn
def cb7 (P:Addr)(pos:Pos)(qual:Str)(params:Arguments)(body:Expr)(scope:Scope)(cl:List (Str × Addr))(pm:Value):TE:=fun σ H Q=>U0 P pos qual H/\∀ f c' ctv H',T5 P H H'->U0 P pos qual H'->H f=none ->
 H' f=some (R7 f (PySem.W.kla_obj "<lambda>" qual params body scope cl pm c' ctv))->H' c'=some (aw1 c' qual)->Q (.ref f) H'
theorem bt4 {body:Expr}{P:Addr}(B:ar5 X.base X.mg c P)(hcode:X.env.code=.ref c)(hcl:aQ6 scope X.env=pure cl)(hdef:defaultsOf params X.env=([],[])) :
  PE X (.Lambda params body scope pos) (cb7 P pos (X.env.qual++"<lambda>") params body scope cl ((X.mg "__name__").getD .none)):=by
 intro pins s σ H Q I h
 obtain⟨⟨ps,hP,ht,hin⟩,q⟩:=h
 have hPh:s.heap.get? P=some (PySem.W.tabObj ps):=I.hok P _ hP
 have C:=B.hd.keeps I.bk
 have hb:s.heap.BuiltinsAt X.mg P:=by
  obtain⟨bm,ob,b1,b2,b3,b4,b5,b6⟩:=B.blt
  exact⟨bm,ob,b1,b2,b3,b4,I.bk _ _ b5,b6⟩
 refine PySem.W.kla_eval hdef ?_
 rcases hin with hnf | ⟨c',hf,hc'⟩
 ·refine PySem.W.kla_makeFunction hcl I.ok.glob (I.mod.glob.keeps I.bk) hcode C hPh ht hnf B.ne hb fun c' ctv h' tk hx hge hlt hrec htb=>?_
  have hPlt:P<s.heap.objs.size:=c8 hPh
  have hsz:s.heap.objs.size<=h'.objs.size:=A1 hge (as0 hlt)
  have cP:P≠c':=k7 (o9 hPlt hge)
  have fP:P≠h'.objs.size:=k7 (o9 hPlt hsz)
  have fc:c'≠h'.objs.size:=k7 hlt
  have hcn:H c'=none:=I.hok.fresh hge
  have hfn:H h'.objs.size=none:=I.hok.fresh hsz
  have hfr:(PySem.W.kla_obj "<lambda>" (X.env.qual++"<lambda>") params body scope cl ((X.mg "__name__").getD .none) c' ctv).isFreed=false:=rfl
  generalize hobj:PySem.W.kla_obj "<lambda>" (X.env.qual++"<lambda>") params body scope cl ((X.mg "__name__").getD .none) c' ctv=ob at *
  generalize hps:ps++#[ai0 pos.line,ai0 pos.col,.ref c']=ps' at *
  have hps2:ps'.toList=ps.toList++[ai0 pos.line,ai0 pos.col,.ref c']:=by rw[<- hps];simp
  generalize hH1:upd (upd (upd H P (.tbl ps')) c' (aw1 c' (X.env.qual++"<lambda>"))) h'.objs.size (R7 h'.objs.size ob)=H1
  have v1:H1 h'.objs.size=some (R7 h'.objs.size ob):=by rw[<- hH1];exact c6
  have v2:H1 c'=some (aw1 c' (X.env.qual++"<lambda>")):=by rw[<- hH1,r9 fc];exact c6
  have v3:H1 P=some (.tbl ps'):=by rw[<- hH1,r9 fP,r9 cP];exact c6
  have v4:∀ b,b≠P->b≠c'->b≠h'.objs.size->H1 b=H b:=fun b n1 n2 n3=>by rw[<- hH1,r9 n3,r9 n2,r9 n1]
  have v5:∀ b u,b≠P->H b=some u->H1 b=some u:=fun b u n e=>by rw[v4 b n (o8 e hcn) (o8 e hfn)];exact e
  have k1:∀ b o,b≠P->s.heap.get? b=some o->(h'.push ob).get? b=some o:=fun b o n e=>c5 _ (hx b o n e)
  have neP:∀ b,H b=none->b≠P:=fun b n z=>by rw[z,hP]at n;cases n
  have hPn:(h'.push ob).get? P=some (PySem.W.tabObj ps'):=c5 _ htb
  have un:Un X.fs [] H H1 s.heap (h'.push ob):=by
   refine⟨fun b o e n _ _=>k1 b o (neP b n) e,fun b o e n _ _=>⟨o.slots,k1 b o (neP b n) e⟩,fun b o e n _=>?_,fun b o e _=>?_,fun b xs e=>v5 b _ (fun z=>by rw[z,hP]at e;cases e) e,fun b o u e=>v5 b _ (fun z=>by rw[z,hP]at e;cases e) e,fun b qs e=>?_⟩
   ·rw[v4 b (neP b n) (k7 (o9 (c8 e) hge)) (k7 (o9 (c8 e) hsz))]
    exact n
   ·by_cases hb:b=P
    ·rw[hb];exact⟨_,hPn⟩
    ·exact⟨o,k1 b o hb e⟩
   ·by_cases hb:b=P
    ·rw[hb,hP]at e
     cases e
     rw[hb]
     exact⟨#[ai0 pos.line,ai0 pos.col,.ref c'],by rw[v3,<- hps]⟩
    ·exact⟨#[],by rw[v5 b _ hb e];simp⟩
  have hok:HOk X.prog X.w H1 (h'.push ob):=by
   intro b u e
   by_cases hb1:b=h'.objs.size
   ·subst hb1
    rw[v1]at e
    cases e
    exact⟨j0 _ hfr,⟨_,j0 _ hfr⟩,fun h1 h2 q z=>z _ q⟩
   ·by_cases hb2:b=c'
    ·subst hb2
     rw[v2]at e
     cases e
     obtain⟨c2,oc,vs,tq,e1,e2,e3,e4⟩:=hrec
     cases e1
     exact⟨⟨_,oc,vs,tq,rfl,c5 _ e2,e3,e4⟩,⟨oc,c5 _ e2⟩,fun h1 h2 ⟨c3,o3,vs3,t3,q1,q2,q3,q4⟩ z=>by cases q1;exact⟨_,o3,vs3,t3,rfl,z _ q2,q3,q4⟩⟩
    ·by_cases hb3:b=P
     ·subst hb3
      rw[v3]at e
      cases e
      exact hPn
     ·rw[v4 b hb3 hb2 hb1]at e
      refine(I.hok b u e).stay (fun d v hd z=>k1 d v ?_ z) (fun d z=>v5 _ _ ?_ z) fun d xs z=>v5 _ _ ?_ z
      ·rcases hd with hd | hd
       ·rw[hd];exact hb3
       ·intro zz;rw[zz,hP]at hd;cases hd
      ·intro zz;rw[zz,hP]at z;cases z
      ·intro zz;rw[zz,hP]at z;cases z
  have I1:Inv X pins σ H1 { s with heap:=h'.push ob,toks:=tk }:=I.un un hok
  refine⟨.ref h'.objs.size,H1,I1,rfl,q _ c' ctv H1 (fun b o n e=>v5 b o n e) ⟨ps',v3,?_,.inr ⟨c',?_,v2⟩⟩ hfn ?_ v2⟩
  ·rw[hps2];exact TriplesOk_snoc _ _ _ _ ht
  ·rw[hps2];exact bo5 ht hnf
  ·rw[hobj];exact v1
 ·refine PySem.W.kla_makeFunctionHit hcl I.ok.glob (I.mod.glob.keeps I.bk) hcode C hPh ht hf hb fun ctv h' tk hk hsz=>?_
  have hfn:H h'.objs.size=none:=I.hok.fresh hsz
  have hfr:(PySem.W.kla_obj "<lambda>" (X.env.qual++"<lambda>") params body scope cl ((X.mg "__name__").getD .none) c' ctv).isFreed=false:=rfl
  generalize hobj:PySem.W.kla_obj "<lambda>" (X.env.qual++"<lambda>") params body scope cl ((X.mg "__name__").getD .none) c' ctv=ob at *
  have I1:Inv X pins σ (upd H h'.objs.size (R7 h'.objs.size ob)) { s with heap:=h'.push ob,toks:=tk }:=I.laid (fun b o e=>c5 _ (hk b o e)) hsz ⟨j0 _ hfr,⟨_,j0 _ hfr⟩,fun h1 h2 q z=>z _ q⟩
  have sm:u9 H (upd H h'.objs.size (R7 h'.objs.size ob)):=fun b o e=>by rw[r9 (o8 e hfn)];exact e
  refine⟨.ref h'.objs.size,_,by rw[<- hobj]at I1;rw[<- hobj];exact I1,rfl,q _ c' ctv _ (sm.grow P) (U0.same ⟨ps,hP,ht,.inr ⟨c',hf,hc'⟩⟩ sm) hfn (by rw[hobj];exact c6) (sm _ _ hc')⟩
def cb3 (ta:TA):TE:=fun σ H Q=>ta σ H fun vs H1=>∃ n:Nat,vs=[.int n]/\n<=1000/\∀ r,H1 r=none->Q (.ref r) (upd H1 r (.rng 0 n))
def bR0 (P:Addr)(lpos:Pos)(qual:Str)(lk:List (Option Nat))(te:TE)(tr:TA):TE:=fun σ H Q=>tr σ H fun vs H1=>∃ (r:Addr) (n:Nat) (key:Int->List Int),vs=[.ref r]/\H1 r=some (.rng 0 n)/\n<=1000/\(∀ z,∃ i k,key z=i::k)/\U0 P lpos qual H1 /\
 ∀ H2,T5 P H1 H2->U0 P lpos qual H2->(∀ (H3:Hp) (z:Nat),u9 H2 H3->z<n->te (some (.int z)::ag3 lk σ) H3 fun v H4=>∃ k,v=.ref k/\H4 k=some (.tup ((key z).map V.int))/\u9 H3 H4) /\
  ∀ (H':Hp) (D:Addr) (zs:List Int),u9 H2 H'->H' D=none->zs.Perm ((am7 0 n).map fun k:Nat=>(k:Int))->zs.Pairwise (fun x y=>Tim.N5 (key y) (key x)=false)->Q (.ref D) (upd H' D (.lst (zs.map V.int)))
theorem bF1 {a:Expr}{ta:TA}{p:Pos}(hg:Gl X "range")(hm:X.mg "range"=none)(ha:PA X [a] ta)(hs:u5 [a] X.env=[(false,eval a X.env)]:=by rfl):PE X (.Call (.Name "range" p) [a] [] pos) (cb3 ta):=by
 intro pins s σ H Q I h
 refine Call_ (X8 I hg hm boot_range (PyProof.Rows.callWith_type1 (thn (ha pos pins s σ H _ I h) fun us s1 ⟨vs,H1,I1,r1,q1⟩=>?_) hs rfl))
 obtain⟨n,e,hn,q⟩:=q1
 subst e
 cases r1 with
 | cons r rr =>
  cases rr
  obtain⟨t,rfl⟩:=r
  refine call_range_1 ?_
  have hf:H1 s1.heap.objs.size=none:=I1.hok.fresh (d5 _)
  exact⟨.ref s1.heap.objs.size,upd H1 s1.heap.objs.size (.rng 0 n),I1.laid (fun b o e=>c5 _ e) (d5 _) ⟨_,_,_,j0 _ rfl⟩,rfl,q _ hf⟩
theorem bt2 {body:Expr}{p:Str}{np lpos kpos:Pos}{P:Addr}{tr:TA}(hc:X.calm=true)(hd:X.A.depth<aG2)(hg:Gl X "sorted")(hm:X.mg "sorted"=none)(ha:PA X [e] tr)
  (B:ar5 X.base X.mg c P)(hcode:X.env.code=.ref c)(hcl:aQ6 scope X.env=pure cl)(hdef:defaultsOf params X.env=([],[]))(hkind:scope.kind=.function)(hco:scope.isCoroutine=false)(hgen:scope.isGenerator=false)(hclo:aF6 X.env cl)(hfr:ar6 scope.names cl=true)(hlk:aK8 X N' lk scope cl)
  (hp:scope.names.lookup p=some .local)(hbind:∀ (pm ctv u:Value) (c':Addr),be1 (PySem.W.kla_fn "<lambda>" (X.env.qual++"<lambda>") params body scope cl pm (.ref c') ctv) ⟨[u],[]⟩=pure [(p,u)])
  (he:∀ f c' s3 H3,PE (bv3 X X.A.in1.in1 (X.env.qual++"<lambda>") scope cl (p::N') f (.ref c') s3 H3) body te)
  (hs:S4 pos (u5 [e] X.env)=(false,eval e X.env)::S4 pos (u5 [] X.env):=by rfl)
  (hpl:(S4 pos (u5 [e] X.env)).any (·.1)=false:=by rfl) :
  PE X (.Call (.Name "sorted" np) [e] [⟨some "key",.Lambda params body scope lpos,kpos⟩] pos) (bR0 P lpos (X.env.qual++"<lambda>") lk te tr):=by
 intro pins s σ H Q I h
 refine J0 (X8 I hg hm (show L9 "sorted"=some (.builtin "sorted") from rfl) ?_ (by decide) (by decide))
 refine ca7 (thn (ha pos pins s σ H _ I h) fun us s1 ⟨vs,H1,I1,r1,q1⟩=>?_) hs hpl rfl rfl
 obtain⟨r,n,key,rfl,hr,hn,hne,tb,q⟩:=q1
 have hk:PK X [⟨some "key",.Lambda params body scope lpos,kpos⟩] (aR9 (cb7 P lpos (X.env.qual++"<lambda>") params body scope cl ((X.mg "__name__").getD .none)) bp8):=aN2 (bt4 B hcode hcl hdef) bb3
 refine thn (hk pos pins s1 σ H1 (fun zs H2=>∃ f c' ctv,zs=[.ref f]/\T5 P H1 H2/\U0 P lpos (X.env.qual++"<lambda>") H2/\H2 f=some (R7 f (PySem.W.kla_obj "<lambda>" (X.env.qual++"<lambda>") params body scope cl ((X.mg "__name__").getD .none) c' ctv))/\H2 c'=some (aw1 c' (X.env.qual++"<lambda>"))) I1
  ⟨tb,fun f c' ctv H2 g1 g2 g3 g4 g5=>⟨f,c',ctv,rfl,g1,g2,g4,g5⟩⟩) fun ws s2 ⟨zs,H2,I2,r2,f,c',ctv,ez,g1,g2,g4,g5⟩=>?_
 subst ez
 obtain⟨w,rfl,rw⟩:=vals1 r2
 obtain⟨u,rfl,ru⟩:=vals1 r1
 cases rw
 cases ru
 obtain⟨wish,fin⟩:=q H2 g1 g2
 have rP:r≠P:=fun z=>by
  obtain⟨ps,hP,_⟩:=tb
  rw[z,hP]at hr
  cases hr
 have hr2:H2 r=some (.rng 0 n):=g1 r _ rP hr
 obtain⟨t1,t2,t3,hro⟩:=I2.hok r _ hr2
 have hh:X.A.handled=none:=I.ok.hd hc
 refine ba3 (n:=n) (key:=key) I2 hh ⟨t1,t2,t3,hro⟩ hn hne (fun z hz=>?_) fun H' s' D zs' a1 a2 a3 a4 I'=>⟨.ref D,_,I',rfl,fin H' D zs' a1 a2 a3 a4⟩
 obtain⟨k,hk',rfl⟩:=t8.mp hz
 have hkn:k<n:=by
  have:=aH7.mp hk'
  omega
 intro t pins' s3 H3 I3 sm
 have ho:s3.heap.get? f=some (PySem.W.kla_obj "<lambda>" (X.env.qual++"<lambda>") params body scope cl ((X.mg "__name__").getD .none) c' ctv):=(I3.hok f _ (sm _ _ g4)).1
 have hcd:s3.heap.CodeRec (.ref c') (X.env.qual++"<lambda>"):=(I3.hok c' _ (sm _ _ g5)).1
 refine E1 (bv2 (A:=X.A.in1.in1) (v:=.int k) (u:=.int k t) I3 I3.ok.frames hh hd ho hcd (hbind _ _ _ _) hkind hco hgen hclo hfr hlk hp ⟨t,rfl⟩ (he f c' s3 H3) (wish H3 k sm hkn)) (fun u' s' hq=>?_) fun _ _ z=>z
 obtain⟨v',H',J,r',kk,rfl,hkk,sm'⟩:=hq
 cases r'
 exact⟨kk,H',rfl,hkk,J,sm'⟩
theorem U1.there {o:HO}(x:U1 P w H h a o):∃ ob,h.get? a=some ob:=by
 cases o with
 | lst xs=>obtain⟨_,_,_,_,e⟩:=x;exact⟨_,e⟩
 | tup xs=>obtain⟨_,_,_,ob,e,_⟩:=x;exact⟨_,e⟩
 | dK kvs=>obtain⟨_,_,_,_,o,_,_,e,_⟩:=x;exact⟨_,e⟩
 | dT kvs=>obtain⟨_,_,_,_,o,_,_,e,_⟩:=x;exact⟨_,e⟩
 | set S n=>obtain⟨o,_,_,_,e,_⟩:=x;exact⟨_,e⟩
 | ins C dx fs=>obtain⟨_,_,_,e,_⟩:=x;exact⟨_,e⟩
 | own y=>obtain⟨ob,e⟩:=x;exact⟨ob,e⟩
 | xd fs=>obtain⟨_,⟨_,_,_,e,_⟩,_⟩:=x;exact⟨_,e⟩
 | rng lo hi=>obtain⟨_,_,_,e⟩:=x;exact⟨_,e⟩
 | frz ob u=>obtain⟨e,_⟩:=x;exact⟨_,e⟩
 | tbl ps=>exact⟨_,(show h.get? a=some _ from x)⟩
 | met f y=>exact⟨_,(show h.get? a=some _ from x)⟩
 | ext φ=>obtain⟨_,⟨ob,e⟩,_⟩:=x;exact⟨ob,e⟩
theorem HOk.stays (ok:HOk P w H h) (k:∀ b o,h.get? b=some o->H b≠none->h'.get? b=some o):HOk P w H h':=fun a o e =>
 (ok a o e).stay (fun b u hb q => k b u q (by
  rcases hb with z | z
  ·rw[z,e];simp
  ·rw[z];simp)) (fun _ q=>q) fun _ _ q=>q
def cg3 (outer:List Env)(x:Addr)(cls:Value)(h0:Heap)(H':Hp)(h':Heap):Prop:=
 ∃ (B:Heap) (a0:Value),Heap.FlyingW B outer x cls a0 h'/\∀ b o,h'.get? b=some o->(H' b≠none\/h0.get? b≠none)->b∉frs outer->B.get? b=some o
def CXE (P:Program)(w:World):CXT:=fun outer H s E e s' =>
 ∃ (x:Addr) (cls:Value) (H':Hp),e=.ref x/\s'.os=s.os/\aw3 s'.gens/\Un (frs outer) [] H H' s.heap s'.heap/\HOk P w H' s'.heap/\s.heap.get? x=none/\H' x=none/\cg3 outer x cls s.heap H' s'.heap/\E cls none H'
theorem Un.onto {fs:List Addr}{h'':Heap}(u:Un fs [] H H' h h')(stay:∀ b o,h'.get? b=some o->h.get? b≠none->b∉fs->h''.get? b=some o)
  (slots:∀ b o,h'.get? b=some o->h.get? b≠none->b∈fs->∃ sl,h''.get? b=some { o with slots:=sl }):Un fs [] H H' h h'' where
 keep:=fun b o e n hb hx=>stay b o (u.keep b o e n hb hx) (by rw[e];simp) hb
 slot:=fun b o e n hb hx=>by
  obtain⟨sl,e1⟩:=u.slot b o e n hb hx
  obtain⟨sl2,e2⟩:=slots b _ e1 (by rw[e];simp) hb
  exact⟨sl2,e2⟩
 free:=u.free
 there:=fun b o e hx=>by
  obtain⟨o',e1⟩:=u.there b o e hx
  by_cases hb:b∈fs
  ·obtain⟨sl,e2⟩:=slots b o' e1 (by rw[e];simp) hb
   exact⟨_,e2⟩
  ·exact⟨o',stay b o' e1 (by rw[e];simp) hb⟩
 tups:=u.tups
 frzs:=u.frzs
 tbls:=u.tbls
theorem W8 {α:Type}{o:Option α}(h:o≠none):∃ x,o=some x:=by
 cases o with
 | none=>exact absurd rfl h
 | some x=>exact⟨x,rfl⟩
theorem aX1 {env:Env}{outer:List Env}{L:Addr}(h:env.frame=some L):frs (env::outer)=L::frs outer:=by
 unfold frs
 rw[V9,h]
section
variable {K:W.Frag} {mg:Str->Option Value} {base:Heap} {cd:Value} {outer:List Env} {E:XK} {H1:Hp} {s1:Shared}
theorem bD0 {e:Addr}{cls:Value}{h2:Heap}(I:Inv (aj8 (CXE P w) P w K mg base N qual scope f cd A outer s H E) pins σ H1 s1)(hx:Heap.MadeExcOf s1.heap h2 e cls vs)(hE:E cls none H1) :
  (aj8 (CXE P w) P w K mg base N qual scope f cd A outer s H E).xe (.ref e) { s1 with heap:=h2 }:=by
 have hst:=I.stack
 have hfr:=I.ok.frames
 have hlt:=I.lt
 have hL:=I.free
 have hab:=I.ok.above
 have hbs:Un (frs outer) [] H H1 s.heap s1.heap:=I.base
 change s1.heap.FunFrames base (O1 qual scope s.heap.objs.size f cd::outer) at hst
 change (A.deeper (O1 qual scope s.heap.objs.size f cd)).frames=some (O1 qual scope s.heap.objs.size f cd::outer) at hfr
 change H1 s.heap.objs.size=none at hL
 have hff:frs (O1 qual scope s.heap.objs.size f cd::outer)=s.heap.objs.size::frs outer:=aX1 rfl
 have hin:∀ env∈(O1 qual scope s.heap.objs.size f cd::outer),∀ b,env.frame=some b->b∈frs (O1 qual scope s.heap.objs.size f cd::outer):=fun env he b hb=>ah7.mpr ⟨env,he,hb⟩
 have old:∀ b,(H1 b≠none\/s.heap.get? b≠none)->b∉frs outer->∃ o,s1.heap.get? b=some o/\b∉frs (O1 qual scope s.heap.objs.size f cd::outer):=fun b hb hno=>by
  have hne:b≠s.heap.objs.size:=by
   rcases hb with z | z
   ·intro q;rw[q]at z;exact z hL
   ·obtain⟨o,z⟩:=W8 z
    exact k7 (c8 z)
  have hex:∃ o,s1.heap.get? b=some o:=by
   rcases hb with z | z
   ·obtain⟨o,z⟩:=W8 z
    exact(I.hok b o z).there
   ·obtain⟨o,z⟩:=W8 z
    exact hbs.there b o z (by simp)
  obtain⟨o,ho⟩:=hex
  refine⟨o,ho,?_⟩
  rw[hff]
  intro hm
  rcases d4.mp hm with q | q
  ·exact hne q
  ·exact hno q
 have eNew:s.heap.get? e=none:=by
  cases q:s.heap.get? e with
  | none=>rfl
  | some o =>
   obtain⟨o',z⟩:=hbs.there e o q (by simp)
   rw[hx.new]at z
   cases z
 have eFree:H1 e=none:=by
  cases q:H1 e with
  | none=>rfl
  | some o =>
   obtain⟨o',z⟩:=(I.hok e o q).there
   rw[hx.new]at z
   cases z
 refine wpAny_leaves_madeW (base:=PySem.W.hideAll s1.heap (frs (O1 qual scope s.heap.objs.size f cd::outer))) hfr rfl (fun b o q=>PySem.W.of_hideAll _ q) (PySem.W.funFrames_hide hst hin) hx fun h' t x1 x2 x3 x4=>?_
 have stay:∀ b o,s1.heap.get? b=some o->(H1 b≠none\/s.heap.get? b≠none)->b∉frs outer->h'.get? b=some o:=fun b o ho hb hno=>by
  obtain⟨o',ho',hm⟩:=old b hb hno
  rw[ho]at ho'
  cases ho'
  exact x1.1 b o (PySem.W.hideAll_get _ ho hm)
 have frNone:∀ b∈frs outer,H1 b=none:=fun b hb=>I.stkFree b (by
  show b∈frs (O1 qual scope s.heap.objs.size f cd::outer)
  rw[hff]
  exact d3 _ hb)
 refine⟨e,cls,H1,rfl,I.os,I.bare,hbs.onto (fun b o ho hh hno=>stay b o ho (.inr hh) hno) (fun b o ho hh hm=>?_),I.hok.stays fun b o ho hh=>stay b o ho (.inl hh) fun hm=>hh (frNone b hm),eNew,eFree,⟨_,_,x1,fun b o ho hb hno=>?_⟩,hE⟩
 ·obtain⟨_,o',ho',hd⟩:=hst.mem (b:=b) (by
   show b∈frs (O1 qual scope s.heap.objs.size f cd::outer)
   rw[hff]
   exact d3 _ hm)
  rw[ho]at ho'
  cases ho'
  exact x4 b o (hx.keeps b o ho) hd
 ·obtain⟨o',ho',hm⟩:=old b hb hno
  have:=stay b o' ho' hb hno
  rw[ho]at this
  cases this
  exact PySem.W.hideAll_get _ ho' hm
theorem ah3:av0 (CXE P w) (aj8 (CXE P w) P w K mg base N qual scope f cd A outer s H E) E:=by
 intro pins σ H1 s1 e s2 I hc
 obtain⟨x,cls,H2,rfl,hos,hb2,u,hok,new,hxn,⟨B,a0,fl,st⟩,hE⟩:=hc
 have hst:=I.stack
 have hfr:=I.ok.frames
 have hL:=I.free
 have hbs:Un (frs outer) [] H H1 s.heap s1.heap:=I.base
 change s1.heap.FunFrames base (O1 qual scope s.heap.objs.size f cd::outer) at hst
 change (A.deeper (O1 qual scope s.heap.objs.size f cd)).frames=some (O1 qual scope s.heap.objs.size f cd::outer) at hfr
 change H1 s.heap.objs.size=none at hL
 change Un (frs (O1 qual scope s.heap.objs.size f cd::outer)) [] H1 H2 s1.heap s2.heap at u
 change Heap.FlyingW B (O1 qual scope s.heap.objs.size f cd::outer) x cls a0 s2.heap at fl
 have hff:frs (O1 qual scope s.heap.objs.size f cd::outer)=s.heap.objs.size::frs outer:=aX1 rfl
 have st':∀ b o,s2.heap.get? b=some o->(H2 b≠none\/s1.heap.get? b≠none)->b∉frs (O1 qual scope s.heap.objs.size f cd::outer)->B.get? b=some o:=st
 rw[hff]at u st'
 have hLo:∃ o,s1.heap.get? s.heap.objs.size=some o:=by
  obtain⟨m,⟨o,_,_,ho,_⟩,_⟩:=I.loc
  exact⟨o,ho⟩
 have hL2:H2 s.heap.objs.size=none:=by
  obtain⟨o,ho⟩:=hLo
  exact u.free _ o ho hL (by simp)
 have old:∀ b,(H2 b≠none\/s.heap.get? b≠none)->b∉frs outer->∃ o,s2.heap.get? b=some o/\B.get? b=some o:=fun b hb hno=>by
  have hne:b≠s.heap.objs.size:=by
   rcases hb with z | z
   ·intro q;rw[q]at z;exact z hL2
   ·obtain⟨o,z⟩:=W8 z
    exact k7 (c8 z)
  have hm:b∉s.heap.objs.size::frs outer:=fun hm=>by
   rcases d4.mp hm with q | q
   ·exact hne q
   ·exact hno q
  rcases hb with z | z
  ·obtain⟨o,z'⟩:=W8 z
   obtain⟨o',ho⟩:=(hok b o z').there
   exact⟨o',ho,st' b o' ho (.inl z) hm⟩
  ·obtain⟨o,z⟩:=W8 z
   obtain⟨o1,h1⟩:=hbs.there b o z (by simp)
   obtain⟨o2,h2⟩:=u.there b o1 h1 (by simp)
   exact⟨o2,h2,st' b o2 h2 (.inr (by rw[h1];simp)) hm⟩
 have u2:Un (frs outer) [] H H2 s.heap s2.heap:=by
  refine⟨fun b o e n hb hx=>?_,fun b o e n hb hx=>?_,fun b o e n hx=>?_,fun b o e hx=>?_,fun b xs e=>u.tups b xs (hbs.tups b xs e),fun b o v e=>u.frzs b o v (hbs.frzs b o v e),fun b ps e=>?_⟩
  ·refine u.keep b o (hbs.keep b o e n hb hx) (hbs.free b o e n hx) (fun hm=>?_) hx
   rcases d4.mp hm with q | q
   ·exact k7 (c8 e) q
   ·exact hb q
  ·obtain⟨sl,e1⟩:=hbs.slot b o e n hb hx
   obtain⟨sl2,e2⟩:=u.slot b _ e1 (hbs.free b o e n hx) (d3 _ hb) hx
   exact⟨sl2,e2⟩
  ·obtain⟨o',e1⟩:=hbs.there b o e hx
   exact u.free b o' e1 (hbs.free b o e n hx) hx
  ·obtain⟨o',e1⟩:=hbs.there b o e hx
   exact u.there b o' e1 hx
  ·obtain⟨m1,e1⟩:=hbs.tbls b ps e
   obtain⟨m2,e2⟩:=u.tbls b _ e1
   exact⟨m1++m2,by rw[e2,bK6]⟩
 have frNone:∀ b∈frs outer,H2 b=none:=fun b hb=>by
  have h1:=I.stkFree b (by
   show b∈frs (O1 qual scope s.heap.objs.size f cd::outer)
   rw[hff]
   exact d3 _ hb)
  obtain⟨_,o,ho,_⟩:=hst.mem (b:=b) (by
   show b∈frs (O1 qual scope s.heap.objs.size f cd::outer)
   rw[hff]
   exact d3 _ hb)
  exact u.free b o ho h1 (by simp)
 refine wpAny_leaves_onW hfr rfl fl fun h' x1 x2=>?_
 have stay:∀ b o,s2.heap.get? b=some o->(H2 b≠none\/s.heap.get? b≠none)->b∉frs outer->h'.get? b=some o:=fun b o ho hb hno=>by
  obtain⟨o',ho',hB⟩:=old b hb hno
  rw[ho]at ho'
  cases ho'
  exact x1.1 b o hB
 refine⟨x,cls,H2,rfl,hos.trans I.os,hb2,u2.onto (fun b o ho hh hno=>stay b o ho (.inr hh) hno) (fun b o ho hh hm=>?_),hok.stays fun b o ho hh=>stay b o ho (.inl hh) fun hm=>hh (frNone b hm),?_,hxn,⟨B,a0,x1,fun b o ho hb hno=>?_⟩,hE⟩
 ·obtain⟨_,o',ho',hd⟩:=fl.2.2.1.mem (b:=b) (by
   show b∈frs (O1 qual scope s.heap.objs.size f cd::outer)
   rw[hff]
   exact d3 _ hm)
  rw[ho]at ho'
  cases ho'
  exact x2 b o ho hd
 ·cases q:s.heap.get? x with
  | none=>rfl
  | some o =>
   obtain⟨o',z⟩:=hbs.there x o q (by simp)
   rw[new]at z
   cases z
 ·obtain⟨o',ho',hB⟩:=old b hb hno
  have:=stay b o' ho' hb hno
  rw[ho]at this
  cases this
  exact hB
end
theorem Fun.okX {K:W.Frag} {mg:Str->Option Value} {base:Heap} {st:Stmt} {k:Nat} {sp:Sp} (F:Fun K x qual st f fd) (S:x9 N ps (p5 st))
  (hbody : ∀ (cdv : Value) (A : Around) (outer : List Env) (s : Shared) (H : Hp) (vs : List V) (Q : VK) (E : XK), X7 k (A.deeper (O1 qual (p5 st) s.heap.objs.size f cdv)) -> sp vs H Q E ->
   ∃ t,PSs (aj8 (CXE P w) P w K mg base N qual (p5 st) f cdv A outer s H E) (S7 st) t/\t { nx:=fun _ H'=>Q .non H',rt:=Q } (start N vs) H) (len:∀ vs H Q E,sp vs H Q E->vs.length=ps.length:=by intro _ _ _ _ h;repeat first | (obtain⟨rfl,_⟩:=h;rfl) | obtain⟨_,h⟩:=h):x8 P w K mg base (CXE P w) (k+1) f fd ps sp:=by
 obtain⟨oc,od,kV,doc,pm,an,cdv,ct,osl,rfl,lk,hcd⟩:=F.ex
 exact bx8 lk hcd S len fun A outer s H vs Q E hr hsp=>hbody cdv A outer s H vs Q E hr hsp
theorem bs9 {K:W.Frag}{mg:Str->Option Value}{base:Heap}{cd:Value}{outer:List Env}{E:XK} :
  PassesOwn (t9 P w) (aj8 (CXE P w) P w K mg base N qual scope f cd A outer s H E).A (aj8 (CXE P w) P w K mg base N qual scope f cd A outer s H E).env (aj8 (CXE P w) P w K mg base N qual scope f cd A outer s H E).xe:=PassesOwn.leaving
structure ai5 (K:W.Frag) (C:Addr):Prop where
 q:PySem.W.excIn K C [.type "ValueError",.type "Exception",.type "BaseException",.type "object"] "ValueError.__new__"=true
abbrev bmV:List Value:=[.type "ValueError",.type "Exception",.type "BaseException",.type "object"]
theorem bX5 {K:W.Frag}(KI:K.In h)(c:ai5 K C):∃ bm N nm q bs hd sn sub ab col dd k0 k1 k2 k3 k5 mN,h.get? C=some (excClassObj nm q C N bs bm hd sn sub ab col dd k0 k1 k2 k3 k5 "ValueError.__new__") /\
  h.Ns N mN/\mN "__init__"=none/\OwnTail h bmV bm:=by
 have z:=c.q
 revert z
 unfold PySem.W.excIn
 split
 ·rename_i d1 c1 s1 hl
  split
  ·rename_i D bm y0 y1 y2 y3 nn y5 e1 e2
   intro z
   rw[D9,D9,D9,D9,D9]at z
   obtain⟨⟨⟨⟨⟨z1,z2⟩,z3⟩,z4⟩,z5⟩,z6⟩:=z
   have z1':D=C:=beq_iff_eq.mp z1
   have z2':nn="ValueError.__new__":=beq_iff_eq.mp z2
   have z6':=beq_iff_eq.mp z6
   subst z1' z2'
   obtain⟨w1,w2,w3,w4,w5,w6,w7,w8,w9,w10,w11⟩:=c1
   dsimp only at e1 z3 z5 z6'
   subst e1
   have z3':w11=false:=by simpa using z3
   subst z3'
   have e3:s1=#[y0,y1,y2,y3,some (.builtin "ValueError.__new__"),y5]:=by
    obtain⟨l1⟩:=s1
    exact congrArg Array.mk e2
   subst e3
   exact⟨bm,w4,w1,w5,w2,w6,w7,w8,w9,w10,d1,y0,y1,y2,y3,y5,_,KI _ _ hl,.of_isNs (PySem.W.isNs_of_in KI z5),PySem.W.nsMap_none_of_in KI z5 z6',PySem.W.tail_of_in KI z4⟩
  ·intro z;cases z
 ·intro z;cases z
section
variable {K:W.Frag} {mg:Str->Option Value} {base:Heap} {cd:Value} {outer:List Env} {E:XK}
def bR1 (E:XK)(C:Addr):TS:=fun _ _ H=>E (.ref C) none H
theorem aB5 {txt:Str}{np cp ep:Pos}(hg:Gl (aj8 (CXE P w) P w K mg base N qual scope f cd A outer s H E) x)(hm:mg x=some (.ref C))(c:ai5 K C)(hd:(x == ("__debug__":Str))=false:=by decide) :
  PS (aj8 (CXE P w) P w K mg base N qual scope f cd A outer s H E) (.Raise (some (.Call (.Name x np) [.Constant (.str txt) j cp] [] ep)) none pos) (bR1 E C):=by
 intro pins s1 σ H1 D I hE
 have hh:(aj8 (CXE P w) P w K mg base N qual scope f cd A outer s H E).A.handled=none:=I.ok.hd rfl
 obtain⟨bm,N',nm,q,bs,hdc,sn,sub,ab,col,dd,k0,k1,k2,k3,k5,mN,hC,hN,hni,T⟩:=bX5 I.kIn c
 refine wpAny_Raise_call_subT (C:=C) (nm:=nm) (q:=q) (N:=N') (bs:=bs) (bm:=bm) (hdct:=hdc) (sn:=sn) (sub:=sub) (ab:=ab) (col:=col) (dd:=dd) (k0:=k0) (k1:=k1) (k2:=k2) (k3:=k3) (k5:=k5)
  PySem.F.excBase_ValueError (mN:=mN) (T.hasType (by decide +kernel)) hh rfl hni (af9 I hg hm ⟨rfl,?_⟩ hd)
 refine Calls.evalArgs_plain ?_
 refine PyProof.Rows.spliced_more (Calls.Constant_str ?_)
 refine PyProof.Rows.spliced_none ⟨rfl,by show 1<=j5;decide,hC,hN,T,fun h' e hx=>?_⟩
 exact bD0 (I.tok _) hx hE
end
def aR3 (X:Cx)(pins:List (Addr × Obj))(E:St->XK):Cx:={ X with pn:=X.pn++pins,xe:=fun e s'=>∃ σ H s,Inv X pins σ H s/\CXE X.prog X.w X.stack H s (E σ) e s' }
def bI9 (X:Cx)(v:Value):Cx:={ X with A:=X.A.mark (some v),calm:=false,xe:=fun _ _=>False }
section
variable {pins':List (Addr × Obj)} {E:St->XK}
theorem Inv.toTry (I:Inv X pins σ H s):Inv (aR3 X pins E) [] σ H s:=
  ⟨⟨I.ok.mod, I.ok.kind, I.ok.glob, I.ok.blt, I.ok.above, I.ok.inj, I.ok.has, I.ok.cab, I.ok.hd, I.ok.frames, I.ok.stk, I.ok.exf, I.ok.bs, I.ok.bsz, I.ok.noex, I.ok.exfs, I.ok.funs, I.ok.frf⟩,
    I.os,I.bare,I.base,I.loc,I.cell,I.free,I.freeC,fun p hp=>I.pin p (by
      rcases y7.mp hp with z | z
      · exact z
      · cases z),I.hok,I.len⟩
theorem Inv.ofTry (I:Inv (aR3 X pins E) pins' σ H s):Inv X pins σ H s:=
  ⟨⟨I.ok.mod, I.ok.kind, I.ok.glob, I.ok.blt, I.ok.above, I.ok.inj, I.ok.has, I.ok.cab, I.ok.hd, I.ok.frames, I.ok.stk, I.ok.exf, I.ok.bs, I.ok.bsz, I.ok.noex, I.ok.exfs, I.ok.funs, I.ok.frf⟩,
    I.os,I.bare,I.base,I.loc,I.cell,I.free,I.freeC,fun p hp=>I.pin p (G4 _ hp),I.hok,I.len⟩
theorem Inv.toHd (I:Inv X pins σ H s) (v:Value):Inv (bI9 X v) pins σ H s:=
  ⟨⟨I.ok.mod, I.ok.kind, I.ok.glob, I.ok.blt, I.ok.above, I.ok.inj, I.ok.has, I.ok.cab, (fun z => by cases z), I.ok.frames, I.ok.stk, I.ok.exf, I.ok.bs, I.ok.bsz, I.ok.noex, I.ok.exfs, I.ok.funs, I.ok.frf⟩,
    I.os,I.bare,I.base,I.loc,I.cell,I.free,I.freeC,I.pin,I.hok,I.len⟩
theorem Inv.ofHd (I:Inv (bI9 X v) pins σ H s) (hd:X.calm=true->X.A.handled=none):Inv X pins σ H s:=
  ⟨⟨I.ok.mod, I.ok.kind, I.ok.glob, I.ok.blt, I.ok.above, I.ok.inj, I.ok.has, I.ok.cab, hd, I.ok.frames, I.ok.stk, I.ok.exf, I.ok.bs, I.ok.bsz, I.ok.noex, I.ok.exfs, I.ok.funs, I.ok.frf⟩,
    I.os,I.bare,I.base,I.loc,I.cell,I.free,I.freeC,I.pin,I.hok,I.len⟩
end
def bj3 (CX:CXT)(X:Cx)(E:St->XK):Prop:=∀ (pins:List (Addr × Obj)) (σ:St) (H:Hp) (s:Shared) (e:Value) (s':Shared),Inv X pins σ H s->CX X.stack H s (E σ) e s'->X.xe e s'
theorem aN6 {E:St->XK}:bj3 (CXE X.prog X.w) (aR3 X pins E) E:=fun _ σ H s _ _ I h=>⟨σ,H,s,I.ofTry,h⟩
def bR3 (sp:Sp)(E:St->XK)(t:TA):TE:=fun σ H Q=>t σ H fun vs H1=>sp (vs++[]) H1 Q (E σ)
section
variable {CX:CXT} {k:Nat} {sp:Sp} {E:St->XK} {p:Pos} {t:TA}
theorem aC0 (F:x8 X.prog X.w X.K X.mg X.base CX k f fd ps sp)(hr:X7 k X.A)(hg:Gl X x)(hm:X.mg x=some (.ref f))(hk:Q5 X.K (.ref f)=true)(hb:Binds X.K fd ps [])(hx:bj3 CX X E)
  (ha:PA X (e::es) t)(hdb:(x == ("__debug__":Str))=false:=by decide)(he:u5 (e::es) X.env=(false,eval e X.env)::u5 es X.env:=by rfl)(hpl:(S4 pos (u5 es X.env)).any (·.1)=false:=by rfl) :
  PE X (.Call (.Name x p) (e::es) [] pos) (bR3 sp E t):=by
 intro pins s σ H Q I h
 refine J0 (af9 I hg hm ?_ hdb)
 refine PySem.W.callWith_K (h₀:=X.base) I.ok.mod.kin hk (thn (ha pos pins s σ H _ I h) fun us s1 ⟨vs,H1,I1,r,q⟩=>⟨I1.kIn,?_⟩) he hpl
 have r2:D6 (vs++[]) (us++[]):=r.append .nil
 have hl:(us++[]).length=ps.length:=by rw[<- r2.length];exact F.len _ _ _ _ q
 refine aQ3 (ac4 (F.run X.A X.stack s1 H1 ⟨us,[]⟩ (us++[]) (vs++[]) Q (E σ) hr I1.env0 (hb s1 us I1.kIn hl) r2 q) fun r s' hq=>?_)
 cases r with
 | error e=>exact hx pins σ H1 s1 e s' I1 hq
 | ok fl =>
  cases fl with
  | ret u=>exact I1.after hq
  | next=>exact False.elim hq
  | brk=>exact False.elim hq
  | cont=>exact False.elim hq
end
def XO (x:Addr)(cls:Value):HO:=.ext fun h=>∃ o vs,h.get? x=some o/\o.cls=cls/\o.data=.fields vs
theorem XO.ok {x:Addr}{cls:Value}(e:∃ o vs,h.get? x=some o/\o.cls=cls/\o.data=.fields vs):U1 P w H h x (XO x cls):=
 ⟨e,let ⟨o,_,h1,_⟩:=e;⟨o,h1⟩,fun _ _ ⟨o,vs,h1,h2,h3⟩ k=>⟨o,vs,k o h1,h2,h3⟩⟩
theorem ak6 {n:Str}{Q:Unit->Shared->Prop}(I:Inv X pins σ H s)(hN:X.N.Nodup)(hi:X.N[i]?=some n)(hk:X.env.scope.names.lookup n=some .local)
  (h:∀ s',Inv X pins (σ.set i none) H s'->Q () s'):r6 M A (do bindName X.env n .none;unbindBehindTheSuite X.env n pos) Q E s:=by
 obtain⟨m,hn,hl⟩:=id I.loc
 have hcls:(X.env.scope.kind == .class || (X.env.scope.kind == .module && X.env.locals != X.env.globals))=false:=by rw[I.ok.kind];rfl
 refine wpAny_nameGoes_keeps hk hn hcls fun h' v hn' hs=>h _ ?_
 obtain⟨oL,_,_,hoL,_⟩:=id hn
 have ne:∀ b o,X.s₀.heap.get? b=some o->b≠X.env.locals:=fun b o e=>k7 (o9 (c8 e) I.ok.above)
 refine⟨I.ok,I.os,I.bare,⟨fun b o e n hb hx=>(hs.2 b (ne b o e)).trans (I.base.keep b o e n hb hx),fun b o e n hb hx=>?_,I.base.free,fun b o e hx=>?_,I.base.tups,I.base.frzs,I.base.tbls⟩,⟨_,hn',fun j y v' e1 e2 e3=>?_⟩,fun y c e=>?_,I.free,I.freeC,fun p hp=>?_,I.hok.stays fun b o e hb=>(hs.2 b fun z=>hb (by rw[z];exact I.free)).trans e,by simpa using I.len⟩
 ·obtain⟨sl,e1⟩:=I.base.slot b o e n hb hx
  exact⟨sl,(hs.2 b (ne b o e)).trans e1⟩
 ·obtain⟨o',e1⟩:=I.base.there b o e hx
  exact⟨o',(hs.2 b (ne b o e)).trans e1⟩
 ·by_cases hj:j=i
  ·subst hj
   have hlt:j<σ.length:=by rw[I.len];exact(c9.mp hi).1
   rw[ap1 hlt]at e2
   cases e2
  ·rw[ac3 (Ne.symm hj)]at e2
   obtain⟨u',r',q⟩:=hl j y v' e1 e2 e3
   refine⟨u',r',?_⟩
   rcases q with⟨k,e⟩ | ⟨k,c,e,z⟩
   ·refine .inl ⟨k,?_⟩
    have hyn:y≠n:=fun e=>hj (aC7 hN e1 (e ▸ hi))
    simp[hyn,e]
   ·exact .inr ⟨k,c,e,z.sameBut hs (I.cne y c e)⟩
 ·obtain⟨w',z⟩:=I.cell y c e
  exact⟨w',z.sameBut hs (I.cne y c e)⟩
 ·obtain⟨e,nn,ne',nf,d⟩:=I.pin p hp
  exact⟨(hs.2 p.1 ne').trans e,nn,ne',nf,d⟩
def cg9 (K:W.Frag)(CT:Addr)(i:Nat)(tb:(St->XK)->TS)(th:TS):TS:=fun D σ H=>∃ E:St->XK,tb E D σ H/\∀ σ' cls H',E σ' cls none H'->PySem.W.exmOne K cls (.ref CT)=some true/\∀ x,H' x=none ->
 th { nx:=fun σ2 H2=>D.nx (σ2.set i none) H2,rt:=D.rt,bk:=fun σ2 H2=>D.bk (σ2.set i none) H2,ct:=fun σ2 H2=>D.ct (σ2.set i none) H2 } (σ'.set i (some (.ref x))) (upd H' x (XO x cls))
theorem bT1 {suite:List Stmt}{b0:Stmt}{tn n:Str}{np hpos:Pos}{CT:Addr}{tb:(St->XK)->TS}{th:TS}(hN:X.N.Nodup)(hi:X.N[i]?=some n)(hk:X.env.scope.names.lookup n=some .local)
  (hg:Gl X tn)(hm:X.mg tn=some (.ref CT))(hst:X.stack=X.env::X.outer)(hfr:X.env.frame=some X.env.locals)(hbody:∀ pins E,PSs (aR3 X pins E) body (tb E))(hh:∀ v,PSs (bI9 X v) (b0::suite) th)
  (hd:(tn == ("__debug__":Str))=false:=by decide) :
  PS X (.Try body [.ExceptHandler (some (.Name tn np)) (some n) (b0::suite) hpos] [] [] pos) (cg9 X.K CT i tb th):=by
 intro pins s σ H D I hw
 obtain⟨E,hb,hcatch⟩:=hw
 refine wpAny_Try_except (E1 (hbody pins E [] s σ H D I.toTry hb) (fun fl s1 q=>?_) fun e s1 hx=>?_)
 ·cases fl with
  | next =>
   obtain⟨σ',H',I',q⟩:=q
   exact Y2 ⟨σ',H',I'.ofTry,q⟩
  | brk=>obtain⟨σ',H',I',q⟩:=q;exact⟨σ',H',I'.ofTry,q⟩
  | cont=>obtain⟨σ',H',I',q⟩:=q;exact⟨σ',H',I'.ofTry,q⟩
  | ret u=>obtain⟨v,σ',H',I',r,q⟩:=q;exact⟨v,σ',H',I'.ofTry,r,q⟩
 ·obtain⟨σ1,H1,s0,I1,x,cls,H2,rfl,hos,hbare,u,hok,new,hxn,⟨B,a0,fl,st⟩,hE⟩:=hx
  obtain⟨hmat,hth⟩:=hcatch σ1 cls H2 hE
  have hfl:Heap.FlyingW B (X.env::X.outer) x cls a0 s1.heap:=by rw[hst]at fl;exact fl
  have frNone:∀ b∈frs X.stack,H2 b=none:=fun b hb=>by
   obtain⟨_,o,ho,_⟩:=I1.stack.mem hb
   exact u.free b o ho (I1.stkFree b hb) (by simp)
  have step:∀ h',B.StaysIn h'->s1.heap.UpToSlots h'->Un (frs X.stack) [] H1 H2 s0.heap h'/\HOk X.prog X.w H2 h':=fun h' hB hu=>by
   refine⟨u.onto (fun b o ho hh hno=>hB b o (st b o ho (.inr hh) hno)) fun b o ho hh hm'=>?_,hok.stays fun b o ho hh=>hB b o (st b o ho (.inl hh) fun hm'=>hh (frNone b hm'))⟩
   obtain⟨_,o',ho',hdd⟩:=hfl.2.2.1.mem (b:=b) (by rw[hst]at hm';exact hm')
   rw[ho]at ho'
   cases ho'
   exact hu b o ho hdd
  have inv:∀ h',B.StaysIn h'->s1.heap.UpToSlots h'->Inv X pins σ1 H2 { s1 with heap:=h' }:=fun h' hB hu=>by
   obtain⟨un,ok⟩:=step h' hB hu
   exact I1.call' (s':={ s1 with heap:=h' }) (ch:=[]) hos un ok hbare fun b hb=>by cases hb
  have hfrm:X.A.frames=some (X.env::X.outer):=by rw[<- hst];exact I1.ok.frames
  refine wpAny_looks_onW hfrm hfr hfl fun h4 held4 up4=>?_
  refine wpAny_landsW held4 fun h5 fl5 up5=>?_
  have up15:=up4.trans up5
  have I5:=inv h5 fl5.1 up15
  refine ca8 (bQ2 ?_) (by intro q;cases q)
  refine af9 (I5.toHd (.ref x)) hg hm ?_ hd
  have LT:PySem.W.Looks (t9 X.prog X.w) h5 (typeOf (.ref x)) cls:=by
   obtain⟨ob,hob,hc⟩:=fl5.there
   subst hc
   exact(PySem.W.Looks.ld hob).andThen .now
  refine(PySem.W.exm_one (M:=t9 X.prog X.w) I5.kIn LT hmat).here ?_
  refine codeAny_handlers_suite_as ?_
  refine lands_againW fl5 fun h6 fl6 up6=>?_
  have up16:=up15.trans up6
  obtain⟨un6,ok6⟩:=step h6 fl6.1 up16
  obtain⟨oe,vs,hoe,hcl,hdt,_⟩:=fl6.first
  have xin:s0.heap.get? x=none:=new
  have un7:Un (frs X.stack) [] H1 (upd H2 x (XO x cls)) s0.heap h6:=by
   refine⟨un6.keep,un6.slot,fun b o e nn hx=>?_,un6.there,fun b xs e=>?_,fun b o v e=>?_,fun b ps e=>?_⟩
   ·rw[r9 (fun z=>by rw[z,xin]at e;cases e)]
    exact un6.free b o e nn hx
   ·have:=un6.tups b xs e
    rw[r9 (o8 this hxn)]
    exact this
   ·have:=un6.frzs b o v e
    rw[r9 (o8 this hxn)]
    exact this
   ·obtain⟨more,this⟩:=un6.tbls b ps e
    exact⟨more,by rw[r9 (o8 this hxn)];exact this⟩
  have ok7:HOk X.prog X.w (upd H2 x (XO x cls)) h6:=fun a o e=>by
   by_cases ha:a=x
   ·subst ha
    rw[c6]at e
    cases e
    exact XO.ok ⟨oe,vs,hoe,hcl,hdt⟩
   ·rw[r9 ha]at e
    exact(ok6 a o e).stay (fun _ _ _ q=>q) (fun b q=>by rw[r9 (o8 q hxn)];exact q) fun b xs q=>by rw[r9 (o8 q hxn)];exact q
  have I7:Inv X pins σ1 (upd H2 x (XO x cls)) { s1 with heap:=h6 }:=I1.call' (s':={ s1 with heap:=h6 }) (ch:=[]) hos un7 ok7 hbare fun b hb=>by cases hb
  refine ap8 (v:=.ref x) I7 hN hi (.inl hk) rfl (fun s8 I8=>?_) (.inr hk)
  refine E1 (hh (.ref x) pins s8 _ _ _ (I8.toHd _) (hth x hxn)) (fun fl' s9 q=>?_) (fun _ _ z=>False.elim z)
  have hdX:=I.ok.hd
  cases fl' with
  | next =>
   obtain⟨σ',H',I',q⟩:=q
   exact ak6 (I'.ofHd hdX) hN hi hk fun s10 I10=>⟨_,H',I10,q⟩
  | brk =>
   obtain⟨σ',H',I',q⟩:=q
   exact ak6 (I'.ofHd hdX) hN hi hk fun s10 I10=>⟨_,H',I10,q⟩
  | cont =>
   obtain⟨σ',H',I',q⟩:=q
   exact ak6 (I'.ofHd hdX) hN hi hk fun s10 I10=>⟨_,H',I10,q⟩
  | ret u' =>
   obtain⟨v,σ',H',I',r,q⟩:=q
   exact ak6 (I'.ofHd hdX) hN hi hk fun s10 I10=>⟨v,_,H',I10,r,q⟩
end L2
set_option maxRecDepth 100000
namespace L2
open PySem PySem.Spec PyProof.Rows PySem.W
structure aF5 (K:W.Frag) (C:Addr):Prop where
 ga:findIn K (.ref C) "__getattribute__"=some (some (.builtin "BaseException.__getattribute__"))
 na:findIn K (.ref C) "__getattr__"=some none
 cl:findIn K (.ref C) "__class__"=some (some (.builtin "object.__class__"))
 sb:subIn K (.ref C) (.type "BaseException")=some true
 so:subIn K (.ref C) (.type "object")=some true
 cs:(clsIn K C).isSome=true
def ExcAt (x C:Addr)(h:Heap):Prop:=∃ o vs,h.get? x=some o/\o.cls=.ref C/\o.data=.fields vs
section
variable {g:Array bC0} {d:Drawn} {t:Nat} {os:OsState} {o:Obj} {K:W.Frag}
theorem bJ5 {R:Result->Shared->Prop}(KI:K.In h)(c:aF5 K C)(hx:h.get? a=some o)(hc:o.cls=.ref C)(hq:R (.ok (.ret (.ref C))) ⟨h,g,d,t,os⟩) :
  am1 (t9 prog w) A (.call (.builtin "getset_descriptor.__get__") ⟨[.builtin "object.__class__",.ref a,.ref C],[]⟩) R ⟨h,g,d,t,os⟩:=by
 have hT5:(⟨h,g,d,t,os⟩:Shared).TypeIs (.builtin "object.__class__") "getset_descriptor":=F.typeOf_object_class
 have LS:Looks (t9 prog w) h (isSubtype (.ref C) (.type (".".intercalate ("object.__class__".cutAt '.').dropLast))) true:=by rw[F.owner_object_class];exact looks_subIn KI c.so
 refine az9 F.slot_gs_get.plain F.entry_gs_get (F.slot_gs_get.check _ _ _ _ _ _ _ _ hT5 (F.args_gs_get _ _ _) ?_)
 repeat (any_goals (first | assumption | (with_reducible refine aa9 hx ?_;rw[hc]) | (with_reducible refine LS.at ?_) | wp_step))
 refine⟨Code.quiet_builtin _ (by decide +kernel),M7 F.entry_object_class ?_⟩
 repeat (any_goals (first | assumption | (with_reducible refine aa9 hx ?_;rw[hc]) | wp_step))
theorem bn3 {nameV:Value}{Q:Unit->Shared->Prop}(KI:K.In h)(c:aF5 K C)(hx:h.get? a=some o)(hc:o.cls=.ref C)(hq:Q () ⟨h,g,d,t,os⟩) :
  r6 M A (checkBuiltinCall "BaseException.__getattribute__" ⟨[.ref a,nameV],[]⟩) Q E ⟨h,g,d,t,os⟩:=by
 have k1:builtinKind "BaseException.__getattribute__"=some .slot:=by decide +kernel
 have k2:splitId "BaseException.__getattribute__"=some ("BaseException","__getattribute__"):=by decide +kernel
 have LS:Looks M h (isSubtype (.ref C) (.type "BaseException")) true:=looks_subIn KI c.sb
 have ha:=F.args_bexc_ga (.ref a) nameV
 simp only[checkBuiltinCall,k1,k2]
 refine b9 ?_
 ·unfold isInstance
  repeat (first | (with_reducible refine aa9 hx ?_;rw[hc]) | (with_reducible refine LS.at ?_) | wp_step)
  exact hq
theorem bn2 {Q:Fin->Shared->Prop}(KI:K.In h)(c:aF5 K C)(hx:h.get? a=some o)(hc:o.cls=.ref C)(hq:Q (.done (.ret (.ref C))) ⟨h,g,d,t,os⟩) :
  r6 (t9 prog w) A (Builtin.«object.__getattribute__» ⟨[.ref a,.str "__class__" tk],[]⟩) Q E ⟨h,g,d,t,os⟩:=by
 have hT5:(⟨h,g,d,t,os⟩:Shared).TypeIs (.builtin "object.__class__") "getset_descriptor":=F.typeOf_object_class
 have L1:Looks (t9 prog w) h (aQ4 (.ref C) "__class__") (some (.builtin "object.__class__")):=looks_findIn KI c.cl
 have f5:=F.typeOf_object_class
 have f6:=F.slot_gs_get.lookup
 have f7:=F.slot_gs_set.lookup
 repeat (any_goals (first | assumption | (with_reducible refine aa9 hx ?_;rw[hc]) | (with_reducible refine L1.at ?_) | wp_step))
 refine bJ5 KI c hx hc ?_
 repeat (any_goals (first | assumption | wp_step))
theorem bX4 (KI:K.In h)(c:aF5 K C)(hx:h.get? a=some o)(hc:o.cls=.ref C)(hq:Q (.ref C) ⟨h,g,d,t,os⟩) :
  r6 (t9 prog w) A (getAttrBy (.ref a) (.str "__class__" tk) false) Q E ⟨h,g,d,t,os⟩:=by
 have f3:=F.excAttr_ValueError.ga.bind (.ref a)
 have y2:(Value.builtin "BaseException.__getattribute__" == Value.builtin "object.__getattribute__")=false:=by decide +kernel
 have y1:(onTheHeap (Value.ref C) && Value.builtin "BaseException.__getattribute__" == Value.builtin "object.__getattribute__")=false:=by rw[y2];rfl
 have y0:(false && onTheHeap (Value.builtin "BaseException.__getattribute__"))=false:=rfl
 have L1:Looks (t9 prog w) h (aQ4 (.ref C) "__getattribute__") (some (.builtin "BaseException.__getattribute__")):=looks_findIn KI c.ga
 have L2:Looks (t9 prog w) h (aQ4 (.ref C) "__getattr__") none:=looks_findIn KI c.na
 repeat (any_goals (first | assumption | (with_reducible refine aa9 hx ?_;rw[hc]) | (with_reducible refine L1.at ?_) | (with_reducible refine L2.at ?_) | wp_step))
 refine az9 F.excAttr_ValueError.ga.plain F.entry_bexc_ga (bn3 KI c hx hc (bn2 KI c hx hc ?_))
 repeat (any_goals (first | assumption | wp_step))
theorem bJ6 {Q:Option Value->Shared->Prop}(KI:K.In h)(c:aF5 K C)(hx:h.get? a=some o)(hc:o.cls=.ref C)(hq:Q (some (.ref C)) ⟨h,g,d,t+1,os⟩):r6 (t9 prog w) A (getAttr? (.ref a) "__class__") Q E ⟨h,g,d,t,os⟩:=by
 unfold getAttr? getAttrBy?
 repeat (any_goals (first | assumption | with_reducible apply bX4 KI c hx hc | wp_step))
end
theorem aW0 {K:W.Frag}{x:Addr}(c:aF5 K C):KitX K (.ref x) (.ref C) (ExcAt x C) where
 ty:=fun _ _ _ p=>by
  obtain⟨o,_,h1,h2,_⟩:=p
  rw[<- h2]
  exact(Looks.ld h1).andThen .now
 it:=fun _ _ KI _=>by
  obtain⟨cd,hcd⟩:=p6.mp c.cs
  unfold clsIn at hcd
  split at hcd
  ·rename_i ho
   intro A' Q' E' s' k q
   unfold isType loadHead
   exact b9 (wpAny_loadPart (k _ _ (KI _ _ ho)) (i8 q))
  ·cases hcd
 ne:=fun h tp dd its n sl KI htp=>by
  obtain⟨cd,hcd⟩:=p6.mp c.cs
  refine Bool.eq_false_iff.mpr fun q=>?_
  have e:C=tp:=Value.ref.inj (beq_iff_eq.mp q)
  subst e
  unfold clsIn at hcd
  split at hcd
  ·rename_i ho
   have z:=(KI _ _ ho).symm.trans htp
   cases z
  ·cases hcd
 ca:=fun {_ _ _ _ _ s} KI p k=>by
  obtain⟨o,_,h1,h2,_⟩:=p
  obtain⟨hh,g,d,t,os⟩:=s
  exact bJ6 KI c h1 h2 k
def cj3:V->Value->Prop
 | .ty T,u=>u=.type T
 | .ref D,u=>u=.ref D
 | _,_=>False
theorem bg1:∀ {Ds:List Addr} {its:List Value},D6 (Ds.map V.ref) its->its=Ds.map Value.ref
 | [],_,.nil=>rfl
 | D::Ds,_,.cons r t=>by
  cases r
  rw[p7,bg1 t]
theorem ag4 (K:W.Frag)(hK:X.K=K):U2 X (.builtin "isinstance") (fun xs H Q=>∃ x C v u b,xs=[.ref x,v]/\H x=some (XO x (.ref C))/\aF5 K C/\cj3 v u/\kitOne K (.ref C) u=some b/\Q (.bl b) H):=by
 subst hK
 intro pins s σ H xs us Q I r h
 obtain⟨x,C,v,u,b,rfl,hx,c,hv,e,q⟩:=h
 obtain⟨u1,u2,rfl,r1,r2⟩:=r.two
 cases r1
 have e2:u2=u:=by
  cases v<;>first | exact hv.elim | exact(show u2=_ from r2).trans hv.symm
 subst e2
 obtain⟨hp,_⟩:=I.hok x _ hx
 exact kia_one (aW0 c) I.kIn hp e (fun z=>nomatch z) fun tk=>⟨.bl b,H,I.tok _,rfl,q⟩
theorem aH5 (K:W.Frag)(hK:X.K=K):U2 X (.builtin "isinstance") (fun xs H Q=>∃ (x C tp:Addr) (Ds:List Addr) (b:Bool),xs=[.ref x,.ref tp]/\H x=some (XO x (.ref C))/\aF5 K C/\H tp=some (.tup (Ds.map V.ref))/\kitAny K (.ref C) (Ds.map Value.ref)=some b/\Q (.bl b) H):=by
 subst hK
 intro pins s σ H xs us Q I r h
 obtain⟨x,C,tp,Ds,b,rfl,hx,c,ht,e,q⟩:=h
 obtain⟨u1,u2,rfl,r1,r2⟩:=r.two
 cases r1
 cases r2
 obtain⟨hp,_⟩:=I.hok x _ hx
 obtain⟨its,rv,⟨o,ho,hc,n,hd⟩,_⟩:=I.tuple (SqT.of ht)
 have ei:its=Ds.map Value.ref:=bg1 rv
 subst ei
 obtain⟨oc,od,odt,osl⟩:=o
 dsimp only at hc hd
 subst hc hd
 exact kia_tup (aW0 c) I.kIn hp ho e (fun z=>nomatch z) fun tk=>⟨.bl b,H,I.tok _,rfl,q⟩
end L2
namespace L2
open PySem PySem.Spec PyProof.Rows
theorem Fun.okXC {K:W.Frag} {mg:Str->Option Value} {base:Heap} {st:Stmt} {k:Nat} {sp:Sp} (F:Fun K x qual st f fd) (hc:fd.code=.ref c) (S:x9 N ps (p5 st))
  (hbody : ∀ (A : Around) (outer : List Env) (s : Shared) (H : Hp) (vs : List V) (Q : VK) (E : XK), X7 k (A.deeper (O1 qual (p5 st) s.heap.objs.size f (.ref c))) -> sp vs H Q E ->
   ∃ t,PSs (aj8 (CXE P w) P w K mg base N qual (p5 st) f (.ref c) A outer s H E) (S7 st) t/\t { nx:=fun _ H'=>Q .non H',rt:=Q } (start N vs) H) (len:∀ vs H Q E,sp vs H Q E->vs.length=ps.length:=by intro _ _ _ _ h;repeat first | (obtain⟨rfl,_⟩:=h;rfl) | obtain⟨_,h⟩:=h):x8 P w K mg base (CXE P w) (k+1) f fd ps sp:=by
 obtain⟨oc,od,kV,doc,pm,an,cdv,ct,osl,rfl,lk,hcd⟩:=F.ex
 have hc':cdv=.ref c:=hc
 subst hc'
 exact bx8 lk hcd S len fun A outer s H vs Q E hr hsp=>hbody A outer s H vs Q E hr hsp
theorem aR8 {K:W.Frag}{P:Addr}{oc:Value}{od:Option Addr}{sl:Array (Option Value)}(ht:PySem.W.tabIn K x=some (c,P))(hn:i7 K d8 x=some (some (.ref f)))(hl:K.lookup f=some ⟨oc,od,.func fd,sl⟩):fd.code=.ref c:=by
 unfold PySem.W.tabIn at ht
 rw[hn]at ht
 dsimp only at ht
 rw[hl]at ht
 dsimp only at ht
 split at ht
 ·rename_i c₂ hc
  split at ht
  ·split at ht
   ·cases ht;exact hc
   ·cases ht
  ·cases ht
 ·cases ht
theorem bm3 {K:W.Frag}{mg mb:Str->Option Value}{CX:CXT}{k:Nat}{fa:Addr}{sp:Sp}{s₁:Shared}{ts:List (Addr × Addr)}(hT:PySem.W.TabsAt ts s₁.heap)(hK0:PySem.W.noTabs K=true)
  (hbm:∃ bm ob,mg "__builtins__"=some (.ref bm)/\bm≠aQ2/\s₁.heap.get? bm=some ob/\ob.cls=.type "module"/\ob.dict=some aQ2/\ob.data=.plain)
  (KX:K.In s₁.heap)(hns:s₁.heap.Ns d8 mg)(hb:s₁.heap.Ns aQ2 mb)(hbb:∀ x:Str,x≠"__name__"->mb x=L9 x)(hlim:s₁.heap.NoLimit)(hg:s₁.gens=#[])
  (ha:s₁.heap.get? a=some { cls:=.type "list",data:=.seq vs.toArray })(hi:M6 vs ns)(hl:ns.length<=j5)(hr:X7 k bj9)
  (F:∀ base:Heap,K.In base->base.Ns d8 mg->(∀ q∈ts,ar5 base mg q.1 q.2)->x8 P w K mg base CX k fa fd [x] sp)(hbind:∀ (s:Shared) (u:Value),bj7 s fd ⟨[u],[]⟩ [(x,u)])
  (hsp:∀ H:Hp,(∀ q∈ts,H q.2=some (.tbl #[]))->SqL K H a (ns.map V.int)->sp [.ref a] H (fun v _=>v=.bl true) fun _ _ _=>False)
  (hCX:∀ H e s',CX [] H s₁ (fun _ _ _=>False) e s'->False) :
  am1 (t9 P w) bj9 (.call (.ref fa) ⟨[.ref a],[]⟩) (fun r s'=>r=.ok (.ret (.bool true))/\OldK s₁.heap s'.heap/\s'.os=s₁.os/\aw3 s'.gens) s₁:=by
 have rv:=ak5 hi
 have lenV:=hi.length
 have tabO:∀ b,b∈ts.map (·.2)->s₁.heap.get? b=some (PySem.W.tabObj #[]):=fun b hb=>by
  obtain⟨q,hq,rfl⟩:=t8.mp hb
  exact(hT q hq).2
 have aT:a∉ts.map (·.2):=fun z=>by
  have e:=tabO a z
  rw[ha]at e
  cases e
 have core:∀ H:Hp,(∀ b,b∈ts.map (·.2)->H b=some (.tbl #[]))->(∀ b,b∉ts.map (·.2)->H b=none\/∃ o xs,H b=some (.frz o (.lst xs)))->SqL K H a (ns.map V.int)->HOk P w H s₁.heap->(∀ b,H b≠none->b=a\/b∈ts.map (·.2))->(H a≠none->K.lookup a=none) ->
   am1 (t9 P w) bj9 (.call (.ref fa) ⟨[.ref a],[]⟩) (fun r s'=>r=.ok (.ret (.bool true))/\OldK s₁.heap s'.heap/\s'.os=s₁.os/\aw3 s'.gens) s₁:=by
  intro H hHt hO hS hok hA hK
  have base_of:∀ {b:Addr} {o:Obj},s₁.heap.get? b=some o->H b=none->(aH2 s₁.heap H).get? b=some o:=fun e n=>bx1 e n
  have free_of:∀ {b:Addr} {o:Obj},s₁.heap.get? b=some o->(∀ xs n,o≠{ cls:=.type "list",data:=.seq xs n })->o≠PySem.W.tabObj #[]->H b=none:=fun {b o} e n1 n2=>by
   cases q:H b with
   | none=>rfl
   | some u =>
    rcases hA b (by rw[q];simp) with e' | e'
    ·subst e'
     rw[ha]at e;cases e
     exact absurd rfl (n1 _ _)
    ·rw[tabO b e']at e;cases e
     exact absurd rfl n2
  have noA:∀ {b:Addr} {o:Obj} {es:Array DictEntry} {ep:Nat},s₁.heap.get? b=some o->o.data=.dict es ep->H b=none:=fun {b o es ep} e d=>free_of e (fun xs n z=>by subst z;cases d) (fun z=>by subst z;cases d)
  have nsK:∀ {b:Addr} {m:Str->Option Value},s₁.heap.Ns b m->(aH2 s₁.heap H).Ns b m:=fun {b m} ⟨o,es,ep,e,d,r⟩=>⟨o,es,ep,base_of e (noA e d),d,r⟩
  have hKb:K.In (aH2 s₁.heap H):=fun b o e=>base_of (KX b o e) (by
   cases q:H b with
   | none=>rfl
   | some u =>
    rcases hA b (by rw[q];simp) with e' | e'
    ·subst e'
     rw[hK (by rw[q];simp)]at e;cases e
    ·have e1:=KX b o e
     rw[tabO b e']at e1
     cases e1
     have h2:=Q9.mp hK0 _ (PySem.W.mem_of_lookupK e)
     exact absurd (show false=true from h2) j7)
  have hM:Mod K mg (aH2 s₁.heap H):=⟨hKb,nsK hns,⟨mb,nsK hb,hbb⟩,let ⟨mc,h1,h2⟩:=hlim;⟨mc,nsK h1,h2⟩⟩
  have hLB:∀ q∈ts,ar5 (aH2 s₁.heap H) mg q.1 q.2:=fun q hq=>by
   obtain⟨C,eP⟩:=hT q hq
   refine⟨?_,?_,?_⟩
   ·obtain⟨o,vs,file,tf,flags,tg,inF,text,tt,e1,r1,r2⟩:=C
    exact⟨o,vs,file,tf,flags,tg,inF,text,tt,base_of e1 (free_of e1 (fun xs n z=>by subst z;exact absurd (show Value.type "list"=Value.type "code" from r1) (by decide)) (fun z=>by subst z;cases r1)),r1,r2⟩
   ·obtain⟨bm,ob,b1,b2,b3,b4,b5,b6⟩:=hbm
    refine⟨bm,ob,b1,b2,fun z=>?_,fun z=>?_,base_of b3 (free_of b3 (fun xs n z=>by subst z;exact absurd (show Value.type "list"=Value.type "module" from b4) (by decide)) (fun z=>by subst z;cases b4)),b4,b5,b6⟩
    ·obtain⟨o,es,ep,e,d,_⟩:=hns
     rw[z,e]at b3;cases b3;rw[d]at b6;cases b6
    ·rw[z,eP]at b3;cases b3;cases b4
   ·intro z
    obtain⟨o,es,ep,e,d,_⟩:=hns
    rw[z,eP]at e;cases e;cases d
  have e0:bA8 P w K mg (aH2 s₁.heap H) bj9 [] s₁ H:=⟨rfl,hM,fun b o e=>bH3 e,as1 (bm9 _ _),trivial,fun b hb=>absurd (show b∈([]:List Addr) from hb) (by simp),hok,.of_eq hg⟩
  refine ac4 ((F _ hKb (nsK hns) hLB).run bj9 [] s₁ H ⟨[.ref a],[]⟩ [.ref a] [.ref a] _ _ hr e0 (hbind s₁ (.ref a)) (.cons rfl .nil) (hsp H (fun q hq=>hHt _ (List.mem_map_of_mem hq)) hS)) fun r s' h=>?_
  cases r with
  | error e=>exact(hCX H e s' h).elim
  | ok fl =>
   cases fl with
   | next=>exact False.elim h
   | brk=>exact False.elim h
   | cont=>exact False.elim h
   | ret u =>
    obtain⟨v,H',os,bare,un,hok',r',q⟩:=h
    have q':v=.bl true:=q
    subst q'
    obtain rfl:u=Value.bool true:=r'
    have keep:∀ b o,b∉ts.map (·.2)->s₁.heap.get? b=some o->s'.heap.get? b=some o:=fun b o hb e=>by
     rcases hO b hb with z | ⟨ob,xs,z⟩
     ·exact un.keep b o e z (by intro z;exact absurd (show b∈([]:List Addr) from z) (by simp)) (by simp)
     ·have z2:=un.frzs b ob _ z
      obtain⟨e1,_⟩:=hok b _ z
      obtain⟨e2,_⟩:=hok' b _ z2
      rw[e]at e1;cases e1
      exact e2
    have grown:∀ b o,b∈ts.map (·.2)->s₁.heap.get? b=some o->isCodeTable s₁.heap b/\o=PySem.W.tabObj #[]/\∃ ps,s'.heap.get? b=some (PySem.W.tabObj ps):=fun b o hb e=>by
     obtain⟨ps,hp⟩:=un.tbls b #[] (hHt b hb)
     have e2:=tabO b hb
     rw[e]at e2
     obtain⟨q,hq,eq⟩:=t8.mp hb
     have e3:s'.heap.get? b=some (PySem.W.tabObj (#[]++ps)):=hok' b _ hp
     refine⟨?_,Option.some.inj e2,_,e3⟩
     rw[<- eq]
     exact((hT q hq).1.tab (hT q hq).2).isCodeTable
    refine⟨rfl,⟨fun b o e=>?_,fun b o e=>?_⟩,os,bare⟩
    ·by_cases hb:b∈ts.map (·.2)
     ·obtain⟨ht,rfl,ps,hP⟩:=grown b o hb e
      exact .inr (.inl ⟨ht,rfl,#[],ps,rfl,by rw[Array.empty_append];exact hP⟩)
     ·exact .inl (keep b o hb e)
    ·by_cases hb:b∈ts.map (·.2)
     ·obtain⟨_,_,ps,hP⟩:=grown b o hb e
      exact⟨_,hP⟩
     ·exact⟨o,keep b o hb e⟩
 cases hk:K.lookup a with
 | some o =>
  have e:=KX a o hk
  rw[ha]at e
  cases e
  refine core (fun b=>if b∈ts.map (·.2) then some (.tbl #[]) else none) (fun b hb=>if_pos hb) (fun b hb=>.inl (if_neg hb)) (.inr ⟨_,vs.toArray,_,hk,rfl,rfl,rfl,by rw[d6,lenV];exact hl,by simpa using rv⟩) (fun b u z=>?_) (fun b z=>?_) fun z=>absurd (if_neg aT) z
  ·by_cases hb:b∈ts.map (·.2)
   ·have z':=(if_pos hb).symm.trans z
    cases z'
    exact tabO b hb
   ·have z':=(if_neg hb).symm.trans z
    cases z'
  ·by_cases hb:b∈ts.map (·.2)
   ·exact .inr hb
   ·exact absurd (if_neg hb) z
 | none =>
  have e1:∀ b,b∈ts.map (·.2)->(if b∈ts.map (·.2) then some (HO.tbl #[]) else if b=a then some (.frz { cls:=.type "list",data:=.seq vs.toArray } (.lst (ns.map V.int))) else none)=some (HO.tbl #[]):=fun b hb=>if_pos hb
  have e2:∀ b,b∉ts.map (·.2)->(if b∈ts.map (·.2) then some (HO.tbl #[]) else if b=a then some (.frz { cls:=.type "list",data:=.seq vs.toArray } (.lst (ns.map V.int))) else none)=(if b=a then some (.frz { cls:=.type "list",data:=.seq vs.toArray } (.lst (ns.map V.int))) else none):=fun b hb=>if_neg hb
  refine core (fun b=>if b∈ts.map (·.2) then some (HO.tbl #[]) else if b=a then some (.frz { cls:=.type "list",data:=.seq vs.toArray } (.lst (ns.map V.int))) else none) e1 (fun b hb=>?_) (.inl (.inr ⟨{ cls:=.type "list",data:=.seq vs.toArray },(e2 a aT).trans (if_pos rfl)⟩)) (fun b u z=>?_) (fun b z=>?_) fun _=>hk
  ·rw[e2 b hb]
   by_cases hba:b=a
   ·exact .inr ⟨_,_,if_pos hba⟩
   ·exact .inl (if_neg hba)
  ·by_cases hb:b∈ts.map (·.2)
   ·have z':=(e1 b hb).symm.trans z
    cases z'
    exact tabO b hb
   ·have z1:=(e2 b hb).symm.trans z
    by_cases hba:b=a
    ·have z':=(if_pos hba).symm.trans z1
     cases z'
     subst hba
     exact⟨ha,by rw[b7];exact hl,vs,_,rv,ha⟩
    ·have z':=(if_neg hba).symm.trans z1
     cases z'
  ·by_cases hb:b∈ts.map (·.2)
   ·exact .inr hb
   ·by_cases hba:b=a
    ·exact .inl hba
    ·exact absurd ((e2 b hb).trans (if_neg hba)) z
theorem walk_ofT {l:PySem.W.OpenLaw} {k:Nat} {q:Program} {loose:List Str} {d:DefRec} {K:Params->PySem.W.Frag} {CX:World->CXT} {sp:World->List (Addr × Addr)->Sp} {ts:World->List (Addr × Addr)}
  (hn:l.most=some n) (hn2:n<=j5) (hdf:d.params.defaults=[]) (hr:X7 k bj9)
  (hY:∀ (w:World) (h:Heap),YP w h->(K w.params).In h) (hK0:∀ w:World,PySem.W.noTabs (K w.params)=true)
  (hts:∀ (w:World) (loose:List Str) (mean:ExcName->Option Value) (mg mb:Str->Option Value) (h:Heap),Top q loose mean mg mb h->(K w.params).In h->PySem.W.TabsAt (ts w) h)
  (F : ∀ (w : World) (mg : Str -> Option Value) (fa : Addr) (h : Heap), (K w.params).In h -> h.Ns d8 mg -> mg d.name = some (.ref fa) ->
   ∃ fd:FuncData,(∀ (s:Shared) (u:Value),bj7 s fd ⟨[u],[]⟩ [(x,u)]) /\
    ∀ base:Heap,(K w.params).In base->base.Ns d8 mg->(∀ q∈ts w,ar5 base mg q.1 q.2)->x8 l.prog w (K w.params) mg base (CX w) k fa fd [x] (sp w (ts w)))
  (hsp:∀ (w:World) (H:Hp) (a:Addr) (ns:List Int),ns.length<=n->(∀ q∈ts w,H q.2=some (.tbl #[]))->SqL (K w.params) H a (ns.map V.int)->sp w (ts w) [.ref a] H (fun v _=>v=.bl true) fun _ _ _=>False)
  (hCX:∀ (w:World) (H:Hp) (s:Shared) (e:Value) (s':Shared),CX w [] H s (fun _ _ _=>False) e s'->False) :
  PySem.W.WalkO q loose XP YP l.row.toRowW d [] (fun f vs=>PySem.call f vs):=by
 refine Att.attach_call hn hdf fun w s₀ s₁ mg mb fa o pm cd doc a vs ns G Y ho hd hcd hmg hobj hints hlen hg=>?_
 have KX:=hY w _ Y
 obtain⟨fd,hb,hF⟩:=F w mg fa _ KX G.T.g hmg
 exact bm3 (hts w _ _ _ _ _ G.T KX) (hK0 w) G.T.bmain KX G.T.g G.T.b G.T.builtins G.T.nolimit hg hobj hints (A1 hlen hn2) hr hF hb (fun H hO hS=>hsp w H a ns hlen hO hS) fun H e s'=>hCX w H s₁ e s'
def bl7 (ns:List Int)(z:Int):List Int:=[-(ns.getD z.toNat 0),z]
theorem bG1 (ns:List Int)(z:Int):∃ i k,bl7 ns z=i::k:=⟨_,_,rfl⟩
def ole (ns:List Int)(x y:Int):Prop:=Tim.N5 (bl7 ns y) (bl7 ns x)=false
theorem aq4 {x y:Int}:ole ns x y↔(ns.getD y.toNat 0<ns.getD x.toNat 0\/(ns.getD x.toNat 0=ns.getD y.toNat 0/\x<=y)):=by
 unfold ole bl7 Tim.N5
 by_cases h:-(ns.getD y.toNat 0) = -(ns.getD x.toNat 0)
 ·rw[if_pos h]
  unfold Tim.N5
  by_cases h2:y=x
  ·rw[if_pos h2]
   simp only[Tim.N5,true_iff]
   exact .inr ⟨by omega,by omega⟩
  ·rw[if_neg h2,decide_eq_false_iff_not]
   constructor
   ·intro h3;exact .inr ⟨by omega,by omega⟩
   ·intro h3 h4;omega
 ·rw[if_neg h,decide_eq_false_iff_not]
  constructor
  ·intro h3;exact .inl (by omega)
  ·intro h3 h4;omega
theorem aU3 {x y:Int}(h1:ole ns x y)(h2:ole ns y x):x=y:=by
 rw[aq4]at h1 h2
 omega
theorem aC5 {zs' l:List Int}(p1:zs.Perm l)(p2:zs'.Perm l)(s1:zs.Pairwise (ole ns))(s2:zs'.Pairwise (ole ns)):zs=zs':=
 (p1.trans p2.symm).eq_of_pairwise (fun x y _ _ h1 h2=>aU3 h1 h2) s1 s2
end L2
namespace Web
open PySem L2
def ab0 (ks:List (List Int))(p:Nat):Nat:=ks.countP fun k=>decide ((p:Int)∈k)
def tal (n:Nat)(ks:List (List Int)):List Int:=(q0 n).map fun p=>(ab0 ks p:Int)
theorem Y7 (n:Nat)(ks:List (List Int)):(tal n ks).length=n:=by simp[tal]
theorem ap6 (h:p<n):(tal n ks)[p]?=some (ab0 ks p:Int):=by
 unfold tal
 rw[p0,J8 h]
 rfl
theorem bn7 {ls:List (List Int)}(h:ks.Perm ls)(p:Nat):ab0 ks p=ab0 ls p:=h.countP_eq _
theorem bp7 {ls:List (List Int)}(h:ks.Perm ls)(n:Nat):tal n ks=tal n ls:=by
 unfold tal
 exact Q3 fun p _=>by rw[bn7 h]
theorem aE6 (ks ls:List (List Int))(p:Nat):ab0 (ks++ls) p=ab0 ks p+ab0 ls p:=List.countP_append
theorem bz2 (i j p:Nat):ab0 [[(i:Int),(j:Int)]] p=if p=i\/p=j then 1 else 0:=by
 unfold ab0
 rw[List.countP_singleton]
 by_cases h:p=i\/p=j
 ·rw[if_pos h,if_pos]
  simp only[decide_eq_true_eq,d4,K8,or_false]
  omega
 ·rw[if_neg h,if_neg]
  simp only[decide_eq_true_eq,d4,K8,or_false]
  omega
theorem bD6 (n:Nat):tal n []=v9 n 0:=by
 unfold tal ab0
 rw[List.eq_replicate_iff]
 simp
theorem bD5 (hi:i<n)(hj:j<n)(h:i≠j)(ks:List (List Int))(z1 z2:Int)(e1:z1=ab0 ks i)(e2:z2=ab0 ks j) :
  ((tal n ks).set i (z1+1)).set j (z2+1)=tal n (ks++[[(i:Int),(j:Int)]]):=by
 subst e1 e2
 refine T6 fun p=>?_
 by_cases hp:p<n
 ·rw[ap6 hp,aE6,bz2,bY9,bY9,K3,Y7,ap6 hp]
  by_cases q1:j=p
  ·subst q1
   rw[if_pos rfl,if_pos hj,if_pos (.inr rfl)]
   simp
  ·rw[if_neg q1]
   by_cases q2:i=p
   ·subst q2
    rw[if_pos rfl,if_pos hi,if_pos (.inl rfl)]
    simp
   ·rw[if_neg q2,if_neg (by omega)]
    simp
 ·rw[p9 (by simp[Y7];omega),p9 (by rw[Y7];omega)]
def ce1 (n:Nat)(ks:List (List Int)):List (List Int):=(V1 n).filter fun k=>!decide (k∈ks)
end Web
namespace HT
open PySem PyProof.Rows
end HT
namespace L2
open PySem PySem.Spec PyProof.Rows
section
variable {st:Expr} {ts:TE} {p2:Pos}
def ch6 (t u:TS):TS:=fun D σ H=>∃ Mid:St->Hp->Prop,t { D with nx:=Mid } σ H/\∀ σ' H',Mid σ' H'->u D σ' H'
theorem bE9 {stm:Stmt}{rest:List Stmt}{t u:TS}(h1:PS X stm t)(h2:PSs X rest u):PSs X (stm::rest) (ch6 t u):=by
 intro pins s σ H D I ⟨Mid,h,k⟩
 refine aZ2 (thn (h1 pins s σ H { D with nx:=Mid } I h) fun f s1 q=>?_)
 cases f with
 | next =>
  obtain⟨σ',H',I',q⟩:=q
  exact h2 pins s1 σ' H' D I' (k _ _ q)
 | ret v=>exact q
 | brk=>exact q
 | cont=>exact q
end
end L2
set_option Elab.async false
set_option maxRecDepth 100000
namespace L2
open PySem PySem.Spec PyProof.Rows
section
variable (P:Program) (w:World)
end
section
variable {o:HO}
end
section
variable {x e:Addr} {o':HO}
end
section
variable {fs fs' ex ex':List Addr} {H1 H2:Hp} {h1 h2:Heap} {x e:Addr} {o:HO}
end
section
variable {σ:List (Option V)}
end
section
variable {a b:Expr} {tb:TE}
variable {tA tB':TT} {rest:List Expr}
end
section
variable {st:Stmt} {rest:List Stmt} {t u:TS}
end
section
variable {a b c:Expr} {tb tc:TE}
end
section
variable {a b c:Expr} {tb tc:TE}
end
section
variable {K:W.Frag} {x dx:Addr} {mA:Str->Option Value} {name:Str}
end
section
variable {dx:Addr} {fs fs':List (Str × V)}
end
section
variable {dx:Addr} {fs:List (Str × V)} {f:Str} {v:V}
end
section
variable {value:Expr} {f:Str} {pos' tpos:Pos} {tv:TE}
end
section
variable {c:Value} {b:Bool}
end
section
variable {t:TA}
end
section
variable {s':Shared}
end
section
variable {CX:CXT} {k:Nat} {sp:Sp} {dvs:List V} {ds:List Value} {E:XK} {m:Str} {p apos:Pos} {t:TA}
end
section
variable {CX:CXT} {k:Nat} {ks:List Str} {sp:Sp} {E:XK} {m:Str} {p apos kpos:Pos} {kws:List aG5} {t tk:TA} {nm:Option Str}
variable {g:List Value->List Value->List Value}
end
section
variable {p:Pos} {t:TA} {id T:String} {r:List V->Hp->VK->Prop}
end
section
variable {κ:Type} [DecidableEq κ]
end
section
variable {y v:V} {r:Value} {o:Option V}
end
section
variable {kvs:List (Key × V)} {k:Key}
end
section
variable {i value:Expr} {pos' tpos:Pos} {td ty tv:TE}
end
structure M1 (X:Cx) (o:Expr) (m:Str) (apos:Pos) (e:Expr) (cpos:Pos):Prop where
 base:bC2 o m X.env (eval o X.env)=eval o X.env
 few:((S4 cpos (u5 [e] X.env)).all (fun x=>!x.1) && (bC1 cpos (aG6 [] X.env)).all (fun x=>x.1.isSome)
  && decide (([e]:List Expr).length+([]:List aG5).length+(if ([]:List aG5).isEmpty then 0 else 1)<30))=true
 line:(apos.endLine == cpos.line)=true
 trees:S4 cpos (u5 [e] X.env)=[(false,eval e X.env)]
structure M2 (X:Cx) (o:Expr) (m:Str) (apos:Pos) (e f:Expr) (cpos:Pos):Prop where
 base:bC2 o m X.env (eval o X.env)=eval o X.env
 few:((S4 cpos (u5 [e,f] X.env)).all (fun x=>!x.1) && (bC1 cpos (aG6 [] X.env)).all (fun x=>x.1.isSome)
  && decide (([e,f]:List Expr).length+([]:List aG5).length+(if ([]:List aG5).isEmpty then 0 else 1)<30))=true
 line:(apos.endLine == cpos.line)=true
 trees:S4 cpos (u5 [e,f] X.env)=[(false,eval e X.env),(false,eval f X.env)]
section
variable {y d:V} {r:Value} {o:Option V}
end
section
variable {f:Expr} {apos cpos:Pos} {td ty tx:TE}
end
section
variable {kvs:List (Key × V)}
end
section
variable {y:V}
end
end L2
namespace Att
open PySem PySem.W PySem.Calls PyProof.Rows
section
variable {K:Frag}
end
end Att
namespace L2
open PySem PySem.Spec PyProof.Rows
section
variable {K:W.Frag} {mg:Str->Option Value} {base:Heap}
end
section
variable {κ:Type} [DecidableEq κ]
end
theorem bD9 (I:Inv X pins σ H s){p:Addr}(hq:SqL X.K H p (ns.map V.int)\/SqT X.K H p (ns.map V.int)):∃ (vs:List Value) (T:String) (o:Obj) (c:Nat),(T="list"\/T="tuple")/\s.heap.get? p=some o/\o.cls=.type T/\o.data=.seq vs.toArray c/\M6 vs ns:=by
 rcases hq with hq | hq
 ·obtain⟨its,r',pl,hz⟩:=I.list hq
  obtain⟨o,ho,hc,n,hd⟩:=pl.isList
  exact⟨its,"list",o,n,.inl rfl,ho,hc,hd,intsAre_of r'⟩
 ·obtain⟨its,r',pl,hz⟩:=I.tuple hq
  obtain⟨o,ho,hc,n,hd⟩:=pl
  exact⟨its,"tuple",o,n,.inr rfl,ho,hc,hd,intsAre_of r'⟩
theorem ba4 (I:Inv X pins σ H s){h1:Heap}{out:Array Value}(kp:∀ b o',s.heap.get? b=some o'->h1.get? b=some o')(hi:M6 out.toList zs)(hz:zs.length<=1000) :
  H h1.objs.size=none/\Inv X pins σ (upd H h1.objs.size (.lst (zs.map V.int))) { s with heap:=an8 (h1.push (J1 "list" vs.toArray 0)) h1.objs.size vs out }:=by
 have I1:Inv X pins σ H { s with heap:=h1,toks:=s.toks }:=I.kept kp
 refine⟨I1.hok.fresh (d5 _),?_⟩
 have hoL:(h1.push (J1 "list" vs.toArray 0)).get? h1.objs.size=some (J1 "list" vs.toArray 0):=j0 _ rfl
 obtain⟨e,he⟩:=sortedHeap_at (out:=out) hoL
 refine I1.laid (t':=s.toks) (fun b o q=>?_) (d5 _) ⟨by rw[b7,E4];omega,out.toList,e,ak5 hi,by rw[as2];exact he⟩
 have hb:b<h1.objs.size:=c8 q
 rw[sortedHeap_old (k7 hb) (by rw[bB4];exact A4 hb)]
 exact c5 _ q
theorem aA1 {p:Addr}{b:Bool}(I:Inv X pins σ H s)(hq:SqL X.K H p (ns.map V.int)\/SqT X.K H p (ns.map V.int))(h64:ns.length<64)
  (h:∀ (s':Shared) (D:Addr) (zs:List Int),H D=none->zs.Perm ns->Ordered b zs->Inv X pins σ (upd H D (.lst (zs.map V.int))) s'->Q (.ref D) s') :
  r6 (t9 X.prog X.w) A (call (.builtin "sorted") [.ref p] [(Str.ofString "reverse",.bool b)]) Q E s:=by
 obtain⟨vs,T,o,c,hT,ho,hc,hd,hI⟩:=bD9 I hq
 have hlen:=hI.length
 refine bL7 ca5 bP7 bP8 (args_sorted_rev _ _) ?_
 unfold Builtin.«sorted»
 refine b9 (m:=checkCount "sorted" 1 1 _) (i8 ?_)
 refine b9 (wpAny_collect_seq p hT ho hc hd (fun h1 kp=>?_) (by rw[d6,E4];omega))
 rw[bL0]
 refine b9 (U7 ?_ (by rw[E4];omega))
 have hoL:(h1.push (J1 "list" vs.toArray 0)).get? h1.objs.size=some (J1 "list" vs.toArray 0):=j0 _ rfl
 refine b9 (F0 (ca6 bp1 (s:={ s with heap:=h1.push (J1 "list" vs.toArray 0) }) ⟨_,hoL,rfl⟩ bk2 (list_sort_tree_rev (s:={ s with heap:=h1.push (J1 "list" vs.toArray 0) }) hoL hI (by omega) fun out ns' a1 a2 a3=>⟨_,rfl,?_⟩) (args_list_sort_rev _ _)))
 obtain⟨e1,e2⟩:=ba4 (vs:=vs) I kp a1 (by rw[a2.length_eq];omega)
 exact i8 ⟨_,rfl,h _ _ ns' e1 a2 a3 e2⟩
def bQ9 (K:W.Frag)(tr:TA):TE:=fun σ H Q=>tr σ H fun vs H1=>∃ (p:Addr) (ns:List Int),vs=[.ref p]/\(SqL K H1 p (ns.map V.int)\/SqT K H1 p (ns.map V.int))/\ns.length<64 /\
 ∀ (l:Addr) (zs:List Int),H1 l=none->zs.Perm ns->zs.Pairwise (·≥·)->Q (.ref l) (upd H1 l (.lst (zs.map V.int)))
theorem bt1 {np bpos kpos:Pos}{tr:TA}(K:W.Frag)(hK:X.K=K)(hg:Gl X "sorted")(hm:X.mg "sorted"=none)(ha:PA X [e] tr)
  (hs:S4 pos (u5 [e] X.env)=(false,eval e X.env)::S4 pos (u5 [] X.env):=by rfl)
  (hpl:(S4 pos (u5 [e] X.env)).any (·.1)=false:=by rfl) :
  PE X (.Call (.Name "sorted" np) [e] [⟨some "reverse",.Constant (.bool true) j bpos,kpos⟩] pos) (bQ9 K tr):=by
 subst hK
 intro pins s σ H Q I h
 refine J0 (X8 I hg hm (show L9 "sorted"=some (.builtin "sorted") from rfl) ?_ (by decide) (by decide))
 refine ca7 (thn (ha pos pins s σ H _ I h) fun us s1 ⟨vs,H1,I1,r1,q1⟩=>?_) hs hpl rfl rfl
 obtain⟨p,ns,rfl,hq,h64,q⟩:=q1
 have hk:PK X [⟨some "reverse",.Constant (.bool true) j bpos,kpos⟩] (aR9 (tC (.bl true)) bp8):=aN2 ah2 bb3
 refine thn (hk pos pins s1 σ H1 (fun zs H2=>zs=[.bl true]/\H2=H1) I1 ⟨rfl,rfl⟩) fun ws s2 ⟨zs,H2,I2,r2,ez,eH⟩=>?_
 subst ez eH
 obtain⟨w,rfl,rw⟩:=vals1 r2
 obtain⟨u,rfl,ru⟩:=vals1 r1
 cases rw
 cases ru
 exact aA1 (b:=true) I2 hq h64 fun s' D zs a1 a2 a3 I'=>⟨.ref D,_,I',rfl,q D zs a1 a2 a3⟩
theorem aw7 {ip tp:Addr}{ys:Array Value}{x:Value}(hi:s.heap.IsTupleIter ip tp i)(ht:s.heap.IsTuple tp ys)(hx:ys[i]?=some x)
  (q:∀ h',h'.IsTupleIter ip tp (i+1)->Heap.SameBut ip s.heap h'->Q x { s with heap:=h' }):r6 (t9 prog w) A (Builtin.SmallTypes.nextOf (.ref ip)) Q E s:=by
 obtain⟨u,hu,cu,du⟩:=id hi
 obtain⟨v,hv,_,nv,dv⟩:=ht
 unfold Builtin.SmallTypes.nextOf
 refine b9 (Y4 (name:=Str.ofString "__next__") hi.typeIs F.slot_tuple_iterator_next (ac8 F.slot_tuple_iterator_next hi.typeIs F.entry_tuple_iterator_next ?_ (F.args_tuple_iterator_next_1 _)))
 show r6 _ _ (field (.ref ip) 0 >>= _) _ _ s;refine b9 (O5 hu du (x:=.ref tp) rfl ?_)
 show r6 _ _ (if (Value.ref tp == Value.none)=true then _ else _) _ _ s;rw[if_neg (show ¬ ((Value.ref tp == Value.none)=true) from j7)]
 show r6 _ _ (field (.ref ip) 1 >>= _) _ _ s;refine b9 (O5 hu du (x:=.int i 0) rfl ?_)
 show r6 _ _ (bk4 (.ref tp) >>= _) _ _ s;refine b9 (G8 hv dv ?_)
 simp only[u6,hx]
 refine b9 (wpAny_setField hu du (by simp) (i8 ⟨x,rfl,i8 (q _ ?_ (Heap.SameBut.update ..))⟩))
 exact⟨_,S3 _ hu (Obj.isFreed_of_fields (Obj.data_mapFields du _)),(Obj.cls_mapFields ..).trans cu,by rw[Obj.data_mapFields du];simp[ai0]⟩
theorem aC8 {ip tp:Addr}{ys:Array Value}(hh:A.handled=none)(hi:s.heap.IsTupleIter ip tp i)(ht:s.heap.IsTuple tp ys)(hx:ys[i]?=none)
  (q:∀ h' e,Heap.ExtBut ip s.heap h'->(∃ o,h'.get? e=some o/\o.cls=.type "StopIteration")->E (.ref e) { s with heap:=h' }):r6 (t9 prog w) A (Builtin.SmallTypes.nextOf (.ref ip)) Q E s:=by
 obtain⟨u,hu,cu,du⟩:=id hi
 obtain⟨v,hv,_,nv,dv⟩:=ht
 unfold Builtin.SmallTypes.nextOf
 refine b9 (Y4 (name:=Str.ofString "__next__") hi.typeIs F.slot_tuple_iterator_next (ac8 F.slot_tuple_iterator_next hi.typeIs F.entry_tuple_iterator_next ?_ (F.args_tuple_iterator_next_1 _)))
 show r6 _ _ (field (.ref ip) 0 >>= _) _ _ s;refine b9 (O5 hu du (x:=.ref tp) rfl ?_)
 show r6 _ _ (if (Value.ref tp == Value.none)=true then _ else _) _ _ s;rw[if_neg (show ¬ ((Value.ref tp == Value.none)=true) from j7)]
 show r6 _ _ (field (.ref ip) 1 >>= _) _ _ s;refine b9 (O5 hu du (x:=.int i 0) rfl ?_)
 show r6 _ _ (bk4 (.ref tp) >>= _) _ _ s;refine b9 (G8 hv dv ?_)
 simp only[u6,hx]
 refine b9 (an7 (b9 (wpAny_setField hu du (by simp) ?_)))
 show r6 _ _ (newExc (.type "StopIteration") [] >>= _) _ _ _;refine b9 ?_;simp only[newExc,newTuple]
 refine b9 (aQ7 ?_ (by size_fits));refine b9 (m:=firstArgMember _ _) (bk5 (a:=Value.none) (by first | rfl | (simp only[firstArgMember];rfl)) ?_)
 refine aQ7 ?_ (by size_fits);simp only[raiseNew]
 refine b9 (wpAny_handled ?_);first | rw[show A.in1.handled=none from hh] | rw[hh]
 refine b9 (i8 (wpAny_throw ?_));exact q _ _ (((Heap.SameBut.update ..).extBut.push _).push _) ⟨_,j0 _ rfl,rfl⟩
theorem au5 (hh:A.handled=none)(ip tp:Addr)(hne:tp≠ip)(ys:Array Value):Draws prog w A ip [ip,tp] ys.size (fun i v=>ys[i]?=some v) (fun i h=>h.IsTupleIter ip tp i/\h.IsTuple tp ys) where
 live:=fun _ _ z=>let ⟨o,ho,_⟩:=z.1;⟨o,ho⟩
 frame:=fun _ _ _ z k=>⟨z.1.at fun o e=>k ip (by simp) o e,z.2.at fun o e=>k tp (by simp) o e⟩
 item:=fun i s Q E hi z q=>aw7 z.1 z.2 (x:=ys[i]) (by simp[hi]) fun h' a b=>q _ h' s.toks (by simp[hi]) ⟨a,z.2.extBut b.extBut hne⟩ b
 done:=fun s Q E z q=>aC8 hh z.1 z.2 (by simp) q
open AutoSeq1 (wpAny_loadPart') in
set_option maxRecDepth 100000 in
theorem aD1 (tp:Addr)(ys:Array Value)(n:Nat)(dd:Option Addr)(ss:Array (Option Value)) :
  Meets (Builtin.«enumerate.__new__» ⟨[.type "enumerate",.ref tp],[]⟩) (fun _ R s=>s.heap.get? tp=some { cls:=.type "tuple",dict:=dd,data:=.seq ys n,slots:=ss } /\
   R (.ok (.ret (.ref (s.heap.push { cls:=.type "tuple_iterator",data:=.fields #[.ref tp,.int 0 0] }).objs.size)))
    { s with heap:=(s.heap.push { cls:=.type "tuple_iterator",data:=.fields #[.ref tp,.int 0 0] }).push { cls:=.type "enumerate",data:=.fields #[.none,.bool false,.ref s.heap.objs.size,ai0 0,.none,.none] } }) :=
 .of_wp fun prog w A R s h=>by
  obtain⟨hp,g,d,tk,os⟩:=s;obtain⟨hl,h⟩:=h
  have hsub:=sub_enumerate
  have hT:Heap.IsTuple (Shared.heap ⟨hp,g,d,tk,os⟩) tp ys:=⟨_,hl,rfl,n,rfl⟩
  wp_walk using wpAny_loadPart' hl
  refine wpAny_stack_any fun st=>i8 ?_
  split
  ·rename_i c _ _ _ _ _
   cases (c == Value.type "enumerate")
   ·wp_walk using wpAny_loadPart' hl,G9 hT;exact⟨_,rfl,h⟩
   ·wp_walk using wpAny_loadPart' hl,G9 hT;exact⟨_,rfl,h⟩
  ·wp_walk using wpAny_loadPart' hl,G9 hT;exact⟨_,rfl,h⟩
theorem aH6 {tp:Addr}{ys:Array Value}(hT:s.heap.IsTuple tp ys)
  (q:∀ h',IsEnum h' (s.heap.objs.size+1) s.heap.objs.size 0 .none->h'.IsTupleIter s.heap.objs.size tp 0->h'.objs.size=s.heap.objs.size+2->(∀ b o,s.heap.get? b=some o->h'.get? b=some o)->Q (.ref (s.heap.objs.size+1)) { s with heap:=h' }) :
  r6 (t9 prog w) A (call (.type "enumerate") [.ref tp]) Q E s:=by
 obtain⟨⟨c,dd,dt,ss⟩,hl,hc,n,hd⟩:=hT
 replace hc:c=.type "tuple":=hc
 replace hd:dt=.seq ys n:=hd
 subst hc hd
 refine callType_new F.called_enumerate (by decide) (F.typeCall_enumerate_1 _) (F.newCall_enumerate_1 _) (fun obj=>F.args_object_init_2 obj _) F.entry_enumerate_new (aD1 tp ys n dd ss) ⟨hl,?_⟩
 have hz:(s.heap.push { cls:=.type "tuple_iterator",data:=.fields #[.ref tp,.int 0 0] }).objs.size=s.heap.objs.size+1:=B1 ..
 show _/\_
 rw[hz]
 have he:IsEnum ((s.heap.push { cls:=.type "tuple_iterator",data:=.fields #[.ref tp,.int 0 0] }).push { cls:=.type "enumerate",data:=.fields #[.none,.bool false,.ref s.heap.objs.size,ai0 0,.none,.none] }) (s.heap.objs.size+1) s.heap.objs.size 0 .none:=by
  have:=j0 (s.heap.push { cls:=.type "tuple_iterator",data:=.fields #[.ref tp,.int 0 0] }) (o:={ cls:=.type "enumerate",data:=.fields #[.none,.bool false,.ref s.heap.objs.size,ai0 0,.none,.none] }) rfl
  rw[hz]at this;exact this
 exact⟨⟨_,he,rfl⟩,q _ he ⟨_,c5 _ (j0 _ rfl),rfl,rfl⟩ (by rw[B1,hz]) fun b o x=>c5 _ (c5 _ x)⟩
def Itm (K:W.Frag)(a:Addr):It:=
 ⟨fun i H=>∃ xs x,SqT K H a xs/\xs[i]?=some x,fun i H x H'=>∃ t v,H t=none/\x=.ref t/\(∀ xs,SqT K H a xs->xs[i]?=some v)/\H'=upd H t (.tup [.int i,v]),fun i H=>∃ xs,SqT K H a xs/\xs.length=i⟩
def bW4 (K:W.Frag)(ta:TA):TI:=fun σ H R=>ta σ H fun vs H1=>∃ a,vs=[.ref a]/\(∃ xs,SqT K H1 a xs)/\R (Itm K a) H1
theorem aZ7 {K:W.Frag}{x1:Nat}(a ip e:Addr)(hne:e≠ip):Turn P w K (.Tuple elts x1 pos) (Itm K a) [e,ip] e (fun i h=>(∃ old,IsEnum h e ip (i:Int) old)/\h.IsTupleIter ip a i) where
 mem:=by simp
 obj:=fun i h st b hb=>by
  obtain⟨⟨old,he⟩,o,ho,hc,hd⟩:=st
  rcases d4.mp hb with rfl | hb
  ·exact⟨_,he,fun v z=>by cases z⟩
  ·obtain rfl:b=ip:=by simpa using hb
   exact⟨o,ho,fun v z=>by rw[hd]at z;cases z⟩
 keep:=fun i h h' st k=>⟨let ⟨old,he⟩:=st.1;⟨old,k e (by simp) _ he⟩,st.2.at fun o q=>k ip (by simp) o q⟩
 item:=by
  intro X hP hw hK hc i pins s σ H E I hf st hg
  subst hP hw hK
  obtain⟨xs,x,hq,hx⟩:=hg
  obtain⟨⟨old,he⟩,hit⟩:=st
  obtain⟨its,rv,p,hz⟩:=I.tuple hq
  obtain⟨u,hu,ru⟩:=rv.get hx
  obtain⟨f0,f1,f2,f3,f4,f5⟩:=hf e (by simp)
  obtain⟨g0,g1,g2,g3,g4,g5⟩:=hf ip (by simp)
  have pT:s.heap.IsTuple a its.toArray:=p
  have nai:a≠ip:=fun z=>by
   obtain⟨o1,h1,c1,_⟩:=id pT
   obtain⟨o2,h2,c2,_⟩:=id hit
   rw[z,h2]at h1;cases h1;rw[c2]at c1;injection c1 with c1;exact absurd c1 (by decide)
  have nae:a≠e:=fun z=>by
   obtain⟨o1,h1,c1,_⟩:=id pT
   rw[z,show s.heap.get? e=_ from he]at h1;cases h1;injection c1 with c1;exact absurd c1 (by decide)
  have ui:its.toArray[i]?=some u:=by simpa using hu
  have hlt':i<its.toArray.size:=by
   rcases B0 i its.toArray.size with h | h
   ·exact h
   ·rw[an4 h]at ui;cases ui
  refine wpAny_pyNext_enum_itemD (au5 (A:=X.A.in1) (I.ok.hd hc) ip a nai its.toArray) he ⟨hit,pT⟩ hlt' hne (by simp[hne,Ne.symm nae]) fun v h1 tk hv heo st1 ht1 hz1 hk1=>?_
  have ev:v=u:=by have:=hv.symm.trans ui;cases this;rfl
  subst ev
  have hit1:=st1.1
  refine⟨_,rfl,?_⟩
  refine bo6 heo fun h2 he2 hs2=>?_
  have hlt:e<s.heap.objs.size:=c8 he
  have hs2':Heap.SameBut e h1 h2:=hs2
  have ht2:h2.get? s.heap.objs.size=some { cls:=.type "tuple",data:=.seq #[.int i tk,v] }:=(hs2'.2 _ (L4 hlt)).trans ht1
  have kp:∀ b o,b≠e->b≠ip->s.heap.get? b=some o->h2.get? b=some o:=fun b o h1' h2' q=>(hs2'.2 b h1').trans (hk1 b o h1' h2' q)
  have hT:H s.heap.objs.size=none:=I.hok.fresh (d5 _)
  have nH:∀ b,H b≠none->b≠e/\b≠ip:=fun b hb=>⟨fun z=>hb (z ▸ f0),fun z=>hb (z ▸ g0)⟩
  have keepH:∀ b o,H b=some o->upd H s.heap.objs.size (.tup [.int i,x]) b=some o:=fun b o q=>by rw[r9 (o8 q hT)];exact q
  have hok2:HOk X.prog X.w (upd H s.heap.objs.size (.tup [.int i,x])) h2:=fun b o eb=>by
   by_cases hb:b=s.heap.objs.size
   ·subst hb
    rw[c6]at eb
    cases eb
    exact⟨by show 2<=j5;decide,[.int i tk,v],.cons ⟨_,rfl⟩ (.cons ru .nil),⟨_,ht2,rfl,_,rfl⟩⟩
   ·rw[r9 hb]at eb
    refine(I.hok b o eb).stay (fun c v hcc q=>kp c v ?_ ?_ q) (fun c q=>keepH c _ q) fun c ys q=>keepH c _ q
    ·rcases hcc with z | z
     ·exact(nH c (by rw[z,eb];simp)).1
     ·exact(nH c (by rw[z];simp)).1
    ·rcases hcc with z | z
     ·exact(nH c (by rw[z,eb];simp)).2
     ·exact(nH c (by rw[z];simp)).2
  have I2:Inv X pins σ (upd H s.heap.objs.size (.tup [.int i,x])) { s with heap:=h2,toks:=tk+1 }:=by
   refine I.step (g':=s.gens) (d':=s.drawn) (t':=tk+1) (ch:=[e,ip]) (fun b hb=>?_) (fun b o _ _ hcc q _=>kp b o (fun z=>hcc (by simp[z])) (fun z=>hcc (by simp[z])) q) (fun b o _ _ hcc q _=>⟨o.slots,kp b o (fun z=>hcc (by simp[z])) (fun z=>hcc (by simp[z])) q⟩) (fun b o _ q n=>?_)
    (fun b o hcc q=>⟨o,kp b o (fun z=>hcc (by simp[z])) (fun z=>hcc (by simp[z])) q⟩) (fun b ys q=>keepH b _ q) (fun b o v q=>keepH b _ q) (fun b ps q=>⟨#[],by rw[keepH b _ q];simp⟩) (fun m hm=>?_) hok2 I.bare
   ·rcases d4.mp hb with rfl | hb
    ·exact⟨f3,f1,f4,f5⟩
    ·obtain rfl:b=ip:=by simpa using hb
     exact⟨g3,g1,g4,g5⟩
   ·rw[r9 (k7 (c8 q))]
    exact n
   ·obtain⟨o,es,ep,ho,r⟩:=hm
    exact⟨o,es,ep,kp _ o (Ne.symm f1) (Ne.symm g1) ho,r⟩
  have hilt:ip<s.heap.objs.size:=by
   obtain⟨o,ho,_⟩:=id hit
   exact c8 ho
  refine⟨.ref s.heap.objs.size,_,I2,rfl,⟨s.heap.objs.size,x,hT,rfl,fun ys hy=>by rw[I.tuple_inj hy hq];exact hx,rfl⟩,⟨⟨v,?_⟩,?_⟩,fun b hb=>?_⟩
  ·have:=he2
   rw[show ((i:Int)+1)=(((i+1:Nat):Int)) by simp]at this
   exact this
  ·exact hit1.at fun o q=>(hs2'.2 ip (Ne.symm hne)).trans q
  ·rcases d4.mp hb with rfl | hb
   ·rw[r9 (k7 hlt)];exact f0
   ·obtain rfl:b=ip:=by simpa using hb
    rw[r9 (k7 hilt)]
    exact g0
 done:=by
  intro X hP hw hK hc i pins s σ H E I hf st hg
  subst hP hw hK
  obtain⟨xs,hq,hx⟩:=hg
  obtain⟨⟨old,he⟩,hit⟩:=st
  obtain⟨its,rv,p,hz⟩:=I.tuple hq
  obtain⟨g0,g1,g2,g3,g4,g5⟩:=hf ip (by simp)
  have hl:=rv.length
  have pT:s.heap.IsTuple a its.toArray:=p
  have nai:a≠ip:=fun z=>by
   obtain⟨o1,h1,c1,_⟩:=id pT
   obtain⟨o2,h2,c2,_⟩:=id hit
   rw[z,h2]at h1;cases h1;rw[c2]at c1;injection c1 with c1;exact absurd c1 (by decide)
  have ei:i=its.toArray.size:=by rw[d6];omega
  refine wpAny_pyNext_enum_endD (au5 (A:=X.A.in1) (I.ok.hd hc) ip a nai its.toArray) he ⟨by rw[<- ei];exact hit,pT⟩ fun h' eb=>⟨rfl,I.turned (t':=s.toks) (fun b o hb q=>eb b o hb q) g0 g1 g3 g4 g5⟩
 self:=fun _ _ _ _ _ st h=>let ⟨⟨old,he⟩,_⟩:=st;ao0 he h
theorem aU0 {a:Expr}{ta:TA}{x1:Nat}{tpos p:Pos}(hg:Gl X "enumerate")(hm:X.mg "enumerate"=none)(ha:PA X [a] ta)(hv:L9 "enumerate"=some (.type "enumerate"):=by rfl)(hs:u5 [a] X.env=[(false,eval a X.env)]:=by rfl) :
  PI X (.Tuple elts x1 tpos) (.Call (.Name "enumerate" p) [a] [] pos) (bW4 X.K ta):=by
 intro pins s σ H R I h
 refine Call_ (X8 I hg hm hv (PyProof.Rows.callWith_type1 (thn (ha pos pins s σ H _ I h) fun us s1 ⟨vs,H1,I1,r1,q1⟩=>?_) hs rfl))
 obtain⟨b,e,⟨xs,hq⟩,q⟩:=q1
 subst e
 obtain⟨u,rfl,rx⟩:=vals1 r1
 cases rx
 obtain⟨its,rv,pl,hz⟩:=I1.tuple hq
 refine aH6 (show s1.heap.IsTuple b its.toArray from pl) fun h' he hit hsz kp=>?_
 refine ao0 he ?_
 have hne:s1.heap.objs.size+1≠s1.heap.objs.size:=Nat.succ_ne_self _
 refine⟨s1.heap.objs.size+1,[s1.heap.objs.size+1,s1.heap.objs.size],_,_,H1,rfl,I1.kept (t':=s1.toks) kp,aZ7 b s1.heap.objs.size (s1.heap.objs.size+1) hne,⟨⟨_,he⟩,hit⟩,fun c hc=>?_,q⟩
 rcases d4.mp hc with rfl | hc
 ·exact I1.fpOk (Z7 _) (I1.hok.fresh (Z7 _))
 ·obtain rfl:c=s1.heap.objs.size:=by simpa using hc
  exact I1.fpOk (d5 _) (I1.hok.fresh (d5 _))
theorem bn9 (hc:X.calm=true):U2 X (.builtin "sum") (fun xs H Q=>∃ (p:Addr) (ns:List Int),xs=[.ref p]/\SqT X.K H p (ns.map V.int)/\Q (.int ns.sum) H):=by
 intro pins s σ H xs us Q I r h
 obtain⟨p,ns,rfl,hq,q⟩:=h
 obtain⟨u,rfl,rx⟩:=vals1 r
 cases rx
 obtain⟨its,r',pl,hz⟩:=I.tuple hq
 have hi:M6 its ns:=intsAre_of r'
 obtain⟨ys,e⟩:=hi.allInts.items
 refine PySem.W.ktm_sumG (xs:=ys) (I.ok.hd hc) (by rw[<- e];exact pl) fun h' tk t' hk=>⟨.int ns.sum,H,I.kept (t':=tk) hk,⟨t',?_⟩,q⟩
 have e2:numsOf (E8 ys).toList=ns:=by rw[<- e];exact hi.numsOf
 rw[nums_intItems]at e2
 rw[preSum_eq,k9 (by simp),e2]
end L2
namespace L2
open PySem PySem.Spec PyProof.Rows
def cb1 (K:W.Frag)(CT:Addr)(tb:(St->XK)->TS)(th:TS):TS:=fun D σ H=>∃ E:St->XK,tb E D σ H/\∀ σ' cls H',E σ' cls none H'->PySem.W.exmOne K cls (.ref CT)=some true/\th D σ' H'
theorem bF0 {suite:List Stmt}{b0:Stmt}{tn:Str}{np hpos:Pos}{CT:Addr}{tb:(St->XK)->TS}{th:TS}
  (hg:Gl X tn)(hm:X.mg tn=some (.ref CT))(hst:X.stack=X.env::X.outer)(hfr:X.env.frame=some X.env.locals)(hbody:∀ pins E,PSs (aR3 X pins E) body (tb E))(hh:∀ v,PSs (bI9 X v) (b0::suite) th)
  (hd:(tn == ("__debug__":Str))=false:=by decide) :
  PS X (.Try body [.ExceptHandler (some (.Name tn np)) none (b0::suite) hpos] [] [] pos) (cb1 X.K CT tb th):=by
 intro pins s σ H D I hw
 obtain⟨E,hb,hcatch⟩:=hw
 refine wpAny_Try_except (E1 (hbody pins E [] s σ H D I.toTry hb) (fun fl s1 q=>?_) fun e s1 hx=>?_)
 ·cases fl with
  | next =>
   obtain⟨σ',H',I',q⟩:=q
   exact Y2 ⟨σ',H',I'.ofTry,q⟩
  | brk=>obtain⟨σ',H',I',q⟩:=q;exact⟨σ',H',I'.ofTry,q⟩
  | cont=>obtain⟨σ',H',I',q⟩:=q;exact⟨σ',H',I'.ofTry,q⟩
  | ret u=>obtain⟨v,σ',H',I',r,q⟩:=q;exact⟨v,σ',H',I'.ofTry,r,q⟩
 ·obtain⟨σ1,H1,s0,I1,x,cls,H2,rfl,hos,hbare,u,hok,new,hxn,⟨B,a0,fl,st⟩,hE⟩:=hx
  obtain⟨hmat,hth⟩:=hcatch σ1 cls H2 hE
  have hfl:Heap.FlyingW B (X.env::X.outer) x cls a0 s1.heap:=by rw[hst]at fl;exact fl
  have frNone:∀ b∈frs X.stack,H2 b=none:=fun b hb=>by
   obtain⟨_,o,ho,_⟩:=I1.stack.mem hb
   exact u.free b o ho (I1.stkFree b hb) (by simp)
  have step:∀ h',B.StaysIn h'->s1.heap.UpToSlots h'->Un (frs X.stack) [] H1 H2 s0.heap h'/\HOk X.prog X.w H2 h':=fun h' hB hu=>by
   refine⟨u.onto (fun b o ho hh hno=>hB b o (st b o ho (.inr hh) hno)) fun b o ho hh hm'=>?_,hok.stays fun b o ho hh=>hB b o (st b o ho (.inl hh) fun hm'=>hh (frNone b hm'))⟩
   obtain⟨_,o',ho',hdd⟩:=hfl.2.2.1.mem (b:=b) (by rw[hst]at hm';exact hm')
   rw[ho]at ho'
   cases ho'
   exact hu b o ho hdd
  have inv:∀ h',B.StaysIn h'->s1.heap.UpToSlots h'->Inv X pins σ1 H2 { s1 with heap:=h' }:=fun h' hB hu=>by
   obtain⟨un,ok⟩:=step h' hB hu
   exact I1.call' (s':={ s1 with heap:=h' }) (ch:=[]) hos un ok hbare fun b hb=>by cases hb
  have hfrm:X.A.frames=some (X.env::X.outer):=by rw[<- hst];exact I1.ok.frames
  refine wpAny_looks_onW hfrm hfr hfl fun h4 held4 up4=>?_
  refine wpAny_landsW held4 fun h5 fl5 up5=>?_
  have up15:=up4.trans up5
  have I5:=inv h5 fl5.1 up15
  refine ca8 (bQ2 ?_) (by intro q;cases q)
  refine af9 (I5.toHd (.ref x)) hg hm ?_ hd
  have LT:PySem.W.Looks (t9 X.prog X.w) h5 (typeOf (.ref x)) cls:=by
   obtain⟨ob,hob,hc⟩:=fl5.there
   subst hc
   exact(PySem.W.Looks.ld hob).andThen .now
  refine(PySem.W.exm_one (M:=t9 X.prog X.w) I5.kIn LT hmat).here ?_
  refine codeAny_handlers_suite ?_
  refine lands_againW fl5 fun h6 fl6 up6=>?_
  have up16:=up15.trans up6
  have I7:=inv h6 fl6.1 up16
  refine E1 (hh (.ref x) pins { s1 with heap:=h6 } σ1 H2 D (I7.toHd _) hth) (fun fl' s9 q=>?_) (fun _ _ z=>False.elim z)
  have hdX:=I.ok.hd
  cases fl' with
  | next =>
   obtain⟨σ',H',I',q⟩:=q
   exact⟨σ',H',I'.ofHd hdX,q⟩
  | brk =>
   obtain⟨σ',H',I',q⟩:=q
   exact⟨σ',H',I'.ofHd hdX,q⟩
  | cont =>
   obtain⟨σ',H',I',q⟩:=q
   exact⟨σ',H',I'.ofHd hdX,q⟩
  | ret u' =>
   obtain⟨v,σ',H',I',r,q⟩:=q
   exact⟨v,σ',H',I'.ofHd hdX,r,q⟩
theorem bn6 {elt iter:Expr} {ifs:List Expr} {ipos:Pos} {wi:TI} {g:TG} {tt:TT} {use:Option (Value->Sem Unit)} {R:Value->Shared->Prop} {Q:VK}
  (hc:X.calm=true) (hi:PI X tg iter wi) (hclos:aQ6 scope X.env=pure cl) (hkind:scope.kind=.function)
  (hnames:∀ y∈scope.names,y.2=.local->scope.names.lookup y.1=some .local) (hcl:aF6 X.env cl) (hfr:ar6 scope.names cl=true) (hlk:bA5 X N' lk scope cl)
  (hg:∀ s3 H3 fp,PG (F8 X scope cl N' s3 H3 fp fun _ _=>False) tg g) (ht:∀ s3 H3 fp,PTs (F8 X scope cl N' s3 H3 fp fun _ _=>False) ifs tt) (he:∀ s3 H3 fp,PE (F8 X scope cl N' s3 H3 fp fun _ _=>False) elt te)
  (hs:∀ x,an5 iter X.env x=pure x) (I:Inv X pins σ H s) (h:bp9 wi lk g tt te σ H Q)
  (hend : ∀ (C D : Addr) (s' : Shared) (H' : Hp), Inv X pins σ H' s' -> Q (.ref D) H' -> H' C = none -> C ≠ X.env.locals -> X.s₀.heap.objs.size <= C -> (∀ x c, X.env.cells.lookup x = some c -> c ≠ C) -> (∀ p ∈ X.pn ++ pins, p.1 ≠ C) -> (∃ m, s'.heap.Ns C m) ->
   bC4 (t9 X.prog X.w) X.A X.xe use R (.ref D) C (.ok .next) s') :
  r6 (t9 X.prog X.w) X.A (comprehension (.ListComp elt [⟨tg,iter,ifs,0⟩] scope pos) scope X.env ipos (newList []) false (eval iter X.env) use) R X.xe s:=by
 have hcellN:∀ y∈scope.names,y.2≠.cell:=fun y hy=>by
  unfold ar6 at hfr
  rw[Q9]at hfr
  have:=hfr y hy
  rw[D9]at this
  simpa using this.1
 refine bB5 (use:=use) rfl hs hclos hkind hnames (thn (hi pins s σ H _ I h) fun v s1 h1=>thn h1 fun itv s2 h2=>?_)
 obtain⟨it,fp,tn,J,H2,e,I2,T,st2,f2,q⟩:=h2
 subst e
 refine U7 ?_ (u4 _)
 have hD:H2 s2.heap.objs.size=none:=I2.hok.fresh (d5 _)
 have I3:=I2.lnew (ys:=[]) (its:=[]) (t':=s2.toks) .nil (u4 _)
 obtain⟨W,⟨m0,w0⟩,turn⟩:=q s2.heap.objs.size hD
 have fpl:∀ b∈fp,b<s2.heap.objs.size:=fun b hb=>by
  obtain⟨o,ho,_⟩:=T.obj 0 s2.heap st2 b hb
  exact c8 ho
 refine ae7 hcellN (by intro y hy;cases hy) (fun h1 hns1 hsb1=>?_) hkind
 dsimp only at hns1 hsb1 ⊢
 have e3:s2.heap.push { cls:=.type "list",dict:=none,data:=.seq ([]:List Value).toArray }=s2.heap.push { cls:=.type "list",data:=.seq ([]:List Value).toArray }:=rfl
 generalize hh3:s2.heap.push { cls:=.type "list",dict:=none,data:=.seq ([]:List Value).toArray }=h3 at *
 have I3':Inv X pins σ (upd H2 s2.heap.objs.size (.lst [])) { s2 with heap:=h3,toks:=s2.toks }:=I3
 have size3:h3.objs.size=s2.heap.objs.size+1:=by rw[<- hh3,B1]
 have f3:∀ b∈fp,Q2 X pins (upd H2 s2.heap.objs.size (.lst [])) b:=fun b hb=>by
  obtain⟨f0,fr⟩:=f2 b hb
  exact⟨by rw[r9 (k7 (fpl b hb))];exact f0,fr⟩
 have up:∀ b u,h3.get? b=some u->h1.get? b=some u:=fun b u eb=>by
  rw[hsb1.2 b (k7 (c8 eb))]
  exact c5 _ eb
 have I4:Inv (F8 X scope cl N' { s2 with heap:=h3,toks:=s2.toks } (upd H2 s2.heap.objs.size (.lst [])) fp fun _ _=>False) [] (ag3 lk σ) (upd H2 s2.heap.objs.size (.lst [])) { s2 with heap:=h1,toks:=s2.toks+([]:List (Str × Value)).length }:=
  aE2 (s3:={ s2 with heap:=h3,toks:=s2.toks }) I3' f3 hkind hcl hfr hlk hns1 up fun b hb=>by show b<h3.objs.size;rw[size3];exact A4 (fpl b hb)
 have st4:tn 0 h1:=T.keep 0 s2.heap h1 st2 fun b hb o eb=>up b o (by rw[<- hh3];exact c5 _ eb)
 have hCs:h3.objs.size=(U9 scope cl h3.objs.size X.env).locals:=rfl
 have stat:∀ {H':Hp},(∀ b∈fp,H' b=none)->∀ b∈fp,Q2 (F8 X scope cl N' { s2 with heap:=h3,toks:=s2.toks } (upd H2 s2.heap.objs.size (.lst [])) fp fun _ _=>False) [] H' b:=fun {H'} hn b hb=>by
  obtain⟨f0,f1,f2',f3',f4,f5⟩:=f3 b hb
  refine⟨hn b hb,?_,fun z=>?_,.inl hb,fun x c ex=>f4 x c (hcl.get ex),fun p hp=>nomatch hp⟩
  ·show b≠h3.objs.size
   rw[size3]
   exact k7 (A4 (fpl b hb))
  ·rcases d4.mp (I3'.stkSub b z) with q | q
   ·exact f1 q
   ·exact f2' q
 have fin:∀ (s':Shared) (σ':St) (H':Hp),Inv (F8 X scope cl N' { s2 with heap:=h3,toks:=s2.toks } (upd H2 s2.heap.objs.size (.lst [])) fp fun _ _=>False) [] σ' H' s'->Q (.ref s2.heap.objs.size) H' ->
   bC4 (t9 X.prog X.w) X.A X.xe use R (.ref s2.heap.objs.size) h3.objs.size (.ok .next) s':=fun s' σ' H' I' q'=>by
  obtain⟨m,hm,_⟩:=id I'.loc
  have I5:Inv X pins σ H' s':=I3'.call' (ch:=fp) I'.os I'.base I'.hok I'.bare fun b hb=>by
   obtain⟨f0,f1,f2',f3',f4,f5⟩:=f3 b hb
   exact⟨f3',f1,f4,f5⟩
  exact hend h3.objs.size s2.heap.objs.size s' H' I5 q' I'.free (L4 I3'.lt) I3'.sz (fun x c ex z=>by
   obtain⟨v',q2⟩:=I3'.cell x c ex
   exact absurd q2.lt (by rw[z];exact A9 _)) (fun p hp z=>absurd (c8 (I3'.pin p hp).1) (by rw[z];exact A9 _)) ⟨m,hm⟩
 have loop:∀ s5:Shared,s5={ s2 with heap:=h1,toks:=s2.toks+([]:List (Str × Value)).length } ->
   am1 (t9 X.prog X.w) X.A (.compLoop (.ListComp elt [⟨tg,iter,ifs,0⟩] scope pos) 0 (.ref it) (.ref s2.heap.objs.size) (U9 scope cl h3.objs.size X.env)) (bC4 (t9 X.prog X.w) X.A X.xe use R (.ref s2.heap.objs.size) h3.objs.size) s5:=by
  rintro s5 rfl
  refine codeAny_loop rfl (fun n s'=>∃ i xs σ' H',Inv (F8 X scope cl N' { s2 with heap:=h3,toks:=s2.toks } (upd H2 s2.heap.objs.size (.lst [])) fp fun _ _=>False) [] σ' H' s'/\tn i s'.heap/\(∀ b∈fp,H' b=none)/\W i n xs σ' H')
   (fun n s6 hI=>?_) m0 ⟨0,[],ag3 lk σ,_,I4,st4,fun b hb=>(f3 b hb).1,w0⟩
  obtain⟨i,xs,σ6,H6,I6,st6,fr6,w6⟩:=hI
  show r6 _ X.A ((compTurn (.ListComp elt [⟨tg,iter,ifs,0⟩] scope pos) 0 (.ref it) (.ref s2.heap.objs.size) (U9 scope cl h3.objs.size X.env)).onRaise (fun x=>do noteFrame x (U9 scope cl h3.objs.size X.env);theTreesLotGoes x)) _ _ s6
  refine wpAny_noted ?_
  rw[compTurn_list]
  refine b9 (ap2 (b9 ?_))
  obtain⟨hD6,hw⟩:=turn i n xs σ6 H6 w6
  rcases hw with⟨stop,qn⟩ | ⟨go,hlen,step⟩
  ·refine thn (T.done (F8 X scope cl N' { s2 with heap:=h3,toks:=s2.toks } (upd H2 s2.heap.objs.size (.lst [])) fp fun _ _=>False) rfl rfl rfl hc i [] s6 σ6 H6 _ I6 (stat fr6) st6 stop) fun r s7 ⟨hr,I7⟩=>?_
   subst hr
   exact i8 (fin s7 σ6 H6 I7 qn)
  ·refine thn (T.item (F8 X scope cl N' { s2 with heap:=h3,toks:=s2.toks } (upd H2 s2.heap.objs.size (.lst [])) fp fun _ _=>False) rfl rfl rfl hc i [] s6 σ6 H6 _ I6 (stat fr6) st6 go) fun r s7 ⟨u,hr,h7⟩=>?_
   subst hr
   refine b9 (thn h7 fun _ s8 ⟨x,H8,I8,r8,y8,st8,fr8⟩=>?_)
   have I8':=I8.pinned (stat fr8) (T.obj _ _ st8)
   refine b9 (E1 (hg _ _ _ _ s8 σ6 H8 x u _ I8' r8 (step x H8 y8)) (fun _ s9 ⟨σ9,H9,I9,q9⟩=>?_) (fun _ _ z=>False.elim z))
   refine b9 (E1 (ht _ _ _ _ s9 σ9 H9 _ I9 q9) (fun ok s10 ⟨H10,I10,q10⟩=>?_) (fun _ _ z=>False.elim z))
   have bP5:∀ {σ':St} {H':Hp} {ys:List V} {s':Shared},Inv (F8 X scope cl N' { s2 with heap:=h3,toks:=s2.toks } (upd H2 s2.heap.objs.size (.lst [])) fp fun _ _=>False) ([]++ao3 fp s8.heap) σ' H' s'->(∃ m',m'<n/\W (i+1) m' ys σ' H') ->
     ∃ m',m'<n/\∃ i xs σ' H',Inv (F8 X scope cl N' { s2 with heap:=h3,toks:=s2.toks } (upd H2 s2.heap.objs.size (.lst [])) fp fun _ _=>False) [] σ' H' s'/\tn i s'.heap/\(∀ b∈fp,H' b=none)/\W i m' xs σ' H':=fun {σ' H' ys s'} I' ⟨m',hm,w'⟩=>by
    refine⟨m',hm,i+1,ys,σ',H',I'.unpinned,T.keep _ _ _ st8 fun b hb o eb=>(I'.pin (b,o) (o5 _ (o5 _ (T4 hb eb)))).1,fun b hb=>?_,w'⟩
    obtain⟨o,eb,_⟩:=T.obj _ _ st8 b hb
    exact(I'.pin (b,o) (o5 _ (o5 _ (T4 hb eb)))).2.1
   cases ok with
   | false =>
    have q10':∃ m',m'<n/\W (i+1) m' xs σ9 H10:=by simpa using q10
    exact i8 ⟨rfl,bP5 I10 q10'⟩
   | true =>
    rw[if_pos rfl]at q10
    refine b9 (b9 (E1 (he _ _ _ _ s10 σ9 H10 _ I10 q10) (fun y s11 ⟨v11,H11,I11,r11,hD11,q11⟩=>?_) (fun _ _ z=>False.elim z)))
    refine b9 (E1 (ad9 (X:=F8 X scope cl N' { s2 with heap:=h3,toks:=s2.toks } (upd H2 s2.heap.objs.size (.lst [])) fp fun _ _=>False) _ s11 σ9 H11 (.ref s2.heap.objs.size) [v11] (.ref s2.heap.objs.size) [y] (fun _ H'=>∃ m',m'<n/\W (i+1) m' (xs++[v11]) σ9 H') I11 rfl (.cons r11 .nil) ⟨s2.heap.objs.size,xs,v11,rfl,rfl,hD11,hlen,q11⟩) (fun _ s12 ⟨_,H12,I12,_,q12⟩=>?_) (fun _ _ z=>False.elim z))
    exact i8 (i8 ⟨rfl,bP5 I12 q12⟩)
 exact bL6 (loop _ rfl) (T.self X.A 0 _ _ _ st4 (loop _ rfl))
def cb2 (i:Nat)(t:TE):TS:=fun D σ H=>t σ H fun v H1=>D.nx (σ.set i (some v)) H1
theorem ay1 {y:Str}{py:Pos}{elt iter:Expr}{ifs:List Expr}{spos:Pos}{wi:TI}{g:TG}{tt:TT}
  (hN:X.N.Nodup)(hy:X.N[i]?=some y)(hyl:X.env.scope.names.lookup y=some .local)
  (hsw:swapsWith (.ListComp elt [⟨tg,iter,ifs,0⟩] scope pos) (some (.Name y py)) spos.line X.env=pure true)
  (hc:X.calm=true)(hi:PI X tg iter wi)(hclos:aQ6 scope X.env=pure cl)(hkind:scope.kind=.function)
  (hnames:∀ y∈scope.names,y.2=.local->scope.names.lookup y.1=some .local)(hcl:aF6 X.env cl)(hfr:ar6 scope.names cl=true)(hlk:bA5 X N' lk scope cl)
  (hg:∀ s3 H3 fp,PG (F8 X scope cl N' s3 H3 fp fun _ _=>False) tg g)(ht:∀ s3 H3 fp,PTs (F8 X scope cl N' s3 H3 fp fun _ _=>False) ifs tt)(he:∀ s3 H3 fp,PE (F8 X scope cl N' s3 H3 fp fun _ _=>False) elt te)
  (hs:∀ x,an5 iter X.env x=pure x:=by intro _;rfl):PS X (.Assign [.Name y py] (.ListComp elt [⟨tg,iter,ifs,0⟩] scope pos) spos) (cb2 i (bp9 wi lk g tt te)):=by
 intro pins s σ H D I h
 rw[exec_Assign_Name_used _ _ _ _ hsw]
 refine b9 (ap2 (b9 ?_))
 show r6 _ X.A (do let _ <- comprehension (.ListComp elt [⟨tg,iter,ifs,0⟩] scope pos) scope X.env _ (newList []) false (eval iter X.env) (some (bP4 (.Name y py) X.env))) _ _ s
 refine b9 (thn (bn6 (use:=some (bP4 (.Name y py) X.env)) (R:=fun _ s'=>SP X pins D .next s') hc hi hclos hkind hnames hcl hfr hlk hg ht he hs I h
  fun C Dd s' H' I' q' hC hCL hCs hCc hCp ⟨m,hm⟩=>?_) fun _ s' hq=>i8 (i8 hq))
 show r6 _ X.A (bP4 (.Name y py) X.env (.ref Dd)) _ _ s'
 refine wpAny_assign_Name (aI0 (v:=.ref Dd) I' hN hy (.inl hyl) rfl (fun s2 I2 ⟨a,hsb,ha⟩=>?_) (.inr hyl))
 have hCa:C≠a:=by
  rcases ha with z | z
  ·rw[z];exact hCL
  ·exact(hCc y a z).symm
 refine⟨m,hm.sameBut hsb hCa,fun h' hs'=>?_⟩
 obtain⟨h0,g0,d0,t0,o0⟩:=s2
 exact⟨_,H',I2.turned (t':=t0) (it:=C) (fun b o hb eb=>(hs'.2 b hb).trans eb) hC hCL (.inr hCs) hCc hCp,q'⟩
end L2
namespace Grf
def S:Nat->(Nat->Int)->Int
 | 0,_=>0
 | n+1,f=>S n f+f n
theorem t7 {f g:Nat->Int}:∀ {n:Nat},(∀ i,i<n->f i=g i)->S n f=S n g
 | 0,_=>rfl
 | n+1,h=>by
  show S n f+f n=S n g+g n
  rw[t7 fun i hi=>h i (by omega),h n (by omega)]
theorem ae4 {f g:Nat->Int}:∀ {n:Nat},(∀ i,i<n->f i<=g i)->S n f<=S n g
 | 0,_=>F4 _
 | n+1,h=>by
  have h1:=ae4 (n:=n) fun i hi=>h i (by omega)
  have h2:=h n (by omega)
  show S n f+f n<=S n g+g n
  omega
theorem V5 (f g:Nat->Int):∀ n:Nat,S n (fun i=>f i+g i)=S n f+S n g
 | 0=>rfl
 | n+1=>by
  show S n (fun i=>f i+g i)+(f n+g n)=S n f+f n+(S n g+g n)
  rw[V5 f g n]
  omega
theorem F6 (f g:Nat->Int):∀ n:Nat,S n (fun i=>f i - g i)=S n f - S n g
 | 0=>rfl
 | n+1=>by
  show S n (fun i=>f i - g i)+(f n - g n)=S n f+f n - (S n g+g n)
  rw[F6 f g n]
  omega
theorem M4:∀ n:Nat,S n (fun _=>0)=0
 | 0=>rfl
 | n+1=>by
  show S n (fun _=>0)+0=0
  rw[M4 n];rfl
theorem Q1 (c:Int):∀ n:Nat,S n (fun _=>c)=(n:Int)*c
 | 0=>by simp[S]
 | n+1=>by
  show S n (fun _=>c)+c=((n+1:Nat):Int)*c
  rw[Q1 c n,show ((n+1:Nat):Int)=(n:Int)+1 by omega,Int.add_mul,az8]
theorem aa6 (c:Int)(f:Nat->Int):∀ n:Nat,S n (fun i=>c*f i)=c*S n f
 | 0=>by simp[S]
 | n+1=>by
  show S n (fun i=>c*f i)+c*f n=c*(S n f+f n)
  rw[aa6 c f n,aZ0]
theorem S0 {f:Nat->Int}(h:∀ i,i<n->0<=f i):0<=S n f:=by
 have:=ae4 (f:=fun _=>0) (g:=f) (n:=n) h
 rw[M4]at this
 exact this
theorem bA2 (f:Nat->Nat->Int)(m:Nat):∀ n:Nat,S n (fun i=>S m (fun j=>f i j))=S m (fun j=>S n (fun i=>f i j))
 | 0=>(M4 m).symm
 | n+1=>by
  show S n (fun i=>S m (fun j=>f i j))+S m (fun j=>f n j)=S m (fun j=>S n (fun i=>f i j)+f n j)
  rw[bA2 f m n,<- V5]
theorem ar4 (c:Int)(h:j<n):S n (fun i=>if i=j then c else 0)=c:=by
 induction n with
 | zero=>omega
 | succ n ih =>
  show S n (fun i=>if i=j then c else 0)+(if n=j then c else 0)=c
  by_cases e:n=j
  ·rw[if_pos e,t7 (g:=fun _=>0) fun i hi=>if_neg (by omega),M4];omega
  ·rw[if_neg e,ih (by omega)];omega
theorem X9 {f g:Nat->Int}(h:j<n)(hf:∀ i,i<n->i≠j->f i=g i):S n f=S n g+(f j - g j):=by
 have:S n f=S n (fun i=>g i+(if i=j then f j - g j else 0)):=t7 fun i hi=>by
  by_cases e:i=j
  ·rw[if_pos e,e];omega
  ·rw[if_neg e,hf i hi e];omega
 rw[this,V5,ar4 _ h]
theorem ax0 {f:Nat->Int}(h:j<n)(hf:∀ i,i<n->0<=f i):f j<=S n f:=by
 have h1:=X9 (f:=f) (g:=fun i=>if i=j then 0 else f i) h (fun i _ e=>by rw[if_neg e])
 have h2:0<=S n (fun i=>if i=j then 0 else f i):=S0 fun i hi=>by
  by_cases e:i=j
  ·rw[if_pos e];exact F4 _
  ·rw[if_neg e];exact hf i hi
 rw[if_pos rfl]at h1
 omega
theorem bK2 {f g:Nat->Int}(h:S n f<S n g):∃ i,i<n/\f i<g i:=by
 induction n with
 | zero=>exact absurd h (aG3 _)
 | succ n ih =>
  by_cases e:f n<g n
  ·exact⟨n,by omega,e⟩
  ·have h':S n f+f n<S n g+g n:=h
   obtain⟨i,hi,h2⟩:=ih (by omega)
   exact⟨i,by omega,h2⟩
def b2 (b:Bool):Int:=if b then 1 else 0
theorem Z2:b2 true=1:=rfl
theorem U5:b2 false=0:=rfl
theorem E9 (b:Bool):0<=b2 b:=by cases b<;>decide
theorem aK7 (b:Bool):b2 b<=1:=by cases b<;>decide
structure Gph (g:Nat->Nat->Bool):Prop where
 sym:∀ i j,g i j=g j i
 irr:∀ i,g i i=false
def deg (n:Nat)(g:Nat->Nat->Bool)(i:Nat):Int:=S n fun j=>b2 (g i j)
def W9 (g:Nat->Nat->Bool)(a b:Nat)(v:Bool):Nat->Nat->Bool:=fun i j=>if (i=a/\j=b)\/(i=b/\j=a) then v else g i j
theorem Q8 {a b:Nat}{v:Bool}(h:Gph g)(hab:a≠b):Gph (W9 g a b v) where
 sym:=fun i j=>by
  unfold W9
  by_cases e:(i=a/\j=b)\/(i=b/\j=a)
  ·rw[if_pos e,if_pos (by omega)]
  ·rw[if_neg e,if_neg (by omega)];exact h.sym i j
 irr:=fun i=>by
  unfold W9
  rw[if_neg (by omega)];exact h.irr i
theorem M9 {a b:Nat}{v:Bool}(e:¬ ((i=a/\j=b)\/(i=b/\j=a))):W9 g a b v i j=g i j:=if_neg e
theorem aM8 {a b:Nat}{v:Bool}:W9 g a b v a b=v:=if_pos (.inl ⟨rfl,rfl⟩)
theorem X6 {a b:Nat}{v:Bool}(h:Gph g)(hab:a≠b)(ha:a<n)(hb:b<n)(i:Nat):deg n (W9 g a b v) i=deg n g i+(if i=a\/i=b then b2 v - b2 (g a b) else 0):=by
 unfold deg
 by_cases e1:i=a
 ·subst e1
  rw[if_pos (.inl rfl),X9 (g:=fun j=>b2 (g i j)) hb (fun j _ hj=>by show b2 _=_;rw[M9 (by omega)])]
  show _+(b2 (W9 g i b v i b) - _)=_
  rw[aM8]
 ·by_cases e2:i=b
  ·subst e2
   rw[if_pos (.inr rfl),X9 (g:=fun j=>b2 (g i j)) ha (fun j _ hj=>by show b2 _=_;rw[M9 (by omega)])]
   show _+(b2 (W9 g a i v i a) - _)=_
   have:W9 g a i v i a=v:=if_pos (.inr ⟨rfl,rfl⟩)
   rw[this,h.sym i a]
  ·rw[if_neg (by omega),t7 (g:=fun j=>b2 (g i j)) fun j _=>by show b2 _=_;rw[M9 (by omega)]]
   omega
end Grf
namespace Thk
open Grf
section
variable {m:Nat} {M L:Int} {c x:Nat->Int}
def sz (m:Nat)(σ:Nat->Bool):Int:=S m fun j=>b2 (σ j)
def fV (m:Nat)(M:Int)(c:Nat->Int)(σ τ:Nat->Bool):Int:=S m (fun j=>(b2 (σ j) - b2 (τ j))*c j) - M*(sz m σ*((m:Int) - 1 - sz m τ))
def Apart (m:Nat)(σ τ:Nat->Bool):Prop:=∀ j,j<m->¬ (σ j=true/\τ j=true)
theorem al1 (u v w c k:Int):(u - v)*(c - k)=(u - w)*c - (v - w)*c - k*(u - v):=by
 rw[ae9,S8 k (u - v),<- Int.sub_mul]
 have:u - w - (v - w)=u - v:=by omega
 rw[this]
theorem al2 (u v w c k:Int):(u - v)*(c - k)=(w - v)*c - (w - u)*c - k*(u - v):=by
 rw[ae9,S8 k (u - v),<- Int.sub_mul]
 have:w - v - (w - u)=u - v:=by omega
 rw[this]
theorem bO4 (σ σ' τ:Nat->Bool):fV m M c σ' τ=fV m M c σ τ+S m (fun j=>(b2 (σ' j) - b2 (σ j))*(c j - M*((m:Int) - 1 - sz m τ))):=by
 unfold fV
 have e1:S m (fun j=>(b2 (σ' j) - b2 (σ j))*(c j - M*((m:Int) - 1 - sz m τ)))=S m (fun j=>(b2 (σ' j) - b2 (τ j))*c j - (b2 (σ j) - b2 (τ j))*c j - (M*((m:Int) - 1 - sz m τ))*(b2 (σ' j) - b2 (σ j))):=t7 fun j _=>al1 _ _ _ _ _
 rw[e1,F6,F6,aa6,F6]
 unfold sz
 have e2:M*((m:Int) - 1 - S m fun j=>b2 (τ j))*((S m fun j=>b2 (σ' j)) - S m fun j=>b2 (σ j))=M*((S m fun j=>b2 (σ' j))*((m:Int) - 1 - S m fun j=>b2 (τ j))) - M*((S m fun j=>b2 (σ j))*((m:Int) - 1 - S m fun j=>b2 (τ j))):=by
  rw[ae9,Q7,Q7,S8 ((m:Int) - 1 - S m fun j=>b2 (τ j)),S8 ((m:Int) - 1 - S m fun j=>b2 (τ j))]
 rw[e2]
 omega
theorem bO3 (σ τ τ':Nat->Bool):fV m M c σ τ'=fV m M c σ τ - S m (fun j=>(b2 (τ' j) - b2 (τ j))*(c j - M*sz m σ)):=by
 unfold fV
 have e1:S m (fun j=>(b2 (τ' j) - b2 (τ j))*(c j - M*sz m σ))=S m (fun j=>(b2 (σ j) - b2 (τ j))*c j - (b2 (σ j) - b2 (τ' j))*c j - (M*sz m σ)*(b2 (τ' j) - b2 (τ j))):=t7 fun j _=>al2 _ _ _ _ _
 rw[e1,F6,F6,aa6,F6]
 have e2:M*sz m σ*((S m fun j=>b2 (τ' j)) - S m fun j=>b2 (τ j))=M*(sz m σ*((m:Int) - 1 - sz m τ)) - M*(sz m σ*((m:Int) - 1 - sz m τ')):=by
  rw[<- ae9,<- ae9,Q7]
  congr 2
  unfold sz
  omega
 rw[e2]
 omega
theorem bi3 (σ τ:Nat->Bool)(hM:0<=M):fV m M c σ τ<=S m (fun j=>(c j).natAbs)+M*((m:Int)*(m:Int))+M*(m:Int):=by
 unfold fV
 have s0:0<=sz m σ/\sz m σ<=m:=⟨S0 fun j _=>E9 _,by
  have:S m (fun j=>b2 (σ j))<=S m (fun _=>1):=ae4 fun j _=>aK7 _
  rw[Q1]at this
  unfold sz
  omega⟩
 have t0:0<=sz m τ/\sz m τ<=m:=⟨S0 fun j _=>E9 _,by
  have:S m (fun j=>b2 (τ j))<=S m (fun _=>1):=ae4 fun j _=>aK7 _
  rw[Q1]at this
  unfold sz
  omega⟩
 have a:S m (fun j=>(b2 (σ j) - b2 (τ j))*c j)<=S m (fun j=>((c j).natAbs:Int)):=ae4 fun j _=>by
  cases σ j<;>cases τ j<;>simp[b2]<;>omega
 have b:-(sz m σ)<=sz m σ*((m:Int) - 1 - sz m τ):=by
  have:sz m σ*(-1)<=sz m σ*((m:Int) - 1 - sz m τ):=R0 (by omega) s0.1
  omega
 have d:M*(-(m:Int))<=M*(sz m σ*((m:Int) - 1 - sz m τ)):=R0 (by omega) hM
 have e:0<=M*((m:Int)*(m:Int)):=bj4 hM (bj4 (by omega) (by omega))
 rw[Int.mul_neg]at d
 omega
theorem cf5 (hM:0<=M){σ:Nat->Bool}(h:Apart m σ τ):∃ σ' τ',Apart m σ' τ'/\fV m M c σ τ<=fV m M c σ' τ'/\∀ σ₁ τ₁,Apart m σ₁ τ₁->fV m M c σ₁ τ₁<=fV m M c σ' τ':=by
 obtain⟨N,hN⟩:∃ N:Int,N=S m (fun j=>((c j).natAbs:Int))+M*((m:Int)*(m:Int))+M*(m:Int):=⟨_,rfl⟩
 have key:∀ (n:Nat) (σ τ:Nat->Bool),Apart m σ τ->(N - fV m M c σ τ).toNat=n->∃ σ' τ',Apart m σ' τ'/\fV m M c σ τ<=fV m M c σ' τ'/\∀ σ₁ τ₁,Apart m σ₁ τ₁->fV m M c σ₁ τ₁<=fV m M c σ' τ':=by
  intro n
  induction n using Nat.strongRecOn with
  | _ n ih =>
   intro σ τ ha hn
   by_cases hm:∀ σ₁ τ₁,Apart m σ₁ τ₁->fV m M c σ₁ τ₁<=fV m M c σ τ
   ·exact⟨σ,τ,ha,F4 _,hm⟩
   ·obtain⟨σ₁,h1⟩:=Classical.not_forall.mp hm
    obtain⟨τ₁,h2⟩:=Classical.not_forall.mp h1
    obtain⟨a1,h3⟩:=Classical.not_imp.mp h2
    have b1:=bi3 (m:=m) (c:=c) σ₁ τ₁ hM
    have b0:=bi3 (m:=m) (c:=c) σ τ hM
    rw[<- hN]at b0 b1
    obtain⟨σ',τ',q1,q2,q3⟩:=ih (N - fV m M c σ₁ τ₁).toNat (by omega) σ₁ τ₁ a1 rfl
    exact⟨σ',τ',q1,by omega,q3⟩
 exact key _ σ τ h rfl
end
section
variable {m:Nat} {M L:Int} {c x:Nat->Int}
def Mx (m:Nat)(M:Int)(c:Nat->Int)(σ τ:Nat->Bool):Prop:=Apart m σ τ/\∀ σ₁ τ₁,Apart m σ₁ τ₁->fV m M c σ₁ τ₁<=fV m M c σ τ
def pP (m:Nat)(M:Int)(σ:Nat->Bool):Int:=M*sz m σ
def qQ (m:Nat)(M:Int)(τ:Nat->Bool):Int:=M*((m:Int) - 1 - sz m τ)
def setB (σ:Nat->Bool)(i:Nat)(v:Bool):Nat->Bool:=fun j=>if j=i then v else σ j
theorem bf1 {σ:Nat->Bool}{v:Bool}:setB σ i v i=v:=if_pos rfl
theorem aM9 {σ:Nat->Bool}{v:Bool}(h:j≠i):setB σ i v j=σ j:=if_neg h
theorem bO6 (σ:Nat->Bool)(i:Nat)(v:Bool)(g:Nat->Int)(hi:i<m):S m (fun j=>(b2 (setB σ i v j) - b2 (σ j))*g j)=(b2 v - b2 (σ i))*g i:=by
 rw[X9 (g:=fun _=>0) hi (fun j _ hj=>by rw[aM9 hj];simp),M4,bf1]
 omega
theorem cd9 {σ:Nat->Bool}(h:Mx m M c σ τ)(hj:j<m)(hs:σ j=false)(ht:τ j=false):c j<=qQ m M τ:=by
 have a:=h.2 (setB σ j true) τ (fun i hi ⟨u,v⟩=>by
  by_cases e:i=j
  ·subst e;rw[ht]at v;cases v
  ·rw[aM9 e]at u;exact h.1 i hi ⟨u,v⟩)
 rw[bO4 σ (setB σ j true) τ,bO6 σ j true _ hj,hs]at a
 unfold qQ
 simp only[Z2,U5]at a
 omega
theorem ci4 {σ:Nat->Bool}(h:Mx m M c σ τ)(hj:j<m)(ht:τ j=true):c j<=pP m M σ:=by
 have a:=h.2 σ (setB τ j false) (fun i hi ⟨u,v⟩=>by
  by_cases e:i=j
  ·subst e;rw[bf1]at v;cases v
  ·rw[aM9 e]at v;exact h.1 i hi ⟨u,v⟩)
 rw[bO3 σ τ (setB τ j false),bO6 τ j false _ hj,ht]at a
 unfold pP
 simp only[Z2,U5]at a
 omega
theorem br6 {σ σ':Nat->Bool}(h:∀ j,j<m->σ' j≠σ j->c j=qQ m M τ):fV m M c σ' τ=fV m M c σ τ:=by
 rw[bO4 σ σ' τ,t7 (g:=fun _=>0) fun j hj=>?_,M4,Int.add_zero]
 by_cases e:σ' j=σ j
 ·rw[e,aP8,aa8]
 ·rw[h j hj e];unfold qQ;rw[aP8,S9]
theorem br5 {σ τ':Nat->Bool}(h:∀ j,j<m->τ' j≠τ j->c j=pP m M σ):fV m M c σ τ'=fV m M c σ τ:=by
 rw[bO3 σ τ τ',t7 (g:=fun _=>0) fun j hj=>?_,M4,as3]
 by_cases e:τ' j=τ j
 ·rw[e,aP8,aa8]
 ·rw[h j hj e];unfold pP;rw[aP8,S9]
structure Shr (m:Nat) (M L:Int) (c x:Nat->Int):Prop where
 m1:1<=M
 x0:∀ j,j<m->0<=x j
 xM:∀ j,j<m->x j<=M
 lo:∀ j,j<m->0<x j->L - 1<=c j
 hi:∀ j,j<m->x j<M->c j<=L
 A:∀ σ τ,Apart m σ τ->fV m M c σ τ<=S m fun j=>b2 (σ j)*(M - x j)+b2 (τ j)*x j
 B:∀ σ τ,Apart m σ τ->fV m M c σ τ<=S m fun j=>(1+b2 (σ j) - b2 (τ j))*(M - x j)
 C:∀ σ τ,Apart m σ τ->fV m M c σ τ<=S m fun j=>(1 - b2 (σ j)+b2 (τ j))*x j
def full (M:Int)(x:Nat->Int)(σ:Nat->Bool):Nat->Bool:=fun j=>σ j && decide (x j=M)
theorem bO7 {g:Nat->Int}(h:∀ j,j<m->g j<=0):S m g<=0:=by
 have:=ae4 (g:=fun _=>0) h
 rw[M4]at this
 exact this
end
section
variable {m:Nat} {M L:Int} {c x:Nat->Int}
end
section
variable {m:Nat} {M L a:Int} {c x:Nat->Int}
def Kk (n:Nat)(M:Int)(d:Nat->Int):Prop:=∀ σ τ,Apart n σ τ->fV n M d σ τ<=0
end
end Thk
namespace Grf
theorem az1 {x y:Nat}(h:Gph g)(hy:y<n)(hxy:x≠y):S n (fun z=>if z=x\/z=y then 0 else b2 (g x z))=deg n g x - b2 (g x y):=by
 unfold deg
 rw[X9 (f:=fun z=>if z=x\/z=y then 0 else b2 (g x z)) (g:=fun z=>b2 (g x z)) hy (fun i _ hi=>?_)]
 ·show _+((if y=x\/y=y then (0:Int) else _) - _)=_
  rw[if_pos (.inr rfl)];omega
 ·show (if i=x\/i=y then (0:Int) else _)=_
  by_cases e:i=x
  ·rw[if_pos (.inl e),e,h.irr];rfl
  ·rw[if_neg (by omega)]
theorem cf4 {x y:Nat}(h:Gph g)(hx:x<n)(hy:y<n)(hxy:x≠y)(hd:deg n g y<deg n g x):∃ z,z<n/\z≠x/\z≠y/\g x z=true/\g y z=false:=by
 have h1:=az1 h hy hxy
 have h2:=az1 h hx (Ne.symm hxy)
 have h3:S n (fun z=>if z=y\/z=x then 0 else b2 (g y z))<S n (fun z=>if z=x\/z=y then 0 else b2 (g x z)):=by
  rw[h1,h2,h.sym y x];omega
 obtain⟨z,hz,hlt⟩:=bK2 h3
 by_cases e:z=x\/z=y
 ·rw[if_pos (show z=y\/z=x by omega),if_pos e]at hlt
  exact absurd hlt (aG3 _)
 ·rw[if_neg (show ¬ (z=y\/z=x) by omega),if_neg e]at hlt
  refine⟨z,hz,by omega,by omega,?_⟩
  cases h4:g x z<;>cases h5:g y z<;>rw[h4,h5]at hlt<;>simp_all [b2]
theorem find3 {x y v:Nat}(h:Gph g)(hx:x<n)(hy:y<n)(hv:v<n)(hxy:x≠y)(hxv:x≠v)(hyv:y≠v)(hd:deg n g y<=deg n g x)(h1:g y v=true)(h2:g x v=false) :
  ∃ z,z<n/\z≠x/\z≠y/\z≠v/\g x z=true/\g y z=false:=by
 have e1:=az1 h hy hxy
 have e2:=az1 h hx (Ne.symm hxy)
 have f1:=X9 (f:=fun z=>if z=v then 0 else (if z=x\/z=y then 0 else b2 (g x z))) (g:=fun z=>if z=x\/z=y then 0 else b2 (g x z)) hv (fun i _ hi=>by show (if i=v then (0:Int) else _)=_;rw[if_neg hi])
 have f2:=X9 (f:=fun z=>if z=v then 0 else (if z=y\/z=x then 0 else b2 (g y z))) (g:=fun z=>if z=y\/z=x then 0 else b2 (g y z)) hv (fun i _ hi=>by show (if i=v then (0:Int) else _)=_;rw[if_neg hi])
 have g1:(if v=v then (0:Int) else (if v=x\/v=y then 0 else b2 (g x v))) - (if v=x\/v=y then 0 else b2 (g x v))=0:=by
  rw[if_pos rfl,if_neg (by omega),h2];rfl
 have g2:(if v=v then (0:Int) else (if v=y\/v=x then 0 else b2 (g y v))) - (if v=y\/v=x then 0 else b2 (g y v)) = -1:=by
  rw[if_pos rfl,if_neg (by omega),h1];rfl
 rw[g1,e1]at f1
 rw[g2,e2,h.sym y x]at f2
 have h3:S n (fun z=>if z=v then 0 else (if z=y\/z=x then 0 else b2 (g y z)))<S n (fun z=>if z=v then 0 else (if z=x\/z=y then 0 else b2 (g x z))):=by
  rw[f1,f2];omega
 obtain⟨z,hz,hlt⟩:=bK2 h3
 by_cases ev:z=v
 ·rw[if_pos ev,if_pos ev]at hlt
  exact absurd hlt (aG3 _)
 ·rw[if_neg ev,if_neg ev]at hlt
  by_cases e:z=x\/z=y
  ·rw[if_pos (show z=y\/z=x by omega),if_pos e]at hlt
   exact absurd hlt (aG3 _)
  ·rw[if_neg (show ¬ (z=y\/z=x) by omega),if_neg e]at hlt
   refine⟨z,hz,by omega,by omega,ev,?_⟩
   cases h4:g x z<;>cases h5:g y z<;>rw[h4,h5]at hlt<;>simp_all [b2]
def aH3 (g:Nat->Nat->Bool)(a b c d:Nat):Nat->Nat->Bool:=W9 (W9 (W9 (W9 g a b false) c d false) a d true) c b true
structure Ex (g:Nat->Nat->Bool) (a b c d:Nat):Prop where
 ab:a≠b
 ac:a≠c
 ad:a≠d
 bc:b≠c
 bd:b≠d
 cd:c≠d
 t1:g a b=true
 t2:g c d=true
 n1:g a d=false
 n2:g c b=false
theorem by0 {a b c d:Nat}(h:Gph g)(x:Ex g a b c d):Gph (aH3 g a b c d):=
 Q8 (Q8 (Q8 (Q8 h x.ab) x.cd) x.ad) (Ne.symm x.bc)
theorem by1 {a b c d:Nat}(h:Gph g)(x:Ex g a b c d)(ha:a<n)(hb:b<n)(hc:c<n)(hd:d<n)(i:Nat):deg n (aH3 g a b c d) i=deg n g i:=by
 obtain⟨ab,ac,ad,bc,bd,cd,t1,t2,n1,n2⟩:=x
 unfold aH3
 have h1:=Q8 (v:=false) h ab
 have h2:=Q8 (v:=false) h1 cd
 have h3:=Q8 (v:=true) h2 ad
 rw[X6 h3 (Ne.symm bc) hc hb,X6 h2 ad ha hd,X6 h1 cd hc hd,X6 h ab ha hb]
 have v1:W9 g a b false c d=true:=by rw[M9 (by omega)];exact t2
 have v2:W9 (W9 g a b false) c d false a d=false:=by rw[M9 (by omega),M9 (by omega)];exact n1
 have v3:W9 (W9 (W9 g a b false) c d false) a d true c b=false:=by rw[M9 (by omega),M9 (by omega),M9 (by omega)];exact n2
 rw[t1,v1,v2,v3,Z2,U5]
 by_cases ea:i=a
 ·subst ea
  rw[if_pos (.inl rfl),if_neg (by omega),if_pos (.inl rfl),if_neg (by omega)];omega
 ·by_cases eb:i=b
  ·subst eb
   rw[if_pos (.inr rfl),if_neg (by omega),if_neg (by omega),if_pos (.inr rfl)];omega
  ·by_cases ec:i=c
   ·subst ec
    rw[if_neg (by omega),if_pos (.inl rfl),if_neg (by omega),if_pos (.inl rfl)];omega
   ·by_cases ed:i=d
    ·subst ed
     rw[if_neg (by omega),if_pos (.inr rfl),if_pos (.inr rfl),if_neg (by omega)];omega
    ·rw[if_neg (by omega),if_neg (by omega),if_neg (by omega),if_neg (by omega)];omega
theorem aX4 {a b c d:Nat}(x:Ex g a b c d)(j:Nat):aH3 g a b c d a j=if j=b then false else if j=d then true else g a j:=by
 obtain⟨ab,ac,ad,bc,bd,cd,t1,t2,n1,n2⟩:=x
 unfold aH3
 rw[M9 (by omega)]
 by_cases e:j=d
 ·subst e
  rw[aM8,if_neg (by omega),if_pos rfl]
 ·rw[M9 (by omega),M9 (by omega),if_neg e]
  by_cases e2:j=b
  ·subst e2
   rw[aM8,if_pos rfl]
  ·rw[M9 (by omega),if_neg e2]
theorem ce9 {v:Nat}{N:Nat->Bool}(hv:v<n)(hNv:N v=false):∀ (m:Nat) (g:Nat->Nat->Bool),Gph g->S n (fun j=>b2 (N j))=deg n g v ->
  (∀ x y,x<n->y<n->N x=true->N y=false->y≠v->deg n g y<=deg n g x)->S n (fun j=>b2 (N j && !g v j))=(m:Int) ->
  ∃ g',Gph g'/\(∀ i,i<n->deg n g' i=deg n g i)/\∀ j,j<n->g' v j=N j:=by
 intro m
 induction m with
 | zero =>
  intro g h hs hd hm
  refine⟨g,h,fun _ _=>rfl,fun j hj=>?_⟩
  have all:∀ j,j<n->N j=true->g v j=true:=fun j hj hN=>by
   have:=ax0 (f:=fun j=>b2 (N j && !g v j)) hj (fun i _=>E9 _)
   rw[hm]at this
   cases hg:g v j with
   | true=>rfl
   | false =>
    have e:b2 (N j && !g v j)=1:=by rw[hN,hg];rfl
    have t:b2 (N j && !g v j)<=0:=this
    omega
  have dif:S n (fun j=>b2 (g v j) - b2 (N j))=0:=by rw[F6];unfold deg at hs;omega
  have pos:∀ i,i<n->0<=b2 (g v i) - b2 (N i):=fun i hi=>by
   cases hN:N i with
   | true=>rw[all i hi hN];decide
   | false=>have:=E9 (g v i);rw[U5];omega
  have:=ax0 (f:=fun j=>b2 (g v j) - b2 (N j)) hj pos
  rw[dif]at this
  have p:=pos j hj
  cases hN:N j with
  | true=>exact all j hj hN
  | false =>
   cases hg:g v j with
   | false=>rfl
   | true =>
    have t:b2 (g v j) - b2 (N j)<=0:=this
    rw[hN,hg,Z2,U5]at t
    omega
 | succ m ih =>
  intro g h hs hd hm
  obtain⟨x,hx,hlt⟩:∃ x,x<n/\(fun _=>(0:Int)) x<b2 (N x && !g v x):=bK2 (f:=fun _=>0) (g:=fun j=>b2 (N j && !g v j)) (by rw[M4,hm];omega)
  have hNx:N x=true/\g v x=false:=by
   cases h1:N x<;>cases h2:g v x<;>rw[h1,h2]at hlt<;>simp_all [b2]
  obtain⟨y,hy,hlt2⟩:∃ y,y<n/\b2 (N y)<b2 (g v y):=by
   by_cases hc:∃ y,y<n/\b2 (N y)<b2 (g v y)
   ·exact hc
   ·have pos:∀ i,i<n->0<=b2 (N i) - b2 (g v i):=fun i hi=>by
     have:¬ b2 (N i)<b2 (g v i):=fun z=>hc ⟨i,hi,z⟩
     omega
    have t:=ax0 (f:=fun j=>b2 (N j) - b2 (g v j)) hx pos
    have e:S n (fun j=>b2 (N j) - b2 (g v j))=0:=by rw[F6];unfold deg at hs;omega
    rw[e,show b2 (N x) - b2 (g v x)=1 by rw[hNx.1,hNx.2];rfl]at t
    omega
  have hNy:N y=false/\g v y=true:=by
   cases h1:N y<;>cases h2:g v y<;>rw[h1,h2]at hlt2<;>simp_all [b2]
  have xv:x≠v:=fun e=>by rw[e,hNv]at hNx;exact absurd hNx.1 (by decide)
  have yv:y≠v:=fun e=>by rw[e,h.irr]at hNy;exact absurd hNy.2 (by decide)
  have xy:x≠y:=fun e=>by rw[e,hNy.1]at hNx;exact absurd hNx.1 (by decide)
  obtain⟨z,hz,zx,zy,zv,h1,h2⟩:=find3 h hx hy hv xy xv yv (hd x y hx hy hNx.1 hNy.1 yv) (by rw[h.sym];exact hNy.2) (by rw[h.sym];exact hNx.2)
  have ex:Ex g v y z x:=⟨Ne.symm yv,Ne.symm zv,Ne.symm xv,Ne.symm zy,Ne.symm xy,zx,hNy.2,by rw[h.sym];exact h1,hNx.2,by rw[h.sym];exact h2⟩
  have dg:=by1 h ex hv hy hz hx
  obtain⟨g',k1,k2,k3⟩:=ih (aH3 g v y z x) (by0 h ex) (by rw[dg];exact hs) (fun a b ha hb n1 n2 n3=>by rw[dg,dg];exact hd a b ha hb n1 n2 n3) (by
   have:=X9 (f:=fun j=>b2 (N j && !aH3 g v y z x v j)) (g:=fun j=>b2 (N j && !g v j)) hx (fun j _ hj=>by
    show b2 (N j && !aH3 g v y z x v j)=_
    rw[aX4 ex]
    by_cases e:j=y
    ·rw[if_pos e,e,hNy.1];rfl
    ·rw[if_neg e,if_neg hj])
   rw[this,hm]
   have e1:aH3 g v y z x v x=true:=by rw[aX4 ex,if_neg xy,if_pos rfl]
   show _+(b2 (N x && !aH3 g v y z x v x) - b2 (N x && !g v x))=_
   rw[e1,hNx.1,hNx.2]
   show ((m+1:Nat):Int)+(0 - 1)=_
   omega)
  exact⟨g',k1,fun i hi=>by rw[k2 i hi,dg],k3⟩
end Grf
namespace Grf
def cnt (n:Nat)(a:Nat->Bool):Int:=S n fun i=>b2 (a i)
def sm (n:Nat)(a:Nat->Bool)(d:Nat->Int):Int:=S n fun i=>if a i=true then d i else 0
def put (a:Nat->Bool)(j:Nat)(v:Bool):Nat->Bool:=fun i=>if i=j then v else a i
theorem at7 {a:Nat->Bool}{v:Bool}:put a j v j=v:=if_pos rfl
theorem ac6 {a:Nat->Bool}{v:Bool}(h:i≠j):put a j v i=a i:=if_neg h
theorem ag2 {a:Nat->Bool}{v:Bool}(h:j<n):cnt n (put a j v)=cnt n a+(b2 v - b2 (a j)):=by
 unfold cnt
 rw[X9 (g:=fun i=>b2 (a i)) h (fun i _ hi=>by show b2 (put a j v i)=_;rw[ac6 hi])]
 show _+(b2 (put a j v j) - _)=_
 rw[at7]
theorem ao2 {a:Nat->Bool}{v:Bool}(h:j<n):sm n (put a j v) d=sm n a d+((if v=true then d j else 0) - (if a j=true then d j else 0)):=by
 unfold sm
 rw[X9 (g:=fun i=>if a i=true then d i else 0) h (fun i _ hi=>by show (if put a j v i=true then d i else 0)=_;rw[ac6 hi])]
 show _+((if put a j v j=true then d j else 0) - _)=_
 rw[at7]
theorem X1 (n:Nat)(a:Nat->Bool):0<=cnt n a:=S0 fun i _=>E9 _
theorem az2 {a b:Nat->Bool}(h:∀ i,a i=true->b i=false):cnt n a+cnt n b<=n:=by
 unfold cnt
 rw[<- V5]
 have:=ae4 (f:=fun i=>b2 (a i)+b2 (b i)) (g:=fun _=>1) (n:=n) (fun i _=>by
  show b2 (a i)+b2 (b i)<=1
  cases ha:a i with
  | true=>rw[h i ha];decide
  | false=>have:=aK7 (b i);rw[U5];omega)
 rw[Q1]at this
 omega
theorem aO9 {a b:Nat->Bool}(h:∀ i,a i=true->b i=false)(hj:j<n)(ha:a j=false)(hb:b j=false):cnt n a+cnt n b+1<=n:=by
 have:=az2 (n:=n) (a:=put a j true) (b:=b) (fun i hi=>by
  by_cases e:i=j
  ·rw[e];exact hb
  ·rw[ac6 e]at hi;exact h i hi)
 rw[ag2 hj,ha,Z2,U5]at this
 omega
theorem bz0 {a:Nat->Bool}(h:∀ i,i<n->a i=false):cnt n a=0:=by
 unfold cnt
 rw[t7 (g:=fun _=>0) fun i hi=>by rw[h i hi];rfl]
 exact M4 n
theorem ak7 {a:Nat->Bool}(h:∀ i,i<n->a i=false):sm n a d=0:=by
 unfold sm
 rw[t7 (g:=fun _=>0) fun i hi=>by rw[h i hi];rfl]
 exact M4 n
theorem br1 {a:Nat->Bool}(hd:∀ i,i<n->0<=d i)(hj:j<n)(ha:a j=true):d j<=sm n a d:=by
 have:=ax0 (f:=fun i=>if a i=true then d i else 0) hj (fun i hi=>by
  cases a i with
  | true=>exact hd i hi
  | false=>exact F4 _)
 have e:(if a j=true then d j else 0)=d j:=if_pos ha
 unfold sm
 show d j<=_
 rw[<- e]
 exact this
theorem as5 {a:Nat->Bool}(hd:∀ i,i<n->0<=d i):0<=sm n a d:=S0 fun i hi=>by
 cases a i with
 | true=>exact hd i hi
 | false=>exact F4 _
theorem bR7 {a:Nat->Bool}(hd:∀ i,i<n->0<=d i)(hi:i<n)(hj:j<n)(hij:i≠j)(h1:a i=true)(h2:a j=true):d i+d j<=sm n a d:=by
 have e:=ao2 (d:=d) (a:=a) (v:=false) hi
 rw[h1,if_pos rfl,if_neg (by decide)]at e
 have:=br1 (a:=put a i false) hd hj (by rw[ac6 (Ne.symm hij)];exact h2)
 omega
theorem cc4 {a:Nat->Bool}{m:Int}(h:∀ i,i<n->a i=true->d i<=m):sm n a d<=cnt n a*m:=by
 have e:cnt n a*m=S n (fun i=>m*b2 (a i)):=by rw[aa6,S8];rfl
 rw[e]
 refine ae4 fun i hi=>?_
 cases ha:a i with
 | true=>rw[if_pos rfl,Z2,K9];exact h i hi ha
 | false=>rw[if_neg (by decide),U5,S9];exact F4 _
theorem cc5 {a:Nat->Bool}{m:Int}(h:∀ i,i<n->a i=true->d i=m):sm n a d=cnt n a*m:=by
 have e:cnt n a*m=S n (fun i=>m*b2 (a i)):=by rw[aa6,S8];rfl
 rw[e]
 refine t7 fun i hi=>?_
 cases ha:a i with
 | true=>rw[if_pos rfl,Z2,K9];exact h i hi ha
 | false=>rw[if_neg (by decide),U5,S9]
theorem az3 {a:Nat->Bool}(h:cnt n a≠0):∃ i,i<n/\a i=true:=by
 by_cases hc:∃ i,i<n/\a i=true
 ·exact hc
 ·exact absurd (bz0 fun i hi=>by
   cases ha:a i with
   | false=>rfl
   | true=>exact absurd ⟨i,hi,ha⟩ hc) h
theorem cover {a b:Nat->Bool}(h:∀ i,a i=true->b i=false)(hc:cnt n a+cnt n b=n):sm n a d+sm n b d=S n d:=by
 unfold sm
 rw[<- V5]
 refine t7 fun i hi=>?_
 cases ha:a i with
 | true=>rw[h i ha,if_pos rfl,if_neg (by decide)];omega
 | false =>
  cases hb:b i with
  | true=>rw[if_neg (by decide),if_pos rfl];omega
  | false=>have:=aO9 h hi ha hb;omega
def aK9 (n:Nat)(d:Nat->Int):Prop:=∀ a b:Nat->Bool,(∀ i,a i=true->b i=false)->sm n a d<=cnt n a*((n:Int) - 1 - cnt n b)+sm n b d
theorem bJ7 (k:Int):∃ q,k*(k - 1)=2*q:=by
 rcases Int.emod_two_eq k with h | h
 ·exact⟨(k / 2)*(k - 1),by
   have:k=2*(k / 2):=by omega
   rw[<- Q7,<- this]⟩
 ·exact⟨k*((k - 1) / 2),by
   have:k - 1=2*((k - 1) / 2):=by omega
   rw[Int.mul_left_comm,<- this]⟩
theorem by7 {a b:Nat->Bool}(h:∀ i,a i=true->b i=false)(x y:Nat):∀ i,put a x false i=true->put b y false i=false:=fun i hi=>by
 by_cases e:i=x
 ·rw[e,at7]at hi;cases hi
 ·rw[ac6 e]at hi
  by_cases e2:i=y
  ·rw[e2,at7]
  ·rw[ac6 e2];exact h i hi
theorem bv8 {t u:Nat}(K:aK9 n d)(hd:∀ i,i<n->0<=d i)(ev:∃ q,S n d=2*q)(ht:t<n)(hu:u<n)(htu:t≠u)(hup:0<d u)(hmax:∀ i,i<n->d i<=d t)(hmin:∀ i,i<n->0<d i->d u<=d i) :
  aK9 n (fun i=>d i - (if i=t then 1 else 0) - (if i=u then 1 else 0)):=by
 intro a b hab
 have hdt:d u<=d t:=hmax u hu
 have lower:∀ c:Nat->Bool,sm n c (fun i=>d i - (if i=t then 1 else 0) - (if i=u then 1 else 0))=sm n c d - b2 (c t) - b2 (c u):=fun c=>by
  have e:sm n c (fun i=>d i - (if i=t then 1 else 0) - (if i=u then 1 else 0))=S n (fun i=>(if c i=true then d i else 0) - (if i=t then b2 (c t) else 0) - (if i=u then b2 (c u) else 0)):=t7 fun i hi=>by
   show (if c i=true then (d i - (if i=t then 1 else 0) - (if i=u then 1 else 0)) else 0)=_
   by_cases e1:i=t
   ·subst e1
    rw[if_pos rfl,if_pos rfl,if_neg htu,if_neg htu]
    cases c i with
    | true=>rfl
    | false=>rfl
   ·rw[if_neg e1,if_neg e1]
    by_cases e2:i=u
    ·subst e2
     rw[if_pos rfl,if_pos rfl]
     cases c i with
     | true=>rfl
     | false=>rfl
    ·rw[if_neg e2,if_neg e2]
     cases c i with
     | true=>rw[if_pos rfl,if_pos rfl]
     | false=>rw[if_neg (by decide),if_neg (by decide)];omega
  rw[e,F6,F6,ar4 _ ht,ar4 _ hu]
  rfl
 rw[lower a,lower b]
 have K0:=K a b hab
 have ka:=X1 n a
 have kb:=X1 n b
 have kr:=az2 (n:=n) hab
 have sb:=as5 (a:=b) hd
 have ba:=fun x=>E9 (a x)
 have ab:=fun x=>aK7 (a x)
 generalize hk:cnt n a=k at *
 generalize hl:cnt n b=l at *
 have pq:k*((n:Int) - 1 - l)=k*(n:Int) - k - k*l:=by rw[ae9,ae9,K9]
 have rem:∀ s,s<n->a s=true->b t=true->sm n a d+((n:Int) - k - l)+d t - d s<=k*((n:Int) - 1 - l)+sm n b d:=fun s hs has hbt=>by
  have:=K (put a s false) (put b t false) (by7 hab s t)
  rw[ao2 hs,ao2 ht,ag2 hs,ag2 ht,has,hbt,hk,hl]at this
  simp only[if_true,Z2,U5,m8,if_false]at this
  have e:(k+(0 - 1))*((n:Int) - 1 - (l+(0 - 1)))=k*((n:Int) - 1 - l)+k - (n:Int)+l:=by grind
  rw[e]at this
  omega
 have mov:b t=true->a t=false->sm n a d+d t<=(k+1)*((n:Int) - l)+sm n b d - d t:=fun hbt hat=>by
  have dj:∀ i,put a t true i=true->put b t false i=false:=fun i hi=>by
   by_cases e:i=t
   ·rw[e,at7]
   ·rw[ac6 e]at hi;rw[ac6 e];exact hab i hi
  have:=K (put a t true) (put b t false) dj
  rw[ao2 ht,ao2 ht,ag2 ht,ag2 ht,hat,hbt,hk,hl]at this
  simp only[if_true,Z2,U5,m8,if_false]at this
  have e:(k+(1 - 0))*((n:Int) - 1 - (l+(0 - 1)))=(k+1)*((n:Int) - l):=by grind
  rw[e]at this
  omega
 have nota:∀ i,b i=true->a i=false:=fun i hi=>by
  cases h:a i with
  | false=>rfl
  | true=>rw[hab i h]at hi;cases hi
 have empty:k=0->sm n a d=0:=fun hk0=>ak7 fun i hi=>by
  cases h:a i with
  | false=>rfl
  | true =>
   have:=ax0 (f:=fun i=>b2 (a i)) hi (fun i _=>E9 _)
   have e:b2 (a i)=1:=by rw[h];rfl
   unfold cnt at hk
   have t:b2 (a i)<=S n (fun i=>b2 (a i)):=this
   omega
 cases hbt:b t with
 | false =>
  cases hbu:b u with
  | false=>have h1:=ba t;have h2:=ba u;rw[U5];omega
  | true =>
   rw[Z2,U5]
   cases hat:a t with
   | true=>have h2:=ba u;rw[Z2];omega
   | false =>
    rw[nota u hbu,U5]
    have dub:=br1 hd hu hbu
    have out:=aO9 hab ht hat hbt
    rw[hk,hl]at out
    by_cases c1:k+1<=d u
    ·have:=K a (put b u false) (fun i hi=>by
      by_cases e:i=u
      ·rw[e,at7]
      ·rw[ac6 e];exact hab i hi)
     rw[ao2 hu,ag2 hu,hbu,hk,hl]at this
     simp only[if_true,Z2,U5,m8,if_false]at this
     have e:k*((n:Int) - 1 - (l+(0 - 1)))=k*((n:Int) - 1 - l)+k:=by grind
     rw[e]at this
     omega
    ·by_cases c2:(n:Int) - l<=d t
     ·have:=K (put a t true) b (fun i hi=>by
       by_cases e:i=t
       ·rw[e];exact hbt
       ·rw[ac6 e]at hi;exact hab i hi)
      rw[ao2 ht,ag2 ht,hat,hk,hl]at this
      simp only[if_true,Z2,U5,m8,if_false]at this
      have e:(k+(1 - 0))*((n:Int) - 1 - l)=k*((n:Int) - 1 - l)+((n:Int) - 1 - l):=by grind
      rw[e]at this
      omega
     ·have h1:=cc4 (a:=a) (d:=d) (m:=(n:Int) - 1 - l) (n:=n) (fun i hi _=>by have:=hmax i hi;omega)
      rw[hk]at h1
      omega
 | true =>
  have hat:=nota t hbt
  rw[hat,Z2,U5]
  cases hbu:b u with
  | false =>
   rw[U5]
   cases hau:a u with
   | true=>rw[Z2];omega
   | false =>
    rw[U5]
    have out:=aO9 hab hu hau hbu
    rw[hk,hl]at out
    by_cases k0:k=0
    ·have h1:=empty k0
     have h2:=br1 hd ht hbt
     rw[h1,k0,aa8]
     omega
    ·obtain⟨s,hs,has⟩:=az3 (n:=n) (a:=a) (by rw[hk];exact k0)
     have h1:=rem s hs has hbt
     have h2:=hmax s hs
     omega
  | true =>
   rw[nota u hbu,Z2,U5]
   have two:=bR7 hd ht hu htu hbt hbu
   by_cases k0:k=0
   ·have h1:=empty k0
    rw[h1,k0,aa8]
    omega
   ·-- slack even where there is no place besides
    have par:(n:Int) - k - l=0->sm n a d<k*((n:Int) - 1 - l)+sm n b d->sm n a d+2<=k*((n:Int) - 1 - l)+sm n b d:=fun r0 hlt=>by
     obtain⟨q,hq⟩:=ev
     have cv:=cover (d:=d) hab (by rw[hk,hl];omega)
     obtain⟨q2,hq2⟩:=bJ7 k
     have e:k*((n:Int) - 1 - l)=k*(k - 1):=by rw[show (n:Int) - 1 - l=k - 1 by omega]
     rw[e]at hlt ⊢
     omega
    by_cases hex:∃ s,s<n/\a s=true/\d s<d t
    ·obtain⟨s,hs,has,hlt⟩:=hex
     have h1:=rem s hs has hbt
     by_cases r0:(n:Int) - k - l=0
     ·have:=par r0 (by omega);omega
     ·omega
    ·have all:∀ i,i<n->a i=true->d i=d t:=fun i hi hai=>by
      have h1:=hmax i hi
      have h2:¬ d i<d t:=fun z=>hex ⟨i,hi,hai,z⟩
      omega
     obtain⟨s,hs,has⟩:=az3 (n:=n) (a:=a) (by rw[hk];exact k0)
     have h1:=rem s hs has hbt
     have h2:=all s hs has
     have mv:=mov hbt hat
     have sa:=cc5 (a:=a) (d:=d) (n:=n) all
     rw[hk]at sa
     generalize d t=m at *
     by_cases r2:2<=(n:Int) - k - l
     ·omega
     ·by_cases r1:(n:Int) - k - l=1
      ·have e1:(n:Int) - 1 - l=k:=by omega
       have e2:(n:Int) - l=k+1:=by omega
       rw[e1]
       rw[e2,sa]at mv
       rw[sa]
       have x1:(k+1)*(k+1)=k*k+2*k+1:=by grind
       rw[x1]at mv
       by_cases c1:m<=k
       ·have:=R0 c1 ka
        omega
       ·by_cases c2:m=k+1
        ·rw[c2,aZ0,K9];omega
        ·omega
      ·have r0:(n:Int) - k - l=0:=by omega
       have e1:(n:Int) - 1 - l=k - 1:=by omega
       have e2:(n:Int) - l=k:=by omega
       have pr:=par r0
       rw[e1]at pr ⊢
       rw[e2,sa]at mv
       rw[sa]at pr ⊢
       have x1:(k+1)*k=k*k+k:=by grind
       have x2:k*(k - 1)=k*k - k:=by grind
       rw[x1]at mv
       rw[x2]at pr ⊢
       by_cases c1:m<=k - 1
       ·have:=R0 c1 ka
        rw[x2]at this
        omega
       ·by_cases c2:m=k
        ·subst c2
         have:=pr (by omega)
         omega
        ·omega
end Grf
namespace Grf
theorem bd1 {p:Nat->Prop}{f:Nat->Int}:∀ {n:Nat},(∃ i,i<n/\p i)->∃ u,u<n/\p u/\∀ i,i<n->p i->f u<=f i:=by
 intro n
 induction n with
 | zero=>rintro⟨i,h,_⟩;omega
 | succ n ih =>
  rintro⟨i,hi,pi⟩
  by_cases h:∃ i,i<n/\p i
  ·obtain⟨u,hu,pu,hm⟩:=ih h
   by_cases c:p n/\f n<f u
   ·refine⟨n,by omega,c.1,fun j hj pj=>?_⟩
    by_cases e:j=n
    ·rw[e];exact F4 _
    ·have:=hm j (by omega) pj;have:=c.2;omega
   ·refine⟨u,by omega,pu,fun j hj pj=>?_⟩
    by_cases e:j=n
    ·subst e
     have:¬ f j<f u:=fun z=>c ⟨pj,z⟩
     omega
    ·exact hm j (by omega) pj
  ·have e:i=n:=by
    by_cases e:i=n
    ·exact e
    ·exact absurd ⟨i,by omega,pi⟩ h
   subst e
   refine⟨i,by omega,pi,fun j hj pj=>?_⟩
   by_cases e:j=i
   ·rw[e];exact F4 _
   ·exact absurd ⟨j,by omega,pj⟩ h
theorem bY2 {p:Nat->Prop}{f:Nat->Int}(h:∃ i,i<n/\p i):∃ u,u<n/\p u/\∀ i,i<n->p i->f i<=f u:=by
 obtain⟨u,h1,h2,h3⟩:=bd1 (f:=fun i=>-f i) h
 exact⟨u,h1,h2,fun i hi pi=>by have:=h3 i hi pi;omega⟩
theorem bx2:∀ (m n:Nat) (d:Nat->Int),(∀ i,i<n->0<=d i)->aK9 n d->S n d=2*(m:Int)->∃ g,Gph g/\∀ i,i<n->deg n g i=d i:=by
 intro m
 induction m with
 | zero =>
  intro n d hd K hs
  refine⟨fun _ _=>false,⟨fun _ _=>rfl,fun _=>rfl⟩,fun i hi=>?_⟩
  have h1:=ax0 hi hd
  have h2:=hd i hi
  have h3:deg n (fun _ _=>false) i=0:=M4 n
  rw[h3]
  have:S n d=0:=by rw[hs];rfl
  omega
 | succ m ih =>
  intro n d hd K hs
  have hpos:∃ i,i<n/\0<d i:=by
   have:=bK2 (f:=fun _=>0) (g:=d) (n:=n) (by rw[M4,hs];omega)
   exact this
  obtain⟨t,ht,htp,hmax0⟩:=bY2 (p:=fun i=>0<d i) (f:=d) hpos
  have hmax:∀ i,i<n->d i<=d t:=fun i hi=>by
   by_cases c:0<d i
   ·exact hmax0 i hi c
   ·omega
  have cb:cnt n (fun i=>decide (i≠t/\d i<=0))+cnt n (fun i=>decide (i≠t/\0<d i))+1=n:=by
   unfold cnt
   have e:=ar4 (n:=n) (j:=t) 1 ht
   rw[<- V5]
   have:S n (fun i=>(b2 (decide (i≠t/\d i<=0))+b2 (decide (i≠t/\0<d i)))+(if i=t then 1 else 0))=(n:Int)*1:=by
    rw[<- Q1]
    refine t7 fun i hi=>?_
    by_cases e1:i=t
    ·subst e1;simp[b2]
    ·by_cases c:0<d i
     ·have c':¬ d i<=0:=by omega
      simp[b2,e1,c,c']
     ·have c':d i<=0:=by omega
      simp[b2,e1,c,c']
   rw[V5,e]at this
   show S n (fun i=>b2 (decide (i≠t/\d i<=0))+b2 (decide (i≠t/\0<d i)))+1=_
   omega
  have ca:cnt n (fun i=>decide (i=t))=1:=by
   unfold cnt
   rw[t7 (g:=fun i=>if i=t then 1 else 0) fun i _=>by by_cases e:i=t<;>simp[b2,e]]
   exact ar4 1 ht
  have sa:sm n (fun i=>decide (i=t)) d=d t:=by
   unfold sm
   rw[t7 (g:=fun i=>if i=t then d t else 0) fun i _=>by by_cases e:i=t<;>simp[e]]
   exact ar4 _ ht
  have sb:sm n (fun i=>decide (i≠t/\d i<=0)) d=0:=by
   unfold sm
   rw[t7 (g:=fun _=>0) fun i hi=>by
    by_cases e:i≠t/\d i<=0
    ·have:=hd i hi
     rw[if_pos (decide_eq_true e)]
     have:=e.2
     omega
    ·rw[if_neg (show ¬ decide (i≠t/\d i<=0)=true by rw[decide_eq_false e];decide)]]
   exact M4 n
  have kt:=K (fun i=>decide (i=t)) (fun i=>decide (i≠t/\d i<=0)) (fun i hi=>by
   have:i=t:=of_decide_eq_true hi
   exact decide_eq_false fun z=>z.1 this)
  rw[ca,sa,sb,az8]at kt
  have hoth:∃ i,i<n/\(i≠t/\0<d i):=by
   obtain⟨i,hi,h⟩:=az3 (n:=n) (a:=fun i=>decide (i≠t/\0<d i)) (by omega)
   exact⟨i,hi,of_decide_eq_true h⟩
  obtain⟨u,hu,⟨hut,hup⟩,hmin0⟩:=bd1 (p:=fun i=>i≠t/\0<d i) (f:=d) hoth
  have hmin:∀ i,i<n->0<d i->d u<=d i:=fun i hi hp=>by
   by_cases e:i=t
   ·rw[e];exact hmax u hu
   ·exact hmin0 i hi ⟨e,hp⟩
  have htu:t≠u:=Ne.symm hut
  have K':=bv8 K hd ⟨_,hs⟩ ht hu htu hup hmax hmin
  obtain⟨g,hg,dg⟩:=ih n _ (fun i hi=>by
   show 0<=d i - (if i=t then 1 else 0) - (if i=u then 1 else 0)
   by_cases e1:i=t
   ·subst e1;rw[if_pos rfl,if_neg htu];omega
   ·by_cases e2:i=u
    ·subst e2;rw[if_neg e1,if_pos rfl];omega
    ·rw[if_neg e1,if_neg e2];have:=hd i hi;omega) K' (by
   rw[F6,F6,ar4 _ ht,ar4 _ hu,hs];omega)
  cases hgu:g t u with
  | false =>
   refine⟨W9 g t u true,Q8 hg htu,fun i hi=>?_⟩
   rw[X6 hg htu ht hu,dg i hi,hgu,Z2,U5]
   show d i - (if i=t then 1 else 0) - (if i=u then 1 else 0)+_=_
   by_cases e1:i=t
   ·subst e1;rw[if_pos rfl,if_neg htu,if_pos (.inl rfl)];omega
   ·by_cases e2:i=u
    ·subst e2;rw[if_neg e1,if_pos rfl,if_pos (.inr rfl)];omega
    ·rw[if_neg e1,if_neg e2,if_neg (by omega)];omega
  | true =>
   obtain⟨s,hs1,hst,hsp,hgs⟩:∃ s,s<n/\s≠t/\0<d s/\g t s=false:=by
    by_cases hc:∃ s,s<n/\s≠t/\0<d s/\g t s=false
    ·exact hc
    ·have le:cnt n (fun i=>decide (i≠t/\0<d i))<=deg n g t:=ae4 fun i hi=>by
      show b2 (decide (i≠t/\0<d i))<=b2 (g t i)
      by_cases e:i≠t/\0<d i
      ·have:g t i=true:=by
        cases h:g t i with
        | true=>rfl
        | false=>exact absurd ⟨i,hi,e.1,e.2,h⟩ hc
       rw[this,decide_eq_true e];exact F4 _
      ·rw[decide_eq_false e];exact E9 _
     have dt:=dg t ht
     have dt':deg n g t=d t - 1 - 0:=by
      rw[dt]
      show d t - (if t=t then 1 else 0) - (if t=u then 1 else 0)=_
      rw[if_pos rfl,if_neg htu]
     omega
   have su:s≠u:=fun e=>by rw[e,hgu]at hgs;cases hgs
   have ds:deg n g s=d s:=by
    rw[dg s hs1]
    show d s - (if s=t then 1 else 0) - (if s=u then 1 else 0)=_
    rw[if_neg hst,if_neg su];omega
   have du:deg n g u=d u - 1:=by
    rw[dg u hu]
    show d u - (if u=t then 1 else 0) - (if u=u then 1 else 0)=_
    rw[if_neg hut,if_pos rfl];omega
   obtain⟨z,hz,zs,zu,h1,h2⟩:=cf4 hg hs1 hu su (by have:=hmin s hs1 hsp;omega)
   have zt:z≠t:=fun e=>by rw[e,hg.sym,hgs]at h1;cases h1
   have g1:=Q8 (v:=false) hg (Ne.symm zs)
   have g2:=Q8 (v:=true) g1 (Ne.symm hst)
   refine⟨W9 (W9 (W9 g s z false) t s true) u z true,Q8 g2 (Ne.symm zu),fun i hi=>?_⟩
   rw[X6 g2 (Ne.symm zu) hu hz,X6 g1 (Ne.symm hst) ht hs1,X6 hg (Ne.symm zs) hs1 hz,dg i hi]
   have v1:W9 g s z false t s=false:=by rw[M9 (by omega)];exact hgs
   have v2:W9 (W9 g s z false) t s true u z=false:=by rw[M9 (by omega),M9 (by omega)];exact h2
   rw[h1,v1,v2,Z2,U5]
   show d i - (if i=t then 1 else 0) - (if i=u then 1 else 0)+_+_+_=_
   by_cases e1:i=t
   ·subst e1;rw[if_pos rfl,if_neg htu,if_neg (by omega),if_pos (.inl rfl),if_neg (by omega)];omega
   ·by_cases e2:i=u
    ·subst e2;rw[if_neg e1,if_pos rfl,if_neg (by omega),if_neg (by omega),if_pos (.inl rfl)];omega
    ·rw[if_neg e1,if_neg e2]
     by_cases e3:i=s
     ·subst e3;rw[if_pos (.inl rfl),if_pos (.inr rfl),if_neg (by omega)];omega
     ·by_cases e4:i=z
      ·subst e4;rw[if_pos (.inr rfl),if_neg (by omega),if_pos (.inr rfl)];omega
      ·rw[if_neg (by omega),if_neg (by omega),if_neg (by omega)];omega
theorem bv7 (hg:Gph g)(dg:∀ i,i<n->deg n g i=d i):aK9 n d:=by
 intro a b hab
 have e1:sm n a d=S n (fun i=>S n (fun j=>if a i=true then (if b j=true then b2 (g i j) else 0) else 0))+S n (fun i=>S n (fun j=>if a i=true then (if b j=true then 0 else b2 (g i j)) else 0)):=by
  rw[<- V5]
  refine t7 fun i hi=>?_
  rw[<- V5]
  cases a i with
  | true =>
   rw[if_pos rfl,<- dg i hi]
   refine t7 fun j _=>?_
   cases b j with
   | true=>simp
   | false=>simp
  | false =>
   rw[if_neg (by decide),t7 (g:=fun _=>0) fun j _=>by simp,M4]
 have e2:S n (fun i=>S n (fun j=>if a i=true then (if b j=true then b2 (g i j) else 0) else 0))<=sm n b d:=by
  rw[bA2]
  refine ae4 fun j hj=>?_
  cases hb:b j with
  | true =>
   rw[if_pos rfl,<- dg j hj]
   refine ae4 fun i _=>?_
   show (if a i=true then (if true=true then b2 (g i j) else 0) else 0)<=b2 (g j i)
   rw[if_pos rfl,hg.sym j i]
   cases a i with
   | true=>rw[if_pos rfl];exact F4 _
   | false=>rw[if_neg (by decide)];exact E9 _
  | false =>
   rw[if_neg (by decide)]
   have:S n (fun i=>if a i=true then (if false=true then b2 (g i j) else 0) else 0)=0:=by
    rw[t7 (g:=fun _=>0) fun i _=>by simp]
    exact M4 n
   rw[this]
   exact F4 _
 have e3:S n (fun i=>S n (fun j=>if a i=true then (if b j=true then 0 else b2 (g i j)) else 0))<=cnt n a*((n:Int) - 1 - cnt n b):=by
  have:cnt n a*((n:Int) - 1 - cnt n b)=S n (fun i=>((n:Int) - 1 - cnt n b)*b2 (a i)):=by rw[aa6,S8];rfl
  rw[this]
  refine ae4 fun i hi=>?_
  cases ha:a i with
  | true =>
   rw[Z2,K9]
   have hbi:=hab i ha
   have t:S n (fun j=>if true=true then (if b j=true then 0 else b2 (g i j)) else 0)<=S n (fun j=>(1 - b2 (b j)) - (if j=i then 1 else 0)):=ae4 fun j hj=>by
    show (if true=true then (if b j=true then 0 else b2 (g i j)) else 0)<=_
    rw[if_pos rfl]
    by_cases e:j=i
    ·subst e
     rw[hbi,if_neg (by decide),hg.irr,if_pos rfl];decide
    ·rw[if_neg e]
     cases b j with
     | true=>rw[if_pos rfl];decide
     | false=>rw[if_neg (by decide)];have:=aK7 (g i j);rw[U5];omega
   rw[F6,F6,ar4 _ hi,Q1,K9]at t
   unfold cnt
   omega
  | false =>
   rw[U5,S9,t7 (g:=fun _=>0) fun j _=>by simp,M4]
   exact F4 _
 omega
end Grf
namespace Grf
def mnf (r x:Int):Int:=if r<x then r else x
theorem bh2 (r x:Int):mnf r x<=x:=by unfold mnf;split<;>omega
theorem aN9 (r x:Int):mnf r x<=r:=by unfold mnf;split<;>omega
theorem aV1 {r x y:Int}(h:x<=y):mnf r x<=mnf r y:=by unfold mnf;split<;>split<;>omega
def roomF (n:Nat)(d:Nat->Int)(A:Nat->Bool):Int:=cnt n A*(cnt n A - 1)+S n (fun i=>if A i=true then 0 else mnf (cnt n A) (d i)) - sm n A d
def Top (n:Nat)(d:Nat->Int)(A:Nat->Bool):Prop:=∀ i j,i<n->j<n->A i=true->A j=false->d j<=d i
theorem aR4 {A a:Nat->Bool}{φ:Int->Int}(hφ:∀ x y,x<=y->φ x<=φ y)(ht:Top n d A)(hc:cnt n a=cnt n A):sm n a (fun i=>φ (d i))<=sm n A (fun i=>φ (d i)):=by
 by_cases h0:cnt n A=0
 ·have za:∀ i,i<n->a i=false:=fun i hi=>by
   cases h:a i with
   | false=>rfl
   | true =>
    have:=ax0 (f:=fun i=>b2 (a i)) hi (fun i _=>E9 _)
    have e:b2 (a i)=1:=by rw[h];rfl
    have t:b2 (a i)<=cnt n a:=this
    omega
  have zA:∀ i,i<n->A i=false:=fun i hi=>by
   cases h:A i with
   | false=>rfl
   | true =>
    have:=ax0 (f:=fun i=>b2 (A i)) hi (fun i _=>E9 _)
    have e:b2 (A i)=1:=by rw[h];rfl
    have t:b2 (A i)<=cnt n A:=this
    omega
  rw[ak7 za,ak7 zA]
  exact F4 _
 ·obtain⟨m,hm,hAm,hmin⟩:=bd1 (p:=fun i=>A i=true) (f:=d) (az3 h0)
  have key:S n (fun i=>(if a i=true then φ (d i) else 0) - (if A i=true then φ (d i) else 0))<=S n (fun i=>φ (d m)*b2 (a i) - φ (d m)*b2 (A i)):=ae4 fun i hi=>by
   cases ha:a i with
   | true =>
    cases hA:A i with
    | true=>rw[if_pos rfl];omega
    | false =>
     rw[if_pos rfl,if_neg (by decide),Z2,U5,K9,S9]
     have:=hφ _ _ (ht m i hm hi hAm hA)
     omega
   | false =>
    cases hA:A i with
    | true =>
     rw[if_pos rfl,if_neg (by decide),Z2,U5,K9,S9]
     have:=hφ _ _ (hmin i hi hA)
     omega
    | false=>rw[if_neg (by decide)];omega
  rw[F6,F6,aa6,aa6]at key
  have e:φ (d m)*S n (fun i=>b2 (a i))=φ (d m)*S n (fun i=>b2 (A i)):=by
   show φ (d m)*cnt n a=φ (d m)*cnt n A
   rw[hc]
  show S n (fun i=>if a i=true then φ (d i) else 0)<=S n (fun i=>if A i=true then φ (d i) else 0)
  omega
theorem bc2 (hd:∀ i,i<n->0<=d i)(h:∀ r:Nat,1<=r->r<=n->∃ A,cnt n A=r/\Top n d A/\0<=roomF n d A):aK9 n d:=by
 intro a b hab
 have k0:=X1 n a
 have kr:=az2 (n:=n) hab
 have kb:=X1 n b
 by_cases hz:cnt n a=0
 ·have za:∀ i,i<n->a i=false:=fun i hi=>by
   cases h:a i with
   | false=>rfl
   | true =>
    have:=ax0 (f:=fun i=>b2 (a i)) hi (fun i _=>E9 _)
    have e:b2 (a i)=1:=by rw[h];rfl
    have t:b2 (a i)<=cnt n a:=this
    omega
  have:=as5 (a:=b) hd
  rw[ak7 za,hz,aa8]
  omega
 ·obtain⟨A,hc,ht,r1⟩:=h (cnt n a).toNat (by omega) (by omega)
  have hcA:cnt n A=cnt n a:=by omega
  have r2:=aR4 (φ:=fun x=>x+mnf (cnt n a) x) (fun x y hxy=>by have:=aV1 (r:=cnt n a) hxy;omega) ht hcA.symm
  have sp:∀ c:Nat->Bool,sm n c (fun i=>d i+mnf (cnt n a) (d i))=sm n c d+S n (fun i=>mnf (cnt n a) (d i)) - S n (fun i=>if c i=true then 0 else mnf (cnt n a) (d i)):=fun c=>by
   unfold sm
   rw[<- V5,<- F6]
   refine t7 fun i _=>?_
   show (if c i=true then d i+mnf (cnt n a) (d i) else 0)=(if c i=true then d i else 0)+mnf (cnt n a) (d i) - (if c i=true then 0 else mnf (cnt n a) (d i))
   cases c i with
   | true=>rw[if_pos rfl,if_pos rfl,if_pos rfl];omega
   | false=>rw[if_neg (by decide),if_neg (by decide),if_neg (by decide)];omega
  rw[sp a,sp A]at r2
  unfold roomF at r1
  rw[hcA]at r1
  have low:S n (fun i=>if a i=true then 0 else mnf (cnt n a) (d i))<=sm n b d+cnt n a*((n:Int) - cnt n a - cnt n b):=by
   have e:cnt n a*((n:Int) - cnt n a - cnt n b)=S n (fun i=>cnt n a*(1 - b2 (a i) - b2 (b i))):=by
    rw[aa6,F6,F6,Q1,K9];rfl
   rw[e]
   unfold sm
   rw[<- V5]
   refine ae4 fun i hi=>?_
   cases ha:a i with
   | true =>
    have hb:=hab i ha
    rw[if_pos rfl,hb,if_neg (by decide),Z2,U5]
    simp
   | false =>
    rw[if_neg (by decide),U5]
    cases b i with
    | true =>
     rw[if_pos rfl,Z2]
     have:=bh2 (cnt n a) (d i)
     simp
     exact this
    | false =>
     rw[if_neg (by decide),U5]
     have:=aN9 (cnt n a) (d i)
     simp
     exact this
  have x:cnt n a*((n:Int) - 1 - cnt n b)=cnt n a*(cnt n a - 1)+cnt n a*((n:Int) - cnt n a - cnt n b):=by grind
  rw[x]
  omega
theorem ba9 (K:aK9 n d)(A:Nat->Bool):0<=roomF n d A:=by
 have k:=K A (fun i=>!A i && decide (d i<cnt n A)) (fun i hi=>by simp[hi])
 have e:S n (fun i=>if A i=true then 0 else mnf (cnt n A) (d i))=sm n (fun i=>!A i && decide (d i<cnt n A)) d+cnt n A*((n:Int) - cnt n A - cnt n (fun i=>!A i && decide (d i<cnt n A))):=by
  have e1:cnt n A*((n:Int) - cnt n A - cnt n (fun i=>!A i && decide (d i<cnt n A)))=S n (fun i=>cnt n A*(1 - b2 (A i) - b2 (!A i && decide (d i<cnt n A)))):=by
   rw[aa6,F6,F6,Q1,K9];rfl
  rw[e1]
  unfold sm
  rw[<- V5]
  refine t7 fun i hi=>?_
  show (if A i=true then 0 else mnf (cnt n A) (d i))=(if (!A i && decide (d i<cnt n A))=true then d i else 0)+cnt n A*(1 - b2 (A i) - b2 (!A i && decide (d i<cnt n A)))
  cases hA:A i with
  | true=>simp[b2]
  | false =>
   generalize cnt n A=r
   by_cases c:d i<r
   ·rw[decide_eq_true c]
    simp[b2,mnf]
    omega
   ·rw[decide_eq_false c]
    simp[b2,mnf]
    omega
 unfold roomF
 rw[e]
 have x:cnt n A*((n:Int) - 1 - cnt n (fun i=>!A i && decide (d i<cnt n A)))=cnt n A*(cnt n A - 1)+cnt n A*((n:Int) - cnt n A - cnt n (fun i=>!A i && decide (d i<cnt n A))):=by grind
 rw[x]at k
 omega
theorem by8 (hg:Gph g):∀ n:Nat,∃ q,S n (deg n g)=2*q:=by
 intro n
 induction n with
 | zero=>exact⟨0,rfl⟩
 | succ n ih =>
  obtain⟨q,hq⟩:=ih
  refine⟨q+S n (fun i=>b2 (g i n)),?_⟩
  show S n (deg (n+1) g)+deg (n+1) g n=_
  have e1:S n (deg (n+1) g)=S n (deg n g)+S n (fun i=>b2 (g i n)):=by rw[<- V5];rfl
  have e2:deg (n+1) g n=S n (fun i=>b2 (g i n)):=by
   show S n (fun j=>b2 (g n j))+b2 (g n n)=_
   rw[hg.irr,U5,t7 (g:=fun i=>b2 (g i n)) fun i _=>by rw[hg.sym]]
   omega
  rw[e1,e2,hq]
  omega
end Grf
namespace Thk
open Grf
section
variable {M:Int}
def aa0 (n:Nat)(M:Int)(d:Nat->Int)(A:Nat->Bool):Int:=M*(cnt n A*(cnt n A - 1))+S n (fun i=>if A i=true then 0 else mnf (M*cnt n A) (d i)) - sm n A d
theorem bx9 (σ τ:Nat->Bool):fV n M d σ τ=sm n σ d - sm n τ d - M*(cnt n σ*((n:Int) - 1 - cnt n τ)):=by
 unfold fV sm
 rw[<- F6]
 congr 1
 refine t7 fun j _=>?_
 cases σ j<;>cases τ j<;>simp[b2]
theorem bs8 (s t:Int):M*(s*((n:Int) - 1 - t))=M*(s*(s - 1))+(M*s)*((n:Int) - s - t):=by
 rw[Q7,<- aZ0,<- aZ0]
 congr 2
 omega
theorem bE4 (K:Kk n M d)(A:Nat->Bool):0<=aa0 n M d A:=by
 have k:=K A (fun i=>!A i && decide (d i<M*cnt n A)) (fun i _ ⟨u,v⟩=>by simp[u]at v)
 rw[bx9,bs8]at k
 have e:S n (fun i=>if A i=true then 0 else mnf (M*cnt n A) (d i))=sm n (fun i=>!A i && decide (d i<M*cnt n A)) d+(M*cnt n A)*((n:Int) - cnt n A - cnt n (fun i=>!A i && decide (d i<M*cnt n A))):=by
  have e1:(M*cnt n A)*((n:Int) - cnt n A - cnt n (fun i=>!A i && decide (d i<M*cnt n A)))=S n (fun i=>(M*cnt n A)*(1 - b2 (A i) - b2 (!A i && decide (d i<M*cnt n A)))):=by
   rw[aa6,F6,F6,Q1,K9];rfl
  rw[e1]
  unfold sm
  rw[<- V5]
  refine t7 fun i hi=>?_
  show (if A i=true then 0 else mnf (M*cnt n A) (d i))=(if (!A i && decide (d i<M*cnt n A))=true then d i else 0)+(M*cnt n A)*(1 - b2 (A i) - b2 (!A i && decide (d i<M*cnt n A)))
  cases hA:A i with
  | true=>simp[b2]
  | false =>
   generalize M*cnt n A=r
   by_cases c:d i<r
   ·rw[decide_eq_true c]
    simp[b2,mnf]
    omega
   ·rw[decide_eq_false c]
    simp[b2,mnf]
    omega
 unfold aa0
 rw[e]
 omega
structure Thw (M:Int) (g:Nat->Nat->Int):Prop where
 sym:∀ i j,g i j=g j i
 dia:∀ i,g i i=0
 lo:∀ i j,0<=g i j
 hi:∀ i j,g i j<=M
end
end Thk
namespace Web
def mn (r x:Int):Int:=if r<x then r else x
theorem aM2:∀ a b:List Int,(a++b).sum=a.sum+b.sum
 | [],b=>by simp
 | x::a,b=>by rw[bZ4,Q4,Q4,aM2 a b,Int.add_assoc]
theorem ap7:∀ a:List Int,a.reverse.sum=a.sum
 | []=>rfl
 | x::a=>by rw[List.reverse_cons,aM2,ap7 a,Q4,Q4,List.sum_nil];omega
def up2 (ns:List Int):List Int:=PySem.W.sortI ns
theorem ax4 (ns:List Int):(up2 ns).length=ns.length:=(PySem.W.sortI_perm ns).length_eq
theorem bi2 (hp:zs.Perm ns)(hs:zs.Pairwise (·≥·)):zs=(up2 ns).reverse:=by
 have h:zs.reverse=up2 ns:=PySem.W.eq_sortI ((Z3 zs).trans hp) (by rw[aa7];exact hs)
 rw[<- h,List.reverse_reverse]
def part (m:Nat)(r:Int)(g:List Int):Int:=((g.take m).map (mn r)).sum - (g.drop m).sum
def P8 (ns:List Int)(r:Nat):Int:=(r:Int)*((r:Int) - 1)+part (ns.length - r) r (up2 ns)
theorem bb0 {r:Nat}(e:zs=(up2 ns).reverse):(r:Int)*((r:Int) - 1)+((zs.drop r).map (mn r)).sum - (zs.take r).sum=P8 ns r:=by
 unfold P8 part
 rw[e,bZ0,bZ1,ca0,ap7,ap7,ax4]
 omega
end Web
namespace Web
inductive Wl where
 | below (p:Nat) | odd | wall (r:Nat) | free
 deriving DecidableEq
def AllP (ns:List Int):Prop:=∀ (j:Nat) (x:Int),ns[j]?=some x->0<=x
def bd4 (ns:List Int):Wl->Prop
 | .below p=>(∃ x,ns[p]?=some x/\x<0)/\∀ (j:Nat) (x:Int),j<p->ns[j]?=some x->0<=x
 | .odd=>AllP ns/\ns.sum % 2=1
 | .wall r=>AllP ns/\¬ ns.sum % 2=1/\1<=r/\r<=ns.length/\P8 ns r<0/\∀ k,1<=k->k<r->0<=P8 ns k
 | .free=>AllP ns/\¬ ns.sum % 2=1/\∀ k,1<=k->k<=ns.length->0<=P8 ns k
theorem bD2 {w u:Wl}(h:bd4 ns w)(g:bd4 ns u):w=u:=by
 cases w with
 | below p =>
  obtain⟨⟨x,hx,hx0⟩,hp⟩:=h
  have no:¬ AllP ns:=fun a=>by have:=a p x hx;omega
  cases u with
  | below q =>
   obtain⟨⟨y,hy,hy0⟩,hq⟩:=g
   rcases Z8 p q with l | l | l
   ·have:=hq p x l hx;omega
   ·rw[l]
   ·have:=hp q y l hy;omega
  | odd=>exact absurd g.1 no
  | wall r=>exact absurd g.1 no
  | free=>exact absurd g.1 no
 | odd =>
  cases u with
  | below q =>
   obtain⟨⟨y,hy,hy0⟩,hq⟩:=g
   have:=h.1 q y hy;omega
  | odd=>rfl
  | wall r=>exact absurd h.2 g.2.1
  | free=>exact absurd h.2 g.2.1
 | wall r =>
  obtain⟨a,b,r1,r2,r3,r4⟩:=h
  cases u with
  | below q =>
   obtain⟨⟨y,hy,hy0⟩,hq⟩:=g
   have:=a q y hy;omega
  | odd=>exact absurd g.2 b
  | wall s =>
   obtain⟨_,_,s1,s2,s3,s4⟩:=g
   rcases Z8 r s with l | l | l
   ·have:=s4 r r1 l;omega
   ·rw[l]
   ·have:=r4 s s1 l;omega
  | free=>have:=g.2.2 r r1 r2;omega
 | free =>
  cases u with
  | below q =>
   obtain⟨⟨y,hy,hy0⟩,hq⟩:=g
   have:=h.1 q y hy;omega
  | odd=>exact absurd g.2 h.2.1
  | wall s =>
   obtain⟨_,_,s1,s2,s3,s4⟩:=g
   have:=h.2.2 s s1 s2;omega
  | free=>rfl
end Web
namespace Web
open L2
def rng (n:Nat):List Int:=(am7 0 n).map fun k:Nat=>(k:Int)
theorem S5 {x:Int}:x∈rng n↔0<=x/\x<n:=by
 unfold rng
 constructor
 ·intro h
  obtain⟨k,hk,rfl⟩:=t8.mp h
  have:=aH7.mp hk
  omega
 ·intro h
  exact t8.mpr ⟨x.toNat,aH7.mpr ⟨by omega,by omega⟩,by omega⟩
theorem ab7 (n:Nat):(rng n).length=n:=by unfold rng;rw[b7,aG1]
theorem X0 (n:Nat):(rng n).Nodup:=by
 unfold rng
 refine List.Pairwise.map _ (fun a b h=>?_) (List.nodup_range' (step:=1) (by decide))
 intro e
 exact h (by omega)
def rest (zs:List Int)(p:Int):List Int:=zs.filter fun x=>decide (x≠p)
theorem aB2 {p x:Int}:x∈rest zs p↔x∈zs/\x≠p:=by unfold rest;rw[O9,decide_eq_true_iff]
theorem aT5 {p:Int}(hp:zs.Perm (rng n))(h0:0<=p)(h1:p<n):(rest zs p).length=n - 1:=by
 have nd:zs.Nodup:=hp.nodup_iff.mpr (X0 n)
 have hm:p∈zs:=hp.mem_iff.mpr (S5.mpr ⟨h0,h1⟩)
 have e:rest zs p=zs.erase p:=by
  unfold rest
  rw[nd.erase_eq_filter]
  congr 1
  funext x
  by_cases h:x=p<;>simp[h]
 rw[e,bj5 hm,hp.length_eq,ab7]
def ac0 (ns es:List Int)(i:Nat):Int:=if (i:Int)∈es then ns.getD i 0 - 1 else ns.getD i 0
def W2 (ns:List Int)(p:Nat)(es:List Int):List Int:=((q0 ns.length).filter fun i=>decide (i≠p)).map (ac0 ns es)
open Grf (S b2 Gph deg cnt sm Top roomF)
theorem bj2 (f:Nat->Int):∀ n:Nat,S n f=((q0 n).map f).sum
 | 0=>rfl
 | n+1=>by
  rw[E7,j9,aM2,<- bj2 f n]
  show S n f+f n=_+(f n+0)
  omega
theorem map_getD (φ:Int->Int)(xs:List Int):(q0 xs.length).map (fun i=>φ (xs.getD i 0))=xs.map φ:=by
 refine T6 fun i=>?_
 rw[p0,p0]
 rcases B0 i xs.length with h | h
 ·rw[J8 h,g6 h]
  show some (φ (xs.getD i 0))=some (φ xs[i])
  rw[i6,g6 h]
  rfl
 ·rw[p9 h,p9 (by rw[y9];exact h)]
  rfl
theorem aF3 (φ:Int->Int)(xs:List Int):S xs.length (fun i=>φ (xs.getD i 0))=(xs.map φ).sum:=by rw[bj2,map_getD]
theorem bA3 (xs:List Int):S xs.length (fun i=>xs.getD i 0)=xs.sum:=by
 have:=aF3 (fun x=>x) xs
 rw[aL1]at this
 exact this
theorem aY4 {f:Nat->Int}:∀ {L:List Int},L.Nodup->(∀ z∈L,0<=z/\z<n)->S n (fun i=>if (i:Int)∈L then f i else 0)=(L.map fun z=>f z.toNat).sum
 | [],_,_=>by
  rw[Grf.t7 (g:=fun _=>0) fun i _=>by simp]
  exact Grf.M4 n
 | z::L,nd,h=>by
  obtain⟨h1,h2⟩:=E5.mp nd
  obtain⟨z0,z1⟩:=h z g9
  rw[p7,Q4,<- aY4 h2 fun y hy=>h y (d3 _ hy)]
  rw[Grf.X9 (j:=z.toNat) (f:=fun i=>if (i:Int)∈z::L then f i else 0) (g:=fun i=>if (i:Int)∈L then f i else 0) (by omega) (fun i _ hi=>by
   show (if (i:Int)∈z::L then f i else 0)=if (i:Int)∈L then f i else 0
   by_cases e:(i:Int)∈L
   ·rw[if_pos e,if_pos (d3 _ e)]
   ·rw[if_neg e,if_neg (fun c=>by
     rcases d4.mp c with c | c
     ·exact hi (by omega)
     ·exact e c)])]
  show _+((if ((z.toNat:Nat):Int)∈z::L then f z.toNat else 0) - (if ((z.toNat:Nat):Int)∈L then f z.toNat else 0))=_
  have ez:((z.toNat:Nat):Int)=z:=by omega
  rw[ez,if_pos g9,if_neg h1]
  omega
theorem bE5 (ns:List Int):(rng ns.length).map (fun z=>ns.getD z.toNat 0)=ns:=by
 unfold rng
 rw[W6,<- av3]
 have:=map_getD (fun x=>x) ns
 rw[aL1]at this
 exact this
theorem aC3 (hp:zs.Perm (rng ns.length))(hs:zs.Pairwise (ole ns)):zs.map (fun z=>ns.getD z.toNat 0)=(up2 ns).reverse:=by
 refine bi2 ?_ ?_
 ·have:=hp.map (fun z:Int=>ns.getD z.toNat 0)
  rw[bE5]at this
  exact this
 ·refine List.Pairwise.map _ (fun a b h=>?_) hs
  have:=aq4.mp h
  show ns.getD b.toNat 0<=ns.getD a.toNat 0
  omega
theorem al3 (hp:zs.Perm (rng ns.length))(hs:zs.Pairwise (ole ns)){r:Nat}(hr:r<=ns.length) :
  cnt ns.length (fun i=>decide ((i:Int)∈zs.take r))=r/\Top ns.length (fun i=>ns.getD i 0) (fun i=>decide ((i:Int)∈zs.take r))/\roomF ns.length (fun i=>ns.getD i 0) (fun i=>decide ((i:Int)∈zs.take r))=P8 ns r:=by
 have nd:zs.Nodup:=hp.nodup_iff.mpr (X0 _)
 have hzl:zs.length=ns.length:=by rw[hp.length_eq,ab7]
 have hin:∀ z∈zs,0<=z/\z<(ns.length:Int):=fun z hz=>S5.mp (hp.mem_iff.mp hz)
 have ndA:(zs.take r).Nodup:=nd.sublist (L5 r zs)
 have ndB:(zs.drop r).Nodup:=nd.sublist (Z4 r zs)
 have inA:∀ z∈zs.take r,0<=z/\z<(ns.length:Int):=fun z hz=>hin z (G5 hz)
 have inB:∀ z∈zs.drop r,0<=z/\z<(ns.length:Int):=fun z hz=>hin z (O4 hz)
 have app:=nd
 rw[<- B4 r zs]at app
 have cross:=(aH8.mp app).2.2
 have mem_or:∀ i:Nat,i<ns.length->(i:Int)∈zs.take r\/(i:Int)∈zs.drop r:=fun i hi=>by
  have:(i:Int)∈zs:=hp.mem_iff.mpr (S5.mpr ⟨by omega,by omega⟩)
  rw[<- B4 r zs]at this
  exact y7.mp this
 have hc:cnt ns.length (fun i=>decide ((i:Int)∈zs.take r))=r:=by
  have:=aY4 (n:=ns.length) (f:=fun _=>1) ndA inA
  have e:cnt ns.length (fun i=>decide ((i:Int)∈zs.take r))=S ns.length (fun i=>if (i:Int)∈zs.take r then 1 else 0):=Grf.t7 fun i _=>by
   by_cases c:(i:Int)∈zs.take r
   ·rw[if_pos c];simp[b2,c]
   ·rw[if_neg c];simp[b2,c]
  rw[e,this]
  have l:(zs.take r).length=r:=by rw[q8];omega
  have:∀ L:List Int,(L.map fun _=>(1:Int)).sum=L.length:=fun L=>by
   induction L with
   | nil=>rfl
   | cons a L ih=>rw[p7,Q4,ih,t4];omega
  rw[this,l]
 refine⟨hc,fun i j hi hj h1 h2=>?_,?_⟩
 ·have a1:(i:Int)∈zs.take r:=of_decide_eq_true h1
  have a2:(j:Int)∈zs.drop r:=(mem_or j hj).resolve_left (of_decide_eq_false h2)
  have pw:=hs
  rw[<- B4 r zs]at pw
  have:=aq4.mp ((A2.mp pw).2.2 _ a1 _ a2)
  rw[u6,u6]at this
  show ns.getD j 0<=ns.getD i 0
  omega
 ·have of:=aC3 hp hs
  have rm:=bb0 (ns:=ns) (r:=r) of
  unfold roomF
  rw[hc,<- rm,<- aF9,<- aG0,W6]
  have s1:sm ns.length (fun i=>decide ((i:Int)∈zs.take r)) (fun i=>ns.getD i 0)=((zs.take r).map fun z=>ns.getD z.toNat 0).sum:=by
   rw[<- aY4 (n:=ns.length) (f:=fun i=>ns.getD i 0) ndA inA]
   refine Grf.t7 fun i _=>?_
   show (if decide ((i:Int)∈zs.take r)=true then ns.getD i 0 else 0)=_
   by_cases c:(i:Int)∈zs.take r
   ·rw[if_pos c,decide_eq_true c,if_pos rfl]
   ·rw[if_neg c,decide_eq_false c,if_neg (by decide)]
  have s2:S ns.length (fun i=>if decide ((i:Int)∈zs.take r)=true then 0 else Grf.mnf r (ns.getD i 0))=((zs.drop r).map (mn r ∘ fun z=>ns.getD z.toNat 0)).sum:=by
   have:=aY4 (n:=ns.length) (f:=fun i=>mn r (ns.getD i 0)) ndB inB
   show _=((zs.drop r).map fun z=>mn r (ns.getD z.toNat 0)).sum
   rw[<- this]
   refine Grf.t7 fun i hi=>?_
   by_cases c:(i:Int)∈zs.take r
   ·rw[decide_eq_true c,if_pos rfl,if_neg (fun z=>cross _ c _ z rfl)]
   ·rw[decide_eq_false c,if_neg (by decide),if_pos ((mem_or i hi).resolve_left c)]
    rfl
  rw[s1,s2]
theorem ao4 (ns:List Int):∃ zs:List Int,zs.Perm (rng ns.length)/\zs.Pairwise (ole ns):=by
 let le:Int->Int->Bool:=fun x y=>decide (ns.getD y.toNat 0<ns.getD x.toNat 0\/(ns.getD x.toNat 0=ns.getD y.toNat 0/\x<=y))
 refine⟨(rng ns.length).mergeSort le,List.mergeSort_perm _ _,?_⟩
 have:=List.pairwise_mergeSort (le:=le) (fun a b c h1 h2=>?_) (fun a b=>?_) (rng ns.length)
 ·exact this.imp fun h=>aq4.mpr (of_decide_eq_true h)
 ·have g1:=of_decide_eq_true h1
  have g2:=of_decide_eq_true h2
  exact decide_eq_true (by omega)
 ·rw[Bool.or_eq_true]
  by_cases h:ns.getD b.toNat 0<ns.getD a.toNat 0\/(ns.getD a.toNat 0=ns.getD b.toNat 0/\a<=b)
  ·exact .inl (decide_eq_true h)
  ·exact .inr (decide_eq_true (by omega))
def Gr (ns:List Int):Prop:=∃ g,Gph g/\∀ i,i<ns.length->deg ns.length g i=ns.getD i 0
theorem aa5 (h:AllP ns)(hi:i<ns.length):0<=ns.getD i 0:=by
 rw[i6,g6 hi]
 exact h i _ (g6 hi)
theorem bi0 (h:bd4 ns .free):Gr ns:=by
 obtain⟨h1,h2,h3⟩:=h
 obtain⟨zs,hp,hs⟩:=ao4 ns
 have hd:∀ i,i<ns.length->0<=ns.getD i 0:=fun i hi=>aa5 h1 hi
 have K:=Grf.bc2 (d:=fun i=>ns.getD i 0) hd fun r r1 r2=>by
  obtain⟨a1,a2,a3⟩:=al3 hp hs r2
  exact⟨_,a1,a2,by rw[a3];exact h3 r r1 r2⟩
 have s0:0<=ns.sum:=by rw[<- bA3];exact Grf.S0 hd
 obtain⟨g,hg,dg⟩:=Grf.bx2 (ns.sum / 2).toNat ns.length (fun i=>ns.getD i 0) hd K (by rw[bA3];omega)
 exact⟨g,hg,dg⟩
theorem aD7 (h:Gr ns):AllP ns:=by
 obtain⟨g,hg,dg⟩:=h
 intro j x hx
 have hj:j<ns.length:=by
  rcases B0 j ns.length with h | h
  ·exact h
  ·rw[p9 h]at hx;cases hx
 have:=dg j hj
 rw[i6,hx]at this
 have e:deg ns.length g j=x:=this
 rw[<- e]
 exact Grf.S0 fun i _=>Grf.E9 _
theorem bJ1 (h:Gr ns):bd4 ns .free:=by
 have pos:=aD7 h
 obtain⟨g,hg,dg⟩:=h
 refine⟨pos,?_,fun k k1 k2=>?_⟩
 ·obtain⟨q,hq⟩:=Grf.by8 hg ns.length
  rw[Grf.t7 (g:=fun i=>ns.getD i 0) fun i hi=>dg i hi,bA3]at hq
  omega
 ·obtain⟨zs,hp,hs⟩:=ao4 ns
  obtain⟨_,_,a3⟩:=al3 hp hs k2
  rw[<- a3]
  exact Grf.ba9 (Grf.bv7 hg dg) _
end Web
namespace Web
def ah1 (ns:List Int)(M r:Nat):Int:=(M:Int)*(r:Int)*((r:Int) - 1)+part (ns.length - r) ((M:Int)*(r:Int)) (up2 ns)
theorem ad4 (ns:List Int)(r:Nat):ah1 ns 1 r=P8 ns r:=by
 unfold ah1 P8
 rw[Int.natCast_one,az8]
theorem av6 {M r:Nat}(e:zs=(up2 ns).reverse):(M:Int)*(r:Int)*((r:Int) - 1)+((zs.drop r).map (mn ((M:Int)*(r:Int)))).sum - (zs.take r).sum=ah1 ns M r:=by
 unfold ah1 part
 rw[e,bZ0,bZ1,ca0,ap7,ap7,ax4]
 omega
end Web
namespace Web
def ao9 (ns:List Int)(i:Nat):List Nat:=(q0 i).filter fun j=>decide (ns.getD j 0<0)
def bJ9 (ns:List Int):List Int:=(ao9 ns ns.length).map Int.ofNat
theorem bo3 (ns:List Int)(i:Nat):ao9 ns (i+1)=ao9 ns i++(if ns.getD i 0<0 then [i] else []):=by
 unfold ao9
 rw[E7,N8]
 congr 1
 by_cases h:ns.getD i 0<0
 ·rw[if_pos h,am8 (by simpa using h),List.filter_nil]
 ·rw[if_neg h,am9 (by simpa using h),List.filter_nil]
theorem bz6 (ns:List Int)(i:Nat):(ao9 ns i).length<=i:=by
 unfold ao9
 exact A1 (K4 ..) (by rw[y9];exact d5 _)
theorem ar3 {x:Int}(h:ns[j]?=some x):ns.getD j 0=x:=by rw[i6,h];rfl
theorem bj0 (h:ao9 ns ns.length=[]):∀ (j:Nat) (x:Int),ns[j]?=some x->0<=x:=fun j x e=>by
 have hj:j<ns.length:=by
  rcases B0 j ns.length with l | l
  ·exact l
  ·rw[p9 l]at e;cases e
 have:=bo9.mp h j (B7.mpr hj)
 rw[ar3 e]at this
 have h2:¬ x<0:=fun q=>this (decide_eq_true q)
 omega
theorem aE9 {t:List Nat}(h:ao9 ns ns.length=p::t):(∃ x,ns[p]?=some x/\x<0)/\∀ (j:Nat) (x:Int),j<p->ns[j]?=some x->0<=x:=by
 have hm:p∈ao9 ns ns.length:=by rw[h];exact g9
 have hp:=O9.mp hm
 have hl:=B7.mp hp.1
 have h0:=of_decide_eq_true hp.2
 refine⟨⟨_,g6 hl,by rw[ar3 (g6 hl)]at h0;exact h0⟩,fun j x hj e=>?_⟩
 rcases bB8 x 0 with q | q
 ·have hjm:j∈ao9 ns ns.length:=O9.mpr ⟨B7.mpr (by omega),by rw[ar3 e];exact decide_eq_true q⟩
  have hs:(ao9 ns ns.length).Pairwise (·<·):=List.Pairwise.filter _ bo7
  rw[h]at hs hjm
  rcases d4.mp hjm with r | r
  ·omega
  ·have:=(G3.mp hs).1 j r
   omega
 ·exact q
def bA7 (ns:List Int)(M:Nat):Wl->Prop
 | .below p=>(∃ x,ns[p]?=some x/\x<0)/\∀ (j:Nat) (x:Int),j<p->ns[j]?=some x->0<=x
 | .odd=>AllP ns/\ns.sum % 2=1
 | .wall r=>AllP ns/\¬ ns.sum % 2=1/\1<=r/\r<=ns.length/\ah1 ns M r<0/\∀ k,1<=k->k<r->0<=ah1 ns M k
 | .free=>AllP ns/\¬ ns.sum % 2=1/\∀ k,1<=k->k<=ns.length->0<=ah1 ns M k
theorem be3 {x:Wl}(h:bA7 ns 1 x):bd4 ns x:=by
 cases x with
 | below p=>exact h
 | odd=>exact h
 | wall r=>exact⟨h.1,h.2.1,h.2.2.1,h.2.2.2.1,by rw[<- ad4];exact h.2.2.2.2.1,fun k k1 k2=>by rw[<- ad4];exact h.2.2.2.2.2 k k1 k2⟩
 | free=>exact⟨h.1,h.2.1,fun k k1 k2=>by rw[<- ad4];exact h.2.2 k k1 k2⟩
end Web
namespace Web
open L2 Grf Thk
theorem aC2 (hp:zs.Perm (rng ns.length))(hs:zs.Pairwise (ole ns)){M r:Nat}(hr:r<=ns.length) :
  aa0 ns.length M (fun i=>ns.getD i 0) (fun i=>decide ((i:Int)∈zs.take r))=ah1 ns M r:=by
 have nd:zs.Nodup:=hp.nodup_iff.mpr (X0 _)
 have hin:∀ z∈zs,0<=z/\z<(ns.length:Int):=fun z hz=>S5.mp (hp.mem_iff.mp hz)
 have ndA:(zs.take r).Nodup:=nd.sublist (L5 r zs)
 have ndB:(zs.drop r).Nodup:=nd.sublist (Z4 r zs)
 have inA:∀ z∈zs.take r,0<=z/\z<(ns.length:Int):=fun z hz=>hin z (G5 hz)
 have inB:∀ z∈zs.drop r,0<=z/\z<(ns.length:Int):=fun z hz=>hin z (O4 hz)
 have app:=nd
 rw[<- B4 r zs]at app
 have cross:=(aH8.mp app).2.2
 have mem_or:∀ i:Nat,i<ns.length->(i:Int)∈zs.take r\/(i:Int)∈zs.drop r:=fun i hi=>by
  have:(i:Int)∈zs:=hp.mem_iff.mpr (S5.mpr ⟨by omega,by omega⟩)
  rw[<- B4 r zs]at this
  exact y7.mp this
 have hc:=(al3 hp hs hr).1
 have of:=aC3 hp hs
 have rm:=av6 (ns:=ns) (M:=M) (r:=r) of
 unfold aa0
 rw[hc,<- rm,<- aF9,<- aG0,W6,<- Q7]
 have s1:sm ns.length (fun i=>decide ((i:Int)∈zs.take r)) (fun i=>ns.getD i 0)=((zs.take r).map fun z=>ns.getD z.toNat 0).sum:=by
  rw[<- aY4 (n:=ns.length) (f:=fun i=>ns.getD i 0) ndA inA]
  refine Grf.t7 fun i _=>?_
  show (if decide ((i:Int)∈zs.take r)=true then ns.getD i 0 else 0)=_
  by_cases c:(i:Int)∈zs.take r
  ·rw[if_pos c,decide_eq_true c,if_pos rfl]
  ·rw[if_neg c,decide_eq_false c,if_neg (by decide)]
 have s2:S ns.length (fun i=>if decide ((i:Int)∈zs.take r)=true then 0 else Grf.mnf ((M:Int)*r) (ns.getD i 0))=((zs.drop r).map (mn ((M:Int)*r) ∘ fun z=>ns.getD z.toNat 0)).sum:=by
  have:=aY4 (n:=ns.length) (f:=fun i=>mn ((M:Int)*r) (ns.getD i 0)) ndB inB
  show _=((zs.drop r).map fun z=>mn ((M:Int)*r) (ns.getD z.toNat 0)).sum
  rw[<- this]
  refine Grf.t7 fun i hi=>?_
  by_cases c:(i:Int)∈zs.take r
  ·rw[decide_eq_true c,if_pos rfl,if_neg (fun z=>cross _ c _ z rfl)]
  ·rw[decide_eq_false c,if_neg (by decide),if_pos ((mem_or i hi).resolve_left c)]
   rfl
 rw[s1,s2]
theorem bI3 {M:Nat}(h0:AllP ns)(h1:¬ ns.sum % 2=1)(h:Kk ns.length M (fun i=>ns.getD i 0)):bA7 ns M .free:=by
 obtain⟨zs,hp,hs⟩:=ao4 ns
 exact⟨h0,h1,fun r r1 r2=>by rw[<- aC2 hp hs r2];exact bE4 h _⟩
def abv (M L c:Int):Int:=if c - L<=0 then 0 else if c - L<=M then c - L else M
theorem bz9 {M:Int}(hM:1<=M)(L c:Int):abv M (L - 1) c - abv M L c=if abv M L c<abv M (L - 1) c then 1 else 0:=by
 unfold abv
 split<;>split<;>split<;>first | omega | (split<;>omega)
theorem bA0 {M L c:Int}(hM:1<=M)(h:abv M L c<abv M (L - 1) c):abv M L c=c - L/\0<=c - L/\c - L<M:=by
 unfold abv at *
 split at h<;>split at h<;>first | omega | (split at h<;>first | omega | (split at h<;>omega)) | skip
 all_goals (repeat' split)<;>omega
def ae0 (M L:Int)(ns:List Int):List Int:=(rng ns.length).filter fun z=>decide (abv M L (ns.getD z.toNat 0)<abv M (L - 1) (ns.getD z.toNat 0))
def aH1 (M L:Int)(ns:List Int)(k:Nat):List Int:=(ae0 M L ns).take k
def shx (M L:Int)(ns:List Int)(k:Nat)(j:Nat):Int:=abv M L (ns.getD j 0)+if (j:Int)∈aH1 M L ns k then 1 else 0
theorem aU9 (M L:Int)(ns:List Int):(ae0 M L ns).Nodup:=(X0 _).sublist bL1
theorem aV0 {M L:Int}:∀ z∈ae0 M L ns,0<=z/\z<ns.length:=fun z hz=>S5.mp (O9.mp hz).1
theorem at9 {M L:Int}(hj:j<ns.length):(j:Int)∈ae0 M L ns↔abv M L (ns.getD j 0)<abv M (L - 1) (ns.getD j 0):=by
 unfold ae0
 rw[O9,S5,decide_eq_true_iff,u6]
 constructor
 ·exact fun h=>h.2
 ·exact fun h=>⟨⟨by omega,by omega⟩,h⟩
theorem bq1 (L:List Int):(L.map fun _=>(1:Int)).sum=L.length:=by
 induction L with
 | nil=>rfl
 | cons a L ih=>rw[p7,Q4,ih,t4];omega
theorem bA4 {L:List Int}(nd:L.Nodup)(h:∀ z∈L,0<=z/\z<n):S n (fun i=>if (i:Int)∈L then 1 else 0)=L.length:=by
 rw[aY4 (f:=fun _=>1) nd h,bq1]
theorem bm1 {M:Int}(hM:1<=M)(L:Int)(ns:List Int):((ae0 M L ns).length:Int)=(ns.map (abv M (L - 1))).sum - (ns.map (abv M L)).sum:=by
 rw[<- bA4 (aU9 M L ns) aV0,<- aF3,<- aF3,<- F6]
 refine Grf.t7 fun j hj=>?_
 rw[bz9 hM]
 by_cases c:abv M L (ns.getD j 0)<abv M (L - 1) (ns.getD j 0)
 ·rw[if_pos c,if_pos ((at9 hj).mpr c)]
 ·rw[if_neg c,if_neg fun h=>c ((at9 hj).mp h)]
structure Lvl (M:Int) (ns:List Int) (a L:Int):Prop where
 l0:0<=L
 le:(ns.map (abv M L)).sum<=a
 lt:0<L->a<(ns.map (abv M (L - 1))).sum
section
variable {M a L:Int}
theorem bD8 (hM:1<=M)(h:Lvl M ns a L)(h0:a<=(ns.map (abv M 0)).sum):S ns.length (shx M L ns (a - (ns.map (abv M L)).sum).toNat)=a:=by
 unfold shx
 rw[V5,aF3,bA4 (L:=aH1 M L ns (a - (ns.map (abv M L)).sum).toNat) ((aU9 M L ns).sublist (L5 _ _)) fun z hz=>aV0 z (G5 hz)]
 unfold aH1
 rw[q8]
 have l:=bm1 hM L ns
 have le:=h.le
 by_cases c:0<L
 ·have:=h.lt c
  omega
 ·have:L=0:=by have:=h.l0;omega
  subst this
  omega
theorem bf0 (hj:j<ns.length){k:Nat}(hM:1<=M)(h:(j:Int)∈aH1 M L ns k):abv M L (ns.getD j 0)=ns.getD j 0 - L/\0<=ns.getD j 0 - L/\ns.getD j 0 - L<M:=bA0 hM ((at9 hj).mp (G5 h))
theorem as7 (hM:1<=M)(k:Nat)(hj:j<ns.length):0<=shx M L ns k j/\shx M L ns k j<=M/\(0<shx M L ns k j->L - 1<=ns.getD j 0 - shx M L ns k j)/\(shx M L ns k j<M->ns.getD j 0 - shx M L ns k j<=L):=by
 unfold shx
 by_cases c:(j:Int)∈aH1 M L ns k
 ·obtain⟨e1,e2,e3⟩:=bf0 hj hM c
  rw[if_pos c,e1]
  omega
 ·rw[if_neg c]
  unfold abv
  split
  ·omega
  ·split<;>omega
theorem bR9 (hM:1<=M)(h:Lvl M ns a L)(h0:a<=(ns.map (abv M 0)).sum)(hj:j<ns.length)(hn:0<=ns.getD j 0):shx M L ns (a - (ns.map (abv M L)).sum).toNat j<=ns.getD j 0:=by
 have l0:=h.l0
 unfold shx
 by_cases c:(j:Int)∈aH1 M L ns (a - (ns.map (abv M L)).sum).toNat
 ·obtain⟨e1,e2,e3⟩:=bf0 hj hM c
  have:L≠0:=fun e=>by
   subst e
   have z:(a - (ns.map (abv M 0)).sum).toNat=0:=by omega
   rw[z]at c
   unfold aH1 at c
   rw[be0]at c
   cases c
  rw[if_pos c,e1]
  omega
 ·rw[if_neg c]
  unfold abv
  split
  ·omega
  ·split<;>omega
end
end Web
namespace Thk
open Grf
section
variable {L W:Int} {c x:Nat->Int}
theorem aZ8 {σ:Nat->Bool}(h:Apart n σ τ):sz n σ+sz n τ<=n:=by
 unfold sz
 rw[<- V5]
 have:S n (fun j=>b2 (σ j)+b2 (τ j))<=S n (fun _=>1):=ae4 fun j hj=>by
  have:=h j hj
  cases a:σ j<;>cases b:τ j<;>simp[b2]
  exact this ⟨a,b⟩
 rw[Q1]at this
 omega
theorem bR6 {σ:Nat->Bool}(h:Apart n σ τ)(e:sz n σ+sz n τ=n)(hj:j<n):b2 (σ j)+b2 (τ j)=1:=by
 have hz:S n (fun j=>1 - b2 (σ j) - b2 (τ j))=0:=by
  rw[F6,F6,Q1]
  unfold sz at e
  omega
 have nn:∀ i,i<n->0<=1 - b2 (σ i) - b2 (τ i):=fun i hi=>by
  have:=h i hi
  cases a:σ i<;>cases b:τ i<;>simp[b2]
  exact absurd ⟨a,b⟩ this
 have a:=ax0 (f:=fun j=>1 - b2 (σ j) - b2 (τ j)) hj nn
 have b:=nn j hj
 have a':1 - b2 (σ j) - b2 (τ j)<=S n (fun j=>1 - b2 (σ j) - b2 (τ j)):=a
 omega
theorem by2 (q:Int):∃ e,(q+1)*q=2*e:=by
 rcases Int.emod_two_eq q with h | h
 ·obtain⟨t,ht⟩:∃ t,q=2*t:=⟨q / 2,by omega⟩
  exact⟨(q+1)*t,by rw[ht,<- Q7,S8 (2*t+1) 2,Q7]⟩
 ·obtain⟨t,ht⟩:∃ t,q+1=2*t:=⟨(q+1) / 2,by omega⟩
  exact⟨t*q,by rw[ht,Q7]⟩
theorem bJ4 (σ τ:Nat->Bool):fV n 1 c σ τ=S n (fun j=>b2 (σ j)*(c j - qQ n 1 τ) - b2 (τ j)*c j):=by
 have e:S n (fun j=>b2 (σ j)*(c j - qQ n 1 τ) - b2 (τ j)*c j)=S n (fun j=>(b2 (σ j) - b2 (τ j))*c j) - S n (fun j=>qQ n 1 τ*b2 (σ j)):=by
  rw[<- F6]
  refine t7 fun j _=>?_
  cases σ j<;>cases τ j<;>simp[b2]<;>omega
 rw[e,aa6]
 unfold fV qQ sz
 rw[az8,az8,S8]
theorem bu9 (hc:∀ j,j<n->c j=d j - x j)(c0:∀ j,j<n->0<=c j)(x0:∀ j,j<n->0<=x j)(lo:∀ j,j<n->0<x j->L - 1<=c j)(hi:∀ j,j<n->c j<=L)
  (hW:∀ σ τ,Apart n σ τ->fV n 1 d σ τ<=W)(hx:W<=S n x)(ev:∃ k,S n c=2*k):Kk n 1 c:=by
 intro σ0 τ0 h0
 obtain⟨σ,τ1,hap1,hge,hmx⟩:=cf5 (m:=n) (M:=1) (c:=c) (by decide) h0
 refine Classical.byContradiction fun hno=>?_
 have hf1:1<=fV n 1 c σ τ1:=by omega
 obtain⟨τ,hτ⟩:∃ τ:Nat->Bool,τ=fun j=>τ1 j && !decide (c j=pP n 1 σ):=⟨_,rfl⟩
 have tt:∀ j,τ j=true->τ1 j=true/\c j≠pP n 1 σ:=fun j h=>by
  rw[hτ]at h
  simpa using h
 have hs:fV n 1 c σ τ=fV n 1 c σ τ1:=br5 fun j hj hne=>by
  refine Classical.byContradiction fun hz=>hne ?_
  rw[hτ]
  show (τ1 j && !decide (c j=pP n 1 σ))=τ1 j
  rw[decide_eq_false hz,bd9,Bool.and_true]
 have hap:Apart n σ τ:=fun j hj ⟨u,v⟩=>hap1 j hj ⟨u,(tt j v).1⟩
 have hM:Mx n 1 c σ τ:=⟨hap,fun σ₁ τ₁ h=>by rw[hs];exact hmx σ₁ τ₁ h⟩
 have ht:∀ j,j<n->τ j=true->c j<=pP n 1 σ - 1:=fun j hj h=>by
  have:=ci4 hM hj h
  have:=(tt j h).2
  omega
 have hf:1<=fV n 1 c σ τ:=by omega
 have caseA:∀ σ',Apart n σ' τ->(∀ j,j<n->0<x j->σ' j=true)->fV n 1 c σ' τ<=0:=fun σ' ha hcut=>by
  have e:fV n 1 c σ' τ=fV n 1 d σ' τ - S n x:=by
   unfold fV
   have:S n (fun j=>(b2 (σ' j) - b2 (τ j))*c j)=S n (fun j=>(b2 (σ' j) - b2 (τ j))*d j) - S n x:=by
    rw[<- F6]
    refine t7 fun j hj=>?_
    rw[hc j hj]
    have h0:=x0 j hj
    by_cases hx0:0<x j
    ·have hs':=hcut j hj hx0
     have ht':τ j=false:=by
      cases h:τ j
      ·rfl
      ·exact absurd ⟨hs',h⟩ (ha j hj)
     rw[hs',ht']
     simp[b2]
    ·have:x j=0:=by omega
     rw[this,as3,as3]
   omega
  have:=hW σ' τ ha
  omega
 have hpq:pP n 1 σ<=qQ n 1 τ+1:=by
  have:=aZ8 hap
  unfold pP qQ
  omega
 by_cases hA:∀ j,j<n->0<x j->σ j=true
 ·have:=caseA σ hap hA
  omega
 ·obtain⟨i,hi'⟩:=Classical.not_forall.mp hA
  obtain⟨hin,hi2⟩:=Classical.not_imp.mp hi'
  obtain⟨hxi,hsi⟩:=Classical.not_imp.mp hi2
  have hsi:σ i=false:=by simpa using hsi
  have li:=lo i hin hxi
  have hLq:L<=qQ n 1 τ+1:=by
   cases h:τ i with
   | false =>
    have:=cd9 hM hin hsi h
    omega
   | true =>
    have:=ht i hin h
    omega
  have fp:=bJ4 (n:=n) (c:=c) σ τ
  by_cases hL:L<=qQ n 1 τ
  ·have:S n (fun j=>b2 (σ j)*(c j - qQ n 1 τ) - b2 (τ j)*c j)<=0:=bO7 fun j hj=>by
    have:=hi j hj
    have:=c0 j hj
    cases σ j<;>cases τ j<;>simp[b2]<;>omega
   omega
  ·have hLe:L=qQ n 1 τ+1:=by omega
   by_cases hT:∃ i,i<n/\0<x i/\τ i=true
   ·obtain⟨t,htn,hxt,htt⟩:=hT
    have lt:=lo t htn hxt
    have bd:S n (fun j=>b2 (σ j)*(c j - qQ n 1 τ) - b2 (τ j)*c j)<=S n (fun j=>b2 (σ j) - if j=t then qQ n 1 τ else 0):=ae4 fun j hj=>by
     have h1:=hi j hj
     have h2:=c0 j hj
     by_cases e:j=t
     ·subst e
      have hs0:σ j=false:=by
       cases h:σ j
       ·rfl
       ·exact absurd ⟨h,htt⟩ (hap j hj)
      rw[if_pos rfl,hs0,htt]
      simp[b2]
      omega
     ·rw[if_neg e]
      cases σ j<;>cases τ j<;>simp[b2]<;>omega
    have e2:S n (fun j=>b2 (σ j) - if j=t then qQ n 1 τ else 0)=sz n σ - qQ n 1 τ:=by
     rw[X9 (g:=fun j=>b2 (σ j)) htn (fun j _ hj=>by rw[if_neg hj,as3]),if_pos rfl]
     unfold sz
     omega
    have hsz:=aZ8 hap
    have hq:qQ n 1 τ=(n:Int) - 1 - sz n τ:=by unfold qQ;omega
    have all1:sz n σ+sz n τ=n:=by omega
    have f1:fV n 1 c σ τ=1:=by omega
    obtain⟨k,hk⟩:=ev
    obtain⟨e,he⟩:=by2 (qQ n 1 τ)
    have hp:sz n σ=qQ n 1 τ+1:=by omega
    have spl:S n (fun j=>(b2 (σ j) - b2 (τ j))*c j)=S n c - 2*S n (fun j=>b2 (τ j)*c j):=by
     rw[<- aa6,<- F6]
     refine t7 fun j hj=>?_
     have:=bR6 hap all1 hj
     have e1:b2 (σ j)=1 - b2 (τ j):=by omega
     rw[e1]
     cases τ j<;>simp[b2]<;>omega
    unfold fV at f1
    rw[spl,hk,<- hq,hp,he]at f1
    omega
   ·have hno':∀ j,j<n->0<x j->τ j=false:=fun j hj hxj=>by
     cases h:τ j
     ·rfl
     ·exact absurd ⟨j,hj,hxj,h⟩ hT
    have ap':Apart n (fun j=>σ j || decide (0<x j)) τ:=fun j hj ⟨u,v⟩=>by
     rcases Bool.or_eq_true_iff.mp u with u | u
     ·exact hap j hj ⟨u,v⟩
     ·rw[hno' j hj (of_decide_eq_true u)]at v
      cases v
    have same:fV n 1 c (fun j=>σ j || decide (0<x j)) τ=fV n 1 c σ τ:=br6 fun j hj hne=>by
     have hne:(σ j || decide (0<x j))≠σ j:=hne
     have hs0:σ j=false:=by
      cases h:σ j
      ·rfl
      ·rw[h]at hne;exact absurd rfl hne
     have hxj:0<x j:=by
      refine Classical.byContradiction fun z=>hne ?_
      rw[hs0,decide_eq_false z]
      rfl
     have:=cd9 hM hj hs0 (hno' j hj hxj)
     have:=lo j hj hxj
     omega
    have:=caseA _ ap' (fun j hj hxj=>by
     show (σ j || decide (0<x j))=true
     rw[decide_eq_true hxj,Bool.or_true])
    omega
end
section
variable {M:Int}
theorem bJ2 {W:Int}(hd:∀ i,i<n->0<=d i)(hW:0<=W)(h:∀ r:Nat,1<=r->r<=n->∃ A,cnt n A=r/\Top n d A /\ -W<=aa0 n M d A):∀ σ τ,Apart n σ τ->fV n M d σ τ<=W:=by
 intro a0 b hab0
 rw[bx9]
 let a:Nat->Bool:=fun i=>a0 i && !b i
 have ha0:∀ i,i<n->a i=a0 i:=fun i hi=>by
  show (a0 i && !b i)=a0 i
  cases e:a0 i<;>cases e':b i<;>first | rfl | exact absurd ⟨e,e'⟩ (hab0 i hi)
 have hab:∀ i,a i=true->b i=false:=fun i hi=>by
  have hi:(a0 i && !b i)=true:=hi
  cases e:b i
  ·rfl
  ·rw[e]at hi;simp at hi
 have ec:cnt n a0=cnt n a:=t7 fun i hi=>by rw[ha0 i hi]
 have es:sm n a0 d=sm n a d:=t7 fun i hi=>by rw[ha0 i hi]
 rw[ec,es]
 have k0:=X1 n a
 have kr:=az2 (n:=n) hab
 have kb:=X1 n b
 by_cases hz:cnt n a=0
 ·have za:∀ i,i<n->a i=false:=fun i hi=>by
   cases h:a i with
   | false=>rfl
   | true =>
    have:=ax0 (f:=fun i=>b2 (a i)) hi (fun i _=>E9 _)
    have e:b2 (a i)=1:=by rw[h];rfl
    have t:b2 (a i)<=cnt n a:=this
    omega
  have:=as5 (a:=b) hd
  rw[ak7 za,hz,aa8,S9]
  omega
 ·obtain⟨A,hc,ht,r1⟩:=h (cnt n a).toNat (by omega) (by omega)
  have hcA:cnt n A=cnt n a:=by omega
  have r2:=aR4 (φ:=fun x=>x+mnf (M*cnt n a) x) (fun x y hxy=>by have:=aV1 (r:=M*cnt n a) hxy;omega) ht hcA.symm
  have sp:∀ c:Nat->Bool,sm n c (fun i=>d i+mnf (M*cnt n a) (d i))=sm n c d+S n (fun i=>mnf (M*cnt n a) (d i)) - S n (fun i=>if c i=true then 0 else mnf (M*cnt n a) (d i)):=fun c=>by
   unfold sm
   rw[<- V5,<- F6]
   refine t7 fun i _=>?_
   cases c i<;>simp
  rw[sp a,sp A]at r2
  unfold aa0 at r1
  rw[hcA]at r1
  have low:S n (fun i=>if a i=true then 0 else mnf (M*cnt n a) (d i))<=sm n b d+(M*cnt n a)*((n:Int) - cnt n a - cnt n b):=by
   have e:(M*cnt n a)*((n:Int) - cnt n a - cnt n b)=S n (fun i=>(M*cnt n a)*(1 - b2 (a i) - b2 (b i))):=by
    rw[aa6,F6,F6,Q1,K9];rfl
   rw[e]
   unfold sm
   rw[<- V5]
   refine ae4 fun i hi=>?_
   have l1:=bh2 (M*cnt n a) (d i)
   have l2:=aN9 (M*cnt n a) (d i)
   cases ha:a i with
   | true=>rw[hab i ha];simp[b2]
   | false=>cases b i<;>simp[b2]<;>assumption
  rw[bs8]
  omega
theorem bX3 (A:Nat->Bool):fV n M d A (fun i=>!A i && decide (d i<M*cnt n A)) = -aa0 n M d A:=by
 rw[bx9,bs8]
 have e:S n (fun i=>if A i=true then 0 else mnf (M*cnt n A) (d i))=sm n (fun i=>!A i && decide (d i<M*cnt n A)) d+(M*cnt n A)*((n:Int) - cnt n A - cnt n (fun i=>!A i && decide (d i<M*cnt n A))):=by
  have e1:(M*cnt n A)*((n:Int) - cnt n A - cnt n (fun i=>!A i && decide (d i<M*cnt n A)))=S n (fun i=>(M*cnt n A)*(1 - b2 (A i) - b2 (!A i && decide (d i<M*cnt n A)))):=by
   rw[aa6,F6,F6,Q1,K9];rfl
  rw[e1]
  unfold sm
  rw[<- V5]
  refine t7 fun i hi=>?_
  show (if A i=true then 0 else mnf (M*cnt n A) (d i))=(if (!A i && decide (d i<M*cnt n A))=true then d i else 0)+(M*cnt n A)*(1 - b2 (A i) - b2 (!A i && decide (d i<M*cnt n A)))
  cases hA:A i with
  | true=>simp[b2]
  | false =>
   generalize M*cnt n A=r
   by_cases c:d i<r
   ·rw[decide_eq_true c]
    simp[b2,mnf]
    omega
   ·rw[decide_eq_false c]
    simp[b2,mnf]
    omega
 unfold aa0
 rw[e]
 omega
theorem bI1 {w:Nat->Int}(K:Kk n M w)(hle:∀ i,i<n->w i<=d i)(A:Nat->Bool):-aa0 n M d A<=S n (fun i=>d i - w i):=by
 have k:=K A (fun i=>!A i && decide (d i<M*cnt n A)) (fun i _ ⟨u,v⟩=>by simp[u]at v)
 rw[<- bX3]
 have e:fV n M d A (fun i=>!A i && decide (d i<M*cnt n A)) - fV n M w A (fun i=>!A i && decide (d i<M*cnt n A))<=S n (fun i=>d i - w i):=by
  unfold fV
  dsimp only
  have e1:S n (fun j=>(b2 (A j) - b2 (!A j && decide (d j<M*cnt n A)))*d j) - S n (fun j=>(b2 (A j) - b2 (!A j && decide (d j<M*cnt n A)))*w j)<=S n (fun i=>d i - w i):=by
   rw[<- F6]
   refine ae4 fun i hi=>?_
   have:=hle i hi
   cases A i<;>cases decide (d i<M*cnt n A)<;>simp[b2]<;>omega
  omega
 omega
end
end Thk
namespace Web
open L2
open Grf (S b2 Gph deg W9)
theorem bF6 (h1:i<j)(h2:j<n):[(i:Int),(j:Int)]∈V1 n:=by
 unfold V1
 refine bZ9.mpr ⟨i,B7.mpr (by omega),?_⟩
 unfold ad3
 exact t8.mpr ⟨j - (i+1),B7.mpr (by omega),by
  rw[show ((j - (i+1):Nat):Int)=(j:Int) - ((i:Int)+1) by omega]
  rw[show (i:Int)+1+((j:Int) - ((i:Int)+1))=(j:Int) by omega]⟩
end Web
namespace Web
open L2 Grf Thk
def am4 (s want:Int):Int:=want+(want+s) % 2
theorem aF4 (ns:List Int):S ns.length (fun i=>ns.getD i 0)=ns.sum:=by
 have:=aF3 (fun z=>z) ns
 rw[aL1]at this
 exact this
structure Lst (ns:List Int) (mn:Int):Prop where
 le:∀ r,r<=ns.length->mn<=P8 ns r
 at_:∃ r,r<=ns.length/\mn=P8 ns r
theorem aB1 {r:Nat}(hr:r<=ns.length):∃ A,Grf.cnt ns.length A=r/\Top ns.length (fun i=>ns.getD i 0) A/\aa0 ns.length 1 (fun i=>ns.getD i 0) A=P8 ns r:=by
 obtain⟨zs,hp,hs⟩:=ao4 ns
 obtain⟨a1,a2,_⟩:=al3 hp hs hr
 have:=aC2 hp hs (M:=1) hr
 rw[ad4]at this
 exact⟨_,a1,a2,this⟩
theorem bl4 (h0:AllP ns):P8 ns 0<=0:=by
 obtain⟨A,h1,_,h3⟩:=aB1 (ns:=ns) (r:=0) (u4 _)
 rw[<- h3]
 unfold aa0
 have hz:∀ i,i<ns.length->A i=false:=fun i hi=>by
  cases h:A i with
  | false=>rfl
  | true =>
   have a:=ax0 (f:=fun i=>b2 (A i)) hi (fun i _=>E9 _)
   have a':b2 (A i)<=Grf.cnt ns.length A:=a
   rw[h1,h,Z2]at a'
   exact absurd a' (by decide)
 have e1:sm ns.length A (fun i=>ns.getD i 0)=0:=ak7 hz
 have e2:S ns.length (fun i=>if A i=true then 0 else mnf (1*Grf.cnt ns.length A) (ns.getD i 0))<=0:=bO7 fun i hi=>by
  rw[hz i hi,if_neg j7,h1]
  have:=aN9 (1*((0:Nat):Int)) (ns.getD i 0)
  omega
 rw[h1]at e2 ⊢
 rw[e1]
 simp at e2 ⊢
 exact e2
theorem bI2 (n:Nat):Kk n 1 (fun _=>0):=fun σ τ h=>by
 unfold fV
 have hs:=aZ8 h
 have s0:0<=sz n σ:=S0 fun j _=>E9 _
 have t0:0<=sz n τ:=S0 fun j _=>E9 _
 rw[t7 (g:=fun _=>0) (fun j _=>S9 _),M4]
 by_cases c:sz n σ=0
 ·rw[c,aa8];decide
 ·have:=bj4 s0 (show 0<=(n:Int) - 1 - sz n τ by omega)
  omega
theorem Lst.want {mn:Int}(h:Lst ns mn)(h0:AllP ns):0 <= -mn /\ -mn<=ns.sum:=by
 refine⟨?_,?_⟩
 ·have:=h.le 0 (u4 _)
  have:=bl4 h0
  omega
 ·obtain⟨r,hr,rfl⟩:=h.at_
  obtain⟨A,_,_,h3⟩:=aB1 hr
  have:=bI1 (d:=fun i=>ns.getD i 0) (bI2 ns.length) (fun i hi=>aa5 h0 hi) A
  rw[h3,t7 (g:=fun i=>ns.getD i 0) (fun i _=>as3 _),aF4]at this
  exact this
theorem Lst.off {mn:Int}(h:Lst ns mn)(h0:AllP ns):0<=am4 ns.sum (-mn) /\ -mn<=am4 ns.sum (-mn)/\am4 ns.sum (-mn)<=ns.sum/\(ns.sum - am4 ns.sum (-mn)) % 2=0:=by
 have:=h.want h0
 unfold am4
 omega
theorem aF1 (L c:Int):abv 0 L c=0:=by
 unfold abv
 by_cases h1:c - L<=0
 ·rw[if_pos h1]
 ·rw[if_neg h1,if_neg h1]
theorem bK1 {M:Int}(hM:∀ x∈ns,x<=M)(h0:AllP ns):(ns.map (abv M 0)).sum=ns.sum:=by
 have:ns.map (abv M 0)=ns:=by
  conv=>rhs;rw[<- aL1 ns]
  refine Q3 fun x hx=>?_
  obtain⟨i,hi⟩:=o7.mp hx
  have:=h0 i x hi
  have:=hM x hx
  unfold abv
  split
  ·omega
  ·rw[if_pos (by omega)];omega
 rw[this]
def ad2 (ns xs:List Int):List Int:=(q0 ns.length).map fun j=>ns.getD j 0 - xs.getD j 0
theorem Z9 (ns xs:List Int):(ad2 ns xs).length=ns.length:=by unfold ad2;rw[b7,y9]
theorem ad1 {xs:List Int}(h:j<ns.length):(ad2 ns xs).getD j 0=ns.getD j 0 - xs.getD j 0:=by
 unfold ad2
 rw[i6,p0,J8 h]
 rfl
theorem bv0 {xs:List Int} {M:Nat} {L mn:Int} (h0:AllP ns) (hM:∀ x∈ns,x<=(M:Int)) (hm:Lst ns mn) (hL:Lvl M ns (am4 ns.sum (-mn)) L) (hx:∀ j,j<ns.length->xs.getD j 0=shx M L ns (am4 ns.sum (-mn) - (ns.map (abv M L)).sum).toNat j) :
  Gr (ad2 ns xs)/\(∀ j,j<ns.length->0<=(ad2 ns xs).getD j 0/\(ad2 ns xs).getD j 0<=ns.getD j 0)/\(ad2 ns xs).sum=ns.sum - am4 ns.sum (-mn):=by
 obtain⟨o0,o1,o2,o3⟩:=hm.off h0
 obtain⟨w0,w1⟩:=hm.want h0
 have hd:∀ i,i<ns.length->0<=ns.getD i 0:=fun i hi=>aa5 h0 hi
 have hle:∀ j,j<ns.length->ns.getD j 0<=(M:Int):=fun j hj=>by
  refine hM _ (f9 (i:=j) ?_)
  rw[i6,g6 hj]
  rfl
 generalize am4 ns.sum (-mn)=a at o0 o1 o2 o3 hL hx ⊢
 have l0:=hL.l0
 obtain⟨x0,xn,lo,hi,xa⟩:(∀ j,j<ns.length->0<=xs.getD j 0)/\(∀ j,j<ns.length->xs.getD j 0<=ns.getD j 0)/\(∀ j,j<ns.length->0<xs.getD j 0->L - 1<=ns.getD j 0 - xs.getD j 0)/\(∀ j,j<ns.length->ns.getD j 0 - xs.getD j 0<=L)/\S ns.length (fun j=>xs.getD j 0)=a:=by
  rw[show S ns.length (fun j=>xs.getD j 0)=S ns.length (shx M L ns (a - (ns.map (abv M L)).sum).toNat) from Grf.t7 hx]
  by_cases hM1:1<=M
  ·have hM1':(1:Int)<=(M:Int):=by omega
   have hA:a<=(ns.map (abv M 0)).sum:=by rw[bK1 hM h0];exact o2
   refine⟨fun j hj=>?_,fun j hj=>?_,fun j hj=>?_,fun j hj=>?_,bD8 hM1' hL hA⟩
   ·rw[hx j hj];exact(as7 hM1' _ hj).1
   ·rw[hx j hj];exact bR9 hM1' hL hA hj (hd j hj)
   ·rw[hx j hj];exact(as7 hM1' _ hj).2.2.1
   ·rw[hx j hj]
    have f:=as7 (L:=L) hM1' (a - (ns.map (abv M L)).sum).toNat hj
    have:=hle j hj
    rcases bB8 (shx M L ns (a - (ns.map (abv M L)).sum).toNat j) M with z | z
    ·exact f.2.2.2 z
    ·omega
  ·have hM0:M=0:=by omega
   subst hM0
   have n0:∀ j,j<ns.length->ns.getD j 0=0:=fun j hj=>by
    have:=hd j hj
    have:=hle j hj
    omega
   have e0:ae0 ((0:Nat):Int) L ns=[]:=by
    unfold ae0
    refine bo9.mpr fun z _=>?_
    show ¬ decide (abv 0 L _<abv 0 (L - 1) _)=true
    rw[aF1,aF1]
    decide
   have z0:∀ k j,shx ((0:Nat):Int) L ns k j=0:=fun k j=>by
    unfold shx aH1
    rw[e0,List.take_nil,if_neg K8]
    show abv 0 L _+0=0
    rw[aF1]
    rfl
   have sm0:ns.sum=0:=by
    rw[<- aF4,Grf.t7 (g:=fun _=>0) n0,Grf.M4]
   refine⟨fun j hj=>?_,fun j hj=>?_,fun j hj h=>?_,fun j hj=>?_,?_⟩
   ·rw[hx j hj,z0];decide
   ·rw[hx j hj,z0,n0 j hj];decide
   ·rw[hx j hj,z0]at h;exact absurd h (by decide)
   ·rw[hx j hj,z0,n0 j hj];omega
   ·rw[Grf.t7 (g:=fun _=>0) (fun j _=>z0 _ j),Grf.M4];omega
 have hsum:S ns.length (fun j=>ns.getD j 0 - xs.getD j 0)=ns.sum - a:=by rw[Grf.F6,aF4,xa]
 have hsl:(ad2 ns xs).sum=ns.sum - a:=by
  rw[<- hsum,<- aF4,Z9]
  exact Grf.t7 fun j hj=>ad1 hj
 have ev:∃ k,S ns.length (fun j=>ns.getD j 0 - xs.getD j 0)=2*k:=⟨(ns.sum - a) / 2,by rw[hsum];omega⟩
 have kk:Kk ns.length 1 (fun j=>ns.getD j 0 - xs.getD j 0):=bu9 (L:=L) (W:=-mn) (d:=fun j=>ns.getD j 0) (x:=fun j=>xs.getD j 0) (fun j hj=>rfl) (fun j hj=>by have:=xn j hj;show 0<=ns.getD j 0 - xs.getD j 0;omega) x0 lo hi
  (bJ2 hd w0 fun r r1 r2 => by
   obtain⟨A,a1,a2,a3⟩:=aB1 r2
   refine⟨A,a1,a2,?_⟩
   rw[a3]
   have:=hm.le r r2
   omega) (by rw[xa];exact o1) ev
 refine⟨bi0 (be3 (bI3 ?_ ?_ ?_)),fun j hj=>?_,hsl⟩
 ·intro j z hz
  have hj:j<ns.length:=by
   rw[<- Z9 ns xs]
   exact(c9.mp hz).1
  have e:=ad1 (xs:=xs) hj
  rw[i6,hz]at e
  have e:z=ns.getD j 0 - xs.getD j 0:=e
  have:=xn j hj
  omega
 ·rw[hsl];omega
 ·rw[Z9]
  intro σ τ h
  have:=kk σ τ h
  have e:fV ns.length 1 (fun i=>(ad2 ns xs).getD i 0) σ τ=fV ns.length 1 (fun j=>ns.getD j 0 - xs.getD j 0) σ τ:=by
   unfold fV
   congr 1
   refine Grf.t7 fun j hj=>?_
   show _*(ad2 ns xs).getD j 0=_
   rw[ad1 hj]
  show fV ns.length 1 (fun i=>(ad2 ns xs).getD i 0) σ τ<=0
  rw[e]
  exact this
 ·rw[ad1 hj]
  have:=xn j hj
  have:=x0 j hj
  omega
end Web
namespace L2
open PySem PySem.Spec PyProof.Rows
structure ZAp (z TI TO i1 i2:Addr) (f1 f2:List Addr):Prop where
 a1:TI≠z
 a2:TO≠z
 a3:i1≠z
 a4:i2≠z
 a5:TI≠TO
 a6:TI≠i1
 a7:TI≠i2
 a8:TO≠i1
 a9:TO≠i2
 b0:i1≠i2
 b1:z∉f1
 b2:z∉f2
 b3:TO∉f1
 b4:TO∉f2
 b5:i1∉f2
 b6:i2∉f1
section
variable {z TI TO i1 i2:Addr} {f1 f2:List Addr} {n1 n2 k:Nat} {P1 P2:Nat->Value->Prop} {S1 S2:Nat->Heap->Prop}
theorem V0 {it:Addr}{P:Nat->Value->Prop}{St:Nat->Heap->Prop}(D:Draws prog w A it fp n P St)(st:St i h)(k:Heap.ExtBut c h h')(hc:c∉fp):St i h':=D.frame i h h' st fun b hb o e=>k b o (fun zz=>hc (zz ▸ hb)) e
theorem bC9 {a b:Value} (D:ZAp z TI TO i1 i2 f1 f2) (D1:Draws prog w A i1 f1 n1 P1 S1) (D2:Draws prog w A i2 f2 n2 P2 S2) (hz:aQ8 s.heap z TI TO .none) (hTI:Y5 s.heap TI (.ref i1) (.ref i2)) (hTO:Y5 s.heap TO a b) (st1:S1 k s.heap) (st2:S2 k s.heap) (hk1:k<n1) (hk2:k<n2)
  (hQ : ∀ x y h' tk, P1 k x -> P2 k y -> aQ8 h' z TI TO (ai0 s.heap.objs.size) -> Y5 h' TO x y -> S1 (k + 1) h' -> S2 (k + 1) h' -> Y5 h' s.heap.objs.size x y -> h'.objs.size = s.heap.objs.size + 1 ->
   (∀ c o,c≠z->c≠TO->c≠i1->c≠i2->s.heap.get? c=some o->h'.get? c=some o)->Q (.ref s.heap.objs.size) { s with heap:=h',toks:=tk }) :
  r6 (t9 prog w) A (Builtin.«zip.__next__» ⟨[.ref z],[]⟩) (fun fin s'=>∃ v,fin=.done (.ret v)/\Q v s') E s:=by
 show r6 _ _ (field (.ref z) 2 >>= _) _ _ _;refine b9 (O5 hz rfl (x:=.bool false) rfl ?_)
 show r6 _ _ (field (.ref z) 3 >>= _) _ _ _;refine b9 (O5 hz rfl (x:=.ref TI) rfl (b9 (G8 hTI rfl ?_)))
 show r6 _ _ (Builtin.SmallTypes.ownedTupleIsFree (.ref z) >>= _) _ _ _;refine b9 ?_;unfold Builtin.SmallTypes.ownedTupleIsFree
 refine b9 (O5 hz rfl (x:=.none) rfl (i8 ?_));simp only[if_true]
 refine b9 (an7 (b9 (O5 hz rfl (x:=.ref TO) rfl (b9 (Y6 hz (by simp) fun hA hzA hsA=>?_)))))
 replace hzA:aQ8 hA z TI TO .ellipsis:=hzA
 refine b9 ?_;simp only[aP4,List.zipIdx_nil,List.forIn_cons,List.forIn_nil]
 refine b9 (b9 (bC6 ?_));show r6 _ _ (Builtin.SmallTypes.nextOf (.ref i1) >>= _) _ _ _
 refine b9 (D1.item k _ _ _ hk1 (V0 D1 st1 hsA.extBut D.b1) fun x hB tB hx stB hsB=>i8 ?_)
 have hTOB:Y5 hB TO a b:=hsB.extBut _ _ D.a8 (hsA.extBut _ _ D.a2 hTO)
 refine b9 (G8 hTOB rfl (b9 (bZ3 hTOB fun hC hTOC hsC=>?_)))
 replace hTOC:Y5 hC TO x b:=hTOC
 refine b9 (ai3 (i8 ?_));refine b9 (b9 (bC6 ?_));show r6 _ _ (Builtin.SmallTypes.nextOf (.ref i2) >>= _) _ _ _
 refine b9 (D2.item k _ _ _ hk2 (V0 D2 (V0 D2 (V0 D2 st2 hsA.extBut D.b2) hsB.extBut D.b5) hsC.extBut D.b4) fun y hD tD hy stD hsD=>i8 ?_)
 have hTOD:Y5 hD TO x b:=hsD.extBut _ _ D.a9 hTOC
 refine b9 (G8 hTOD rfl (b9 (bZ3 hTOD fun hF hTOF hsF=>?_)))
 replace hTOF:Y5 hF TO x y:=hTOF
 refine b9 (ai3 (i8 (i8 (b9 (G8 hTOF rfl (b9 (bp0 ?_)))))))
 have hsz:hF.objs.size=s.heap.objs.size:=by rw[hsF.1,hsD.1,hsC.1,hsB.1,hsA.1]
 have hzF:aQ8 hF z TI TO .ellipsis:=hsF.extBut _ _ D.a2.symm (hsD.extBut _ _ D.a4.symm (hsC.extBut _ _ D.a2.symm (hsB.extBut _ _ D.a3.symm hzA)))
 have hkF:∀ c o,c≠z->c≠TO->c≠i1->c≠i2->s.heap.get? c=some o->hF.get? c=some o:=fun c o c1 c2 c3 c4 e=>hsF.extBut _ _ c2 (hsD.extBut _ _ c4 (hsC.extBut _ _ c2 (hsB.extBut _ _ c3 (hsA.extBut _ _ c1 e))))
 have s1F:S1 (k+1) hF:=V0 D1 (V0 D1 (V0 D1 stB hsC.extBut D.b3) hsD.extBut D.b6) hsF.extBut D.b3
 have s2F:S2 (k+1) hF:=V0 D2 stD hsF.extBut D.b4
 have hzlt:z<hF.objs.size:=c8 hzF
 show r6 _ _ (Builtin.SmallTypes.ownedTupleHandOut (.ref z) (.ref hF.objs.size) >>= _) _ _ _;refine b9 ?_;unfold Builtin.SmallTypes.ownedTupleHandOut
 have hzG:aQ8 (hF.push { cls:=.type "tuple",data:=.seq #[x,y] }) z TI TO .ellipsis:=c5 _ hzF
 refine b9 (Y6 hzG (by simp) fun hJ hzJ hsJ=>?_)
 replace hzJ:aQ8 hJ z TI TO (ai0 hF.objs.size):=hzJ
 refine Y6 hzJ (by simp) fun hL hzL hsL=>?_
 replace hzL:aQ8 hL z TI TO (ai0 hF.objs.size):=hzL
 have up:∀ c o,c≠z->hF.get? c=some o->hL.get? c=some o:=fun c o c1 e=>hsL.extBut _ _ c1 (hsJ.extBut _ _ c1 (c5 _ e))
 have hTL:Y5 hL hF.objs.size x y:=hsL.extBut _ _ (L4 hzlt) (hsJ.extBut _ _ (L4 hzlt) (j0 _ rfl))
 have hzs:hL.objs.size=hF.objs.size+1:=by rw[hsL.1,hsJ.1,B1]
 rw[hsz]at hzL hTL hzs
 refine i8 ⟨_,rfl,?_⟩;show Q (.ref hF.objs.size) _;rw[hsz]
 exact hQ x y hL tD hx hy hzL (up _ _ D.a2 hTOF) (D1.frame _ _ _ s1F fun b hb o e=>up b o (fun q=>D.b1 (q ▸ hb)) e) (D2.frame _ _ _ s2F fun b hb o e=>up b o (fun q=>D.b2 (q ▸ hb)) e) hTL hzs fun c o c1 c2 c3 c4 e=>up c o c1 (hkF c o c1 c2 c3 c4 e)
theorem bQ3 {Q:PySem.Fin->Shared->Prop}{a b:Value}(D:ZAp z TI TO i1 i2 f1 f2)(D1:Draws prog w A i1 f1 n1 P1 S1)(hz:aQ8 s.heap z TI TO .none)(hTI:Y5 s.heap TI (.ref i1) (.ref i2))(hTO:Y5 s.heap TO a b)(st1:S1 n1 s.heap)
  (hE:∀ h' e,(∀ c o,c≠z->c≠TO->c≠i1->c≠i2->s.heap.get? c=some o->h'.get? c=some o)->(∃ o,h'.get? e=some o/\o.cls=.type "StopIteration")->E (.ref e) { s with heap:=h' }) :
  r6 (t9 prog w) A (Builtin.«zip.__next__» ⟨[.ref z],[]⟩) Q E s:=by
 show r6 _ _ (field (.ref z) 2 >>= _) _ _ _;refine b9 (O5 hz rfl (x:=.bool false) rfl ?_)
 show r6 _ _ (field (.ref z) 3 >>= _) _ _ _;refine b9 (O5 hz rfl (x:=.ref TI) rfl (b9 (G8 hTI rfl ?_)))
 show r6 _ _ (Builtin.SmallTypes.ownedTupleIsFree (.ref z) >>= _) _ _ _;refine b9 ?_;unfold Builtin.SmallTypes.ownedTupleIsFree
 refine b9 (O5 hz rfl (x:=.none) rfl (i8 ?_));simp only[if_true]
 refine b9 (an7 (b9 (O5 hz rfl (x:=.ref TO) rfl (b9 (Y6 hz (by simp) fun hA hzA hsA=>?_)))))
 replace hzA:aQ8 hA z TI TO .ellipsis:=hzA
 refine b9 ?_;simp only[aP4,List.zipIdx_nil,List.forIn_cons,List.forIn_nil]
 refine b9 (b9 (bC6 ?_));show r6 _ _ (Builtin.SmallTypes.nextOf (.ref i1) >>= _) _ _ _
 refine b9 (D1.done _ _ _ (V0 D1 st1 hsA.extBut D.b1) fun hB e hsB he=>?_)
 obtain⟨oe,hoe,hce⟩:=he
 have hzB:aQ8 hB z TI TO .ellipsis:=hsB _ _ D.a3.symm hzA
 have hez:e≠z:=fun x=>by subst x;rw[hzB]at hoe;cases hoe;simp at hce
 exact Y6 hzB (by simp) fun hC _ hsC=>hE hC e (fun c o c1 _ c3 _ x=>hsC.extBut _ _ c1 (hsB _ _ c3 (hsA.extBut _ _ c1 x))) ⟨oe,hsC.extBut _ _ hez hoe,hce⟩
theorem bC7 {Q:Option Value->Shared->Prop} {a b:Value} (D:ZAp z TI TO i1 i2 f1 f2) (D1:Draws prog w A.in1 i1 f1 n1 P1 S1) (D2:Draws prog w A.in1 i2 f2 n2 P2 S2) (hz:aQ8 s.heap z TI TO .none) (hTI:Y5 s.heap TI (.ref i1) (.ref i2)) (hTO:Y5 s.heap TO a b) (st1:S1 k s.heap) (st2:S2 k s.heap) (hk1:k<n1) (hk2:k<n2)
  (hQ : ∀ x y h' tk, P1 k x -> P2 k y -> aQ8 h' z TI TO (ai0 s.heap.objs.size) -> Y5 h' TO x y -> S1 (k + 1) h' -> S2 (k + 1) h' -> Y5 h' s.heap.objs.size x y -> h'.objs.size = s.heap.objs.size + 1 ->
   (∀ c o,c≠z->c≠TO->c≠i1->c≠i2->s.heap.get? c=some o->h'.get? c=some o)->Q (some (.ref s.heap.objs.size)) { s with heap:=h',toks:=tk }):r6 (t9 prog w) A (aL3 (.ref z)) Q E s:=by
 have hT:s.TypeIs (.ref z) "zip":=⟨_,hz,rfl⟩;unfold aL3
 refine b9 (aL6 (Y4 (name:=Str.ofString "__next__") hT F.slot_zip_next (ac8 F.slot_zip_next hT F.entry_zip_next ?_ (F.args_zip_next_1 _))))
 exact bC9 D D1 D2 hz hTI hTO st1 st2 hk1 hk2 fun x y h' tk a0 a1 a2 a3 a4 a5 a6 a7 a8=>i8 (hQ x y h' tk a0 a1 a2 a3 a4 a5 a6 a7 a8)
theorem bC8 {Q:Option Value->Shared->Prop}{a b:Value}(D:ZAp z TI TO i1 i2 f1 f2)(D1:Draws prog w A.in1 i1 f1 n1 P1 S1)(hz:aQ8 s.heap z TI TO .none)(hTI:Y5 s.heap TI (.ref i1) (.ref i2))(hTO:Y5 s.heap TO a b)(st1:S1 n1 s.heap)
  (hQ:∀ h',(∀ c o,c≠z->c≠TO->c≠i1->c≠i2->s.heap.get? c=some o->h'.get? c=some o)->Q none { s with heap:=h' }):r6 (t9 prog w) A (aL3 (.ref z)) Q E s:=by
 have hT:s.TypeIs (.ref z) "zip":=⟨_,hz,rfl⟩;unfold aL3
 refine b9 (aL6 (Y4 (name:=Str.ofString "__next__") hT F.slot_zip_next (ac8 F.slot_zip_next hT F.entry_zip_next (bQ3 D D1 hz hTI hTO st1 fun h' e hk he=>?_) (F.args_zip_next_1 _))))
 obtain⟨o,ho,hc⟩:=he
 exact b9 (wpAny_isInstance (T:="StopIteration") (b:=true) ⟨o,ho,hc⟩ isSubtype_stop (i8 (hQ _ hk)))
end
abbrev zA (h:Heap)(p:Addr):Heap:=h.push { cls:=.type "list_iterator",data:=.fields #[.ref p,.int 0 0] }
theorem bi1 {o:Obj}(I:Inv X pins σ H s)(f:Q2 X pins H c)(lk:X.K.lookup a=some o):a≠c:=fun z=>by
 have e:=I.ok.mod.kin a o lk
 rw[z]at e
 rcases f.2.2.2.1 with h | h
 ·exact I.ok.noex c o e h
 ·exact absurd (o9 (c8 e) (A1 I.ok.bsz h)) (A9 _)
theorem cj2 (I:Inv X pins σ H s)(f:Q2 X pins H c)(q:SqL X.K H a xs):a≠c:=by
 rcases q with(q | ⟨o,q⟩) | ⟨o,its,n,lk,_⟩
 ·exact o8 q f.1
 ·exact o8 q f.1
 ·exact bi1 I f lk
theorem cj1 (I:Inv X pins σ H s)(f:Q2 X pins H c)(q:SqT X.K H a xs):a≠c:=by
 rcases q with(q | ⟨o,q⟩) | ⟨o,its,n,lk,_⟩
 ·exact o8 q f.1
 ·exact o8 q f.1
 ·exact bi1 I f lk
theorem Inv.tupled (I:Inv X pins σ H s)(hf:∀ b∈fp,Q2 X pins H b)(kp:∀ b o,b∉fp->s.heap.get? b=some o->h'.get? b=some o)
  (ht:h'.get? s.heap.objs.size=some { cls:=.type "tuple",data:=.seq its.toArray })(rv:D6 xs its)(hl:xs.length<=j5):Inv X pins σ (upd H s.heap.objs.size (.tup xs)) { s with heap:=h',toks:=t' }:=by
 have hT:H s.heap.objs.size=none:=I.hok.fresh (d5 _)
 have nH:∀ b o,H b=some o->b∉fp:=fun b o q hb=>by rw[(hf b hb).1]at q;cases q
 have keepH:∀ b o,H b=some o->upd H s.heap.objs.size (.tup xs) b=some o:=fun b o q=>by rw[r9 (o8 q hT)];exact q
 have hok2:HOk X.prog X.w (upd H s.heap.objs.size (.tup xs)) h':=fun b o eb=>by
  by_cases hb:b=s.heap.objs.size
  ·subst hb
   rw[c6]at eb
   cases eb
   exact⟨hl,its,rv,⟨_,ht,rfl,_,rfl⟩⟩
  ·rw[r9 hb]at eb
   refine(I.hok b o eb).stay (fun c v hcc q=>kp c v ?_ q) (fun c q=>keepH c _ q) fun c ys q=>keepH c _ q
   rcases hcc with z | z
   ·exact nH c o (by rw[z];exact eb)
   ·exact nH c _ z
 refine I.step (g':=s.gens) (d':=s.drawn) (t':=t') (ch:=fp) (fun b hb=>?_) (fun b o _ _ hcc q _=>kp b o hcc q) (fun b o _ _ hcc q _=>⟨o.slots,kp b o hcc q⟩) (fun b o _ q n=>?_) (fun b o hcc q=>⟨o,kp b o hcc q⟩) (fun b ys q=>keepH b _ q) (fun b o v q=>keepH b _ q) (fun b ps q=>⟨#[],by rw[keepH b _ q];simp⟩) (fun m hm=>?_) hok2 I.bare
 ·obtain⟨f0,f1,f2,f3,f4,f5⟩:=hf b hb
  exact⟨f3,f1,f4,f5⟩
 ·rw[r9 (k7 (c8 q))]
  exact n
 ·obtain⟨o,es,ep,ho,r⟩:=hm
  exact⟨o,es,ep,kp _ o (fun hb=>(hf _ hb).2.1 rfl) ho,r⟩
theorem Inv.turns (I:Inv X pins σ H s)(hf:∀ b∈fp,Q2 X pins H b)(kp:∀ b o,b∉fp->s.heap.get? b=some o->h'.get? b=some o):Inv X pins σ H { s with heap:=h',toks:=t' }:=by
 have nH:∀ b o,H b=some o->b∉fp:=fun b o q hb=>by rw[(hf b hb).1]at q;cases q
 refine I.step (g':=s.gens) (d':=s.drawn) (t':=t') (ch:=fp) (fun b hb=>?_) (fun b o _ _ hcc q _=>kp b o hcc q) (fun b o _ _ hcc q _=>⟨o.slots,kp b o hcc q⟩) (fun b o _ q n=>n) (fun b o hcc q=>⟨o,kp b o hcc q⟩) (fun b ys q=>q) (fun b o v q=>q) (fun b ps q=>⟨#[],by rw[q];simp⟩) (fun m hm=>?_) (fun b o eb=>?_) I.bare
 ·obtain⟨f0,f1,f2,f3,f4,f5⟩:=hf b hb
  exact⟨f3,f1,f4,f5⟩
 ·obtain⟨o,es,ep,ho,r⟩:=hm
  exact⟨o,es,ep,kp _ o (fun hb=>(hf _ hb).2.1 rfl) ho,r⟩
 ·refine(I.hok b o eb).stay (fun c v hcc q=>kp c v ?_ q) (fun c q=>q) fun c ys q=>q
  rcases hcc with z | z
  ·exact nH c o (by rw[z];exact eb)
  ·exact nH c _ z
theorem nd5 (n:Nat):[n+4,n+2,n+3,n,n+1].Nodup:=by
 simp only[E5,d4,N1,or_false,not_or,aw2,not_false_eq_true,and_true]
 omega
theorem ci3 {k:Nat}(h:k∈[n+4,n+2,n+3,n,n+1]):n<=k:=by
 simp only[d4,N1,or_false]at h
 omega
def SqB (b:Bool)(K:W.Frag)(H:Hp)(a:Addr)(xs:List V):Prop:=match b with
 | true=>SqL K H a xs
 | false=>SqT K H a xs
def itB (b:Bool)(h:Heap)(i a:Addr)(k:Nat):Prop:=match b with
 | true=>h.IsListIter i a k
 | false=>h.IsTupleIter i a k
def isQ (b:Bool)(h:Heap)(a:Addr)(xs:Array Value):Prop:=match b with
 | true=>h.IsList a xs
 | false=>h.IsTuple a xs
def nmB (b:Bool):String:=match b with
 | true=>"list_iterator"
 | false=>"tuple_iterator"
theorem itB.obj {b:Bool}{i:Addr}{k:Nat}(q:itB b h i a k):∃ o,h.get? i=some o/\∃ v,o.data=.fields v:=by
 cases b with
 | true=>obtain⟨o,h1,_,h2⟩:=q;exact⟨o,h1,_,h2⟩
 | false=>obtain⟨o,h1,_,h2⟩:=q;exact⟨o,h1,_,h2⟩
theorem itB.at {b:Bool}{i:Addr}{k:Nat}(q:itB b h i a k)(e:∀ o,h.get? i=some o->h'.get? i=some o):itB b h' i a k:=by
 cases b with
 | true=>exact Heap.IsListIter.at q e
 | false=>exact Heap.IsTupleIter.at q e
theorem bc8 (b:Bool)(hh:A.handled=none)(it l:Addr)(hne:l≠it)(items:Array Value):Draws prog w A it [it,l] items.size (fun i v=>items[i]?=some v) (fun i h=>itB b h it l i/\isQ b h l items):=by
 cases b with
 | true=>exact Draws.list hh it l hne items
 | false=>exact au5 hh it l hne items
theorem bX2 {b:Bool}(I:Inv X pins σ H s)(f:Q2 X pins H c)(q:SqB b X.K H a xs):a≠c:=by
 cases b with
 | true=>exact cj2 I f q
 | false=>exact cj1 I f q
theorem Inv.seqB {b:Bool}(I:Inv X pins σ H s)(q:SqB b X.K H a xs):∃ its,D6 xs its/\isQ b s.heap a its.toArray:=by
 cases b with
 | true=>obtain⟨its,rv,pl,_⟩:=I.list q;exact⟨its,rv,pl.isList⟩
 | false=>obtain⟨its,rv,pt,_⟩:=I.tuple q;exact⟨its,rv,pt⟩
theorem Inv.seqB_inj {b:Bool}(I:Inv X pins σ H s)(q:SqB b X.K H a xs)(r:SqB b X.K H a ys):xs=ys:=by
 cases b with
 | true=>exact I.list_inj q r
 | false=>exact I.tuple_inj q r
abbrev xA (b1:Bool)(h:Heap)(p:Addr):Heap:=h.push { cls:=.type (nmB b1),data:=.fields #[.ref p,.int 0 0] }
abbrev xB (b1 b2:Bool)(h:Heap)(p q:Addr):Heap:=(xA b1 h p).push { cls:=.type (nmB b2),data:=.fields #[.ref q,.int 0 0] }
abbrev xC (b1 b2:Bool)(h:Heap)(p q:Addr):Heap:=(xB b1 b2 h p q).push { cls:=.type "tuple",data:=.seq #[.ref h.objs.size,.ref (xA b1 h p).objs.size] }
abbrev xD (b1 b2:Bool)(h:Heap)(p q:Addr):Heap:=(xC b1 b2 h p q).push { cls:=.type "tuple",data:=.seq #[.none,.none] }
abbrev xE (b1 b2:Bool)(h:Heap)(p q:Addr):Heap:=(xD b1 b2 h p q).push { cls:=.type "zip",data:=.fields #[.none,.bool false,.bool false,.ref (xB b1 b2 h p q).objs.size,.ref (xC b1 b2 h p q).objs.size] }
set_option maxHeartbeats 2000000 in
theorem bb8 (b1 b2:Bool)(p q:Addr)(xs ys:Array Value) :
  Meets (Builtin.«zip.__new__» ⟨[.type "zip",.ref p,.ref q],[]⟩) (fun _ R s=>isQ b1 s.heap p xs/\isQ b2 s.heap q ys/\R (.ok (.ret (.ref (xD b1 b2 s.heap p q).objs.size))) { s with heap:=xE b1 b2 s.heap p q }) :=
 .of_wp fun prog w A R s h=>by
  obtain⟨hp,g,d,tk,os⟩:=s;obtain⟨h1,h2,h⟩:=h
  have hsub:=sub_zip
  cases b1 with
  | true =>
   have hL:Heap.IsList (Shared.heap ⟨hp,g,d,tk,os⟩) p xs:=h1
   cases b2 with
   | true =>
    have hT:Heap.IsList (Shared.heap ⟨hp.push { cls:=.type "list_iterator",data:=.fields #[.ref p,.int 0 0] },g,d,tk,os⟩) q ys:=Heap.IsList.push h2 _
    wp_walk using K2 hL,K2 hT
    exact⟨_,rfl,h⟩
   | false =>
    have hT:Heap.IsTuple (Shared.heap ⟨hp.push { cls:=.type "list_iterator",data:=.fields #[.ref p,.int 0 0] },g,d,tk,os⟩) q ys:=Heap.IsTuple.push h2 _
    wp_walk using K2 hL,G9 hT
    exact⟨_,rfl,h⟩
  | false =>
   have hL:Heap.IsTuple (Shared.heap ⟨hp,g,d,tk,os⟩) p xs:=h1
   cases b2 with
   | true =>
    have hT:Heap.IsList (Shared.heap ⟨hp.push { cls:=.type "tuple_iterator",data:=.fields #[.ref p,.int 0 0] },g,d,tk,os⟩) q ys:=Heap.IsList.push h2 _
    wp_walk using G9 hL,K2 hT
    exact⟨_,rfl,h⟩
   | false =>
    have hT:Heap.IsTuple (Shared.heap ⟨hp.push { cls:=.type "tuple_iterator",data:=.fields #[.ref p,.int 0 0] },g,d,tk,os⟩) q ys:=Heap.IsTuple.push h2 _
    wp_walk using G9 hL,G9 hT
    exact⟨_,rfl,h⟩
theorem ay6 {b:Bool}{i p:Addr}(e:h.get? i=some { cls:=.type (nmB b),data:=.fields #[.ref p,.int 0 0] }):itB b h i p 0:=by
 cases b with
 | true=>exact⟨_,e,rfl,rfl⟩
 | false=>exact⟨_,e,rfl,rfl⟩
theorem bn8 {b1 b2:Bool} {p q:Addr} {xs ys:Array Value} (h1:isQ b1 s.heap p xs) (h2:isQ b2 s.heap q ys)
  (h : ∀ h', aQ8 h' (s.heap.objs.size + 4) (s.heap.objs.size + 2) (s.heap.objs.size + 3) .none -> Y5 h' (s.heap.objs.size + 2) (.ref s.heap.objs.size) (.ref (s.heap.objs.size + 1)) -> Y5 h' (s.heap.objs.size + 3) .none .none -> itB b1 h' s.heap.objs.size p 0 ->
   itB b2 h' (s.heap.objs.size+1) q 0->h'.objs.size=s.heap.objs.size+5->(∀ c o,s.heap.get? c=some o->h'.get? c=some o)->Q (.ref (s.heap.objs.size+4)) { s with heap:=h' }) :
  r6 (t9 prog w) A (call (.type "zip") [.ref p,.ref q]) Q E s:=by
 refine callType_new F.called_zip (by decide) (F.typeCall_zip_2 _ _) (F.newCall_zip_2 _ _) (fun obj=>F.args_object_init_3 obj _ _) F.entry_zip_new (bb8 b1 b2 p q xs ys) ⟨h1,h2,?_⟩
 have y1:(xA b1 s.heap p).objs.size=s.heap.objs.size+1:=B1 ..
 have y2:(xB b1 b2 s.heap p q).objs.size=s.heap.objs.size+2:=by rw[B1,y1]
 have y3:(xC b1 b2 s.heap p q).objs.size=s.heap.objs.size+3:=by rw[B1,y2]
 have y4:(xD b1 b2 s.heap p q).objs.size=s.heap.objs.size+4:=by rw[B1,y3]
 have y5:(xE b1 b2 s.heap p q).objs.size=s.heap.objs.size+5:=by rw[B1,y4]
 have p1:∀ {hh:Heap} {o:Obj} {b:Addr} {u:Obj},hh.get? b=some u->(hh.push o).get? b=some u:=fun e=>c5 _ e
 have g5:(xE b1 b2 s.heap p q).get? (xD b1 b2 s.heap p q).objs.size=some _:=j0 _ rfl
 have g4:(xE b1 b2 s.heap p q).get? (xC b1 b2 s.heap p q).objs.size=some _:=p1 (j0 _ rfl)
 have g3:(xE b1 b2 s.heap p q).get? (xB b1 b2 s.heap p q).objs.size=some _:=p1 (p1 (j0 _ rfl))
 have g2:(xE b1 b2 s.heap p q).get? (xA b1 s.heap p).objs.size=some _:=p1 (p1 (p1 (j0 _ rfl)))
 have g1:(xE b1 b2 s.heap p q).get? s.heap.objs.size=some _:=p1 (p1 (p1 (p1 (j0 _ rfl))))
 show _/\_
 rw[y2,y3,y4]at g5;rw[y1,y2]at g3;rw[y3]at g4;rw[y1]at g2;rw[y4]
 exact⟨⟨_,g5,rfl⟩,h _ g5 g3 g4 (ay6 g1) (ay6 g2) y5 fun c o x=>p1 (p1 (p1 (p1 (p1 x))))⟩
def bA6 (b1 b2:Bool)(K:W.Frag)(a b:Addr):It:=
 ⟨fun i H=>∃ xs ys x y,SqB b1 K H a xs/\SqB b2 K H b ys/\xs[i]?=some x/\ys[i]?=some y,fun i H x H'=>∃ t u v,H t=none/\x=.ref t/\(∀ xs,SqB b1 K H a xs->xs[i]?=some u)/\(∀ ys,SqB b2 K H b ys->ys[i]?=some v)/\H'=upd H t (.tup [u,v]),fun i H=>∃ xs,SqB b1 K H a xs/\xs.length=i⟩
def ce4 (K:W.Frag)(ta:TA):TI:=fun σ H R=>ta σ H fun vs H1=>∃ (b1 b2:Bool) (a b:Addr),vs=[.ref a,.ref b]/\(∃ xs,SqB b1 K H1 a xs)/\(∃ ys,SqB b2 K H1 b ys)/\R (bA6 b1 b2 K a b) H1
theorem bk8 {b1 b2:Bool}{K:W.Frag}{x1:Nat}(a b z TI TO i1 i2:Addr)(nd:[z,TI,TO,i1,i2].Nodup) :
  Turn P w K (.Tuple elts x1 pos) (bA6 b1 b2 K a b) [z,TI,TO,i1,i2] z (fun i h=>aQ8 h z TI TO .none/\Y5 h TI (.ref i1) (.ref i2)/\(∃ x y,Y5 h TO x y)/\itB b1 h i1 a i/\itB b2 h i2 b i) where
 mem:=by simp
 obj:=fun i h st c hc=>by
  obtain⟨hz,hTI,⟨x,y,hTO⟩,h1,h2⟩:=st
  obtain⟨o1,ho1,v1,hd1⟩:=h1.obj
  obtain⟨o2,ho2,v2,hd2⟩:=h2.obj
  simp only[d4,N1,or_false]at hc
  rcases hc with rfl | rfl | rfl | rfl | rfl
  ·exact⟨_,hz,fun v q=>by cases q⟩
  ·exact⟨_,hTI,fun v q=>by cases q⟩
  ·exact⟨_,hTO,fun v q=>by cases q⟩
  ·exact⟨o1,ho1,fun v q=>by rw[hd1]at q;cases q⟩
  ·exact⟨o2,ho2,fun v q=>by rw[hd2]at q;cases q⟩
 keep:=fun i h h' st k=>by
  obtain⟨hz,hTI,⟨x,y,hTO⟩,h1,h2⟩:=st
  exact⟨k z (by simp) _ hz,k TI (by simp) _ hTI,⟨x,y,k TO (by simp) _ hTO⟩,h1.at fun o q=>k i1 (by simp) o q,h2.at fun o q=>k i2 (by simp) o q⟩
 item:=by
  intro X hP hw hK hc i pins s σ H E I hf st hg
  subst hP hw hK
  obtain⟨xs,ys,x,y,q1,q2,hx,hy⟩:=hg
  obtain⟨hz,hTI,⟨o1,o2,hTO⟩,h1,h2⟩:=st
  obtain⟨its,rv,pl⟩:=I.seqB q1
  obtain⟨jts,rw',pt⟩:=I.seqB q2
  obtain⟨u,hu,ru⟩:=rv.get hx
  obtain⟨v,hv,rv'⟩:=rw'.get hy
  have fa:∀ c∈[z,TI,TO,i1,i2],a≠c:=fun c hc=>bX2 I (hf c hc) q1
  have fb:∀ c∈[z,TI,TO,i1,i2],b≠c:=fun c hc=>bX2 I (hf c hc) q2
  have hl1:isQ b1 s.heap a its.toArray:=pl
  have hl2:isQ b2 s.heap b jts.toArray:=pt
  have ui:its.toArray[i]?=some u:=by simpa using hu
  have vi:jts.toArray[i]?=some v:=by simpa using hv
  have lt1:i<its.toArray.size:=by
   rcases B0 i its.toArray.size with h | h
   ·exact h
   ·rw[an4 h]at ui;cases ui
  have lt2:i<jts.toArray.size:=by
   rcases B0 i jts.toArray.size with h | h
   ·exact h
   ·rw[an4 h]at vi;cases vi
  simp only[E5,d4,N1,or_false,not_or]at nd
  obtain⟨⟨n1,n2,n3,n4⟩,⟨n5,n6,n7⟩,⟨n8,n9⟩,n10,_⟩:=nd
  have ap:ZAp z TI TO i1 i2 [i1,a] [i2,b]:=by
   refine⟨Ne.symm n1,Ne.symm n2,Ne.symm n3,Ne.symm n4,n5,n6,n7,n8,n9,n10,?_,?_,?_,?_,?_,?_⟩
   ·simp[n3,Ne.symm (fa z (by simp))]
   ·simp[n4,Ne.symm (fb z (by simp))]
   ·simp[n8,Ne.symm (fa TO (by simp))]
   ·simp[n9,Ne.symm (fb TO (by simp))]
   ·simp[n10,Ne.symm (fb i1 (by simp))]
   ·simp[Ne.symm n10,Ne.symm (fa i2 (by simp))]
  refine bC7 (k:=i) ap (bc8 b1 (A:=X.A.in1) (I.ok.hd hc) i1 a (fa i1 (by simp)) its.toArray) (bc8 b2 (A:=X.A.in1) (I.ok.hd hc) i2 b (fb i2 (by simp)) jts.toArray) hz hTI hTO ⟨h1,hl1⟩ ⟨h2,hl2⟩ lt1 lt2 fun x' y' hA tk px py hzo hTOo st1 st2 hT hsz hk=>?_
  obtain rfl:u=x':=by have:=ui.symm.trans px;cases this;rfl
  obtain rfl:v=y':=by have:=vi.symm.trans py;cases this;rfl
  refine⟨_,rfl,?_⟩
  refine wpAny_letOwnedTupleGo_zip hzo fun hB hzB hsB=>?_
  have hsB':Heap.SameBut z hA hB:=hsB
  have zlt:z<s.heap.objs.size:=c8 hz
  have up:∀ c o,c≠z->hA.get? c=some o->hB.get? c=some o:=fun c o c1 e=>(hsB'.2 c c1).trans e
  have kp:∀ c o,c∉[z,TI,TO,i1,i2]->s.heap.get? c=some o->hB.get? c=some o:=fun c o hc e=>by
   simp only[d4,N1,or_false,not_or]at hc
   exact up c o hc.1 (hk c o hc.1 hc.2.2.1 hc.2.2.2.1 hc.2.2.2.2 e)
  have I2:Inv X pins σ (upd H s.heap.objs.size (.tup [x,y])) { s with heap:=hB,toks:=tk }:=I.tupled (its:=[u,v]) hf kp (up _ _ (L4 zlt) hT) (.cons ru (.cons rv' .nil)) (by show 2<=j5;decide)
  have hTn:H s.heap.objs.size=none:=I.hok.fresh (d5 _)
  refine⟨.ref s.heap.objs.size,_,I2,rfl,⟨s.heap.objs.size,x,y,hTn,rfl,fun zs hq=>by rw[I.seqB_inj hq q1];exact hx,fun zs hq=>by rw[I.seqB_inj hq q2];exact hy,rfl⟩,⟨hzB,?_,⟨u,v,up _ _ (Ne.symm n2) hTOo⟩,st1.1.at fun o e=>up i1 o (Ne.symm n3) e,st2.1.at fun o e=>up i2 o (Ne.symm n4) e⟩,fun c hc=>?_⟩
  ·exact up _ _ (Ne.symm n1) (hk _ _ (Ne.symm n1) n5 n6 n7 hTI)
  ·have lt:c<s.heap.objs.size:=by
    simp only[d4,N1,or_false]at hc
    rcases hc with rfl | rfl | rfl | rfl | rfl
    ·exact zlt
    ·exact c8 hTI
    ·exact c8 hTO
    ·obtain⟨o,ho,_⟩:=h1.obj;exact c8 ho
    ·obtain⟨o,ho,_⟩:=h2.obj;exact c8 ho
   rw[r9 (k7 lt)]
   exact(hf c hc).1
 done:=by
  intro X hP hw hK hc i pins s σ H E I hf st hg
  subst hP hw hK
  obtain⟨xs,q1,hx⟩:=hg
  obtain⟨hz,hTI,⟨o1,o2,hTO⟩,h1,h2⟩:=st
  obtain⟨its,rv,pl⟩:=I.seqB q1
  have hl:=rv.length
  have fa:∀ c∈[z,TI,TO,i1,i2],a≠c:=fun c hc=>bX2 I (hf c hc) q1
  simp only[E5,d4,N1,or_false,not_or]at nd
  obtain⟨⟨n1,n2,n3,n4⟩,⟨n5,n6,n7⟩,⟨n8,n9⟩,n10,_⟩:=nd
  have ap:ZAp z TI TO i1 i2 [i1,a] [i2]:=by
   refine⟨Ne.symm n1,Ne.symm n2,Ne.symm n3,Ne.symm n4,n5,n6,n7,n8,n9,n10,?_,?_,?_,?_,?_,?_⟩
   ·simp[n3,Ne.symm (fa z (by simp))]
   ·simp[n4]
   ·simp[n8,Ne.symm (fa TO (by simp))]
   ·simp[n9]
   ·simp[n10]
   ·simp[Ne.symm n10,Ne.symm (fa i2 (by simp))]
  have ei:i=its.toArray.size:=by rw[d6];omega
  refine bC8 ap (bc8 b1 (A:=X.A.in1) (I.ok.hd hc) i1 a (fa i1 (by simp)) its.toArray) hz hTI hTO ⟨by rw[<- ei];exact h1,pl⟩ fun h' hk=>⟨rfl,I.turns (t':=s.toks) hf fun c o hc' e=>?_⟩
  simp only[d4,N1,or_false,not_or]at hc'
  exact hk c o hc'.1 hc'.2.2.1 hc'.2.2.2.1 hc'.2.2.2.2 e
 self:=fun _ _ _ _ _ st h=>wpAny_pyIter_zip st.1 h
theorem bg4 {a b:Expr}{ta:TA}{x1:Nat}{tpos p:Pos}(hg:Gl X "zip")(hm:X.mg "zip"=none)(ha:PA X [a,b] ta)(hv:L9 "zip"=some (.type "zip"):=by rfl)(hs:u5 [a,b] X.env=(false,eval a X.env)::u5 [b] X.env:=by rfl)(hpl:(S4 pos (u5 [b] X.env)).any (·.1)=false:=by rfl) :
  PI X (.Tuple elts x1 tpos) (.Call (.Name "zip" p) [a,b] [] pos) (ce4 X.K ta):=by
 intro pins s σ H R I h
 refine Call_ (X8 I hg hm hv (PyProof.Rows.callWith_type1 (thn (ha pos pins s σ H _ I h) fun us s1 ⟨vs,H1,I1,r1,q1⟩=>?_) hs hpl))
 obtain⟨b1,b2,c,d,e,⟨xs,hq⟩,⟨ys,hq2⟩,q⟩:=q1
 subst e
 obtain⟨u,v,rfl,rx,ry⟩:=vals2 r1
 cases rx
 cases ry
 obtain⟨its,rv,pl⟩:=I1.seqB hq
 obtain⟨jts,rv2,pt⟩:=I1.seqB hq2
 refine bn8 pl pt fun h' gz gTI gTO g1 g2 hsz kp=>?_
 refine wpAny_pyIter_zip gz ?_
 refine⟨s1.heap.objs.size+4,[s1.heap.objs.size+4,s1.heap.objs.size+2,s1.heap.objs.size+3,s1.heap.objs.size,s1.heap.objs.size+1],_,_,H1,rfl,I1.kept (t':=s1.toks) kp,bk8 c d (s1.heap.objs.size+4) (s1.heap.objs.size+2) (s1.heap.objs.size+3) s1.heap.objs.size (s1.heap.objs.size+1) ?_,⟨gz,gTI,⟨_,_,gTO⟩,g1,g2⟩,fun k hk=>?_,q⟩
 ·exact nd5 _
 ·have:=ci3 hk
  exact I1.fpOk this (I1.hok.fresh this)
theorem aK0 {b1 b2:Bool}{K:W.Frag}{b D:Addr}{zs:List V}{g:TG}{tt:TT}{σ0:St}{H0:Hp}(hyz:ys.length=zs.length)(Pv:Nat->List V->St->Hp->Prop)(h0:Pv 0 [] σ0 H0)(hz:ys.length<=j5)(hl:∀ i xs σ H,i<=ys.length->Pv i xs σ H->SqB b1 K H a ys/\SqB b2 K H b zs/\H D=some (.lst xs)/\xs.length<=i)
  (hs:∀ i xs x y t σ H (N:List V->St->Hp->Prop),(∀ xs' σ' H',Pv (i+1) xs' σ' H'->N xs' σ' H')->ys[i]?=some x->zs[i]?=some y->Pv i xs σ H->H t=none->g (.ref t) σ (upd H t (.tup [x,y])) fun σ2 H2=>tt σ2 H2 fun b H3=>if b=true then te σ2 H3 fun v H4=>H4 D=some (.lst xs)/\N (xs++[v]) σ2 (upd H4 D (.lst (xs++[v]))) else N xs σ2 H3)
  (hd:∀ xs σ H,Pv ys.length xs σ H->Qd H) :
  ∃ W:Nat->Nat->List V->St->Hp->Prop,(∃ m,W 0 m [] σ0 H0)/\∀ i m xs σ' H',W i m xs σ' H'->H' D=some (.lst xs)/\(((bA6 b1 b2 K a b).stop i H'/\Qd H')\/((bA6 b1 b2 K a b).go i H'/\xs.length<j5/\∀ x H'',(bA6 b1 b2 K a b).yld i H' x H''->g x σ' H'' fun σ2 H2=>tt σ2 H2 fun b H3 =>
   if b=true then te σ2 H3 fun v H4=>H4 D=some (.lst xs)/\∃ m',m'<m/\W (i+1) m' (xs++[v]) σ2 (upd H4 D (.lst (xs++[v]))) else ∃ m',m'<m/\W (i+1) m' xs σ2 H3)):=by
 refine⟨fun i m xs σ H=>m=ys.length - i/\i<=ys.length/\Pv i xs σ H,⟨ys.length,by simp,u4 _,h0⟩,?_⟩
 rintro i m xs σ H ⟨rfl,hi,p⟩
 obtain⟨q1,q2,hD,hx⟩:=hl i xs σ H hi p
 refine⟨hD,?_⟩
 by_cases hlt:i<ys.length
 ·refine .inr ⟨⟨ys,zs,ys[i],zs[i],q1,q2,by simp[hlt],by simp[hyz ▸ hlt]⟩,by omega,fun x H'' y=>?_⟩
  obtain⟨t,u,v,ht,e,hu,hv,e'⟩:=y
  subst e e'
  exact hs i xs u v t σ _ (fun zs σ' H'=>∃ m',m'<ys.length - i/\m'=ys.length - (i+1)/\i+1<=ys.length/\Pv (i+1) zs σ' H') (fun zs σ' H' r=>⟨_,by omega,rfl,hlt,r⟩) (hu ys q1) (hv zs q2) p ht
 ·obtain rfl:i=ys.length:=by omega
  exact .inl ⟨⟨ys,q1,rfl⟩,hd xs σ H p⟩
theorem bg5 {it:Expr}{w1 w2:TI}(h1:PI X tg it w1)(h2:PI X tg it w2):PI X tg it (fun σ H R=>w1 σ H R\/w2 σ H R):=
 fun pins s σ H R I h=>h.elim (h1 pins s σ H R I) (h2 pins s σ H R I)
theorem aK2 (hc:X.calm=true):U2 X (.builtin "sum") (fun xs H Q=>∃ (p:Addr) (ns:List Int),xs=[.ref p]/\(SqL X.K H p (ns.map V.int)\/SqT X.K H p (ns.map V.int))/\Q (.int ns.sum) H) :=
 fun pins s σ H xs us Q I r ⟨p,ns,e,hq,q⟩=>hq.elim (fun h=>ae2 hc pins s σ H xs us Q I r ⟨p,ns,e,h,q⟩) fun h=>bn9 hc pins s σ H xs us Q I r ⟨p,ns,e,h,q⟩
theorem aE4 {D:Addr}{J:It}{S:Hp->Prop}{g:TG}{tt:TT}{σ0:St}{H0:Hp}
  (hst:∀ i H,S H->ys.length=i->J.stop i H)(hgo:∀ i H,S H->i<ys.length->J.go i H)(hy:∀ i H x H'',S H->J.yld i H x H''->∃ (t:Addr) (v:V),H t=none/\x=.ref t/\ys[i]?=some v/\H''=upd H t (.tup [.int i,v]))
  (Pv:Nat->List V->St->Hp->Prop)(h0:Pv 0 [] σ0 H0)(hz:ys.length<=j5)(hl:∀ i xs σ H,i<=ys.length->Pv i xs σ H->S H/\H D=some (.lst xs)/\xs.length<=i)
  (hs:∀ i xs x t σ H (N:List V->St->Hp->Prop),(∀ xs' σ' H',Pv (i+1) xs' σ' H'->N xs' σ' H')->ys[i]?=some x->Pv i xs σ H->H t=none->g (.ref t) σ (upd H t (.tup [.int i,x])) fun σ2 H2=>tt σ2 H2 fun b H3=>if b=true then te σ2 H3 fun v H4=>H4 D=some (.lst xs)/\N (xs++[v]) σ2 (upd H4 D (.lst (xs++[v]))) else N xs σ2 H3)
  (hd:∀ xs σ H,Pv ys.length xs σ H->Qd H) :
  ∃ W:Nat->Nat->List V->St->Hp->Prop,(∃ m,W 0 m [] σ0 H0)/\∀ i m xs σ' H',W i m xs σ' H'->H' D=some (.lst xs)/\((J.stop i H'/\Qd H')\/(J.go i H'/\xs.length<j5/\∀ x H'',J.yld i H' x H''->g x σ' H'' fun σ2 H2=>tt σ2 H2 fun b H3 =>
   if b=true then te σ2 H3 fun v H4=>H4 D=some (.lst xs)/\∃ m',m'<m/\W (i+1) m' (xs++[v]) σ2 (upd H4 D (.lst (xs++[v]))) else ∃ m',m'<m/\W (i+1) m' xs σ2 H3)):=by
 refine⟨fun i m xs σ H=>m=ys.length - i/\i<=ys.length/\Pv i xs σ H,⟨ys.length,by simp,u4 _,h0⟩,?_⟩
 rintro i m xs σ H ⟨rfl,hi,p⟩
 obtain⟨q,hD,hx⟩:=hl i xs σ H hi p
 refine⟨hD,?_⟩
 by_cases hlt:i<ys.length
 ·refine .inr ⟨hgo i H q hlt,by omega,fun x H'' y=>?_⟩
  obtain⟨t,v,ht,e,hv,e'⟩:=hy i H x H'' q y
  subst e e'
  exact hs i xs v t σ _ (fun zs σ' H'=>∃ m',m'<ys.length - i/\m'=ys.length - (i+1)/\i+1<=ys.length/\Pv (i+1) zs σ' H') (fun zs σ' H' r=>⟨_,by omega,rfl,hlt,r⟩) hv p ht
 ·have e:i=ys.length:=by omega
  subst e
  exact .inl ⟨hst _ H q rfl,hd xs σ H p⟩
theorem bW0 {K:W.Frag}(i:Nat)(H:Hp)(q:SqL K H a ys)(h:ys.length=i):(Itn K a).stop i H:=⟨ys,q,as1 h⟩
theorem bW1 {K:W.Frag}(i:Nat)(H:Hp)(q:SqL K H a ys)(h:i<ys.length):(Itn K a).go i H:=⟨ys,ys[i],q,by simp[h]⟩
theorem ce2 {K:W.Frag}(i:Nat)(H:Hp)(x:V)(H'':Hp)(q:SqL K H a ys)(y:(Itn K a).yld i H x H''):∃ (t:Addr) (v:V),H t=none/\x=.ref t/\ys[i]?=some v/\H''=upd H t (.tup [.int i,v]):=by
 obtain⟨t,v,ht,e,hv,e'⟩:=y
 exact⟨t,v,ht,e,hv ys q,e'⟩
theorem bW2 {K:W.Frag}(i:Nat)(H:Hp)(q:SqT K H a ys)(h:ys.length=i):(Itm K a).stop i H:=⟨ys,q,h⟩
theorem bW3 {K:W.Frag}(i:Nat)(H:Hp)(q:SqT K H a ys)(h:i<ys.length):(Itm K a).go i H:=⟨ys,ys[i],q,by simp[h]⟩
theorem ce3 {K:W.Frag}(i:Nat)(H:Hp)(x:V)(H'':Hp)(q:SqT K H a ys)(y:(Itm K a).yld i H x H''):∃ (t:Addr) (v:V),H t=none/\x=.ref t/\ys[i]?=some v/\H''=upd H t (.tup [.int i,v]):=by
 obtain⟨t,v,ht,e,hv,e'⟩:=y
 exact⟨t,v,ht,e,hv ys q,e'⟩
theorem aE3 {K:W.Frag} {g:TG} {tt:TT} {Qd:Addr->Hp->Prop} {σ0:St} (hS:SqL K H a ys\/SqT K H a ys) (hz:ys.length<=j5)
  (Pv:Addr->Nat->List V->St->Hp->Prop) (h0:∀ D,H D=none->Pv D 0 [] σ0 (upd H D (.lst []))) (hl:∀ D i xs σ H',H D=none->i<=ys.length->Pv D i xs σ H'->u9 H H'/\H' D=some (.lst xs)/\xs.length<=i)
  (hs:∀ D i xs x t σ H' (N:List V->St->Hp->Prop),H D=none->(∀ xs' σ' H'',Pv D (i+1) xs' σ' H''->N xs' σ' H'')->ys[i]?=some x->Pv D i xs σ H'->H' t=none->g (.ref t) σ (upd H' t (.tup [.int i,x])) fun σ2 H2=>tt σ2 H2 fun b H3=>if b=true then te σ2 H3 fun v H4=>H4 D=some (.lst xs)/\N (xs++[v]) σ2 (upd H4 D (.lst (xs++[v]))) else N xs σ2 H3)
  (hd:∀ D xs σ H',H D=none->Pv D ys.length xs σ H'->Qd D H') :
  (∃ b, [V.ref a] = [V.ref b] /\ (∃ xs, SqL K H b xs) /\ ∀ D, H D = none -> ∃ W : Nat -> Nat -> List V -> St -> Hp -> Prop, (∃ m, W 0 m [] σ0 (upd H D (.lst []))) /\ ∀ i m xs σ' H', W i m xs σ' H' -> H' D = some (.lst xs) /\ (((Itn K b).stop i H' /\ Qd D H') \/ ((Itn K b).go i H' /\ xs.length < j5 /\ ∀ x H'', (Itn K b).yld i H' x H'' -> g x σ' H'' fun σ2 H2 => tt σ2 H2 fun b H3 =>
   if b=true then te σ2 H3 fun v H4=>H4 D=some (.lst xs)/\∃ m',m'<m/\W (i+1) m' (xs++[v]) σ2 (upd H4 D (.lst (xs++[v]))) else ∃ m',m'<m/\W (i+1) m' xs σ2 H3))) \/
  (∃ b, [V.ref a] = [V.ref b] /\ (∃ xs, SqT K H b xs) /\ ∀ D, H D = none -> ∃ W : Nat -> Nat -> List V -> St -> Hp -> Prop, (∃ m, W 0 m [] σ0 (upd H D (.lst []))) /\ ∀ i m xs σ' H', W i m xs σ' H' -> H' D = some (.lst xs) /\ (((Itm K b).stop i H' /\ Qd D H') \/ ((Itm K b).go i H' /\ xs.length < j5 /\ ∀ x H'', (Itm K b).yld i H' x H'' -> g x σ' H'' fun σ2 H2 => tt σ2 H2 fun b H3 =>
   if b=true then te σ2 H3 fun v H4=>H4 D=some (.lst xs)/\∃ m',m'<m/\W (i+1) m' (xs++[v]) σ2 (upd H4 D (.lst (xs++[v]))) else ∃ m',m'<m/\W (i+1) m' xs σ2 H3))):=by
 rcases hS with hS | hS
 ·exact .inl ⟨a,rfl,⟨_,hS⟩,fun D hD=>aE4 (S:=fun H'=>SqL K H' a ys) bW0 bW1 ce2 (Pv D) (h0 D hD) hz (fun i xs σ H' hi p=>let ⟨s,g,l⟩:=hl D i xs σ H' hD hi p;⟨s.seq hS,g,l⟩) (fun i xs x t σ H' N kN hx p ht=>hs D i xs x t σ H' N hD kN hx p ht) (fun xs σ H' p=>hd D xs σ H' hD p)⟩
 ·exact .inr ⟨a,rfl,⟨_,hS⟩,fun D hD=>aE4 (S:=fun H'=>SqT K H' a ys) bW2 bW3 ce3 (Pv D) (h0 D hD) hz (fun i xs σ H' hi p=>let ⟨s,g,l⟩:=hl D i xs σ H' hD hi p;⟨s.seqT hS,g,l⟩) (fun i xs x t σ H' N kN hx p ht=>hs D i xs x t σ H' N hD kN hx p ht) (fun xs σ H' p=>hd D xs σ H' hD p)⟩
theorem ay2 (K:W.Frag)(hK:X.K=K){k:Nat}{t:TGs}(hc:X.calm=true)(h:PGs X es t)
  (hn:(ag8 es X.env).length=n:=by rfl)(hst:(ag8 es X.env).findIdx? (·.1)=none:=by rfl):PG X (.Tuple es k pos) (cf1 K n t):=by
 subst hK
 exact bb4 hc h hn hst
theorem aK1 {K:W.Frag} {g:TG} {tt:TT} {Qd:Addr->Hp->Prop} {σ0:St} (hS:SqL K H a ys\/SqT K H a ys) (hz:ys.length<=j5)
  (Pv:Addr->Nat->List V->St->Hp->Prop) (h0:∀ D,H D=none->Pv D 0 [] σ0 (upd H D (.lst []))) (hl:∀ D i xs σ H',H D=none->i<=ys.length->Pv D i xs σ H'->u9 H H'/\H' D=some (.lst xs)/\xs.length<=i)
  (hs:∀ D i xs x σ H' (N:List V->St->Hp->Prop),H D=none->(∀ xs' σ' H'',Pv D (i+1) xs' σ' H''->N xs' σ' H'')->ys[i]?=some x->Pv D i xs σ H'->g x σ H' fun σ2 H2=>tt σ2 H2 fun b H3=>if b=true then te σ2 H3 fun v H4=>H4 D=some (.lst xs)/\N (xs++[v]) σ2 (upd H4 D (.lst (xs++[v]))) else N xs σ2 H3)
  (hd:∀ D xs σ H',H D=none->Pv D ys.length xs σ H'->Qd D H') :
  (∃ b, V.ref a = V.ref b /\ (∃ xs, SqL K H b xs) /\ ∀ D, H D = none -> ∃ W : Nat -> Nat -> List V -> St -> Hp -> Prop, (∃ m, W 0 m [] σ0 (upd H D (.lst []))) /\ ∀ i m xs σ' H', W i m xs σ' H' -> H' D = some (.lst xs) /\ (((Itl K b).stop i H' /\ Qd D H') \/ ((Itl K b).go i H' /\ xs.length < j5 /\ ∀ x H'', (Itl K b).yld i H' x H'' -> g x σ' H'' fun σ2 H2 => tt σ2 H2 fun b H3 =>
   if b=true then te σ2 H3 fun v H4=>H4 D=some (.lst xs)/\∃ m',m'<m/\W (i+1) m' (xs++[v]) σ2 (upd H4 D (.lst (xs++[v]))) else ∃ m',m'<m/\W (i+1) m' xs σ2 H3))) \/
  (∃ b, V.ref a = V.ref b /\ (∃ xs, SqT K H b xs) /\ ∀ D, H D = none -> ∃ W : Nat -> Nat -> List V -> St -> Hp -> Prop, (∃ m, W 0 m [] σ0 (upd H D (.lst []))) /\ ∀ i m xs σ' H', W i m xs σ' H' -> H' D = some (.lst xs) /\ (((Itt K b).stop i H' /\ Qd D H') \/ ((Itt K b).go i H' /\ xs.length < j5 /\ ∀ x H'', (Itt K b).yld i H' x H'' -> g x σ' H'' fun σ2 H2 => tt σ2 H2 fun b H3 =>
   if b=true then te σ2 H3 fun v H4=>H4 D=some (.lst xs)/\∃ m',m'<m/\W (i+1) m' (xs++[v]) σ2 (upd H4 D (.lst (xs++[v]))) else ∃ m',m'<m/\W (i+1) m' xs σ2 H3))):=by
 rcases hS with hS | hS
 ·exact .inl ⟨a,rfl,⟨_,hS⟩,fun D hD=>R6 (K:=K) (a:=a) (ys:=ys) (Pv D) (h0 D hD) hz (fun i xs σ H' hi p=>let ⟨s,g,l⟩:=hl D i xs σ H' hD hi p;⟨s.seq hS,g,l⟩) (fun i xs x σ H' N kN hx p=>hs D i xs x σ H' N hD kN hx p) (fun xs σ H' p=>hd D xs σ H' hD p)⟩
 ·exact .inr ⟨a,rfl,⟨_,hS⟩,fun D hD=>aX6 (K:=K) (a:=a) (ys:=ys) (Pv D) (h0 D hD) hz (fun i xs σ H' hi p=>let ⟨s,g,l⟩:=hl D i xs σ H' hD hi p;⟨s.seqT hS,g,l⟩) (fun i xs x σ H' N kN hx p=>hs D i xs x σ H' N hD kN hx p) (fun xs σ H' p=>hd D xs σ H' hD p)⟩
theorem bi8 (f:Nat->Int):∀ (n j:Nat),j<=n->f (U4 (fun i j=>decide (f i<f j)) n)<=f j
 | 0,j,h=>by rw[Nat.le_zero.mp h];exact F4 _
 | n+1,j,h=>by
  unfold U4
  have ih:=bi8 f n
  by_cases hb:f (n+1)<f (U4 (fun i j=>decide (f i<f j)) n)
  ·rw[if_pos (decide_eq_true hb)]
   rcases B0 j (n+1) with l | l
   ·have:=ih j (by omega);omega
   ·rw[show j=n+1 by omega];exact F4 _
  ·rw[if_neg (fun z=>hb (of_decide_eq_true z))]
   rcases B0 j (n+1) with l | l
   ·exact ih j (by omega)
   ·rw[show j=n+1 by omega];omega
theorem ar2 (bt:Nat->Nat->Bool):∀ n:Nat,U4 bt n<=n
 | 0=>d5 _
 | n+1=>by
  unfold U4
  have:=ar2 bt n
  split<;>omega
theorem az4 (f:Nat->Int):∀ (n j:Nat),j<=n->f j<=f (U4 (fun i j=>decide (f i > f j)) n)
 | 0,j,h=>by rw[Nat.le_zero.mp h];exact F4 _
 | n+1,j,h=>by
  unfold U4
  have ih:=az4 f n
  by_cases hb:f (n+1) > f (U4 (fun i j=>decide (f i > f j)) n)
  ·rw[if_pos (decide_eq_true hb)]
   rcases B0 j (n+1) with l | l
   ·have:=ih j (by omega);omega
   ·rw[show j=n+1 by omega];exact F4 _
  ·rw[if_neg (fun z=>hb (of_decide_eq_true z))]
   rcases B0 j (n+1) with l | l
   ·exact ih j (by omega)
   ·rw[show j=n+1 by omega];omega
theorem au8 (hc:X.calm=true):U2 X (.builtin "min") (fun xs H Q=>∃ (p:Addr) (ns:List Int),xs=[.ref p]/\SqL X.K H p (ns.map V.int)/\0<ns.length/\∀ m:Int,m∈ns->(∀ x∈ns,m<=x)->Q (.int m) H):=by
 intro pins s σ H xs us Q I r h
 obtain⟨p,ns,rfl,hq,hn,q⟩:=h
 obtain⟨u,rfl,rx⟩:=vals1 r
 cases rx
 obtain⟨its,r',pl,hz⟩:=I.list hq
 have hlen:its.length=ns.length:=by rw[<- r'.length,b7]
 have hi:M6 its ns:=intsAre_of r'
 obtain⟨ys,e⟩:=hi.allInts.items
 have hT:s.heap.IsList p (E8 ys):=by rw[<- e];exact pl.isList
 have hsz:(E8 ys).size=ns.length:=by rw[<- e,d6,hlen]
 have hnum:∀ j,j<ns.length->ac5 ys j=ns.getD j 0:=fun j hj=>by
  have hx:(ns.map V.int)[j]?=some (.int (ns.getD j 0)):=by simp[hj]
  obtain⟨v,hv,t,rfl⟩:=r'.get hx
  have hv':(E8 ys)[j]?=some (.int (ns.getD j 0) t):=by rw[<- e];simpa using hv
  obtain⟨t',ht'⟩:=O6 hv'
  injection ht' with h1 _
  exact h1.symm
 have hpl:p<s.heap.objs.size:=by
  obtain⟨o,ho,_⟩:=hT
  exact c8 ho
 refine call_min_walk (K2 hT ?_)
 refine⟨_,[_,p],[_],_,_,_,_,rfl,Walks.list (A:=X.A.in1) (I.ok.hd hc) _ p (k7 hpl) (E8 ys),
  ⟨⟨_,j0 _ rfl,rfl,rfl⟩,hT.push _⟩,fun c hc'=>?_,by rw[hsz];exact hn,CmpOf.ints_lt (ac5 ys) (fun _ _=>O6),fun v h' tk hP hk=>?_⟩
 ·show c<(s.heap.push _).objs.size
  rw[B1]
  rcases d4.mp hc' with rfl | hc'
  ·exact W1 _
  ·rcases d4.mp hc' with rfl | hc'
   ·exact A4 hpl
   ·cases hc'
 ·have hold:∀ c o,s.heap.get? c=some o->h'.get? c=some o:=fun c o e=>by
   refine hk c o (fun hm=>?_) (c5 _ e)
   rcases d4.mp hm with e1 | hm
   ·exact absurd (c8 e) (by rw[e1];exact A9 _)
   ·cases hm
  obtain⟨t,rfl⟩:=O6 hP
  have hb:=ar2 (fun i j=>decide (ac5 ys i<ac5 ys j)) ((E8 ys).size - 1)
  have hbl:U4 (fun i j=>decide (ac5 ys i<ac5 ys j)) ((E8 ys).size - 1)<ns.length:=by rw[hsz]at hb ⊢;omega
  refine⟨.int _,H,I.kept (t':=tk) hold,⟨t,rfl⟩,q _ ?_ fun x hx=>?_⟩
  ·rw[hnum _ hbl,i6,g6 hbl]
   exact ab5 hbl
  ·obtain⟨j,hj,rfl⟩:=U6.mp hx
   have:=bi8 (ac5 ys) ((E8 ys).size - 1) j (by rw[hsz];omega)
   rw[hnum j hj,i6,g6 hj]at this
   exact this
theorem bo1 (hc:X.calm=true):U2 X (.builtin "max") (fun xs H Q=>∃ (p:Addr) (ns:List Int),xs=[.ref p]/\SqL X.K H p (ns.map V.int)/\0<ns.length/\∀ m:Int,m∈ns->(∀ x∈ns,x<=m)->Q (.int m) H):=by
 intro pins s σ H xs us Q I r h
 obtain⟨p,ns,rfl,hq,hn,q⟩:=h
 obtain⟨u,rfl,rx⟩:=vals1 r
 cases rx
 obtain⟨its,r',pl,hz⟩:=I.list hq
 have hlen:its.length=ns.length:=by rw[<- r'.length,b7]
 have hi:M6 its ns:=intsAre_of r'
 obtain⟨ys,e⟩:=hi.allInts.items
 have hT:s.heap.IsList p (E8 ys):=by rw[<- e];exact pl.isList
 have hsz:(E8 ys).size=ns.length:=by rw[<- e,d6,hlen]
 have hnum:∀ j,j<ns.length->ac5 ys j=ns.getD j 0:=fun j hj=>by
  have hx:(ns.map V.int)[j]?=some (.int (ns.getD j 0)):=by simp[hj]
  obtain⟨v,hv,t,rfl⟩:=r'.get hx
  have hv':(E8 ys)[j]?=some (.int (ns.getD j 0) t):=by rw[<- e];simpa using hv
  obtain⟨t',ht'⟩:=O6 hv'
  injection ht' with h1 _
  exact h1.symm
 have hpl:p<s.heap.objs.size:=by
  obtain⟨o,ho,_⟩:=hT
  exact c8 ho
 refine call_max_walk (K2 hT ?_)
 refine⟨_,[_,p],[_],_,_,_,_,rfl,Walks.list (A:=X.A.in1) (I.ok.hd hc) _ p (k7 hpl) (E8 ys),
  ⟨⟨_,j0 _ rfl,rfl,rfl⟩,hT.push _⟩,fun c hc'=>?_,by rw[hsz];exact hn,CmpOf.ints_gt (ac5 ys) (fun _ _=>O6),fun v h' tk hP hk=>?_⟩
 ·show c<(s.heap.push _).objs.size
  rw[B1]
  rcases d4.mp hc' with rfl | hc'
  ·exact W1 _
  ·rcases d4.mp hc' with rfl | hc'
   ·exact A4 hpl
   ·cases hc'
 ·have hold:∀ c o,s.heap.get? c=some o->h'.get? c=some o:=fun c o e=>by
   refine hk c o (fun hm=>?_) (c5 _ e)
   rcases d4.mp hm with e1 | hm
   ·exact absurd (c8 e) (by rw[e1];exact A9 _)
   ·cases hm
  obtain⟨t,rfl⟩:=O6 hP
  have hb:=ar2 (fun i j=>decide (ac5 ys i > ac5 ys j)) ((E8 ys).size - 1)
  have hbl:U4 (fun i j=>decide (ac5 ys i > ac5 ys j)) ((E8 ys).size - 1)<ns.length:=by rw[hsz]at hb ⊢;omega
  refine⟨.int _,H,I.kept (t':=tk) hold,⟨t,rfl⟩,q _ ?_ fun x hx=>?_⟩
  ·rw[hnum _ hbl,i6,g6 hbl]
   exact ab5 hbl
  ·obtain⟨j,hj,rfl⟩:=U6.mp hx
   have:=az4 (ac5 ys) ((E8 ys).size - 1) j (by rw[hsz];omega)
   rw[hnum j hj,i6,g6 hj]at this
   exact this
theorem aq7:(toString "max"++toString ".loop":String)="max.loop":=by decide
section
variable {R:Result->Shared->Prop} {I:Addr} {wr:List Addr} {P:Nat->Value->Prop} {St:Nat->Heap->Prop} {d:Value}
theorem bu6 (W:Walks prog w A.in1 I fp wr n P St)(bt:Nat->Nat->Bool)(hcmp:CmpOf prog w A.in1 .Gt P bt)(S:Addr)(hSf:S∉fp):∀ (k j:Nat) (s:Shared) (vb:Value) (c:Nat),n - (j+1)=k->j+1<=n->St (j+1) s.heap->P (U4 bt j) vb ->
  s.heap.get? S=some { cls:=.type "list",dict:=none,data:=.seq #[vb,vb] c,slots:=#[] }->(∀ v h' tk,P (U4 bt (n - 1)) v->(∀ b o,b∉wr->b≠S->s.heap.get? b=some o->h'.get? b=some o)->R (.ok (.ret v)) { s with heap:=h',toks:=tk }) ->
  am1 (t9 prog w) A (.builtin "max.loop" ⟨[.ref I,.none,.ref S],[("default",d)]⟩) R s:=by
 have hSw:S∉wr:=(fun h=>hSf (W.sub _ h));intro k
 induction k with
 | zero =>
  intro j s vb c hk hj hst hPb hS hR;have hin:j+1=n:=by omega
  refine M7 F.entry_max_loop ?_;rw[Around.under_plainId F.plain_max_loop _];show r6 _ A.in1 (bk4 (.ref S) >>= _) _ _ s
  refine b9 (G8 hS rfl ?_);show r6 _ A.in1 (tryCatch (aL3 (.ref I)) _ >>= _) _ _ s
  refine b9 (am2 (W.done s _ _ (hin ▸ hst) fun h' tk hk'=>?_));have hS':=hk' S _ hSw hS
  show r6 _ A.in1 (updateSeq S (fun _=>#[]) >>= _) _ _ _;refine b9 ?_
  refine bk6 hS' rfl (b9 (ai3 (i8 ?_)));exact hR vb _ tk (by rw[<- hin];exact hPb) fun b o hbw hbS e=>(A8 _ _ (Ne.symm hbS)).trans (hk' b o hbw e)
 | succ k ih =>
  intro j s vb c hk hj hst hPb hS hR;have hlt:j+1<n:=by omega
  refine M7 F.entry_max_loop ?_;rw[Around.under_plainId F.plain_max_loop _];show r6 _ A.in1 (bk4 (.ref S) >>= _) _ _ s
  refine b9 (G8 hS rfl ?_);show r6 _ A.in1 (tryCatch (aL3 (.ref I)) _ >>= _) _ _ s
  refine b9 (am2 (W.item (j+1) s _ _ hlt hst fun v h' tk hP hst' hk'=>?_));have hS':=hk' S _ hSw hS
  show r6 _ A.in1 (tryCatch (aG4 [v,v] (richCompare .Gt v vb >>= _)) _ >>= _) _ _ _;refine b9 (am2 (F0 (b9 (hcmp (j+1) (U4 bt j) v vb _ _ _ hP hPb ?_))))
  refine b9 (F0 (M3 ?_));refine b9 (ai3 (i8 ?_))
  cases hb:bt (j+1) (U4 bt j) with
  | true =>
   simp only[if_true];refine b9 ?_
   refine bk6 hS' rfl (b9 (ai3 ?_));rw[aq7]
   refine i8 ⟨af1 F.plain_max_loop _,ih (j+1) _ v _ (by omega) hlt (W.frame _ _ _ hst' fun b hbf o e=>?_) (by simp only[U4,hb,if_true];exact hP) (S3 _ hS' rfl) fun v' h'' tk'' hP' hk''=>?_⟩
   ·exact((A8 _ _ (fun h:S=b=>hSf (by rw[h];exact hbf))).trans e)
   ·exact(hR v' h'' tk'' hP' fun b o hbw hbS e=>hk'' b o hbw hbS ((A8 _ _ (Ne.symm hbS)).trans (hk' b o hbw e)))
  | false =>
   simp only[m8,if_false];refine b9 (ai3 ?_);rw[aq7]
   refine i8 ⟨af1 F.plain_max_loop _,ih (j+1) _ vb c (by omega) hlt hst' (by simp only[U4,hb,m8,if_false];exact hPb) hS' fun v' h'' tk'' hP' hk''=>?_⟩;exact hR v' h'' tk'' hP' fun b o hbw hbS e=>hk'' b o hbw hbS (hk' b o hbw e)
theorem bl9 (W:Walks prog w A.in1 I fp wr n P St)(bt:Nat->Nat->Bool)(hcmp:CmpOf prog w A.in1 .Gt P bt)(S:Addr)(hSf:S∉fp){c:Nat}(hst:St 0 s.heap)(hS:s.heap.get? S=some { cls:=.type "list",dict:=none,data:=.seq #[] c,slots:=#[] })
  (h0:n=0->∀ h' tk,(∀ b o,b∉wr->b≠S->s.heap.get? b=some o->h'.get? b=some o)->R (.ok (.ret d)) { s with heap:=h',toks:=tk })
  (hR:0<n->∀ v h' tk,P (U4 bt (n - 1)) v->(∀ b o,b∉wr->b≠S->s.heap.get? b=some o->h'.get? b=some o)->R (.ok (.ret v)) { s with heap:=h',toks:=tk }) :
  am1 (t9 prog w) A (.builtin "max.loop" ⟨[.ref I,.none,.ref S],[("default",d)]⟩) R s:=by
 have hSw:S∉wr:=(fun h=>hSf (W.sub _ h))
 refine M7 F.entry_max_loop ?_;rw[Around.under_plainId F.plain_max_loop _];show r6 _ A.in1 (bk4 (.ref S) >>= _) _ _ s
 refine b9 (G8 hS rfl ?_);show r6 _ A.in1 (tryCatch (aL3 (.ref I)) _ >>= _) _ _ s
 by_cases hn:0<n
 ·refine b9 (am2 (W.item 0 s _ _ hn hst fun v h' tk hP hst' hk'=>?_));have hS':=hk' S _ hSw hS
  show r6 _ A.in1 (updateSeq S (fun _=>#[v,v]) >>= _) _ _ _;refine b9 ?_
  refine bk6 hS' rfl ?_;rw[aq7]
  refine i8 ⟨af1 F.plain_max_loop _,bu6 W bt hcmp S hSf _ 0 _ v _ rfl hn (W.frame _ _ _ hst' fun b hbf o e=>?_) hP (S3 _ hS' rfl) fun v' h'' tk'' hP' hk''=>?_⟩
  ·exact((A8 _ _ (fun h:S=b=>hSf (by rw[h];exact hbf))).trans e)
  ·exact(hR hn v' h'' tk'' hP' fun b o hbw hbS e=>hk'' b o hbw hbS ((A8 _ _ (Ne.symm hbS)).trans (hk' b o hbw e)))
 ·have hz:n=0:=by omega
  refine b9 (am2 (W.done s _ _ (by rw[hz];exact hst) fun h' tk hk'=>?_))
  refine b9 (an7 ?_)
  exact i8 (h0 hz h' tk fun b o hbw _ e=>hk' b o hbw e)
end
theorem bo4 (a v:Value):argsOk "max" ⟨[a],[(Str.ofString "default",v)]⟩:=by unfold argsOk;kernel_rfl
theorem isQ.push {b:Bool}{xs:Array Value}(q:isQ b h a xs)(o:Obj):isQ b (h.push o) a xs:=by
 cases b with
 | true=>exact Heap.IsList.push q o
 | false=>exact Heap.IsTuple.push q o
theorem isQ.obj {b:Bool}{xs:Array Value}(q:isQ b h a xs):∃ o,h.get? a=some o:=by
 cases b with
 | true=>obtain⟨o,h1,_⟩:=q;exact⟨o,h1⟩
 | false=>obtain⟨o,h1,_⟩:=q;exact⟨o,h1⟩
theorem bg2 {b:Bool}{xs:Array Value}(q:isQ b s.heap a xs)(h:Q (.ref s.heap.objs.size) { s with heap:=s.heap.push { cls:=.type (nmB b),data:=.fields #[.ref a,.int 0 0] } }):r6 (t9 prog w) A (pyIter (.ref a)) Q E s:=by
 cases b with
 | true=>exact K2 q h
 | false=>exact G9 q h
theorem bp3 (b:Bool)(hh:A.handled=none)(it l:Addr)(hne:l≠it)(items:Array Value):Walks prog w A it [it,l] [it] items.size (fun i v=>items[i]?=some v) (fun i h=>itB b h it l i/\isQ b h l items):=by
 cases b with
 | true=>exact Walks.list hh it l hne items
 | false=>exact Walks.tuple hh it l hne items
theorem bo2 (hc:X.calm=true):U2 X (.builtin "max") (fun xs H Q=>∃ (b:Bool) (p:Addr) (ns:List Int),xs=[.ref p]/\SqB b X.K H p (ns.map V.int)/\0<ns.length/\∀ m:Int,m∈ns->(∀ x∈ns,x<=m)->Q (.int m) H):=by
 intro pins s σ H xs us Q I r h
 obtain⟨b,p,ns,rfl,hq,hn,q⟩:=h
 obtain⟨u,rfl,rx⟩:=vals1 r
 cases rx
 obtain⟨its,r',pl⟩:=I.seqB hq
 have hlen:its.length=ns.length:=by rw[<- r'.length,b7]
 have hi:M6 its ns:=intsAre_of r'
 obtain⟨ys,e⟩:=hi.allInts.items
 have hT:isQ b s.heap p (E8 ys):=by rw[<- e];exact pl
 have hsz:(E8 ys).size=ns.length:=by rw[<- e,d6,hlen]
 have hnum:∀ j,j<ns.length->ac5 ys j=ns.getD j 0:=fun j hj=>by
  have hx:(ns.map V.int)[j]?=some (.int (ns.getD j 0)):=by simp[hj]
  obtain⟨v,hv,t,rfl⟩:=r'.get hx
  have hv':(E8 ys)[j]?=some (.int (ns.getD j 0) t):=by rw[<- e];simpa using hv
  obtain⟨t',ht'⟩:=O6 hv'
  injection ht' with h1 _
  exact h1.symm
 have hpl:p<s.heap.objs.size:=by
  obtain⟨o,ho⟩:=hT.obj
  exact c8 ho
 refine call_max_walk (bg2 hT ?_)
 refine⟨_,[_,p],[_],_,_,_,_,rfl,bp3 b (A:=X.A.in1) (I.ok.hd hc) _ p (k7 hpl) (E8 ys),
  ⟨ay6 (j0 _ rfl),hT.push _⟩,fun c hc'=>?_,by rw[hsz];exact hn,CmpOf.ints_gt (ac5 ys) (fun _ _=>O6),fun v h' tk hP hk=>?_⟩
 ·show c<(s.heap.push _).objs.size
  rw[B1]
  rcases d4.mp hc' with rfl | hc'
  ·exact W1 _
  ·rcases d4.mp hc' with rfl | hc'
   ·exact A4 hpl
   ·cases hc'
 ·have hold:∀ c o,s.heap.get? c=some o->h'.get? c=some o:=fun c o e=>by
   refine hk c o (fun hm=>?_) (c5 _ e)
   rcases d4.mp hm with e1 | hm
   ·exact absurd (c8 e) (by rw[e1];exact A9 _)
   ·cases hm
  obtain⟨t,rfl⟩:=O6 hP
  have hb:=ar2 (fun i j=>decide (ac5 ys i > ac5 ys j)) ((E8 ys).size - 1)
  have hbl:U4 (fun i j=>decide (ac5 ys i > ac5 ys j)) ((E8 ys).size - 1)<ns.length:=by rw[hsz]at hb ⊢;omega
  refine⟨.int _,H,I.kept (t':=tk) hold,⟨t,rfl⟩,q _ ?_ fun x hx=>?_⟩
  ·rw[hnum _ hbl,i6,g6 hbl]
   exact ab5 hbl
  ·obtain⟨j,hj,rfl⟩:=U6.mp hx
   have:=az4 (ac5 ys) ((E8 ys).size - 1) j (by rw[hsz];omega)
   rw[hnum j hj,i6,g6 hj]at this
   exact this
theorem bu7 {b:Bool}{p:Addr}{d:Value}(hc:X.calm=true)(I:Inv X pins σ H s)(hq:SqB b X.K H p (ns.map V.int))
  (h0:ns=[]->∀ s',Inv X pins σ H s'->Q d s')(h1:∀ (m:Int) (t:Tok) (s':Shared),m∈ns->(∀ x∈ns,x<=m)->Inv X pins σ H s'->Q (.int m t) s'):r6 (t9 X.prog X.w) X.A (call (.builtin "max") [.ref p] [(Str.ofString "default",d)]) Q E s:=by
 obtain⟨its,r',pl⟩:=I.seqB hq
 have hlen:its.length=ns.length:=by rw[<- r'.length,b7]
 have hi:M6 its ns:=intsAre_of r'
 obtain⟨ys,e⟩:=hi.allInts.items
 have hT:isQ b s.heap p (E8 ys):=by rw[<- e];exact pl
 have hsz:(E8 ys).size=ns.length:=by rw[<- e,d6,hlen]
 have hnum:∀ j,j<ns.length->ac5 ys j=ns.getD j 0:=fun j hj=>by
  have hx:(ns.map V.int)[j]?=some (.int (ns.getD j 0)):=by simp[hj]
  obtain⟨v,hv,t,rfl⟩:=r'.get hx
  have hv':(E8 ys)[j]?=some (.int (ns.getD j 0) t):=by rw[<- e];simpa using hv
  obtain⟨t',ht'⟩:=O6 hv'
  injection ht' with h1 _
  exact h1.symm
 have hpl:p<s.heap.objs.size:=by
  obtain⟨o,ho⟩:=hT.obj
  exact c8 ho
 refine kmk_tree PySem.F.kind_max PySem.F.plain_max PySem.F.entry_max (bo4 _ _) ?_;show r6 _ X.A.in1 (Builtin.Builtins.bindParams "max" ["key","default"] 0 ⟨[],[(Str.ofString "default",d)]⟩ >>= _) _ _ s
 refine b9 (bk5 (show Builtin.Builtins.bindParams "max" ["key","default"] 0 ⟨[],[(Str.ofString "default",d)]⟩=pure [none,some d] from rfl) ?_);refine b9 (i8 ?_)
 refine b9 (bg2 hT ?_);refine b9 (U7 ?_ (u4 _));rw[aq7]
 have hS:(s.heap.push { cls:=.type (nmB b),data:=.fields #[.ref p,.int 0 0] }).objs.size=s.heap.objs.size+1:=B1 ..
 have old:∀ c o,s.heap.get? c=some o->((s.heap.push { cls:=.type (nmB b),data:=.fields #[.ref p,.int 0 0] }).push (J1 "list" #[] 0)).get? c=some o:=fun c o e=>c5 _ (c5 _ e)
 refine i8 ⟨af1 PySem.F.plain_max_loop _,bl9 (bp3 b (A:=X.A.in1) (I.ok.hd hc) s.heap.objs.size p (k7 hpl) (E8 ys)) _ (CmpOf.ints_gt (ac5 ys) (fun _ _=>O6)) _ (fun hm=>?_) ⟨ay6 (c5 _ (j0 _ rfl)),(hT.push _).push _⟩ (j0 _ rfl) (fun hn h' tk hk=>?_) fun hn v h' tk hP hk=>?_⟩
 ·rw[hS]at hm
  rcases d4.mp hm with e1 | hm
  ·exact absurd e1 (L4 (W1 _))
  ·rcases d4.mp hm with e1 | hm
   ·exact absurd e1 (L4 (A4 hpl))
   ·cases hm
 ·have hold:∀ c o,s.heap.get? c=some o->h'.get? c=some o:=fun c o e=>hk c o (fun hm=>by
   rcases d4.mp hm with e1 | hm
   ·exact absurd (c8 e) (by rw[e1];exact A9 _)
   ·cases hm) (by rw[hS];exact k7 (A4 (c8 e))) (old c o e)
  exact h0 (an0.mp (by omega)) _ (I.kept (t':=tk) hold)
 ·have hold:∀ c o,s.heap.get? c=some o->h'.get? c=some o:=fun c o e=>hk c o (fun hm=>by
   rcases d4.mp hm with e1 | hm
   ·exact absurd (c8 e) (by rw[e1];exact A9 _)
   ·cases hm) (by rw[hS];exact k7 (A4 (c8 e))) (old c o e)
  obtain⟨t,rfl⟩:=O6 hP
  have hb:=ar2 (fun i j=>decide (ac5 ys i > ac5 ys j)) ((E8 ys).size - 1)
  have hbl:U4 (fun i j=>decide (ac5 ys i > ac5 ys j)) ((E8 ys).size - 1)<ns.length:=by rw[hsz]at hb ⊢;omega
  refine h1 _ t _ ?_ (fun x hx=>?_) (I.kept (t':=tk) hold)
  ·rw[hnum _ hbl,i6,g6 hbl]
   exact ab5 hbl
  ·obtain⟨j,hj,rfl⟩:=U6.mp hx
   have:=az4 (ac5 ys) ((E8 ys).size - 1) j (by rw[hsz];omega)
   rw[hnum j hj,i6,g6 hj]at this
   exact this
def cb6 (K:W.Frag)(tr:TA):TE:=fun σ H Q=>tr σ H fun vs H1=>∃ (b:Bool) (p:Addr) (ns:List Int),vs=[.ref p]/\SqB b K H1 p (ns.map V.int)/\Web.AllP ns/\∀ m:Int,0<=m->(∀ x∈ns,x<=m)->Q (.int m) H1
theorem bF3 {np bpos kpos:Pos}{tr:TA}(K:W.Frag)(hK:X.K=K)(hc:X.calm=true)(hg:Gl X "max")(hm:X.mg "max"=none)(ha:PA X [e] tr)
  (hs:S4 pos (u5 [e] X.env)=(false,eval e X.env)::S4 pos (u5 [] X.env):=by rfl)
  (hpl:(S4 pos (u5 [e] X.env)).any (·.1)=false:=by rfl) :
  PE X (.Call (.Name "max" np) [e] [⟨some "default",.Constant (.int 0) j bpos,kpos⟩] pos) (cb6 K tr):=by
 subst hK
 intro pins s σ H Q I h
 refine J0 (X8 I hg hm (show L9 "max"=some (.builtin "max") from rfl) ?_ (by decide) (by decide))
 refine ca7 (thn (ha pos pins s σ H _ I h) fun us s1 ⟨vs,H1,I1,r1,q1⟩=>?_) hs hpl rfl rfl
 obtain⟨b,p,ns,rfl,hq,hp,q⟩:=q1
 have hk:PK X [⟨some "default",.Constant (.int 0) j bpos,kpos⟩] (aR9 (tC (.int 0)) bp8):=aN2 i9 bb3
 refine thn (hk pos pins s1 σ H1 (fun zs H2=>zs=[.int 0]/\H2=H1) I1 ⟨rfl,rfl⟩) fun ws s2 ⟨zs,H2,I2,r2,ez,eH⟩=>?_
 subst ez eH
 obtain⟨w,rfl,rw⟩:=vals1 r2
 obtain⟨u,rfl,ru⟩:=vals1 r1
 obtain⟨t,rfl⟩:=rw
 cases ru
 exact bu7 hc I2 hq (fun e s' I'=>⟨.int 0,_,I',⟨_,rfl⟩,q 0 (by omega) fun x hx=>by rw[e]at hx;cases hx⟩) fun m t s' a1 a2 I'=>⟨.int m,_,I',⟨t,rfl⟩,q m (by
  obtain⟨i,hi⟩:=o7.mp a1
  exact hp i m hi) a2⟩
end L2
namespace L2
open PySem PySem.Spec PyProof.Rows PySem.SeqAt
theorem bF4 {a b:Expr}{tb:TE}(K:W.Frag)(hK:X.K=K)(ha:PE X a ta)(hb:PE X b tb)(hs:az6 b):PE X (.Subscript a b pos) (tOp (bS8 K) ta tb):=by
 cases hK
 exact G1 G7 ha hb hs
theorem Y8 {a b:Expr}{tb:TE}(K:W.Frag)(hK:X.K=K)(ha:PE X a ta)(hb:PE X b tb)(hs:az6 b):PE X (.Subscript a b pos) (tOp (rIx K) ta tb):=by
 cases hK
 exact G1 bw3 ha hb hs
end L2
namespace L2
open PySem PySem.Spec PyProof.Rows
theorem bo0 (K:W.Frag)(hK:X.K=K)(hc:X.calm=true):U2 X (.builtin "sum") (fun xs H Q=>∃ (p:Addr) (ns:List Int),xs=[.ref p]/\SqL K H p (ns.map V.int)/\Q (.int ns.sum) H):=by subst hK;exact ae2 hc
end L2
namespace L2
open PySem PySem.Spec PyProof.Rows PySem.SeqAt
end L2
namespace L2
open PySem PySem.Spec PyProof.Rows
def am3 (H:Hp)(l:Addr->Option Obj):Hp:=fun b=>match l b with
 | some o=>some (R7 b o)
 | none=>H b
def aa1 (H:Hp)(l:Addr->Option Obj):Hp:=fun b=>match l b with
 | some _=>none
 | none=>H b
section
variable {H1 H2:Hp} {h1 h2:Heap} {fs:List Addr}
theorem ap5 {b:Addr}{o:Obj}(e:l b=some o):am3 H l b=some (R7 b o):=by unfold am3;rw[e]
theorem J4 {b:Addr}(e:l b=none):am3 H l b=H b:=by unfold am3;rw[e]
theorem ad5 {b:Addr}{o:Obj}(e:l b=some o):aa1 H l b=none:=by unfold aa1;rw[e]
theorem J5 {b:Addr}(e:l b=none):aa1 H l b=H b:=by unfold aa1;rw[e]
theorem bK3 {b:Addr}{o:Obj}(e:h.get? b=some o):U1 P w H h b (R7 b o):=⟨e,⟨o,e⟩,fun h1 h2 q z=>z _ q⟩
theorem HOk.trkd (x:HOk P w H h)(hl:∀ b o,l b=some o->h.get? b=some o/\H b=none):HOk P w (am3 H l) h:=fun a o e=>by
 cases hb:l a with
 | some q=>rw[ap5 hb]at e;cases e;exact bK3 (hl a q hb).1
 | none =>
  rw[J4 hb]at e
  have aux:∀ b u,H b=some u->am3 H l b=some u:=fun b u q=>by
   cases hb':l b with
   | some z=>rw[(hl b z hb').2]at q;cases q
   | none=>rw[J4 hb'];exact q
  exact(x a o e).stay (fun _ _ _ q=>q) (fun b q=>aux b _ q) (fun b xs q=>aux b _ q)
theorem au2 {b:Addr}{u:HO}(hl:∀ b o,l b=some o->H b=some (R7 b o))(q:H b=some u)(hu:∀ o,u≠R7 b o):l b=none:=by
 cases hb:l b with
 | some z=>rw[hl b z hb]at q;cases q;exact absurd rfl (hu z)
 | none=>rfl
theorem HOk.rmv (x:HOk P w H h)(hl:∀ b o,l b=some o->H b=some (R7 b o)):HOk P w (aa1 H l) h:=fun a o e=>by
 cases hb:l a with
 | some q=>rw[ad5 hb]at e;cases e
 | none =>
  rw[J5 hb]at e
  refine(x a o e).stay (fun _ _ _ q=>q) (fun b q=>?_) (fun b xs q=>?_)
  ·rw[J5 (au2 hl q (fun o z=>by unfold R7 at z;cases z))];exact q
  ·rw[J5 (au2 hl q (fun o z=>by unfold R7 at z;cases z))];exact q
theorem Un.inner (un:Un fs [] (aa1 H l) H1 h h1)(hl:∀ b o,l b=some o->H b=some (R7 b o)):Un fs [] H (am3 H1 l) h h1:=by
 have nn:∀ b,H b=none->l b=none:=fun b n=>by
  cases hb:l b with
  | some z=>rw[hl b z hb]at n;cases n
  | none=>rfl
 refine⟨fun b o e n hf hx=>un.keep b o e (by rw[J5 (nn b n)];exact n) hf hx,fun b o e n hf hx=>un.slot b o e (by rw[J5 (nn b n)];exact n) hf hx,fun b o e n hx=>?_,un.there,fun b xs q=>?_,fun b o u q=>?_,fun b ps q=>?_⟩
 ·rw[J4 (nn b n)]
  exact un.free b o e (by rw[J5 (nn b n)];exact n) hx
 ·have z:=au2 hl q (fun o z=>by unfold R7 at z;cases z)
  rw[J4 z]
  exact un.tups b xs (by rw[J5 z];exact q)
 ·have z:=au2 hl q (fun o z=>by unfold R7 at z;cases z)
  rw[J4 z]
  exact un.frzs b o u (by rw[J5 z];exact q)
 ·have z:=au2 hl q (fun o z=>by unfold R7 at z;cases z)
  rw[J4 z]
  exact un.tbls b ps (by rw[J5 z];exact q)
theorem Un.outer (un:Un fs [] (am3 H l) H2 h h2)(hl:∀ b o,l b=some o->h.get? b=some o/\H b=none)(h2l:∀ b o,l b=some o->H2 b=some (R7 b o))(ok2:HOk P w H2 h2):Un fs [] H (aa1 H2 l) h h2:=by
 have nn:∀ b u,H b=some u->l b=none:=fun b u q=>by
  cases hb:l b with
  | some z=>rw[(hl b z hb).2]at q;cases q
  | none=>rfl
 have at2:∀ b o,l b=some o->h2.get? b=some o:=fun b o e=>(ok2 b _ (h2l b o e)).1
 refine⟨fun b o e n hf hx=>?_,fun b o e n hf hx=>?_,fun b o e n hx=>?_,un.there,fun b xs q=>?_,fun b o u q=>?_,fun b ps q=>?_⟩
 ·cases hb:l b with
  | some z =>
   rw[(hl b z hb).1]at e
   cases e
   exact at2 b _ hb
  | none=>exact un.keep b o e (by rw[J4 hb];exact n) hf hx
 ·cases hb:l b with
  | some z =>
   rw[(hl b z hb).1]at e
   cases e
   exact⟨_,at2 b _ hb⟩
  | none=>exact un.slot b o e (by rw[J4 hb];exact n) hf hx
 ·cases hb:l b with
  | some z=>exact ad5 hb
  | none =>
   rw[J5 hb]
   exact un.free b o e (by rw[J4 hb];exact n) hx
 ·rw[J5 (nn b _ q)]
  exact un.tups b xs (by rw[J4 (nn b _ q)];exact q)
 ·rw[J5 (nn b _ q)]
  exact un.frzs b o u (by rw[J4 (nn b _ q)];exact q)
 ·rw[J5 (nn b _ q)]
  exact un.tbls b ps (by rw[J4 (nn b _ q)];exact q)
end
def bR5 (sp:Sp)(js:List (Nat × Addr))(t:TA):TE:=fun σ H Q=>t σ H fun vs H1=>∀ l:Addr->Option Obj,(∀ b o,l b=some o->H1 b=none)->(∀ p∈js,∀ v,σ[p.1]?=some (some v)->∃ o u,l p.2=some o/\o.data=.cell (some u)/\RelV v u) ->
 sp vs (am3 H1 l) (fun r H2=>(∀ b o,l b=some o->H2 b=some (R7 b o))/\Q r (aa1 H2 l)) E0
section
variable {k:Nat} {sp:Sp} {p:Pos} {t:TA}
theorem bt7 {js:List (Nat × Addr)}(F:x8 X.prog X.w X.K X.mg X.base CX0 k f fd ps sp)(hr:X7 k X.A)(hg:Gl X x)(hm:X.mg x=some (.ref f))(hk:Q5 X.K (.ref f)=true)(hb:Binds X.K fd ps [])
  (hj:∀ q∈js,X.s₀.heap.objs.size<=q.2/\∃ y,X.N[q.1]?=some y/\X.env.scope.names.lookup y=some .cell/\X.env.cells.lookup y=some q.2)
  (ha:PA X (e::es) t)(hdb:(x == ("__debug__":Str))=false:=by decide)(he:u5 (e::es) X.env=(false,eval e X.env)::u5 es X.env:=by rfl)(hpl:(S4 pos (u5 es X.env)).any (·.1)=false:=by rfl) :
  PE X (.Call (.Name x p) (e::es) [] pos) (bR5 sp js t):=by
 intro pins s σ H Q I h
 refine J0 (af9 I hg hm ?_ hdb)
 refine PySem.W.callWith_K (h₀:=X.base) I.ok.mod.kin hk (thn (ha pos pins s σ H _ I h) fun us s1 ⟨vs,H1,I1,r,q⟩=>⟨I1.kIn,?_⟩) he hpl
 obtain⟨l,hl⟩:∃ l:Addr->Option Obj,l=fun b=>if b∈js.map (·.2) then s1.heap.get? b else none:=⟨_,rfl⟩
 have l1:∀ b o,l b=some o->s1.heap.get? b=some o/\b∈js.map (·.2):=fun b o e=>by
  rw[hl]at e
  by_cases hb:b∈js.map (·.2)
  ·have e':(if b∈js.map (·.2) then s1.heap.get? b else none)=some o:=e
   rw[if_pos hb]at e'
   exact⟨e',hb⟩
  ·have e':(if b∈js.map (·.2) then s1.heap.get? b else none)=some o:=e
   rw[if_neg hb]at e'
   cases e'
 have l2:∀ b o,l b=some o->s1.heap.get? b=some o/\H1 b=none:=fun b o e=>by
  obtain⟨e1,e2⟩:=l1 b o e
  obtain⟨q,hq,rfl⟩:=t8.mp e2
  obtain⟨_,y,_,_,hc⟩:=hj q hq
  exact⟨e1,I1.freeC y _ hc⟩
 have l3:∀ q∈js,∀ v,σ[q.1]?=some (some v)->∃ o u,l q.2=some o/\o.data=.cell (some u)/\RelV v u:=fun q hq v hv=>by
  obtain⟨_,y,hN,hs,hc⟩:=hj q hq
  obtain⟨m,hn,lo⟩:=I1.loc
  obtain⟨u,ru,lk⟩:=lo q.1 y v hN hv (.inr (.inl hs))
  rcases lk with⟨z,_⟩ | ⟨_,c,hc',o,ho,hd⟩
  ·have z':X.env.scope.names.lookup y=some .local:=z
   rw[hs]at z'
   cases z'
  ·rw[hc]at hc'
   cases hc'
   refine⟨o,u,?_,hd,ru⟩
   rw[hl]
   show (if q.2∈js.map (·.2) then s1.heap.get? q.2 else none)=some o
   rw[if_pos (t8.mpr ⟨q,hq,rfl⟩)]
   exact ho
 have q':=q l (fun b o e=>(l2 b o e).2) l3
 have nofr:∀ q∈js,q.2∉frs X.stack:=fun q hq z=>by
  obtain⟨hge,y,_,_,hc⟩:=hj q hq
  have nf:q.2∉X.fs:=fun hb=>by
   obtain⟨_,o,ho,_⟩:=I1.ok.funs.mem hb
   exact absurd (o9 (c8 ho) hge) (A9 _)
  rcases I1.ok.stk with h1 | ⟨h1,h2⟩
  ·rw[h1]at z
   exact nf z
  ·rw[h1]at z
   unfold frs at z
   rw[V9,h2]at z
   rcases d4.mp z with z | z
   ·exact I1.cne y _ hc z
   ·exact nf z
 have e0:=I1.env0
 have e1:bA8 X.prog X.w X.K X.mg X.base X.A X.stack s1 (am3 H1 l):=by
  refine⟨e0.frames,e0.mod,fun b o e=>⟨(e0.bs b o e).1,?_⟩,e0.bsz,e0.funs,fun b hb=>?_,e0.hok.trkd l2,e0.bare⟩
  ·cases hb:l b with
   | none=>rw[J4 hb];exact(e0.bs b o e).2
   | some z =>
    obtain⟨q,hq,rfl⟩:=t8.mp (l1 b z hb).2
    have:=(hj q hq).1
    exact absurd (o9 (c8 e) (A1 I1.ok.bsz this)) (A9 _)
  ·cases hb':l b with
   | none=>rw[J4 hb'];exact e0.frf b hb
   | some z =>
    obtain⟨q,hq,rfl⟩:=t8.mp (l1 b z hb').2
    exact absurd hb (nofr q hq)
 have hlen:us.length=ps.length:=by rw[<- r.length];exact F.len _ _ _ _ q'
 have hbind:=hb s1 us I1.kIn (by rw[D7];exact hlen)
 rw[D7]at hbind
 refine aQ3 (ac4 (F.run X.A X.stack s1 (am3 H1 l) ⟨us,[]⟩ us vs _ E0 hr e1 hbind r q') fun r s' hq=>?_)
 cases r with
 | error e=>exact False.elim hq
 | ok fl =>
  cases fl with
  | ret u =>
   obtain⟨v,H',os,bare,un,hok,rv,kept,qq⟩:=hq
   exact I1.after ⟨v,aa1 H' l,os,bare,un.outer l2 kept hok,hok.rmv kept,rv,qq⟩
  | next=>exact False.elim hq
  | brk=>exact False.elim hq
  | cont=>exact False.elim hq
end
def bO0 (P:Program)(w:World)(K:W.Frag)(mg:Str->Option Value)(base:Heap)(A:Around)(outer:List Env)(qual:Str)(scope:Scope)(cl:List (Str × Addr))(N':List Str)(f:Addr)(cv:Value)(s:Shared)(H:Hp):Cx where
 prog:=P
 w:=w
 K:=K
 mg:=mg
 base:=base
 A:=A.deeper (ao7 qual scope cl f cv s)
 N:=N'
 s₀:=s
 H₀:=H
 env:=ao7 qual scope cl f cv s
 outer:=outer
 stack:=List.cons (ao7 qual scope cl f cv s) outer
 ex:=[]
 fn:=fun _=>false
 calm:=true
 pn:=[]
 xe:=fun _ _=>False
def cc3 (f c':Addr)(qual:Str)(ob:Obj)(l:Addr->Option Obj)(cvs:St)(te:TE):Sp:=fun vs H Q _=>∃ a,vs=[a]/\H f=some (R7 f ob)/\H c'=some (aw1 c' qual)/\(∀ b o,l b=some o->H b=some (R7 b o)) /\
 te (some a::cvs) (aa1 H l) fun v' H'=>(∀ b o,l b=some o->H' b=none)->Q v' (am3 H' l)
theorem bV3 {K:W.Frag}{mg:Str->Option Value}{base:Heap}{k:Nat}{p:Str}{body:Expr}{c':Addr}{pm ctv:Value}{cvs:St}
  (hkind:scope.kind=.function)(hco:scope.isCoroutine=false)(hgen:scope.isGenerator=false)(hfr:ar6 scope.names cl=true)(hp:scope.names.lookup p=some .local)
  (hinj:∀ x y c,cl.lookup x=some c->cl.lookup y=some c->x=y)(hcl:∀ x c,cl.lookup x=some c->∃ o v,l c=some o/\o.data=.cell v)(hN:cvs.length=N'.length)
  (hv:∀ (i:Nat) (x:Str) (v:V),N'[i]?=some x->cvs[i]?=some (some v)->scope.names.lookup x=some .free/\∃ c o u,cl.lookup x=some c/\l c=some o/\o.data=.cell (some u)/\RelV v u)
  (he:∀ (A:Around) (outer:List Env) (s:Shared) (H:Hp),X7 k (A.deeper (ao7 qual scope cl f (.ref c') s))->PE (bO0 P w K mg base A outer qual scope cl (p::N') f (.ref c') s H) body te) :
  x8 P w K mg base CX0 (k+1) f (PySem.W.kla_fn "<lambda>" qual params body scope cl pm (.ref c') ctv) [p] (cc3 f c' qual (PySem.W.kla_obj "<lambda>" qual params body scope cl pm c' ctv) l cvs te):=by
 refine⟨fun vs H Q E ⟨a,e,_⟩=>by rw[e];rfl,fun A outer s H args us vs Q E hr e0 hb r hsp=>?_⟩
 obtain⟨a,rfl,hf,hc,hl,ht⟩:=hsp
 obtain⟨u,rfl,ru⟩:=vals1 r
 have hmem:∀ y∈scope.names,y.2≠.cell/\(y.2=.free->(cl.lookup y.1).isSome=true):=fun y hy=>by
  unfold ar6 at hfr
  rw[Q9]at hfr
  have:=hfr y hy
  rw[D9]at this
  refine⟨by simpa using this.1,fun e=>?_⟩
  have h2:=this.2
  rw[e]at h2
  simpa using h2
 have at0:∀ b o,l b=some o->s.heap.get? b=some o:=fun b o e=>(e0.hok b _ (hl b o e)).1
 have nfr:∀ b o,l b=some o->b∉frs outer:=fun b o e z=>by
  have:=e0.frf b z
  rw[hl b o e]at this
  cases this
 have lim:s.heap.NoLimit:=e0.mod.nolimit.keeps fun b o e=>(e0.bs b o e).1
 refine PySem.W.kla_callFunE hr.depth (e0.hok f _ hf).1 rfl hco hgen rfl (e0.hok c' _ hc).1 (hb _ _ _ _ ?_)
 refine ae7 (fun y hy=>(hmem y hy).1) (fun y hy=>by rw[C9.mp hy];exact hp) (fun h1 hns hsb=>?_) hkind
 have hk:∀ b o,s.heap.get? b=some o->h1.get? b=some o:=fun b o e=>hsb.extBut b o (k7 (c8 e)) (c5 _ e)
 refine⟨lim.keeps hk,?_⟩
 show am1 _ _ (.expr body (PySem.W.envX qual scope s.heap.objs.size f (.ref c') cl)) _ _
 have noE:∀ b:Addr,b∉([]:List Addr):=fun b z=>nomatch z
 have rn:∀ b,H b=none->aa1 H l b=none:=fun b n=>by
  cases hb:l b with
  | some z=>exact ad5 hb
  | none=>rw[J5 hb];exact n
 have hC:aa1 H l s.heap.objs.size=none:=rn _ (e0.hok.fresh (d5 _))
 have I:Inv (bO0 P w K mg base A outer qual scope cl (p::N') f (.ref c') s (aa1 H l)) [] (some a::cvs) (aa1 H l) { s with heap:=h1,toks:=s.toks+[(p,u)].length }:=by
  refine⟨⟨e0.mod,hkind,rfl,rfl,d5 _,hinj,fun x hx=>?_,(fun x c e=>by cases e),fun _=>hr.hd,Around.frames_deeper e0.frames,.inr ⟨rfl,rfl⟩,fun b z=>absurd z (noE b),fun b o e=>⟨(e0.bs b o e).1,rn b (e0.bs b o e).2⟩,e0.bsz,fun b _ _=>noE b,fun b z=>absurd z (noE b),e0.funs,fun b hb=>rn b (e0.frf b hb)⟩,
   rfl,e0.bare,Un.kept hk,⟨_,hns,fun i x v e1 e2 e3=>?_⟩,fun x c e=>?_,hC,fun x c e=>?_,(fun q hq=>nomatch hq),(e0.hok.rmv hl).kept hk,?_⟩
  ·have hx':scope.names.lookup x=some .cell\/scope.names.lookup x=some .free:=hx
   rcases hx' with h | h
   ·exact absurd rfl (hmem _ (PySem.mem_of_lookup h)).1
   ·exact p6.mp ((hmem _ (PySem.mem_of_lookup h)).2 rfl)
  ·cases i with
   | zero =>
    have e1':p=x:=by simpa using (show (p::N')[0]?=some x from e1)
    have e2':a=v:=by simpa using (show (some a::cvs)[0]?=some (some v) from e2)
    subst e1' e2'
    refine⟨u,ru,.inl ⟨hp,?_⟩⟩
    show [(p,u)].reverse.lookup p=some u
    simp[E6]
   | succ i =>
    have e1':N'[i]?=some x:=by simpa using (show (p::N')[i+1]?=some x from e1)
    have e2':cvs[i]?=some (some v):=by simpa using (show (some a::cvs)[i+1]?=some (some v) from e2)
    obtain⟨hs,c,o,u',hc1,hc2,hd,rv⟩:=hv i x v e1' e2'
    exact⟨u',rv,.inr ⟨.inr hs,c,hc1,o,hk c o (at0 c o hc2),hd⟩⟩
  ·obtain⟨o,v,h1',h2'⟩:=hcl x c e
   exact⟨v,o,hk c o (at0 c o h1'),h2'⟩
  ·obtain⟨o,v,h1',h2'⟩:=hcl x c e
   exact ad5 h1'
  ·show (some a::cvs).length=(p::N').length
   rw[t4,t4,hN]
 refine PySem.W.kla_codeExpr (E1 (he A outer s (aa1 H l) (hr.deeper _) [] _ _ (aa1 H l) _ I ht) (fun u' s' hq=>?_) fun _ _ z=>False.elim z)
 obtain⟨v',H',J,r',q⟩:=hq
 have un:Un (frs outer) [] (aa1 H l) H' s.heap s'.heap:=J.base
 have fr:∀ b o,l b=some o->H' b=none:=fun b o e=>un.free b o (at0 b o e) (ad5 e) (noE b)
 exact⟨v',am3 H' l,J.os,J.bare,un.inner hl,J.hok.trkd fun b o e=>⟨un.keep b o (at0 b o e) (ad5 e) (nfr b o e) (noE b),fr b o e⟩,r',q fr⟩
def bR4 (P:Program)(w:World)(K:W.Frag)(mg:Str->Option Value)(base:Heap)(k i:Nat)(t:TA):TE:=fun σ H Q=>∃ (f:Addr) (ob:Obj) (fd:FuncData),σ[i]?=some (some (.ref f))/\H f=some (R7 f ob)/\ob.data=.func fd/\t σ H fun vs H1=>∃ (ps:List Str) (sp:Sp),H1 f=some (R7 f ob) /\
 x8 P w K mg base CX0 k f fd ps sp/\Binds K fd ps []/\sp vs H1 Q E0
theorem bt6 {k:Nat}{p:Pos}{t:TA}(hr:X7 k X.A)(hN:X.N[i]?=some x)(hv:Vis X.env.scope x)(ha:PA X (e::es) t)(hd:(x == ("__debug__":Str))=false:=by decide)(hcd:(x == ("__classdict__":Str))=false:=by decide)
  (he:u5 (e::es) X.env=(false,eval e X.env)::u5 es X.env:=by rfl)(hpl:(S4 pos (u5 es X.env)).any (·.1)=false:=by rfl) :
  PE X (.Call (.Name x p) (e::es) [] pos) (bR4 X.prog X.w X.K X.mg X.base k i t):=by
 intro pins s σ H Q I h
 obtain⟨f,ob,fd,hσ,hf,hfd,h⟩:=h
 refine J0 (E1 (bt0 hN hv hd hcd pins s σ H (fun v H'=>v=.ref f/\H'=H) I ⟨_,hσ,rfl,rfl⟩) (fun u s0 hq=>?_) fun _ _ z=>z)
 obtain⟨v,H',I0,rv,rfl,rfl⟩:=hq
 cases rv
 have hfo:=(I0.hok f _ hf).1
 obtain⟨oc,od,odt,osl⟩:=ob
 have kin:∀ {hh:Heap},hh.get? f=some ⟨oc,od,odt,osl⟩->PySem.W.Frag.In [(f,⟨oc,od,odt,osl⟩)] hh:=fun {hh} e a o q=>by
  by_cases z:a=f
  ·subst z
   have:(some ⟨oc,od,odt,osl⟩:Option Obj)=some o:=by simpa [E6] using q
   rw[<- this];exact e
  ·have:(none:Option Obj)=some o:=by
    have zz:(a == f)=false:=by simpa using z
    simpa [E6,zz] using q
   cases this
 have hfd':odt=.func fd:=hfd
 subst hfd'
 refine PySem.W.callWith_K (K:=[(f,⟨oc,od,.func fd,osl⟩)]) (h₀:=s0.heap) (kin hfo) (by unfold Q5;simp[E6]) (thn (ha pos pins s0 σ _ _ I0 h) fun us s1 ⟨vs,H1,I1,r,ps,sp,hf1,F,hb,q⟩=>⟨kin (I1.hok f _ hf1).1,?_⟩) he hpl
 have q':sp (vs++[]) H1 Q E0:=by rw[D7];exact q
 exact bs6 F hr hb .nil G2 I1 r q'
end L2
namespace L2
open PySem PySem.Spec PyProof.Rows PySem.SeqAt
def isI (z:Int):Value->Bool
 | .int c _=>c == z
 | _=>false
def bE6:V->List V->Hp->VK->Prop:=fun x vs H Q=>∃ (l:Addr) (ns:List Int) (z:Int) (j:Nat),x=.ref l/\vs=[.int z]/\H l=some (.lst (ns.map V.int))/\ns[j]?=some z/\(∀ m c,m<j->ns[m]?=some c->c≠z)/\j<1000/\Q (.int j) H
theorem bm0:MtM X "list.index" bE6:=by
 intro pins s σ H x vs v us Q I rx rv h
 obtain⟨l,ns,z,j,rfl,rfl,hH,hj,hno,hj1,q⟩:=h
 cases rx
 obtain⟨u,rfl,ru⟩:=vals1 rv
 obtain⟨t,rfl⟩:=ru
 obtain⟨zz,its,n,r,hl,e⟩:=I.lstM hH
 have hlen:=r.length
 rw[b7]at hlen
 have hjl:j<ns.length:=by
  rcases B0 j ns.length with h | h
  ·exact h
  ·rw[p9 h]at hj;cases hj
 have at_:∀ m (hm:m<ns.length),∃ t',its[m]?=some (.int ns[m] t'):=fun m hm=>by
  obtain⟨u,hu,ru⟩:=r.get (x:=.int ns[m]) (i:=m) (by rw[p0,g6 hm];rfl)
  obtain⟨t',rfl⟩:=ru
  exact⟨t',hu⟩
 have hsz:its.toArray.size=ns.length:=by rw[d6];omega
 refine aQ5 F.slot_list_index ⟨_,e,rfl⟩ F.entry_list_index (F.args_list_index_2 _ _) (list_indexAt l its.toArray n none #[] (.int z t) (isI z) j (by rw[hsz];exact hjl) (by omega) ?_ ?_) ⟨e,fun y hy=>?_,?_⟩
 ·obtain⟨t',ht⟩:=at_ j hjl
  rw[g6 (by omega)]at ht
  injection ht with ht
  rw[g6 hjl]at hj
  injection hj with hj
  show isI z (its.toArray[j]'(by rw[hsz];exact hjl))=true
  rw[bB9,ht,hj]
  simp[isI]
 ·intro m hm hmj
  have hml:m<ns.length:=by rw[hsz]at hm;exact hm
  obtain⟨t',ht⟩:=at_ m hml
  rw[g6 (by omega)]at ht
  injection ht with ht
  have:=hno m ns[m] hmj (g6 hml)
  rw[bB9,ht]
  simp[isI,this]
 ·obtain⟨m,hm,e⟩:=U6.mp (show y∈its by simpa using hy)
  obtain⟨t',ht⟩:=at_ m (by omega)
  rw[g6 hm,e]at ht
  injection ht with ht
  subst ht
  exact EqAt.int_int _ _ _ _
 ·exact⟨.int j,H,I.tok _,⟨_,rfl⟩,q⟩
end L2
namespace Web
open L2
open Grf (S b2 Gph deg cnt sm Top roomF)
def sk (p i:Nat):Nat:=if i<p then i else i+1
theorem bN0 (p i:Nat):sk p i≠p:=by unfold sk;split<;>omega
theorem bN1 (h:i<n - 1)(hp:p<n):sk p i<n:=by unfold sk;split<;>omega
theorem bd3 (f:Nat->Int):∀ {n:Nat},p<n->S n f=S (n - 1) (fun j=>f (sk p j))+f p
 | n+1,h=>by
  show S n f+f n=S n (fun j=>f (sk p j))+f p
  by_cases e:p=n
  ·subst e
   rw[Grf.t7 (g:=fun j=>f (sk p j)) fun i hi=>by show f i=f (sk p i);unfold sk;rw[if_pos hi]]
  ·have hp:p<n:=by omega
   rw[bd3 f hp]
   obtain⟨m,rfl⟩:∃ m,n=m+1:=⟨n - 1,by omega⟩
   have e1:sk p m=m+1:=by unfold sk;rw[if_neg (by omega)]
   show S m (fun j=>f (sk p j))+f p+f (m+1)=S m (fun j=>f (sk p j))+f (sk p m)+f p
   rw[e1]
   omega
theorem ac2:∀ {n:Nat},p<n->(q0 n).filter (fun i=>decide (i≠p))=(q0 (n - 1)).map (sk p)
 | n+1,h=>by
  rw[E7,N8,ai7]
  by_cases e:p=n
  ·subst e
   have e1:[p].filter (fun i=>decide (i≠p))=[]:=by simp
   rw[e1,D7,List.filter_eq_self.mpr fun a ha=>decide_eq_true (by have:=B7.mp ha;omega)]
   conv=>lhs;rw[<- List.map_id (q0 p)]
   exact Q3 fun a ha=>by
    show a=sk p a
    unfold sk;rw[if_pos (B7.mp ha)]
  ·have hp:p<n:=by omega
   have e1:[n].filter (fun i=>decide (i≠p))=[n]:=by
    rw[aP9,if_pos (decide_eq_true (Ne.symm e))];rfl
   rw[e1,ac2 hp]
   obtain⟨m,rfl⟩:∃ m,n=m+1:=⟨n - 1,by omega⟩
   have e2:sk p m=m+1:=by unfold sk;rw[if_neg (by omega)]
   rw[ai7,E7 (n:=m),j9,List.map_singleton,e2]
theorem aV8 {es:List Int}(h:p<ns.length):W2 ns p es=(q0 (ns.length - 1)).map fun i=>ac0 ns es (sk p i):=by
 unfold W2
 rw[ac2 h,W6]
 rfl
theorem al5 {es:List Int}(h:p<ns.length):(W2 ns p es).length=ns.length - 1:=by rw[aV8 h,b7,y9]
theorem aJ2 {es:List Int}(h:p<ns.length)(hi:i<ns.length - 1):(W2 ns p es).getD i 0=ac0 ns es (sk p i):=by
 rw[aV8 h,i6,p0,J8 hi]
 rfl
theorem bh7 (h:Gr ns)(hi:i<ns.length):ns.getD i 0<ns.length:=by
 obtain⟨g,hg,hd⟩:=h
 rw[<- hd i hi]
 unfold deg
 rw[bd3 (p:=i) _ hi,hg.irr]
 have h1:S (ns.length - 1) (fun j=>b2 (g i (sk i j)))<=S (ns.length - 1) (fun _=>1):=Grf.ae4 fun j _=>Grf.aK7 _
 rw[Grf.Q1]at h1
 have:b2 false=0:=rfl
 omega
theorem bJ0 {es:List Int} (h:Gr ns) (hp:p<ns.length) (nd:es.Nodup) (he:∀ z∈es,0<=z/\z<ns.length/\z≠p) (hl:(es.length:Int)=ns.getD p 0)
  (ht:∀ x∈es,∀ y:Nat,y<ns.length->(y:Int)∉es->y≠p->ns.getD y 0<=ns.getD x.toNat 0):Gr (W2 ns p es):=by
 obtain⟨g,hg,hd⟩:=h
 have hs:S ns.length (fun j=>b2 (decide ((j:Int)∈es)))=(es.length:Int):=by
  rw[Grf.t7 (g:=fun i=>if (i:Int)∈es then 1 else 0) fun i _=>by
   by_cases e:(i:Int)∈es
   ·rw[decide_eq_true e,if_pos e];rfl
   ·rw[decide_eq_false e,if_neg e];rfl]
  rw[aY4 (f:=fun _=>1) nd fun z hz=>⟨(he z hz).1,(he z hz).2.1⟩]
  clear he hl ht nd
  induction es with
  | nil=>rfl
  | cons a es ih=>rw[p7,Q4,ih,t4];omega
 have hNp:decide ((p:Int)∈es)=false:=decide_eq_false fun m=>(he _ m).2.2 rfl
 have hm:0<=S ns.length (fun j=>b2 (decide ((j:Int)∈es) && !g p j)):=Grf.S0 fun i _=>Grf.E9 _
 obtain⟨g',k1,k2,k3⟩:=Grf.ce9 (N:=fun j=>decide ((j:Int)∈es)) hp hNp (S ns.length (fun j=>b2 (decide ((j:Int)∈es) && !g p j))).toNat g hg (by rw[hs,hl,hd p hp])
  (fun x y hx hy hNx hNy hyp => by
   rw[hd x hx,hd y hy]
   have:=ht x (of_decide_eq_true hNx) y hy (of_decide_eq_false hNy) hyp
   rw[u6]at this
   exact this) (by omega)
 refine⟨fun i j=>g' (sk p i) (sk p j),⟨fun i j=>k1.sym _ _,fun i=>k1.irr _⟩,fun i hi=>?_⟩
 rw[al5 hp]at hi ⊢
 rw[aJ2 hp hi]
 have hsk:=bN1 (p:=p) hi hp
 have e1:=k2 _ hsk
 rw[hd _ hsk]at e1
 have e2:deg ns.length g' (sk p i)=S (ns.length - 1) (fun j=>b2 (g' (sk p i) (sk p j)))+b2 (g' (sk p i) p):=bd3 (p:=p) _ hp
 rw[e2,k1.sym (sk p i) p,k3 _ hsk]at e1
 show S (ns.length - 1) (fun j=>b2 (g' (sk p i) (sk p j)))=_
 generalize S (ns.length - 1) (fun j=>b2 (g' (sk p i) (sk p j)))=q at e1
 unfold ac0
 by_cases e:((sk p i:Nat):Int)∈es
 ·rw[decide_eq_true e]at e1
  rw[if_pos e]
  have:b2 true=1:=rfl
  omega
 ·rw[decide_eq_false e]at e1
  rw[if_neg e]
  have:b2 false=0:=rfl
  omega
theorem bx3 (h:Gr ns)(hp:p<ns.length)(hz:zs.Perm (rng ns.length))(hs:zs.Pairwise (ole ns)):Gr (W2 ns p ((rest zs p).take (ns.getD p 0).toNat)):=by
 have nz:(rest zs p).Nodup:=(hz.nodup_iff.mpr (X0 ns.length)).filter _
 have srt:(rest zs p).Pairwise (ole ns):=hs.filter _
 have h1:=bh7 h hp
 have h0:=aa5 (aD7 h) hp
 have hl:=aT5 hz (p:=p) (by omega) (by omega)
 refine bJ0 h hp (nz.sublist (L5 _ _)) (fun z m=>?_) ?_ (fun x hx y hy hny hyp=>?_)
 ·obtain⟨m1,m2⟩:=aB2.mp (G5 m)
  obtain⟨c0,c1⟩:=S5.mp (hz.mem_iff.mp m1)
  exact⟨c0,c1,m2⟩
 ·rw[q8]
  omega
 ·have hyr:(y:Int)∈rest zs p:=aB2.mpr ⟨hz.mem_iff.mpr (S5.mpr ⟨by omega,by omega⟩),by omega⟩
  have e:=B4 (ns.getD p 0).toNat (rest zs p)
  rw[<- e]at hyr srt
  rcases y7.mp hyr with m | m
  ·exact absurd m hny
  ·have:=(A2.mp srt).2.2 x hx y m
   rcases aq4.mp this with t | t
   ·rw[u6]at t;omega
   ·rw[u6]at t;omega
end Web
namespace Web
open L2
theorem up_eq {a b c d:Int}(h:up [a,b]=up [c,d]):(a=c/\b=d)\/(a=d/\b=c):=by
 unfold up at h
 injection h with h1 h2
 injection h2 with h2 _
 split at h1<;>split at h1<;>split at h2<;>split at h2<;>omega
def star (a:Int)(bs:List Int):List (List Int):=bs.map fun b=>[a,b]
theorem aE5 {a:Int}{q:Nat}:∀ {bs:List Int},a∉bs->ab0 (star a bs) q=if (q:Int)=a then bs.length else bs.count (q:Int)
 | [],_=>by
  split<;>rfl
 | b::bs,h=>by
  have hb:a≠b:=fun e=>h (e ▸ g9)
  have hbs:a∉bs:=fun m=>h (d3 _ m)
  have ih:=aE5 (q:=q) hbs
  unfold star ab0 at ih ⊢
  rw[p7,aQ0,ih,List.count_cons,t4]
  by_cases e:(q:Int)=a
  ·rw[if_pos e,if_pos e,if_pos (decide_eq_true (by rw[e];exact g9))]
  ·rw[if_neg e,if_neg e]
   by_cases e2:(q:Int)=b
   ·rw[if_pos (decide_eq_true (by rw[e2];exact d3 _ g9)),if_pos (by rw[e2];exact beq_self_eq_true b)]
   ·rw[if_neg (by
     intro z
     have:=of_decide_eq_true z
     rcases d4.mp this with t | t
     ·exact e t
     ·exact e2 (C9.mp t)),if_neg (by rw[beq_iff_eq];exact fun z=>e2 z.symm)]
theorem au7 {q:Int}:∀ {bs:List Int},bs.Nodup->bs.count q=if q∈bs then 1 else 0
 | [],_=>by rw[if_neg (by simp)];rfl
 | b::bs,nd=>by
  obtain⟨h1,h2⟩:=E5.mp nd
  rw[List.count_cons,au7 h2]
  by_cases e:b=q
  ·subst e
   rw[if_neg h1,if_pos g9,if_pos (beq_self_eq_true b)]
  ·rw[show (b == q)=false from beq_eq_false_iff_ne.mpr e]
   by_cases m:q∈bs
   ·rw[if_pos m,if_pos (d3 _ m)];rfl
   ·have m2:¬ q∈b::bs:=fun z=>by
     rcases d4.mp z with t | t
     ·exact e t.symm
     ·exact m t
    rw[if_neg m,if_neg m2];rfl
structure ak0 (ns ps left:List Int) (ks:List (List Int)):Prop where
 len:left.length=ps.length
 nd:ps.Nodup
 inn:∀ q∈ps,0<=q/\q<ns.length
 ends:∀ k∈ks,an2 ns.length k
 nodup:(ks.map up).Nodup
 out:∀ a b:Int,[a,b]∈ks->¬ (a∈ps/\b∈ps)
 cnt:∀ i q:Nat,ps[i]?=some (q:Int)->(ab0 ks q:Int)+left.getD i 0=ns.getD q 0
 done:∀ q:Nat,q<ns.length->(q:Int)∉ps->(ab0 ks q:Int)=ns.getD q 0
theorem aU7 {ps:List Int}(nd:ps.Nodup){a:Int}(h1:ps[i]?=some a)(h2:ps[j]?=some a):i=j:=by
 have hi:i<ps.length:=by
  rcases B0 i ps.length with h | h
  ·exact h
  ·rw[p9 h]at h1;cases h1
 exact(List.getElem?_inj hi nd).mp (h1.trans h2.symm)
theorem bh9 {ps:List Int}{a:Int}(h:ps[i]?=some a):ps.getD i 0=a:=by rw[i6,h];rfl
theorem bc6 {ps:List Int}(h:i<ps.length):ps[i]?=some (ps.getD i 0):=by
 rw[i6,g6 h];rfl
theorem ak0.step {ps left ps' es:List Int}{a:Int}(h:ak0 ns ps left ks)(hj:ps[j]?=some a)(sub:ps'.Sublist ps)(hl:ps'.length=ps.length - 1)(hix:∀ i,i<ps.length - 1->ps'[i]?=ps[sk j i]?)
  (ne:es.Nodup)(he:∀ z∈es,0<=z/\z<ps.length/\z≠j)(hn:(es.length:Int)=left.getD j 0) :
  ak0 ns ps' (W2 left j es) (ks++star a (es.map fun z=>ps.getD z.toNat 0)):=by
 have hjl:j<ps.length:=by
  rcases B0 j ps.length with h | h
  ·exact h
  ·rw[p9 h]at hj;cases hj
 have hjl':j<left.length:=by rw[h.len];exact hjl
 have haps:a∈ps:=f9 hj
 have bget:∀ z∈es,ps[z.toNat]?=some (ps.getD z.toNat 0):=fun z hz=>bc6 (by have:=he z hz;omega)
 have bmem:∀ b∈es.map (fun z=>ps.getD z.toNat 0),b∈ps:=fun b hb=>by
  obtain⟨z,hz,rfl⟩:=t8.mp hb
  exact f9 (bget z hz)
 have anb:a∉es.map (fun z=>ps.getD z.toNat 0):=fun m=>by
  obtain⟨z,hz,e⟩:=t8.mp m
  have h1:=bget z hz
  rw[e]at h1
  have:=aU7 h.nd h1 hj
  have:=he z hz
  omega
 have ndb:(es.map (fun z=>ps.getD z.toNat 0)).Nodup:=by
  refine M8.mpr ?_
  rw[P4]
  refine List.Pairwise.imp_of_mem ?_ (M8.mp ne)
  intro x y hx hy hxy e
  have h1:=bget x hx
  rw[e]at h1
  have:=aU7 h.nd h1 (bget y hy)
  have:=he x hx
  have:=he y hy
  exact hxy (by omega)
 have ap:a∉ps':=fun m=>by
  obtain⟨i,hi⟩:=o7.mp m
  have hil:i<ps.length - 1:=by
   rcases B0 i ps'.length with h | h
   ·omega
   ·rw[p9 h]at hi;cases hi
  rw[hix i hil]at hi
  exact bN0 j i (aU7 h.nd hi hj)
 have bin:∀ (i q:Nat),ps[i]?=some (q:Int)->((q:Int)∈es.map (fun z=>ps.getD z.toNat 0)↔(i:Int)∈es):=fun i q hi=>by
  constructor
  ·intro m
   obtain⟨z,hz,e⟩:=t8.mp m
   have h1:=bget z hz
   rw[e]at h1
   have:=aU7 h.nd h1 hi
   have:=he z hz
   rwa [show (i:Int)=z by omega]
  ·intro m
   refine t8.mpr ⟨i,m,?_⟩
   rw[u6]
   exact bh9 hi
 refine⟨by rw[al5 hjl',hl,h.len],h.nd.sublist sub,fun q hq=>h.inn q (sub.subset hq),fun k hk=>?_,?_,fun c d hk=>?_,fun i q hi=>?_,fun q hq hnq=>?_⟩
 ·rcases y7.mp hk with hk | hk
  ·exact h.ends k hk
  ·obtain⟨b,hb,rfl⟩:=t8.mp hk
   have h1:=h.inn a haps
   have h2:=h.inn b (bmem b hb)
   have h3:a≠b:=fun e=>anb (e ▸ hb)
   exact⟨a.toNat,b.toNat,by omega,by omega,by omega,by rw[bP1 h1.1,bP1 h2.1]⟩
 ·rw[j9,aH8]
  refine⟨h.nodup,?_,fun x hx y hy e=>?_⟩
  ·unfold star
   rw[W6]
   refine M8.mpr ?_
   rw[P4]
   refine List.Pairwise.imp_of_mem ?_ (M8.mp ndb)
   intro x y hx hy hxy e
   rcases up_eq e with t | t
   ·exact hxy t.2
   ·exact anb (t.1 ▸ hy)
  ·obtain⟨k,hk,rfl⟩:=t8.mp hx
   obtain⟨k2,hk2,rfl⟩:=t8.mp hy
   obtain⟨b,hb,rfl⟩:=t8.mp hk2
   obtain⟨u,v,_,_,_,rfl⟩:=h.ends k hk
   refine h.out _ _ hk ?_
   rcases up_eq e with t | t
   ·rw[t.1,t.2];exact⟨haps,bmem b hb⟩
   ·rw[t.1,t.2];exact⟨bmem b hb,haps⟩
 ·rcases y7.mp hk with hk | hk
  ·exact fun z=>h.out c d hk ⟨sub.subset z.1,sub.subset z.2⟩
  ·obtain⟨b,hb,e⟩:=t8.mp hk
   injection e with e1 _
   intro z
   exact ap (e1 ▸ z.1)
 ·have hil:i<ps.length - 1:=by
   rcases B0 i ps'.length with h | h
   ·omega
   ·rw[p9 h]at hi;cases hi
  rw[hix i hil]at hi
  have hc:=h.cnt _ q hi
  have hqa:¬ (q:Int)=a:=fun e=>by
   rw[e]at hi
   exact bN0 j i (aU7 h.nd hi hj)
  rw[aJ2 hjl' (by rw[h.len];exact hil),aE6,aE5 anb,if_neg hqa,au7 ndb]
  unfold ac0
  by_cases m:((sk j i:Nat):Int)∈es
  ·rw[if_pos ((bin _ q hi).mpr m),if_pos m];omega
  ·rw[if_neg (fun z=>m ((bin _ q hi).mp z)),if_neg m];omega
 ·rw[aE6,aE5 anb]
  by_cases e:(q:Int)=a
  ·have hc:=h.cnt j q (by rw[e];exact hj)
   rw[if_pos e,b7]
   omega
  ·rw[if_neg e,au7 ndb]
   have hq':(q:Int)∉ps:=fun m=>by
    obtain⟨m',hm'⟩:=o7.mp m
    have hml:m'<ps.length:=by
     rcases B0 m' ps.length with h | h
     ·exact h
     ·rw[p9 h]at hm';cases hm'
    have hmj:m'≠j:=fun z=>by rw[z,hj]at hm';injection hm' with hm';exact e hm'.symm
    obtain⟨i,hi,hik⟩:∃ i,i<ps.length - 1/\sk j i=m':=by
     rcases B0 m' j with t | t
     ·exact⟨m',by omega,by unfold sk;rw[if_pos t]⟩
     ·exact⟨m' - 1,by omega,by unfold sk;rw[if_neg (by omega)];omega⟩
    have:=hix i hi
    rw[hik,hm']at this
    exact hnq (f9 this)
   rw[if_neg (fun m=>hq' (bmem _ m)),h.done q hq hq' |>.symm]
   omega
theorem ak0.last {left:List Int}(h:ak0 ns [] left ks):tal ns.length ks=ns:=by
 apply T6
 intro i
 rcases B0 i ns.length with hi | hi
 ·rw[ap6 hi,h.done i hi (by simp),bc6 hi]
 ·rw[p9 (by rw[Y7];exact hi),p9 hi]
theorem aN1 (h:i<n):(rng n)[i]?=some (i:Int):=by
 unfold rng
 rw[p0,List.getElem?_range' h]
 simp
theorem ak0.first (ns:List Int):ak0 ns (rng ns.length) ns [] where
 len:=(ab7 _).symm
 nd:=X0 _
 inn:=fun q hq=>S5.mp hq
 ends:=fun k hk=>absurd hk (by simp)
 nodup:=by simp
 out:=fun a b hk=>absurd hk (by simp)
 cnt:=fun i q hi=>by
  have hil:i<ns.length:=by
   rcases B0 i (rng ns.length).length with h | h
   ·rw[ab7]at h;exact h
   ·rw[p9 h]at hi;cases hi
  rw[aN1 hil]at hi
  injection hi with hi
  rw[show q=i by omega]
  show (0:Int)+_=_
  omega
 done:=fun q hq hn=>absurd (S5.mpr ⟨by omega,by omega⟩) hn
theorem aC5:∀ {xs ys:List Int},xs.Perm ys->xs.Pairwise (ole ns)->ys.Pairwise (ole ns)->xs=ys
 | [],ys,p,_,_=>p.symm.eq_nil.symm
 | x::xs,[],p,_,_=>by
  have:=p.length_eq
  simp at this
 | x::xs,y::ys,p,h,q=>by
  have hxy:x=y:=by
   have h1:x∈y::ys:=p.mem_iff.mp g9
   have h2:y∈x::xs:=p.mem_iff.mpr g9
   rcases d4.mp h1 with e | e
   ·exact e
   ·rcases d4.mp h2 with e2 | e2
    ·exact e2.symm
    ·exact aU3 ((G3.mp h).1 y e2) ((G3.mp q).1 x e)
  subst hxy
  rw[aC5 ((List.perm_cons x).mp p) (G3.mp h).2 (G3.mp q).2]
theorem aU6:∀ {l m:List (List Int)},l.Nodup->(∀ x∈l,x∈m)->l.length<=m.length
 | [],m,_,_=>u4 _
 | x::l,m,nd,h=>by
  have h1:=E5.mp nd
  have hm:=h x g9
  have h2:∀ y∈l,y∈m.erase x:=fun y hy=>by
   have hne:y≠x:=fun e=>h1.1 (e ▸ hy)
   exact(List.mem_erase_of_ne hne).mpr (h y (d3 _ hy))
  have h3:=aU6 h1.2 h2
  rw[bj5 hm]at h3
  have h4:0<m.length:=List.length_pos_of_mem hm
  simp only[t4]
  omega
theorem bp4 (hn:n<=24)(nd:ks.Nodup)(h:∀ k∈ks,Up n k):ks.length<=276:=
 A1 (aU6 nd fun k hk=>by
  obtain⟨i,j,h1,h2,rfl⟩:=h k hk
  exact bF6 h1 h2) (ae1 n hn)
theorem ak0.len_le {ps left:List Int}(h:ak0 ns ps left ks)(hn:ns.length<=24):ks.length<=276:=by
 have:=bp4 hn h.nodup fun k hk=>by
  obtain⟨k',hk',rfl⟩:=t8.mp hk
  exact(h.ends k' hk').up
 rw[b7]at this
 exact this
theorem bz1 {q:Nat}:∀ {ks:List (List Int)},(∀ k∈ks,an2 n k)->ab0 (ks.map up) q=ab0 ks q
 | [],_=>rfl
 | k::ks,h=>by
  have ih:=bz1 (q:=q) fun k hk=>h k (d3 _ hk)
  unfold ab0 at ih ⊢
  rw[p7,aQ0,aQ0,ih]
  congr 1
  obtain⟨i,j,_,_,_,rfl⟩:=h k g9
  have e:((q:Int)∈up [(i:Int),(j:Int)])↔(q:Int)∈[(i:Int),(j:Int)]:=by
   unfold up
   simp only[d4,K8,or_false]
   split<;>split<;>omega
  by_cases z:(q:Int)∈[(i:Int),(j:Int)]
  ·rw[decide_eq_true z,decide_eq_true (e.mpr z)]
  ·rw[decide_eq_false z,decide_eq_false (fun t=>z (e.mp t))]
theorem bQ7 (h:∀ k∈ks,an2 n k):tal n (ks.map up)=tal n ks:=by
 unfold tal
 refine Q3 fun p _=>?_
 rw[bz1 h]
noncomputable def bF7 (ns:List Int):List Int:=Classical.choose (ao4 ns)
theorem ad8 (ns:List Int):(bF7 ns).Perm (rng ns.length):=(Classical.choose_spec (ao4 ns)).1
theorem aJ0 (ns:List Int):(bF7 ns).Pairwise (ole ns):=(Classical.choose_spec (ao4 ns)).2
theorem bg7 (hp:zs.Perm (rng ns.length))(hs:zs.Pairwise (ole ns)):zs=bF7 ns:=aC5 (hp.trans (ad8 ns).symm) hs (aJ0 ns)
noncomputable def chF (ns:List Int)(p:Nat):List Int:=(rest (bF7 ns) p).take (ns.getD p 0).toNat
theorem bz3 (ns:List Int)(p:Nat):(chF ns p).Nodup:=(((ad8 ns).nodup_iff.mpr (X0 ns.length)).filter _).sublist (L5 _ _)
theorem bc9 {z:Int}(h:z∈chF ns p):0<=z/\z<ns.length/\z≠p:=by
 obtain⟨m1,m2⟩:=aB2.mp (G5 h)
 obtain⟨c0,c1⟩:=S5.mp ((ad8 ns).mem_iff.mp m1)
 exact⟨c0,c1,m2⟩
theorem aP0 (h:Gr ns)(hp:p<ns.length):((chF ns p).length:Int)=ns.getD p 0:=by
 have h1:=bh7 h hp
 have h0:=aa5 (aD7 h) hp
 have hl:=aT5 (ad8 ns) (p:=(p:Int)) (by omega) (by omega)
 unfold chF
 rw[q8]
 omega
theorem bz4 (h:Gr ns)(hp:p<ns.length):Gr (W2 ns p (chF ns p)):=bx3 h hp (ad8 ns) (aJ0 ns)
noncomputable def bv5:Nat->List Int->List Int->List (List Int)
 | 0,_,_=>[]
 | m+1,left,ps=>star (ps.getD 0 0) ((chF left 0).map fun z=>ps.getD z.toNat 0)++bv5 m (W2 left 0 (chF left 0)) (ps.drop 1)
theorem ak0.go {ps left:List Int}(h:ak0 ns ps left ks)(hg:Gr left)(h0:0<left.length) :
  ak0 ns (ps.drop 1) (W2 left 0 (chF left 0)) (ks++star (ps.getD 0 0) ((chF left 0).map fun z=>ps.getD z.toNat 0)):=by
 have hl:=h.len
 refine h.step (bc6 (by omega)) (Z4 1 ps) (by rw[F3]) (fun i hi=>?_) (bz3 left 0) (fun z hz=>?_) (aP0 hg h0)
 ·rw[R8]
  congr 1
  unfold sk
  rw[if_neg (by omega)]
  omega
 ·have:=bc9 hz
  omega
def N6 (n p:Nat):List Int:=((q0 n).filter fun i=>decide (i≠p)).map fun i:Nat=>(i:Int)
theorem ak0.start {es:List Int}(hp:p<ns.length)(ne:es.Nodup)(he:∀ z∈es,0<=z/\z<ns.length/\z≠p)(hn:(es.length:Int)=ns.getD p 0):ak0 ns (N6 ns.length p) (W2 ns p es) (star p es):=by
 have:=(ak0.first ns).step (j:=p) (a:=(p:Int)) (ps':=N6 ns.length p) (es:=es) (aN1 hp) ?_ ?_ ?_ ne (fun z hz=>by rw[ab7];exact he z hz) hn
 ·have e:es.map (fun z=>(rng ns.length).getD z.toNat 0)=es:=by
   conv=>rhs;rw[<- List.map_id es]
   refine Q3 fun z hz=>?_
   have:=he z hz
   rw[bh9 (aN1 (n:=ns.length) (i:=z.toNat) (by omega))]
   show ((z.toNat:Nat):Int)=z
   omega
  rw[e,P3]at this
  exact this
 ·unfold N6 rng
  rw[<- av3]
  exact List.Sublist.map _ bL1
 ·unfold N6
  rw[ac2 hp,b7,b7,y9,ab7]
 ·intro i hi
  rw[ab7]at hi
  unfold N6
  rw[ac2 hp,p0,p0,J8 hi,aN1 (bN1 hi hp)]
  rfl
end Web
namespace Tim
open PySem PyProof.Rows
section
variable {p:Array (Nat × Nat × Nat)} {O:aL7} {f:Keyed->O.α}
end
end Tim
namespace L2
open PySem PySem.Spec PyProof.Rows
end L2
namespace HT
open PySem PyProof.Rows
section
open PySem.SeqAt
open PySem.AutoSeq1 (wpAny_loadPart')
open PySem.MeetsSeq PySem.MeetsSeq2 PySem.MeetsSeq3
end
end HT
namespace L2
open PySem PySem.Spec PyProof.Rows
def cd5:R2:=fun x y H Q=>∃ l b xs zs,x=.ref l/\y=.ref b/\H l=some (.lst xs)/\H b=some (.lst zs)/\xs.length+zs.length<=1000/\Q (.ref l) (upd H l (.lst (xs++zs)))
theorem bc4:fillsInplaceSlot (.type "list") "add" true=pure false:=by
 unfold fillsInplaceSlot
 show (aQ4 (.type "list") (dunderI "add") >>= fun fi=>pure (fi.isSome && !isSeqSlot fi))=pure false
 rw[F.slot_list_iadd.lookup]
 rw[pure_bind]
 congr 1
theorem bm7:seqSlot? (.type "list") (dunderI "add")=pure (some (.builtin "list.__iadd__")):=by
 unfold seqSlot?
 rw[F.slot_list_iadd.lookup]
 rfl
theorem bw5:PIp X .Add cd5:=by
 intro pins s σ H x y v u Q I rx ry h
 obtain⟨l,b,xs,zs,rfl,rfl,hH,hB,hz,q⟩:=h
 cases rx
 cases ry
 obtain⟨z,its,n,r,hl,e⟩:=I.lstM hH
 obtain⟨z2,its2,n2,r2,hl2,e2⟩:=I.lstM hB
 have hln:=r.length
 have hln2:=r2.length
 unfold inplaceOp
 refine F0 ?_
 refine b9 (wpAny_typeOf (T:="list") ⟨_,e,rfl⟩ (b9 (bk5 bc4 ?_)))
 show r6 _ _ (if false=true then _ else _) _ _ s
 rw[if_neg j7]
 refine b9 (wpAny_binaryOp1_none (a:=.ref l) (b:=.ref b) (s:=s) (nm:="add") (T:="list") ⟨_,e,rfl⟩ ⟨_,e2,rfl⟩ noFill_list_add ?_)
 refine b9 (bk5 bm7 ?_)
 refine b9 (an7 ?_)
 have hd:¬(!its.toArray.isEmpty && Builtin.List.listTooLong (its.toArray.size+its2.toArray.size))=true:=extend_door (by rw[d6,d6,E4];omega)
 refine aQ5 F.slot_list_iadd ⟨_,e,rfl⟩ F.entry_list_iadd (F.args_list_iadd_2 _ _) (PySem.AutoSeq1.list___iadd___list_list_0 l its.toArray n b its2.toArray n2 hd (by rw[d6,E4];omega) (by rw[d6,d6,E4];omega)) ⟨e,e2,?_⟩
 refine⟨.ref l,_,I.lset (its':=its++its2) hH e ?_ (r.append r2) ?_,rfl,q⟩
 ·show its.toArray++its2.toArray=_
  simp
 ·rw[o6,E4];omega
section
variable {Er:Value->Shared->Prop}
end
section
variable {K:W.Frag} {mg:Str->Option Value} {base:Heap} {cd:Value} {outer:List Env} {E:XK} {H1:Hp} {s1:Shared}
end
section
variable {K:W.Frag} {mg:Str->Option Value} {base:Heap} {cd:Value} {outer:List Env} {E:XK}
end
section
variable {K:W.Frag} {mg:Str->Option Value} {base:Heap} {scope0:Scope} {cd:Value} {outer:List Env} {s0:Shared} {H0:Hp} {E:XK}
end
end L2
namespace L2
open PySem PySem.Spec PyProof.Rows PySem.SeqAt
end L2
namespace PySem
section
variable {K:Type} [DecidableEq K] {knd:HeapKind prog w K}
end
end PySem
namespace PySem
section
variable {K:Type} [DecidableEq K] {knd:HeapKind prog w K}
end
end PySem
namespace L2
open PySem PySem.Spec PyProof.Rows
end L2
namespace Web
open PySem L2
theorem bw9 {K:W.Frag}{Q:VK}{l:Addr}{es:List Int}{z:Int}(hun:A.units+64<an6)(hl:SqL K H l (es.map V.int))(q:Q (.bl (decide (z∈es))) H):bb1 K A false (.int z) (.ref l) H Q:=by
 refine⟨l,_,.int z,es.map .int,rfl,.inl hl,Dt.mkInt,E3.ints es,by simp[PyData.canLay0],lay_ints es,aM1 hun (by simp[PyData.depth]),?_⟩
 rw[aq9,if_neg j7]
 exact q
inductive Wz where
 | odd | below (z:Int) | wall (z:Int)
theorem bO5 (a b:Int):decide (V.int a=V.int b)=decide (a=b):=by
 by_cases h:a=b
 ·rw[h,decide_eq_true rfl,decide_eq_true rfl]
 ·rw[decide_eq_false h,decide_eq_false (fun z=>h (by injection z))]
end Web
namespace L2
open PySem PySem.Spec PyProof.Rows
theorem aa4 {lo:Int}{D:Addr}{g:TG}{tt:TT}{σ0:St}{H0:Hp}(Pv:Nat->List V->St->Hp->Prop)(h0:Pv 0 [] σ0 H0)(hz:n<=j5)(hl:∀ i xs σ H,i<=n->Pv i xs σ H->H D=some (.lst xs)/\xs.length<=i)
  (hs:∀ i xs σ H (N:List V->St->Hp->Prop),(∀ xs' σ' H',Pv (i+1) xs' σ' H'->N xs' σ' H')->i<n->Pv i xs σ H->g (.int (lo+i)) σ H fun σ2 H2=>tt σ2 H2 fun b H3=>if b=true then te σ2 H3 fun v H4=>H4 D=some (.lst xs)/\N (xs++[v]) σ2 (upd H4 D (.lst (xs++[v]))) else N xs σ2 H3)
  (hd:∀ xs σ H,Pv n xs σ H->Qd H) :
  ∃ W:Nat->Nat->List V->St->Hp->Prop,(∃ m,W 0 m [] σ0 H0)/\∀ i m xs σ' H',W i m xs σ' H'->H' D=some (.lst xs)/\(((Itr lo n).stop i H'/\Qd H')\/((Itr lo n).go i H'/\xs.length<j5/\∀ x H'',(Itr lo n).yld i H' x H''->g x σ' H'' fun σ2 H2=>tt σ2 H2 fun b H3 =>
   if b=true then te σ2 H3 fun v H4=>H4 D=some (.lst xs)/\∃ m',m'<m/\W (i+1) m' (xs++[v]) σ2 (upd H4 D (.lst (xs++[v]))) else ∃ m',m'<m/\W (i+1) m' xs σ2 H3)):=by
 refine⟨fun i m xs σ H=>m=n - i/\i<=n/\Pv i xs σ H,⟨n,by simp,u4 _,h0⟩,?_⟩
 rintro i m xs σ H ⟨rfl,hi,p⟩
 obtain⟨hD,hx⟩:=hl i xs σ H hi p
 refine⟨hD,?_⟩
 by_cases hlt:i<n
 ·refine .inr ⟨hlt,by omega,fun x H'' y=>?_⟩
  obtain⟨e,y⟩:=y
  subst e y
  exact hs i xs σ _ (fun zs σ' H'=>∃ m',m'<n - i/\m'=n - (i+1)/\i+1<=n/\Pv (i+1) zs σ' H') (fun zs σ' H' r=>⟨_,by omega,rfl,hlt,r⟩) hlt p
 ·obtain rfl:i=n:=by omega
  exact .inl ⟨d5 _,hd xs σ H p⟩
end L2
namespace Web
open PySem L2
def top (i:Nat):Stmt:=PySem.Challenge.pw_tallyweb_k54_changes_refused.main.body.getD i (.Pass ⟨0,0,0,0⟩)
abbrev aT1:Stmt:=top 13
abbrev sUp:Stmt:=top 14
abbrev aA8:Stmt:=top 15
abbrev at4:Stmt:=top 21
abbrev aS7:Stmt:=top 22
abbrev aq1:Stmt:=top 24
abbrev af4:Stmt:=top 25
abbrev aA6:Stmt:=top 26
abbrev aI2:Stmt:=top 27
abbrev af3:Stmt:=top 28
abbrev as9:Stmt:=top 29
abbrev aS5:Stmt:=top 30
abbrev at3:Stmt:=top 32
abbrev aI4:Stmt:=top 33
abbrev aS9:Stmt:=top 34
abbrev bs4:Stmt:=top 35
abbrev aA4:Stmt:=top 37
abbrev bs5:Stmt:=top 38
abbrev ai4:Stmt:=top 39
abbrev ba8:Stmt:=top 41
abbrev aI3:Stmt:=top 42
abbrev aI5:Stmt:=top 44
abbrev aT2:Stmt:=top 48
abbrev aA7:Stmt:=top 51
abbrev aA5:Stmt:=top 16
abbrev aq0:Stmt:=top 19
abbrev br9:Stmt:=top 17
abbrev bs0:Stmt:=top 18
abbrev aA9:Stmt:=top 43
abbrev aS8:Stmt:=top 46
abbrev bs2:Stmt:=top 45
abbrev bs1:Stmt:=top 49
abbrev br8:Stmt:=top 50
abbrev aS6:Stmt:=top 52
abbrev bs3:Stmt:=top 53
abbrev ba7:Stmt:=top 54
structure Bn (mg:Str->Option Value):Prop where
 len:mg "len"=none
 range:mg "range"=none
 enum:mg "enumerate"=none
 list:mg "list"=none
 tuple:mg "tuple"=none
 sorted:mg "sorted"=none
 set:mg "set"=none
 isin:mg "isinstance"=none
 int:mg "int"=none
 bool:mg "bool"=none
 min:mg "min"=none
 max:mg "max"=none
 sum:mg "sum"=none
 str:mg "str"=none
 ve:mg "ValueError"=none
 all:mg "all"=none
 zip:mg "zip"=none
theorem L0:1000<=j5:=by decide
theorem d9 {l:Addr}{o:HO}(h:H l=none):u9 H (upd H l o):=fun b u e=>by
 rw[r9 (o8 e h)]
 exact e
section
variable {K:W.Frag} {mg:Str->Option Value} {base:Heap}
def bM8:Sp:=fun vs H Q _=>∃ a b:Int,vs=[.int a,.int b]/\Q (.bl (decide (0<=b) && decide (b<a))) H
theorem cc8:x9 ["places","number"] ["places","number"] (p5 aT1):=.mk'
theorem bU7 (F:Fun K "is_place" "is_place" aT1 f fd):x8 P w K mg base CX0 1 f fd ["places","number"] bM8:=by
 refine F.ok cc8 (fun cdv A outer s H vs Q E hr h=>?_)
 obtain⟨a,b,rfl,k⟩:=h
 refine⟨_,o4 (B2 (bt5 ah4 aj6 i9 (pv 1) (pv 0))),?_⟩
 refine⟨_,rfl,_,_,rfl,rfl,_,rfl,?_⟩
 cases e:decide ((0:Int)<=b) with
 | true =>
  refine P7 ⟨_,rfl,_,_,rfl,rfl,?_⟩
  rw[e,Bool.true_and]at k
  exact k
 | false =>
  refine O3 ?_
  rw[e,Bool.false_and]at k
  exact k
def cc2 (K:W.Frag):Sp:=fun vs H Q _=>∃ (n:Nat) (a:Addr) (k:List Int),vs=[.int n,.ref a]/\SqT K H a (k.map V.int)/\an2 n k /\
 ∀ p,H p=none->Q (.ref p) (upd H p (.tup ((up k).map V.int)))
theorem ch9:x9 ["places","tie"] ["places","tie"] (p5 sUp):=.mk'
theorem cd8 {fI:Addr} (F:Fun K "turned_up" "turned_up" sUp f fd) (B:Bn mg) (FI:Fq K mg "is_place" aT1 fI fdI ["places","number"]) :
  x8 P w K mg base CX0 2 f fd ["places","tie"] (cc2 K):=by
 have GI:x8 P w K mg base CX0 1 fI fdI ["places","number"] bM8:=bU7 FI.F
 refine F.ok ch9 (fun cdv A outer s H vs Q E hr h=>?_)
 obtain⟨n,a,k,rfl,hS,⟨i,j,h1,h2,h3,rfl⟩,q⟩:=h
 refine⟨_,j6 (O0 (PW.pt (aI7 (af5 (aB3 (ay4 GI hr rfl FI.m FI.F.kp FI.b .nil G2 (b8 (pv 0) (b8 (G1 G7 (pv 1) i9 (fun _ _=>rfl)) c7)))))
    (at6 (af5 (aB3 (ay4 GI hr rfl FI.m FI.F.kp FI.b .nil G2 (b8 (pv 0) (b8 (G1 G7 (pv 1) i9 (fun _ _=>rfl)) c7)))))))) R1 F9)
  (j6 (O0 (D3 av8 (G1 G7 (pv 1) i9 (fun _ _=>rfl)) (G1 G7 (pv 1) i9 (fun _ _=>rfl)) (F5 _)) R1 F9)
  (o4 (B2 (N2 (b8 (p8 (al8 rfl) (by rfl) B.min (by rfl) (b8 (G1 G7 (pv 1) i9 (fun _ _ => rfl)) (b8 (G1 G7 (pv 1) i9 (fun _ _ => rfl)) c7)))
   (b8 (p8 (au9 rfl) (by rfl) B.max (by rfl) (b8 (G1 G7 (pv 1) i9 (fun _ _=>rfl)) (b8 (G1 G7 (pv 1) i9 (fun _ _=>rfl)) c7))) c7)))))),?_⟩
 have a0:atI (([(i:Int),(j:Int)]:List Int).map V.int) 0=some (.int i):=B8 (j:=0) rfl
 have a1:atI (([(i:Int),(j:Int)]:List Int).map V.int) 1=some (.int j):=B8 (j:=1) rfl
 refine⟨_,rfl,_,rfl,a,_,_,_,rfl,rfl,hS,a0,_,_,rfl,?_⟩
 rw[decide_eq_true (show (0:Int)<=i by omega),decide_eq_true (show (i:Int)<n by omega)]
 refine⟨_,rfl,O3 ?_⟩
 refine⟨_,rfl,_,rfl,a,_,_,_,rfl,rfl,hS,a1,_,_,rfl,?_⟩
 rw[decide_eq_true (show (0:Int)<=j by omega),decide_eq_true (show (j:Int)<n by omega)]
 refine⟨_,rfl,O3 ?_⟩
 refine⟨_,rfl,a,_,_,_,rfl,rfl,hS,a0,_,rfl,a,_,_,_,rfl,rfl,hS,a1,rfl,_,rfl,?_⟩
 rw[decide_eq_false (show ¬ V.int (i:Int)=V.int (j:Int) by intro z;injection z;omega)]
 refine O3 ?_
 refine⟨_,rfl,a,_,_,_,rfl,rfl,hS,a0,_,rfl,a,_,_,_,rfl,rfl,hS,a1,_,_,rfl,?_⟩
 refine⟨_,rfl,a,_,_,_,rfl,rfl,hS,a0,_,rfl,a,_,_,_,rfl,rfl,hS,a1,_,_,rfl,(by show 2<=j5;decide),fun p hp=>?_⟩
 exact q p hp
def bq8 (K:W.Frag):Sp:=fun vs H Q _=>∃ (a:Addr) (ns:List Int) (k:Nat),vs=[.ref a,.int k]/\SqL K H a (ns.map V.int)/\∀ r:Int,Q (.int r) H
theorem bS6:x9 ["script","k"] ["script","k"] (p5 aT2):=.mk'
theorem bH1 (F:Fun K "_law_cell_at" "_law_cell_at" aT2 f fd)(B:Bn mg):x8 P w K mg base CX0 1 f fd ["script","k"] (bq8 K):=by
 refine F.ok bS6 (fun cdv A outer s H vs Q E hr h=>?_)
 obtain⟨a,ns,k,rfl,hS,q⟩:=h
 refine⟨_,j6 (O0 (D3 aj6 (pv 1) (p8 A0 (by rfl) B.len PySem.boot_len (b8 (pv 0) c7)) (F5 _)) (o4 (B2 (G1 X4 (pv 0) (pv 1) (fun _ _=>rfl)))) F9)
  (o4 (B2 i9)),?_⟩
 refine⟨_,rfl,_,rfl,a,_,rfl,.inl hS,_,_,rfl,rfl,_,rfl,?_⟩
 refine aW4 (fun h=>?_) (fun h=>?_)
 ·have hl:k<ns.length:=by
   have:=of_decide_eq_true h
   rw[b7]at this
   omega
  refine⟨_,rfl,_,rfl,a,_,_,_,rfl,rfl,hS,B8 (j:=k) (v:=.int ns[k]) (by simp[hl]),?_⟩
  exact q _
 ·exact q _
def N7 (ns:List Int):Prop:=1<=ns.length/\ns.length<=24
def Sq (K:W.Frag)(H:Hp)(a:Addr)(ns:List Int):Prop:=SqL K H a (ns.map V.int)\/SqT K H a (ns.map V.int)
theorem Sq.same (h:Sq K H a ns)(s:u9 H H'):Sq K H' a ns:=h.elim (fun h=>.inl (s.seq h)) fun h=>.inr (s.seqT h)
def aI1 (K:W.Frag)(CB:Addr):Sp:=fun vs H Q E=>∃ (a:Addr) (ns:List Int),vs=[.ref a]/\Sq K H a ns/\(N7 ns->Q .non H)/\(¬ N7 ns->E (.ref CB) none H)
theorem cd1:x9 ["tally"] ["tally"] (p5 at4):=.mk'
theorem aN8 (F:Fun K "check_tally" "check_tally" at4 f fd)(B:Bn mg)(mM:mg "MOST_PLACES"=some (.int 24 tk))(mB:mg "BadTally"=some (.ref CB))(cB:ai5 K CB):x8 P w K mg base (CXE P w) 1 f fd ["tally"] (aI1 K CB):=by
 refine F.okX cd1 (fun cdv A outer s H vs Q E hr h=>?_)
 obtain⟨a,ns,rfl,hS,h1,h2⟩:=h
 refine⟨_,o4 (O0 (af5 (aj4 ah4 ah4 i9 (p8 A0 (by rfl) B.len PySem.boot_len (b8 (pv 0) c7)) (S6 (v:=.int 24) (by rfl) mM ⟨tk,rfl⟩))) (o4 (aB5 (by rfl) mB cB)) F9),?_⟩
 refine⟨_,rfl,a,_,rfl,hS,_,_,rfl,rfl,_,rfl,?_⟩
 rw[b7]
 by_cases hp:(1:Int)<=(ns.length:Int)
 ·rw[decide_eq_true hp]
  refine P7 ⟨_,_,rfl,rfl,_,rfl,?_⟩
  by_cases hp':(ns.length:Int)<=24
  ·rw[decide_eq_true hp']
   exact O3 (h1 ⟨by omega,by omega⟩)
  ·rw[decide_eq_false hp']
   exact P7 (h2 fun z=>hp' (by have:=z.2;omega))
 ·rw[decide_eq_false hp]
  exact O3 ⟨_,rfl,P7 (h2 fun z=>hp (by have:=z.1;omega))⟩
end
section
variable {K:W.Frag} {mg:Str->Option Value} {base:Heap}
def aM4 (K:W.Frag):Sp:=fun vs H Q _=>∃ (n:Nat) (a:Addr) (ys:List V) (hs:List (List Int)),vs=[.int n,.ref a]/\1<=n/\n<=24/\(SqL K H a ys\/SqT K H a ys)/\C0 K H ys hs/\(∀ k∈hs,an2 n k)/\(hs.map up).Nodup/\hs.length<300 /\
 ∀ p t zs ks H',u9 H H'->H p=none->H t=none->H' p=some (.tup [.int n,.ref t])->H' t=some (.tup zs)->C0 K H' zs ks->ks.Perm (hs.map up)->ks.Pairwise (fun a b=>Tim.N5 b a=false)->Q (.ref p) H'
theorem ba6:x9 ["places","ties","ascending"] ["places","ties"] (p5 aA8):=.mk'
theorem bh0 {fI fU:Addr} {fdU:FuncData} (F:Fun K "made" "made" aA8 f fd) (B:Bn mg) (FI:Fq K mg "is_place" aT1 fI fdI ["places","number"])
  (FU:Fq K mg "turned_up" sUp fU fdU ["places","tie"]) (mM:mg "MOST_PLACES"=some (.int 24 tk)) :
  x8 P w K mg base CX0 3 f fd ["places","ties"] (aM4 K):=by
 have GU:x8 P w K mg base CX0 2 fU fdU ["places","tie"] (cc2 K):=cd8 FU.F B FI
 refine F.ok ba6 (fun cdv A outer s H vs Q E hr h=>?_)
 obtain⟨n,a,ys,hs,rfl,n1,n2,hS,hT,hE,hN,hL,q⟩:=h
 have hu8:=Nat.lt_of_le_of_lt (W5 (by decide:8<=64) _) hr.units
 have hyl:=hT.len
 have nd2:(["tie","places"]:List Str).Nodup:=by decide +kernel
 have step:∀ (D:Addr),H D=none->∀ (i:Nat) (xs:List V) (H':Hp) (x:V) (N:List V->Hp->Prop),u9 H H'->H' D=some (.lst xs)->C0 K H' xs ((hs.take i).map up)->ys[i]?=some x ->
   (∀ xs' H'',u9 H H''->H'' D=some (.lst xs')->C0 K H'' xs' ((hs.take (i+1)).map up)->N xs' H'') ->
   ∃ (m:Nat) (b:Addr) (k:List Int),[V.int n,x]=[.int m,.ref b]/\SqT K H' b (k.map V.int)/\an2 m k/\∀ p,H' p=none->(upd H' p (.tup ((up k).map V.int))) D=some (.lst xs)/\N (xs++[.ref p]) (upd (upd H' p (.tup ((up k).map V.int))) D (.lst (xs++[.ref p]))):=by
  intro D hD i xs H' x N s1 hd ht hx k
  obtain⟨b,kk,rfl,hk,hq⟩:=hT.get hx
  refine⟨n,b,kk,rfl,s1.seqT hq,hE kk (f9 hk),fun p hp=>?_⟩
  have npd:D≠p:=o8 hd hp
  have hd':(upd H' p (.tup ((up kk).map V.int))) D=some (.lst xs):=by rw[r9 npd];exact hd
  refine⟨hd',k _ _ ((s1.trans (d9 hp)).upd hD) c6 ?_⟩
  have e:(hs.take (i+1)).map up=(hs.take i).map up++[up kk]:=by
   rw[C8,hk,j9]
   rfl
  rw[e]
  refine C0.updL hd' (C0.append (u9.tups (d9 hp) ht) (C0.one (SqT.of c6)))
 rcases hS with hS | hS
 ·refine⟨_,j6 (O0 (af5 (aj4 ah4 ah4 i9 (pv 0) (S6 (v:=.int 24) rfl mM ⟨_,rfl⟩))) R1 F9)
   (j6 (A7 (i := 2) ba6.nd rfl (Or.inl rfl) (p8 av9 (by rfl) B.sorted (by rfl) (b8
    (N0 (N' := ["tie", "places"]) (lk := [none, some 0]) rfl (R4 (pv 1)) (by rfl) rfl (by decide +kernel) (by exact ⟨rfl, trivial⟩) (by rfl) (by exact LkL.ok ⟨⟨rfl, Or.inl rfl, rfl, Or.inl rfl⟩, trivial⟩)
     (fun _ _ _=>A3 (i:=0) nd2 rfl (Or.inl rfl)) (fun _ _ _=>P9) (fun _ _ _=>D0 GU hr (by rfl) FU G2 (b8 (pv 1) (b8 (pv 0) c7)))) c7)))
   (j6 (O0 (D3 aj6 (p8 call_len_set (by rfl) B.len PySem.boot_len (b8 (T9 (aY0 rfl hu8) (by rfl) B.set (by rfl) (b8 (pv 2) c7)) c7)) (p8 A0 (by rfl) B.len PySem.boot_len (b8 (pv 2) c7)) (F5 _)) R1 F9)
   (o4 (B2 (N2 (b8 (pv 0) (b8 (T9 X5 (by rfl) B.tuple (by rfl) (b8 (pv 2) c7)) c7))))))),?_⟩
  refine⟨_,rfl,_,_,rfl,rfl,_,rfl,?_⟩
  rw[decide_eq_true (show (1:Int)<=n by omega)]
  refine P7 ⟨_,_,rfl,rfl,_,rfl,?_⟩
  rw[decide_eq_true (show (n:Int)<=24 by omega)]
  refine O3 ?_
  refine⟨_,rfl,a,rfl,⟨_,hS⟩,fun D hD=>R6 (K:=K) (a:=a) (D:=D) (ys:=ys) (fun i xs σ' H'=>∃ v,σ'=[v,some (.int n)]/\u9 H H'/\H' D=some (.lst xs)/\C0 K H' xs ((hs.take i).map up)) ⟨none,rfl,d9 hD,c6,.nil⟩ (by have:=L0;omega)
   (fun i xs σ' H' hi ⟨_,_,s1,h1,h2⟩=>⟨s1.seq hS,h1,by have:=h2.len;simp at this;omega⟩) ?_ ?_⟩
  ·rintro i xs x σ' H' N kN hx ⟨v,rfl,s1,h1,h2⟩
   refine B9 ?_
   refine L6 ?_
   refine⟨_,rfl,_,rfl,?_⟩
   exact step D hD i xs H' x (fun xs' H''=>N xs' _ H'') s1 h1 h2 hx fun xs' H'' a1 a2 a3=>kN _ _ _ ⟨_,rfl,a1,a2,a3⟩
  ·rintro xs σ' H1 ⟨v,rfl,s1,h1,h2⟩
   rw[k9 (by omega)]at h2
   have hup:∀ k∈hs.map up,Up n k:=fun k hk=>by
    obtain⟨k0,h0,rfl⟩:=t8.mp hk
    exact(hE k0 h0).up
   refine⟨D,xs,_,rfl,SqL.of h1,h2,(fun k hk z=>by have:=(hup k hk).len;rw[z]at this;cases this),fun l zs ks hl pk hs1 ht1=>?_⟩
   have hkl:ks.length=hs.length:=by rw[pk.length_eq,b7]
   have hzl:=ht1.len
   have s2:u9 H (upd H1 l (.lst zs)):=s1.trans (d9 hl)
   refine⟨_,rfl,l,zs,ks,rfl,SqL.of c6,ht1,(fun k hk=>(hup k (pk.mem_iff.mp hk)).key n2),by omega,fun S hSn=>?_⟩
   have hlS:l≠S:=o8 c6 hSn
   have s3:=s2.trans (d9 (o:=bd2 P w S (ks.foldl Sett.Z0 []).length) hSn)
   have l3:(upd (upd H1 l (.lst zs)) S (bd2 P w S (ks.foldl Sett.Z0 []).length)) l=some (.lst zs):=by rw[r9 hlS,c6]
   refine⟨S,_,rfl,c6,_,rfl,l,zs,rfl,.inl (SqL.of l3),_,_,rfl,rfl,_,rfl,?_⟩
   have hfold:(ks.foldl Sett.Z0 []).length=zs.length:=by
    have:=(Sett.au4 ks []).mpr ⟨(pk.nodup_iff).mpr hN,fun x _=>by simp⟩
    simp at this
    omega
   rw[hfold,decide_eq_false (by omega)]
   refine O3 ?_
   refine⟨_,rfl,_,rfl,l,zs,rfl,.inl ⟨SqL.of (by rw[hfold]at l3;exact l3),fun t ht=>⟨(by show 2<=j5;decide),fun p hp=>?_⟩⟩⟩
   rw[hfold]at s3
   have s4:=(s3.trans (d9 (o:=.tup zs) ht)).trans (d9 (o:=.tup [.int n,.ref t]) hp)
   refine q p t zs ks _ s4 ((s3.trans (d9 ht)).free hp) (s3.free ht) c6 ?_ ?_ pk hs1
   ·rw[r9 (o8 c6 hp),c6]
   ·exact u9.tups (((d9 hSn).trans (d9 ht)).trans (d9 hp)) ht1
 ·refine⟨_,j6 (O0 (af5 (aj4 ah4 ah4 i9 (pv 0) (S6 (v:=.int 24) rfl mM ⟨_,rfl⟩))) R1 F9)
   (j6 (A7 (i := 2) ba6.nd rfl (Or.inl rfl) (p8 av9 (by rfl) B.sorted (by rfl) (b8
    (N0 (N' := ["tie", "places"]) (lk := [none, some 0]) rfl (aN4 (pv 1)) (by rfl) rfl (by decide +kernel) (by exact ⟨rfl, trivial⟩) (by rfl) (by exact LkL.ok ⟨⟨rfl, Or.inl rfl, rfl, Or.inl rfl⟩, trivial⟩)
     (fun _ _ _=>A3 (i:=0) nd2 rfl (Or.inl rfl)) (fun _ _ _=>P9) (fun _ _ _=>D0 GU hr (by rfl) FU G2 (b8 (pv 1) (b8 (pv 0) c7)))) c7)))
   (j6 (O0 (D3 aj6 (p8 call_len_set (by rfl) B.len PySem.boot_len (b8 (T9 (aY0 rfl hu8) (by rfl) B.set (by rfl) (b8 (pv 2) c7)) c7)) (p8 A0 (by rfl) B.len PySem.boot_len (b8 (pv 2) c7)) (F5 _)) R1 F9)
   (o4 (B2 (N2 (b8 (pv 0) (b8 (T9 X5 (by rfl) B.tuple (by rfl) (b8 (pv 2) c7)) c7))))))),?_⟩
  refine⟨_,rfl,_,_,rfl,rfl,_,rfl,?_⟩
  rw[decide_eq_true (show (1:Int)<=n by omega)]
  refine P7 ⟨_,_,rfl,rfl,_,rfl,?_⟩
  rw[decide_eq_true (show (n:Int)<=24 by omega)]
  refine O3 ?_
  refine⟨_,rfl,a,rfl,⟨_,hS⟩,fun D hD=>aX6 (K:=K) (a:=a) (D:=D) (ys:=ys) (fun i xs σ' H'=>∃ v,σ'=[v,some (.int n)]/\u9 H H'/\H' D=some (.lst xs)/\C0 K H' xs ((hs.take i).map up)) ⟨none,rfl,d9 hD,c6,.nil⟩ (by have:=L0;omega)
   (fun i xs σ' H' hi ⟨_,_,s1,h1,h2⟩=>⟨s1.seqT hS,h1,by have:=h2.len;simp at this;omega⟩) ?_ ?_⟩
  ·rintro i xs x σ' H' N kN hx ⟨v,rfl,s1,h1,h2⟩
   refine B9 ?_
   refine L6 ?_
   refine⟨_,rfl,_,rfl,?_⟩
   exact step D hD i xs H' x (fun xs' H''=>N xs' _ H'') s1 h1 h2 hx fun xs' H'' a1 a2 a3=>kN _ _ _ ⟨_,rfl,a1,a2,a3⟩
  ·rintro xs σ' H1 ⟨v,rfl,s1,h1,h2⟩
   rw[k9 (by omega)]at h2
   have hup:∀ k∈hs.map up,Up n k:=fun k hk=>by
    obtain⟨k0,h0,rfl⟩:=t8.mp hk
    exact(hE k0 h0).up
   refine⟨D,xs,_,rfl,SqL.of h1,h2,(fun k hk z=>by have:=(hup k hk).len;rw[z]at this;cases this),fun l zs ks hl pk hs1 ht1=>?_⟩
   have hkl:ks.length=hs.length:=by rw[pk.length_eq,b7]
   have hzl:=ht1.len
   have s2:u9 H (upd H1 l (.lst zs)):=s1.trans (d9 hl)
   refine⟨_,rfl,l,zs,ks,rfl,SqL.of c6,ht1,(fun k hk=>(hup k (pk.mem_iff.mp hk)).key n2),by omega,fun S hSn=>?_⟩
   have hlS:l≠S:=o8 c6 hSn
   have s3:=s2.trans (d9 (o:=bd2 P w S (ks.foldl Sett.Z0 []).length) hSn)
   have l3:(upd (upd H1 l (.lst zs)) S (bd2 P w S (ks.foldl Sett.Z0 []).length)) l=some (.lst zs):=by rw[r9 hlS,c6]
   refine⟨S,_,rfl,c6,_,rfl,l,zs,rfl,.inl (SqL.of l3),_,_,rfl,rfl,_,rfl,?_⟩
   have hfold:(ks.foldl Sett.Z0 []).length=zs.length:=by
    have:=(Sett.au4 ks []).mpr ⟨(pk.nodup_iff).mpr hN,fun x _=>by simp⟩
    simp at this
    omega
   rw[hfold,decide_eq_false (by omega)]
   refine O3 ?_
   refine⟨_,rfl,_,rfl,l,zs,rfl,.inl ⟨SqL.of (by rw[hfold]at l3;exact l3),fun t ht=>⟨(by show 2<=j5;decide),fun p hp=>?_⟩⟩⟩
   rw[hfold]at s3
   have s4:=(s3.trans (d9 (o:=.tup zs) ht)).trans (d9 (o:=.tup [.int n,.ref t]) hp)
   refine q p t zs ks _ s4 ((s3.trans (d9 ht)).free hp) (s3.free ht) c6 ?_ ?_ pk hs1
   ·rw[r9 (o8 c6 hp),c6]
   ·exact u9.tups (((d9 hSn).trans (d9 ht)).trans (d9 hp)) ht1
end
def ce0 (st:Stmt):Pos:=match (S7 st).getD 1 (.Pass ⟨0,0,0,0⟩) with
 | .Return (some (.Call _ _ [⟨_,.Lambda _ _ _ p,_⟩] _)) _=>p
 | _=>⟨0,0,0,0⟩
def ci5:Str:=(("order_of":Str)++(".<locals>.":Str))++("<lambda>":Str)
abbrev Tb (P:Addr)(H:Hp):Prop:=U0 P (ce0 aS7) ci5 H
theorem T5.sqL {K:W.Frag}{P:Addr}{po:Pos}{qu:Str}(g:T5 P H H')(t:U0 P po qu H)(h:SqL K H a xs):SqL K H' a xs:=by
 obtain⟨ps,hP,_⟩:=t
 rcases h with(h | ⟨o,h⟩) | h
 ·exact .inl (.inl (g a _ (fun z=>by rw[z,hP]at h;cases h) h))
 ·exact .inl (.inr ⟨o,g a _ (fun z=>by rw[z,hP]at h;cases h) h⟩)
 ·exact .inr h
theorem T5.sqT {K:W.Frag}{P:Addr}{po:Pos}{qu:Str}(g:T5 P H H')(t:U0 P po qu H)(h:SqT K H a xs):SqT K H' a xs:=by
 obtain⟨ps,hP,_⟩:=t
 rcases h with(h | ⟨o,h⟩) | h
 ·exact .inl (.inl (g a _ (fun z=>by rw[z,hP]at h;cases h) h))
 ·exact .inl (.inr ⟨o,g a _ (fun z=>by rw[z,hP]at h;cases h) h⟩)
 ·exact .inr h
theorem Sq.grow {K:W.Frag}{P:Addr}{po:Pos}{qu:Str}(h:Sq K H a ns)(g:T5 P H H')(t:U0 P po qu H):Sq K H' a ns:=h.elim (fun h=>.inl (T5.sqL g t h)) fun h=>.inr (T5.sqT g t h)
theorem aK8.one (h:X.N[j]?=some x/\(X.env.scope.names.lookup x=some .cell\/X.env.scope.names.lookup x=some .free)/\(cl.lookup x).isSome=true/\(scope.names.lookup x=some .cell\/scope.names.lookup x=some .free)) :
  aK8 X [x] [some j] scope cl:=⟨rfl,fun i j' y e1 e2=>by
 cases i with
 | zero =>
  have e1':x=y:=by simpa using e1
  have e2':j=j':=by simpa using e2
  subst e1' e2'
  exact h
 | succ i=>simp at e1⟩
theorem bT3 {a b:Expr}{tb:TE}(K:W.Frag)(hK:X.K=K)(ha:PE X a ta)(hb:PE X b tb)(hs:az6 b):PE X (.Subscript a b pos) (tOp (rIx K) ta tb):=by
 cases hK
 exact G1 bw3 ha hb hs
section
variable {K:W.Frag} {mg:Str->Option Value} {base:Heap}
def bM4 (K:W.Frag)(CB PT:Addr):Sp:=fun vs H Q E=>∃ (a:Addr) (ns:List Int),vs=[.ref a]/\Sq K H a ns /\
 (N7 ns->Tb PT H/\∀ (zs:List Int) (D:Addr) (H':Hp),T5 PT H H'->Tb PT H'->H' D=some (.lst (zs.map V.int))->zs.Perm (rng ns.length)->zs.Pairwise (ole ns)->Q (.ref D) H')/\(¬ N7 ns->E (.ref CB) none H)
theorem cc7:x9 ["tally"] ["tally"] (p5 aS7):=.mk'
theorem bU2 {PT:Addr} (F:Fun K "order_of" "order_of" aS7 f fd) (hc:fd.code=.ref c) (LB:ar5 base mg c PT) (B:Bn mg) (FT:Fq K mg "check_tally" at4 fT fdT ["tally"])
  (mM:mg "MOST_PLACES"=some (.int 24 tk)) (mB:mg "BadTally"=some (.ref CB)) (cB:ai5 K CB):x8 P w K mg base (CXE P w) 2 f fd ["tally"] (bM4 K CB PT):=by
 have GT:x8 P w K mg base (CXE P w) 1 fT fdT ["tally"] (aI1 K CB):=aN8 FT.F B mM mB cB
 refine F.okXC hc cc7 (fun A outer s H vs Q E hr h=>?_)
 obtain⟨a,ns,rfl,hS,h1,h2⟩:=h
 have hsl:=L0
 refine⟨_,j6 (R3 (D0 GT hr (by rfl) FT ah3 (b8 (pv 0) c7)))
  (o4 (B2 (bt2 (p := "place") (N' := ["tally"]) (lk := [some 0]) rfl hr.depth (by rfl) B.sorted (b8 (bF1 (by rfl) B.range (b8 (p8 A0 (by rfl) B.len PySem.boot_len (b8 (pv 0) c7)) c7)) c7)
   LB rfl (by rfl) (by rfl) rfl rfl rfl (by exact⟨rfl,trivial⟩) (by rfl) (by exact aK8.one ⟨rfl,Or.inl rfl,rfl,Or.inr rfl⟩) rfl (fun _ _ _ _=>rfl)
   (fun _ _ _ _=>N2 (b8 (aB8 ao1 (bT3 K rfl (pv 1) (pv 0) (fun _ _=>rfl))) (b8 (pv 0) c7)))))),?_⟩
 refine⟨_,rfl,a,ns,rfl,hS,fun ht=>?_,h2⟩
 obtain⟨tb,q⟩:=h1 ht
 refine⟨_,rfl,a,_,rfl,hS,(ns.map V.int).length,rfl,by rw[b7];have:=ht.2;omega,fun r hr0=>?_⟩
 have s0:=d9 (o:=.rng 0 ((ns.map V.int).length:Int)) hr0
 have tb1:Tb PT (upd H r (.rng 0 ((ns.map V.int).length:Int))):=tb.same s0
 refine⟨r,(ns.map V.int).length,bl7 ns,rfl,c6,by rw[b7];have:=ht.2;omega,bG1 ns,tb1,fun H2 g2 tb2=>⟨fun H3 z sm hz=>?_,fun H' D zs sm hD hp hs=>?_⟩⟩
 ·have hS3:Sq K H3 a ns:=((hS.same s0).grow g2 tb1).same sm
  rw[b7]at hz
  have hat:atI (ns.map V.int) (z:Int)=some (.int (ns.getD z 0)):=B8 (j:=z) (by simp[hz])
  have fin:∀ k,H3 k=none->(∃ k',(V.ref k:V)=.ref k'/\(upd H3 k (.tup [.int (-(ns.getD z 0)),.int z])) k'=some (.tup ((bl7 ns z).map V.int))/\u9 H3 (upd H3 k (.tup [.int (-(ns.getD z 0)),.int z]))):=fun k hk=>⟨k,rfl,c6,d9 hk⟩
  rcases hS3 with h3 | h3
  ·exact⟨_,rfl,_,rfl,.inl ⟨a,_,_,_,rfl,rfl,h3,hat,_,rfl,_,rfl,(by show 2<=j5;decide),fin⟩⟩
  ·exact⟨_,rfl,_,rfl,.inr (.inl ⟨a,_,_,_,rfl,rfl,h3,hat,_,rfl,_,rfl,(by show 2<=j5;decide),fin⟩)⟩
 ·have sD:=d9 (o:=.lst (zs.map V.int)) hD
  rw[b7]at hp
  exact q zs D _ (((s0.grow PT).trans g2).trans ((sm.trans sD).grow PT)) (tb2.same (sm.trans sD)) c6 hp hs
end
theorem an1 (ns:List Int)(k:Nat):au6 (ns.map V.int) (some (k:Int)) none=(ns.drop k).map V.int:=by rw[bn5,aF9]
theorem aj9 (ns:List Int)(k:Nat):au6 (ns.map V.int) none (some (k:Int))=(ns.take k).map V.int:=by rw[bJ8,aG0]
theorem Q0 {x:V}(h:(ns.map V.int)[i]?=some x):∃ z:Int,ns[i]?=some z/\x=V.int z:=by
 rw[p0]at h
 cases e:ns[i]? with
 | none=>rw[e]at h;cases h
 | some z=>rw[e]at h;cases h;exact⟨z,rfl,rfl⟩
theorem ap0 (h:j<ns.length):atI (ns.map V.int) (j:Int)=some (.int (ns.getD j 0)):=B8 (j:=j) (by simp[h])
theorem aW2 {K:W.Frag}{Q:VK}(h:Sq K H a ns)(hj:j<ns.length)(q:Q (.int (ns.getD j 0)) H):rIx K (.ref a) (.int j) H Q:=
 h.elim (fun h=>.inl ⟨a,_,_,_,rfl,rfl,h,ap0 hj,q⟩) fun h=>.inr (.inl ⟨a,_,_,_,rfl,rfl,h,ap0 hj,q⟩)
theorem aI8:av0 (CXE P w) X E0:=fun _ _ _ _ _ _ _ h=>by
 obtain⟨_,_,_,_,_,_,_,_,_,_,_,hE⟩:=h
 exact hE.elim
theorem bh3 (z:Int):(PyData.int z).canLay0=true:=by simp[PyData.canLay0]
theorem bi4 (z:Int):(PyData.int z).depth<=8:=by simp[PyData.depth]
theorem bI8 {K:W.Frag}{Q:VK}{l:Addr}{es:List Int}{z:Int}(hun:A.units+64<an6)(hl:SqL K H l (es.map V.int))(q:Q (.bl (decide (z∈es))) H):bb1 K A false (.int z) (.ref l) H Q:=by
 refine⟨l,_,.int z,es.map .int,rfl,.inl hl,Dt.mkInt,E3.ints es,bh3 z,lay_ints es,aM1 hun (A1 (bi4 z) (by decide)),?_⟩
 rw[aq9,if_neg j7]
 exact q
theorem bb7 {K:W.Frag}{Q:VK}{l:Addr}{es:List Int}{z:Int}(hun:A.units+64<an6)(hl:SqL K H l (es.map V.int))(q:Q (.bl (!decide (z∈es))) H):bb1 K A true (.int z) (.ref l) H Q:=by
 refine⟨l,_,.int z,es.map .int,rfl,.inl hl,Dt.mkInt,E3.ints es,bh3 z,lay_ints es,aM1 hun (A1 (bi4 z) (by decide)),?_⟩
 rw[aq9,if_pos rfl]
 exact q
def Y0 (ps zs:List Int):List Int:=zs.filter fun x=>!decide (x∈ps)
theorem aI9 (p:Int)(zs:List Int):Y0 [p] zs=rest zs p:=by
 unfold Y0 rest
 congr 1
 funext x
 by_cases h:x=p<;>simp[h]
theorem aJ6 {PT l:Addr}{po:Pos}{qu:Str}(g:T5 PT H H')(t:U0 PT po qu H')(h:H' l=none):H l=none:=by
 cases e:H l with
 | none=>rfl
 | some o =>
  by_cases z:l=PT
  ·obtain⟨ps,hP,_⟩:=t
   rw[z,hP]at h
   cases h
  ·rw[g l o z e]at h
   cases h
section
variable {K:W.Frag} {mg:Str->Option Value} {base:Heap}
def aM5 (K:W.Frag)(PT:Addr):Sp:=fun vs H Q _=>∃ (a pa:Addr) (ns ps:List Int) (k:Nat),vs=[.ref a,.int k,.ref pa]/\Sq K H a ns/\N7 ns/\SqL K H pa (ps.map V.int)/\Tb PT H /\
 ∀ (zs:List Int) (D:Addr) (H':Hp),T5 PT H H'->Tb PT H'->H D=none->zs.Perm (rng ns.length)->zs.Pairwise (ole ns)->H' D=some (.lst (((Y0 ps zs).take k).map V.int))->Q (.ref D) H'
theorem bE2:x9 ["tally","many","passed_over"] ["tally","many","passed_over"] (p5 at3):=.mk'
theorem aU4 {fO PT:Addr} (F:Fun K "first_of_order" "first_of_order" at3 f fd) (B:Bn mg) (FO:Fq K mg "order_of" aS7 fO fdO ["tally"]) (hc:fdO.code=.ref c) (LB:ar5 base mg c PT)
  (FT:Fq K mg "check_tally" at4 fT fdT ["tally"]) (mM:mg "MOST_PLACES"=some (.int 24 tk)) (mB:mg "BadTally"=some (.ref CB)) (cB:ai5 K CB):x8 P w K mg base (CXE P w) 3 f fd ["tally","many","passed_over"] (aM5 K PT):=by
 have GO:x8 P w K mg base (CXE P w) 2 fO fdO ["tally"] (bM4 K CB PT):=bU2 FO.F hc LB B FT mM mB cB
 refine F.okX bE2 (fun cdv A outer s H vs Q E hr h=>?_)
 obtain⟨a,pa,ns,ps,k,rfl,hS,ht,hpa,tb,q⟩:=h
 have hsl:=L0
 have hun:=hr.units
 have t2:=ht.2
 have nd2:(["place","passed_over"]:List Str).Nodup:=by decide +kernel
 refine⟨_,o4 (B2 (ad6 ak8 (N0 (N':=["place","passed_over"]) (lk:=[none,some 2]) rfl (R4 (D0 GO hr (by rfl) FO (aI8 (P:=P) (w:=w)) (b8 (pv 0) c7))) (by rfl) rfl (by decide +kernel) (by exact⟨rfl,trivial⟩) (by rfl) (by exact LkL.ok ⟨⟨rfl,Or.inl rfl,rfl,Or.inl rfl⟩,trivial⟩)
  (fun _ _ _=>A3 (i:=0) nd2 rfl (Or.inl rfl)) (fun _ _ _=>ak9 (D3 (aC4 K hr.around rfl rfl) (pv 0) (pv 1) (by rfl))) (fun _ _ _=>pv 0)) aq3 (af6 (pv 1)))),?_⟩
 refine⟨_,rfl,a,ns,rfl,hS,fun _=>⟨tb,fun zs D1 H1 g1 tb1 gD hp hs=>⟨D1,rfl,⟨_,SqL.of gD⟩,fun D hD=>?_⟩⟩,fun h=>absurd ht h⟩
 have hzl:zs.length=ns.length:=by rw[hp.length_eq,ab7]
 have hpa1:=T5.sqL g1 tb hpa
 refine R6 (K:=K) (a:=D1) (D:=D) (ys:=zs.map V.int) (fun i xs σ' H'=>(∃ v,σ'=[v,some (.ref pa)])/\u9 H1 H'/\H' D=some (.lst xs)/\xs=(Y0 ps (zs.take i)).map V.int) ⟨⟨none,rfl⟩,d9 hD,c6,rfl⟩ (by rw[b7];omega)
  (fun i xs σ' H' hi ⟨_, s6, h6, e6⟩ => ⟨SqL.of (s6 _ _ gD), h6, by
   rw[e6,b7]
   have:=K4 (fun x=>!decide (x∈ps)) (zs.take i)
   rw[q8]at this
   unfold Y0
   omega⟩) ?_ ?_
 ·rintro i xs x σ' H' N kN hx ⟨⟨v,rfl⟩,s6,h6,rfl⟩
  obtain⟨z,hz,rfl⟩:=Q0 hx
  refine B9 ?_
  refine⟨_,rfl,_,rfl,bb7 hun (s6.seq hpa1) ⟨_,rfl,?_⟩⟩
  have et:Y0 ps (zs.take (i+1))=Y0 ps (zs.take i)++Y0 ps [z]:=by
   unfold Y0
   rw[C8,hz,ax2,N8]
  by_cases hm:z∈ps
  ·rw[decide_eq_true hm]
   refine O3 ?_
   refine kN _ _ _ ⟨⟨_,rfl⟩,s6,h6,?_⟩
   have e0:Y0 ps [z]=[]:=by unfold Y0;rw[am9 (by rw[decide_eq_true hm];decide)];rfl
   rw[et,e0,D7]
  ·rw[decide_eq_false hm]
   refine P7 ?_
   refine⟨_,rfl,h6,kN _ _ _ ⟨⟨_,rfl⟩,s6.upd hD,c6,?_⟩⟩
   have e0:Y0 ps [z]=[z]:=by unfold Y0;rw[am8 (by rw[decide_eq_false hm];decide)];rfl
   rw[et,e0,j9]
   rfl
 ·rintro xs σ' H3 ⟨⟨v,rfl⟩,s6,h6,rfl⟩
  rw[k9 (by rw[b7];exact d5 _)]at h6
  refine⟨_,rfl,_,rfl,D,_,rfl,SqL.of h6,fun l hl=>?_⟩
  rw[aj9]
  have s7:=s6.trans (d9 (o:=.lst (((Y0 ps zs).take k).map V.int)) hl)
  exact q zs l _ (g1.trans (s7.grow PT)) (tb1.same s7) (aJ6 (g1.trans (s6.grow PT)) (tb1.same s6) hl) hp hs c6
def bq6 (K:W.Frag):Sp:=fun vs H Q _=>∃ (a ea:Addr) (ns es:List Int) (p:Nat),vs=[.ref a,.int p,.ref ea]/\Sq K H a ns/\ns.length<=24/\SqL K H ea (es.map V.int) /\
 ∀ (l:Addr) (H':Hp),u9 H H'->H l=none->H' l=some (.lst ((W2 ns p es).map V.int))->Q (.ref l) H'
theorem br2:x9 ["tally","place","ends","others"] ["tally","place","ends"] (p5 aI4):=.mk'
theorem bw2 {z:Int}(h:z∈N6 n p):∃ j:Nat,z=(j:Int)/\j<n:=by
 obtain⟨j,hj,rfl⟩:=t8.mp h
 exact⟨j,rfl,B7.mp (O9.mp hj).1⟩
theorem bm6 (ns es:List Int)(p:Nat):(N6 ns.length p).map (fun z=>ac0 ns es z.toNat)=W2 ns p es:=by
 unfold N6 W2
 rw[W6]
 refine Q3 fun j _=>?_
 show ac0 ns es (j:Int).toNat=_
 rw[u6]
set_option maxHeartbeats 1000000 in
theorem bG7 (F:Fun K "left_of_others" "left_of_others" aI4 f fd) (B:Bn mg):x8 P w K mg base CX0 1 f fd ["tally","place","ends"] (bq6 K):=by
 refine F.ok br2 (fun cdv A outer s H vs Q E hr h=>?_)
 obtain⟨a,ea,ns,es,p,rfl,hS,hn,hea,q⟩:=h
 have hsl:=L0
 have hun:=hr.units
 have nd2:(["one","place"]:List Str).Nodup:=by decide +kernel
 have nd3:(["one","tally","ends"]:List Str).Nodup:=by decide +kernel
 refine⟨_,j6 (ay1 (i:=3) br2.nd rfl rfl (by rfl) (N':=["one","place"]) (lk:=[none,some 1]) rfl (T8 rfl B.range (b8 (p8 A0 (by rfl) B.len PySem.boot_len (b8 (pv 0) c7)) c7)) (by rfl) rfl (by decide +kernel) (by exact⟨rfl,trivial⟩) (by rfl) (by exact LkL.ok ⟨⟨rfl,Or.inl rfl,rfl,Or.inl rfl⟩,trivial⟩)
    (fun _ _ _=>A3 (i:=0) nd2 rfl (Or.inl rfl)) (fun _ _ _=>ak9 (D3 bt8 (pv 0) (pv 1) (F5 _))) (fun _ _ _=>pv 0))
  (o4 (B2 (N0 (N':=["one","tally","ends"]) (lk:=[none,some 0,some 2]) rfl (R4 (pv 3)) (by rfl) rfl (by decide +kernel) (by exact⟨rfl,rfl,trivial⟩) (by rfl) (by exact LkL.ok ⟨⟨rfl,Or.inl rfl,rfl,Or.inl rfl⟩,⟨rfl,Or.inl rfl,rfl,Or.inl rfl⟩,trivial⟩)
    (fun _ _ _=>A3 (i:=0) nd3 rfl (Or.inl rfl)) (fun _ _ _=>P9) (fun _ _ _=>aU2 (D3 (bg9 K hr.around rfl rfl) (pv 0) (pv 2) (by rfl)) (v7 V2 (Y8 K rfl (pv 1) (pv 0) (fun _ _=>rfl)) i9) (Y8 K rfl (pv 1) (pv 0) (fun _ _=>rfl)))))),?_⟩
 refine⟨_,rfl,a,_,rfl,hS,(ns.length:Int),congrArg (fun z:Nat=>[V.int (z:Int)]) (b7 ..),by omega,by omega,fun D hD=>?_⟩
 rw[u6]
 refine aa4 (lo:=0) (n:=ns.length) (D:=D) (fun i xs σ' H'=>(∃ v,σ'=[v,some (.int p)])/\u9 H H'/\H' D=some (.lst xs)/\xs=(N6 i p).map V.int) ⟨⟨none,rfl⟩,d9 hD,c6,rfl⟩ (by omega)
  (fun i xs σ' H' hi ⟨_, s6, h6, e6⟩ => ⟨h6, by
   rw[e6,b7]
   unfold N6
   rw[b7]
   have:=K4 (fun j=>decide (j≠p)) (q0 i)
   rw[y9]at this
   exact this⟩) ?_ ?_
 ·rintro i xs σ' H' N kN hi ⟨⟨v,rfl⟩,s6,h6,rfl⟩
  have e0:((0:Int)+(i:Int))=(i:Int):=by omega
  rw[e0]
  refine B9 ?_
  refine⟨_,rfl,_,rfl,rfl,_,rfl,?_⟩
  have et:N6 (i+1) p=N6 i p++(if i=p then [] else [(i:Int)]):=by
   unfold N6
   rw[E7,N8,j9]
   congr 1
   by_cases h:i=p<;>simp[h]
  by_cases hm:i=p
  ·refine bw4 (by rw[hm]) ?_
   refine kN _ _ _ ⟨⟨_,rfl⟩,s6,h6,?_⟩
   rw[et,if_pos hm,D7]
  ·rw[decide_eq_false (show ¬ (V.int (i:Int)=V.int (p:Int)) from fun z=>hm (by injection z;omega))]
   refine P7 ?_
   refine⟨_,rfl,h6,kN _ _ _ ⟨⟨_,rfl⟩,s6.upd hD,c6,?_⟩⟩
   rw[et,if_neg hm,j9]
   rfl
 ·rintro xs σ' H3 ⟨⟨v,rfl⟩,s6,h6,rfl⟩
  have hkl:(N6 ns.length p).length<=24:=by
   unfold N6
   rw[b7]
   have:=K4 (fun j=>decide (j≠p)) (q0 ns.length)
   rw[y9]at this
   omega
  refine⟨_,rfl,D,rfl,⟨_,SqL.of h6⟩,fun D2 hD2=>?_⟩
  have hS3:=hS.same s6
  have hea3:=s6.seq hea
  refine R6 (K:=K) (a:=D) (D:=D2) (ys:=(N6 ns.length p).map V.int) (fun i xs σ' H'=>(∃ v,σ'=[v,some (.ref a),some (.ref ea)])/\u9 H3 H'/\H' D2=some (.lst xs)/\xs=(((N6 ns.length p).take i).map fun z=>ac0 ns es z.toNat).map V.int) ⟨⟨none,rfl⟩,d9 hD2,c6,rfl⟩ (by rw[b7];omega)
   (fun i xs σ' H' hi ⟨_,s8,h8,e8⟩=>⟨SqL.of (s8 _ _ h6),h8,by rw[e8,b7,b7,q8];omega⟩) ?_ ?_
  ·rintro i xs x σ' H' N kN hx ⟨⟨v,rfl⟩,s8,h8,rfl⟩
   obtain⟨z,hz,rfl⟩:=Q0 hx
   obtain⟨j,rfl,hj⟩:=bw2 (f9 hz)
   refine B9 (L6 ?_)
   have fin:∀ y:Int,y=ac0 ns es j->(H' D2=some (.lst ((((N6 ns.length p).take i).map fun z=>ac0 ns es z.toNat).map V.int))/\N ((((N6 ns.length p).take i).map fun z=>ac0 ns es z.toNat).map V.int++[.int y]) [some (.int j),some (.ref a),some (.ref ea)] (upd H' D2 (.lst ((((N6 ns.length p).take i).map fun z=>ac0 ns es z.toNat).map V.int++[.int y])))):=fun y ey=>by
    refine⟨h8,kN _ _ _ ⟨⟨_,rfl⟩,s8.upd hD2,c6,?_⟩⟩
    rw[C8,hz,j9,j9,ey]
    rfl
   refine⟨_,rfl,_,rfl,bI8 hun (s8.seq hea3) ⟨_,rfl,?_⟩⟩
   by_cases hm:(j:Int)∈es
   ·rw[decide_eq_true hm]
    refine P7 ⟨_,rfl,_,rfl,aW2 (hS3.same s8) hj ⟨_,_,rfl,rfl,fin _ ?_⟩⟩
    unfold ac0
    rw[if_pos hm]
   ·rw[decide_eq_false hm]
    refine O3 ⟨_,rfl,_,rfl,aW2 (hS3.same s8) hj (fin _ ?_)⟩
    unfold ac0
    rw[if_neg hm]
  ·rintro xs σ' H4 ⟨⟨v,rfl⟩,s8,h8,rfl⟩
   rw[k9 (by rw[b7];exact d5 _),bm6]at h8
   exact q D2 H4 (s6.trans s8) (s6.free hD2) h8
end
theorem p40:(0:Int)<10 ^ (as4 40):=bP2 (by decide)
theorem ab6 (ns:List Int)(j:Nat)(v:Int):(ns.map V.int).set j (.int v)=(ns.set j v).map V.int:=by rw[aL2]
theorem cf3 {k:Int}(h0:0<=k)(h1:k<1000):-(2 ^ 63)<=k/\k<2 ^ 63:=by
 constructor<;>omega
theorem bN6 (n:Nat)(z:Int):(v9 n [V.int z]).flatten=(v9 n z).map V.int:=by
 induction n with
 | zero=>rfl
 | succ n ih=>rw[L8,P0,ih,L8];rfl
section
variable {K:W.Frag} {mg:Str->Option Value} {base:Heap}
def ba2 (K:W.Frag):Sp:=fun vs H Q _=>∃ (a:Addr) (ns:List Int),vs=[.ref a]/\Sq K H a ns/\ns.length<64/\∀ (l:Addr) (H':Hp),u9 H H'->H l=none->H' l=some (.lst ((up2 ns).reverse.map V.int))->Q (.ref l) H'
theorem bS5:x9 ["tally"] ["tally"] (p5 aq1):=.mk'
theorem bh1 (F:Fun K "falling" "falling" aq1 f fd)(B:Bn mg):x8 P w K mg base CX0 1 f fd ["tally"] (ba2 K):=by
 refine F.ok bS5 (fun cdv A outer s H vs Q E hr h=>?_)
 obtain⟨a,ns,rfl,hS,h64,q⟩:=h
 refine⟨_,o4 (B2 (bt1 K rfl (by rfl) B.sorted (b8 (pv 0) c7))),?_⟩
 refine⟨_,rfl,a,ns,rfl,hS,h64,fun l zs hl hp hs=>?_⟩
 rw[bi2 hp hs]
 exact q l _ (d9 hl) hl c6
def aM6 (K:W.Frag):Sp:=fun vs H Q _=>∃ (a:Addr) (ns:List Int) (M r:Nat),vs=[.ref a,.int M,.int r]/\SqL K H a ((up2 ns).reverse.map V.int)/\M<=1000000/\r<=100/\ns.length<64/\∀ (H':Hp),u9 H H'->Q (.int (ah1 ns M r)) H'
theorem bf4:x9 ["numbers","most","r","from_others"] ["numbers","most","r"] (p5 af4):=.mk'
theorem aU5 (F:Fun K "room_among" "room_among" af4 f fd) (B:Bn mg):x8 P w K mg base CX0 1 f fd ["numbers","most","r"] (aM6 K):=by
 refine F.ok bf4 (fun cdv A outer s H vs Q E hr h=>?_)
 obtain⟨a,ns,M,r,rfl,hS,hM,hr1,h64,q⟩:=h
 have hsl:=L0
 have nd2:(["number","most","r"]:List Str).Nodup:=by decide +kernel
 have hlen:(up2 ns).reverse.length=ns.length:=by rw[bL2,ax4]
 generalize hz:(up2 ns).reverse=zs at hS hlen
 refine⟨_,j6 (A7 (i:=3) bf4.nd rfl (Or.inl rfl) (p8 (ae2 rfl) (by rfl) B.sum (by rfl) (b8
   (N0 (N' := ["number", "most", "r"]) (lk := [none, some 1, some 2]) rfl (R4 (ad6 ak8 (pv 0) (af6 (pv 2)) aq3)) (by rfl) rfl (by decide +kernel) (by exact ⟨rfl, rfl, trivial⟩) (by rfl) (by exact LkL.ok ⟨⟨rfl, Or.inl rfl, rfl, Or.inl rfl⟩, ⟨rfl, Or.inl rfl, rfl, Or.inl rfl⟩, trivial⟩)
    (fun _ _ _=>A3 (i:=0) nd2 rfl (Or.inl rfl)) (fun _ _ _=>P9) (fun _ _ _=>p8 (al8 rfl) (by rfl) B.min (by rfl) (b8 (pv 0) (b8 (v7 ao5 (pv 1) (pv 2)) c7)))) c7)))
  (o4 (B2 (v7 V2 (v7 N4 (v7 ao5 (v7 ao5 (pv 1) (pv 2)) (v7 V2 (pv 2) i9)) (pv 3)) (p8 (ae2 rfl) (by rfl) B.sum (by rfl) (b8 (ad6 ak8 (pv 0) aq3 (af6 (pv 2))) c7))))),?_⟩
 refine⟨_,rfl,_,rfl,_,rfl,a,_,rfl,hS,fun c hc=>?_⟩
 rw[an1]
 have s1:=d9 (o:=.lst ((zs.drop r).map V.int)) hc
 refine⟨c,rfl,⟨_,SqL.of c6⟩,fun D hD=>R6 (K:=K) (a:=c) (D:=D) (ys:=(zs.drop r).map V.int) (fun i xs σ' H'=>∃ v,σ'=[v,some (.int M),some (.int r)]/\u9 H H'/\H' c=some (.lst ((zs.drop r).map V.int))/\xs=(((zs.drop r).take i).map (mn ((M:Int)*(r:Int)))).map V.int/\H' D=some (.lst xs))
   ⟨none,rfl,s1.trans (d9 hD),d9 hD _ _ c6,by simp,c6⟩ (by rw[b7,F3];omega) (fun i xs σ' H' hi ⟨_,_,s3,g3,e3,h3⟩=>⟨SqL.of g3,h3,by rw[e3,b7,b7,q8,F3];omega⟩) ?_ ?_⟩
 ·rintro i xs x σ' H' N kN hx ⟨v,rfl,s3,g3,rfl,h3⟩
  obtain⟨z,hz',rfl⟩:=Q0 hx
  refine B9 (L6 ?_)
  refine⟨_,rfl,_,rfl,_,rfl,_,_,rfl,rfl,.inl ⟨by omega,by omega⟩,_,_,rfl,?_⟩
  refine⟨h3,kN _ _ _ ⟨_,rfl,s3.upd (s1.free hD),?_,?_,c6⟩⟩
  ·rw[r9 (o8 c6 hD)];exact g3
  ·rw[C8,hz',j9,j9];rfl
 ·rintro xs σ' H3 ⟨v,rfl,s3,g3,rfl,h3⟩
  rw[k9 (by rw[b7];exact d5 _)]at h3
  refine⟨D,_,rfl,SqL.of h3,?_⟩
  refine⟨_,rfl,_,rfl,_,_,rfl,rfl,.inl ⟨by omega,by omega⟩,_,rfl,_,_,rfl,rfl,_,_,rfl,rfl,.inr ⟨by omega,by omega⟩,_,rfl,_,_,rfl,rfl,?_⟩
  refine⟨_,rfl,_,rfl,_,rfl,a,_,rfl,s3.seq hS,fun c2 hc2=>?_⟩
  rw[aj9]
  refine⟨c2,_,rfl,SqL.of c6,_,_,rfl,rfl,?_⟩
  have fin:=q _ (s3.trans (d9 (o:=.lst ((zs.take r).map V.int)) hc2))
  rw[<- av6 (M:=M) (r:=r) hz.symm]at fin
  exact fin
end
def wlT:Wl->List V
 | .below p=>[.str "below",.int p]
 | .odd=>[.str "odd"]
 | .wall r=>[.str "wall",.int r]
 | .free=>[]
def cg0 (H:Hp)(v:V)(x:Wl):Prop:=(x=.free/\v=.non)\/(x≠.free/\∃ a,v=.ref a/\H a=some (.tup (wlT x)))
theorem bI7 {a b:Int}(h:decide (V.int a=V.int b)=true):a=b:=by
 have:=of_decide_eq_true h
 injection this
theorem bw7 {a b:Int}(h:¬ decide (V.int a=V.int b)=true):¬ a=b:=fun e=>h (by rw[e];exact decide_eq_true rfl)
section
variable {K:W.Frag} {mg:Str->Option Value} {base:Heap}
def ax6 (K:W.Frag):Sp:=fun vs H Q _=>∃ (a:Addr) (ns:List Int),vs=[.ref a]/\Sq K H a ns/\ns.length<=100/\∀ (l:Addr) (H':Hp),u9 H H'->H l=none->H' l=some (.lst ((bJ9 ns).map V.int))->Q (.ref l) H'
theorem bE3:x9 ["numbers"] ["numbers"] (p5 af3):=.mk'
theorem aC6 (F:Fun K "places_below" "places_below" af3 f fd)(B:Bn mg):x8 P w K mg base CX0 1 f fd ["numbers"] (ax6 K):=by
 refine F.ok bE3 (fun cdv A outer s H vs Q E hr h=>?_)
 obtain⟨a,ns,rfl,hS,hn,q⟩:=h
 have hsl:=L0
 have nd2:(["place","number"]:List Str).Nodup:=by decide +kernel
 refine⟨_,o4 (B2 (N0 (N':=["place","number"]) (lk:=[none,none]) rfl (bg5 (aN5 (by rfl) B.enum (b8 (pv 0) c7)) (aU0 (by rfl) B.enum (b8 (pv 0) c7))) (by rfl) rfl (by decide +kernel) (by exact trivial) (by rfl) (by exact LkL.ok trivial)
    (fun _ _ _=>ay2 (n:=2) K rfl rfl (O7 (A3 (i:=0) nd2 rfl (Or.inl rfl)) (O7 (A3 (i:=1) nd2 rfl (Or.inl rfl)) al0))) (fun _ _ _=>ak9 (D3 aj6 (pv 1) i9 (F5 _))) (fun _ _ _=>pv 0))),?_⟩
 refine Or.imp (fun h=>⟨_,rfl,h⟩) (fun h=>⟨_,rfl,h⟩) (aE3 (K:=K) (a:=a) (ys:=ns.map V.int) hS (by rw[b7];omega)
  (fun D i xs σ' H'=>(∃ v u,σ'=[v,u])/\u9 H H'/\H' D=some (.lst xs)/\xs=((ao9 ns i).map Int.ofNat).map V.int) (fun D hD=>⟨⟨none,none,rfl⟩,d9 hD,c6,rfl⟩)
  (fun D i xs σ' H' hD hi ⟨_,s1,h1,e1⟩=>⟨s1,h1,by rw[e1,b7,b7];exact bz6 ns i⟩) ?_ ?_)
 ·rintro D i xs x t σ' H' N hD kN hx ⟨⟨v,u,rfl⟩,s1,h1,rfl⟩ ht
  obtain⟨z,hz,rfl⟩:=Q0 hx
  have s2:=d9 (o:=.tup [.int i,.int z]) ht
  refine⟨t,_,rfl,SqT.of c6,rfl,_,_,rfl,_,_,rfl,rfl,?_⟩
  refine⟨_,rfl,_,_,rfl,rfl,_,rfl,?_⟩
  have e3:=bo3 ns i
  rw[ar3 hz]at e3
  by_cases hb:z<0
  ·rw[decide_eq_true hb]
   refine P7 ⟨_,rfl,s2 _ _ h1,kN _ _ _ ⟨⟨_,_,rfl⟩,(s1.trans s2).upd hD,c6,?_⟩⟩
   rw[e3,if_pos hb,j9,j9]
   rfl
  ·rw[decide_eq_false hb]
   refine O3 (kN _ _ _ ⟨⟨_,_,rfl⟩,s1.trans s2,s2 _ _ h1,?_⟩)
   rw[e3,if_neg hb,D7]
 ·rintro D xs σ' H' hD ⟨⟨v,u,rfl⟩,s1,h1,rfl⟩
  rw[b7]at h1
  exact q D H' s1 hD h1
def be6 (K:W.Frag)(CB:Addr):Sp:=fun vs H Q E=>∃ (a:Addr) (ns:List Int) (M:Nat),vs=[.ref a,.int M]/\Sq K H a ns/\M<=1000000/\(N7 ns->∀ (v:V) (x:Wl) (H':Hp),u9 H H'->bA7 ns M x->cg0 H' v x->Q v H')/\(¬ N7 ns->E (.ref CB) none H)
theorem ax8:x9 ["tally","most","below","numbers","r"] ["tally","most"] (p5 as9):=.mk'
set_option maxHeartbeats 1000000 in
theorem bu1 {fF fA fβ:Addr} (F:Fun K "wall_with" "wall_with" as9 f fd) (B:Bn mg) (FT:Fq K mg "check_tally" at4 fT fdT ["tally"])
  (FF:Fq K mg "falling" aq1 fF fdF ["tally"]) (FA:Fq K mg "room_among" af4 fA fdA ["numbers","most","r"])
  (Fβ:Fq K mg "places_below" af3 fβ fdβ ["numbers"])
  (mM:mg "MOST_PLACES"=some (.int 24 tk)) (mB:mg "BadTally"=some (.ref CB)) (cB:ai5 K CB):x8 P w K mg base (CXE P w) 2 f fd ["tally","most"] (be6 K CB):=by
 have GT:x8 P w K mg base (CXE P w) 1 fT fdT ["tally"] (aI1 K CB):=aN8 FT.F B mM mB cB
 have GF:x8 P w K mg base CX0 1 fF fdF ["tally"] (ba2 K):=bh1 FF.F B
 have GA:x8 P w K mg base CX0 1 fA fdA ["numbers","most","r"] (aM6 K):=aU5 FA.F B
 have GL:x8 P w K mg base CX0 1 fβ fdβ ["numbers"] (ax6 K):=aC6 Fβ.F B
 refine F.okX ax8 (fun cdv A outer s H vs Q E hr h=>?_)
 obtain⟨a,ns,M,rfl,hS,hM,h1,h2⟩:=h
 have hsl:=L0
 refine⟨_,j6 (R3 (D0 GT hr (by rfl) FT ah3 (b8 (pv 0) c7)))
   (j6 (A7 (i:=2) ax8.nd rfl (Or.inl rfl) (D0 GL hr (by rfl) Fβ G2 (b8 (pv 0) c7)))
   (j6 (O0 (aB4 (pv 2) (fun _=>rfl)) (o4 (B2 (N2 (b8 aB9 (b8 (G1 X4 (pv 2) i9 (fun _ _=>rfl)) c7))))) F9)
   (j6 (O0 (D3 av8 (v7 N3 (p8 (aK2 rfl) (by rfl) B.sum (by rfl) (b8 (pv 0) c7)) i9) i9 (F5 _)) (o4 (B2 (N2 (b8 aB9 c7)))) F9)
   (j6 (A7 (i:=3) ax8.nd rfl (Or.inl rfl) (D0 GF hr (by rfl) FF G2 (b8 (pv 0) c7)))
   (j6 (aa2 bs9 rfl (at8 rfl B.range (b8 i9 (b8 (v7 N4 (p8 A0 (by rfl) B.len PySem.boot_len (b8 (pv 3) c7)) i9) c7))) (A3 (i := 4) ax8.nd rfl (Or.inl rfl))
    (o4 (O0 (D3 aj6 (D0 GA hr (by rfl) FA G2 (b8 (pv 3) (b8 (pv 1) (b8 (pv 4) c7)))) i9 (F5 _)) (o4 (B2 (N2 (b8 aB9 (b8 (pv 4) c7))))) F9)))
   (o4 (B2 bt3))))))),?_⟩
 refine⟨_,rfl,a,ns,rfl,hS,fun ht=>?_,h2⟩
 have t2:=ht.2
 refine⟨_,rfl,a,ns,rfl,hS,by omega,fun bl H1 s1 hbl g1=>?_⟩
 refine⟨_,rfl,_,.inl ⟨_,SqL.of g1,rfl⟩,?_⟩
 unfold bJ9 at g1 ⊢
 cases hb:ao9 ns ns.length with
 | cons p ps =>
  rw[hb]at g1
  refine P7 ⟨_,rfl,bl,_,_,_,rfl,rfl,SqL.of g1,B8 (j:=0) rfl,(by show 2<=j5;decide),fun q hq=>?_⟩
  exact h1 ht _ (.below p) _ (s1.trans (d9 hq)) (aE9 hb) (.inr ⟨by simp,q,rfl,c6⟩)
 | nil =>
  have hall:AllP ns:=bj0 hb
  refine O3 ?_
  refine⟨_,rfl,a,ns,rfl,hS.same s1,_,_,rfl,rfl,(by show (0:Int)<2;decide),rfl,_,rfl,?_⟩
  refine aW4 (fun h=>?_) (fun h=>?_)
  ·exact⟨(by show 1<=j5;decide),fun p hp=>h1 ht _ .odd _ (s1.trans (d9 hp)) ⟨hall,bI7 h⟩ (.inr ⟨by simp,p,rfl,c6⟩)⟩
  ·have hev:=bw7 h
   refine⟨_,rfl,a,ns,rfl,hS.same s1,by omega,fun l H2 s2 hl g2=>?_⟩
   refine⟨_,rfl,l,_,rfl,.inl (SqL.of g2),_,_,rfl,rfl,1,((ns.length:Int)+1),by rw[b7,bL2,ax4],⟨by omega,by omega,by omega,by omega⟩,?_⟩
   rw[show ((ns.length:Int)+1 - 1).toNat=ns.length by omega]
   refine Z6 (lo:=1) (n:=ns.length) (fun i σ H3=>∃ e4,σ=[some (.ref a),some (.int M),some (.ref bl),some (.ref l),e4]/\u9 H2 H3/\∀ k,1<=k->k<i+1->0<=ah1 ns M k) ⟨none,rfl,u9.refl H2,fun k k1 k2=>by omega⟩ ?_ ?_
   ·rintro i σ H3 hi ⟨e4,rfl,s3,hrm⟩
    have e0:((1:Int)+(i:Int))=((i+1:Nat):Int):=by omega
    rw[e0]
    refine B9 ?_
    refine⟨_,rfl,_,rfl,_,rfl,l,ns,M,i+1,rfl,SqL.of (s3 _ _ g2),hM,by omega,by omega,fun H4 s4=>⟨_,_,rfl,rfl,_,rfl,?_⟩⟩
    refine aW4 (fun h=>?_) (fun h=>?_)
    ·refine⟨_,rfl,(by show 2<=j5;decide),fun p hp=>?_⟩
     exact h1 ht _ (.wall (i+1)) _ ((((s1.trans s2).trans s3).trans s4).trans (d9 hp)) ⟨hall,hev,by omega,by omega,of_decide_eq_true h,hrm⟩ (.inr ⟨by simp,p,rfl,c6⟩)
    ·have h':¬ ah1 ns M (i+1)<0:=fun q=>h (decide_eq_true q)
     refine⟨_,rfl,s3.trans s4,fun k k1 k2=>?_⟩
     rcases B0 k (i+1) with l1 | l1
     ·exact hrm k k1 l1
     ·rw[show k=i+1 by omega];omega
   ·rintro σ H3 ⟨e4,rfl,s3,hrm⟩
    exact h1 ht _ .free _ ((s1.trans s2).trans s3) ⟨hall,hev,fun k k1 k2=>hrm k k1 (by omega)⟩ (.inl ⟨rfl,rfl⟩)
def bq3 (K:W.Frag)(CB:Addr):Sp:=fun vs H Q E=>∃ (a:Addr) (ns:List Int),vs=[.ref a]/\Sq K H a ns/\(N7 ns->∀ (v:V) (x:Wl) (H':Hp),u9 H H'->bd4 ns x->cg0 H' v x->Q v H')/\(¬ N7 ns->E (.ref CB) none H)
theorem bS0:x9 ["tally"] ["tally"] (p5 aS5):=.mk'
theorem bG2 {fω fF fA fβ:Addr}{fdω:FuncData}(F:Fun K "wall_of" "wall_of" aS5 f fd)(B:Bn mg)(FT:Fq K mg "check_tally" at4 fT fdT ["tally"])
  (FF:Fq K mg "falling" aq1 fF fdF ["tally"])(FA:Fq K mg "room_among" af4 fA fdA ["numbers","most","r"])
  (Fβ:Fq K mg "places_below" af3 fβ fdβ ["numbers"])(Fω:Fq K mg "wall_with" as9 fω fdω ["tally","most"])
  (mM:mg "MOST_PLACES"=some (.int 24 tk))(mB:mg "BadTally"=some (.ref CB))(cB:ai5 K CB):x8 P w K mg base (CXE P w) 3 f fd ["tally"] (bq3 K CB):=by
 have GW:x8 P w K mg base (CXE P w) 2 fω fdω ["tally","most"] (be6 K CB):=bu1 Fω.F B FT FF FA Fβ mM mB cB
 refine F.okX bS0 (fun cdv A outer s H vs Q E hr h=>?_)
 obtain⟨a,ns,rfl,hS,h1,h2⟩:=h
 refine⟨_,o4 (B2 (D0 GW hr (by rfl) Fω ah3 (b8 (pv 0) (b8 i9 c7)))),?_⟩
 exact⟨_,rfl,a,ns,1,rfl,hS,by decide,fun ht v x H' s' hx hv=>h1 ht v x H' s' (be3 hx) hv,h2⟩
end
theorem aD6 {PT l:Addr}{po:Pos}{qu:Str}(g:T5 PT H H')(t:U0 PT po qu H)(h:H l=some (.lst xs)):H' l=some (.lst xs):=by
 obtain⟨ps,hP,_⟩:=t
 exact g l _ (fun z=>by rw[z,hP]at h;cases h) h
theorem aJ5 {K:W.Frag}{PT:Addr}{po:Pos}{qu:Str}(g:T5 PT H H')(t:U0 PT po qu H):∀ {zs:List V} {ks:List (List Int)},C0 K H zs ks->C0 K H' zs ks
 | _,_,.nil=>.nil
 | _,_,.cons ⟨a,e,h⟩ r=>.cons ⟨a,e,T5.sqT g t h⟩ (aJ5 g t r)
section
variable {K:W.Frag} {mg:Str->Option Value} {base:Heap}
noncomputable def aX0 (ns:List Int)(p:Nat)(es:List Int):List (List Int):=star p es++bv5 (ns.length - 1) (W2 ns p es) (N6 ns.length p)
def bq7 (K:W.Frag)(PT:Addr):Sp:=fun vs H Q _=>∃ (a ea:Addr) (ns es:List Int) (p:Nat),vs=[.ref a,.int p,.ref ea]/\Sq K H a ns/\N7 ns/\p<ns.length/\SqL K H ea (es.map V.int)/\es.Nodup/\es.length<=24/\(∀ z∈es,0<=z/\z<ns.length/\z≠p)/\(es.length:Int)=ns.getD p 0/\Gr (W2 ns p es)/\Tb PT H /\
 ∀ (r t:Addr) (zs:List V) (ks:List (List Int)) (H':Hp),T5 PT H H'->Tb PT H'->H' r=some (.tup [.int ns.length,.ref t])->H' t=some (.tup zs)->C0 K H' zs ks->ks.Perm ((aX0 ns p es).map up)->ks.Pairwise (fun a b=>Tim.N5 b a=false)->tal ns.length ks=ns->(∀ k∈ks,Up ns.length k)->ks.Nodup->Q (.ref r) H'
theorem aj3:x9 ["tally","place","ends","ties","places","left","chosen"] ["tally","place","ends"] (p5 aS9):=.mk'
set_option maxHeartbeats 2000000 in
theorem bG9 {fI fU fV fO fF fL PT:Addr} {fdU fdV fdL:FuncData} (F:Fun K "laid_around" "laid_around" aS9 f fd) (B:Bn mg) (FI:Fq K mg "is_place" aT1 fI fdI ["places","number"])
    (FU:Fq K mg "turned_up" sUp fU fdU ["places","tie"]) (FV:Fq K mg "made" aA8 fV fdV ["places","ties"])
    (FO:Fq K mg "order_of" aS7 fO fdO ["tally"]) (hc:fdO.code=.ref c) (LB:ar5 base mg c PT)
    (FT:Fq K mg "check_tally" at4 fT fdT ["tally"]) (FF:Fq K mg "first_of_order" at3 fF fdF ["tally","many","passed_over"])
    (FL:Fq K mg "left_of_others" aI4 fL fdL ["tally","place","ends"])
    (mM:mg "MOST_PLACES"=some (.int 24 tk)) (mB:mg "BadTally"=some (.ref CB)) (cB:ai5 K CB):x8 P w K mg base CX0 4 f fd ["tally","place","ends"] (bq7 K PT):=by
  have GF:x8 P w K mg base (CXE P w) 3 fF fdF ["tally","many","passed_over"] (aM5 K PT):=aU4 FF.F B FO hc LB FT mM mB cB
  have GL:x8 P w K mg base CX0 3 fL fdL ["tally","place","ends"] (bq6 K):=(bG7 FL.F B).mono (by decide)
  have GV:x8 P w K mg base CX0 3 fV fdV ["places","ties"] (aM4 K):=bh0 FV.F B FI FU mM
  refine F.ok aj3 (fun cdv A outer s H vs Q E hr h=>?_)
  obtain⟨a,ea,ns,es,p,rfl,hS,ht,hp,hea,ne,hel,he,hn,hg,tb,q⟩:=h
  have hsl:=L0
  have t2:=ht.2
  have nd1:(["end","place"]:List Str).Nodup:=by decide +kernel
  have nd2:(["one","place"]:List Str).Nodup:=by decide +kernel
  have nd3:(["one","places"]:List Str).Nodup:=by decide +kernel
  refine⟨_,j6 (ay1 (i:=3) aj3.nd rfl rfl (by rfl) (N':=["end","place"]) (lk:=[none,some 1]) rfl (R4 (pv 2)) (by rfl) rfl (by decide +kernel) (by exact⟨rfl,trivial⟩) (by rfl) (by exact LkL.ok ⟨⟨rfl,Or.inl rfl,rfl,Or.inl rfl⟩,trivial⟩)
        (fun _ _ _=>A3 (i:=0) nd1 rfl (Or.inl rfl)) (fun _ _ _=>P9) (fun _ _ _=>N2 (b8 (pv 1) (b8 (pv 0) c7))))
    (j6 (A7 (i:=4) aj3.nd rfl (Or.inr rfl) (N0 (N':=["one","place"]) (lk:=[none,some 1]) rfl (T8 rfl B.range (b8 (p8 A0 (by rfl) B.len PySem.boot_len (b8 (pv 0) c7)) c7)) (by rfl) rfl (by decide +kernel) (by exact⟨rfl,trivial⟩) (by rfl) (by exact LkL.ok ⟨⟨rfl,Or.inl rfl,rfl,Or.inl rfl⟩,trivial⟩)
        (fun _ _ _=>A3 (i:=0) nd2 rfl (Or.inl rfl)) (fun _ _ _=>ak9 (D3 bt8 (pv 0) (pv 1) (F5 _))) (fun _ _ _=>pv 0)))
    (j6 (A7 (i:=5) aj3.nd rfl (Or.inl rfl) (D0 GL hr (by rfl) FL G2 (b8 (pv 0) (b8 (pv 1) (b8 (pv 2) c7)))))
    (j6 (aT9 PassesOwn.never (aB4 (pv 5) (fun _=>rfl))
      (j6 (A7 (i:=6) aj3.nd rfl (Or.inl rfl) (D0 GF hr (by rfl) FF (aI8 (P:=P) (w:=w)) (b8 (pv 5) (b8 (G1 X4 (pv 5) i9 (fun _ _=>rfl)) (b8 (P6 (b8 i9 c7)) c7)))))
      (j6 (bs7 (i:=3) aj3.nd rfl (Or.inl rfl) (N0 (N':=["one","places"]) (lk:=[none,some 4]) rfl (R4 (pv 6)) (by rfl) rfl (by decide +kernel) (by exact⟨rfl,trivial⟩) (by rfl) (by exact LkL.ok ⟨⟨rfl,Or.inl rfl,rfl,Or.inl rfl⟩,trivial⟩)
          (fun _ _ _=>A3 (i:=0) nd3 rfl (Or.inl rfl)) (fun _ _ _=>P9) (fun _ _ _=>N2 (b8 (Y8 K rfl (pv 1) i9 (fun _ _=>rfl)) (b8 (Y8 K rfl (pv 1) (pv 0) (fun _ _=>rfl)) c7)))) bw5)
      (j6 (A7 (i:=5) aj3.nd rfl (Or.inl rfl) (D0 GL hr (by rfl) FL G2 (b8 (pv 5) (b8 i9 (b8 (pv 6) c7)))))
      (o4 (A7 (i:=4) aj3.nd rfl (Or.inr rfl) (ad6 ak8 (pv 4) (af6 i9) aq3)))))))
    (o4 (B2 (D0 GV hr (by rfl) FV G2 (b8 (p8 A0 (by rfl) B.len PySem.boot_len (b8 (pv 0) c7)) (b8 (pv 3) c7)))))))),?_⟩
  have hun:=hr.units
  refine⟨_,rfl,ea,rfl,⟨_,hea⟩,fun D hD=>R6 (K:=K) (a:=ea) (D:=D) (ys:=es.map V.int) (fun i xs σ' H'=>(∃ v,σ'=[v,some (.int p)])/\u9 H H'/\H' D=some (.lst xs)/\C0 K H' xs (star p (es.take i)))
    ⟨⟨none, rfl⟩, d9 hD, c6, .nil⟩ (by rw [b7]; omega) (fun i xs σ' H' hi ⟨_, s6, h6, t6⟩ => ⟨s6.seq hea, h6, by
      have h7:=t6.len
      unfold star at h7
      rw[b7,q8]at h7
      omega⟩) ?_ ?_⟩
  · rintro i xs x σ' H' N kN hx ⟨⟨v,rfl⟩,s6,h6,t6⟩
    obtain⟨z,hz,rfl⟩:=Q0 hx
    refine B9 (L6 ?_)
    refine⟨_,rfl,_,rfl,(by show 2<=j5;decide),fun t ft=>?_⟩
    have st:=d9 (o:=.tup [.int (p:Int),.int z]) ft
    have h6':=st _ _ h6
    refine⟨h6',kN _ _ _ ⟨⟨_,rfl⟩,(s6.trans st).upd hD,c6,?_⟩⟩
    have et:star p (es.take (i+1))=star p (es.take i)++[[(p:Int),z]]:=by
      unfold star
      rw[C8,hz,j9]
      rfl
    rw[et]
    refine C0.updL h6' (C0.append (st.tups t6) (C0.one (SqT.of ?_)))
    exact c6
  · rintro xs σ' H1 ⟨⟨v,rfl⟩,s1,h1,t1⟩
    rw[k9 (by rw[b7];exact d5 _)]at t1
    have hS1:=hS.same s1
    refine⟨_,rfl,a,_,rfl,hS1,(ns.length:Int),congrArg (fun z:Nat=>[V.int (z:Int)]) (b7 ..),by omega,by omega,fun D2 hD2=>?_⟩
    rw[u6]
    refine aa4 (lo:=0) (n:=ns.length) (D:=D2) (fun i xs σ' H'=>(∃ v,σ'=[v,some (.int p)])/\u9 H1 H'/\H' D2=some (.lst xs)/\xs=(N6 i p).map V.int) ⟨⟨none,rfl⟩,d9 hD2,c6,rfl⟩ (by omega)
      (fun i xs σ' H' hi ⟨_,s6,h6,e6⟩=>⟨h6,by
        rw[e6,b7]
        unfold N6
        rw[b7]
        have:=K4 (fun j=>decide (j≠p)) (q0 i)
        rw[y9]at this
        exact this⟩) ?_ ?_
    · rintro i xs σ' H' N kN hi ⟨⟨v,rfl⟩,s6,h6,rfl⟩
      have e0:((0:Int)+(i:Int))=(i:Int):=by omega
      rw[e0]
      refine B9 ?_
      refine⟨_,rfl,_,rfl,rfl,_,rfl,?_⟩
      have et:N6 (i+1) p=N6 i p++(if i=p then [] else [(i:Int)]):=by
        unfold N6
        rw[E7,N8,j9]
        congr 1
        by_cases h:i=p<;>simp[h]
      by_cases hm:i=p
      · refine bw4 (by rw[hm]) ?_
        refine kN _ _ _ ⟨⟨_,rfl⟩,s6,h6,?_⟩
        rw[et,if_pos hm,D7]
      · rw[decide_eq_false (show ¬ (V.int (i:Int)=V.int (p:Int)) from fun z=>hm (by injection z;omega))]
        refine P7 ?_
        refine⟨_,rfl,h6,kN _ _ _ ⟨⟨_,rfl⟩,s6.upd hD2,c6,?_⟩⟩
        rw[et,if_neg hm,j9]
        rfl
    · rintro xs2 σ' H2 ⟨⟨v2,rfl⟩,s2,h2,rfl⟩
      have s12:=s1.trans s2
      refine⟨_,rfl,_,rfl,_,rfl,a,ea,ns,es,p,rfl,hS.same s12,t2,s12.seq hea,fun l3 H3 s3 f3 g3=>?_⟩
      have s23:=s2.trans s3
      refine⟨fun m σ Ha=>∃ (ks:List (List Int)) (ps left:List Int) (zs:List V) (pa la:Addr) (e6:Option V),σ=[some (.ref a),some (.int p),some (.ref ea),some (.ref D),some (.ref pa),some (.ref la),e6]/\left.length=m/\m<24/\ak0 ns ps left ks/\Gr left/\ks++bv5 m left ps=aX0 ns p es/\Ha D=some (.lst zs)/\C0 K Ha zs ks /\
          Ha pa=some (.lst (ps.map V.int))/\pa≠D/\Ha la=some (.lst (left.map V.int))/\la≠D/\T5 PT H Ha/\Tb PT Ha,
        ⟨ns.length - 1,star p es,N6 ns.length p,W2 ns p es,xs,D2,l3,none,rfl,al5 hp,by omega,ak0.start hp ne he hn,hg,rfl,s23 _ _ h1,s23.tups t1,s3 _ _ h2,(o8 h1 hD2).symm,g3,(o8 (s2 _ _ h1) f3).symm,(s12.trans s3).grow PT,tb.same (s12.trans s3)⟩,?_⟩
      rintro m σ Ha ⟨ks,ps,left,zs,pa,la,e6,rfl,hm,hm2,hI,hG,hF,gD,tD,gp,np,gl,nl,gr,tbA⟩
      have hpl:=hI.len
      refine⟨_,rfl,!(left.map V.int).isEmpty,.inl ⟨_,SqL.of gl,rfl⟩,?_⟩
      cases m with
      | zero =>
        obtain rfl:left=[]:=an0.mp hm
        obtain rfl:ps=[]:=an0.mp hpl.symm
        have hF:ks=aX0 ns p es:=by
          have:ks++[]=aX0 ns p es:=hF
          rw[D7]at this
          exact this
        have hle:=hI.len_le t2
        refine O3 ?_
        refine⟨_,rfl,a,_,rfl,hS.grow gr tb,_,rfl,ns.length,D,zs,ks,by rw[b7];rfl,ht.1,t2,.inl (SqL.of gD),tD,hI.ends,hI.nodup,by omega,fun r t zs2 ks2 H' s' _ _ k1 k2 tt pm so=>?_⟩
        refine q r t zs2 ks2 H' (gr.trans (s'.grow PT)) (tbA.same s') k1 k2 tt (by rw[<- hF];exact pm) so ?_ (fun k hk=>?_) (pm.nodup_iff.mpr hI.nodup)
        · rw[bp7 pm,bQ7 hI.ends]
          exact hI.last
        · obtain⟨k',hk',rfl⟩:=t8.mp (pm.mem_iff.mp hk)
          exact(hI.ends k' hk').up
      | succ m =>
        have h0:0<left.length:=by omega
        have hnn:=aa5 (aD7 hG) h0
        obtain⟨k,hk⟩:∃ k:Nat,left.getD 0 0=(k:Int):=⟨(left.getD 0 0).toNat,by omega⟩
        have at0:atI (left.map V.int) 0=some (.int (k:Int)):=by
          rw[<- hk]
          exact ap0 (j:=0) h0
        have hne:(left.map V.int).isEmpty=false:=by
          cases left with
          | nil=>exact absurd h0 (A9 _)
          | cons _ _=>rfl
        rw[hne]
        refine P7 ⟨_,fun σ' H' h=>⟨m,W1 m,h⟩,?_⟩
        refine⟨_,rfl,_,rfl,la,_,_,_,rfl,rfl,SqL.of gl,at0,(by show 1<=j5;decide),fun lz fz=>?_⟩
        have sz:=d9 (o:=.lst [.int 0]) fz
        refine⟨la,lz,left,[0],k,rfl,.inl (SqL.of (sz _ _ gl)),⟨by omega,by omega⟩,SqL.of c6,tbA.same sz,fun os D4 Hc gc tbC f4 hp4 hs4 g4=>?_⟩
        have ech:(Y0 [0] os).take k=chF left 0:=by
          rw[aI9,bg7 hp4 hs4]
          unfold chF
          rw[hk,u6]
          rfl
        rw[ech]at g4
        have tbz:=tbA.same sz
        have gDc:=aD6 gc tbz (sz _ _ gD)
        have gpc:=aD6 gc tbz (sz _ _ gp)
        have glc:=aD6 gc tbz (sz _ _ gl)
        have tDc:=aJ5 gc tbz (sz.tups tD)
        have grc:=gr.trans ((sz.grow PT).trans gc)
        have n4:D4≠D:=(o8 (sz _ _ gD) f4).symm
        have hcl:(chF left 0).length<=24:=by
          have h1:=aP0 hG h0
          have h2:=bh7 hG h0
          omega
        have hgo:=hI.go hG h0
        have hle:=hgo.len_le t2
        generalize upd Ha lz (.lst [.int 0])=Hz at gc f4
        refine⟨_,rfl,_,rfl,D4,rfl,⟨_,SqL.of g4⟩,fun D5 hD5=>R6 (K:=K) (a:=D4) (D:=D5) (ys:=(chF left 0).map V.int) (fun i xs σ' H'=>(∃ v,σ'=[v,some (.ref pa)])/\u9 Hc H'/\H' D5=some (.lst xs)/\C0 K H' xs (star (ps.getD 0 0) (((chF left 0).take i).map fun z=>ps.getD z.toNat 0)))
          ⟨⟨none, rfl⟩, d9 hD5, c6, .nil⟩ (by rw [b7]; omega) (fun i xs σ' H' hi ⟨_, s6, h6, t6⟩ => ⟨SqL.of (s6 _ _ g4), h6, by
            have h7:=t6.len
            unfold star at h7
            rw[b7,b7,q8]at h7
            omega⟩) ?_ ?_⟩
        · rintro i xs x σ' H' N kN hx ⟨⟨v,rfl⟩,s6,h6,t6⟩
          obtain⟨z,hz,rfl⟩:=Q0 hx
          have hz2:=bc9 (f9 hz)
          obtain⟨j,rfl⟩:∃ j:Nat,z=(j:Int):=⟨z.toNat,by omega⟩
          refine B9 (L6 ?_)
          have hpa6:Sq K H' pa ps:=.inl (SqL.of (s6 _ _ gpc))
          refine⟨_,rfl,aW2 (j:=0) hpa6 (by omega) ⟨_,rfl,_,rfl,aW2 hpa6 (j:=j) (by omega) ⟨(by show 2<=j5;decide),fun t ft=>?_⟩⟩⟩
          have st:=d9 (o:=.tup [.int (ps.getD 0 0),.int (ps.getD j 0)]) ft
          have h6':=st _ _ h6
          refine⟨h6',kN _ _ _ ⟨⟨_,rfl⟩,(s6.trans st).upd hD5,c6,?_⟩⟩
          have et:star (ps.getD 0 0) (((chF left 0).take (i+1)).map fun z=>ps.getD z.toNat 0)=star (ps.getD 0 0) (((chF left 0).take i).map fun z=>ps.getD z.toNat 0)++[[ps.getD 0 0,ps.getD j 0]]:=by
            unfold star
            rw[C8,hz,j9,j9]
            rfl
          rw[et]
          refine C0.updL h6' (C0.append (st.tups t6) (C0.one (SqT.of ?_)))
          exact c6
        · rintro xs5 σ' H5 ⟨⟨v5,rfl⟩,s5,h5,t5⟩
          rw[k9 (by rw[b7];exact d5 _)]at t5
          have gD5:=s5 _ _ gDc
          have hl5:=t5.len
          have hlD:=tDc.len
          rw[o6]at hle
          refine⟨D,D5,zs,xs5,rfl,rfl,gD5,h5,by omega,?_⟩
          have fD:H D=none:=hD
          have gu:T5 PT H (upd H5 D (.lst (zs++xs5))):=by
            intro b o nb hb
            rw[r9 (o8 hb fD)]
            exact(grc.trans (s5.grow PT)) b o nb hb
          have tb6:Tb PT (upd H5 D (.lst (zs++xs5))):=by
            obtain⟨ps',hP,hx⟩:=tbC.same s5
            refine⟨ps',?_,hx.1,hx.2.imp id fun⟨c',e,h⟩=>⟨c',e,by rw[r9 (fun z=>by rw[z,gD5]at h;cases h)];exact h⟩⟩
            rw[r9 (fun z=>by rw[z,gD5]at hP;cases hP)]
            exact hP
          have gl6:(upd H5 D (.lst (zs++xs5))) la=some (.lst (left.map V.int)):=by rw[r9 nl];exact s5 _ _ glc
          have gp6:(upd H5 D (.lst (zs++xs5))) pa=some (.lst (ps.map V.int)):=by rw[r9 np];exact s5 _ _ gpc
          have g46:(upd H5 D (.lst (zs++xs5))) D4=some (.lst ((chF left 0).map V.int)):=by rw[r9 n4];exact s5 _ _ g4
          have gD6:(upd H5 D (.lst (zs++xs5))) D=some (.lst (zs++xs5)):=c6
          have t6:C0 K (upd H5 D (.lst (zs++xs5))) (zs++xs5) (ks++star (ps.getD 0 0) ((chF left 0).map fun z=>ps.getD z.toNat 0)):=C0.updL gD5 (C0.append (s5.tups tDc) t5)
          generalize upd H5 D (.lst (zs++xs5))=H6 at gu tb6 gl6 gp6 g46 gD6 t6 ⊢
          refine⟨_,rfl,_,rfl,la,D4,left,chF left 0,0,rfl,.inl (SqL.of gl6),by omega,SqL.of g46,fun l7 H7 s7 f7 g7=>?_⟩
          refine⟨_,rfl,_,rfl,pa,ps.map V.int,rfl,SqL.of (s7 _ _ gp6),fun l8 f8=>?_⟩
          have ec:au6 (ps.map V.int) (some 1) none=(ps.drop 1).map V.int:=an1 ps 1
          rw[ec]
          have s8:=d9 (o:=.lst ((ps.drop 1).map V.int)) f8
          have s78:=s7.trans s8
          refine⟨_,ps.drop 1,W2 left 0 (chF left 0),zs++xs5,l8,l7,_,rfl,by rw[al5 h0];omega,by omega,hgo,bz4 hG h0,?_,s78 _ _ gD6,s78.tups t6,c6,(o8 (s7 _ _ gD6) f8).symm,s8 _ _ g7,(o8 gD6 f7).symm,gu.trans (s78.grow PT),tb6.same s78⟩
          rw[B3]
          exact hF
end
structure aY3 (K:W.Frag) (H:Hp) (b:Addr) (ns:List Int) (ks:List (List Int)):Prop where
 at_:∃ t zs,H b=some (.tup [.int ns.length,.ref t])/\H t=some (.tup zs)/\C0 K H zs ks
 prm:ks.Perm ((aX0 ns 0 (chF ns 0)).map up)
 srt:ks.Pairwise (fun a b=>Tim.N5 b a=false)
 tal_:tal ns.length ks=ns
 ups:∀ k∈ks,Up ns.length k
 nd:ks.Nodup
def cg5 (K:W.Frag)(H:Hp)(r:Addr)(ns:List Int):Prop:=
 (∃ (x:Wl) (b:Addr),x≠.free/\bd4 ns x/\H r=some (.tup [.str "wall",.ref b])/\H b=some (.tup (wlT x))) \/
 (Gr ns/\∃ (b:Addr) (ks:List (List Int)),H r=some (.tup [.str "web",.ref b])/\aY3 K H b ns ks)
section
variable {K:W.Frag} {mg:Str->Option Value} {base:Heap}
def bq9 (K:W.Frag)(CB PT:Addr):Sp:=fun vs H Q E=>∃ (a:Addr) (ns:List Int),vs=[.ref a]/\Sq K H a ns/\(N7 ns->Tb PT H/\∀ (r:Addr) (H':Hp),T5 PT H H'->Tb PT H'->cg5 K H' r ns->Q (.ref r) H')/\(¬ N7 ns->E (.ref CB) none H)
theorem br3:x9 ["tally","wall"] ["tally"] (p5 bs4):=.mk'
set_option maxHeartbeats 2000000 in
theorem bV0 {fI fU fV fO fF fL fY fW fG fA fβ fω PT:Addr}{fdU fdV fdL fdY fdW fdG fdω:FuncData}(F:Fun K "answered" "answered" bs4 f fd)(B:Bn mg)(FI:Fq K mg "is_place" aT1 fI fdI ["places","number"])
  (FU:Fq K mg "turned_up" sUp fU fdU ["places","tie"])(FV:Fq K mg "made" aA8 fV fdV ["places","ties"])
  (FO:Fq K mg "order_of" aS7 fO fdO ["tally"])(hc:fdO.code=.ref c)(LB:ar5 base mg c PT)
  (FT:Fq K mg "check_tally" at4 fT fdT ["tally"])(FF:Fq K mg "first_of_order" at3 fF fdF ["tally","many","passed_over"])
  (FL:Fq K mg "left_of_others" aI4 fL fdL ["tally","place","ends"])(FY:Fq K mg "laid_around" aS9 fY fdY ["tally","place","ends"])
  (FW:Fq K mg "wall_of" aS5 fW fdW ["tally"])(FG:Fq K mg "falling" aq1 fG fdG ["tally"])
  (FA:Fq K mg "room_among" af4 fA fdA ["numbers","most","r"])(Fβ:Fq K mg "places_below" af3 fβ fdβ ["numbers"])(Fω:Fq K mg "wall_with" as9 fω fdω ["tally","most"])
  (mM:mg "MOST_PLACES"=some (.int 24 tk))(mB:mg "BadTally"=some (.ref CB))(cB:ai5 K CB):x8 P w K mg base (CXE P w) 5 f fd ["tally"] (bq9 K CB PT):=by
 have GF:x8 P w K mg base (CXE P w) 4 fF fdF ["tally","many","passed_over"] (aM5 K PT):=(aU4 FF.F B FO hc LB FT mM mB cB).mono (by decide)
 have GY:x8 P w K mg base CX0 4 fY fdY ["tally","place","ends"] (bq7 K PT):=bG9 FY.F B FI FU FV FO hc LB FT FF FL mM mB cB
 have GW:x8 P w K mg base (CXE P w) 4 fW fdW ["tally"] (bq3 K CB):=(bG2 FW.F B FT FG FA Fβ Fω mM mB cB).mono (by decide)
 refine F.okX br3 (fun cdv A outer s H vs Q E hr h=>?_)
 obtain⟨a,ns,rfl,hS,h1,h2⟩:=h
 have hsl:=L0
 refine⟨_,j6 (A7 (i:=1) br3.nd rfl (Or.inl rfl) (D0 GW hr (by rfl) FW ah3 (b8 (pv 0) c7)))
  (j6 (O0 (D3 bF8 (pv 1) bt3 (F5 _)) (o4 (B2 (N2 (b8 aB9 (b8 (pv 1) c7))))) F9)
  (o4 (B2 (N2 (b8 aB9 (b8 (D0 GY hr (by rfl) FY G2 (b8 (pv 0) (b8 i9 (b8 (D0 GF hr (by rfl) FF (aI8 (P:=P) (w:=w)) (b8 (pv 0) (b8 (Y8 K rfl (pv 0) i9 (fun _ _=>rfl)) (b8 (P6 (b8 i9 c7)) c7)))) c7)))) c7)))))),?_⟩
 refine⟨_,rfl,a,ns,rfl,hS,fun ht v x H1 s1 hw hv=>?_,h2⟩
 obtain⟨tb,q⟩:=h1 ht
 have t2:=ht.2
 refine⟨_,rfl,rfl,_,rfl,?_⟩
 obtain⟨rfl,rfl⟩ | ⟨hx,b,rfl,gb⟩:=hv
 ·have hG:=bi0 hw
  refine O3 ?_
  have h0:0<ns.length:=ht.1
  have hnn:=aa5 (aD7 hG) h0
  obtain⟨k,hk⟩:∃ k:Nat,ns.getD 0 0=(k:Int):=⟨(ns.getD 0 0).toNat,by omega⟩
  have hS1:=hS.same s1
  have tb1:=tb.same s1
  refine⟨_,rfl,_,rfl,_,rfl,aW2 (j:=0) hS1 h0 ?_⟩
  rw[hk]
  refine⟨(by show 1<=j5;decide),fun lz fz=>?_⟩
  have sz:=d9 (o:=.lst [.int 0]) fz
  refine⟨a,lz,ns,[0],k,rfl,hS1.same sz,ht,SqL.of c6,tb1.same sz,fun os D4 Hc gc tbC f4 hp4 hs4 g4=>?_⟩
  have ech:(Y0 [0] os).take k=chF ns 0:=by
   rw[aI9,bg7 hp4 hs4]
   unfold chF
   rw[hk,u6]
   rfl
  rw[ech]at g4
  have hcl:=aP0 hG h0
  have hlt:=bh7 hG h0
  refine⟨a,D4,ns,chF ns 0,0,rfl,(hS1.same sz).grow gc (tb1.same sz),ht,h0,SqL.of g4,bz3 ns 0,by omega,fun z hz=>bc9 hz,hcl,bz4 hG h0,tbC,fun r t zs ks H5 g5 tb5 k1 k2 tt pm so tl ups nd=>?_⟩
  refine⟨(by show 2<=j5;decide),fun p fp=>?_⟩
  have sp:=d9 (o:=.tup [.str "web",.ref r]) fp
  exact q p _ ((((s1.trans sz).grow PT).trans (gc.trans g5)).trans (sp.grow PT)) (tb5.same sp) (.inr ⟨hG,r,ks,c6,⟨⟨t,zs,sp _ _ k1,sp _ _ k2,sp.tups tt⟩,pm,so,tl,ups,nd⟩⟩)
 ·refine P7 ⟨_,rfl,(by show 2<=j5;decide),fun p fp=>?_⟩
  have sp:=d9 (o:=.tup [.str "wall",.ref b]) fp
  exact q p _ ((s1.trans sp).grow PT) (tb.same (s1.trans sp)) (.inl ⟨x,b,hx,hw,c6,sp _ _ gb⟩)
end
section
variable {K:W.Frag} {mg:Str->Option Value} {base:Heap}
def isR (ns:List Int)(r:Int):Prop:=0<=r/\r<=ns.length
def be7 (K:W.Frag)(CB CN:Addr):Sp:=fun vs H Q E=>∃ (a:Addr) (ns:List Int) (M:Nat) (r:Int),vs=[.ref a,.int M,.int r]/\Sq K H a ns/\M<=1000000/\(N7 ns->isR ns r->∀ H':Hp,u9 H H'->Q (.int (ah1 ns M r.toNat)) H')/\(N7 ns->¬ isR ns r->E (.ref CN) none H)/\(¬ N7 ns->E (.ref CB) none H)
theorem bE0:x9 ["tally","most","r"] ["tally","most","r"] (p5 aA6):=.mk'
theorem bu2 {fF fA CN:Addr}(F:Fun K "room_with" "room_with" aA6 f fd)(B:Bn mg)(FT:Fq K mg "check_tally" at4 fT fdT ["tally"])
  (FF:Fq K mg "falling" aq1 fF fdF ["tally"])(FA:Fq K mg "room_among" af4 fA fdA ["numbers","most","r"])
  (mM:mg "MOST_PLACES"=some (.int 24 tk))(mB:mg "BadTally"=some (.ref CB))(cB:ai5 K CB)(mN:mg "BadNumber"=some (.ref CN))(cN:ai5 K CN):x8 P w K mg base (CXE P w) 2 f fd ["tally","most","r"] (be7 K CB CN):=by
 have GT:x8 P w K mg base (CXE P w) 1 fT fdT ["tally"] (aI1 K CB):=aN8 FT.F B mM mB cB
 have GF:x8 P w K mg base CX0 1 fF fdF ["tally"] (ba2 K):=bh1 FF.F B
 have GA:x8 P w K mg base CX0 1 fA fdA ["numbers","most","r"] (aM6 K):=aU5 FA.F B
 refine F.okX bE0 (fun cdv A outer s H vs Q E hr h=>?_)
 obtain⟨a,ns,M,r,rfl,hS,hM,h1,h2,h3⟩:=h
 refine⟨_,j6 (R3 (D0 GT hr (by rfl) FT ah3 (b8 (pv 0) c7)))
  (j6 (O0 (af5 (aj4 ah4 ah4 i9 (pv 2) (p8 A0 (by rfl) B.len PySem.boot_len (b8 (pv 0) c7)))) (o4 (aB5 (by rfl) mN cN)) F9)
  (o4 (B2 (D0 GA hr (by rfl) FA G2 (b8 (D0 GF hr (by rfl) FF G2 (b8 (pv 0) c7)) (b8 (pv 1) (b8 (pv 2) c7))))))),?_⟩
 refine⟨_,rfl,a,ns,rfl,hS,fun ht=>?_,h3⟩
 have t2:=ht.2
 refine⟨_,rfl,_,_,rfl,rfl,_,rfl,?_⟩
 by_cases hp:(0:Int)<=r
 ·rw[decide_eq_true hp]
  refine P7 ⟨_,rfl,a,_,rfl,hS,_,_,rfl,rfl,_,rfl,?_⟩
  rw[b7]
  by_cases hp':r<=(ns.length:Int)
  ·rw[decide_eq_true hp']
   refine O3 ?_
   obtain⟨k,rfl⟩:∃ k:Nat,r=(k:Int):=⟨r.toNat,by omega⟩
   refine⟨_,rfl,a,ns,rfl,hS,by omega,fun l H1 s1 hl g1=>?_⟩
   refine⟨_,rfl,_,rfl,l,ns,M,k,rfl,SqL.of g1,hM,by omega,by omega,fun H2 s2=>?_⟩
   exact h1 ht ⟨hp,hp'⟩ H2 (s1.trans s2)
  ·rw[decide_eq_false hp']
   exact P7 (h2 ht fun z=>hp' z.2)
 ·rw[decide_eq_false hp]
  exact O3 ⟨_,rfl,P7 (h2 ht fun z=>hp z.1)⟩
def aM3 (K:W.Frag)(CB CN:Addr):Sp:=fun vs H Q E=>∃ (a:Addr) (ns:List Int) (r:Int),vs=[.ref a,.int r]/\Sq K H a ns/\(N7 ns->isR ns r->∀ H':Hp,u9 H H'->Q (.int (P8 ns r.toNat)) H')/\(N7 ns->¬ isR ns r->E (.ref CN) none H)/\(¬ N7 ns->E (.ref CB) none H)
theorem bS2:x9 ["tally","r"] ["tally","r"] (p5 aI2):=.mk'
theorem bG4 {fW fF fA CN:Addr}{fdW:FuncData}(F:Fun K "room" "room" aI2 f fd)(B:Bn mg)(FT:Fq K mg "check_tally" at4 fT fdT ["tally"])
  (FF:Fq K mg "falling" aq1 fF fdF ["tally"])(FA:Fq K mg "room_among" af4 fA fdA ["numbers","most","r"])
  (FW:Fq K mg "room_with" aA6 fW fdW ["tally","most","r"])
  (mM:mg "MOST_PLACES"=some (.int 24 tk))(mB:mg "BadTally"=some (.ref CB))(cB:ai5 K CB)(mN:mg "BadNumber"=some (.ref CN))(cN:ai5 K CN):x8 P w K mg base (CXE P w) 3 f fd ["tally","r"] (aM3 K CB CN):=by
 have GW:x8 P w K mg base (CXE P w) 2 fW fdW ["tally","most","r"] (be7 K CB CN):=bu2 FW.F B FT FF FA mM mB cB mN cN
 refine F.okX bS2 (fun cdv A outer s H vs Q E hr h=>?_)
 obtain⟨a,ns,r,rfl,hS,h1,h2,h3⟩:=h
 refine⟨_,o4 (B2 (D0 GW hr (by rfl) FW ah3 (b8 (pv 0) (b8 i9 (b8 (pv 1) c7))))),?_⟩
 refine⟨_,rfl,_,rfl,a,ns,1,r,rfl,hS,by decide,fun ht hr' H' s'=>?_,h2,h3⟩
 rw[ad4]
 exact h1 ht hr' H' s'
end
theorem bY3 (M L c:Int)(hM:0<=M):(if (if c - L > 0 then c - L else 0)<M then (if c - L > 0 then c - L else 0) else M)=abv M L c:=by
 unfold abv
 by_cases h1:c - L<=0
 ·have e:(if c - L > 0 then c - L else 0)=0:=if_neg (by omega)
  rw[if_pos h1,e]
  by_cases h0:(0:Int)<M
  ·rw[if_pos h0]
  ·rw[if_neg h0];omega
 ·have e:(if c - L > 0 then c - L else 0)=c - L:=if_pos (by omega)
  rw[if_neg h1,e]
  by_cases h2:c - L<=M
  ·rw[if_pos h2]
   by_cases h3:c - L<M
   ·rw[if_pos h3]
   ·rw[if_neg h3];omega
  ·rw[if_neg h2,if_neg (by omega)]
theorem bu8 {k1 k2 k3:Str}{a1 a2 a3:Addr}(h:E6 x [(k1,a1),(k2,a2),(k3,a3)]=some c):(x=k1/\c=a1)\/(x=k2/\c=a2)\/(x=k3/\c=a3):=by
 by_cases z1:x=k1
 ·subst z1
  simp[E6]at h
  exact .inl ⟨rfl,h.symm⟩
 ·have e1:(x == k1)=false:=by simpa using z1
  by_cases z2:x=k2
  ·subst z2
   simp[E6,e1]at h
   exact .inr (.inl ⟨rfl,h.symm⟩)
  ·have e2:(x == k2)=false:=by simpa using z2
   by_cases z3:x=k3
   ·subst z3
    simp[E6,e1,e2]at h
    exact .inr (.inr ⟨rfl,h.symm⟩)
   ·have e3:(x == k3)=false:=by simpa using z3
    simp[E6,e1,e2,e3]at h
theorem ci7 {y k1 k2 k3:Str}{a1 a2 a3:Addr}(n12:a1≠a2)(n13:a1≠a3)(n23:a2≠a3)(hx:E6 x [(k1,a1),(k2,a2),(k3,a3)]=some c)(hy:E6 y [(k1,a1),(k2,a2),(k3,a3)]=some c):x=y:=by
 rcases bu8 hx with⟨rfl,e⟩ | ⟨rfl,e⟩ | ⟨rfl,e⟩<;>rcases bu8 hy with⟨h,e'⟩ | ⟨h,e'⟩ | ⟨h,e'⟩
 all_goals first | exact h.symm | exact absurd (e.symm.trans e') n12 | exact absurd (e.symm.trans e') n13 | exact absurd (e.symm.trans e') n23 | exact absurd (e'.symm.trans e) n12 | exact absurd (e'.symm.trans e) n13 | exact absurd (e'.symm.trans e) n23
theorem lk1 {k1 k2 k3:Str}{a1 a2 a3:Addr}:E6 k1 [(k1,a1),(k2,a2),(k3,a3)]=some a1:=by simp[E6]
theorem lk2 {k1 k2 k3:Str}{a1 a2 a3:Addr}(h:(k2 == k1)=false):E6 k2 [(k1,a1),(k2,a2),(k3,a3)]=some a2:=by simp[E6,h]
theorem lk3 {k1 k2 k3:Str}{a1 a2 a3:Addr}(h:(k3 == k1)=false)(h':(k3 == k2)=false):E6 k3 [(k1,a1),(k2,a2),(k3,a3)]=some a3:=by simp[E6,h,h']
theorem bj1 {M L:Int}:∀ {ns:List Int},(∀ x∈ns,x<=L)->(ns.map (abv M L)).sum=0
 | [],_=>rfl
 | c::ns,h=>by
  rw[p7,Q4,bj1 fun x hx=>h x (d3 _ hx)]
  have:=h c g9
  unfold abv
  rw[if_pos (by omega)]
  rfl
def mpN (M L:Int)(ns:List Int)(i:Nat):List Int:=((q0 i).filter fun j=>decide (abv M L (ns.getD j 0)<abv M (L - 1) (ns.getD j 0))).map fun j:Nat=>(j:Int)
theorem aU8 (M L:Int)(ns:List Int)(i:Nat):mpN M L ns (i+1)=mpN M L ns i++(if abv M L (ns.getD i 0)<abv M (L - 1) (ns.getD i 0) then [(i:Int)] else []):=by
 unfold mpN
 rw[E7,N8,j9]
 congr 1
 by_cases h:abv M L (ns.getD i 0)<abv M (L - 1) (ns.getD i 0)
 ·rw[if_pos h,aP9,if_pos (decide_eq_true h)];rfl
 ·rw[if_neg h,aP9,if_neg (by rw[decide_eq_false h];decide)];rfl
theorem bH5 (M L:Int)(ns:List Int):mpN M L ns ns.length=ae0 M L ns:=by
 unfold mpN ae0 rng
 rw[List.filter_map,<- av3]
 congr 1
theorem bH4 (M L:Int)(ns:List Int)(i:Nat):(mpN M L ns i).length<=i:=by
 unfold mpN
 rw[b7]
 have:=K4 (fun j=>decide (abv M L (ns.getD j 0)<abv M (L - 1) (ns.getD j 0))) (q0 i)
 rw[y9]at this
 exact this
theorem aD8 {M L:Int}(h:j<ns.length):(ns.map (abv M L)).getD j 0=abv M L (ns.getD j 0):=by
 rw[i6,i6,p0,g6 h]
 rfl
theorem bn0 {f:Nat->Int}(h:j<n):((q0 n).map f).getD j 0=f j:=by
 rw[i6,p0,J8 h]
 rfl
theorem cf9 {K:W.Frag}{Q:VK}(h:SqL K H a (ns.map V.int))(hj:j<ns.length)(q:Q (.int (ns.getD j 0)) H):rIx K (.ref a) (.int j) H Q:=.inl ⟨a,_,_,_,rfl,rfl,h,ap0 hj,q⟩
seal L2.PE L2.PA L2.PS L2.PSs L2.PT
section
variable {K:W.Frag} {mg:Str->Option Value} {base:Heap}
def be5 (P:Program)(w:World)(K:W.Frag)(mg:Str->Option Value)(base:Heap)(k:Nat):Sp:=fun vs H Q _=>∃ (lo hi:Int) (f:Addr) (ob:Obj) (fd:FuncData) (x:Str) (sp:Sp) (J:Hp->Prop) (p:Int->Bool),vs=[.int lo,.int hi,.ref f]/\lo<=hi/\ob.data=.func fd /\
 x8 P w K mg base CX0 k f fd [x] sp/\Binds K fd [x] []/\(∀ H,J H->H f=some (R7 f ob))/\(∀ (H:Hp) (m:Int) (Q:VK),J H->lo<=m->m<hi->(∀ H',u9 H H'->J H'->Q (.bl (p m)) H')->sp [.int m] H Q E0)/\J H /\
 ∀ (r:Int) (H':Hp),lo<=r->r<=hi->(r<hi->p r=true)->(lo<r->p (r - 1)=false)->J H'->u9 H H'->Q (.int r) H'
theorem ax7:x9 ["low","high","holds","middle"] ["low","high","holds"] (p5 aA4):=.mk'
theorem bu0 {k:Nat} (F:Fun K "least_where" "least_where" aA4 f fd):x8 P w K mg base CX0 (k+1) f fd ["low","high","holds"] (be5 P w K mg base k):=by
 refine F.ok ax7 (fun cdv A outer s H vs Q E hr h=>?_)
 obtain⟨lo,hi,fl,ob,fdl,x,sp,J,p,rfl,hlh,hob,FL,bL,hJ,hcall,hJ0,q⟩:=h
 refine⟨_,j6 (aT9 PassesOwn.never (D3 aj6 (pv 0) (pv 1) (F5 _))
  (j6 (A7 (i:=3) ax7.nd rfl (Or.inl rfl) (v7 Y9 (v7 N4 (pv 0) (pv 1)) i9))
  (o4 (O0 (aB3 (bt6 hr (i := 2) rfl (Or.inl rfl) (b8 (pv 3) c7)))
   (o4 (A7 (i:=1) ax7.nd rfl (Or.inl rfl) (pv 3))) (o4 (A7 (i:=0) ax7.nd rfl (Or.inl rfl) (v7 N4 (pv 3) i9)))))))
  (o4 (B2 (pv 0))),?_⟩
 refine⟨fun m σ H1=>∃ (a b:Int) (e3:Option V),m=(b - a).toNat/\σ=[some (.int a),some (.int b),some (.ref fl),e3]/\lo<=a/\a<=b/\b<=hi/\(b<hi->p b=true)/\(lo<a->p (a - 1)=false)/\J H1/\u9 H H1,⟨_,lo,hi,none,rfl,rfl,by omega,hlh,by omega,fun z=>absurd z (by omega),fun z=>absurd z (by omega),hJ0,u9.refl H⟩,?_⟩
 rintro m σ H1 ⟨a,b,e3,rfl,rfl,h1,h2,h3,h4,h5,h6,h7⟩
 refine⟨_,rfl,_,rfl,_,_,rfl,rfl,_,rfl,?_⟩
 refine aW4 (fun hc=>?_) (fun hc=>?_)
 ·have hab:=of_decide_eq_true hc
  refine⟨fun σ' H'=>∃ (a' b':Int) (e3:Option V),(b' - a').toNat<(b - a).toNat/\σ'=[some (.int a'),some (.int b'),some (.ref fl),e3]/\lo<=a'/\a'<=b'/\b'<=hi/\(b'<hi->p b'=true)/\(lo<a'->p (a' - 1)=false)/\J H'/\u9 H H',fun σ' H' ⟨a',b',e3',z0,z1,z2,z3,z4,z5,z6,z7,z8⟩=>⟨_,z0,a',b',e3',rfl,z1,z2,z3,z4,z5,z6,z7,z8⟩,?_⟩
  refine⟨_,rfl,_,rfl,_,_,rfl,rfl,_,_,rfl,rfl,⟨by decide,by decide⟩,?_⟩
  refine Z5 fun c hcm=>?_
  refine B9 ?_
  have hc1:a<=c:=by omega
  have hc2:c<b:=by omega
  refine⟨fl,ob,fdl,rfl,hJ _ h6,hob,_,rfl,[x],sp,hJ _ h6,FL,bL,hcall H1 c _ h6 (by omega) (by omega) fun H2 s2 j2=>⟨_,rfl,?_⟩⟩
  refine aW4 (fun hp=>?_) (fun hp=>?_)
  ·exact⟨_,rfl,a,c,_,by omega,rfl,h1,by omega,by omega,fun _=>hp,h5,j2,h7.trans s2⟩
  ·refine⟨_,rfl,_,_,rfl,rfl,c+1,b,_,by omega,rfl,by omega,by omega,h3,h4,fun _=>?_,j2,h7.trans s2⟩
   rw[show c+1 - 1=c by omega]
   simpa using hp
 ·have hab:¬ a<b:=fun z=>hc (decide_eq_true z)
  have e:b=a:=by omega
  rw[e]at h4
  exact⟨_,rfl,q a H1 h1 (by omega) h4 h5 h6 h7⟩
def br0 (K:W.Frag):Sp:=fun vs H Q _=>∃ (a:Addr) (ns:List Int) (L M:Int),vs=[.ref a,.int L,.int M]/\Sq K H a ns/\ns.length<=100/\0<=M/\∀ (l:Addr) (H':Hp),u9 H H'->H l=none->H' l=some (.lst ((ns.map (abv M L)).map V.int))->Q (.ref l) H'
theorem cd2:x9 ["numbers","level","most"] ["numbers","level","most"] (p5 bs5):=.mk'
theorem bV1 (F:Fun K "above" "above" bs5 f fd)(B:Bn mg):x8 P w K mg base CX0 1 f fd ["numbers","level","most"] (br0 K):=by
 refine F.ok cd2 (fun cdv A outer s H vs Q E hr h=>?_)
 obtain⟨a,ns,L,M,rfl,hS,hn,hM,q⟩:=h
 have hsl:=L0
 have nd3:(["number","level","most"]:List Str).Nodup:=by decide +kernel
 refine⟨_,o4 (B2 (N0 (N':=["number","level","most"]) (lk:=[none,some 1,some 2]) rfl (bg5 (R4 (pv 0)) (aN4 (pv 0))) (by rfl) rfl (by decide +kernel) (by exact⟨rfl,rfl,trivial⟩) (by rfl) (by exact LkL.ok ⟨⟨rfl,Or.inl rfl,rfl,Or.inl rfl⟩,⟨rfl,Or.inl rfl,rfl,Or.inl rfl⟩,trivial⟩)
    (fun _ _ _=>A3 (i:=0) nd3 rfl (Or.inl rfl)) (fun _ _ _=>P9) (fun _ _ _=>p8 (al8 rfl) (by rfl) B.min (by rfl) (b8 (pv 2) (b8 (p8 (au9 rfl) (by rfl) B.max (by rfl) (b8 i9 (b8 (v7 V2 (pv 0) (pv 1)) c7))) c7))))),?_⟩
 refine Or.imp (fun h=>⟨_,rfl,h⟩) (fun h=>⟨_,rfl,h⟩) (aK1 (K:=K) (a:=a) (ys:=ns.map V.int) hS (by rw[b7];omega) (fun D i xs σ' H'=>(∃ v,σ'=[v,some (.int L),some (.int M)])/\u9 H H'/\H' D=some (.lst xs)/\xs=((ns.take i).map (abv M L)).map V.int)
  (fun D hD=>⟨⟨none,rfl⟩,d9 hD,c6,rfl⟩) (fun D i xs σ' H' hD hi ⟨_,s6,h6,e6⟩=>⟨s6,h6,by rw[e6,b7,b7,q8];omega⟩) ?_ ?_)
 ·rintro D i xs x σ' H' N hD kN hx ⟨⟨v,rfl⟩,s6,h6,rfl⟩
  obtain⟨z,hz,rfl⟩:=Q0 hx
  refine B9 (L6 ?_)
  refine⟨_,rfl,_,rfl,_,rfl,_,_,rfl,rfl,_,_,rfl,_,_,rfl,?_⟩
  rw[bY3 M L z hM]
  refine⟨h6,kN _ _ _ ⟨⟨_,rfl⟩,s6.upd hD,c6,?_⟩⟩
  rw[C8,hz,j9,j9]
  rfl
 ·rintro D xs σ' H' hD ⟨⟨v,rfl⟩,s6,h6,rfl⟩
  rw[k9 (by rw[b7];exact d5 _)]at h6
  exact q D H' s6 hD h6
def bV4 (st:Stmt):Pos:=match (S7 st).getD 0 (.Pass ⟨0,0,0,0⟩) with
 | .Assign _ (.Call _ [_,_,.Lambda _ _ _ p] _ _) _=>p
 | _=>⟨0,0,0,0⟩
def ah5 (st:Stmt):Arguments × Expr × Scope:=match (S7 st).getD 0 (.Pass ⟨0,0,0,0⟩) with
 | .Assign _ (.Call _ [_,_,.Lambda a b c _] _ _) _=>(a,b,c)
 | _=>({ posonlyargs:=[],args:=[],vararg:=none,kwonlyargs:=[],kw_defaults:=[],kwarg:=none,defaults:=[] },.Constant .none 0 ⟨0,0,0,0⟩,{ kind:=.function,names:=[],isGenerator:=false,isCoroutine:=false })
def aJ3:Str:=(("shares":Str)++(".<locals>.":Str))++("<lambda>":Str)
abbrev Tb2 (P:Addr)(H:Hp):Prop:=U0 P (bV4 ai4) aJ3 H
theorem Sq.rmv {K:W.Frag}(h:Sq K H a ns)(hl:∀ b o,l b=some o->H b=some (R7 b o)):Sq K (aa1 H l) a ns:=by
 have go:∀ u,(∀ o,u≠R7 a o)->H a=some u->aa1 H l a=some u:=fun u hu q=>by rw[J5 (au2 hl q hu)];exact q
 rcases h with((h | ⟨o,h⟩) | h) | ((h | ⟨o,h⟩) | h)
 ·exact .inl (.inl (.inl (go _ (fun o z=>by unfold R7 at z;cases z) h)))
 ·exact .inl (.inl (.inr ⟨o,go _ (fun o z=>by unfold R7 at z;cases z) h⟩))
 ·exact .inl (.inr h)
 ·exact .inr (.inl (.inl (go _ (fun o z=>by unfold R7 at z;cases z) h)))
 ·exact .inr (.inl (.inr ⟨o,go _ (fun o z=>by unfold R7 at z;cases z) h⟩))
 ·exact .inr (.inr h)
theorem br4 (hl:∀ b o,l b=some o->H b=none):u9 H (am3 H l):=fun b u e=>by
 cases hb:l b with
 | some z=>rw[hl b z hb]at e;cases e
 | none=>rw[J4 hb];exact e
theorem bl3 (hl:∀ b o,l b=some o->H b=some (R7 b o))(s:u9 (aa1 H l) H'):u9 H (am3 H' l):=fun b u e=>by
 cases hb:l b with
 | some z=>rw[hl b z hb]at e;rw[ap5 hb];exact e
 | none=>rw[J4 hb];exact s b u (by rw[J5 hb];exact e)
theorem br7 {H2:Hp}(hl:∀ b o,l b=some o->H b=none)(s:u9 (am3 H l) H2):u9 H (aa1 H2 l):=fun b u e=>by
 cases hb:l b with
 | some z=>rw[hl b z hb]at e;cases e
 | none=>rw[J5 hb];exact s b u (by rw[J4 hb];exact e)
def bq4 (K:W.Frag)(PT:Addr):Sp:=fun vs H Q _=>∃ (na:Addr) (ns:List Int) (a:Int) (M:Nat),vs=[.ref na,.int a,.int M]/\Sq K H na ns/\ns.length<=24/\AllP ns/\0<=a/\Tb2 PT H /\
 ∀ (l:Addr) (xs:List Int) (L:Int) (H':Hp),T5 PT H H'->Tb2 PT H'->Lvl M ns a L->xs.length=ns.length->(∀ j,j<ns.length->xs.getD j 0=shx M L ns (a - (ns.map (abv M L)).sum).toNat j)->H l=none->H' l=some (.lst (xs.map V.int))->Q (.ref l) H'
theorem aS4:x9 ["numbers","much","most","level","taken","deeper","one_more"] ["numbers","much","most"] (p5 ai4):=.mk'
set_option maxHeartbeats 4000000 in
theorem bU0 {fA fW PT:Addr}{fdW:FuncData}(F:Fun K "shares" "shares" ai4 f fd)(hc:fd.code=.ref c)(LB:ar5 base mg c PT)(B:Bn mg)(FA:Fq K mg "above" bs5 fA fdA ["numbers","level","most"])
  (FW:Fq K mg "least_where" aA4 fW fdW ["low","high","holds"]):x8 P w K mg base (CXE P w) 4 f fd ["numbers","much","most"] (bq4 K PT):=by
 have GA:x8 P w K mg base CX0 1 fA fdA ["numbers","level","most"] (br0 K):=bV1 FA.F B
 have GA3:x8 P w K mg base CX0 3 fA fdA ["numbers","level","most"] (br0 K):=GA.mono (by decide)
 have GW:x8 P w K mg base CX0 3 fW fdW ["low","high","holds"] (be5 P w K mg base 2):=bu0 FW.F
 refine F.okXC hc aS4 (fun A outer s H vs Q E hr h=>?_)
 obtain⟨na,ns,a,M,rfl,hS,hn,hp,ha,tb,q⟩:=h
 have hsl:=L0
 have hun:=hr.units
 have nd3:(["place","deeper","taken"]:List Str).Nodup:=by decide +kernel
 have nd4:(["place","many","one_more"]:List Str).Nodup:=by decide +kernel
 refine⟨_,j6 (A7 (i:=3) aS4.nd rfl (Or.inl rfl) (bt7 (js:=[(0,s.heap.objs.size+1),(1,s.heap.objs.size+2),(2,s.heap.objs.size+3)]) GW hr (by rfl) FW.m FW.F.kp FW.b (fun q hq=>by
    simp only[d4,K8,or_false]at hq
    rcases hq with e | e | e
    ·rw[e];exact⟨W0 _ _,"numbers",rfl,rfl,rfl⟩
    ·rw[e];exact⟨W0 _ _,"much",rfl,rfl,rfl⟩
    ·rw[e];exact⟨W0 _ _,"most",rfl,rfl,rfl⟩) (b8 i9 (b8 (bF3 K rfl rfl (by rfl) B.max (b8 (pv 0) c7)) (b8 (bt4 LB rfl (by rfl) (by rfl)) c7)))))
  (j6 (A7 (i:=4) aS4.nd rfl (Or.inr rfl) (D0 GA3 hr (by rfl) FA G2 (b8 (pv 0) (b8 (pv 3) (b8 (pv 2) c7)))))
  (j6 (A7 (i:=5) aS4.nd rfl (Or.inr rfl) (D0 GA3 hr (by rfl) FA G2 (b8 (pv 0) (b8 (v7 V2 (pv 3) i9) (b8 (pv 2) c7)))))
  (j6 (A7 (i:=6) aS4.nd rfl (Or.inr rfl) (ad6 ak8 (N0 (N':=["place","deeper","taken"]) (lk:=[none,some 5,some 4]) rfl (T8 rfl B.range (b8 (p8 A0 (by rfl) B.len PySem.boot_len (b8 (pv 0) c7)) c7)) (by rfl) rfl (by decide +kernel) (by exact⟨rfl,rfl,trivial⟩) (by rfl) (by exact LkL.ok ⟨⟨rfl,Or.inl rfl,rfl,Or.inl rfl⟩,⟨rfl,Or.inl rfl,rfl,Or.inl rfl⟩,trivial⟩)
    (fun _ _ _=>A3 (i:=0) nd3 rfl (Or.inl rfl)) (fun _ _ _=>ak9 (D3 bN7 (Y8 K rfl (pv 1) (pv 0) (fun _ _=>rfl)) (Y8 K rfl (pv 2) (pv 0) (fun _ _=>rfl)) (F5 _))) (fun _ _ _=>pv 0)) aq3 (af6 (v7 V2 (pv 1) (p8 (ae2 rfl) (by rfl) B.sum (by rfl) (b8 (pv 4) c7))))))
  (o4 (B2 (N0 (N':=["place","many","one_more"]) (lk:=[none,none,some 6]) rfl (bg5 (aN5 (by rfl) B.enum (b8 (pv 4) c7)) (aU0 (by rfl) B.enum (b8 (pv 4) c7))) (by rfl) rfl (by decide +kernel) (by exact⟨rfl,trivial⟩) (by rfl) (by exact LkL.ok ⟨⟨rfl,Or.inl rfl,rfl,Or.inl rfl⟩,trivial⟩)
    (fun _ _ _=>ay2 (n:=2) K rfl rfl (O7 (A3 (i:=0) nd4 rfl (Or.inl rfl)) (O7 (A3 (i:=1) nd4 rfl (Or.inl rfl)) al0))) (fun _ _ _=>P9) (fun _ _ _=>aU2 (D3 (bg9 K hr.around rfl rfl) (pv 0) (pv 2) (by rfl)) (v7 N4 (pv 1) i9) (pv 1)))))))),?_⟩
 obtain⟨bb,hB⟩:∃ b,SqB b K H na (ns.map V.int):=hS.elim (fun h=>⟨true,h⟩) fun h=>⟨false,h⟩
 refine⟨_,rfl,bb,na,ns,rfl,hB,hp,fun hi h0 hmx=>⟨tb,fun fl c' ctv H2 g2 tb2 hfn hfo hco l hl hjv=>?_⟩⟩
 obtain⟨o1,u1,hl1,hd1,ru1⟩:=hjv _ g9 (.ref na) rfl
 obtain⟨o2,u2,hl2,hd2,ru2⟩:=hjv _ (d3 _ g9) (.int a) rfl
 obtain⟨o3,u3,hl3,hd3,ru3⟩:=hjv _ (d3 _ (d3 _ g9)) (.int (M:Int)) rfl
 have hS2:=Sq.grow hS g2 tb
 have st:=br4 hl
 have n1:(("much":Str) == ("numbers":Str))=false:=by decide +kernel
 have n2:(("most":Str) == ("numbers":Str))=false:=by decide +kernel
 have n3:(("most":Str) == ("much":Str))=false:=by decide +kernel
 refine⟨0,hi,fl,PySem.W.kla_obj "<lambda>" aJ3 (ah5 ai4).1 (ah5 ai4).2.1 (ah5 ai4).2.2 [("numbers",s.heap.objs.size+1),("much",s.heap.objs.size+2),("most",s.heap.objs.size+3)] ((mg "__name__").getD .none) c' ctv,PySem.W.kla_fn "<lambda>" aJ3 (ah5 ai4).1 (ah5 ai4).2.1 (ah5 ai4).2.2 [("numbers",s.heap.objs.size+1),("much",s.heap.objs.size+2),("most",s.heap.objs.size+3)] ((mg "__name__").getD .none) (.ref c') ctv,"tried",?sp,?J,?p,rfl,h0,rfl,?F,?b,?h3,?h4,?h5,?h6⟩
 case F =>
  refine bV3 (k:=1) (p:="tried") (qual:=aJ3) (params:=(ah5 ai4).1) (body:=(ah5 ai4).2.1) (scope:=(ah5 ai4).2.2) (cl:=[("numbers",s.heap.objs.size+1),("much",s.heap.objs.size+2),("most",s.heap.objs.size+3)]) (f:=fl) (c':=c') (l:=l) (cvs:=[some (.int (M:Int)),some (.int a),some (.ref na)]) (N':=["most","much","numbers"]) rfl rfl rfl (by rfl) rfl ?_ ?_ rfl ?_ (fun A' outer' s' H' hr'=>ay3 ah4 (p8 (bo0 K rfl rfl) (by rfl) B.sum (by rfl) (b8 (ay4 GA hr' (by rfl) FA.m FA.F.kp FA.b .nil G2 (b8 (pv 3) (b8 (pv 0) (b8 (pv 1) c7)))) c7)) (pv 2) (by rfl))
  ·intro x y c hx hy
   exact ci7 (show (s.heap.objs.size+1:Nat)≠s.heap.objs.size+2 by omega) (show (s.heap.objs.size+1:Nat)≠s.heap.objs.size+3 by omega) (show (s.heap.objs.size+2:Nat)≠s.heap.objs.size+3 by omega) hx hy
  ·intro x c hx
   rcases bu8 hx with⟨_,e⟩ | ⟨_,e⟩ | ⟨_,e⟩
   ·rw[e];exact⟨o1,_,hl1,hd1⟩
   ·rw[e];exact⟨o2,_,hl2,hd2⟩
   ·rw[e];exact⟨o3,_,hl3,hd3⟩
  ·intro i x v e1 e2
   match i,e1,e2 with
   | 0,e1,e2 =>
    have e1':("most":Str)=x:=Option.some.inj e1
    have e2':V.int (M:Int)=v:=Option.some.inj (Option.some.inj e2)
    subst e1' e2'
    exact⟨rfl,_,o3,u3,lk3 n2 n3,hl3,hd3,ru3⟩
   | 1,e1,e2 =>
    have e1':("much":Str)=x:=Option.some.inj e1
    have e2':V.int a=v:=Option.some.inj (Option.some.inj e2)
    subst e1' e2'
    exact⟨rfl,_,o2,u2,lk2 n1,hl2,hd2,ru2⟩
   | 2,e1,e2 =>
    have e1':("numbers":Str)=x:=Option.some.inj e1
    have e2':V.ref na=v:=Option.some.inj (Option.some.inj e2)
    subst e1' e2'
    exact⟨rfl,_,o1,u1,lk1,hl1,hd1,ru1⟩
   | i+3,e1,e2=>cases e1
 case b=>exact .all fun us hl=>match us,hl with | [_],_=>rfl
 case J=>exact fun Hx=>Hx fl=some (R7 fl (PySem.W.kla_obj "<lambda>" aJ3 (ah5 ai4).1 (ah5 ai4).2.1 (ah5 ai4).2.2 [("numbers",s.heap.objs.size+1),("much",s.heap.objs.size+2),("most",s.heap.objs.size+3)] ((mg "__name__").getD .none) c' ctv))/\Hx c'=some (aw1 c' aJ3)/\(∀ b o,l b=some o->Hx b=some (R7 b o))/\Sq K Hx na ns
 case p=>exact fun t=>decide ((ns.map (abv M t)).sum<=a)
 case h3=>exact fun Hx h=>h.1
 case h4 =>
  rintro Hx m Qx ⟨j1,j2,j3,j4⟩ hm1 hm2 hq
  refine⟨.int m,rfl,j1,j2,j3,?_⟩
  refine⟨_,rfl,_,rfl,_,rfl,na,ns,m,M,rfl,Sq.rmv j4 j3,by omega,by omega,fun l8 H8 s8 f8 g8=>⟨l8,_,rfl,SqL.of g8,_,rfl,_,_,rfl,rfl,fun hfr=>?_⟩⟩
  have sb:=bl3 j3 s8
  exact hq _ sb ⟨sb _ _ j1,sb _ _ j2,fun b o e=>ap5 e,j4.same sb⟩
 case h5=>exact⟨st _ _ hfo,st _ _ hco,fun b o e=>ap5 e,hS2.same st⟩
 case h6 =>
  rintro L H' hr1 hr2 hp1 hp2 ⟨j1,j2,j3,j4⟩ s'
  have so:=br7 hl s'
  refine⟨j3,?_⟩
  have hlv:Lvl M ns a L:=by
   refine⟨hr1,?_,fun h=>?_⟩
   ·rcases bB8 L hi with z | z
    ·exact of_decide_eq_true (hp1 z)
    ·rw[bj1 fun x hx=>Int.le_trans (hmx x hx) z]
     exact ha
   ·have:=of_decide_eq_false (hp2 h)
    omega
  have g3:T5 PT H (aa1 H' l):=g2.trans (so.grow PT)
  have tb3:=tb2.same so
  have hS3:=hS2.same so
  generalize aa1 H' l=H3 at g3 tb3 hS3 ⊢
  refine⟨_,rfl,_,rfl,_,rfl,na,ns,L,M,rfl,hS3,by omega,by omega,fun lt H4 s4 f4 g4=>?_⟩
  refine⟨_,rfl,_,rfl,_,_,rfl,rfl,_,rfl,na,ns,L - 1,M,rfl,hS3.same s4,by omega,by omega,fun ld H5 s5 f5 g5=>?_⟩
  have g45:=s5 _ _ g4
  have hS5:=hS3.same (s4.trans s5)
  have hle:=hlv.le
  obtain⟨k,hk⟩:∃ k:Nat,a - (ns.map (abv M L)).sum=(k:Int):=⟨(a - (ns.map (abv M L)).sum).toNat,by omega⟩
  refine⟨_,rfl,na,_,rfl,hS5,(ns.length:Int),congrArg (fun z:Nat=>[V.int (z:Int)]) (b7 ..),by omega,by omega,fun D hD=>?_⟩
  rw[u6]
  refine aa4 (lo:=0) (n:=ns.length) (D:=D) (fun i xs σ' H'=>(∃ v,σ'=[v,some (.ref ld),some (.ref lt)])/\u9 H5 H'/\H' D=some (.lst xs)/\xs=(mpN M L ns i).map V.int) ⟨⟨none,rfl⟩,d9 hD,c6,rfl⟩ (by omega)
   (fun i xs σ' H' hi ⟨_,s6,h6,e6⟩=>⟨h6,by rw[e6,b7];exact bH4 M L ns i⟩) ?_ ?_
  ·rintro i xs σ' H' N kN hi ⟨⟨v,rfl⟩,s6,h6,rfl⟩
   have e0:((0:Int)+(i:Int))=(i:Int):=by omega
   rw[e0]
   refine B9 ?_
   refine⟨_,rfl,_,rfl,cf9 (SqL.of (s6 _ _ g5)) (by rw[b7];exact hi) ⟨_,rfl,_,rfl,cf9 (SqL.of (s6 _ _ g45)) (by rw[b7];exact hi) ⟨_,_,rfl,rfl,_,rfl,?_⟩⟩⟩
   rw[aD8 hi,aD8 hi]
   by_cases hm:abv M L (ns.getD i 0)<abv M (L - 1) (ns.getD i 0)
   ·rw[decide_eq_true hm]
    refine P7 ⟨_,rfl,h6,kN _ _ _ ⟨⟨_,rfl⟩,s6.upd hD,c6,?_⟩⟩
    rw[aU8,if_pos hm,j9]
    rfl
   ·rw[decide_eq_false hm]
    refine O3 (kN _ _ _ ⟨⟨_,rfl⟩,s6,h6,?_⟩)
    rw[aU8,if_neg hm,D7]
  ·rintro xs σ' H6 ⟨⟨v,rfl⟩,s6,h6,rfl⟩
   rw[bH5]at h6
   refine⟨_,rfl,_,rfl,lt,_,rfl,SqL.of (s6 _ _ g45),_,_,rfl,rfl,_,rfl,D,_,rfl,SqL.of h6,fun lo flo=>?_⟩
   rw[hk,aj9]
   have s7:=d9 (o:=.lst (((ae0 M L ns).take k).map V.int)) flo
   have g7:(upd H6 lo (.lst (((ae0 M L ns).take k).map V.int))) lo=some (.lst ((aH1 M L ns k).map V.int)):=c6
   have s57:=s6.trans s7
   generalize upd H6 lo (.lst (((ae0 M L ns).take k).map V.int))=H7 at s57 g7 ⊢
   have g47:=s57 _ _ g45
   refine Or.imp (fun h=>⟨_,rfl,h⟩) (fun h=>⟨_,rfl,h⟩) (aE3 (K:=K) (a:=lt) (ys:=(ns.map (abv M L)).map V.int) (.inl (SqL.of g47)) (by rw[b7,b7];omega)
    (fun D i xs σ' H'=>(∃ v u,σ'=[v,u,some (.ref lo)])/\u9 H7 H'/\H' D=some (.lst xs)/\xs=((q0 i).map (shx M L ns k)).map V.int) (fun D hD=>⟨⟨none,none,rfl⟩,d9 hD,c6,rfl⟩)
    (fun D i xs σ' H' hD hi ⟨_,s1,h1,e1⟩=>⟨s1,h1,by rw[e1,b7,b7,y9];exact d5 _⟩) ?_ ?_)
   ·rintro D8 i xs x t σ' H' N hD8 kN hx ⟨⟨v,u,rfl⟩,s1,h1,rfl⟩ ht'
    obtain⟨z,hz,rfl⟩:=Q0 hx
    have s2:=d9 (o:=.tup [.int i,.int z]) ht'
    have hi:i<ns.length:=by
     rcases B0 i ns.length with h | h
     ·exact h
     ·rw[p9 (by rw[b7];exact h)]at hz;cases hz
    have ez:z=abv M L (ns.getD i 0):=by
     rw[<- aD8 hi,i6,hz]
     rfl
    refine⟨t,_,rfl,SqT.of c6,rfl,_,_,rfl,_,_,rfl,rfl,L6 ?_⟩
    refine⟨_,rfl,_,rfl,bw9 hun (SqL.of ((s1.trans s2) _ _ g7)) ⟨_,rfl,?_⟩⟩
    have ex:((q0 (i+1)).map (shx M L ns k)).map V.int=((q0 i).map (shx M L ns k)).map V.int++[V.int (shx M L ns k i)]:=by
     rw[E7,j9,j9]
     rfl
    by_cases hm:(i:Int)∈aH1 M L ns k
    ·rw[decide_eq_true hm]
     refine P7 ⟨_,rfl,_,_,rfl,rfl,s2 _ _ h1,kN _ _ _ ⟨⟨_,_,rfl⟩,(s1.trans s2).upd hD8,c6,?_⟩⟩
     rw[ex]
     unfold shx
     rw[if_pos hm,ez]
    ·rw[decide_eq_false hm]
     refine O3 ⟨_,rfl,s2 _ _ h1,kN _ _ _ ⟨⟨_,_,rfl⟩,(s1.trans s2).upd hD8,c6,?_⟩⟩
     rw[ex]
     unfold shx
     rw[if_neg hm,ez,Int.add_zero]
   ·rintro D8 xs σ' H8 hD8 ⟨⟨v,u,rfl⟩,s1,h1,rfl⟩
    rw[b7,b7]at h1
    have sE:=(s4.trans s5).trans (s57.trans s1)
    have sF:=(s4.trans s5).trans s57
    refine q D8 _ L H8 (g3.trans (sE.grow PT)) (tb3.same sE) hlv (by rw[b7,y9]) (fun j hj=>?_) (aJ6 (g3.trans (sF.grow PT)) (tb3.same sF) hD8) h1
    rw[bn0 hj,hk,u6]
end
end Web
namespace Web
open PySem L2
def Gw (P P':Addr)(H H':Hp):Prop:=∀ b o,b≠P->b≠P'->H b=some o->H' b=some o
theorem Gw.trans {P P':Addr}{H1 H2:Hp}(a:Gw P P' H H1)(b:Gw P P' H1 H2):Gw P P' H H2:=fun c o n n' h=>b c o n n' (a c o n n' h)
theorem aR7 {P P':Addr}{po po':Pos}{qu qu':Str}(g:T5 P H H')(t:U0 P po qu H)(t':U0 P' po' qu' H)(hne:P'≠P):U0 P' po' qu' H':=by
 obtain⟨ps,hP,_⟩:=t
 obtain⟨qs,h1,h2,h3⟩:=t'
 refine⟨qs,g _ _ hne h1,h2,h3.imp id fun⟨c,e,h⟩=>⟨c,e,g _ _ (fun z=>?_) h⟩⟩
 rw[z,hP]at h
 unfold aw1 at h
 cases h
def LOK (ns:List Int):Prop:=ns.length<=24
theorem SqB.same {b:Bool}{K:W.Frag}(h:SqB b K H a xs)(s:u9 H H'):SqB b K H' a xs:=by
 cases b with
 | true=>exact s.seq h
 | false=>exact s.seqT h
structure Fst (ns:List Int) (mn:Int) (j:Nat):Prop where
 le:j<=ns.length
 eq:P8 ns j=mn
 no:∀ k,k<j->P8 ns k≠mn
theorem bX1 {mn:Int}(h:∃ r,r<=ns.length/\mn=P8 ns r):∃ j,Fst ns mn j:=by
 obtain⟨r,r1,r2⟩:=h
 obtain⟨j,⟨h1,h2⟩,h3⟩:=Sett.aO6 (P:=fun j=>j<=ns.length/\P8 ns j=mn) ⟨r,r1,r2.symm⟩
 exact⟨j,h1,h2,fun k hk e=>h3 k hk ⟨by omega,e⟩⟩
def bK4 (ns cs:List Int)(mn:Int):Prop:=∃ (M:Nat) (L:Int) (xs:List Int),(M:Int)∈ns/\(∀ x∈ns,x<=(M:Int))/\Lvl M ns (am4 ns.sum (-mn)) L/\xs.length=ns.length/\(∀ j,j<ns.length->xs.getD j 0=shx M L ns (am4 ns.sum (-mn) - (ns.map (abv M L)).sum).toNat j)/\cs=ad2 ns xs
theorem bK4.facts {cs:List Int}{mn:Int}(h:bK4 ns cs mn)(h0:AllP ns)(hm:Lst ns mn):Gr cs/\cs.length=ns.length/\(∀ j,j<ns.length->0<=cs.getD j 0/\cs.getD j 0<=ns.getD j 0)/\cs.sum=ns.sum - am4 ns.sum (-mn):=by
 obtain⟨M,L,xs,h1,h2,h3,h4,h5,rfl⟩:=h
 obtain⟨a,b,c⟩:=bv0 h0 h2 hm h3 h5
 exact⟨a,Z9 _ _,b,c⟩
structure LoT (K:W.Frag) (H:Hp) (p b:Addr) (ns cs:List Int) (ks:List (List Int)) (mn:Int) (j:Nat):Prop where
 lst:Lst ns mn
 fst:Fst ns mn j
 cs_:bK4 ns cs mn
 tup:H p=some (.tup [.int (am4 ns.sum (-mn)),.ref b,.int (j:Int)])
 web:aY3 K H b cs ks
theorem aY3.same {K:W.Frag}{b:Addr}(h:aY3 K H b ns ks)(s:u9 H H'):aY3 K H' b ns ks:=by
 obtain⟨⟨t,zs,h1,h2,h3⟩,a,b,c,d,e⟩:=h
 exact⟨⟨t,zs,s _ _ h1,s _ _ h2,s.tups h3⟩,a,b,c,d,e⟩
def Tbs (PT PU:Addr)(H:Hp):Prop:=Tb PT H/\Tb2 PU H/\PT≠PU
theorem Tbs.same {PT PU:Addr}(h:Tbs PT PU H)(s:u9 H H'):Tbs PT PU H':=⟨h.1.same s,h.2.1.same s,h.2.2⟩
theorem bX0 {P P':Addr}(g:T5 P H H'):Gw P P' H H':=fun b o n _ e=>g b o n e
theorem bW9 {P P':Addr}(g:T5 P' H H'):Gw P P' H H':=fun b o _ n e=>g b o n e
theorem R5 {P P':Addr}(s:u9 H H'):Gw P P' H H':=fun b o _ _ e=>s b o e
section
variable {PT PU:Addr} (gQ:Gw PT PU H H') (tQ:Tbs PT PU H)
include gQ tQ
theorem aW7 {o:HO}(h:H a=some o)(ho:∀ ps,o≠.tbl ps):H' a=some o:=by
 obtain⟨⟨ps,hP,_⟩,⟨qs,hQ,_⟩,_⟩:=tQ
 exact gQ a o (fun z=>by rw[z,hP]at h;cases h;exact ho _ rfl) (fun z=>by rw[z,hQ]at h;cases h;exact ho _ rfl) h
theorem ag1 (h:H a=some (.lst xs)):H' a=some (.lst xs):=aW7 gQ tQ h fun _ z=>by cases z
theorem bW8 {K:W.Frag}(h:SqL K H a xs):SqL K H' a xs:=by
 rcases h with(h | ⟨o,h⟩) | h
 ·exact .inl (.inl (aW7 gQ tQ h fun _ z=>by cases z))
 ·exact .inl (.inr ⟨o,aW7 gQ tQ h fun _ z=>by cases z⟩)
 ·exact .inr h
theorem bW7 {K:W.Frag}(h:SqT K H a xs):SqT K H' a xs:=by
 rcases h with(h | ⟨o,h⟩) | h
 ·exact .inl (.inl (aW7 gQ tQ h fun _ z=>by cases z))
 ·exact .inl (.inr ⟨o,aW7 gQ tQ h fun _ z=>by cases z⟩)
 ·exact .inr h
theorem cf0 {K:W.Frag}(h:Sq K H a ns):Sq K H' a ns:=h.elim (fun h=>.inl (bW8 gQ tQ h)) fun h=>.inr (bW7 gQ tQ h)
end
theorem aB0 {r:Nat}(h:r<n):((q0 n).map (P8 ns))[r]?=some (P8 ns r):=by rw[p0,J8 h];rfl
seal L2.PE L2.PA L2.PS L2.PSs L2.PT
section
variable {K:W.Frag} {mg:Str->Option Value} {base:Heap}
def be9 (K:W.Frag)(CB CW:Addr):Sp:=fun vs H Q E=>∃ (a:Addr) (ns:List Int),vs=[.ref a]/\Sq K H a ns/\(N7 ns->AllP ns->∀ H':Hp,u9 H H'->Q .non H')/\(¬ N7 ns->E (.ref CB) none H)/\(N7 ns->¬ AllP ns->∀ H':Hp,u9 H H'->E (.ref CW) none H')
theorem cd0:x9 ["tally"] ["tally"] (p5 ba8):=.mk'
theorem bU9 {fβ CW:Addr}(F:Fun K "check_none_below" "check_none_below" ba8 f fd)(FT:Fq K mg "check_tally" at4 fT fdT ["tally"])(GT:x8 P w K mg base (CXE P w) 1 fT fdT ["tally"] (aI1 K CB))
  (Fβ:Fq K mg "places_below" af3 fβ fdβ ["numbers"])(Gβ:x8 P w K mg base CX0 1 fβ fdβ ["numbers"] (ax6 K))(mW:mg "NoWeb"=some (.ref CW))(cW:ai5 K CW):x8 P w K mg base (CXE P w) 2 f fd ["tally"] (be9 K CB CW):=by
 refine F.okX cd0 (fun cdv A outer s H vs Q E hr h=>?_)
 obtain⟨a,ns,rfl,hS,q,qb,qw⟩:=h
 refine⟨_,j6 (R3 (D0 GT hr (by rfl) FT ah3 (b8 (pv 0) c7)))
  (o4 (O0 (aB4 (D0 Gβ hr (by rfl) Fβ G2 (b8 (pv 0) c7)) (fun _=>rfl)) (o4 (aB5 (by rfl) mW cW)) F9)),?_⟩
 refine⟨_,rfl,a,ns,rfl,hS,fun ht=>?_,qb⟩
 have t2:=ht.2
 refine⟨_,rfl,a,ns,rfl,hS,by omega,fun bl H1 s1 hbl g1=>?_⟩
 refine⟨_,.inl ⟨_,SqL.of g1,rfl⟩,?_⟩
 unfold bJ9 at g1 ⊢
 cases hb:ao9 ns ns.length with
 | cons p ps =>
  refine P7 (qw ht (fun z=>?_) H1 s1)
  obtain⟨x,h1,h2⟩:=(aE9 hb).1
  have:=z p x h1
  omega
 | nil=>exact O3 (q ht (bj0 hb) H1 s1)
def ba0 (K:W.Frag):Sp:=fun vs H Q _=>∃ (a:Addr) (ns:List Int) (z:Int),vs=[.ref a,.int z]/\Sq K H a ns/\Q (.int (am4 ns.sum z)) H
theorem bS3:x9 ["tally","want"] ["tally","want"] (p5 aI3):=.mk'
theorem bG5 (F:Fun K "off_by_want" "off_by_want" aI3 f fd)(B:Bn mg):x8 P w K mg base CX0 1 f fd ["tally","want"] (ba0 K):=by
 refine F.ok bS3 (fun cdv A outer s H vs Q E hr h=>?_)
 obtain⟨a,ns,z,rfl,hS,q⟩:=h
 refine⟨_,o4 (B2 (v7 N4 (pv 1) (v7 N3 (v7 N4 (pv 1) (p8 (aK2 rfl) (by rfl) B.sum (by rfl) (b8 (pv 0) c7))) i9))),?_⟩
 exact⟨_,rfl,_,rfl,_,rfl,a,ns,rfl,hS,_,_,rfl,rfl,_,_,rfl,rfl,(by show (0:Int)<2;decide),_,_,rfl,rfl,q⟩
def ba1 (K:W.Frag)(CB CW PT PU:Addr):Sp:=fun vs H Q E=>∃ (a:Addr) (ns:List Int),vs=[.ref a]/\Sq K H a ns /\
 (N7 ns->AllP ns->Tbs PT PU H/\∀ (p b:Addr) (cs:List Int) (ks:List (List Int)) (mn:Int) (j:Nat) (H':Hp),Gw PT PU H H'->Tbs PT PU H'->H p=none->LoT K H' p b ns cs ks mn j->Q (.ref p) H')/\(¬ N7 ns->E (.ref CB) none H)/\(N7 ns->¬ AllP ns->∀ H':Hp,u9 H H'->E (.ref CW) none H')
theorem aA3:x9 ["tally","rooms","much","lacking","web"] ["tally"] (p5 aI5):=.mk'
set_option maxHeartbeats 4000000 in
theorem bH0 {fC fM fO fS fX CW CN PT PU:Addr}{fdM fdS fdX:FuncData}(F:Fun K "least_off" "least_off" aI5 f fd)(B:Bn mg)
  (FC:Fq K mg "check_none_below" ba8 fC fdC ["tally"])(GC:x8 P w K mg base (CXE P w) 5 fC fdC ["tally"] (be9 K CB CW))
  (FM:Fq K mg "room" aI2 fM fdM ["tally","r"])(GM:x8 P w K mg base (CXE P w) 5 fM fdM ["tally","r"] (aM3 K CB CN))
  (FO:Fq K mg "off_by_want" aI3 fO fdO ["tally","want"])(GO:x8 P w K mg base CX0 5 fO fdO ["tally","want"] (ba0 K))
  (FS:Fq K mg "shares" ai4 fS fdS ["numbers","much","most"])(GS:x8 P w K mg base (CXE P w) 5 fS fdS ["numbers","much","most"] (bq4 K PU))
  (FX:Fq K mg "answered" bs4 fX fdX ["tally"])(GX:x8 P w K mg base (CXE P w) 5 fX fdX ["tally"] (bq9 K CB PT)):x8 P w K mg base (CXE P w) 6 f fd ["tally"] (ba1 K CB CW PT PU):=by
 refine F.okX aA3 (fun cdv A outer s H vs Q E hr h=>?_)
 obtain⟨a,ns,rfl,hS,q,qb,qw⟩:=h
 have hsl:=L0
 have nd2:(["r","tally"]:List Str).Nodup:=by decide +kernel
 have nd3:(["number","less"]:List Str).Nodup:=by decide +kernel
 refine⟨_,j6 (R3 (D0 GC hr (by rfl) FC ah3 (b8 (pv 0) c7)))
  (j6 (ay1 (i:=1) aA3.nd rfl rfl (by rfl) (N':=["r","tally"]) (lk:=[none,some 0]) rfl (T8 rfl B.range (b8 (v7 N4 (p8 A0 (by rfl) B.len PySem.boot_len (b8 (pv 0) c7)) i9) c7)) (by rfl) rfl (by decide +kernel) (by exact⟨rfl,trivial⟩) (by rfl) (by exact LkL.ok ⟨⟨rfl,Or.inl rfl,rfl,Or.inl rfl⟩,trivial⟩)
    (fun _ _ _=>A3 (i:=0) nd2 rfl (Or.inl rfl)) (fun _ _ _=>P9) (fun _ _ _=>D0 GM hr (by rfl) FM (aI8 (P:=P) (w:=w)) (b8 (pv 1) (b8 (pv 0) c7))))
  (j6 (A7 (i:=2) aA3.nd rfl (Or.inl rfl) (D0 GO hr (by rfl) FO G2 (b8 (pv 0) (b8 (aB8 ao1 (p8 (au8 rfl) (by rfl) B.min (by rfl) (b8 (pv 1) c7))) c7))))
  (j6 (A7 (i:=3) aA3.nd rfl (Or.inl rfl) (D0 GS hr (by rfl) FS (aI8 (P:=P) (w:=w)) (b8 (pv 0) (b8 (pv 2) (b8 (p8 (bo2 rfl) (by rfl) B.max (by rfl) (b8 (pv 0) c7)) c7)))))
  (j6 (A7 (i:=4) aA3.nd rfl (Or.inl rfl) (G1 G7 (D0 GX hr (by rfl) FX (aI8 (P:=P) (w:=w)) (b8 (N0 (N':=["number","less"]) (lk:=[none,none]) rfl (bg4 (by rfl) B.zip (b8 (pv 0) (b8 (pv 3) c7))) (by rfl) rfl (by decide +kernel) (by exact trivial) (by rfl) (by exact LkL.ok trivial)
    (fun _ _ _=>ay2 (n:=2) K rfl rfl (O7 (A3 (i:=0) nd3 rfl (Or.inl rfl)) (O7 (A3 (i:=1) nd3 rfl (Or.inl rfl)) al0))) (fun _ _ _=>P9) (fun _ _ _=>v7 V2 (pv 0) (pv 1))) c7)) i9 (fun _ _=>rfl)))
  (o4 (B2 (N2 (b8 (pv 2) (b8 (pv 4) (b8 (bg6 PySem.F.plainAttrs_list PySem.F.slot_list_index PySem.F.type_list_index bm0 (pv 1) (b8 (p8 (au8 rfl) (by rfl) B.min (by rfl) (b8 (pv 1) c7)) c7)) c7)))))))))),?_⟩
 refine⟨_,rfl,a,ns,rfl,hS,fun ht h0 H1 s1=>?_,qb,qw⟩
 obtain⟨tbs,q⟩:=q ht h0
 have h24:=ht.2
 have hok:LOK ns:=ht.2
 have t2:=ht.2
 have t1:=ht.1
 have hS1:=hS.same s1
 refine⟨_,rfl,a,_,rfl,hS1,_,_,rfl,rfl,((ns.length+1:Nat):Int),congrArg (fun z:Nat=>[V.int ((z:Int)+1)]) (b7 ..),by omega,by omega,fun D hD=>?_⟩
 rw[u6]
 refine aa4 (lo:=0) (n:=ns.length+1) (D:=D) (fun i xs σ' H'=>(∃ v,σ'=[v,some (.ref a)])/\u9 H1 H'/\H' D=some (.lst xs)/\xs=((q0 i).map (P8 ns)).map V.int) ⟨⟨none,rfl⟩,d9 hD,c6,rfl⟩ (by omega)
  (fun i xs σ' H' hi ⟨_,s6,h6,e6⟩=>⟨h6,by rw[e6,b7,b7,y9];exact d5 _⟩) ?_ ?_
 ·rintro i xs σ' H' N kN hi ⟨⟨v,rfl⟩,s6,h6,rfl⟩
  rw[show ((0:Int)+(i:Int))=(i:Int) by omega]
  refine B9 (L6 ?_)
  refine⟨_,rfl,_,rfl,a,ns,(i:Int),rfl,hS1.same s6,fun _ _ H7 s7=>?_,fun _ h=>absurd ⟨by omega,by omega⟩ h,fun h=>absurd ht h⟩
  have h7:=s7 _ _ h6
  refine⟨h7,kN _ _ _ ⟨⟨_,rfl⟩,(s6.trans s7).upd hD,c6,?_⟩⟩
  rw[E7,j9,j9]
  rfl
 rintro xs σ' H2 ⟨⟨v,rfl⟩,s2,gD,rfl⟩
 have fD:H D=none:=s1.free hD
 have s12:=s1.trans s2
 have hS2:=hS.same s12
 have hrl:((q0 (ns.length+1)).map (P8 ns)).length=ns.length+1:=by rw[b7,y9]
 refine⟨_,rfl,_,rfl,D,_,rfl,SqL.of gD,by omega,fun mn hm1 hm2=>⟨mn,rfl,a,ns,-mn,rfl,hS2,?_⟩⟩
 have hmr:∃ r,r<=ns.length/\mn=P8 ns r:=by
  obtain⟨r,hr1,hr2⟩:=t8.mp hm1
  have:=B7.mp hr1
  exact⟨r,by omega,hr2.symm⟩
 have hL:Lst ns mn:=⟨fun r hr=>hm2 _ (f9 (aB0 (by omega))),hmr⟩
 obtain⟨j,hj⟩:=bX1 hmr
 obtain⟨o0,o1,o2,o3⟩:=hL.off h0
 refine B9 ?_
 obtain⟨bb,hB⟩:∃ b,SqB b K H2 a (ns.map V.int):=hS2.elim (fun h=>⟨true,h⟩) fun h=>⟨false,h⟩
 refine⟨_,rfl,_,rfl,_,rfl,bb,a,ns,rfl,hB,by omega,fun mx hx1 hx2=>?_⟩
 have mx0:0<=mx:=by
  obtain⟨i,hi⟩:=o7.mp hx1
  exact h0 i mx hi
 obtain⟨M,rfl⟩:∃ M:Nat,mx=(M:Int):=⟨mx.toNat,by omega⟩
 have tbs2:=tbs.same s12
 refine⟨a,ns,_,M,rfl,hS2,by omega,h0,o0,tbs2.2.1,fun lx xs L H3 g3 tb3 hLv hxl hx flx glx=>?_⟩
 have gw3:Gw PT PU H2 H3:=bW9 g3
 have tbs3:Tbs PT PU H3:=⟨aR7 g3 tbs2.2.1 tbs2.1 tbs2.2.2,tb3,tbs2.2.2⟩
 have hS3:=cf0 gw3 tbs2 hS2
 have gD3:=ag1 gw3 tbs2 gD
 refine B9 ?_
 obtain⟨b3,hB3⟩:∃ b,SqB b K H3 a (ns.map V.int):=hS3.elim (fun h=>⟨true,h⟩) fun h=>⟨false,h⟩
 refine⟨_,rfl,_,rfl,b3,true,a,lx,rfl,⟨_,hB3⟩,⟨_,SqL.of glx⟩,fun D4 hD4=>?_⟩
 refine aK0 (b1:=b3) (b2:=true) (K:=K) (a:=a) (b:=lx) (D:=D4) (ys:=ns.map V.int) (zs:=xs.map V.int) (by rw[b7,b7,hxl]) (fun i ds σ' H'=>(∃ v u,σ'=[v,u])/\u9 H3 H'/\H' D4=some (.lst ds)/\ds=((q0 i).map fun j=>ns.getD j 0 - xs.getD j 0).map V.int)
  ⟨⟨none,none,rfl⟩,d9 hD4,c6,rfl⟩ (by rw[b7];omega) (fun i ds σ' H' hi ⟨_,s8,h8,e8⟩=>⟨SqB.same hB3 s8,SqL.of (s8 _ _ glx),h8,by rw[e8,b7,b7,y9];exact d5 _⟩) ?_ ?_
 ·rintro i ds x y t σ' H' N kN hx hy ⟨⟨v,u,rfl⟩,s8,h8,rfl⟩ ht'
  obtain⟨z1,hz1,rfl⟩:=Q0 hx
  obtain⟨z2,hz2,rfl⟩:=Q0 hy
  have s9:=d9 (o:=.tup [.int z1,.int z2]) ht'
  refine⟨t,_,rfl,SqT.of c6,rfl,_,_,rfl,_,_,rfl,rfl,L6 ?_⟩
  refine⟨_,rfl,_,rfl,_,_,rfl,rfl,s9 _ _ h8,kN _ _ _ ⟨⟨_,_,rfl⟩,(s8.trans s9).upd hD4,c6,?_⟩⟩
  rw[E7,j9,j9]
  show _=_++[V.int (ns.getD i 0 - xs.getD i 0)]
  rw[i6,i6,hz1,hz2]
  rfl
 rintro ds σ' H4 ⟨⟨v,u,rfl⟩,s4,gD4,rfl⟩
 rw[b7]at gD4
 have hcs:bK4 ns (ad2 ns xs) mn:=⟨M,L,xs,hx1,hx2,hLv,hxl,hx,rfl⟩
 have gD4':H4 D4=some (.lst ((ad2 ns xs).map V.int)):=gD4
 obtain⟨hGr,hcl,_,_⟩:=hcs.facts h0 hL
 generalize ad2 ns xs=cs at hcs gD4' hGr hcl
 have tbs4:=tbs3.same s4
 have htc:N7 cs:=⟨by omega,by omega⟩
 refine⟨D4,cs,rfl,.inl (SqL.of gD4'),fun _=>⟨tbs4.1,fun rA H5 g5 tb5 ans=>?_⟩,fun h=>absurd htc h⟩
 rcases ans with⟨x,b,k1,k2,k3,k4⟩ | ⟨_,b,ks,k1,k2⟩
 ·exact absurd (bD2 k2 (bJ1 hGr)) k1
 have a1:atI ([.str "web",.ref b]:List V) 1=some (.ref b):=B8 (j:=1) rfl
 have gw5:Gw PT PU H4 H5:=bX0 g5
 have tbs5:Tbs PT PU H5:=⟨tb5,aR7 g5 tbs4.1 tbs4.2.1 (fun z=>tbs4.2.2 z.symm),tbs4.2.2⟩
 have gD5:=ag1 gw5 tbs4 (s4 _ _ gD3)
 refine⟨rA,_,_,_,rfl,rfl,SqT.of k1,a1,?_⟩
 refine B9 ?_
 have hne:∀ m c,m<j->((q0 (ns.length+1)).map (P8 ns))[m]?=some c->c≠mn:=fun m c hm e=>by
  have:=hj.le
  rw[aB0 (by omega)]at e
  cases e
  exact hj.no m hm
 refine⟨_,rfl,_,rfl,_,rfl,.inl ⟨rfl,_,SqL.of gD5⟩,_,rfl,D,_,rfl,SqL.of gD5,by omega,fun mn' hn1 hn2=>?_⟩
 obtain rfl:mn'=mn:=by
  have:=hm2 _ hn1
  have:=hn2 _ hm1
  omega
 have hjl:=hj.le
 refine⟨D,_,mn',j,rfl,rfl,gD5,by rw[aB0 (by omega),hj.eq],hne,by omega,?_⟩
 refine⟨(by show 3<=j5;decide),fun p fp=>?_⟩
 have sp:=d9 (o:=.tup [.int (am4 ns.sum (-mn')),.ref b,.int (j:Int)]) fp
 have gwA:Gw PT PU H H5:=((R5 s12).trans gw3).trans ((R5 s4).trans gw5)
 refine q p b cs ks mn' j _ (gwA.trans (R5 sp)) (tbs5.same sp) ?_ ⟨hL,hj,hcs,c6,k2.same sp⟩
 cases e:H p with
 | none=>rfl
 | some o =>
  by_cases z1:p=PT
  ·obtain⟨⟨ps,hP,_⟩,_⟩:=tbs5
   rw[z1,hP]at fp
   cases fp
  ·by_cases z2:p=PU
   ·obtain⟨_,⟨ps,hP,_⟩,_⟩:=tbs5
    rw[z2,hP]at fp
    cases fp
   ·rw[gwA p o z1 z2 e]at fp
    cases fp
end
end Web
namespace Web
open PySem L2
theorem rep0 (n:Nat):(v9 n [V.int 0]).flatten=(tal n []).map V.int:=by
 rw[bD6]
 exact bN6 n 0
def ae3 (K:W.Frag)(H:Hp)(p:Addr)(n:Nat)(ks:List (List Int)):Prop:=∃ t zs,SqT K H p [.int n,.ref t]/\SqT K H t zs/\C0 K H zs ks
theorem ae3.same {K:W.Frag}{p:Addr}(h:ae3 K H p n ks)(s:u9 H H'):ae3 K H' p n ks:=by
 obtain⟨t,zs,h1,h2,h3⟩:=h
 exact⟨t,zs,s.seqT h1,s.seqT h2,s.tups h3⟩
theorem ae3.dt {K:W.Frag}{p:Addr}(h:ae3 K H p n ks):Dt K H (dW n ks) (.ref p):=by
 obtain⟨t,zs,h1,h2,h3⟩:=h
 exact Dt.mkT h1 (.mkC .mkInt (.mkC (Dt.mkT h2 h3.dtAll) .mkN))
theorem bH9 {a b:List Int}(ha:Up n a)(hb:Up n b)(hne:a≠b)(h:Tim.N5 b a=false):Tim.N5 a b=true:=by
 obtain⟨i,j,_,_,rfl⟩:=ha
 obtain⟨u,v,_,_,rfl⟩:=hb
 unfold Tim.N5 Tim.N5 at h ⊢
 by_cases e1:(u:Int)=i
 ·rw[if_pos e1]at h
  rw[if_pos e1.symm]
  by_cases e2:(v:Int)=j
  ·exact absurd (by rw[e1,e2]) hne
  ·rw[if_neg e2]at h
   rw[if_neg (Ne.symm e2)]
   have:=of_decide_eq_false h
   exact decide_eq_true (by omega)
 ·rw[if_neg e1]at h
  rw[if_neg (Ne.symm e1)]
  have:=of_decide_eq_false h
  exact decide_eq_true (by omega)
theorem bY1 (ups:∀ k∈ks,Up n k)(nd:ks.Nodup)(so:ks.Pairwise (fun a b=>Tim.N5 b a=false)):Asc ks:=by
 have h2:=M8.mp nd
 have h3:=so.and h2
 exact List.Pairwise.imp_of_mem (fun {a b} ha hb h=>bH9 (ups a ha) (ups b hb) h.2 h.1) h3
theorem aM0:∀ {ks:List (List Int)},(∀ k∈ks,Up n k)->ks.map up=ks
 | [],_=>rfl
 | k::ks,h=>by
  rw[p7,aM0 fun x hx=>h x (d3 _ hx)]
  rw[ca9 (h k g9)]
structure Tld (n:Nat) (ks:List (List Int)):Prop where
 ups:∀ k∈ks,Up n k
 nd:ks.Nodup
 srt:ks.Pairwise (fun a b=>Tim.N5 b a=false)
seal L2.PE L2.PA L2.PS L2.PSs L2.PT
section
variable {K:W.Frag} {mg:Str->Option Value} {base:Heap}
def bM2 (K:W.Frag):Sp:=fun vs H Q _=>∃ (p:Addr) (n:Nat) (ks:List (List Int)),vs=[.ref p]/\ae3 K H p n ks/\n<=24/\(∀ k∈ks,an2 n k)/\∀ l H',u9 H H'->H l=none->H' l=some (.lst ((tal n ks).map V.int))->Q (.ref l) H'
def cg7 (K:W.Frag)(H:Hp)(p l:Addr)(n:Nat)(ks:List (List Int))(i:Nat)(σ:St)(H2:Hp):Prop:=∃ a b,σ=[some (.ref p),some (.ref l),a,b]/\u9 H H2/\H2 l=some (.lst ((tal n (ks.take i)).map V.int))
theorem ax9:x9 ["web","tally","one","other"] ["web"] (p5 aA5):=.mk'
theorem bT9 (F:Fun K "tally_of" "tally_of" aA5 f fd):x8 P w K mg base CX0 1 f fd ["web"] (bM2 K):=by
 refine F.ok ax9 (fun cdv A outer s H vs Q E hr h=>?_)
 obtain⟨p,n,ks,rfl,⟨t,zs,h1,h2,h3⟩,hn,hE,q⟩:=h
 have hsl:=L0
 refine⟨_,j6 (A7 (i:=1) ax9.nd rfl (Or.inl rfl) (v7 bb5 (P6 (b8 i9 c7)) (G1 G7 (pv 0) i9 (fun _ _=>rfl))))
  (j6 (aa2 PassesOwn.never rfl (aN4 (G1 G7 (pv 0) i9 (fun _ _ => rfl))) (bb4 rfl (O7 (A3 (i := 2) ax9.nd rfl (Or.inl rfl)) (O7 (A3 (i := 3) ax9.nd rfl (Or.inl rfl)) al0)))
   (j6 (bg3 (pv 1) (pv 2) aW9 i9 bw6 set_list) (o4 (bg3 (pv 1) (pv 3) aW9 i9 bw6 set_list))))
  (o4 (B2 (pv 1)))),?_⟩
 have a0:atI ([.int n,.ref t]:List V) 0=some (.int n):=B8 (j:=0) rfl
 have a1:atI ([.int n,.ref t]:List V) 1=some (.ref t):=B8 (j:=1) rfl
 refine⟨(by show 1<=j5;decide),fun l0 f0=>?_⟩
 have s0:=d9 (o:=.lst [.int 0]) f0
 refine⟨_,rfl,p,_,_,_,rfl,rfl,s0.seqT h1,a0,l0,n,[.int 0],rfl,rfl,c6,by omega,by omega,?_,fun l hl=>?_⟩
 ·show 1*(n:Int).toNat<=j5
  omega
 have en:(n:Int).toNat=n:=by omega
 rw[en,rep0]
 have s1:=s0.trans (d9 (o:=.lst ((tal n []).map V.int)) hl)
 have g1:(upd (upd H l0 (.lst [.int 0])) l (.lst ((tal n []).map V.int))) l=some (.lst ((tal n []).map V.int)):=c6
 have fl:H l=none:=s0.free hl
 generalize upd (upd H l0 (.lst [.int 0])) l (.lst ((tal n []).map V.int))=H1 at s1 g1 ⊢
 have hz:=h3.len
 refine⟨_,rfl,p,_,_,_,rfl,rfl,s1.seqT h1,a1,t,rfl,⟨_,s1.seqT h2⟩,?_⟩
 refine bJ3 (K:=K) (a:=t) (xs:=zs) (cg7 K H p l n ks) ⟨none,none,rfl,s1,by rw[be0];exact g1⟩ (fun i σ H2 _ ⟨_,_,_,s2,_⟩=>s2.seqT h2) ?_ ?_
 ·rintro i x σ H2 hx ⟨ea,eb,rfl,s2,g2⟩
  obtain⟨pa,pk,rfl,hk,hq⟩:=h3.get hx
  obtain⟨i1,j1,u1,u2,u3,epk⟩:=hE pk (f9 hk)
  have hq2:=s2.seqT hq
  rw[epk]at hq2
  refine⟨pa,_,rfl,hq2,rfl,_,_,rfl,_,_,rfl,rfl,?_⟩
  have t1:((tal n (ks.take i)).map V.int)[i1]?=some (.int (ab0 (ks.take i) i1)):=by rw[p0,ap6 u1];rfl
  have t2:(((tal n (ks.take i)).map V.int).set i1 (.int ((ab0 (ks.take i) i1:Int)+1)))[j1]?=some (.int (ab0 (ks.take i) j1)):=by
   rw[ac3 u3,p0,ap6 u2];rfl
  have lt:((tal n (ks.take i)).map V.int).length=n:=by rw[b7,Y7]
  refine⟨_,rfl,_,rfl,l,_,_,_,rfl,rfl,SqL.of g2,B8 t1,_,_,rfl,rfl,l,_,_,i1,rfl,rfl,g2,by rw[lt];exact ag0 u1,?_⟩
  refine⟨_,rfl,_,rfl,l,_,_,_,rfl,rfl,SqL.of c6,B8 t2,_,_,rfl,rfl,l,_,_,j1,rfl,rfl,c6,by rw[K3,lt];exact ag0 u2,?_⟩
  refine⟨_,_,rfl,?_,?_⟩
  ·rw[be4]
   exact s2.upd fl
  ·rw[c6,C8,hk,ax2,epk,<- bD5 u1 u2 u3 (ks.take i) _ _ rfl rfl,aL2,aL2]
 ·rintro σ H2 ⟨ea,eb,rfl,s2,g2⟩
  rw[k9 (by omega)]at g2
  exact⟨_,rfl,q l H2 s2 fl g2⟩
def aZ9 (K:W.Frag):Sp:=fun vs H Q _=>∃ (p:Addr) (n:Nat) (ks:List (List Int)),vs=[.ref p]/\ae3 K H p n ks/\1<=n/\n<=24/\Tld n ks/\∀ H',u9 H H'->Q (.bl true) H'
theorem bS1:x9 ["web"] ["web"] (p5 aq0):=.mk'
theorem bG3 {fV CX:Addr}{fdV:FuncData}(F:Fun K "is_told" "is_told" aq0 f fd)(FV:Fq K mg "made" aA8 fV fdV ["places","ties"])(GV:x8 P w K mg base CX0 3 fV fdV ["places","ties"] (aM4 K))(mX:mg "BadWeb"=some (.ref CX)):x8 P w K mg base CX0 4 f fd ["web"] (aZ9 K):=by
 refine F.ok bS1 (fun cdv A outer s H vs Q E hr h=>?_)
 obtain⟨p,n,ks,rfl,⟨t,zs,h1,h2,h3⟩,n1,hn,T,q⟩:=h
 have hun:=hr.units
 have hsl:=L0
 refine⟨_,o4 (bF0 (by rfl) mX rfl rfl (fun _ _=>o4 (B2 (ay3 (bF9 K hr.around rfl rfl) (D0 GV hr (by rfl) FV G2 (b8 (Y8 K rfl (pv 0) i9 (fun _ _=>rfl)) (b8 (Y8 K rfl (pv 0) i9 (fun _ _=>rfl)) c7))) (pv 0) (F5 _)))) (fun _=>R1)),?_⟩
 have a0:atI ([.int n,.ref t]:List V) 0=some (.int n):=B8 (j:=0) rfl
 have a1:atI ([.int n,.ref t]:List V) 1=some (.ref t):=B8 (j:=1) rfl
 have hkl:=bp4 hn T.nd T.ups
 refine⟨fun _ _ _ _=>False,?_,fun _ _ _ h=>h.elim⟩
 refine⟨_,rfl,.inr (.inl ⟨p,_,_,_,rfl,rfl,h1,a0,_,rfl,.inr (.inl ⟨p,_,_,_,rfl,rfl,h1,a1,?_⟩)⟩)⟩
 refine⟨n,t,zs,ks,rfl,n1,hn,.inr h2,h3,fun k hk=>(T.ups k hk).ends,by rw[aM0 T.ups];exact T.nd,by omega,fun r t' zs2 ks2 H' s' _ _ k1 k2 tt pm so=>?_⟩
 rw[aM0 T.ups]at pm
 obtain rfl:ks2=ks:=aY2 (bY1 T.ups T.nd T.srt) pm so
 have hw:ae3 K H' p n ks2:=⟨t,zs,s'.seqT h1,s'.seqT h2,s'.tups h3⟩
 have hw2:ae3 K H' r n ks2:=⟨t',zs2,SqT.of k1,SqT.of k2,tt⟩
 refine⟨_,rfl,_,_,hw2.dt,hw.dt,bN9 _ _,bN9 _ _,?_,?_⟩
 ·refine bp5 hun (A1 (aZ1 _ _) ?_)
  have:=cf8 n ks2
  omega
 ·rw[if_neg j7,cf6,decide_eq_true rfl,decide_eq_true rfl]
  exact q _ s'
end
end Web
namespace Web
open PySem L2
seal L2.PE L2.PA L2.PS L2.PSs L2.PT
section
variable {K:W.Frag} {mg:Str->Option Value} {base:Heap}
def ax5 (K:W.Frag):Sp:=fun vs H Q _=>∃ n:Nat,vs=[.int n]/\n<=24/\∀ l zs H',u9 H H'->H l=none->H' l=some (.lst zs)->C0 K H' zs (V1 n)->Q (.ref l) H'
theorem ay0:x9 ["places","pairs","one","other"] ["places"] (p5 aA7):=.mk'
theorem bu3 (F:Fun K "_law_pairs" "_law_pairs" aA7 f fd) (B:Bn mg):x8 P w K mg base CX0 1 f fd ["places"] (ax5 K):=by
 refine F.ok ay0 (fun cdv A outer s H vs Q E hr h=>?_)
 obtain⟨n,rfl,hn,q⟩:=h
 refine⟨_,j6 (A7 (i:=1) ay0.nd rfl (Or.inl rfl) (P6 c7))
  (j6 (aa2 PassesOwn.never rfl (T8 rfl B.range (b8 (pv 0) c7)) (A3 (i := 2) ay0.nd rfl (Or.inl rfl))
   (o4 (aa2 PassesOwn.never rfl (at8 rfl B.range (b8 (v7 N4 (pv 2) i9) (b8 (pv 0) c7))) (A3 (i := 3) ay0.nd rfl (Or.inl rfl))
    (o4 (R3 (bg6 PySem.F.plainAttrs_list PySem.F.slot_list_append PySem.F.type_list_append ad9 (pv 1) (b8 (N2 (b8 (pv 2) (b8 (pv 3) c7))) c7)))))))
  (o4 (B2 (pv 1)))),?_⟩
 refine⟨by show 0<=j5;omega,fun l hl=>?_⟩
 have hlen:=ae1 n hn
 have hsl:=L0
 refine⟨_,rfl,n,rfl,by omega,by omega,Z6 (lo:=0) (n:=n) (fun i σ H1=>∃ a b zs,σ=[some (.int n),some (.ref l),a,b]/\u9 H H1/\H1 l=some (.lst zs)/\C0 K H1 zs ((q0 i).flatMap fun j=>ad3 j (n - (j+1))))
  ⟨none,none,[],rfl,d9 hl,c6,.nil⟩ ?_ ?_⟩
 ·rintro i σ H1 hi ⟨a,b,zs,rfl,s1,h1,t1⟩
  refine⟨_,rfl,_,_,rfl,rfl,_,rfl,_,_,rfl,⟨by omega,by omega,by omega,by omega⟩,Z6 (lo:=0+(i:Int)+1) (fun d σ H2=>∃ b zs,σ=[some (.int n),some (.ref l),some (.int (0+i)),b]/\u9 H H2/\H2 l=some (.lst zs)/\C0 K H2 zs (((q0 i).flatMap fun j=>ad3 j (n - (j+1)))++ad3 i d))
   ⟨b,zs,rfl,s1,h1,by simpa [ad3] using t1⟩ ?_ ?_⟩
  ·rintro d σ H2 hd ⟨b,zs,rfl,s2,h2,t2⟩
   have hlz:=t2.len
   have hpart:=aV7 n (i+1) (by omega)
   rw[af7,o6]at hpart
   have hrow:∀ m,(ad3 i m).length=m:=fun m=>by simp[ad3]
   rw[o6,hrow]at hlz
   rw[hrow]at hpart
   refine⟨_,rfl,.inl ⟨rfl,_,SqL.of h2⟩,_,rfl,_,rfl,(by show 2<=j5;decide),fun p hp=>?_⟩
   have hlp:l≠p:=o8 h2 hp
   have h2':(upd H2 p (.tup [.int (0+(i:Int)),.int (0+(i:Int)+1+(d:Int))])) l=some (.lst zs):=by rw[r9 hlp];exact h2
   refine⟨l,zs,_,rfl,rfl,h2',by omega,?_⟩
   refine⟨_,_,rfl,(s2.trans (d9 hp)).upd hl,c6,?_⟩
   rw[aI6,<- B3]
   refine C0.updL h2' (C0.append (u9.tups (d9 hp) t2) (C0.one (SqT.of ?_)))
   rw[c6]
   simp
  ·rintro σ H2 ⟨b,zs,rfl,s2,h2,t2⟩
   refine⟨_,_,zs,rfl,s2,h2,?_⟩
   rw[af7]
   have e:((n:Int) - (0+(i:Int)+1)).toNat=n - (i+1):=by omega
   rw[e]at t2
   exact t2
 ·rintro σ H1 ⟨a,b,zs,rfl,s1,h1,t1⟩
  exact⟨_,rfl,q l zs H1 s1 hl h1 t1⟩
end
end Web
namespace Web
open PySem L2
theorem bR8 (z:Int)(h:0<=z/\z<6):∃ v:Int,atI ([.int 1,.int (-1),.int 2,.int (-2),.int 7,.int (-7)]:List V) z=some (.int v):=by
 have:z=0\/z=1\/z=2\/z=3\/z=4\/z=5:=by omega
 rcases this with h | h | h | h | h | h
 ·rw[h];exact⟨_,B8 (j:=0) rfl⟩
 ·rw[h];exact⟨_,B8 (j:=1) rfl⟩
 ·rw[h];exact⟨_,B8 (j:=2) rfl⟩
 ·rw[h];exact⟨_,B8 (j:=3) rfl⟩
 ·rw[h];exact⟨_,B8 (j:=4) rfl⟩
 ·rw[h];exact⟨_,B8 (j:=5) rfl⟩
section
variable {K:W.Frag} {mg:Str->Option Value} {base:Heap}
def bM5:Sp:=fun vs H Q _=>∃ (c k b:Int),vs=[.int c,.int k,.int b]/\0<b/\∀ r:Int,0<=r->r<b->Q (.int r) H
theorem bf3:x9 ["cell","k","bound","prime","one"] ["cell","k","bound"] (p5 bs1):=.mk'
theorem bU3 (F:Fun K "_law_mixed" "_law_mixed" bs1 f fd):x8 P w K mg base CX0 1 f fd ["cell","k","bound"] bM5:=by
 refine F.ok bf3 (fun cdv A outer s H vs Q E hr h=>?_)
 obtain⟨c,k,b,rfl,hb,q⟩:=h
 refine⟨_,j6 (A7 (i:=3) bf3.nd rfl (Or.inl rfl) i9)
  (j6 (A7 (i:=4) bf3.nd rfl (Or.inl rfl) (v7 N3 (v7 ao5 (v7 N4 (v7 N3 (pv 0) (pv 3)) (v7 ao5 (v7 N4 (pv 1) i9) i9)) i9) (pv 3)))
  (j6 (A7 (i:=4) bf3.nd rfl (Or.inl rfl) (v7 N3 (v7 ao5 (pv 4) (pv 4)) (pv 3)))
  (o4 (B2 (v7 N3 (v7 Y9 (v7 N3 (v7 ao5 (v7 N4 (pv 4) (pv 1)) i9) (pv 3)) i9) (pv 2)))))),?_⟩
 have pp:(0:Int)<2305843009213693951:=by decide
 refine⟨_,rfl,_,rfl,_,_,rfl,rfl,pp,_,rfl,_,_,rfl,rfl,_,_,rfl,rfl,.inr ⟨by decide,by decide⟩,_,_,rfl,rfl,_,_,rfl,rfl,.inr ⟨by decide,by decide⟩,_,rfl,_,_,rfl,rfl,pp,?_⟩
 generalize ho:((c % 2305843009213693951+(k+3)*1000000007)*1152921504606846883 % 2305843009213693951:Int)=o
 have h1:0<=o:=by rw[<- ho];exact M0 _ (by decide)
 have h2:o<2305843009213693951:=by rw[<- ho];exact G6 _ pp
 refine⟨_,rfl,_,rfl,_,_,rfl,rfl,.inl ⟨by omega,by omega⟩,_,rfl,_,_,rfl,rfl,pp,?_⟩
 refine⟨_,rfl,_,rfl,_,_,rfl,rfl,_,_,rfl,rfl,.inr ⟨by decide,by decide⟩,_,rfl,_,_,rfl,rfl,pp,_,_,rfl,rfl,⟨by decide,by decide⟩,_,rfl,_,_,rfl,rfl,hb,?_⟩
 exact q _ (M0 _ (by omega)) (G6 _ hb)
def bM1 (K:W.Frag):Sp:=fun vs H Q _=>∃ (a:Addr) (ns:List Int) (m:Nat),vs=[.ref a,.int m]/\SqL K H a (ns.map V.int)/\1<=m/\m<=24/\∀ (l:Addr) (ts:List Int) (H':Hp),1<=ts.length->ts.length<=m->u9 H H'->H l=none->H' l=some (.lst (ts.map V.int))->Q (.ref l) H'
theorem ag9:x9 ["script","most","base","places","way","cell","tally","rest","place","k","pair","far"] ["script","most"] (p5 br8):=.mk'
def cg6 (H:Hp)(a l:Addr)(m b n y c:Int)(k:Nat)(σ:St)(H2:Hp):Prop:=
 ∃ (ts:List Int) (e7 e8 e9 e10 e11:Option V),σ=[some (.ref a),some (.int m),some (.int b),some (.int n),some (.int y),some (.int c),some (.ref l),e7,e8,e9,e10,e11]/\u9 H H2/\H2 l=some (.lst (ts.map V.int))/\ts.length=k
set_option maxHeartbeats 1000000 in
theorem bT8 {fC fM fP:Addr} {fdM fdP:FuncData} (F:Fun K "_law_tally" "_law_tally" br8 f fd) (B:Bn mg) (FC:Fq K mg "_law_cell_at" aT2 fC fdC ["script","k"])
  (FM:Fq K mg "_law_mixed" bs1 fM fdM ["cell","k","bound"]) (FP:Fq K mg "_law_pairs" aA7 fP fdP ["places"]) :
  x8 P w K mg base CX0 2 f fd ["script","most"] (bM1 K):=by
 have GC:x8 P w K mg base CX0 1 fC fdC ["script","k"] (bq8 K):=bH1 FC.F B
 have GM:x8 P w K mg base CX0 1 fM fdM ["cell","k","bound"] bM5:=bU3 FM.F
 have GP:x8 P w K mg base CX0 1 fP fdP ["places"] (ax5 K):=bu3 FP.F B
 refine F.ok ag9 (fun cdv A outer s H vs Q E hr h=>?_)
 obtain⟨a,ns,m,rfl,hS,hm1,hm2,q⟩:=h
 have hsl:=L0
 refine⟨_,j6 (A7 (i:=2) ag9.nd rfl (Or.inl rfl) (v7 N3 (D0 GC hr (by rfl) FC G2 (b8 (pv 0) (b8 i9 c7))) (v7 aN7 i9 i9)))
  (j6 (A7 (i:=3) ag9.nd rfl (Or.inl rfl) (v7 N4 i9 (v7 N3 (pv 2) (pv 1))))
  (j6 (A7 (i:=4) ag9.nd rfl (Or.inl rfl) (v7 N3 (v7 Y9 (pv 2) (pv 1)) i9))
  (j6 (A7 (i:=5) ag9.nd rfl (Or.inl rfl) (D0 GC hr (by rfl) FC G2 (b8 (pv 0) (b8 i9 c7))))
  (j6 (A7 (i:=6) ag9.nd rfl (Or.inl rfl) (v7 bb5 (P6 (b8 i9 c7)) (pv 3)))
  (bE9 (O0 (D3 aj6 (pv 4) i9 (F5 _))
    (j6 (A7 (i:=7) ag9.nd rfl (Or.inl rfl) (pv 5))
    (o4 (aa2 PassesOwn.never rfl (T8 rfl B.range (b8 (pv 3) c7)) (A3 (i := 8) ag9.nd rfl (Or.inl rfl))
     (j6 (aB6 (v7 N3 (pv 7) (v7 N4 (pv 3) (pv 4))) (aB7 (pv 6) (pv 8) set_list))
     (o4 (A7 (i:=7) ag9.nd rfl (Or.inl rfl) (v7 Y9 (pv 7) (v7 N4 (pv 3) (pv 4)))))))))
    (o4 (aa2 PassesOwn.never rfl (aN5 (by rfl) B.enum (b8 (D0 GP hr (by rfl) FP G2 (b8 (pv 3) c7)) c7))
     (bb4 rfl (O7 (A3 (i:=9) ag9.nd rfl (Or.inl rfl)) (O7 (A3 (i:=10) ag9.nd rfl (Or.inl rfl)) al0)))
     (o4 (O0 (D3 aj6 (D0 GM hr (by rfl) FM G2 (b8 (pv 5) (b8 (pv 9) (b8 i9 c7)))) (v7 N3 (v7 Y9 (v7 Y9 (pv 2) (pv 1)) i9) i9) (F5 _))
      (j6 (aB6 (v7 N4 (G1 X4 (pv 6) (G1 G7 (pv 10) i9 (fun _ _=>rfl)) (fun _ _=>rfl)) i9) (aB7 (pv 6) (G1 G7 (pv 10) i9 (fun _ _=>rfl)) set_list))
      (o4 (aB6 (v7 N4 (G1 X4 (pv 6) (G1 G7 (pv 10) i9 (fun _ _=>rfl)) (fun _ _=>rfl)) i9) (aB7 (pv 6) (G1 G7 (pv 10) i9 (fun _ _=>rfl)) set_list)))) F9)))))
  (j6 (O0 (D3 av8 (pv 4) i9 (F5 _))
    (j6 (A7 (i:=11) ag9.nd rfl (Or.inl rfl) (v7 N3 (D0 GC hr (by rfl) FC G2 (b8 (pv 0) (b8 i9 c7))) (v7 aN7 i9 i9)))
    (o4 (aB6 (v7 N4 (G1 X4 (pv 6) (v7 N3 (pv 11) (pv 3)) (fun _ _ => rfl)) (G1 X4 (P6 (b8 i9 (b8 (aB8 ao1 i9) (b8 i9 (b8 (aB8 ao1 i9) (b8 i9 (b8 (aB8 ao1 i9) c7))))))) (v7 N3 (v7 Y9 (pv 11) i9) i9) (fun _ _ => rfl)))
     (aB7 (pv 6) (v7 N3 (pv 11) (pv 3)) set_list)))) F9)
  (o4 (B2 (pv 6))))))))),?_⟩
 refine⟨_,rfl,a,ns,0,rfl,hS,fun c0=>?_⟩
 refine⟨_,_,rfl,rfl,⟨by decide,by decide,by decide⟩,_,_,rfl,rfl,p40,?_⟩
 refine Z5 fun b _=>?_
 have hm0:(0:Int)<(m:Int):=by omega
 have hb1:0<=b % (m:Int):=M0 _ (by omega)
 have hb2:b % (m:Int)<m:=G6 _ hm0
 obtain⟨n,hn⟩:∃ n:Nat,1+b % (m:Int)=(n:Int):=⟨(1+b % (m:Int)).toNat,by omega⟩
 refine⟨_,rfl,_,rfl,_,_,rfl,rfl,hm0,_,_,rfl,rfl,?_⟩
 refine bx5 (congrArg V.int hn) ?_
 refine⟨_,rfl,_,rfl,_,_,rfl,rfl,⟨hm0,by omega⟩,_,_,rfl,rfl,(by show (0:Int)<4;decide),?_⟩
 refine Z5 fun y hy=>?_
 have hy1:0<=y:=by rw[hy];exact M0 _ (by decide)
 have hy2:y<4:=by rw[hy];exact G6 _ (by decide)
 clear hy
 refine⟨_,rfl,a,ns,1,rfl,hS,fun c=>?_⟩
 have hk:=cf3 (k:=(n:Int)) (by omega) (by omega)
 refine⟨(by show 1<=j5;decide),fun l0 f0=>⟨_,rfl,l0,_,_,rfl,rfl,c6,hk.1,hk.2,by show 1*_<=j5;omega,fun l hl=>?_⟩⟩
 have s0:=d9 (o:=.lst [.int 0]) f0
 have hlH:H l=none:=s0.free hl
 rw[u6,bN6]
 have sA:=s0.trans (d9 (o:=.lst ((v9 n (0:Int)).map V.int)) hl)
 have gA:(upd (upd H l0 (.lst [.int 0])) l (.lst ((v9 n (0:Int)).map V.int))) l=some (.lst ((v9 n (0:Int)).map V.int)):=c6
 generalize upd (upd H l0 (.lst [.int 0])) l (.lst ((v9 n (0:Int)).map V.int))=HA at sA gA
 refine⟨cg6 H a l m b n y c n,?_,?_⟩
 ·refine⟨_,rfl,_,_,rfl,rfl,_,rfl,?_⟩
  refine aW4 (fun h=>?_) (fun h=>?_)
  ·-- by digits
   refine⟨_,rfl,?_⟩
   refine⟨_,rfl,n,rfl,by omega,by omega,Z6 (lo:=0) (n:=n) (fun i σ H1=>∃ (ts:List Int) (rest:Int) (e8:Option V),σ=[some (.ref a),some (.int m),some (.int b),some (.int n),some (.int y),some (.int c),some (.ref l),some (.int rest),e8,none,none,none]/\u9 H H1/\H1 l=some (.lst (ts.map V.int))/\ts.length=n)
    ⟨v9 n 0,c,none,rfl,sA,gA,ar9⟩ ?_ ?_⟩
   ·rintro i σ H1 hi ⟨ts,rest,e8,rfl,s1,g1,hl1⟩
    have e0:((0:Int)+(i:Int))=(i:Int):=by omega
    rw[e0]
    have hp:(0:Int)<(n:Int)+y:=by omega
    refine B9 ?_
    refine⟨_,rfl,_,rfl,_,rfl,_,_,rfl,rfl,_,_,rfl,rfl,hp,_,rfl,_,rfl,l,_,_,i,rfl,rfl,g1,ag0 (by rw[b7];omega),?_⟩
    rw[ab6]
    refine⟨_,rfl,_,rfl,_,rfl,_,_,rfl,rfl,_,_,rfl,rfl,⟨hp,by omega⟩,?_⟩
    exact⟨_,_,_,rfl,s1.upd hlH,c6,by rw[K3];exact hl1⟩
   ·rintro σ H1 ⟨ts,rest,e8,rfl,s1,g1,hl1⟩
    exact⟨ts,_,_,_,_,_,rfl,s1,g1,hl1⟩
  ·-- by ties
   refine⟨_,rfl,n,rfl,by omega,fun l1 zs1 H1 s1 f1 h1 t1=>⟨l1,rfl,⟨_,SqL.of h1⟩,?_⟩⟩
   have n0:l≠l1:=o8 gA f1
   have hz1:=t1.len
   have hpl:=ae1 n (by omega)
   refine bx7 (K:=K) (a:=l1) (xs:=zs1) (fun i σ H2=>∃ (ts:List Int) (e9 e10:Option V),σ=[some (.ref a),some (.int m),some (.int b),some (.int n),some (.int y),some (.int c),some (.ref l),none,none,e9,e10,none]/\u9 H H2/\H2 l=some (.lst (ts.map V.int))/\ts.length=n/\H2 l1=some (.lst zs1)/\C0 K H2 zs1 (V1 n))
    ⟨v9 n 0,none,none,rfl,sA.trans s1,s1 _ _ gA,ar9,h1,t1⟩ (fun i σ H2 _ ⟨_,_,_,_,_,_,_,h,_⟩=>SqL.of h) ?_ ?_
   ·rintro i x t σ H2 hx ⟨ts,e9,e10,rfl,s2,g2,hl2,h2,t2⟩ ht
    obtain⟨pa,pk,rfl,hk',hq⟩:=t2.get hx
    obtain⟨u,v,huv,hvn,rfl⟩:=bm2 (f9 hk')
    have s3:=d9 (o:=.tup [.int i,.ref pa]) ht
    have g3:=s3 _ _ g2
    have h3:=s3 _ _ h2
    have t3:=s3.tups t2
    have q3:=s3.seqT hq
    have s03:=s2.trans s3
    refine⟨t,_,rfl,SqT.of c6,rfl,_,_,rfl,_,_,rfl,rfl,?_⟩
    generalize upd H2 t (.tup [.int i,.ref pa])=H3 at g3 h3 t3 q3 s03
    clear s3 ht s2 g2 h2 t2 hq hx
    refine⟨_,rfl,_,rfl,c,(i:Int),5,rfl,by decide,fun r _ _=>⟨_,rfl,_,rfl,_,_,rfl,rfl,⟨hm0,by omega⟩,_,_,rfl,rfl,⟨by decide,by decide⟩,_,_,rfl,rfl,(by show (0:Int)<6;decide),_,_,rfl,rfl,_,rfl,?_⟩⟩
    have at0:atI (([(u:Int),(v:Int)]:List Int).map V.int) 0=some (.int u):=B8 (j:=0) rfl
    have at1:atI (([(u:Int),(v:Int)]:List Int).map V.int) 1=some (.int v):=B8 (j:=1) rfl
    refine aW4 (fun h=>?_) (fun h=>?_)
    ·have hu:u<ts.length:=by omega
     have hv:v<ts.length:=by omega
     refine⟨_,rfl,_,rfl,pa,_,_,_,rfl,rfl,q3,at0,l,_,_,_,rfl,rfl,SqL.of g3,ap0 hu,_,_,rfl,rfl,_,rfl,_,rfl,pa,_,_,_,rfl,rfl,q3,at0,l,_,_,u,rfl,rfl,g3,ag0 (by rw[b7];omega),?_⟩
     rw[ab6]
     have q4:=q3.updL (zs:=((ts.set u (ts.getD u 0+1)).map V.int)) g3
     have hv2:v<(ts.set u (ts.getD u 0+1)).length:=by rw[K3];omega
     refine⟨_,rfl,_,rfl,pa,_,_,_,rfl,rfl,q4,at1,l,_,_,_,rfl,rfl,SqL.of c6,ap0 hv2,_,_,rfl,rfl,_,rfl,_,rfl,pa,_,_,_,rfl,rfl,q4,at1,l,_,_,v,rfl,rfl,c6,ag0 (by rw[b7];omega),?_⟩
     rw[ab6,be4]
     exact⟨_,_,_,rfl,s03.upd hlH,c6,by rw[K3,K3];exact hl2,by rw[r9 n0.symm];exact h3,C0.updL g3 t3⟩
    ·exact⟨_,_,_,rfl,s03,g3,hl2,h3,t3⟩
   ·rintro σ H2 ⟨ts,e9,e10,rfl,s2,g2,hl2,h2,t2⟩
    exact⟨ts,_,_,_,_,_,rfl,s2,g2,hl2⟩
 ·rintro σ' H' ⟨ts,e7,e8,e9,e10,e11,rfl,s1,g1,hl1⟩
  refine⟨_,rfl,rfl,_,rfl,?_⟩
  refine aW4 (fun h=>?_) (fun h=>?_)
  ·refine⟨_,rfl,a,ns,2,rfl,s1.seq hS,fun c2=>?_⟩
   refine⟨_,_,rfl,rfl,⟨by decide,by decide,by decide⟩,_,_,rfl,rfl,p40,?_⟩
   refine Z5 fun fr _=>?_
   have hn0:(0:Int)<(n:Int):=by omega
   obtain⟨j,hj,hjn⟩:∃ j:Nat,fr % (n:Int)=(j:Int)/\j<n:=by
    have h1:=M0 fr (show (n:Int)≠0 by omega)
    have h2:=G6 fr hn0
    exact⟨(fr % (n:Int)).toNat,by omega,by omega⟩
   obtain⟨v,hv⟩:=bR8 (fr / 24 % 6) ⟨M0 _ (by decide),G6 _ (by decide)⟩
   refine⟨_,rfl,_,rfl,_,rfl,_,_,rfl,rfl,hn0,l,_,_,_,rfl,rfl,SqL.of g1,by rw[hj];exact ap0 (by omega),?_⟩
   refine⟨_,rfl,_,rfl,_,rfl,(by show 6<=j5;decide),fun l6 f6=>?_⟩
   have s6:=d9 (o:=.lst [.int 1,.int (-1),.int 2,.int (-2),.int 7,.int (-7)]) f6
   refine⟨_,rfl,_,_,rfl,rfl,⟨by decide,by decide⟩,_,_,rfl,rfl,(by show (0:Int)<6;decide),l6,_,_,_,rfl,rfl,SqL.of c6,hv,_,_,rfl,rfl,?_⟩
   refine⟨_,rfl,_,rfl,_,rfl,_,_,rfl,rfl,hn0,l,_,_,j,rfl,rfl,s6 _ _ g1,by rw[hj];exact ag0 (by rw[b7];omega),?_⟩
   rw[ab6]
   exact⟨_,rfl,q l _ _ (by rw[K3];omega) (by rw[K3];omega) ((s1.trans s6).upd hlH) hlH c6⟩
  ·exact⟨_,rfl,q l ts H' (by omega) (by omega) s1 hlH g1⟩
end
theorem bq2 {ms:List Int}(h:ms.length=ns.length):(ad2 ns ms).sum=ns.sum - ms.sum:=by
 rw[<- aF4,Z9,Grf.t7 (fun j hj=>ad1 (xs:=ms) hj),Grf.F6,aF4]
 have:=aF4 ms
 rw[h]at this
 rw[this]
seal L2.PE L2.PA L2.PS L2.PSs L2.PT
section
variable {K:W.Frag} {mg:Str->Option Value} {base:Heap}
end
end Web
namespace Web
open PySem L2
theorem bF2 {a:Expr}(ha:PE X a ta):PE X (.UnaryOp .Not a pos) (fun σ H Q=>ta σ H fun x H1=>∃ k,bY4 X.K x H1 k/\Q (.bl (!k)) H1):=by
 intro pins s σ H Q I h
 refine PyProof.Rows.UnaryOp_ (thn (ha pins s σ H _ I h) fun v s1 ⟨x,H1,I1,r1,k,e,q1⟩=>?_)
 refine PyProof.Rows.not_of (thn (bp6 pins s1 σ H1 x v (fun b H2=>Q (.bl (!b)) H2) I1 r1 ⟨k,e,q1⟩) fun b s2 h2=>?_)
 obtain⟨H2,I2,q2⟩:=h2
 exact⟨.bl (!b),H2,I2,rfl,q2⟩
structure Lks (ns ts:List Int) (z:Int):Prop where
 len:ts.length=ns.length
 le:∀ j,j<ns.length->ts.getD j 0<=ns.getD j 0
 sum:ns.sum - ts.sum=z
seal L2.PE L2.PA L2.PS L2.PSs L2.PT
section
variable {K:W.Frag} {mg:Str->Option Value} {base:Heap}
def bM6 (K:W.Frag):Sp:=fun vs H Q _=>∃ (a p:Addr) (ns:List Int) (n:Nat) (ks:List (List Int)) (z:Int),vs=[.ref a,.ref p,.int z]/\Sq K H a ns/\ns.length<=24/\ae3 K H p n ks/\1<=n/\n<=24/\Tld n ks/\∀ (b:Bool) (H':Hp),u9 H H'->(Lks ns (tal n ks) z->b=true)->Q (.bl b) H'
theorem bN2:x9 ["tally","web","much","lacking"] ["tally","web","much"] (p5 aA9):=.mk'
set_option maxHeartbeats 2000000 in
theorem bU4 {fD fL fβ:Addr}{fdD fdL:FuncData}(F:Fun K "lacks" "lacks" aA9 f fd)(B:Bn mg)
  (FD:Fq K mg "is_told" aq0 fD fdD ["web"])(GD:x8 P w K mg base CX0 5 fD fdD ["web"] (aZ9 K))
  (FL:Fq K mg "tally_of" aA5 fL fdL ["web"])(GL:x8 P w K mg base CX0 5 fL fdL ["web"] (bM2 K))
  (Fβ:Fq K mg "places_below" af3 fβ fdβ ["numbers"])(Gβ:x8 P w K mg base CX0 5 fβ fdβ ["numbers"] (ax6 K)):x8 P w K mg base CX0 6 f fd ["tally","web","much"] (bM6 K):=by
 refine F.ok bN2 (fun cdv A outer s H vs Q E hr h=>?_)
 obtain⟨a,p,ns,n,ks,z,rfl,hS,hn24,hw,n1,n2,T,q⟩:=h
 have hsl:=L0
 have nd2:(["number","many"]:List Str).Nodup:=by decide +kernel
 refine⟨_,j6 (O0 (PW.pt (aI7 (af5 (aB3 (D0 GD hr (by rfl) FD G2 (b8 (pv 1) c7)))) (at6 (D3 bt8 (G1 G7 (pv 1) i9 (fun _ _=>rfl)) (p8 A0 (by rfl) B.len PySem.boot_len (b8 (pv 0) c7)) (F5 _))))) (o4 (B2 ah2)) F9)
  (j6 (ay1 (i:=3) bN2.nd rfl rfl (by rfl) (N':=["number","many"]) (lk:=[none,none]) rfl (bg4 (by rfl) B.zip (b8 (pv 0) (b8 (D0 GL hr (by rfl) FL G2 (b8 (pv 1) c7)) c7))) (by rfl) rfl (by decide +kernel) (by exact trivial) (by rfl) (by exact LkL.ok trivial)
    (fun _ _ _=>ay2 (n:=2) K rfl rfl (O7 (A3 (i:=0) nd2 rfl (Or.inl rfl)) (O7 (A3 (i:=1) nd2 rfl (Or.inl rfl)) al0))) (fun _ _ _=>P9) (fun _ _ _=>v7 V2 (pv 0) (pv 1)))
  (o4 (B2 (bT5 (bF2 (D0 Gβ hr (by rfl) Fβ G2 (b8 (pv 3) c7))) (bT2 (ay3 av8 (p8 (ae2 rfl) (by rfl) B.sum (by rfl) (b8 (pv 3) c7)) (pv 2) (F5 _))))))),?_⟩
 refine⟨_,rfl,p,n,ks,rfl,hw,n1,n2,T,fun H1 s1=>⟨_,rfl,O3 ?_⟩⟩
 obtain⟨t,zs,w1,w2,w3⟩:=hw.same s1
 have a0:atI ([.int n,.ref t]:List V) 0=some (.int n):=B8 (j:=0) rfl
 refine⟨_,rfl,p,_,_,_,rfl,rfl,w1,a0,_,rfl,a,_,rfl,hS.same s1,rfl,_,rfl,?_⟩
 rw[b7]
 by_cases hnl:(V.int (n:Int))=V.int (ns.length:Int)
 ·refine bw4 hnl ?_
  have hnl':n=ns.length:=by injection hnl with e;omega
  refine⟨_,rfl,_,rfl,p,n,ks,rfl,⟨t,zs,w1,w2,w3⟩,n2,fun k hk=>(T.ups k hk).ends,fun l2 H2 s2 fl2 gl2=>?_⟩
  have s12:=s1.trans s2
  have hS2:=hS.same s12
  have htl:(tal n ks).length=ns.length:=by rw[Y7,hnl']
  obtain⟨b1,hA⟩:∃ b,SqB b K H2 a (ns.map V.int):=hS2.elim (fun h=>⟨true,h⟩) fun h=>⟨false,h⟩
  refine⟨b1,true,a,l2,rfl,⟨_,hA⟩,⟨_,SqL.of gl2⟩,fun D hD=>?_⟩
  refine aK0 (b1:=b1) (b2:=true) (K:=K) (a:=a) (b:=l2) (D:=D) (ys:=ns.map V.int) (zs:=(tal n ks).map V.int) (by rw[b7,b7,htl]) (fun i ds σ' H'=>(∃ v u,σ'=[v,u])/\u9 H2 H'/\H' D=some (.lst ds)/\ds=((q0 i).map fun j=>ns.getD j 0 - (tal n ks).getD j 0).map V.int)
   ⟨⟨none,none,rfl⟩,d9 hD,c6,rfl⟩ (by rw[b7];omega) (fun i ds σ' H' hi ⟨_,s8,h8,e8⟩=>⟨SqB.same hA s8,SqL.of (s8 _ _ gl2),h8,by rw[e8,b7,b7,y9];exact d5 _⟩) ?_ ?_
  ·rintro i ds x y t σ' H' N kN hx hy ⟨⟨v,u,rfl⟩,s8,h8,rfl⟩ ht'
   obtain⟨z1,hz1,rfl⟩:=Q0 hx
   obtain⟨z2,hz2,rfl⟩:=Q0 hy
   have s9:=d9 (o:=.tup [.int z1,.int z2]) ht'
   refine⟨t,_,rfl,SqT.of c6,rfl,_,_,rfl,_,_,rfl,rfl,L6 ?_⟩
   refine⟨_,rfl,_,rfl,_,_,rfl,rfl,s9 _ _ h8,kN _ _ _ ⟨⟨_,_,rfl⟩,(s8.trans s9).upd hD,c6,?_⟩⟩
   rw[E7,j9,j9]
   show _=_++[V.int (ns.getD i 0 - (tal n ks).getD i 0)]
   rw[i6,i6,hz1,hz2]
   rfl
  rintro ds σ' H3 ⟨⟨v,u,rfl⟩,s3,gD,rfl⟩
  rw[b7]at gD
  have gD':H3 D=some (.lst ((ad2 ns (tal n ks)).map V.int)):=gD
  have hsl2:=Z9 ns (tal n ks)
  have hsm:=bq2 htl
  have hget:∀ j,j<ns.length->(ad2 ns (tal n ks)).getD j 0=ns.getD j 0 - (tal n ks).getD j 0:=fun j hj=>ad1 hj
  generalize ad2 ns (tal n ks)=us at gD' hsl2 hsm hget
  refine⟨_,rfl,D,us,rfl,.inl (SqL.of gD'),by omega,fun bl H4 s4 hbl g4=>?_⟩
  have sA:=(s12.trans s3).trans s4
  refine⟨_,.inl ⟨_,SqL.of g4,rfl⟩,_,rfl,?_⟩
  unfold bJ9 at g4 ⊢
  cases hb:ao9 us us.length with
  | cons p ps =>
   refine O3 (q false H4 sA fun h=>?_)
   obtain⟨x,h1,h2⟩:=(aE9 hb).1
   have hp:p<us.length:=(c9.mp h1).1
   have e1:=hget p (by omega)
   rw[i6,h1]at e1
   have e1:x=ns.getD p 0 - (tal n ks).getD p 0:=e1
   have:=h.le p (by omega)
   omega
  | nil =>
   refine P7 ⟨_,rfl,D,us,rfl,SqL.of (s4 _ _ gD'),_,rfl,rfl,?_⟩
   refine q _ H4 sA fun h=>?_
   have:=h.sum
   rw[bO5,decide_eq_true (show us.sum=z by omega)]
 ·rw[decide_eq_false hnl]
  refine P7 (q false H1 s1 fun h=>?_)
  have:=h.len
  rw[Y7]at this
  exact absurd (congrArg (fun m:Nat=>V.int (m:Int)) this) hnl
structure cj6 (ns ts:List Int) (z r:Int):Prop where
 r0:0<=r
 r1:r<=ns.length
 lks:Lks ns ts z
 want:z=am4 ns.sum (-P8 ns r.toNat)
def bq5 (K:W.Frag)(CB CW:Addr):Sp:=fun vs H Q E=>∃ (a t p:Addr) (ns:List Int) (n:Nat) (ks:List (List Int)) (z r:Int),vs=[.ref a,.ref t]/\Sq K H a ns/\SqT K H t [.int z,.ref p,.int r]/\ae3 K H p n ks/\1<=n/\n<=24/\Tld n ks /\
 (N7 ns->AllP ns->∀ (b:Bool) (H':Hp),u9 H H'->(cj6 ns (tal n ks) z r->b=true)->Q (.bl b) H')/\(¬ N7 ns->E (.ref CB) none H)/\(N7 ns->¬ AllP ns->∀ H':Hp,u9 H H'->E (.ref CW) none H')
theorem bS4:x9 ["tally","told"] ["tally","told"] (p5 aS8):=.mk'
set_option maxHeartbeats 2000000 in
theorem bG6 {fC fK fO fM CW CN:Addr}{fdK fdM:FuncData}(F:Fun K "off_shows" "off_shows" aS8 f fd)(B:Bn mg)
  (FC:Fq K mg "check_none_below" ba8 fC fdC ["tally"])(GC:x8 P w K mg base (CXE P w) 6 fC fdC ["tally"] (be9 K CB CW))
  (FK:Fq K mg "lacks" aA9 fK fdK ["tally","web","much"])(GK:x8 P w K mg base CX0 6 fK fdK ["tally","web","much"] (bM6 K))
  (FO:Fq K mg "off_by_want" aI3 fO fdO ["tally","want"])(GO:x8 P w K mg base CX0 6 fO fdO ["tally","want"] (ba0 K))
  (FM:Fq K mg "room" aI2 fM fdM ["tally","r"])(GM:x8 P w K mg base (CXE P w) 6 fM fdM ["tally","r"] (aM3 K CB CN)):x8 P w K mg base (CXE P w) 7 f fd ["tally","told"] (bq5 K CB CW):=by
 refine F.okX bS4 (fun cdv A outer s H vs Q E hr h=>?_)
 obtain⟨a,t,p,ns,n,ks,z,r,rfl,hS,hT,hw,n1,n2,T,q,qb,qw⟩:=h
 refine⟨_,j6 (R3 (D0 GC hr (by rfl) FC ah3 (b8 (pv 0) c7)))
  (j6 (O0 (PW.pt (aI7 (af5 (aj4 ah4 ah4 i9 (G1 G7 (pv 1) i9 (fun _ _=>rfl)) (p8 A0 (by rfl) B.len PySem.boot_len (b8 (pv 0) c7)))) (at6 (af5 (aB3 (D0 GK hr (by rfl) FK G2 (b8 (pv 0) (b8 (G1 G7 (pv 1) i9 (fun _ _=>rfl)) (b8 (G1 G7 (pv 1) i9 (fun _ _=>rfl)) c7))))))))) (o4 (B2 ah2)) F9)
  (o4 (B2 (ay3 av8 (G1 G7 (pv 1) i9 (fun _ _=>rfl)) (D0 GO hr (by rfl) FO G2 (b8 (pv 0) (b8 (aB8 ao1 (D0 GM hr (by rfl) FM ah3 (b8 (pv 0) (b8 (G1 G7 (pv 1) i9 (fun _ _=>rfl)) c7)))) c7))) (F5 _))))),?_⟩
 have a0:atI ([.int z,.ref p,.int r]:List V) 0=some (.int z):=B8 (j:=0) rfl
 have a1:atI ([.int z,.ref p,.int r]:List V) 1=some (.ref p):=B8 (j:=1) rfl
 have a2:atI ([.int z,.ref p,.int r]:List V) 2=some (.int r):=B8 (j:=2) rfl
 refine⟨_,rfl,a,ns,rfl,hS,fun ht h0 H1 s1=>?_,qb,qw⟩
 have t2:=ht.2
 have q:=q ht h0
 have hT1:=s1.seqT hT
 refine⟨_,rfl,t,_,_,_,rfl,rfl,hT1,a2,_,_,rfl,rfl,_,rfl,?_⟩
 by_cases c1:(0:Int)<=r
 ·rw[decide_eq_true c1]
  refine P7 ⟨_,rfl,a,_,rfl,hS.same s1,_,_,rfl,rfl,_,rfl,?_⟩
  rw[b7]
  by_cases c2:r<=(ns.length:Int)
  ·rw[decide_eq_true c2]
   refine O3 ?_
   refine⟨_,rfl,_,rfl,t,_,_,_,rfl,rfl,hT1,a1,_,rfl,t,_,_,_,rfl,rfl,hT1,a0,a,p,ns,n,ks,z,rfl,hS.same s1,t2,hw.same s1,n1,n2,T,fun b H2 s2 hb=>⟨_,rfl,?_⟩⟩
   have s12:=s1.trans s2
   cases b with
   | false =>
    refine P7 (q false H2 s12 fun h=>?_)
    exact hb h.lks
   | true =>
    refine O3 ?_
    have hT2:=s12.seqT hT
    refine⟨_,rfl,t,_,_,_,rfl,rfl,hT2,a0,_,rfl,_,rfl,_,rfl,t,_,_,_,rfl,rfl,hT2,a2,a,ns,r,rfl,hS.same s12,fun _ _ H3 s3=>?_,fun _ h=>absurd ⟨c1,c2⟩ h,fun h=>absurd ht h⟩
    refine⟨_,rfl,a,ns,_,rfl,hS.same (s12.trans s3),rfl,?_⟩
    refine q _ H3 (s12.trans s3) fun h=>?_
    rw[bO5]
    exact decide_eq_true h.want
  ·rw[decide_eq_false c2]
   exact P7 (q false H1 s1 fun h=>absurd h.r1 c2)
 ·rw[decide_eq_false c1]
  exact O3 ⟨_,rfl,P7 (q false H1 s1 fun h=>absurd h.r0 c1)⟩
end
end Web
namespace Web
open PySem L2
def ah6 (ks:List (List Int))(ls:List (List Int)):List (List Int):=ls.filter fun k=>!decide (k∈ks)
theorem bm5 (ks a b:List (List Int)):ah6 ks (a++b)=ah6 ks a++ah6 ks b:=N8 ..
theorem bv6 (ks a:List (List Int)):(ah6 ks a).length<=a.length:=K4 ..
seal L2.PE L2.PA L2.PS L2.PSs L2.PT
section
variable {K:W.Frag} {mg:Str->Option Value} {base:Heap}
theorem aN0:x9 ["places","pairs","one"] ["places"] (p5 br9):=.mk'
theorem bH2 (F:Fun K "all_pairs" "all_pairs" br9 f fd) (B:Bn mg):x8 P w K mg base CX0 1 f fd ["places"] (ax5 K):=by
 refine F.ok aN0 (fun cdv A outer s H vs Q E hr h=>?_)
 obtain⟨n,rfl,hn,q⟩:=h
 have nd2:(["other","one"]:List Str).Nodup:=by decide +kernel
 refine⟨_,j6 (A7 (i:=1) aN0.nd rfl (Or.inl rfl) (P6 c7))
  (j6 (aa2 PassesOwn.never rfl (T8 rfl B.range (b8 (pv 0) c7)) (A3 (i := 2) aN0.nd rfl (Or.inr rfl))
   (o4 (bs7 (i:=1) aN0.nd rfl (Or.inl rfl) (N0 (N':=["other","one"]) (lk:=[none,some 2]) rfl (at8 rfl B.range (b8 (v7 N4 (pv 2) i9) (b8 (pv 0) c7))) (by rfl) rfl (by decide +kernel) (by exact⟨rfl,trivial⟩) (by rfl) (by exact LkL.ok ⟨⟨rfl,Or.inl rfl,rfl,Or.inl rfl⟩,trivial⟩)
     (fun _ _ _=>A3 (i:=0) nd2 rfl (Or.inl rfl)) (fun _ _ _=>P9) (fun _ _ _=>N2 (b8 (pv 1) (b8 (pv 0) c7)))) bw5)))
  (o4 (B2 (pv 1)))),?_⟩
 have hlen:=ae1 n hn
 have hsl:=L0
 refine⟨by show 0<=j5;omega,fun l hl=>?_⟩
 refine⟨_,rfl,n,rfl,by omega,by omega,Z6 (lo:=0) (n:=n) (fun i σ H1=>∃ a zs,σ=[some (.int n),some (.ref l),a]/\u9 H H1/\H1 l=some (.lst zs)/\C0 K H1 zs ((q0 i).flatMap fun j=>ad3 j (n - (j+1))))
  ⟨none,[],rfl,d9 hl,c6,.nil⟩ ?_ ?_⟩
 ·rintro i σ H1 hi ⟨a,zs,rfl,s1,h1,t1⟩
  have e0:((0:Int)+(i:Int))=(i:Int):=by omega
  rw[e0]
  have hpart:=aV7 n (i+1) (by omega)
  rw[af7,o6]at hpart
  have hrow:∀ m,(ad3 i m).length=m:=fun m=>by simp[ad3]
  rw[hrow]at hpart
  have hlz:=t1.len
  refine B9 ?_
  refine⟨_,rfl,_,rfl,_,_,rfl,rfl,_,rfl,_,_,rfl,⟨by omega,by omega,by omega,by omega⟩,fun D hD=>?_⟩
  rw[show ((n:Int) - ((i:Int)+1)).toNat=n - (i+1) by omega]
  refine aa4 (lo:=(i:Int)+1) (n:=n - (i+1)) (D:=D) (fun d xs σ' H'=>(∃ v,σ'=[v,some (.int (i:Int))])/\u9 H1 H'/\H' D=some (.lst xs)/\C0 K H' xs (ad3 i d))
   ⟨⟨none,rfl⟩,d9 hD,c6,.nil⟩ (by omega) (fun d xs σ' H' hd ⟨_,_,h2,t2⟩=>⟨h2,by rw[t2.len,hrow];exact d5 _⟩) ?_ ?_
  ·rintro d xs σ' H' N kN hd ⟨⟨v,rfl⟩,s2,h2,t2⟩
   refine B9 (L6 ?_)
   refine⟨_,rfl,_,rfl,(by show 2<=j5;decide),fun p hp=>?_⟩
   have s3:=d9 (o:=.tup [.int (i:Int),.int ((i:Int)+1+(d:Int))]) hp
   refine⟨s3 _ _ h2,kN _ _ _ ⟨⟨_,rfl⟩,(s2.trans s3).upd hD,c6,?_⟩⟩
   rw[aI6]
   exact C0.updL (s3 _ _ h2) (C0.append (s3.tups t2) (C0.one (SqT.of c6)))
  ·rintro xs σ' H2 ⟨⟨v,rfl⟩,s2,h2,t2⟩
   have hx:=t2.len
   rw[hrow]at hx
   have hl2:=s2 _ _ h1
   refine⟨l,D,zs,xs,rfl,rfl,hl2,h2,by omega,?_⟩
   refine⟨_,_,rfl,(s1.trans s2).upd hl,c6,?_⟩
   rw[af7]
   exact C0.updL hl2 (C0.append (s2.tups t1) t2)
 ·rintro σ H1 ⟨a,zs,rfl,s1,h1,t1⟩
  exact⟨_,rfl,q l zs H1 s1 hl h1 t1⟩
def be8 (K:W.Frag):Sp:=fun vs H Q _=>∃ (p:Addr) (n:Nat) (ks:List (List Int)),vs=[.ref p]/\ae3 K H p n ks/\n<=24/\(∀ k∈ks,Up n k)/\∀ p' H',u9 H H'->ae3 K H' p' n (ce1 n ks)->Q (.ref p') H'
theorem bE1:x9 ["web"] ["web"] (p5 bs0):=.mk'
theorem bu4 {fP:Addr} {fdP:FuncData} (F:Fun K "other_web" "other_web" bs0 f fd) (B:Bn mg) (FP:Fq K mg "all_pairs" br9 fP fdP ["places"]) :
  x8 P w K mg base CX0 2 f fd ["web"] (be8 K):=by
 have GP:x8 P w K mg base CX0 1 fP fdP ["places"] (ax5 K):=bH2 FP.F B
 refine F.ok bE1 (fun cdv A outer s H vs Q E hr h=>?_)
 obtain⟨p,n,ks,rfl,hW,hn,hU,q⟩:=h
 obtain⟨t,zs0,h1,h2,h3⟩:=id hW
 have hsl:=L0
 have hun:=hr.units
 have hlen:=ae1 n hn
 have nd2:(["pair","web"]:List Str).Nodup:=by decide +kernel
 have a0:atI ([.int n,.ref t]:List V) 0=some (.int n):=B8 (j:=0) rfl
 have a1:atI ([.int n,.ref t]:List V) 1=some (.ref t):=B8 (j:=1) rfl
 refine⟨_,o4 (B2 (N2 (b8 (G1 G7 (pv 0) i9 (fun _ _=>rfl)) (b8 (T9 X5 (by rfl) B.tuple (by rfl) (b8
  (N0 (N' := ["pair", "web"]) (lk := [none, some 0]) rfl (R4 (D0 GP hr (by rfl) FP G2 (b8 (G1 G7 (pv 0) i9 (fun _ _ => rfl)) c7))) (by rfl) rfl (by decide +kernel) (by exact ⟨rfl, trivial⟩) (by rfl) (by exact LkL.ok ⟨⟨rfl, Or.inl rfl, rfl, Or.inl rfl⟩, trivial⟩)
   (fun _ _ _=>A3 (i:=0) nd2 rfl (Or.inl rfl)) (fun _ _ _=>ak9 (D3 (aC4 K hr.around rfl rfl) (pv 0) (bF4 K rfl (pv 1) i9 (fun _ _=>rfl)) (by rfl))) (fun _ _ _=>pv 0)) c7)) c7)))),?_⟩
 refine⟨_,rfl,p,_,_,_,rfl,rfl,h1,a0,_,rfl,p,_,_,_,rfl,rfl,h1,a0,n,rfl,hn,fun lp zp H4 s5 fl gp tp=>⟨lp,rfl,⟨_,SqL.of gp⟩,fun D hD=>?_⟩⟩
 have hzp:=tp.len
 refine R6 (K:=K) (a:=lp) (D:=D) (ys:=zp) (fun i xs σ' H'=>∃ v,σ'=[v,some (.ref p)]/\u9 H4 H'/\H' D=some (.lst xs)/\C0 K H' xs (ah6 ks ((V1 n).take i))) ⟨none,rfl,d9 hD,c6,.nil⟩ (by omega)
  (fun i xs σ' H' hi ⟨_, _, s6, h6, t6⟩ => ⟨SqL.of (s6 _ _ gp), h6, by
   have h7:=t6.len
   have h8:=bv6 ks ((V1 n).take i)
   rw[q8]at h8
   omega⟩) ?_ ?_
 ·rintro i xs x σ' H' N kN hx ⟨v,rfl,s6,h6,t6⟩
  obtain⟨b,kk,rfl,hk',hq'⟩:=tp.get hx
  have s56:=s5.trans s6
  refine B9 ?_
  refine⟨_,rfl,_,rfl,p,_,_,_,rfl,rfl,s56.seqT h1,a1,t,zs0,dP kk,ks.map dP,rfl,.inr (s56.seqT h2),Dt.mkP (s6.seqT hq'),(s56.tups h3).dtAll,bV2 _,au1 ks,?_,_,rfl,?_⟩
  ·exact aM1 hun (A1 (bX9 _) (by decide))
  have en:(!(ks.map dP).any fun d=>PyData.eqv d (dP kk))=!decide (kk∈ks):=by rw[bz8]
  have etake:ah6 ks ((V1 n).take (i+1))=ah6 ks ((V1 n).take i)++ah6 ks [kk]:=by
   rw[C8,hk',ax2,bm5]
  by_cases hkk:kk∈ks
  ·rw[if_pos rfl,en,decide_eq_true hkk]
   refine O3 ?_
   refine kN _ _ _ ⟨_,rfl,s6,h6,?_⟩
   have e0:ah6 ks [kk]=[]:=by unfold ah6;rw[am9 (by rw[decide_eq_true hkk];decide)];rfl
   rw[etake,e0,D7]
   exact t6
  ·rw[if_pos rfl,en,decide_eq_false hkk]
   refine P7 ?_
   refine⟨_,rfl,h6,kN _ _ _ ⟨_,rfl,s6.upd hD,c6,?_⟩⟩
   have e0:ah6 ks [kk]=[kk]:=by unfold ah6;rw[am8 (by rw[decide_eq_false hkk];decide)];rfl
   rw[etake,e0]
   exact C0.updL h6 (C0.append t6 (C0.one (s6.seqT hq')))
 ·rintro xs σ' H5 ⟨v,rfl,s6,h6,t6⟩
  rw[k9 (by omega)]at t6
  refine⟨D,xs,rfl,.inl ⟨SqL.of h6,fun t' ht=>⟨(by show 2<=j5;decide),fun p' hp=>?_⟩⟩⟩
  have s2:=d9 (o:=.tup xs) ht
  have s3:=d9 (o:=.tup [.int n,.ref t']) hp
  exact q p' _ (((s5.trans s6).trans s2).trans s3) ⟨t',xs,SqT.of c6,SqT.of (s3 _ _ c6),(s2.trans s3).tups t6⟩
end
end Web
namespace Web
open PySem L2
theorem aH4 (K:W.Frag)(hK:X.K=K):U2 X (.builtin "len") (fun xs H Q=>∃ p ys,xs=[.ref p]/\(SqL K H p ys\/SqT K H p ys)/\Q (.int ys.length) H):=by subst hK;exact A0
def aT4 (ns:List Int):List Int:=ns.map fun z=>(ns.length:Int) - 1 - z
theorem bf9 (ns:List Int):(aT4 ns).length=ns.length:=b7 ..
seal L2.PE L2.PA L2.PS L2.PSs L2.PT
section
variable {K:W.Frag} {mg:Str->Option Value} {base:Heap}
def bM7 (K:W.Frag)(CB CW PT PU:Addr):Sp:=fun vs H Q E=>∃ (a:Addr) (ns:List Int),vs=[.ref a]/\Sq K H a ns /\
 (N7 ns->AllP ns->AllP (aT4 ns)->Tbs PT PU H/\∀ (p:Addr) (H':Hp),Gw PT PU H H'->Tbs PT PU H'->Q (.ref p) H')/\(¬ N7 ns->E (.ref CB) none H)/\(N7 ns->¬ (AllP ns/\AllP (aT4 ns))->∀ H':Hp,u9 H H'->E (.ref CW) none H')
theorem bN3:x9 ["tally","told"] ["tally"] (p5 bs2):=.mk'
set_option maxHeartbeats 4000000 in
theorem bU6 {fC fJ fO CW PT PU:Addr}{fdJ:FuncData}(F:Fun K "least_on" "least_on" bs2 f fd)(B:Bn mg)
  (FC:Fq K mg "check_none_below" ba8 fC fdC ["tally"])(GC:x8 P w K mg base (CXE P w) 6 fC fdC ["tally"] (be9 K CB CW))
  (FJ:Fq K mg "least_off" aI5 fJ fdJ ["tally"])(GJ:x8 P w K mg base (CXE P w) 6 fJ fdJ ["tally"] (ba1 K CB CW PT PU))
  (FO:Fq K mg "other_web" bs0 fO fdO ["web"])(GO:x8 P w K mg base CX0 6 fO fdO ["web"] (be8 K)):x8 P w K mg base (CXE P w) 7 f fd ["tally"] (bM7 K CB CW PT PU):=by
 refine F.okX bN3 (fun cdv A outer s H vs Q E hr h=>?_)
 obtain⟨a,ns,rfl,hS,q,qb,qw⟩:=h
 have hsl:=L0
 have nd2:(["number","tally"]:List Str).Nodup:=by decide +kernel
 refine⟨_,j6 (R3 (D0 GC hr (by rfl) FC ah3 (b8 (pv 0) c7)))
  (j6 (A7 (i:=1) bN3.nd rfl (Or.inl rfl) (D0 GJ hr (by rfl) FJ ah3 (b8 (N0 (N':=["number","tally"]) (lk:=[none,some 0]) rfl (bg5 (R4 (pv 0)) (aN4 (pv 0))) (by rfl) rfl (by decide +kernel) (by exact⟨rfl,trivial⟩) (by rfl) (by exact LkL.ok ⟨⟨rfl,Or.inl rfl,rfl,Or.inl rfl⟩,trivial⟩)
    (fun _ _ _=>A3 (i:=0) nd2 rfl (Or.inl rfl)) (fun _ _ _=>P9) (fun _ _ _=>v7 V2 (v7 V2 (p8 (aH4 K rfl) (by rfl) B.len PySem.boot_len (b8 (pv 1) c7)) i9) (pv 0))) c7)))
  (o4 (B2 (N2 (b8 (G1 G7 (pv 1) i9 (fun _ _=>rfl)) (b8 (D0 GO hr (by rfl) FO G2 (b8 (G1 G7 (pv 1) i9 (fun _ _=>rfl)) c7)) c7)))))),?_⟩
 refine⟨_,rfl,a,ns,rfl,hS,fun ht h0 H1 s1=>?_,qb,fun ht h0 H1 s1=>qw ht (fun z=>h0 z.1) H1 s1⟩
 have hS1:=hS.same s1
 refine Or.imp (fun h=>⟨_,rfl,h⟩) (fun h=>⟨_,rfl,h⟩) (aK1 (K:=K) (a:=a) (ys:=ns.map V.int) hS1 (by rw[b7];have:=ht.2;omega) (fun D i xs σ' H'=>(∃ v,σ'=[v,some (.ref a)])/\u9 H1 H'/\H' D=some (.lst xs)/\xs=((ns.take i).map fun z=>(ns.length:Int) - 1 - z).map V.int) (fun D hD=>⟨⟨none,rfl⟩,d9 hD,c6,by rw[be0];rfl⟩)
  (fun D i xs σ' H' hD hi ⟨_,s6,h6,e6⟩=>⟨s6,h6,by rw[e6,b7,b7,q8];omega⟩) ?_ ?_)
 ·rintro D i xs x σ' H' N' hD kN hx ⟨⟨v,rfl⟩,s6,h6,rfl⟩
  obtain⟨z,ez,rfl⟩:=Q0 hx
  refine B9 (L6 ?_)
  refine⟨_,rfl,a,_,rfl,hS1.same s6,_,_,rfl,rfl,_,rfl,_,_,rfl,rfl,h6,kN _ _ _ ⟨⟨_,rfl⟩,s6.upd hD,c6,?_⟩⟩
  rw[C8,ez,j9,j9,b7]
  rfl
 rintro D xs σ' H2 hD ⟨⟨v,rfl⟩,s2,gD,rfl⟩
 rw[b7,List.take_length]at gD
 have s12:=s1.trans s2
 have hTr:N7 (aT4 ns):=by unfold N7;rw[bf9];exact ht
 refine⟨D,aT4 ns,rfl,.inl (SqL.of gD),fun _ hr0=>?_,fun h=>absurd hTr h,fun _ hr0 H3 s3=>qw ht (fun z=>hr0 z.2) H3 (s12.trans s3)⟩
 obtain⟨tbs,q⟩:=q ht h0 hr0
 refine⟨tbs.same s12,fun p b cs ks mn j H3 g3 tb3 _ L=>?_⟩
 obtain⟨⟨t,zs,w1,w2,w3⟩,_,_,_,ups,nd⟩:=L.web
 have hp:=SqT.of (K:=K) L.tup
 have hcl:cs.length<=24:=by
  obtain⟨_,_,_,_,_,_,_,_,ecs⟩:=L.cs_
  rw[ecs,Z9,bf9]
  exact ht.2
 refine⟨_,rfl,p,_,_,_,rfl,rfl,hp,B8 (j:=0) rfl,_,rfl,p,_,_,_,rfl,rfl,hp,B8 (j:=1) rfl,b,cs.length,ks,rfl,⟨t,zs,SqT.of w1,SqT.of w2,w3⟩,hcl,ups,fun p' H4 s4 _=>⟨(by show 2<=j5;decide),fun r fr=>?_⟩⟩
 exact q r _ (((R5 s12).trans g3).trans (R5 (s4.trans (d9 fr)))) (tb3.same (s4.trans (d9 fr)))
end
end Web
namespace Web
open PySem L2
structure cg4 (K:W.Frag) (mg:Str->Option Value) (CT CB CW C1 C2 C3 C4 C5 C6 C7:Addr):Prop where
 mT:mg "TallyError"=some (.ref CT)
 mB:mg "BadTally"=some (.ref CB)
 mW:mg "NoWeb"=some (.ref CW)
 m1:mg "BadNumber"=some (.ref C1)
 m2:mg "BadWeb"=some (.ref C2)
 m3:mg "NoExchange"=some (.ref C3)
 m4:mg "NoPlace"=some (.ref C4)
 m5:mg "NoText"=some (.ref C5)
 m6:mg "TooMany"=some (.ref C6)
 m7:mg "Unlike"=some (.ref C7)
 cB:ai5 K CB
 kB:aF5 K CB
 xB:PySem.W.exmOne K (.ref CB) (.ref CT)=some true
 vB:PySem.W.kitOne K (.ref CB) (.type "ValueError")=some true
 bB:PySem.W.kitOne K (.ref CB) (.ref CB)=some true
 wB:PySem.W.kitOne K (.ref CB) (.ref CW)=some false
 aB:PySem.W.kitAny K (.ref CB) [.ref C1,.ref C2,.ref C3,.ref C4,.ref C5,.ref C6,.ref C7]=some false
 cW:ai5 K CW
 kW:aF5 K CW
 xW:PySem.W.exmOne K (.ref CW) (.ref CT)=some true
 vW:PySem.W.kitOne K (.ref CW) (.type "ValueError")=some true
 bW:PySem.W.kitOne K (.ref CW) (.ref CB)=some false
 wW:PySem.W.kitOne K (.ref CW) (.ref CW)=some true
 aW:PySem.W.kitAny K (.ref CW) [.ref C1,.ref C2,.ref C3,.ref C4,.ref C5,.ref C6,.ref C7]=some false
theorem cf7 {K:W.Frag}{Q:VK}{x y:V}{d:ae8}(hun:A.units+64<an6)(h1:Dt K H d x)(h2:Dt K H d y)(hl:d.canLay0=true)(hd:d.depth<=64)(q:Q (.bl false) H):bb2 K A true x y H Q:=by
 refine⟨d,d,h1,h2,hl,hl,bp5 hun (A1 (aZ1 _ _) hd),?_⟩
 show Q (.bl (!PyData.eqv _ _)) _
 rw[PySem.SeqAt.eqv_refl _ hl]
 exact q
theorem aE1 {K:W.Frag}:∀ bs:List Bool,E3 K H (bs.map PyData.bool) (bs.map V.bl)
 | []=>.mkN
 | b::bs=>.mkC (by unfold Dt;rfl) (aE1 bs)
def bA9 (ns:List Int)(way:Nat):Prop:=¬ AllP ns\/(way=2/\¬ AllP (aT4 ns))
open Classical in
noncomputable def aj7 (ns:List Int)(way:Nat):List Bool:=if ¬ N7 ns then [true,true,false,false] else if bA9 ns way then [true,false,true,false] else []
theorem by5 {way:Nat}(h:¬ N7 ns):aj7 ns way=[true,true,false,false]:=by unfold aj7;rw[if_pos h]
theorem by3 {way:Nat}(h:N7 ns)(g:bA9 ns way):aj7 ns way=[true,false,true,false]:=by unfold aj7;rw[if_neg (fun z=>z h),if_pos g]
theorem by6 {way:Nat}(h:N7 ns)(g:¬ bA9 ns way):aj7 ns way=[]:=by unfold aj7;rw[if_neg (fun z=>z h),if_neg g]
theorem bg0:AllP (aT4 ns)↔∀ z∈ns,z<(ns.length:Int):=by
 unfold aT4 AllP
 constructor
 ·intro h z hz
  obtain⟨i,hi,e⟩:=bL3 hz
  have:=h i ((ns.length:Int) - 1 - z) (by rw[p0,g6 hi,e];rfl)
  omega
 ·intro h i x hx
  obtain⟨z,hz,rfl⟩:=t8.mp (f9 hx)
  have:=h z hz
  omega
theorem bz5 {K:W.Frag}{Q:VK}{l u:Addr}{way:Nat}(hun:A.units+64<an6)(gl:H l=some (.lst ((aj7 ns way).map V.bl)))(gu:H u=some (.lst ((aj7 ns way).map V.bl)))(q:Q (.bl false) H):bb2 K A true (.ref l) (.ref u) H Q:=by
 have key:∀ bs:List Bool,aj7 ns way=bs->(PyData.list (bs.map .bool)).canLay0=true->(PyData.list (bs.map .bool)).depth<=64->bb2 K A true (.ref l) (.ref u) H Q:=fun bs e h1 h2=>by
  rw[e]at gl gu
  exact cf7 hun (Dt.mkL (SqL.of gl) (aE1 _)) (Dt.mkL (SqL.of gu) (aE1 _)) h1 h2 q
 have hc:aj7 ns way=[true,true,false,false]\/aj7 ns way=[true,false,true,false]\/aj7 ns way=[]:=by
  unfold aj7
  split
  ·exact .inl rfl
  ·split
   ·exact .inr (.inl rfl)
   ·exact .inr (.inr rfl)
 rcases hc with e | e | e<;>exact key _ e (by simp[PyData.canLay0,PyData.canLayAll0]) (by simp[PyData.depth,PyData.depthAll])
seal L2.PE L2.PA L2.PS L2.PSs L2.PT
section
variable {K:W.Frag} {mg:Str->Option Value} {base:Heap}
def bM3 (K:W.Frag)(PT PU:Addr):Sp:=fun vs H Q _=>∃ (way:Nat) (a:Addr) (ns:List Int),vs=[.int way,.ref a]/\way<=2/\Sq K H a ns/\Tbs PT PU H/\∀ (l:Addr) (H':Hp),Gw PT PU H H'->Tbs PT PU H'->H' l=some (.lst ((aj7 ns way).map V.bl))->Q (.ref l) H'
theorem bf2:x9 ["way","tally","kept","e"] ["way","tally"] (p5 aS6):=.mk'
set_option maxHeartbeats 4000000 in
theorem bU1 {fJ fν fη CT CW C1 C2 C3 C4 C5 C6 C7 PT PU:Addr} {fdJ fdν fdη:FuncData} (F:Fun K "_law_refusal" "_law_refusal" aS6 f fd) (B:Bn mg)
  (FJ:Fq K mg "least_off" aI5 fJ fdJ ["tally"]) (GJ:x8 P w K mg base (CXE P w) 8 fJ fdJ ["tally"] (ba1 K CB CW PT PU))
  (Fν:Fq K mg "off_shows" aS8 fν fdν ["tally","told"]) (Gν:x8 P w K mg base (CXE P w) 8 fν fdν ["tally","told"] (bq5 K CB CW))
  (Fη:Fq K mg "least_on" bs2 fη fdη ["tally"]) (Gη:x8 P w K mg base (CXE P w) 8 fη fdη ["tally"] (bM7 K CB CW PT PU))
  (L:cg4 K mg CT CB CW C1 C2 C3 C4 C5 C6 C7):x8 P w K mg base CX0 9 f fd ["way","tally"] (bM3 K PT PU):=by
 refine F.ok bf2 (fun cdv A outer s H vs Q E hr h=>?_)
 obtain⟨way,a,ns,rfl,hw,hS,tb,q⟩:=h
 have hsl:=L0
 refine⟨_,j6 (A7 (i:=2) bf2.nd rfl (Or.inl rfl) (P6 c7))
  (j6 (bT1 (i:=3) bf2.nd rfl rfl (by rfl) L.mT rfl rfl
    (fun _ _ => o4 (O0 (D3 av8 (pv 0) i9 (F5 _)) (o4 (R3 (aC0 GJ hr (by rfl) FJ.m FJ.F.kp FJ.b aN6 (b8 (pv 1) c7))))
     (o4 (O0 (D3 av8 (pv 0) i9 (F5 _)) (o4 (R3 (aC0 Gν hr (by rfl) Fν.m Fν.F.kp Fν.b aN6 (b8 (pv 1) (b8 (N2 (b8 i9 (b8 (N2 (b8 i9 (b8 (N2 c7) c7))) (b8 i9 c7)))) c7)))))
     (o4 (R3 (aC0 Gη hr (by rfl) Fη.m Fη.F.kp Fη.b aN6 (b8 (pv 1) c7))))))))
    (fun _ => j6 (A7 (i := 2) bf2.nd rfl (Or.inl rfl) (P6 (b8 (p8 (ag4 K rfl) (by rfl) B.isin (by rfl) (b8 (pv 3) (b8 (bF5 (v := .ty "ValueError") (by rfl) B.ve (by rfl) rfl) c7))) (b8 (p8 (ag4 K rfl) (by rfl) B.isin (by rfl) (b8 (pv 3) (b8 (S6 (v := .ref CB) (by rfl) L.mB rfl) c7))) (b8 (p8 (ag4 K rfl) (by rfl) B.isin (by rfl) (b8 (pv 3) (b8 (S6 (v := .ref CW) (by rfl) L.mW rfl) c7))) c7)))))
     (o4 (R3 (bT4 (te:=tC .non) K rfl (bg6 PySem.F.plainAttrs_list PySem.F.slot_list_append PySem.F.type_list_append ad9 (pv 2) (b8 (p8 (aH5 K rfl) (by rfl) B.isin (by rfl) (b8 (pv 3) (b8 (N2 (b8 (S6 (v:=.ref C1) (by rfl) L.m1 rfl) (b8 (S6 (v:=.ref C2) (by rfl) L.m2 rfl) (b8 (S6 (v:=.ref C3) (by rfl) L.m3 rfl) (b8 (S6 (v:=.ref C4) (by rfl) L.m4 rfl) (b8 (S6 (v:=.ref C5) (by rfl) L.m5 rfl) (b8 (S6 (v:=.ref C6) (by rfl) L.m6 rfl) (b8 (S6 (v:=.ref C7) (by rfl) L.m7 rfl) c7)))))))) c7))) c7)))))))
  (o4 (B2 (pv 2)))),?_⟩
 refine⟨by show 0<=j5;omega,fun l hl=>?_⟩
 have s0:=d9 (o:=.lst []) hl
 have g0:(upd H l (.lst [])) l=some (.lst (([]:List Bool).map V.bl)):=c6
 generalize upd H l (.lst [])=H0 at s0 g0 ⊢
 have hS0:=hS.same s0
 have tb0:=tb.same s0
 have fin:N7 ns->¬ bA9 ns way->∀ H':Hp,Gw PT PU H0 H'->Tbs PT PU H'->Q (.ref l) H':=fun h1 h2 H' g t=>q l H' ((R5 s0).trans g) t (by rw[by6 h1 h2];exact ag1 g tb0 g0)
 refine⟨fun σ' cls _ H'=>σ'=[some (.int way),some (.ref a),some (.ref l),none]/\u9 H0 H'/\((cls=.ref CB/\¬ N7 ns)\/(cls=.ref CW/\N7 ns/\bA9 ns way)),?_,?_⟩
 ·refine⟨_,rfl,rfl,_,rfl,?_⟩
  by_cases w0:way=0
  ·rw[decide_eq_true (show V.int (way:Int)=V.int 0 by rw[w0];rfl)]
   refine P7 ⟨_,rfl,a,ns,rfl,hS0,fun ht h0=>⟨tb0,fun p b cs ks mn j H1 g1 t1 _ _=>⟨_,rfl,fin ht (fun z=>z.elim (fun y=>y h0) fun y=>by have:=y.1;omega) H1 g1 t1⟩⟩,fun ht=>⟨rfl,u9.refl H0,.inl ⟨rfl,ht⟩⟩,fun ht h0 H1 s1=>⟨rfl,s1,.inr ⟨rfl,ht,.inl h0⟩⟩⟩
  rw[decide_eq_false (show ¬ V.int (way:Int)=V.int 0 from fun z=>w0 (by rw[V.int.injEq]at z;omega))]
  refine O3 ⟨_,rfl,rfl,_,rfl,?_⟩
  by_cases w1:way=1
  ·rw[decide_eq_true (show V.int (way:Int)=V.int 1 by rw[w1];rfl)]
   refine P7 ⟨_,rfl,(by show 0<=j5;omega),fun p1 f1=>⟨(by show 2<=j5;decide),fun p2 f2=>⟨(by show 3<=j5;decide),fun p3 f3=>?_⟩⟩⟩
   have s1:=d9 (o:=.tup []) f1
   have s2:=d9 (o:=.tup [.int 1,.ref p1]) f2
   have s3:=d9 (o:=.tup [.int 0,.ref p2,.int 0]) f3
   have s13:=(s1.trans s2).trans s3
   refine⟨a,p3,p2,ns,1,[],0,0,rfl,hS0.same s13,SqT.of c6,⟨p1,[],SqT.of (s3 _ _ c6),SqT.of ((s2.trans s3) _ _ c6),.nil⟩,by decide,by decide,⟨fun k hk=>absurd hk K8,aw2,List.Pairwise.nil⟩,fun ht h0 b H1 s4 _=>⟨_,rfl,fin ht (fun z=>z.elim (fun y=>y h0) fun y=>by have:=y.1;omega) H1 (R5 (s13.trans s4)) (tb0.same (s13.trans s4))⟩,fun ht=>⟨rfl,s13,.inl ⟨rfl,ht⟩⟩,fun ht h0 H1 s4=>⟨rfl,s13.trans s4,.inr ⟨rfl,ht,.inl h0⟩⟩⟩
  rw[decide_eq_false (show ¬ V.int (way:Int)=V.int 1 from fun z=>w1 (by rw[V.int.injEq]at z;omega))]
  have w2:way=2:=by omega
  refine O3 ⟨_,rfl,a,ns,rfl,hS0,fun ht h0 h1=>⟨tb0,fun p H1 g1 t1=>⟨_,rfl,fin ht (fun z=>z.elim (fun y=>y h0) fun y=>y.2 h1) H1 g1 t1⟩⟩,fun ht=>⟨rfl,u9.refl H0,.inl ⟨rfl,ht⟩⟩,fun ht h0 H1 s1=>⟨rfl,s1,.inr ⟨rfl,ht,?_⟩⟩⟩
  by_cases hA:AllP ns
  ·exact .inr ⟨w2,fun y=>h0 ⟨hA,y⟩⟩
  ·exact .inl hA
 ·rintro σ' cls H' ⟨rfl,s1,hc⟩
  obtain⟨C,b1,b2,rfl,kC,xC,vC,bC,wC,aC,due⟩:∃ (C:Addr) (b1 b2:Bool),cls=.ref C/\aF5 K C/\PySem.W.exmOne K (.ref C) (.ref CT)=some true/\PySem.W.kitOne K (.ref C) (.type "ValueError")=some true/\PySem.W.kitOne K (.ref C) (.ref CB)=some b1/\PySem.W.kitOne K (.ref C) (.ref CW)=some b2/\PySem.W.kitAny K (.ref C) [.ref C1,.ref C2,.ref C3,.ref C4,.ref C5,.ref C6,.ref C7]=some false/\aj7 ns way=[true,b1,b2,false]:=by
   rcases hc with⟨rfl,h1⟩ | ⟨rfl,h1,h2⟩
   ·exact⟨CB,true,false,rfl,L.kB,L.xB,L.vB,L.bB,L.wB,L.aB,by5 h1⟩
   ·exact⟨CW,false,true,rfl,L.kW,L.xW,L.vW,L.bW,L.wW,L.aW,by3 h1 h2⟩
  refine⟨xC,fun e he=>?_⟩
  have s2:=d9 (o:=XO e (.ref C)) he
  have gx:(upd H' e (XO e (.ref C))) e=some (XO e (.ref C)):=c6
  refine⟨_,rfl,e,C,.ty "ValueError",_,true,rfl,gx,kC,rfl,vC,_,rfl,e,C,.ref CB,_,b1,rfl,gx,kC,rfl,bC,_,rfl,e,C,.ref CW,_,b2,rfl,gx,kC,rfl,wC,(by show 3<=j5;decide),fun l2 hl2=>?_⟩
  have s3:=d9 (o:=.lst [.bl true,.bl b1,.bl b2]) hl2
  refine⟨_,rfl,.inl ⟨rfl,_,SqL.of c6⟩,_,rfl,(by show 7<=j5;decide),fun tp htp=>?_⟩
  have s4:=d9 (o:=.tup [.ref C1,.ref C2,.ref C3,.ref C4,.ref C5,.ref C6,.ref C7]) htp
  refine⟨e,C,tp,[C1,C2,C3,C4,C5,C6,C7],false,rfl,s4 _ _ (s3 _ _ gx),kC,c6,aC,l2,_,_,rfl,rfl,s4 _ _ c6,by show 3<j5;omega,?_⟩
  have hl2':H l2=none:=((s0.trans s1).trans s2).free hl2
  have sA:=((((s0.trans s1).trans s2).trans s3).trans s4).upd (o:=.lst ([.bl true,.bl b1,.bl b2]++[.bl false])) hl2'
  exact⟨_,rfl,q l2 _ (R5 sA) (tb.same sA) (by rw[due];exact c6)⟩
def bM9 (K:W.Frag):Sp:=fun vs H Q _=>∃ (way:Nat) (a:Addr) (ns:List Int),vs=[.int way,.ref a]/\SqL K H a (ns.map V.int)/\ns.length<=1000/\∀ (l:Addr) (H':Hp),u9 H H'->H' l=some (.lst ((aj7 ns way).map V.bl))->Q (.ref l) H'
theorem cc9:x9 ["way","tally"] ["way","tally"] (p5 bs3):=.mk'
theorem bU8 (F:Fun K "_law_due" "_law_due" bs3 f fd)(B:Bn mg):x8 P w K mg base CX0 1 f fd ["way","tally"] (bM9 K):=by
 refine F.ok cc9 (fun cdv A outer s H vs Q E hr h=>?_)
 obtain⟨way,a,ns,rfl,hS,hl,q⟩:=h
 have hsl:=L0
 refine⟨_,j6 (O0 (PW.pt (aI7 (D3 aj6 (p8 A0 (by rfl) B.len PySem.boot_len (b8 (pv 1) c7)) i9 (F5 _)) (at6 (D3 bN7 (p8 A0 (by rfl) B.len PySem.boot_len (b8 (pv 1) c7)) i9 (F5 _))))) (o4 (B2 (P6 (b8 ah2 (b8 ah2 (b8 ah2 (b8 ah2 c7))))))) F9)
  (j6 (O0 (PW.pt (aI7 (D3 aj6 (p8 (au8 rfl) (by rfl) B.min (by rfl) (b8 (pv 1) c7)) i9 (F5 _)) (at6 (PW.pt (bT0 (D3 av8 (pv 0) i9 (F5 _)) (bE8 (D3 cd6 (p8 (bo1 rfl) (by rfl) B.max (by rfl) (b8 (pv 1) c7)) (p8 A0 (by rfl) B.len PySem.boot_len (b8 (pv 1) c7)) (F5 _)))))))) (o4 (B2 (P6 (b8 ah2 (b8 ah2 (b8 ah2 (b8 ah2 c7))))))) F9)
  (o4 (B2 (P6 c7)))),?_⟩
 have tell:∀ (bs:List Bool),bs.length=4->aj7 ns way=bs->(4<=j5/\∀ p,H p=none->Q (.ref p) (upd H p (.lst (bs.map V.bl)))):=fun bs hb hd=>⟨by omega,fun p hp=>q p _ (d9 hp) (by rw[c6,hd])⟩
 refine⟨_,rfl,a,_,rfl,.inl hS,_,_,rfl,rfl,_,rfl,?_⟩
 rw[b7]
 by_cases c1:(ns.length:Int)<1
 ·rw[decide_eq_true c1]
  exact P7 (P7 (tell [true,true,false,false] rfl (by5 fun z=>by have:=z.1;omega)))
 rw[decide_eq_false c1]
 refine O3 ⟨_,rfl,a,_,rfl,.inl hS,_,_,rfl,rfl,_,rfl,?_⟩
 rw[b7]
 by_cases c2:(24:Int)<(ns.length:Int)
 ·rw[decide_eq_true c2]
  exact P7 (tell [true,true,false,false] rfl (by5 fun z=>by have:=z.2;omega))
 rw[decide_eq_false c2]
 have ht:N7 ns:=⟨by omega,by omega⟩
 refine O3 ⟨_,rfl,a,ns,rfl,hS,by omega,fun m hm hle=>⟨_,_,rfl,rfl,_,rfl,?_⟩⟩
 have hA:AllP ns↔¬ m<0:=⟨fun h=>by
  obtain⟨i,hi,e⟩:=bL3 hm
  have:=h i m (by rw[g6 hi,e])
  omega,fun h i x hx=>by have:=hle x (f9 hx);omega⟩
 by_cases c3:m<0
 ·rw[decide_eq_true c3]
  exact P7 (P7 (tell [true,false,true,false] rfl (by3 ht (.inl fun z=>hA.mp z c3))))
 rw[decide_eq_false c3]
 refine O3 ⟨_,rfl,rfl,_,rfl,?_⟩
 by_cases w2:way=2
 ·rw[decide_eq_true (show V.int (way:Int)=V.int 2 by rw[w2];rfl)]
  refine P7 ⟨_,rfl,a,ns,rfl,hS,by omega,fun x hx hge=>⟨_,rfl,a,_,rfl,.inl hS,_,_,rfl,rfl,_,rfl,?_⟩⟩
  rw[b7]
  by_cases c4:(ns.length:Int)<=x
  ·rw[decide_eq_true c4]
   exact P7 (tell [true,false,true,false] rfl (by3 ht (.inr ⟨w2,fun z=>by have:=bg0.mp z x hx;omega⟩)))
  ·rw[decide_eq_false c4]
   refine O3 ⟨by show 0<=j5;omega,fun p hp=>q p _ (d9 hp) (by rw[c6,by6 ht fun z=>z.elim (fun y=>y (hA.mpr c3)) fun y=>y.2 (bg0.mpr fun z hz=>by have:=hge z hz;omega)];rfl)⟩
 ·rw[decide_eq_false (show ¬ V.int (way:Int)=V.int 2 from fun z=>w2 (by rw[V.int.injEq]at z;omega))]
  exact O3 (O3 ⟨by show 0<=j5;omega,fun p hp=>q p _ (d9 hp) (by rw[c6,by6 ht fun z=>z.elim (fun y=>y (hA.mpr c3)) fun y=>w2 y.1];rfl)⟩)
end
end Web
namespace Web
open PySem L2
theorem bI6 {K:W.Frag}{Q:VK}{l u:Addr}(hun:A.units+64<an6)(gl:SqL K H l (ns.map V.int))(gu:SqL K H u (ns.map V.int))(q:Q (.bl false) H):bb2 K A true (.ref l) (.ref u) H Q:=by
 refine⟨.list (ns.map .int),.list (ns.map .int),Dt.mkLi gl,Dt.mkLi gu,bv1 _,bv1 _,?_,?_⟩
 ·refine bp5 hun (A1 (aZ1 _ _) ?_)
  have:=bX8 ns
  omega
 ·show Q (.bl (!PyData.eqv _ _)) _
  rw[bX6,decide_eq_true rfl]
  exact q
theorem bH6 (c:Int)(h:0<n):∃ j:Nat,c % (n:Int)=(j:Int)/\j<n:=by
 have h1:=M0 c (show (n:Int)≠0 by omega)
 have h2:=G6 c (show (0:Int)<(n:Int) by omega)
 exact⟨(c % (n:Int)).toNat,by omega,by omega⟩
theorem p55:(0:Int)<10 ^ (as4 55):=bP2 (by decide)
theorem p50:(0:Int)<10 ^ (as4 50):=bP2 (by decide)
theorem bQ6 (z:Int)(h:0<=z/\z<2):∃ v:Int,atI ([.int 3,.int (10 ^ (as4 50))]:List V) z=some (.int v)/\0<v:=by
 have:z=0\/z=1:=by omega
 rcases this with h | h<;>rw[h]
 ·exact⟨3,B8 (j:=0) rfl,by decide⟩
 ·exact⟨_,B8 (j:=1) rfl,p50⟩
def SmL (H:Hp)(ls:Addr)(n:Nat)(vs:List V):Prop:=(∀ v∈vs,∃ r ts,v=.ref r/\r≠ls/\H r=some (.lst (bP3 V.int ts))/\ts.length<=1000)/\∃ r ts,vs[1]?=some (.ref r)/\H r=some (.lst (bP3 V.int ts))/\ts.length=n
theorem SmL.mono {ls:Addr}{vs:List V}(h:SmL H ls n vs)(g:∀ r xs,r≠ls->H r=some (.lst xs)->H' r=some (.lst xs)):SmL H' ls n vs:=by
 obtain⟨h1,r,ts,e,h2,h3⟩:=h
 refine⟨fun v hv=>?_,r,ts,e,?_,h3⟩
 ·obtain⟨r,ts,e,hn,hr,hl⟩:=h1 v hv
  exact⟨r,ts,e,hn,g _ _ hn hr,hl⟩
 ·obtain⟨r',ts',e',hn,_⟩:=h1 _ (f9 e)
  cases e'
  exact g _ _ hn h2
theorem SmL.snoc {ls r:Addr}{vs:List V}{ts:List Int}(h:SmL H ls n vs)(hn:r≠ls)(hr:H r=some (.lst (ts.map V.int)))(hl:ts.length<=1000):SmL H ls n (vs++[.ref r]):=by
 obtain⟨h1,r',ts',e,h2⟩:=h
 refine⟨fun v hv=>?_,r',ts',?_,h2⟩
 ·rcases y7.mp hv with z | z
  ·exact h1 v z
  ·exact⟨r,ts,C9.mp z,hn,hr,hl⟩
 ·rw[V6 (c9.mp e).1];exact e
seal L2.PE L2.PA L2.PS L2.PSs L2.PT
section
variable {K:W.Frag} {mg:Str->Option Value} {base:Heap}
def aS1 (K:W.Frag)(PT PU:Addr):Sp:=fun vs H Q _=>∃ (a:Addr) (ns:List Int),vs=[.ref a]/\SqL K H a (ns.map V.int)/\ns.length<=63/\Tb PT H/\Tb2 PU H/\PT≠PU/\∀ H',Q (.bl true) H'
theorem ah0:x9 ["script","tally","many","some","cell","far","number","good","one","way","handed"] ["script"] (p5 ba7):=.mk'
set_option maxHeartbeats 4000000 in
theorem bG8 {fY fσ fδ PT PU:Addr} {fdY fdσ fdδ:FuncData} (F:Fun K "law" "law" ba7 f fd) (B:Bn mg)
  (FY:Fq K mg "_law_tally" br8 fY fdY ["script","most"]) (GY:x8 P w K mg base CX0 9 fY fdY ["script","most"] (bM1 K))
  (Fσ:Fq K mg "_law_refusal" aS6 fσ fdσ ["way","tally"]) (Gσ:x8 P w K mg base CX0 9 fσ fdσ ["way","tally"] (bM3 K PT PU))
  (Fδ:Fq K mg "_law_due" bs3 fδ fdδ ["way","tally"]) (Gδ:x8 P w K mg base CX0 9 fδ fdδ ["way","tally"] (bM9 K)):x8 P w K mg base CX0 10 f fd ["script"] (aS1 K PT PU):=by
 refine F.ok ah0 (fun cdv A outer s H vs Q E hr h=>?_)
 obtain⟨sc,ns,rfl,hS,hlen,tbA,tbC,tbN,q⟩:=h
 have tb:Tbs PT PU H:=⟨tbA,tbC,tbN⟩
 have hsl:j5=16777216:=E4
 have hun:=hr.units
 have nd2:(["number","many"]:List Str).Nodup:=by decide +kernel
 refine⟨_,j6 (A7 (i:=1) ah0.nd rfl (Or.inl rfl) (D0 GY hr (by rfl) FY G2 (b8 (pv 0) (b8 i9 c7))))
  (j6 (A7 (i:=2) ah0.nd rfl (Or.inr rfl) (p8 A0 (by rfl) B.len PySem.boot_len (b8 (pv 1) c7)))
  (j6 (A7 (i:=3) ah0.nd rfl (Or.inl rfl) (P6 (b8 (pv 1) (b8 (N0 (N':=["number","many"]) (lk:=[none,some 2]) rfl (R4 (pv 1)) (by rfl) rfl (by decide +kernel) (by exact⟨rfl,trivial⟩) (by rfl) (by exact LkL.ok ⟨⟨rfl,Or.inl rfl,rfl,Or.inl rfl⟩,trivial⟩) (fun _ _ _=>A3 (i:=0) nd2 rfl (Or.inl rfl)) (fun _ _ _=>P9) (fun _ _ _=>p8 (al8 rfl) (by rfl) B.min (by rfl) (b8 (p8 (au9 rfl) (by rfl) B.max (by rfl) (b8 i9 (b8 (pv 0) c7))) (b8 (v7 V2 (pv 1) i9) c7)))) (b8 (P6 c7) (b8 (v7 bt9 (pv 1) (v7 bb5 (P6 (b8 i9 c7)) (v7 V2 i9 (pv 2)))) c7))))))
  (j6 (aa2 PassesOwn.never rfl (R4 (v7 bt9 (P6 (b8 i9 (b8 i9 c7))) (ad6 ak8 (pv 0) (af6 i9) (af6 i9)))) (A3 (i := 4) ah0.nd rfl (Or.inl rfl))
   (j6 (A7 (i:=4) ah0.nd rfl (Or.inl rfl) (v7 N3 (pv 4) (v7 aN7 i9 i9)))
   (j6 (A7 (i:=5) ah0.nd rfl (Or.inl rfl) (v7 N3 (v7 Y9 (pv 4) i9) (G1 X4 (P6 (b8 i9 (b8 (v7 aN7 i9 i9) c7))) (v7 N3 (v7 Y9 (pv 4) i9) i9) (fun _ _=>rfl))))
   (o4 (aa2 PassesOwn.never rfl (R4 (P6 (b8 (v7 V2 (aB8 ao1 i9) (pv 5)) (b8 (v7 V2 (pv 2) i9) (b8 (pv 2) (b8 (v7 N4 (pv 2) (pv 5)) c7)))))) (A3 (i := 6) ah0.nd rfl (Or.inl rfl))
    (j6 (A7 (i:=7) ah0.nd rfl (Or.inl rfl) (T9 ar1 (by rfl) B.list (by rfl) (b8 (G1 X4 (pv 3) i9 (fun _ _=>rfl)) c7)))
    (j6 (aB6 (pv 6) (aB7 (pv 7) (v7 N3 (pv 4) (pv 2)) set_list))
    (o4 (R3 (bg6 PySem.F.plainAttrs_list PySem.F.slot_list_append PySem.F.type_list_append ad9 (pv 3) (b8 (pv 7) c7)))))))))))
  (j6 (aa2 PassesOwn.never rfl (R4 (pv 3)) (A3 (i := 8) ah0.nd rfl (Or.inl rfl))
   (o4 (aa2 PassesOwn.never rfl (T8 rfl B.range (b8 i9 c7)) (A3 (i := 9) ah0.nd rfl (Or.inl rfl))
    (j6 (A7 (i:=10) ah0.nd rfl (Or.inl rfl) (T9 ar1 (by rfl) B.list (by rfl) (b8 (pv 8) c7)))
    (j6 (O0 (PW.pt (aI7 (D3 bb6 (D0 Gσ hr (by rfl) Fσ G2 (b8 (pv 9) (b8 (pv 10) c7))) (D0 Gδ hr (by rfl) Fδ G2 (b8 (pv 9) (b8 (pv 8) c7))) (F5 _)) (at6 (D3 bb6 (pv 10) (pv 8) (F5 _))))) R1 F9)
    (o4 (O0 (D3 bb6 (D0 Gσ hr (by rfl) Fσ G2 (b8 (pv 9) (b8 (T9 X5 (by rfl) B.tuple (by rfl) (b8 (pv 8) c7)) c7))) (D0 Gδ hr (by rfl) Fδ G2 (b8 (pv 9) (b8 (pv 8) c7))) (F5 _)) R1 F9)))))))
  (o4 (B2 ah2)))))),?_⟩
 refine⟨_,rfl,sc,ns,12,rfl,hS,by decide,by decide,fun l ts H1 n1 n2 s1 _ g1=>?_⟩
 refine⟨_,rfl,l,_,rfl,.inl (SqL.of g1),?_⟩
 rw[b7]
 generalize en:ts.length=n at n1 n2
 have tb1:=tb.same s1
 have hS1:=s1.seq hS
 refine⟨_,rfl,_,rfl,l,rfl,⟨_,SqL.of g1⟩,fun D hD=>R6 (K:=K) (a:=l) (D:=D) (ys:=ts.map V.int) (fun i xs σ' H'=>(∃ v,σ'=[v,some (.int (n:Int))])/\u9 H1 H'/\H' D=some (.lst xs)/\∃ us:List Int,xs=us.map V.int/\us.length=i) ⟨⟨none,rfl⟩,d9 hD,c6,[],rfl,rfl⟩ (by rw[b7];omega)
  (fun i xs σ' H' hi ⟨_,s6,h6,us,e6,l6⟩=>⟨SqL.of (s6 _ _ g1),h6,by rw[e6,b7,l6];exact d5 _⟩) ?_ ?_⟩
 ·rintro i xs x σ' H' N' kN hx ⟨⟨v,rfl⟩,s6,h6,us,rfl,l6⟩
  obtain⟨z,ez,rfl⟩:=Q0 hx
  refine B9 (L6 ?_)
  refine⟨_,rfl,_,_,rfl,_,rfl,_,_,rfl,rfl,_,_,rfl,h6,kN _ _ _ ⟨⟨_,rfl⟩,s6.upd hD,c6,us++[_],by rw[j9];rfl,by rw[o6,l6];rfl⟩⟩
 rintro xs σ' H2 ⟨⟨v,rfl⟩,s2,gD,us,rfl,lus⟩
 rw[b7,en]at lus
 refine⟨(by show 0<=j5;omega),fun l3 f3=>?_⟩
 have s3:=d9 (o:=.lst []) f3
 refine⟨_,rfl,(by show 1<=j5;omega),fun l4 f4=>?_⟩
 have s4:=d9 (o:=.lst [.int 0]) f4
 refine⟨_,rfl,_,_,rfl,rfl,l4,(25:Int) - (n:Int),[.int 0],rfl,rfl,c6,by omega,by omega,(by show 1*((25:Int) - (n:Int)).toNat<=j5;omega),fun l5 f5=>?_⟩
 rw[rep0]
 have s5:=d9 (o:=.lst ((tal ((25:Int) - (n:Int)).toNat []).map V.int)) f5
 have s35:=(s3.trans s4).trans s5
 refine⟨l,l5,_,_,rfl,rfl,(s2.trans s35) _ _ g1,c6,by rw[b7,b7,Y7];omega,fun l6 f6=>?_⟩
 have s6:=d9 (o:=.lst (ts.map V.int++(tal ((25:Int) - (n:Int)).toNat []).map V.int)) f6
 have s36:=s35.trans s6
 refine⟨(by show 4<=j5;omega),fun ls fs=>?_⟩
 have s7:=d9 (o:=.lst [.ref l,.ref D,.ref l3,.ref l6]) fs
 have gl6:=s2.trans (s36) _ _ g1
 have gD6:=s36 _ _ gD
 have g36:(upd (upd (upd (upd H2 l3 (.lst [])) l4 (.lst [.int 0])) l5 (.lst ((tal ((25:Int) - (n:Int)).toNat []).map V.int))) l6 (.lst (ts.map V.int++(tal ((25:Int) - (n:Int)).toNat []).map V.int))) l3=some (.lst (bP3 V.int ([]:List Int))):=((s4.trans s5).trans s6) _ _ c6
 have g66:(upd (upd (upd (upd H2 l3 (.lst [])) l4 (.lst [.int 0])) l5 (.lst ((tal ((25:Int) - (n:Int)).toNat []).map V.int))) l6 (.lst (ts.map V.int++(tal ((25:Int) - (n:Int)).toNat []).map V.int))) l6=some (.lst (bP3 V.int (ts++tal ((25:Int) - (n:Int)).toNat []))):=by rw[c6,j9]
 have sH6:=s2.trans s36
 generalize upd (upd (upd (upd H2 l3 (.lst [])) l4 (.lst [.int 0])) l5 (.lst ((tal ((25:Int) - (n:Int)).toNat []).map V.int))) l6 (.lst (ts.map V.int++(tal ((25:Int) - (n:Int)).toNat []).map V.int))=H6 at s7 fs gl6 gD6 g36 g66 sH6 ⊢
 have gls:(upd H6 ls (.lst [.ref l,.ref D,.ref l3,.ref l6])) ls=some (.lst [.ref l,.ref D,.ref l3,.ref l6]):=c6
 have SM:SmL (upd H6 ls (.lst [.ref l,.ref D,.ref l3,.ref l6])) ls n [.ref l,.ref D,.ref l3,.ref l6]:=by
  refine⟨fun v hv=>?_,D,us,rfl,s7 _ _ gD6,lus⟩
  simp only[d4,K8,or_false]at hv
  rcases hv with rfl | rfl | rfl | rfl
  ·exact⟨l,ts,rfl,o8 gl6 fs,s7 _ _ gl6,by omega⟩
  ·exact⟨D,us,rfl,o8 gD6 fs,s7 _ _ gD6,by omega⟩
  ·exact⟨l3,[],rfl,o8 g36 fs,s7 _ _ g36,by show 0<=1000;omega⟩
  ·exact⟨l6,_,rfl,o8 g66 fs,s7 _ _ g66,by rw[o6,Y7];omega⟩
 have sB:=(s1.trans sH6).trans s7
 have fls:H ls=none:=(s1.trans sH6).free fs
 clear s2 s3 s4 s5 s6 s7 s35 s36 gl6 gD6 g36 g66 sH6 gD f3 f4 f5 f6 fs hD
 generalize upd H6 ls (.lst [.ref l,.ref D,.ref l3,.ref l6])=HB at gls SM sB ⊢
 have hv0:[V.ref l,V.ref D,V.ref l3,V.ref l6].length=4:=rfl
 generalize [V.ref l,V.ref D,V.ref l3,V.ref l6]=vs0 at gls SM hv0
 refine⟨(by show 2<=j5;omega),fun k0 f0=>?_⟩
 have t0:=d9 (o:=.lst [.int 0,.int 1]) f0
 obtain⟨ms,hms,hml⟩:=bn4 ns (some 3) (some 9)
 refine⟨_,rfl,_,rfl,_,rfl,sc,ns.map V.int,rfl,(sB.trans t0).seq hS,fun k1 f1=>?_⟩
 rw[hms]
 have t1:=d9 (o:=.lst (ms.map V.int)) f1
 refine⟨k0,k1,_,_,rfl,rfl,t1 _ _ c6,c6,by rw[b7];show 2+ms.length<=j5;omega,fun lc fc=>⟨lc,rfl,⟨_,SqL.of c6⟩,?_⟩⟩
 have t2:=d9 (o:=.lst ([.int 0,.int 1]++ms.map V.int)) fc
 have tB:=(t0.trans t1).trans t2
 have glc:(upd (upd (upd HB k0 (.lst [.int 0,.int 1])) k1 (.lst (ms.map V.int))) lc (.lst ([.int 0,.int 1]++ms.map V.int))) lc=some (.lst (([0,1]++ms:List Int).map V.int)):=by rw[c6,j9];rfl
 have nlc:lc≠ls:=fun z=>by rw[z]at fc;rw[(t0.trans t1) _ _ gls]at fc;cases fc
 have gls':=tB _ _ gls
 have SM':=SM.mono fun r xs _ h=>tB _ _ h
 have sC:=sB.trans tB
 clear t0 t1 t2 tB gls SM sB
 generalize upd (upd (upd HB k0 (.lst [.int 0,.int 1])) k1 (.lst (ms.map V.int))) lc (.lst ([.int 0,.int 1]++ms.map V.int))=HC at glc gls' SM' sC
 have hms63:ms.length<=63:=by omega
 refine aE0 (K:=K) (a:=lc) (xs:=([0,1]++ms:List Int).map V.int) (fun i σ H'=>∃ e4 e5 e6 e7 vs,σ=[some (.ref sc),some (.ref l),some (.int (n:Int)),some (.ref ls),e4,e5,e6,e7,none,none,none]/\u9 H H'/\H' lc=some (.lst (([0,1]++ms:List Int).map V.int))/\H' ls=some (.lst vs)/\SmL H' ls n vs/\vs.length<=vs0.length+4*i) ⟨_,_,_,_,vs0,rfl,sC,glc,gls',SM',d5 _⟩ (fun i σ H' _ ⟨_,_,_,_,_,_,_,h,_⟩=>SqL.of h) ?_ ?_
 ·rintro i x σ Ha hx ⟨e4,e5,e6,e7,vs,rfl,sa,ga,gsa,SMa,hla⟩
  obtain⟨z,rfl⟩:=int_at hx
  have hi:i<65:=by
   have:=(c9.mp hx).1
   rw[b7,o6]at this
   simp only[t4,aY8]at this
   omega
  refine⟨_,rfl,_,_,rfl,rfl,⟨by decide,by decide,by decide⟩,_,_,rfl,rfl,p55,?_⟩
  refine Z5 fun c _=>?_
  obtain⟨y,hy,y0⟩:=bQ6 (c / 24 % 2) ⟨M0 _ (by decide),G6 _ (by decide)⟩
  refine⟨_,rfl,_,_,rfl,rfl,⟨by decide,by decide⟩,_,_,rfl,rfl,⟨by decide,by decide,by decide⟩,(by show 2<=j5;omega),fun k2 f2=>?_⟩
  have u2:=d9 (o:=.lst [.int 3,.int (10 ^ (as4 50))]) f2
  refine⟨_,rfl,_,_,rfl,rfl,⟨by decide,by decide⟩,_,_,rfl,rfl,(by show (0:Int)<2;decide),k2,_,_,_,rfl,rfl,SqL.of c6,hy,_,_,rfl,rfl,y0,?_⟩
  refine Z5 fun fr _=>?_
  refine⟨_,rfl,_,rfl,_,_,rfl,rfl,_,rfl,_,_,rfl,rfl,_,rfl,_,rfl,_,rfl,_,_,rfl,rfl,(by show 4<=j5;omega),fun k3 f3=>⟨k3,rfl,⟨_,SqL.of c6⟩,?_⟩⟩
  have u3:=d9 (o:=.lst [.int (-1 - fr),.int ((n:Int) - 1),.int (n:Int),.int ((n:Int)+fr)]) f3
  have u23:=u2.trans u3
  have g3:(upd (upd Ha k2 (.lst [.int 3,.int (10 ^ (as4 50))])) k3 (.lst [.int (-1 - fr),.int ((n:Int) - 1),.int (n:Int),.int ((n:Int)+fr)])) k3=some (.lst (([-1 - fr,(n:Int) - 1,(n:Int),(n:Int)+fr]:List Int).map V.int)):=c6
  have n3:k3≠ls:=fun z=>by rw[z,u2 _ _ gsa]at f3;cases f3
  have sa3:=sa.trans u23
  have ga3:=u23 _ _ ga
  have gsa3:=u23 _ _ gsa
  have SMa3:=SMa.mono fun r xs _ h=>u23 _ _ h
  generalize upd (upd Ha k2 (.lst [.int 3,.int (10 ^ (as4 50))])) k3 (.lst [.int (-1 - fr),.int ((n:Int) - 1),.int (n:Int),.int ((n:Int)+fr)])=Hb at g3 sa3 ga3 gsa3 SMa3 ⊢
  obtain⟨j,ej,hj⟩:=bH6 c (n:=n) n1
  refine aE0 (K:=K) (a:=k3) (xs:=([-1 - fr,(n:Int) - 1,(n:Int),(n:Int)+fr]:List Int).map V.int) (fun m σ H'=>∃ e6 e7 vs,σ=[some (.ref sc),some (.ref l),some (.int (n:Int)),some (.ref ls),some (.int c),some (.int fr),e6,e7,none,none,none]/\u9 H H'/\H' lc=some (.lst (([0,1]++ms:List Int).map V.int))/\H' k3=some (.lst (([-1 - fr,(n:Int) - 1,(n:Int),(n:Int)+fr]:List Int).map V.int))/\H' ls=some (.lst vs)/\SmL H' ls n vs/\vs.length<=vs0.length+4*i+m) ⟨_,_,vs,rfl,sa3,ga3,g3,gsa3,SMa3,hla⟩ (fun m σ H' _ ⟨_,_,_,_,_,_,h,_⟩=>SqL.of h) ?_ ?_
  ·rintro m x' σ Hd hx' ⟨e6,e7,vs,rfl,sd,gd,gk,gsd,SMd,hld⟩
   obtain⟨num,rfl⟩:=int_at hx'
   have hm:m<4:=(c9.mp hx').1
   refine B9 ?_
   obtain⟨_,r1,ts1,er1,gr1,lr1⟩:=id SMd
   refine⟨_,rfl,ls,_,_,_,rfl,rfl,SqL.of gsd,B8 er1,r1,_,rfl,.inl (SqL.of gr1),fun gd' fg=>?_⟩
   have w1:=d9 (o:=.lst (ts1.map V.int)) fg
   have ng:gd'≠ls:=fun z=>by rw[z,gsd]at fg;cases fg
   have ngc:gd'≠lc:=fun z=>by rw[z,gd]at fg;cases fg
   have ngk:gd'≠k3:=fun z=>by rw[z,gk]at fg;cases fg
   have fgH:H gd'=none:=sd.free fg
   refine⟨_,rfl,_,rfl,_,rfl,_,rfl,_,_,rfl,rfl,(by show (0:Int)<(n:Int);omega),gd',_,_,j,rfl,rfl,c6,by rw[ej,b7];exact ag0 (by omega),?_⟩
   have s8:u9 Hd (upd (upd Hd gd' (.lst (ts1.map V.int))) gd' (.lst ((ts1.map V.int).set j (.int num)))):=w1.upd fg
   have g8:(upd (upd Hd gd' (.lst (ts1.map V.int))) gd' (.lst ((ts1.map V.int).set j (.int num)))) gd'=some (.lst ((ts1.set j num).map V.int)):=by rw[c6,aL2]
   generalize upd (upd Hd gd' (.lst (ts1.map V.int))) gd' (.lst ((ts1.map V.int).set j (.int num)))=He at s8 g8 ⊢
   refine⟨_,rfl,.inl ⟨rfl,_,SqL.of (s8 _ _ gsd)⟩,_,rfl,ls,_,_,rfl,rfl,s8 _ _ gsd,by omega,?_⟩
   have keep:∀ r xs,r≠ls->He r=some (.lst xs)->(upd He ls (.lst (vs++[.ref gd']))) r=some (.lst xs):=fun r xs hn h=>by rw[r9 hn];exact h
   refine⟨_,_,vs++[.ref gd'],rfl,(sd.trans s8).upd fls,keep _ _ nlc (s8 _ _ gd),keep _ _ n3 (s8 _ _ gk),c6,((SMd.mono fun r xs _ h=>s8 _ _ h).mono keep).snoc ng (keep _ _ ng g8) (by rw[K3];omega),by rw[o6];show vs.length+1<=_;omega⟩
  ·rintro σ Hd ⟨e6,e7,vs,rfl,sd,gd,gk,gsd,SMd,hld⟩
   exact⟨_,_,_,_,vs,rfl,sd,gd,gsd,SMd,hld⟩
 rintro σ Hc ⟨e4,e5,e6,e7,vs,rfl,sc2,_,gsc,SMc,hlc⟩
 have tbc:=tb.same sc2
 clear SM' gls' glc sC nlc
 refine⟨_,rfl,ls,rfl,⟨_,SqL.of gsc⟩,aE0 (K:=K) (a:=ls) (xs:=vs) (fun _ σ H'=>∃ e8 e9 e10,σ=[some (.ref sc),some (.ref l),some (.int (n:Int)),some (.ref ls),e4,e5,e6,e7,e8,e9,e10]/\Gw PT PU Hc H'/\Tbs PT PU H') ⟨_,_,_,rfl,R5 (u9.refl Hc),tbc⟩ (fun i σ H' _ ⟨_,_,_,_,g,_⟩=>SqL.of (ag1 g tbc gsc)) ?_ ?_⟩
 ·rintro i x σ Ha hx ⟨e8,e9,e10,rfl,ga,tba⟩
  obtain⟨r,os,rfl,_,gr,hol⟩:=SMc.1 x (f9 hx)
  have gra:=ag1 ga tbc gr
  refine B9 ?_
  refine⟨3,rfl,by omega,by omega,Z6 (lo:=0) (n:=3) (fun _ σ H'=>∃ e9 e10,σ=[some (.ref sc),some (.ref l),some (.int (n:Int)),some (.ref ls),e4,e5,e6,e7,some (.ref r),e9,e10]/\Gw PT PU Ha H'/\Tbs PT PU H') ⟨_,_,rfl,R5 (u9.refl Ha),tba⟩ ?_ ?_⟩
  ·rintro way σ Hb hw ⟨e9,e10,rfl,gb,tbb⟩
   rw[show ((0:Int)+(way:Int))=(way:Int) by omega]
   refine B9 ?_
   have grb:=ag1 gb tba gra
   refine⟨_,rfl,r,_,rfl,.inl (SqL.of grb),fun lh fh=>?_⟩
   have s1':=d9 (o:=.lst (os.map V.int)) fh
   have gh:(upd Hb lh (.lst (os.map V.int))) lh=some (.lst (os.map V.int)):=c6
   have grc:=s1' _ _ grb
   have tbc':=tbb.same s1'
   have gbc:=gb.trans (R5 s1')
   generalize upd Hb lh (.lst (os.map V.int))=Hd at gh grc tbc' gbc ⊢
   refine⟨_,rfl,_,rfl,way,lh,os,rfl,by omega,.inl (SqL.of gh),tbc',fun q1 H1 g1' t1' e1'=>?_⟩
   have gh1:=ag1 g1' tbc' gh
   have gr1:=ag1 g1' tbc' grc
   refine⟨_,rfl,_,rfl,way,r,os,rfl,SqL.of gr1,hol,fun q2 H2 s2' e2'=>?_⟩
   refine bz5 hun (s2' _ _ e1') e2' ⟨_,rfl,O3 ?_⟩
   refine⟨_,rfl,_,rfl,bI6 hun (SqL.of (s2' _ _ gh1)) (SqL.of (s2' _ _ gr1)) ⟨_,rfl,O3 ?_⟩⟩
   have tb2:=t1'.same s2'
   have gr2:=s2' _ _ gr1
   refine⟨_,rfl,_,rfl,r,_,rfl,.inl ⟨SqL.of gr2,fun tp ftp=>?_⟩⟩
   have s3':=d9 (o:=.tup (os.map V.int)) ftp
   refine⟨way,tp,os,rfl,by omega,.inr (SqT.of c6),tb2.same s3',fun q3 H3 g3' t3' e3'=>?_⟩
   have gr3:=ag1 g3' (tb2.same s3') (s3' _ _ gr2)
   refine⟨_,rfl,_,rfl,way,r,os,rfl,SqL.of gr3,hol,fun q4 H4 s4' e4'=>?_⟩
   refine bz5 hun (s4' _ _ e3') e4' ⟨_,rfl,O3 ?_⟩
   exact⟨_,_,rfl,(((gbc.trans g1').trans (R5 (s2'.trans s3'))).trans g3').trans (R5 s4'),t3'.same s4'⟩
  ·rintro σ Hb ⟨e9,e10,rfl,gb,tbb⟩
   exact⟨_,_,_,rfl,ga.trans gb,tbb⟩
 ·rintro σ Ha ⟨e8,e9,e10,rfl,ga,tba⟩
  exact q _
theorem bU5 {fI fU fV fH fκ fθ fι fO fG fA fρ fM fβ fω fW fF fL fY fX fD fE fS fN fQ fψ fJ fη fν fC fK fα fP fσ fδ CT CW CN CX C3 C4 C5 C6 C7 d PT PU:Addr}{fdU fdV fdH fdκ fdθ fdι fdG fdρ fdM fdω fdW fdL fdY fdX fdD fdE fdS fdN fdQ fdψ fdJ fdη fdν fdK fdα fdP fdσ fdδ:FuncData}(F:Fun K "law" "law" ba7 f fd)(Bx:Bn mg)
  (mo:mg "MOST_PLACES"=some (.int 24 tk))
  (FI:Fq K mg "is_place" aT1 fI fdI ["places","number"])
  (FU:Fq K mg "turned_up" sUp fU fdU ["places","tie"])
  (FV:Fq K mg "made" aA8 fV fdV ["places","ties"])
  (FH:Fq K mg "tally_of" aA5 fH fdH ["web"])
  (Fκ:Fq K mg "all_pairs" br9 fκ fdκ ["places"])
  (Fθ:Fq K mg "other_web" bs0 fθ fdθ ["web"])
  (Fι:Fq K mg "is_told" aq0 fι fdι ["web"])
  (FT:Fq K mg "check_tally" at4 fT fdT ["tally"])
  (FO:Fq K mg "order_of" aS7 fO fdO ["tally"])
  (FG:Fq K mg "falling" aq1 fG fdG ["tally"])
  (FA:Fq K mg "room_among" af4 fA fdA ["numbers","most","r"])
  (Fρ:Fq K mg "room_with" aA6 fρ fdρ ["tally","most","r"])
  (FM:Fq K mg "room" aI2 fM fdM ["tally","r"])
  (Fβ:Fq K mg "places_below" af3 fβ fdβ ["numbers"])
  (Fω:Fq K mg "wall_with" as9 fω fdω ["tally","most"])
  (FW:Fq K mg "wall_of" aS5 fW fdW ["tally"])
  (FF:Fq K mg "first_of_order" at3 fF fdF ["tally","many","passed_over"])
  (FL:Fq K mg "left_of_others" aI4 fL fdL ["tally","place","ends"])
  (FY:Fq K mg "laid_around" aS9 fY fdY ["tally","place","ends"])
  (FX:Fq K mg "answered" bs4 fX fdX ["tally"])
  (FD:Fq K mg "least_where" aA4 fD fdD ["low","high","holds"])
  (FE:Fq K mg "above" bs5 fE fdE ["numbers","level","most"])
  (FS:Fq K mg "shares" ai4 fS fdS ["numbers","much","most"])
  (FN:Fq K mg "check_none_below" ba8 fN fdN ["tally"])
  (FQ:Fq K mg "off_by_want" aI3 fQ fdQ ["tally","want"])
  (Fψ:Fq K mg "lacks" aA9 fψ fdψ ["tally","web","much"])
  (FJ:Fq K mg "least_off" aI5 fJ fdJ ["tally"])
  (Fη:Fq K mg "least_on" bs2 fη fdη ["tally"])
  (Fν:Fq K mg "off_shows" aS8 fν fdν ["tally","told"])
  (FC:Fq K mg "_law_cell_at" aT2 fC fdC ["script","k"])
  (FK:Fq K mg "_law_mixed" bs1 fK fdK ["cell","k","bound"])
  (Fα:Fq K mg "_law_tally" br8 fα fdα ["script","most"])
  (FP:Fq K mg "_law_pairs" aA7 fP fdP ["places"])
  (Fσ:Fq K mg "_law_refusal" aS6 fσ fdσ ["way","tally"])
  (Fδ:Fq K mg "_law_due" bs3 fδ fdδ ["way","tally"])
  (Lc:cg4 K mg CT CB CW CN CX C3 C4 C5 C6 C7)(yN:ai5 K CN)(yX:ai5 K CX)(hc:fdO.code=.ref c)(LB:ar5 base mg c PT)(hd:fdS.code=.ref d)(LD:ar5 base mg d PU):x8 P w K mg base CX0 10 f fd ["script"] (aS1 K PT PU):=by
 have xB:=Lc.mB
 have yB:=Lc.cB
 have xW:=Lc.mW
 have yW:=Lc.cW
 have xN:=Lc.m1
 have xX:=Lc.m2
 have GT:x8 P w K mg base (CXE P w) 1 fT fdT ["tally"] (aI1 K CB):=aN8 FT.F Bx mo xB yB
 have GN:=bU9 (P:=P) (w:=w) (base:=base) FN.F FT GT Fβ (aC6 Fβ.F Bx) xW yW
 have GM:x8 P w K mg base (CXE P w) 3 fM fdM ["tally","r"] (aM3 K CB CN):=bG4 FM.F Bx FT FG FA Fρ mo xB yB xN yN
 have GS:x8 P w K mg base (CXE P w) 4 fS fdS ["numbers","much","most"] (bq4 K PU):=bU0 FS.F hd LD Bx FE FD
 have GX:x8 P w K mg base (CXE P w) 5 fX fdX ["tally"] (bq9 K CB PT):=bV0 FX.F Bx FI FU FV FO hc LB FT FF FL FY FW FG FA Fβ Fω mo xB yB
 have GV:x8 P w K mg base CX0 3 fV fdV ["places","ties"] (aM4 K):=bh0 FV.F Bx FI FU mo
 have Gι:x8 P w K mg base CX0 4 fι fdι ["web"] (aZ9 K):=bG3 Fι.F FV GV xX
 have GQ:=bG5 (P:=P) (w:=w) (base:=base) FQ.F Bx
 have Gψ:=bU4 (P:=P) (w:=w) (base:=base) Fψ.F Bx Fι (Gι.mono (by decide)) FH ((bT9 FH.F).mono (by decide)) Fβ ((aC6 Fβ.F Bx).mono (by decide))
 have Gν:=bG6 (P:=P) (w:=w) (base:=base) Fν.F Bx FN (GN.mono (by decide)) Fψ Gψ FQ (GQ.mono (by decide)) FM (GM.mono (by decide))
 have GJ:=bH0 (P:=P) (w:=w) (base:=base) FJ.F Bx FN (GN.mono (by decide)) FM (GM.mono (by decide)) FQ (GQ.mono (by decide)) FS (GS.mono (by decide)) FX GX
 have Gη:=bU6 (P:=P) (w:=w) (base:=base) Fη.F Bx FN (GN.mono (by decide)) FJ GJ Fθ ((bu4 Fθ.F Bx Fκ).mono (by decide))
 have Gσ:=bU1 (P:=P) (w:=w) (base:=base) Fσ.F Bx FJ (GJ.mono (by decide)) Fν (Gν.mono (by decide)) Fη (Gη.mono (by decide)) Lc
 exact bG8 F Bx Fα (x8.mono (bT8 Fα.F Bx FC FK FP) (by decide)) Fσ Gσ Fδ ((bU8 Fδ.F Bx).mono (by decide))
end
end Web
namespace Web
open PySem L2
def aw6 (K:W.Frag):List (Addr × Addr):=match PySem.W.tabIn K "order_of",PySem.W.tabIn K "shares" with
 | some q,some r=>[q,r]
 | _,_=>[]
def aT8 (K:W.Frag):Addr:=((PySem.W.tabIn K "order_of").getD (0,0)).2
def aT7 (K:W.Frag):Addr:=((PySem.W.tabIn K "shares").getD (0,0)).2
theorem ls1 {p:List Value->Prop}(h:∀ x0,p [x0]):∀ us,us.length=1->p us
 | [x0],_=>h x0
theorem ls2 {p:List Value->Prop}(h:∀ x0 x1,p [x0,x1]):∀ us,us.length=2->p us
 | [x0,x1],_=>h x0 x1
theorem ls3 {p:List Value->Prop}(h:∀ x0 x1 x2,p [x0,x1,x2]):∀ us,us.length=3->p us
 | [x0,x1,x2],_=>h x0 x1 x2
theorem fq {K:W.Frag}{mg:Str->Option Value}{st:Stmt}(X:K.In h)(G:h.Ns d8 mg)(a:i7 K d8 x=some (some (.ref f)))(F:Fun K x x st f fd)
  (b:∀ (kV doc pm:Value) (an:Option Addr) (cdv ct:Value) (us:List Value),us.length=ps.length->be1 (V8 x x (al7 st) (S7 st) (p5 st) .none kV doc pm an cdv ct) ⟨us,[]⟩=pure (ps.zip us)):Fq K mg x st f fd ps:=⟨F,F.binds b,F7 X G a⟩
set_option maxHeartbeats 0 in
theorem all_mk {l:PySem.W.OpenLaw}{K:W.Frag}{mg:Str->Option Value}{fa fI fU fV fH fκ fθ fι fO fG fA fρ fM fβ fω fW fF fL fY fX fD fE fS fN fQ fψ fJ fη fν fC fK fα fP fσ fδ fZ CTallyError CBadWeb CBadTally CNoPlace CBadNumber CNoWeb CNoExchange CUnlike CTooMany CNoText:Addr}{cdBadTally:ClassData}{cdNoWeb:ClassData}(X:K.In h)(G:h.Ns d8 mg)(hfa:mg "law"=some (.ref fa))
  {fdU fdV fdH fdκ fdθ fdι fdG fdρ fdM fdω fdW fdL fdY fdX fdD fdE fdS fdN fdQ fdψ fdJ fdη fdν fdK fdα fdP fdσ fdδ fdZ:FuncData}
  (aI:i7 K d8 "is_place"=some (some (.ref fI)))(FI:Fun K "is_place" "is_place" aT1 fI fdI)
  (aU:i7 K d8 "turned_up"=some (some (.ref fU)))(FU:Fun K "turned_up" "turned_up" sUp fU fdU)
  (aV:i7 K d8 "made"=some (some (.ref fV)))(FV:Fun K "made" "made" aA8 fV fdV)
  (aH:i7 K d8 "tally_of"=some (some (.ref fH)))(FH:Fun K "tally_of" "tally_of" aA5 fH fdH)
  (aκ:i7 K d8 "all_pairs"=some (some (.ref fκ)))(Fκ:Fun K "all_pairs" "all_pairs" br9 fκ fdκ)
  (aθ:i7 K d8 "other_web"=some (some (.ref fθ)))(Fθ:Fun K "other_web" "other_web" bs0 fθ fdθ)
  (aι:i7 K d8 "is_told"=some (some (.ref fι)))(Fι:Fun K "is_told" "is_told" aq0 fι fdι)
  (aT:i7 K d8 "check_tally"=some (some (.ref fT)))(FT:Fun K "check_tally" "check_tally" at4 fT fdT)
  (aO:i7 K d8 "order_of"=some (some (.ref fO)))(FO:Fun K "order_of" "order_of" aS7 fO fdO)
  (aG:i7 K d8 "falling"=some (some (.ref fG)))(FG:Fun K "falling" "falling" aq1 fG fdG)
  (aA:i7 K d8 "room_among"=some (some (.ref fA)))(FA:Fun K "room_among" "room_among" af4 fA fdA)
  (aρ:i7 K d8 "room_with"=some (some (.ref fρ)))(Fρ:Fun K "room_with" "room_with" aA6 fρ fdρ)
  (aM:i7 K d8 "room"=some (some (.ref fM)))(FM:Fun K "room" "room" aI2 fM fdM)
  (aβ:i7 K d8 "places_below"=some (some (.ref fβ)))(Fβ:Fun K "places_below" "places_below" af3 fβ fdβ)
  (aω:i7 K d8 "wall_with"=some (some (.ref fω)))(Fω:Fun K "wall_with" "wall_with" as9 fω fdω)
  (aW:i7 K d8 "wall_of"=some (some (.ref fW)))(FW:Fun K "wall_of" "wall_of" aS5 fW fdW)
  (aF:i7 K d8 "first_of_order"=some (some (.ref fF)))(FF:Fun K "first_of_order" "first_of_order" at3 fF fdF)
  (aL:i7 K d8 "left_of_others"=some (some (.ref fL)))(FL:Fun K "left_of_others" "left_of_others" aI4 fL fdL)
  (aY:i7 K d8 "laid_around"=some (some (.ref fY)))(FY:Fun K "laid_around" "laid_around" aS9 fY fdY)
  (aX:i7 K d8 "answered"=some (some (.ref fX)))(FX:Fun K "answered" "answered" bs4 fX fdX)
  (aD:i7 K d8 "least_where"=some (some (.ref fD)))(FD:Fun K "least_where" "least_where" aA4 fD fdD)
  (aE:i7 K d8 "above"=some (some (.ref fE)))(FE:Fun K "above" "above" bs5 fE fdE)
  (aS:i7 K d8 "shares"=some (some (.ref fS)))(FS:Fun K "shares" "shares" ai4 fS fdS)
  (aN:i7 K d8 "check_none_below"=some (some (.ref fN)))(FN:Fun K "check_none_below" "check_none_below" ba8 fN fdN)
  (aQ:i7 K d8 "off_by_want"=some (some (.ref fQ)))(FQ:Fun K "off_by_want" "off_by_want" aI3 fQ fdQ)
  (aψ:i7 K d8 "lacks"=some (some (.ref fψ)))(Fψ:Fun K "lacks" "lacks" aA9 fψ fdψ)
  (aJ:i7 K d8 "least_off"=some (some (.ref fJ)))(FJ:Fun K "least_off" "least_off" aI5 fJ fdJ)
  (aη:i7 K d8 "least_on"=some (some (.ref fη)))(Fη:Fun K "least_on" "least_on" bs2 fη fdη)
  (aν:i7 K d8 "off_shows"=some (some (.ref fν)))(Fν:Fun K "off_shows" "off_shows" aS8 fν fdν)
  (aC:i7 K d8 "_law_cell_at"=some (some (.ref fC)))(FC:Fun K "_law_cell_at" "_law_cell_at" aT2 fC fdC)
  (aK:i7 K d8 "_law_mixed"=some (some (.ref fK)))(FK:Fun K "_law_mixed" "_law_mixed" bs1 fK fdK)
  (aα:i7 K d8 "_law_tally"=some (some (.ref fα)))(Fα:Fun K "_law_tally" "_law_tally" br8 fα fdα)
  (aP:i7 K d8 "_law_pairs"=some (some (.ref fP)))(FP:Fun K "_law_pairs" "_law_pairs" aA7 fP fdP)
  (aσ:i7 K d8 "_law_refusal"=some (some (.ref fσ)))(Fσ:Fun K "_law_refusal" "_law_refusal" aS6 fσ fdσ)
  (aδ:i7 K d8 "_law_due"=some (some (.ref fδ)))(Fδ:Fun K "_law_due" "_law_due" bs3 fδ fdδ)
  (aZ:i7 K d8 "law"=some (some (.ref fZ)))(FZ:Fun K "law" "law" ba7 fZ fdZ)
  (mo:i7 K d8 "MOST_PLACES"=some (some (.int 24 tk)))
  (aTallyError:i7 K d8 "TallyError"=some (some (.ref CTallyError)))
  (aBadWeb:i7 K d8 "BadWeb"=some (some (.ref CBadWeb)))
  (aBadTally:i7 K d8 "BadTally"=some (some (.ref CBadTally)))
  (aNoPlace:i7 K d8 "NoPlace"=some (some (.ref CNoPlace)))
  (aBadNumber:i7 K d8 "BadNumber"=some (some (.ref CBadNumber)))
  (aNoWeb:i7 K d8 "NoWeb"=some (some (.ref CNoWeb)))
  (aNoExchange:i7 K d8 "NoExchange"=some (some (.ref CNoExchange)))
  (aUnlike:i7 K d8 "Unlike"=some (some (.ref CUnlike)))
  (aTooMany:i7 K d8 "TooMany"=some (some (.ref CTooMany)))
  (aNoText:i7 K d8 "NoText"=some (some (.ref CNoText)))
  (qBadTally:PySem.W.excIn K CBadTally [.type "ValueError",.type "Exception",.type "BaseException",.type "object"] "ValueError.__new__"=true)
  (gaBadTally:PySem.W.findIn K (.ref CBadTally) "__getattribute__"=some (some (.builtin "BaseException.__getattribute__")))
  (naBadTally:PySem.W.findIn K (.ref CBadTally) "__getattr__"=some none)
  (clBadTally:PySem.W.findIn K (.ref CBadTally) "__class__"=some (some (.builtin "object.__class__")))
  (sbBadTally:PySem.W.subIn K (.ref CBadTally) (.type "BaseException")=some true)
  (soBadTally:PySem.W.subIn K (.ref CBadTally) (.type "object")=some true)
  (csBadTally:ca1 K CBadTally=some cdBadTally)
  (xmBadTally:PySem.W.exmOne K (.ref CBadTally) (.ref CTallyError)=some true)
  (i0BadTally:PySem.W.kitOne K (.ref CBadTally) (.type "ValueError")=some true)
  (i1BadTally:PySem.W.kitOne K (.ref CBadTally) (.ref CBadTally)=some true)
  (i2BadTally:PySem.W.kitOne K (.ref CBadTally) (.ref CNoWeb)=some false)
  (i3BadTally:PySem.W.kitAny K (.ref CBadTally) [.ref CBadNumber,.ref CBadWeb,.ref CNoExchange,.ref CNoPlace,.ref CNoText,.ref CTooMany,.ref CUnlike]=some false)
  (qNoWeb:PySem.W.excIn K CNoWeb [.type "ValueError",.type "Exception",.type "BaseException",.type "object"] "ValueError.__new__"=true)
  (gaNoWeb:PySem.W.findIn K (.ref CNoWeb) "__getattribute__"=some (some (.builtin "BaseException.__getattribute__")))
  (naNoWeb:PySem.W.findIn K (.ref CNoWeb) "__getattr__"=some none)
  (clNoWeb:PySem.W.findIn K (.ref CNoWeb) "__class__"=some (some (.builtin "object.__class__")))
  (sbNoWeb:PySem.W.subIn K (.ref CNoWeb) (.type "BaseException")=some true)
  (soNoWeb:PySem.W.subIn K (.ref CNoWeb) (.type "object")=some true)
  (csNoWeb:ca1 K CNoWeb=some cdNoWeb)
  (xmNoWeb:PySem.W.exmOne K (.ref CNoWeb) (.ref CTallyError)=some true)
  (i0NoWeb:PySem.W.kitOne K (.ref CNoWeb) (.type "ValueError")=some true)
  (i1NoWeb:PySem.W.kitOne K (.ref CNoWeb) (.ref CBadTally)=some false)
  (i2NoWeb:PySem.W.kitOne K (.ref CNoWeb) (.ref CNoWeb)=some true)
  (i3NoWeb:PySem.W.kitAny K (.ref CNoWeb) [.ref CBadNumber,.ref CBadWeb,.ref CNoExchange,.ref CNoPlace,.ref CNoText,.ref CTooMany,.ref CUnlike]=some false)
  (qBadNumber:PySem.W.excIn K CBadNumber [.type "ValueError",.type "Exception",.type "BaseException",.type "object"] "ValueError.__new__"=true)
  (xmBadNumber:PySem.W.exmOne K (.ref CBadNumber) (.ref CBadNumber)=some true)
  (qBadWeb:PySem.W.excIn K CBadWeb [.type "ValueError",.type "Exception",.type "BaseException",.type "object"] "ValueError.__new__"=true)
  (xmBadWeb:PySem.W.exmOne K (.ref CBadWeb) (.ref CBadWeb)=some true)
  (tb:(PySem.W.tabIn K "order_of").isSome=true)
  (tb2:(PySem.W.tabIn K "shares").isSome=true)
  (z1:i7 K d8 "len"=some none)
  (z2:i7 K d8 "range"=some none)
  (z3:i7 K d8 "enumerate"=some none)
  (z4:i7 K d8 "list"=some none)
  (z5:i7 K d8 "tuple"=some none)
  (z6:i7 K d8 "sorted"=some none)
  (z7:i7 K d8 "set"=some none)
  (z8:i7 K d8 "isinstance"=some none)
  (z9:i7 K d8 "int"=some none)
  (z10:i7 K d8 "bool"=some none)
  (z11:i7 K d8 "min"=some none)
  (z12:i7 K d8 "max"=some none)
  (z13:i7 K d8 "sum"=some none)
  (z14:i7 K d8 "str"=some none)
  (z15:i7 K d8 "ValueError"=some none)
  (z16:i7 K d8 "all"=some none)
  (z17:i7 K d8 "zip"=some none) :
  ∃ fd:FuncData,(∀ (s:Shared) (v:Value),bj7 s fd ⟨[v],[]⟩ [("script",v)])/\∀ base:Heap,K.In base->base.Ns d8 mg->(∀ q∈aw6 K,ar5 base mg q.1 q.2)->x8 l.prog w K mg base CX0 10 fa fd ["script"] (aS1 K (aT8 K) (aT7 K)):=by
 have e:=hfa.symm.trans (F7 X G aZ)
 cases e
 have B:Bn mg:=⟨v8 X G z1,v8 X G z2,v8 X G z3,v8 X G z4,v8 X G z5,v8 X G z6,v8 X G z7,v8 X G z8,v8 X G z9,v8 X G z10,v8 X G z11,v8 X G z12,v8 X G z13,v8 X G z14,v8 X G z15,v8 X G z16,v8 X G z17⟩
 obtain⟨⟨c,PT⟩,hcp⟩:=p6.mp tb
 obtain⟨⟨d,PU⟩,hdp⟩:=p6.mp tb2
 obtain⟨_,_,_,_,_,_,_,_,_,_,lO,_⟩:=FO.ex
 have hc:=aR8 hcp aO lO
 obtain⟨_,_,_,_,_,_,_,_,_,_,lS,_⟩:=FS.ex
 have hd:=aR8 hdp aS lS
 have ept:aT8 K=PT:=by unfold aT8;rw[hcp];rfl
 have epu:aT7 K=PU:=by unfold aT7;rw[hdp];rfl
 have ets:aw6 K=[(c,PT),(d,PU)]:=by unfold aw6;rw[hcp,hdp]
 rw[ept,epu,ets]
 obtain⟨_,_,y1,y2,y3,y4,y5,y6,_,rfl,_,_⟩:=FZ.ex
 exact⟨V8 "law" "law" (al7 ba7) (S7 ba7) (p5 ba7) .none y1 y2 y3 y4 y5 y6,fun s v=>.of_eq rfl,fun base _ _ hL=>bU5 FZ B (F7 X G mo) (fq X G aI FI fun _ _ _ _ _ _=>ls2 fun _ _=>rfl) (fq X G aU FU fun _ _ _ _ _ _=>ls2 fun _ _=>rfl) (fq X G aV FV fun _ _ _ _ _ _=>ls2 fun _ _=>rfl) (fq X G aH FH fun _ _ _ _ _ _=>ls1 fun _=>rfl) (fq X G aκ Fκ fun _ _ _ _ _ _=>ls1 fun _=>rfl) (fq X G aθ Fθ fun _ _ _ _ _ _=>ls1 fun _=>rfl) (fq X G aι Fι fun _ _ _ _ _ _=>ls1 fun _=>rfl) (fq X G aT FT fun _ _ _ _ _ _=>ls1 fun _=>rfl) (fq X G aO FO fun _ _ _ _ _ _=>ls1 fun _=>rfl) (fq X G aG FG fun _ _ _ _ _ _=>ls1 fun _=>rfl) (fq X G aA FA fun _ _ _ _ _ _=>ls3 fun _ _ _=>rfl) (fq X G aρ Fρ fun _ _ _ _ _ _=>ls3 fun _ _ _=>rfl) (fq X G aM FM fun _ _ _ _ _ _=>ls2 fun _ _=>rfl) (fq X G aβ Fβ fun _ _ _ _ _ _=>ls1 fun _=>rfl) (fq X G aω Fω fun _ _ _ _ _ _=>ls2 fun _ _=>rfl) (fq X G aW FW fun _ _ _ _ _ _=>ls1 fun _=>rfl) (fq X G aF FF fun _ _ _ _ _ _=>ls3 fun _ _ _=>rfl) (fq X G aL FL fun _ _ _ _ _ _=>ls3 fun _ _ _=>rfl) (fq X G aY FY fun _ _ _ _ _ _=>ls3 fun _ _ _=>rfl) (fq X G aX FX fun _ _ _ _ _ _=>ls1 fun _=>rfl) (fq X G aD FD fun _ _ _ _ _ _=>ls3 fun _ _ _=>rfl) (fq X G aE FE fun _ _ _ _ _ _=>ls3 fun _ _ _=>rfl) (fq X G aS FS fun _ _ _ _ _ _=>ls3 fun _ _ _=>rfl) (fq X G aN FN fun _ _ _ _ _ _=>ls1 fun _=>rfl) (fq X G aQ FQ fun _ _ _ _ _ _=>ls2 fun _ _=>rfl) (fq X G aψ Fψ fun _ _ _ _ _ _=>ls3 fun _ _ _=>rfl) (fq X G aJ FJ fun _ _ _ _ _ _=>ls1 fun _=>rfl) (fq X G aη Fη fun _ _ _ _ _ _=>ls1 fun _=>rfl) (fq X G aν Fν fun _ _ _ _ _ _=>ls2 fun _ _=>rfl) (fq X G aC FC fun _ _ _ _ _ _=>ls2 fun _ _=>rfl) (fq X G aK FK fun _ _ _ _ _ _=>ls3 fun _ _ _=>rfl) (fq X G aα Fα fun _ _ _ _ _ _=>ls2 fun _ _=>rfl) (fq X G aP FP fun _ _ _ _ _ _=>ls1 fun _=>rfl) (fq X G aσ Fσ fun _ _ _ _ _ _=>ls2 fun _ _=>rfl) (fq X G aδ Fδ fun _ _ _ _ _ _=>ls2 fun _ _=>rfl) ⟨F7 X G aTallyError,F7 X G aBadTally,F7 X G aNoWeb,F7 X G aBadNumber,F7 X G aBadWeb,F7 X G aNoExchange,F7 X G aNoPlace,F7 X G aNoText,F7 X G aTooMany,F7 X G aUnlike,⟨qBadTally⟩,⟨gaBadTally,naBadTally,clBadTally,sbBadTally,soBadTally,by rw[csBadTally];rfl⟩,xmBadTally,i0BadTally,i1BadTally,i2BadTally,i3BadTally,⟨qNoWeb⟩,⟨gaNoWeb,naNoWeb,clNoWeb,sbNoWeb,soNoWeb,by rw[csNoWeb];rfl⟩,xmNoWeb,i0NoWeb,i1NoWeb,i2NoWeb,i3NoWeb⟩ ⟨qBadNumber⟩ ⟨qBadWeb⟩ hc (hL (c,PT) g9) hd (hL (d,PU) (d3 _ g9))⟩
theorem walk {l:PySem.W.OpenLaw} {q:Program} {loose:List Str} {d:DefRec} {K:Params->PySem.W.Frag} (hn:l.most=some 63) (hdf:d.params.defaults=[])
  (hY:∀ (w:World) (h:Heap),YP w h->(K w.params).In h) (hK0:∀ w:World,PySem.W.noTabs (K w.params)=true) (hrec:((PyProof.Rows.recsOf q).find? (fun e=>e.name == ("order_of":Str))).isSome=true) (htb:∀ w:World,(PySem.W.tabIn (K w.params) "order_of").isSome=true) (hrec2:((PyProof.Rows.recsOf q).find? (fun e=>e.name == ("shares":Str))).isSome=true) (htb2:∀ w:World,(PySem.W.tabIn (K w.params) "shares").isSome=true) (hne:∀ w:World,decide (aT8 (K w.params)=aT7 (K w.params))=false)
  (F : ∀ (w : World) (mg : Str -> Option Value) (fa : Addr) (h : Heap), (K w.params).In h -> h.Ns d8 mg -> mg d.name = some (.ref fa) ->
   ∃ fd:FuncData,(∀ (s:Shared) (u:Value),bj7 s fd ⟨[u],[]⟩ [("script",u)])/\∀ base:Heap,(K w.params).In base->base.Ns d8 mg->(∀ q∈aw6 (K w.params),ar5 base mg q.1 q.2)->x8 l.prog w (K w.params) mg base CX0 10 fa fd ["script"] (aS1 (K w.params) (aT8 (K w.params)) (aT7 (K w.params)))) :
  PySem.W.WalkO q loose XP YP l.row.toRowW d [] (fun f vs=>PySem.call f vs):=by
 refine L2.walk_ofT (n:=63) (k:=10) (x:="script") (CX:=fun _=>CX0) (sp:=fun w _=>aS1 (K w.params) (aT8 (K w.params)) (aT7 (K w.params))) (ts:=fun w=>aw6 (K w.params)) hn (by decide) hdf ⟨rfl,by decide,by decide⟩ hY hK0 (fun w loose mean mg mb h T X=>?_) F (fun w H a ns hl hT hS=>?_) fun _ _ _ _ _ z=>z
 ·obtain⟨⟨c,PT⟩,hcp⟩:=p6.mp (htb w)
  obtain⟨⟨e,PU⟩,hep⟩:=p6.mp (htb2 w)
  obtain⟨d',hd'⟩:=p6.mp hrec
  obtain⟨d2,hd2⟩:=p6.mp hrec2
  have ets:aw6 (K w.params)=[(c,PT),(e,PU)]:=by unfold aw6;rw[hcp,hep]
  show PySem.W.TabsAt (aw6 (K w.params)) h
  rw[ets]
  intro r hr
  rcases d4.mp hr with hr | hr
  ·rw[hr]
   exact PySem.W.tab_of T X hd' hcp
  ·rw[C9.mp hr]
   exact PySem.W.tab_of T X hd2 hep
 ·obtain⟨⟨c,PT⟩,hcp⟩:=p6.mp (htb w)
  obtain⟨⟨e,PU⟩,hep⟩:=p6.mp (htb2 w)
  have ets:aw6 (K w.params)=[(c,PT),(e,PU)]:=by unfold aw6;rw[hcp,hep]
  have ept:aT8 (K w.params)=PT:=by unfold aT8;rw[hcp];rfl
  have epu:aT7 (K w.params)=PU:=by unfold aT7;rw[hep];rfl
  have hn:=of_decide_eq_false (hne w)
  refine⟨a,ns,rfl,hS,hl,?_,?_,hn,fun _=>rfl⟩
  ·rw[ept]
   exact⟨#[],hT (c,PT) (by show (c,PT)∈aw6 (K w.params);rw[ets];exact g9),trivial,.inl rfl⟩
  ·rw[epu]
   exact⟨#[],hT (e,PU) (by show (e,PU)∈aw6 (K w.params);rw[ets];exact d3 _ g9),trivial,.inl rfl⟩
end Web
set_option Elab.async false
namespace PySem.W.Fast
def tw6844322731976609362:=0
def tw1669726144565530117:=0
def tw3411372143317581694:=0
def tw12675046985054495098:=0
def tw13825925266269398109:=0
def tw4998587352426181478:=0
def tw10736669338601917643:=0
def tw8806110106890734610:=0
def tw6546124809863219289:=0
def tw9588302184413447263:=0
def tw16210780896451431974:=0
def tw433934921432778171:=0
def tw13209756257893483291:=0
def tw13153741714689330158:=0
def tw7206443544447542930:=0
def tw9941037909280795149:=0
def tw311877117647652396:=0
def tw11491581885249715638:=0
def tw3937488763975347721:=0
def tw11209115306832372573:=0
def tw13149462368567570305:=0
def tw14465618853356912856:=0
def tw11080365330392479441:=0
def tw6010429850052388125:=0
def tw5430827197812064945:=0
def tw2701469129815806718:=0
def tw416001461384197904:=0
def tw18027327144141890877:=0
def tw3439516657707811005:=0
def tw12432787874872085180:=0
def tw3888239780325033979:=0
def tw1724552708816646262:=0
def tw18252648313624266944:=0
def tw10774472992162961020:=0
def tw1278437234766002068:=0
def tw15167134800244271175:=0
def tw11447898684847520717:=0
def tw14099091282648455778:=0
def tw17448868699050520378:=0
def tw6379827076050183174:=0
def tw7931725678109180794:=0
def tw7390603414084982409:=0
def tw6104195933927293247:=0
def tw3011996725675041990:=0
def tw94971230401407244:=0
def tw583396426732495201:=0
def tw7708909912444754152:=0
def tw3235698697188155945:=0
def tw10545623290107162309:=0
def tw2458367866513041891:=0
def tw9226468346587028082:=0
def tw1910345576121521740:=0
def tw362829463619839284:=0
def tw1473797298464496521:=0
def tw16423888140126597706:=0
def tw1407274914310788246:=0
def tw5402458902427447457:=0
def tw5212677607746989916:=0
def tw6793132409354286609:=0
def tw7771156911717136219:=0
def tw16185977730892603491:=0
def tw18376579494756630639:=0
def tw1937877967162612423:=0
def tw5709133119042317121:=0
def tw16621673732179874950:=0
def tw8829161163680523036:=0
def tw4101077168822004394:=0
def tw15407949961334571693:=0
def tw17199664330308477881:=0
def tw2699947478407587123:=0
def tw12997324017353959413:=0
def tw17304949387938327954:=0
def tw6083294233797924931:=0
def tw7014796185192316364:=0
def tw1036532645394906579:=0
def tw10596140719390812999:=0
def tw11210132039393248646:=0
def tw10462622843058407930:=0
def tw9810404062561446810:=0
def tw4075968308585940142:=0
def tw11022305622775370562:=0
def tw9416722519616667594:=0
def tw4251658087780296045:=0
def tw11532703284853182233:=0
def tw1711519468610574251:=0
def tw15479835243202060247:=0
def tw7217814838110020152:=0
def tw16678566508425946469:=0
def tw9409455894663569752:=0
def tw8625577307908341090:=0
def tw10820726488768405766:=0
def tw4435633154322052150:=0
def tw11357344848293921614:=0
def tw3951903760947876432:=0
def tw2977357680156653642:=0
def tw17888181591338876163:=0
def tw15959255607594297750:=0
def tw10362968852083906643:=0
def tw17596461632936193584:=0
def tw6364882937838090989:=0
def tw13664249014164468445:=0
def tw11632790977202020204:=0
def tw12095056560847645817:=0
def tw8356559872104666618:=0
def tw10131619849800204579:=0
def tw2039424369140154378:=0
def tw11776499061551219475:=0
def tw1994256730190808341:=0
def tw16101202679267568557:=0
def tw3396036380455950901:=0
def tw7399107997407760239:=0
def tw14066730351479843894:=0
def tw14475059170785816918:=0
def tw11160181285085441418:=0
def tw11961696172132206073:=0
def tw18125553457405021512:=0
def tw11264477428460724421:=0
def tw2486833859972914576:=0
def tw16478096566165037851:=0
def tw15256987587964722240:=0
def tw247715479165054988:=0
def tw17576612615766460482:=0
def tw13507051259960658346:=0
def tw12910895833099639452:=0
def tw7925182907924213981:=0
def tw16755389840047327144:=0
def tw16794100565655358171:=0
def tw10217519895145620429:=0
def tw1701621404762240250:=0
def tw9820771605960127170:=0
def tw13589128355898080793:=0
def tw2134322129950268025:=0
def tw16184988045068618393:=0
def tw5452845992305660483:=0
def tw11617935602643293480:=0
def tw14541609995689678860:=0
def tw17273537562206351048:=0
def tw8746428679807784451:=0
def tw12901861439067220968:=0
def tw1414176262492759175:=0
def tw17507835188998569385:=0
def tw10203730295922975517:=0
def tw10238133596063283556:=0
def tw5414503731373698661:=0
def tw17768608526551169938:=0
def tw2913328876059702027:=0
def tw9422827302868778486:=0
def tw5501579974950240267:=0
def tw320332501157008974:=0
def tw8293191466322613742:=0
def tw9172458010984657614:=0
def tw12819187632266072751:=0
def tw4617868061385737227:=0
def tw13291097974850944975:=0
def tw10807418958112952490:=0
def tw13477152118158613490:=0
def tw12134713621488558141:=0
def tw4847166148951040906:=0
def tw2191615874543758873:=0
def tw2232224385685494522:=0
def tw9173205407743894625:=0
def tw971272942151189589:=0
def tw17595919965284873185:=0
def tw6628259063823846915:=0
def tw8456933930141647572:=0
def tw3725549575769118710:=0
def tw17662902281368297401:=0
def tw3400569168884617183:=0
def tw3597737878377759522:=0
def tw11445719374521105495:=0
def tw6768302202658498299:=0
def tw2298326766580141936:=0
def tw1734416069943203721:=0
def tw7925199069618929163:=0
def tw8282643965106627065:=0
def tw5398325868380332808:=0
def tw9706213992047975745:=0
def tw14442217953302975385:=0
def tw3536664224410210051:=0
def tw12896976442026333406:=0
def tw9136236845432701700:=0
def tw10917256233410414855:=0
def tw12885868740975158715:=0
def tw15894498287495246373:=0
def tw9726649226742076531:=0
def tw1812972113158046823:=0
def tw6940278607911683350:=0
def tw15177322047720659183:=0
def tw15667369388067293037:=0
def tw11601459576826928219:=0
def tw10001216577437182753:=0
def tw7382258802687127915:=0
def tw8568138349824819463:=0
def tw13440995593212006362:=0
def tw6353098985324142608:=0
def tw1627554168564689649:=0
def tw15336070878340583853:=0
def tw8982216408469013295:=0
def tw10406984859610319327:=0
def tw15963973906576570632:=0
def tw8921930877920760233:=0
def tw13039600358620184516:=0
def tw17929093256382019164:=0
def tw18014421181925469377:=0
def tw11940284443284833389:=0
def tw15294333025065540215:=0
def tw13856409937672580994:=0
def tw2374539326627724589:=0
def tw8447708514328200975:=0
def tw14640867671908372251:=0
def tw14528793837285809900:=0
def tw9422262821234093819:=0
def tw8303110285205460333:=0
def tw2621254818602660828:=0
def tw8126938147206394565:=0
def tw17469939208218714925:=0
def tw2541934752784240307:=0
def tw6955113324657754719:=0
def tw5924594647291715808:=0
def tw11774437116324436301:=0
def tw470698706756504320:=0
def tw12805241215647027436:=0
def tw11621245739313281038:=0
def tw11006265054751588593:=0
def tw17080643059836687065:=0
end PySem.W.Fast
open PySem PySem.W PyProof.Rows
set_option maxRecDepth 100000 in
set_option maxHeartbeats 0 in
theorem PySem.Challenge.cw_tallyweb_k54_changes_refused_holds : PySem.Challenge.rw_tallyweb_k54_changes_refused.Holds := by
 w_on; o_law; k_head; (case hw => w_witness2)
 k_fill
 refine Web.walk (l := PySem.Challenge.rw_tallyweb_k54_changes_refused) rfl rfl (fun w h Y => PySem.W.km_in_of Y) ?hN0 ?hR0 ?hT0 ?hR1 ?hT1 ?hE0 ?F
 case hN0 => intro w; kernel_rfl
 case hR0 => kernel_rfl
 case hT0 => intro w; kernel_rfl
 case hR1 => kernel_rfl
 case hT1 => intro w; kernel_rfl
 case hE0 => intro w; kernel_rfl
 case F =>
  intro w mg fa h KX G hmg
  refine' Web.all_mk KX G hmg ?aI (L2.fun_mk ?lI ?cI ?kI) ?aU (L2.fun_mk ?lU ?cU ?kU) ?aV (L2.fun_mk ?lV ?cV ?kV) ?aH (L2.fun_mk ?lH ?cH ?kH) ?aκ (L2.fun_mk ?lκ ?cκ ?kκ) ?aθ (L2.fun_mk ?lθ ?cθ ?kθ) ?aι (L2.fun_mk ?lι ?cι ?kι) ?aT (L2.fun_mk ?lT ?cT ?kT) ?aO (L2.fun_mk ?lO ?cO ?kO) ?aG (L2.fun_mk ?lG ?cG ?kG) ?aA (L2.fun_mk ?lA ?cA ?kA) ?aρ (L2.fun_mk ?lρ ?cρ ?kρ) ?aM (L2.fun_mk ?lM ?cM ?kM) ?aβ (L2.fun_mk ?lβ ?cβ ?kβ) ?aω (L2.fun_mk ?lω ?cω ?kω) ?aW (L2.fun_mk ?lW ?cW ?kW) ?aF (L2.fun_mk ?lF ?cF ?kF) ?aL (L2.fun_mk ?lL ?cL ?kL) ?aY (L2.fun_mk ?lY ?cY ?kY) ?aX (L2.fun_mk ?lX ?cX ?kX) ?aD (L2.fun_mk ?lD ?cD ?kD) ?aE (L2.fun_mk ?lE ?cE ?kE) ?aS (L2.fun_mk ?lS ?cS ?kS) ?aN (L2.fun_mk ?lN ?cN ?kN) ?aQ (L2.fun_mk ?lQ ?cQ ?kQ) ?aψ (L2.fun_mk ?lψ ?cψ ?kψ) ?aJ (L2.fun_mk ?lJ ?cJ ?kJ) ?aη (L2.fun_mk ?lη ?cη ?kη) ?aν (L2.fun_mk ?lν ?cν ?kν) ?aC (L2.fun_mk ?lC ?cC ?kC) ?aK (L2.fun_mk ?lK ?cK ?kK) ?aα (L2.fun_mk ?lα ?cα ?kα) ?aP (L2.fun_mk ?lP ?cP ?kP) ?aσ (L2.fun_mk ?lσ ?cσ ?kσ) ?aδ (L2.fun_mk ?lδ ?cδ ?kδ) ?aZ (L2.fun_mk ?lZ ?cZ ?kZ) ?mo ?aTallyError ?aBadWeb ?aBadTally ?aNoPlace ?aBadNumber ?aNoWeb ?aNoExchange ?aUnlike ?aTooMany ?aNoText ?qBadTally ?gaBadTally ?naBadTally ?clBadTally ?sbBadTally ?soBadTally ?csBadTally ?xmBadTally ?i0BadTally ?i1BadTally ?i2BadTally ?i3BadTally ?qNoWeb ?gaNoWeb ?naNoWeb ?clNoWeb ?sbNoWeb ?soNoWeb ?csNoWeb ?xmNoWeb ?i0NoWeb ?i1NoWeb ?i2NoWeb ?i3NoWeb ?qBadNumber ?xmBadNumber ?qBadWeb ?xmBadWeb ?tb ?tb2 ?z1 ?z2 ?z3 ?z4 ?z5 ?z6 ?z7 ?z8 ?z9 ?z10 ?z11 ?z12 ?z13 ?z14 ?z15 ?z16 ?z17
  case aI | lI | cI | kI | aU | lU | cU | kU | aV | lV | cV | kV | aH | lH | cH | kH | aκ | lκ | cκ | kκ | aθ | lθ | cθ | kθ | aι | lι | cι | kι | aT | lT | cT | kT | aO | lO | cO | kO | aG | lG | cG | kG | aA | lA | cA | kA | aρ | lρ | cρ | kρ | aM | lM | cM | kM | aβ | lβ | cβ | kβ | aω | lω | cω | kω | aW | lW | cW | kW | aF | lF | cF | kF | aL | lL | cL | kL | aY | lY | cY | kY | aX | lX | cX | kX | aD | lD | cD | kD | aE | lE | cE | kE | aS | lS | cS | kS | aN | lN | cN | kN | aQ | lQ | cQ | kQ | aψ | lψ | cψ | kψ | aJ | lJ | cJ | kJ | aη | lη | cη | kη | aν | lν | cν | kν | aC | lC | cC | kC | aK | lK | cK | kK | aα | lα | cα | kα | aP | lP | cP | kP | aσ | lσ | cσ | kσ | aδ | lδ | cδ | kδ | aZ | lZ | cZ | kZ | mo | aTallyError | aBadWeb | aBadTally | aNoPlace | aBadNumber | aNoWeb | aNoExchange | aUnlike | aTooMany | aNoText | gaBadTally | naBadTally | clBadTally | sbBadTally | soBadTally | csBadTally | gaNoWeb | naNoWeb | clNoWeb | sbNoWeb | soNoWeb | csNoWeb | z1 | z2 | z3 | z4 | z5 | z6 | z7 | z8 | z9 | z10 | z11 | z12 | z13 | z14 | z15 | z16 | z17 => k_is
  case qBadTally | qNoWeb | qBadNumber | qBadWeb => k_exc
  case xmBadTally | xmNoWeb | xmBadNumber | xmBadWeb => kts_exm
  case i0BadTally | i1BadTally | i2BadTally | i3BadTally | i0NoWeb | i1NoWeb | i2NoWeb | i3NoWeb => kit_is
  case tb | tb2 => kernel_rfl
#print axioms PySem.Challenge.cw_tallyweb_k54_changes_refused_holds

