import PyProof.Rows.All
import Wide.All
import OpenK.AllK
import Wide.FinOn
import Lean
import PyProof.EqAt
import PyProof.EqKinds
import PyProof.TupleCall
import PyProof.Rows.SortRunsK
import PyProof.Rows.SortShellK
import KE.KSortTup
import PyProof.TupleKey
import PySem.SetOps
import PyProof.Rows.SetFrom
import PyProof.EnumFor
import PyProof.EnumStmt
import PyProof.EnumMake
import PyProof.P3Eq
import PyProof.NeData
import PyProof.P3In
import PyProof.Rows.SumAny
import KE.KLam
import KE.KSortKey
import PyProof.ListRange
import KE.KTryMore
import PyProof.NsDelKeeps
import PyProof.RulesAs
import PyProof.ExcBaseAll.ValueError
import PyProof.ExcArgsOwn
import KE.KIsAll
import PyProof.Rows.SortRev
import PyProof.TupleOfSeq
import Wide.Txt2
import PyProof.Draws
import KE.KTupSum
import PyProof.ListOps
import PyProof.AutoSeq1
import PyProof.Cells
import PyProof.Rows.TupAdd
import PyProof.DictWalks
import PyProof.ConsumeWalk
import PyProof.DictKeyH
import PyProof.ListNew
import PyProof.ConsumeS
import PyProof.WalksMore
import PyProof.ZipIter
import KE.KMinKey
import KE.RegKIsAll
import KE.RegKTryMore
import PySem.Challenge.RW_tallyweb_k48_thick_answers_looked_at
local macro_rules | `(tactic| omega) => `(tactic| lia)
set_option autoImplicit false
set_option linter.all false
set_option Elab.async false
set_option maxRecDepth 100000
open PySem renaming wpAny_bind->b8,sizeLine->d7,wpAny_pure->i7,mainGlobals->j7,wpAny->q8,starEach->u4,model->u7,tupleKeyHash->x9,intKind->C6,wpAny_mono->E5,wpAny_holding->E9,wpAny_truthy_bool->F3,wpAny_field->F9,compareOp->J1,wpAny_seqItems->K2,wpAny_Call_Name_kw->K4,bootBuiltins->M6,IsTupleKey->N0,sizeLine_eq->N1,backTo->O9,compEnvC->P7,wpAny_pyIter_list->Q4,codeAny_builtin->Q5,keywordEach->R7,wpAny_callSpecial?_slot->R9,wpAny_call_entry->S4,wpAny_passesOwn->U7,codeAny_mono->U8,wpAny_newObj_type->U9,wpAny_newList->V0,wpAny_setState_of->V1,wpAny_pyIter_enum->V2,codeAny_call_builtin->W3,rawInt->Y2,wpAny_execs_nil->Y9,wpAny_standAt->Z0,wpAny_setField_rec->Z1,foldedSetIterable->ab4,wpAny_loadPart_at->ab5,IsPair->ac8,wpAny_newFunctionEnv->ae7,binaryOp->af2,backToKw->af3,assignEach->ag1,sliceBounds->ag6,PyData->ag7,argBest->ag8,wpAny_letOwnedTupleGo_enum->ah8,wpAny_pyIter_tuple->aj7,codeAny->al6,wpAny_tryCatch->al7,call_meets->am8,ofAClassStatement->an0,wpAny_comprehension_free->an1,plainId_quiet->ap2,intItems->ap3,wpAny_letGo->ap4,wpAny_forIn_list->as5,checkBuiltinCall->as6,codeAny_compStart_list->at1,Paired->av9,cLine->aw4,Keyword->aw5,noteFrame->aw7,typeLookup->ay0,wpAny_rule->ay1,compPost->ay3,wpAny_setField->aF5,holding->aF6,unsupported->aF7,wpAny_of_eq->aF9,pyNext->aJ8,behindInMarks->aJ9,NameKind->aK0,Arguments->aK1,attributeBase->aK2,setSearchFrom->aK3,builtinsNs->aP8,wpAny_call->aP9,closureFor->aQ0,seqIndex_neg->aX4,wpAny_execs_cons->aX8,IsZip->aX9,letOwnedTupleGo->bh2,BindsTo->bh3,seqIndex_of->bh4,callerA->bh5,hashByValue->bh9,theTreesLotGoes->bi0,wpAny_looks_onW->bi1,seqItems?->bi2,wpAny_updateSeq->bi3,again->bo4,fitsIndex_both->bo5,IsPart->bz7,GenState->bA4,getItem->bA5,wpAny_attempt->bA6,compTurn_list->bA7,wpAny_pyNext_enum_itemD->bA8,wpAny_onRaise->bA9,wpAny_getItem_list_neg->bJ4,wpAny_pyNext_enum_endD->bJ5,assign->bM2,wpAny_typeOf->bM3,setSearch->bM6,wpAny_eqIsQuiet_tuple->bM7,weight_type_call_type->bM8,codeAny_loop->bM9,IsEnum->bN0,codeAmong->bN1,wpAny_landsW->bN2,codeAny_handlers_test->bN3,wpAny_loadName_local->bW5,wpAny_updateSeq_pair->bW6,wpAny_loadName_cell->bX5,wpAny_noted->bX9,wpAny_handleBy_cons->bY0,intItems_at->bY1
open List renaming length_map->b9,size_toArray->d9,getElem?_eq_getElem->i6,mem_cons_of_mem->i8,mem_of_getElem?->j0,getElem?_eq_some_iff->j5,mem_cons->j6,getD_eq_getElem?_getD->j8,length_append->m5,length_cons->m6,mem_cons_self->m7,mem_append_right->o4,take_of_length_le->o6,replicate->o9,map_append->p7,mem_iff_getElem?->q0,length_take->u5,mem_append->u9,pairwise_iff_getElem->v7,map_cons->x8,length_range->B0,length_set->B7,mem_singleton->B9,length_drop->C0,pairwise_append->C2,getElem?_eq_none->C3,range->C5,mem_range->D6,getElem?_map->E2,append_assoc->E3,take_append_drop->E7,mem_map->E8,take_add_one->G0,lookup->G2,nodup_cons->G5,all_eq_true->G9,replicate_succ->J3,mem_append_left->J8,mem_of_mem_drop->J9,mem_of_mem_take->K0,getElem?_append_right->K7,drop_of_length_le->L0,pairwise_map->L4,flatten_cons->N3,filterMap_cons->N5,append_nil->N6,mem_nil_iff->O2,length_singleton->O7,sum_cons->O8,mem_filter->Q2,getElem?_take->S3,length_replicate->S8,nil_append->S9,range_succ->T4,take_sublist->U1,nodup_iff_pairwise_ne->U6,extract_eq_take_drop->V9,getElem?_take_of_lt->W4,getElem?_drop->Y0,pairwise_cons->Y1,reverse_perm->aa0,ext_getElem?->aa1,pairwise_reverse->ab2,drop_append->ab8,take_append_of_le_length->ab9,not_mem_nil->ac0,foldl->ad3,length_nil->ae4,foldl_cons->ae5,length_reverse->ae6,mem_filterMap->ag4,getElem_range->ag5,getElem?_append_left->ah0,drop_eq_getElem_cons->ah1,take_zero->ah5,drop_sublist->aj6,length->am1,getElem?_replicate->am2,getElem?_set_self->ap0,getElem?_set_ne->av1,length_pos_iff->ax6,getElem?_range->ax7,getD_cons_succ->ax8,getD_cons_zero->ax9,zip_cons_cons->aF1,map_drop->aF2,map_take->aF3,length_range'->aF4,reverse_cons->aG9,mem_reverse->aO6,zipIdx_cons->aO7,drop_append_of_le_length->aP0,eq_nil_of_length_eq_zero->aP1,getElem_mem->aP2,map_reverse->aP3,of_mem_zip->aX0,take->aX2,drop_drop->bb8,drop_zero->bb9,nodup_nil->bc2,any_cons->bn9,getElem?_cons_succ->bo0,length_eraseIdx_le->bo1,pairwise_lt_range->bo2,drop_eq_nil_of_le->bo3,perm_append_comm->bz2,length_filter_le->bz5,map_map->bz6,range_eq_range'->bA2,mem_iff_getElem->bA3,reverse_append->bI6,flatMap_append->bI9,mem_map_of_mem->bJ0,toList_toArray->bJ1,range'->bJ2,filter_append->bL8,drop_reverse->bW0,take_reverse->bW1,mem_range'_1->bW2,nodup_append->bW3,cons_append->bW7,take_append->bW8,lookup_cons->bX0,any_toArray->bX1,mem_flatMap->bX2,filter_cons->bX3
open PySem.Heap renaming get?_push_of_some->c8,lt_size->d5,get?_push_size->m9,get?_update_other->B2,size_push->G6,get?_update_self->O6,get?_none_of_le->av0
open Nat renaming le_refl->d6,ne_of_lt->l7,lt_of_lt_of_le->p5,zero_le->v8,le_trans->C4,lt_irrefl->D0,lt_succ_of_lt->E4,lt_or_ge->F8,ne_of_gt->L9,lt_or_eq_of_le->M8,zero_add->Q6,le_succ->Q8,add_sub_cancel_left->Q9,le_add_right->R5,add_le_add_left->W5,min_le_left->af1,succ_pos->ah2,le_of_succ_le->al4,le_of_lt_succ->al5,le_of_lt->as7,lt_trichotomy->aJ7,sub_self->aO8,add_zero->aO9,succ_ne_self->aP6,not_lt_zero->aX6,min_eq_left->aX7,div_div_eq_div_mul->bz3,sub_zero->bz9,le_of_eq->bA1,testBit_two_pow->bL6,add_sub_cancel->bV9,lt_of_le_of_lt->bW4,mod_lt->bW9
open Array renaming getElem?_toList->i9,length_toList->o7,size_push->C9,toList_append->D4,size_extract->J7,size_append->L3,perm_iff_toList_perm->U2,toList_push->Y8,toList_extract->ab6,toList_reverse->ab7,getElem?_eq_some_iff->ae9,getElem?_eq_none->am5,mem_toList_iff->as8,size_map->av2,append_assoc->aA0,toList_setIfInBounds->aX1,getElem?_append_left->aX3,size_setIfInBounds->bc0,getElem?_replicate->bc1,toArray_toList->bz4,setIfInBounds->bA0,size_reverse->bI7,forIn_toList->bI8,getD->bL7
open Bool renaming false_ne_true->j9,false_eq_true->t7,and_eq_true->B5,not_true->U3,eq_iff_iff->ae3,true_and->bn8,not_eq_true'->bV8
open PySem.W renaming nsIn->k7,mg_none_of->A2,keepIn->Q7,mg_of->S6,fnOf->W0,codeIn->aP7,clsIn->bX4
open PyProof.Rows renaming wpS_bind->k9,wpS_pure->o5,arrOf->o8,pendingOf->D5,wpS_forRange->G7,envOfC->K5,IntsAre->R8,failedOf->S0,seqObj->W1,wpS_mono->X1,elem'->ah7,mem_zip_self->aj8,sortedHeap->am9,AllBare->ap1,wpS_get->aw6,wpS_modify->ay2,wpS_reverse->aF8,KeyOrd->aX5,mirror_perm->bh6,get?_update_seq->bh7,entry_list_sort->bh8,slot_list_sort->bo6,setPending->bz8,subscriptTail_builtinR->bJ3,plain_sorted->bM4,entry_sorted->bM5,getElem?_mirror_all->bX6,pairsOf->bX7,kind_sorted->bX8
open Int renaming toNat_natCast->u6,emod_lt_of_pos->K1,emod_nonneg->N7,le_refl->N8,mul_comm->P0,mul_assoc->P3,mul_sub->P6,mul_le_mul_of_nonneg_left->R6,mul_zero->T6,toNat->W2,le_trans->W9,mul_le_mul_of_nonneg_right->ab3,mul_one->ae8,mul_add->af0,natCast_nonneg->ah3,sub_self->ah4,mul_nonneg->ah6,one_mul->am6,pow_pos->am7,zero_mul->as9,sub_mul->aA1,add_zero->aP4,sub_zero->aP5,add_mul->bL9,neg_mul->bM0,toNat_of_nonneg->bM1
open Option renaming isSome_iff_exists->C7,getD_none->bL5
variable {A:PySem.Around}{B:PyProof.Rows.Keyed->PyProof.Rows.Keyed->Bool}{C CB a f fT:PySem.Addr}{E Q:PySem.Value->PySem.Shared->Prop}{M:PySem.Model}{N N' ps:List PySem.Str}{P prog:PySem.Program}{R:PyProof.Rows.Keyed->PyProof.Rows.Keyed->Prop}{XP:(PySem.Str->Option PySem.Value)->PySem.Heap->Prop}{YP:PySem.World->PySem.Heap->Prop}{b:Nat->Option (Option Nat) × Nat × Nat->StateT PyProof.Rows.SortSt PySem.Sem (ForInStep (Option (Option Nat) × Nat × Nat))}{body:List PySem.Stmt}{cl:List (PySem.Str × PySem.Addr)}{d:Nat->Int}{e o tg:PySem.Expr}{elts es:List PySem.Expr}{fd fdA fdT:PySem.FuncData}{fp:List PySem.Addr}{g:List PySem.Value->List PySem.Value->List PySem.Value}{h h':PySem.Heap}{i j n t':Nat}{items:Array PySem.Value}{its us vs:List PySem.Value}{k ns zs:List Int}{ks:List (List Int)}{l:PySem.Addr->Option PySem.Obj}{lk:List (Option Nat)}{mA:PySem.Str->Option PySem.Value}{out ra rb:List PyProof.Rows.Keyed}{p pos:PySem.Pos}{pins:List (PySem.Addr × PySem.Obj)}{qual x:PySem.Str}{s:PySem.Shared}{scope:PySem.Scope}{t:PySem.SetTable}{u v:PySem.Value}{w:PySem.World}{κ:PyProof.Rows.SortKind}{σ τ:Nat->Bool}
namespace L2
open PySem PySem.Spec PyProof.Rows
abbrev Key:=Sum Int Str
def bL3:Key->Value->Bool
 | .inl k,v=>Value.isInt k v
 | .inr x,v=>Value.isStrOf x v
def cg5 (w:World):Key->Int
 | .inl k=>hashInt k
 | .inr x=>hashStr w x
theorem N4:∀ {k:Key} {v:Value},bL3 k v=true->(∃ i t,k=Sum.inl i/\v=Value.int i t)\/(∃ x t,k=Sum.inr x/\v=Value.str x t)
 | .inl i,v,h=>by
  obtain⟨t,e⟩:=Value.isInt_shape (k:=i) (v:=v) h
  exact .inl ⟨i,t,rfl,e⟩
 | .inr x,v,h=>by
  obtain⟨t,e⟩:=Value.isStrOf_shape (x:=x) (v:=v) h
  exact .inr ⟨x,t,rfl,e⟩
theorem bT2 (a b:Int):decide ((Sum.inl a:Key)=Sum.inl b)=(a == b):=by
 by_cases e:a=b
 ·subst e;simp
 ·have h:¬ (Sum.inl a:Key)=Sum.inl b:=fun q=>e (Sum.inl.inj q)
  rw[decide_eq_false h]
  exact(beq_eq_false_iff_ne.mpr e).symm
theorem bS9 (a b:Str):decide ((Sum.inr a:Key)=Sum.inr b)=decide (a=b):=by
 by_cases e:a=b
 ·subst e;simp
 ·have h:¬ (Sum.inr a:Key)=Sum.inr b:=fun q=>e (Sum.inr.inj q)
  rw[decide_eq_false h,decide_eq_false e]
theorem bT1 (a:Int)(b:Str):decide ((Sum.inl a:Key)=Sum.inr b)=false:=decide_eq_false (fun q=>nomatch q)
theorem bT0 (a:Str)(b:Int):decide ((Sum.inr a:Key)=Sum.inl b)=false:=decide_eq_false (fun q=>nomatch q)
def aN1 (prog:Program) (w:World):PySem.KeyKind prog w Key where
  is:=bL3
  hash:=cg5 w
  inj:=fun v a b ha hb=>by
    rcases N4 ha with⟨i,t,rfl,rfl⟩ | ⟨x,t,rfl,rfl⟩
    · rcases N4 hb with⟨j,u,rfl,e⟩ | ⟨y,u,rfl,e⟩
      · injection e with e1 _;rw[e1]
      · exact nomatch e
    · rcases N4 hb with⟨j,u,rfl,e⟩ | ⟨y,u,rfl,e⟩
      · exact nomatch e
      · injection e with e1 _;rw[e1]
  byValue := fun k v h => by
    rcases N4 h with⟨i,t,rfl,rfl⟩ | ⟨x,t,rfl,rfl⟩<;>rfl
  pyHash:=fun hv h=>by
    rcases N4 hv with⟨i,t,rfl,rfl⟩ | ⟨x,t,rfl,rfl⟩
    · exact wpAny_pyHash_int h
    · exact wpAny_pyHash_str h
  eqBool:=fun hu hv h=>by
    rcases N4 hu with⟨i,t,rfl,rfl⟩ | ⟨x,t,rfl,rfl⟩
    · rcases N4 hv with⟨j,u,rfl,rfl⟩ | ⟨y,u,rfl,rfl⟩
      · rw[bT2]at h;exact wpAny_eqBool_int h
      · rw[bT1]at h;exact SeqAt.EqAt.int_str i t y u _ _ _ _ h
    · rcases N4 hv with⟨j,u,rfl,rfl⟩ | ⟨y,u,rfl,rfl⟩
      · rw[bT0]at h;exact SeqAt.EqAt.str_int x t j u _ _ _ _ h
      · rw[bS9]at h;exact wpAny_eqBool_str h
  «strs»:=fun k x t v h=>by
    rcases N4 h with⟨i,u,rfl,e⟩ | ⟨y,u,rfl,e⟩
    · exact nomatch e
    · injection e with e1 _
      subst e1
      cases v<;>rfl
inductive V where
 | non | bl (b:Bool) | int (i:Int) | str (x:Str) | byt (b:Array UInt8) | flt (b:UInt64) | ref (a:Addr) | ty (n:String)
 deriving DecidableEq
def RelV:V->Value->Prop
 | .non,u=>u=Value.none
 | .bl b,u=>u=Value.bool b
 | .int i,u=>∃ t,u=Value.int i t
 | .str x,u=>∃ t,u=Value.str x t
 | .byt b,u=>∃ t,u=Value.bytes b t
 | .flt b,u=>∃ t,u=Value.float b t
 | .ref a,u=>u=Value.ref a
 | .ty n,u=>u=Value.type n
abbrev D3:List V->List Value->Prop:=av9 RelV
theorem D3.length {xs:List V}(r:D3 xs us):xs.length=us.length:=Paired.length r
theorem D3.get:∀ {xs:List V} {us:List Value} {i:Nat} {x:V},D3 xs us->xs[i]?=some x->∃ u,us[i]?=some u/\RelV x u
 | _,_,_,_,.nil,e=>by simp at e
 | _,_,0,_,.cons r _,e=>by simp at e;subst e;exact⟨_,rfl,r⟩
 | _,_,i+1,x,.cons _ t,e=>by
  obtain⟨u,h1,h2⟩:=D3.get (i:=i) (x:=x) t (by simpa using e)
  exact⟨u,by simpa using h1,h2⟩
theorem D3.set {x:V}(r:RelV x u):∀ {xs:List V} {us:List Value} (i:Nat),D3 xs us->D3 (xs.set i x) (us.set i u)
 | _,_,_,.nil=>.nil
 | _,_,0,.cons _ t=>.cons r t
 | _,_,i+1,.cons q t=>.cons q (D3.set r i t)
theorem D3.append:∀ {xs ys:List V} {us ws:List Value},D3 xs us->D3 ys ws->D3 (xs++ys) (us++ws)
 | _,_,_,_,.nil,s=>s
 | _,_,_,_,.cons r t,s=>.cons r (D3.append t s)
theorem D3.take:∀ {xs:List V} {us:List Value} (n:Nat),D3 xs us->D3 (xs.take n) (us.take n)
 | _,_,0,_=>.nil
 | _,_,_+1,.nil=>.nil
 | _,_,n+1,.cons r t=>.cons r (D3.take n t)
theorem D3.drop:∀ {xs:List V} {us:List Value} (n:Nat),D3 xs us->D3 (xs.drop n) (us.drop n)
 | _,_,0,r=>r
 | _,_,_+1,.nil=>.nil
 | _,_,n+1,.cons _ t=>D3.drop n t
def bV2:Option V->Option Value->Prop
 | some v,some u=>RelV v u
 | none,none=>True
 | _,_=>False
def KV {κ:Type}:List (κ × V)->List (κ × Value)->Prop:=av9 fun(p:κ × V) (q:κ × Value)=>p.1=q.1/\RelV p.2 q.2
def kV:Key->V
 | .inl i=>.int i
 | .inr x=>.str x
inductive HO where
  | lst (xs:List V)
  | tup (xs:List V)
  | dK (kvs:List (Key × V)) | dT (kvs:List (List Key × V))
  | set (S:Int->Bool) (n:Nat)
  | ins (C dx:Addr) (fs:List (Str × V))
  | own (x:Addr)
  | xd (fs:List (Str × V))
  | met (f x:Addr)
  | rng (lo hi:Int)
  | frz (o:Obj) (u:HO)
  | tbl (ps:Array Value)
  | ext (φ:Heap->Prop)
abbrev Hp:=Addr->Option HO
def upd (H:Hp)(a:Addr)(o:HO):Hp:=fun b=>if b=a then some o else H b
theorem c7 {H:Hp}{o:HO}:upd H a o a=some o:=by unfold upd;rw[if_pos rfl]
theorem p8 {H:Hp}{b:Addr}{o:HO}(h:b≠a):upd H a o b=H b:=by unfold upd;rw[if_neg h]
theorem ak2 {H:Hp}{o u:HO}:upd (upd H a o) a u=upd H a u:=by
 funext b;unfold upd;split<;>rfl
theorem bv0 {H:Hp}{b:Addr}{o u:HO}(h:H a=some o)(h':H b=some u)(d:o≠u):a≠b:=by
 intro e;subst e;rw[h]at h';exact d (Option.some.inj h')
theorem t8 {H:Hp}{b:Addr}{o:HO}(h:H a=some o)(h':H b=none):a≠b:=by
 intro e;subst e;rw[h]at h';cases h'
section
variable (P:Program) (w:World)
def P5 (H:Hp)(h:Heap)(a:Addr):HO->Prop
 | .lst xs=>xs.length<=d7/\∃ (its:List Value) (n:Nat),D3 xs its/\h.get? a=some { cls:=.type "list",data:=.seq its.toArray n }
 | .tup xs=>xs.length<=d7/\∃ its:List Value,D3 xs its/\IsTup h a its.toArray
 | .dK kvs=>kvs.length<=d7/\(a == sysModules)=false/\∃ vs,KV kvs vs/\h.DictOf (aN1 P w) a vs
 | .dT kvs=>kvs.length<=d7/\(a == sysModules)=false/\∃ xs:List (List Key × Addr × Value),
   av9 (fun(p:List Key × V) (q:List Key × Addr × Value)=>p.1=q.1/\H q.2.1=some (.tup (p.1.map kV))/\RelV p.2 q.2.2) kvs xs /\
   ∃ o es ep,h.get? a=some o/\o.ExactDict/\o.data=.dict es ep/\es.toList=xs.map (entryOfKey (tupleKind (aN1 P w)))/\(xs.map (·.1)).Nodup
 | .set S n=>h.SetOf (C6 P w) a S n
 | .ins C dx fs=>H dx=some (.own a)/\fs.length<=1000/\dx≠a/\h.get? a=some (PySem.W.instObj C dx) /\
   ∃ mA,h.Ns1 dx mA/\(∀ f,bV2 (fs.lookup f) (mA f))/\PySem.Within mA (fs.map (·.1))
 | .own _=>∃ o,h.get? a=some o
 | .xd fs=>∃ mA,h.Ns1 a mA/\∀ f,bV2 (fs.lookup f) (mA f)
 | .rng lo hi=>∃ t u v,h.get? a=some { cls:=.type "range",data:=.fields #[.int lo t,.int hi u,.int 1 v] }
 | .frz o u=>h.get? a=some o/\P5 H h a u
 | .tbl ps=>h.get? a=some { cls:=.none,data:=.fields ps }
 | .met f x=>h.get? a=some (PySem.W.methodObj (.ref f) (.ref x))
 | .ext φ=>φ h/\(∃ o,h.get? a=some o)/\∀ h1 h2:Heap,φ h1->(∀ o,h1.get? a=some o->h2.get? a=some o)->φ h2
def HOk (H:Hp)(h:Heap):Prop:=∀ a o,H a=some o->P5 P w H h a o
end
section
variable {H H':Hp} {o:HO}
theorem P5.lt (x:P5 P w H h a o):a<h.objs.size:=by
 cases o with
 | lst xs=>obtain⟨_,_,_,_,e⟩:=x;exact d5 e
 | tup xs=>obtain⟨_,_,_,p⟩:=x;exact p.lt
 | dK kvs=>obtain⟨_,_,_,_,o,_,_,e,_⟩:=x;exact d5 e
 | dT kvs=>obtain⟨_,_,_,_,o,_,_,e,_⟩:=x;exact d5 e
 | set S n=>obtain⟨o,_,_,_,e,_⟩:=x;exact d5 e
 | ins C dx fs=>obtain⟨_,_,_,e,_⟩:=x;exact d5 e
 | own y=>obtain⟨_,e⟩:=x;exact d5 e
 | xd fs=>obtain⟨_,⟨_,_,_,e,_⟩,_⟩:=x;exact d5 e
 | rng lo hi=>obtain⟨_,_,_,e⟩:=x;exact d5 e
 | frz ob u=>obtain⟨e,_⟩:=x;exact d5 e
 | tbl ps=>exact d5 (show h.get? a=some _ from x)
 | met f y=>exact d5 (show h.get? a=some _ from x)
 | ext φ=>obtain⟨_,⟨_,e⟩,_⟩:=x;exact d5 e
theorem Paired.mapP {α β:Type}{F G:α->β->Prop}:∀ {l₁:List α} {l₂:List β},av9 F l₁ l₂->(∀ a b,F a b->G a b)->av9 G l₁ l₂
 | _,_,.nil,_=>.nil
 | _,_,.cons r t,f=>.cons (f _ _ r) (Paired.mapP t f)
theorem P5.stay (x:P5 P w H h a o)(k:∀ b u,(b=a\/H b=some (.own a))->h.get? b=some u->h'.get? b=some u)
  (ho:∀ b,H b=some (.own a)->H' b=some (.own a))(ht:∀ b xs,H b=some (.tup xs)->H' b=some (.tup xs)):P5 P w H' h' a o:=by
 induction o with
 | lst xs=>obtain⟨z,its,n,r,e⟩:=x;exact⟨z,its,n,r,k _ _ (.inl rfl) e⟩
 | tup xs=>obtain⟨z,its,r,ob,e,c⟩:=x;exact⟨z,its,r,ob,k _ _ (.inl rfl) e,c⟩
 | dK kvs=>obtain⟨z,y,vs,r,ob,es,ep,e,c⟩:=x;exact⟨z,y,vs,r,ob,es,ep,k _ _ (.inl rfl) e,c⟩
 | dT kvs =>
  obtain⟨z,y,xs,r,ob,es,ep,e,c⟩:=x
  exact⟨z,y,xs,Paired.mapP r fun p q z=>⟨z.1,ht _ _ z.2.1,z.2.2⟩,ob,es,ep,k _ _ (.inl rfl) e,c⟩
 | set S n=>obtain⟨ob,es,ep,t,e,c⟩:=x;exact⟨ob,es,ep,t,k _ _ (.inl rfl) e,c⟩
 | ins C dx fs =>
  obtain⟨d,z,ne,e,mA,⟨od,es,ep,e2,c⟩,r⟩:=x
  exact⟨ho _ d,z,ne,k _ _ (.inl rfl) e,mA,⟨od,es,ep,k _ _ (.inr d) e2,c⟩,r⟩
 | own y=>obtain⟨ob,e⟩:=x;exact⟨ob,k _ _ (.inl rfl) e⟩
 | xd fs=>obtain⟨mA,⟨od,es,ep,e,c⟩,r⟩:=x;exact⟨mA,⟨od,es,ep,k _ _ (.inl rfl) e,c⟩,r⟩
 | rng lo hi=>obtain⟨t,u,v,e⟩:=x;exact⟨t,u,v,k _ _ (.inl rfl) e⟩
 | frz ob u ih=>obtain⟨e,q⟩:=x;exact⟨k _ _ (.inl rfl) e,ih q⟩
 | tbl ps =>
  have e:h.get? a=some { cls:=.none,data:=.fields ps }:=x
  show h'.get? a=some { cls:=.none,data:=.fields ps }
  exact k a _ (.inl rfl) e
 | met f y =>
  have e:h.get? a=some (PySem.W.methodObj (.ref f) (.ref y)):=x
  show h'.get? a=some (PySem.W.methodObj (.ref f) (.ref y))
  exact k a _ (.inl rfl) e
 | ext φ=>obtain⟨p,⟨o,e⟩,st⟩:=x;exact⟨st _ _ p fun o q=>k _ _ (.inl rfl) q,⟨o,k _ _ (.inl rfl) e⟩,st⟩
theorem HOk.lt (x:HOk P w H h)(e:H a=some o):a<h.objs.size:=(x a o e).lt
theorem HOk.fresh (x:HOk P w H h)(e:h.objs.size<=a):H a=none:=by
 cases q:H a with
 | none=>rfl
 | some u=>exact absurd (p5 (x.lt q) e) (D0 _)
theorem HOk.kept (x:HOk P w H h)(k:∀ b u,h.get? b=some u->h'.get? b=some u):HOk P w H h':=fun a o e =>
 (x a o e).stay (fun b u _ q=>k b u q) (fun _ q=>q) fun _ _ q=>q
theorem HOk.laid (x:HOk P w H h)(k:∀ b u,h.get? b=some u->h'.get? b=some u)(hp:h.objs.size<=a)(new:P5 P w (upd H a o) h' a o):HOk P w (upd H a o) h':=fun b u e=>by
 have hn:=x.fresh hp
 by_cases hb:b=a
 ·subst hb;rw[c7]at e;cases e;exact new
 ·rw[p8 hb]at e
  exact(x b u e).stay (fun c v _ q=>k c v q) (fun c q=>by rw[p8 (t8 q hn)];exact q) fun c xs q=>by rw[p8 (t8 q hn)];exact q
end
def Rd (H:Hp)(a:Addr)(u:HO):Prop:=H a=some u\/∃ o,H a=some (.frz o u)
theorem Rd.ok {H:Hp}{u:HO}(r:Rd H a u)(x:HOk P w H h):P5 P w H h a u:=by
 rcases r with r | ⟨o,r⟩
 ·exact x a u r
 ·obtain⟨_,q⟩:=x a _ r
  exact q
def Mut:Option HO->Prop
 | some (.lst _)=>True
 | some (.dK _)=>True
 | some (.dT _)=>True
 | some (.set _ _)=>True
 | some (.ins _ _ _)=>True
 | some (.ext _)=>True
 | _=>False
section
variable {H:Hp} {x e:Addr} {o':HO}
theorem HOk.write (ok:HOk P w H h)(mu:Mut (H x))(he:e=x\/H e=some (.own x))(k:∀ b u,b≠e->h.get? b=some u->h'.get? b=some u)(heo:∃ u,h'.get? e=some u)
  (new:P5 P w (upd H x o') h' x o'):HOk P w (upd H x o') h':=fun b u q=>by
 have nown:∀ c y,H c=some (.own y)->c≠x:=fun c y r z=>by subst z;rw[r]at mu;exact mu
 have ntup:∀ c xs,H c=some (.tup xs)->c≠x:=fun c xs r z=>by subst z;rw[r]at mu;exact mu
 by_cases hb:b=x
 ·subst hb;rw[c7]at q;cases q;exact new
 ·rw[p8 hb]at q
  by_cases hbe:b=e
  ·have q':H b=some (.own x):=by
    rcases he with z | z
    ·exact absurd (hbe.trans z) hb
    ·rw[hbe];exact z
   rw[q]at q';cases q'
   obtain⟨v,hv⟩:=heo
   exact⟨v,by rw[hbe];exact hv⟩
  ·refine(ok b u q).stay (fun c v hc r=>k c v ?_ r) (fun c r=>by rw[p8 (nown c b r)];exact r) fun c xs r=>by rw[p8 (ntup c xs r)];exact r
   rcases hc with rfl | hc
   ·exact hbe
   ·rintro rfl
    rcases he with z | z
    ·exact nown c b hc z
    ·rw[hc]at z;cases z;exact hb rfl
end
structure Un (fs ex:List Addr) (H H':Hp) (h h':Heap):Prop where
 keep:∀ b o,h.get? b=some o->H b=none->b∉fs->b∉ex->h'.get? b=some o
 slot:∀ b o,h.get? b=some o->H b=none->b∈fs->b∉ex->∃ sl,h'.get? b=some { o with slots:=sl }
 free:∀ b o,h.get? b=some o->H b=none->b∉ex->H' b=none
 there:∀ b o,h.get? b=some o->b∉ex->∃ o',h'.get? b=some o'
 tups:∀ b xs,H b=some (.tup xs)->H' b=some (.tup xs)
 frzs:∀ b o u,H b=some (.frz o u)->H' b=some (.frz o u)
 tbls:∀ b ps,H b=some (.tbl ps)->∃ more,H' b=some (.tbl (ps++more))
section
variable {fs fs' ex ex':List Addr} {H H1 H2:Hp} {h1 h2:Heap} {x e:Addr} {o:HO}
theorem Un.any (u:Un fs ex H H1 h h1){b:Addr}{ob:Obj}(q:h.get? b=some ob)(n:H b=none)(hx:b∉ex):∃ sl,h1.get? b=some { ob with slots:=sl }:=by
 by_cases hb:b∈fs
 ·exact u.slot b ob q n hb hx
 ·exact⟨ob.slots,u.keep b ob q n hb hx⟩
theorem Un.kept (k:∀ b u,h.get? b=some u->h'.get? b=some u):Un fs ex H H h h':=
 ⟨fun b ob q _ _ _=>k b ob q,fun b ob q _ _ _=>⟨ob.slots,k b ob q⟩,fun _ _ _ n _=>n,fun b ob q _=>⟨ob,k b ob q⟩,fun _ _ q=>q,fun _ _ _ q=>q,fun _ ps q=>⟨#[],by rw[q];simp⟩⟩
theorem Un.refl:Un fs ex H H h h:=Un.kept fun _ _ q=>q
theorem Un.laid (k:∀ b u,h.get? b=some u->h'.get? b=some u)(hp:h.objs.size<=a)(hn:H a=none):Un fs ex H (upd H a o) h h' where
 keep:=fun b u q _ _ _=>k b u q
 slot:=fun b u q _ _ _=>⟨u.slots,k b u q⟩
 free:=fun b u q n _=>by rw[p8 (l7 (p5 (d5 q) hp))];exact n
 there:=fun b u q _=>⟨u,k b u q⟩
 tups:=fun b xs q=>by rw[p8 (t8 q hn)];exact q
 frzs:=fun b u xs q=>by rw[p8 (t8 q hn)];exact q
 tbls:=fun b ps q=>⟨#[],by rw[p8 (t8 q hn),q];simp⟩
theorem Un.write (mu:Mut (H x))(he:e=x\/H e=some (.own x))(k:∀ b u,b≠e->h.get? b=some u->h'.get? b=some u)(heo:∃ u,h'.get? e=some u):Un fs ex H (upd H x o) h h':=by
 have hx:∀ b,H b=none->b≠x:=fun b n z=>by subst z;rw[n]at mu;exact mu
 have hb:∀ b,H b=none->b≠e:=fun b n z=>by
  subst z
  rcases he with r | r
  ·exact hx b n r
  ·rw[n]at r;cases r
 have hm:∀ b u,H b=some u->¬ Mut (some u)->b≠x:=fun b u q nm z=>by subst z;rw[q]at mu;exact nm mu
 refine⟨fun b u q n _ _=>k b u (hb b n) q,fun b u q n _ _=>⟨u.slots,k b u (hb b n) q⟩,fun b u q n _=>by rw[p8 (hx b n)];exact n,fun b u q _=>?_,
  fun b xs q=>by rw[p8 (hm b _ q fun z=>z)];exact q,fun b u xs q=>by rw[p8 (hm b _ q fun z=>z)];exact q,fun b ps q=>⟨#[],by rw[p8 (hm b _ q fun z=>z),q];simp⟩⟩
 by_cases hbe:b=e
 ·subst hbe;exact heo
 ·exact⟨u,k b u hbe q⟩
end
def trk (h:Heap)(H:Hp):List Addr:=(C5 h.objs.size).filter fun a=>(H a).isSome
def aG5 (h:Heap)(H:Hp):Heap:=PySem.W.hideAll h (trk h H)
theorem bl3 (h:Heap)(H:Hp):(aG5 h H).objs.size=h.objs.size:=PySem.W.hideAll_size _ _
theorem bw3 {H:Hp}{b:Addr}{o:Obj}(e:h.get? b=some o)(n:H b=none):(aG5 h H).get? b=some o:=
 PySem.W.hideAll_get _ e fun hm=>by
  have q:(H b).isSome=true:=(Q2.mp hm).2
  rw[n]at q;simp at q
theorem bF2 {H:Hp}{b:Addr}{o:Obj}(e:(aG5 h H).get? b=some o):h.get? b=some o/\H b=none:=by
 have e':h.get? b=some o:=PySem.W.of_hideAll (trk h H) e
 refine⟨e',?_⟩
 cases q:H b with
 | none=>rfl
 | some x =>
  have hm:b∈trk h H:=Q2.mpr ⟨D6.mpr (d5 e'),by simp[q]⟩
  have z:(aG5 h H).get? b=none:=PySem.W.hideAll_none (trk h H) hm
  rw[z]at e;cases e
def bI1 (g h:Heap)(L:Addr):List (Addr × Obj):=(C5 h.objs.size).filterMap fun a=>if a=L\/(g.get? a).isSome=true then none else (h.get? a).map fun o=>(a,o)
def rest (g h:Heap)(L d:Addr):List (Addr × Obj):=(bI1 g h L).filter fun p=>decide (p.1≠d)
end L2
variable {H H':L2.Hp}{Qd:L2.Hp->Prop}{gV:List L2.V->List L2.V->List L2.V}{xs ys:List L2.V}
namespace L2
open PySem PySem.Spec PyProof.Rows
structure Mod (K:W.Frag) (mg:Str->Option Value) (base:Heap):Prop where
 kin:K.In base
 glob:base.Ns j7 mg
 blt:∃ mb,base.Ns aP8 mb/\∀ x:Str,x≠"__name__"->mb x=M6 x
 nolimit:base.NoLimit
structure Cx where
 prog:Program
 w:World
 K:W.Frag
 mg:Str->Option Value
 base:Heap
 A:Around
 N:List Str
 s₀:Shared
 H₀:Hp
 env:Env
 outer:List Env
 stack:List Env
 ex:List Addr
 fn:Str->Bool
 calm:Bool
 pn:List (Addr × Obj)
 xe:Value->Shared->Prop
def frs (l:List Env):List Addr:=l.filterMap (·.frame)
abbrev Cx.fs (X:Cx):List Addr:=frs X.outer
def Vis (sc:Scope)(x:Str):Prop:=sc.names.lookup x=some .local\/sc.names.lookup x=some .cell\/sc.names.lookup x=some .free
def Loc (sc:Scope)(x:Str):Prop:=sc.names.lookup x=some .local\/sc.names.lookup x=some .cell
def Look (env:Env)(h:Heap)(m:Str->Option Value)(x:Str)(u:Value):Prop:=
 (env.kindOf x=some .local/\m x=some u)\/((env.kindOf x=some .cell\/env.kindOf x=some .free)/\∃ c,env.cells.lookup x=some c/\h.IsCell c (some u))
structure Cx.Ok (X:Cx):Prop where
 mod:Mod X.K X.mg X.base
 kind:X.env.scope.kind=.function
 glob:X.env.globals=j7
 blt:X.env.builtins=aP8
 above:X.s₀.heap.objs.size<=X.env.locals
 inj:∀ x y c,X.env.cells.lookup x=some c->X.env.cells.lookup y=some c->x=y
 has:∀ x,(X.env.kindOf x=some .cell\/X.env.kindOf x=some .free)->∃ c,X.env.cells.lookup x=some c
 cab:∀ x c,X.fn x=true->X.env.cells.lookup x=some c->X.s₀.heap.objs.size<=c
 hd:X.calm=true->X.A.handled=none
 frames:X.A.frames=some X.stack
 stk:X.stack=X.outer\/(X.stack=X.env::X.outer/\X.env.frame=some X.env.locals)
 exf:∀ b∈X.ex,b≠X.env.locals/\∀ x c,X.env.cells.lookup x=some c->c≠b
 bs:∀ b o,X.base.get? b=some o->X.s₀.heap.get? b=some o/\X.H₀ b=none
 bsz:X.base.objs.size<=X.s₀.heap.objs.size
 noex:∀ b o,X.base.get? b=some o->b∉X.ex
 exfs:∀ b∈X.ex,b∉X.fs
 funs:X.s₀.heap.FunFrames X.base X.outer
 frf:∀ b∈X.fs,X.H₀ b=none
structure Inv (X:Cx) (pins:List (Addr × Obj)) (σ:List (Option V)) (H:Hp) (s:Shared):Prop where
 ok:X.Ok
 os:s.os=X.s₀.os
 bare:ap1 s.gens
 base:Un X.fs X.ex X.H₀ H X.s₀.heap s.heap
 loc:∃ m,s.heap.Ns X.env.locals m/\∀ (i:Nat) (x:Str) (v:V),X.N[i]?=some x->σ[i]?=some (some v)->Vis X.env.scope x->∃ u,RelV v u/\Look X.env s.heap m x u
 cell:∀ x c,X.env.cells.lookup x=some c->∃ v,s.heap.IsCell c v
 free:H X.env.locals=none
 freeC:∀ x c,X.env.cells.lookup x=some c->H c=none
 pin:∀ p∈X.pn++pins,s.heap.get? p.1=some p.2/\H p.1=none/\p.1≠X.env.locals/\p.1∉X.fs/\∀ v,p.2.data≠.cell v
 hok:HOk X.prog X.w H s.heap
 len:σ.length=X.N.length
section
variable {X:Cx} {σ:List (Option V)}
theorem Cx.Ok.nofr (ok:X.Ok){b:Addr}{o:Obj}(e:X.base.get? b=some o):b∉X.fs:=fun hb=>by
 have:=(ok.funs.mem hb).1
 rw[e]at this;cases this
theorem Inv.bs (I:Inv X pins σ H s):∀ b o,X.base.get? b=some o->s.heap.get? b=some o/\H b=none:=fun b o e =>
 ⟨I.base.keep b o (I.ok.bs b o e).1 (I.ok.bs b o e).2 (I.ok.nofr e) (I.ok.noex b o e),I.base.free b o (I.ok.bs b o e).1 (I.ok.bs b o e).2 (I.ok.noex b o e)⟩
theorem Inv.bk (I:Inv X pins σ H s):∀ b o,X.base.get? b=some o->s.heap.get? b=some o:=fun b o e=>(I.bs b o e).1
theorem Inv.mod (I:Inv X pins σ H s):Mod X.K X.mg X.base:=I.ok.mod
theorem Inv.kIn (I:Inv X pins σ H s):X.K.In s.heap:=I.ok.mod.kin.keeps I.bk
theorem Inv.lt (I:Inv X pins σ H s):X.env.locals<s.heap.objs.size:=let ⟨_,hn,_⟩:=I.loc;hn.lt
theorem Inv.sz (I:Inv X pins σ H s):X.s₀.heap.objs.size<=s.heap.objs.size:=C4 I.ok.above (as7 I.lt)
theorem Inv.nofs (I:Inv X pins σ H s)(h:s.heap.objs.size<=a):a∉X.fs:=fun hb=>by
 obtain⟨_,o,ho,_⟩:=I.ok.funs.mem hb
 exact absurd (p5 (d5 ho) (C4 I.sz h)) (D0 _)
theorem Inv.cne (I:Inv X pins σ H s):∀ x c,X.env.cells.lookup x=some c->c≠X.env.locals:=fun x c e z=>by
 obtain⟨v,o,ho,hd⟩:=I.cell x c e
 obtain⟨m,⟨o',es,ep,ho',hd',_⟩,_⟩:=I.loc
 rw[z,ho']at ho;cases ho;rw[hd']at hd;cases hd
theorem Inv.funs (I:Inv X pins σ H s):s.heap.FunFrames X.base X.outer:=by
 have all:∀ (l:List Env),(∀ b∈frs l,b∈X.fs)->X.s₀.heap.FunFrames X.base l->s.heap.FunFrames X.base l:=by
  intro l
  induction l with
  | nil=>intro _ _;trivial
  | cons env r ih =>
   intro hs hl
   obtain⟨hk,⟨L,o,hf,hn,ho,hd⟩,hr⟩:=hl
   have hL:L∈X.fs:=hs L (by unfold frs;rw[N5,hf];exact m7)
   obtain⟨sl,e⟩:=I.base.slot L o ho (I.ok.frf L hL) hL fun z=>I.ok.exfs L z hL
   exact⟨hk,⟨L,_,hf,hn,e,hd⟩,ih (fun b hb=>hs b (by unfold frs;rw[N5,hf];exact i8 _ hb)) hr⟩
 exact all X.outer (fun _ hb=>hb) I.ok.funs
theorem Inv.stack (I:Inv X pins σ H s):s.heap.FunFrames X.base X.stack:=by
 rcases I.ok.stk with e | ⟨e,hf⟩
 ·rw[e];exact I.funs
 ·rw[e]
  obtain⟨m,hn,_⟩:=I.loc
  refine .cons (by rw[I.ok.kind];decide) hf hn ?_ I.funs
  exact av0 (C4 I.ok.bsz I.ok.above)
theorem Inv.stkSub (I:Inv X pins σ H s):∀ b∈frs X.stack,b∈X.env.locals::X.fs:=fun b hb=>by
 rcases I.ok.stk with e | ⟨e,hf⟩
 ·rw[e]at hb;exact i8 _ hb
 ·rw[e]at hb
  unfold frs at hb
  rw[N5,hf]at hb
  exact hb
theorem Inv.stkFree (I:Inv X pins σ H s):∀ b∈frs X.stack,H b=none:=fun b hb=>by
 rcases j6.mp (I.stkSub b hb) with e | hb
 ·rw[e];exact I.free
 ·obtain⟨_,o,ho,_⟩:=I.ok.funs.mem hb
  exact I.base.free b o ho (I.ok.frf b hb) fun z=>I.ok.exfs b z hb
theorem Inv.step {g':Array bA4}{d':Drawn}{ch:List Addr}(I:Inv X pins σ H s)
  (hch:∀ b∈ch,(b∈X.ex\/X.s₀.heap.objs.size<=b)/\b≠X.env.locals/\(∀ x c,X.env.cells.lookup x=some c->c≠b)/\∀ p∈X.pn++pins,p.1≠b)
  (keep:∀ b o,b≠X.env.locals->b∉X.fs->b∉ch->s.heap.get? b=some o->H b=none->h'.get? b=some o)
  (slot:∀ b o,b≠X.env.locals->b∈X.fs->b∉ch->s.heap.get? b=some o->H b=none->∃ sl,h'.get? b=some { o with slots:=sl })(free:∀ b o,b∉ch->s.heap.get? b=some o->H b=none->H' b=none)
  (there:∀ b o,b∉ch->s.heap.get? b=some o->∃ o',h'.get? b=some o')
  (tups:∀ b xs,H b=some (.tup xs)->H' b=some (.tup xs))(frzs:∀ b o u,H b=some (.frz o u)->H' b=some (.frz o u))(tbls:∀ b ps,H b=some (.tbl ps)->∃ more,H' b=some (.tbl (ps++more)))
  (ns:∀ m,s.heap.Ns X.env.locals m->h'.Ns X.env.locals m)(hok:HOk X.prog X.w H' h')(hg:ap1 g') :
  Inv X pins σ H' { s with heap:=h',gens:=g',drawn:=d',toks:=t' }:=by
 have neL:∀ b o,X.s₀.heap.get? b=some o->b≠X.env.locals:=fun b o e=>l7 (p5 (d5 e) I.ok.above)
 have neC:∀ b o,X.s₀.heap.get? b=some o->b∉X.ex->b∉ch:=fun b o e hx hb=>by
  rcases(hch b hb).1 with z | z
  ·exact hx z
  ·exact absurd (p5 (d5 e) z) (D0 _)
 have cellK:∀ x c,X.env.cells.lookup x=some c->∀ v,s.heap.IsCell c v->h'.IsCell c v:=fun x c e v ⟨o,ho,hd⟩=>by
  have nch:c∉ch:=fun z=>(hch c z).2.2.1 x c e rfl
  by_cases hc:c∈X.fs
  ·obtain⟨sl,q⟩:=slot c o (I.cne x c e) hc nch ho (I.freeC x c e)
   exact⟨_,q,hd⟩
  ·exact⟨o,keep c o (I.cne x c e) hc nch ho (I.freeC x c e),hd⟩
 refine⟨I.ok,I.os,hg,⟨fun b o e n hb hx=>?_,fun b o e n hb hx=>?_,fun b o e n hx=>?_,fun b o e hx=>?_,fun b xs e=>tups b xs (I.base.tups b xs e),fun b o xs e=>frzs b o xs (I.base.frzs b o xs e),fun b ps e=>?_⟩,?_,fun x c e=>?_,?_,fun x c e=>?_,fun p hp=>?_,hok,I.len⟩
 ·exact keep b o (neL b o e) hb (neC b o e hx) (I.base.keep b o e n hb hx) (I.base.free b o e n hx)
 ·obtain⟨sl,e1⟩:=I.base.slot b o e n hb hx
  obtain⟨sl',e2⟩:=slot b _ (neL b o e) hb (neC b o e hx) e1 (I.base.free b o e n hx)
  exact⟨sl',e2⟩
 ·obtain⟨o',e1⟩:=I.base.there b o e hx
  exact free b o' (neC b o e hx) e1 (I.base.free b o e n hx)
 ·obtain⟨o',e1⟩:=I.base.there b o e hx
  exact there b o' (neC b o e hx) e1
 ·obtain⟨m1,e1⟩:=I.base.tbls b ps e
  obtain⟨m2,e2⟩:=tbls b _ e1
  exact⟨m1++m2,by rw[e2,aA0]⟩
 ·obtain⟨m,hn,hl⟩:=I.loc
  refine⟨m,ns m hn,fun i x v e1 e2 e3=>?_⟩
  obtain⟨u,r,l⟩:=hl i x v e1 e2 e3
  refine⟨u,r,?_⟩
  rcases l with l | ⟨k,c,e,z⟩
  ·exact .inl l
  ·exact .inr ⟨k,c,e,cellK x c e _ z⟩
 ·obtain⟨v,z⟩:=I.cell x c e
  exact⟨v,cellK x c e v z⟩
 ·obtain⟨m,⟨o,_,_,ho,_⟩,_⟩:=I.loc
  exact free _ o (fun z=>(hch _ z).2.1 rfl) ho I.free
 ·obtain⟨v,o,ho,hd⟩:=I.cell x c e
  exact free c o (fun z=>(hch c z).2.2.1 x c e rfl) ho (I.freeC x c e)
 ·obtain⟨e,n,ne,nf,d⟩:=I.pin p hp
  have nch:p.1∉ch:=fun z=>(hch p.1 z).2.2.2 p hp rfl
  exact⟨keep p.1 p.2 ne nf nch e n,free p.1 p.2 nch e n,ne,nf,d⟩
theorem Inv.un (I:Inv X pins σ H s)(u:Un X.fs [] H H' s.heap h')(hok:HOk X.prog X.w H' h'):Inv X pins σ H' { s with heap:=h',toks:=t' }:=by
 obtain⟨m,⟨o,es,ep,ho,r⟩,_⟩:=id I.loc
 obtain⟨sl,hL⟩:=u.any ho I.free (by simp)
 exact I.step (g':=s.gens) (d':=s.drawn) (ch:=[]) (fun _ z=>nomatch z) (fun b o _ hb _ e n=>u.keep b o e n hb (by simp)) (fun b o _ hb _ e n=>u.slot b o e n hb (by simp)) (fun b o _ e n=>u.free b o e n (by simp)) (fun b o _ e=>u.there b o e (by simp)) u.tups u.frzs u.tbls (fun m' hm=>by
  obtain⟨o',es',ep',ho',r'⟩:=hm
  rw[ho]at ho';cases ho'
  exact⟨_,es',ep',hL,r'⟩) hok I.bare
theorem Inv.call {g':Array bA4}{d':Drawn}{ch:List Addr}(I:Inv X pins σ H s)(u:Un (frs X.stack) ch H H' s.heap h')(hok:HOk X.prog X.w H' h')(hg:ap1 g')
  (hch:∀ b∈ch,(b∈X.ex\/X.s₀.heap.objs.size<=b)/\b≠X.env.locals/\(∀ x c,X.env.cells.lookup x=some c->c≠b)/\∀ p∈X.pn++pins,p.1≠b) :
  Inv X pins σ H' { s with heap:=h',gens:=g',drawn:=d',toks:=t' }:=by
 obtain⟨m,⟨o,es,ep,ho,r⟩,_⟩:=id I.loc
 obtain⟨sl,hL⟩:=u.any ho I.free fun z=>(hch _ z).2.1 rfl
 exact I.step (ch:=ch) hch (fun b o hL hb hc e n=>u.keep b o e n (fun z=>(j6.mp (I.stkSub b z)).elim hL hb) hc) (fun b o _ _ hc e n=>u.any e n hc) (fun b o hc e n=>u.free b o e n hc) (fun b o hc e=>u.there b o e hc) u.tups u.frzs u.tbls (fun m' hm=>by
  obtain⟨o',es',ep',ho',r'⟩:=hm
  rw[ho]at ho';cases ho'
  exact⟨_,es',ep',hL,r'⟩) hok hg
theorem Inv.turned {it:Addr}(I:Inv X pins σ H s)(k:∀ b o,b≠it->s.heap.get? b=some o->h'.get? b=some o)(hn:H it=none)(hL:it≠X.env.locals)
  (h1:it∈X.ex\/X.s₀.heap.objs.size<=it)(h2:∀ x c,X.env.cells.lookup x=some c->c≠it)(h3:∀ p∈X.pn++pins,p.1≠it):Inv X pins σ H { s with heap:=h',toks:=t' }:=by
 have nit:∀ b u,H b=some u->b≠it:=fun b u e z=>by rw[z,hn]at e;cases e
 refine I.step (g':=s.gens) (d':=s.drawn) (ch:=[it]) (fun b hb=>?_) (fun b o _ _ hc e _=>k b o (fun z=>hc (by simp[z])) e) (fun b o _ _ hc e _=>⟨o.slots,k b o (fun z=>hc (by simp[z])) e⟩) (fun _ _ _ _ n=>n)
  (fun b o hc e=>⟨o,k b o (fun z=>hc (by simp[z])) e⟩) (fun _ _ e=>e) (fun _ _ _ e=>e) (fun b ps e=>⟨#[],by rw[e];simp⟩) (fun m hm=>?_) (fun b u e=>?_) I.bare
 ·have e:b=it:=by simpa using hb
  subst e
  exact⟨h1,hL,h2,h3⟩
 ·obtain⟨o,es,ep,ho,r⟩:=hm
  exact⟨o,es,ep,k _ o (Ne.symm hL) ho,r⟩
 ·refine(I.hok b u e).stay (fun c v hc q=>k c v ?_ q) (fun _ q=>q) fun _ _ q=>q
  rcases hc with z | z
  ·rw[z];exact nit b u e
  ·exact nit c _ z
theorem Inv.tok (I:Inv X pins σ H s)(t:Nat):Inv X pins σ H { s with toks:=t }:=I.un (h':=s.heap) (t':=t) Un.refl I.hok
theorem Inv.kept (I:Inv X pins σ H s)(k:∀ b u,s.heap.get? b=some u->h'.get? b=some u):Inv X pins σ H { s with heap:=h',toks:=t' }:=I.un (Un.kept k) (I.hok.kept k)
theorem Inv.laid {o:HO}(I:Inv X pins σ H s)(k:∀ b u,s.heap.get? b=some u->h'.get? b=some u)(hp:s.heap.objs.size<=a)(new:P5 X.prog X.w (upd H a o) h' a o) :
  Inv X pins σ (upd H a o) { s with heap:=h',toks:=t' }:=I.un (Un.laid k hp (I.hok.fresh hp)) (I.hok.laid k hp new)
theorem Inv.write {x e:Addr}{o:HO}(I:Inv X pins σ H s)(mu:Mut (H x))(he:e=x\/H e=some (.own x))(k:∀ b u,b≠e->s.heap.get? b=some u->h'.get? b=some u)(heo:∃ u,h'.get? e=some u)
  (new:P5 X.prog X.w (upd H x o) h' x o):Inv X pins σ (upd H x o) { s with heap:=h',toks:=t' }:=I.un (Un.write mu he k heo) (I.hok.write mu he k heo new)
theorem Inv.pins_of {pins':List (Addr × Obj)}(I:Inv X pins σ H s)(h:∀ p∈pins',s.heap.get? p.1=some p.2/\H p.1=none/\p.1≠X.env.locals/\p.1∉X.fs/\∀ v,p.2.data≠.cell v):Inv X pins' σ H s:=
 ⟨I.ok,I.os,I.bare,I.base,I.loc,I.cell,I.free,I.freeC,fun p hp=>(u9.mp hp).elim (fun z=>I.pin p (J8 _ z)) (h p),I.hok,I.len⟩
theorem aC5 (hN:N.Nodup)(a:N[i]?=some x)(b:N[j]?=some x):i=j:=by
 obtain⟨h1,e1⟩:=j5.mp a
 obtain⟨h2,e2⟩:=j5.mp b
 exact(List.getElem_inj hN).mp (e1.trans e2.symm)
theorem aH3 {v:V}{Q:Unit->Shared->Prop}(I:Inv X pins σ H s)(hN:X.N.Nodup)(hi:X.N[i]?=some x)(hx:Loc X.env.scope x)(r:RelV v u)
  (h:∀ s',Inv X pins (σ.set i (some v)) H s'->(∃ a,Heap.SameBut a s.heap s'.heap/\(a=X.env.locals\/X.env.cells.lookup x=some a))->Q () s')(hf:X.fn x=true\/X.env.scope.names.lookup x=some .local:=by first | exact .inl rfl | exact .inr rfl | assumption):q8 M A (storeName X.env x u) Q E s:=by
 obtain⟨m,hn,hl⟩:=id I.loc
 have hcls:(X.env.scope.kind == .class || (X.env.scope.kind == .module && X.env.locals != X.env.globals))=false:=by rw[I.ok.kind];rfl
 have hiσ:i<σ.length:=by rw[I.len];exact(j5.mp hi).1
 have cne:=I.cne
 have tracked:∀ {a:Addr} {h':Heap},(∃ o,s.heap.get? a=some o/\H a=none)->Heap.SameBut a s.heap h'->HOk X.prog X.w H h':=fun {a h'} ha hs b ob e=>by
  obtain⟨_,_,hfree⟩:=ha
  refine(I.hok b ob e).stay (fun c w' hc q=>(hs.2 c ?_).trans q) (fun _ q=>q) fun _ _ q=>q
  rintro rfl
  rcases hc with rfl | hc
  ·rw[hfree]at e;cases e
  ·rw[hfree]at hc;cases hc
 rcases hx with hk | hk
 ·refine wpAny_storeName_local hk hn (fun h' hn' hs=>?_) hcls
  obtain⟨oL,_,_,hoL,_⟩:=id hn
  refine h _ ⟨I.ok,I.os,I.bare,⟨fun b o e n hb hx=>?_,fun b o e n hb hx=>?_,I.base.free,fun b o e hx=>?_,I.base.tups,I.base.frzs,I.base.tbls⟩,⟨_,hn',fun j y v' e1 e2 e3=>?_⟩,fun y c e=>?_,I.free,I.freeC,fun p hp=>?_,tracked ⟨oL,hoL,I.free⟩ hs,by simpa using I.len⟩ ⟨_,hs,.inl rfl⟩
  ·exact(hs.2 b (l7 (p5 (d5 e) I.ok.above))).trans (I.base.keep b o e n hb hx)
  ·obtain⟨sl,e1⟩:=I.base.slot b o e n hb hx
   exact⟨sl,(hs.2 b (l7 (p5 (d5 e) I.ok.above))).trans e1⟩
  ·obtain⟨o',e1⟩:=I.base.there b o e hx
   exact⟨o',(hs.2 b (l7 (p5 (d5 e) I.ok.above))).trans e1⟩
  ·by_cases hj:j=i
   ·subst hj
    rw[hi]at e1;cases e1
    rw[ap0 hiσ]at e2
    cases e2
    exact⟨u,r,.inl ⟨hk,by simp⟩⟩
   ·rw[av1 (Ne.symm hj)]at e2
    obtain⟨u',r',q⟩:=hl j y v' e1 e2 e3
    refine⟨u',r',?_⟩
    rcases q with⟨k,e⟩ | ⟨k,c,e,z⟩
    ·refine .inl ⟨k,?_⟩
     have:y≠x:=fun e=>hj (aC5 hN e1 (e ▸ hi))
     simp[this,e]
    ·exact .inr ⟨k,c,e,z.sameBut hs (cne y c e)⟩
  ·obtain⟨w',z⟩:=I.cell y c e
   exact⟨w',z.sameBut hs (cne y c e)⟩
  ·obtain⟨e,n,ne,nf,d⟩:=I.pin p hp
   exact⟨(hs.2 p.1 ne).trans e,n,ne,nf,d⟩
 ·have hfn:X.fn x=true:=by
   rcases hf with z | z
   ·exact z
   ·rw[z]at hk;cases hk
  obtain⟨c,hc⟩:=I.ok.has x (.inl hk)
  obtain⟨w',z⟩:=I.cell x c hc
  refine wpAny_storeName_cell I.ok.kind hk hc z (fun h' hc' hs=>?_)
  obtain⟨oc,hoc,hocd⟩:=id z
  refine h { s with heap:=h' } ⟨I.ok,I.os,I.bare,⟨fun b o e n hb hx=>?_,fun b o e n hb hx=>?_,I.base.free,fun b o e hx=>?_,I.base.tups,I.base.frzs,I.base.tbls⟩,⟨m,hn.sameBut hs (Ne.symm (cne x c hc)),fun j y v' e1 e2 e3=>?_⟩,fun y c' e=>?_,I.free,I.freeC,fun p hp=>?_,tracked ⟨oc,hoc,I.freeC x c hc⟩ hs,by simpa using I.len⟩ ⟨c,hs,.inr hc⟩
  ·exact(hs.2 b (l7 (p5 (d5 e) (I.ok.cab x c hfn hc)))).trans (I.base.keep b o e n hb hx)
  ·obtain⟨sl,e1⟩:=I.base.slot b o e n hb hx
   exact⟨sl,(hs.2 b (l7 (p5 (d5 e) (I.ok.cab x c hfn hc)))).trans e1⟩
  ·obtain⟨o',e1⟩:=I.base.there b o e hx
   exact⟨o',(hs.2 b (l7 (p5 (d5 e) (I.ok.cab x c hfn hc)))).trans e1⟩
  ·by_cases hj:j=i
   ·subst hj
    rw[hi]at e1;cases e1
    rw[ap0 hiσ]at e2
    cases e2
    exact⟨u,r,.inr ⟨.inl hk,c,hc,hc'⟩⟩
   ·rw[av1 (Ne.symm hj)]at e2
    obtain⟨u',r',q⟩:=hl j y v' e1 e2 e3
    refine⟨u',r',?_⟩
    rcases q with q | ⟨k,c',e,z'⟩
    ·exact .inl q
    ·refine .inr ⟨k,c',e,z'.sameBut hs ?_⟩
     rintro rfl
     exact hj (aC5 hN e1 (I.ok.inj _ _ _ e hc ▸ hi))
  ·by_cases hcc:c'=c
   ·subst hcc;exact⟨_,hc'⟩
   ·obtain⟨w2,z2⟩:=I.cell y c' e
    exact⟨w2,z2.sameBut hs hcc⟩
  ·obtain⟨e,n,ne,nf,d⟩:=I.pin p hp
   refine⟨(hs.2 p.1 ?_).trans e,n,ne,nf,d⟩
   intro q
   rw[q,hoc]at e
   have q':oc=p.2:=Option.some.inj e
   exact d w' (by rw[<- q'];exact hocd)
theorem ap9 {v:V}{Q:Unit->Shared->Prop}(I:Inv X pins σ H s)(hN:X.N.Nodup)(hi:X.N[i]?=some x)(hx:Loc X.env.scope x)(r:RelV v u)
  (h:∀ s',Inv X pins (σ.set i (some v)) H s'->Q () s')(hf:X.fn x=true\/X.env.scope.names.lookup x=some .local:=by first | exact .inl rfl | exact .inr rfl | assumption):q8 M A (storeName X.env x u) Q E s:=
 aH3 I hN hi hx r (fun s' I' _=>h s' I') hf
theorem Inv.call' {s':Shared}{ch:List Addr}(I:Inv X pins σ H s)(ho:s'.os=s.os)(u:Un (frs X.stack) ch H H' s.heap s'.heap)(hok:HOk X.prog X.w H' s'.heap)(hg:ap1 s'.gens)
  (hch:∀ b∈ch,(b∈X.ex\/X.s₀.heap.objs.size<=b)/\b≠X.env.locals/\(∀ x c,X.env.cells.lookup x=some c->c≠b)/\∀ p∈X.pn++pins,p.1≠b):Inv X pins σ H' s':=by
 obtain⟨h',g',d',t',o'⟩:=s'
 have e:o'=s.os:=ho
 subst e
 exact I.call (g':=g') (t':=t') (d':=d') u hok hg hch
end
abbrev XK:=Value->Option Addr->Hp->Prop
abbrev St:=List (Option V)
abbrev VK:=V->Hp->Prop
abbrev TE:=St->Hp->VK->Prop
abbrev TT:=St->Hp->(Bool->Hp->Prop)->Prop
abbrev TA:=St->Hp->(List V->Hp->Prop)->Prop
structure Ends where
 nx:St->Hp->Prop
 rt:VK
 bk:St->Hp->Prop:=fun _ _=>False
 ct:St->Hp->Prop:=fun _ _=>False
abbrev TS:=Ends->St->Hp->Prop
def EP (X:Cx)(pins:List (Addr × Obj))(σ:St)(Q:VK)(u:Value)(s':Shared):Prop:=∃ v H',Inv X pins σ H' s'/\RelV v u/\Q v H'
def TP (X:Cx)(pins:List (Addr × Obj))(σ:St)(Q:Bool->Hp->Prop)(b:Bool)(s':Shared):Prop:=∃ H',Inv X pins σ H' s'/\Q b H'
def AP (X:Cx)(pins:List (Addr × Obj))(σ:St)(Q:List V->Hp->Prop)(us:List Value)(s':Shared):Prop:=∃ vs H',Inv X pins σ H' s'/\D3 vs us/\Q vs H'
def SP (X:Cx)(pins:List (Addr × Obj))(D:Ends)(f:Flow)(s':Shared):Prop:=
 match f with
 | .next=>∃ σ' H',Inv X pins σ' H' s'/\D.nx σ' H'
 | .brk=>∃ σ' H',Inv X pins σ' H' s'/\D.bk σ' H'
 | .cont=>∃ σ' H',Inv X pins σ' H' s'/\D.ct σ' H'
 | .ret u=>∃ v σ' H',Inv X pins σ' H' s'/\RelV v u/\D.rt v H'
def PE (X:Cx)(e:Expr)(t:TE):Prop:=
 ∀ (pins:List (Addr × Obj)) (s:Shared) (σ:St) (H:Hp) (Q:VK),Inv X pins σ H s->t σ H Q->q8 (u7 X.prog X.w) X.A (eval e X.env) (EP X pins σ Q) X.xe s
def PT (X:Cx)(e:Expr)(t:TT):Prop:=
 ∀ (pins:List (Addr × Obj)) (s:Shared) (σ:St) (H:Hp) (Q:Bool->Hp->Prop),Inv X pins σ H s->t σ H Q->q8 (u7 X.prog X.w) X.A (isTrue e X.env (eval e X.env)) (TP X pins σ Q) X.xe s
def PW (X:Cx)(e:Expr)(t:TT):Prop:=
 ∀ (whole:Sem Value) (pins:List (Addr × Obj)) (s:Shared) (σ:St) (H:Hp) (Q:Bool->Hp->Prop),Inv X pins σ H s->t σ H Q->q8 (u7 X.prog X.w) X.A (isTrue e X.env whole) (TP X pins σ Q) X.xe s
theorem PW.pt {X:Cx}{t:TT}(h:PW X e t):PT X e t:=h _
def PA (X:Cx)(es:List Expr)(t:TA):Prop:=
 ∀ (pos:Pos) (pins:List (Addr × Obj)) (s:Shared) (σ:St) (H:Hp) (Q:List V->Hp->Prop),Inv X pins σ H s->t σ H Q->q8 (u7 X.prog X.w) X.A (spliced (O9 pos (u4 es X.env))) (AP X pins σ Q) X.xe s
def PS (X:Cx)(st:Stmt)(t:TS):Prop:=
 ∀ (pins:List (Addr × Obj)) (s:Shared) (σ:St) (H:Hp) (D:Ends),Inv X pins σ H s->t D σ H->q8 (u7 X.prog X.w) X.A (exec st X.env) (SP X pins D) X.xe s
def PSs (X:Cx)(st:List Stmt)(t:TS):Prop:=
 ∀ (pins:List (Addr × Obj)) (s:Shared) (σ:St) (H:Hp) (D:Ends),Inv X pins σ H s->t D σ H->q8 (u7 X.prog X.w) X.A (execs st X.env) (SP X pins D) X.xe s
theorem thn {α:Type}{t:Sem α}{Q Q':α->Shared->Prop}(h:q8 M A t Q E s)(hQ:∀ a s,Q a s->Q' a s):q8 M A t Q' E s:=E5 h hQ fun _ _ x=>x
end L2
variable {X:L2.Cx}{r:L2.V->List L2.V->L2.Hp->L2.VK->Prop}{ta te:L2.TE}
namespace L2
open PySem PySem.Spec PyProof.Rows
section
def bY4 (i:Nat):TE:=fun σ H Q=>∃ v,σ[i]?=some (some v)/\Q v H
def tC (v:V):TE:=fun _ H Q=>Q v H
theorem bt0 (hN:X.N[i]?=some x)(hv:Vis X.env.scope x)(hd:(x == ("__debug__":Str))=false:=by decide)(hcd:(x == ("__classdict__":Str))=false:=by decide):PE X (.Name x pos) (bY4 i):=by
 intro pins s σ H Q I h
 obtain⟨v,e,h⟩:=h
 obtain⟨m,hn,hl⟩:=I.loc
 obtain⟨u,r,l⟩:=hl i x v hN e hv
 have fin:EP X pins σ Q u s:=⟨v,H,I,r,h⟩
 rcases l with⟨hk,hm⟩ | ⟨hk,c,hc,hcell⟩
 ·exact wpAny_Name (bW5 I.ok.kind hk hn hm fin) hd
 ·rcases hk with hk | hk
  ·exact wpAny_Name (bX5 I.ok.kind hk hc hcell fin) hd
  ·exact wpAny_Name (wpAny_loadName_free I.ok.kind hk hc hcell fin hcd) hd
theorem c9 {i j pos}:PE X (.Constant (.int i) j pos) (tC (.int i)):=fun _ _ _ H _ I h=>wpAny_Constant_int ⟨.int i,H,I.tok _,⟨_,rfl⟩,h⟩
theorem Y6 {b j pos}:PE X (.Constant (.bool b) j pos) (tC (.bl b)):=fun _ _ _ H _ I h=>Constant_bool ⟨.bl b,H,I,rfl,h⟩
theorem bt2 {j pos}:PE X (.Constant .none j pos) (tC .non):=fun _ _ _ H _ I h=>Constant_none ⟨.non,H,I,rfl,h⟩
theorem N9 {x j pos}:PE X (.Constant (.str x) j pos) (tC (.str x)):=fun _ _ _ H _ I h=>Calls.Constant_str ⟨.str x,H,I.tok _,⟨_,rfl⟩,h⟩
def Gl (X:Cx)(x:Str):Prop:=X.env.kindOf x=some .globalImplicit
theorem af6 {σ:St}(I:Inv X pins σ H s)(hg:Gl X x)(hm:X.mg x=some u)(h:Q u s)
  (hd:(x == ("__debug__":Str))=false:=by decide):q8 (u7 X.prog X.w) X.A (eval (.Name x pos) X.env) Q E s :=
 Calls.Name_function_global I.ok.kind hg (Calls.loadGlobal_global (by rw[I.ok.glob];exact I.mod.glob.keeps I.bk) hm h) hd
theorem Y4 {σ:St}(I:Inv X pins σ H s)(hg:Gl X x)(hm:X.mg x=none)(hv:M6 x=some u)(h:Q u s)
  (hn:x≠"__name__":=by decide)(hd:(x == ("__debug__":Str))=false:=by decide):q8 (u7 X.prog X.w) X.A (eval (.Name x pos) X.env) Q E s:=by
 obtain⟨mb,h1,h2⟩:=I.mod.blt
 exact Calls.Name_function_global I.ok.kind hg (Calls.loadGlobal_builtin (by rw[I.ok.glob];exact I.mod.glob.keeps I.bk) hm (by rw[I.ok.blt];exact h1.keeps I.bk) ((h2 x hn).trans hv) h) hd
theorem aq7 {v:V}(hg:Gl X x)(hm:X.mg x=some u)(r:RelV v u)(hd:(x == ("__debug__":Str))=false:=by decide):PE X (.Name x pos) (tC v) :=
 fun _ _ _ H _ I h=>af6 I hg hm ⟨v,H,I,r,h⟩ hd
theorem ak6 {v:V}(hg:Gl X x)(hm:X.mg x=none)(hv:M6 x=some u)(r:RelV v u)(hn:x≠"__name__":=by decide)(hd:(x == ("__debug__":Str))=false:=by decide):PE X (.Name x pos) (tC v) :=
 fun _ _ _ H _ I h=>Y4 I hg hm hv ⟨v,H,I,r,h⟩ hn hd
variable {a b:Expr} {tb:TE}
def tB (t:TE):TT:=fun σ H Q=>t σ H fun x H1=>∃ c,x=.bl c/\Q c H1
theorem aa5 {t:TE}(h:PE X e t)(he:∀ whole,isTrue e X.env whole=(do let v <- whole;standAt e.pos;aF6 [v] (truthy v)):=by intro _;rfl):PT X e (tB t):=by
 intro pins s σ H Q I hw
 refine isTrue_plain (thn (h pins s σ H _ I hw) fun v s1 ⟨x,H1,I1,r1,q1⟩=>?_) (he _)
 obtain⟨d,rfl,q⟩:=q1
 cases r1
 exact F3 ⟨H1,I1,q⟩
variable {tA tB':TT} {rest:List Expr}
def cf5 (t u:TT):TT:=fun σ H Q=>t σ H fun c H1=>if c=true then u σ H1 Q else Q false H1
def tOr (t u:TT):TT:=fun σ H Q=>t σ H fun c H1=>if c=true then Q true H1 else u σ H1 Q
def ce7 (t:TT):TT:=fun σ H Q=>t σ H fun c H1=>Q (!c) H1
theorem bD6 (ha:PT X a tA):PW X (.BoolOp .And [a] pos) tA:=by
 intro wh pins s σ H Q I h
 refine isTrue_and (thn (ha pins s σ H Q I h) fun c s1 e=>?_)
 cases c with
 | true=>exact isTrue_and_nil e
 | false=>exact e
theorem an9 (ha:PT X a tA):PW X (.BoolOp .Or [a] pos) tA:=by
 intro wh pins s σ H Q I h
 refine isTrue_or (thn (ha pins s σ H Q I h) fun c s1 e=>?_)
 cases c with
 | false=>exact isTrue_or_nil e
 | true=>exact e
theorem bQ2 (ha:PT X a tA)(hb:PW X (.BoolOp .And (b::rest) pos) tB'):PW X (.BoolOp .And (a::b::rest) pos) (cf5 tA tB'):=by
 intro wh pins s σ H Q I h
 refine isTrue_and (thn (ha pins s σ H _ I h) fun c s1 ⟨H1,I1,q1⟩=>?_)
 cases c with
 | true=>exact hb wh pins s1 σ H1 Q I1 q1
 | false=>exact⟨H1,I1,q1⟩
theorem ai4 (ha:PT X a tA)(hb:PW X (.BoolOp .Or (b::rest) pos) tB'):PW X (.BoolOp .Or (a::b::rest) pos) (tOr tA tB'):=by
 intro wh pins s σ H Q I h
 refine isTrue_or (thn (ha pins s σ H _ I h) fun c s1 ⟨H1,I1,q1⟩=>?_)
 cases c with
 | true=>exact⟨H1,I1,q1⟩
 | false=>exact hb wh pins s1 σ H1 Q I1 q1
theorem R0 (ha:PT X a tA):PT X (.UnaryOp .Not a pos) (ce7 tA):=by
 intro pins s σ H Q I h
 exact isTrue_not (ha pins s σ H (fun c H1=>Q (!c) H1) I h)
def bZ5 (ta tb:TE):TE:=fun σ H Q=>ta σ H fun x H1=>∃ c,x=.bl c/\if c=true then tb σ H1 Q else Q (.bl false) H1
def bY9 (ta:TE):TE:=fun σ H Q=>ta σ H fun x H1=>∃ c,x=.bl c/\Q (.bl (!c)) H1
theorem aM3 {op}{t:TE}(h:PE X a t):PE X (.BoolOp op [a] pos) t:=fun pins s σ H Q I hw=>BoolOp_one (h pins s σ H Q I hw)
theorem aM5 (ha:PE X a ta)(hb:PE X (.BoolOp .And (b::rest) pos) tb):PE X (.BoolOp .And (a::b::rest) pos) (bZ5 ta tb):=by
 intro pins s σ H Q I h
 refine BoolOp_and (thn (ha pins s σ H _ I h) fun v s1 ⟨x,H1,I1,r1,q1⟩=>?_)
 obtain⟨c,rfl,q1⟩:=q1
 cases r1
 refine F3 ?_
 cases c with
 | true=>exact hb pins s1 σ H1 Q I1 q1
 | false=>exact⟨.bl false,H1,I1,rfl,q1⟩
theorem bQ6 (ha:PE X a ta):PE X (.UnaryOp .Not a pos) (bY9 ta):=by
 intro pins s σ H Q I h
 refine UnaryOp_ (thn (ha pins s σ H _ I h) fun v s1 ⟨x,H1,I1,r1,q1⟩=>?_)
 obtain⟨c,rfl,q1⟩:=q1
 cases r1
 exact not_of (F3 ⟨.bl (!c),H1,I1,rfl,q1⟩)
def tIf (t:TT)(ta tb:TE):TE:=fun σ H Q=>t σ H fun c H1=>if c=true then ta σ H1 Q else tb σ H1 Q
theorem bt3 {c:Expr}(hc:PT X c tA)(ha:PE X a ta)(hb:PE X b tb):PE X (.IfExp c a b pos) (tIf tA ta tb):=by
 intro pins s σ H Q I h
 refine wpAny_IfExp (thn (hc pins s σ H _ I h) fun d s1 ⟨H1,I1,q1⟩=>?_)
 cases d with
 | true=>exact ha pins s1 σ H1 Q I1 q1
 | false=>exact hb pins s1 σ H1 Q I1 q1
end
def SqL (K:W.Frag)(H:Hp)(a:Addr)(xs:List V):Prop:=
 Rd H a (.lst xs) \/
  ∃ (o:Obj) (its:Array Value) (n:Nat),K.lookup a=some o/\o.cls=.type "list"/\o.dict=none/\o.data=.seq its n/\its.size<=d7/\D3 xs its.toList
def SqT (K:W.Frag)(H:Hp)(a:Addr)(xs:List V):Prop:=
 Rd H a (.tup xs) \/
  ∃ (o:Obj) (its:Array Value) (n:Nat),K.lookup a=some o/\o.cls=.type "tuple"/\o.data=.seq its n/\its.size<=d7/\D3 xs its.toList
def ch2:Value->Option V
 | .none=>some .non
 | .bool b=>some (.bl b)
 | .int i _=>some (.int i)
 | .str x _=>some (.str x)
 | .bytes b _=>some (.byt b)
 | .float b _=>some (.flt b)
 | .ref a=>some (.ref a)
 | .type n=>some (.ty n)
 | _=>none
theorem RelV.abs {x:V}(r:RelV x u):ch2 u=some x:=by
 cases x with
 | non=>cases r;rfl
 | bl _=>cases r;rfl
 | int _=>obtain⟨t,rfl⟩:=r;rfl
 | str _=>obtain⟨t,rfl⟩:=r;rfl
 | byt _=>obtain⟨t,rfl⟩:=r;rfl
 | flt _=>obtain⟨t,rfl⟩:=r;rfl
 | ref _=>cases r;rfl
 | ty _=>cases r;rfl
theorem RelV.inj {x y:V}(r:RelV x u)(q:RelV y u):x=y:=Option.some.inj (r.abs.symm.trans q.abs)
theorem D3.inj:∀ {xs ys:List V} {us:List Value},D3 xs us->D3 ys us->xs=ys
 | _,_,_,.nil,.nil=>rfl
 | _,_,_,.cons r t,.cons r' t'=>by rw[r.inj r',D3.inj t t']
section
variable {σ:St}
theorem SqL.of {K:W.Frag}(h:H a=some (.lst xs)):SqL K H a xs:=.inl (.inl h)
theorem SqT.of {K:W.Frag}(h:H a=some (.tup xs)):SqT K H a xs:=.inl (.inl h)
theorem Inv.list (I:Inv X pins σ H s)(h:SqL X.K H a xs):∃ its:List Value,D3 xs its/\PlainL s.heap a its.toArray/\xs.length<=d7:=by
 rcases h with h | ⟨o,its,n,hk,hc,hd,hs,hz,r⟩
 ·obtain⟨z,its,n,r,e⟩:=h.ok I.hok
  exact⟨its,r,⟨_,n,e,rfl,rfl,rfl⟩,z⟩
 ·refine⟨its.toList,r,⟨o,n,I.kIn a o hk,hc,hd,by simpa using hs⟩,?_⟩
  have e:=r.length
  simp only[o7]at e
  omega
theorem Inv.tuple (I:Inv X pins σ H s)(h:SqT X.K H a xs):∃ its:List Value,D3 xs its/\IsTup s.heap a its.toArray/\xs.length<=d7:=by
 rcases h with h | ⟨o,its,n,hk,hc,hs,hz,r⟩
 ·obtain⟨z,its,r,p⟩:=h.ok I.hok
  exact⟨its,r,p,z⟩
 ·refine⟨its.toList,r,⟨o,I.kIn a o hk,hc,n,by simpa using hs⟩,?_⟩
  have e:=r.length
  simp only[o7]at e
  omega
theorem Inv.list_inj (I:Inv X pins σ H s)(h:SqL X.K H a xs)(h':SqL X.K H a ys):xs=ys:=by
 obtain⟨its,r,⟨o,n,e,_,_,d⟩,_⟩:=I.list h
 obtain⟨its',r',⟨o',n',e',_,_,d'⟩,_⟩:=I.list h'
 rw[e]at e';cases e'
 rw[d]at d'
 injection d' with d1 _
 have:its=its':=by simpa using congrArg Array.toList d1
 subst this
 exact r.inj r'
theorem Inv.tuple_inj (I:Inv X pins σ H s)(h:SqT X.K H a xs)(h':SqT X.K H a ys):xs=ys:=by
 obtain⟨its,r,⟨o,e,_,n,d⟩,_⟩:=I.tuple h
 obtain⟨its',r',⟨o',e',_,n',d'⟩,_⟩:=I.tuple h'
 rw[e]at e';cases e'
 rw[d]at d'
 injection d' with d1 _
 have:its=its':=by simpa using congrArg Array.toList d1
 subst this
 exact r.inj r'
end
abbrev Cx.wish (X:Cx)(E:Value->Shared->Prop):Cx:={ X with xe:=E }
abbrev Cx.nox (X:Cx):Cx:=X.wish fun _ _=>False
theorem Cx.Ok.wish (ok:X.Ok)(E:Value->Shared->Prop):(X.wish E).Ok:=
 ⟨ok.mod,ok.kind,ok.glob,ok.blt,ok.above,ok.inj,ok.has,ok.cab,ok.hd,ok.frames,ok.stk,ok.exf,ok.bs,ok.bsz,ok.noex,ok.exfs,ok.funs,ok.frf⟩
theorem Cx.Ok.unwish (ok:(X.wish E).Ok):X.Ok:=
 ⟨ok.mod,ok.kind,ok.glob,ok.blt,ok.above,ok.inj,ok.has,ok.cab,ok.hd,ok.frames,ok.stk,ok.exf,ok.bs,ok.bsz,ok.noex,ok.exfs,ok.funs,ok.frf⟩
section
variable {σ:St}
theorem Inv.wish (I:Inv X pins σ H s)(E:Value->Shared->Prop):Inv (X.wish E) pins σ H s:=⟨I.ok.wish E,I.os,I.bare,I.base,I.loc,I.cell,I.free,I.freeC,I.pin,I.hok,I.len⟩
theorem Inv.unwish (I:Inv (X.wish E) pins σ H s):Inv X pins σ H s:=⟨I.ok.unwish,I.os,I.bare,I.base,I.loc,I.cell,I.free,I.freeC,I.pin,I.hok,I.len⟩
theorem SP.unwish {D:Ends}{f:Flow}{s':Shared}(h:SP (X.wish E) pins D f s'):SP X pins D f s':=by
 cases f with
 | next=>obtain⟨σ',H',I,q⟩:=h;exact⟨σ',H',I.unwish,q⟩
 | brk=>obtain⟨σ',H',I,q⟩:=h;exact⟨σ',H',I.unwish,q⟩
 | cont=>obtain⟨σ',H',I,q⟩:=h;exact⟨σ',H',I.unwish,q⟩
 | ret u=>obtain⟨v,σ',H',I,r,q⟩:=h;exact⟨v,σ',H',I.unwish,r,q⟩
theorem PSs.nox {st:List Stmt}{t:TS}(h:PSs X.nox st t):PSs X st t:=fun pins s σ H D I hw =>
 E5 (h pins s σ H D (I.wish _) hw) (fun _ _ q=>q.unwish) fun _ _ z=>False.elim z
end
section
variable {st:Stmt} {rest:List Stmt} {t u:TS}
def bZ0:TS:=fun D σ H=>D.nx σ H
def ce5 (t u:TS):TS:=fun D σ H=>t { D with nx:=u D } σ H
theorem A3:PSs X [] bZ0:=fun _ _ σ H _ I h=>Y9 ⟨σ,H,I,h⟩
theorem d8 (h1:PS X st t)(h2:PSs X rest u):PSs X (st::rest) (ce5 t u):=by
 intro pins s σ H D I h
 refine aX8 (thn (h1 pins s σ H { D with nx:=u D } I h) fun f s1 q=>?_)
 cases f with
 | next =>
  obtain⟨σ',H',I',q⟩:=q
  exact h2 pins s1 σ' H' D I' q
 | ret v=>exact q
 | brk=>exact q
 | cont=>exact q
theorem k8 (h1:PS X st t):PSs X [st] t:=by
 intro pins s σ H D I h
 refine aX8 (thn (h1 pins s σ H D I h) fun f s1 q=>?_)
 cases f with
 | next=>exact Y9 q
 | ret v=>exact q
 | brk=>exact q
 | cont=>exact q
theorem Inv.quiet {σ:St}(I:Inv X pins σ H s):interactive X.env=false:=by simp[interactive,I.ok.kind]
def bZ2 (te:TE):TS:=fun D σ H=>te σ H fun _ H1=>D.nx σ H1
theorem J6 (he:PE X e te)(hs:swapsWith e none pos.line X.env=pure false:=by rfl):PS X (.Expr e pos) (bZ2 te):=by
 intro pins s σ H D I h
 exact wpAny_Expr_any (thn (he pins s σ H _ I h) fun v s1 ⟨x,H1,I1,r1,q1⟩=>⟨σ,H1,I1,q1⟩) I.quiet hs
def ce6 (te:TE):TS:=fun D σ H=>te σ H D.rt
theorem B8 (he:PE X e te):PS X (.Return (some e) pos) (ce6 te):=by
 intro pins s σ H D I h
 exact wpAny_Return_some (thn (he pins s σ H _ I h) fun v s1 ⟨x,H1,I1,r1,q1⟩=>⟨x,σ,H1,I1,r1,q1⟩)
def cf0 (c:TT)(t u:TS):TS:=fun D σ H=>c σ H fun b H1=>if b=true then t D σ H1 else u D σ H1
theorem F1 {c:Expr}{a b:List Stmt}{tc:TT}(hc:PT X c tc)(ha:PSs X a t)(hb:PSs X b u):PS X (.If c a b pos) (cf0 tc t u):=by
 intro pins s σ H D I h
 refine wpAny_If (thn (hc pins s σ H _ I h) fun d s1 ⟨H1,I1,q1⟩=>?_)
 cases d with
 | true=>exact ha pins s1 σ H1 D I1 q1
 | false=>exact hb pins s1 σ H1 D I1 q1
def bO4:TS:=fun _ _ _=>False
theorem ad7 {sts:List Stmt}:PSs X sts bO4:=fun _ _ _ _ _ _ h=>h.elim
end
abbrev TG:=V->St->Hp->(St->Hp->Prop)->Prop
abbrev TGs:=List V->St->Hp->(St->Hp->Prop)->Prop
def PG (X:Cx)(target:Expr)(t:TG):Prop:=
 ∀ (pins:List (Addr × Obj)) (s:Shared) (σ:St) (H:Hp) (v:V) (u:Value) (Q:St->Hp->Prop),Inv X pins σ H s->RelV v u->t v σ H Q ->
  q8 (u7 X.prog X.w) X.A (bM2 target X.env u) (fun _ s'=>∃ σ' H',Inv X pins σ' H' s'/\Q σ' H') X.xe s
def PGs (X:Cx)(ts:List Expr)(t:TGs):Prop:=
 ∀ (pins:List (Addr × Obj)) (s:Shared) (σ:St) (H:Hp) (vs:List V) (us:List Value) (Q:St->Hp->Prop),Inv X pins σ H s->D3 vs us->t vs σ H Q ->
  q8 (u7 X.prog X.w) X.A (assignInOrder ((ag1 ts X.env).map (·.2)) us) (fun _ s'=>∃ σ' H',Inv X pins σ' H' s'/\Q σ' H') X.xe s
abbrev by6:=V->V->V->Hp->(Hp->Prop)->Prop
def bV3 (X:Cx)(t:by6):Prop:=
 ∀ (pins:List (Addr × Obj)) (s:Shared) (σ:St) (H:Hp) (o i v:V) (ov iv u:Value) (Q:Hp->Prop),Inv X pins σ H s->RelV o ov->RelV i iv->RelV v u->t o i v H Q ->
  q8 (u7 X.prog X.w) X.A (setItem ov iv u) (fun _ s'=>∃ H',Inv X pins σ H' s'/\Q H') X.xe s
abbrev TIp:=V->V->Hp->VK->Prop
def PIp (X:Cx)(op:Operator)(t:TIp):Prop:=
 ∀ (pins:List (Addr × Obj)) (s:Shared) (σ:St) (H:Hp) (x y:V) (v u:Value) (Q:VK),Inv X pins σ H s->RelV x v->RelV y u->t x y H Q ->
  q8 (u7 X.prog X.w) X.A (inplaceOp op v u) (EP X pins σ Q) X.xe s
def aD5 (i:Nat):TG:=fun v σ H Q=>Q (σ.set i (some v)) H
theorem B4 (hN:X.N.Nodup)(hi:X.N[i]?=some x)(hx:Loc X.env.scope x)(hf:X.fn x=true\/X.env.scope.names.lookup x=some .local:=by first | exact .inl rfl | exact .inr rfl | assumption):PG X (.Name x pos) (aD5 i):=by
 intro pins s σ H v u Q I r h
 exact wpAny_assign_Name (ap9 I hN hi hx r (fun s' I'=>⟨_,H,I',h⟩) hf)
def ch0:TGs:=fun vs σ H Q=>vs=[]/\Q σ H
def cc8 (t:TG)(u:TGs):TGs:=fun vs σ H Q=>∃ v r,vs=v::r/\t v σ H fun σ' H'=>u r σ' H' Q
theorem Z5:PGs X [] ch0:=by
 intro pins s σ H vs us Q I r h
 obtain⟨e,h⟩:=h
 subst e
 cases r
 exact assignInOrder_nil ⟨σ,H,I,h⟩
theorem F7 {t:TG}{u:TGs}(h1:PG X e t)(h2:PGs X es u)
  (hs:(ag1 (e::es) X.env).map (·.2)=bM2 e X.env::(ag1 es X.env).map (·.2):=by rfl):PGs X (e::es) (cc8 t u):=by
 intro pins s σ H vs us Q I r h
 obtain⟨v,vr,e1,h⟩:=h
 subst e1
 cases r with
 | cons r rr =>
  rw[hs]
  refine assignInOrder_cons (thn (h1 pins s σ H _ _ _ I r h) fun _ s1 ⟨σ1,H1,I1,q1⟩=>?_)
  exact h2 pins s1 σ1 H1 _ _ Q I1 rr q1
def cc7 (K:W.Frag)(n:Nat)(t:TGs):TG:=fun v σ H Q=>∃ a xs,v=.ref a/\SqT K H a xs/\xs.length=n/\t xs σ H Q
theorem at9 {k:Nat}{t:TGs}(hc:X.calm=true)(h:PGs X es t)
  (hn:(ag1 es X.env).length=n:=by rfl)(hst:(ag1 es X.env).findIdx? (·.1)=none:=by rfl):PG X (.Tuple es k pos) (cc7 X.K n t):=by
 intro pins s σ H v u Q I r hw
 obtain⟨a,xs,e1,hq,hl,hw⟩:=hw
 subst e1
 cases r
 obtain⟨its,rv,ht,hz⟩:=I.tuple hq
 refine assign_Tuple_tuple (I.ok.hd hc) ht (by simp[hn,<- hl,rv.length]) hst fun h' hx=>?_
 have I1:Inv X pins σ H { s with heap:=h' }:=I.kept (t':=s.toks) fun b o e=>hx b o (l7 (d5 e)) e
 exact h pins _ σ H xs _ Q I1 (by simpa using rv) hw
def cg9 (to ti:TE)(t:by6):TG:=fun v σ H Q=>to σ H fun o H1=>ti σ H1 fun i H2=>t o i v H2 fun H3=>Q σ H3
theorem T8 {i:Expr} {to ti:TE} {t:by6} (ho:PE X o to) (hi:PE X i ti) (hs:bV3 X t)
  (ha : ∀ v, bM2 (.Subscript o i pos) X.env v = (do
   let ov <- aF6 [v] (eval o X.env)
   let iv <- aF6 [v,ov] (eval i X.env)
   standAt pos
   aF6 [v,ov,iv] (setItem ov iv v)
   release [v,ov,iv] []):=by intro _;rfl):PG X (.Subscript o i pos) (cg9 to ti t):=by
 intro pins s σ H v u Q I r h
 rw[ha]
 refine b8 (E9 (thn (ho pins s σ H _ I h) fun ov s1 ⟨x,H1,I1,r1,q1⟩=>?_))
 refine b8 (E9 (thn (hi pins s1 σ H1 _ I1 q1) fun iv s2 ⟨y,H2,I2,r2,q2⟩=>?_))
 refine b8 (Z0 (b8 (E9 (thn (hs pins s2 σ H2 x y v ov iv u _ I2 r1 r2 r q2) fun _ s3 ⟨H3,I3,q3⟩=>?_))))
 exact wpAny_release ⟨σ,H3,I3,q3⟩
def bZ4 (te:TE)(g:TG):TS:=fun D σ H=>te σ H fun x H1=>g x σ H1 D.nx
theorem R1 {g:TG}(he:PE X e te)(hg:PG X tg g)(hs:swapsWithSole [tg] e pos.line X.env=pure false:=by rfl)(hw:swappedStores [tg] e X.env=pure none:=by rfl)
  (h1:(ag1 [tg] X.env).map (·.2)=[bM2 tg X.env]:=by rfl):PS X (.Assign [tg] e pos) (bZ4 te g):=by
 intro pins s σ H D I h
 refine wpAny_Assign_stores (thn (he pins s σ H _ I h) fun v s1 ⟨x,H1,I1,r1,q1⟩=>?_) hs hw
 rw[h1]
 exact thn (hg pins s1 σ H1 x v _ I1 r1 q1) fun _ s2 q=>q
theorem y7 {pos':Pos}(hN:X.N.Nodup)(hi:X.N[i]?=some x)(hx:Loc X.env.scope x)(he:PE X e te)(hs:swapsWith e (some (.Name x pos')) pos.line X.env=pure false:=by rfl)(hf:X.fn x=true\/X.env.scope.names.lookup x=some .local:=by first | exact .inl rfl | exact .inr rfl | assumption) :
  PS X (.Assign [.Name x pos'] e pos) (bZ4 te (aD5 i)):=by
 intro pins s σ H D I h
 refine wpAny_Assign_Name (thn (he pins s σ H _ I h) fun v s1 ⟨y,H1,I1,r1,q1⟩=>?_) hs
 exact ap9 I1 hN hi hx r1 (fun s2 I2=>⟨_,H1,I2,q1⟩) hf
def cf4 (i:Nat)(te:TE)(ti:TIp):TS:=fun D σ H=>∃ x,σ[i]?=some (some x)/\te σ H fun y H1=>ti x y H1 fun z H2=>D.nx (σ.set i (some z)) H2
theorem bQ4 {op:Operator}{ti:TIp}{pos':Pos}(hN:X.N.Nodup)(hi:X.N[i]?=some x)(hx:Loc X.env.scope x)(he:PE X e te)(ho:PIp X op ti)(hf:X.fn x=true\/X.env.scope.names.lookup x=some .local:=by first | exact .inl rfl | exact .inr rfl | assumption) :
  PS X (.AugAssign (.Name x pos') op e pos) (cf4 i te ti):=by
 intro pins s σ H D I h
 obtain⟨v,e1,h⟩:=h
 obtain⟨m,hn,hl⟩:=I.loc
 have vis:Vis X.env.scope x:=by rcases hx with k | k;exact .inl k;exact .inr (.inl k)
 obtain⟨u,r,l⟩:=hl i x v hi e1 vis
 refine wpAny_AugAssign_Name ?_
 have go:q8 (u7 X.prog X.w) X.A (eval e X.env) (fun w s₂=>q8 (u7 X.prog X.w) X.A (inplaceOp op u w) (fun r s₃=>q8 (u7 X.prog X.w) X.A (storeName X.env x r) (fun _=>SP X pins D .next) X.xe s₃) X.xe s₂) X.xe s:=by
  refine thn (he pins s σ H _ I h) fun w s1 ⟨y,H1,I1,r1,q1⟩=>?_
  refine thn (ho pins s1 σ H1 v y u w _ I1 r r1 q1) fun z s2 ⟨zv,H2,I2,r2,q2⟩=>?_
  exact ap9 I2 hN hi hx r2 (fun s3 I3=>⟨_,H2,I3,q2⟩) hf
 rcases l with⟨hk,hm⟩ | ⟨hk,c,hc,hcell⟩
 ·exact bW5 I.ok.kind hk hn hm go
 ·rcases hk with hk | hk
  ·exact bX5 I.ok.kind hk hc hcell go
  ·rcases hx with k | k
   ·have:X.env.scope.names.lookup x=some .free:=hk
    rw[k]at this;cases this
   ·have:X.env.scope.names.lookup x=some .free:=hk
    rw[k]at this;cases this
def bZ3 (to ti te:TE)(tget:V->V->Hp->VK->Prop)(tip:TIp)(tset:by6):TS:=fun D σ H=>to σ H fun o H1=>ti σ H1 fun i H2=>tget o i H2 fun x H3=>te σ H3 fun y H4=>tip x y H4 fun z H5=>tset o i z H5 fun H6=>D.nx σ H6
def ce0 (X:Cx)(t:V->V->Hp->VK->Prop):Prop:=
 ∀ (pins:List (Addr × Obj)) (s:Shared) (σ:St) (H:Hp) (o i:V) (ov iv:Value) (Q:VK),Inv X pins σ H s->RelV o ov->RelV i iv->t o i H Q ->
  q8 (u7 X.prog X.w) X.A (bA5 ov iv) (EP X pins σ Q) X.xe s
theorem be3 {i:Expr}{to ti:TE}{tget:V->V->Hp->VK->Prop}{tip:TIp}{tset:by6}{op:Operator}{tpos:Pos}(ho:PE X o to)(hi:PE X i ti)(hg:ce0 X tget)(he:PE X e te)(hp:PIp X op tip)(hs:bV3 X tset)
  (ha:∀ ov iv new,augStore i ov iv new=(do aF6 [new,ov,iv] (setItem ov iv new);release [new,ov,iv] [];pure .next):=by intros;rfl):PS X (.AugAssign (.Subscript o i tpos) op e pos) (bZ3 to ti te tget tip tset):=by
 intro pins s σ H D I h
 refine wpAny_AugAssign_SubscriptAny (thn (ho pins s σ H _ I h) fun ov s1 ⟨x1,H1,I1,r1,q1⟩=>?_) ha
 refine thn (hi pins s1 σ H1 _ I1 q1) fun iv s2 ⟨x2,H2,I2,r2,q2⟩=>?_
 refine thn (hg pins s2 σ H2 x1 x2 ov iv _ I2 r1 r2 q2) fun old s3 ⟨x3,H3,I3,r3,q3⟩=>?_
 refine thn (he pins s3 σ H3 _ I3 q3) fun v s4 ⟨x4,H4,I4,r4,q4⟩=>?_
 refine thn (hp pins s4 σ H4 x3 x4 old v _ I4 r3 r4 q4) fun new s5 ⟨x5,H5,I5,r5,q5⟩=>?_
 exact thn (hs pins s5 σ H5 x1 x2 x5 ov iv new _ I5 r1 r2 r5 q5) fun _ s6 ⟨H6,I6,q6⟩=>⟨σ,H6,I6,q6⟩
def ipI (f:Int->Int->Int):TIp:=fun x y H Q=>∃ i j,x=.int i/\y=.int j/\Q (.int (f i j)) H
theorem bw0:PIp X .Add (ipI fun i j=>i+j):=by
 intro pins s σ H x y v u Q I r1 r2 h
 obtain⟨i,j,e1,e2,q⟩:=h
 subst e1;subst e2
 obtain⟨t,rfl⟩:=r1
 obtain⟨t',rfl⟩:=r2
 exact iadd_int ⟨.int _,H,I.tok _,⟨_,rfl⟩,q⟩
def bO1 (c:TT)(tb:TS):TS:=fun D σ H=>∃ W:Nat->St->Hp->Prop,(∃ m,W m σ H)/\∀ m σ H,W m σ H ->
 c σ H fun b H1=>if b=true then ∃ N:St->Hp->Prop,(∀ σ' H',N σ' H'->∃ m',m'<m/\W m' σ' H')/\tb { D with nx:=N,ct:=N,bk:=D.nx } σ H1 else D.nx σ H1
theorem bs5 {c:Expr}{tc:TT}{tb:TS}(hp:PassesOwn (u7 X.prog X.w) X.A X.env X.xe)(hc:PT X c tc)(hb:PSs X body tb):PS X (.While c body [] pos) (bO1 tc tb):=by
 intro pins s σ H D I h
 obtain⟨W,⟨m0,w0⟩,turn⟩:=h
 refine wpAny_While (codeAny_whileLoop (fun n s'=>∃ σ' H',Inv X pins σ' H' s'/\W n σ' H') ?_ m0 ⟨σ,H,I,w0⟩)
 rintro n s1 ⟨σ1,H1,I1,w1⟩
 refine U7 hp (thn (hc pins s1 σ1 H1 _ I1 (turn n σ1 H1 w1)) fun b s2 ⟨H2,I2,q2⟩=>?_)
 cases b with
 | true =>
  obtain⟨N,hN,q2⟩:=q2
  rw[if_pos rfl]
  refine U7 hp (thn (hb pins s2 σ1 H2 _ I2 q2) fun f s3 q3=>?_)
  cases f with
  | next =>
   obtain⟨σ3,H3,I3,n3⟩:=q3
   obtain⟨m',hm,w3⟩:=hN σ3 H3 n3
   exact⟨m',hm,σ3,H3,I3,w3⟩
  | cont =>
   obtain⟨σ3,H3,I3,n3⟩:=q3
   obtain⟨m',hm,w3⟩:=hN σ3 H3 n3
   exact⟨m',hm,σ3,H3,I3,w3⟩
  | brk=>exact q3
  | ret v=>exact q3
 | false =>
  rw[if_neg j9]
  exact Y9 ⟨σ1,H2,I2,q2⟩
structure It where
 go:Nat->Hp->Prop
 yld:Nat->Hp->V->Hp->Prop
 stop:Nat->Hp->Prop
def ad1 (X:Cx)(pins:List (Addr × Obj))(H:Hp)(b:Addr):Prop:=
 H b=none/\b≠X.env.locals/\b∉X.fs/\(b∈X.ex\/X.s₀.heap.objs.size<=b)/\(∀ x c,X.env.cells.lookup x=some c->c≠b)/\∀ p∈X.pn++pins,p.1≠b
theorem Inv.fpOk {σ:St}{b:Addr}(I:Inv X pins σ H s)(hb:s.heap.objs.size<=b)(hn:H' b=none):ad1 X pins H' b:=by
 refine⟨hn,L9 (p5 I.lt hb),I.nofs hb,.inr (C4 I.sz hb),fun x c e z=>?_,fun p hp z=>?_⟩
 ·obtain⟨v,q⟩:=I.cell x c e
  exact absurd (p5 q.lt (by rw[z];exact hb)) (D0 _)
 ·exact absurd (p5 (d5 (I.pin p hp).1) (by rw[z];exact hb)) (D0 _)
structure Turn (P:Program) (w:World) (K:W.Frag) (tg:Expr) (J:It) (fp:List Addr) (it:Addr) (tn:Nat->Heap->Prop):Prop where
 mem:it∈fp
 obj:∀ i h,tn i h->∀ b∈fp,∃ o,h.get? b=some o/\∀ v,o.data≠.cell v
 keep:∀ i h h',tn i h->(∀ b∈fp,∀ o,h.get? b=some o->h'.get? b=some o)->tn i h'
 item:∀ (X:Cx),X.prog=P->X.w=w->X.K=K->X.calm=true->∀ (i:Nat) (pins:List (Addr × Obj)) (s:Shared) (σ:St) (H:Hp) (E:Value->Shared->Prop),Inv X pins σ H s->(∀ b∈fp,ad1 X pins H b)->tn i s.heap->J.go i H ->
  q8 (u7 P w) X.A (aJ8 (.ref it)) (fun r s1=>∃ u,r=some u /\
   q8 (u7 P w) X.A (bh2 tg (.ref it) u) (fun _ s2=>∃ x H',Inv X pins σ H' s2/\RelV x u/\J.yld i H x H'/\tn (i+1) s2.heap/\∀ b∈fp,H' b=none) E s1) E s
 done:∀ (X:Cx),X.prog=P->X.w=w->X.K=K->X.calm=true->∀ (i:Nat) (pins:List (Addr × Obj)) (s:Shared) (σ:St) (H:Hp) (E:Value->Shared->Prop),Inv X pins σ H s->(∀ b∈fp,ad1 X pins H b)->tn i s.heap->J.stop i H ->
  q8 (u7 P w) X.A (aJ8 (.ref it)) (fun r s1=>r=none/\Inv X pins σ H s1) E s
 self:∀ (A:Around) (i:Nat) (s:Shared) (Q:Value->Shared->Prop) (E:Value->Shared->Prop),tn i s.heap->Q (.ref it) s->q8 (u7 P w) A (pyIter (.ref it)) Q E s
abbrev TI:=St->Hp->(It->Hp->Prop)->Prop
def PIE (X:Cx)(pins:List (Addr × Obj))(σ:St)(tg:Expr)(R:It->Hp->Prop)(itv:Value)(s2:Shared):Prop:=
 ∃ (it:Addr) (fp:List Addr) (tn:Nat->Heap->Prop) (J:It) (H':Hp),itv=.ref it/\Inv X pins σ H' s2/\Turn X.prog X.w X.K tg J fp it tn/\tn 0 s2.heap/\(∀ b∈fp,ad1 X pins H' b)/\R J H'
def PI (X:Cx)(tg iter:Expr)(wi:TI):Prop:=
 ∀ (pins:List (Addr × Obj)) (s:Shared) (σ:St) (H:Hp) (R:It->Hp->Prop),Inv X pins σ H s->wi σ H R ->
  q8 (u7 X.prog X.w) X.A (eval iter X.env) (fun v s1=>q8 (u7 X.prog X.w) X.A (pyIter v) (PIE X pins σ tg R) X.xe s1) X.xe s
theorem bw4 {it:Addr} {o:Obj} {n:String} {vs:Array Value} {Q:Unit->Shared->Prop} (ho:s.heap.get? it=some o) (hc:o.cls=.type n) (hd:o.data=.fields vs)
    (hn:["enumerate","zip","dict_itemiterator","dict_reverseitemiterator","odict_iterator","itertools.zip_longest","itertools.pairwise"].contains n=false) (hQ:Q () s):q8 M A (bh2 tg (.ref it) u) Q E s:=by
  unfold bh2
  cases tg<;>first
    | exact i7 hQ
    | (cases u<;>first
        | exact i7 hQ
        | (refine b8 (wpAny_load ho ?_)
           rw[hc,hd]
           show q8 M A (if (["enumerate","zip","dict_itemiterator","dict_reverseitemiterator","odict_iterator","itertools.zip_longest","itertools.pairwise"].contains n && vs[0]? == some (Y2 _))=true then _ else _) Q E s
           rw[if_neg (by intro h;rw[hn,Bool.false_and]at h;cases h)]
           exact i7 hQ))
def Itl (K:W.Frag)(a:Addr):It:=
 ⟨fun i H=>∃ xs x,SqL K H a xs/\xs[i]?=some x,fun i H x H'=>H'=H/\∀ xs,SqL K H a xs->xs[i]?=some x,fun i H=>∃ xs,SqL K H a xs/\xs.length<=i⟩
def Itt (K:W.Frag)(a:Addr):It:=
 ⟨fun i H=>∃ xs x,SqT K H a xs/\xs[i]?=some x,fun i H x H'=>H'=H/\∀ xs,SqT K H a xs->xs[i]?=some x,fun i H=>∃ xs,SqT K H a xs/\xs.length<=i⟩
def Itr (lo:Int)(n:Nat):It:=⟨fun i _=>i<n,fun i H x H'=>H'=H/\x=.int (lo+i),fun i _=>n<=i⟩
theorem bi6 {K:W.Frag}(a it:Addr):Turn P w K tg (Itl K a) [it] it (fun i h=>h.IsListIter it a i) where
 mem:=by simp
 obj:=fun i h st b hb=>by
  have e:b=it:=by simpa using hb
  subst e
  obtain⟨o,e,c,d⟩:=st
  exact⟨o,e,fun v z=>by rw[d]at z;cases z⟩
 keep:=fun i h h' st k=>st.at fun o e=>k it (by simp) o e
 item:=by
  intro X hP hw hK hc i pins s σ H E I hf st hg
  subst hP hw hK
  obtain⟨xs,x,hq,hx⟩:=hg
  obtain⟨its,rv,p,hz⟩:=I.list hq
  obtain⟨u,hu,ru⟩:=rv.get hx
  obtain⟨f0,f1,f2,f3,f4,f5⟩:=hf it (by simp)
  refine wpAny_pyNext_list_item st p.isList (x:=u) (by simpa using hu) fun h' st' sb=>?_
  have I1:Inv X pins σ H { s with heap:=h' }:=I.turned (t':=s.toks) (fun b o hb e=>(sb.2 b hb).trans e) f0 f1 f3 f4 f5
  obtain⟨o,e,c,d⟩:=id st'
  exact⟨u,rfl,bw4 (s:={ s with heap:=h' }) e c d (by decide) ⟨x,H,I1,ru,⟨rfl,fun ys hy=>by rw[I.list_inj hy hq];exact hx⟩,st',fun b hb=>(hf b hb).1⟩⟩
 done:=by
  intro X hP hw hK hc i pins s σ H E I hf st hg
  subst hP hw hK
  obtain⟨xs,hq,hx⟩:=hg
  obtain⟨its,rv,p,hz⟩:=I.list hq
  obtain⟨f0,f1,f2,f3,f4,f5⟩:=hf it (by simp)
  have hl:=rv.length
  exact wpAny_pyNext_list_end (I.ok.hd hc) st p.isList (by simp;omega) fun h' eb=>⟨rfl,I.turned (t':=s.toks) (fun b o hb e=>eb b o hb e) f0 f1 f3 f4 f5⟩
 self:=fun _ _ _ _ _ st h=>wpAny_pyIter_listiter st h
theorem aY1 {K:W.Frag}(a it:Addr):Turn P w K tg (Itt K a) [it] it (fun i h=>h.IsTupleIter it a i) where
 mem:=by simp
 obj:=fun i h st b hb=>by
  have e:b=it:=by simpa using hb
  subst e
  obtain⟨o,e,c,d⟩:=st
  exact⟨o,e,fun v z=>by rw[d]at z;cases z⟩
 keep:=fun i h h' st k=>st.at fun o e=>k it (by simp) o e
 item:=by
  intro X hP hw hK hc i pins s σ H E I hf st hg
  subst hP hw hK
  obtain⟨xs,x,hq,hx⟩:=hg
  obtain⟨its,rv,p,hz⟩:=I.tuple hq
  obtain⟨u,hu,ru⟩:=rv.get hx
  obtain⟨f0,f1,f2,f3,f4,f5⟩:=hf it (by simp)
  refine wpAny_pyNext_tuple_item st (show s.heap.IsTuple a its.toArray from p) (x:=u) (by simpa using hu) fun h' st' sb=>?_
  have I1:Inv X pins σ H { s with heap:=h' }:=I.turned (t':=s.toks) (fun b o hb e=>(sb.2 b hb).trans e) f0 f1 f3 f4 f5
  obtain⟨o,e,c,d⟩:=id st'
  exact⟨u,rfl,bw4 (s:={ s with heap:=h' }) e c d (by decide) ⟨x,H,I1,ru,⟨rfl,fun ys hy=>by rw[I.tuple_inj hy hq];exact hx⟩,st',fun b hb=>(hf b hb).1⟩⟩
 done:=by
  intro X hP hw hK hc i pins s σ H E I hf st hg
  subst hP hw hK
  obtain⟨xs,hq,hx⟩:=hg
  obtain⟨its,rv,p,hz⟩:=I.tuple hq
  obtain⟨f0,f1,f2,f3,f4,f5⟩:=hf it (by simp)
  have hl:=rv.length
  exact wpAny_pyNext_tuple_end (I.ok.hd hc) st (show s.heap.IsTuple a its.toArray from p) (by simp;omega) fun h' eb=>⟨rfl,I.turned (t':=s.toks) (fun b o hb e=>eb b o hb e) f0 f1 f3 f4 f5⟩
 self:=fun _ _ _ _ _ st h=>wpAny_pyIter_tupleiter st h
theorem aY2 {K:W.Frag}(it:Addr)(lo:Int)(n:Nat):Turn P w K tg (Itr lo n) [it] it (fun i h=>IsRangeIter h it (lo+(i:Nat)*1) ((n:Int) - (i:Nat)) 1) where
 mem:=by simp
 obj:=fun i h st b hb=>by
  have e:b=it:=by simpa using hb
  subst e
  exact⟨_,st,fun v z=>by
   have z':Data.fields _=Data.cell v:=z
   cases z'⟩
 keep:=fun i h h' st k=>k it (by simp) _ st
 item:=by
  intro X hP hw hK hc i pins s σ H E I hf st hg
  subst hP hw hK
  obtain⟨f0,f1,f2,f3,f4,f5⟩:=hf it (by simp)
  have W:=Walks.range (prog:=X.prog) (w:=X.w) (I.ok.hd hc) it lo 1 n
  refine W.item i s _ _ hg st fun v h' tk hv st' kk=>?_
  obtain⟨t,rfl⟩:=hv
  have I1:Inv X pins σ H { s with heap:=h',toks:=tk }:=I.turned (fun b o hb e=>kk b o (by simpa using hb) e) f0 f1 f3 f4 f5
  refine⟨_,rfl,bw4 (s:={ s with heap:=h',toks:=tk }) (n:="range_iterator") st' rfl rfl (by decide) ⟨.int (lo+i),H,I1,⟨t,?_⟩,⟨rfl,rfl⟩,st',fun b hb=>(hf b hb).1⟩⟩
  rw[ae8]
 done:=by
  intro X hP hw hK hc i pins s σ H E I hf st hg
  subst hP hw hK
  obtain⟨f0,f1,f2,f3,f4,f5⟩:=hf it (by simp)
  exact wpAny_pyNext_range_end (I.ok.hd hc) st (by have:n<=i:=hg;omega) fun h' eb=>⟨rfl,I.turned (t':=s.toks) (fun b o hb e=>eb b o hb e) f0 f1 f3 f4 f5⟩
 self:=fun _ _ _ _ _ st h=>wpAny_pyIter_rangeiter st h
def cc4 (K:W.Frag)(tl:TE):TI:=fun σ H R=>tl σ H fun x H1=>∃ a,x=.ref a/\(∃ xs,SqL K H1 a xs)/\R (Itl K a) H1
def cg7 (K:W.Frag)(tl:TE):TI:=fun σ H R=>tl σ H fun x H1=>∃ a,x=.ref a/\(∃ xs,SqT K H1 a xs)/\R (Itt K a) H1
theorem Z4 {l:Expr}{tl:TE}(hl:PE X l tl):PI X tg l (cc4 X.K tl):=by
 intro pins s σ H R I h
 refine thn (hl pins s σ H _ I h) fun v s1 ⟨x,H1,I1,r1,q1⟩=>?_
 obtain⟨a,e,⟨xs,hq⟩,q⟩:=q1
 subst e
 cases r1
 obtain⟨its,rv,p,hz⟩:=I1.list hq
 refine Q4 p.isList ?_
 refine⟨s1.heap.objs.size,[s1.heap.objs.size],_,_,H1,rfl,I1.kept (t':=s1.toks) fun b o e=>c8 _ e,bi6 a _,⟨_,m9 _ rfl,rfl,rfl⟩,fun b hb=>?_,q⟩
 have e:b=s1.heap.objs.size:=by simpa using hb
 subst e
 exact I1.fpOk (d6 _) (I1.hok.fresh (d6 _))
theorem ao1 {l:Expr}{tl:TE}(hl:PE X l tl):PI X tg l (cg7 X.K tl):=by
 intro pins s σ H R I h
 refine thn (hl pins s σ H _ I h) fun v s1 ⟨x,H1,I1,r1,q1⟩=>?_
 obtain⟨a,e,⟨xs,hq⟩,q⟩:=q1
 subst e
 cases r1
 obtain⟨its,rv,p,hz⟩:=I1.tuple hq
 refine aj7 (show s1.heap.IsTuple a its.toArray from p) ?_
 refine⟨s1.heap.objs.size,[s1.heap.objs.size],_,_,H1,rfl,I1.kept (t':=s1.toks) fun b o e=>c8 _ e,aY1 a _,⟨_,m9 _ rfl,rfl,rfl⟩,fun b hb=>?_,q⟩
 have e:b=s1.heap.objs.size:=by simpa using hb
 subst e
 exact I1.fpOk (d6 _) (I1.hok.fresh (d6 _))
theorem aS9 {σ:St}{R:It->Hp->Prop}{lo hi:Int}{t u v:Tok}{tk:Nat}(I:Inv X pins σ H s)(h1:-(2 ^ 62)<=lo)(h2:lo<2 ^ 62)(h3:-(2 ^ 62)<=hi)(h4:hi<2 ^ 62)
  (q:R (Itr lo (hi - lo).toNat) H):q8 (u7 X.prog X.w) X.A (pyIter (.ref s.heap.objs.size)) (PIE X pins σ tg R) E { s with heap:=s.heap.push { cls:=.type "range",data:=.fields #[.int lo t,.int hi u,.int 1 v] },toks:=tk }:=by
 refine wpAny_pyIter_range (IsRange.new ..) (small_one h1 h2 h3 h4) ?_
 have I1:Inv X pins σ H { s with heap:=s.heap.push { cls:=.type "range",data:=.fields #[.int lo t,.int hi u,.int 1 v] },toks:=tk }:=I.kept fun b o e=>c8 _ e
 refine⟨(s.heap.push { cls:=.type "range",data:=.fields #[.int lo t,.int hi u,.int 1 v] }).objs.size,[(s.heap.push { cls:=.type "range",data:=.fields #[.int lo t,.int hi u,.int 1 v] }).objs.size],_,_,H,rfl,
  I1.kept (t':=tk) fun b o e=>c8 _ e,aY2 _ lo (hi - lo).toNat,?_,fun b hb=>?_,q⟩
 ·have e1:lo+((0:Nat):Int)*1=lo:=by simp
  have e2:(((hi - lo).toNat:Nat):Int) - ((0:Nat):Int)=Builtin.Range.rangeSize lo hi 1:=by rw[rangeSize_one];split<;>omega
  show IsRangeIter _ _ (lo+((0:Nat):Int)*1) ((((hi - lo).toNat:Nat):Int) - ((0:Nat):Int)) 1
  rw[e1,e2]
  exact m9 _ rfl
 ·have e:b=(s.heap.push { cls:=.type "range",data:=.fields #[.int lo t,.int hi u,.int 1 v] }).objs.size:=by simpa using hb
  subst e
  exact I1.fpOk (d6 _) (I1.hok.fresh (d6 _))
def cc3 (ta:TA):TI:=fun σ H R=>ta σ H fun vs H1=>∃ j:Int,vs=[.int j] /\ -(2 ^ 62)<=j/\j<2 ^ 62/\R (Itr 0 j.toNat) H1
def cc2 (ta:TA):TI:=fun σ H R=>ta σ H fun vs H1=>∃ i j:Int,vs=[.int i,.int j]/\(-(2 ^ 62)<=i/\i<2 ^ 62 /\ -(2 ^ 62)<=j/\j<2 ^ 62)/\R (Itr i (j - i).toNat) H1
theorem aa2 {a:Expr}{ta:TA}(hg:Gl X "range")(hm:X.mg "range"=none)(ha:PA X [a] ta)(hs:u4 [a] X.env=[(false,eval a X.env)]:=by rfl):PI X tg (.Call (.Name "range" p) [a] [] pos) (cc3 ta):=by
 intro pins s σ H R I h
 refine Call_ (Y4 I hg hm boot_range (PyProof.Rows.callWith_type1 (thn (ha pos pins s σ H _ I h) fun us s1 ⟨vs,H1,I1,r1,q1⟩=>?_) hs rfl))
 obtain⟨j,e,q1,q2,q⟩:=q1
 subst e
 cases r1 with
 | cons r rr =>
  cases rr
  obtain⟨t,rfl⟩:=r
  exact call_range_1 (aS9 I1 (by omega) (by omega) q1 q2 (by simpa using q))
theorem aH6 {a b:Expr}{ta:TA}(hg:Gl X "range")(hm:X.mg "range"=none)(ha:PA X [a,b] ta)(hs:u4 [a,b] X.env=[(false,eval a X.env),(false,eval b X.env)]:=by rfl)(hs2:u4 [b] X.env=[(false,eval b X.env)]:=by rfl) :
  PI X tg (.Call (.Name "range" p) [a,b] [] pos) (cc2 ta):=by
 intro pins s σ H R I h
 refine Call_ (Y4 I hg hm boot_range (PyProof.Rows.callWith_type1 (thn (ha pos pins s σ H _ I h) fun us s1 ⟨vs,H1,I1,r1,q1⟩=>?_) (by rw[hs,hs2]) (by rw[hs2];rfl)))
 obtain⟨i,j,e,⟨q1,q2,q3,q4⟩,q⟩:=q1
 subst e
 cases r1 with
 | cons r rr =>
  cases rr with
  | cons r' rr =>
   cases rr
   obtain⟨t,rfl⟩:=r
   obtain⟨t',rfl⟩:=r'
   exact call_range_2 (aS9 I1 q1 q2 q3 q4 q)
def cf1 (wi:TI)(g:TG)(tb:TS):TS:=fun D σ H=>wi σ H fun J H1=>∃ W:Nat->Nat->St->Hp->Prop,(∃ m,W 0 m σ H1)/\∀ i m σ H,W i m σ H ->
 (J.stop i H/\D.nx σ H)\/(J.go i H/\∃ N:St->Hp->Prop,(∀ σ' H',N σ' H'->∃ m',m'<m/\W (i+1) m' σ' H')/\∀ x H',J.yld i H x H'->g x σ H' fun σ2 H2=>tb { D with nx:=N,ct:=N,bk:=D.nx } σ2 H2)
def ao0 (fp:List Addr)(h:Heap):List (Addr × Obj):=fp.filterMap fun b=>(h.get? b).map fun o=>(b,o)
theorem R4 {b:Addr}{o:Obj}(hb:b∈fp)(e:h.get? b=some o):(b,o)∈ao0 fp h:=ag4.mpr ⟨b,hb,by rw[e];rfl⟩
theorem bk1 {p:Addr × Obj}(hp:p∈ao0 fp h):p.1∈fp/\h.get? p.1=some p.2:=by
 obtain⟨b,hb,e⟩:=ag4.mp hp
 cases q:h.get? b with
 | none=>rw[q]at e;cases e
 | some o =>
  rw[q]at e
  have e':(b,o)=p:=Option.some.inj e
  subst e'
  exact⟨hb,q⟩
theorem Inv.pinned {σ:St}(I:Inv X pins σ H s)(hf:∀ b∈fp,ad1 X pins H b)(ho:∀ b∈fp,∃ o,s.heap.get? b=some o/\∀ v,o.data≠.cell v):Inv X (pins++ao0 fp s.heap) σ H s:=
 I.pins_of fun p hp=>(u9.mp hp).elim (fun z=>I.pin p (o4 _ z)) fun z=>by
  obtain⟨hb,e⟩:=bk1 z
  obtain⟨f0,f1,f2,_⟩:=hf p.1 hb
  obtain⟨o,e',d⟩:=ho p.1 hb
  rw[e]at e';cases e'
  exact⟨e,f0,f1,f2,d⟩
theorem Inv.unpinned {pl:List (Addr × Obj)}{σ:St}(I:Inv X (pins++pl) σ H s):Inv X pins σ H s:=I.pins_of fun p hp=>I.pin p (o4 _ (J8 _ hp))
theorem T7 {iter:Expr}{wi:TI}{g:TG}{tb:TS}(hp:PassesOwn (u7 X.prog X.w) X.A X.env X.xe)(hc:X.calm=true)(hi:PI X tg iter wi)(hg:PG X tg g)(hb:PSs X body tb)
  (hs:∀ x,ab4 iter X.env x=pure x:=by intro _;rfl):PS X (.For tg iter body [] pos) (cf1 wi g tb):=by
 intro pins s σ H D I h
 refine wpAny_For (thn (hi pins s σ H _ I h) fun v s1 h1=>thn h1 fun itv s2 h2=>?_) hs
 obtain⟨it,fp,tn,J,H2,e,I2,T,st2,f2,W,⟨m0,w0⟩,turn⟩:=h2
 subst e
 have stat:∀ {H':Hp},(∀ b∈fp,H' b=none)->∀ b∈fp,ad1 X pins H' b:=fun hn b hb=>⟨hn b hb,(f2 b hb).2⟩
 refine codeAny_forLoop_any (fun n s'=>∃ i σ' H',Inv X pins σ' H' s'/\tn i s'.heap/\(∀ b∈fp,H' b=none)/\W i n σ' H') ?_ m0 ⟨0,σ,H2,I2,st2,fun b hb=>(f2 b hb).1,w0⟩
 rintro n s3 ⟨i,σ3,H3,I3,st3,fr3,w3⟩
 rcases turn i n σ3 H3 w3 with⟨stop,qn⟩ | ⟨go,N,hN,step⟩
 ·refine U7 hp (thn (T.done X rfl rfl rfl hc i pins s3 σ3 H3 X.xe I3 (stat fr3) st3 stop) fun r s4 ⟨hr,I4⟩=>?_)
  subst hr
  exact Y9 ⟨σ3,H3,I4,qn⟩
 ·refine U7 hp (thn (T.item X rfl rfl rfl hc i pins s3 σ3 H3 X.xe I3 (stat fr3) st3 go) fun r s4 ⟨u,hr,h4⟩=>?_)
  subst hr
  refine U7 hp (thn h4 fun _ s5 ⟨x,H5,I5,r5,y5,st5,fr5⟩=>?_)
  have I5':=I5.pinned (stat fr5) (T.obj _ _ st5)
  refine U7 hp (thn (hg _ s5 σ3 H5 x u _ I5' r5 (step x H5 y5)) fun _ s6 ⟨σ6,H6,I6,q6⟩=>?_)
  refine U7 hp (thn (hb _ s6 σ6 H6 _ I6 q6) fun f s7 q7=>?_)
  have bo4:∀ {σ7:St} {H7:Hp},Inv X (pins++ao0 fp s5.heap) σ7 H7 s7->N σ7 H7->∃ m,m<n/\∃ i σ' H',Inv X pins σ' H' s7/\tn i s7.heap/\(∀ b∈fp,H' b=none)/\W i m σ' H':=fun {σ7 H7} I7 n7=>by
   obtain⟨m',hm,w7⟩:=hN σ7 H7 n7
   refine⟨m',hm,i+1,σ7,H7,I7.unpinned,T.keep _ _ _ st5 fun b hb o e=>(I7.pin (b,o) (o4 _ (o4 _ (R4 hb e)))).1,fun b hb=>?_,w7⟩
   obtain⟨o,e,d⟩:=T.obj _ _ st5 b hb
   exact(I7.pin (b,o) (o4 _ (o4 _ (R4 hb e)))).2.1
  cases f with
  | next=>obtain⟨σ7,H7,I7,n7⟩:=q7;exact bo4 I7 n7
  | cont=>obtain⟨σ7,H7,I7,n7⟩:=q7;exact bo4 I7 n7
  | brk=>obtain⟨σ7,H7,I7,q7⟩:=q7;exact⟨σ7,H7,I7.unpinned,q7⟩
  | ret v=>obtain⟨x7,σ7,H7,I7,r7,q7⟩:=q7;exact⟨x7,σ7,H7,I7.unpinned,r7,q7⟩
theorem aj2 {K:W.Frag}{g:TG}{tb:TS}{D:Ends}{σ:St}(Pv:Nat->St->Hp->Prop)(h0:Pv 0 σ H)(hl:∀ i σ H,i<=xs.length->Pv i σ H->SqL K H a xs)
  (hs:∀ i x σ H,xs[i]?=some x->Pv i σ H->g x σ H fun σ2 H2=>tb { D with nx:=Pv (i+1),ct:=Pv (i+1),bk:=D.nx } σ2 H2)(hd:∀ σ H,Pv xs.length σ H->D.nx σ H) :
  ∃ W:Nat->Nat->St->Hp->Prop,(∃ m,W 0 m σ H)/\∀ i m σ H,W i m σ H ->
   ((Itl K a).stop i H/\D.nx σ H)\/((Itl K a).go i H/\∃ N:St->Hp->Prop,(∀ σ' H',N σ' H'->∃ m',m'<m/\W (i+1) m' σ' H')/\∀ x H',(Itl K a).yld i H x H'->g x σ H' fun σ2 H2=>tb { D with nx:=N,ct:=N,bk:=D.nx } σ2 H2):=by
 refine⟨fun i m σ H=>m=xs.length - i/\i<=xs.length/\Pv i σ H,⟨xs.length,by simp,v8 _,h0⟩,?_⟩
 rintro i m σ H ⟨rfl,hi,p⟩
 have q:=hl i σ H hi p
 by_cases hlt:i<xs.length
 ·refine .inr ⟨⟨xs,xs[i],q,by simp[hlt]⟩,Pv (i+1),fun σ' H' p'=>⟨xs.length - (i+1),by omega,rfl,hlt,p'⟩,fun x H' y=>?_⟩
  obtain⟨e,y⟩:=y
  subst e
  exact hs i x σ _ (y xs q) p
 ·have e:i=xs.length:=by omega
  subst e
  exact .inl ⟨⟨xs,q,d6 _⟩,hd σ H p⟩
theorem aN9 {K:W.Frag}{g:TG}{tb:TS}{D:Ends}{σ:St}(Pv:Nat->St->Hp->Prop)(h0:Pv 0 σ H)(hl:∀ i σ H,i<=xs.length->Pv i σ H->SqT K H a xs)
  (hs:∀ i x σ H,xs[i]?=some x->Pv i σ H->g x σ H fun σ2 H2=>tb { D with nx:=Pv (i+1),ct:=Pv (i+1),bk:=D.nx } σ2 H2)(hd:∀ σ H,Pv xs.length σ H->D.nx σ H) :
  ∃ W:Nat->Nat->St->Hp->Prop,(∃ m,W 0 m σ H)/\∀ i m σ H,W i m σ H ->
   ((Itt K a).stop i H/\D.nx σ H)\/((Itt K a).go i H/\∃ N:St->Hp->Prop,(∀ σ' H',N σ' H'->∃ m',m'<m/\W (i+1) m' σ' H')/\∀ x H',(Itt K a).yld i H x H'->g x σ H' fun σ2 H2=>tb { D with nx:=N,ct:=N,bk:=D.nx } σ2 H2):=by
 refine⟨fun i m σ H=>m=xs.length - i/\i<=xs.length/\Pv i σ H,⟨xs.length,by simp,v8 _,h0⟩,?_⟩
 rintro i m σ H ⟨rfl,hi,p⟩
 have q:=hl i σ H hi p
 by_cases hlt:i<xs.length
 ·refine .inr ⟨⟨xs,xs[i],q,by simp[hlt]⟩,Pv (i+1),fun σ' H' p'=>⟨xs.length - (i+1),by omega,rfl,hlt,p'⟩,fun x H' y=>?_⟩
  obtain⟨e,y⟩:=y
  subst e
  exact hs i x σ _ (y xs q) p
 ·have e:i=xs.length:=by omega
  subst e
  exact .inl ⟨⟨xs,q,d6 _⟩,hd σ H p⟩
theorem W8 {lo:Int}{g:TG}{tb:TS}{D:Ends}{σ:St}(Pv:Nat->St->Hp->Prop)(h0:Pv 0 σ H)
  (hs:∀ i σ H,i<n->Pv i σ H->g (.int (lo+i)) σ H fun σ2 H2=>tb { D with nx:=Pv (i+1),ct:=Pv (i+1),bk:=D.nx } σ2 H2)(hd:∀ σ H,Pv n σ H->D.nx σ H) :
  ∃ W:Nat->Nat->St->Hp->Prop,(∃ m,W 0 m σ H)/\∀ i m σ H,W i m σ H ->
   ((Itr lo n).stop i H/\D.nx σ H)\/((Itr lo n).go i H/\∃ N:St->Hp->Prop,(∀ σ' H',N σ' H'->∃ m',m'<m/\W (i+1) m' σ' H')/\∀ x H',(Itr lo n).yld i H x H'->g x σ H' fun σ2 H2=>tb { D with nx:=N,ct:=N,bk:=D.nx } σ2 H2):=by
 refine⟨fun i m σ H=>m=n - i/\i<=n/\Pv i σ H,⟨n,by simp,v8 _,h0⟩,?_⟩
 rintro i m σ H ⟨rfl,hi,p⟩
 by_cases hlt:i<n
 ·refine .inr ⟨hlt,Pv (i+1),fun σ' H' p'=>⟨n - (i+1),by omega,rfl,hlt,p'⟩,fun x H' y=>?_⟩
  obtain⟨e,y⟩:=y
  subst e y
  exact hs i σ _ hlt p
 ·have e:i=n:=by omega
  subst e
  exact .inl ⟨d6 _,hd σ H p⟩
abbrev R2:=V->V->Hp->VK->Prop
def OpR (X:Cx)(f:Value->Value->Sem Value)(r:R2):Prop:=
 ∀ (pins:List (Addr × Obj)) (s:Shared) (σ:St) (H:Hp) (x y:V) (v u:Value) (Q:VK),Inv X pins σ H s->RelV x v->RelV y u->r x y H Q ->
  q8 (u7 X.prog X.w) X.A (f v u) (EP X pins σ Q) X.xe s
def UnR (X:Cx)(f:Value->Sem Value)(r:V->Hp->VK->Prop):Prop:=
 ∀ (pins:List (Addr × Obj)) (s:Shared) (σ:St) (H:Hp) (x:V) (v:Value) (Q:VK),Inv X pins σ H s->RelV x v->r x H Q ->
  q8 (u7 X.prog X.w) X.A (f v) (EP X pins σ Q) X.xe s
def S7 (X:Cx)(f:Value)(r:List V->Hp->VK->Prop):Prop:=
 ∀ (pins:List (Addr × Obj)) (s:Shared) (σ:St) (H:Hp) (xs:List V) (us:List Value) (Q:VK),Inv X pins σ H s->D3 xs us->r xs H Q ->
  q8 (u7 X.prog X.w) X.A (call f us) (EP X pins σ Q) X.xe s
def ch4 (X:Cx)(r:V->Hp->(Bool->Hp->Prop)->Prop):Prop:=
 ∀ (pins:List (Addr × Obj)) (s:Shared) (σ:St) (H:Hp) (x:V) (v:Value) (Q:Bool->Hp->Prop),Inv X pins σ H s->RelV x v->r x H Q ->
  q8 (u7 X.prog X.w) X.A (truthy v) (TP X pins σ Q) X.xe s
def tOp (r:R2)(ta tb:TE):TE:=fun σ H Q=>ta σ H fun x H1=>tb σ H1 fun y H2=>r x y H2 Q
def tUn (r:V->Hp->VK->Prop)(ta:TE):TE:=fun σ H Q=>ta σ H fun x H1=>r x H1 Q
def rI (C:Int->Int->Prop)(g:Int->Int->V):R2:=fun x y H Q=>∃ i j,x=.int i/\y=.int j/\C i j/\Q (g i j) H
def rI0 (g:Int->Int->V):R2:=fun x y H Q=>∃ i j,x=.int i/\y=.int j/\Q (g i j) H
def rU (g:Int->V):V->Hp->VK->Prop:=fun x H Q=>∃ i,x=.int i/\Q (g i) H
section
variable {a b c:Expr} {tb tc:TE}
theorem bU8 (ha:PE X a ta)(hb:PE X b tb){σ:St}{R:V->V->Hp->Prop}(I:Inv X pins σ H s)
  (h:ta σ H fun x H1=>tb σ H1 fun y H2=>R x y H2){f:Value->Value->Sem Value}
  (hf:∀ v u s2 x y H2,Inv X pins σ H2 s2->RelV x v->RelV y u->R x y H2->q8 (u7 X.prog X.w) X.A (f v u) Q X.xe s2) :
  q8 (u7 X.prog X.w) X.A (eval a X.env) (fun v s₁=>q8 (u7 X.prog X.w) X.A (eval b X.env) (fun u s₂=>q8 (u7 X.prog X.w) X.A (f v u) Q X.xe s₂) X.xe s₁) X.xe s:=by
 refine thn (ha pins s σ H _ I h) fun v s1 ⟨x,H1,I1,r1,q1⟩=>?_
 refine thn (hb pins s1 σ H1 _ I1 q1) fun u s2 ⟨y,H2,I2,r2,q2⟩=>?_
 exact hf v u s2 x y H2 I2 r1 r2 q2
theorem m8 {op:Operator}{r:R2}(ho:OpR X (af2 op) r)(ha:PE X a ta)(hb:PE X b tb):PE X (.BinOp a op b pos) (tOp r ta tb):=by
 intro pins s σ H Q I h
 exact wpAny_BinOp (bU8 ha hb I h fun v u s2 x y H2 I2 rx ry q=>ho pins s2 σ H2 x y v u Q I2 rx ry q)
theorem bL0 {op:UnaryOp}{r:V->Hp->VK->Prop}(ho:UnR X (unaryOp op) r)(ha:PE X a ta):PE X (.UnaryOp op a pos) (tUn r ta):=by
 intro pins s σ H Q I h
 exact UnaryOp_ (thn (ha pins s σ H _ I h) fun v s1 ⟨x,H1,I1,r1,q1⟩=>ho pins s1 σ H1 x v Q I1 r1 q1)
theorem opI {f:Value->Value->Sem Value}{C:Int->Int->Prop}{g:Int->Int->Int}
  (rule:∀ (i j:Int) (t u:Tok) (s:Shared) (Q:Value->Shared->Prop) (E:Value->Shared->Prop),C i j->Q (.int (g i j) s.toks) { s with toks:=s.toks+1 }->q8 (u7 X.prog X.w) X.A (f (.int i t) (.int j u)) Q E s) :
  OpR X f (rI C fun i j=>.int (g i j)):=by
 intro pins s σ H x y v u Q I rx ry h
 obtain⟨i,j,rfl,rfl,hc,q⟩:=h
 obtain⟨t,rfl⟩:=rx
 obtain⟨t',rfl⟩:=ry
 exact rule i j t t' s _ _ hc ⟨.int (g i j),H,I.tok _,⟨_,rfl⟩,q⟩
theorem cb2 {f:Value->Value->Sem Value}{g:Int->Int->Int}
  (rule:∀ (i j:Int) (t u:Tok) (s:Shared) (Q:Value->Shared->Prop) (E:Value->Shared->Prop),Q (.int (g i j) s.toks) { s with toks:=s.toks+1 }->q8 (u7 X.prog X.w) X.A (f (.int i t) (.int j u)) Q E s) :
  OpR X f (rI0 fun i j=>.int (g i j)):=by
 intro pins s σ H x y v u Q I rx ry h
 obtain⟨i,j,rfl,rfl,q⟩:=h
 obtain⟨t,rfl⟩:=rx
 obtain⟨t',rfl⟩:=ry
 exact rule i j t t' s _ _ ⟨.int (g i j),H,I.tok _,⟨_,rfl⟩,q⟩
theorem bR1 {f:Value->Value->Sem Value}{g:Int->Int->Bool}
  (rule:∀ (i j:Int) (t u:Tok) (s:Shared) (Q:Value->Shared->Prop) (E:Value->Shared->Prop),Q (.bool (g i j)) s->q8 (u7 X.prog X.w) X.A (f (.int i t) (.int j u)) Q E s) :
  OpR X f (rI0 fun i j=>.bl (g i j)):=by
 intro pins s σ H x y v u Q I rx ry h
 obtain⟨i,j,rfl,rfl,q⟩:=h
 obtain⟨t,rfl⟩:=rx
 obtain⟨t',rfl⟩:=ry
 exact rule i j t t' s _ _ ⟨.bl (g i j),H,I,rfl,q⟩
def ch7 (i j:Int):Prop:=0<j/\j<1073741824
def ch6 (i j:Int):Prop:=0<=j/\j<=1000000/\i.natAbs<2 ^ 64
def bV6 (i j:Int):Prop:=(-(2 ^ 64)<i/\i<2 ^ 64)\/(-(2 ^ 64)<j/\j<2 ^ 64)
theorem bV6.ok {i j:Int}(h:bV6 i j):IntMulOk i j:=by
 rcases h with⟨h1,h2⟩ | ⟨h1,h2⟩
 ·exact .of_left (intBits_le_64 h1 h2)
 ·exact .of_right (intBits_le_64 h1 h2)
theorem G3:OpR X (af2 .Add) (rI0 fun i j=>.int (i+j)):=cb2 fun _ _ _ _ _ _ _ q=>add_int q
theorem P8:OpR X (af2 .Sub) (rI0 fun i j=>.int (i - j)):=cb2 fun _ _ _ _ _ _ _ q=>sub_int q
theorem W7:OpR X (af2 .Mult) (rI bV6 fun i j=>.int (i*j)):=opI fun _ _ _ _ _ _ _ hc q=>mul_int q hc.ok
theorem F6:OpR X (af2 .FloorDiv) (rI ch7 fun i j=>.int (i / j)):=opI fun i j _ _ _ _ _ hc q=>by
 have h1:(0:Int)<j:=hc.1
 have h2:j<1073741824:=hc.2
 exact floordiv_int (by omega) (by rw[Int.fdiv_eq_ediv_of_nonneg i (by omega)];exact q) (.inl (PyProof.noPylong_small (by omega)))
theorem E6:OpR X (af2 .Mod) (rI (fun _ j=>0<j) fun i j=>.int (i % j)):=opI fun i j _ _ _ _ _ hc q=>by
 have h1:(0:Int)<j:=hc
 exact mod_int' (by omega) (by rw[Int.fmod_eq_emod_of_nonneg i (by omega)];exact q)
theorem V4:OpR X (af2 .Pow) (rI ch6 fun i j=>.int (i ^ j.toNat)):=opI fun _ _ _ _ _ _ _ hc q=>pow_int_small hc.1 hc.2.1 hc.2.2 q
theorem unI {f:Value->Sem Value}{g:Int->Int}
  (rule:∀ (i:Int) (t:Tok) (s:Shared) (Q:Value->Shared->Prop) (E:Value->Shared->Prop),Q (.int (g i) s.toks) { s with toks:=s.toks+1 }->q8 (u7 X.prog X.w) X.A (f (.int i t)) Q E s) :
  UnR X f (rU fun i=>.int (g i)):=by
 intro pins s σ H x v Q I rx h
 obtain⟨i,rfl,q⟩:=h
 obtain⟨t,rfl⟩:=rx
 exact rule i t s _ _ ⟨.int (g i),H,I.tok _,⟨_,rfl⟩,q⟩
theorem bo8:UnR X (unaryOp .USub) (rU fun i=>.int (-i)):=unI fun _ _ _ _ _ q=>neg_int q
end
def bZ8:V->V->Bool
 | .non,.non=>true | .non,.int _=>true | .int _,.non=>true | .non,.bl _=>true | .bl _,.non=>true | .non,.str _=>true | .str _,.non=>true
 | .int _,.int _=>true | .bl _,.bl _=>true | .str _,.str _=>true | .byt _,.byt _=>true
 | .int _,.str _=>true | .str _,.int _=>true | .bl _,.str _=>true | .str _,.bl _=>true
 | _,_=>false
def rEq:R2:=fun x y H Q=>bZ8 x y=true/\Q (.bl (decide (x=y))) H
def rNe:R2:=fun x y H Q=>bZ8 x y=true/\Q (.bl (!decide (x=y))) H
theorem bg1 {i j:Int}:decide (V.int i=V.int j)=(i == j):=by
 rw[ae3]
 simp
theorem bx2 {i j:Bool}:decide (V.bl i=V.bl j)=(i == j):=by
 rw[ae3]
 simp
theorem bg0 {i j:Str}:decide (V.str i=V.str j)=(i == j):=by
 rw[ae3]
 simp
theorem bg2 {i j:Array UInt8}:decide (V.byt i=V.byt j)=(i.toList == j.toList):=by
 rw[ae3]
 cases i
 cases j
 simp
section
variable {a b c:Expr} {tb tc:TE}
theorem G4 {σ:St}{Q:VK}{k k':Bool}(I:Inv X pins σ H s)(q:Q (.bl k) H)(e:k=k'):EP X pins σ Q (.bool k') s:=by
 subst e
 exact⟨.bl k,H,I,rfl,q⟩
theorem P4:OpR X (J1 .Eq) rEq:=by
 intro pins s σ H x y v u Q I rx ry h
 obtain⟨hs,q⟩:=h
 cases x with
 | non =>
  cases rx
  cases y with
  | non=>cases ry;exact PySem.EqNone.eq_none_none (G4 I q (by simp))
  | bl j=>cases ry;exact PySem.EqNone.eq_none_bool (G4 I q (by simp))
  | int j=>obtain⟨t',rfl⟩:=ry;exact PySem.EqNone.eq_none_int (G4 I q (by simp))
  | str j=>obtain⟨t',rfl⟩:=ry;exact PySem.EqNone.eq_none_str (G4 I q (by simp))
  | _=>exact absurd (show false=true from hs) j9
 | bl i =>
  cases rx
  cases y with
  | non=>cases ry;exact PySem.EqNone.eq_bool_none (G4 I q (by simp))
  | bl j=>cases ry;exact eq_bool (G4 I q bx2)
  | str j=>obtain⟨t',rfl⟩:=ry;exact PySem.EqMixed.eq_bool_str (G4 I q (by simp))
  | _=>exact absurd (show false=true from hs) j9
 | int i =>
  obtain⟨t,rfl⟩:=rx
  cases y with
  | non=>cases ry;exact PySem.EqNone.eq_int_none (G4 I q (by simp))
  | int j=>obtain⟨t',rfl⟩:=ry;exact eq_int (G4 I q bg1)
  | str j=>obtain⟨t',rfl⟩:=ry;exact PySem.EqMixed.eq_int_str (G4 I q (by simp))
  | _=>exact absurd (show false=true from hs) j9
 | str i =>
  obtain⟨t,rfl⟩:=rx
  cases y with
  | non=>cases ry;exact PySem.EqNone.eq_str_none (G4 I q (by simp))
  | bl j=>cases ry;exact PySem.EqMixed.eq_str_bool (G4 I q (by simp))
  | int j=>obtain⟨t',rfl⟩:=ry;exact PySem.EqMixed.eq_str_int (G4 I q (by simp))
  | str j=>obtain⟨t',rfl⟩:=ry;exact eq_str (G4 I q bg0)
  | _=>exact absurd (show false=true from hs) j9
 | byt i =>
  obtain⟨t,rfl⟩:=rx
  cases y with
  | byt j=>obtain⟨t',rfl⟩:=ry;exact PySem.W.eq_bytes (G4 I q bg2)
  | _=>exact absurd (show false=true from hs) j9
 | _=>cases y<;>exact absurd (show false=true from hs) j9
theorem aT3:OpR X (J1 .NotEq) rNe:=by
 intro pins s σ H x y v u Q I rx ry h
 obtain⟨hs,q⟩:=h
 cases x with
 | non =>
  cases rx
  cases y with
  | non=>cases ry;exact PySem.EqNone.ne_none_none (G4 I q (by simp))
  | bl j=>cases ry;exact PySem.EqNone.ne_none_bool (G4 I q (by simp))
  | int j=>obtain⟨t',rfl⟩:=ry;exact PySem.EqNone.ne_none_int (G4 I q (by simp))
  | str j=>obtain⟨t',rfl⟩:=ry;exact PySem.EqNone.ne_none_str (G4 I q (by simp))
  | _=>exact absurd (show false=true from hs) j9
 | bl i =>
  cases rx
  cases y with
  | non=>cases ry;exact PySem.EqNone.ne_bool_none (G4 I q (by simp))
  | bl j=>cases ry;exact ne_bool (G4 I q (congrArg not bx2))
  | str j=>obtain⟨t',rfl⟩:=ry;exact PySem.EqMixed.ne_bool_str (G4 I q (by simp))
  | _=>exact absurd (show false=true from hs) j9
 | int i =>
  obtain⟨t,rfl⟩:=rx
  cases y with
  | non=>cases ry;exact PySem.EqNone.ne_int_none (G4 I q (by simp))
  | int j=>obtain⟨t',rfl⟩:=ry;exact ne_int (G4 I q (congrArg not bg1))
  | str j=>obtain⟨t',rfl⟩:=ry;exact PySem.EqMixed.ne_int_str (G4 I q (by simp))
  | _=>exact absurd (show false=true from hs) j9
 | str i =>
  obtain⟨t,rfl⟩:=rx
  cases y with
  | non=>cases ry;exact PySem.EqNone.ne_str_none (G4 I q (by simp))
  | bl j=>cases ry;exact PySem.EqMixed.ne_str_bool (G4 I q (by simp))
  | int j=>obtain⟨t',rfl⟩:=ry;exact PySem.EqMixed.ne_str_int (G4 I q (by simp))
  | str j=>obtain⟨t',rfl⟩:=ry;exact ne_str (G4 I q (congrArg not bg0))
  | _=>exact absurd (show false=true from hs) j9
 | byt i =>
  obtain⟨t,rfl⟩:=rx
  cases y with
  | byt j=>obtain⟨t',rfl⟩:=ry;exact PySem.W.ne_bytes (G4 I q (congrArg not bg2))
  | _=>exact absurd (show false=true from hs) j9
 | _=>cases y<;>exact absurd (show false=true from hs) j9
theorem ag2:OpR X (J1 .Lt) (rI0 fun i j=>.bl (decide (i<j))):=bR1 fun _ _ _ _ _ _ _ q=>lt_int q
theorem U4:OpR X (J1 .LtE) (rI0 fun i j=>.bl (decide (i<=j))):=bR1 fun _ _ _ _ _ _ _ q=>le_int q
theorem aT4:OpR X (J1 .Gt) (rI0 fun i j=>.bl (decide (j<i))):=bR1 fun _ _ _ _ _ _ _ q=>gt_int q
theorem bE3:OpR X (J1 .IsNot) (fun x y H Q=>y=.non/\Q (.bl (!decide (x=.non))) H):=by
 intro pins s σ H x y v u Q I rx ry h
 obtain⟨rfl,q⟩:=h
 cases ry
 refine isnot_none_gen (G4 I q ?_)
 cases x<;>first
  | (cases rx;rfl)
  | (obtain⟨t,rfl⟩:=rx;rfl)
theorem B1 (b:Expr){op:CmpOp}(h:op≠.In:=by decide)(h2:op≠.NotIn:=by decide):aJ9 op b=false:=by
 have e1:(op == CmpOp.In)=false:=by cases op<;>first | rfl | exact absurd rfl h
 have e2:(op == CmpOp.NotIn)=false:=by cases op<;>first | rfl | exact absurd rfl h2
 cases b<;>simp[aJ9,e1,e2]
theorem X4 {op:CmpOp}{r:R2}(ho:OpR X (J1 op) r)(ha:PE X a ta)(hb:PE X b tb)(hm:aJ9 op b=false):PE X (.Compare a [op] [b] pos) (tOp r ta tb):=by
 intro pins s σ H Q I h
 exact wpAny_Compare1 (bU8 ha hb I h fun v u s2 x y H2 I2 rx ry q=>ho pins s2 σ H2 x y v u Q I2 rx ry q) hm
def bp4 (t:TE):TT:=fun σ H Q=>t σ H fun x H'=>∃ k,x=.bl k/\Q k H'
theorem x6 {op:CmpOp}{r:R2}(ho:OpR X (J1 op) r)(ha:PE X a ta)(hb:PE X b tb)(hm:aJ9 op b=false):PT X (.Compare a [op] [b] pos) (bp4 (tOp r ta tb)):=by
 intro pins s σ H Q I h
 refine wpAny_isTrue_Compare1 (thn (ha pins s σ H _ I h) fun v s1 ⟨x,H1,I1,r1,q1⟩=>thn (hb pins s1 σ H1 _ I1 q1) fun u s2 ⟨y,H2,I2,r2,q2⟩ =>
  thn (ho pins s2 σ H2 x y v u _ I2 r1 r2 q2) fun c s3 ⟨z,H3,I3,r3,k,e,q3⟩=>?_) hm
 subst e
 cases r3
 exact F3 ⟨H3,I3,q3⟩
def bp5 (r r':R2)(ta tb tc:TE):TE:=fun σ H Q=>ta σ H fun x H1=>tb σ H1 fun y H2=>r x y H2 fun z H3=>∃ k,z=.bl k /\
 (if k=true then tc σ H3 fun w' H4=>r' y w' H4 Q else Q (.bl false) H3)
theorem ai6 {op op':CmpOp}{r r':R2}(ho:OpR X (J1 op) r)(ho':OpR X (J1 op') r')(ha:PE X a ta)(hb:PE X b tb)(hc:PE X c tc)
  (hm:lastMarks [op,op'] [b,c]=false:=by with_unfolding_all rfl):PE X (.Compare a [op,op'] [b,c] pos) (bp5 r r' ta tb tc):=by
 intro pins s σ H Q I h
 refine Compare_chain (thn (ha pins s σ H _ I h) fun v s1 ⟨x,H1,I1,r1,q1⟩=>chain_link (thn (hb pins s1 σ H1 _ I1 q1) fun u s2 ⟨y,H2,I2,r2,q2⟩ =>
  thn (ho pins s2 σ H2 x y v u _ I2 r1 r2 q2) fun d s3 ⟨z,H3,I3,r3,k,e,q3⟩=>?_)) hm
 subst e
 cases r3
 refine F3 ?_
 cases k with
 | false=>exact ite_ff ⟨.bl false,H3,I3,rfl,q3⟩
 | true=>exact ite_tt (chain_last (thn (hc pins s3 σ H3 _ I3 q3) fun w' s4 ⟨z',H4,I4,r4,q4⟩=>ho' pins s4 σ H4 y z' u w' Q I4 r2 r4 q4))
theorem ai5 {op op':CmpOp}{r r':R2}(ho:OpR X (J1 op) r)(ho':OpR X (J1 op') r')(ha:PE X a ta)(hb:PE X b tb)(hc:PE X c tc)
  (hm:lastMarks [op,op'] [b,c]=false:=by with_unfolding_all rfl):PT X (.Compare a [op,op'] [b,c] pos) (bp4 (bp5 r r' ta tb tc)):=by
 intro pins s σ H Q I h
 refine isTrue_chain (thn (ha pins s σ H _ I h) fun v s1 ⟨x,H1,I1,r1,q1⟩=>test_link (thn (hb pins s1 σ H1 _ I1 q1) fun u s2 ⟨y,H2,I2,r2,q2⟩ =>
  thn (ho pins s2 σ H2 x y v u _ I2 r1 r2 q2) fun d s3 ⟨z,H3,I3,r3,k,e,q3⟩=>?_)) hm
 subst e
 cases r3
 refine F3 ?_
 cases k with
 | false =>
  obtain⟨k',e',q'⟩:=q3
  cases e'
  exact ite_ff ⟨H3,I3,q'⟩
 | true =>
  refine ite_tt (test_last (thn (hc pins s3 σ H3 _ I3 q3) fun w' s4 ⟨z',H4,I4,r4,q4⟩=>thn (ho' pins s4 σ H4 y z' u w' _ I4 r2 r4 q4) fun d' s5 ⟨z2,H5,I5,r5,k2,e2,q5⟩=>?_))
  subst e2
  cases r5
  exact F3 ⟨H5,I5,q5⟩
def cd8 (K:W.Frag)(x:V)(H:Hp)(k:Bool):Prop:=
 match x with
 | .non=>k=false
 | .bl b=>k=b
 | .int i=>k=(i != 0)
 | .str y=>y.length<=d7/\k=((y.length:Int) != 0)
 | .byt y=>y.size<=d7/\k=((y.size:Int) != 0)
 | .ref p=>(∃ xs,SqL K H p xs/\k=!xs.isEmpty)\/(∃ xs,SqT K H p xs/\k=!xs.isEmpty)\/∃ kvs,H p=some (.dK kvs)/\k=!kvs.isEmpty
 | _=>False
theorem ba4 {κ:Type}{kvs:List (κ × V)}{vs:List (κ × Value)}(r:KV kvs vs):(!vs.isEmpty)=!kvs.isEmpty:=by
 cases r<;>rfl
theorem aD3 (r:D3 xs its):(!its.toArray.isEmpty)=!xs.isEmpty:=by
 cases r<;>simp
theorem ao4:(d7:Nat)<2 ^ 63:=by rw[N1];decide
theorem bN8:ch4 X (fun x H Q=>∃ k,cd8 X.K x H k/\Q k H):=by
 intro pins s σ H x v Q I rx h
 obtain⟨k,e,q⟩:=h
 have hl:=ao4
 have hs:d7=16777216:=N1
 cases x with
 | non =>
  cases rx
  have e':k=false:=e
  subst e'
  exact truthy_none ⟨H,I,q⟩
 | bl b =>
  cases rx
  have e':k=b:=e
  subst e'
  exact F3 ⟨H,I,q⟩
 | int i =>
  obtain⟨t,rfl⟩:=rx
  have e':k=(i != 0):=e
  subst e'
  exact PySem.P.truthy_int ⟨H,I,q⟩
 | str y =>
  obtain⟨t,rfl⟩:=rx
  obtain⟨hy,e'⟩:y.length<=d7/\k=((y.length:Int) != 0):=e
  subst e'
  exact PySem.P.truthy_str (by omega) ⟨H,I.tok _,q⟩
 | byt y =>
  obtain⟨t,rfl⟩:=rx
  obtain⟨hy,e'⟩:y.size<=d7/\k=((y.size:Int) != 0):=e
  subst e'
  exact PySem.W.truthy_bytes (by omega) ⟨H,I.tok _,q⟩
 | ref p =>
  cases rx
  have e':(∃ xs,SqL X.K H p xs/\k=!xs.isEmpty)\/(∃ xs,SqT X.K H p xs/\k=!xs.isEmpty)\/∃ kvs,H p=some (.dK kvs)/\k=!kvs.isEmpty:=e
  rcases e' with⟨xs,hx,e'⟩ | ⟨xs,hx,e'⟩ | ⟨kvs,hx,e'⟩
  ·subst e'
   obtain⟨its,r,pl,hz⟩:=I.list hx
   have hlen:=r.length
   exact wpAny_truthy_list pl.isList (by simp only[d9];omega) ⟨H,I.tok _,by rw[aD3 r];exact q⟩
  ·subst e'
   obtain⟨its,r,pl,hz⟩:=I.tuple hx
   have hlen:=r.length
   exact truthy_tuple pl (by simp only[d9];omega) ⟨H,I.tok _,by rw[aD3 r];exact q⟩
  ·subst e'
   obtain⟨hz,hS,vs,r,m⟩:kvs.length<=d7/\(p == sysModules)=false/\∃ vs,KV kvs vs/\s.heap.DictOf (aN1 X.prog X.w) p vs:=I.hok p _ hx
   have hlen:kvs.length=vs.length:=Paired.length r
   exact wpAny_truthy_dict hS m (by omega) ⟨H,I.tok _,by rw[ba4 r];exact q⟩
 | _=>exact(show False from e).elim
theorem bs4 (ha:PE X a ta)(he:∀ whole,isTrue a X.env whole=(do let v <- whole;standAt a.pos;aF6 [v] (truthy v))) :
  PT X a (fun σ H Q=>ta σ H fun x H'=>∃ k,cd8 X.K x H' k/\Q k H'):=by
 intro pins s σ H Q I h
 exact isTrue_plain (thn (ha pins s σ H _ I h) fun v s1 ⟨x,H1,I1,r1,q1⟩=>bN8 pins s1 σ H1 x v Q I1 r1 q1) (he _)
theorem vals1 {x:V}(r:D3 [x] us):∃ u,us=[u]/\RelV x u:=by
 cases r with
 | cons r1 r2=>cases r2;exact⟨_,rfl,r1⟩
theorem vals2 {x y:V}(r:D3 [x,y] us):∃ u w',us=[u,w']/\RelV x u/\RelV y w':=by
 cases r with
 | cons r1 r2 =>
  cases r2 with
  | cons r3 r4=>cases r4;exact⟨_,_,rfl,r1,r3⟩
theorem ae2 (hc:X.calm=true):S7 X (.builtin "max") (fun xs H Q=>∃ i j,xs=[.int i,.int j]/\Q (.int (if j > i then j else i)) H):=by
 intro pins s σ H xs us Q I r h
 obtain⟨i,j,rfl,q⟩:=h
 obtain⟨u,w',rfl,⟨t,rfl⟩,⟨t',rfl⟩⟩:=vals2 r
 refine max_two_ints (I.ok.hd hc) fun h' tk k=>⟨_,H,I.kept k,?_,q⟩
 by_cases hj:j > i
 ·rw[if_pos hj,if_pos hj];exact⟨_,rfl⟩
 ·rw[if_neg hj,if_neg hj];exact⟨_,rfl⟩
theorem ae1 (hc:X.calm=true):S7 X (.builtin "min") (fun xs H Q=>∃ i j,xs=[.int i,.int j]/\Q (.int (if j<i then j else i)) H):=by
 intro pins s σ H xs us Q I r h
 obtain⟨i,j,rfl,q⟩:=h
 obtain⟨u,w',rfl,⟨t,rfl⟩,⟨t',rfl⟩⟩:=vals2 r
 refine min_two_ints (I.ok.hd hc) fun h' tk k=>⟨_,H,I.kept k,?_,q⟩
 by_cases hj:j<i
 ·rw[if_pos hj,if_pos hj];exact⟨_,rfl⟩
 ·rw[if_neg hj,if_neg hj];exact⟨_,rfl⟩
end
structure bV4 (h:Heap) (x dx C:Addr) (mA:Str->Option Value):Prop where
 obj:h.get? x=some (PySem.W.instObj C dx)
 ns:h.Ns1 dx mA
 ne:dx≠x
theorem bk6 {dx:Addr}(n:h.Ns1 dx mA):∃ od,h.get? dx=some od/\∀ name,PySem.W.lookIn name od=some (mA name):=by
 obtain⟨o,es,ep,ho,hd,hk,_,hm⟩:=n
 refine⟨o,ho,fun name=>?_⟩
 have e:=hm name
 unfold nsFind findBy at e
 rw[<- Array.find?_toList]at e
 unfold PySem.W.lookIn
 rw[hd]
 dsimp only
 split
 ·rename_i y q
  rw[q]at e
  exact congrArg some e
 ·rename_i q
  rw[q]at e
  have a:es.toList.any (·.refKey)=false:=by
   rw[List.any_eq_false]
   intro y hy
   obtain⟨z,t,hkey⟩:=hk y (as8.mp hy)
   simp[DictEntry.refKey,hkey]
  have a':¬ es.toList.any (·.refKey)=true:=by rw[a];exact j9
  rw[if_neg a']
  exact congrArg some e
theorem bV4.look {x dx:Addr}(I:bV4 h x dx C mA):∃ od,PySem.W.InstAt h x (PySem.W.instObj C dx) C (some od)/\∀ name,PySem.W.lookIn name od=some (mA name):=
 let ⟨od,ho,hl⟩:=bk6 I.ns
 ⟨od,⟨I.obj,rfl,rfl,ho⟩,hl⟩
section
variable {K:W.Frag} {x dx:Addr} {name:Str}
end
section
variable {dx:Addr} {fs fs':List (Str × V)}
theorem bG7 (hok:HOk P w H h)(e:H a=some (.ins C dx fs)):∃ mA,bV4 h a dx C mA/\(∀ f,bV2 (fs.lookup f) (mA f))/\PySem.Within mA (fs.map (·.1))/\fs.length<=1000/\H dx=some (.own a):=by
 obtain⟨d,z,ne,ob,mA,n,r,q⟩:=(show P5 P w H h a (.ins C dx fs) from hok a _ e)
 exact⟨mA,⟨ob,n,ne⟩,r,q,z,d⟩
end
structure Cls (K:W.Frag) (C:Addr):Prop where
 pg:PySem.W.plainGet K C Str.empty=true
 hd:PySem.W.hasDictIn K C=true
 po:PySem.W.plainOver K C=true
 sa:PySem.W.findIn K (.ref C) "__setattr__"=some (some (.builtin "object.__setattr__"))
theorem Cls.get {K:W.Frag}(c:Cls K C)(f:Str):PySem.W.plainGet K C f=true:=c.pg
structure Con (K:W.Frag) (C:Addr) (f:Str) (v:V) (u:Value):Prop where
 at_:PySem.W.findIn K (.ref C) f=some (some u)
 rel:RelV v u
 get:PySem.W.specialIn K u "__get__"=some none
 cp:PySem.W.copiedNames.contains f=false
structure ch8 (K:W.Frag) (C:Addr) (m:Str) (f:Addr):Prop where
 at_:PySem.W.findIn K (.ref C) m=some (some (.ref f))
 fn:PySem.W.isFn K (.ref f)=true
 kp:Q7 K (.ref f)=true
section
variable {σ:St} {dx:Addr} {fs:List (Str × V)} {f:Str} {v:V}
end
section
variable {value:Expr} {f:Str} {pos' tpos:Pos} {tv:TE}
end
section
variable {σ:St} {c:Value} {b:Bool}
inductive as2 (K:W.Frag) (H:Hp):V->Value->Prop where
 | non:as2 K H .non (.type "NoneType")
 | bl (x:Bool):as2 K H (.bl x) (.type "bool")
 | int (i:Int):as2 K H (.int i) (.type "int")
 | str (x:Str):as2 K H (.str x) (.type "str")
 | flt (x:UInt64):as2 K H (.flt x) (.type "float")
 | lst {a:Addr} {xs:List V} (e:H a=some (.lst xs)):as2 K H (.ref a) (.type "list")
 | frz {a:Addr} {o:Obj} {xs:List V} (e:H a=some (.frz o (.lst xs))):as2 K H (.ref a) (.type "list")
 | tup {a:Addr} {xs:List V} (e:H a=some (.tup xs)):as2 K H (.ref a) (.type "tuple")
 | dK {a:Addr} {kvs:List (Key × V)} (e:H a=some (.dK kvs)):as2 K H (.ref a) (.type "dict")
 | dT {a:Addr} {kvs:List (List Key × V)} (e:H a=some (.dT kvs)):as2 K H (.ref a) (.type "dict")
 | ins {a C dx:Addr} {fs:List (Str × V)} (e:H a=some (.ins C dx fs)) (cl:Cls K C) (ha:PySem.W.findIn K (.ref C) "__class__"=some (some (.builtin "object.__class__")))
   (hn:PySem.W.specialIn K (.builtin "object.__class__") "__get__"=some (some (.builtin "getset_descriptor.__get__"))) (htk:PySem.W.takesIn K (.builtin "object.__class__")=some true)
   (hm:PySem.W.mroIn K C (.type "object")=some true):as2 K H (.ref a) (.ref C)
theorem bl0 {x:V}{t:Value}(I:Inv X pins σ H s)(rx:RelV x u)(ty:as2 X.K H x t)(e:PySem.W.kitOne X.K t c=some b)(h:∀ tk,Q (.bool b) { s with toks:=tk }) :
  q8 (u7 X.prog X.w) A (call (.builtin "isinstance") [u,c]) Q E s:=by
 cases ty with
 | non=>cases (show u=Value.none from rx);exact PySem.W.kia_one PySem.W.kitx_none I.kIn True.intro e (fun z=>nomatch z) h
 | bl y=>cases (show u=Value.bool y from rx);exact PySem.W.kia_one PySem.W.kitx_bool I.kIn True.intro e (fun z=>nomatch z) h
 | int i=>obtain⟨t,q⟩:=(show ∃ t,u=Value.int i t from rx);cases q;exact PySem.W.kia_one PySem.W.kitx_int I.kIn True.intro e (fun z=>nomatch z) h
 | str y=>obtain⟨t,q⟩:=(show ∃ t,u=Value.str y t from rx);cases q;exact PySem.W.kia_one PySem.W.kitx_str I.kIn True.intro e (fun z=>nomatch z) h
 | flt y=>obtain⟨t,q⟩:=(show ∃ t,u=Value.float y t from rx);cases q;exact PySem.W.kia_one PySem.W.kitx_float I.kIn True.intro e (fun z=>nomatch z) h
 | @lst a xs ea =>
  cases (show u=Value.ref a from rx)
  obtain⟨_,_,n,_,h1⟩:=(show P5 X.prog X.w H s.heap a (.lst xs) from I.hok a _ ea)
  exact PySem.W.kia_one PySem.W.kitx_list I.kIn ⟨_,h1,rfl⟩ e (fun z=>nomatch z) h
 | @frz a ob xs ea =>
  cases (show u=Value.ref a from rx)
  obtain⟨_,_,_,n,_,h1⟩:=(show P5 X.prog X.w H s.heap a (.frz ob (.lst xs)) from I.hok a _ ea)
  exact PySem.W.kia_one PySem.W.kitx_list I.kIn ⟨_,h1,rfl⟩ e (fun z=>nomatch z) h
 | @tup a xs ea =>
  cases (show u=Value.ref a from rx)
  obtain⟨_,_,_,p⟩:=(show P5 X.prog X.w H s.heap a (.tup xs) from I.hok a _ ea)
  obtain⟨o,h1,h2,_⟩:=p
  exact PySem.W.kia_one PySem.W.kitx_tuple I.kIn ⟨o,h1,h2⟩ e (fun z=>nomatch z) h
 | @dK a kvs ea =>
  cases (show u=Value.ref a from rx)
  obtain⟨_,_,vs,_,p⟩:=(show P5 X.prog X.w H s.heap a (.dK kvs) from I.hok a _ ea)
  obtain⟨o,es,ep,h1,h2,_⟩:=p
  exact PySem.W.kia_one PySem.W.kitx_dict I.kIn ⟨o,h1,h2.1⟩ e (fun z=>nomatch z) h
 | @dT a kvs ea =>
  cases (show u=Value.ref a from rx)
  obtain⟨_,_,xs,_,o,es,ep,h1,h2,_⟩:=(show P5 X.prog X.w H s.heap a (.dT kvs) from I.hok a _ ea)
  exact PySem.W.kia_one PySem.W.kitx_dict I.kIn ⟨o,h1,h2.1⟩ e (fun z=>nomatch z) h
 | @ins a C dx fs ea cl ha hn htk hm =>
  cases (show u=Value.ref a from rx)
  obtain⟨mA,O,_⟩:=bG7 I.hok ea
  obtain⟨od,J,_⟩:=O.look
  exact PySem.W.kia_one (PySem.W.kitx_own (cl.get _) cl.hd ha hn htk hm) I.kIn J e (fun z=>nomatch z) h
end
structure X9 (k:Nat) (A:Around):Prop where
 hd:A.handled=none
 dp:A.depth+3*k+5<recursionLimit
 un:A.units+16*k+200<aw4
theorem X9.mono {k:Nat}(r:X9 k A)(h:j<=k):X9 j A:=⟨r.hd,by have:=r.dp;omega,by have:=r.un;omega⟩
theorem X9.deeper {k:Nat}(r:X9 (k+1) A)(env:Env):X9 k (A.deeper env):=
 ⟨r.hd,by have:=r.dp;show A.depth+1+3*k+5<_;omega,by have:=r.un;show A.units+3+16*k+200<_;omega⟩
theorem X9.depth {k:Nat}(r:X9 k A):A.depth<recursionLimit:=by have:=r.dp;omega
theorem X9.units {k:Nat}(r:X9 k A):A.units+64<aw4:=by have:=r.un;omega
def bi8:TA:=fun _ H Q=>Q [] H
def aH2 (ta:TE)(tr:TA):TA:=fun σ H Q=>ta σ H fun x H1=>tr σ H1 fun xs H2=>Q (x::xs) H2
section
variable {t:TA}
theorem d3:PA X [] bi8:=fun _ _ _ _ H Q I h=>Calls.spliced_nil ⟨[],H,I,.nil,h⟩
theorem b7 (ha:PE X e te)(hr:PA X es t)(hs:u4 (e::es) X.env=(false,eval e X.env)::u4 es X.env:=by rfl):PA X (e::es) (aH2 te t):=by
 intro pos pins s σ H Q I h
 rw[hs]
 show q8 _ _ (spliced ((false,eval e X.env)::O9 pos (u4 es X.env))) _ _ s
 refine Calls.spliced_cons (thn (ha pins s σ H _ I h) fun u s1 ⟨x,H1,I1,r1,q1⟩=>?_)
 exact thn (hr pos pins s1 σ H1 _ I1 q1) fun us s2 ⟨xs,H2,I2,r2,q2⟩=>⟨x::xs,H2,I2,.cons r1 r2,q2⟩
def ce3 (t:TA):TE:=fun σ H Q=>t σ H fun xs H1=>xs.length<=d7/\∀ p,H1 p=none->Q (.ref p) (upd H1 p (.tup xs))
def ce8 (t:TA):TE:=fun σ H Q=>t σ H fun xs H1=>xs.length<=d7/\∀ p,H1 p=none->Q (.ref p) (upd H1 p (.lst xs))
theorem F5 {x1}(h:PA X es t):PE X (.Tuple es x1 pos) (ce3 t):=by
 intro pins s σ H Q I hq
 refine wpAny_Tuple_spliced (thn (h pos pins s σ H _ I hq) fun us s1 ⟨xs,H1,I1,r,z,q⟩=>⟨by rw[<- r.length];exact z,?_⟩)
 have hf:H1 s1.heap.objs.size=none:=I1.hok.fresh (d6 _)
 refine⟨.ref s1.heap.objs.size,upd H1 s1.heap.objs.size (.tup xs),I1.laid (t':=s1.toks) (fun b u e=>c8 _ e) (d6 _) ?_,rfl,q _ hf⟩
 exact⟨z,us,r,⟨_,m9 _ rfl,rfl,_,rfl⟩⟩
theorem L8 (h:PA X es t):PE X (.List es pos) (ce8 t):=by
 intro pins s σ H Q I hq
 refine wpAny_List_spliced (thn (h pos pins s σ H _ I hq) fun us s1 ⟨xs,H1,I1,r,z,q⟩=>⟨by rw[<- r.length];exact z,?_⟩)
 have hf:H1 s1.heap.objs.size=none:=I1.hok.fresh (d6 _)
 refine⟨.ref s1.heap.objs.size,upd H1 s1.heap.objs.size (.lst xs),I1.laid (t':=s1.toks) (fun b u e=>c8 _ e) (d6 _) ?_,rfl,q _ hf⟩
 exact⟨z,us,0,r,m9 _ rfl⟩
end
abbrev Sp:=List V->Hp->VK->XK->Prop
abbrev CXT:=List Env->Hp->Shared->XK->Value->Shared->Prop
structure bz1 (P:Program) (w:World) (K:W.Frag) (mg:Str->Option Value) (base:Heap) (A:Around) (outer:List Env) (s:Shared) (H:Hp):Prop where
 frames:A.frames=some outer
 mod:Mod K mg base
 bs:∀ b o,base.get? b=some o->s.heap.get? b=some o/\H b=none
 bsz:base.objs.size<=s.heap.objs.size
 funs:s.heap.FunFrames base outer
 frf:∀ b∈frs outer,H b=none
 hok:HOk P w H s.heap
 bare:ap1 s.gens
def CE (outer:List Env)(P:Program)(w:World)(H:Hp)(s:Shared)(Q:VK)(u:Value)(s':Shared):Prop:=
 ∃ v H',s'.os=s.os/\ap1 s'.gens/\Un (frs outer) [] H H' s.heap s'.heap/\HOk P w H' s'.heap/\RelV v u/\Q v H'
def CR (CX:CXT)(outer:List Env)(P:Program)(w:World)(H:Hp)(s:Shared)(Q:VK)(E:XK)(r:Result)(s':Shared):Prop:=
 match r with
 | .ok (.ret u)=>CE outer P w H s Q u s'
 | .ok _=>False
 | .error e=>CX outer H s E e s'
structure A4 (P:Program) (w:World) (K:W.Frag) (mg:Str->Option Value) (base:Heap) (CX:CXT) (k:Nat) (f:Addr) (fd:FuncData) (ps:List Str) (sp:Sp):Prop where
 len:∀ vs H Q E,sp vs H Q E->vs.length=ps.length
 run:∀ (A:Around) (outer:List Env) (s:Shared) (H:Hp) (args:Args) (us:List Value) (vs:List V) (Q:VK) (E:XK),X9 k A->bz1 P w K mg base A outer s H->bh3 s fd args (ps.zip us)->D3 vs us->sp vs H Q E ->
  al6 (u7 P w) A (.call (.ref f) args) (CR CX outer P w H s Q E) s
theorem A4.mono {K:W.Frag}{mg:Str->Option Value}{base:Heap}{CX:CXT}{k:Nat}{sp:Sp}(F:A4 P w K mg base CX j f fd ps sp)(h:j<=k) :
  A4 P w K mg base CX k f fd ps sp:=⟨F.len,fun A outer s H args us vs Q E hr=>F.run A outer s H args us vs Q E (hr.mono h)⟩
section
variable {σ:St} {s':Shared}
theorem Inv.env0 (I:Inv X pins σ H s):bz1 X.prog X.w X.K X.mg X.base X.A X.stack s H:=
 ⟨I.ok.frames,I.ok.mod,I.bs,C4 I.ok.bsz I.sz,I.stack,I.stkFree,I.hok,I.bare⟩
theorem Inv.after {Q:VK}(I:Inv X pins σ H s)(h:CE X.stack X.prog X.w H s Q u s'):EP X pins σ Q u s':=by
 obtain⟨v,H',os,bare,un,hok,r,q⟩:=h
 obtain⟨hh,g,d,t,os'⟩:=s'
 obtain rfl:os'=s.os:=os
 exact⟨v,H',I.call (h':=hh) (g':=g) (d':=d) (t':=t) (ch:=[]) un hok bare (fun b z=>absurd z (by simp)),r,q⟩
end
def bJ7 (sp:Sp)(dvs:List V)(E:XK)(t:TA):TE:=fun σ H Q=>t σ H fun vs H1=>sp (vs++dvs) H1 Q E
def Binds (K:W.Frag)(fd:FuncData)(ps:List Str)(ds:List Value):Prop:=
 ∀ (s:Shared) (us:List Value),K.In s.heap->(us++ds).length=ps.length->bh3 s fd ⟨us,[]⟩ (ps.zip (us++ds))
theorem Binds.all {K:W.Frag}(h:∀ us:List Value,us.length=ps.length->bindArgs fd ⟨us,[]⟩=pure (ps.zip us)):Binds K fd ps []:=fun s us _ hl=>by
 rw[N6]at hl ⊢
 exact .of_eq (h us hl)
def ao8 (CX:CXT)(X:Cx)(E:XK):Prop:=∀ (pins:List (Addr × Obj)) (σ:St) (H:Hp) (s:Shared) (e:Value) (s':Shared),Inv X pins σ H s->CX X.stack H s E e s'->X.xe e s'
section
variable {CX:CXT} {k:Nat} {sp:Sp} {dvs:List V} {ds:List Value} {E:XK} {m:Str} {apos:Pos} {t:TA}
theorem br9 {σ:St}{Q:VK}{vs:List V}(F:A4 X.prog X.w X.K X.mg X.base CX k f fd ps sp)(hr:X9 k X.A)(hb:Binds X.K fd ps ds)(hd:D3 dvs ds)(hx:ao8 CX X E)
  (I:Inv X pins σ H s)(r:D3 vs us)(h:sp (vs++dvs) H Q E):q8 (u7 X.prog X.w) X.A (call (.ref f) us) (EP X pins σ Q) X.xe s:=by
 have r2:D3 (vs++dvs) (us++ds):=r.append hd
 have hl:(us++ds).length=ps.length:=by rw[<- r2.length];exact F.len _ _ _ _ h
 refine aP9 (U8 (F.run X.A X.stack s H ⟨us,[]⟩ (us++ds) (vs++dvs) Q E hr I.env0 (hb s us I.kIn hl) r2 h) fun r s' hq=>?_)
 cases r with
 | error e=>exact hx pins σ H s e s' I hq
 | ok fl =>
  cases fl with
  | ret u=>exact I.after hq
  | next=>exact False.elim hq
  | brk=>exact False.elim hq
  | cont=>exact False.elim hq
theorem az0 (F:A4 X.prog X.w X.K X.mg X.base CX k f fd ps sp)(hr:X9 k X.A)(hg:Gl X x)(hm:X.mg x=some (.ref f))(hk:Q7 X.K (.ref f)=true)(hb:Binds X.K fd ps ds)(hd:D3 dvs ds)(hx:ao8 CX X E)
  (ha:PA X (e::es) t)(hdb:(x == ("__debug__":Str))=false:=by decide)(he:u4 (e::es) X.env=(false,eval e X.env)::u4 es X.env:=by rfl)(hpl:(O9 pos (u4 es X.env)).any (·.1)=false:=by rfl) :
  PE X (.Call (.Name x p) (e::es) [] pos) (bJ7 sp dvs E t):=by
 intro pins s σ H Q I h
 refine K4 (af6 I hg hm ?_ hdb)
 refine PySem.W.callWith_K (h₀:=X.base) I.ok.mod.kin hk (thn (ha pos pins s σ H _ I h) fun us s1 ⟨vs,H1,I1,r,q⟩=>⟨I1.kIn,?_⟩) he hpl
 exact br9 F hr hb hd hx I1 r q
structure Mk (K:W.Frag) (C f:Addr):Prop where
 makes:PySem.W.makesIn K C=true
 init:PySem.W.findIn K (.ref C) "__init__"=some (some (.ref f))
 fn:PySem.W.isFn K (.ref f)=true
 kp:Q7 K (.ref C)=true
end
def PK (X:Cx)(kws:List aw5)(t:TA):Prop:=
 ∀ (pos:Pos) (pins:List (Addr × Obj)) (s:Shared) (σ:St) (H:Hp) (Q:List V->Hp->Prop),Inv X pins σ H s->t σ H Q->q8 (u7 X.prog X.w) X.A (evalAll ((af3 pos (R7 kws X.env)).map (·.2))) (AP X pins σ Q) X.xe s
section
variable {CX:CXT} {k:Nat} {ks:List Str} {sp:Sp} {E:XK} {m:Str} {apos kpos:Pos} {kws:List aw5} {t tk:TA} {nm:Option Str}
theorem aZ5:PK X [] bi8:=fun _ _ _ _ H Q I h=>wpAny_evalAll_nil ⟨[],H,I,.nil,h⟩
theorem aM1 (ha:PE X e te)(hr:PK X kws t):PK X (⟨nm,e,kpos⟩::kws) (aH2 te t):=by
 intro pos pins s σ H Q I h
 show q8 _ _ (evalAll ((do let v <- eval e X.env;standAt pos;pure v)::(af3 pos (R7 kws X.env)).map (·.2))) _ _ s
 refine wpAny_evalAll_cons (b8 (thn (ha pins s σ H _ I h) fun u s1 ⟨x,H1,I1,r1,q1⟩=>b8 (Z0 (i7 ?_))))
 exact thn (hr pos pins s1 σ H1 _ I1 q1) fun us s2 ⟨xs,H2,I2,r2,q2⟩=>⟨x::xs,H2,I2,.cons r1 r2,q2⟩
structure ch5 (K:W.Frag) (fd:FuncData) (ps ks:List Str) (g:List Value->List Value->List Value) (gV:List V->List V->List V):Prop where
 to:∀ (s:Shared) (us ws:List Value),K.In s.heap->(g us ws).length=ps.length->bh3 s fd ⟨us,ks.zip ws⟩ (ps.zip (g us ws))
 rel:∀ {vs:List V} {us:List Value} {zs:List V} {ws:List Value},D3 vs us->D3 zs ws->D3 (gV vs zs) (g us ws)
end
structure B6 (N P:List Str) (sc:Scope):Prop where
 kind:sc.kind=.function
 co:sc.isCoroutine=false
 gen:sc.isGenerator=false
 nd:N.Nodup
 pre:N.take P.length=P
 par:∀ x∈P,sc.names.lookup x=some .local\/sc.names.lookup x=some .cell
 nofree:∀ y∈sc.names,y.2≠.free
theorem B6.mk' {P:List Str}{sc:Scope}(a:sc.kind=.function:=by rfl)(b:sc.isCoroutine=false:=by rfl)(c:sc.isGenerator=false:=by rfl)(d:N.Nodup:=by decide +kernel)(e:N.take P.length=P:=by rfl)(f:∀ x∈P,sc.names.lookup x=some .local\/sc.names.lookup x=some .cell:=by decide +kernel)(g:∀ y∈sc.names,y.2≠.free:=by decide +kernel):B6 N P sc:=⟨a,b,c,d,e,f,g⟩
theorem aJ0 {kindOf:Str->Option aK0}:∀ {binds:List (Str × Value)} {m:Str->Option Value},(∀ v,(x,v)∉binds)->bindL kindOf binds m x=m x
 | [],_,_=>rfl
 | (n,v)::r,m,h=>by
  unfold bindL
  rw[aJ0 fun w hw=>h w (i8 _ hw)]
  split
  ·have:x≠n:=by rintro rfl;exact h v m7
   simp[this]
  ·rfl
theorem aJ2 {kindOf:Str->Option aK0}:∀ {binds:List (Str × Value)} {m:Str->Option Value},(∀ v,(x,v)∉binds)->bindC kindOf binds m x=m x
 | [],_,_=>rfl
 | (n,v)::r,m,h=>by
  unfold bindC
  rw[aJ2 fun w hw=>h w (i8 _ hw)]
  split
  ·rfl
  ·have:x≠n:=by rintro rfl;exact h v m7
   simp[this]
theorem aJ1 {kindOf:Str->Option aK0}:∀ {P:List Str} {vs:List Value} {i:Nat} {m:Str->Option Value},P.Nodup->P[i]?=some x->vs[i]?=some v->kindOf x=some .local ->
  bindL kindOf (P.zip vs) m x=some v
 | [],_,_,_,_,h,_,_=>by simp at h
 | _::_,[],_,_,_,_,h,_=>by simp at h
 | p::P,w::vs,0,m,nd,h1,h2,hk=>by
  simp at h1 h2;subst h1;subst h2
  show bindL kindOf ((p,w)::P.zip vs) m p=_
  unfold bindL
  rw[aJ0 fun v hv=>(G5.mp nd).1 (aX0 hv).1,if_pos hk]
  simp
 | p::P,w::vs,i+1,m,nd,h1,h2,hk=>by
  show bindL kindOf ((p,w)::P.zip vs) m x=_
  unfold bindL
  exact aJ1 (i:=i) (G5.mp nd).2 (by simpa using h1) (by simpa using h2) hk
theorem aJ3 {kindOf:Str->Option aK0}:∀ {P:List Str} {vs:List Value} {i:Nat} {m:Str->Option Value},P.Nodup->P[i]?=some x->vs[i]?=some v->kindOf x≠some .local ->
  bindC kindOf (P.zip vs) m x=some v
 | [],_,_,_,_,h,_,_=>by simp at h
 | _::_,[],_,_,_,_,h,_=>by simp at h
 | p::P,w::vs,0,m,nd,h1,h2,hk=>by
  simp at h1 h2;subst h1;subst h2
  show bindC kindOf ((p,w)::P.zip vs) m p=_
  unfold bindC
  rw[aJ2 fun v hv=>(G5.mp nd).1 (aX0 hv).1,if_neg hk]
  simp
 | p::P,w::vs,i+1,m,nd,h1,h2,hk=>by
  show bindC kindOf ((p,w)::P.zip vs) m x=_
  unfold bindC
  exact aJ3 (i:=i) (G5.mp nd).2 (by simpa using h1) (by simpa using h2) hk
def start (N:List Str)(vs:List V):St:=vs.map some++o9 (N.length - vs.length) none
def ab0 (CX:CXT)(P:Program)(w:World)(K:W.Frag)(mg:Str->Option Value)(base:Heap)(N:List Str)(qual:Str)(scope:Scope)(f:Addr)(cd:Value)(A:Around)(outer:List Env)(s:Shared)(H:Hp)(E:XK):Cx where
 prog:=P
 w:=w
 K:=K
 mg:=mg
 base:=base
 A:=A.deeper (K5 qual scope s.heap.objs.size f cd)
 N:=N
 s₀:=s
 H₀:=H
 env:=K5 qual scope s.heap.objs.size f cd
 outer:=outer
 stack:=K5 qual scope s.heap.objs.size f cd::outer
 ex:=[]
 calm:=true
 fn:=fun _=>true
 pn:=[]
 xe:=fun e s'=>q8 (u7 P w) (A.deeper (K5 qual scope s.heap.objs.size f cd)) (leaving (K5 qual scope s.heap.objs.size f cd) e) (fun _ s''=>CX outer H s E e s'') (fun e' s''=>CX outer H s E e' s'') s'
theorem aW4 {sc:Scope}(h:sc.names.lookup x=some .cell):∃ c,(cellsFrom n sc.names []).lookup x=some c:=by
 have q:=PySem.W.cellsFrom_some sc.names n [] (.inl h)
 exact C7.mp q
theorem bl2 {CX:CXT}{K:W.Frag}{mg:Str->Option Value}{base:Heap}{cd:Value}{outer:List Env}{s1:Shared}{E:XK}{vs:List V}
  (S:B6 N ps scope)(hd:A.handled=none)(e0:bz1 P w K mg base A outer s H)(hl:vs.length=ps.length)(r:D3 vs us)
  (x:InCallC s s.heap.objs.size (bindL (K5 qual scope s.heap.objs.size f cd).kindOf (ps.zip us) fun _=>none) (cellsFrom (s.heap.objs.size+1) scope.names []) (bindC (K5 qual scope s.heap.objs.size f cd).kindOf (ps.zip us) fun _=>none) s1) :
  Inv (ab0 CX P w K mg base N qual scope f cd A outer s H E) [] (start N vs) H s1:=by
 have hpl:ps.length<=N.length:=by have:=congrArg am1 S.pre;rw[u5]at this;omega
 obtain⟨h1,tk,rfl,hk⟩:=x.done
 have noA:∀ b:Addr,b∉(ab0 CX P w K mg base N qual scope f cd A outer s H E).ex:=fun b z=>absurd (show b∈([]:List Addr) from z) (by simp)
 refine⟨⟨e0.mod,S.kind,rfl,rfl,d6 _,fun y z c h1 h2=>?_,fun y hy=>?_,fun y c _ h=>?_,fun _=>hd,Around.frames_deeper e0.frames,.inr ⟨rfl,rfl⟩,fun b z=>absurd z (noA b),e0.bs,e0.bsz,fun b _ _=>noA b,fun b z=>absurd z (noA b),e0.funs,e0.frf⟩,
  rfl,e0.bare,Un.kept hk,⟨_,x.toInCall.ns,fun i y v h1 h2 h3=>?_⟩,fun y c h=>⟨_,x.cell y c h⟩,e0.hok.fresh (d6 _),fun y c h=>?_,fun p hp=>absurd (show p∈([]:List (Addr × Obj)) from hp) (by simp),e0.hok.kept hk,?_⟩
 ·exact name_of_addr x.apart (PySem.mem_of_lookup h1) (PySem.mem_of_lookup h2)
 ·have hy:scope.names.lookup y=some .cell\/scope.names.lookup y=some .free:=hy
  rcases hy with hy | hy
  ·exact aW4 hy
  ·exact absurd rfl (S.nofree _ (PySem.mem_of_lookup hy))
 ·exact as7 (x.above y c (PySem.mem_of_lookup h))
 ·have hi:i<vs.length:=by
   unfold start at h2
   by_cases hi:i<vs.length
   ·exact hi
   ·rw[K7 (by simpa using hi)]at h2
    rw[am2]at h2
    split at h2<;>cases h2
  have ha:vs[i]?=some v:=by
   unfold start at h2
   rw[ah0 (by simpa using hi),E2]at h2
   cases e:vs[i]? with
   | none=>rw[e]at h2;cases h2
   | some a=>rw[e]at h2;cases h2;rfl
  obtain⟨u,hu,rv⟩:=r.get ha
  have hp:ps[i]?=some y:=by
   rw[<- S.pre,W4 (by omega)];exact h1
  have ndP:ps.Nodup:=by rw[<- S.pre];exact S.nd.sublist (U1 _ _)
  refine⟨u,rv,?_⟩
  rcases S.par y (j0 hp) with k | k
  ·exact .inl ⟨k,aJ1 ndP hp hu k⟩
  ·obtain⟨c,e⟩:=aW4 (n:=s.heap.objs.size+1) k
   refine .inr ⟨.inl k,c,e,?_⟩
   have q:=x.cell y c e
   rw[aJ3 ndP hp hu (by show scope.names.lookup y≠_;rw[k];decide)]at q
   exact q
 ·exact e0.hok.fresh (as7 (x.above y c (PySem.mem_of_lookup h)))
 ·unfold start
  show _=N.length
  rw[m5,b9,S8]
  omega
theorem bw5 {CX:CXT} {K:W.Frag} {mg:Str->Option Value} {base:Heap} {k:Nat} {name:Str} {params:aK1} {dV kV doc pm cdv ct oc:Value} {an od:Option Addr}
  {osl:Array (Option Value)} {sp:Sp} (lk:K.lookup f=some ⟨oc,od,.func (W0 name qual params body scope dV kV doc pm an cdv ct),osl⟩) (hcd:aP7 K cdv qual=true) (S:B6 N ps scope)
  (len:∀ vs H Q E,sp vs H Q E->vs.length=ps.length)
  (hbody : ∀ (A : Around) (outer : List Env) (s : Shared) (H : Hp) (vs : List V) (Q : VK) (E : XK), X9 k (A.deeper (K5 qual scope s.heap.objs.size f cdv)) -> sp vs H Q E ->
   ∃ t,PSs (ab0 CX P w K mg base N qual scope f cdv A outer s H E) body t/\t { nx:=fun _ H'=>Q .non H',rt:=Q } (start N vs) H) :
  A4 P w K mg base CX (k+1) f (W0 name qual params body scope dV kV doc pm an cdv ct) ps sp:=by
 refine⟨len,fun A outer s H args us vs Q E hr e0 hb r hsp=>?_⟩
 have hl:=len _ _ _ _ hsp
 have KX:K.In s.heap:=e0.mod.kin.keeps fun b o e=>(e0.bs b o e).1
 have lim:s.heap.NoLimit:=e0.mod.nolimit.keeps fun b o e=>(e0.bs b o e).1
 have hkind:∀ y∈ps.zip us,scope.names.lookup y.1=some .local\/(scope.names.lookup y.1=some .cell/\((cellsFrom (s.heap.objs.size+1) scope.names []).lookup y.1).isSome=true):=fun⟨n,v⟩ hy=>by
  rcases S.par n (aX0 hy).1 with q | q
  ·exact .inl q
  ·exact .inr ⟨q,PySem.W.cellsFrom_some _ _ _ (.inl q)⟩
 refine codeAny_call_function hr.depth (KX _ _ lk) rfl S.co S.gen rfl (PySem.W.codeRec_of KX hcd) (hb _ _ _ _ ?_)
 refine wpAny_newFunctionEnv_cells S.kind hkind fun env he s1 x=>?_
 subst he
 refine⟨lim.keeps x.toInCall.keep,codeAny_func ?_⟩
 obtain⟨t,ht,hq⟩:=hbody A outer s H vs Q E (hr.deeper _) hsp
 have I:Inv (ab0 CX P w K mg base N qual scope f cdv A outer s H E) [] (start N vs) H s1:=bl2 S hr.hd e0 hl r x
 refine E5 (ht [] s1 (start N vs) H _ I hq) (fun fl s' hs=>?_) fun e s' hs=>hs
 have fin:∀ {σ':St} {H':Hp} {v:V} {u:Value},Inv (ab0 CX P w K mg base N qual scope f cdv A outer s H E) [] σ' H' s'->RelV v u->Q v H'->CE outer P w H s Q u s':=
  fun {σ' H' v u} J rv q=>⟨v,H',J.os,J.bare,J.base,J.hok,rv,q⟩
 cases fl with
 | ret u =>
  obtain⟨v,σ',H',J,rv,q⟩:=hs
  exact fin J rv q
 | next =>
  obtain⟨σ',H',J,q⟩:=hs
  exact fin (v:=V.non) (u:=Value.none) J rfl q
 | brk =>
  obtain⟨_,_,_,q⟩:=hs
  exact False.elim q
 | cont =>
  obtain⟨_,_,_,q⟩:=hs
  exact False.elim q
section
variable {t:TA} {id T:String} {r:List V->Hp->VK->Prop}
def tCB (r:List V->Hp->VK->Prop)(t:TA):TE:=fun σ H Q=>t σ H fun vs H1=>r vs H1 Q
theorem p0 (hc:S7 X (.builtin id) r)(hg:Gl X x)(hm:X.mg x=none)(hv:M6 x=some (.builtin id))(ha:PA X (e::es) t)(hn:x≠"__name__":=by decide)(hdb:(x == ("__debug__":Str))=false:=by decide)
  (he:u4 (e::es) X.env=(false,eval e X.env)::u4 es X.env:=by rfl)(hpl:(O9 pos (u4 es X.env)).any (·.1)=false:=by rfl):PE X (.Call (.Name x p) (e::es) [] pos) (tCB r t):=by
 intro pins s σ H Q I h
 refine K4 (Y4 I hg hm hv ?_ hn hdb)
 exact PyProof.Rows.callWith_builtin1 (thn (ha pos pins s σ H _ I h) fun us s1 ⟨vs,H1,I1,r1,q1⟩=>hc pins s1 σ H1 vs us Q I1 r1 q1) he hpl
theorem L6 (hc:S7 X (.type T) r)(hg:Gl X x)(hm:X.mg x=none)(hv:M6 x=some (.type T))(ha:PA X (e::es) t)(hn:x≠"__name__":=by decide)(hdb:(x == ("__debug__":Str))=false:=by decide)
  (he:u4 (e::es) X.env=(false,eval e X.env)::u4 es X.env:=by rfl)(hpl:(O9 pos (u4 es X.env)).any (·.1)=false:=by rfl):PE X (.Call (.Name x p) (e::es) [] pos) (tCB r t):=by
 intro pins s σ H Q I h
 refine K4 (Y4 I hg hm hv ?_ hn hdb)
 exact PyProof.Rows.callWith_type1 (thn (ha pos pins s σ H _ I h) fun us s1 ⟨vs,H1,I1,r1,q1⟩=>hc pins s1 σ H1 vs us Q I1 r1 q1) he hpl
end
end L2
namespace HT
open PySem PyProof.Rows
def lexLt:List Int->List Int->Bool
 | [],[]=>false
 | [],_::_=>true
 | _::_,[]=>false
 | x::xs,y::ys=>if x=y then lexLt xs ys else decide (x<y)
theorem T9 (x y:Int)(xs ys:List Int):lexLt (x::xs) (y::ys)=if x=y then lexLt xs ys else decide (x<y):=rfl
theorem aG4:lexLt [] []=false:=rfl
theorem aD0 (y:Int)(ys:List Int):lexLt [] (y::ys)=true:=rfl
theorem aD1 (x:Int)(xs:List Int):lexLt (x::xs) []=false:=rfl
theorem bw7 (A:Around)(s:Shared)(a:Int)(t:Tok)(c:Int)(u:Tok):∃ e,SeqAt.EqAt A s (.int a t) (.int c u) e/\(e=true↔a=c):=
 ⟨(a == c),SeqAt.EqAt.int_int a t c u,by simp⟩
theorem bs2 (A:Around)(s:Shared)(a:Int)(t:Tok)(c:Int)(u:Tok)(prog:Program)(w:World)(E:Value->Shared->Prop)(Q:Value->Shared->Prop)(h:Q (.bool (decide (a<c))) s) :
  q8 (u7 prog w) A (richCompare .Lt (.int a t) (.int c u)) Q E s:=
 (PyProof.Rows.lt_int h:q8 (u7 prog w) A (J1 .Lt (.int a t) (.int c u)) Q E s)
section
open PySem.SeqAt
open PySem.AutoSeq1 (wpAny_loadPart')
open PySem.MeetsSeq PySem.MeetsSeq2 PySem.MeetsSeq3
theorem aG0 (l b:Addr) (items items2:Array Value) (n n2:Nat) (dd dd2:Option Addr) (sl sl2:Array (Option Value)) (ns ms:List Int) (hi:R8 items.toList ns) (hj:R8 items2.toList ms) :
  Meets (Builtin.«tuple.__lt__» ⟨[.ref l,.ref b],[]⟩)
   (fun _ R s => s.heap.get? l = some { cls := .type "tuple", dict := dd, data := .seq items n, slots := sl } /\ s.heap.get? b = some { cls := .type "tuple", dict := dd2, data := .seq items2 n2, slots := sl2 } /\
    R (.ok (.ret (.bool (lexLt ns ms)))) s):=
 .of_wp fun prog w A R s h=>by
  obtain⟨hp,g,d,tk,os⟩:=s;obtain⟨hl,hb,h⟩:=h
  have f2:=AutoSeq1.sub_tuple_tuple
  have z1:items.size=ns.length:=by rw[<- hi.length];simp
  have z2:items2.size=ms.length:=by rw[<- hj.length];simp
  wp_walk using wpAny_loadPart' hl,wpAny_loadPart' hb,as5 _ (fun rest b s'=>b.1=none/\s'=⟨hp,g,d,tk,os⟩/\∃ (vs ws:List Value) (ns' ms':List Int),rest=vs.zip ws /\
   R8 vs ns'/\R8 ws ms'/\ns'.length+items2.size=ms'.length+items.size/\R (.ok (.ret (.bool (lexLt ns' ms')))) ⟨hp,g,d,tk,os⟩) _
  case turn =>
   rintro⟨y,x⟩ rest b s' ⟨hb',rfl,vs,ws,ns',ms',hz,hvi,hwi,hlen,hR⟩
   cases hvi with
   | nil=>rw[List.zip_nil_left]at hz;cases hz
   | cons a t hvi' =>
    cases hwi with
    | nil=>rw[List.zip_nil_right]at hz;cases hz
    | cons c u hwi' =>
     rw[aF1]at hz
     injection hz with hyx hrest
     injection hyx with hy hx
     subst hy hx
     rw[T9]at hR
     simp only[m6]at hlen
     obtain⟨e,he,hiff⟩:=bw7 A.in1 ⟨hp,g,d,tk,os⟩ a t c u
     refine b8 (he prog w _ _ ?_)
     cases e with
     | true =>
      rw[if_pos (hiff.mp rfl)]at hR
      wp_walk
      exact⟨rfl,rfl,_,_,_,_,hrest,hvi',hwi',by omega,hR⟩
     | false =>
      rw[if_neg (fun q=>absurd (hiff.mpr q) j9)]at hR
      have hri:=bs2 A.in1 ⟨hp,g,d,tk,os⟩ a t c u prog w
      wp_walk using hri
      exact⟨_,rfl,by simpa using hR⟩
  case fin =>
   rintro⟨b1,b2⟩ s' ⟨hb',rfl,vs,ws,ns',ms',hz,hvi,hwi,hlen,hR⟩
   simp only at hb'
   subst hb'
   have hv:lexLt ns' ms'=decide (items.size<items2.size):=by
    cases hvi with
    | nil =>
     cases hwi with
     | nil =>
      simp only[ae4]at hlen
      rw[aG4]
      exact(decide_eq_false (by omega)).symm
     | cons c u hw =>
      simp only[ae4,m6]at hlen
      rw[aD0]
      exact(decide_eq_true (by omega)).symm
    | cons a t hv =>
     cases hwi with
     | nil =>
      simp only[ae4,m6]at hlen
      rw[aD1]
      exact(decide_eq_false (by omega)).symm
     | cons c u hw =>
      rw[aF1]at hz
      cases hz
   rw[hv]at hR
   wp_walk
   exact⟨_,rfl,by simpa [Builtin.Tuple.tupleCompareSizes] using hR⟩
  case h =>
   exact⟨rfl,rfl,items.toList,items2.toList,ns,ms,rfl,hi,hj,by omega,h⟩
end
theorem ba0 {l b:Addr}{items2:Array Value}{ms:List Int}(hl:IsTup s.heap l items)(hb:IsTup s.heap b items2)(hi:R8 items.toList ns)(hj:R8 items2.toList ms)
  (hu:A.units<aw4)(h:Q (.bool (lexLt ns ms)) s):q8 (u7 prog w) A (J1 .Lt (.ref l) (.ref b)) Q E s:=by
 obtain⟨⟨cls,dd,data,sl⟩,ho,hc,n,hd⟩:=id hl
 obtain⟨⟨cls2,dd2,data2,sl2⟩,ho2,hc2,n2,hd2⟩:=id hb
 simp only at hc hd hc2 hd2
 subst hc hd hc2 hd2
 exact richCompare_meets_room (op:=.Lt) ⟨_,ho,rfl⟩ ⟨_,ho2,rfl⟩ PySem.F.slot_tuple_lt PySem.F.entry_tuple_lt (PySem.F.args_tuple_lt_2 _ _) (aG0 l b items items2 n n2 dd dd2 sl sl2 ns ms hi hj)
  ⟨ho,ho2,show Value.bool (lexLt ns ms)≠Value.notImplemented/\Q (.bool (lexLt ns ms)) s from ⟨(fun x=>nomatch x),h⟩⟩ hu
theorem bH8 {t b:Addr}{ws:List Value}(ht:IsTup s.heap t vs.toArray)(hb:IsTup s.heap b ws.toArray)(hv:vs≠[])
  (h1:ws=[]->Q (.ref t) s)(h2:ws≠[]->Q (.ref s.heap.objs.size) { s with heap:=s.heap.push { cls:=.type "tuple",data:=.seq (vs++ws).toArray } })
  (hsz:vs.length+ws.length<=d7):q8 (u7 prog w) A (af2 .Add (.ref t) (.ref b)) Q E s:=by
 obtain⟨⟨cls,dd,data,sl⟩,ho,hc,n,hd⟩:=id ht
 obtain⟨⟨cls2,dd2,data2,sl2⟩,ho2,hc2,n2,hd2⟩:=id hb
 simp only at hc hd hc2 hd2
 subst hc hd hc2 hd2
 have e:vs.toArray++ws.toArray=(vs++ws).toArray:=by simp
 by_cases hw:ws=[]
 ·exact concat_meets ⟨_,ho,rfl⟩ ⟨_,ho2,rfl⟩ noFill_tuple_add seq_tuple_add PySem.F.slot_tuple_add PySem.F.entry_tuple_add (PySem.F.args_tuple_add_2 _ _)
   (tuple_addW1 t b vs.toArray ws.toArray n n2 dd dd2 sl sl2 (by simpa using hv) (by simp[hw])) ⟨ho,ho2,h1 hw⟩
 ·refine concat_meets ⟨_,ho,rfl⟩ ⟨_,ho2,rfl⟩ noFill_tuple_add seq_tuple_add PySem.F.slot_tuple_add PySem.F.entry_tuple_add (PySem.F.args_tuple_add_2 _ _)
   (tuple_addW2 t b vs.toArray ws.toArray n n2 dd dd2 sl sl2 (by simpa using hv) (by simpa using hw) (by rw[d9,d9];exact hsz)) ⟨ho,ho2,?_⟩
  rw[e]
  exact h2 hw
def sIx (n d:Nat):Option Int->Nat
 | none=>d
 | some v=>if v<0 then (v+(n:Int)).toNat else min v.toNat n
theorem aS5 (n d:Nat):sIx n d none=d:=rfl
theorem bd9 (n d k:Nat):sIx n d (some (k:Int))=min k n:=by
 show (if (k:Int)<0 then ((k:Int)+(n:Int)).toNat else min (k:Int).toNat n)=min k n
 rw[if_neg (by omega),u6]
theorem bP5 (n d:Nat)(hd:d<=n)(o:Option Int):sIx n d o<=n:=by
 cases o with
 | none=>exact hd
 | some v =>
  show (if v<0 then (v+(n:Int)).toNat else min v.toNat n)<=n
  by_cases hv:v<0
  ·rw[if_pos hv];omega
  ·rw[if_neg hv];exact Nat.min_le_right _ _
theorem bg3 (v:Int)(n d:Nat):(if v<0 then max (v+(n:Int)) 0 else min v (n:Int))=((sIx n d (some v):Nat):Int):=by
 show (if v<0 then max (v+(n:Int)) 0 else min v (n:Int))=(((if v<0 then (v+(n:Int)).toNat else min v.toNat n):Nat):Int)
 by_cases hv:v<0
 ·simp only[if_pos hv];omega
 ·simp only[if_neg hv];omega
theorem bb4 (lo hi:Option Int)(n:Nat):Builtin.Slice.sliceAdjust lo hi 1 (n:Int)=(((sIx n 0 lo:Nat):Int),((sIx n n hi:Nat):Int)):=by
 have h1:¬ ((1:Int)<0):=by omega
 unfold Builtin.Slice.sliceAdjust
 simp only[h1,if_false]
 refine Prod.ext ?_ ?_
 ·cases lo with
  | none=>rfl
  | some v=>exact bg3 v n 0
 ·cases hi with
  | none=>rfl
  | some v=>exact bg3 v n n
theorem aZ4 (i j:Nat):Builtin.Slice.slicePlaces (i:Int) (j:Int) 1=j - i:=by
 unfold Builtin.Slice.slicePlaces
 have h1:(1:Int) > 0:=by omega
 simp only[h1,if_true,Int.ediv_one]
 split<;>omega
theorem aA7 {o:Option Int}{Q:Option Int->Shared->Prop}(p:bz7 v o)(h:Q o s):q8 (u7 prog w) A (Builtin.Slice.slicePartIndex v) Q E s:=by
 cases p with
 | none=>exact slicePart_none h
 | int i t=>exact slicePart_int h
theorem at4 {sl:Addr}{vl vu:Value}{lo hi:Option Int}{Q:Int × Int × Nat->Shared->Prop}(hs:s.heap.IsSliceOf sl vl vu .none)(pl:bz7 vl lo)(pu:bz7 vu hi)
  (h:Q (((sIx n 0 lo:Nat):Int),1,sIx n n hi - sIx n 0 lo) s):q8 (u7 prog w) A (Builtin.Slice.sliceApplied (.ref sl) (pure (n:Int))) Q E s:=by
 obtain⟨os,hos,hcs,hds⟩:=id hs
 unfold Builtin.Slice.sliceApplied Builtin.Slice.sliceFields
 refine b8 (b8 (F9 hos hds (x:=vl) rfl (b8 (F9 hos hds (x:=vu) rfl (b8 (F9 hos hds (x:=.none) rfl (i7 ?_)))))))
 refine b8 (slicePart_none ?_)
 show q8 _ _ (if ((1:Int) == 0)=true then _ else _) _ _ s
 rw[if_neg (by decide)]
 refine b8 (aA7 pl (b8 (aA7 pu (b8 (i7 ?_)))))
 show q8 _ _ (match Builtin.Slice.sliceAdjust lo hi 1 (n:Int) with | (lo,hi)=>pure (lo,(1:Int),Builtin.Slice.slicePlaces lo hi 1)) _ _ s
 rw[bb4 lo hi n]
 show q8 _ _ (pure (((sIx n 0 lo:Nat):Int),(1:Int),Builtin.Slice.slicePlaces ((sIx n 0 lo:Nat):Int) ((sIx n n hi:Nat):Int) 1)) _ _ s
 rw[aZ4]
 exact i7 h
theorem bs7 (xs:Array Value)(i k:Nat):((C5 k).filterMap fun(m:Nat)=>xs[((i:Int)+(m:Int)*1).toNat]?).toArray=((xs.toList.drop i).take k).toArray:=by
 have e:(fun(m:Nat)=>xs[((i:Int)+(m:Int)*1).toNat]?)=fun m=>xs[i+m]?:=by
  funext m
  have:((i:Int)+(m:Int)*1).toNat=i+m:=by omega
  rw[this]
 rw[e]
 have:=pick_run xs i k
 rw[List.filterMap_map]at this
 have e2:((fun x=>xs[x]?) ∘ fun x=>i+x)=fun m=>xs[i+m]?:=rfl
 rw[e2]at this
 rw[this]
theorem ar4 {t sl:Addr}{vl vu:Value}{lo hi:Option Int}(ht:IsTup s.heap t items)(hs:s.heap.IsSliceOf sl vl vu .none)(pl:bz7 vl lo)(pu:bz7 vu hi)
  (hw:¬ (sIx items.size 0 lo=0/\sIx items.size items.size hi=items.size))
  (h:Q (.ref s.heap.objs.size) { s with heap:=s.heap.push { cls:=.type "tuple",data:=.seq ((items.toList.drop (sIx items.size 0 lo)).take (sIx items.size items.size hi - sIx items.size 0 lo)).toArray } })
  (hsz:items.size<=d7):q8 (u7 prog w) A (bA5 (.ref t) (.ref sl)) Q E s:=by
 have htake:sizeOk (.seq ((items.toList.drop (sIx items.size 0 lo)).take (sIx items.size items.size hi - sIx items.size 0 lo)).toArray):=by
  show ((items.toList.drop (sIx items.size 0 lo)).take (sIx items.size items.size hi - sIx items.size 0 lo)).toArray.size<=d7
  rw[d9,u5,C0,o7]
  omega
 have hj:sIx items.size items.size hi<=items.size:=bP5 _ _ (d6 _) hi
 obtain⟨os,hos,hcs,hds⟩:=id hs
 have hTs:s.TypeIs (.ref sl) "slice":=⟨os,hos,hcs⟩
 unfold bA5
 try with_reducible refine E9 ?_
 first | refine b8 (i7 ?_) | skip
 refine b8 (wpAny_sequenceKey ht.typeIs (by decide) ?_)
 refine b8 (R9 (name:=Str.ofString "__getitem__") ht.typeIs PyProof.Rows.slot_tuple_getitem
  (S4 PyProof.Rows.slot_tuple_getitem ht.typeIs entry_tuple_getitem ?_ (args_tuple_getitem _ _)))
 show q8 _ _ (Builtin.Tuple.tupleItemsOf (.ref t) >>= _) _ _ s
 refine b8 (tupleItemsOf_ ht ?_)
 refine b8 (bM3 hTs ?_)
 rw[if_pos (by decide)]
 refine b8 (at4 hs pl pu ?_)
 have hno:¬ ((((sIx items.size 0 lo:Nat):Int) == 0 && (1:Int) == 1 && (sIx items.size items.size hi - sIx items.size 0 lo) == items.size)=true):=by
  intro q
  rw[B5,B5]at q
  have q1:((sIx items.size 0 lo:Nat):Int)=0:=eq_of_beq q.1.1
  have q2:sIx items.size items.size hi - sIx items.size 0 lo=items.size:=eq_of_beq q.2
  exact hw ⟨by omega,by omega⟩
 show q8 _ _ (if (((sIx items.size 0 lo:Nat):Int) == 0 && (1:Int) == 1 && (sIx items.size items.size hi - sIx items.size 0 lo) == items.size)=true then _ else _) _ _ s
 rw[if_neg hno,bs7]
 first
  | exact b8 (m:=Builtin.Tuple.tupleExact _) (U9 (i7 ⟨_,rfl,i7 h⟩) htake)
  | exact b8 (m:=Builtin.Tuple.tupleExact _) (U9 (b8 (i7 (i7 ⟨_,rfl,i7 h⟩))) htake)
  | exact b8 (b8 (m:=Builtin.Tuple.tupleExact _) (U9 (i7 (i7 ⟨_,rfl,i7 h⟩)) htake))
  | exact b8 (b8 (m:=Builtin.Tuple.tupleExact _) (U9 (i7 ⟨_,rfl,i7 h⟩) htake))
end HT
namespace L2
open PySem PySem.Spec PyProof.Rows
abbrev TO:=St->Hp->(Option Int->Hp->Prop)->Prop
def PO (X:Cx)(e:Option Expr)(t:TO):Prop:=
 ∀ (pins:List (Addr × Obj)) (s:Shared) (σ:St) (H:Hp) (Q:Option Int->Hp->Prop),Inv X pins σ H s->t σ H Q ->
  q8 (u7 X.prog X.w) X.A (evalPart e X.env) (fun u s'=>∃ o H',Inv X pins σ H' s'/\bz7 u o/\Q o H') X.xe s
def bC3:TO:=fun _ H Q=>Q none H
def bY8 (t:TE):TO:=fun σ H Q=>t σ H fun x H1=>∃ i,x=.int i/\Q (some i) H1
theorem intsAre_of:∀ {us:List Value},D3 (ns.map V.int) us->R8 us ns:=by
 induction ns with
 | nil=>intro us r;rw[List.map_nil]at r;cases r;exact .nil
 | cons n ns ih =>
  intro us r
  rw[x8]at r
  cases r with
  | cons r1 r2 =>
   obtain⟨t,e⟩:=r1
   subst e
   exact .cons n t (ih r2)
section
variable {lo hi:Option Expr} {tl th:TO} {p2:Pos}
theorem X2:PO X none bC3:=by
 intro pins s σ H Q I h
 rw[evalPart_none]
 exact i7 ⟨none,H,I,.none,h⟩
theorem T5 (h:PE X e te):PO X (some e) (bY8 te):=by
 intro pins s σ H Q I hw
 rw[evalPart_some]
 refine thn (h pins s σ H _ I hw) fun u s1 ⟨x,H1,I1,r1,q1⟩=>?_
 obtain⟨i,rfl,q⟩:=q1
 obtain⟨t,rfl⟩:=r1
 exact⟨some i,H1,I1,.int i t,q⟩
def SlR (X:Cx)(r:V->Option Int->Option Int->Hp->VK->Prop):Prop:=
 ∀ (pins:List (Addr × Obj)) (s:Shared) (σ:St) (H:Hp) (x:V) (v vl vu:Value) (lo hi:Option Int) (sl:Addr) (Q:VK),Inv X pins σ H s->RelV x v->s.heap.IsSliceOf sl vl vu .none->bz7 vl lo->bz7 vu hi->r x lo hi H Q ->
  ∃ T id,ay0 (.type T) "__getitem__"=pure (some (.builtin id))/\s.TypeIs v T/\q8 (u7 X.prog X.w) X.A (bA5 v (.ref sl)) (EP X pins σ Q) X.xe s
def tSl (r:V->Option Int->Option Int->Hp->VK->Prop)(te:TE)(tl th:TO):TE:=fun σ H Q=>te σ H fun x H1=>tl σ H1 fun l H2=>th σ H2 fun u H3=>r x l u H3 Q
theorem R3 {r:V->Option Int->Option Int->Hp->VK->Prop}(hr:SlR X r)(he:PE X e te)(hl:PO X lo tl)(hu:PO X hi th):PE X (.Subscript e (.Slice lo hi none p2) pos) (tSl r te tl th):=by
 intro pins s σ H Q I h
 refine Subscript_ (thn (he pins s σ H _ I h) fun v s1 ⟨x,H1,I1,r1,q1⟩=>?_)
 refine wpAny_Slice (thn (hl pins s1 σ H1 _ I1 q1) fun vl s2 ⟨l,H2,I2,pl,q2⟩=>thn (hu pins s2 σ H2 _ I2 q2) fun vu s3 ⟨u,H3,I3,pu,q3⟩=>?_)
 rw[evalPart_none]
 refine i7 ?_
 have I4:Inv X pins σ H3 { s3 with heap:=s3.heap.push { cls:=.type "slice",data:=.fields #[vl,vu,.none] } }:=I3.kept (t':=s3.toks) fun b ob q=>c8 _ q
 obtain⟨T,id,hT,ht,hg⟩:=hr pins { s3 with heap:=s3.heap.push { cls:=.type "slice",data:=.fields #[vl,vu,.none] } } σ H3 x v vl vu l u s3.heap.objs.size Q I4 r1 (Heap.IsSliceOf.new ..) pl pu q3
 show q8 (u7 X.prog X.w) X.A (subscriptTail e (.Slice lo hi none p2) v (.ref s3.heap.objs.size)) (EP X pins σ Q) X.xe { s3 with heap:=s3.heap.push { cls:=.type "slice",data:=.fields #[vl,vu,.none] } }
 exact tail_any (ops:=[.ref s3.heap.objs.size,v]) ht hT hg (by with_unfolding_all rfl)
def S5 (xs:List V)(lo hi:Option Int):List V:=(xs.drop (HT.sIx xs.length 0 lo)).take (HT.sIx xs.length xs.length hi - HT.sIx xs.length 0 lo)
theorem ac7 (xs:List V)(lo hi:Option Int):(S5 xs lo hi).length<=xs.length:=by
 unfold S5
 rw[u5,C0]
 omega
def cf8 (K:W.Frag):V->Option Int->Option Int->Hp->VK->Prop:=fun x lo hi H Q=>∃ a xs,x=.ref a/\SqT K H a xs /\
 ¬ (HT.sIx xs.length 0 lo=0/\HT.sIx xs.length xs.length hi=xs.length)/\∀ p,H p=none->Q (.ref p) (upd H p (.tup (S5 xs lo hi)))
theorem bq7:SlR X (cf8 X.K):=by
 intro pins s σ H x v vl vu lo hi sl Q I rx hs pl pu h
 obtain⟨a,xs,rfl,hx,hw,q⟩:=h
 cases rx
 obtain⟨its,r,ht,hz⟩:=I.tuple hx
 have hlen:its.toArray.size=xs.length:=by rw[d9];exact r.length.symm
 refine⟨"tuple",_,PyProof.Rows.slot_tuple_getitem.lookup,ht.typeIs,?_⟩
 refine HT.ar4 ht hs pl pu (by rw[hlen];exact hw) ?_ (by rw[hlen];exact hz)
 rw[hlen]
 refine⟨.ref s.heap.objs.size,_,I.laid (t':=s.toks) (o:=.tup (S5 xs lo hi)) (fun b ob q=>c8 _ q) (d6 _) ?_,rfl,q _ (I.hok.fresh (d6 _))⟩
 exact⟨C4 (ac7 xs lo hi) hz,_,(r.drop (HT.sIx xs.length 0 lo)).take (HT.sIx xs.length xs.length hi - HT.sIx xs.length 0 lo),IsTup.new _ _⟩
def cg1 (K:W.Frag):R2:=fun x y H Q=>∃ a b ns ms,x=.ref a/\y=.ref b/\SqT K H a (ns.map V.int)/\SqT K H b (ms.map V.int)/\Q (.bl (HT.lexLt ns ms)) H
theorem bR0 (hu:X.A.units<aw4):OpR X (J1 .Lt) (cg1 X.K):=by
 intro pins s σ H x y v u Q I rx ry h
 obtain⟨a,b,ns,ms,rfl,rfl,ha,hb,q⟩:=h
 cases rx
 cases ry
 obtain⟨its,r1,p1,_⟩:=I.tuple ha
 obtain⟨its2,r2,p2,_⟩:=I.tuple hb
 have i1:R8 its.toArray.toList ns:=intsAre_of r1
 have i2:R8 its2.toArray.toList ms:=intsAre_of r2
 exact HT.ba0 p1 p2 i1 i2 hu ⟨.bl (HT.lexLt ns ms),H,I,rfl,q⟩
def ca7 (K:W.Frag):R2:=fun x y H Q=>∃ a b xs ys,x=.ref a/\y=.ref b/\SqT K H a xs/\SqT K H b ys/\xs≠[]/\xs.length+ys.length<=d7 /\
 (ys=[]->Q (.ref a) H)/\(ys≠[]->∀ p,H p=none->Q (.ref p) (upd H p (.tup (xs++ys))))
theorem D3.nil_iff (r:D3 xs us):us=[]↔xs=[]:=by
 cases r with
 | nil=>simp
 | cons _ _=>simp
theorem bE6:OpR X (af2 .Add) (ca7 X.K):=by
 intro pins s σ H x y v u Q I rx ry h
 obtain⟨a,b,xs,ys,rfl,rfl,ha,hb,hx,hz,q1,q2⟩:=h
 cases rx
 cases ry
 obtain⟨its,r1,p1,_⟩:=I.tuple ha
 obtain⟨its2,r2,p2,_⟩:=I.tuple hb
 refine HT.bH8 p1 p2 (fun z=>hx (r1.nil_iff.mp z)) (fun z=>⟨.ref a,H,I,rfl,q1 (r2.nil_iff.mp z)⟩) (fun z=>?_) (by rw[<- r1.length,<- r2.length];exact hz)
 refine⟨.ref s.heap.objs.size,_,I.laid (t':=s.toks) (o:=.tup (xs++ys)) (fun b ob q=>c8 _ q) (d6 _) ?_,rfl,q2 (fun w=>z (r2.nil_iff.mpr w)) _ (I.hok.fresh (d6 _))⟩
 exact⟨by rw[m5];exact hz,_,r1.append r2,IsTup.new _ _⟩
end
def ixN (n:Nat)(i:Int):Option Nat:=if 0<=i then (if i<n then some i.toNat else none) else if -(n:Int)<=i then some (i+n).toNat else none
def atI {α:Type}(xs:List α)(i:Int):Option α:=(ixN xs.length i).bind fun j=>xs[j]?
theorem az1 {i:Int}(h:ixN n i=some j):seqIndex? i n=some j/\j<n /\ -(n:Int)<=i/\i<n:=by
 unfold ixN at h
 by_cases h0:0<=i
 ·rw[if_pos h0]at h
  by_cases h1:i<n
  ·rw[if_pos h1]at h
   have e:i.toNat=j:=Option.some.inj h
   exact⟨by rw[bh4 h0 h1,e],by omega,by omega,h1⟩
  ·rw[if_neg h1]at h;cases h
 ·rw[if_neg h0]at h
  by_cases h1:-(n:Int)<=i
  ·rw[if_pos h1]at h
   have e:(i+n).toNat=j:=Option.some.inj h
   exact⟨by rw[aX4 (by omega) h1,e],by omega,h1,by omega⟩
  ·rw[if_neg h1]at h;cases h
theorem az8 {α:Type}{xs:List α}{i:Int}{v:α}(h:atI xs i=some v):∃ j,seqIndex? i xs.length=some j/\xs[j]?=some v/\j<xs.length /\ -(xs.length:Int)<=i/\i<xs.length:=by
 unfold atI at h
 cases e:ixN xs.length i with
 | none=>rw[e]at h;cases h
 | some j =>
  rw[e]at h
  obtain⟨h1,h2,h3,h4⟩:=az1 e
  exact⟨j,h1,h,h2,h3,h4⟩
theorem A1 {α:Type}{xs:List α}{v:α}(h:xs[j]?=some v):atI xs (j:Int)=some v:=by
 have hj:j<xs.length:=(j5.mp h).1
 have e:ixN xs.length (j:Int)=some j:=by
  unfold ixN
  rw[if_pos (by omega),if_pos (by omega)];simp
 unfold atI;rw[e];exact h
def aO3 (b:Expr):Prop:=∀ o i,subscripted b false o i=operate [o,i] (bA5 o i)
def IxR (X:Cx)(r:R2):Prop:=
 ∀ (value slice:Expr) (pins:List (Addr × Obj)) (s:Shared) (σ:St) (H:Hp) (x y:V) (v u:Value) (Q:VK),Inv X pins σ H s->RelV x v->RelV y u->r x y H Q ->
  subscripted slice false v u=operate [v,u] (bA5 v u)->q8 (u7 X.prog X.w) X.A (subscriptTail value slice v u) (EP X pins σ Q) X.xe s
def MtR (X:Cx)(id:String)(r:V->List V->Hp->VK->Prop):Prop:=
 ∀ (pins:List (Addr × Obj)) (s:Shared) (σ:St) (H:Hp) (x:V) (xs:List V) (v:Value) (us:List Value) (Q:VK),Inv X pins σ H s->RelV x v->D3 xs us->r x xs H Q ->
  q8 (u7 X.prog X.w) X.A (call (.builtin id) (v::us)) (EP X pins σ Q) X.xe s
section
variable {a b:Expr} {tb:TE}
theorem IxR.or {r r':R2}(h:IxR X r)(h':IxR X r'):IxR X (fun x y H Q=>r x y H Q\/r' x y H Q):=by
 intro value slice pins s σ H x y v u Q I rx ry q hs
 rcases q with q | q
 ·exact h value slice pins s σ H x y v u Q I rx ry q hs
 ·exact h' value slice pins s σ H x y v u Q I rx ry q hs
theorem C1 {r:R2}(hr:IxR X r)(ha:PE X a ta)(hb:PE X b tb)(hs:aO3 b):PE X (.Subscript a b pos) (tOp r ta tb):=by
 intro pins s σ H Q I h
 exact Subscript_ (bU8 ha hb I h fun v u s2 x y H2 I2 rx ry q=>hr a b pins s2 σ H2 x y v u Q I2 rx ry q (hs _ _))
def bP9 (K:W.Frag):R2:=fun x y H Q=>∃ p xs i v,x=.ref p/\y=.int i/\SqL K H p xs/\atI xs i=some v/\Q v H
def bP8 (K:W.Frag):R2:=fun x y H Q=>∃ p xs i v,x=.ref p/\y=.int i/\SqT K H p xs/\atI xs i=some v/\Q v H
def ca5:R2:=fun x y H Q=>∃ z i c,x=.str z/\y=.int i/\z.length<=d7/\atI z.cps.toList i=some c/\Q (.str ⟨#[c]⟩) H
theorem G8:IxR X (bP9 X.K):=by
 intro value slice pins s σ H x y v u Q I rx ry h hs
 obtain⟨p,xs,i,z,rfl,rfl,hq,he,q⟩:=h
 cases rx
 obtain⟨t,rfl⟩:=ry
 obtain⟨its,r,pl,hz⟩:=I.list hq
 obtain⟨j,h1,h2,h3,h4,h5⟩:=az8 he
 obtain⟨w,ew,rw'⟩:=r.get h2
 have hl:=r.length
 have hn:=ao4
 have fin:EP X pins σ Q w s:=⟨z,H,I,rw',q⟩
 by_cases h0:0<=i
 ·have hj:i.toNat=j:=by
   rw[bh4 h0 h5]at h1
   exact Option.some.inj h1
  exact item_listR pl.isList h0 (by omega) (by rw[hj];simpa using ew) fin hs
 ·have hj:(i+(its.toArray.size:Int)).toNat=j:=by
   rw[aX4 (by omega) h4]at h1
   rw[d9,<- hl]
   exact Option.some.inj h1
  exact bJ3 (x:=w) pl.isList.typeIs slot_list_getitem.lookup
   (bJ4 (Q:=fun r s'=>r=w/\EP X pins σ Q r s') pl.isList (by omega) (by rw[d9]<;>omega) (by omega) (by rw[hj];simpa using ew) ⟨rfl,fin⟩) hs
theorem C8:IxR X (bP8 X.K):=by
 intro value slice pins s σ H x y v u Q I rx ry h hs
 obtain⟨p,xs,i,z,rfl,rfl,hq,he,q⟩:=h
 cases rx
 obtain⟨t,rfl⟩:=ry
 obtain⟨its,r,pl,hz⟩:=I.tuple hq
 obtain⟨j,h1,h2,h3,h4,h5⟩:=az8 he
 obtain⟨w,ew,rw'⟩:=r.get h2
 have hl:=r.length
 have hn:=ao4
 have fin:EP X pins σ Q w s:=⟨z,H,I,rw',q⟩
 exact bJ3 (x:=w) pl.typeIs slot_tuple_getitem.lookup
  (getItem_tuple (j:=j) (Q:=fun r s'=>r=w/\EP X pins σ Q r s') pl (by omega) (by omega) (by rw[d9,<- hl];exact h1) (by simpa using ew) ⟨rfl,fin⟩) hs
theorem bT3:IxR X ca5:=by
 intro value slice pins s σ H x y v u Q I rx ry h hs
 obtain⟨z,i,c,rfl,rfl,hz,he,q⟩:=h
 obtain⟨t,rfl⟩:=rx
 obtain⟨t',rfl⟩:=ry
 obtain⟨j,h1,h2,h3,h4,h5⟩:=az8 he
 have hl:z.cps.toList.length=z.length:=by simp[Str.length]
 rw[hl]at h1 h4 h5
 have hn:=ao4
 exact tail_any (typeIs_str s z t) slot_str_getitem.lookup (getItem_str (c:=c) (by
  have e1:decide (i < -(2 ^ 63:Int))=false:=decide_eq_false (by omega)
  have e2:decide (i≥2 ^ 63)=false:=decide_eq_false (by omega)
  rw[e1,e2,Bool.or_false]) (by rw[h1];simpa using h2) ⟨.str ⟨#[c]⟩,H,I.tok _,⟨_,rfl⟩,q⟩) hs
def rIx (K:W.Frag):R2:=fun x y H Q=>bP9 K x y H Q\/bP8 K x y H Q\/ca5 x y H Q
theorem bT4:IxR X (rIx X.K):=G8.or (C8.or bT3)
theorem aZ9 (its:List Value)(n j:Nat)(u:Value):Obj.mapSeq (·.setIfInBounds j u) { cls:=.type "list",data:=.seq its.toArray n }={ cls:=.type "list",data:=.seq (its.set j u).toArray n }:=by
 simp[Obj.mapSeq]
theorem Inv.lst {pins:List (Addr × Obj)}{σ:St}{H:Hp}{s:Shared}{p:Addr}{xs:List V}(I:Inv X pins σ H s)(h:H p=some (.lst xs)) :
  ∃ (its:List Value) (n:Nat),D3 xs its/\s.heap.get? p=some { cls:=.type "list",data:=.seq its.toArray n }/\xs.length<=d7:=by
 obtain⟨z,its,n,r,e⟩:=I.hok p _ h
 exact⟨its,n,r,e,z⟩
theorem Inv.lstUpd {σ:St}{p:Addr}{its':List Value}{n':Nat}{f:Obj->Obj}(I:Inv X pins σ H s)(h:H p=some (.lst xs))
  (ho:s.heap.get? p=some { cls:=.type "list",data:=.seq its.toArray n })(hf:f { cls:=.type "list",data:=.seq its.toArray n }={ cls:=.type "list",data:=.seq its'.toArray n' })(r:D3 ys its')(hz:ys.length<=d7)(t:Nat) :
  Inv X pins σ (upd H p (.lst ys)) { s with heap:=s.heap.update p f,toks:=t }:=by
 have e:(s.heap.update p f).get? p=some { cls:=.type "list",data:=.seq its'.toArray n' }:=by
  rw[O6 f ho (by rw[hf]<;>rfl),hf]
 refine I.write (x:=p) (e:=p) (by rw[h];trivial) (.inl rfl) (fun b u hb q=>(B2 _ _ (Ne.symm hb)).trans q) ⟨_,e⟩ ?_
 exact⟨hz,its',n',r,e⟩
def ca4:V->V->V->Hp->(Hp->Prop)->Prop:=fun o i v H Q=>∃ p xs k j,o=.ref p/\i=.int k/\H p=some (.lst xs)/\ixN xs.length k=some j/\Q (upd H p (.lst (xs.set j v)))
theorem set_list:bV3 X ca4:=by
 intro pins s σ H o i v ov iv u Q I ro ri rv h
 obtain⟨p,xs,k,j,rfl,rfl,hp,hj,q⟩:=h
 cases ro
 obtain⟨t,rfl⟩:=ri
 obtain⟨its,n,r,ho,hz⟩:=I.lst hp
 obtain⟨h1,h2,h3,h4⟩:=az1 hj
 have hl:=r.length
 have hn:=ao4
 have I':Inv X pins σ (upd H p (.lst (xs.set j v))) { s with heap:=s.heap.update p (Obj.mapSeq (·.setIfInBounds j u)) }:=
  I.lstUpd hp ho (aZ9 its n j u) (r.set rv j) (by rw[B7];exact hz) s.toks
 by_cases h0:0<=k
 ·have hk:k.toNat=j:=by
   rw[bh4 h0 h4]at h1
   exact Option.some.inj h1
  exact PySem.W.ki_setAt ho h0 (by omega) (by rw[d9,<- hl];exact h4) (by rw[hk];exact⟨_,I',q⟩)
 ·have hk:(k+(its.toArray.size:Int)).toNat=j:=by
   rw[aX4 (by omega) h3]at h1
   rw[d9,<- hl]
   exact Option.some.inj h1
  exact PySem.W.ki_setBack ho (by omega) (by rw[d9,<- hl];exact h3) (by omega) (by rw[hk];exact⟨_,I',q⟩)
theorem aL5 (lo hi:Option Int)(n:Nat):(ag6 lo hi none n).1=((HT.sIx n 0 lo:Nat):Int)/\(ag6 lo hi none n).2.1=((HT.sIx n n hi:Nat):Int)/\(ag6 lo hi none n).2.2=1:=by
 refine⟨?_,?_,rfl⟩
 ·cases lo with
  | none=>simp[ag6,HT.sIx]
  | some i =>
   simp only[ag6,HT.sIx,bL5,show (1:Int) > 0 by decide,if_true]
   by_cases h:i<0
   ·simp only[h,if_true]<;>omega
   ·simp only[h,if_false]<;>omega
 ·cases hi with
  | none=>simp[ag6,HT.sIx]
  | some i =>
   simp only[ag6,HT.sIx,bL5,show (1:Int) > 0 by decide,if_true]
   by_cases h:i<0
   ·simp only[h,if_true]<;>omega
   ·simp only[h,if_false]<;>omega
theorem aG2 (its:List Value)(lo hi:Option Int):slicePick its.toArray lo hi none=((its.drop (HT.sIx its.length 0 lo)).take (HT.sIx its.length its.length hi - HT.sIx its.length 0 lo)).toArray:=by
 obtain⟨h1,h2,h3⟩:=aL5 lo hi its.toArray.size
 unfold slicePick
 rw[h1,h2,h3]
 simp only[sliceRange_one,pick_run,d9]<;>rfl
def cf9 (K:W.Frag):V->Option Int->Option Int->Hp->VK->Prop:=fun x lo hi H Q=>∃ a xs,x=.ref a/\SqL K H a xs/\∀ p,H p=none->Q (.ref p) (upd H p (.lst (S5 xs lo hi)))
theorem Z2:SlR X (cf9 X.K):=by
 intro pins s σ H x v vl vu lo hi sl Q I rx hs pl pu h
 obtain⟨a,xs,rfl,hx,q⟩:=h
 cases rx
 obtain⟨its,r,ht,hz⟩:=I.list hx
 have hlen:=r.length
 refine⟨"list",_,slot_list_getitem.lookup,ht.isList.typeIs,?_⟩
 refine wpAny_getItem_list_slice ht.isList hs pl pu .none (by simp) ?_ (by rw[d9]<;>omega)
 rw[aG2,<- hlen]
 refine⟨.ref s.heap.objs.size,_,I.laid (t':=s.toks) (o:=.lst (S5 xs lo hi)) (fun b ob q=>c8 _ q) (d6 _) ?_,rfl,q _ (I.hok.fresh (d6 _))⟩
 exact⟨C4 (ac7 xs lo hi) hz,_,0,(r.drop (HT.sIx xs.length 0 lo)).take (HT.sIx xs.length xs.length hi - HT.sIx xs.length 0 lo),m9 _ rfl⟩
theorem y9:S7 X (.builtin "len") (fun xs H Q=>∃ p ys,xs=[.ref p]/\(SqL X.K H p ys\/SqT X.K H p ys)/\Q (.int ys.length) H):=by
 intro pins s σ H xs us Q I r h
 obtain⟨p,ys,rfl,hq,q⟩:=h
 obtain⟨u,rfl,rx⟩:=vals1 r
 cases rx
 have hn:=ao4
 rcases hq with hq | hq
 ·obtain⟨its,r',pl,hz⟩:=I.list hq
  have hlen:=r'.length
  exact Calls.call_len_list pl.isList (by simp only[d9]<;>omega) ⟨.int ys.length,H,I.tok _,⟨s.toks+1,by rw[d9,hlen]⟩,q⟩
 ·obtain⟨its,r',pl,hz⟩:=I.tuple hq
  have hlen:=r'.length
  exact len_tuple pl (by simp only[d9]<;>omega) ⟨.int ys.length,H,I.tok _,⟨s.toks+1,by rw[d9,hlen]⟩,q⟩
theorem V6:S7 X (.type "list") (fun xs H Q=>∃ p ys,xs=[.ref p]/\(SqL X.K H p ys\/SqT X.K H p ys)/\∀ l,H l=none->Q (.ref l) (upd H l (.lst ys))):=by
 intro pins s σ H xs us Q I r h
 obtain⟨p,ys,rfl,hq,q⟩:=h
 obtain⟨u,rfl,rx⟩:=vals1 r
 cases rx
 have fin:∀ (its:List Value),D3 ys its->ys.length<=d7->∀ (h':Heap) (c':Nat),(∀ b o',s.heap.get? b=some o'->h'.get? b=some o') ->
   h'.get? s.heap.objs.size=some { cls:=.type "list",dict:=none,data:=.seq its.toArray c',slots:=#[] }->EP X pins σ Q (.ref s.heap.objs.size) { s with heap:=h' }:=fun its r' hz h' c' kp e =>
  ⟨.ref s.heap.objs.size,_,I.laid (t':=s.toks) kp (d6 _) (show P5 X.prog X.w _ h' _ (.lst ys) from ⟨hz,its,c',r',e⟩),rfl,q _ (I.hok.fresh (d6 _))⟩
 rcases hq with hq | hq
 ·obtain⟨its,r',pl,hz⟩:=I.list hq
  have hlen:=r'.length
  obtain⟨o,ho,hc,n,hd⟩:=pl.isList
  exact call_list_seq p (.inl rfl) ho hc hd (fun h' c' kp e=>fin its r' hz h' c' kp e) (by simp only[d9]<;>omega)
 ·obtain⟨its,r',pl,hz⟩:=I.tuple hq
  have hlen:=r'.length
  obtain⟨o,ho,hc,n,hd⟩:=pl
  exact call_list_seq p (.inr rfl) ho hc hd (fun h' c' kp e=>fin its r' hz h' c' kp e) (by simp only[d9]<;>omega)
theorem O0:S7 X (.type "tuple") (fun xs H Q=>∃ p ys,xs=[.ref p]/\((SqL X.K H p ys/\∀ l,H l=none->Q (.ref l) (upd H l (.tup ys)))\/(SqT X.K H p ys/\Q (.ref p) H))):=by
 intro pins s σ H xs us Q I r h
 obtain⟨p,ys,rfl,h⟩:=h
 obtain⟨u,rfl,rx⟩:=vals1 r
 cases rx
 rcases h with⟨hq,q⟩ | ⟨hq,q⟩
 ·obtain⟨its,r',pl,hz⟩:=I.list hq
  have hlen:=r'.length
  refine call_tuple_list pl.isList (fun h' kp=>?_) (by simp only[d9]<;>omega)
  have I1:Inv X pins σ H { s with heap:=h' }:=I.kept (t':=s.toks) kp
  have I2:Inv X pins σ (upd H h'.objs.size (.tup ys)) { s with heap:=h'.push { cls:=.type "tuple",data:=.seq its.toArray } } :=
   I1.laid (t':=s.toks) (fun b o e=>c8 _ e) (d6 _) (show P5 X.prog X.w _ _ _ (.tup ys) from ⟨hz,its,r',IsTup.new _ _⟩)
  exact⟨.ref h'.objs.size,_,I2,rfl,q _ (I1.hok.fresh (d6 _))⟩
 ·obtain⟨its,r',pl,hz⟩:=I.tuple hq
  exact call_tuple_same pl ⟨.ref p,H,I,rfl,q⟩
def tyV (K:W.Frag)(T:String)(x:V)(H:Hp):Prop:=match x with
 | .str _=>T="str"
 | .int _=>T="int"
 | .ref p=>(T="list"/\∃ xs,SqL K H p xs)\/(T="tuple"/\∃ o,K.lookup p=some o/\o.cls=.type "tuple"/\o.dict=none) \/
   (T="dict"/\((∃ kvs,H p=some (.dK kvs))\/∃ kvs,H p=some (.dT kvs)))\/(T="set"/\∃ S n,H p=some (.set S n))
 | _=>False
theorem bo9 {σ:St}{T:String}{x:V}(I:Inv X pins σ H s)(r:RelV x v)(ty:tyV X.K T x H) :
  s.TypeIs v T/\∀ a,v=.ref a->∃ ob,s.heap.get? a=some ob/\ob.dict=none:=by
 cases x with
 | str z =>
  obtain⟨t,rfl⟩:=r
  cases (show T="str" from ty)
  exact⟨typeIs_str s z t,fun _ e=>nomatch e⟩
 | int i =>
  obtain⟨t,rfl⟩:=r
  cases (show T="int" from ty)
  exact⟨typeIs_int s i t,fun _ e=>nomatch e⟩
 | ref p =>
  cases r
  rcases ty with⟨rfl,xs,hq⟩ | ⟨rfl,o,hk,hc,hd⟩ | ⟨rfl,hk⟩ | ⟨rfl,S,n,hk⟩
  ·obtain⟨its,_,pl,_⟩:=I.list hq
   refine⟨pl.isList.typeIs,fun a e=>?_⟩
   cases e
   obtain⟨o,n,e,c,hd,_⟩:=pl
   exact⟨o,e,hd⟩
  ·refine⟨⟨o,I.kIn p o hk,hc⟩,fun a e=>?_⟩
   cases e
   exact⟨o,I.kIn _ o hk,hd⟩
  ·have z:∃ o,s.heap.get? p=some o/\o.ExactDict:=by
    rcases hk with⟨kvs,hk⟩ | ⟨kvs,hk⟩
    ·obtain⟨_,_,_,_,o,_,_,e,ex,_⟩:=I.hok p _ hk
     exact⟨o,e,ex⟩
    ·obtain⟨_,_,_,_,o,_,_,e,ex,_⟩:=I.hok p _ hk
     exact⟨o,e,ex⟩
   obtain⟨o,e,ex⟩:=z
   refine⟨⟨o,e,ex.1⟩,fun a e2=>?_⟩
   cases e2
   exact⟨o,e,ex.2.1⟩
  ·obtain⟨o,_,_,_,e,ex,_⟩:=I.hok p _ hk
   refine⟨⟨o,e,ex.1⟩,fun a e2=>?_⟩
   cases e2
   exact⟨o,e,ex.2.1⟩
 | _=>exact False.elim ty
def cf3 (K:W.Frag)(T:String)(r:V->List V->Hp->VK->Prop)(to:TE):TE:=fun σ H Q=>to σ H fun x H1=>tyV K T x H1/\r x [] H1 Q
def tBM (K:W.Frag)(T:String)(r:V->List V->Hp->VK->Prop)(to:TE)(t:TA):TE:=fun σ H Q=>to σ H fun x H1=>tyV K T x H1/\t σ H1 fun xs H2=>r x xs H2 Q
variable {to:TE} {t:TA} {name:Str} {apos cpos:Pos} {T id:String}
theorem bQ8 (pa:PlainAttrs T)(slot:Slot T name id)(hty:typeOf (.builtin id)=pure (.type "method_descriptor"))(hm:MtR X id r)(ho:PE X o to)
  (hbase:aK2 o name X.env (eval o X.env)=eval o X.env:=by rfl)(hline:(apos.endLine == cpos.line)=true:=by rfl):PE X (.Call (.Attribute o name apos) [] [] cpos) (cf3 X.K T r to):=by
 intro pins s σ H Q I h
 refine wpAny_Call_method0_late hbase hline (thn (ho pins s σ H _ I h) fun v s1 ⟨x,H1,I1,r1,ty,q1⟩=>?_)
 obtain⟨h1,h2⟩:=bo9 I1 r1 ty
 exact⟨T,id,pa,slot,hty,h1,h2,Calls.callWith_builtin rfl (PySem.evalArgs_none (hm pins s1 σ H1 x [] v [] Q I1 r1 .nil q1))⟩
theorem aa7 (pa:PlainAttrs T) (slot:Slot T name id) (hty:typeOf (.builtin id)=pure (.type "method_descriptor")) (hm:MtR X id r) (ho:PE X o to) (ha:PA X (e::es) t)
  (hbase:aK2 o name X.env (eval o X.env)=eval o X.env:=by rfl)
  (hfew : ((O9 cpos (u4 (e :: es) X.env)).all (fun x => !x.1) && (af3 cpos (R7 [] X.env)).all (fun x => x.1.isSome)
   && decide ((e::es).length+([]:List aw5).length+(if ([]:List aw5).isEmpty then 0 else 1)<30))=true:=by rfl)
  (hline:(apos.endLine == cpos.line)=true:=by rfl) (hs:u4 (e::es) X.env=(false,eval e X.env)::u4 es X.env:=by rfl) (hplain:(O9 cpos (u4 es X.env)).any (·.1)=false:=by rfl) :
  PE X (.Call (.Attribute o name apos) (e::es) [] cpos) (tBM X.K T r to t):=by
 intro pins s σ H Q I h
 refine wpAny_Call_method_late hbase hfew hline rfl (thn (ho pins s σ H _ I h) fun v s1 ⟨x,H1,I1,r1,ty,q1⟩=>?_)
 obtain⟨h1,h2⟩:=bo9 I1 r1 ty
 refine⟨T,id,pa,slot,hty,h1,h2,?_⟩
 have hA:=ha cpos pins s1 σ H1 _ I1 q1
 rw[hs]at hA ⊢
 refine Calls.callWith_builtin (by show (false || (O9 cpos (u4 es X.env)).any (·.1))=false;rw[hplain]<;>rfl) (Calls.evalArgs_plain ?_)
 exact thn hA fun us s2 ⟨vs,H2,I2,r2,q2⟩=>hm pins s2 σ H2 x vs v us Q I2 r1 r2 q2
/- xs.append(e),list.index on a module's tuple .. are MtR facts of 06m -/
end
def MtM (X:Cx)(id:String)(r:V->List V->Hp->VK->Prop):Prop:=
 ∀ (pins:List (Addr × Obj)) (s:Shared) (σ:St) (H:Hp) (x:V) (xs:List V) (v:Value) (us:List Value) (Q:VK),Inv X pins σ H s->RelV x v->D3 xs us->r x xs H Q ->
  q8 (u7 X.prog X.w) X.A (call (.builtin id) (v::us)) (EP X pins σ Q) X.xe s
theorem D3.one:∀ {x:V} {us:List Value},D3 [x] us->∃ u,us=[u]/\RelV x u
 | _,_,.cons r .nil=>⟨_,rfl,r⟩
theorem D3.two:∀ {x y:V} {us:List Value},D3 [x,y] us->∃ u v,us=[u,v]/\RelV x u/\RelV y v
 | _,_,_,.cons r (.cons q .nil)=>⟨_,_,rfl,r,q⟩
theorem D3.zero:∀ {us:List Value},D3 [] us->us=[]
 | _,.nil=>rfl
theorem D3.eraseIdx:∀ {xs:List V} {us:List Value} (i:Nat),D3 xs us->D3 (xs.eraseIdx i) (us.eraseIdx i)
 | _,_,_,.nil=>.nil
 | _,_,0,.cons _ t=>t
 | _,_,i+1,.cons r t=>.cons r (D3.eraseIdx i t)
theorem D3.reverse (h:D3 xs us):D3 xs.reverse us.reverse:=by
 induction h with
 | nil=>exact .nil
 | cons r t ih=>rw[aG9,aG9];exact D3.append ih (.cons r .nil)
theorem D3.rep (h:D3 xs us):∀ k:Nat,D3 (o9 k xs).flatten (o9 k us).flatten
 | 0=>.nil
 | k+1=>by
  rw[J3,J3,N3,N3]
  exact D3.append h (D3.rep h k)
theorem aI3 {α:Type}:∀ (l:List α) (i:Nat),(l.eraseIdx i).length<=l.length
 | [],_=>d6 _
 | _::_,0=>Q8 _
 | _::r,i+1=>Nat.succ_le_succ (aI3 r i)
theorem foldl_rep (its:List Value):∀ (k:Nat) (acc:List Value),
  ad3 (fun x1 x2=>x1++x2) acc.toArray (o9 k its.toArray)=(acc++(o9 k its).flatten).toArray
 | 0,acc=>by simp
 | k+1,acc=>by
  have e:acc.toArray++its.toArray=(acc++its).toArray:=by simp
  have e2:(acc++its)++(o9 k its).flatten=acc++(o9 (k+1) its).flatten:=by
   rw[J3,N3,E3]
  rw[<- e2,<- foldl_rep its k (acc++its),<- e,J3,ae5]
section
variable {σ:St} {l b:Addr} {zs:List V}
theorem Inv.lset {its':List Value}{f:Array Value->Array Value}(I:Inv X pins σ H s)(hH:H l=some (.lst xs))
  (e:s.heap.get? l=some { cls:=.type "list",data:=.seq its.toArray n })(hf:f its.toArray=its'.toArray)(hv:D3 ys its')(hz:ys.length<=d7) :
  Inv X pins σ (upd H l (.lst ys)) { s with heap:=s.heap.update l (Obj.mapSeq f),toks:=t' }:=by
 have q:=PySem.IsL.update e f
 rw[hf]at q
 refine I.write (x:=l) (e:=l) (by rw[hH];exact trivial) (.inl rfl) (fun b' u hb hu=>(B2 s.heap (Obj.mapSeq f) (Ne.symm hb)).trans hu) ⟨_,q⟩ ?_
 exact⟨hz,its',_,hv,q⟩
theorem Inv.lnew (I:Inv X pins σ H s)(hv:D3 ys its)(hz:ys.length<=d7) :
  Inv X pins σ (upd H s.heap.objs.size (.lst ys)) { s with heap:=s.heap.push { cls:=.type "list",data:=.seq its.toArray },toks:=t' } :=
 I.laid (fun _ _ q=>c8 _ q) (d6 _) ⟨hz,its,0,hv,m9 _ rfl⟩
theorem Inv.fresh (I:Inv X pins σ H s):H s.heap.objs.size=none:=I.hok.fresh (d6 _)
theorem Inv.lstM (I:Inv X pins σ H s)(hH:H l=some (.lst xs)):xs.length<=d7/\∃ (its:List Value) (n:Nat),D3 xs its/\xs.length=its.length/\s.heap.get? l=some { cls:=.type "list",data:=.seq its.toArray n }:=by
 obtain⟨z,its,n,r,e⟩:=I.hok l _ hH
 exact⟨z,its,n,r,r.length,e⟩
theorem bu8 (h:n<=d7):Builtin.List.listTooLong n=false:=by
 unfold Builtin.List.listTooLong
 exact decide_eq_false (by omega)
end
def bD5:V->List V->Hp->VK->Prop:=fun x vs H Q=>∃ l xs y,x=.ref l/\vs=[y]/\H l=some (.lst xs)/\xs.length<d7/\Q .non (upd H l (.lst (xs++[y])))
theorem L7:MtM X "list.append" bD5:=by
 intro pins s σ H x vs v us Q I rx rv h
 obtain⟨l,xs,y,rfl,rfl,hH,hz,q⟩:=h
 cases rx
 obtain⟨u,rfl,ru⟩:=rv.one
 obtain⟨z,its,n,r,hl,e⟩:=I.lstM hH
 refine am8 F.slot_list_append ⟨_,e,rfl⟩ F.entry_list_append (F.args_list_append_2 _ _) (PySem.list_append l its.toArray n u (by rw[d9];omega)) ⟨e,?_⟩
 refine⟨.non,_,I.lset (its':=its++[u]) hH e (by simp) (r.append (.cons ru .nil)) ?_,rfl,q⟩
 rw[m5,O7]
 omega
def bP7:V->List V->Hp->VK->Prop:=fun x vs H Q=>∃ l xs i k y,x=.ref l/\vs=[.int i]/\H l=some (.lst xs) /\ -(2 ^ 63)<=i/\i<2 ^ 63/\seqIndex? i xs.length=some k/\xs[k]?=some y/\Q y (upd H l (.lst (xs.eraseIdx k)))
theorem aU0:MtM X "list.pop" bP7:=by
 intro pins s σ H x vs v us Q I rx rv h
 obtain⟨l,xs,i,k,y,rfl,rfl,hH,h1,h2,hk,hy,q⟩:=h
 cases rx
 obtain⟨u,rfl,ru⟩:=rv.one
 obtain⟨t,rfl⟩:=ru
 obtain⟨z,its,n,r,hl,e⟩:=I.lstM hH
 obtain⟨w,hw,rw'⟩:=r.get hy
 refine am8 F.slot_list_pop ⟨_,e,rfl⟩ F.entry_list_pop (F.args_list_pop_2 _ _)
  (MeetsSeq.list_pop_at l its.toArray n i t k w (bo5 h1 h2) (by rw[d9,<- hl];exact hk) (by rw[<- i9];exact hw) (by rw[d9];omega)) ⟨e,?_⟩
 refine⟨y,_,I.lset (its':=its.eraseIdx k) hH e ?_ (r.eraseIdx k) ?_,rw',q⟩
 ·show its.toArray.eraseIdxIfInBounds k=(its.eraseIdx k).toArray
  rw[List.eraseIdxIfInBounds_toArray]
 ·have:=aI3 xs k
  omega
def bs3:V->List V->Hp->VK->Prop:=fun x vs H Q=>∃ l xs,x=.ref l/\vs=[]/\H l=some (.lst xs)/\Q .non (upd H l (.lst xs.reverse))
theorem aZ8:MtM X "list.reverse" bs3:=by
 intro pins s σ H x vs v us Q I rx rv h
 obtain⟨l,xs,rfl,rfl,hH,q⟩:=h
 cases rx
 have hus:=rv.zero
 subst hus
 obtain⟨z,its,n,r,hl,e⟩:=I.lstM hH
 refine am8 F.slot_list_reverse ⟨_,e,rfl⟩ F.entry_list_reverse (F.args_list_reverse_1 _) (AutoSeq1.list_reverse_list_0 l its.toArray n (by rw[d9];omega)) ⟨e,?_⟩
 refine⟨.non,_,I.lset (its':=its.reverse) hH e (by simp) r.reverse ?_,rfl,q⟩
 rw[ae6]
 omega
def cg2:R2:=fun x y H Q=>∃ l b xs zs,x=.ref l/\y=.ref b/\H l=some (.lst xs)/\H b=some (.lst zs)/\xs.length+zs.length<=d7/\∀ p,H p=none->Q (.ref p) (upd H p (.lst (xs++zs)))
theorem aZ7:OpR X (af2 .Add) cg2:=by
 intro pins s σ H x y v u Q I rx ry h
 obtain⟨l,b,xs,zs,rfl,rfl,hH,hB,hz,q⟩:=h
 cases rx
 cases ry
 obtain⟨z,its,n,r,hl,e⟩:=I.lstM hH
 obtain⟨z2,its2,n2,r2,hl2,e2⟩:=I.lstM hB
 refine PySem.P.add_list e e2 ?_ (by rw[d9,d9];omega)
 have ea:its.toArray++its2.toArray=(its++its2).toArray:=by simp
 rw[ea]
 exact⟨.ref _,_,I.lnew (t':=s.toks) (r.append r2) (by rw[m5];omega),rfl,q _ I.fresh⟩
def cg0:R2:=fun x y H Q=>∃ l k xs,x=.ref l/\y=.int k/\H l=some (.lst xs) /\ -(2 ^ 63)<=k/\k<2 ^ 63/\xs.length*k.toNat<=d7 /\
 ∀ p,H p=none->Q (.ref p) (upd H p (.lst (o9 k.toNat xs).flatten))
theorem len_rep {α:Type}(xs:List α)(k:Nat):(o9 k xs).flatten.length=k*xs.length:=by
 induction k with
 | zero=>simp
 | succ k ih=>rw[J3,N3,m5,ih,Nat.succ_mul,Nat.add_comm]
theorem aC2:OpR X (af2 .Mult) cg0:=by
 intro pins s σ H x y v u Q I rx ry h
 obtain⟨l,k,xs,rfl,rfl,hH,h1,h2,hz,q⟩:=h
 cases rx
 obtain⟨t,rfl⟩:=ry
 obtain⟨z,its,n,r,hl,e⟩:=I.lstM hH
 have hlen:its.toArray.size*k.toNat<=d7:=by rw[d9,<- hl];exact hz
 have hcap:¬ its.toArray.size*k.toNat > (2 ^ 63 - 1) / 8:=by
  have:(d7:Nat)<=(2 ^ 63 - 1) / 8:=by decide
  omega
 have hfit:¬ (!Builtin.List.listFitsIndex k)=true:=by
  rw[bo5 h1 h2]
  exact j9
 have hlong:¬ Builtin.List.listTooLong (its.toArray.size*k.toNat)=true:=by
  rw[bu8 hlen]
  exact j9
 have hnew:ad3 (fun x1 x2=>x1++x2) #[] (o9 (if its.toArray.isEmpty=true then 0 else k.toNat) its.toArray)=(o9 k.toNat its).flatten.toArray:=by
  have f0:∀ m:Nat,ad3 (fun x1 x2=>x1++x2) #[] (o9 m its.toArray)=(o9 m its).flatten.toArray:=fun m=>by
   have:=foldl_rep its m []
   rw[S9]at this
   exact this
  rw[f0]
  cases its with
  | nil=>simp
  | cons a r'=>rw[if_neg (by simp)]
 refine wpAny_binaryOp_repeat_ref (T:="list") (U:="int") (by decide) ⟨_,e,rfl⟩ (fun s'=>typeIs_int s' k t) noFill_list_mul F.fills_int_mul F.slot_int_rmul repeat_list F.slot_int_index.lookup
  (am8 F.slot_int_rmul (typeIs_int s k t) F.entry_int_rmul (F.args_int_rmul_2 _ _) (int___rmul___int_list k t l its.toArray n)
   ⟨e,rfl,⟨_,e,rfl⟩,am8 F.slot_list_mul ⟨_,e,rfl⟩ F.entry_list_mul (F.args_list_mul_2 _ _) (AutoListH.list___mul___list_int_3 l its.toArray n k t hfit hcap hlong) ⟨e,?_⟩⟩)
 rw[hnew]
 exact⟨.ref _,_,I.lnew (t':=s.toks) (r.rep k.toNat) (by rw[len_rep,Nat.mul_comm];exact hz),rfl,q _ I.fresh⟩
end L2
namespace Att
open PySem PySem.W PySem.Calls PyProof.Rows
theorem ax1 {P:Params}:∀ (ns:List Int) (vs:List Value),WellAll P h vs (ns.map WData.int)->R8 vs ns:=by
 intro ns
 induction ns with
 | nil =>
  intro vs w
  rw[List.map_nil]at w
  cases w
  exact .nil
 | cons n ns ih =>
  intro vs w
  rw[x8]at w
  cases w with
  | cons a b =>
   cases a
   exact .cons _ _ (ih _ b)
theorem bj1 {l:OpenLaw}(hn:l.most=some n){P:Params}{args:List WData}{vals:List Value}
  (hpre:l.row.toRowW.claim.pre args=true)(hwl:WellAll P h vals args) :
  ∃ a vs ns,vals=[Value.ref a]/\args=[WData.list (ns.map WData.int)]/\h.get? a=some { cls:=.type "list",data:=.seq vs.toArray }/\R8 vs ns/\ns.length<=n:=by
 have hsh:WShape.hasAll [] args [.list .int]=true:=(pre_splitW hpre).1
 have hc:l.pre.holds [] { args:=args }=true:=(pre_splitW hpre).2
 obtain⟨d,r,rfl,h1,h2⟩:=hasAllW_cons hsh
 obtain rfl:=hasAllW_nil h2
 obtain⟨xs,rfl,h3⟩:=hasW_list h1
 obtain⟨ns,rfl⟩:=items_int h3
 have hlen:ns.length<=n:=by
  unfold OpenLaw.pre at hc
  have h4:(WTm.not (.lt (.lit (.int (n:Int))) (.len (.arg 0)))).holds [] { args:=[.list (ns.map .int)] }=true:=by
   have h4:=(holds_andW hc).1
   rw[hn]at h4
   exact h4
  have h5:=condW_of h4 (w_not (w_lt w_lit (w_len_list (w_arg rfl))))
  rw[b9]at h5
  refine Nat.le_of_not_lt fun q=>?_
  have q':(n:Int)<((ns.length:Nat):Int):=by omega
  first
   | (rw[decide_eq_true q']at h5;exact absurd h5 (by decide))
   | (simp at h5;omega)
 cases hwl with
 | cons w1 w2 =>
  cases w2
  cases w1 with
  | list ho hall=>exact⟨_,_,ns,rfl,rfl,ho,ax1 ns _ hall,hlen⟩
theorem bj8 (l:OpenLaw)(args:List WData):l.row.toRowW.claim.post args (.bool true) args=true:=
 postW_of (r:=l.row.toRowW) (X:=(true == true))
  (show WShape.has [] (.bool true) .bool=true by first | rfl | decide | simp[WShape.has,WShape.arms,WShape.armsAll])
  (show (WTm.eq .res (.lit (.bool true))).value [] { args:=args,res:=some (.bool true),after:=args }=some (.bool (true == true)) from w_eq_bool (w_res rfl) w_lit) rfl
theorem attach_call {l:OpenLaw} {q:Program} {loose:List Str} {d:DefRec}
  (hn:l.most=some n) (hdf:d.params.defaults=[])
  (call : ∀ (w : World) (s₀ s₁ : Shared) (mg mb : Str -> Option Value) (fa : Addr) (o : Obj) (pm cd doc : Value) (a : Addr) (vs : List Value) (ns : List Int),
   Ground q loose [] XP w s₀ mg mb s₁.heap->YP w s₁.heap ->
   s₁.heap.get? fa=some o->o.data=.func (docDef d.name d.params d.body d.scope pm cd doc)->s₁.heap.CodeRec cd d.name->mg d.name=some (.ref fa) ->
   s₁.heap.get? a=some { cls:=.type "list",data:=.seq vs.toArray }->R8 vs ns->ns.length<=n->s₁.gens=#[] ->
   al6 (u7 l.prog w) bh5 (.call (.ref fa) ⟨[.ref a],[]⟩) (fun r s'=>r=.ok (.ret (.bool true))/\OldK s₁.heap s'.heap/\s'.os=s₁.os/\ap1 s'.gens) s₁) :
  WalkO q loose XP YP l.row.toRowW d [] (fun f vs=>PySem.call f vs):=by
 intro w s₀ s₁ mg mb G Y fa o pm cd doc dV kV ho hd hcd hD hmg hg args vals as hpre hlay hrd hwl hlo
 obtain rfl:dV=.none:=Dflts.none hD hdf
 obtain rfl:kV=.none:=Dflts.noKw hD
 obtain⟨a,vs,ns,rfl,rfl,hobj,hints,hlen⟩:=bj1 hn hpre hwl
 refine enter_call (U8 (call w s₀ s₁ mg mb fa o pm cd doc a vs ns G Y ho (fd_plain hd) hcd hmg hobj hints hlen hg) fun r s' hq=>?_)
 obtain⟨rfl,h2,h3,h4⟩:=hq
 exact⟨.inl ⟨.bool true,.bool true,[],rfl,fun _=>rfl,.bool true,bj8 l _,fun _=>⟨List.Pairwise.nil,fun _ hm=>(nomatch hm)⟩⟩,h2,h3,h4⟩
section
variable {K:Frag}
end
end Att
namespace L2
open PySem PySem.Spec PyProof.Rows
theorem ak1:∀ {vs:List Value} {ns:List Int},R8 vs ns->D3 (ns.map V.int) vs
 | _,_,.nil=>.nil
 | _,_,.cons n t h=>.cons ⟨t,rfl⟩ (ak1 h)
end L2
namespace L2
open PySem PySem.Spec PyProof.Rows
def al0 (s:Stmt):aK1:=match s with
 | .FunctionDef _ a _ _ _ _ _ _ _ _=>a
 | _=>{ posonlyargs:=[],args:=[],vararg:=none,kwonlyargs:=[],kw_defaults:=[],kwarg:=none,defaults:=[] }
def V5 (s:Stmt):List Stmt:=match s with
 | .FunctionDef _ _ b _ _ _ _ _ _ _=>b
 | _=>[]
def p9 (s:Stmt):Scope:=match s with
 | .FunctionDef _ _ _ _ _ _ sc _ _ _=>sc
 | _=>{ kind:=.function,names:=[],isGenerator:=false,isCoroutine:=false }
abbrev CX0:CXT:=fun _ _ _ _ _ _=>False
abbrev E0:XK:=fun _ _ _=>False
theorem K3:ao8 CX0 X E0:=fun _ _ _ _ _ _ _ h=>h.elim
structure Fun (K:W.Frag) (x qual:Str) (st:Stmt) (f:Addr) (fd:FuncData):Prop where
 ex:∃ (oc:Value) (od:Option Addr) (kV doc pm:Value) (an:Option Addr) (cdv ct:Value) (osl:Array (Option Value)),
  fd=W0 x qual (al0 st) (V5 st) (p9 st) .none kV doc pm an cdv ct/\K.lookup f=some ⟨oc,od,.func fd,osl⟩/\aP7 K cdv qual=true
 kp:Q7 K (.ref f)=true
section
variable {K:W.Frag} {mg:Str->Option Value} {base:Heap}
theorem Fun.ok {st:Stmt} {k:Nat} {sp:Sp} (F:Fun K x qual st f fd) (S:B6 N ps (p9 st))
  (hbody : ∀ (cdv : Value) (A : Around) (outer : List Env) (s : Shared) (H : Hp) (vs : List V) (Q : VK) (E : XK), X9 k (A.deeper (K5 qual (p9 st) s.heap.objs.size f cdv)) -> sp vs H Q E ->
   ∃ t,PSs (ab0 CX0 P w K mg base N qual (p9 st) f cdv A outer s H E).nox (V5 st) t/\t { nx:=fun _ H'=>Q .non H',rt:=Q } (start N vs) H) (len:∀ vs H Q E,sp vs H Q E->vs.length=ps.length:=by intro _ _ _ _ h;repeat first | (obtain⟨rfl,_⟩:=h;rfl) | obtain⟨_,h⟩:=h):A4 P w K mg base CX0 (k+1) f fd ps sp:=by
 obtain⟨oc,od,kV,doc,pm,an,cdv,ct,osl,rfl,lk,hcd⟩:=F.ex
 refine bw5 lk hcd S len fun A outer s H vs Q E hr hsp=>?_
 obtain⟨t,h,q⟩:=hbody cdv A outer s H vs Q E hr hsp
 exact⟨t,h.nox,q⟩
theorem Fun.binds {st:Stmt}(F:Fun K x qual st f fd)
  (h:∀ (kV doc pm:Value) (an:Option Addr) (cdv ct:Value) (us:List Value),us.length=ps.length->bindArgs (W0 x qual (al0 st) (V5 st) (p9 st) .none kV doc pm an cdv ct) ⟨us,[]⟩=pure (ps.zip us)):Binds K fd ps []:=by
 obtain⟨oc,od,kV,doc,pm,an,cdv,ct,osl,rfl,lk,hcd⟩:=F.ex
 exact .all (h kV doc pm an cdv ct)
theorem fun_mk {st:Stmt}{oc:Value}{od an:Option Addr}{osl:Array (Option Value)}{kV doc pm cdv ct:Value}(l:K.lookup f=some ⟨oc,od,.func (W0 x qual (al0 st) (V5 st) (p9 st) .none kV doc pm an cdv ct),osl⟩)
  (c:aP7 K cdv qual=true)(k:Q7 K (.ref f)=true):Fun K x qual st f (W0 x qual (al0 st) (V5 st) (p9 st) .none kV doc pm an cdv ct):=⟨⟨oc,od,kV,doc,pm,an,cdv,ct,osl,rfl,l,c⟩,k⟩
structure Fq (K:W.Frag) (mg:Str->Option Value) (x:Str) (st:Stmt) (f:Addr) (fd:FuncData) (ps:List Str):Prop where
 F:Fun K x x st f fd
 b:Binds K fd ps []
 m:mg x=some (.ref f)
theorem F2 {CX:CXT}{k:Nat}{sp:Sp}{t:TA}{E:XK}{st:Stmt}(F:A4 X.prog X.w X.K X.mg X.base CX k f fd ps sp)(hr:X9 k X.A)(hg:Gl X x)(q:Fq X.K X.mg x st f fd ps)(hx:ao8 CX X E)
  (ha:PA X (e::es) t)(hdb:(x == ("__debug__":Str))=false:=by decide)(he:u4 (e::es) X.env=(false,eval e X.env)::u4 es X.env:=by rfl)(hpl:(O9 pos (u4 es X.env)).any (·.1)=false:=by rfl) :
  PE X (.Call (.Name x p) (e::es) [] pos) (bJ7 sp [] E t):=az0 F hr hg q.m q.F.kp q.b .nil hx ha hdb he hpl
end
theorem pv (i:Nat)(hN:X.N[i]?=some x:=by rfl)(hv:Vis X.env.scope x:=by first | exact Or.inl rfl | exact Or.inr (Or.inl rfl) | exact Or.inr (Or.inr rfl))(hd:(x == ("__debug__":Str))=false:=by decide)
  (hcd:(x == ("__classdict__":Str))=false:=by decide):PE X (.Name x pos) (bY4 i):=bt0 hN hv hd hcd
theorem J2 {A B:Prop}(h:B):if false=true then A else B:=by
 rw[if_neg j9]
 exact h
theorem J4 {A B:Prop}(h:A):if true=true then A else B:=by
 rw[if_pos rfl]
 exact h
theorem aa9 {c A B:Prop}[Decidable c](h1:c->A)(h2:¬ c->B):if c then A else B:=by
 by_cases h:c
 ·rw[if_pos h]
  exact h1 h
 ·rw[if_neg h]
  exact h2 h
theorem aV1 {c A B:Prop}[Decidable c](hc:c)(h:B):if (!decide c)=true then A else B:=by
 rw[decide_eq_true hc]
 exact J2 h
def B3 (H H':Hp):Prop:=∀ b o,H b=some o->H' b=some o
theorem B3.refl (H:Hp):B3 H H:=fun _ _ h=>h
theorem B3.trans {H1 H2:Hp}(a:B3 H H1)(b:B3 H1 H2):B3 H H2:=fun c o h=>b c o (a c o h)
theorem B3.free (e:B3 H H'){l:Addr}(h:H' l=Option.none):H l=Option.none:=by
 cases q:H l with
 | none=>rfl
 | some o =>
  rw[e l o q]at h
  cases h
theorem B3.seq {K:W.Frag}(e:B3 H H')(h:SqL K H a xs):SqL K H' a xs:=by
 rcases h with(h | ⟨o,h⟩) | h
 ·exact .inl (.inl (e _ _ h))
 ·exact .inl (.inr ⟨o,e _ _ h⟩)
 ·exact .inr h
end L2
namespace Tim
open PySem PyProof.Rows
def Z8:Bool->Keyed->Array Keyed->Nat->Nat->Nat->StateT SortSt Sem (Option Nat):=sortPriv% PySem.Builtin.gallop
def Q3:Nat->StateT SortSt Sem Unit:=sortPriv% PySem.Builtin.setMinGallop
def aC7:Array Keyed->Array Keyed->StateT SortSt Sem (Array Keyed):=sortPriv% PySem.Builtin.mergeLo
def aC8:Array Keyed->Array Keyed->StateT SortSt Sem (Array Keyed):=sortPriv% PySem.Builtin.mergeHi
def af9 (left:Bool)(key:Keyed)(arr:Array Keyed)(base:Nat)(i:Nat):StateT SortSt Sem (Option Bool):=do
 let x <- ah7 arr (base+i)
 if left then lt' x key else return (<- lt' key x).map (!·)
theorem ba7 (left:Bool)(key:Keyed)(arr:Array Keyed)(base n hint:Nat):Z8 left key arr base n hint=(do
 let mut lastofs:=0
 let mut ofs:=1
 let mut lo:=0
 let mut hi:=0
 let some right <- af9 left key arr base hint | return none
 if right then
  let maxofs:=n - hint
  for _ in [0:n] do
   if ofs≥maxofs then break
   let some more <- af9 left key arr base (hint+ofs) | return none
   if !more then break
   lastofs:=ofs
   ofs:=2*ofs+1
  lo:=hint+lastofs+1
  hi:=hint+min ofs maxofs
 else
  let maxofs:=hint+1
  for _ in [0:n] do
   if ofs≥maxofs then break
   let some found <- af9 left key arr base (hint - ofs) | return none
   if found then break
   lastofs:=ofs
   ofs:=2*ofs+1
  lo:=hint+1 - min ofs maxofs
  hi:=hint - lastofs
 for _ in [0:n] do
  if lo≥hi then break
  let m:=lo+(hi - lo) / 2
  let some more <- af9 left key arr base m | return none
  if more then lo:=m+1 else hi:=m
 return some hi):=rfl
theorem at5 (g:Nat):Q3 g=modify (fun s=>SortSt.mk' (kindOf s) (o8 s) (D5 s) g (S0 s)):=rfl
structure Ord (B:Keyed->Keyed->Bool):Prop where
 irr:∀ x,B x x=false
 tr:∀ x y z,B x y=true->B y z=true->B x z=true
 ng:∀ x y z,B x z=true->B x y=true\/B y z=true
def le (B:Keyed->Keyed->Bool)(x y:Keyed):Prop:=B y x=false
theorem Ord.rf (o:Ord B)(x:Keyed):le B x x:=o.irr x
theorem Ord.of_lt (o:Ord B){x y:Keyed}(h:B x y=true):le B x y:=by
 unfold le
 cases e:B y x with
 | false=>rfl
 | true =>
  have:=o.tr _ _ _ h e
  rw[o.irr]at this
  cases this
theorem Ord.trans (o:Ord B){x y z:Keyed}(h1:le B x y)(h2:le B y z):le B x z:=by
 unfold le at *
 cases e:B z x with
 | false=>rfl
 | true =>
  rcases o.ng _ y _ e with h | h
  ·rw[h2]at h;cases h
  ·rw[h1]at h;cases h
theorem Ord.lt_le (o:Ord B){x y z:Keyed}(h1:B x y=true)(h2:le B y z):B x z=true:=by
 unfold le at h2
 rcases o.ng _ z _ h1 with h | h
 ·exact h
 ·rw[h2]at h;cases h
theorem Ord.le_lt (o:Ord B){x y z:Keyed}(h1:le B x y)(h2:B y z=true):B x z=true:=by
 unfold le at h1
 rcases o.ng _ x _ h2 with h | h
 ·rw[h1]at h;cases h
 ·exact h
section
variable {S:Keyed->Prop}
def Cmp (prog:Program)(w:World)(A:Around)(E:Value->Shared->Prop)(s:Shared)(κ:SortKind)(S:Keyed->Prop)(B:Keyed->Keyed->Bool):Prop:=
 ∀ (x y:Keyed),S x->S y->∀ (Q:Bool->Shared->Prop),Q (B x y) s->q8 (u7 prog w) A (keyLt' κ x.1 y.1) Q (fun _ _=>False) s
theorem aA2 (C:Cmp prog w A E s κ S B){x y:Keyed}{st:SortSt}{Q:Option Bool->SortSt->Prop}(hk:kindOf st=κ)(hx:S x)(hy:S y)(h:Q (some (B x y)) st):wpS (u7 prog w) A E s (lt' x y) Q st:=by
 rw[lt'_eq]
 refine k9 (aw6 ?_)
 rw[hk]
 refine k9 (wpS_lift (bA6 ?_))
 refine E5 (C x y hx hy (fun b s'=>s'=s/\b=B x y) ⟨rfl,rfl⟩) (fun b s' hb=>?_) (fun _ _ f=>f.elim)
 obtain⟨rfl,rfl⟩:=hb
 exact⟨rfl,o5 h⟩
theorem F4 {arr:Array Keyed}{x:Keyed}{st:SortSt}{Q:Keyed->SortSt->Prop}(hi:arr[i]?=some x)(h:Q x st):wpS (u7 prog w) A E s (ah7 arr i) Q st:=by
 rw[elem'_eq,hi]
 exact o5 h
theorem bi4 (C:Cmp prog w A E s κ S B){x y:Keyed}{st:SortSt}{Q:Option Bool->SortSt->Prop}(hk:kindOf st=κ)(hi:(o8 st)[i]?=some x)(hj:(o8 st)[j]?=some y)(hx:S x)(hy:S y)(h:Q (some (B x y)) st) :
  wpS (u7 prog w) A E s (ltAt' i j) Q st:=by
 rw[ltAt'_eq]
 refine k9 (aw6 ?_)
 show wpS _ _ _ _ (do let x <- ah7 (o8 st) i;let y <- ah7 (o8 st) j;lt' x y) Q st
 exact k9 (F4 hi (k9 (F4 hj (aA2 C hk hx hy h))))
theorem ad4 {n:String}{st:SortSt}{Q:Unit->SortSt->Prop}(h:Q () st):wpS (u7 prog w) A E s (liftM (rule n):StateT SortSt Sem Unit) Q st:=wpS_lift (ay1 ⟨rfl,h⟩)
def byn (B:Keyed->Keyed->Bool)(left:Bool)(key x:Keyed):Bool:=if left=true then B x key else !B key x
theorem aY0 (C:Cmp prog w A E s κ S B){left:Bool}{key x:Keyed}{arr:Array Keyed}{base:Nat}{st:SortSt}{Q:Option Bool->SortSt->Prop}(hk:kindOf st=κ)(hi:arr[base+i]?=some x)(hx:S x)(hy:S key)
  (h:Q (some (byn B left key x)) st):wpS (u7 prog w) A E s (af9 left key arr base i) Q st:=by
 unfold af9
 refine k9 (F4 hi ?_)
 cases left with
 | true=>exact aA2 C hk hx hy h
 | false=>exact k9 (aA2 C hk hy hx (o5 h))
theorem aH0 {st:SortSt} {Q:Option Nat->SortSt->Prop} (P:Nat->Bool) {f:Nat->Option (Option Nat) × Nat × Nat->StateT SortSt Sem (ForInStep (Option (Option Nat) × Nat × Nat))} {k:Option (Option Nat) × Nat × Nat->StateT SortSt Sem (Option Nat)}
  (mono:∀ i j,i<=j->j<n->P j=true->P i=true)
  (hf : ∀ x lo hi (R : ForInStep (Option (Option Nat) × Nat × Nat) -> SortSt -> Prop), hi <= n -> (hi <= lo -> R (.done (none, lo, hi)) st) -> (lo < hi -> P (lo + (hi - lo) / 2) = true -> R (.yield (none, lo + (hi - lo) / 2 + 1, hi)) st) ->
   (lo<hi->P (lo+(hi - lo) / 2)=false->R (.yield (none,lo,lo+(hi - lo) / 2)) st)->wpS (u7 prog w) A E s (f x (none,lo,hi)) R st)
  (hk:∀ lo hi (R:Option Nat->SortSt->Prop),R (some hi) st->wpS (u7 prog w) A E s (k (none,lo,hi)) R st)
  (h:∀ k,k<=n->(∀ i,i<k->P i=true)->(∀ i,k<=i->i<n->P i=false)->Q (some k) st) {lo hi:Nat}
  (h1:lo<=hi) (h2:hi<=n) (h3:∀ i,i<lo->P i=true) (h4:∀ i,hi<=i->i<n->P i=false) :
  wpS (u7 prog w) A E s (forIn [:n] ((none,lo,hi):Option (Option Nat) × Nat × Nat) f >>= k) Q st:=by
 have anti:∀ i j,i<=j->j<n->P i=false->P j=false:=fun i j h1 h2 h3=>by
  cases e:P j with
  | false=>rfl
  | true=>rw[mono i j h1 h2 e]at h3;cases h3
 refine k9 (X1 (G7 (I:=fun x c st'=>st'=st/\∃ lo hi,c=(none,lo,hi)/\lo<=hi/\hi<=n/\hi - lo<=n - x/\(∀ i,i<lo->P i=true)/\(∀ i,hi<=i->i<n->P i=false))
  (Q:=fun c st'=>st'=st/\∃ k,c=(none,k,k)/\k<=n/\(∀ i,i<k->P i=true)/\(∀ i,k<=i->i<n->P i=false)) ?step ?fin ⟨rfl,lo,hi,rfl,h1,h2,by omega,h3,h4⟩) ?post)
 case fin =>
  rintro c st' ⟨rfl,lo,hi,rfl,h1,h2,hm,h3,h4⟩
  have:lo=hi:=by omega
  subst this
  exact⟨rfl,lo,rfl,h2,h3,h4⟩
 case post =>
  rintro c st' ⟨rfl,k,rfl,h2,h3,h4⟩
  exact hk _ _ _ (h k h2 h3 h4)
 case step =>
  rintro x c st' _ hx ⟨rfl,lo,hi,rfl,h1,h2,hm,h3,h4⟩
  refine hf x lo hi _ h2 (fun hge=>?_) (fun hlt e=>?_) (fun hlt e=>?_)
  ·have:lo=hi:=by omega
   subst this
   exact⟨rfl,lo,rfl,h2,h3,h4⟩
  ·exact⟨rfl,_,hi,rfl,by omega,h2,by omega,fun i hi'=>mono i _ (by omega) (by omega) e,h4⟩
  ·exact⟨rfl,lo,_,rfl,by omega,by omega,by omega,h3,fun i h5 h6=>anti _ i h5 h6 e⟩
theorem aK4 {left:Bool} {key:Keyed} {arr:Array Keyed} {base hint:Nat} {st:SortSt} {Q:Option Nat->SortSt->Prop} (P:Nat->Bool)
  (hP:∀ i,i<n->∀ R:Option Bool->SortSt->Prop,R (some (P i)) st->wpS (u7 prog w) A E s (af9 left key arr base i) R st)
  (mono:∀ i j,i<=j->j<n->P j=true->P i=true) (hh:hint<n)
  (h:∀ k,k<=n->(∀ i,i<k->P i=true)->(∀ i,k<=i->i<n->P i=false)->Q (some k) st) :
  wpS (u7 prog w) A E s (Z8 left key arr base n hint) Q st:=by
 have anti:∀ i j,i<=j->j<n->P i=false->P j=false:=fun i j h1 h2 h3=>by
  cases e:P j with
  | false=>rfl
  | true=>rw[mono i j h1 h2 e]at h3;cases h3
 rw[ba7]
 dsimp only
 refine k9 (hP hint hh _ ?_)
 cases e0:P hint with
 | true =>
  dsimp only
  rw[if_pos rfl]
  refine k9 (X1 (G7 (I:=fun x c st'=>st'=st/\∃ l o,c=(none,l,o)/\l<o/\x+1<=o/\hint+l<n/\P (hint+l)=true)
   (Q:=fun c st'=>st'=st/\∃ l o,c=(none,l,o)/\l<o/\hint+l<n/\P (hint+l)=true/\(n - hint<=o\/(hint+o<n/\P (hint+o)=false))) ?step ?fin ⟨rfl,0,1,rfl,by omega,by omega,by omega,e0⟩) ?post)
  case fin =>
   rintro c st' ⟨rfl,l,o,rfl,h1,h2,h3,h4⟩
   exact⟨rfl,l,o,rfl,h1,h3,h4,.inl (by omega)⟩
  case post =>
   rintro c st' ⟨rfl,l,o,rfl,h1,h3,h4,h5⟩
   dsimp only
   refine aH0 P mono
    (fun x lo hi R hn a b c => by
     dsimp only
     by_cases hge:lo≥hi
     ·rw[if_pos hge]
      exact o5 (a hge)
     ·rw[if_neg hge]
      refine k9 (hP _ (by omega) _ ?_)
      cases e:P (lo+(hi - lo) / 2) with
      | true =>
       dsimp only
       rw[if_pos rfl]
       exact o5 (b (by omega) e)
      | false =>
       dsimp only
       rw[if_neg j9]
       exact o5 (c (by omega) e)) (fun lo hi R hR=>o5 hR) h (lo:=hint+l+1) (hi:=hint+min o (n - hint)) (by omega) (by omega) (fun i hi=>mono i _ (by omega) h3 h4) (fun i h6 h7=>?_)
   rcases h5 with h5 | ⟨h5,h8⟩
   ·omega
   ·exact anti _ i (by omega) h7 h8
  case step =>
   rintro x c st' _ hx ⟨rfl,l,o,rfl,h1,h2,h3,h4⟩
   dsimp only
   by_cases hge:o≥n - hint
   ·rw[if_pos hge]
    exact o5 ⟨rfl,l,o,rfl,h1,h3,h4,.inl hge⟩
   ·rw[if_neg hge]
    refine k9 (hP _ (by omega) _ ?_)
    cases e:P (hint+o) with
    | true =>
     dsimp only
     rw[if_neg (by simp)]
     exact o5 ⟨rfl,o,2*o+1,rfl,by omega,by omega,by omega,e⟩
    | false =>
     dsimp only
     rw[if_pos (by simp)]
     exact o5 ⟨rfl,l,o,rfl,h1,h3,h4,.inr ⟨by omega,e⟩⟩
 | false =>
  dsimp only
  rw[if_neg j9]
  refine k9 (X1 (G7 (I:=fun x c st'=>st'=st/\∃ l o,c=(none,l,o)/\l<o/\x+1<=o/\l<=hint/\P (hint - l)=false)
   (Q:=fun c st'=>st'=st/\∃ l o,c=(none,l,o)/\l<o/\l<=hint/\P (hint - l)=false/\(hint+1<=o\/(o<=hint/\P (hint - o)=true))) ?step ?fin ⟨rfl,0,1,rfl,by omega,by omega,by omega,e0⟩) ?post)
  case fin =>
   rintro c st' ⟨rfl,l,o,rfl,h1,h2,h3,h4⟩
   exact⟨rfl,l,o,rfl,h1,h3,h4,.inl (by omega)⟩
  case post =>
   rintro c st' ⟨rfl,l,o,rfl,h1,h3,h4,h5⟩
   dsimp only
   refine aH0 P mono
    (fun x lo hi R hn a b c => by
     dsimp only
     by_cases hge:lo≥hi
     ·rw[if_pos hge]
      exact o5 (a hge)
     ·rw[if_neg hge]
      refine k9 (hP _ (by omega) _ ?_)
      cases e:P (lo+(hi - lo) / 2) with
      | true =>
       dsimp only
       rw[if_pos rfl]
       exact o5 (b (by omega) e)
      | false =>
       dsimp only
       rw[if_neg j9]
       exact o5 (c (by omega) e)) (fun lo hi R hR=>o5 hR) h (lo:=hint+1 - min o (hint+1)) (hi:=hint - l) (by omega) (by omega) (fun i hi=>?_) (fun i h6 h7=>anti _ i h6 h7 h4)
   rcases h5 with h5 | ⟨h5,h8⟩
   ·omega
   ·exact mono i _ (by omega) (by omega) h8
  case step =>
   rintro x c st' _ hx ⟨rfl,l,o,rfl,h1,h2,h3,h4⟩
   dsimp only
   by_cases hge:o≥hint+1
   ·rw[if_pos hge]
    exact o5 ⟨rfl,l,o,rfl,h1,h3,h4,.inl hge⟩
   ·rw[if_neg hge]
    refine k9 (hP _ (by omega) _ ?_)
    cases e:P (hint - o) with
    | true =>
     dsimp only
     rw[if_pos rfl]
     exact o5 ⟨rfl,l,o,rfl,h1,h3,h4,.inr ⟨by omega,e⟩⟩
    | false =>
     dsimp only
     rw[if_neg j9]
     exact o5 ⟨rfl,o,2*o+1,rfl,by omega,by omega,by omega,e⟩
theorem W6 (o:Ord B)(C:Cmp prog w A E s κ S B){left:Bool}{key:Keyed}{arr:Array Keyed}{base hint:Nat}{st:SortSt}{Q:Option Nat->SortSt->Prop}(hk:kindOf st=κ)(hkey:S key)(hb:base+n<=arr.size)
  (hS:∀ (i:Nat) (x:Keyed),i<n->arr[base+i]?=some x->S x)
  (hs:∀ (i j:Nat) (x y:Keyed),i<=j->j<n->arr[base+i]?=some x->arr[base+j]?=some y->le B x y)(hh:hint<n)
  (h:∀ k,k<=n->(∀ (i:Nat) (x:Keyed),i<k->arr[base+i]?=some x->byn B left key x=true)->(∀ (i:Nat) (x:Keyed),k<=i->i<n->arr[base+i]?=some x->byn B left key x=false)->Q (some k) st) :
  wpS (u7 prog w) A E s (Z8 left key arr base n hint) Q st:=by
 have ex:∀ i,i<n->∃ x,arr[base+i]?=some x:=fun i hi=>⟨arr[base+i]'(by omega),getElem?_pos arr _ (by omega)⟩
 have ev:∀ (i:Nat) (x:Keyed),arr[base+i]?=some x->((arr[base+i]?).getD key)=x:=fun i x e=>by rw[e];rfl
 refine aK4 (fun i=>byn B left key ((arr[base+i]?).getD key)) (fun i hi R hR=>?_) (fun i j hij hj hp=>?_) hh (fun k hk' h1 h2=>h k hk' (fun i x hi e=>?_) (fun i x h3 h4 e=>?_))
 ·obtain⟨x,e⟩:=ex i hi
  rw[ev i x e]at hR
  exact aY0 C hk e (hS i x hi e) hkey hR
 ·obtain⟨x,e⟩:=ex i (by omega)
  obtain⟨y,e'⟩:=ex j hj
  rw[ev j y e']at hp
  rw[ev i x e]
  have l:=hs i j x y hij hj e e'
  unfold byn at hp ⊢
  cases left with
  | true =>
   simp only[if_true]at hp ⊢
   exact o.le_lt l hp
  | false =>
   simp only[t7,if_false,bV8]at hp ⊢
   exact o.trans l hp
 ·have:=h1 i hi;rw[ev i x e]at this;exact this
 ·have:=h2 i h3 h4;rw[ev i x e]at this;exact this
end
theorem aU4 (a b:Array Keyed):aC7 a b=(do
 rule "list.sort.merge-lo"
 let total:=a.size+b.size
 let done (out:Array Keyed) (ia ib:Nat):=out++a.extract ia a.size++b.extract ib b.size
 let lastOfA (out:Array Keyed) (ia ib:Nat):=out++b.extract ib b.size++a.extract ia a.size
 let mut out:Array Keyed:=#[<- ah7 b 0]
 let mut ia:=0
 let mut ib:=1
 if ib == b.size then return done out ia ib
 if ia+1 == a.size then return lastOfA out ia ib
 let mut minGallop:=gallopOf (<- get)
 for _ in [0:total] do
  let mut acount:=0
  let mut bcount:=0
  for _ in [0:total] do
   let some bWins <- lt' (<- ah7 b ib) (<- ah7 a ia) | return done out ia ib
   if bWins then
    out:=out.push (<- ah7 b ib);ib:=ib+1;bcount:=bcount+1;acount:=0
    if ib == b.size then return done out ia ib
    if bcount≥minGallop then break
   else
    out:=out.push (<- ah7 a ia);ia:=ia+1;acount:=acount+1;bcount:=0
    if ia+1 == a.size then return lastOfA out ia ib
    if acount≥minGallop then break
  rule "list.sort.gallop"
  minGallop:=minGallop+1
  for _ in [0:total] do
   if minGallop > 1 then minGallop:=minGallop - 1
   Q3 minGallop
   let some k <- Z8 false (<- ah7 b ib) a ia (a.size - ia) 0 | return done out ia ib
   acount:=k
   if k > 0 then
    out:=out++a.extract ia (ia+k);ia:=ia+k
    if ia+1 == a.size then return lastOfA out ia ib
    if ia == a.size then return done out ia ib
   out:=out.push (<- ah7 b ib);ib:=ib+1
   if ib == b.size then return done out ia ib
   let some k <- Z8 true (<- ah7 a ia) b ib (b.size - ib) 0 | return done out ia ib
   bcount:=k
   if k > 0 then
    out:=out++b.extract ib (ib+k);ib:=ib+k
    if ib == b.size then return done out ia ib
   out:=out.push (<- ah7 a ia);ia:=ia+1
   if ia+1 == a.size then return lastOfA out ia ib
   if acount<7 && bcount<7 then break
  minGallop:=minGallop+1
  Q3 minGallop
 aF7 "internal:list.sort.merge-bound"):=rfl
theorem aU5 (a b:Array Keyed):aC8 a b=(do
 rule "list.sort.merge-hi"
 let total:=a.size+b.size
 let done (out:Array Keyed) (na nb:Nat):=a.extract 0 na++b.extract 0 nb++out.reverse
 let firstOfB (out:Array Keyed) (na nb:Nat):=b.extract 0 nb++a.extract 0 na++out.reverse
 let mut na:=a.size - 1
 let mut nb:=b.size
 let mut out:Array Keyed:=#[<- ah7 a na]
 if na == 0 then return done out na nb
 if nb == 1 then return firstOfB out na nb
 let mut minGallop:=gallopOf (<- get)
 for _ in [0:total] do
  let mut acount:=0
  let mut bcount:=0
  for _ in [0:total] do
   let some aWins <- lt' (<- ah7 b (nb - 1)) (<- ah7 a (na - 1)) | return done out na nb
   if aWins then
    na:=na - 1;out:=out.push (<- ah7 a na);acount:=acount+1;bcount:=0
    if na == 0 then return done out na nb
    if acount≥minGallop then break
   else
    nb:=nb - 1;out:=out.push (<- ah7 b nb);bcount:=bcount+1;acount:=0
    if nb == 1 then return firstOfB out na nb
    if bcount≥minGallop then break
  rule "list.sort.gallop"
  minGallop:=minGallop+1
  for _ in [0:total] do
   if minGallop > 1 then minGallop:=minGallop - 1
   Q3 minGallop
   let some at_ <- Z8 false (<- ah7 b (nb - 1)) a 0 na (na - 1) | return done out na nb
   let k:=na - at_
   acount:=k
   if k > 0 then
    out:=out++(a.extract at_ na).reverse;na:=at_
    if na == 0 then return done out na nb
   nb:=nb - 1;out:=out.push (<- ah7 b nb)
   if nb == 1 then return firstOfB out na nb
   let some at_ <- Z8 true (<- ah7 a (na - 1)) b 0 nb (nb - 1) | return done out na nb
   let k:=nb - at_
   bcount:=k
   if k > 0 then
    out:=out++(b.extract at_ nb).reverse;nb:=at_
    if nb == 1 then return firstOfB out na nb
    if nb == 0 then return done out na nb
   na:=na - 1;out:=out.push (<- ah7 a na)
   if na == 0 then return done out na nb
   if acount<7 && bcount<7 then break
  minGallop:=minGallop+1
  Q3 minGallop
 aF7 "internal:list.sort.merge-bound"):=rfl
structure MI (R:Keyed->Keyed->Prop) (out ra rb all:List Keyed):Prop where
 so:out.Pairwise R
 oa:∀ x∈out,∀ y∈ra,R x y
 ob:∀ x∈out,∀ y∈rb,R x y
 sa:ra.Pairwise R
 sb:rb.Pairwise R
 pm:(out++(ra++rb)).Perm all
theorem MI.blkA {blk all:List Keyed}(m:MI R out (blk++ra) rb all)(h:∀ x∈blk,∀ y∈rb,R x y):MI R (out++blk) ra rb all:=by
 obtain⟨s1,s2,s3⟩:=C2.mp m.sa
 refine⟨C2.mpr ⟨m.so,s1,fun x hx y hy=>m.oa x hx y (J8 _ hy)⟩,fun x hx y hy=>?_,fun x hx y hy=>?_,s2,m.sb,?_⟩
 ·rcases u9.mp hx with hx | hx
  ·exact m.oa x hx y (o4 _ hy)
  ·exact s3 x hx y hy
 ·rcases u9.mp hx with hx | hx
  ·exact m.ob x hx y hy
  ·exact h x hx y hy
 ·have:=m.pm
  simpa [E3] using this
theorem MI.blkB {blk all:List Keyed}(m:MI R out ra (blk++rb) all)(h:∀ x∈blk,∀ y∈ra,R x y):MI R (out++blk) ra rb all:=by
 obtain⟨s1,s2,s3⟩:=C2.mp m.sb
 refine⟨C2.mpr ⟨m.so,s1,fun x hx y hy=>m.ob x hx y (J8 _ hy)⟩,fun x hx y hy=>?_,fun x hx y hy=>?_,m.sa,s2,?_⟩
 ·rcases u9.mp hx with hx | hx
  ·exact m.oa x hx y hy
  ·exact h x hx y hy
 ·rcases u9.mp hx with hx | hx
  ·exact m.ob x hx y (o4 _ hy)
  ·exact s3 x hx y hy
 ·refine List.Perm.trans ?_ m.pm
  rw[E3]
  refine List.Perm.append_left _ ?_
  rw[<- E3,<- E3]
  exact List.Perm.append_right _ bz2
theorem MI.oneA {x:Keyed}{all:List Keyed}(m:MI R out (x::ra) rb all)(h:∀ y∈rb,R x y):MI R (out++[x]) ra rb all:=
 MI.blkA (blk:=[x]) m fun z hz y hy=>by rw[B9.mp hz];exact h y hy
theorem MI.oneB {x:Keyed}{all:List Keyed}(m:MI R out ra (x::rb) all)(h:∀ y∈ra,R x y):MI R (out++[x]) ra rb all:=
 MI.blkB (blk:=[x]) m fun z hz y hy=>by rw[B9.mp hz];exact h y hy
theorem MI.endAB {all:List Keyed}(m:MI R out ra rb all)(h:∀ x∈ra,∀ y∈rb,R x y):(out++(ra++rb)).Pairwise R/\(out++(ra++rb)).Perm all:=by
 refine⟨C2.mpr ⟨m.so,C2.mpr ⟨m.sa,m.sb,h⟩,fun x hx y hy=>?_⟩,m.pm⟩
 rcases u9.mp hy with hy | hy
 ·exact m.oa x hx y hy
 ·exact m.ob x hx y hy
theorem MI.endBA {all:List Keyed}(m:MI R out ra rb all)(h:∀ x∈rb,∀ y∈ra,R x y):(out++(rb++ra)).Pairwise R/\(out++(rb++ra)).Perm all:=by
 refine⟨C2.mpr ⟨m.so,C2.mpr ⟨m.sb,m.sa,h⟩,fun x hx y hy=>?_⟩,List.Perm.trans (List.Perm.append_left _ bz2) m.pm⟩
 rcases u9.mp hy with hy | hy
 ·exact m.ob x hx y hy
 ·exact m.oa x hx y hy
theorem drop_cons {α:Type}{l:List α}{x:α}(h:l[i]?=some x):l.drop i=x::l.drop (i+1):=by
 obtain⟨hi,rfl⟩:=j5.mp h
 exact ah1 hi
theorem ao5 {α:Type}(l:List α)(i k:Nat):l.drop i=(l.drop i).take k++l.drop (i+k):=by
 rw[<- bb8]
 exact(E7 k (l.drop i)).symm
theorem K6 {α:Type}{l:List α}{x:α}(h:x∈l.drop i):∃ j,i<=j/\j<l.length/\l[j]?=some x:=by
 obtain⟨k,hk⟩:=q0.mp h
 rw[Y0]at hk
 exact⟨i+k,by omega,(j5.mp hk).1,hk⟩
theorem X5 {α:Type}{l:List α}{k:Nat}{x:α}(h:x∈(l.drop i).take k):∃ j,j<k/\l[i+j]?=some x:=by
 obtain⟨j,hj⟩:=q0.mp h
 rw[S3]at hj
 split at hj
 ·rename_i hlt
  rw[Y0]at hj
  exact⟨j,hlt,hj⟩
 ·cases hj
theorem aV9 (a:Array Keyed)(i k:Nat):(a.extract i (i+k)).toList=(a.toList.drop i).take k:=by
 rw[ab6,V9,Q9]
theorem az6 (a:Array Keyed)(i:Nat):(a.extract i a.size).toList=a.toList.drop i:=by
 rw[ab6,V9]
 exact o6 (by simp)
theorem aO1 (a:Array Keyed)(i:Nat):(a.extract 0 i).toList=a.toList.take i:=by
 rw[ab6,V9,bb9,bz9]
structure Sm (st st':SortSt):Prop where
 k:kindOf st'=kindOf st
 a:o8 st'=o8 st
 p:D5 st'=D5 st
 f:S0 st'=S0 st
theorem Sm.rfl' (st:SortSt):Sm st st:=⟨rfl,rfl,rfl,rfl⟩
theorem Sm.mg {st st':SortSt}(h:Sm st st')(g:Nat):Sm st (SortSt.mk' (kindOf st') (o8 st') (D5 st') g (S0 st')):=⟨h.k,h.a,h.p,h.f⟩
section
variable {S:Keyed->Prop}
theorem ak0 {g:Nat}{st:SortSt}{Q:Unit->SortSt->Prop}(h:Q () (SortSt.mk' (kindOf st) (o8 st) (D5 st) g (S0 st))):wpS (u7 prog w) A E s (Q3 g) Q st:=by
 rw[at5]
 exact ay2 h
structure LoI (B:Keyed->Keyed->Bool) (a b out:Array Keyed) (ia ib:Nat):Prop where
 m:MI (le B) out.toList (a.toList.drop ia) (b.toList.drop ib) (a.toList++b.toList)
 ha:ia+1<a.size
 hb:ib<b.size
 sz:out.size=ia+ib
def Good (B:Keyed->Keyed->Bool)(a b r:Array Keyed):Prop:=r.toList.Pairwise (le B)/\r.toList.Perm (a.toList++b.toList)
theorem M3 {α σ:Type}{c:Prop}[Decidable c]{X Y:StateT σ Sem α}{Q:α->σ->Prop}{st:σ}(h:c)(k:wpS M A E s X Q st):wpS M A E s (if c then X else Y) Q st:=by
 rw[if_pos h]
 exact k
theorem L5 {α σ:Type}{c:Prop}[Decidable c]{X Y:StateT σ Sem α}{Q:α->σ->Prop}{st:σ}(h:¬ c)(k:wpS M A E s Y Q st):wpS M A E s (if c then X else Y) Q st:=by
 rw[if_neg h]
 exact k
theorem aj9 {α σ:Type}{c:Prop}[Decidable c]{X Y:StateT σ Sem α}{Q:α->σ->Prop}{st:σ}(h:wpS M A E s X Q st)(k:wpS M A E s Y Q st):wpS M A E s (if c then X else Y) Q st:=by
 split
 ·exact h
 ·exact k
theorem aQ4 {α σ:Type}{c:Nat->Prop}[∀ m,Decidable (c m)]{X Y:Nat->StateT σ Sem α}{Q:α->σ->Prop}{st:σ}(hX:∀ m,X m=Y (m - 1))(h:∀ m,wpS M A E s (Y m) Q st):∀ m,wpS M A E s (if c m then X m else Y m) Q st:=fun m=>by
 split
 ·rw[hX]
  exact h _
 ·exact h m
theorem ap5 {α σ β γ:Type}{u0:β}{v0:γ}{c:β->γ->Prop}[∀ u v,Decidable (c u v)]{X Y:β->γ->StateT σ Sem α}{Q:α->σ->Prop}{st:σ}{R:β->γ->Prop}(J:∀ u v,R u v->wpS M A E s (Y u v) Q st)(h1:c u0 v0->(∀ u v,R u v->wpS M A E s (Y u v) Q st)->wpS M A E s (X u0 v0) Q st)(h2:¬ c u0 v0->R u0 v0):∀ u,u0=u->∀ v,v0=v->wpS M A E s (if c u v then X u v else Y u v) Q st:=by
 rintro _ rfl _ rfl
 by_cases h:c u0 v0
 ·rw[if_pos h]
  exact h1 h J
 ·rw[if_neg h]
  exact J u0 v0 (h2 h)
theorem aQ2 (o:Ord B)(C:Cmp prog w A E s κ S B){a b:Array Keyed}{st:SortSt}{Q:Array Keyed->SortSt->Prop}(hk:kindOf st=κ)(hSa:∀ x∈a.toList,S x)(hSb:∀ x∈b.toList,S x)
  (sa:a.toList.Pairwise (le B))(sb:b.toList.Pairwise (le B))(ha:0<a.size)(hb:0<b.size)
  (h0:∀ x y,b[0]?=some x->a[0]?=some y->B x y=true)(hl:∀ x∈b.toList,∀ y,a[a.size - 1]?=some y->B x y=true)
  (h:∀ r st',Sm st st'->Good B a b r->Q r st'):wpS (u7 prog w) A E s (aC7 a b) Q st:=by
 have ga:∀ i,i<a.size->∃ x,a[i]?=some x/\a.toList[i]?=some x/\S x:=fun i hi=>by
  refine⟨a[i],getElem?_pos a i hi,by rw[i9];exact getElem?_pos a i hi,hSa _ (by simp)⟩
 have gb:∀ i,i<b.size->∃ x,b[i]?=some x/\b.toList[i]?=some x/\S x:=fun i hi=>by
  refine⟨b[i],getElem?_pos b i hi,by rw[i9];exact getElem?_pos b i hi,hSb _ (by simp)⟩
 have leA:∀ (i j:Nat) (x y:Keyed),i<=j->a.toList[i]?=some x->a.toList[j]?=some y->le B x y:=fun i j x y hij hx hy=>by
  obtain⟨h1,rfl⟩:=j5.mp hx
  obtain⟨h2,rfl⟩:=j5.mp hy
  rcases M8 hij with hlt | rfl
  ·exact v7.mp sa i j h1 h2 hlt
  ·exact o.rf _
 have leB:∀ (i j:Nat) (x y:Keyed),i<=j->b.toList[i]?=some x->b.toList[j]?=some y->le B x y:=fun i j x y hij hx hy=>by
  obtain⟨h1,rfl⟩:=j5.mp hx
  obtain⟨h2,rfl⟩:=j5.mp hy
  rcases M8 hij with hlt | rfl
  ·exact v7.mp sb i j h1 h2 hlt
  ·exact o.rf _
 have tl:∀ (z:Array Keyed) (i:Nat),z[i]?=z.toList[i]?:=fun z i=>(i9 ..).symm
 have goodDone:∀ (out:Array Keyed) (ia ib:Nat),MI (le B) out.toList (a.toList.drop ia) (b.toList.drop ib) (a.toList++b.toList)->ib=b.size->Good B a b (out++a.extract ia a.size++b.extract ib b.size):=fun out ia ib m e=>by
  have en:b.toList.drop ib=[]:=by rw[e];exact L0 (by simp)
  have:=m.endAB (fun x _ y hy=>by rw[en]at hy;cases hy)
  unfold Good
  rw[D4,D4,az6,az6,E3]
  exact this
 have lastA:∀ (ia:Nat) (x:Keyed),ia+1=a.size->x∈a.toList.drop ia->a[a.size - 1]?=some x:=fun ia x e hx=>by
  obtain⟨j,h1,h2,h3⟩:=K6 hx
  have:j=a.size - 1:=by rw[o7]at h2;omega
  rw[<- this,tl]
  exact h3
 have goodLast:∀ (out:Array Keyed) (ia ib:Nat),MI (le B) out.toList (a.toList.drop ia) (b.toList.drop ib) (a.toList++b.toList)->ia+1=a.size->Good B a b (out++b.extract ib b.size++a.extract ia a.size):=fun out ia ib m e=>by
  have:=m.endBA (fun x hx y hy=>o.of_lt (hl x (J9 hx) y (lastA ia y e hy)))
  unfold Good
  rw[D4,D4,az6,az6,E3]
  exact this
 have pushB:∀ (out:Array Keyed) (ia ib:Nat) (x:Keyed),MI (le B) out.toList (a.toList.drop ia) (b.toList.drop ib) (a.toList++b.toList)->b.toList[ib]?=some x->(∀ y∈a.toList.drop ia,le B x y) ->
   MI (le B) (out.push x).toList (a.toList.drop ia) (b.toList.drop (ib+1)) (a.toList++b.toList):=fun out ia ib x m e hx=>by
  rw[drop_cons e]at m
  rw[Y8]
  exact m.oneB hx
 have pushA:∀ (out:Array Keyed) (ia ib:Nat) (x:Keyed),MI (le B) out.toList (a.toList.drop ia) (b.toList.drop ib) (a.toList++b.toList)->a.toList[ia]?=some x->(∀ y∈b.toList.drop ib,le B x y) ->
   MI (le B) (out.push x).toList (a.toList.drop (ia+1)) (b.toList.drop ib) (a.toList++b.toList):=fun out ia ib x m e hx=>by
  rw[drop_cons e]at m
  rw[Y8]
  exact m.oneA hx
 have blkA:∀ (out:Array Keyed) (ia ib k:Nat),MI (le B) out.toList (a.toList.drop ia) (b.toList.drop ib) (a.toList++b.toList)->(∀ x∈(a.toList.drop ia).take k,∀ y∈b.toList.drop ib,le B x y) ->
   MI (le B) (out++a.extract ia (ia+k)).toList (a.toList.drop (ia+k)) (b.toList.drop ib) (a.toList++b.toList):=fun out ia ib k m hx=>by
  rw[ao5 a.toList ia k]at m
  rw[D4,aV9]
  exact m.blkA hx
 have blkB:∀ (out:Array Keyed) (ia ib k:Nat),MI (le B) out.toList (a.toList.drop ia) (b.toList.drop ib) (a.toList++b.toList)->(∀ x∈(b.toList.drop ib).take k,∀ y∈a.toList.drop ia,le B x y) ->
   MI (le B) (out++b.extract ib (ib+k)).toList (a.toList.drop ia) (b.toList.drop (ib+k)) (a.toList++b.toList):=fun out ia ib k m hx=>by
  rw[ao5 b.toList ib k]at m
  rw[D4,aV9]
  exact m.blkB hx
 rw[aU4]
 refine k9 (ad4 ?_)
 obtain⟨b0,eb0,eb0',Sb0⟩:=gb 0 hb
 obtain⟨a0,ea0,ea0',Sa0⟩:=ga 0 ha
 have lt0:=h0 b0 a0 eb0 ea0
 refine k9 (F4 eb0 ?_)
 have m0:MI (le B) ([]:List Keyed) (a.toList.drop 0) (b.toList.drop 0) (a.toList++b.toList):=⟨List.Pairwise.nil,(fun _ hx=>nomatch hx),(fun _ hx=>nomatch hx),sa,sb,List.Perm.refl _⟩
 have m1:MI (le B) (#[b0]:Array Keyed).toList (a.toList.drop 0) (b.toList.drop 1) (a.toList++b.toList):=pushB #[] 0 0 b0 m0 eb0' fun y hy=>by
  obtain⟨j,h1,h2,h3⟩:=K6 hy
  exact o.of_lt (o.lt_le lt0 (leA 0 j a0 y (v8 _) ea0' h3))
 by_cases e1:1=b.size
 ·refine M3 (by simpa using e1) ?_
  exact o5 (h _ st (Sm.rfl' st) (goodDone _ 0 1 m1 e1))
 refine L5 (by simpa using e1) ?_
 by_cases e2:0+1=a.size
 ·refine M3 (by simpa using e2) ?_
  exact o5 (h _ st (Sm.rfl' st) (goodLast _ 0 1 m1 e2))
 refine L5 (by simpa using e2) ?_
 refine k9 (aw6 ?_)
 have I0:LoI B a b #[b0] 0 1:=⟨m1,by omega,by omega,rfl⟩
 refine k9 (X1 (G7
  (I:=fun x c st'=>Sm st st'/\∃ out ia ib mg,c=(none,out,ia,ib,mg)/\LoI B a b out ia ib/\x+1<=out.size)
  (Q:=fun c st'=>Sm st st'/\∃ r out ia ib mg,c=(some r,out,ia,ib,mg)/\Good B a b r) ?step ?fin ⟨Sm.rfl' st,#[b0],0,1,_,rfl,I0,by simp⟩) ?post)
 case fin =>
  rintro c st' ⟨hS,out,ia,ib,mg,rfl,I,hx⟩
  have h1:=I.sz
  have h2:=I.ha
  have h3:=I.hb
  exfalso
  omega
 case post =>
  rintro c st' ⟨hS,r,out,ia,ib,mg,rfl,hg⟩
  exact o5 (h r st' hS hg)
 case step =>
  rintro x c st1 _ hx ⟨hS1,out,ia,ib,mg,rfl,I,hsz⟩
  refine k9 (X1 (G7
   (I:=fun j c st'=>Sm st st'/\∃ out' ia' ib' ac bc,c=(none,out',ia',ib',ac,bc)/\LoI B a b out' ia' ib'/\x+1<=out'.size/\(1<=j->x+2<=out'.size))
   (Q:=fun c st'=>Sm st st'/\((∃ r out' ia' ib' ac bc,c=(some r,out',ia',ib',ac,bc)/\Good B a b r)\/(∃ out' ia' ib' ac bc,c=(none,out',ia',ib',ac,bc)/\LoI B a b out' ia' ib'/\x+2<=out'.size)))
   ?istep ?ifin ⟨hS1,out,ia,ib,0,0,rfl,I,hsz,by omega⟩) ?ipost)
  case ifin =>
   rintro c st' ⟨hS,out',ia',ib',ac,bc,rfl,I',h1,h2⟩
   exact⟨hS,.inr ⟨out',ia',ib',ac,bc,rfl,I',h2 (by omega)⟩⟩
  case istep =>
   rintro j c st' _ hj ⟨hS,out',ia',ib',ac,bc,rfl,I',h1,_⟩
   obtain⟨bx,eb,eb',Sb⟩:=gb ib' I'.hb
   obtain⟨ax,ea,ea',Sa⟩:=ga ia' (by have:=I'.ha;omega)
   refine k9 (F4 eb (k9 (F4 ea (k9 (aA2 C (hS.k.trans hk) Sb Sa ?_)))))
   cases ew:B bx ax with
   | true =>
    refine M3 rfl ?_
    refine k9 (F4 eb ?_)
    have m2:=pushB out' ia' ib' bx I'.m eb' fun y hy=>by
     obtain⟨j,h1,h2,h3⟩:=K6 hy
     exact o.of_lt (o.lt_le ew (leA ia' j ax y h1 ea' h3))
    by_cases e3:ib'+1=b.size
    ·refine M3 (by simpa using e3) ?_
     exact o5 ⟨hS,.inl ⟨_,_,_,_,_,_,rfl,goodDone _ _ _ m2 e3⟩⟩
    refine L5 (by simpa using e3) ?_
    have I2:LoI B a b (out'.push bx) ia' (ib'+1):=⟨m2,I'.ha,by have:=I'.hb;omega,by rw[C9,I'.sz];omega⟩
    have z2:x+2<=(out'.push bx).size:=by rw[C9];omega
    refine aj9 ?_ ?_
    ·exact o5 ⟨hS,.inr ⟨_,_,_,_,_,rfl,I2,z2⟩⟩
    ·exact o5 ⟨hS,_,_,_,_,_,rfl,I2,al4 z2,fun _=>z2⟩
   | false =>
    refine L5 j9 ?_
    refine k9 (F4 ea ?_)
    have m2:=pushA out' ia' ib' ax I'.m ea' fun y hy=>by
     obtain⟨j,h1,h2,h3⟩:=K6 hy
     exact o.trans ew (leB ib' j bx y h1 eb' h3)
    by_cases e3:ia'+1+1=a.size
    ·refine M3 (by simpa using e3) ?_
     exact o5 ⟨hS,.inl ⟨_,_,_,_,_,_,rfl,goodLast _ _ _ m2 e3⟩⟩
    refine L5 (by simpa using e3) ?_
    have I2:LoI B a b (out'.push ax) (ia'+1) ib':=⟨m2,by have:=I'.ha;omega,I'.hb,by rw[C9,I'.sz];omega⟩
    have z2:x+2<=(out'.push ax).size:=by rw[C9];omega
    refine aj9 ?_ ?_
    ·exact o5 ⟨hS,.inr ⟨_,_,_,_,_,rfl,I2,z2⟩⟩
    ·exact o5 ⟨hS,_,_,_,_,_,rfl,I2,al4 z2,fun _=>z2⟩
  case ipost =>
   rintro c st2 ⟨hS2,⟨r,out',ia',ib',ac,bc,rfl,hg⟩ | ⟨out',ia',ib',ac,bc,rfl,I',hz⟩⟩
   ·exact o5 ⟨hS2,r,_,_,_,_,rfl,hg⟩
   refine k9 (ad4 ?_)
   refine k9 (X1 (G7
    (I:=fun j c st'=>Sm st st'/\∃ out' ia' ib' mg ac bc,c=(none,out',ia',ib',mg,ac,bc)/\LoI B a b out' ia' ib'/\x+2<=out'.size)
    (Q:=fun c st'=>Sm st st'/\((∃ r out' ia' ib' mg ac bc,c=(some r,out',ia',ib',mg,ac,bc)/\Good B a b r)\/(∃ out' ia' ib' mg ac bc,c=(none,out',ia',ib',mg,ac,bc)/\LoI B a b out' ia' ib'/\x+2<=out'.size)))
    ?gstep ?gfin ⟨hS2,out',ia',ib',_,ac,bc,rfl,I',hz⟩) ?gpost)
   case gfin =>
    rintro c st' ⟨hS,out',ia',ib',mg,ac,bc,rfl,I',h1⟩
    exact⟨hS,.inr ⟨out',ia',ib',mg,ac,bc,rfl,I',h1⟩⟩
   case gpost =>
    rintro c st3 ⟨hS3,⟨r,out',ia',ib',mg,ac,bc,rfl,hg⟩ | ⟨out',ia',ib',mg,ac,bc,rfl,I',hz⟩⟩
    ·exact o5 ⟨hS3,r,_,_,_,_,rfl,hg⟩
    exact k9 (ak0 (o5 ⟨hS3.mg _,_,_,_,_,rfl,I',by omega⟩))
   case gstep =>
    rintro j c st' _ hj ⟨hS,out',ia',ib',mg,ac,bc,rfl,I',hz⟩
    dsimp (config:={ zeta:=false }) only
    obtain⟨bx,eb,eb',Sb⟩:=gb ib' I'.hb
    obtain⟨al,eal,eal',Sal⟩:=ga (a.size - 1) (by omega)
    revert mg
    refine aQ4 (fun _=>rfl) fun mg1=>?_
    try dsimp (config:={ zeta:=false }) only
    refine k9 (ak0 (k9 (F4 eb ?_)))
    refine k9 (W6 o C (hS.k.trans hk) Sb (by have:=I'.ha;omega) (fun i y hi e=>hSa y (j0 (by rw[<- tl];exact e))) (fun i j y z hij hj e e'=>leA _ _ y z (W5 hij _) (by rw[<- tl];exact e) (by rw[<- tl];exact e')) (by have:=I'.ha;omega) fun k hkn hlt hge=>?_)
    dsimp (config:={ zeta:=false }) only
    have hS':=hS
    have hlt':∀ y∈(a.toList.drop ia').take k,∀ z∈b.toList.drop ib',le B y z:=fun y hy z hz'=>by
     obtain⟨i,hi,e⟩:=X5 hy
     have q:=hlt i y hi (by rw[tl];exact e)
     obtain⟨j',h1,h2,h3⟩:=K6 hz'
     simp only[byn,t7,if_false,bV8]at q
     exact o.trans q (leB ib' j' bx z h1 eb' h3)
    have m1':=blkA out' ia' ib' k I'.m hlt'
    have hge':∀ y∈a.toList.drop (ia'+k),B bx y=true:=fun y hy=>by
     obtain⟨j',h1,h2,h3⟩:=K6 hy
     have q:=hge (j' - ia') y (by omega) (by rw[o7]at h2;omega) (by rw[show ia'+(j' - ia')=j' by omega,tl];exact h3)
     simpa [byn] using q
    have hka:ia'+k<a.size:=by
     rcases F8 (ia'+k) a.size with q | q
     ·exact q
     ·exfalso
      have h9:=I'.ha
      have q1:=hlt (a.size - 1 - ia') al (by omega) (by rw[show ia'+(a.size - 1 - ia')=a.size - 1 by omega];exact eal)
      have q2:=hl bx (j0 eb') al eal
      simp[byn,q2]at q1
    generalize eo:out'=o
    generalize en:ia'=n
    revert o n
    refine ap5 (R:=fun out1 ia1=>MI (le B) out1.toList (a.toList.drop ia1) (b.toList.drop ib') (a.toList++b.toList)/\(∀ y∈a.toList.drop ia1,B bx y=true)/\ia1+1<a.size/\out1.size=ia1+ib'/\x+2<=out1.size) ?_ (fun hk J=>?_) (fun hk=>?_)
    rotate_left
    ·by_cases e4:ia'+k+1=a.size
     ·refine M3 (by simpa using e4) ?_
      exact o5 ⟨hS.mg _,.inl ⟨_,_,_,_,_,_,_,rfl,goodLast _ _ _ m1' e4⟩⟩
     refine L5 (by simpa using e4) (L5 (by simp;omega) ?_)
     exact J (out'++a.extract ia' (ia'+k)) (ia'+k) ⟨m1',hge',by omega,by rw[L3,J7,I'.sz];omega,by rw[L3];omega⟩
    ·have e9:k=0:=by omega
     rw[e9]at hge'
     exact⟨I'.m,hge',I'.ha,I'.sz,hz⟩
    rintro out1 ia1 ⟨m1,hge1,hne1,sz1,z1⟩
    refine k9 (F4 eb ?_)
    have m2:=pushB out1 ia1 ib' bx m1 eb' fun y hy=>o.of_lt (hge1 y hy)
    by_cases e5:ib'+1=b.size
    ·refine M3 (by simpa using e5) ?_
     exact o5 ⟨hS.mg _,.inl ⟨_,_,_,_,_,_,_,rfl,goodDone _ _ _ m2 e5⟩⟩
    refine L5 (by simpa using e5) ?_
    generalize ho:out1.push bx=o2 at m2 ⊢
    have so2:o2.size=out1.size+1:=by rw[<- ho,C9]
    generalize hn:ib'+1=n2 at m2 e5 ⊢
    obtain⟨ax,ea,ea',Sa⟩:=ga ia1 (by omega)
    have hib:=I'.hb
    refine k9 (F4 ea ?_)
    refine k9 (W6 o C (hS.k.trans hk) Sa (by omega) (fun i y hi e=>hSb y (j0 (by rw[<- tl];exact e))) (fun i j y z hij hj e e'=>leB _ _ y z (W5 hij _) (by rw[<- tl];exact e) (by rw[<- tl];exact e')) (by omega) fun k' hkn' hlt2 hge2=>?_)
    dsimp (config:={ zeta:=false }) only
    have hlt2':∀ y∈(b.toList.drop n2).take k',∀ z∈a.toList.drop ia1,le B y z:=fun y hy z hz'=>by
     obtain⟨i,hi,e⟩:=X5 hy
     have q:=hlt2 i y hi (by rw[tl];exact e)
     obtain⟨j',h1,h2,h3⟩:=K6 hz'
     simp only[byn,if_true]at q
     exact o.of_lt (o.lt_le q (leA ia1 j' ax z h1 ea' h3))
    have m3':=blkB o2 ia1 n2 k' m2 hlt2'
    have hge2':∀ y∈b.toList.drop (n2+k'),le B ax y:=fun y hy=>by
     obtain⟨j',h1,h2,h3⟩:=K6 hy
     have q:=hge2 (j' - n2) y (by omega) (by rw[o7]at h2;omega) (by rw[show n2+(j' - n2)=j' by omega,tl];exact h3)
     show B y ax=false
     simpa [byn] using q
    have sz2:o2.size=ia1+n2:=by omega
    generalize eo:o2=o
    generalize en:n2=n
    revert o n
    refine ap5 (R:=fun out2 ib2=>MI (le B) out2.toList (a.toList.drop ia1) (b.toList.drop ib2) (a.toList++b.toList)/\(∀ y∈b.toList.drop ib2,le B ax y)/\ib2<b.size/\out2.size=ia1+ib2/\x+2<=out2.size) ?_ (fun hk J=>?_) (fun hk=>?_)
    rotate_left
    ·by_cases e6:n2+k'=b.size
     ·refine M3 (by simpa using e6) ?_
      exact o5 ⟨hS.mg _,.inl ⟨_,_,_,_,_,_,_,rfl,goodDone _ _ _ m3' e6⟩⟩
     refine L5 (by simpa using e6) ?_
     exact J (o2++b.extract n2 (n2+k')) (n2+k') ⟨m3',hge2',by omega,by rw[L3,J7,sz2];omega,by rw[L3];omega⟩
    ·have e8:k'=0:=by omega
     rw[e8]at hge2'
     exact⟨m2,hge2',by omega,sz2,by omega⟩
    rintro out2 ib2 ⟨m3,hge3,hne3,sz3,z3⟩
    refine k9 (F4 ea ?_)
    have m4:=pushA out2 ia1 ib2 ax m3 ea' hge3
    by_cases e7:ia1+1+1=a.size
    ·refine M3 (by simpa using e7) ?_
     exact o5 ⟨hS.mg _,.inl ⟨_,_,_,_,_,_,_,rfl,goodLast _ _ _ m4 e7⟩⟩
    refine L5 (by simpa using e7) ?_
    have I4:LoI B a b (out2.push ax) (ia1+1) ib2:=⟨m4,by omega,hne3,by rw[C9,sz3];omega⟩
    have z4:x+2<=(out2.push ax).size:=by
     rw[C9,sz3]
     have:=I'.sz
     omega
    refine aj9 ?_ ?_
    ·exact o5 ⟨hS.mg _,.inr ⟨_,_,_,_,_,_,rfl,I4,z4⟩⟩
    ·exact o5 ⟨hS.mg _,_,_,_,_,_,_,rfl,I4,z4⟩
end
theorem aQ8 {α:Type}{l:List α}{x:α}(h:l[n]?=some x):(l.take (n+1)).reverse=x::(l.take n).reverse:=by
 rw[G0,h,bI6]
 rfl
theorem ai0 {α:Type}(l:List α){k:Nat}(h:k<=n):(l.take n).reverse=((l.drop k).take (n - k)).reverse++(l.take k).reverse:=by
 rw[<- bI6]
 congr 1
 obtain⟨d,rfl⟩:=Nat.le.dest h
 rw[Q9,List.take_add]
theorem M4 {α:Type}{l:List α}{x:α}(h:x∈(l.take n).reverse):∃ j,j<n/\j<l.length/\l[j]?=some x:=by
 rw[aO6]at h
 obtain⟨j,hj⟩:=q0.mp h
 rw[S3]at hj
 split at hj
 ·rename_i hlt
  exact⟨j,hlt,(j5.mp hj).1,hj⟩
 ·cases hj
theorem az5 (a:Array Keyed)(i k:Nat):(a.extract i k).toList=(a.toList.drop i).take (k - i):=by
 rw[ab6,V9]
section
variable {S:Keyed->Prop}
abbrev HM (B:Keyed->Keyed->Bool)(a b out:Array Keyed)(na nb:Nat):Prop:=MI (fun x y=>le B y x) out.toList (a.toList.take na).reverse (b.toList.take nb).reverse (a.toList++b.toList)
structure HiI (B:Keyed->Keyed->Bool) (a b out:Array Keyed) (na nb:Nat):Prop where
 m:HM B a b out na nb
 ha:0<na
 ha':na<=a.size
 hb:1<nb
 hb':nb<=b.size
 sz:out.size+na+nb=a.size+b.size
theorem aQ3 (o:Ord B)(C:Cmp prog w A E s κ S B){a b:Array Keyed}{st:SortSt}{Q:Array Keyed->SortSt->Prop}(hk:kindOf st=κ)(hSa:∀ x∈a.toList,S x)(hSb:∀ x∈b.toList,S x)
  (sa:a.toList.Pairwise (le B))(sb:b.toList.Pairwise (le B))(ha:0<a.size)(hb:0<b.size)
  (h0:∀ x y,b[0]?=some x->a[0]?=some y->B x y=true)(hl:∀ x∈b.toList,∀ y,a[a.size - 1]?=some y->B x y=true)
  (h:∀ r st',Sm st st'->Good B a b r->Q r st'):wpS (u7 prog w) A E s (aC8 a b) Q st:=by
 have ga:∀ i,i<a.size->∃ x,a[i]?=some x/\a.toList[i]?=some x/\S x:=fun i hi=>by
  refine⟨a[i],getElem?_pos a i hi,by rw[i9];exact getElem?_pos a i hi,hSa _ (by simp)⟩
 have gb:∀ i,i<b.size->∃ x,b[i]?=some x/\b.toList[i]?=some x/\S x:=fun i hi=>by
  refine⟨b[i],getElem?_pos b i hi,by rw[i9];exact getElem?_pos b i hi,hSb _ (by simp)⟩
 have leA:∀ (i j:Nat) (x y:Keyed),i<=j->a.toList[i]?=some x->a.toList[j]?=some y->le B x y:=fun i j x y hij hx hy=>by
  obtain⟨h1,rfl⟩:=j5.mp hx
  obtain⟨h2,rfl⟩:=j5.mp hy
  rcases M8 hij with hlt | rfl
  ·exact v7.mp sa i j h1 h2 hlt
  ·exact o.rf _
 have leB:∀ (i j:Nat) (x y:Keyed),i<=j->b.toList[i]?=some x->b.toList[j]?=some y->le B x y:=fun i j x y hij hx hy=>by
  obtain⟨h1,rfl⟩:=j5.mp hx
  obtain⟨h2,rfl⟩:=j5.mp hy
  rcases M8 hij with hlt | rfl
  ·exact v7.mp sb i j h1 h2 hlt
  ·exact o.rf _
 have tl:∀ (z:Array Keyed) (i:Nat),z[i]?=z.toList[i]?:=fun z i=>(i9 ..).symm
 have rel:∀ {l:List Keyed},l.Pairwise (fun x y=>le B y x)->l.reverse.Pairwise (le B):=fun {l} hp=>ab2.mpr hp
 have goodDone:∀ (out:Array Keyed) (na nb:Nat),HM B a b out na nb->(na=0\/nb=0)->Good B a b (a.extract 0 na++b.extract 0 nb++out.reverse):=fun out na nb m e=>by
  have:=m.endBA (fun x hx y hy=>by
   rcases e with rfl | rfl
   ·simp at hy
   ·simp at hx)
  unfold Good
  rw[D4,D4,aO1,aO1,ab7]
  have q:(out.toList++((b.toList.take nb).reverse++(a.toList.take na).reverse)).reverse=a.toList.take na++b.toList.take nb++out.toList.reverse:=by simp
  exact⟨by rw[<- q];exact rel this.1,by rw[<- q];exact(aa0 _).trans this.2⟩
 obtain⟨b0,eb0,eb0',Sb0⟩:=gb 0 hb
 obtain⟨a0,ea0,ea0',Sa0⟩:=ga 0 ha
 have lt0:=h0 b0 a0 eb0 ea0
 have goodFirst:∀ (out:Array Keyed) (na nb:Nat),HM B a b out na nb->nb=1->Good B a b (b.extract 0 nb++a.extract 0 na++out.reverse):=fun out na nb m e=>by
  have:=m.endAB (fun x hx y hy=>by
   subst e
   obtain⟨i,h1,h2,h3⟩:=M4 hx
   obtain⟨j,h4,h5,h6⟩:=M4 hy
   have:j=0:=by omega
   subst this
   rw[eb0']at h6
   cases h6
   exact o.of_lt (o.lt_le lt0 (leA 0 i a0 x (v8 _) ea0' h3)))
  unfold Good
  rw[D4,D4,aO1,aO1,ab7]
  have q:(out.toList++((a.toList.take na).reverse++(b.toList.take nb).reverse)).reverse=b.toList.take nb++a.toList.take na++out.toList.reverse:=by simp
  exact⟨by rw[<- q];exact rel this.1,by rw[<- q];exact(aa0 _).trans this.2⟩
 have pushA:∀ (out:Array Keyed) (na nb:Nat) (x:Keyed),0<na->HM B a b out na nb->a.toList[na - 1]?=some x->(∀ y∈(b.toList.take nb).reverse,le B y x)->HM B a b (out.push x) (na - 1) nb:=fun out na nb x hn m e hx=>by
  obtain⟨n,rfl⟩:∃ n,na=n+1:=⟨na - 1,by omega⟩
  unfold HM at m ⊢
  rw[bV9]at e ⊢
  rw[aQ8 e]at m
  rw[Y8]
  exact m.oneA hx
 have pushB:∀ (out:Array Keyed) (na nb:Nat) (x:Keyed),0<nb->HM B a b out na nb->b.toList[nb - 1]?=some x->(∀ y∈(a.toList.take na).reverse,le B y x)->HM B a b (out.push x) na (nb - 1):=fun out na nb x hn m e hx=>by
  obtain⟨n,rfl⟩:∃ n,nb=n+1:=⟨nb - 1,by omega⟩
  unfold HM at m ⊢
  rw[bV9]at e ⊢
  rw[aQ8 e]at m
  rw[Y8]
  exact m.oneB hx
 have blkA:∀ (out:Array Keyed) (na nb k:Nat),k<=na->HM B a b out na nb->(∀ x∈((a.toList.drop k).take (na - k)).reverse,∀ y∈(b.toList.take nb).reverse,le B y x)->HM B a b (out++(a.extract k na).reverse) k nb:=fun out na nb k hkn m hx=>by
  unfold HM at m ⊢
  rw[ai0 a.toList hkn]at m
  rw[D4,ab7,az5]
  exact m.blkA hx
 have blkB:∀ (out:Array Keyed) (na nb k:Nat),k<=nb->HM B a b out na nb->(∀ x∈((b.toList.drop k).take (nb - k)).reverse,∀ y∈(a.toList.take na).reverse,le B y x)->HM B a b (out++(b.extract k nb).reverse) na k:=fun out na nb k hkn m hx=>by
  unfold HM at m ⊢
  rw[ai0 b.toList hkn]at m
  rw[D4,ab7,az5]
  exact m.blkB hx
 rw[aU5]
 refine k9 (ad4 ?_)
 obtain⟨al,eal,eal',Sal⟩:=ga (a.size - 1) (by omega)
 refine k9 (F4 eal ?_)
 have m0:HM B a b #[] a.size b.size:=by
  unfold HM
  rw[o6 (by simp),o6 (by simp)]
  refine⟨List.Pairwise.nil,(fun _ hx=>nomatch hx),(fun _ hx=>nomatch hx),ab2.mpr sa,ab2.mpr sb,?_⟩
  rw[S9]
  exact List.Perm.append (aa0 _) (aa0 _)
 have m1:HM B a b #[al] (a.size - 1) b.size:=pushA #[] a.size b.size al ha m0 eal' fun y hy=>by
  obtain⟨j,h1,h2,h3⟩:=M4 hy
  exact o.of_lt (hl y (j0 h3) al eal)
 by_cases e1:a.size - 1=0
 ·refine M3 (by simpa using e1) ?_
  exact o5 (h _ st (Sm.rfl' st) (goodDone _ _ _ m1 (.inl e1)))
 refine L5 (by simpa using e1) ?_
 by_cases e2:b.size=1
 ·refine M3 (by simpa using e2) ?_
  exact o5 (h _ st (Sm.rfl' st) (goodFirst _ _ _ m1 e2))
 refine L5 (by simpa using e2) ?_
 refine k9 (aw6 ?_)
 have I0:HiI B a b #[al] (a.size - 1) b.size:=⟨m1,by omega,by omega,by omega,by omega,by simp;omega⟩
 refine k9 (X1 (G7
  (I:=fun x c st'=>Sm st st'/\∃ na nb out mg,c=(none,na,nb,out,mg)/\HiI B a b out na nb/\x+1<=out.size)
  (Q:=fun c st'=>Sm st st'/\∃ r na nb out mg,c=(some r,na,nb,out,mg)/\Good B a b r) ?step ?fin ⟨Sm.rfl' st,_,_,#[al],_,rfl,I0,by simp⟩) ?post)
 case fin =>
  rintro c st' ⟨hS,na,nb,out,mg,rfl,I,hx⟩
  have h1:=I.sz
  have h2:=I.ha
  have h3:=I.hb
  exfalso
  omega
 case post =>
  rintro c st' ⟨hS,r,na,nb,out,mg,rfl,hg⟩
  exact o5 (h r st' hS hg)
 case step =>
  rintro x c st1 _ hx ⟨hS1,na,nb,out,mg,rfl,I,hsz⟩
  refine k9 (X1 (G7
   (I:=fun j c st'=>Sm st st'/\∃ na' nb' out' ac bc,c=(none,na',nb',out',ac,bc)/\HiI B a b out' na' nb'/\x+1<=out'.size/\(1<=j->x+2<=out'.size))
   (Q:=fun c st'=>Sm st st'/\((∃ r na' nb' out' ac bc,c=(some r,na',nb',out',ac,bc)/\Good B a b r)\/(∃ na' nb' out' ac bc,c=(none,na',nb',out',ac,bc)/\HiI B a b out' na' nb'/\x+2<=out'.size)))
   ?istep ?ifin ⟨hS1,na,nb,out,0,0,rfl,I,hsz,by omega⟩) ?ipost)
  case ifin =>
   rintro c st' ⟨hS,na',nb',out',ac,bc,rfl,I',h1,h2⟩
   exact⟨hS,.inr ⟨na',nb',out',ac,bc,rfl,I',h2 (by omega)⟩⟩
  case istep =>
   rintro j c st' _ hj ⟨hS,na',nb',out',ac,bc,rfl,I',h1,_⟩
   have i1:=I'.ha
   have i2:=I'.ha'
   have i3:=I'.hb
   have i4:=I'.hb'
   have i5:=I'.sz
   obtain⟨bx,eb,eb',Sb⟩:=gb (nb' - 1) (by omega)
   obtain⟨ax,ea,ea',Sa⟩:=ga (na' - 1) (by omega)
   refine k9 (F4 eb (k9 (F4 ea (k9 (aA2 C (hS.k.trans hk) Sb Sa ?_)))))
   cases ew:B bx ax with
   | true =>
    refine M3 rfl ?_
    refine k9 (F4 ea ?_)
    have m2:=pushA out' na' nb' ax i1 I'.m ea' fun y hy=>by
     obtain⟨j,h1,h2,h3⟩:=M4 hy
     exact o.of_lt (o.le_lt (leB j (nb' - 1) y bx (by omega) h3 eb') ew)
    by_cases e3:na' - 1=0
    ·refine M3 (by simpa using e3) ?_
     exact o5 ⟨hS,.inl ⟨_,_,_,_,_,_,rfl,goodDone _ _ _ m2 (.inl e3)⟩⟩
    refine L5 (by simpa using e3) ?_
    have I2:HiI B a b (out'.push ax) (na' - 1) nb':=⟨m2,by omega,by omega,i3,i4,by rw[C9];omega⟩
    have z2:x+2<=(out'.push ax).size:=by rw[C9];omega
    refine aj9 ?_ ?_
    ·exact o5 ⟨hS,.inr ⟨_,_,_,_,_,rfl,I2,z2⟩⟩
    ·exact o5 ⟨hS,_,_,_,_,_,rfl,I2,al4 z2,fun _=>z2⟩
   | false =>
    refine L5 j9 ?_
    refine k9 (F4 eb ?_)
    have m2:=pushB out' na' nb' bx (by omega) I'.m eb' fun y hy=>by
     obtain⟨j,h1,h2,h3⟩:=M4 hy
     exact o.trans (leA j (na' - 1) y ax (by omega) h3 ea') ew
    by_cases e3:nb' - 1=1
    ·refine M3 (by simpa using e3) ?_
     exact o5 ⟨hS,.inl ⟨_,_,_,_,_,_,rfl,goodFirst _ _ _ m2 e3⟩⟩
    refine L5 (by simpa using e3) ?_
    have I2:HiI B a b (out'.push bx) na' (nb' - 1):=⟨m2,i1,i2,by omega,by omega,by rw[C9];omega⟩
    have z2:x+2<=(out'.push bx).size:=by rw[C9];omega
    refine aj9 ?_ ?_
    ·exact o5 ⟨hS,.inr ⟨_,_,_,_,_,rfl,I2,z2⟩⟩
    ·exact o5 ⟨hS,_,_,_,_,_,rfl,I2,al4 z2,fun _=>z2⟩
  case ipost =>
   rintro c st2 ⟨hS2,⟨r,na',nb',out',ac,bc,rfl,hg⟩ | ⟨na',nb',out',ac,bc,rfl,I',hz⟩⟩
   ·exact o5 ⟨hS2,r,_,_,_,_,rfl,hg⟩
   refine k9 (ad4 ?_)
   refine k9 (X1 (G7
    (I:=fun j c st'=>Sm st st'/\∃ na' nb' out' mg ac bc,c=(none,na',nb',out',mg,ac,bc)/\HiI B a b out' na' nb'/\x+2<=out'.size)
    (Q:=fun c st'=>Sm st st'/\((∃ r na' nb' out' mg ac bc,c=(some r,na',nb',out',mg,ac,bc)/\Good B a b r)\/(∃ na' nb' out' mg ac bc,c=(none,na',nb',out',mg,ac,bc)/\HiI B a b out' na' nb'/\x+2<=out'.size)))
    ?gstep ?gfin ⟨hS2,na',nb',out',_,ac,bc,rfl,I',hz⟩) ?gpost)
   case gfin =>
    rintro c st' ⟨hS,na',nb',out',mg,ac,bc,rfl,I',h1⟩
    exact⟨hS,.inr ⟨na',nb',out',mg,ac,bc,rfl,I',h1⟩⟩
   case gpost =>
    rintro c st3 ⟨hS3,⟨r,na',nb',out',mg,ac,bc,rfl,hg⟩ | ⟨na',nb',out',mg,ac,bc,rfl,I',hz⟩⟩
    ·exact o5 ⟨hS3,r,_,_,_,_,rfl,hg⟩
    exact k9 (ak0 (o5 ⟨hS3.mg _,_,_,_,_,rfl,I',by omega⟩))
   case gstep =>
    rintro j c st' _ hj ⟨hS,na',nb',out',mg,ac,bc,rfl,I',hz⟩
    dsimp (config:={ zeta:=false }) only
    have i1:=I'.ha
    have i2:=I'.ha'
    have i3:=I'.hb
    have i4:=I'.hb'
    have i5:=I'.sz
    obtain⟨bx,eb,eb',Sb⟩:=gb (nb' - 1) (by omega)
    revert mg
    refine aQ4 (fun _=>rfl) fun mg1=>?_
    try dsimp (config:={ zeta:=false }) only
    refine k9 (ak0 (k9 (F4 eb ?_)))
    refine k9 (W6 o C (hS.k.trans hk) Sb (by omega) (fun i y hi e=>hSa y (j0 (by rw[<- tl];exact e))) (fun i j y z hij hj e e'=>leA _ _ y z (W5 hij _) (by rw[<- tl];exact e) (by rw[<- tl];exact e')) (by omega) fun k hkn hlt hge=>?_)
    dsimp (config:={ zeta:=false }) only
    have hlt':∀ y∈(a.toList.take k).reverse,le B y bx:=fun y hy=>by
     obtain⟨i,h1,h2,h3⟩:=M4 hy
     have q:=hlt i y h1 (by rw[Q6,tl];exact h3)
     show B bx y=false
     simpa [byn] using q
    have hge':∀ y∈((a.toList.drop k).take (na' - k)).reverse,∀ z∈(b.toList.take nb').reverse,le B z y:=fun y hy z hz'=>by
     rw[aO6]at hy
     obtain⟨i,h1,h3⟩:=X5 hy
     have q:=hge (k+i) y (by omega) (by omega) (by rw[Q6,tl];exact h3)
     obtain⟨j',h4,h5,h6⟩:=M4 hz'
     have q':B bx y=true:=by simpa [byn] using q
     exact o.of_lt (o.le_lt (leB j' (nb' - 1) z bx (by omega) h6 eb') q')
    have m1':=blkA out' na' nb' k hkn I'.m hge'
    generalize hd:na' - k=d
    generalize eo:out'=o
    generalize en:na'=n
    revert o n
    refine ap5 (R:=fun out1 na1=>HM B a b out1 na1 nb'/\(∀ y∈(a.toList.take na1).reverse,le B y bx)/\0<na1/\na1<=a.size/\out1.size+na1+nb'=a.size+b.size/\x+2<=out1.size) ?_ (fun hk J=>?_) (fun hk=>?_)
    rotate_left
    ·by_cases e4:k=0
     ·refine M3 (by simpa using e4) ?_
      exact o5 ⟨hS.mg _,.inl ⟨_,_,_,_,_,_,_,rfl,goodDone _ _ _ m1' (.inl e4)⟩⟩
     refine L5 (by simpa using e4) ?_
     exact J (out'++(a.extract k na').reverse) k ⟨m1',hlt',by omega,by omega,by rw[L3,bI7,J7];omega,by rw[L3];omega⟩
    ·have e9:k=na':=by omega
     exact⟨I'.m,by rw[<- e9];exact hlt',i1,i2,i5,hz⟩
    rintro out1 na1 ⟨m1,hge1,hne1,hle1,sz1,z1⟩
    refine k9 (F4 eb ?_)
    have m2:=pushB out1 na1 nb' bx (by omega) m1 eb' hge1
    by_cases e5:nb' - 1=1
    ·refine M3 (by simpa using e5) ?_
     exact o5 ⟨hS.mg _,.inl ⟨_,_,_,_,_,_,_,rfl,goodFirst _ _ _ m2 e5⟩⟩
    refine L5 (by simpa using e5) ?_
    generalize ho:out1.push bx=o2 at m2 ⊢
    have so2:o2.size=out1.size+1:=by rw[<- ho,C9]
    generalize hn:nb' - 1=n2 at m2 e5 ⊢
    obtain⟨ax,ea,ea',Sa⟩:=ga (na1 - 1) (by omega)
    refine k9 (F4 ea ?_)
    refine k9 (W6 o C (hS.k.trans hk) Sa (by omega) (fun i y hi e=>hSb y (j0 (by rw[<- tl];exact e))) (fun i j y z hij hj e e'=>leB _ _ y z (W5 hij _) (by rw[<- tl];exact e) (by rw[<- tl];exact e')) (by omega) fun k' hkn' hlt2 hge2=>?_)
    dsimp (config:={ zeta:=false }) only
    have hlt2':∀ y∈(b.toList.take k').reverse,le B y ax:=fun y hy=>by
     obtain⟨i,h1,h2,h3⟩:=M4 hy
     have q:=hlt2 i y h1 (by rw[Q6,tl];exact h3)
     have q':B y ax=true:=by simpa [byn] using q
     exact o.of_lt q'
    have hge2':∀ y∈((b.toList.drop k').take (n2 - k')).reverse,∀ z∈(a.toList.take na1).reverse,le B z y:=fun y hy z hz'=>by
     rw[aO6]at hy
     obtain⟨i,h1,h3⟩:=X5 hy
     have q:=hge2 (k'+i) y (by omega) (by omega) (by rw[Q6,tl];exact h3)
     obtain⟨j',h4,h5,h6⟩:=M4 hz'
     have q':B y ax=false:=by simpa [byn] using q
     exact o.trans (leA j' (na1 - 1) z ax (by omega) h6 ea') q'
    have m3':=blkB o2 na1 n2 k' hkn' m2 hge2'
    have sz2:o2.size+na1+n2=a.size+b.size:=by omega
    generalize hd2:n2 - k'=d2
    generalize eo:o2=o
    generalize en:n2=n
    revert o n
    refine ap5 (R:=fun out2 nb2=>HM B a b out2 na1 nb2/\(∀ y∈(b.toList.take nb2).reverse,le B y ax)/\1<nb2/\nb2<=b.size/\out2.size+na1+nb2=a.size+b.size/\x+2<=out2.size) ?_ (fun hk J=>?_) (fun hk=>?_)
    rotate_left
    ·by_cases e6:k'=1
     ·refine M3 (by simpa using e6) ?_
      exact o5 ⟨hS.mg _,.inl ⟨_,_,_,_,_,_,_,rfl,goodFirst _ _ _ m3' e6⟩⟩
     refine L5 (by simpa using e6) ?_
     by_cases e7:k'=0
     ·refine M3 (by simpa using e7) ?_
      exact o5 ⟨hS.mg _,.inl ⟨_,_,_,_,_,_,_,rfl,goodDone _ _ _ m3' (.inr e7)⟩⟩
     refine L5 (by simpa using e7) ?_
     exact J (o2++(b.extract k' n2).reverse) k' ⟨m3',hlt2',by omega,by omega,by rw[L3,bI7,J7];omega,by rw[L3];omega⟩
    ·have e8:k'=n2:=by omega
     exact⟨m2,by rw[<- e8];exact hlt2',by omega,by omega,sz2,by omega⟩
    rintro out2 nb2 ⟨m3,hge3,hne3,hle3,sz3,z3⟩
    refine k9 (F4 ea ?_)
    have m4:=pushA out2 na1 nb2 ax hne1 m3 ea' hge3
    by_cases e7:na1 - 1=0
    ·refine M3 (by simpa using e7) ?_
     exact o5 ⟨hS.mg _,.inl ⟨_,_,_,_,_,_,_,rfl,goodDone _ _ _ m4 (.inl e7)⟩⟩
    refine L5 (by simpa using e7) ?_
    have I4:HiI B a b (out2.push ax) (na1 - 1) nb2:=⟨m4,by omega,by omega,hne3,hle3,by rw[C9];omega⟩
    have z4:x+2<=(out2.push ax).size:=by
     rw[C9]
     omega
    refine aj9 ?_ ?_
    ·exact o5 ⟨hS.mg _,.inr ⟨_,_,_,_,_,_,rfl,I4,z4⟩⟩
    ·exact o5 ⟨hS.mg _,_,_,_,_,_,_,rfl,I4,z4⟩
end
def KF {O:aX5}(f:Keyed->O.α)(d:O.α)(xs:Array Keyed)(i:Nat):O.α:=match xs[i]? with
 | some p=>f p
 | none=>d
def Bf {O:aX5}(f:Keyed->O.α)(x y:Keyed):Bool:=O.blt (f x) (f y)
theorem Bf.ord {O:aX5}(f:Keyed->O.α):Ord (Bf f):=⟨fun x=>O.irrefl _,fun x y z=>O.trans _ _ _,fun x y z=>O.negTrans _ _ _⟩
section
variable {O:aX5} {f:Keyed->O.α} {d:O.α}
theorem aj5 {xs ys:Array Keyed}(h:xs[i]?=ys[j]?):KF f d xs i=KF f d ys j:=by unfold KF;rw[h]
theorem az9 {xs:Array Keyed}{x:Keyed}(h:xs[i]?=some x):KF f d xs i=f x:=by unfold KF;rw[h]
theorem aJ4 {xs:Array Keyed}{src dd:Nat}(hs:src<xs.size)(hd:dd<=src)(k:Nat) :
  KF f d (bubble xs src dd) k=if k=src - dd then KF f d xs src else if src - dd<k/\k<=src then KF f d xs (k - 1) else KF f d xs k:=by
 have e:=getElem?_bubble hs dd hd k
 repeat' split at e
 all_goals first
  | (rw[if_pos (by assumption)];exact aj5 e)
  | (rw[if_neg (by assumption),if_pos (by assumption)];exact aj5 e)
  | (rw[if_neg (by assumption),if_neg (by assumption)];exact aj5 e)
theorem au9 {xs:Array Keyed}(hj:j<=xs.size)(k:Nat):KF f d (mirror xs i j ((j - i) / 2)) k=if i<=k/\k<j then KF f d xs (i+j - 1 - k) else KF f d xs k:=by
 have e:=bX6 (i:=i) hj k
 split at e
 ·rw[if_pos (by assumption)];exact aj5 e
 ·rw[if_neg (by assumption)];exact aj5 e
theorem Q1 {xs:Array Keyed}(hj:j<=xs.size)(heq:∀ k,i<=k->k<j->KF f d xs k=KF f d xs (j - 1))(k:Nat):KF f d (mirror xs i j ((j - i) / 2)) k=KF f d xs k:=by
 rw[au9 hj]
 split
 ·rw[heq _ (by omega) (by omega),heq k (by omega) (by omega)]
 ·rfl
end
def V8 {O:aX5}(f:Keyed->O.α)(d:O.α)(lo:Nat)(xs:Array Keyed)(k:Nat):Prop:=∀ i j,i<=j->j<k->O.kle (KF f d xs (lo+i)) (KF f d xs (lo+j))
def ag0 {O:aX5}(f:Keyed->O.α)(d:O.α)(lo:Nat)(xs:Array Keyed)(k:Nat):Prop:=∀ i j,i<=j->j<k->O.kle (KF f d xs (lo+j)) (KF f d xs (lo+i))
def Pre (lo:Nat)(xs ys:Array Keyed):Prop:=∀ k,k<lo->ys[k]?=xs[k]?
theorem Pre.rf (lo:Nat)(xs:Array Keyed):Pre lo xs xs:=fun _ _=>rfl
theorem Pre.trans {lo:Nat}{xs ys zs:Array Keyed}(a:Pre lo xs ys)(b:Pre lo ys zs):Pre lo xs zs:=fun k hk=>(b k hk).trans (a k hk)
theorem Pre.mirror {lo:Nat}{xs:Array Keyed}(hj:j<=xs.size)(hi:lo<=i):Pre lo xs (mirror xs i j ((j - i) / 2)):=fun k hk=>by
 rw[bX6 hj,if_neg (by omega)]
theorem Pre.bubble {lo src dd:Nat}{xs:Array Keyed}(hs:src<xs.size)(hd:dd<=src)(hl:lo<=src - dd):Pre lo xs (bubble xs src dd):=fun k hk=>by
 rw[getElem?_bubble hs dd hd,if_neg (by omega),if_neg (by omega)]
structure SI (a₀:Array Keyed) (κ:SortKind) (p:Array (Nat × Nat × Nat)) (st:SortSt):Prop where
 perm:(o8 st).Perm a₀
 kind:kindOf st=κ
 failed:S0 st=none
 pend:D5 st=p
section
variable {a₀:Array Keyed} {p:Array (Nat × Nat × Nat)} {O:aX5} {f:Keyed->O.α} {d:O.α}
theorem SI.size {st:SortSt}(h:SI a₀ κ p st):(o8 st).size=a₀.size:=h.perm.size_eq
theorem SI.setArr {st:SortSt}(h:SI a₀ κ p st){xs:Array Keyed}(hp:xs.Perm (o8 st)):SI a₀ κ p (setArr st xs):=⟨hp.trans h.perm,h.kind,h.failed,h.pend⟩
theorem SI.at {st:SortSt}(h:SI a₀ κ p st)(hi:i<a₀.size):∃ x,(o8 st)[i]?=some x/\x∈a₀.toList:=by
 have hi':i<(o8 st).size:=by rw[h.size];exact hi
 exact⟨(o8 st)[i],getElem?_pos _ i hi',(U2.mp h.perm).mem_iff.mp (by simp)⟩
abbrev bI5 (prog:Program)(w:World)(A:Around)(E:Value->Shared->Prop)(s:Shared)(κ:SortKind)(a₀:Array Keyed){O:aX5}(f:Keyed->O.α):Prop:=Cmp prog w A E s κ (·∈a₀.toList) (Bf f)
theorem af4 (C:bI5 prog w A E s κ a₀ f){st:SortSt}{Q:Option Bool->SortSt->Prop}(hB:SI a₀ κ p st)(hi:i<a₀.size)(hj:j<a₀.size)
  (h:Q (some (O.blt (KF f d (o8 st) i) (KF f d (o8 st) j))) st):wpS (u7 prog w) A E s (ltAt' i j) Q st:=by
 obtain⟨x,e1,hx⟩:=hB.at hi
 obtain⟨y,e2,hy⟩:=hB.at hj
 rw[az9 e1,az9 e2]at h
 exact bi4 C hB.kind e1 e2 hx hy h
theorem bc3 {st:SortSt} {lo a nrem:Nat} {Q:Option (Option Nat) × Nat->SortSt->Prop} {b:Nat->Option (Option Nat) × Nat->StateT SortSt Sem (ForInStep (Option (Option Nat) × Nat))} (ha:1<=a) (han:a<=nrem)
  (hb : ∀ x n (R : ForInStep (Option (Option Nat) × Nat) -> SortSt -> Prop), 1 <= n -> n < nrem -> (O.klt (KF f d (o8 st) (lo + n)) (KF f d (o8 st) (lo + n - 1)) -> R (.done (none, n)) st) ->
   (O.kle (KF f d (o8 st) (lo+n - 1)) (KF f d (o8 st) (lo+n))->R (.yield (none,n+1)) st)->wpS (u7 prog w) A E s (b x (none,n)) R st)
  (hs:V8 f d lo (o8 st) a)
  (h:∀ n,a<=n->n<=nrem->V8 f d lo (o8 st) n->(n=nrem\/O.klt (KF f d (o8 st) (lo+n)) (KF f d (o8 st) (lo+n - 1)))->Q (none,n) st) :
  wpS (u7 prog w) A E s (forIn [a:nrem] (none,a) b) Q st:=by
 refine G7 (I:=fun x c st'=>st'=st/\c=(none,x)/\V8 f d lo (o8 st) x) ?step ?fin ⟨rfl,rfl,hs⟩
 case fin =>
  rintro c st' ⟨rfl,rfl,hs'⟩
  rw[show max a nrem=nrem by omega]at hs' ⊢
  exact h nrem han (d6 _) hs' (.inl rfl)
 case step =>
  rintro x c st' hax hxn ⟨rfl,rfl,hs'⟩
  refine hb x x _ (by omega) hxn (fun q=>h x hax (by omega) hs' (.inr q)) (fun q=>⟨rfl,rfl,fun i j hij hj=>?_⟩)
  by_cases hjx:j<x
  ·exact hs' i j hij hjx
  ·have hj':j=x:=by omega
   subst hj'
   by_cases hi':i=j
   ·subst hi';exact KeyOrd.kle_refl _
   ·refine KeyOrd.kle_trans (hs' i (j - 1) (by omega) (by omega)) ?_
    rw[show lo+(j - 1)=lo+j - 1 by omega]
    exact q
theorem bo7 {st:SortSt} {lo nrem:Nat} {Q:Option (Option Nat) × Nat × Nat->SortSt->Prop} (hn:lo+nrem<=a₀.size) (h1:1<=n) (hnn:n<=nrem) (hB:SI a₀ κ p st)
  (hb : ∀ y x neq st' (R : ForInStep (Option (Option Nat) × Nat × Nat) -> SortSt -> Prop), SI a₀ κ p st' -> 1 <= x -> x < nrem ->
   (O.klt (KF f d (o8 st') (lo+x)) (KF f d (o8 st') (lo+x - 1))->0<neq->R (.yield (none,x+1,0)) (setArr st' (mirror (o8 st') (lo+x - (neq+1)) (lo+x) ((lo+x - (lo+x - (neq+1))) / 2)))) ->
   (O.klt (KF f d (o8 st') (lo+x)) (KF f d (o8 st') (lo+x - 1))->R (.yield (none,x+1,0)) st') ->
   (R (.done (none,x,neq)) st') ->
   (O.kle (KF f d (o8 st') (lo+x - 1)) (KF f d (o8 st') (lo+x))->O.kle (KF f d (o8 st') (lo+x)) (KF f d (o8 st') (lo+x - 1))->R (.yield (none,x+1,neq+1)) st')->wpS (u7 prog w) A E s (b y (none,x,neq)) R st')
  (hs:ag0 f d lo (o8 st) n)
  (h:∀ m neq st',SI a₀ κ p st'->Pre lo (o8 st) (o8 st')->n<=m->m<=nrem->ag0 f d lo (o8 st') m->neq+1<=m->(∀ i,m - (neq+1)<=i->i<m->KF f d (o8 st') (lo+i)=KF f d (o8 st') (lo+m - 1))->Q (none,m,neq) st') :
  wpS (u7 prog w) A E s (forIn [n:nrem] (none,n,0) b) Q st:=by
 refine G7 (I:=fun x c st'=>∃ neq,c=(none,x,neq)/\SI a₀ κ p st'/\Pre lo (o8 st) (o8 st')/\ag0 f d lo (o8 st') x/\neq+1<=x /\
   (∀ i,x - (neq+1)<=i->i<x->KF f d (o8 st') (lo+i)=KF f d (o8 st') (lo+x - 1))) ?step ?fin ⟨0,rfl,hB,Pre.rf _ _,hs,by omega,fun i h1 h2=>by congr 1;omega⟩
 case fin =>
  rintro c st' ⟨neq,rfl,hB',hp',hs',hq,he⟩
  rw[show max n nrem=nrem by omega]at hs' hq he ⊢
  exact h nrem neq st' hB' hp' hnn (d6 _) hs' hq he
 case step =>
  rintro x c st' hax hxn ⟨neq,rfl,hB',hp',hs',hq,he⟩
  have hsz:lo+x<=(o8 st').size:=by rw[hB'.size];omega
  have step1:O.klt (KF f d (o8 st') (lo+x)) (KF f d (o8 st') (lo+x - 1))->∀ xs:Array Keyed,(∀ k,KF f d xs k=KF f d (o8 st') k)->ag0 f d lo xs (x+1):=by
   intro hless xs hk i j hij hj
   rw[hk,hk]
   by_cases hjx:j<x
   ·exact hs' i j hij hjx
   ·have hj':j=x:=by omega
    subst hj'
    by_cases hi':i=j
    ·subst hi';exact KeyOrd.kle_refl _
    ·refine KeyOrd.kle_trans (KeyOrd.kle_of_klt hless) ?_
     rw[show lo+j - 1=lo+(j - 1) by omega]
     exact hs' i (j - 1) (by omega) (by omega)
  have he':∀ k,lo+x - (neq+1)<=k->k<lo+x->KF f d (o8 st') k=KF f d (o8 st') (lo+x - 1):=fun k h1 h2=>by
   have:=he (k - lo) (by omega) (by omega)
   rw[show lo+(k - lo)=k by omega]at this
   exact this
  refine hb x x neq st' _ hB' (by omega) hxn (fun q hneq=>?_) (fun q=>?_) (h x neq st' hB' hp' hax (by omega) hs' hq he) (fun q q'=>?_)
  ·exact⟨0,rfl,hB'.setArr (bh6 _ _ _ _),hp'.trans (Pre.mirror hsz (by omega)),step1 q _ (Q1 hsz he'),by omega,fun i h1 h2=>by congr 1;omega⟩
  ·exact⟨0,rfl,hB',hp',step1 q _ (fun _=>rfl),by omega,fun i h1 h2=>by congr 1;omega⟩
  ·have heqx:KF f d (o8 st') (lo+x)=KF f d (o8 st') (lo+x - 1):=KeyOrd.kle_antisymm q' q
   refine⟨neq+1,rfl,hB',hp',fun i j hij hj=>?_,by omega,fun i h1 h2=>?_⟩
   ·by_cases hjx:j<x
    ·exact hs' i j hij hjx
    ·have hj':j=x:=by omega
     subst hj'
     by_cases hi':i=j
     ·subst hi';exact KeyOrd.kle_refl _
     ·rw[heqx,show lo+j - 1=lo+(j - 1) by omega];exact hs' i (j - 1) (by omega) (by omega)
   ·rw[show lo+(x+1) - 1=lo+x by omega]
    by_cases hix:i=x
    ·subst hix;rfl
    ·rw[heqx];exact he i (by omega) (by omega)
theorem wpS_countRun (C:bI5 prog w A E s κ a₀ f) {st:SortSt} {lo nrem:Nat} {Q:Option Nat->SortSt->Prop} (d:O.α) (hn:lo+nrem<=a₀.size) (h1:1<=nrem) (hB:SI a₀ κ p st)
    (h:∀ m st',SI a₀ κ p st'->Pre lo (o8 st) (o8 st')->1<=m->m<=nrem->V8 f d lo (o8 st') m->Q (some m) st') :
    wpS (u7 prog w) A E s (countRun' lo nrem) Q st:=by
  rw[countRun'_eq]
  dsimp only
  refine k9 (bc3 (f:=f) (d:=d) (lo:=lo) (d6 1) h1 (fun x n R hn1 hn2 q1 q2=>?_) (fun i j hij hj=>by have:i=j:=(by omega);subst this;exact KeyOrd.kle_refl _) fun n hn1 hn2 hsn hor=>?_)
  · dsimp only
    refine k9 (af4 (d:=d) C hB (by omega) (by omega) ?_)
    cases e:O.blt (KF f d (o8 st) (lo+n)) (KF f d (o8 st) (lo+n - 1)) with
    | true=>exact o5 (q1 e)
    | false=>exact o5 (q2 e)
  dsimp only
  by_cases hnn:n=nrem
  · rw[if_pos (by simpa using hnn)]
    exact o5 (h n st hB (Pre.rf _ _) hn1 hn2 hsn)
  rw[if_neg (by simpa using hnn)]
  have hlt:=hor.resolve_left hnn
  by_cases hrose:1<n/\O.blt (KF f d (o8 st) lo) (KF f d (o8 st) (lo+n - 1))=true
  · rw[if_pos hrose.1]
    refine k9 (af4 (d:=d) C hB (by omega) (by omega) ?_)
    rw[hrose.2]
    exact o5 (h n st hB (Pre.rf _ _) hn1 hn2 hsn)
  have hfell:1<n->O.blt (KF f d (o8 st) lo) (KF f d (o8 st) (lo+n - 1))=false:=fun hgt=>by
    cases e:O.blt (KF f d (o8 st) lo) (KF f d (o8 st) (lo+n - 1)) with
    | false=>rfl
    | true=>exact absurd ⟨hgt,e⟩ hrose
  have fall:∃ st2,SI a₀ κ p st2/\Pre lo (o8 st) (o8 st2)/\ag0 f d lo (o8 st2) (n+1)/\(n > 1->st2=setArr st (mirror (o8 st) lo (lo+n) ((lo+n - lo) / 2)))/\(¬ n > 1->st2=st):=by
    by_cases hgt:1<n
    · have hfell:=hfell hgt
      have hsz:lo+n<=(o8 st).size:=by rw[hB.size];omega
      have hall:∀ k,lo<=k->k<lo+n->KF f d (o8 st) k=KF f d (o8 st) (lo+n - 1):=by
        intro k hk0 hk
        have a1:=hsn 0 (k - lo) (by omega) (by omega)
        have a2:=hsn (k - lo) (n - 1) (by omega) (by omega)
        rw[show lo+0=lo by omega,show lo+(k - lo)=k by omega]at a1
        rw[show lo+(k - lo)=k by omega,show lo+(n - 1)=lo+n - 1 by omega]at a2
        exact KeyOrd.kle_antisymm a2 (KeyOrd.kle_trans hfell a1)
      refine⟨_,hB.setArr (bh6 _ _ _ _),Pre.mirror hsz (d6 _),?_,fun _=>rfl,fun e=>by omega⟩
      intro i j hij hj
      show O.kle (KF f d (mirror (o8 st) _ _ _) (lo+j)) (KF f d (mirror (o8 st) _ _ _) (lo+i))
      rw[Q1 hsz hall,Q1 hsz hall]
      by_cases hjn:j<n
      · rw[hall (lo+i) (by omega) (by omega),hall (lo+j) (by omega) (by omega)];exact KeyOrd.kle_refl _
      · have hj':j=n:=by omega
        subst hj'
        by_cases hi':i=j
        · subst hi';exact KeyOrd.kle_refl _
        · rw[hall (lo+i) (by omega) (by omega)];exact KeyOrd.kle_of_klt hlt
    · have hn1':n=1:=by omega
      subst hn1'
      refine⟨st,hB,Pre.rf _ _,?_,fun q=>by omega,fun _=>rfl⟩
      intro i j hij hj
      by_cases hi':i=j
      · subst hi';exact KeyOrd.kle_refl _
      · have hi0:i=0:=by omega
        have hj1:j=1:=by omega
        subst hi0;subst hj1
        rw[show lo+0=lo+1 - 1 by omega]
        exact KeyOrd.kle_of_klt hlt
  obtain⟨st2,hB2,hp2,hs2,e2,e3⟩:=fall
  by_cases hgt:n > 1
  all_goals first
    | (rw [if_pos hgt]
       refine k9 (af4 (d:=d) C hB (by omega) (by omega) ?_)
       rw[hfell hgt]
       dsimp only
       rw[if_neg j9]
       refine k9 (aF8 ?_)
       rw[<- e2 hgt])
    | (rw [if_neg hgt]
       have e3:=e3 hgt
       rw[<- e3])
  all_goals
    clear e2 e3
    refine k9 (ad4 ?_)
    refine k9 (bo7 (f:=f) (d:=d) (lo:=lo) hn (by omega) (by omega) hB2 (fun y x neq st' R hB' x1 x2 q1 q2 q3 q4=>?_) hs2 fun m neq st' hB' hp' hm1 hm2 hs' hq he=>?_)
    · dsimp only
      refine k9 (af4 (d:=d) C hB' (by omega) (by omega) ?_)
      cases e:O.blt (KF f d (o8 st') (lo+x)) (KF f d (o8 st') (lo+x - 1)) with
      | true =>
        dsimp only
        rw[if_pos rfl]
        split
        · rename_i hz
          exact k9 (aF8 (o5 (q1 e hz)))
        · exact o5 (q2 e)
      | false =>
        dsimp only
        rw[if_neg j9]
        refine k9 (af4 (d:=d) C hB' (by omega) (by omega) ?_)
        cases e':O.blt (KF f d (o8 st') (lo+x - 1)) (KF f d (o8 st') (lo+x)) with
        | true=>exact o5 q3
        | false=>exact o5 (q4 e e')
    · dsimp only
      have hsz:lo+m<=(o8 st').size:=by rw[hB'.size];omega
      have he':∀ k,lo+m - (neq+1)<=k->k<lo+m->KF f d (o8 st') k=KF f d (o8 st') (lo+m - 1):=fun k h1 h2=>by
        have:=he (k - lo) (by omega) (by omega)
        rw[show lo+(k - lo)=k by omega]at this
        exact this
      have tailOk:∀ st3,SI a₀ κ p st3->Pre lo (o8 st) (o8 st3)->ag0 f d lo (o8 st3) m->SI a₀ κ p (setArr st3 (mirror (o8 st3) lo (lo+m) ((lo+m - lo) / 2)))/\Pre lo (o8 st) (mirror (o8 st3) lo (lo+m) ((lo+m - lo) / 2))/\V8 f d lo (mirror (o8 st3) lo (lo+m) ((lo+m - lo) / 2)) m:=fun st3 hB3 hp3 hs3=>by
        have hsz3:lo+m<=(o8 st3).size:=by rw[hB3.size];omega
        refine⟨hB3.setArr (bh6 _ _ _ _),hp3.trans (Pre.mirror hsz3 (d6 _)),fun i j hij hj=>?_⟩
        rw[au9 hsz3,au9 hsz3,if_pos (by omega),if_pos (by omega),show lo+(lo+m) - 1 - (lo+i)=lo+(m - 1 - i) by omega,show lo+(lo+m) - 1 - (lo+j)=lo+(m - 1 - j) by omega]
        exact hs3 _ _ (by omega) (by omega)
      have mm:ag0 f d lo (mirror (o8 st') (lo+m - (neq+1)) (lo+m) ((lo+m - (lo+m - (neq+1))) / 2)) m:=fun i j hij hj=>by
        rw[Q1 hsz he',Q1 hsz he']
        exact hs' i j hij hj
      by_cases hneq:neq > 0
      all_goals first
        | (rw [if_pos hneq]
           refine k9 (aF8 (k9 (aF8 ?_)))
           obtain⟨hB4,hp4,hs4⟩:=tailOk (setArr st' (mirror (o8 st') (lo+m - (neq+1)) (lo+m) ((lo+m - (lo+m - (neq+1))) / 2))) (hB'.setArr (bh6 _ _ _ _)) ((hp2.trans hp').trans (Pre.mirror hsz (by omega))) mm)
        | (rw [if_neg hneq]
           refine k9 (aF8 ?_)
           obtain⟨hB4,hp4,hs4⟩:=tailOk st' hB' (hp2.trans hp') hs')
      all_goals
        refine k9 (bc3 (f:=f) (d:=d) (lo:=lo) (by omega) hm2 (fun x n R hn1 hn2 q1 q2=>?_) hs4 fun n' hn1' hn2' hsn' _=>o5 (h n' _ hB4 hp4 (by omega) hn2' hsn'))
        dsimp only
        refine k9 (af4 (d:=d) C hB4 (by omega) (by omega) ?_)
        revert q1 q2
        generalize KF f d (o8 _) (lo+n)=u
        generalize KF f d (o8 _) (lo+n - 1)=v
        intro q1 q2
        cases e:O.blt u v with
        | true=>exact o5 (q1 e)
        | false=>exact o5 (q2 e)
theorem aw8 (C:bI5 prog w A E s κ a₀ f) {st:SortSt} {lo ok:Nat} {Q:Bool->SortSt->Prop} (d:O.α) (hn:lo+n<=a₀.size) (hok:ok<=n) (hB:SI a₀ κ p st) (hs:V8 f d lo (o8 st) ok)
  (h:∀ st',SI a₀ κ p st'->Pre lo (o8 st) (o8 st')->V8 f d lo (o8 st') n->Q true st'):wpS (u7 prog w) A E s (binarySort' lo n ok) Q st:=by
 rw[binarySort'_eq]
 refine k9 (X1 (G7 (I:=fun k c st'=>c=(none,())/\SI a₀ κ p st'/\Pre lo (o8 st) (o8 st')/\V8 f d lo (o8 st') (min k n))
  (Q:=fun c st'=>c=(none,())/\SI a₀ κ p st'/\Pre lo (o8 st) (o8 st')/\V8 f d lo (o8 st') n) ?step ?fin ?init) ?post)
 case post =>
  rintro c st' ⟨rfl,hB',hp',hs'⟩
  exact o5 (h st' hB' hp' hs')
 case init =>
  refine⟨rfl,hB,Pre.rf _ _,fun i j hij hj=>?_⟩
  by_cases h1:ok=0
  ·have:i=j:=by omega
   subst this;exact KeyOrd.kle_refl _
  ·exact hs i j hij (by omega)
 case fin =>
  rintro c st' ⟨hc,hB',hp',hs'⟩
  refine⟨hc,hB',hp',?_⟩
  rwa [show min (max (max ok 1) n) n=n by omega]at hs'
 case step =>
  rintro k c st' hak hkn ⟨rfl,hB',hp',hs'⟩
  rw[show min k n=k by omega]at hs'
  have hk:lo+k<a₀.size:=by omega
  refine k9 (X1 (G7 (I:=fun x c st''=>st''=st'/\∃ l r,c=(none,l,r)/\l<=r/\r<=k/\r - l<=k - x /\
    (∀ i,i<l->O.kle (KF f d (o8 st') (lo+i)) (KF f d (o8 st') (lo+k)))/\(∀ i,r<=i->i<k->O.klt (KF f d (o8 st') (lo+k)) (KF f d (o8 st') (lo+i))))
   (Q := fun c st'' => st'' = st' /\ ∃ l r, c = (none, l, r) /\ l <= k /\
    (∀ i,i<l->O.kle (KF f d (o8 st') (lo+i)) (KF f d (o8 st') (lo+k)))/\(∀ i,l<=i->i<k->O.klt (KF f d (o8 st') (lo+k)) (KF f d (o8 st') (lo+i)))) ?istep ?ifin ?iinit) ?ipost)
  case iinit=>exact⟨rfl,0,k,rfl,by omega,by omega,by omega,fun i hi=>by omega,fun i h1 h2=>by omega⟩
  case ifin =>
   rintro c st'' ⟨rfl,l,r,rfl,hlr,hrk,hm,hlo,hhi⟩
   have:l=r:=by omega
   subst this
   exact⟨rfl,l,l,rfl,hrk,hlo,hhi⟩
  case istep =>
   rintro x c st'' _ hxk ⟨rfl,l,r,rfl,hlr,hrk,hm,hlo,hhi⟩
   dsimp only
   by_cases hge:l≥r
   ·rw[if_pos hge]
    have:l=r:=by omega
    subst this
    exact o5 ⟨rfl,l,l,rfl,hrk,hlo,hhi⟩
   ·rw[if_neg hge]
    refine k9 (af4 (d:=d) C hB' hk (by omega) ?_)
    cases hless:O.blt (KF f d (o8 st'') (lo+k)) (KF f d (o8 st'') (lo+(l+r) / 2))
    case true =>
     simp only[if_true]
     refine o5 ⟨rfl,l,(l+r) / 2,rfl,by omega,by omega,by omega,hlo,fun i h1 h2=>?_⟩
     exact KeyOrd.klt_of_klt_of_kle hless (hs' _ _ h1 h2)
    case false =>
     simp only[t7,if_false]
     refine o5 ⟨rfl,(l+r) / 2+1,r,rfl,by omega,by omega,by omega,fun i h1=>?_,hhi⟩
     exact KeyOrd.kle_trans (hs' i ((l+r) / 2) (by omega) (by omega)) (show O.kle _ _ from hless)
  case ipost =>
   rintro c st'' ⟨rfl,l,r,rfl,hlk,hlo,hhi⟩
   show wpS _ _ _ _ (do moveDown' (lo+k) (lo+l);pure (ForInStep.yield (none,()))) _ _
   rw[moveDown'_eq]
   have hks:lo+k<(o8 st'').size:=by rw[hB'.size];exact hk
   refine k9 (ay2 (o5 ⟨rfl,hB'.setArr (bubble_perm _ _ _),hp'.trans (Pre.bubble hks (by omega) (by omega)),?_⟩))
   rw[show min (k+1) n=k+1 by omega]
   intro i j hij hj
   show O.kle (KF f d (bubble (o8 st'') (lo+k) (lo+k - (lo+l))) (lo+i)) (KF f d (bubble (o8 st'') (lo+k) (lo+k - (lo+l))) (lo+j))
   rw[aJ4 hks (by omega),aJ4 hks (by omega),show lo+k - (lo+k - (lo+l))=lo+l by omega]
   have e1:∀ t:Nat,0<t->lo+t - 1=lo+(t - 1):=fun t ht=>by omega
   repeat' split
   all_goals first
    | (exfalso;omega)
    | exact KeyOrd.kle_refl _
    | exact hlo _ (by omega)
    | (rw[e1 _ (by omega)];exact KeyOrd.kle_of_klt (hhi _ (by omega) (by omega)))
    | exact KeyOrd.kle_of_klt (hhi _ (by omega) (by omega))
    | exact hs' _ _ (by omega) (by omega)
    | (rw[e1 _ (by omega)];exact hs' _ _ (by omega) (by omega))
    | (rw[e1 _ (by omega),e1 _ (by omega)];exact hs' _ _ (by omega) (by omega))
end
theorem aU6 (i:Nat):mergeAt' i=(do
 let s <- get
 let (some (sa,na,power),some (sb,nb,_)):=((D5 s)[i]?,(D5 s)[i+1]?) | aF7 "internal:list.sort.pending"
 set (bz8 s (((D5 s).setIfInBounds i (sa,na+nb,power)).eraseIdxIfInBounds (i+1)))
 let some k <- Z8 false (<- ah7 (o8 s) sb) (o8 s) sa na 0 | return false
 let (sa,na):=(sa+k,na - k)
 if na == 0 then return true
 let some nb <- Z8 true (<- ah7 (o8 s) (sa+na - 1)) (o8 s) sb nb (nb - 1) | return false
 if nb == 0 then return true
 let x:=(o8 s).extract sa sb
 let y:=(o8 s).extract sb (sb+nb)
 let merged <- if na<=nb then aC7 x y else aC8 x y
 modify fun s=>setArr s (merged.toList.zipIdx.foldl (fun a (p,j)=>a.setIfInBounds (sa+j) p) (o8 s))
 return (S0 (<- get)).isNone):=rfl
def shape (ps:List (Nat × Nat × Nat)):List (Nat × Nat):=ps.map fun x=>(x.1,x.2.1)
def aq9:Nat->List (List Keyed)->List (Nat × Nat)
 | _,[]=>[]
 | k,r::rs=>(k,r.length)::aq9 (k+r.length) rs
theorem ac4:∀ (k:Nat) (rs ts:List (List Keyed)),aq9 k (rs++ts)=aq9 k rs++aq9 (k+rs.flatten.length) ts
 | k,[],ts=>by simp[aq9]
 | k,r::rs,ts=>by
  rw[bW7]
  show (k,r.length)::aq9 (k+r.length) (rs++ts)=(k,r.length)::(aq9 (k+r.length) rs++_)
  rw[ac4 (k+r.length) rs ts,N3,m5,Nat.add_assoc]
theorem ac3:∀ (k:Nat) (rs:List (List Keyed)),(aq9 k rs).length=rs.length
 | _,[]=>rfl
 | k,r::rs=>by
  show (aq9 (k+r.length) rs).length+1=rs.length+1
  rw[ac3]
theorem aR0 {α:Type}{l:List α}(h:i+1<l.length):∃ l1 u v l2,l=l1++u::v::l2/\l1.length=i:=by
 refine⟨l.take i,l[i],l[i+1],l.drop (i+2),?_,by rw[u5];omega⟩
 rw[<- ah1,<- ah1,E7]
theorem aV8 (b:Nat):∀ (m:List Keyed) (k:Nat) (arr:Array Keyed),b+k+m.length<=arr.size ->
  (ad3 (fun a x=>match x with | (p,j)=>bA0 a (b+j) p) arr (m.zipIdx k)).toList=arr.toList.take (b+k)++(m++arr.toList.drop (b+k+m.length))
 | [],k,arr,h=>by simp
 | x::m,k,arr,h=>by
  rw[m6]at h
  rw[aO7,ae5,aV8 b m (k+1) _ (by rw[bc0];omega)]
  dsimp only
  rw[aX1]
  have hl:b+k<arr.toList.length:=by rw[o7];omega
  rw[List.set_eq_take_append_cons_drop,if_pos hl]
  have e1:(aX2 (b+k) arr.toList).length=b+k:=by rw[u5];omega
  have e2:(aX2 (b+k) arr.toList++x::List.drop (b+k+1) arr.toList).take (b+(k+1))=aX2 (b+k) arr.toList++[x]:=by
   rw[bW8,e1,show b+(k+1) - (b+k)=1 by omega,o6 (by rw[e1];omega)]
   rfl
  have e3:(aX2 (b+k) arr.toList++x::List.drop (b+k+1) arr.toList).drop (b+(k+1)+m.length)=arr.toList.drop (b+k+(m.length+1)):=by
   rw[ab8,e1,L0 (by rw[e1];omega),S9,show b+(k+1)+m.length - (b+k)=m.length+1 by omega,List.drop_succ_cons,bb8]
   congr 1
   omega
  rw[e2,e3,E3]
  rfl
theorem bB4 {σ:Type}{x:σ}{Q:PUnit->σ->Prop}{st:σ}(h:Q ⟨⟩ x):wpS M A E s (set x:StateT σ Sem PUnit) Q st:=by
 unfold wpS;rw[StateT.run_set];exact i7 ⟨rfl,h⟩
structure SR (a₀:Array Keyed) (κ:SortKind) (B:Keyed->Keyed->Bool) (runs:List (List Keyed)) (suf:List Keyed) (st:SortSt):Prop where
 perm:(o8 st).Perm a₀
 kind:kindOf st=κ
 failed:S0 st=none
 sh:shape (D5 st).toList=aq9 0 runs
 ok:∀ r∈runs,r≠[]/\r.Pairwise (le B)
 arr:(o8 st).toList=runs.flatten++suf
section
variable {a₀:Array Keyed}
theorem ad8 {l:List Keyed}(h:l.Pairwise R)(rf:∀ x,R x x){x y:Keyed}(hij:i<=j)(hx:l[i]?=some x)(hy:l[j]?=some y):R x y:=by
 obtain⟨h1,rfl⟩:=j5.mp hx
 obtain⟨h2,rfl⟩:=j5.mp hy
 rcases M8 hij with hlt | rfl
 ·exact v7.mp h i j h1 h2 hlt
 ·exact rf _
theorem av3 (o:Ord B)(C:Cmp prog w A E s κ (·∈a₀.toList) B){st:SortSt}{runs:List (List Keyed)}{suf:List Keyed}{Q:Bool->SortSt->Prop}(I:SR a₀ κ B runs suf st)(hi:i+1<runs.length)
  (h:∀ runs' st',SR a₀ κ B runs' suf st'->runs'.length+1=runs.length->runs'.flatten.length=runs.flatten.length->Q true st'):wpS (u7 prog w) A E s (mergeAt' i) Q st:=by
 obtain⟨r1,R,R',r2,rfl,hr1⟩:=aR0 hi
 have hpl:(D5 st).toList.length=(r1++R::R'::r2).length:=by
  have:=congrArg am1 I.sh
  rw[ac3]at this
  unfold shape at this
  rw[b9]at this
  exact this
 obtain⟨l1,u,v,l2,hp,hl1⟩:=aR0 (l:=(D5 st).toList) (i:=i) (by rw[hpl];exact hi)
 have hsh:=I.sh
 rw[hp,ac4]at hsh
 unfold shape at hsh
 rw[p7]at hsh
 obtain⟨s1,s2⟩:=List.append_inj hsh (by rw[b9,ac3,hl1,hr1])
 rw[x8,x8]at s2
 simp only[aq9,List.cons.injEq,Q6]at s2
 obtain⟨su,sv,s2⟩:=s2
 obtain⟨sa,na,pw⟩:=u
 obtain⟨sb,nb,pw2⟩:=v
 simp only[Prod.mk.injEq]at su sv
 obtain⟨hsa,hna⟩:=su
 obtain⟨hsb,hnb⟩:=sv
 have okR:=I.ok R (by simp)
 have okR':=I.ok R' (by simp)
 have nR:0<R.length:=ax6.mpr okR.1
 have nR':0<R'.length:=ax6.mpr okR'.1
 have g1:(D5 st)[i]?=some (sa,na,pw):=by
  rw[<- i9,hp,K7 (by omega),hl1,aO8]
  rfl
 have g2:(D5 st)[i+1]?=some (sb,nb,pw2):=by
  rw[<- i9,hp,K7 (by omega),hl1,show i+1 - i=1 by omega]
  rfl
 have harr:(o8 st).toList=r1.flatten++(R++(R'++(r2.flatten++suf))):=by
  rw[I.arr]
  simp
 have hsize:(o8 st).size=sa+(na+(nb+(r2.flatten++suf).length)):=by
  rw[<- o7,harr,m5,m5,m5,hsa,hna,hnb]
 have atR:∀ k,k<na->(o8 st)[sa+k]?=R[k]?:=fun k hk=>by
  rw[<- i9,harr,K7 (by omega),hsa,Q9,ah0 (by omega)]
 have atR':∀ k,k<nb->(o8 st)[sb+k]?=R'[k]?:=fun k hk=>by
  rw[<- i9,harr,K7 (by omega),K7 (by omega),ah0 (by omega)]
  congr 1
  omega
 have inS:∀ x∈(o8 st).toList,x∈a₀.toList:=fun x hx=>(U2.mp I.perm).mem_iff.mp hx
 have hpend:∀ M:List Keyed,M.length=na+nb->shape (((D5 st).setIfInBounds i (sa,na+nb,pw)).eraseIdxIfInBounds (i+1)).toList=aq9 0 (r1++M::r2):=fun M hM=>by
  have e:(((D5 st).setIfInBounds i (sa,na+nb,pw)).eraseIdxIfInBounds (i+1)).toList=l1++(sa,na+nb,pw)::l2:=by
   rw[Array.toList_eraseIdxIfInBounds,aX1,hp]
   subst hl1
   rw[List.set_append_right _ _ (d6 _),aO8,List.set_cons_zero,List.eraseIdx_append_of_length_le (by omega)]
   rw[show l1.length+1 - l1.length=1 by omega]
   rfl
  unfold shape
  rw[e,p7,s1,ac4,x8]
  show _++(sa,na+nb)::_=_++(0+r1.flatten.length,M.length)::aq9 (0+r1.flatten.length+M.length) r2
  rw[hM,s2,Q6,hsa,hna,hnb,Nat.add_assoc]
 have fin:∀ (st':SortSt) (M:List Keyed),kindOf st'=κ->S0 st'=none->D5 st'=((D5 st).setIfInBounds i (sa,na+nb,pw)).eraseIdxIfInBounds (i+1) ->
   (o8 st').toList=r1.flatten++(M++(r2.flatten++suf))->M.Perm (R++R')->M.Pairwise (le B)->Q true st':=fun st' M k1 k2 k3 k4 k5 k6=>by
  have hM:M.length=na+nb:=by rw[k5.length_eq,m5,hna,hnb]
  refine h (r1++M::r2) st' ⟨?_,k1,k2,by rw[k3];exact hpend M hM,fun r hr=>?_,?_⟩ (by simp;omega) (by simp;omega)
  ·refine Array.Perm.trans ?_ I.perm
   rw[U2,k4,harr]
   refine List.Perm.append_left _ ?_
   rw[<- E3 R]
   exact List.Perm.append_right _ k5
  ·rcases u9.mp hr with hr | hr
   ·exact I.ok r (J8 _ hr)
   ·rcases j6.mp hr with rfl | hr
    ·exact⟨by intro e;rw[e]at hM;simp at hM;omega,k6⟩
    ·exact I.ok r (o4 _ (i8 _ (i8 _ hr)))
  ·rw[k4];simp
 have both:(∀ x∈R,∀ y∈R',le B x y)->(R++R').Pairwise (le B):=fun hxy=>C2.mpr ⟨okR.2,okR'.2,hxy⟩
 rw[aU6]
 refine k9 (aw6 ?_)
 rw[g1,g2]
 dsimp only
 refine k9 (bB4 ?_)
 obtain⟨y0,ey0⟩:∃ y0,R'[0]?=some y0:=⟨R'[0],i6 nR'⟩
 have ey:(o8 st)[sb]?=some y0:=by
  have:=atR' 0 (by omega)
  rw[aO9]at this
  rw[this,ey0]
 refine k9 (F4 ey ?_)
 have hy0:y0∈a₀.toList:=inS y0 (j0 (by rw[i9];exact ey))
 refine k9 (W6 o C (by exact I.kind) hy0 (by omega) (fun i x hi' e=>inS x (j0 (by rw[i9];exact e)))
  (fun i j x y hij hj e e'=>ad8 okR.2 o.rf hij (by rw[<- atR i (by omega)];exact e) (by rw[<- atR j hj];exact e')) (by omega) fun k hk hlt hge=>?_)
 dsimp only
 have leR:∀ (j:Nat) (x:Keyed),j<k->R[j]?=some x->le B x y0:=fun j x hj e=>by
  have q:=hlt j x hj (by rw[atR j (by omega)];exact e)
  show B y0 x=false
  simpa [byn] using q
 have gtR:∀ (j:Nat) (x:Keyed),k<=j->R[j]?=some x->B y0 x=true:=fun j x hj e=>by
  have hjl:j<R.length:=(j5.mp e).1
  have q:=hge j x hj (by omega) (by rw[atR j (by omega)];exact e)
  simpa [byn] using q
 have leY:∀ y∈R',le B y0 y:=fun y hy=>by
  obtain⟨j,hj⟩:=q0.mp hy
  exact ad8 okR'.2 o.rf (v8 j) ey0 hj
 by_cases e0:na - k=0
 ·rw[if_pos (by simpa using e0)]
  refine o5 (fin _ (R++R') I.kind I.failed rfl ?_ (List.Perm.refl _) (both fun x hx y hy=>?_))
  ·show (o8 st).toList=_
   rw[harr];simp
  ·obtain⟨j,hj⟩:=q0.mp hx
   have hjl:j<R.length:=(j5.mp hj).1
   exact o.trans (leR j x (by omega) hj) (leY y hy)
 rw[if_neg (by simpa using e0)]
 obtain⟨xl,exl⟩:∃ xl,R[na - 1]?=some xl:=⟨R[na - 1]'(by omega),i6 (by omega)⟩
 have ex:(o8 st)[sa+k+(na - k) - 1]?=some xl:=by
  rw[show sa+k+(na - k) - 1=sa+(na - 1) by omega,atR _ (by omega),exl]
 refine k9 (F4 ex ?_)
 have hxl:xl∈a₀.toList:=inS xl (j0 (by rw[i9];exact ex))
 refine k9 (W6 o C (by exact I.kind) hxl (by omega) (fun i x hi' e=>inS x (j0 (by rw[i9];exact e)))
  (fun i j x y hij hj e e'=>ad8 okR'.2 o.rf hij (by rw[<- atR' i (by omega)];exact e) (by rw[<- atR' j hj];exact e')) (by omega) fun k2 hk2 hlt2 hge2=>?_)
 dsimp only
 have ltY:∀ (j:Nat) (x:Keyed),j<k2->R'[j]?=some x->B x xl=true:=fun j x hj e=>by
  have q:=hlt2 j x hj (by rw[atR' j (by omega)];exact e)
  simpa [byn] using q
 have geY:∀ (j:Nat) (x:Keyed),k2<=j->R'[j]?=some x->le B xl x:=fun j x hj e=>by
  have hjl:j<R'.length:=(j5.mp e).1
  have q:=hge2 j x hj (by omega) (by rw[atR' j (by omega)];exact e)
  show B x xl=false
  simpa [byn] using q
 have leX:∀ x∈R,le B x xl:=fun x hx=>by
  obtain⟨j,hj⟩:=q0.mp hx
  have hjl:j<R.length:=(j5.mp hj).1
  exact ad8 okR.2 o.rf (by omega) hj exl
 by_cases e1:k2=0
 ·rw[if_pos (by simpa using e1)]
  refine o5 (fin _ (R++R') I.kind I.failed rfl ?_ (List.Perm.refl _) (both fun x hx y hy=>?_))
  ·show (o8 st).toList=_
   rw[harr];simp
  ·obtain⟨j,hj⟩:=q0.mp hy
   exact o.trans (leX x hx) (geY j y (by omega) hj)
 rw[if_neg (by simpa using e1)]
 have ex1:((o8 st).extract (sa+k) sb).toList=R.drop k:=by
  rw[az5,harr,hsa,ab8,L0 (by omega),S9,Q9,aP0 (by omega),ab9 (by rw[C0];omega)]
  exact o6 (by rw[C0];omega)
 have ey1:((o8 st).extract sb (sb+k2)).toList=R'.take k2:=by
  rw[az5,harr,hsb,<- E3,ab8,L0 (by rw[m5];omega),S9,m5,aO8,bb9,Q9,ab9 (by omega)]
 have sx:((o8 st).extract (sa+k) sb).size=na - k:=by rw[<- o7,ex1,C0];omega
 have sy:((o8 st).extract sb (sb+k2)).size=k2:=by rw[<- o7,ey1,u5];omega
 have pre1:∀ x y,((o8 st).extract sb (sb+k2))[0]?=some x->((o8 st).extract (sa+k) sb)[0]?=some y->B x y=true:=fun x y hx hy=>by
  rw[<- i9,ey1,W4 (by omega),ey0]at hx
  cases hx
  rw[<- i9,ex1,Y0]at hy
  exact gtR (k+0) y (by omega) hy
 have pre2:∀ x∈((o8 st).extract sb (sb+k2)).toList,∀ y,((o8 st).extract (sa+k) sb)[((o8 st).extract (sa+k) sb).size - 1]?=some y->B x y=true:=fun x hx y hy=>by
  rw[<- i9,ex1,Y0,sx,show k+(na - k - 1)=na - 1 by omega,exl]at hy
  cases hy
  rw[ey1]at hx
  obtain⟨j,hj⟩:=q0.mp hx
  rw[S3]at hj
  split at hj
  ·rename_i hlt'
   exact ltY j x hlt' hj
  ·cases hj
 have sS1:∀ x∈((o8 st).extract (sa+k) sb).toList,x∈a₀.toList:=fun x hx=>by
  rw[ex1]at hx
  refine inS x ?_
  rw[harr]
  exact o4 _ (J8 _ (J9 hx))
 have sS2:∀ x∈((o8 st).extract sb (sb+k2)).toList,x∈a₀.toList:=fun x hx=>by
  rw[ey1]at hx
  refine inS x ?_
  rw[harr]
  exact o4 _ (o4 _ (J8 _ (K0 hx)))
 have so1:((o8 st).extract (sa+k) sb).toList.Pairwise (le B):=by rw[ex1];exact okR.2.sublist (aj6 _ _)
 have so2:((o8 st).extract sb (sb+k2)).toList.Pairwise (le B):=by rw[ey1];exact okR'.2.sublist (U1 _ _)
 have done:∀ (r:Array Keyed) (st3:SortSt),Sm (bz8 st (((D5 st).setIfInBounds i (sa,na+nb,pw)).eraseIdxIfInBounds (i+1))) st3->Good B ((o8 st).extract (sa+k) sb) ((o8 st).extract sb (sb+k2)) r ->
   wpS (u7 prog w) A E s (do
    modify fun s=>setArr s (ad3 (fun a x=>match x with | (p,j)=>bA0 a (sa+k+j) p) (o8 s) r.toList.zipIdx)
    let __do_lift <- get
    pure (S0 __do_lift).isNone) Q st3:=fun r st3 hS hg=>by
  refine k9 (ay2 (k9 (aw6 (o5 ?_))))
  have hf:S0 st3=none:=hS.f.trans I.failed
  show Q (S0 st3).isNone _
  rw[hf]
  obtain⟨g1,g2⟩:=hg
  rw[ex1,ey1]at g2
  have hrl:r.toList.length=na - k+k2:=by rw[g2.length_eq,m5,C0,u5];omega
  refine fin _ (R.take k++(r.toList++R'.drop k2)) (hS.k.trans I.kind) hf hS.p ?_ ?_ ?_
  ·show (ad3 _ (o8 st3) (r.toList.zipIdx 0)).toList=_
   rw[hS.a]
   show (ad3 _ (o8 st) (r.toList.zipIdx 0)).toList=_
   rw[aV8 (sa+k) r.toList 0 (o8 st) (by omega),harr,aO9,hrl]
   have t1:aX2 (sa+k) (r1.flatten++(R++(R'++(r2.flatten++suf))))=r1.flatten++R.take k:=by
    rw[bW8,o6 (by omega),show sa+k - r1.flatten.length=k by omega,ab9 (by omega)]
   have t2:List.drop (sa+k+(na - k+k2)) (r1.flatten++(R++(R'++(r2.flatten++suf))))=R'.drop k2++(r2.flatten++suf):=by
    rw[ab8,L0 (by omega),S9,ab8,L0 (by omega),S9,aP0 (by omega)]
    congr 2
    omega
   rw[t1,t2]
   simp
  ·have:(R.take k++(r.toList++R'.drop k2)).Perm (R.take k++((R.drop k++R'.take k2)++R'.drop k2)):=List.Perm.append_left _ (List.Perm.append_right _ g2)
   refine this.trans (List.Perm.of_eq ?_)
   rw[E3,E7,<- E3,E7]
  ·have inM:∀ z∈r.toList,z∈R.drop k\/z∈R'.take k2:=fun z hz=>u9.mp (g2.mem_iff.mp hz)
   have tk:∀ {l:List Keyed} {n:Nat} {x:Keyed},x∈l.take n->∃ j,j<n/\l[j]?=some x:=fun {l n x} hx=>by
    obtain⟨j,hj⟩:=q0.mp hx
    rw[S3]at hj
    split at hj
    ·rename_i hlt'
     exact⟨j,hlt',hj⟩
    ·cases hj
   refine C2.mpr ⟨okR.2.sublist (U1 _ _),C2.mpr ⟨g1,okR'.2.sublist (aj6 _ _),fun x hx y hy=>?_⟩,fun x hx y hy=>?_⟩
   ·obtain⟨j,h1,h2,h3⟩:=K6 hy
    rcases inM x hx with hx | hx
    ·exact o.trans (leX x (J9 hx)) (geY j y h1 h3)
    ·obtain⟨i',h4,h5⟩:=tk hx
     exact ad8 okR'.2 o.rf (by omega) h5 h3
   ·obtain⟨i',h4,h5⟩:=tk hx
    rcases u9.mp hy with hy | hy
    ·rcases inM y hy with hy | hy
     ·obtain⟨j,h1,h2,h3⟩:=K6 hy
      exact ad8 okR.2 o.rf (by omega) h5 h3
     ·exact o.trans (leR i' x h4 h5) (leY y (K0 hy))
    ·exact o.trans (leR i' x h4 h5) (leY y (J9 hy))
 by_cases e2:na - k<=k2
 ·rw[if_pos e2]
  exact k9 (aQ2 o C (by exact I.kind) sS1 sS2 so1 so2 (by omega) (by omega) pre1 pre2 fun r st3 hS hg=>done r st3 hS hg)
 ·rw[if_neg e2]
  exact k9 (aQ3 o C (by exact I.kind) sS1 sS2 so1 so2 (by omega) (by omega) pre1 pre2 fun r st3 hS hg=>done r st3 hS hg)
theorem aT1 {runs:List (List Keyed)}{suf:List Keyed}{st:SortSt}(I:SR a₀ κ B runs suf st):(D5 st).size=runs.length:=by
 have:=congrArg am1 I.sh
 rw[ac3]at this
 unfold shape at this
 rw[b9,o7]at this
 exact this
theorem be0:∀ (runs:List (List Keyed)),(∀ r∈runs,r≠[]/\r.Pairwise (le B))->runs.length<=runs.flatten.length
 | [],_=>d6 _
 | r::rs,h=>by
  have h1:=be0 rs fun r hr=>h r (i8 _ hr)
  have h2:0<r.length:=ax6.mpr (h r m7).1
  rw[m6,N3,m5]
  omega
end
section
variable {a₀:Array Keyed} {O:aX5} {f:Keyed->O.α}
theorem bP6 {d:O.α}{xs:Array Keyed}{lo:Nat}(hs:V8 f d lo xs n)(hn:lo+n<=xs.size):((xs.toList.drop lo).take n).Pairwise (le (Bf f))/\((xs.toList.drop lo).take n).length=n:=by
 refine⟨v7.mpr fun i j hi hj hij=>?_,by rw[u5,C0,o7];omega⟩
 have hjn:j<n:=by rw[u5]at hj;omega
 have gi:∀ k,(hk:k<n)->(xs.toList.drop lo)[k]?=some (xs[lo+k]'(by omega)):=fun k hk=>by
  rw[Y0,i9]
  exact getElem?_pos xs _ _
 have e1:((xs.toList.drop lo).take n)[i]=xs[lo+i]'(by omega):=by
  have:=gi i (by omega)
  rw[<- W4 (show i<n by omega),i6 hi]at this
  exact Option.some.inj this
 have e2:((xs.toList.drop lo).take n)[j]=xs[lo+j]'(by omega):=by
  have:=gi j hjn
  rw[<- W4 hjn,i6 hj]at this
  exact Option.some.inj this
 rw[e1,e2]
 have:=hs i j (as7 hij) hjn
 rw[az9 (getElem?_pos xs (lo+i) (by omega)),az9 (getElem?_pos xs (lo+j) (by omega))]at this
 exact this
theorem aQ9 {lo:Nat}{xs ys:Array Keyed}(h:Pre lo xs ys)(hz:ys.size=xs.size):ys.toList.take lo=xs.toList.take lo:=by
 apply aa1
 intro k
 rw[S3,S3]
 split
 ·rw[i9,i9]
  exact h k (by assumption)
 ·rfl
theorem aQ1 (C:bI5 prog w A E s κ a₀ f) {st:SortSt} {Q:Unit->SortSt->Prop} (d:O.α) (hp:(o8 st).Perm a₀) (hk:kindOf st=κ) (hf:S0 st=none) (hpe:D5 st=#[])
    (h:∀ st',(o8 st').Perm a₀->S0 st'=none->(o8 st').toList.Pairwise (le (Bf f))->Q () st'):wpS (u7 prog w) A E s sortRuns' Q st:=by
  have o:Ord (Bf f):=Bf.ord f
  have hsz:(o8 st).size=a₀.size:=hp.size_eq
  rw[sortRuns'_eq]
  refine k9 (aw6 ?_)
  dsimp only
  rw[hsz]
  refine k9 (X1 (G7
    (I:=fun x c st'=>∃ runs suf lo,c=(none,lo)/\SR a₀ κ (Bf f) runs suf st'/\lo=runs.flatten.length/\(x<=lo\/lo=a₀.size)/\lo<=a₀.size)
    (Q:=fun c st'=>∃ runs,c=(none,a₀.size)/\SR a₀ κ (Bf f) runs [] st') ?step ?fin
    ⟨[],(o8 st).toList,0,rfl,⟨hp,hk,hf,by rw[hpe];rfl,(fun _ hr=>nomatch hr),by simp⟩,rfl,.inl (d6 _),v8 _⟩) ?post)
  case fin =>
    rintro c st' ⟨runs,suf,lo,rfl,I,h1,h2,h3⟩
    have e:lo=a₀.size:=by omega
    have hl:=congrArg am1 I.arr
    rw[o7,I.perm.size_eq,m5]at hl
    have:suf=[]:=aP1 (by omega)
    subst this
    exact⟨runs,by rw[e],I⟩
  case step =>
    rintro x c st1 _ hx ⟨runs,suf,lo,rfl,I,h1,h2,h3⟩
    dsimp only
    by_cases hge:lo≥a₀.size
    · rw[if_pos hge]
      have e:lo=a₀.size:=by omega
      have hl:=congrArg am1 I.arr
      rw[o7,I.perm.size_eq,m5]at hl
      have:suf=[]:=aP1 (by omega)
      subst this
      exact o5 ⟨runs,by rw[e],I⟩
    rw[if_neg hge]
    refine k9 (wpS_countRun C d (p:=D5 st1) (by omega) (by omega) ⟨I.perm,I.kind,I.failed,rfl⟩ fun n st2 hB2 hp2 hn1 hn2 hs2=>?_)
    dsimp only
    have cont:∀ (n':Nat) (st3:SortSt),SI a₀ κ (D5 st1) st3->Pre lo (o8 st1) (o8 st3)->1<=n'->n'<=a₀.size - lo->V8 f d lo (o8 st3) n' ->
        ∃ run suf',SR a₀ κ (Bf f) runs (run++suf') st3/\run.length=n'/\run.Pairwise (le (Bf f)):=fun n' st3 hB3 hp3 k1 k2 hs3=>by
      obtain⟨q1,q2⟩:=bP6 hs3 (by rw[hB3.size];omega)
      refine⟨((o8 st3).toList.drop lo).take n',(o8 st3).toList.drop (lo+n'),⟨hB3.perm,hB3.kind,hB3.failed,by rw[hB3.pend];exact I.sh,I.ok,?_⟩,q2,q1⟩
      rw[<- ao5]
      refine(E7 lo (o8 st3).toList).symm.trans ?_
      congr 1
      rw[aQ9 hp3 (by rw[hB3.size,I.perm.size_eq]),I.arr,h1]
      exact List.take_left
    have more:∀ (rs:List (List Keyed)) (run suf':List Keyed) (n':Nat) (st3:SortSt),SR a₀ κ (Bf f) rs (run++suf') st3->rs.flatten.length=lo->run.length=n'->run.Pairwise (le (Bf f))->1<=n'->n'<=a₀.size - lo ->
        ∃ runs suf lo',((none,lo+n'):Option Unit × Nat)=(none,lo')/\SR a₀ κ (Bf f) runs suf (bz8 st3 ((D5 st3).push (lo,n',0)))/\lo'=runs.flatten.length/\(x+1<=lo'\/lo'=a₀.size)/\lo'<=a₀.size:=fun rs run suf' n' st3 I3 e1 e2 e3 k1 k2=>by
      refine⟨rs++[run],suf',lo+n',rfl,⟨I3.perm,I3.kind,I3.failed,?_,fun r hr=>?_,?_⟩,by simp[e1,e2],by omega,by omega⟩
      · show shape ((D5 st3).push (lo,n',0)).toList=_
        rw[Y8,ac4,<- I3.sh]
        unfold shape
        rw[p7,Q6,e1]
        simp[aq9,e2]
      · rcases u9.mp hr with hr | hr
        · exact I3.ok r hr
        · rw[B9.mp hr]
          exact⟨by intro z;rw[z]at e2;simp at e2;omega,e3⟩
      · show (o8 st3).toList=_
        rw[I3.arr]
        simp
    by_cases hlt:n<minRun' a₀.size a₀.size 0
    all_goals first
      | (rw [if_pos hlt]
         refine k9 (ad4 ?_)
         refine k9 (aw8 C d (by omega) (by omega) hB2 hs2 fun st3 hB3 hp3 hs3=>?_)
         simp only[U3,t7,if_false]
         obtain⟨run,suf',I3,e2,e3⟩:=cont _ st3 hB3 (hp2.trans hp3) (by omega) (by omega) hs3
         have k1:1<=min (a₀.size - lo) (minRun' a₀.size a₀.size 0):=by omega
         have k2:min (a₀.size - lo) (minRun' a₀.size a₀.size 0)<=a₀.size - lo:=by omega
         revert e2 k1 k2
         generalize min (a₀.size - lo) (minRun' a₀.size a₀.size 0)=n'
         intro e2 k1 k2)
      | (rw [if_neg hlt]
         obtain⟨run,suf',I3,e2,e3⟩:=cont n st2 hB2 hp2 hn1 hn2 hs2
         have k1:1<=n:=hn1
         have k2:n<=a₀.size - lo:=hn2
         revert e2 k1 k2
         generalize n=n'
         intro e2 k1 k2)
    all_goals
      refine k9 (aw6 ?_)
      split
      ·
        rename_i s1 n1 pw1 hback
        refine k9 (X1 (G7
          (I:=fun _ c st'=>c=(none,())/\∃ rs,SR a₀ κ (Bf f) rs (run++suf') st'/\rs.flatten.length=lo)
          (Q:=fun c st'=>c=(none,())/\∃ rs,SR a₀ κ (Bf f) rs (run++suf') st'/\rs.flatten.length=lo) ?mstep (fun _ _ q=>q) ⟨rfl,runs,I3,h1.symm⟩) ?mpost)
        case mstep =>
          rintro y c st4 _ _ ⟨rfl,rs,I4,e4⟩
          refine k9 (aw6 ?_)
          try dsimp only
          by_cases hz:(D5 st4).size > 1
          · rw[if_pos hz]
            split
            · split
              · exact o5 ⟨rfl,rs,I4,e4⟩
              · refine k9 (av3 o C I4 (by rw[<- aT1 I4];omega) fun rs' st5 I5 _ e5=>?_)
                simp only[U3,t7,if_false]
                exact o5 ⟨rfl,rs',I5,e5.trans e4⟩
            · exact o5 ⟨rfl,rs,I4,e4⟩
          · rw[if_neg hz]
            exact o5 ⟨rfl,rs,I4,e4⟩
        case mpost =>
          rintro c st4 ⟨rfl,rs,I4,e4⟩
          try dsimp only
          refine k9 (ay2 ?_)
          have I5:SR a₀ κ (Bf f) rs (run++suf') (bz8 st4 ((D5 st4).modify ((D5 st4).size - 1) fun x=>match x with | (st,len,snd)=>(st,len,power' a₀.size (2*s1+n1) (2*s1+n1+n1+n') a₀.size))):=by
            refine⟨I4.perm,I4.kind,I4.failed,?_,I4.ok,I4.arr⟩
            rw[<- I4.sh]
            show shape ((D5 st4).modify _ _).toList=_
            rw[Array.toList_modify]
            unfold shape
            apply aa1
            intro k
            rw[E2,E2,List.getElem?_modify]
            cases (D5 st4).toList[k]? with
            | none=>rfl
            | some v =>
              obtain⟨v1,v2,v3⟩:=v
              simp only[Option.map_some]
              split<;>rfl
          exact k9 (ay2 (o5 (more rs run suf' n' _ I5 e4 e2 e3 k1 k2)))
      · exact k9 (ay2 (o5 (more runs run suf' n' _ I3 h1.symm e2 e3 k1 k2)))
  case post =>
    rintro c st1 ⟨runs,rfl,I⟩
    try dsimp only
    refine k9 (X1 (G7
      (I:=fun x c st'=>c=(none,())/\∃ rs,SR a₀ κ (Bf f) rs [] st'/\(rs.length+x<=a₀.size\/rs.length<=1))
      (Q:=fun c st'=>c=(none,())/\∃ rs,SR a₀ κ (Bf f) rs [] st'/\rs.length<=1) ?fstep ?ffin ⟨rfl,runs,I,.inl ?fst⟩) ?fpost)
    case fst =>
      have h1:=be0 runs I.ok
      have hl:=congrArg am1 I.arr
      rw[o7,I.perm.size_eq,N6]at hl
      omega
    case ffin =>
      rintro c st' ⟨rfl,rs,I',q⟩
      exact⟨rfl,rs,I',by omega⟩
    case fstep =>
      rintro x c st2 _ hx ⟨rfl,rs,I2,q⟩
      refine k9 (aw6 ?_)
      try dsimp only
      have hpl:=aT1 I2
      by_cases hz:(D5 st2).size<=1
      · rw[if_pos hz]
        exact o5 ⟨rfl,rs,I2,by omega⟩
      rw[if_neg hz]
      refine k9 (av3 o C I2 ?_ fun rs' st3 I3 e3 _=>?_)
      · (repeat' split)<;>omega
      · simp only[U3,t7,if_false]
        exact o5 ⟨rfl,rs',I3,by omega⟩
    case fpost =>
      rintro c st2 ⟨rfl,rs,I2,q⟩
      refine o5 (h st2 I2.perm I2.failed ?_)
      rw[I2.arr,N6]
      match rs,I2.ok,q with
      | [],_,_=>exact List.Pairwise.nil
      | [r],ok,_=>simpa using (ok r (by simp)).2
end
end Tim
namespace Tim
open PySem PyProof.Rows PySem.W
def O4:List Int->List Int->Bool
 | [],[]=>false
 | [],_::_=>true
 | _::_,[]=>false
 | a::x,b::y=>if a=b then O4 x y else decide (a<b)
theorem aU7:∀ x,O4 x x=false
 | []=>rfl
 | a::x=>by unfold O4;rw[if_pos rfl];exact aU7 x
theorem aN2:∀ x y z,O4 x y=true->O4 y z=true->O4 x z=true
 | [],[],z,h,_=>by cases h
 | [],_::_,[],_,h=>by cases h
 | [],_::_,_::_,_,_=>rfl
 | _::_,[],z,h,_=>by cases h
 | _::_,_::_,[],_,h=>by cases h
 | a::x,b::y,c::z,h1,h2=>by
  unfold O4 at h1 h2 ⊢
  by_cases e1:a=b
  ·subst e1
   rw[if_pos rfl]at h1
   by_cases e2:a=c
   ·rw[if_pos e2]at h2 ⊢
    exact aN2 x y z h1 h2
   ·rw[if_neg e2]at h2 ⊢
    exact h2
  ·rw[if_neg e1,decide_eq_true_eq]at h1
   by_cases e2:b=c
   ·subst e2
    rw[if_neg e1,decide_eq_true_eq]
    exact h1
   ·rw[if_neg e2,decide_eq_true_eq]at h2
    rw[if_neg (by omega),decide_eq_true_eq]
    omega
theorem aD2:∀ x y,O4 x y=false->O4 y x=false->x=y
 | [],[],_,_=>rfl
 | [],_::_,h,_=>by cases h
 | _::_,[],_,h=>by cases h
 | a::x,b::y,h1,h2=>by
  unfold O4 at h1 h2
  by_cases e:a=b
  ·subst e
   rw[if_pos rfl]at h1 h2
   rw[aD2 x y h1 h2]
  ·rw[if_neg e,decide_eq_false_iff_not]at h1
   rw[if_neg (Ne.symm e),decide_eq_false_iff_not]at h2
   omega
theorem bF9 (x y z:List Int)(h:O4 x z=true):O4 x y=true\/O4 y z=true:=by
 cases e1:O4 x y with
 | true=>exact .inl rfl
 | false =>
  cases e2:O4 y x with
  | true=>exact .inr (aN2 _ _ _ e2 h)
  | false=>rw[aD2 x y e1 e2]at h;exact .inr h
def bF8:aX5:=⟨List Int,O4,aU7,aN2,bF9,aD2⟩
def IsK (prog:Program)(w:World)(h:Heap)(k:List Int)(v:Value):Prop:=∃ a,v=.ref a/\N0 (C6 prog w) h k a
theorem IsK.inj {k':List Int}(x:IsK prog w h k v)(y:IsK prog w h k' v):k=k':=by
 obtain⟨a,rfl,h1⟩:=x
 obtain⟨b,e,h2⟩:=y
 cases e
 exact h1.inj h2
open Classical in
noncomputable def ad9 (prog:Program)(w:World)(h:Heap)(v:Value):List Int:=if q:∃ k,IsK prog w h k v then Classical.choose q else []
theorem ai9 (x:IsK prog w h k v):ad9 prog w h v=k:=by
 unfold ad9
 rw[dif_pos ⟨k,x⟩]
 exact(Classical.choose_spec (⟨k,x⟩:∃ k,IsK prog w h k v)).inj x
theorem IsK.up (x:IsK prog w h k v)(hs:∀ b o,h.get? b=some o->h'.get? b=some o):IsK prog w h' k v:=by
 obtain⟨a,e,o,items,n,h2,h3⟩:=x
 exact⟨a,e,o,items,n,hs a o h2,h3⟩
theorem aI1 {b:Bool}{Q:Bool->Shared->Prop}(hb:b=true):∀ (x y:List Int) (vs us:List Value) (i:Nat) (fin:Bool),ItemsAre (C6 prog w) x vs->ItemsAre (C6 prog w) y us->(x.length<y.length↔fin=true)->Q (O4 x y) s->KatLex prog w A b fin Q (vs.zip us) i s
 | [],[],_,_,i,fin,.nil,.nil,hf,h=>by
  have:fin=false:=by cases fin with | false=>rfl | true=>exact absurd (hf.mpr rfl) (by simp)
  subst this
  exact kat_nil h
 | [],_::_,_,_,i,fin,.nil,.cons _ _,hf,h=>by
  have:fin=true:=hf.mp (by simp)
  subst this
  exact kat_nil h
 | _::_,[],_,_,i,fin,.cons _ _,.nil,hf,h=>by
  have:fin=false:=by cases fin with | false=>rfl | true=>exact absurd (hf.mpr rfl) (by simp)
  subst this
  exact kat_nil h
 | a::x,c::y,_,_,i,fin,.cons h1 t1,.cons h2 t2,hf,h=>by
  obtain⟨t,rfl⟩:=Value.isInt_shape h1
  obtain⟨u,rfl⟩:=Value.isInt_shape h2
  rw[aF1]
  refine kat_cons (wpAny_eqBool_int ?_)
  unfold O4 at h
  by_cases e:a=c
  ·subst e
   rw[if_pos rfl]at h
   rw[show (a == a)=true by simp]
   exact kat_yes (aI1 hb x y _ _ (i+1) fin t1 t2 (by rw[<- hf];simp) h)
  ·rw[if_neg e]at h
   rw[show (a == c)=false by simpa using e]
   refine kat_no ?_
   cases hi:(b && i == 0) with
   | true=>exact oneLt_int h
   | false=>exact kat_one _ _ (lt_int h)
theorem bv3 {x y:Value}{k':List Int}{Q:Bool->Shared->Prop}(hx:IsK prog w s.heap k x)(hy:IsK prog w s.heap k' y)(h:Q (O4 k k') s):q8 (u7 prog w) A (keyLt' (tuples' true) x y) Q E s:=by
 obtain⟨a,rfl,o,xs,n,ho,hc,hd,hi⟩:=hx
 obtain⟨b,rfl,o',ys,n',ho',hc',hd',hi'⟩:=hy
 refine kat_lt ho hd ho' hd' (aI1 rfl k k' _ _ 0 _ hi hi' ?_ h)
 have e1:k.length=xs.size:=by have:=hi.length;simpa using this
 have e2:k'.length=ys.size:=by have:=hi'.length;simpa using this
 rw[e1,e2]
 simp
theorem ba3 {Q:SortKind->Shared->Prop}(hne:0<vs.length)(hv:∀ v∈vs,∃ i k,IsK prog w s.heap (i::k) v)(h:Q (tuples' true) s):q8 (u7 prog w) A (keyKind' vs.toArray) Q E s:=by
 have ex:∀ l:List Value,(∀ v∈l,∃ i k,IsK prog w s.heap (i::k) v)->∃ fs:List Value,KatTups s.heap l fs/\fs.length=l.length/\∀ v∈fs,∃ i t,v=.int i t:=fun l=>by
  induction l with
  | nil=>intro _;exact⟨[],KatTups.nil,rfl,(fun _ h=>nomatch h)⟩
  | cons v l ih =>
   intro hl
   obtain⟨i,k,a,rfl,o,xs,n,ho,hc,hd,hi⟩:=hl v m7
   obtain⟨fs,f1,f2,f3⟩:=ih fun v hv=>hl v (i8 _ hv)
   obtain⟨f,hf,t,rfl⟩:∃ f,xs[0]?=some f/\∃ t,f=.int i t:=by
    cases e:xs.toList with
    | nil=>rw[e]at hi;cases hi
    | cons f r =>
     rw[e]at hi
     cases hi with
     | cons h1 _ =>
      obtain⟨t,et⟩:=Value.isInt_shape h1
      exact⟨f,by rw[<- i9,e];rfl,t,et⟩
   refine⟨.int i t::fs,KatTups.cons ho hc hd hf f1,by rw[m6,f2,m6],fun v hv=>?_⟩
   rcases j6.mp hv with rfl | hv
   ·exact⟨i,t,rfl⟩
   ·exact f3 v hv
 obtain⟨fs,f1,f2,f3⟩:=ex vs hv
 refine kat_kind (T:=.type "int") f1 (by omega) (fun v hv=>?_) (by decide) ?_
 ·obtain⟨i,t,rfl⟩:=f3 v hv
  exact .now
 ·exact h
theorem bi9 {P:PySem.Fin->Shared->Prop}(ho:s.heap.get? a=some (W1 "list" vs.toArray n))(hz:vs.length<=d7)
  (hv:∀ v∈vs,∃ i k,IsK prog w s.heap (i::k) v)(hna:∀ v∈vs,v≠.ref a)
  (h:∀ out:List Value,out.Perm vs->out.Pairwise (fun x y=>O4 (ad9 prog w s.heap y) (ad9 prog w s.heap x)=false)->P (.done (.ret .none)) { s with heap:=am9 s.heap a vs out.toArray }) :
  q8 (u7 prog w) A (Builtin.«list.sort» ⟨[.ref a],[]⟩) P E s:=by
 rw[list_sort_plain]
 have ha:a<s.heap.objs.size:=d5 ho
 refine b8 (listItems_at ho rfl ?_)
 refine b8 (listUpdate_at ho rfl ?_ (by rw[d9];exact hz) (v8 _))
 obtain⟨e1,ho1⟩:∃ e1,(s.heap.update a (Obj.mapSeq fun _=>#[])).get? a=some (W1 "list" #[] e1):=⟨_,bh7 ho (fun _=>#[])⟩
 refine b8 (seqEpoch_at ho1 rfl ?_)
 refine b8 (wpAny_newTuple ?_ (by show vs.length<=_;exact hz))
 refine b8 (V0 ?_ (v8 _))
 refine E9 ?_
 generalize hH:((s.heap.update a (Obj.mapSeq fun _=>#[])).push (W1 "tuple" vs.toArray 0)).push (W1 "list" #[] 0)=h6
 have ho6:h6.get? a=some (W1 "list" #[] e1):=by rw[<- hH];exact c8 _ (c8 _ ho1)
 have keep:∀ b o,b≠a->s.heap.get? b=some o->h6.get? b=some o:=fun b o hb e=>by
  rw[<- hH]
  exact c8 _ (c8 _ ((B2 s.heap _ (Ne.symm hb)).trans e))
 have up:∀ v∈vs,∀ k,IsK prog w s.heap k v->IsK prog w h6 k v:=fun v hv' k hk=>by
  obtain⟨c,rfl,o,items,n,h2,h3⟩:=hk
  exact⟨c,rfl,o,items,n,keep c o (fun z=>hna _ hv' (by rw[z])) h2,h3⟩
 have fin:∀ st':SortSt,(o8 st').Perm (bX7 vs)->(o8 st').toList.Pairwise (le (Bf (O:=bF8) fun p=>ad9 prog w s.heap p.1))->P (.done (.ret .none)) { s with heap:=am9 s.heap a vs ((o8 st').map (·.2)) }:=fun st' hp hs=>by
  have hl:(o8 st').toList.Perm (vs.zip vs):=by rw[<- pairsOf_toList];exact U2.mp hp
  have hm:((o8 st').map (·.2)).toList=(o8 st').toList.map (·.2):=Array.toList_map ..
  have hz2:(vs.zip vs).map (·.2)=vs:=List.map_snd_zip (d6 _)
  have:=h ((o8 st').toList.map (·.2)) (by have:=hl.map (·.2);rw[hz2]at this;exact this) ?_
  ·rw[show (o8 st').map (·.2)=((o8 st').toList.map (·.2)).toArray by rw[<- hm]]
   exact this
  ·rw[L4]
   refine List.Pairwise.imp_of_mem ?_ hs
   intro x y hx hy hxy
   have ex:=(aj8 (hl.mem_iff.mp hx)).1
   have ey:=(aj8 (hl.mem_iff.mp hy)).1
   rw[<- ex,<- ey]
   exact hxy
 have out:∀ st':SortSt,(o8 st').Perm (bX7 vs)->S0 st'=none->(o8 st').toList.Pairwise (le (Bf (O:=bF8) fun p=>ad9 prog w s.heap p.1)) ->
   q8 (u7 prog w) A (do
    let sorted:=(o8 st').map (·.2)
    let touched:=(<- seqEpoch a) != e1
    Builtin.List.listUpdate (.ref a) fun _=>sorted
    if let some e:=S0 st' then rule "list.sort.comparison-raised";throw e
    if touched then rule "list.sort.modified";raiseError "ValueError" "list modified during sort"
    ret .none) P E { s with heap:=h6 }:=fun st' hp hf hs=>by
  dsimp only
  refine b8 (seqEpoch_at (s:={ s with heap:=h6 }) ho6 rfl ?_)
  refine b8 (listUpdate_at (s:={ s with heap:=h6 }) ho6 rfl ?_ (v8 _) (by refine C4 (bA1 ((av2 ..).trans (hp.size_eq.trans (pairsOf_size _)))) ?_;omega))
  rw[hf]
  simp only[bne_self_eq_false,t7,if_false]
  refine i7 ?_
  have:=fin st' hp hs
  unfold am9 at this
  rw[hH]at this
  exact this
 show q8 (u7 prog w) A _ P E { s with heap:=h6 }
 dsimp only
 by_cases h2:vs.toArray.size<2
 ·rw[if_pos h2,if_pos h2]
  refine b8 (i7 ?_)
  rw[StateT.run_pure]
  refine b8 (i7 ?_)
  refine out (SortSt.mk' general' (vs.toArray.zip vs.toArray) #[] 7 none) (Array.Perm.refl _) rfl ?_
  show (bX7 vs).toList.Pairwise _
  rw[v7]
  intro i j hi hj hij
  rw[o7,pairsOf_size]at hj
  rw[d9]at h2
  omega
 ·rw[if_neg h2,if_neg h2]
  rw[d9]at h2
  refine b8 (ba3 (s:={ s with heap:=h6 }) (by omega) (fun v hv'=>?_) ?_)
  ·obtain⟨i,k,hk⟩:=hv v hv'
   exact⟨i,k,up v hv' _ hk⟩
  refine b8 (E5 (aQ1 (s:={ s with heap:=h6 }) (a₀:=bX7 vs) (κ:=tuples' true) (O:=bF8) (f:=fun p=>ad9 prog w s.heap p.1) (st:=SortSt.mk' (tuples' true) (vs.toArray.zip vs.toArray) #[] 7 none)
   (Q:=fun _ st'=>(o8 st').Perm (bX7 vs)/\S0 st'=none/\(o8 st').toList.Pairwise (le (Bf (O:=bF8) fun p=>ad9 prog w s.heap p.1))) ?_ ([]:List Int) (Array.Perm.refl _) rfl rfl rfl fun st' a1 a2 a3=>⟨a1,a2,a3⟩) ?_ fun _ _ e=>e)
  ·intro x y hx hy Q hq
   rw[pairsOf_toList]at hx hy
   obtain⟨i,k,hk⟩:=hv x.1 (aj8 hx).2
   obtain⟨j,k',hk'⟩:=hv y.1 (aj8 hy).2
   refine bv3 (s:={ s with heap:=h6 }) (up _ (aj8 hx).2 _ hk) (up _ (aj8 hy).2 _ hk') ?_
   rw[<- ai9 hk,<- ai9 hk']
   exact hq
  ·rintro⟨⟨⟩,st'⟩ s' ⟨rfl,hp,hf,hs⟩
   exact out st' hp hf hs
theorem aG1 {l:Addr} (hl:s.heap.IsList l vs.toArray) (hz:vs.length<=d7) (hv:∀ v∈vs,∃ i k,IsK prog w s.heap (i::k) v)
  (h : ∀ (out : List Value) (h' : Heap) (n : Nat), out.Perm vs -> out.Pairwise (fun x y => O4 (ad9 prog w s.heap y) (ad9 prog w s.heap x) = false) -> (∀ b o, s.heap.get? b = some o -> h'.get? b = some o) ->
   h'.get? (s.heap.objs.size+1)=some { cls:=.type "list",data:=.seq out.toArray n }->Q (.ref (s.heap.objs.size+1)) { s with heap:=h' }) :
  q8 (u7 prog w) A (call (.builtin "sorted") [.ref l]) Q E s:=by
 refine Calls.call_function_entry bX8 bM4 bM5 (args_sorted1 _) ?_
 unfold Builtin.«sorted»
 refine b8 (m:=checkCount "sorted" 1 1 _) (i7 ?_)
 refine b8 (collect_list hl ?_ hz)
 refine b8 (V0 ?_ hz)
 have hsz:((s.heap.push (W1 "list" #[] 0)).update s.heap.objs.size (Obj.mapSeq (·++vs.toArray))).objs.size=s.heap.objs.size+1:=by
  rw[Heap.size_update,size_push']
 generalize hH:((s.heap.push (W1 "list" #[] 0)).update s.heap.objs.size (Obj.mapSeq (·++vs.toArray))).push (W1 "list" vs.toArray 0)=h2
 have hoL:h2.get? (s.heap.objs.size+1)=some (W1 "list" vs.toArray 0):=by
  rw[<- hH,<- hsz];exact m9 _ rfl
 have keep:∀ b o,s.heap.get? b=some o->h2.get? b=some o:=fun b o e=>by
  rw[<- hH]
  refine c8 _ ((B2 _ _ ?_).trans (c8 _ e))
  exact Ne.symm (l7 (d5 e))
 have hsz2:h2.objs.size=s.heap.objs.size+2:=by rw[<- hH,size_push',hsz]
 rw[hsz]
 have up:∀ v k,IsK prog w s.heap k v->IsK prog w h2 k v:=fun v k hk=>hk.up keep
 have kA:∀ v∈vs,ad9 prog w h2 v=ad9 prog w s.heap v:=fun v hv'=>by
  obtain⟨i,k,hk⟩:=hv v hv'
  rw[ai9 hk,ai9 (up v _ hk)]
 refine b8 (E9 (S4 bo6 (s:={ s with heap:=h2 }) ⟨_,hoL,rfl⟩ bh8 (bi9 (s:={ s with heap:=h2 }) hoL hz (fun v hv'=>?_) (fun v hv' z=>?_) fun out a1 a2=>⟨_,rfl,?_⟩) (args_list_sort _)))
 ·obtain⟨i,k,hk⟩:=hv v hv'
  exact⟨i,k,up v _ hk⟩
 ·obtain⟨i,k,a,rfl,o,items,n,ho,_⟩:=hv v hv'
  cases z
  exact absurd (d5 ho) (Nat.not_lt.mpr (Q8 _))
 ·have hlast:∃ n,(am9 h2 (s.heap.objs.size+1) vs out.toArray).get? (s.heap.objs.size+1)=some (W1 "list" out.toArray n):=by
   unfold am9
   have g1:=bh7 hoL (fun _=>(#[]:Array Value))
   have g2:(((h2.update (s.heap.objs.size+1) (Obj.mapSeq fun _=>#[])).push (W1 "tuple" vs.toArray 0)).push (W1 "list" #[] 0)).get? (s.heap.objs.size+1)=_:=c8 _ (c8 _ g1)
   exact⟨_,bh7 g2 (fun _=>out.toArray)⟩
  obtain⟨n,hn⟩:=hlast
  refine i7 ⟨_,rfl,h out _ n a1 ?_ (fun b o e=>?_) hn⟩
  ·refine List.Pairwise.imp_of_mem ?_ a2
   intro x y hx hy hxy
   rw[kA x (a1.mem_iff.mp hx),kA y (a1.mem_iff.mp hy)]at hxy
   exact hxy
  ·have hb:b≠s.heap.objs.size+1:=l7 (E4 (d5 e))
   unfold am9
   refine(B2 _ _ (Ne.symm hb)).trans (c8 _ (c8 _ ((B2 _ _ (Ne.symm hb)).trans (keep b o e))))
end Tim
namespace Sett
open PySem PySem.SetTable
theorem ba8 {P:Nat->Prop}(h:∃ n,P n):∃ n,P n/\∀ m,m<n->¬ P m:=by
 obtain⟨n,hn⟩:=h
 induction n using Nat.strongRecOn with
 | ind n ih =>
  by_cases q:∃ m,m<n/\P m
  ·obtain⟨m,hm,pm⟩:=q
   exact ih m hm pm
  ·exact⟨n,hn,fun m hm pm=>q ⟨m,hm,pm⟩⟩
def st (m i pt:Nat):Probe:={ j:=i,more:=runEnd m i - i,i:=i,perturb:=pt,dummy:=none }
def it (t:SetTable):Nat->Probe->Probe
 | 0,p=>p
 | n+1,p=>it t n (t.advance p)
theorem aN7 (t:SetTable):∀ (a b:Nat) (p:Probe),it t (a+b) p=it t b (it t a p)
 | 0,b,p=>by rw[Q6];rfl
 | a+1,b,p=>by
  rw[show a+1+b=(a+b)+1 by omega]
  exact aN7 t a b (t.advance p)
theorem ak8 (t:SetTable)(n:Nat)(p:Probe):it t (n+1) p=t.advance (it t n p):=aN7 t n 1 p
theorem at7 (m i:Nat):i<=runEnd m i/\runEnd m i<=i+9:=by unfold runEnd;split<;>omega
theorem aS8 {m:Nat}(h:i<=m):runEnd m i<=m:=by unfold runEnd;split<;>omega
theorem aN5 (t:SetTable)(i pt:Nat):∀ k,k<=runEnd t.mask i - i->it t k (st t.mask i pt)={ j:=i+k,more:=runEnd t.mask i - i - k,i:=i,perturb:=pt,dummy:=none }
 | 0,_=>rfl
 | k+1,h=>by
  rw[ak8,aN5 t i pt k (by omega)]
  unfold advance
  dsimp only
  rw[if_pos (by omega)]
  simp only[Probe.mk.injEq,and_true,true_and]
  omega
theorem aN6 (t:SetTable)(i pt:Nat):it t (runEnd t.mask i - i+1) (st t.mask i pt)=st t.mask (leap t.mask i pt).1 (leap t.mask i pt).2:=by
 rw[ak8,aN5 t i pt _ (d6 _)]
 unfold advance
 dsimp only
 rw[if_neg (by omega)]
 rfl
def rn (m i pt:Nat):Nat->Nat × Nat
 | 0=>(i,pt)
 | r+1=>leap m (rn m i pt r).1 (rn m i pt r).2
theorem bK7 (m i pt:Nat):∀ r,(rn m i pt r).2=pt / 32 ^ r
 | 0=>by simp[rn]
 | r+1=>by
  show (rn m i pt r).2 / 32=_
  rw[bK7 m i pt r,bz3,Nat.pow_succ]
theorem bK8 (m i pt:Nat)(h:i<=m):∀ r,(rn m i pt r).1<=m
 | 0=>h
 | r+1=>al5 (bW9 _ (ah2 m))
theorem bL4 (t:SetTable)(i pt:Nat):∀ r,∃ n,n<=10*r/\it t n (st t.mask i pt)=st t.mask (rn t.mask i pt r).1 (rn t.mask i pt r).2
 | 0=>⟨0,d6 _,rfl⟩
 | r+1=>by
  obtain⟨n,hn,e⟩:=bL4 t i pt r
  have h9:=at7 t.mask (rn t.mask i pt r).1
  refine⟨n+(runEnd t.mask (rn t.mask i pt r).1 - (rn t.mask i pt r).1+1),by omega,?_⟩
  rw[aN7,e,aN6]
  rfl
def f5 (m i:Nat):Nat:=(i*5+1) % (m+1)
def orb (m:Nat):Nat->Nat->List Nat
 | 0,_=>[]
 | k+1,i=>i::orb m k (f5 m i)
def Full (m:Nat):Prop:=∀ b,b<=m->∀ a,a<=m->∃ n,n<=m/\Nat.repeat (f5 m) n a=b
def chk (m:Nat):Bool:=(orb m (m+1) 0).foldl (fun acc i=>acc ||| 2 ^ i) 0 == 2 ^ (m+1) - 1
theorem aW7:∀ (l:List Nat) (acc b:Nat),(l.foldl (fun acc i=>acc ||| 2 ^ i) acc).testBit b=true->acc.testBit b=true\/b∈l
 | [],acc,b,h=>.inl h
 | i::l,acc,b,h=>by
  rcases aW7 l _ b h with q | q
  ·rw[Nat.testBit_or,Bool.or_eq_true]at q
   rcases q with q | q
   ·exact .inl q
   ·rw[bL6]at q
    exact .inr (by rw[of_decide_eq_true q];exact m7)
  ·exact .inr (i8 _ q)
theorem aq6 (f:Nat->Nat)(a:Nat):∀ n k,Nat.repeat f (n+k) a=Nat.repeat f k (Nat.repeat f n a)
 | n,0=>rfl
 | n,k+1=>by
  show f (Nat.repeat f (n+k) a)=f (Nat.repeat f k (Nat.repeat f n a))
  rw[aq6 f a n k]
theorem be6 (m:Nat):∀ k i x,x∈orb m k i->∃ n,n<k/\Nat.repeat (f5 m) n i=x
 | 0,i,x,h=>by cases h
 | k+1,i,x,h=>by
  rcases j6.mp h with rfl | h
  ·exact⟨0,ah2 _,rfl⟩
  ·obtain⟨n,hn,e⟩:=be6 m k (f5 m i) x h
   refine⟨n+1,by omega,?_⟩
   rw[Nat.add_comm n 1,aq6]
   exact e
theorem az3 {m:Nat}(hc:chk m=true)(hz:Nat.repeat (f5 m) (m+1) 0=0):Full m:=by
 intro b hb a ha
 unfold chk at hc
 have hc:=eq_of_beq hc
 have get:∀ x,x<=m->∃ n,n<m+1/\Nat.repeat (f5 m) n 0=x:=fun x hx=>by
  have hb:(2 ^ (m+1) - 1).testBit x=true:=by rw[Nat.testBit_two_pow_sub_one];exact decide_eq_true (by omega)
  rw[<- hc]at hb
  rcases aW7 _ _ _ hb with q | q
  ·simp at q
  ·exact be6 m (m+1) 0 x q
 obtain⟨p,hp,ep⟩:=get a ha
 obtain⟨q,hq,eq⟩:=get b hb
 by_cases h:p<=q
 ·refine⟨q - p,by omega,?_⟩
  rw[<- ep,<- aq6,show p+(q - p)=q by omega,eq]
 ·refine⟨m+1 - p+q,by omega,?_⟩
  rw[<- ep,<- aq6,show p+(m+1 - p+q)=(m+1)+q by omega,aq6,hz,eq]
def Good (m:Nat):Prop:=m=7\/m=31\/m=127\/m=511
set_option maxRecDepth 100000 in
theorem Good.full {m:Nat}(h:Good m):Full m:=by
 rcases h with rfl | rfl | rfl | rfl
 ·exact az3 (by decide +kernel) (by decide +kernel)
 ·exact az3 (by decide +kernel) (by decide +kernel)
 ·exact az3 (by decide +kernel) (by decide +kernel)
 ·exact az3 (by decide +kernel) (by decide +kernel)
theorem be1 (m i pt:Nat)(hp:pt<2 ^ 64):∀ k,(rn m i pt (13+k)).1=Nat.repeat (f5 m) k (rn m i pt 13).1
 | 0=>rfl
 | k+1=>by
  show (leap m (rn m i pt (13+k)).1 (rn m i pt (13+k)).2).1=f5 m (Nat.repeat (f5 m) k (rn m i pt 13).1)
  rw[<- be1 m i pt hp k]
  unfold leap f5
  have:(rn m i pt (13+k)).2 / 32=0:=by
   rw[bK7,Nat.pow_add,<- bz3]
   have:pt / 32 ^ 13=0:=Nat.div_eq_of_lt (Nat.lt_trans hp (by decide))
   rw[this]
   simp
  dsimp only
  rw[this,aO9]
theorem be2 {m pt b:Nat}(g:Good m)(hi:i<=m)(hp:pt<2 ^ 64)(hb:b<=m):∃ r,r<turns m/\(rn m i pt r).1=b:=by
 obtain⟨n,hn,e⟩:=g.full b hb (rn m i pt 13).1 (bK8 m i pt hi 13)
 exact⟨13+n,by unfold turns;omega,by rw[be1 m i pt hp];exact e⟩
theorem bG5 (t:SetTable){pt b:Nat}(g:Good t.mask)(hi:i<=t.mask)(hp:pt<2 ^ 64)(hb:b<=t.mask):∃ n,n<10*turns t.mask/\(it t n (st t.mask i pt)).j=b:=by
 obtain⟨r,hr,e⟩:=be2 g hi hp hb
 obtain⟨n,hn,e'⟩:=bL4 t i pt r
 refine⟨n,by omega,?_⟩
 rw[e']
 exact e
theorem aV2 (t:SetTable):∀ (n:Nat) (p:Probe),(it t n p).dummy=p.dummy
 | 0,p=>rfl
 | n+1,p=>by
  show (it t n (t.advance p)).dummy=_
  rw[aV2 t n]
  unfold advance
  split<;>rfl
theorem bg7 (h:Int):bits h<2 ^ 64:=by
 unfold bits
 have h1:=N7 h (show (2 ^ 64:Int)≠0 by decide)
 have h2:=K1 h (show (0:Int)<2 ^ 64 by decide)
 omega
theorem ai2 (t:SetTable)(h:Int):t.probeStart h=st t.mask (bits h % (t.mask+1)) (bits h):=rfl
theorem az2 {t':SetTable}(h:t'.mask=t.mask):∀ (n:Nat) (p:Probe),it t' n p=it t n p
 | 0,p=>rfl
 | n+1,p=>by
  show it t' n (t'.advance p)=it t n (t.advance p)
  have:t'.advance p=t.advance p:=by unfold advance;rw[h]
  rw[this,az2 h n]
def Asc (xs:Array Nat):Prop:=∀ (i j a b:Nat),i<j->xs[i]?=some a->xs[j]?=some b->a<b
theorem aE5 {xs:Array Nat}(asc:Asc xs)(j:Nat):∀ (fuel lo hi:Nat),hi - lo<=fuel->lo<=hi->hi<=xs.size->(∀ i a,i<lo->xs[i]?=some a->a<j)->(∀ i a,hi<=i->xs[i]?=some a->j<=a) ->
  (below.go xs j fuel lo hi)<=xs.size/\(∀ i a,i<below.go xs j fuel lo hi->xs[i]?=some a->a<j)/\(∀ i a,below.go xs j fuel lo hi<=i->xs[i]?=some a->j<=a)
 | 0,lo,hi,h0,h1,h2,h3,h4=>by
  have:lo=hi:=by omega
  subst this
  exact⟨h2,h3,h4⟩
 | fuel+1,lo,hi,h0,h1,h2,h3,h4=>by
  unfold below.go
  by_cases hlt:lo<hi
  ·rw[if_pos hlt]
   dsimp only
   have hm:(lo+hi) / 2<xs.size:=by omega
   have hg:xs.getD ((lo+hi) / 2) j=xs[(lo+hi) / 2]:=by simp[bL7,hm]
   have hq:xs[(lo+hi) / 2]?=some xs[(lo+hi) / 2]:=getElem?_pos xs _ hm
   by_cases hc:xs.getD ((lo+hi) / 2) j<j
   ·rw[if_pos hc]
    refine aE5 asc j fuel _ hi (by omega) (by omega) h2 (fun i a hi' e=>?_) h4
    rw[hg]at hc
    by_cases he:i=(lo+hi) / 2
    ·subst he;rw[hq]at e;cases e;exact hc
    ·have:=asc i _ a _ (by omega) e hq
     omega
   ·rw[if_neg hc]
    refine aE5 asc j fuel lo _ (by omega) (by omega) (by omega) h3 (fun i a hi' e=>?_)
    rw[hg]at hc
    by_cases he:i=(lo+hi) / 2
    ·subst he;rw[hq]at e;cases e;omega
    ·have:=asc _ i _ a (by omega) hq e
     omega
  ·rw[if_neg hlt]
   have:lo=hi:=by omega
   subst this
   exact⟨h2,h3,h4⟩
theorem aE4 {xs:Array Nat}(asc:Asc xs)(j:Nat):below xs j<=xs.size/\(∀ i a,i<below xs j->xs[i]?=some a->a<j)/\(∀ i a,below xs j<=i->xs[i]?=some a->j<=a):=
 aE5 asc j xs.size 0 xs.size (by omega) (by omega) (d6 _) (fun i a h=>by omega) fun i a h e=>by
  have:=(getElem?_eq_some_iff.mp e).1
  omega
theorem below_at {xs:Array Nat}(asc:Asc xs)(h:xs[i]?=some j):below xs j=i:=by
 obtain⟨h1,h2,h3⟩:=aE4 asc j
 rcases aJ7 (below xs j) i with q | q | q
 ·exfalso
  have hlt:below xs j<xs.size:=Nat.lt_trans q (getElem?_eq_some_iff.mp h).1
  have e:=getElem?_pos xs (below xs j) hlt
  have a1:=h3 (below xs j) _ (d6 _) e
  have a2:=asc _ _ _ _ q e h
  omega
 ·exact q
 ·have:=h2 i j q h
  omega
theorem at3 (asc:Asc t.place)(h:t.place[i]?=some j):t.slot j=.live i:=by
 unfold slot
 dsimp only
 rw[below_at asc h,h]
 simp
theorem aY9 (hd:t.dummies=#[])(h:∀ i:Nat,t.place[i]?≠some j):t.slot j=.empty:=by
 unfold slot
 dsimp only
 rw[if_neg (by simpa using h _),if_neg (by rw[hd];simp[has])]
theorem aV6 {hashAt:Nat->Int}{h:Int}:∀ (n fuel:Nat) (p:Probe),n<fuel->(∀ k,k<n->∃ i,t.slot (it t k p).j=.live i/\hashAt i≠h)->t.slot (it t n p).j=.empty ->
  probe.go t hashAt h fuel p=some (.empty (it t n p).j (it t n p).dummy)
 | 0,fuel+1,p,_,_,he=>by
  unfold probe.go
  have he':t.slot p.j=.empty:=he
  rw[he']
  rfl
 | n+1,fuel+1,p,hl,hk,he=>by
  obtain⟨i,e,hne⟩:=hk 0 (ah2 _)
  have e':t.slot p.j=.live i:=e
  unfold probe.go
  rw[e']
  dsimp only
  rw[if_neg (by simpa using hne)]
  exact aV6 n fuel (t.advance p) (by omega) (fun k hk'=>hk (k+1) (by omega)) he
theorem bf0 {hashAt:Nat->Int}{h:Int}:∀ (n fuel:Nat) (p:Probe),n<fuel->(∀ k,k<n->∃ i,t.slot (it t k p).j=.live i/\hashAt i≠h)->t.slot (it t n p).j=.live i->hashAt i=h ->
  ∃ q,probe.go t hashAt h fuel p=some (.candidate (it t n p).j i q)
 | 0,fuel+1,p,_,_,he,hh=>by
  unfold probe.go
  have he':t.slot p.j=.live i:=he
  rw[he']
  dsimp only
  rw[if_pos (by simpa using hh)]
  exact⟨_,rfl⟩
 | n+1,fuel+1,p,hl,hk,he,hh=>by
  obtain⟨i',e,hne⟩:=hk 0 (ah2 _)
  have e':t.slot p.j=.live i':=e
  unfold probe.go
  rw[e']
  dsimp only
  rw[if_neg (by simpa using hne)]
  exact bf0 n fuel (t.advance p) (by omega) (fun k hk'=>hk (k+1) (by omega)) he hh
abbrev En:=Int × Value
structure Tb (t:SetTable) (es:Array En):Prop where
 dum:t.dummies=#[]
 len:t.place.size=es.size
 asc:Asc t.place
 bnd:∀ (i j:Nat),t.place[i]?=some j->j<=t.mask
 good:Good t.mask
 nf:es.size*5<t.mask*3
 path:∀ (i:Nat) (e:En),es[i]?=some e->∃ n,n<10*turns t.mask/\t.place[i]?=some (it t n (t.probeStart e.1)).j/\∀ k,k<n->∃ i':Nat,t.place[i']?=some (it t k (t.probeStart e.1)).j
theorem by2 {xs:Array Nat}(asc:Asc xs):∀ (i a:Nat),xs[i]?=some a->i<=a
 | 0,a,_=>v8 _
 | i+1,a,h=>by
  have hi:i+1<xs.size:=(getElem?_eq_some_iff.mp h).1
  have e:=getElem?_pos xs i (by omega)
  have h1:=by2 asc i _ e
  have h2:=asc i (i+1) _ a (by omega) e h
  omega
theorem bl5 {xs:Array Nat}(asc:Asc xs){m:Nat}(h:xs.size<=m):∃ b,b<=m/\∀ i:Nat,xs[i]?≠some b:=by
 by_cases q:∃ i,i<xs.size/\xs[i]?≠some i
 ·obtain⟨i,⟨hi,hne⟩,hmin⟩:=ba8 q
  refine⟨i,by omega,fun k e=>?_⟩
  have hk:=by2 asc k i e
  rcases M8 hk with hlt | rfl
  ·have ek:xs[k]?=some k:=Classical.byContradiction fun z=>hmin k hlt ⟨by omega,z⟩
   rw[ek]at e
   cases e
   omega
  ·exact hne e
 ·refine⟨xs.size,h,fun k e=>?_⟩
  have hk:k<xs.size:=(getElem?_eq_some_iff.mp e).1
  have ek:xs[k]?=some k:=Classical.byContradiction fun z=>q ⟨k,hk,z⟩
  rw[ek]at e
  cases e
  omega
theorem Tb.small {es:Array En}(T:Tb t es):es.size<=t.mask:=by
 have:=T.nf
 omega
theorem Tb.fits {es:Array En}(T:Tb t es):t.fits es.size=true:=by
 unfold SetTable.fits fill
 rw[T.dum,T.len]
 have:=T.small
 simp
 exact this
theorem Tb.odd {es:Array En}(T:Tb t es):t.gaveWay=false:=by
 unfold gaveWay
 rcases T.good with e | e | e | e<;>rw[e]<;>rfl
def hashOf (es:Array En)(i:Nat):Int:=(es[i]?.map (·.1)).getD 0
theorem ac5 {es:Array En}{e:En}(h:es[i]?=some e):hashOf es i=e.1:=by unfold hashOf;rw[h];rfl
theorem ai1 (t:SetTable)(h:Int):bits h % (t.mask+1)<=t.mask:=al5 (bW9 _ (ah2 _))
theorem Tb.absent {es:Array En}(T:Tb t es){h:Int}(hh:∀ e∈es.toList,e.1≠h):∃ n,n<10*turns t.mask/\(∀ i:Nat,t.place[i]?≠some (it t n (t.probeStart h)).j)/\(it t n (t.probeStart h)).j<=t.mask /\
  (∀ k,k<n->∃ i':Nat,t.place[i']?=some (it t k (t.probeStart h)).j)/\t.probe (hashOf es) h (t.probeStart h)=some (.empty (it t n (t.probeStart h)).j none):=by
 obtain⟨b,hb,hfree⟩:=bl5 T.asc (m:=t.mask) (by rw[T.len];exact T.small)
 obtain⟨n0,hn0,e0⟩:=bG5 t T.good (ai1 t h) (bg7 h) hb
 rw[<- ai2]at e0
 obtain⟨n,⟨hfr,hn,hle⟩,hmin⟩:=ba8 (P:=fun n=>(∀ i:Nat,t.place[i]?≠some (it t n (t.probeStart h)).j)/\n<=n0/\(it t n (t.probeStart h)).j<=t.mask) ⟨n0,by rw[e0];exact hfree,d6 _,by rw[e0];exact hb⟩
 have hocc:∀ k,k<n->∃ i':Nat,t.place[i']?=some (it t k (t.probeStart h)).j:=fun k hk=>Classical.byContradiction fun z=>by
  have hk':∀ i:Nat,t.place[i]?≠some (it t k (t.probeStart h)).j:=fun i e=>z ⟨i,e⟩
  by_cases hkm:(it t k (t.probeStart h)).j<=t.mask
  ·exact hmin k hk ⟨hk',by omega,hkm⟩
  ·-- every place on the way is a slot
   exact hkm (by
    clear z hk' hkm hmin hfr hle hn hk
    rw[ai2]
    induction k with
    | zero=>exact ai1 t h
    | succ k ih =>
     have key:∀ k,∃ r c,c<=runEnd t.mask (rn t.mask (bits h % (t.mask+1)) (bits h) r).1 - (rn t.mask (bits h % (t.mask+1)) (bits h) r).1 /\
       it t k (st t.mask (bits h % (t.mask+1)) (bits h))=it t c (st t.mask (rn t.mask (bits h % (t.mask+1)) (bits h) r).1 (rn t.mask (bits h % (t.mask+1)) (bits h) r).2):=fun k=>by
      induction k with
      | zero=>exact⟨0,0,v8 _,rfl⟩
      | succ k ih =>
       obtain⟨r,c,hc,e⟩:=ih
       rcases M8 hc with hlt | heq
       ·exact⟨r,c+1,hlt,by rw[ak8,e,<- ak8]⟩
       ·refine⟨r+1,0,v8 _,?_⟩
        rw[ak8,e,<- ak8,heq,aN6]
        rfl
     obtain⟨r,c,hc,e⟩:=key (k+1)
     rw[e,aN5 t _ _ c hc]
     have h1:=bK8 t.mask (bits h % (t.mask+1)) (bits h) (ai1 t h) r
     have h2:=aS8 h1
     have h3:=at7 t.mask (rn t.mask (bits h % (t.mask+1)) (bits h) r).1
     show (rn t.mask (bits h % (t.mask+1)) (bits h) r).1+c<=t.mask
     omega)
 refine⟨n,by omega,hfr,hle,hocc,?_⟩
 unfold probe
 have:=aV6 (hashAt:=hashOf es) (h:=h) n (10*turns t.mask) (t.probeStart h) (by omega) (fun k hk=>?_) (aY9 T.dum hfr)
 ·rw[this,aV2]
  rfl
 ·obtain⟨i',e⟩:=hocc k hk
  refine⟨i',at3 T.asc e,?_⟩
  have hi:i'<es.size:=by rw[<- T.len];exact(getElem?_eq_some_iff.mp e).1
  have e2:=getElem?_pos es i' hi
  rw[ac5 e2]
  exact hh _ (by simp)
theorem Tb.present {es:Array En}(T:Tb t es){e:En}(he:es[i]?=some e)(hu:∀ (k:Nat) (e':En),es[k]?=some e'->e'.1=e.1->k=i):∃ j q,t.probe (hashOf es) e.1 (t.probeStart e.1)=some (.candidate j i q):=by
 obtain⟨n,hn,hp,hocc⟩:=T.path i e he
 unfold probe
 obtain⟨m,⟨hm,i1,hi1,hs1⟩,hmin⟩:=ba8 (P:=fun m=>m<=n/\∃ i1:Nat,t.place[i1]?=some (it t m (t.probeStart e.1)).j/\hashOf es i1=e.1) ⟨n,d6 _,i,hp,ac5 he⟩
 have hi2:i1<es.size:=by rw[<- T.len];exact(getElem?_eq_some_iff.mp hi1).1
 have e2:=getElem?_pos es i1 hi2
 rw[ac5 e2]at hs1
 have hii:i1=i:=hu i1 _ e2 hs1
 subst hii
 obtain⟨q,hq⟩:=bf0 (hashAt:=hashOf es) (h:=e.1) (i:=i1) m (10*turns t.mask) (t.probeStart e.1) (by omega) (fun k hk=>by
  obtain⟨i',e3⟩:=hocc k (by omega)
  exact⟨i',at3 T.asc e3,fun z=>hmin k hk ⟨by omega,i',e3,z⟩⟩) (at3 T.asc hi1) (ac5 he)
 exact⟨_,q,hq⟩
theorem get_ins {α:Type}{xs:Array α}{p:Nat}{x:α}(hp:p<=xs.size)(i:Nat):(insertAt xs p x)[i]?=if i<p then xs[i]? else if i=p then some x else xs[i - 1]?:=by
 unfold insertAt
 have e0:((xs.extract 0 p).push x).size=p+1:=by rw[C9,J7];omega
 by_cases h1:i<p
 ·rw[if_pos h1,aX3 (by omega),Array.getElem?_push_lt (by rw[J7];omega)]
  rw[Array.getElem_extract]
  simp only[Q6]
  exact(getElem?_pos xs i (by omega)).symm
 ·rw[if_neg h1]
  by_cases h2:i=p
  ·subst h2
   rw[if_pos rfl,aX3 (by omega)]
   have e1:(xs.extract 0 i).size=i:=by rw[J7];omega
   rw[Array.getElem?_push,e1,if_pos rfl]
  ·rw[if_neg h2,Array.getElem?_append_right (by omega),e0,Array.getElem?_extract]
   split
   ·congr 1;omega
   ·rw[getElem?_neg]
    omega
theorem aq0 {α:Type}{xs:Array α}{p:Nat}{x:α}(hp:p<=xs.size):(insertAt xs p x).size=xs.size+1:=by
 unfold insertAt
 rw[L3,C9,J7,J7]
 omega
theorem bF7 {α:Type}{xs:Array α}{p:Nat}{x:α}(hp:p<=xs.size)(y:α):y∈(insertAt xs p x).toList↔y=x\/y∈xs.toList:=by
 constructor
 ·intro h
  obtain⟨i,hi⟩:=q0.mp h
  rw[i9,get_ins hp]at hi
  split at hi
  ·exact .inr (j0 (by rw[i9];exact hi))
  ·split at hi
   ·cases hi;exact .inl rfl
   ·exact .inr (j0 (by rw[i9];exact hi))
 ·rintro(rfl | h)
  ·exact j0 (i:=p) (by rw[i9,get_ins hp,if_neg (D0 _),if_pos rfl])
  ·obtain⟨i,hi⟩:=q0.mp h
   rw[i9]at hi
   have hi':i<xs.size:=(getElem?_eq_some_iff.mp hi).1
   by_cases q:i<p
   ·exact j0 (i:=i) (by rw[i9,get_ins hp,if_pos q];exact hi)
   ·exact j0 (i:=i+1) (by rw[i9,get_ins hp,if_neg (by omega),if_neg (by omega)];simpa using hi)
structure Tb' (t:SetTable) (es:Array En):Prop where
 dum:t.dummies=#[]
 len:t.place.size=es.size
 asc:Asc t.place
 bnd:∀ (i j:Nat),t.place[i]?=some j->j<=t.mask
 good:Good t.mask
 fil:es.size<=t.mask
 path:∀ (i:Nat) (e:En),es[i]?=some e->∃ n,n<10*turns t.mask/\t.place[i]?=some (it t n (t.probeStart e.1)).j/\∀ k,k<n->∃ i':Nat,t.place[i']?=some (it t k (t.probeStart e.1)).j
theorem Tb'.full {es:Array En}(T:Tb' t es)(h:es.size*5<t.mask*3):Tb t es:=⟨T.dum,T.len,T.asc,T.bnd,T.good,h,T.path⟩
theorem Tb'.fits {es:Array En}(T:Tb' t es):t.fits es.size=true:=by
 unfold SetTable.fits fill
 rw[T.dum,T.len]
 have:=T.fil
 simp
 exact this
theorem Tb'.plain {es:Array En}(T:Tb' t es)(b:Bool):Tb' { t with plain:=b } es:=by
 have e:∀ n (p:Probe),it { t with plain:=b } n p=it t n p:=fun n p=>az2 (t:=t) (t':={ t with plain:=b }) rfl n p
 refine⟨T.dum,T.len,T.asc,T.bnd,T.good,T.fil,fun i x hx=>?_⟩
 obtain⟨n,h1,h2,h3⟩:=T.path i x hx
 exact⟨n,h1,by rw[e];exact h2,fun k hk=>by rw[e];exact h3 k hk⟩
theorem Tb.put {es:Array En}(T:Tb t es){h:Int}{x:Value}(hn:n<10*turns t.mask)(hfr:∀ i:Nat,t.place[i]?≠some (it t n (t.probeStart h)).j)(hle:(it t n (t.probeStart h)).j<=t.mask)
  (hocc:∀ k,k<n->∃ i':Nat,t.place[i']?=some (it t k (t.probeStart h)).j) :
  (t.put (it t n (t.probeStart h)).j).2<=es.size/\Tb' (t.put (it t n (t.probeStart h)).j).1 (insertAt es (t.put (it t n (t.probeStart h)).j).2 (h,x)):=by
 generalize hj:(it t n (t.probeStart h)).j=j at *
 obtain⟨b1,b2,b3⟩:=aE4 T.asc j
 have hp:(t.put j).2=below t.place j:=rfl
 have hd:has t.dummies j=false:=by rw[T.dum];simp[has]
 have ht:(t.put j).1={ t with place:=insertAt t.place (below t.place j) j }:=by
  unfold SetTable.put
  dsimp only
  rw[if_neg (by rw[hd];exact j9)]
 have hm:(t.put j).1.mask=t.mask:=by rw[ht]
 have hpl:(t.put j).1.place=insertAt t.place (below t.place j) j:=by rw[ht]
 have hsz:=T.nf
 have old:∀ (i a:Nat),t.place[i]?=some a->∃ i':Nat,(insertAt t.place (below t.place j) j)[i']?=some a:=fun i a e=>by
  by_cases q:i<below t.place j
  ·exact⟨i,by rw[get_ins b1,if_pos q];exact e⟩
  ·exact⟨i+1,by rw[get_ins b1,if_neg (by omega),if_neg (by omega)];simpa using e⟩
 have hit:∀ k (p:Probe),it (t.put j).1 k p=it t k p:=fun k p=>az2 hm k p
 have hst:∀ z:Int,(t.put j).1.probeStart z=t.probeStart z:=fun z=>by rw[ai2,ai2,hm]
 refine⟨by rw[hp,<- T.len];exact b1,?_⟩
 rw[hp]
 refine⟨by rw[ht];exact T.dum,by rw[hpl,aq0 b1,aq0 (by rw[<- T.len];exact b1),T.len],?_,?_,by rw[hm];exact T.good,?_,?_⟩
 ·rw[hpl]
  intro i k a c hik ea ec
  rw[get_ins b1]at ea ec
  split at ea
  ·rename_i hi
   split at ec
   ·exact T.asc i k a c hik ea ec
   ·split at ec
    ·cases ec;exact b2 i a hi ea
    ·exact T.asc i (k - 1) a c (by omega) ea ec
  ·split at ea
   ·rename_i hi1 hi2
    cases ea
    rw[if_neg (by omega),if_neg (by omega)]at ec
    have h1:=b3 (k - 1) c (by omega) ec
    rcases M8 h1 with h2 | h2
    ·exact h2
    ·subst h2;exact absurd ec (hfr (k - 1))
   ·rw[if_neg (by omega),if_neg (by omega)]at ec
    exact T.asc (i - 1) (k - 1) a c (by omega) ea ec
 ·rw[hpl,hm]
  intro i a ea
  rw[get_ins b1]at ea
  split at ea
  ·exact T.bnd i a ea
  ·split at ea
   ·cases ea;exact hle
   ·exact T.bnd _ a ea
 ·rw[hm,aq0 (by rw[<- T.len];exact b1)]
  have:=T.good
  unfold Good at this
  omega
 ·intro i e he
  rw[hpl,hm]
  have b1':below t.place j<=es.size:=by rw[<- T.len];exact b1
  rw[get_ins b1']at he
  have lift:∀ (i0:Nat) (i':Nat),es[i0]?=some e->(∀ a,t.place[i0]?=some a->(insertAt t.place (below t.place j) j)[i']?=some a) ->
    ∃ n,n<10*turns t.mask/\(insertAt t.place (below t.place j) j)[i']?=some (it (t.put j).1 n ((t.put j).1.probeStart e.1)).j/\∀ k,k<n->∃ i':Nat,(insertAt t.place (below t.place j) j)[i']?=some (it (t.put j).1 k ((t.put j).1.probeStart e.1)).j:=fun i0 i' h0 h1=>by
   obtain⟨n',q1,q2,q3⟩:=T.path i0 e h0
   refine⟨n',q1,?_,fun k hk=>?_⟩
   ·rw[hit,hst];exact h1 _ q2
   ·obtain⟨i2,e2⟩:=q3 k hk
    rw[hit,hst]
    exact old i2 _ e2
  split at he
  ·rename_i hi
   exact lift i i he fun a ea=>by rw[get_ins b1,if_pos hi];exact ea
  ·split at he
   ·rename_i hi1 hi2
    cases he
    refine⟨n,hn,?_,fun k hk=>?_⟩
    ·rw[hit,hst,hj,get_ins b1,if_neg hi1,if_pos hi2]
    ·obtain⟨i2,e2⟩:=hocc k hk
     rw[hit,hst]
     exact old i2 _ e2
   ·rename_i hi1 hi2
    exact lift (i - 1) i he fun a ea=>by rw[get_ins b1,if_neg hi1,if_neg hi2];exact ea
theorem aM2:∀ (k n:Nat) (g:Nat->Nat),(∀ i,i<n->g i<k)->(∀ i j,i<n->j<n->g i=g j->i=j)->n<=k
 | 0,n,g,h,_=>by
  rcases Nat.eq_zero_or_pos n with e | e
  ·omega
  ·exact absurd (h 0 e) (aX6 _)
 | k+1,0,g,_,_=>v8 _
 | k+1,n+1,g,h,inj=>by
  by_cases q:∃ i0,i0<n+1/\g i0=k
  ·obtain⟨i0,h0,e0⟩:=q
   have:=aM2 k n (fun i=>if i=i0 then g n else g i) (fun i hi=>?_) (fun i j hi hj e=>?_)
   ·omega
   ·try dsimp only
    split
    ·rename_i hii
     have h1:=h n (by omega)
     have h2:g n≠k:=fun z=>by have:=inj n i0 (by omega) h0 (by rw[z,e0]);omega
     omega
    ·have h1:=h i (by omega)
     have h2:g i≠k:=fun z=>by have:=inj i i0 (by omega) h0 (by rw[z,e0]);omega
     omega
   ·try dsimp only at e
    split at e
    ·split at e
     ·omega
     ·have:=inj n j (by omega) (by omega) e;omega
    ·split at e
     ·have:=inj i n (by omega) (by omega) e;omega
     ·exact inj i j (by omega) (by omega) e
  ·have:=aM2 k (n+1) g (fun i hi=>?_) inj
   ·omega
   ·have h1:=h i hi
    have h2:g i≠k:=fun z=>q ⟨i,hi,z⟩
    omega
structure LI (t:SetTable) (hs:Array Int) (owner:Array (Option Nat)) (k:Nat):Prop where
 size:owner.size=t.mask+1
 lt:∀ (j i:Nat),owner[j]?=some (some i)->i<k
 inj:∀ (j j' i:Nat),owner[j]?=some (some i)->owner[j']?=some (some i)->j=j'
 has:∀ (i:Nat) (h:Int),i<k->hs[i]?=some h->∃ n,n<10*turns t.mask/\owner[(it t n (t.probeStart h)).j]?=some (some i)/\∀ c,c<n->∃ i':Nat,owner[(it t c (t.probeStart h)).j]?=some (some i')
theorem LI.free {hs:Array Int}{owner:Array (Option Nat)}{k:Nat}(L:LI t hs owner k)(hk:k<=t.mask):∃ b,b<=t.mask/\owner[b]?=some none:=by
 apply Classical.byContradiction
 intro z
 have all:∀ b,b<=t.mask->∃ i,owner[b]?=some (some i):=fun b hb=>by
  have e:=getElem?_pos owner b (by rw[L.size];omega)
  cases q:owner[b]'(by rw[L.size];omega) with
  | none=>rw[q]at e;exact absurd ⟨b,hb,e⟩ z
  | some i=>rw[q]at e;exact⟨i,e⟩
 have:=aM2 k (t.mask+1) (fun b=>match owner[b]? with | some (some i)=>i | _=>0) (fun b hb=>?_) (fun b b' hb hb' e=>?_)
 ·omega
 ·obtain⟨i,e⟩:=all b (by omega)
  try dsimp only
  rw[e]
  exact L.lt b i e
 ·obtain⟨i,e1⟩:=all b (by omega)
  obtain⟨i',e2⟩:=all b' (by omega)
  try dsimp only at e
  rw[e1,e2]at e
  dsimp only at e
  subst e
  exact L.inj b b' i e1 e2
theorem aI5 (t:SetTable)(owner:Array (Option Nat))(hz:owner.size=t.mask+1):∀ (fuel i pt:Nat),i<=t.mask->(∃ r,r<fuel/\∃ b,b=(rn t.mask i pt r).1/\owner[b]?=some none) ->
  ∃ n,n<10*fuel/\layClean.free t.mask owner fuel i pt=some (it t n (st t.mask i pt)).j/\owner[(it t n (st t.mask i pt)).j]?=some none/\∀ c,c<n->∃ i':Nat,owner[(it t c (st t.mask i pt)).j]?=some (some i')
 | 0,i,pt,_,⟨r,hr,_⟩=>absurd hr (aX6 _)
 | fuel+1,i,pt,hi,⟨r,hr,b,hb,hbo⟩=>by
  have h9:=at7 t.mask i
  have hm:=aS8 hi
  unfold layClean.free
  have slotOf:∀ k,k<=runEnd t.mask i - i->(it t k (st t.mask i pt)).j=i+k:=fun k hk=>by rw[aN5 t i pt k hk]
  have getS:∀ k,k<=runEnd t.mask i - i->(owner.getD (i+k) (some 0)).isNone=false->∃ i':Nat,owner[i+k]?=some (some i'):=fun k hk e=>by
   have hlt:i+k<owner.size:=by omega
   have e1:=getElem?_pos owner (i+k) hlt
   have e2:owner.getD (i+k) (some 0)=owner[i+k]:=by simp[bL7,hlt]
   rw[e2]at e
   cases q:owner[i+k] with
   | none=>rw[q]at e;cases e
   | some i'=>rw[q]at e1;exact⟨i',e1⟩
  cases hf:(C5 (runEnd t.mask i+1 - i)).find? (fun k=>(owner.getD (i+k) (some 0)).isNone) with
  | some k =>
   dsimp only
   rw[List.find?_eq_some_iff_getElem]at hf
   obtain⟨hp,k',hk',ek,hbef⟩:=hf
   rw[B0]at hk'
   rw[ag5]at ek
   subst ek
   refine⟨k',by omega,by rw[slotOf k' (by omega)],?_,fun c hc=>?_⟩
   ·rw[slotOf k' (by omega)]
    have hlt:i+k'<owner.size:=by omega
    have e2:owner.getD (i+k') (some 0)=owner[i+k']:=by simp[bL7,hlt]
    rw[e2]at hp
    rw[getElem?_pos owner _ hlt]
    cases q:owner[i+k'] with
    | none=>rfl
    | some z=>rw[q]at hp;cases hp
   ·rw[slotOf c (by omega)]
    have:=hbef c hc
    rw[ag5]at this
    exact getS c (by omega) (by simpa using this)
  | none =>
   dsimp only
   rw[List.find?_eq_none]at hf
   have all:∀ c,c<=runEnd t.mask i - i->∃ i':Nat,owner[i+c]?=some (some i'):=fun c hc=>getS c hc (by simpa only [Bool.not_eq_true] using hf c (D6.mpr (by omega)))
   have hr0:r≠0:=fun z=>by
    subst z
    obtain⟨i',e⟩:=all 0 (v8 _)
    have hb':b=i:=hb
    rw[hb']at hbo
    rw[aO9,hbo]at e
    cases e
   obtain⟨r',rfl⟩:∃ r',r=r'+1:=⟨r - 1,by omega⟩
   have shift:∀ r,rn t.mask (leap t.mask i pt).1 (leap t.mask i pt).2 r=rn t.mask i pt (r+1):=fun r=>by
    induction r with
    | zero=>rfl
    | succ r ih =>
     show leap t.mask _ _=leap t.mask _ _
     rw[ih]
   obtain⟨n,hn,e1,e2,e3⟩:=aI5 t owner hz fuel (leap t.mask i pt).1 (leap t.mask i pt).2 (al5 (bW9 _ (ah2 _))) ⟨r',by omega,b,by rw[hb,shift],hbo⟩
   have sh:∀ c,it t (runEnd t.mask i - i+1+c) (st t.mask i pt)=it t c (st t.mask (leap t.mask i pt).1 (leap t.mask i pt).2):=fun c=>by rw[aN7,aN6]
   refine⟨runEnd t.mask i - i+1+n,by omega,by rw[sh];exact e1,by rw[sh];exact e2,fun c hc=>?_⟩
   by_cases q:c<=runEnd t.mask i - i
   ·rw[slotOf c q]
    exact all c q
   ·have:=e3 (c - (runEnd t.mask i - i+1)) (by omega)
    rw[<- sh,show runEnd t.mask i - i+1+(c - (runEnd t.mask i - i+1))=c by omega]at this
    exact this
theorem aU9 (t:SetTable)(g:Good t.mask)(hs:Array Int)(hsz:hs.size<=t.mask):∀ (l:List Int) (k:Nat) (owner:Array (Option Nat)),LI t hs owner k->hs.toList.drop k=l ->
  ∃ owner',(l.foldl (fun acc h=>do
   let (owner,k) <- acc
   let j <- layClean.free t.mask owner (turns t.mask) (bits h % (t.mask+1)) (bits h)
   pure (owner.setIfInBounds j (some k),k+1)) (some (owner,k)))=some (owner',k+l.length)/\LI t hs owner' (k+l.length)
 | [],k,owner,L,_=>⟨owner,rfl,L⟩
 | h::l,k,owner,L,hd=>by
  have hk:k<hs.size:=by
   apply Classical.byContradiction
   intro z
   rw[L0 (by rw[o7];omega)]at hd
   cases hd
  have hget:hs[k]?=some h:=by
   rw[<- i9]
   have:=congrArg (fun l=>l[0]?) hd
   simpa using this
  obtain⟨b,hb,hbo⟩:=L.free (by omega)
  obtain⟨r,hr,er⟩:=be2 g (ai1 t h) (bg7 h) hb
  obtain⟨n,hn,e1,e2,e3⟩:=aI5 t owner L.size (turns t.mask) (bits h % (t.mask+1)) (bits h) (ai1 t h) ⟨r,hr,b,er.symm,hbo⟩
  rw[<- ai2]at e1 e2 e3
  have hjs:(it t n (t.probeStart h)).j<owner.size:=(getElem?_eq_some_iff.mp e2).1
  have gs:∀ x,(owner.setIfInBounds (it t n (t.probeStart h)).j (some k))[x]?=if (it t n (t.probeStart h)).j=x then some (some k) else owner[x]?:=fun x=>by
   rw[Array.getElem?_setIfInBounds]
   split
   ·rename_i hx;subst hx;simp[hjs]
   ·rfl
  have occ:∀ (x i:Nat),owner[x]?=some (some i)->∃ i':Nat,(owner.setIfInBounds (it t n (t.probeStart h)).j (some k))[x]?=some (some i'):=fun x i e=>by
   rw[gs];split
   ·exact⟨k,rfl⟩
   ·exact⟨i,e⟩
  have L':LI t hs (owner.setIfInBounds (it t n (t.probeStart h)).j (some k)) (k+1):=by
   refine⟨by rw[bc0];exact L.size,fun j i e=>?_,fun j j' i ea ec=>?_,fun i h' hi hh=>?_⟩
   ·rw[gs]at e
    split at e
    ·cases e;omega
    ·have:=L.lt j i e;omega
   ·rw[gs]at ea ec
    split at ea
    ·rename_i q1
     cases ea
     split at ec
     ·rename_i q2;rw[<- q1,<- q2]
     ·have:=L.lt j' k ec;omega
    ·split at ec
     ·cases ec
      have:=L.lt j k ea;omega
     ·exact L.inj j j' i ea ec
   ·by_cases q:i=k
    ·subst q
     rw[hget]at hh
     cases hh
     refine⟨n,hn,by rw[gs,if_pos rfl],fun c hc=>?_⟩
     obtain⟨i',e⟩:=e3 c hc
     exact occ _ i' e
    ·obtain⟨n',q1,q2,q3⟩:=L.has i h' (by omega) hh
     refine⟨n',q1,?_,fun c hc=>?_⟩
     ·rw[gs]
      split
      ·rename_i q4
       rw[q4]at e2
       rw[e2]at q2
       cases q2
      ·exact q2
     ·obtain⟨i',e⟩:=q3 c hc
      exact occ _ i' e
  obtain⟨owner',f1,f2⟩:=aU9 t g hs hsz l (k+1) _ L' (by
   have e5:hs.toList.drop (k+1)=(hs.toList.drop k).drop 1:=by rw[bb8]
   rw[e5,hd]
   rfl)
  refine⟨owner',?_,?_⟩
  ·rw[ae5]
   have:(do
     let (owner,k) <- some (owner,k)
     let j <- layClean.free t.mask owner (turns t.mask) (bits h % (t.mask+1)) (bits h)
     pure (owner.setIfInBounds j (some k),k+1))=some (owner.setIfInBounds (it t n (t.probeStart h)).j (some k),k+1):=by
    show (layClean.free t.mask owner (turns t.mask) (bits h % (t.mask+1)) (bits h) >>= fun j=>pure (owner.setIfInBounds j (some k),k+1))=_
    rw[e1]
    rfl
   rw[this,f1,m6]
   congr 2
   omega
  ·rw[m6,show k+(l.length+1)=k+1+l.length by omega]
   exact f2
theorem bv7 {M finger moves:Nat}{led plain:Bool}{es:Array En}(g:Good M)(hsz:es.size*5<M*3) :
  ∃ t2 order,laid M finger moves led plain (es.map (·.1))=some (t2,order)/\Tb t2 (order.filterMap (es[·]?))/\(order.filterMap (es[·]?)).toList.Perm es.toList/\order.toList.Perm (C5 es.size)/\t2.led=led/\t2.plain=plain:=by
 let t:SetTable:={ mask:=M,place:=#[],dummies:=#[],finger:=finger,led:=led,moves:=moves,plain:=plain }
 have ht:t.mask=M:=rfl
 have h0:LI t (es.map (·.1)) (Array.replicate (M+1) none) 0:=by
  refine⟨by simp[ht],fun j i e=>?_,fun j j' i e=>?_,fun i h hi=>by omega⟩
  ·rw[bc1]at e;split at e<;>cases e
  ·rw[bc1]at e;split at e<;>cases e
 obtain⟨owner,f1,L⟩:=aU9 t g (es.map (·.1)) (by rw[av2,ht];omega) (es.map (·.1)).toList 0 _ h0 rfl
 rw[Q6,o7,av2]at f1 L
 have hlay:layClean M (es.map (·.1))=some owner:=by
  unfold layClean
  rw[<- Array.foldl_toList]
  have:(ad3 _ _ (es.map (·.1)).toList)=some (owner,es.size):=f1
  rw[this]
  rfl
 let live:List (Nat × Nat):=(C5 (M+1)).filterMap fun j=>(owner.getD j none).map (j,·)
 have hlive:∀ p:Nat × Nat,p∈live↔owner[p.1]?=some (some p.2):=fun p=>by
  obtain⟨j,i⟩:=p
  have hg:∀ j,owner.getD j none=(owner[j]?).getD none:=fun j=>by simp
  show (j,i)∈List.filterMap _ _↔_
  rw[ag4]
  constructor
  ·rintro⟨j',hj',e⟩
   rw[hg]at e
   cases q:owner[j']? with
   | none=>rw[q]at e;cases e
   | some z =>
    rw[q]at e
    cases z with
    | none=>cases e
    | some i' =>
     have e':(j',i')=(j,i):=Option.some.inj e
     cases e'
     exact q
  ·intro e
   have hj:j<owner.size:=(getElem?_eq_some_iff.mp e).1
   refine⟨j,D6.mpr (by rw[L.size,ht]at hj;exact hj),?_⟩
   rw[hg,e]
   rfl
 have hpw:live.Pairwise (fun a b=>a.1<b.1):=by
  show (List.filterMap _ _).Pairwise _
  rw[List.pairwise_filterMap]
  refine List.Pairwise.imp ?_ bo2
  intro a b hab p hp q hq
  cases h1:owner.getD a none with
  | none=>rw[h1]at hp;cases hp
  | some i =>
   cases h2:owner.getD b none with
   | none=>rw[h2]at hq;cases hq
   | some i' =>
    rw[h1]at hp
    rw[h2]at hq
    have e1:(a,i)=p:=Option.some.inj hp
    have e2:(b,i')=q:=Option.some.inj hq
    subst e1 e2
    exact hab
 have hnd:(live.map (·.2)).Nodup:=by
  unfold List.Nodup
  rw[L4]
  refine List.Pairwise.imp_of_mem ?_ hpw
  intro a b ha hb hab e
  have h1:=(hlive a).mp ha
  have h2:=(hlive b).mp hb
  rw[<- e]at h2
  have:=L.inj _ _ _ h1 h2
  omega
 have hord:(live.map (·.2)).Perm (C5 es.size):=by
  refine(List.perm_ext_iff_of_nodup hnd List.nodup_range).mpr fun i=>?_
  rw[D6,E8]
  constructor
  ·rintro⟨p,hp,rfl⟩
   exact L.lt _ _ ((hlive p).mp hp)
  ·intro hi
   obtain⟨n,_,q,_⟩:=L.has i ((es.map (·.1))[i]'(by rw[av2];exact hi)) hi (getElem?_pos _ _ _)
   exact⟨(_,i),(hlive _).mpr q,rfl⟩
 have hlen:live.length=es.size:=by have:=hord.length_eq;simpa using this
 have hes:∀ i,i∈live.map (·.2)->∃ e,es[i]?=some e:=fun i hi=>by
  have:=hord.mem_iff.mp hi
  rw[D6]at this
  exact⟨es[i],getElem?_pos es i this⟩
 have fm:∀ (l:List Nat),(∀ i∈l,∃ e,es[i]?=some e)->(l.filterMap (es[·]?)).length=l.length/\∀ (p:Nat),(l.filterMap (es[·]?))[p]?=(l[p]?).bind (es[·]?):=fun l=>by
  induction l with
  | nil=>intro _;exact⟨rfl,fun p=>rfl⟩
  | cons a l ih =>
   intro h
   obtain⟨e,he⟩:=h a m7
   obtain⟨i1,i2⟩:=ih fun i hi=>h i (i8 _ hi)
   rw[List.filterMap_cons_some he]
   refine⟨by rw[m6,i1,m6],fun p=>?_⟩
   cases p with
   | zero=>simp[he]
   | succ p=>simpa using i2 p
 obtain⟨fl,fg⟩:=fm _ hes
 have hperm:((live.map (·.2)).filterMap (es[·]?)).Perm es.toList:=by
  refine(hord.filterMap _).trans (List.Perm.of_eq ?_)
  apply aa1
  intro p
  obtain⟨_,g2⟩:=fm (C5 es.size) fun i hi=>⟨es[i]'(D6.mp hi),getElem?_pos es i (D6.mp hi)⟩
  rw[g2,show es.toList[p]?=es[p]? from i9 ..]
  by_cases hp:p<es.size
  ·rw[ax7 hp];rfl
  ·rw[C3 (by simp;omega),getElem?_neg es p hp];rfl
 let t2:SetTable:={ mask:=M,place:=(live.map (·.1)).toArray,dummies:=#[],finger:=finger,led:=led,moves:=moves,plain:=plain }
 have hes':((live.map (·.2)).toArray.filterMap (es[·]?)).toList=(live.map (·.2)).filterMap (es[·]?):=by simp
 have getE:∀ (p:Nat) (e:En),((live.map (·.2)).toArray.filterMap (es[·]?))[p]?=some e->∃ j i:Nat,live[p]?=some (j,i)/\es[i]?=some e:=fun p e h=>by
  rw[<- i9,hes',fg,E2]at h
  cases q:live[p]? with
  | none=>rw[q]at h;cases h
  | some ji=>rw[q]at h;exact⟨ji.1,ji.2,rfl,h⟩
 have getP:∀ (p:Nat) (j:Nat),t2.place[p]?=some j↔∃ i,live[p]?=some (j,i):=fun p j=>by
  show (live.map (·.1)).toArray[p]?=some j↔_
  rw[List.getElem?_toArray,E2]
  cases q:live[p]? with
  | none=>simp
  | some ji =>
   obtain⟨a,b⟩:=ji
   simp
 have itE:∀ n (p:Probe),it t2 n p=it t n p:=fun n p=>az2 (t:=t) (t':=t2) rfl n p
 refine⟨t2,(live.map (·.2)).toArray,?_,?_,(by rw[hes'];exact hperm),hord,rfl,rfl⟩
 ·unfold laid
  rw[hlay]
  rfl
 ·refine⟨rfl,?_,?_,?_,g,?_,?_⟩
  ·show (live.map (·.1)).toArray.size=_
   rw[d9,b9,<- o7,hes',fl,b9]
  ·intro i j a b hij ea eb
   obtain⟨_,ea⟩:=(getP i a).mp ea
   obtain⟨_,eb⟩:=(getP j b).mp eb
   obtain⟨h1,e1⟩:=j5.mp ea
   obtain⟨h2,e2⟩:=j5.mp eb
   have:=v7.mp hpw i j h1 h2 hij
   rw[e1,e2]at this
   exact this
  ·intro i j e
   obtain⟨i',e⟩:=(getP i j).mp e
   have:=(hlive _).mp (j0 e)
   have hj:j<owner.size:=(getElem?_eq_some_iff.mp this).1
   rw[L.size]at hj
   show j<=M
   exact al5 hj
  ·rw[<- o7,hes',fl,b9,hlen]
   exact hsz
  ·intro p e he
   obtain⟨j,i,hl,hi⟩:=getE p e he
   have ho:=(hlive _).mp (j0 hl)
   have hi':i<es.size:=(getElem?_eq_some_iff.mp hi).1
   obtain⟨n,q1,q2,q3⟩:=L.has i e.1 hi' (by rw[Array.getElem?_map,hi];rfl)
   have ej:=L.inj _ _ _ ho q2
   refine⟨n,q1,?_,fun c hc=>?_⟩
   ·rw[itE]
    exact(getP p _).mpr ⟨i,by rw[hl];congr 2⟩
   ·obtain⟨i',e'⟩:=q3 c hc
    obtain⟨p',hp'⟩:=q0.mp ((hlive (_,i')).mpr e')
    exact⟨p',by rw[itE];exact(getP p' _).mpr ⟨i',hp'⟩⟩
theorem bG3 {M finger moves:Nat}{led plain:Bool}{es:Array En}(g:Good M)(hsz:es.size*5<M*3) :
  ∃ t2 order,laid M finger moves led plain (es.map (·.1))=some (t2,order)/\Tb t2 (order.filterMap (es[·]?))/\(order.filterMap (es[·]?)).toList.Perm es.toList:=
 let ⟨a,b,c,d,e,_⟩:=bv7 (finger:=finger) (moves:=moves) (led:=led) (plain:=plain) g hsz;⟨a,b,c,d,e⟩
end Sett
namespace Sett
open PySem PySem.SetTable PyProof.Rows
def ak7:List Nat->Nat->Bool
 | [],_=>true
 | x::l,acc=>!acc.testBit x && ak7 l (acc ||| 2 ^ x)
theorem ar1:∀ (l:List Nat) (acc:Nat),ak7 l acc=true->l.Nodup/\∀ x∈l,acc.testBit x=false
 | [],_,_=>⟨bc2,(fun _ h=>nomatch h)⟩
 | x::l,acc,h=>by
  unfold ak7 at h
  rw[B5]at h
  obtain⟨h1,h2⟩:=h
  obtain⟨n,m⟩:=ar1 l _ h2
  have m':∀ y∈l,acc.testBit y=false/\x≠y:=fun y hy=>by
   have:=m y hy
   rw[Nat.testBit_or,Bool.or_eq_false_iff,bL6]at this
   exact⟨this.1,of_decide_eq_false this.2⟩
  refine⟨G5.mpr ⟨fun hx=>(m' x hx).2 rfl,n⟩,fun y hy=>?_⟩
  rcases j6.mp hy with rfl | hy
  ·simpa using h1
  ·exact(m' y hy).1
def hp (n:Nat):Nat:=bits (reduceHash (Builtin.Tuple.tupleHashOf [hashInt ((n / 24:Nat):Int),hashInt ((n % 24:Nat):Int)])) % 3708
set_option maxRecDepth 100000 in
theorem bU3:ak7 ((C5 576).map hp) 0=true:=by decide +kernel
theorem bU2 {a b:Nat}(ha:a<576)(hb:b<576)(h:hp a=hp b):a=b:=by
 have:=(ar1 _ _ bU3).1
 unfold List.Nodup at this
 rw[L4]at this
 rw[v7]at this
 rcases aJ7 a b with q | q | q
 ·have:=this a b (by simpa using ha) (by simpa using hb) q
  simp only[ag5]at this
  exact absurd h this
 ·exact q
 ·have:=this b a (by simpa using hb) (by simpa using ha) q
  simp only[ag5]at this
  exact absurd h.symm this
def av8 (ks:List Int):Prop:=∃ i j:Nat,i<24/\j<24/\ks=[(i:Int),(j:Int)]
theorem aV5 {k':List Int}(h1:av8 k)(h2:av8 k')(e:x9 (C6 prog w) k=x9 (C6 prog w) k'):k=k':=by
 obtain⟨i,j,hi,hj,rfl⟩:=h1
 obtain⟨i',j',hi',hj',rfl⟩:=h2
 have e2:hp (24*i+j)=hp (24*i'+j'):=by
  unfold hp
  rw[show (24*i+j) / 24=i by omega,show (24*i+j) % 24=j by omega,show (24*i'+j') / 24=i' by omega,show (24*i'+j') % 24=j' by omega]
  exact congrArg (fun z=>bits z % 3708) e
 have:=bU2 (by omega) (by omega) e2
 have h3:i=i':=by omega
 have h4:j=j':=by omega
 rw[h3,h4]
def am0 (prog:Program)(w:World)(h:Heap)(k:List Int)(e:En):Prop:=∃ a,e.2=.ref a/\N0 (C6 prog w) h k a/\e.1=x9 (C6 prog w) k
def ax4 (prog:Program)(w:World)(hk h:Heap)(S:Addr)(ks:List (List Int)):Prop:=
 ∃ o es ep t,h.get? S=some o/\o.ExactSet/\o.data=.set es ep t/\Tb t es/\es.size=ks.length/\ks.Nodup/\(∀ k∈ks,av8 k)/\(∀ k∈ks,∃ e∈es.toList,am0 prog w hk k e)/\∀ e∈es.toList,∃ k∈ks,am0 prog w hk k e
theorem bv9 (x:N0 (C6 prog w) h k a)(hs:∀ b o,h.get? b=some o->h'.get? b=some o):N0 (C6 prog w) h' k a:=by
 obtain⟨o,items,n,h2,h3⟩:=x
 exact⟨o,items,n,hs a o h2,h3⟩
theorem am0.up {e:En}(x:am0 prog w h k e)(hs:∀ b o,h.get? b=some o->h'.get? b=some o):am0 prog w h' k e:=by
 obtain⟨a,h1,h2,h6⟩:=x
 exact⟨a,h1,bv9 h2 hs,h6⟩
theorem am0.inj {k':List Int}{e:En}(x:am0 prog w h k e)(y:am0 prog w h k' e):k=k':=by
 obtain⟨a,h1,h2,_⟩:=x
 obtain⟨b,h3,h4,_⟩:=y
 rw[h1]at h3
 cases h3
 exact h2.inj h4
theorem bb2 (x:Addr)(es:Array En):byScan (.ref x) es=false:=by
 unfold byScan Value.scannable
 rfl
theorem au4 {x:Addr}{Q:Bool->Shared->Prop}(hx:N0 (C6 prog w) s.heap k x)(h:Q true s):q8 (u7 prog w) A (bh9 8 (.ref x)) Q E s:=by
 have hT:=hx.typeIs
 obtain⟨o,items,n,ho,hc,hd,hi⟩:=hx
 unfold bh9
 refine b8 (wpAny_specialOf hT F.slot_tuple_hash.lookup ?_)
 dsimp only
 refine b8 (K2 ho hd ?_)
 show q8 _ _ (forIn items _ _ >>= _) _ _ s
 rw[<- bI8]
 have hv:∀ v∈items.toList,∃ i t,v=.int i t:=fun v hv=>by
  clear ho hd
  generalize items.toList=l at hi hv
  induction hi with
  | nil=>cases hv
  | cons h1 _ ih =>
   rcases j6.mp hv with rfl | hv
   ·obtain⟨t,e⟩:=Value.isInt_shape h1
    exact⟨_,t,e⟩
   ·exact ih hv
 refine b8 (as5 _ (fun rest r s'=>r.1=none/\s'=s/\∀ v∈rest,∃ i t,v=.int i t) _ ?_ ?_ _ _ ⟨rfl,rfl,hv⟩)
 ·rintro v rest r s' ⟨hr,rfl,hall⟩
  obtain⟨i,t,rfl⟩:=hall v m7
  have e:bh9 7 (.int i t)=pure true:=by unfold bh9;rfl
  rw[e]
  refine b8 (i7 ?_)
  simp only[U3,t7,if_false]
  exact i7 ⟨rfl,rfl,fun u hu'=>hall u (i8 _ hu')⟩
 ·rintro⟨r1,r2⟩ s' ⟨hr,rfl,_⟩
  simp only at hr
  subst hr
  exact i7 h
theorem aG3 {S x:Addr}{o:Obj}{es:Array En}{ep:Nat}{h:Int}{Q:SetFound->Shared->Prop}(ho:s.heap.get? S=some o)(hd:o.data=.set es ep t)(T:Tb t es)(hh:∀ e∈es.toList,e.1≠h)
  (hq:∀ n,n<10*turns t.mask->(∀ i:Nat,t.place[i]?≠some (it t n (t.probeStart h)).j)->(it t n (t.probeStart h)).j<=t.mask->(∀ k,k<n->∃ i':Nat,t.place[i']?=some (it t k (t.probeStart h)).j)->Q (.free (it t n (t.probeStart h)).j false) s) :
  q8 (u7 prog w) A (bM6 S (.ref x) h true) Q E s:=by
 obtain⟨n,h1,h2,h3,h4,h5⟩:=T.absent hh
 unfold bM6 aK3
 refine b8 (V1 ho hd T.fits ?_)
 dsimp only
 rw[T.odd]
 simp only[t7,if_false]
 split
 ·rename_i met hm
  have e:=hm.symm.trans h5
  cases e
  exact i7 (hq n h1 h2 h3 h4)
 ·rename_i hm
  exact absurd h5 (fun z=>hm _ z)
theorem aW3 {x:Addr}{Q:Bool->Shared->Prop}(hx:N0 (C6 prog w) s.heap k x)(h:Q false s):q8 (u7 prog w) A (an0 8 (.ref x)) Q E s:=by
 have hT:=hx.typeIs
 obtain⟨o,items,n,ho,hc,hd,hi⟩:=hx
 unfold an0
 refine b8 (bM3 hT ?_)
 dsimp only
 rw[if_pos (by decide)]
 refine b8 (i7 ?_)
 simp only[U3,t7,if_false]
 refine b8 (K2 ho hd ?_)
 dsimp only
 rw[<- bI8]
 have hv:∀ v∈items.toList,∃ i t,v=.int i t:=fun v hv=>by
  clear ho hd
  generalize items.toList=l at hi hv
  induction hi with
  | nil=>cases hv
  | cons h1 _ ih =>
   rcases j6.mp hv with rfl | hv
   ·obtain⟨t,e⟩:=Value.isInt_shape h1
    exact⟨_,t,e⟩
   ·exact ih hv
 refine b8 (as5 _ (fun rest r s'=>r.1=none/\s'=s/\∀ v∈rest,∃ i t,v=.int i t) _ ?_ ?_ _ _ ⟨rfl,rfl,hv⟩)
 ·rintro v rest r s' ⟨hr,rfl,hall⟩
  obtain⟨i,t,rfl⟩:=hall v m7
  have e:an0 7 (.int i t)=pure false:=by unfold an0;rfl
  rw[e]
  refine b8 (i7 ?_)
  simp only[t7,if_false]
  exact i7 ⟨rfl,rfl,fun u hu'=>hall u (i8 _ hu')⟩
 ·rintro⟨r1,r2⟩ s' ⟨hr,rfl,_⟩
  simp only at hr
  subst hr
  exact i7 h
theorem bN6 {x:Addr}{l:List Value}{Q:Bool->Shared->Prop}(hx:N0 (C6 prog w) s.heap k x)(hl:∀ v∈l,∃ a k',v=.ref a/\N0 (C6 prog w) s.heap k' a)(h:Q false s) :
  q8 (u7 prog w) A (searchCouldBeSeen (.ref x) l) Q E s:=by
 unfold searchCouldBeSeen
 refine b8 (as5 _ (fun rest r s'=>r.1=none/\s'=s/\∀ v∈rest,∃ a k',v=.ref a/\N0 (C6 prog w) s.heap k' a) _ ?_ ?_ _ _ ⟨rfl,rfl,hl⟩)
 ·rintro v rest r s' ⟨hr,rfl,hall⟩
  obtain⟨a,k',rfl,ha⟩:=hall v m7
  have hrest:∀ v∈rest,∃ a k',v=.ref a/\N0 (C6 prog w) s'.heap k' a:=fun u hu'=>hall u (i8 _ hu')
  dsimp only
  split
  ·exact i7 ⟨rfl,rfl,hrest⟩
  ·refine b8 (bM7 hx ?_)
   simp only[U3,t7,if_false]
   refine b8 (bM7 ha ?_)
   simp only[U3,t7,if_false]
   refine b8 (aW3 hx ?_)
   simp only[t7,if_false]
   refine b8 (aW3 ha ?_)
   simp only[t7,if_false]
   exact i7 ⟨rfl,rfl,hrest⟩
 ·rintro⟨r1,r2⟩ s' ⟨hr,rfl,_⟩
  simp only at hr
  subst hr
  exact i7 h
theorem aA8 {S x:Addr}{o:Obj}{es:Array En}{ep:Nat}{e:En}{Q:SetFound->Shared->Prop}(hu:A.units<aw4)(ho:s.heap.get? S=some o)(hd:o.data=.set es ep t)(T:Tb t es)
  (hx:N0 (C6 prog w) s.heap k x)(he:es[i]?=some e)(hk:am0 prog w s.heap k e)(hall:∀ e∈es.toList,∃ k,am0 prog w s.heap k e)(huq:∀ (c:Nat) (e':En),es[c]?=some e'->e'.1=e.1->c=i)
  (hq:Q (.there none) s):q8 (u7 prog w) A (bM6 S (.ref x) (x9 (C6 prog w) k) true) Q E s:=by
 obtain⟨y,hy1,hy2,hy3⟩:=hk
 obtain⟨j,q,hp⟩:=T.present he huq
 rw[hy3]at hp
 unfold bM6 aK3
 refine b8 (V1 ho hd T.fits ?_)
 dsimp only
 rw[T.odd]
 simp only[t7,if_false]
 have fin:q8 (u7 prog w) A (do
   let some (_,y):=es[i]? | aF7 "internal:set-entry"
   let equal <- aF6 [y] (eqBool y (.ref x))
   let (es',_,t') <- setState S
   if true && equal then return .there none
   let some same:=t'.sameMemory t.moves t.mask | aF7 "set.changed-during-lookup:is-the-new-block-at-the-old-address"
   let still <- match (if same then t'.slot j else .empty) with
    | .live i'=>match es'[i']? with
     | some (_,y')=>do pure (if <- isSame y' y then some i' else none)
     | none=>pure none
    | _=>pure none
   match still with
   | none=>rule "set.search.anew";aK3 S (.ref x) (x9 (C6 prog w) k) true 99999 none
   | some i'=>if equal then return .there (some i') else aK3 S (.ref x) (x9 (C6 prog w) k) true 99999 (some q)) Q E s:=by
  rw[he]
  obtain⟨e1,e2⟩:=e
  have hy1:e2=.ref y:=hy1
  subst hy1
  dsimp only
  refine b8 (E9 (wpAny_eqBool_tuple hu hy2 hx ?_))
  refine b8 (V1 ho hd T.fits ?_)
  dsimp only
  rw[decide_eq_true rfl]
  simp only[Bool.and_self,if_true]
  exact i7 hq
 split
 ·rename_i met hm
  have e9:=hm.symm.trans hp
  cases e9
  dsimp only
  cases hled:t.led with
  | true =>
   simp only[U3,t7,if_false]
   exact fin
  | false =>
   simp only[Bool.not_false,if_true]
   refine b8 (bN6 hx (fun v hv=>?_) ?_)
   ·rw[E8]at hv
    obtain⟨e',he',rfl⟩:=hv
    have he'':e'∈es.toList:=by
     have:=Array.mem_filter.mp (as8.mp he')
     exact as8.mpr this.1
    obtain⟨k',a,h1,h2,_⟩:=hall e' he''
    exact⟨a,k',h1,h2⟩
   ·simp only[t7,if_false]
    exact fin
 ·rename_i hm
  exact absurd hp (fun z=>hm _ z)
theorem thr {m:Nat}(g:Good m)(h1:n*5<m*3)(h2:m*3<=(n+1)*5)(h3:n<300):(m=7/\n+1=5)\/(m=31/\n+1=19)\/(m=127/\n+1=77):=by
 rcases g with rfl | rfl | rfl | rfl<;>omega
theorem ba6 {m:Nat}(g:Good m)(h1:n*5<m*3)(h2:m*3<=(n+1)*5)(h3:n<300):Good (sizeAbove (grown (n+1)) - 1)/\(n+1)*5<(sizeAbove (grown (n+1)) - 1)*3/\sizeAbove (grown (n+1))<=4096:=by
 rcases thr g h1 h2 h3 with⟨_,e⟩ | ⟨_,e⟩ | ⟨_,e⟩<;>rw[e]<;>refine⟨?_,by decide +kernel,by decide +kernel⟩
 ·exact .inr (.inl (by decide +kernel))
 ·exact .inr (.inr (.inl (by decide +kernel)))
 ·exact .inr (.inr (.inr (by decide +kernel)))
theorem bB6 {es:Array En}(T:Tb' t es):t.tooFull=decide (t.mask*3<=es.size*5):=by
 unfold tooFull PySem.SetTable.fill
 rw[T.dum,T.len]
 rfl
theorem stored {S:Addr}{o:Obj}{es es':Array En}{ep:Nat}{t':SetTable}(ho:h.get? S=some o)(hd:o.data=.set es ep t) :
  (h.update S (Obj.putSet es' t')).get? S=some { o with data:=.set es' (ep+1) t' }:=by
 have:=O6 (Obj.putSet es' t') ho (by rw[putSet_of es' t' hd];rfl)
 rw[putSet_of es' t' hd]at this
 exact this
theorem aR5 {S x:Addr}{Q:Bool->Shared->Prop}{hp:Heap}(hup:∀ b o,hp.get? b=some o->s.heap.get? b=some o)(hu:A.units<aw4)(hS:ax4 prog w hp s.heap S ks)(hx0:N0 (C6 prog w) hp k x)(hk:av8 k)(hn:ks.length<300)
  (hq:∀ (b:Bool) (h':Heap) (tk:Nat),s.toks<=tk->Heap.SameBut S s.heap h'->ax4 prog w hp h' S (if k∈ks then ks else k::ks)->Q b { s with heap:=h',toks:=tk }) :
  q8 (u7 prog w) A (setAdd S (.ref x)) Q E s:=by
 have hx:=bv9 hx0 hup
 unfold setAdd
 refine E9 (b8 (wpAny_pyHash_tuple hu hx ?_))
 obtain⟨o,es,ep,t,ho,hex,hd,T,hsz,hnd,hok,hto,hfrom⟩:=hS
 unfold setAddHashed
 refine E9 ?_
 unfold setAddHashedIn
 refine b8 (V1 (s:={ s with toks:=s.toks+(k.length+1) }) ho hd T.fits ?_)
 dsimp only
 rw[bb2]
 simp only[t7,if_false]
 by_cases hmem:k∈ks
 ·-- it is there
  obtain⟨e,he,hek⟩:=hto k hmem
  obtain⟨i,hi⟩:=q0.mp he
  rw[i9]at hi
  have huq:∀ (c:Nat) (e':En),es[c]?=some e'->e'.1=e.1->c=i:=fun c e' hc hh=>by
   apply Classical.byContradiction
   intro hci
   have hkey:∀ (c:Nat),c<es.size->∃ kk,kk∈ks/\∃ e,es[c]?=some e/\am0 prog w hp kk e:=fun c hc=>by
    have e:=getElem?_pos es c hc
    obtain⟨kk,h1,h2⟩:=hfrom es[c] (by simp)
    exact⟨kk,h1,_,e,h2⟩
   have e'k:am0 prog w hp k e':=by
    obtain⟨kk,h1,h2⟩:=hfrom e' (j0 (by rw[i9];exact hc))
    have h3:=h2
    obtain⟨_,_,_,h4⟩:=h2
    have h5:=hek
    obtain⟨_,_,_,h6⟩:=h5
    have:kk=k:=aV5 (prog:=prog) (w:=w) (hok kk h1) hk (by rw[<- h4,hh,h6])
    rw[<- this]
    exact h3
   have hch:∀ n,n<ks.length->∃ c,c<es.size/\∃ e,es[c]?=some e/\∃ kk,ks[n]?=some kk/\am0 prog w hp kk e:=fun n hn'=>by
    obtain⟨e,he,hek⟩:=hto ks[n] (aP2 hn')
    obtain⟨c,hc⟩:=q0.mp he
    rw[i9]at hc
    exact⟨c,(getElem?_eq_some_iff.mp hc).1,e,hc,ks[n],i6 hn',hek⟩
   have:=aM2 (es.size - 1) ks.length (fun n=>if hn':n<ks.length then (let c0:=Classical.choose (hch n hn');let c1:=if c0=c then i else c0;if c1<c then c1 else c1 - 1) else 0) ?_ ?_
   ·have hc':=(getElem?_eq_some_iff.mp hc).1
    omega
   ·intro n hn'
    dsimp only
    rw[dif_pos hn']
    have hp:=Classical.choose_spec (hch n hn')
    generalize Classical.choose (hch n hn')=c0 at hp
    obtain⟨p1,_⟩:=hp
    have hc':=(getElem?_eq_some_iff.mp hc).1
    have hi':=(getElem?_eq_some_iff.mp hi).1
    split<;>split<;>omega
   ·intro n n' hn1 hn2 eqn
    dsimp only at eqn
    rw[dif_pos hn1,dif_pos hn2]at eqn
    have hp:=Classical.choose_spec (hch n hn1)
    have hp':=Classical.choose_spec (hch n' hn2)
    generalize Classical.choose (hch n hn1)=c0 at hp eqn
    generalize Classical.choose (hch n' hn2)=c0' at hp' eqn
    obtain⟨p1,e1,p2,kk,p3,p4⟩:=hp
    obtain⟨p1',e1',p2',kk',p3',p4'⟩:=hp'
    have same:kk=kk':=by
     have r1:am0 prog w hp kk (if c0=c then e else e1):=by
      split
      ·rename_i hcc
       subst hcc
       rw[hc]at p2
       cases p2
       have:=p4.inj e'k
       rw[this]
       exact hek
      ·exact p4
     have r2:am0 prog w hp kk' (if c0'=c then e else e1'):=by
      split
      ·rename_i hcc
       subst hcc
       rw[hc]at p2'
       cases p2'
       have:=p4'.inj e'k
       rw[this]
       exact hek
      ·exact p4'
     have g1:es[if c0=c then i else c0]?=some (if c0=c then e else e1):=by split<;>assumption
     have g2:es[if c0'=c then i else c0']?=some (if c0'=c then e else e1'):=by split<;>assumption
     have ne1:(if c0=c then i else c0)≠c:=by split<;>omega
     have ne2:(if c0'=c then i else c0')≠c:=by split<;>omega
     have eqc:(if c0=c then i else c0)=(if c0'=c then i else c0'):=by
      generalize (if c0=c then i else c0)=u at eqn ne1
      generalize (if c0'=c then i else c0')=v at eqn ne2
      split at eqn<;>split at eqn<;>omega
     rw[eqc,g2]at g1
     rw[<- Option.some.inj g1]at r1
     exact r1.inj r2
    subst same
    obtain⟨q1,q2⟩:=j5.mp p3
    obtain⟨q3,q4⟩:=j5.mp p3'
    rcases aJ7 n n' with z | z | z
    ·exact absurd (q2.trans q4.symm) (v7.mp hnd n n' q1 q3 z)
    ·exact z
    ·exact absurd (q4.trans q2.symm) (v7.mp hnd n' n q3 q1 z)
  refine b8 (aA8 (s:={ s with toks:=s.toks+(k.length+1) }) hu ho hd T hx hi (hek.up hup) (fun e he=>?_) huq ?_)
  ·obtain⟨kk,_,h2⟩:=hfrom e he
   exact⟨kk,h2.up hup⟩
  ·refine i7 ?_
   have:=hq false s.heap (s.toks+(k.length+1)) (R5 _ _) (Heap.SameBut.refl S s.heap)
   rw[if_pos hmem]at this
   exact this ⟨o,es,ep,t,ho,hex,hd,T,hsz,hnd,hok,hto,hfrom⟩
 ·-- it is new
  have hh:∀ e∈es.toList,e.1≠x9 (C6 prog w) k:=fun e he z=>by
   obtain⟨kk,h1,h2⟩:=hfrom e he
   obtain⟨_,_,_,h4⟩:=h2
   have:kk=k:=aV5 (prog:=prog) (w:=w) (hok kk h1) hk (by rw[<- h4,z])
   exact hmem (this ▸ h1)
  refine b8 (aG3 (s:={ s with toks:=s.toks+(k.length+1) }) ho hd T hh fun n hn1 hfr hle hocc=>?_)
  dsimp only
  refine b8 (V1 (s:={ s with toks:=s.toks+(k.length+1) }) ho hd T.fits ?_)
  dsimp only
  obtain⟨hp1,T1⟩:=T.put (h:=x9 (C6 prog w) k) (x:=Value.ref x) hn1 hfr hle hocc
  generalize hpt:t.put (it t n (t.probeStart (x9 (C6 prog w) k))).j=tp at hp1 T1 ⊢
  have hled:tp.1.mask=t.mask:=by
   rw[<- hpt]
   unfold SetTable.put
   rfl
  obtain⟨t1,p⟩:=tp
  dsimp only at hp1 T1 hled ⊢
  have hsz1:(insertAt es p (x9 (C6 prog w) k,Value.ref x)).size=es.size+1:=aq0 hp1
  have fits1:(insertAt es p (x9 (C6 prog w) k,Value.ref x)).size<=d7:=by rw[hsz1,hsz,N1];omega
  have made:∀ (h':Heap) (o':Obj) (es':Array En) (ep':Nat) (t':SetTable),Heap.SameBut S s.heap h'->h'.get? S=some o'->o'.ExactSet->o'.data=.set es' ep' t'->Tb t' es' ->
    es'.toList.Perm (insertAt es p (x9 (C6 prog w) k,Value.ref x)).toList->ax4 prog w hp h' S (k::ks):=fun h' o' es' ep' t' hsb ho' hex' hd' T' hpm=>by
   have hmemE:∀ e,e∈es'.toList↔e=(x9 (C6 prog w) k,Value.ref x)\/e∈es.toList:=fun e=>by rw[hpm.mem_iff];exact bF7 hp1 e
   have hnew:am0 prog w hp k (x9 (C6 prog w) k,Value.ref x):=⟨x,rfl,hx0,rfl⟩
   refine⟨o',es',ep',t',ho',hex',hd',T',?_,G5.mpr ⟨hmem,hnd⟩,fun kk hkk=>?_,fun kk hkk=>?_,fun e he=>?_⟩
   ·have:=hpm.length_eq
    rw[o7,o7,hsz1,hsz]at this
    rw[this,m6]
   ·rcases j6.mp hkk with rfl | hkk
    ·exact hk
    ·exact hok kk hkk
   ·rcases j6.mp hkk with rfl | hkk
    ·exact⟨_,(hmemE _).mpr (.inl rfl),hnew⟩
    ·obtain⟨e,he,hek⟩:=hto kk hkk
     exact⟨e,(hmemE e).mpr (.inr he),hek⟩
   ·rcases(hmemE e).mp he with rfl | he
    ·exact⟨k,m7,hnew⟩
    ·obtain⟨kk,h1,h2⟩:=hfrom e he
     exact⟨kk,i8 _ h1,h2⟩
  have rest:∀ b:Bool,q8 (u7 prog w) A (do
    storeSet S (insertAt es p (x9 (C6 prog w) k,Value.ref x)) (if b=true then t1 else { t1 with plain:=false })
    if (!false && (if b=true then t1 else { t1 with plain:=false }).tooFull)=true then do
     setRelay S (grown (es.size+1))
     pure true
    else pure true) Q E { s with toks:=s.toks+(k.length+1) }:=fun b=>by
   have T2:Tb' (if b=true then t1 else { t1 with plain:=false }) (insertAt es p (x9 (C6 prog w) k,Value.ref x)):=by
    split
    ·exact T1
    ·exact T1.plain false
   have hm2:(if b=true then t1 else { t1 with plain:=false }).mask=t.mask:=by split<;>exact hled
   generalize (if b=true then t1 else { t1 with plain:=false })=t2 at T2 hm2
   refine b8 (wpAny_storeSet_of (s:={ s with toks:=s.toks+(k.length+1) }) ho hd ?_ fits1)
   have ho1:=stored (es':=insertAt es p (x9 (C6 prog w) k,Value.ref x)) (t':=t2) ho hd
   have hsb1:=Heap.SameBut.update s.heap S (Obj.putSet (insertAt es p (x9 (C6 prog w) k,Value.ref x)) t2)
   rw[bB6 T2]
   simp only[Bool.not_false,bn8,decide_eq_true_eq]
   by_cases hful:t2.mask*3<=(insertAt es p (x9 (C6 prog w) k,Value.ref x)).size*5
   ·rw[if_pos hful]
    rw[hsz1,hm2]at hful
    obtain⟨g1,g2,g3⟩:=ba6 T.good T.nf hful (by rw[hsz];exact hn)
    unfold setRelay
    refine b8 (b8 (V1 (s:={ s with heap:=s.heap.update S (Obj.putSet (insertAt es p (x9 (C6 prog w) k,Value.ref x)) t2),toks:=s.toks+(k.length+1) }) ho1 rfl T2.fits ?_))
    dsimp only
    rw[if_neg (by rw[N1];omega)]
    obtain⟨t3,order,hl3,T3,hpm3⟩:=bG3 (M:=sizeAbove (grown (es.size+1)) - 1) (finger:=t2.finger) (moves:=t2.movedTo (sizeAbove (grown (es.size+1)) - 1)) (led:=t2.led) (plain:=t2.plain) (es:=insertAt es p (x9 (C6 prog w) k,Value.ref x)) g1 (by rw[hsz1];exact g2)
    have hrel:t2.relaid ((insertAt es p (x9 (C6 prog w) k,Value.ref x)).map (·.1)) (grown (es.size+1))=some (t3,order):=by
     unfold relaid
     exact hl3
    rw[hrel]
    have hsz3:(order.filterMap ((insertAt es p (x9 (C6 prog w) k,Value.ref x))[·]?)).size=(insertAt es p (x9 (C6 prog w) k,Value.ref x)).size:=by
     rw[<- o7,hpm3.length_eq,o7]
    refine b8 ?_
    show q8 _ _ (if ((order.filterMap ((insertAt es p (x9 (C6 prog w) k,Value.ref x))[·]?)).size != (insertAt es p (x9 (C6 prog w) k,Value.ref x)).size)=true then _ else _) _ _ _
    rw[if_neg (by rw[hsz3];simp)]
    first | refine i7 ?_ | refine b8 (i7 (i7 ?_))
    dsimp only
    refine wpAny_storeSet_of (s:={ s with heap:=s.heap.update S (Obj.putSet (insertAt es p (x9 (C6 prog w) k,Value.ref x)) t2),toks:=s.toks+(k.length+1) }) ho1 rfl ?_ (by rw[hsz3];exact fits1)
    refine i7 ?_
    have ho2:=stored (es':=order.filterMap ((insertAt es p (x9 (C6 prog w) k,Value.ref x))[·]?)) (t':=t3) ho1 rfl
    have hsb2:=hsb1.trans (Heap.SameBut.update _ S (Obj.putSet (order.filterMap ((insertAt es p (x9 (C6 prog w) k,Value.ref x))[·]?)) t3))
    have:=hq true _ (s.toks+(k.length+1)) (R5 _ _) hsb2
    rw[if_neg hmem]at this
    exact this (made _ _ _ _ _ hsb2 ho2 hex rfl T3 hpm3)
   ·rw[if_neg hful]
    refine i7 ?_
    have:=hq true _ (s.toks+(k.length+1)) (R5 _ _) hsb1
    rw[if_neg hmem]at this
    exact this (made _ _ _ _ _ hsb1 ho1 hex rfl (T2.full (by omega)) (List.Perm.refl _))
  cases hpl:t1.plain with
  | true =>
   rw[if_pos rfl]
   refine b8 (au4 (s:={ s with toks:=s.toks+(k.length+1) }) hx ?_)
   exact rest true
  | false =>
   rw[if_neg j9]
   refine b8 (i7 ?_)
   exact rest true
def Z7 (ks:List (List Int))(k:List Int):List (List Int):=if k∈ks then ks else k::ks
theorem bw2 (ks:List (List Int))(k:List Int):(Z7 ks k).length<=ks.length+1:=by unfold Z7;split<;>simp
theorem ar5:∀ (l ks:List (List Int)),(l.foldl Z7 ks).length<=ks.length+l.length
 | [],ks=>by simp
 | k::l,ks=>by
  rw[ae5]
  have h1:=ar5 l (Z7 ks k)
  have h2:=bw2 ks k
  rw[m6]
  omega
theorem au7:∀ (l ks:List (List Int)),(l.foldl Z7 ks).length=ks.length+l.length↔l.Nodup/\∀ x∈l,x∉ks
 | [],ks=>by simp
 | k::l,ks=>by
  rw[ae5,m6,G5]
  by_cases h:k∈ks
  ·have e:Z7 ks k=ks:=by unfold Z7;rw[if_pos h]
   rw[e]
   have:=ar5 l ks
   constructor
   ·intro q;omega
   ·rintro⟨_,q⟩
    exact absurd h (q k m7)
  ·have e:Z7 ks k=k::ks:=by unfold Z7;rw[if_neg h]
   rw[e]
   have:=au7 l (k::ks)
   rw[m6]at this
   constructor
   ·intro q
    obtain⟨q1,q2⟩:=this.mp (by omega)
    refine⟨⟨fun hk=>q2 k hk m7,q1⟩,fun x hx=>?_⟩
    rcases j6.mp hx with rfl | hx
    ·exact h
    ·exact fun z=>q2 x hx (i8 _ z)
   ·rintro⟨⟨q1,q2⟩,q3⟩
    have:=this.mpr ⟨q2,fun x hx z=>by
     rcases j6.mp z with rfl | z
     ·exact q1 hx
     ·exact q3 x (i8 _ hx) z⟩
    omega
theorem aQ5 {R:Result->Shared->Prop}{I:Addr}{wr:List Addr}{G:Array bA4->Array bA4->Prop}{P:Nat->Value->Prop}{St:Nat->Shared->Prop}
  (W:WalksS prog w A.in1 I fp wr G n P St)(hu:A.in1.units<aw4)(S:Addr)(hSf:S∉fp)(hp:Heap)(hS0:hp.get? S=none)(hw0:∀ b∈wr,hp.get? b=none)(keys:List (List Int))(hn:keys.length=n)(hb:n<300)
  (hkey:∀ i v,P i v->∃ x k,v=.ref x/\keys[i]?=some k/\av8 k/\N0 (C6 prog w) hp k x) :
  ∀ (c i:Nat) (s:Shared),n - i=c->i<=n->St i s->(∀ b o,hp.get? b=some o->s.heap.get? b=some o)->ax4 prog w hp s.heap S ((keys.take i).foldl Z7 []) ->
   (∀ s',Moved (S::wr) G s s'->ax4 prog w hp s'.heap S (keys.foldl Z7 [])->R (.ok (.ret .none)) s') ->
   al6 (u7 prog w) A (.builtin "set.update.loop" ⟨[.ref S,.ref I],[]⟩) R s:=by
 have hSw:S∉wr:=fun h=>hSf (W.sub _ h)
 have hsub:∀ b∈wr,b∈S::wr:=fun b hb=>i8 _ hb
 have nw:∀ b o,hp.get? b=some o->b∉wr:=fun b o e hm=>by rw[hw0 b hm]at e;cases e
 have nS:∀ b o,hp.get? b=some o->b≠S:=fun b o e hm=>by rw[hm,hS0]at e;cases e
 have setKept:∀ {s s':Shared} {ks:List (List Int)},ax4 prog w hp s.heap S ks->(∀ b o,b∉wr->s.heap.get? b=some o->s'.heap.get? b=some o)->ax4 prog w hp s'.heap S ks:=fun {s s' ks} hS hk=>by
  obtain⟨o,es,ep,t,ho,rest⟩:=hS
  exact⟨o,es,ep,t,hk S o hSw ho,rest⟩
 intro c
 induction c with
 | zero =>
  intro i s hk hi hst hup hS hR
  have hin:i=n:=by omega
  subst hin
  refine Q5 PyProof.Rows.F.entry_set_update_loop ?_
  rw[Around.under_plainId PyProof.Rows.F.plain_set_update_loop _]
  show q8 _ A.in1 (aJ8 (.ref I) >>= _) _ _ s
  refine b8 (W.done s _ _ hst fun s' hm=>?_)
  show q8 _ A.in1 (ret Value.none) _ _ s'
  refine i7 (hR s' (hm.mono hsub) ?_)
  have:=setKept hS hm.heap
  rw[o6 (by omega)]at this
  exact this
 | succ c ih =>
  intro i s hk hi hst hup hS hR
  have hlt:i<n:=by omega
  refine Q5 PyProof.Rows.F.entry_set_update_loop ?_
  rw[Around.under_plainId PyProof.Rows.F.plain_set_update_loop _]
  show q8 _ A.in1 (aJ8 (.ref I) >>= _) _ _ s
  refine b8 (W.item i s _ _ hlt hst fun v s' hP hst' hm=>?_)
  obtain⟨x,k,rfl,hki,hok,hx⟩:=hkey i v hP
  have hup':∀ b o,hp.get? b=some o->s'.heap.get? b=some o:=fun b o e=>hm.heap b o (nw b o e) (hup b o e)
  have hS':=setKept (s':=s') hS hm.heap
  show q8 _ A.in1 (aF6 [Value.ref x] (setAdd S (.ref x)) >>= _) _ _ s'
  refine b8 (E9 ?_)
  have hlen:((keys.take i).foldl Z7 []).length<300:=by
   have:=ar5 (keys.take i) []
   rw[u5]at this
   simp only[ae4]at this
   omega
  refine aR5 hup' hu hS' hx hok hlen fun b h' tk htk hsb hS2=>?_
  have hS3:ax4 prog w hp h' S ((keys.take (i+1)).foldl Z7 []):=by
   rw[G0,hki,List.foldl_append]
   exact hS2
  refine i7 ⟨ap2 PyProof.Rows.F.plain_set_update_loop _,ih (i+1) _ (by omega) hlt (W.frame _ s' _ _ hst' htk fun b hb o e=>?_) (fun b o e=>?_) hS3 fun s'' hm'' hS''=>?_⟩
  ·rw[hsb.2 b (fun h:b=S=>hSf (h ▸ hb))];exact e
  ·show h'.get? b=some o
   rw[hsb.2 b (nS b o e)]
   exact hup' b o e
  ·refine hR s'' (Moved.trans W.gtrans ((hm.mono hsub).then_heap htk fun b o hb e=>?_) hm'') hS''
   rw[hsb.2 b (fun h:b=S=>hb (h ▸ m7))];exact e
set_option maxRecDepth 100000 in
set_option maxHeartbeats 3200000 in
theorem aR4 {l:Addr}{keys:List (List Int)}(hh:A.handled=none)(hu:A.units+8<aw4)(hl:s.heap.IsList l items)(hn:keys.length=items.size)(hb:items.size<300)
  (hkey:∀ (i:Nat) (v:Value),items[i]?=some v->∃ x k,v=.ref x/\keys[i]?=some k/\av8 k/\N0 (C6 prog w) s.heap k x)
  (h:∀ (h':Heap) (tk:Nat),ax4 prog w s.heap h' s.heap.objs.size (keys.foldl Z7 [])->(∀ b o,s.heap.get? b=some o->h'.get? b=some o)->Q (.ref s.heap.objs.size) { s with heap:=h',toks:=tk }) :
  q8 (u7 prog w) A (call (.type "set") [.ref l]) Q E s:=by
 obtain⟨c,tl,hmro⟩:=F.called_set.mro
 have hmade:=F.called_set.made
 have hsub:=F.called_set.sub
 refine aP9 (codeAny_of_tree ?_)
 show q8 _ _ (callAny (.type "set") _) _ _ _
 refine i7 ⟨Code.quiet_builtin _ (by decide +kernel),Q5 F.entry_type_call ?_⟩
 rw[Around.under_plain (bM8 "set" [.ref l] []) rfl]
 have h1:=F.called_set.notType
 have h2:=F.called_set.canCreate
 have hct:=F.typeCall_set_1 (.ref l)
 repeat (any_goals (first | assumption | wp_step))
 refine U8 (code_set_new_1 (.ref l) (E:=E) (Q₁:=fun obj s₁=>∃ led:Bool,obj=.ref s.heap.objs.size/\s₁={ s with heap:=s.heap.push { cls:=.type "set",dict:=none,data:=.set #[] 0 (.fresh 0 0 led) } }) fun led=>⟨led,rfl,rfl⟩) fun r s₁ hr=>?_
 cases r with
 | error e=>exact hr
 | ok fl =>
  cases fl with
  | ret obj =>
   obtain⟨led,rfl,rfl⟩:=hr
   have hS:(s.heap.push { cls:=.type "set",dict:=none,data:=.set #[] 0 (.fresh 0 0 led) }).get? s.heap.objs.size=some { cls:=.type "set",dict:=none,data:=.set #[] 0 (.fresh 0 0 led) }:=m9 _ rfl
   have hT:Shared.TypeIs { s with heap:=s.heap.push { cls:=.type "set",dict:=none,data:=.set #[] 0 (.fresh 0 0 led) } } (.ref s.heap.objs.size) "set":=⟨_,hS,rfl⟩
   have hli:=F.called_set.init.lookup
   have hbi:=F.called_set.init.bind (.ref s.heap.objs.size)
   repeat (any_goals (first | assumption | wp_step))
   refine U8 (W3 (R:=wants (fun r s₂=>r=.none/\∃ h' tk,s₂={ s with heap:=h',toks:=tk }/\ax4 prog w s.heap h' s.heap.objs.size (keys.foldl Z7 [])/\(∀ b o,s.heap.get? b=some o->h'.get? b=some o)) E) F.called_set.init.plain F.entry_set_init (check_set_init_1 hT ?_)) fun r₂ s₂ hr₂=>?_
   ·obtain⟨ol,hol,hcl,nl,hdl⟩:=hl
    obtain⟨ocls,odict,odata,oslots⟩:=ol
    simp only at hcl hdl
    subst hcl;subst hdl
    have hol':(s.heap.push { cls:=.type "set",dict:=none,data:=.set #[] 0 (.fresh 0 0 led) }).get? l=some { cls:=.type "list",dict:=odict,data:=.seq items nl,slots:=oslots }:=c8 _ hol
    have hsls:=F.sub_list_set
    have hslf:=F.sub_list_frozenset
    have hne:(Value.type "list" == Value.type "dict")=false:=by decide
    have hl1:(s.heap.push { cls:=.type "set",dict:=none,data:=.set #[] 0 (.fresh 0 0 led) }).IsList l items:=⟨_,hol',rfl,nl,rfl⟩
    unfold Builtin.«set.__init__» noKeywords Builtin.Frozenset.updateFrom
    generalize hPI:pyIter=PI
    wp_walk
    subst hPI
    refine Q4 hl1 ?_
    refine b8 (wpAny_runValue ?_)
    have hlS:l<s.heap.objs.size:=d5 hol
    have hh3:A.in1.in1.in1.handled=none:=by simp[hh]
    have hneI:l≠(s.heap.push { cls:=.type "set",dict:=none,data:=.set #[] 0 (.fresh 0 0 led) }).objs.size:=by
     rw[G6];exact l7 (E4 hlS)
    have hSf:s.heap.objs.size∉[(s.heap.push { cls:=.type "set",dict:=none,data:=.set #[] 0 (.fresh 0 0 led) }).objs.size,l]:=by
     rw[G6];simp only[j6,B9,ac0,or_false,not_or]
     exact⟨l7 (Nat.lt_succ_self _),L9 hlS⟩
    refine aQ5 ((Walks.list hh3 _ l hneI items).toS) ?hu s.heap.objs.size hSf s.heap ?hn ?hw keys hn hb hkey (items.size - 0) 0 _ (by omega) (v8 _)
     ⟨⟨_,m9 _ rfl,rfl,rfl⟩,(hl1.push _)⟩ (fun b o e=>c8 _ (c8 _ e)) ?hS0 ?hR
    case hu=>show A.units+1+1+1<aw4;omega
    case hn=>exact av0 (d6 _)
    case hw =>
     intro b hb
     have e:b=(s.heap.push { cls:=.type "set",dict:=none,data:=.set #[] 0 (.fresh 0 0 led) }).objs.size:=by simpa using hb
     rw[e]
     exact av0 (by rw[G6];exact Q8 _)
    case hS0 =>
     have hget:((s.heap.push { cls:=.type "set",dict:=none,data:=.set #[] 0 (.fresh 0 0 led) }).push { cls:=.type "list_iterator",data:=.fields #[.ref l,.int 0 0] }).get? s.heap.objs.size
       = some { cls:=.type "set",dict:=none,data:=.set #[] 0 (.fresh 0 0 led) }:=c8 _ hS
     refine⟨_,_,_,_,hget,⟨rfl,rfl,rfl⟩,rfl,⟨rfl,rfl,?_,?_,.inl rfl,by show 0*5<7*3;decide,?_⟩,rfl,bc2,(fun _ h=>nomatch h),(fun _ h=>nomatch h),(fun _ h=>nomatch h)⟩
     ·intro i j a b hij ea
      simp[SetTable.fresh]at ea
     ·intro i j ea
      simp[SetTable.fresh]at ea
     ·intro i e ea
      simp at ea
    case hR =>
     intro s' hm hS'
     obtain⟨h',g',d',tk',os'⟩:=s'
     have eg:g'=s.gens:=hm.gens
     have ed:d'=s.drawn:=hm.drawn
     have eo:os'=s.os:=hm.os
     subst eg;subst ed;subst eo
     show q8 _ _ _ _ _ _
     refine i7 ?_
     show q8 _ _ (ret Value.none) _ _ _
     refine i7 ⟨rfl,h',tk',rfl,hS',fun b o e=>?_⟩
     have hlt:=d5 e
     have hb1:b≠s.heap.objs.size:=l7 hlt
     have hb2:b≠(s.heap.push { cls:=.type "set",dict:=none,data:=.set #[] 0 (.fresh 0 0 led) }).objs.size:=by
      rw[G6];exact l7 (E4 hlt)
     exact hm.heap b o (by simp only[j6,B9,ac0,or_false,not_or];exact⟨hb1,hb2⟩) (c8 _ (c8 _ e))
   ·cases r₂ with
    | error e=>exact hr₂
    | ok fl₂ =>
     cases fl₂ with
     | ret r =>
      obtain⟨rfl,h',tk,rfl,hS',hk'⟩:=hr₂
      repeat (any_goals (first | assumption | wp_step))
      exact h _ _ hS' hk'
     | _=>exact hr₂.elim
  | _=>exact hr.elim
theorem ba1 {S:Addr}{hp:Heap}(hS:ax4 prog w hp s.heap S ks)(hn:ks.length<300)(h:∀ t tk,Q (.int ks.length t) { s with toks:=tk }) :
  q8 (u7 prog w) A (call (.builtin "len") [.ref S]) Q E s:=by
 obtain⟨o,es,ep,t,ho,hex,hd,T,hsz,_⟩:=hS
 refine call_len_set ho hex hd T.fits (by omega) ?_
 rw[hsz]
 exact h _ _
end Sett
namespace L2
open PySem PySem.Spec PyProof.Rows
def v9 (K:W.Frag)(H:Hp)(ys:List V)(ks:List (List Int)):Prop:=av9 (fun y k=>∃ a,y=V.ref a/\SqT K H a (k.map V.int)) ys ks
theorem v9.len {K:W.Frag}(t:v9 K H ys ks):ys.length=ks.length:=Paired.length t
theorem v9.get {K:W.Frag}:∀ {ys:List V} {ks:List (List Int)} {i:Nat} {y:V},v9 K H ys ks->ys[i]?=some y->∃ a k,y=V.ref a/\ks[i]?=some k/\SqT K H a (k.map V.int)
 | _,_,_,_,.nil,e=>by simp at e
 | _,_,0,_,.cons r _,e=>by
  simp at e
  subst e
  obtain⟨a,h1,h2⟩:=r
  exact⟨a,_,h1,rfl,h2⟩
 | _,_,i+1,y,.cons _ t,e=>by
  obtain⟨a,k,h1,h2,h3⟩:=v9.get (i:=i) (y:=y) t (by simpa using e)
  exact⟨a,k,h1,by simpa using h2,h3⟩
theorem v9.same {K:W.Frag}(hs:∀ b o,H b=some o->H' b=some o):∀ {ys:List V} {ks:List (List Int)},v9 K H ys ks->v9 K H' ys ks
 | _,_,.nil=>.nil
 | _,_,.cons r t=>by
  obtain⟨a,h1,h2⟩:=r
  refine .cons ⟨a,h1,?_⟩ (v9.same hs t)
  rcases h2 with(h | ⟨o,h⟩) | h
  ·exact .inl (.inl (hs _ _ h))
  ·exact .inl (.inr ⟨o,hs _ _ h⟩)
  ·exact .inr h
theorem v9.append {K:W.Frag}:∀ {ys zs:List V} {ks ls:List (List Int)},v9 K H ys ks->v9 K H zs ls->v9 K H (ys++zs) (ks++ls)
 | _,_,_,_,.nil,s=>s
 | _,_,_,_,.cons r t,s=>.cons r (v9.append t s)
theorem v9.take {K:W.Frag}:∀ {ys:List V} {ks:List (List Int)} (n:Nat),v9 K H ys ks->v9 K H (ys.take n) (ks.take n)
 | _,_,0,_=>.nil
 | _,_,_+1,.nil=>.nil
 | _,_,n+1,.cons r t=>.cons r (v9.take n t)
theorem v9.drop {K:W.Frag}:∀ {ys:List V} {ks:List (List Int)} (n:Nat),v9 K H ys ks->v9 K H (ys.drop n) (ks.drop n)
 | _,_,0,t=>t
 | _,_,_+1,.nil=>.nil
 | _,_,n+1,.cons _ t=>v9.drop n t
section
variable {σ:St}
theorem aV0:∀ {k:List Int} {its:List Value},D3 (k.map V.int) its->ItemsAre (C6 prog w) k its
 | [],_,.nil=>.nil
 | i::k,_,.cons r t=>by
  obtain⟨tk,rfl⟩:=r
  exact .cons (by simp[C6,Value.isInt]) (aV0 t)
theorem bB5 (I:Inv X pins σ H s)(h:SqT X.K H a (k.map V.int)):N0 (C6 X.prog X.w) s.heap k a:=by
 obtain⟨its,r,⟨o,ho,hc,n,hd⟩,_⟩:=I.tuple h
 exact⟨o,its.toArray,n,ho,hc,hd,by simpa using aV0 r⟩
theorem ak4 (I:Inv X pins σ H s):∀ {ys:List V} {ks:List (List Int)} {us:List Value},v9 X.K H ys ks->D3 ys us->av9 (fun u k=>∃ a,u=Value.ref a/\N0 (C6 X.prog X.w) s.heap k a) us ks
 | _,_,_,.nil,.nil=>.nil
 | _,_,_,.cons r t,.cons q v=>by
  obtain⟨a,rfl,h⟩:=r
  cases q
  exact .cons ⟨a,rfl,bB5 I h⟩ (ak4 I t v)
theorem ao2 {α β:Type}{R:α->β->Prop}:∀ {l:List α} {m:List β} {i:Nat} {x:α},av9 R l m->l[i]?=some x->∃ y,m[i]?=some y/\R x y
 | _,_,_,_,.nil,e=>by simp at e
 | _,_,0,_,.cons r _,e=>by simp at e;subst e;exact⟨_,rfl,r⟩
 | _,_,i+1,x,.cons _ t,e=>by
  obtain⟨y,h1,h2⟩:=ao2 (i:=i) (x:=x) t (by simpa using e)
  exact⟨y,by simpa using h1,h2⟩
theorem av5 {α β:Type}{R:α->β->Prop}{l l':List α}(p:l'.Perm l):∀ {m:List β},av9 R l m->∃ m',m'.Perm m/\av9 R l' m':=by
 induction p with
 | nil=>intro m h;exact⟨m,List.Perm.refl _,h⟩
 | cons x _ ih =>
  intro m h
  cases h with
  | cons r t =>
   obtain⟨m',p',h'⟩:=ih t
   exact⟨_::m',p'.cons _,.cons r h'⟩
 | swap x y l =>
  intro m h
  cases h with
  | cons r t =>
   cases t with
   | cons r' t'=>exact⟨_::_::_,List.Perm.swap _ _ _,.cons r' (.cons r t')⟩
 | trans _ _ ih1 ih2 =>
  intro m h
  obtain⟨m1,p1,h1⟩:=ih2 h
  obtain⟨m2,p2,h2⟩:=ih1 h1
  exact⟨m2,p2.trans p1,h2⟩
theorem ai7 {α β:Type}{R:α->β->Prop}:∀ {l:List α} {m:List β},av9 R l m->av9 (fun b a=>R a b) m l
 | _,_,.nil=>.nil
 | _,_,.cons r t=>.cons r (ai7 t)
end
theorem aW5:S7 X (.builtin "sorted") (fun xs H Q=>∃ p ys ks,xs=[.ref p]/\SqL X.K H p ys/\v9 X.K H ys ks/\(∀ k∈ks,k≠[]) /\
  ∀ l zs ks',H l=none->ks'.Perm ks->ks'.Pairwise (fun a b=>Tim.O4 b a=false)->v9 X.K (upd H l (.lst zs)) zs ks'->Q (.ref l) (upd H l (.lst zs))):=by
 intro pins s σ H xs us Q I r h
 obtain⟨p,ys,ks,rfl,hq,ht,hne,q⟩:=h
 obtain⟨u,rfl,rx⟩:=vals1 r
 cases rx
 obtain⟨its,r',pl,hz⟩:=I.list hq
 have hlen:=r'.length
 have hk:=ak4 I ht r'
 have hv:∀ v∈its,∃ i k,Tim.IsK X.prog X.w s.heap (i::k) v:=fun v hv=>by
  obtain⟨j,hj⟩:=q0.mp hv
  obtain⟨k,h1,a,rfl,h2⟩:=ao2 hk hj
  cases k with
  | nil=>exact absurd rfl (hne [] (j0 h1))
  | cons i k=>exact⟨i,k,a,rfl,h2⟩
 refine Tim.aG1 pl.isList (by omega) hv fun out h' n hp hs kp e=>?_
 obtain⟨zs,pz,rz⟩:=av5 hp (ai7 r')
 have rz':D3 zs out:=ai7 rz
 have hzl:zs.length<=d7:=by rw[pz.length_eq];exact hz
 have hfr:H (s.heap.objs.size+1)=none:=I.hok.fresh (Q8 _)
 have keepS:∀ b o,H b=some o->upd H (s.heap.objs.size+1) (.lst zs) b=some o:=fun b o e=>by rw[p8 (t8 e hfr)];exact e
 refine⟨.ref (s.heap.objs.size+1),upd H (s.heap.objs.size+1) (.lst zs),I.laid (t':=s.toks) kp (Q8 _) (show P5 X.prog X.w _ h' _ (.lst zs) from ⟨hzl,out,n,rz',e⟩),rfl,?_⟩
 obtain⟨ks',pk,hk'⟩:=av5 pz (show av9 (fun y k=>∃ a,y=V.ref a/\SqT X.K H a (k.map V.int)) ys ks from ht)
 refine q _ zs ks' hfr pk ?_ (v9.same keepS hk')
 have hko:=ak4 I (show v9 X.K H zs ks' from hk') rz'
 have eq:ks'=out.map (Tim.ad9 X.prog X.w s.heap):=by
  clear hs hp rz rz' hk' pk e
  induction hko with
  | nil=>rfl
  | cons r t ih =>
   obtain⟨a,rfl,hka⟩:=r
   rw[x8,Tim.ai9 ⟨a,rfl,hka⟩,<- ih]
 rw[eq,L4]
 exact hs
def bn6 (P:Program)(w:World)(S:Addr)(n:Nat):HO:=.ext fun h=>∃ hk ks,ks.length=n/\n<300/\Sett.ax4 P w hk h S ks
theorem bx7 (hc:X.calm=true)(hu:X.A.units+8<aw4):S7 X (.type "set") (fun xs H Q=>∃ p ys ks,xs=[.ref p]/\SqL X.K H p ys/\v9 X.K H ys ks/\(∀ k∈ks,Sett.av8 k)/\ks.length<300 /\
  ∀ S,H S=none->Q (.ref S) (upd H S (bn6 X.prog X.w S (ks.foldl Sett.Z7 []).length))):=by
 intro pins s σ H xs us Q I r h
 obtain⟨p,ys,ks,rfl,hq,ht,hok,hb,q⟩:=h
 obtain⟨u,rfl,rx⟩:=vals1 r
 cases rx
 obtain⟨its,r',pl,hz⟩:=I.list hq
 have hlen:=r'.length
 have hk:=ak4 I ht r'
 have hkl:=ht.len
 refine Sett.aR4 (keys:=ks) (I.ok.hd hc) hu pl.isList (by simp;omega) (by simp;omega) (fun i v hv=>?_) fun h' tk hS kp=>?_
 ·obtain⟨k,h1,a,rfl,h2⟩:=ao2 hk (by simpa using hv)
  exact⟨a,k,rfl,h1,hok k (j0 h1),h2⟩
 ·have hle:=Sett.ar5 ks []
  simp only[ae4]at hle
  refine⟨.ref s.heap.objs.size,_,I.laid (o:=bn6 X.prog X.w s.heap.objs.size (ks.foldl Sett.Z7 []).length) (t':=tk) kp (d6 _) ?_,rfl,q _ (I.hok.fresh (d6 _))⟩
  refine⟨⟨s.heap,ks.foldl Sett.Z7 [],rfl,by omega,hS⟩,?_,fun h1 h2 ⟨hk1,ks1,e1,e2,hS1⟩ hkeep=>⟨hk1,ks1,e1,e2,?_⟩⟩
  ·obtain⟨o,_,_,_,ho,_⟩:=hS
   exact⟨o,ho⟩
  ·obtain⟨o,es,ep,t,ho,rest⟩:=hS1
   exact⟨o,es,ep,t,hkeep o ho,rest⟩
theorem call_len_set:S7 X (.builtin "len") (fun xs H Q=>∃ S n,xs=[.ref S]/\H S=some (bn6 X.prog X.w S n)/\Q (.int n) H):=by
 intro pins s σ H xs us Q I r h
 obtain⟨S,n,rfl,hS,q⟩:=h
 obtain⟨u,rfl,rx⟩:=vals1 r
 cases rx
 obtain⟨⟨hk,ks,e1,e2,hS1⟩,_⟩:=I.hok S _ hS
 refine Sett.ba1 hS1 (by omega) fun t tk=>?_
 exact⟨.int n,H,I.tok _,⟨t,by rw[e1]⟩,q⟩
def D9 (X:Cx)(scope:Scope)(cl:List (Str × Addr))(N':List Str)(s₃:Shared)(H₃:Hp)(fp:List Addr)(xe':Value->Shared->Prop):Cx:=
 { X with N:=N',s₀:=s₃,H₀:=H₃,env:=P7 scope cl s₃.heap.objs.size X.env,outer:=X.stack,ex:=fp,fn:=fun _=>false,pn:=[],xe:=xe' }
def aO5 (env:Env):List (Str × Addr)->Prop
 | []=>True
 | (x,c)::r=>env.cells.lookup x=some c/\aO5 env r
theorem aO5.get {env:Env}:∀ {cl:List (Str × Addr)} {x:Str} {c:Addr},aO5 env cl->cl.lookup x=some c->env.cells.lookup x=some c
 | [],_,_,_,h=>by cases h
 | (y,d)::r,x,c,⟨h1,h2⟩,h=>by
  rw[bX0]at h
  cases e:x == y with
  | true =>
   rw[e]at h
   cases h
   rw[eq_of_beq e]
   exact h1
  | false =>
   rw[e]at h
   exact aO5.get h2 h
def aF0 (names:List (Str × aK0))(cl:List (Str × Addr)):Bool:=names.all fun y=>y.2 != .cell && (y.2 != .free || (cl.lookup y.1).isSome)
theorem aa8 {env:Env}:∀ {names:List (Str × aK0)} {x:Str} {k:aK0},(names.map fun(n,k)=>if (k == NameKind.free && env.scope.kind == .function && env.kindOf n == some .cell) then (n,NameKind.cell) else (n,k)).lookup x=some k ->
  ∃ k',(x,k')∈names/\(k'=k\/(k'=.free/\k=.cell))
 | [],_,_,h=>by cases h
 | (n,k0)::r,x,k,h=>by
  rw[x8]at h
  have hn:∀ k1,(G2 x ((n,k1)::r.map fun(n,k)=>if (k == NameKind.free && env.scope.kind == .function && env.kindOf n == some .cell) then (n,NameKind.cell) else (n,k)))=some k->(x=n/\k1=k)\/∃ k',(x,k')∈r/\(k'=k\/(k'=.free/\k=.cell)):=fun k1 h=>by
   rw[bX0]at h
   cases e:x == n with
   | true=>rw[e]at h;cases h;exact .inl ⟨eq_of_beq e,rfl⟩
   | false=>rw[e]at h;exact .inr (aa8 h)
  dsimp only at h
  by_cases hc:(k0 == NameKind.free && env.scope.kind == .function && env.kindOf n == some .cell)=true
  ·rw[if_pos hc]at h
   rcases hn _ h with⟨rfl,rfl⟩ | ⟨k',h1,h2⟩
   ·simp only[B5]at hc
    have e0:k0=.free:=eq_of_beq hc.1.1
    exact⟨k0,m7,.inr ⟨e0,rfl⟩⟩
   ·exact⟨k',i8 _ h1,h2⟩
  ·rw[if_neg hc]at h
   rcases hn _ h with⟨rfl,rfl⟩ | ⟨k',h1,h2⟩
   ·exact⟨k0,m7,.inl rfl⟩
   ·exact⟨k',i8 _ h1,h2⟩
def ax2 (lk:List (Option Nat))(σ:St):St:=lk.map fun o=>o.bind fun j=>(σ[j]?).join
def bn7 (X:Cx)(N':List Str)(lk:List (Option Nat))(scope:Scope)(cl:List (Str × Addr)):Prop:=
 lk.length=N'.length/\∀ (i j:Nat) (x:Str),N'[i]?=some x->lk[i]?=some (some j)->X.N[j]?=some x/\(X.env.scope.names.lookup x=some .cell\/X.env.scope.names.lookup x=some .free)/\(cl.lookup x).isSome=true /\
  ((P7 scope cl 0 X.env).kindOf x=some .cell\/(P7 scope cl 0 X.env).kindOf x=some .free)
theorem ao6 {σ:St}{H3:Hp}{s3:Shared}{h1:Heap}{tk:Nat}{xe':Value->Shared->Prop}{m0:Str->Option Value}
  (I:Inv X pins σ H3 s3)(hf:∀ b∈fp,ad1 X pins H3 b)(hkind:scope.kind=.function)(hcl:aO5 X.env cl)(hfr:aF0 scope.names cl=true)(hlk:bn7 X N' lk scope cl)
  (hn:h1.Ns s3.heap.objs.size m0)(hk:∀ b u,s3.heap.get? b=some u->h1.get? b=some u)(hfs:∀ b∈fp,b<s3.heap.objs.size):Inv (D9 X scope cl N' s3 H3 fp xe') [] (ax2 lk σ) H3 { s3 with heap:=h1,toks:=tk }:=by
 have hC:H3 s3.heap.objs.size=none:=I.hok.fresh (d6 _)
 have hmem:∀ y∈scope.names,y.2≠.cell/\(y.2=.free->(cl.lookup y.1).isSome=true):=fun y hy=>by
  unfold aF0 at hfr
  rw[G9]at hfr
  have:=hfr y hy
  rw[B5]at this
  refine⟨by simpa using this.1,fun e=>?_⟩
  have h2:=this.2
  rw[e]at h2
  simpa using h2
 have hcell:∀ x c,cl.lookup x=some c->X.env.cells.lookup x=some c:=fun x c e=>hcl.get e
 have clt:∀ x c,cl.lookup x=some c->c<s3.heap.objs.size:=fun x c e=>by
  obtain⟨v,q⟩:=I.cell x c (hcell x c e)
  exact q.lt
 refine⟨⟨I.ok.mod,hkind,I.ok.glob,I.ok.blt,d6 _,fun x y c e1 e2=>I.ok.inj x y c (hcell x c e1) (hcell y c e2),fun x hx=>?_,(fun x c e=>by cases e),I.ok.hd,I.ok.frames,.inl rfl,fun b hb=>?_,fun b o e=>I.bs b o e,C4 I.ok.bsz I.sz,fun b o e hb=>?_,fun b hb z=>?_,I.stack,I.stkFree⟩,
  rfl,I.bare,Un.kept hk,⟨m0,hn,fun i x v e1 e2 e3=>?_⟩,fun x c e=>?_,hC,fun x c e=>?_,(fun p hp=>nomatch hp),I.hok.kept hk,?_⟩
 ·have hx':(relabel scope X.env).names.lookup x=some .cell\/(relabel scope X.env).names.lookup x=some .free:=hx
  have:∃ k',(x,k')∈scope.names/\k'=.free:=by
   rcases hx' with h | h
   ·obtain⟨k',h1,h2⟩:=aa8 h
    rcases h2 with h2 | h2
    ·exact absurd h2 (hmem _ h1).1
    ·exact⟨k',h1,h2.1⟩
   ·obtain⟨k',h1,h2⟩:=aa8 h
    rcases h2 with h2 | h2
    ·exact⟨k',h1,h2⟩
    ·exact⟨k',h1,h2.1⟩
  obtain⟨k',h1,h2⟩:=this
  exact C7.mp ((hmem _ h1).2 h2)
 ·obtain⟨f0,f1,f2,f3,f4,f5⟩:=hf b hb
  exact⟨l7 (hfs b hb),fun x c e=>f4 x c (hcell x c e)⟩
 ·obtain⟨f0,f1,f2,f3,f4,f5⟩:=hf b hb
  rcases f3 with f3 | f3
  ·exact I.ok.noex b o e f3
  ·exact absurd (p5 (d5 e) (C4 I.ok.bsz f3)) (D0 _)
 ·obtain⟨f0,f1,f2,f3,f4,f5⟩:=hf b hb
  rcases j6.mp (I.stkSub b z) with e | e
  ·exact f1 e
  ·exact f2 e
 ·-- a captured name
  have e2':(ax2 lk σ)[i]?=some (some v):=e2
  unfold ax2 at e2'
  rw[E2]at e2'
  cases hq:lk[i]? with
  | none=>rw[hq]at e2';cases e2'
  | some o =>
   rw[hq]at e2'
   have e2'':(o.bind fun j=>(σ[j]?).join)=some v:=Option.some.inj e2'
   cases o with
   | none=>cases e2''
   | some j =>
    obtain⟨q1,q2,q3,q4⟩:=hlk.2 i j x e1 hq
    have hσ:σ[j]?=some (some v):=by
     have z:(σ[j]?).join=some v:=e2''
     cases hh:σ[j]? with
     | none=>rw[hh]at z;cases z
     | some o=>rw[hh]at z;rw[show o=some v from z]
    obtain⟨m,hnX,hl⟩:=I.loc
    obtain⟨u,r,lo⟩:=hl j x v q1 hσ (q2.elim (fun a=>.inr (.inl a)) (fun a=>.inr (.inr a)))
    refine⟨u,r,.inr ?_⟩
    obtain⟨c,hc⟩:=C7.mp q3
    refine⟨q4,c,hc,?_⟩
    have hcX:=hcell x c hc
    rcases lo with⟨k,_⟩ | ⟨_,c',hc',z⟩
    ·have k':X.env.scope.names.lookup x=some .local:=k
     rw[k']at q2
     rcases q2 with q2 | q2<;>cases q2
    ·rw[hcX]at hc'
     cases hc'
     obtain⟨o,ho,hd⟩:=z
     exact⟨o,hk c o ho,hd⟩
 ·obtain⟨v,o,ho,hd⟩:=I.cell x c (hcell x c e)
  exact⟨v,o,hk c o ho,hd⟩
 ·exact I.freeC x c (hcell x c e)
 ·show (ax2 lk σ).length=N'.length
  unfold ax2
  rw[b9]
  exact hlk.1
def PTs (X:Cx)(ifs:List Expr)(t:TT):Prop:=
 ∀ (pins:List (Addr × Obj)) (s:Shared) (σ:St) (H:Hp) (Q:Bool->Hp->Prop),Inv X pins σ H s->t σ H Q->q8 (u7 X.prog X.w) X.A (forIn ifs true fun c r=>if r=true then do let ok <- isTrue c X.env (eval c X.env);pure (ForInStep.yield ok) else pure (ForInStep.yield r)) (TP X pins σ Q) X.xe s
def bJ6:TT:=fun _ H Q=>Q true H
theorem ac2:PTs X [] bJ6:=fun pins s σ H Q I h=>wpAny_tests_nil ⟨H,I,h⟩
theorem ay7 {c:Expr}{t:TT}(h:PT X c t):PTs X [c] t:=fun pins s σ H Q I q=>wpAny_tests_one (h pins s σ H Q I q)
def bc7 (wi:TI)(lk:List (Option Nat))(g:TG)(tt:TT)(te:TE):TE:=fun σ H Q=>wi σ H fun J H1=>∀ D,H1 D=none->∃ W:Nat->Nat->List V->St->Hp->Prop,(∃ m,W 0 m [] (ax2 lk σ) (upd H1 D (.lst [])))/\∀ i m xs σ' H',W i m xs σ' H' ->
 H' D=some (.lst xs)/\((J.stop i H'/\Q (.ref D) H')\/(J.go i H'/\xs.length<d7/\∀ x H'',J.yld i H' x H''->g x σ' H'' fun σ2 H2=>tt σ2 H2 fun b H3 =>
  if b=true then te σ2 H3 fun v H4=>H4 D=some (.lst xs)/\∃ m',m'<m/\W (i+1) m' (xs++[v]) σ2 (upd H4 D (.lst (xs++[v]))) else ∃ m',m'<m/\W (i+1) m' xs σ2 H3))
theorem X3 {elt iter:Expr}{ifs:List Expr}{wi:TI}{g:TG}{tt:TT}(hc:X.calm=true)(hi:PI X tg iter wi)(hclos:aQ0 scope X.env=pure cl)(hkind:scope.kind=.function)
  (hnames:∀ y∈scope.names,y.2=.local->scope.names.lookup y.1=some .local)(hcl:aO5 X.env cl)(hfr:aF0 scope.names cl=true)(hlk:bn7 X N' lk scope cl)
  (hg:∀ s3 H3 fp,PG (D9 X scope cl N' s3 H3 fp fun _ _=>False) tg g)(ht:∀ s3 H3 fp,PTs (D9 X scope cl N' s3 H3 fp fun _ _=>False) ifs tt)(he:∀ s3 H3 fp,PE (D9 X scope cl N' s3 H3 fp fun _ _=>False) elt te)
  (hs:∀ x,ab4 iter X.env x=pure x:=by intro _;rfl):PE X (.ListComp elt [⟨tg,iter,ifs,0⟩] scope pos) (bc7 wi lk g tt te):=by
 intro pins s σ H Q I h
 rw[eval_ListComp]
 have hcellN:∀ y∈scope.names,y.2≠.cell:=fun y hy=>by
  unfold aF0 at hfr
  rw[G9]at hfr
  have:=hfr y hy
  rw[B5]at this
  simpa using this.1
 refine an1 (use:=none) rfl hs hclos hkind hnames (thn (hi pins s σ H _ I h) fun v s1 h1=>thn h1 fun itv s2 h2=>?_)
 obtain⟨it,fp,tn,J,H2,e,I2,T,st2,f2,q⟩:=h2
 subst e
 refine V0 ?_ (v8 _)
 have hD:H2 s2.heap.objs.size=none:=I2.hok.fresh (d6 _)
 have I3:=I2.lnew (ys:=[]) (its:=[]) (t':=s2.toks) .nil (v8 _)
 obtain⟨W,⟨m0,w0⟩,turn⟩:=q s2.heap.objs.size hD
 have fpl:∀ b∈fp,b<s2.heap.objs.size:=fun b hb=>by
  obtain⟨o,ho,_⟩:=T.obj 0 s2.heap st2 b hb
  exact d5 ho
 refine ae7 hcellN (by intro y hy;cases hy) (fun h1 hns1 hsb1=>?_) hkind
 dsimp only at hns1 hsb1 ⊢
 have e3:s2.heap.push { cls:=.type "list",dict:=none,data:=.seq ([]:List Value).toArray }=s2.heap.push { cls:=.type "list",data:=.seq ([]:List Value).toArray }:=rfl
 generalize hh3:s2.heap.push { cls:=.type "list",dict:=none,data:=.seq ([]:List Value).toArray }=h3 at *
 have I3':Inv X pins σ (upd H2 s2.heap.objs.size (.lst [])) { s2 with heap:=h3,toks:=s2.toks }:=I3
 have size3:h3.objs.size=s2.heap.objs.size+1:=by rw[<- hh3,G6]
 have f3:∀ b∈fp,ad1 X pins (upd H2 s2.heap.objs.size (.lst [])) b:=fun b hb=>by
  obtain⟨f0,fr⟩:=f2 b hb
  exact⟨by rw[p8 (l7 (fpl b hb))];exact f0,fr⟩
 have up:∀ b u,h3.get? b=some u->h1.get? b=some u:=fun b u eb=>by
  rw[hsb1.2 b (l7 (d5 eb))]
  exact c8 _ eb
 have I4:Inv (D9 X scope cl N' { s2 with heap:=h3,toks:=s2.toks } (upd H2 s2.heap.objs.size (.lst [])) fp fun _ _=>False) [] (ax2 lk σ) (upd H2 s2.heap.objs.size (.lst [])) { s2 with heap:=h1,toks:=s2.toks+([]:List (Str × Value)).length }:=
  ao6 (s3:={ s2 with heap:=h3,toks:=s2.toks }) I3' f3 hkind hcl hfr hlk hns1 up fun b hb=>by show b<h3.objs.size;rw[size3];exact E4 (fpl b hb)
 have st4:tn 0 h1:=T.keep 0 s2.heap h1 st2 fun b hb o eb=>up b o (by rw[<- hh3];exact c8 _ eb)
 have hCs:h3.objs.size=(P7 scope cl h3.objs.size X.env).locals:=rfl
 have stat:∀ {H':Hp},(∀ b∈fp,H' b=none)->∀ b∈fp,ad1 (D9 X scope cl N' { s2 with heap:=h3,toks:=s2.toks } (upd H2 s2.heap.objs.size (.lst [])) fp fun _ _=>False) [] H' b:=fun {H'} hn b hb=>by
  obtain⟨f0,f1,f2',f3',f4,f5⟩:=f3 b hb
  refine⟨hn b hb,?_,fun z=>?_,.inl hb,fun x c ex=>f4 x c (hcl.get ex),fun p hp=>nomatch hp⟩
  ·show b≠h3.objs.size
   rw[size3]
   exact l7 (E4 (fpl b hb))
  ·rcases j6.mp (I3'.stkSub b z) with q | q
   ·exact f1 q
   ·exact f2' q
 have fin:∀ (s':Shared) (σ':St) (H':Hp),Inv (D9 X scope cl N' { s2 with heap:=h3,toks:=s2.toks } (upd H2 s2.heap.objs.size (.lst [])) fp fun _ _=>False) [] σ' H' s'->Q (.ref s2.heap.objs.size) H' ->
   ay3 (u7 X.prog X.w) X.A X.xe none (EP X pins σ Q) (.ref s2.heap.objs.size) h3.objs.size (.ok .next) s':=fun s' σ' H' I' q'=>by
  obtain⟨m,hm,_⟩:=id I'.loc
  have I5:Inv X pins σ H' s':=I3'.call' (ch:=fp) I'.os I'.base I'.hok I'.bare fun b hb=>by
   obtain⟨f0,f1,f2',f3',f4,f5⟩:=f3 b hb
   exact⟨f3',f1,f4,f5⟩
  refine⟨m,hm,fun h' hsb=>?_⟩
  refine⟨.ref s2.heap.objs.size,H',?_,rfl,q'⟩
  have hfc:H' h3.objs.size=none:=I'.free
  have hcl1:∀ b o,h3.get? b=some o->b≠h3.objs.size:=fun b o eb=>l7 (d5 eb)
  obtain⟨h0',g0,d0,t0,o0⟩:=s'
  refine I5.turned (t':=t0) (it:=h3.objs.size) (fun b o hb eb=>(hsb.2 b hb).trans eb) hfc ?_ (.inr I3'.sz) (fun x c ex z=>?_) (fun p hp z=>?_)
  ·exact L9 I3'.lt
  ·obtain⟨v',q2⟩:=I3'.cell x c ex
   exact absurd q2.lt (by rw[z];exact D0 _)
  ·exact absurd (d5 (I3'.pin p hp).1) (by rw[z];exact D0 _)
 have loop:∀ s5:Shared,s5={ s2 with heap:=h1,toks:=s2.toks+([]:List (Str × Value)).length } ->
   al6 (u7 X.prog X.w) X.A (.compLoop (.ListComp elt [⟨tg,iter,ifs,0⟩] scope pos) 0 (.ref it) (.ref s2.heap.objs.size) (P7 scope cl h3.objs.size X.env)) (ay3 (u7 X.prog X.w) X.A X.xe none (EP X pins σ Q) (.ref s2.heap.objs.size) h3.objs.size) s5:=by
  rintro s5 rfl
  refine bM9 rfl (fun n s'=>∃ i xs σ' H',Inv (D9 X scope cl N' { s2 with heap:=h3,toks:=s2.toks } (upd H2 s2.heap.objs.size (.lst [])) fp fun _ _=>False) [] σ' H' s'/\tn i s'.heap/\(∀ b∈fp,H' b=none)/\W i n xs σ' H')
   (fun n s6 hI=>?_) m0 ⟨0,[],ax2 lk σ,_,I4,st4,fun b hb=>(f3 b hb).1,w0⟩
  obtain⟨i,xs,σ6,H6,I6,st6,fr6,w6⟩:=hI
  show q8 _ X.A ((compTurn (.ListComp elt [⟨tg,iter,ifs,0⟩] scope pos) 0 (.ref it) (.ref s2.heap.objs.size) (P7 scope cl h3.objs.size X.env)).onRaise (fun x=>do aw7 x (P7 scope cl h3.objs.size X.env);bi0 x)) _ _ s6
  refine bX9 ?_
  rw[bA7]
  refine b8 (Z0 (b8 ?_))
  obtain⟨hD6,hw⟩:=turn i n xs σ6 H6 w6
  rcases hw with⟨stop,qn⟩ | ⟨go,hlen,step⟩
  ·refine thn (T.done (D9 X scope cl N' { s2 with heap:=h3,toks:=s2.toks } (upd H2 s2.heap.objs.size (.lst [])) fp fun _ _=>False) rfl rfl rfl hc i [] s6 σ6 H6 _ I6 (stat fr6) st6 stop) fun r s7 ⟨hr,I7⟩=>?_
   subst hr
   exact i7 (fin s7 σ6 H6 I7 qn)
  ·refine thn (T.item (D9 X scope cl N' { s2 with heap:=h3,toks:=s2.toks } (upd H2 s2.heap.objs.size (.lst [])) fp fun _ _=>False) rfl rfl rfl hc i [] s6 σ6 H6 _ I6 (stat fr6) st6 go) fun r s7 ⟨u,hr,h7⟩=>?_
   subst hr
   refine b8 (thn h7 fun _ s8 ⟨x,H8,I8,r8,y8,st8,fr8⟩=>?_)
   have I8':=I8.pinned (stat fr8) (T.obj _ _ st8)
   refine b8 (E5 (hg _ _ _ _ s8 σ6 H8 x u _ I8' r8 (step x H8 y8)) (fun _ s9 ⟨σ9,H9,I9,q9⟩=>?_) (fun _ _ z=>False.elim z))
   refine b8 (E5 (ht _ _ _ _ s9 σ9 H9 _ I9 q9) (fun ok s10 ⟨H10,I10,q10⟩=>?_) (fun _ _ z=>False.elim z))
   have bo4:∀ {σ':St} {H':Hp} {ys:List V} {s':Shared},Inv (D9 X scope cl N' { s2 with heap:=h3,toks:=s2.toks } (upd H2 s2.heap.objs.size (.lst [])) fp fun _ _=>False) ([]++ao0 fp s8.heap) σ' H' s'->(∃ m',m'<n/\W (i+1) m' ys σ' H') ->
     ∃ m',m'<n/\∃ i xs σ' H',Inv (D9 X scope cl N' { s2 with heap:=h3,toks:=s2.toks } (upd H2 s2.heap.objs.size (.lst [])) fp fun _ _=>False) [] σ' H' s'/\tn i s'.heap/\(∀ b∈fp,H' b=none)/\W i m' xs σ' H':=fun {σ' H' ys s'} I' ⟨m',hm,w'⟩=>by
    refine⟨m',hm,i+1,ys,σ',H',I'.unpinned,T.keep _ _ _ st8 fun b hb o eb=>(I'.pin (b,o) (o4 _ (o4 _ (R4 hb eb)))).1,fun b hb=>?_,w'⟩
    obtain⟨o,eb,_⟩:=T.obj _ _ st8 b hb
    exact(I'.pin (b,o) (o4 _ (o4 _ (R4 hb eb)))).2.1
   cases ok with
   | false =>
    have q10':∃ m',m'<n/\W (i+1) m' xs σ9 H10:=by simpa using q10
    exact i7 ⟨rfl,bo4 I10 q10'⟩
   | true =>
    rw[if_pos rfl]at q10
    refine b8 (b8 (E5 (he _ _ _ _ s10 σ9 H10 _ I10 q10) (fun y s11 ⟨v11,H11,I11,r11,hD11,q11⟩=>?_) (fun _ _ z=>False.elim z)))
    refine b8 (E5 (L7 (X:=D9 X scope cl N' { s2 with heap:=h3,toks:=s2.toks } (upd H2 s2.heap.objs.size (.lst [])) fp fun _ _=>False) _ s11 σ9 H11 (.ref s2.heap.objs.size) [v11] (.ref s2.heap.objs.size) [y] (fun _ H'=>∃ m',m'<n/\W (i+1) m' (xs++[v11]) σ9 H') I11 rfl (.cons r11 .nil) ⟨s2.heap.objs.size,xs,v11,rfl,rfl,hD11,hlen,q11⟩) (fun _ s12 ⟨_,H12,I12,_,q12⟩=>?_) (fun _ _ z=>False.elim z))
    exact i7 (i7 ⟨rfl,bo4 I12 q12⟩)
 exact at1 (loop _ rfl) (T.self X.A 0 _ _ _ st4 (loop _ rfl))
def Itn (K:W.Frag)(a:Addr):It:=
 ⟨fun i H=>∃ xs x,SqL K H a xs/\xs[i]?=some x,fun i H x H'=>∃ t v,H t=none/\x=.ref t/\(∀ xs,SqL K H a xs->xs[i]?=some v)/\H'=upd H t (.tup [.int i,v]),fun i H=>∃ xs,SqL K H a xs/\xs.length<=i⟩
def cc5 (K:W.Frag)(ta:TA):TI:=fun σ H R=>ta σ H fun vs H1=>∃ a,vs=[.ref a]/\(∃ xs,SqL K H1 a xs)/\R (Itn K a) H1
theorem bi7 {K:W.Frag}{x1:Nat}(a it e:Addr)(hne:e≠it):Turn P w K (.Tuple elts x1 pos) (Itn K a) [e,it] e (fun i h=>(∃ old,bN0 h e it (i:Int) old)/\h.IsListIter it a i) where
 mem:=by simp
 obj:=fun i h st b hb=>by
  obtain⟨⟨old,he⟩,o,ho,hc,hd⟩:=st
  rcases j6.mp hb with rfl | hb
  ·exact⟨_,he,fun v z=>by cases z⟩
  ·have eb:b=it:=by simpa using hb
   subst eb
   exact⟨o,ho,fun v z=>by rw[hd]at z;cases z⟩
 keep:=fun i h h' st k=>by
  obtain⟨⟨old,he⟩,hit⟩:=st
  exact⟨⟨old,k e (by simp) _ he⟩,hit.at fun o q=>k it (by simp) o q⟩
 item:=by
  intro X hP hw hK hc i pins s σ H E I hf st hg
  subst hP hw hK
  obtain⟨xs,x,hq,hx⟩:=hg
  obtain⟨⟨old,he⟩,hit⟩:=st
  obtain⟨its,rv,p,hz⟩:=I.list hq
  obtain⟨u,hu,ru⟩:=rv.get hx
  obtain⟨f0,f1,f2,f3,f4,f5⟩:=hf e (by simp)
  obtain⟨g0,g1,g2,g3,g4,g5⟩:=hf it (by simp)
  refine wpAny_pyNext_enum_item he hit p.isList (x:=u) (by simpa using hu) hne fun h1 heo hit1 ht1 hz1 hk1=>?_
  refine⟨_,rfl,?_⟩
  refine ah8 heo fun h2 he2 hs2=>?_
  have hlt:e<s.heap.objs.size:=d5 he
  have hs2':Heap.SameBut e h1 h2:=hs2
  have ht2:h2.get? s.heap.objs.size=some { cls:=.type "tuple",data:=.seq #[.int i s.toks,u] }:=(hs2'.2 _ (L9 hlt)).trans ht1
  have kp:∀ b o,b≠e->b≠it->s.heap.get? b=some o->h2.get? b=some o:=fun b o h1' h2' q=>(hs2'.2 b h1').trans (hk1 b o h1' h2' q)
  have hT:H s.heap.objs.size=none:=I.hok.fresh (d6 _)
  have nH:∀ b,H b≠none->b≠e/\b≠it:=fun b hb=>⟨fun z=>hb (z ▸ f0),fun z=>hb (z ▸ g0)⟩
  have keepH:∀ b o,H b=some o->upd H s.heap.objs.size (.tup [.int i,x]) b=some o:=fun b o q=>by rw[p8 (t8 q hT)];exact q
  have hok2:HOk X.prog X.w (upd H s.heap.objs.size (.tup [.int i,x])) h2:=fun b o eb=>by
   by_cases hb:b=s.heap.objs.size
   ·subst hb
    rw[c7]at eb
    cases eb
    exact⟨by show 2<=d7;decide,[.int i s.toks,u],.cons ⟨_,rfl⟩ (.cons ru .nil),⟨_,ht2,rfl,_,rfl⟩⟩
   ·rw[p8 hb]at eb
    refine(I.hok b o eb).stay (fun c v hcc q=>kp c v ?_ ?_ q) (fun c q=>keepH c _ q) fun c ys q=>keepH c _ q
    ·rcases hcc with z | z
     ·exact(nH c (by rw[z,eb];simp)).1
     ·exact(nH c (by rw[z];simp)).1
    ·rcases hcc with z | z
     ·exact(nH c (by rw[z,eb];simp)).2
     ·exact(nH c (by rw[z];simp)).2
  have I2:Inv X pins σ (upd H s.heap.objs.size (.tup [.int i,x])) { s with heap:=h2,toks:=s.toks+1 }:=by
   refine I.step (g':=s.gens) (d':=s.drawn) (t':=s.toks+1) (ch:=[e,it]) (fun b hb=>?_) (fun b o _ _ hcc q _=>kp b o (fun z=>hcc (by simp[z])) (fun z=>hcc (by simp[z])) q) (fun b o _ _ hcc q _=>⟨o.slots,kp b o (fun z=>hcc (by simp[z])) (fun z=>hcc (by simp[z])) q⟩) (fun b o _ q n=>?_)
    (fun b o hcc q=>⟨o,kp b o (fun z=>hcc (by simp[z])) (fun z=>hcc (by simp[z])) q⟩) (fun b ys q=>keepH b _ q) (fun b o v q=>keepH b _ q) (fun b ps q=>⟨#[],by rw[keepH b _ q];simp⟩) (fun m hm=>?_) hok2 I.bare
   ·rcases j6.mp hb with rfl | hb
    ·exact⟨f3,f1,f4,f5⟩
    ·have eb:b=it:=by simpa using hb
     subst eb
     exact⟨g3,g1,g4,g5⟩
   ·rw[p8 (l7 (d5 q))]
    exact n
   ·obtain⟨o,es,ep,ho,r⟩:=hm
    exact⟨o,es,ep,kp _ o (Ne.symm f1) (Ne.symm g1) ho,r⟩
  have hilt:it<s.heap.objs.size:=by
   obtain⟨o,ho,_⟩:=id hit
   exact d5 ho
  refine⟨.ref s.heap.objs.size,_,I2,rfl,⟨s.heap.objs.size,x,hT,rfl,fun ys hy=>by rw[I.list_inj hy hq];exact hx,rfl⟩,⟨⟨u,?_⟩,?_⟩,fun b hb=>?_⟩
  ·have:=he2
   rw[show ((i:Int)+1)=(((i+1:Nat):Int)) by simp]at this
   exact this
  ·exact hit1.at fun o q=>(hs2'.2 it (Ne.symm hne)).trans q
  ·rcases j6.mp hb with rfl | hb
   ·rw[p8 (l7 hlt)];exact f0
   ·have eb:b=it:=by simpa using hb
    subst eb
    rw[p8 (l7 hilt)]
    exact g0
 done:=by
  intro X hP hw hK hc i pins s σ H E I hf st hg
  subst hP hw hK
  obtain⟨xs,hq,hx⟩:=hg
  obtain⟨⟨old,he⟩,hit⟩:=st
  obtain⟨its,rv,p,hz⟩:=I.list hq
  obtain⟨g0,g1,g2,g3,g4,g5⟩:=hf it (by simp)
  have hl:=rv.length
  exact wpAny_pyNext_enum_end (I.ok.hd hc) he hit p.isList (by simp;omega) fun h' eb=>⟨rfl,I.turned (t':=s.toks) (fun b o hb q=>eb b o hb q) g0 g1 g3 g4 g5⟩
 self:=fun _ _ _ _ _ st h=>by
  obtain⟨⟨old,he⟩,_⟩:=st
  exact V2 he h
theorem be4 {a:Expr}{ta:TA}{x1:Nat}{tpos:Pos}(hg:Gl X "enumerate")(hm:X.mg "enumerate"=none)(ha:PA X [a] ta)(hv:M6 "enumerate"=some (.type "enumerate"):=by rfl)(hs:u4 [a] X.env=[(false,eval a X.env)]:=by rfl) :
  PI X (.Tuple elts x1 tpos) (.Call (.Name "enumerate" p) [a] [] pos) (cc5 X.K ta):=by
 intro pins s σ H R I h
 refine Call_ (Y4 I hg hm hv (PyProof.Rows.callWith_type1 (thn (ha pos pins s σ H _ I h) fun us s1 ⟨vs,H1,I1,r1,q1⟩=>?_) hs rfl))
 obtain⟨b,e,⟨xs,hq⟩,q⟩:=q1
 subst e
 obtain⟨u,rfl,rx⟩:=vals1 r1
 cases rx
 obtain⟨its,rv,pl,hz⟩:=I1.list hq
 refine call_enumerate_list pl.isList fun h' he hit hsz kp=>?_
 refine V2 he ?_
 have hne:s1.heap.objs.size+1≠s1.heap.objs.size:=aP6 _
 refine⟨s1.heap.objs.size+1,[s1.heap.objs.size+1,s1.heap.objs.size],_,_,H1,rfl,I1.kept (t':=s1.toks) kp,bi7 b s1.heap.objs.size (s1.heap.objs.size+1) hne,⟨⟨_,he⟩,hit⟩,fun c hc=>?_,q⟩
 rcases j6.mp hc with rfl | hc
 ·exact I1.fpOk (Q8 _) (I1.hok.fresh (Q8 _))
 ·have e:c=s1.heap.objs.size:=by simpa using hc
  subst e
  exact I1.fpOk (d6 _) (I1.hok.fresh (d6 _))
theorem al3 {K:W.Frag}{D:Addr}{g:TG}{tt:TT}{σ0:St}{H0:Hp}(Pv:Nat->List V->St->Hp->Prop)(h0:Pv 0 [] σ0 H0)(hz:ys.length<=d7)(hl:∀ i xs σ H,i<=ys.length->Pv i xs σ H->SqL K H a ys/\H D=some (.lst xs)/\xs.length<=i)
  (hs:∀ i xs x σ H (N:List V->St->Hp->Prop),(∀ xs' σ' H',Pv (i+1) xs' σ' H'->N xs' σ' H')->ys[i]?=some x->Pv i xs σ H->g x σ H fun σ2 H2=>tt σ2 H2 fun b H3=>if b=true then te σ2 H3 fun v H4=>H4 D=some (.lst xs)/\N (xs++[v]) σ2 (upd H4 D (.lst (xs++[v]))) else N xs σ2 H3)
  (hd:∀ xs σ H,Pv ys.length xs σ H->Qd H) :
  ∃ W:Nat->Nat->List V->St->Hp->Prop,(∃ m,W 0 m [] σ0 H0)/\∀ i m xs σ' H',W i m xs σ' H'->H' D=some (.lst xs)/\(((Itl K a).stop i H'/\Qd H')\/((Itl K a).go i H'/\xs.length<d7/\∀ x H'',(Itl K a).yld i H' x H''->g x σ' H'' fun σ2 H2=>tt σ2 H2 fun b H3 =>
   if b=true then te σ2 H3 fun v H4=>H4 D=some (.lst xs)/\∃ m',m'<m/\W (i+1) m' (xs++[v]) σ2 (upd H4 D (.lst (xs++[v]))) else ∃ m',m'<m/\W (i+1) m' xs σ2 H3)):=by
 refine⟨fun i m xs σ H=>m=ys.length - i/\i<=ys.length/\Pv i xs σ H,⟨ys.length,by simp,v8 _,h0⟩,?_⟩
 rintro i m xs σ H ⟨rfl,hi,p⟩
 obtain⟨q,hD,hx⟩:=hl i xs σ H hi p
 refine⟨hD,?_⟩
 by_cases hlt:i<ys.length
 ·refine .inr ⟨⟨ys,ys[i],q,by simp[hlt]⟩,by omega,fun x H'' y=>?_⟩
  obtain⟨e,y⟩:=y
  subst e
  exact hs i xs x σ _ (fun zs σ' H'=>∃ m',m'<ys.length - i/\m'=ys.length - (i+1)/\i+1<=ys.length/\Pv (i+1) zs σ' H') (fun zs σ' H' r=>⟨_,by omega,rfl,hlt,r⟩) (y ys q) p
 ·have e:i=ys.length:=by omega
  subst e
  exact .inl ⟨⟨ys,q,d6 _⟩,hd xs σ H p⟩
theorem ar7 {K:W.Frag}{D:Addr}{g:TG}{tt:TT}{σ0:St}{H0:Hp}(Pv:Nat->List V->St->Hp->Prop)(h0:Pv 0 [] σ0 H0)(hz:ys.length<=d7)(hl:∀ i xs σ H,i<=ys.length->Pv i xs σ H->SqT K H a ys/\H D=some (.lst xs)/\xs.length<=i)
  (hs:∀ i xs x σ H (N:List V->St->Hp->Prop),(∀ xs' σ' H',Pv (i+1) xs' σ' H'->N xs' σ' H')->ys[i]?=some x->Pv i xs σ H->g x σ H fun σ2 H2=>tt σ2 H2 fun b H3=>if b=true then te σ2 H3 fun v H4=>H4 D=some (.lst xs)/\N (xs++[v]) σ2 (upd H4 D (.lst (xs++[v]))) else N xs σ2 H3)
  (hd:∀ xs σ H,Pv ys.length xs σ H->Qd H) :
  ∃ W:Nat->Nat->List V->St->Hp->Prop,(∃ m,W 0 m [] σ0 H0)/\∀ i m xs σ' H',W i m xs σ' H'->H' D=some (.lst xs)/\(((Itt K a).stop i H'/\Qd H')\/((Itt K a).go i H'/\xs.length<d7/\∀ x H'',(Itt K a).yld i H' x H''->g x σ' H'' fun σ2 H2=>tt σ2 H2 fun b H3 =>
   if b=true then te σ2 H3 fun v H4=>H4 D=some (.lst xs)/\∃ m',m'<m/\W (i+1) m' (xs++[v]) σ2 (upd H4 D (.lst (xs++[v]))) else ∃ m',m'<m/\W (i+1) m' xs σ2 H3)):=by
 refine⟨fun i m xs σ H=>m=ys.length - i/\i<=ys.length/\Pv i xs σ H,⟨ys.length,by simp,v8 _,h0⟩,?_⟩
 rintro i m xs σ H ⟨rfl,hi,p⟩
 obtain⟨q,hD,hx⟩:=hl i xs σ H hi p
 refine⟨hD,?_⟩
 by_cases hlt:i<ys.length
 ·refine .inr ⟨⟨ys,ys[i],q,by simp[hlt]⟩,by omega,fun x H'' y=>?_⟩
  obtain⟨e,y⟩:=y
  subst e
  exact hs i xs x σ _ (fun zs σ' H'=>∃ m',m'<ys.length - i/\m'=ys.length - (i+1)/\i+1<=ys.length/\Pv (i+1) zs σ' H') (fun zs σ' H' r=>⟨_,by omega,rfl,hlt,r⟩) (y ys q) p
 ·have e:i=ys.length:=by omega
  subst e
  exact .inl ⟨⟨ys,q,d6 _⟩,hd xs σ H p⟩
mutual
def Dt (K:W.Frag)(H:Hp):ag7->V->Prop
 | .none,v=>v=.non
 | .bool b,v=>v=.bl b
 | .int i,v=>v=.int i
 | .str x,v=>v=.str x
 | .list ds,v=>∃ a xs,v=.ref a/\SqL K H a xs/\G1 K H ds xs
 | .tuple ds,v=>∃ a xs,v=.ref a/\SqT K H a xs/\G1 K H ds xs
 | .dict _,_=>False
def G1 (K:W.Frag)(H:Hp):List ag7->List V->Prop
 | [],xs=>xs=[]
 | d::ds,xs=>∃ y ys,xs=y::ys/\Dt K H d y/\G1 K H ds ys
end
section
variable {σ:St}
mutual
theorem Dt.reads (I:Inv X pins σ H s):∀ (d:ag7) (v:V) (u:Value),Dt X.K H d v->RelV v u->∃ as,Reads s.heap u d as
 | .none,v,u,h,r=>by unfold Dt at h;subst h;cases r;exact⟨_,.none⟩
 | .bool b,v,u,h,r=>by unfold Dt at h;subst h;cases r;exact⟨_,.bool b⟩
 | .int i,v,u,h,r=>by unfold Dt at h;subst h;obtain⟨t,rfl⟩:=r;exact⟨_,.int i t⟩
 | .str x,v,u,h,r=>by unfold Dt at h;subst h;obtain⟨t,rfl⟩:=r;exact⟨_,.str x t⟩
 | .list ds,v,u,h,r=>by
  unfold Dt at h
  obtain⟨a,xs,rfl,hq,hd⟩:=h
  cases r
  obtain⟨its,rv,⟨o,n,ho,hc,_,hdd⟩,_⟩:=I.list hq
  obtain⟨as,ra⟩:=G1.reads I ds xs its hd rv
  exact⟨_,.list ho hc hdd (by simpa using ra)⟩
 | .tuple ds,v,u,h,r=>by
  unfold Dt at h
  obtain⟨a,xs,rfl,hq,hd⟩:=h
  cases r
  obtain⟨its,rv,⟨o,ho,hc,n,hdd⟩,_⟩:=I.tuple hq
  obtain⟨as,ra⟩:=G1.reads I ds xs its hd rv
  exact⟨_,.tuple ho hc hdd (by simpa using ra)⟩
 | .dict _,v,u,h,r=>by unfold Dt at h;exact h.elim
theorem G1.reads (I:Inv X pins σ H s):∀ (ds:List ag7) (xs:List V) (us:List Value),G1 X.K H ds xs->D3 xs us->∃ as,ReadsAll s.heap us ds as
 | [],xs,us,h,r=>by unfold G1 at h;subst h;cases r;exact⟨_,.nil⟩
 | d::ds,xs,us,h,r=>by
  unfold G1 at h
  obtain⟨y,ys,rfl,h1,h2⟩:=h
  cases r with
  | cons q t =>
   obtain⟨as,ra⟩:=Dt.reads I d y _ h1 q
   obtain⟨bs,rb⟩:=G1.reads I ds ys _ h2 t
   exact⟨_,.cons ra rb⟩
end
end
mutual
theorem Dt.same {K:W.Frag}(hs:∀ b o,H b=some o->H' b=some o):∀ (d:ag7) (v:V),Dt K H d v->Dt K H' d v
 | .none,v,h=>by unfold Dt at h ⊢;exact h
 | .bool b,v,h=>by unfold Dt at h ⊢;exact h
 | .int i,v,h=>by unfold Dt at h ⊢;exact h
 | .str x,v,h=>by unfold Dt at h ⊢;exact h
 | .list ds,v,h=>by
  unfold Dt at h ⊢
  obtain⟨a,xs,rfl,hq,hd⟩:=h
  refine⟨a,xs,rfl,?_,G1.same hs ds xs hd⟩
  rcases hq with(h | ⟨o,h⟩) | h
  ·exact .inl (.inl (hs _ _ h))
  ·exact .inl (.inr ⟨o,hs _ _ h⟩)
  ·exact .inr h
 | .tuple ds,v,h=>by
  unfold Dt at h ⊢
  obtain⟨a,xs,rfl,hq,hd⟩:=h
  refine⟨a,xs,rfl,?_,G1.same hs ds xs hd⟩
  rcases hq with(h | ⟨o,h⟩) | h
  ·exact .inl (.inl (hs _ _ h))
  ·exact .inl (.inr ⟨o,hs _ _ h⟩)
  ·exact .inr h
 | .dict _,v,h=>by unfold Dt at h;exact h.elim
theorem G1.same {K:W.Frag}(hs:∀ b o,H b=some o->H' b=some o):∀ (ds:List ag7) (xs:List V),G1 K H ds xs->G1 K H' ds xs
 | [],xs,h=>by unfold G1 at h ⊢;exact h
 | d::ds,xs,h=>by
  unfold G1 at h ⊢
  obtain⟨y,ys,rfl,h1,h2⟩:=h
  exact⟨y,ys,rfl,Dt.same hs d y h1,G1.same hs ds ys h2⟩
end
def dP (k:List Int):ag7:=.tuple (k.map .int)
theorem G1.ints {K:W.Frag}:∀ (k:List Int),G1 K H (k.map PyData.int) (k.map V.int)
 | []=>by unfold G1;rfl
 | i::k=>by
  rw[x8,x8]
  unfold G1
  exact⟨_,_,rfl,by unfold Dt;rfl,G1.ints k⟩
theorem G1.tups {K:W.Frag}:∀ {ys:List V} {ks:List (List Int)},v9 K H ys ks->G1 K H (ks.map dP) ys
 | _,_,.nil=>by unfold G1;rfl
 | _,_,.cons r t=>by
  obtain⟨a,rfl,h⟩:=r
  rw[x8]
  unfold G1
  refine⟨_,_,rfl,?_,G1.tups t⟩
  unfold dP Dt
  exact⟨a,_,rfl,h,G1.ints _⟩
theorem lay_ints:∀ k:List Int,PyData.canLayAll0 (k.map .int)=true
 | []=>by simp[PyData.canLayAll0]
 | i::k=>by rw[x8];simp[PyData.canLayAll0,PyData.canLay0,lay_ints k]
theorem au2:∀ ks:List (List Int),PyData.canLayAll0 (ks.map dP)=true
 | []=>by simp[PyData.canLayAll0]
 | k::ks=>by rw[x8];simp[PyData.canLayAll0,PyData.canLay0,dP,lay_ints k,au2 ks]
theorem aD8:∀ k k':List Int,PyData.eqvAll (k.map .int) (k'.map .int)=decide (k=k')
 | [],[]=>by simp[PyData.eqvAll]
 | [],_::_=>by simp[PyData.eqvAll]
 | _::_,[]=>by simp[PyData.eqvAll]
 | i::k,j::k'=>by
  rw[x8,x8]
  simp only[PyData.eqvAll,PyData.eqv,aD8 k k']
  by_cases h:i=j
  ·subst h;simp
  ·simp[h]
theorem aI6:∀ ks ks':List (List Int),PyData.eqvAll (ks.map dP) (ks'.map dP)=decide (ks=ks')
 | [],[]=>by simp[PyData.eqvAll]
 | [],_::_=>by simp[PyData.eqvAll]
 | _::_,[]=>by simp[PyData.eqvAll]
 | k::ks,k'::ks'=>by
  rw[x8,x8]
  simp only[PyData.eqvAll,PyData.eqv,dP,aD8 k k']
  rw[aI6 ks ks']
  by_cases h:k=k'
  ·subst h;simp
  ·simp[h]
theorem aD9:∀ k:List Int,PyData.depthAll (k.map .int)<=1
 | []=>by simp[PyData.depthAll]
 | i::k=>by
  have:=aD9 k
  rw[x8]
  simp only[PyData.depthAll,PyData.depth]
  omega
theorem aI8:∀ ks:List (List Int),PyData.depthAll (ks.map dP)<=2
 | []=>by simp[PyData.depthAll]
 | k::ks=>by
  have h1:=aD9 k
  have h2:=aI8 ks
  rw[x8]
  simp only[PyData.depthAll,PyData.depth,dP]at h2 ⊢
  omega
def bD4 (K:W.Frag)(A:Around)(neg:Bool):R2:=fun x y H Q=>∃ dx dy,Dt K H dx x/\Dt K H dy y/\dx.canLay0=true/\dy.canLay0=true/\A.units+min dx.depth dy.depth<aw4/\Q (.bl (if neg then !PyData.eqv dx dy else PyData.eqv dx dy)) H
theorem aM6:OpR X (J1 .Eq) (bD4 X.K X.A false):=by
 intro pins s σ H x y v u Q I rx ry h
 obtain⟨dx,dy,h1,h2,h3,h4,h5,q⟩:=h
 obtain⟨as,ra⟩:=h1.reads I dx x v rx
 obtain⟨bs,rb⟩:=h2.reads I dy y u ry
 exact SeqAt.compareEq_reads ra rb h3 h4 h5 ⟨.bl _,H,I,rfl,q⟩
theorem aC3:OpR X (J1 .NotEq) (bD4 X.K X.A true):=by
 intro pins s σ H x y v u Q I rx ry h
 obtain⟨dx,dy,h1,h2,h3,h4,h5,q⟩:=h
 obtain⟨as,ra⟩:=h1.reads I dx x v rx
 obtain⟨bs,rb⟩:=h2.reads I dy y u ry
 exact SeqAt.compareNe_reads ra rb h3 h4 h5 ⟨.bl _,H,I,rfl,q⟩
def bQ0 (K:W.Frag)(A:Around)(neg:Bool):R2:=fun x y H Q=>∃ p xs dx ds,y=.ref p/\(SqL K H p xs\/SqT K H p xs)/\Dt K H dx x/\G1 K H ds xs/\dx.canLay0=true/\PyData.canLayAll0 ds=true/\A.units+1+dx.depth<aw4 /\
 Q (.bl (if neg then !ds.any (fun d=>PyData.eqv d dx) else ds.any (fun d=>PyData.eqv d dx))) H
open Classical in
noncomputable def bm0 (h:Heap)(dx:ag7)(v:Value):Bool:=if q:∃ d as,d.canLay0=true/\Reads h v d as then PyData.eqv (Classical.choose q) dx else false
theorem bf8 {dx d:ag7}{as:List Addr}(hl:d.canLay0=true)(r:Reads h v d as):bm0 h dx v=PyData.eqv d dx:=by
 unfold bm0
 have q:∃ d as,d.canLay0=true/\Reads h v d as:=⟨d,as,hl,r⟩
 rw[dif_pos q]
 obtain⟨as',h1,h2⟩:=Classical.choose_spec q
 rw[SeqAt.Reads.unique _ _ _ _ _ h1 h2 r]
theorem bb3 {dx:ag7}:∀ {ds:List ag7} {us:List Value} {as:List Addr},PyData.canLayAll0 ds=true->ReadsAll h us ds as->us.any (bm0 h dx)=ds.any (fun d=>PyData.eqv d dx)
 | _,_,_,_,.nil=>rfl
 | d::ds,u::us,_,hl,.cons r t=>by
  have hl':d.canLay0=true/\PyData.canLayAll0 ds=true:=by simpa [PyData.canLayAll0] using hl
  rw[bn9,bn9,bf8 hl'.1 r,bb3 hl'.2 t]
theorem aI0:∀ {ds:List ag7} {us:List Value} {as:List Addr} {u:Value},PyData.canLayAll0 ds=true->ReadsAll h us ds as->u∈us->∃ d as,d.canLay0=true/\Reads h u d as
 | _,_,_,_,_,.nil,hu=>by cases hu
 | d::ds,_::us,_,u,hl,.cons r t,hu=>by
  have hl':d.canLay0=true/\PyData.canLayAll0 ds=true:=by simpa [PyData.canLayAll0] using hl
  rcases j6.mp hu with rfl | hu
  ·exact⟨d,_,hl'.1,r⟩
  ·exact aI0 hl'.2 t hu
theorem bt7:OpR X (J1 .In) (bQ0 X.K X.A false):=by
 intro pins s σ H x y v u Q I rx ry h
 obtain⟨p,xs,dx,ds,rfl,hq,h1,h2,h3,h4,h5,q⟩:=h
 cases ry
 obtain⟨bs,rb⟩:=h1.reads I dx x v rx
 have he:∀ (its:List Value) (as:List Addr),ReadsAll s.heap its ds as->∀ y,y∈its.toArray->SeqAt.EqAt X.A.in1 s y v (bm0 s.heap dx y):=fun its as ra y hy=>by
  obtain⟨d,cs,hl,rd⟩:=aI0 h4 ra (by simpa using hy)
  rw[bf8 hl rd]
  refine SeqAt.eqAt_reads d dx X.A.in1 s y v cs bs rd rb hl h3 ?_
  show X.A.units+1+min d.depth dx.depth<aw4
  omega
 rcases hq with hq | hq
 ·obtain⟨its,rv,pl,hz⟩:=I.list hq
  obtain⟨as,ra⟩:=h2.reads I ds xs its rv
  refine SeqAt.in_listAt (bm0 s.heap dx) pl.isList (he its as ra) ⟨.bl _,H,I,rfl,?_⟩
  rw[bX1,bb3 h4 ra]
  exact q
 ·obtain⟨its,rv,pl,hz⟩:=I.tuple hq
  obtain⟨as,ra⟩:=h2.reads I ds xs its rv
  refine SeqAt.in_tupleAt (bm0 s.heap dx) pl (he its as ra) ⟨.bl _,H,I,rfl,?_⟩
  rw[bX1,bb3 h4 ra]
  exact q
theorem aW6:S7 X (.builtin "isinstance") (fun xs H Q=>∃ x c t b,xs=[x,.ty c]/\as2 X.K H x t/\PySem.W.kitOne X.K t (.type c)=some b/\Q (.bl b) H):=by
 intro pins s σ H xs us Q I r h
 obtain⟨x,c,t,b,rfl,ty,e,q⟩:=h
 obtain⟨u,v,rfl,ru,rv⟩:=r.two
 cases (show v=Value.type c from rv)
 exact bl0 I ru ty e fun tk=>⟨.bl b,H,I.tok _,rfl,q⟩
end L2
namespace L2
open PySem PySem.Spec PyProof.Rows
theorem X8 (hc:X.calm=true):S7 X (.builtin "sum") (fun xs H Q=>∃ (p:Addr) (ns:List Int),xs=[.ref p]/\SqL X.K H p (ns.map V.int)/\Q (.int ns.sum) H):=by
 intro pins s σ H xs us Q I r h
 obtain⟨p,ns,rfl,hq,q⟩:=h
 obtain⟨u,rfl,rx⟩:=vals1 r
 cases rx
 obtain⟨its,r',pl,hz⟩:=I.list hq
 have hi:R8 its ns:=intsAre_of r'
 obtain⟨ys,e⟩:=hi.allInts.items
 refine sum_intListG (xs:=ys) (I.ok.hd hc) (by rw[<- e];exact pl.isList) fun h' tk t' hk=>⟨.int ns.sum,H,I.kept (t':=tk) hk,⟨t',?_⟩,q⟩
 have e2:numsOf (ap3 ys).toList=ns:=by rw[<- e];exact hi.numsOf
 rw[nums_intItems]at e2
 rw[preSum_eq,o6 (by simp),e2]
theorem aV7:ce0 X (bP9 X.K):=by
 intro pins s σ H o i ov iv Q I ro ri h
 obtain⟨p,xs,k,z,rfl,rfl,hq,he,q⟩:=h
 cases ro
 obtain⟨t,rfl⟩:=ri
 obtain⟨its,r,pl,hz⟩:=I.list hq
 obtain⟨j,h1,h2,h3,h4,h5⟩:=az8 he
 obtain⟨w,ew,rw'⟩:=r.get h2
 have hl:=r.length
 have hn:=ao4
 have fin:EP X pins σ Q w s:=⟨z,H,I,rw',q⟩
 by_cases h0:0<=k
 ·have hj:k.toNat=j:=by
   rw[bh4 h0 h5]at h1
   exact Option.some.inj h1
  exact wpAny_getItem_list pl.isList h0 (by omega) (by rw[hj];simpa using ew) fin
 ·have hj:(k+(its.toArray.size:Int)).toNat=j:=by
   rw[aX4 (by omega) h4]at h1
   rw[d9,<- hl]
   exact Option.some.inj h1
  exact bJ4 pl.isList (by omega) (by rw[d9];omega) (by omega) (by rw[hj];simpa using ew) fin
theorem af7:S7 X (.builtin "isinstance") (fun xs H Q=>∃ a ys c b,xs=[.ref a,.ty c]/\SqT X.K H a ys/\PySem.W.kitOne X.K (.type "tuple") (.type c)=some b/\Q (.bl b) H):=by
 intro pins s σ H xs us Q I r h
 obtain⟨a,ys,c,b,rfl,hq,e,q⟩:=h
 obtain⟨u,v,rfl,ru,rv⟩:=r.two
 cases (show v=Value.type c from rv)
 cases ru
 obtain⟨its,rt,⟨o,h1,h2,_⟩,hz⟩:=I.tuple hq
 exact PySem.W.kia_one PySem.W.kitx_tuple I.kIn ⟨o,h1,h2⟩ e (fun z=>nomatch z) fun tk=>⟨.bl b,H,I.tok _,rfl,q⟩
def LkL (X:Cx)(scope:Scope)(cl:List (Str × Addr)):List Str->List (Option Nat)->Prop
 | [],[]=>True
 | _::N,none::lk=>LkL X scope cl N lk
 | x::N,some j::lk=>(X.N[j]?=some x/\(X.env.scope.names.lookup x=some .cell\/X.env.scope.names.lookup x=some .free)/\(cl.lookup x).isSome=true /\
  ((P7 scope cl 0 X.env).kindOf x=some .cell\/(P7 scope cl 0 X.env).kindOf x=some .free))/\LkL X scope cl N lk
 | _,_=>False
theorem LkL.len:∀ {N:List Str} {lk:List (Option Nat)},LkL X scope cl N lk->lk.length=N.length
 | [],[],_=>rfl
 | _::N,none::lk,h=>congrArg (·+1) (LkL.len (N:=N) (lk:=lk) h)
 | _::N,some _::lk,h=>congrArg (·+1) (LkL.len (N:=N) (lk:=lk) h.2)
 | [],_::_,h=>h.elim
 | _::_,[],h=>h.elim
theorem LkL.get:∀ {N:List Str} {lk:List (Option Nat)},LkL X scope cl N lk->∀ (i j:Nat) (x:Str),N[i]?=some x->lk[i]?=some (some j) ->
  X.N[j]?=some x/\(X.env.scope.names.lookup x=some .cell\/X.env.scope.names.lookup x=some .free)/\(cl.lookup x).isSome=true/\((P7 scope cl 0 X.env).kindOf x=some .cell\/(P7 scope cl 0 X.env).kindOf x=some .free)
 | [],[],_,i,j,x,h1,_=>by simp at h1
 | _::N,none::lk,h,0,j,x,h1,h2=>by simp at h2
 | _::N,none::lk,h,i+1,j,x,h1,h2=>LkL.get (N:=N) (lk:=lk) h i j x (by simpa using h1) (by simpa using h2)
 | y::N,some k::lk,h,0,j,x,h1,h2=>by
  simp at h1 h2
  subst h1 h2
  exact h.1
 | _::N,some _::lk,h,i+1,j,x,h1,h2=>LkL.get (N:=N) (lk:=lk) h.2 i j x (by simpa using h1) (by simpa using h2)
 | [],_::_,h,_,_,_,_,_=>h.elim
 | _::_,[],h,_,_,_,_,_=>h.elim
theorem LkL.ok (h:LkL X scope cl N lk):bn7 X N lk scope cl:=⟨h.len,h.get⟩
theorem X6 {σ:St}{A B:Hp->Prop}(h:A H):bJ6 σ H (fun b H3=>if b=true then A H3 else B H3):=by
 show if true=true then A H else B H
 exact J4 h
theorem F0 {v:V}{σ:St}{Q:St->Hp->Prop}(h:Q (σ.set i (some v)) H):aD5 i v σ H Q:=h
theorem SqT.updL {K:W.Frag}{l:Addr}{zs:List V}(h:SqT K H a ys)(hl:H l=some (.lst xs)):SqT K (upd H l (.lst zs)) a ys:=by
 rcases h with(h | ⟨o,h⟩) | h
 ·exact .inl (.inl (by rw[p8 (bv0 h hl (by intro z;cases z))];exact h))
 ·exact .inl (.inr ⟨o,by rw[p8 (bv0 h hl (by intro z;cases z))];exact h⟩)
 ·exact .inr h
theorem v9.updL {K:W.Frag}{l:Addr}{zs:List V}(hl:H l=some (.lst xs)):∀ {ys:List V} {ks:List (List Int)},v9 K H ys ks->v9 K (upd H l (.lst zs)) ys ks
 | _,_,.nil=>.nil
 | _,_,.cons r t=>by
  obtain⟨a,h1,h2⟩:=r
  exact .cons ⟨a,h1,h2.updL hl⟩ (v9.updL hl t)
theorem v9.one {K:W.Frag}(h:SqT K H a (k.map V.int)):v9 K H [.ref a] [k]:=.cons ⟨a,rfl,h⟩ .nil
theorem B3.seqT {K:W.Frag}(e:B3 H H')(h:SqT K H a xs):SqT K H' a xs:=by
 rcases h with(h | ⟨o,h⟩) | h
 ·exact .inl (.inl (e _ _ h))
 ·exact .inl (.inr ⟨o,e _ _ h⟩)
 ·exact .inr h
theorem B3.tups {K:W.Frag}(e:B3 H H')(h:v9 K H ys ks):v9 K H' ys ks:=v9.same e h
theorem B3.upd {l:Addr}{o:HO}(e:B3 H H')(h:H l=none):B3 H (upd H' l o):=fun b u q=>by
 rw[p8 (t8 q h)]
 exact e b u q
end L2
namespace L2
open PySem
theorem aj1 {v v':V}{σ:St}{Q:St->Hp->Prop}(e:v=v')(h:aD5 i v' σ H Q):aD5 i v σ H Q:=by
 rw[e]
 exact h
theorem bm3 (xs:List V)(k:Nat):S5 xs (some (k:Int)) none=xs.drop k:=by
 unfold S5
 rw[HT.bd9,HT.aS5]
 rcases Nat.le_total k xs.length with h | h
 ·rw[aX7 h]
  exact o6 (by rw[C0];omega)
 ·rw[Nat.min_eq_right h,bo3 h,bo3 (d6 _)]
  simp
theorem bH5 (xs:List V)(k:Nat):S5 xs none (some (k:Int))=xs.take k:=by
 unfold S5
 rw[HT.bd9,HT.aS5,bb9,bz9]
 rcases Nat.le_total k xs.length with h | h
 ·rw[aX7 h]
 ·rw[Nat.min_eq_right h,o6 h,o6 (d6 _)]
theorem af8 (K:W.Frag)(hK:X.K=K):S7 X (.builtin "isinstance") (fun xs H Q=>∃ x c t b,xs=[x,.ty c]/\as2 K H x t/\PySem.W.kitOne K t (.type c)=some b/\Q (.bl b) H):=by
 subst hK
 exact aW6
theorem bN7 {u d:Nat}(h:u+64<aw4)(hd:d<=60):u+1+d<aw4:=by omega
theorem aH1 {u d:Nat}(h:u+64<aw4)(hd:d<=64):u+d<aw4:=by omega
theorem Dt.mkInt {K:W.Frag}{i:Int}:Dt K H (.int i) (.int i):=by unfold Dt;rfl
theorem Dt.mkL {K:W.Frag}{ds:List ag7}(h:SqL K H a xs)(d:G1 K H ds xs):Dt K H (.list ds) (.ref a):=by unfold Dt;exact⟨a,xs,rfl,h,d⟩
theorem Dt.mkT {K:W.Frag}{ds:List ag7}(h:SqT K H a xs)(d:G1 K H ds xs):Dt K H (.tuple ds) (.ref a):=by unfold Dt;exact⟨a,xs,rfl,h,d⟩
theorem G1.mkN {K:W.Frag}:G1 K H [] []:=by unfold G1;rfl
theorem G1.mkC {K:W.Frag}{d:ag7}{x:V}{ds:List ag7}(h:Dt K H d x)(t:G1 K H ds xs):G1 K H (d::ds) (x::xs):=by unfold G1;exact⟨x,xs,rfl,h,t⟩
theorem M7 {z:Int}{σ:St}{Q:St->Hp->Prop}(h:∀ c:Int,c=z->aD5 i (.int c) σ H Q):aD5 i (.int z) σ H Q:=h z rfl
theorem ah9 {p l:Addr}{zs:List V}(hp:H p=some (.tup ys))(hl:H l=some (.lst xs)):upd H l (.lst zs) p=some (.tup ys):=by
 rw[p8 (bv0 hp hl (by intro z;cases z))]
 exact hp
theorem int_at {x:V}(h:(ns.map V.int)[i]?=some x):∃ z:Int,x=V.int z:=by
 rw[E2]at h
 cases e:ns[i]? with
 | none=>rw[e]at h;cases h
 | some z=>rw[e]at h;exact⟨z,(Option.some.inj h).symm⟩
theorem bm2 (ns:List Int)(lo hi:Option Int):∃ ms:List Int,S5 (ns.map V.int) lo hi=ms.map V.int/\ms.length<=ns.length:=by
 unfold S5
 rw[<- aF2,<- aF3]
 exact⟨_,rfl,by rw[u5,C0];omega⟩
theorem M5 (h:j<n):ixN n (j:Int)=some j:=by
 unfold ixN
 rw[if_pos (by omega),if_pos (by omega)]
 simp
theorem aN3 (k:List Int):(PyData.list (k.map .int)).canLay0=true:=by simp[PyData.canLay0,lay_ints]
theorem bx1 (k:List Int):(PyData.list (k.map .int)).depth<=2:=by
 have:=aD9 k
 simp only[PyData.depth]
 omega
theorem bw6 (a b:List Int):PyData.eqv (.list (a.map .int)) (.list (b.map .int))=decide (a=b):=by
 simp only[PyData.eqv]
 exact aD8 a b
theorem Dt.mkLi {K:W.Frag}(h:SqL K H a (k.map V.int)):Dt K H (.list (k.map .int)) (.ref a):=Dt.mkL h (G1.ints k)
theorem v9.dtAll {K:W.Frag}(t:v9 K H ys ks):G1 K H (ks.map dP) ys:=G1.tups t
def dW (n:Int)(ks:List (List Int)):ag7:=.tuple [.int n,.tuple (ks.map dP)]
theorem bL1 (n:Int)(ks:List (List Int)):(dW n ks).canLay0=true:=by simp[dW,PyData.canLay0,PyData.canLayAll0,au2]
theorem cd2 (n:Int)(ks:List (List Int)):(dW n ks).depth<=4:=by
 have:=aI8 ks
 simp only[dW,PyData.depth,PyData.depthAll]
 omega
theorem cd1 (n m:Int)(ks ls:List (List Int)):PyData.eqv (dW n ks) (dW m ls)=(decide (n=m) && decide (ks=ls)):=by
 simp only[dW,PyData.eqv,PyData.eqvAll,aI6,Bool.and_true]
 by_cases h:n=m
 ·subst h;simp
 ·simp[h]
end L2
namespace Web
open PySem L2
def al9 (i m:Nat):List (List Int):=(C5 m).map fun(d:Nat)=>([(i:Int),(i:Int)+1+(d:Int)]:List Int)
def af5 (n:Nat):List (List Int):=(C5 n).flatMap fun i=>al9 i (n - (i+1))
def Up (n:Nat)(k:List Int):Prop:=∃ i j:Nat,i<j/\j<n/\k=[(i:Int),(j:Int)]
theorem bk5 (h:k∈af5 n):Up n k:=by
 unfold af5 at h
 obtain⟨i,hi,hk⟩:=bX2.mp h
 unfold al9 at hk
 obtain⟨d,hd,rfl⟩:=E8.mp hk
 rw[D6]at hi hd
 exact⟨i,i+1+d,by omega,by omega,by simp⟩
def Asc (ks:List (List Int)):Prop:=ks.Pairwise fun a b=>Tim.O4 a b=true
theorem aI2:∀ n:Nat,n<=24->(af5 n).length<=276:=by decide +kernel
theorem aC0 (n i:Nat):((C5 (i+1)).flatMap fun j=>al9 j (n - (j+1)))=((C5 i).flatMap fun j=>al9 j (n - (j+1)))++al9 i (n - (i+1)):=by
 rw[T4,bI9]
 simp
theorem bj6 (i m:Nat):al9 i (m+1)=al9 i m++[[(i:Int),(i:Int)+1+(m:Int)]]:=by
 unfold al9
 rw[T4,p7]
 rfl
theorem bv5 (n:Nat):∀ i:Nat,i<=n->((C5 i).flatMap fun j=>al9 j (n - (j+1))).length<=(af5 n).length:=by
 intro i hi
 unfold af5
 obtain⟨d,rfl⟩:=Nat.exists_eq_add_of_le hi
 rw[List.range_add,bI9,m5]
 omega
theorem aW8:∀ {ks ls:List (List Int)},Asc ks->ls.Perm ks->ls.Pairwise (fun a b=>Tim.O4 b a=false)->ls=ks
 | [],ls,_,p,_=>p.eq_nil
 | k::ks,[],_,p,_=>by
  have:=p.length_eq
  simp at this
 | k::ks,l::ls,h,p,q=>by
  have hkl:l=k:=by
   have h1:l∈k::ks:=p.mem_iff.mp m7
   have h2:k∈l::ls:=p.mem_iff.mpr m7
   rcases j6.mp h1 with e | e
   ·exact e
   ·rcases j6.mp h2 with e2 | e2
    ·exact e2.symm
    ·have a1:=(Y1.mp h).1 l e
     have a2:=(Y1.mp q).1 k e2
     rw[a1]at a2
     cases a2
  subst hkl
  rw[aW8 (Y1.mp h).2 ((List.perm_cons _).mp p) (Y1.mp q).2]
def up:List Int->List Int
 | [a,b]=>[if b<a then b else a,if b > a then b else a]
 | k=>k
theorem bY2 (h:Up n k):up k=k:=by
 obtain⟨i,j,h1,h2,rfl⟩:=h
 show [if (j:Int)<i then (j:Int) else i,if (j:Int) > i then (j:Int) else i]=_
 rw[if_neg (by omega),if_pos (by omega)]
theorem Up.key (h:Up n k)(hn:n<=24):Sett.av8 k:=by
 obtain⟨i,j,h1,h2,rfl⟩:=h
 exact⟨i,j,by omega,by omega,rfl⟩
theorem Up.len (h:Up n k):k.length=2:=by
 obtain⟨i,j,h1,h2,rfl⟩:=h
 rfl
def as4 (n:Nat)(k:List Int):Prop:=∃ i j:Nat,i<n/\j<n/\i≠j/\k=[(i:Int),(j:Int)]
theorem as4.up (h:as4 n k):Up n (up k):=by
 obtain⟨i,j,h1,h2,h3,rfl⟩:=h
 show Up n [if (j:Int)<i then (j:Int) else i,if (j:Int) > i then (j:Int) else i]
 by_cases h:i<j
 ·rw[if_neg (by omega),if_pos (by omega)]
  exact⟨i,j,h,h2,rfl⟩
 ·rw[if_pos (by omega),if_neg (by omega)]
  exact⟨j,i,by omega,h1,rfl⟩
theorem Up.ends (h:Up n k):as4 n k:=by
 obtain⟨i,j,h1,h2,rfl⟩:=h
 exact⟨i,j,by omega,h2,by omega,rfl⟩
end Web
namespace L2
open PySem
def X9.around {k:Nat}{A:Around}(_:X9 k A):Around:=A
theorem bE5 (K:W.Frag)(A:Around)(hK:X.K=K)(hA:X.A=A):OpR X (J1 .Eq) (bD4 K A false):=by subst hK hA;exact aM6
theorem bE4 (K:W.Frag)(A:Around)(hK:X.K=K)(hA:X.A=A):OpR X (J1 .In) (bQ0 K A false):=by subst hK hA;exact bt7
end L2
namespace L2
open PySem PySem.Spec PyProof.Rows
section
variable {to:TE} {t:TA} {name:Str} {apos cpos:Pos} {T id:String}
theorem aW0 (p:Int):∀ k:List Int,(k.map PyData.int).any (fun d=>PyData.eqv d (.int p))=decide (p∈k)
 | []=>by simp
 | i::k=>by
  rw[x8,bn9,aW0 p k]
  by_cases h:i=p
  ·subst h;simp[PyData.eqv]
  ·have h':p≠i:=fun e=>h e.symm
   simp[PyData.eqv,h,h']
end
section
variable {σ:St}
theorem Inv.turn {it:Addr}(I:Inv X pins σ H s)(f:ad1 X pins H it)(k:∀ b o,b≠it->s.heap.get? b=some o->h'.get? b=some o):Inv X pins σ H { s with heap:=h',toks:=t' }:=
 I.turned k f.1 f.2.1 f.2.2.2.1 f.2.2.2.2.1 f.2.2.2.2.2
end
section
variable {σ:St}
end
section
variable {σ:St}
end
abbrev aN4 (qual:Str)(scope:Scope)(cl:List (Str × Addr))(f:Addr)(cv:Value)(s:Shared):Env:=PySem.W.envX qual scope s.heap.objs.size f cv cl
section
variable {σ:St}
end
def aJ6 (c:Addr)(qual:Str):HO:=.ext fun h=>h.CodeRec (.ref c) qual
def U0 (f:Addr)(o:Obj):HO:=.ext fun h=>h.get? f=some o
def Y7 (P:Addr)(pos:Pos)(qual:Str)(H:Hp):Prop:=∃ ps,H P=some (.tbl ps)/\TriplesOk ps.toList/\(bN1 pos ps.toList=none\/∃ c',bN1 pos ps.toList=some (.ref c')/\H c'=some (aJ6 c' qual))
def O5 (P:Addr)(H H':Hp):Prop:=∀ b o,b≠P->H b=some o->H' b=some o
theorem O5.refl (P:Addr)(H:Hp):O5 P H H:=fun _ _ _ h=>h
theorem O5.trans {P:Addr}{H1 H2:Hp}(a:O5 P H H1)(b:O5 P H1 H2):O5 P H H2:=fun c o n h=>b c o n (a c o n h)
theorem B3.grow (P:Addr)(h:B3 H H'):O5 P H H':=fun b o _ q=>h b o q
theorem Y7.same {P:Addr}(t:Y7 P pos qual H)(h:B3 H H'):Y7 P pos qual H':=by
 obtain⟨ps,h1,h2,h3⟩:=t
 refine⟨ps,h _ _ h1,h2,?_⟩
 rcases h3 with h3 | ⟨c',h3,h4⟩
 ·exact .inl h3
 ·exact .inr ⟨c',h3,h _ _ h4⟩
structure aW9 (base:Heap) (mg:Str->Option Value) (c P:Addr):Prop where
 hd:PySem.W.CodeHd base c P
 blt:base.BuiltinsAt mg P
 ne:j7≠P
theorem bn5 {c:Value}{l:List Value}(h:TriplesOk l)(hn:bN1 pos l=none):bN1 pos (l++[Y2 pos.line,Y2 pos.col,c])=some c:=codeAmong_snoc l h hn
def ce9 (P:Addr)(pos:Pos)(qual:Str)(params:aK1)(body:Expr)(scope:Scope)(cl:List (Str × Addr))(pm:Value):TE:=fun σ H Q=>Y7 P pos qual H/\∀ f c' ctv H',O5 P H H'->Y7 P pos qual H'->H f=none ->
 H' f=some (U0 f (PySem.W.kla_obj "<lambda>" qual params body scope cl pm c' ctv))->H' c'=some (aJ6 c' qual)->Q (.ref f) H'
theorem bQ7 {params:aK1}{body:Expr}{c P:Addr}(B:aW9 X.base X.mg c P)(hcode:X.env.code=.ref c)(hcl:aQ0 scope X.env=pure cl)(hdef:defaultsOf params X.env=([],[])) :
  PE X (.Lambda params body scope pos) (ce9 P pos (X.env.qual++"<lambda>") params body scope cl ((X.mg "__name__").getD .none)):=by
 intro pins s σ H Q I h
 obtain⟨⟨ps,hP,ht,hin⟩,q⟩:=h
 have hPh:s.heap.get? P=some (PySem.W.tabObj ps):=I.hok P _ hP
 have C:=B.hd.keeps I.bk
 have hb:s.heap.BuiltinsAt X.mg P:=by
  obtain⟨bm,ob,b1,b2,b3,b4,b5,b6⟩:=B.blt
  exact⟨bm,ob,b1,b2,b3,b4,I.bk _ _ b5,b6⟩
 refine PySem.W.kla_eval hdef ?_
 rcases hin with hnf | ⟨c',hf,hc'⟩
 ·refine PySem.W.kla_makeFunction hcl I.ok.glob (I.mod.glob.keeps I.bk) hcode C hPh ht hnf B.ne hb fun c' ctv h' tk hx hge hlt hrec htb=>?_
  have hPlt:P<s.heap.objs.size:=d5 hPh
  have hsz:s.heap.objs.size<=h'.objs.size:=C4 hge (as7 hlt)
  have cP:P≠c':=l7 (p5 hPlt hge)
  have fP:P≠h'.objs.size:=l7 (p5 hPlt hsz)
  have fc:c'≠h'.objs.size:=l7 hlt
  have hcn:H c'=none:=I.hok.fresh hge
  have hfn:H h'.objs.size=none:=I.hok.fresh hsz
  have hfr:(PySem.W.kla_obj "<lambda>" (X.env.qual++"<lambda>") params body scope cl ((X.mg "__name__").getD .none) c' ctv).isFreed=false:=rfl
  generalize hobj:PySem.W.kla_obj "<lambda>" (X.env.qual++"<lambda>") params body scope cl ((X.mg "__name__").getD .none) c' ctv=ob at *
  generalize hps:ps++#[Y2 pos.line,Y2 pos.col,.ref c']=ps' at *
  have hps2:ps'.toList=ps.toList++[Y2 pos.line,Y2 pos.col,.ref c']:=by rw[<- hps];simp
  generalize hH1:upd (upd (upd H P (.tbl ps')) c' (aJ6 c' (X.env.qual++"<lambda>"))) h'.objs.size (U0 h'.objs.size ob)=H1
  have v1:H1 h'.objs.size=some (U0 h'.objs.size ob):=by rw[<- hH1];exact c7
  have v2:H1 c'=some (aJ6 c' (X.env.qual++"<lambda>")):=by rw[<- hH1,p8 fc];exact c7
  have v3:H1 P=some (.tbl ps'):=by rw[<- hH1,p8 fP,p8 cP];exact c7
  have v4:∀ b,b≠P->b≠c'->b≠h'.objs.size->H1 b=H b:=fun b n1 n2 n3=>by rw[<- hH1,p8 n3,p8 n2,p8 n1]
  have v5:∀ b u,b≠P->H b=some u->H1 b=some u:=fun b u n e=>by rw[v4 b n (t8 e hcn) (t8 e hfn)];exact e
  have k1:∀ b o,b≠P->s.heap.get? b=some o->(h'.push ob).get? b=some o:=fun b o n e=>c8 _ (hx b o n e)
  have neP:∀ b,H b=none->b≠P:=fun b n z=>by rw[z,hP]at n;cases n
  have hPn:(h'.push ob).get? P=some (PySem.W.tabObj ps'):=c8 _ htb
  have un:Un X.fs [] H H1 s.heap (h'.push ob):=by
   refine⟨fun b o e n _ _=>k1 b o (neP b n) e,fun b o e n _ _=>⟨o.slots,k1 b o (neP b n) e⟩,fun b o e n _=>?_,fun b o e _=>?_,fun b xs e=>v5 b _ (fun z=>by rw[z,hP]at e;cases e) e,fun b o u e=>v5 b _ (fun z=>by rw[z,hP]at e;cases e) e,fun b qs e=>?_⟩
   ·rw[v4 b (neP b n) (l7 (p5 (d5 e) hge)) (l7 (p5 (d5 e) hsz))]
    exact n
   ·by_cases hb:b=P
    ·rw[hb];exact⟨_,hPn⟩
    ·exact⟨o,k1 b o hb e⟩
   ·by_cases hb:b=P
    ·rw[hb,hP]at e
     cases e
     rw[hb]
     exact⟨#[Y2 pos.line,Y2 pos.col,.ref c'],by rw[v3,<- hps]⟩
    ·exact⟨#[],by rw[v5 b _ hb e];simp⟩
  have hok:HOk X.prog X.w H1 (h'.push ob):=by
   intro b u e
   by_cases hb1:b=h'.objs.size
   ·subst hb1
    rw[v1]at e
    cases e
    exact⟨m9 _ hfr,⟨_,m9 _ hfr⟩,fun h1 h2 q z=>z _ q⟩
   ·by_cases hb2:b=c'
    ·subst hb2
     rw[v2]at e
     cases e
     obtain⟨c2,oc,vs,tq,e1,e2,e3,e4⟩:=hrec
     cases e1
     exact⟨⟨_,oc,vs,tq,rfl,c8 _ e2,e3,e4⟩,⟨oc,c8 _ e2⟩,fun h1 h2 ⟨c3,o3,vs3,t3,q1,q2,q3,q4⟩ z=>by cases q1;exact⟨_,o3,vs3,t3,rfl,z _ q2,q3,q4⟩⟩
    ·by_cases hb3:b=P
     ·subst hb3
      rw[v3]at e
      cases e
      exact hPn
     ·rw[v4 b hb3 hb2 hb1]at e
      refine(I.hok b u e).stay (fun d v hd z=>k1 d v ?_ z) (fun d z=>v5 _ _ ?_ z) fun d xs z=>v5 _ _ ?_ z
      ·rcases hd with hd | hd
       ·rw[hd];exact hb3
       ·intro zz;rw[zz,hP]at hd;cases hd
      ·intro zz;rw[zz,hP]at z;cases z
      ·intro zz;rw[zz,hP]at z;cases z
  have I1:Inv X pins σ H1 { s with heap:=h'.push ob,toks:=tk }:=I.un un hok
  refine⟨.ref h'.objs.size,H1,I1,rfl,q _ c' ctv H1 (fun b o n e=>v5 b o n e) ⟨ps',v3,?_,.inr ⟨c',?_,v2⟩⟩ hfn ?_ v2⟩
  ·rw[hps2];exact TriplesOk_snoc _ _ _ _ ht
  ·rw[hps2];exact bn5 ht hnf
  ·rw[hobj];exact v1
 ·refine PySem.W.kla_makeFunctionHit hcl I.ok.glob (I.mod.glob.keeps I.bk) hcode C hPh ht hf hb fun ctv h' tk hk hsz=>?_
  have hfn:H h'.objs.size=none:=I.hok.fresh hsz
  have hfr:(PySem.W.kla_obj "<lambda>" (X.env.qual++"<lambda>") params body scope cl ((X.mg "__name__").getD .none) c' ctv).isFreed=false:=rfl
  generalize hobj:PySem.W.kla_obj "<lambda>" (X.env.qual++"<lambda>") params body scope cl ((X.mg "__name__").getD .none) c' ctv=ob at *
  have I1:Inv X pins σ (upd H h'.objs.size (U0 h'.objs.size ob)) { s with heap:=h'.push ob,toks:=tk }:=I.laid (fun b o e=>c8 _ (hk b o e)) hsz ⟨m9 _ hfr,⟨_,m9 _ hfr⟩,fun h1 h2 q z=>z _ q⟩
  have sm:B3 H (upd H h'.objs.size (U0 h'.objs.size ob)):=fun b o e=>by rw[p8 (t8 e hfn)];exact e
  refine⟨.ref h'.objs.size,_,by rw[<- hobj]at I1;rw[<- hobj];exact I1,rfl,q _ c' ctv _ (sm.grow P) (Y7.same ⟨ps,hP,ht,.inr ⟨c',hf,hc'⟩⟩ sm) hfn (by rw[hobj];exact c7) (sm _ _ hc')⟩
theorem P5.there {o:HO}(x:P5 P w H h a o):∃ ob,h.get? a=some ob:=by
 cases o with
 | lst xs=>obtain⟨_,_,_,_,e⟩:=x;exact⟨_,e⟩
 | tup xs=>obtain⟨_,_,_,ob,e,_⟩:=x;exact⟨_,e⟩
 | dK kvs=>obtain⟨_,_,_,_,o,_,_,e,_⟩:=x;exact⟨_,e⟩
 | dT kvs=>obtain⟨_,_,_,_,o,_,_,e,_⟩:=x;exact⟨_,e⟩
 | set S n=>obtain⟨o,_,_,_,e,_⟩:=x;exact⟨_,e⟩
 | ins C dx fs=>obtain⟨_,_,_,e,_⟩:=x;exact⟨_,e⟩
 | own y=>obtain⟨ob,e⟩:=x;exact⟨ob,e⟩
 | xd fs=>obtain⟨_,⟨_,_,_,e,_⟩,_⟩:=x;exact⟨_,e⟩
 | rng lo hi=>obtain⟨_,_,_,e⟩:=x;exact⟨_,e⟩
 | frz ob u=>obtain⟨e,_⟩:=x;exact⟨_,e⟩
 | tbl ps=>exact⟨_,(show h.get? a=some _ from x)⟩
 | met f y=>exact⟨_,(show h.get? a=some _ from x)⟩
 | ext φ=>obtain⟨_,⟨ob,e⟩,_⟩:=x;exact⟨ob,e⟩
theorem HOk.stays (ok:HOk P w H h) (k:∀ b o,h.get? b=some o->H b≠none->h'.get? b=some o):HOk P w H h':=fun a o e =>
 (ok a o e).stay (fun b u hb q => k b u q (by
  rcases hb with z | z
  ·rw[z,e];simp
  ·rw[z];simp)) (fun _ q=>q) fun _ _ q=>q
def ce1 (outer:List Env)(x:Addr)(cls:Value)(h0:Heap)(H':Hp)(h':Heap):Prop:=
 ∃ (B:Heap) (a0:Value),Heap.FlyingW B outer x cls a0 h'/\∀ b o,h'.get? b=some o->(H' b≠none\/h0.get? b≠none)->b∉frs outer->B.get? b=some o
def CXE (P:Program)(w:World):CXT:=fun outer H s E e s' =>
 ∃ (x:Addr) (cls:Value) (H':Hp),e=.ref x/\s'.os=s.os/\ap1 s'.gens/\Un (frs outer) [] H H' s.heap s'.heap/\HOk P w H' s'.heap/\s.heap.get? x=none/\H' x=none/\ce1 outer x cls s.heap H' s'.heap/\E cls none H'
theorem Un.onto {fs:List Addr}{h'':Heap}(u:Un fs [] H H' h h')(stay:∀ b o,h'.get? b=some o->h.get? b≠none->b∉fs->h''.get? b=some o)
  (slots:∀ b o,h'.get? b=some o->h.get? b≠none->b∈fs->∃ sl,h''.get? b=some { o with slots:=sl }):Un fs [] H H' h h'' where
 keep:=fun b o e n hb hx=>stay b o (u.keep b o e n hb hx) (by rw[e];simp) hb
 slot:=fun b o e n hb hx=>by
  obtain⟨sl,e1⟩:=u.slot b o e n hb hx
  obtain⟨sl2,e2⟩:=slots b _ e1 (by rw[e];simp) hb
  exact⟨sl2,e2⟩
 free:=u.free
 there:=fun b o e hx=>by
  obtain⟨o',e1⟩:=u.there b o e hx
  by_cases hb:b∈fs
  ·obtain⟨sl,e2⟩:=slots b o' e1 (by rw[e];simp) hb
   exact⟨_,e2⟩
  ·exact⟨o',stay b o' e1 (by rw[e];simp) hb⟩
 tups:=u.tups
 frzs:=u.frzs
 tbls:=u.tbls
theorem M9 {α:Type}{o:Option α}(h:o≠none):∃ x,o=some x:=by
 cases o with
 | none=>exact absurd rfl h
 | some x=>exact⟨x,rfl⟩
theorem aD7 {env:Env}{outer:List Env}{L:Addr}(h:env.frame=some L):frs (env::outer)=L::frs outer:=by
 unfold frs
 rw[N5,h]
section
variable {K:W.Frag} {mg:Str->Option Value} {base:Heap} {cd:Value} {outer:List Env} {E:XK} {σ:St} {H1:Hp} {s1:Shared}
theorem bB3 {e:Addr}{cls:Value}{h2:Heap}(I:Inv (ab0 (CXE P w) P w K mg base N qual scope f cd A outer s H E) pins σ H1 s1)(hx:Heap.MadeExcOf s1.heap h2 e cls vs)(hE:E cls none H1) :
  (ab0 (CXE P w) P w K mg base N qual scope f cd A outer s H E).xe (.ref e) { s1 with heap:=h2 }:=by
 have hst:=I.stack
 have hfr:=I.ok.frames
 have hlt:=I.lt
 have hL:=I.free
 have hab:=I.ok.above
 have hbs:Un (frs outer) [] H H1 s.heap s1.heap:=I.base
 change s1.heap.FunFrames base (K5 qual scope s.heap.objs.size f cd::outer) at hst
 change (A.deeper (K5 qual scope s.heap.objs.size f cd)).frames=some (K5 qual scope s.heap.objs.size f cd::outer) at hfr
 change H1 s.heap.objs.size=none at hL
 have hff:frs (K5 qual scope s.heap.objs.size f cd::outer)=s.heap.objs.size::frs outer:=aD7 rfl
 have hin:∀ env∈(K5 qual scope s.heap.objs.size f cd::outer),∀ b,env.frame=some b->b∈frs (K5 qual scope s.heap.objs.size f cd::outer):=fun env he b hb=>ag4.mpr ⟨env,he,hb⟩
 have old:∀ b,(H1 b≠none\/s.heap.get? b≠none)->b∉frs outer->∃ o,s1.heap.get? b=some o/\b∉frs (K5 qual scope s.heap.objs.size f cd::outer):=fun b hb hno=>by
  have hne:b≠s.heap.objs.size:=by
   rcases hb with z | z
   ·intro q;rw[q]at z;exact z hL
   ·obtain⟨o,z⟩:=M9 z
    exact l7 (d5 z)
  have hex:∃ o,s1.heap.get? b=some o:=by
   rcases hb with z | z
   ·obtain⟨o,z⟩:=M9 z
    exact(I.hok b o z).there
   ·obtain⟨o,z⟩:=M9 z
    exact hbs.there b o z (by simp)
  obtain⟨o,ho⟩:=hex
  refine⟨o,ho,?_⟩
  rw[hff]
  intro hm
  rcases j6.mp hm with q | q
  ·exact hne q
  ·exact hno q
 have eNew:s.heap.get? e=none:=by
  cases q:s.heap.get? e with
  | none=>rfl
  | some o =>
   obtain⟨o',z⟩:=hbs.there e o q (by simp)
   rw[hx.new]at z
   cases z
 have eFree:H1 e=none:=by
  cases q:H1 e with
  | none=>rfl
  | some o =>
   obtain⟨o',z⟩:=(I.hok e o q).there
   rw[hx.new]at z
   cases z
 refine wpAny_leaves_madeW (base:=PySem.W.hideAll s1.heap (frs (K5 qual scope s.heap.objs.size f cd::outer))) hfr rfl (fun b o q=>PySem.W.of_hideAll _ q) (PySem.W.funFrames_hide hst hin) hx fun h' t x1 x2 x3 x4=>?_
 have stay:∀ b o,s1.heap.get? b=some o->(H1 b≠none\/s.heap.get? b≠none)->b∉frs outer->h'.get? b=some o:=fun b o ho hb hno=>by
  obtain⟨o',ho',hm⟩:=old b hb hno
  rw[ho]at ho'
  cases ho'
  exact x1.1 b o (PySem.W.hideAll_get _ ho hm)
 have frNone:∀ b∈frs outer,H1 b=none:=fun b hb=>I.stkFree b (by
  show b∈frs (K5 qual scope s.heap.objs.size f cd::outer)
  rw[hff]
  exact i8 _ hb)
 refine⟨e,cls,H1,rfl,I.os,I.bare,hbs.onto (fun b o ho hh hno=>stay b o ho (.inr hh) hno) (fun b o ho hh hm=>?_),I.hok.stays fun b o ho hh=>stay b o ho (.inl hh) fun hm=>hh (frNone b hm),eNew,eFree,⟨_,_,x1,fun b o ho hb hno=>?_⟩,hE⟩
 ·obtain⟨_,o',ho',hd⟩:=hst.mem (b:=b) (by
   show b∈frs (K5 qual scope s.heap.objs.size f cd::outer)
   rw[hff]
   exact i8 _ hm)
  rw[ho]at ho'
  cases ho'
  exact x4 b o (hx.keeps b o ho) hd
 ·obtain⟨o',ho',hm⟩:=old b hb hno
  have:=stay b o' ho' hb hno
  rw[ho]at this
  cases this
  exact PySem.W.hideAll_get _ ho' hm
theorem aq8:ao8 (CXE P w) (ab0 (CXE P w) P w K mg base N qual scope f cd A outer s H E) E:=by
 intro pins σ H1 s1 e s2 I hc
 obtain⟨x,cls,H2,rfl,hos,hb2,u,hok,new,hxn,⟨B,a0,fl,st⟩,hE⟩:=hc
 have hst:=I.stack
 have hfr:=I.ok.frames
 have hL:=I.free
 have hbs:Un (frs outer) [] H H1 s.heap s1.heap:=I.base
 change s1.heap.FunFrames base (K5 qual scope s.heap.objs.size f cd::outer) at hst
 change (A.deeper (K5 qual scope s.heap.objs.size f cd)).frames=some (K5 qual scope s.heap.objs.size f cd::outer) at hfr
 change H1 s.heap.objs.size=none at hL
 change Un (frs (K5 qual scope s.heap.objs.size f cd::outer)) [] H1 H2 s1.heap s2.heap at u
 change Heap.FlyingW B (K5 qual scope s.heap.objs.size f cd::outer) x cls a0 s2.heap at fl
 have hff:frs (K5 qual scope s.heap.objs.size f cd::outer)=s.heap.objs.size::frs outer:=aD7 rfl
 have st':∀ b o,s2.heap.get? b=some o->(H2 b≠none\/s1.heap.get? b≠none)->b∉frs (K5 qual scope s.heap.objs.size f cd::outer)->B.get? b=some o:=st
 rw[hff]at u st'
 have hLo:∃ o,s1.heap.get? s.heap.objs.size=some o:=by
  obtain⟨m,⟨o,_,_,ho,_⟩,_⟩:=I.loc
  exact⟨o,ho⟩
 have hL2:H2 s.heap.objs.size=none:=by
  obtain⟨o,ho⟩:=hLo
  exact u.free _ o ho hL (by simp)
 have old:∀ b,(H2 b≠none\/s.heap.get? b≠none)->b∉frs outer->∃ o,s2.heap.get? b=some o/\B.get? b=some o:=fun b hb hno=>by
  have hne:b≠s.heap.objs.size:=by
   rcases hb with z | z
   ·intro q;rw[q]at z;exact z hL2
   ·obtain⟨o,z⟩:=M9 z
    exact l7 (d5 z)
  have hm:b∉s.heap.objs.size::frs outer:=fun hm=>by
   rcases j6.mp hm with q | q
   ·exact hne q
   ·exact hno q
  rcases hb with z | z
  ·obtain⟨o,z'⟩:=M9 z
   obtain⟨o',ho⟩:=(hok b o z').there
   exact⟨o',ho,st' b o' ho (.inl z) hm⟩
  ·obtain⟨o,z⟩:=M9 z
   obtain⟨o1,h1⟩:=hbs.there b o z (by simp)
   obtain⟨o2,h2⟩:=u.there b o1 h1 (by simp)
   exact⟨o2,h2,st' b o2 h2 (.inr (by rw[h1];simp)) hm⟩
 have u2:Un (frs outer) [] H H2 s.heap s2.heap:=by
  refine⟨fun b o e n hb hx=>?_,fun b o e n hb hx=>?_,fun b o e n hx=>?_,fun b o e hx=>?_,fun b xs e=>u.tups b xs (hbs.tups b xs e),fun b o v e=>u.frzs b o v (hbs.frzs b o v e),fun b ps e=>?_⟩
  ·refine u.keep b o (hbs.keep b o e n hb hx) (hbs.free b o e n hx) (fun hm=>?_) hx
   rcases j6.mp hm with q | q
   ·exact l7 (d5 e) q
   ·exact hb q
  ·obtain⟨sl,e1⟩:=hbs.slot b o e n hb hx
   obtain⟨sl2,e2⟩:=u.slot b _ e1 (hbs.free b o e n hx) (i8 _ hb) hx
   exact⟨sl2,e2⟩
  ·obtain⟨o',e1⟩:=hbs.there b o e hx
   exact u.free b o' e1 (hbs.free b o e n hx) hx
  ·obtain⟨o',e1⟩:=hbs.there b o e hx
   exact u.there b o' e1 hx
  ·obtain⟨m1,e1⟩:=hbs.tbls b ps e
   obtain⟨m2,e2⟩:=u.tbls b _ e1
   exact⟨m1++m2,by rw[e2,aA0]⟩
 have frNone:∀ b∈frs outer,H2 b=none:=fun b hb=>by
  have h1:=I.stkFree b (by
   show b∈frs (K5 qual scope s.heap.objs.size f cd::outer)
   rw[hff]
   exact i8 _ hb)
  obtain⟨_,o,ho,_⟩:=hst.mem (b:=b) (by
   show b∈frs (K5 qual scope s.heap.objs.size f cd::outer)
   rw[hff]
   exact i8 _ hb)
  exact u.free b o ho h1 (by simp)
 refine wpAny_leaves_onW hfr rfl fl fun h' x1 x2=>?_
 have stay:∀ b o,s2.heap.get? b=some o->(H2 b≠none\/s.heap.get? b≠none)->b∉frs outer->h'.get? b=some o:=fun b o ho hb hno=>by
  obtain⟨o',ho',hB⟩:=old b hb hno
  rw[ho]at ho'
  cases ho'
  exact x1.1 b o hB
 refine⟨x,cls,H2,rfl,hos.trans I.os,hb2,u2.onto (fun b o ho hh hno=>stay b o ho (.inr hh) hno) (fun b o ho hh hm=>?_),hok.stays fun b o ho hh=>stay b o ho (.inl hh) fun hm=>hh (frNone b hm),?_,hxn,⟨B,a0,x1,fun b o ho hb hno=>?_⟩,hE⟩
 ·obtain⟨_,o',ho',hd⟩:=fl.2.2.1.mem (b:=b) (by
   show b∈frs (K5 qual scope s.heap.objs.size f cd::outer)
   rw[hff]
   exact i8 _ hm)
  rw[ho]at ho'
  cases ho'
  exact x2 b o ho hd
 ·cases q:s.heap.get? x with
  | none=>rfl
  | some o =>
   obtain⟨o',z⟩:=hbs.there x o q (by simp)
   rw[new]at z
   cases z
 ·obtain⟨o',ho',hB⟩:=old b hb hno
  have:=stay b o' ho' hb hno
  rw[ho]at this
  cases this
  exact hB
end
theorem Fun.okX {K:W.Frag} {mg:Str->Option Value} {base:Heap} {st:Stmt} {k:Nat} {sp:Sp} (F:Fun K x qual st f fd) (S:B6 N ps (p9 st))
  (hbody : ∀ (cdv : Value) (A : Around) (outer : List Env) (s : Shared) (H : Hp) (vs : List V) (Q : VK) (E : XK), X9 k (A.deeper (K5 qual (p9 st) s.heap.objs.size f cdv)) -> sp vs H Q E ->
   ∃ t,PSs (ab0 (CXE P w) P w K mg base N qual (p9 st) f cdv A outer s H E) (V5 st) t/\t { nx:=fun _ H'=>Q .non H',rt:=Q } (start N vs) H) (len:∀ vs H Q E,sp vs H Q E->vs.length=ps.length:=by intro _ _ _ _ h;repeat first | (obtain⟨rfl,_⟩:=h;rfl) | obtain⟨_,h⟩:=h):A4 P w K mg base (CXE P w) (k+1) f fd ps sp:=by
 obtain⟨oc,od,kV,doc,pm,an,cdv,ct,osl,rfl,lk,hcd⟩:=F.ex
 exact bw5 lk hcd S len fun A outer s H vs Q E hr hsp=>hbody cdv A outer s H vs Q E hr hsp
theorem bs6 {K:W.Frag}{mg:Str->Option Value}{base:Heap}{cd:Value}{outer:List Env}{E:XK} :
  PassesOwn (u7 P w) (ab0 (CXE P w) P w K mg base N qual scope f cd A outer s H E).A (ab0 (CXE P w) P w K mg base N qual scope f cd A outer s H E).env (ab0 (CXE P w) P w K mg base N qual scope f cd A outer s H E).xe:=PassesOwn.leaving
structure ao9 (K:W.Frag) (C:Addr):Prop where
 q:PySem.W.excIn K C [.type "ValueError",.type "Exception",.type "BaseException",.type "object"] "ValueError.__new__"=true
abbrev bmV:List Value:=[.type "ValueError",.type "Exception",.type "BaseException",.type "object"]
theorem bU7 {K:W.Frag}(KI:K.In h)(c:ao9 K C):∃ bm N nm q bs hd sn sub ab col dd k0 k1 k2 k3 k5 mN,h.get? C=some (excClassObj nm q C N bs bm hd sn sub ab col dd k0 k1 k2 k3 k5 "ValueError.__new__") /\
  h.Ns N mN/\mN "__init__"=none/\OwnTail h bmV bm:=by
 have z:=c.q
 revert z
 unfold PySem.W.excIn
 split
 ·rename_i d1 c1 s1 hl
  split
  ·rename_i D bm y0 y1 y2 y3 nn y5 e1 e2
   intro z
   rw[B5,B5,B5,B5,B5]at z
   obtain⟨⟨⟨⟨⟨z1,z2⟩,z3⟩,z4⟩,z5⟩,z6⟩:=z
   have z1':D=C:=beq_iff_eq.mp z1
   have z2':nn="ValueError.__new__":=beq_iff_eq.mp z2
   have z6':=beq_iff_eq.mp z6
   subst z1' z2'
   obtain⟨w1,w2,w3,w4,w5,w6,w7,w8,w9,w10,w11⟩:=c1
   dsimp only at e1 z3 z5 z6'
   subst e1
   have z3':w11=false:=by simpa using z3
   subst z3'
   have e3:s1=#[y0,y1,y2,y3,some (.builtin "ValueError.__new__"),y5]:=by
    obtain⟨l1⟩:=s1
    exact congrArg Array.mk e2
   subst e3
   exact⟨bm,w4,w1,w5,w2,w6,w7,w8,w9,w10,d1,y0,y1,y2,y3,y5,_,KI _ _ hl,.of_isNs (PySem.W.isNs_of_in KI z5),PySem.W.nsMap_none_of_in KI z5 z6',PySem.W.tail_of_in KI z4⟩
  ·intro z;cases z
 ·intro z;cases z
section
variable {K:W.Frag} {mg:Str->Option Value} {base:Heap} {cd:Value} {outer:List Env} {E:XK}
def bO3 (E:XK)(C:Addr):TS:=fun _ _ H=>E (.ref C) none H
theorem aa6 {txt:Str}{np cp ep:Pos}(hg:Gl (ab0 (CXE P w) P w K mg base N qual scope f cd A outer s H E) x)(hm:mg x=some (.ref C))(c:ao9 K C)(hd:(x == ("__debug__":Str))=false:=by decide) :
  PS (ab0 (CXE P w) P w K mg base N qual scope f cd A outer s H E) (.Raise (some (.Call (.Name x np) [.Constant (.str txt) j cp] [] ep)) none pos) (bO3 E C):=by
 intro pins s1 σ H1 D I hE
 have hh:(ab0 (CXE P w) P w K mg base N qual scope f cd A outer s H E).A.handled=none:=I.ok.hd rfl
 obtain⟨bm,N',nm,q,bs,hdc,sn,sub,ab,col,dd,k0,k1,k2,k3,k5,mN,hC,hN,hni,T⟩:=bU7 I.kIn c
 refine wpAny_Raise_call_subT (C:=C) (nm:=nm) (q:=q) (N:=N') (bs:=bs) (bm:=bm) (hdct:=hdc) (sn:=sn) (sub:=sub) (ab:=ab) (col:=col) (dd:=dd) (k0:=k0) (k1:=k1) (k2:=k2) (k3:=k3) (k5:=k5)
  PySem.F.excBase_ValueError (mN:=mN) (T.hasType (by decide +kernel)) hh rfl hni (af6 I hg hm ⟨rfl,?_⟩ hd)
 refine Calls.evalArgs_plain ?_
 refine PyProof.Rows.spliced_more (Calls.Constant_str ?_)
 refine PyProof.Rows.spliced_none ⟨rfl,by show 1<=d7;decide,hC,hN,T,fun h' e hx=>?_⟩
 exact bB3 (I.tok _) hx hE
end
def aQ7 (X:Cx)(pins:List (Addr × Obj))(E:St->XK):Cx:={ X with pn:=X.pn++pins,xe:=fun e s'=>∃ σ H s,Inv X pins σ H s/\CXE X.prog X.w X.stack H s (E σ) e s' }
def bG8 (X:Cx)(v:Value):Cx:={ X with A:=X.A.mark (some v),calm:=false,xe:=fun _ _=>False }
section
variable {pins':List (Addr × Obj)} {σ:St} {E:St->XK}
theorem Inv.toTry (I:Inv X pins σ H s):Inv (aQ7 X pins E) [] σ H s:=
  ⟨⟨I.ok.mod, I.ok.kind, I.ok.glob, I.ok.blt, I.ok.above, I.ok.inj, I.ok.has, I.ok.cab, I.ok.hd, I.ok.frames, I.ok.stk, I.ok.exf, I.ok.bs, I.ok.bsz, I.ok.noex, I.ok.exfs, I.ok.funs, I.ok.frf⟩,
    I.os,I.bare,I.base,I.loc,I.cell,I.free,I.freeC,fun p hp=>I.pin p (by
      rcases u9.mp hp with z | z
      · exact z
      · cases z),I.hok,I.len⟩
theorem Inv.ofTry (I:Inv (aQ7 X pins E) pins' σ H s):Inv X pins σ H s:=
  ⟨⟨I.ok.mod, I.ok.kind, I.ok.glob, I.ok.blt, I.ok.above, I.ok.inj, I.ok.has, I.ok.cab, I.ok.hd, I.ok.frames, I.ok.stk, I.ok.exf, I.ok.bs, I.ok.bsz, I.ok.noex, I.ok.exfs, I.ok.funs, I.ok.frf⟩,
    I.os,I.bare,I.base,I.loc,I.cell,I.free,I.freeC,fun p hp=>I.pin p (J8 _ hp),I.hok,I.len⟩
theorem Inv.toHd (I:Inv X pins σ H s) (v:Value):Inv (bG8 X v) pins σ H s:=
  ⟨⟨I.ok.mod, I.ok.kind, I.ok.glob, I.ok.blt, I.ok.above, I.ok.inj, I.ok.has, I.ok.cab, (fun z => by cases z), I.ok.frames, I.ok.stk, I.ok.exf, I.ok.bs, I.ok.bsz, I.ok.noex, I.ok.exfs, I.ok.funs, I.ok.frf⟩,
    I.os,I.bare,I.base,I.loc,I.cell,I.free,I.freeC,I.pin,I.hok,I.len⟩
theorem Inv.ofHd (I:Inv (bG8 X v) pins σ H s) (hd:X.calm=true->X.A.handled=none):Inv X pins σ H s:=
  ⟨⟨I.ok.mod, I.ok.kind, I.ok.glob, I.ok.blt, I.ok.above, I.ok.inj, I.ok.has, I.ok.cab, hd, I.ok.frames, I.ok.stk, I.ok.exf, I.ok.bs, I.ok.bsz, I.ok.noex, I.ok.exfs, I.ok.funs, I.ok.frf⟩,
    I.os,I.bare,I.base,I.loc,I.cell,I.free,I.freeC,I.pin,I.hok,I.len⟩
end
def bh1 (CX:CXT)(X:Cx)(E:St->XK):Prop:=∀ (pins:List (Addr × Obj)) (σ:St) (H:Hp) (s:Shared) (e:Value) (s':Shared),Inv X pins σ H s->CX X.stack H s (E σ) e s'->X.xe e s'
theorem be5 {E:St->XK}:bh1 (CXE X.prog X.w) (aQ7 X pins E) E:=fun _ σ H s _ _ I h=>⟨σ,H,s,I.ofTry,h⟩
def bO5 (sp:Sp)(E:St->XK)(t:TA):TE:=fun σ H Q=>t σ H fun vs H1=>sp (vs++[]) H1 Q (E σ)
section
variable {CX:CXT} {k:Nat} {sp:Sp} {E:St->XK} {t:TA}
theorem aT2 (F:A4 X.prog X.w X.K X.mg X.base CX k f fd ps sp)(hr:X9 k X.A)(hg:Gl X x)(hm:X.mg x=some (.ref f))(hk:Q7 X.K (.ref f)=true)(hb:Binds X.K fd ps [])(hx:bh1 CX X E)
  (ha:PA X (e::es) t)(hdb:(x == ("__debug__":Str))=false:=by decide)(he:u4 (e::es) X.env=(false,eval e X.env)::u4 es X.env:=by rfl)(hpl:(O9 pos (u4 es X.env)).any (·.1)=false:=by rfl) :
  PE X (.Call (.Name x p) (e::es) [] pos) (bO5 sp E t):=by
 intro pins s σ H Q I h
 refine K4 (af6 I hg hm ?_ hdb)
 refine PySem.W.callWith_K (h₀:=X.base) I.ok.mod.kin hk (thn (ha pos pins s σ H _ I h) fun us s1 ⟨vs,H1,I1,r,q⟩=>⟨I1.kIn,?_⟩) he hpl
 have r2:D3 (vs++[]) (us++[]):=r.append .nil
 have hl:(us++[]).length=ps.length:=by rw[<- r2.length];exact F.len _ _ _ _ q
 refine aP9 (U8 (F.run X.A X.stack s1 H1 ⟨us,[]⟩ (us++[]) (vs++[]) Q (E σ) hr I1.env0 (hb s1 us I1.kIn hl) r2 q) fun r s' hq=>?_)
 cases r with
 | error e=>exact hx pins σ H1 s1 e s' I1 hq
 | ok fl =>
  cases fl with
  | ret u=>exact I1.after hq
  | next=>exact False.elim hq
  | brk=>exact False.elim hq
  | cont=>exact False.elim hq
end
def XO (x:Addr)(cls:Value):HO:=.ext fun h=>∃ o vs,h.get? x=some o/\o.cls=cls/\o.data=.fields vs
theorem XO.ok {x:Addr}{cls:Value}(e:∃ o vs,h.get? x=some o/\o.cls=cls/\o.data=.fields vs):P5 P w H h x (XO x cls):=
 ⟨e,let ⟨o,_,h1,_⟩:=e;⟨o,h1⟩,fun _ _ ⟨o,vs,h1,h2,h3⟩ k=>⟨o,vs,k o h1,h2,h3⟩⟩
section
variable {σ:St}
theorem ak3 {n:Str}{Q:Unit->Shared->Prop}(I:Inv X pins σ H s)(hN:X.N.Nodup)(hi:X.N[i]?=some n)(hk:X.env.scope.names.lookup n=some .local)
  (h:∀ s',Inv X pins (σ.set i none) H s'->Q () s'):q8 M A (do bindName X.env n .none;unbindBehindTheSuite X.env n pos) Q E s:=by
 obtain⟨m,hn,hl⟩:=id I.loc
 have hcls:(X.env.scope.kind == .class || (X.env.scope.kind == .module && X.env.locals != X.env.globals))=false:=by rw[I.ok.kind];rfl
 refine wpAny_nameGoes_keeps hk hn hcls fun h' v hn' hs=>h _ ?_
 obtain⟨oL,_,_,hoL,_⟩:=id hn
 have ne:∀ b o,X.s₀.heap.get? b=some o->b≠X.env.locals:=fun b o e=>l7 (p5 (d5 e) I.ok.above)
 refine⟨I.ok,I.os,I.bare,⟨fun b o e n hb hx=>(hs.2 b (ne b o e)).trans (I.base.keep b o e n hb hx),fun b o e n hb hx=>?_,I.base.free,fun b o e hx=>?_,I.base.tups,I.base.frzs,I.base.tbls⟩,⟨_,hn',fun j y v' e1 e2 e3=>?_⟩,fun y c e=>?_,I.free,I.freeC,fun p hp=>?_,I.hok.stays fun b o e hb=>(hs.2 b fun z=>hb (by rw[z];exact I.free)).trans e,by simpa using I.len⟩
 ·obtain⟨sl,e1⟩:=I.base.slot b o e n hb hx
  exact⟨sl,(hs.2 b (ne b o e)).trans e1⟩
 ·obtain⟨o',e1⟩:=I.base.there b o e hx
  exact⟨o',(hs.2 b (ne b o e)).trans e1⟩
 ·by_cases hj:j=i
  ·subst hj
   have hlt:j<σ.length:=by rw[I.len];exact(j5.mp hi).1
   rw[ap0 hlt]at e2
   cases e2
  ·rw[av1 (Ne.symm hj)]at e2
   obtain⟨u',r',q⟩:=hl j y v' e1 e2 e3
   refine⟨u',r',?_⟩
   rcases q with⟨k,e⟩ | ⟨k,c,e,z⟩
   ·refine .inl ⟨k,?_⟩
    have hyn:y≠n:=fun e=>hj (aC5 hN e1 (e ▸ hi))
    simp[hyn,e]
   ·exact .inr ⟨k,c,e,z.sameBut hs (I.cne y c e)⟩
 ·obtain⟨w',z⟩:=I.cell y c e
  exact⟨w',z.sameBut hs (I.cne y c e)⟩
 ·obtain⟨e,nn,ne',nf,d⟩:=I.pin p hp
  exact⟨(hs.2 p.1 ne').trans e,nn,ne',nf,d⟩
end
def ce4 (K:W.Frag)(CT:Addr)(i:Nat)(tb:(St->XK)->TS)(th:TS):TS:=fun D σ H=>∃ E:St->XK,tb E D σ H/\∀ σ' cls H',E σ' cls none H'->PySem.W.exmOne K cls (.ref CT)=some true/\∀ x,H' x=none ->
 th { nx:=fun σ2 H2=>D.nx (σ2.set i none) H2,rt:=D.rt,bk:=fun σ2 H2=>D.bk (σ2.set i none) H2,ct:=fun σ2 H2=>D.ct (σ2.set i none) H2 } (σ'.set i (some (.ref x))) (upd H' x (XO x cls))
theorem bQ3 {suite:List Stmt}{b0:Stmt}{tn n:Str}{np hpos:Pos}{CT:Addr}{tb:(St->XK)->TS}{th:TS}(hN:X.N.Nodup)(hi:X.N[i]?=some n)(hk:X.env.scope.names.lookup n=some .local)
  (hg:Gl X tn)(hm:X.mg tn=some (.ref CT))(hst:X.stack=X.env::X.outer)(hfr:X.env.frame=some X.env.locals)(hbody:∀ pins E,PSs (aQ7 X pins E) body (tb E))(hh:∀ v,PSs (bG8 X v) (b0::suite) th)
  (hd:(tn == ("__debug__":Str))=false:=by decide) :
  PS X (.Try body [.ExceptHandler (some (.Name tn np)) (some n) (b0::suite) hpos] [] [] pos) (ce4 X.K CT i tb th):=by
 intro pins s σ H D I hw
 obtain⟨E,hb,hcatch⟩:=hw
 refine wpAny_Try_except (E5 (hbody pins E [] s σ H D I.toTry hb) (fun fl s1 q=>?_) fun e s1 hx=>?_)
 ·cases fl with
  | next =>
   obtain⟨σ',H',I',q⟩:=q
   exact Y9 ⟨σ',H',I'.ofTry,q⟩
  | brk=>obtain⟨σ',H',I',q⟩:=q;exact⟨σ',H',I'.ofTry,q⟩
  | cont=>obtain⟨σ',H',I',q⟩:=q;exact⟨σ',H',I'.ofTry,q⟩
  | ret u=>obtain⟨v,σ',H',I',r,q⟩:=q;exact⟨v,σ',H',I'.ofTry,r,q⟩
 ·obtain⟨σ1,H1,s0,I1,x,cls,H2,rfl,hos,hbare,u,hok,new,hxn,⟨B,a0,fl,st⟩,hE⟩:=hx
  obtain⟨hmat,hth⟩:=hcatch σ1 cls H2 hE
  have hfl:Heap.FlyingW B (X.env::X.outer) x cls a0 s1.heap:=by rw[hst]at fl;exact fl
  have frNone:∀ b∈frs X.stack,H2 b=none:=fun b hb=>by
   obtain⟨_,o,ho,_⟩:=I1.stack.mem hb
   exact u.free b o ho (I1.stkFree b hb) (by simp)
  have step:∀ h',B.StaysIn h'->s1.heap.UpToSlots h'->Un (frs X.stack) [] H1 H2 s0.heap h'/\HOk X.prog X.w H2 h':=fun h' hB hu=>by
   refine⟨u.onto (fun b o ho hh hno=>hB b o (st b o ho (.inr hh) hno)) fun b o ho hh hm'=>?_,hok.stays fun b o ho hh=>hB b o (st b o ho (.inl hh) fun hm'=>hh (frNone b hm'))⟩
   obtain⟨_,o',ho',hdd⟩:=hfl.2.2.1.mem (b:=b) (by rw[hst]at hm';exact hm')
   rw[ho]at ho'
   cases ho'
   exact hu b o ho hdd
  have inv:∀ h',B.StaysIn h'->s1.heap.UpToSlots h'->Inv X pins σ1 H2 { s1 with heap:=h' }:=fun h' hB hu=>by
   obtain⟨un,ok⟩:=step h' hB hu
   exact I1.call' (s':={ s1 with heap:=h' }) (ch:=[]) hos un ok hbare fun b hb=>by cases hb
  have hfrm:X.A.frames=some (X.env::X.outer):=by rw[<- hst];exact I1.ok.frames
  refine bi1 hfrm hfr hfl fun h4 held4 up4=>?_
  refine bN2 held4 fun h5 fl5 up5=>?_
  have up15:=up4.trans up5
  have I5:=inv h5 fl5.1 up15
  refine bY0 (bN3 ?_) (by intro q;cases q)
  refine af6 (I5.toHd (.ref x)) hg hm ?_ hd
  have LT:PySem.W.Looks (u7 X.prog X.w) h5 (typeOf (.ref x)) cls:=by
   obtain⟨ob,hob,hc⟩:=fl5.there
   subst hc
   exact(PySem.W.Looks.ld hob).andThen .now
  refine(PySem.W.exm_one (M:=u7 X.prog X.w) I5.kIn LT hmat).here ?_
  refine codeAny_handlers_suite_as ?_
  refine lands_againW fl5 fun h6 fl6 up6=>?_
  have up16:=up15.trans up6
  obtain⟨un6,ok6⟩:=step h6 fl6.1 up16
  obtain⟨oe,vs,hoe,hcl,hdt,_⟩:=fl6.first
  have xin:s0.heap.get? x=none:=new
  have un7:Un (frs X.stack) [] H1 (upd H2 x (XO x cls)) s0.heap h6:=by
   refine⟨un6.keep,un6.slot,fun b o e nn hx=>?_,un6.there,fun b xs e=>?_,fun b o v e=>?_,fun b ps e=>?_⟩
   ·rw[p8 (fun z=>by rw[z,xin]at e;cases e)]
    exact un6.free b o e nn hx
   ·have:=un6.tups b xs e
    rw[p8 (t8 this hxn)]
    exact this
   ·have:=un6.frzs b o v e
    rw[p8 (t8 this hxn)]
    exact this
   ·obtain⟨more,this⟩:=un6.tbls b ps e
    exact⟨more,by rw[p8 (t8 this hxn)];exact this⟩
  have ok7:HOk X.prog X.w (upd H2 x (XO x cls)) h6:=fun a o e=>by
   by_cases ha:a=x
   ·subst ha
    rw[c7]at e
    cases e
    exact XO.ok ⟨oe,vs,hoe,hcl,hdt⟩
   ·rw[p8 ha]at e
    exact(ok6 a o e).stay (fun _ _ _ q=>q) (fun b q=>by rw[p8 (t8 q hxn)];exact q) fun b xs q=>by rw[p8 (t8 q hxn)];exact q
  have I7:Inv X pins σ1 (upd H2 x (XO x cls)) { s1 with heap:=h6 }:=I1.call' (s':={ s1 with heap:=h6 }) (ch:=[]) hos un7 ok7 hbare fun b hb=>by cases hb
  refine ap9 (v:=.ref x) I7 hN hi (.inl hk) rfl (fun s8 I8=>?_) (.inr hk)
  refine E5 (hh (.ref x) pins s8 _ _ _ (I8.toHd _) (hth x hxn)) (fun fl' s9 q=>?_) (fun _ _ z=>False.elim z)
  have hdX:=I.ok.hd
  cases fl' with
  | next =>
   obtain⟨σ',H',I',q⟩:=q
   exact ak3 (I'.ofHd hdX) hN hi hk fun s10 I10=>⟨_,H',I10,q⟩
  | brk =>
   obtain⟨σ',H',I',q⟩:=q
   exact ak3 (I'.ofHd hdX) hN hi hk fun s10 I10=>⟨_,H',I10,q⟩
  | cont =>
   obtain⟨σ',H',I',q⟩:=q
   exact ak3 (I'.ofHd hdX) hN hi hk fun s10 I10=>⟨_,H',I10,q⟩
  | ret u' =>
   obtain⟨v,σ',H',I',r,q⟩:=q
   exact ak3 (I'.ofHd hdX) hN hi hk fun s10 I10=>⟨v,_,H',I10,r,q⟩
end L2
set_option maxRecDepth 100000
namespace L2
open PySem PySem.Spec PyProof.Rows PySem.W
structure aO4 (K:W.Frag) (C:Addr):Prop where
 ga:findIn K (.ref C) "__getattribute__"=some (some (.builtin "BaseException.__getattribute__"))
 na:findIn K (.ref C) "__getattr__"=some none
 cl:findIn K (.ref C) "__class__"=some (some (.builtin "object.__class__"))
 sb:subIn K (.ref C) (.type "BaseException")=some true
 so:subIn K (.ref C) (.type "object")=some true
 cs:(clsIn K C).isSome=true
def ExcAt (x C:Addr)(h:Heap):Prop:=∃ o vs,h.get? x=some o/\o.cls=.ref C/\o.data=.fields vs
section
variable {g:Array bA4} {d:Drawn} {t:Nat} {os:OsState} {o:Obj} {K:W.Frag}
theorem bH2 {R:Result->Shared->Prop}(KI:K.In h)(c:aO4 K C)(hx:h.get? a=some o)(hc:o.cls=.ref C)(hq:R (.ok (.ret (.ref C))) ⟨h,g,d,t,os⟩) :
  al6 (u7 prog w) A (.call (.builtin "getset_descriptor.__get__") ⟨[.builtin "object.__class__",.ref a,.ref C],[]⟩) R ⟨h,g,d,t,os⟩:=by
 have hT5:(⟨h,g,d,t,os⟩:Shared).TypeIs (.builtin "object.__class__") "getset_descriptor":=F.typeOf_object_class
 have LS:Looks (u7 prog w) h (isSubtype (.ref C) (.type (".".intercalate ("object.__class__".cutAt '.').dropLast))) true:=by rw[F.owner_object_class];exact looks_subIn KI c.so
 refine W3 F.slot_gs_get.plain F.entry_gs_get (F.slot_gs_get.check _ _ _ _ _ _ _ _ hT5 (F.args_gs_get _ _ _) ?_)
 repeat (any_goals (first | assumption | (with_reducible refine ab5 hx ?_;rw[hc]) | (with_reducible refine LS.at ?_) | wp_step))
 refine⟨Code.quiet_builtin _ (by decide +kernel),Q5 F.entry_object_class ?_⟩
 repeat (any_goals (first | assumption | (with_reducible refine ab5 hx ?_;rw[hc]) | wp_step))
theorem bl8 {nameV:Value}{Q:Unit->Shared->Prop}(KI:K.In h)(c:aO4 K C)(hx:h.get? a=some o)(hc:o.cls=.ref C)(hq:Q () ⟨h,g,d,t,os⟩) :
  q8 M A (as6 "BaseException.__getattribute__" ⟨[.ref a,nameV],[]⟩) Q E ⟨h,g,d,t,os⟩:=by
 have k1:builtinKind "BaseException.__getattribute__"=some .slot:=by decide +kernel
 have k2:splitId "BaseException.__getattribute__"=some ("BaseException","__getattribute__"):=by decide +kernel
 have LS:Looks M h (isSubtype (.ref C) (.type "BaseException")) true:=looks_subIn KI c.sb
 have ha:=F.args_bexc_ga (.ref a) nameV
 simp only[as6,k1,k2]
 refine b8 ?_
 ·unfold isInstance
  repeat (first | (with_reducible refine ab5 hx ?_;rw[hc]) | (with_reducible refine LS.at ?_) | wp_step)
  exact hq
theorem bl7 {tk:Tok}{Q:Fin->Shared->Prop}(KI:K.In h)(c:aO4 K C)(hx:h.get? a=some o)(hc:o.cls=.ref C)(hq:Q (.done (.ret (.ref C))) ⟨h,g,d,t,os⟩) :
  q8 (u7 prog w) A (Builtin.«object.__getattribute__» ⟨[.ref a,.str "__class__" tk],[]⟩) Q E ⟨h,g,d,t,os⟩:=by
 have hT5:(⟨h,g,d,t,os⟩:Shared).TypeIs (.builtin "object.__class__") "getset_descriptor":=F.typeOf_object_class
 have L1:Looks (u7 prog w) h (ay0 (.ref C) "__class__") (some (.builtin "object.__class__")):=looks_findIn KI c.cl
 have f5:=F.typeOf_object_class
 have f6:=F.slot_gs_get.lookup
 have f7:=F.slot_gs_set.lookup
 repeat (any_goals (first | assumption | (with_reducible refine ab5 hx ?_;rw[hc]) | (with_reducible refine L1.at ?_) | wp_step))
 refine bH2 KI c hx hc ?_
 repeat (any_goals (first | assumption | wp_step))
theorem bU6 {tk:Tok}(KI:K.In h)(c:aO4 K C)(hx:h.get? a=some o)(hc:o.cls=.ref C)(hq:Q (.ref C) ⟨h,g,d,t,os⟩) :
  q8 (u7 prog w) A (getAttrBy (.ref a) (.str "__class__" tk) false) Q E ⟨h,g,d,t,os⟩:=by
 have f3:=F.excAttr_ValueError.ga.bind (.ref a)
 have y2:(Value.builtin "BaseException.__getattribute__" == Value.builtin "object.__getattribute__")=false:=by decide +kernel
 have y1:(onTheHeap (Value.ref C) && Value.builtin "BaseException.__getattribute__" == Value.builtin "object.__getattribute__")=false:=by rw[y2];rfl
 have y0:(false && onTheHeap (Value.builtin "BaseException.__getattribute__"))=false:=rfl
 have L1:Looks (u7 prog w) h (ay0 (.ref C) "__getattribute__") (some (.builtin "BaseException.__getattribute__")):=looks_findIn KI c.ga
 have L2:Looks (u7 prog w) h (ay0 (.ref C) "__getattr__") none:=looks_findIn KI c.na
 repeat (any_goals (first | assumption | (with_reducible refine ab5 hx ?_;rw[hc]) | (with_reducible refine L1.at ?_) | (with_reducible refine L2.at ?_) | wp_step))
 refine W3 F.excAttr_ValueError.ga.plain F.entry_bexc_ga (bl8 KI c hx hc (bl7 KI c hx hc ?_))
 repeat (any_goals (first | assumption | wp_step))
theorem bH3 {Q:Option Value->Shared->Prop}(KI:K.In h)(c:aO4 K C)(hx:h.get? a=some o)(hc:o.cls=.ref C)(hq:Q (some (.ref C)) ⟨h,g,d,t+1,os⟩):q8 (u7 prog w) A (getAttr? (.ref a) "__class__") Q E ⟨h,g,d,t,os⟩:=by
 unfold getAttr? getAttrBy?
 repeat (any_goals (first | assumption | with_reducible apply bU6 KI c hx hc | wp_step))
end
theorem bv8 {K:W.Frag}{x:Addr}(c:aO4 K C):KitX K (.ref x) (.ref C) (ExcAt x C) where
 ty:=fun _ _ _ p=>by
  obtain⟨o,_,h1,h2,_⟩:=p
  rw[<- h2]
  exact(Looks.ld h1).andThen .now
 it:=fun _ _ KI _=>by
  obtain⟨cd,hcd⟩:=C7.mp c.cs
  unfold clsIn at hcd
  split at hcd
  ·rename_i ho
   intro A' Q' E' s' k q
   unfold isType loadHead
   exact b8 (wpAny_loadPart (k _ _ (KI _ _ ho)) (i7 q))
  ·cases hcd
 ne:=fun h tp dd its n sl KI htp=>by
  obtain⟨cd,hcd⟩:=C7.mp c.cs
  refine Bool.eq_false_iff.mpr fun q=>?_
  have e:C=tp:=Value.ref.inj (beq_iff_eq.mp q)
  subst e
  unfold clsIn at hcd
  split at hcd
  ·rename_i ho
   have z:=(KI _ _ ho).symm.trans htp
   cases z
  ·cases hcd
 ca:=fun {_ _ _ _ _ s} KI p k=>by
  obtain⟨o,_,h1,h2,_⟩:=p
  obtain⟨hh,g,d,t,os⟩:=s
  exact bH3 KI c h1 h2 k
def ch1:V->Value->Prop
 | .ty T,u=>u=.type T
 | .ref D,u=>u=.ref D
 | _,_=>False
theorem as0 (K:W.Frag)(hK:X.K=K):S7 X (.builtin "isinstance") (fun xs H Q=>∃ x C v u b,xs=[.ref x,v]/\H x=some (XO x (.ref C))/\aO4 K C/\ch1 v u/\kitOne K (.ref C) u=some b/\Q (.bl b) H):=by
 subst hK
 intro pins s σ H xs us Q I r h
 obtain⟨x,C,v,u,b,rfl,hx,c,hv,e,q⟩:=h
 obtain⟨u1,u2,rfl,r1,r2⟩:=r.two
 cases r1
 have e2:u2=u:=by
  cases v<;>first | exact hv.elim | exact(show u2=_ from r2).trans hv.symm
 subst e2
 obtain⟨hp,_⟩:=I.hok x _ hx
 exact kia_one (bv8 c) I.kIn hp e (fun z=>nomatch z) fun tk=>⟨.bl b,H,I.tok _,rfl,q⟩
end L2
namespace L2
open PySem PySem.Spec PyProof.Rows
theorem Fun.okXC {K:W.Frag} {mg:Str->Option Value} {base:Heap} {st:Stmt} {c:Addr} {k:Nat} {sp:Sp} (F:Fun K x qual st f fd) (hc:fd.code=.ref c) (S:B6 N ps (p9 st))
  (hbody : ∀ (A : Around) (outer : List Env) (s : Shared) (H : Hp) (vs : List V) (Q : VK) (E : XK), X9 k (A.deeper (K5 qual (p9 st) s.heap.objs.size f (.ref c))) -> sp vs H Q E ->
   ∃ t,PSs (ab0 (CXE P w) P w K mg base N qual (p9 st) f (.ref c) A outer s H E) (V5 st) t/\t { nx:=fun _ H'=>Q .non H',rt:=Q } (start N vs) H) (len:∀ vs H Q E,sp vs H Q E->vs.length=ps.length:=by intro _ _ _ _ h;repeat first | (obtain⟨rfl,_⟩:=h;rfl) | obtain⟨_,h⟩:=h):A4 P w K mg base (CXE P w) (k+1) f fd ps sp:=by
 obtain⟨oc,od,kV,doc,pm,an,cdv,ct,osl,rfl,lk,hcd⟩:=F.ex
 have hc':cdv=.ref c:=hc
 subst hc'
 exact bw5 lk hcd S len fun A outer s H vs Q E hr hsp=>hbody A outer s H vs Q E hr hsp
theorem bp3 {K:W.Frag}{c P:Addr}{oc:Value}{od:Option Addr}{sl:Array (Option Value)}(ht:PySem.W.tabIn K x=some (c,P))(hn:k7 K j7 x=some (some (.ref f)))(hl:K.lookup f=some ⟨oc,od,.func fd,sl⟩):fd.code=.ref c:=by
 unfold PySem.W.tabIn at ht
 rw[hn]at ht
 dsimp only at ht
 rw[hl]at ht
 dsimp only at ht
 split at ht
 ·rename_i c₂ hc
  split at ht
  ·split at ht
   ·cases ht;exact hc
   ·cases ht
  ·cases ht
 ·cases ht
theorem bk8 {K:W.Frag}{mg mb:Str->Option Value}{CX:CXT}{k:Nat}{fa:Addr}{sp:Sp}{s₁:Shared}{ts:List (Addr × Addr)}(hT:PySem.W.TabsAt ts s₁.heap)(hK0:PySem.W.noTabs K=true)
  (hbm:∃ bm ob,mg "__builtins__"=some (.ref bm)/\bm≠aP8/\s₁.heap.get? bm=some ob/\ob.cls=.type "module"/\ob.dict=some aP8/\ob.data=.plain)
  (KX:K.In s₁.heap)(hns:s₁.heap.Ns j7 mg)(hb:s₁.heap.Ns aP8 mb)(hbb:∀ x:Str,x≠"__name__"->mb x=M6 x)(hlim:s₁.heap.NoLimit)(hg:s₁.gens=#[])
  (ha:s₁.heap.get? a=some { cls:=.type "list",data:=.seq vs.toArray })(hi:R8 vs ns)(hl:ns.length<=d7)(hr:X9 k bh5)
  (F:∀ base:Heap,K.In base->base.Ns j7 mg->(∀ q∈ts,aW9 base mg q.1 q.2)->A4 P w K mg base CX k fa fd [x] sp)(hbind:∀ (s:Shared) (u:Value),bh3 s fd ⟨[u],[]⟩ [(x,u)])
  (hsp:∀ H:Hp,(∀ q∈ts,H q.2=some (.tbl #[]))->SqL K H a (ns.map V.int)->sp [.ref a] H (fun v _=>v=.bl true) fun _ _ _=>False)
  (hCX:∀ H e s',CX [] H s₁ (fun _ _ _=>False) e s'->False) :
  al6 (u7 P w) bh5 (.call (.ref fa) ⟨[.ref a],[]⟩) (fun r s'=>r=.ok (.ret (.bool true))/\OldK s₁.heap s'.heap/\s'.os=s₁.os/\ap1 s'.gens) s₁:=by
 have rv:=ak1 hi
 have lenV:=hi.length
 have tabO:∀ b,b∈ts.map (·.2)->s₁.heap.get? b=some (PySem.W.tabObj #[]):=fun b hb=>by
  obtain⟨q,hq,rfl⟩:=E8.mp hb
  exact(hT q hq).2
 have aT:a∉ts.map (·.2):=fun z=>by
  have e:=tabO a z
  rw[ha]at e
  cases e
 have core:∀ H:Hp,(∀ b,b∈ts.map (·.2)->H b=some (.tbl #[]))->(∀ b,b∉ts.map (·.2)->H b=none\/∃ o xs,H b=some (.frz o (.lst xs)))->SqL K H a (ns.map V.int)->HOk P w H s₁.heap->(∀ b,H b≠none->b=a\/b∈ts.map (·.2))->(H a≠none->K.lookup a=none) ->
   al6 (u7 P w) bh5 (.call (.ref fa) ⟨[.ref a],[]⟩) (fun r s'=>r=.ok (.ret (.bool true))/\OldK s₁.heap s'.heap/\s'.os=s₁.os/\ap1 s'.gens) s₁:=by
  intro H hHt hO hS hok hA hK
  have base_of:∀ {b:Addr} {o:Obj},s₁.heap.get? b=some o->H b=none->(aG5 s₁.heap H).get? b=some o:=fun e n=>bw3 e n
  have free_of:∀ {b:Addr} {o:Obj},s₁.heap.get? b=some o->(∀ xs n,o≠{ cls:=.type "list",data:=.seq xs n })->o≠PySem.W.tabObj #[]->H b=none:=fun {b o} e n1 n2=>by
   cases q:H b with
   | none=>rfl
   | some u =>
    rcases hA b (by rw[q];simp) with e' | e'
    ·subst e'
     rw[ha]at e;cases e
     exact absurd rfl (n1 _ _)
    ·rw[tabO b e']at e;cases e
     exact absurd rfl n2
  have noA:∀ {b:Addr} {o:Obj} {es:Array DictEntry} {ep:Nat},s₁.heap.get? b=some o->o.data=.dict es ep->H b=none:=fun {b o es ep} e d=>free_of e (fun xs n z=>by subst z;cases d) (fun z=>by subst z;cases d)
  have nsK:∀ {b:Addr} {m:Str->Option Value},s₁.heap.Ns b m->(aG5 s₁.heap H).Ns b m:=fun {b m} ⟨o,es,ep,e,d,r⟩=>⟨o,es,ep,base_of e (noA e d),d,r⟩
  have hKb:K.In (aG5 s₁.heap H):=fun b o e=>base_of (KX b o e) (by
   cases q:H b with
   | none=>rfl
   | some u =>
    rcases hA b (by rw[q];simp) with e' | e'
    ·subst e'
     rw[hK (by rw[q];simp)]at e;cases e
    ·have e1:=KX b o e
     rw[tabO b e']at e1
     cases e1
     have h2:=G9.mp hK0 _ (PySem.W.mem_of_lookupK e)
     exact absurd (show false=true from h2) j9)
  have hM:Mod K mg (aG5 s₁.heap H):=⟨hKb,nsK hns,⟨mb,nsK hb,hbb⟩,let ⟨mc,h1,h2⟩:=hlim;⟨mc,nsK h1,h2⟩⟩
  have hLB:∀ q∈ts,aW9 (aG5 s₁.heap H) mg q.1 q.2:=fun q hq=>by
   obtain⟨C,eP⟩:=hT q hq
   refine⟨?_,?_,?_⟩
   ·obtain⟨o,vs,file,tf,flags,tg,inF,text,tt,e1,r1,r2⟩:=C
    exact⟨o,vs,file,tf,flags,tg,inF,text,tt,base_of e1 (free_of e1 (fun xs n z=>by subst z;exact absurd (show Value.type "list"=Value.type "code" from r1) (by decide)) (fun z=>by subst z;cases r1)),r1,r2⟩
   ·obtain⟨bm,ob,b1,b2,b3,b4,b5,b6⟩:=hbm
    refine⟨bm,ob,b1,b2,fun z=>?_,fun z=>?_,base_of b3 (free_of b3 (fun xs n z=>by subst z;exact absurd (show Value.type "list"=Value.type "module" from b4) (by decide)) (fun z=>by subst z;cases b4)),b4,b5,b6⟩
    ·obtain⟨o,es,ep,e,d,_⟩:=hns
     rw[z,e]at b3;cases b3;rw[d]at b6;cases b6
    ·rw[z,eP]at b3;cases b3;cases b4
   ·intro z
    obtain⟨o,es,ep,e,d,_⟩:=hns
    rw[z,eP]at e;cases e;cases d
  have e0:bz1 P w K mg (aG5 s₁.heap H) bh5 [] s₁ H:=⟨rfl,hM,fun b o e=>bF2 e,bA1 (bl3 _ _),trivial,fun b hb=>absurd (show b∈([]:List Addr) from hb) (by simp),hok,.of_eq hg⟩
  refine U8 ((F _ hKb (nsK hns) hLB).run bh5 [] s₁ H ⟨[.ref a],[]⟩ [.ref a] [.ref a] _ _ hr e0 (hbind s₁ (.ref a)) (.cons rfl .nil) (hsp H (fun q hq=>hHt _ (bJ0 hq)) hS)) fun r s' h=>?_
  cases r with
  | error e=>exact(hCX H e s' h).elim
  | ok fl =>
   cases fl with
   | next=>exact False.elim h
   | brk=>exact False.elim h
   | cont=>exact False.elim h
   | ret u =>
    obtain⟨v,H',os,bare,un,hok',r',q⟩:=h
    have q':v=.bl true:=q
    subst q'
    obtain rfl:u=Value.bool true:=r'
    have keep:∀ b o,b∉ts.map (·.2)->s₁.heap.get? b=some o->s'.heap.get? b=some o:=fun b o hb e=>by
     rcases hO b hb with z | ⟨ob,xs,z⟩
     ·exact un.keep b o e z (by intro z;exact absurd (show b∈([]:List Addr) from z) (by simp)) (by simp)
     ·have z2:=un.frzs b ob _ z
      obtain⟨e1,_⟩:=hok b _ z
      obtain⟨e2,_⟩:=hok' b _ z2
      rw[e]at e1;cases e1
      exact e2
    have grown:∀ b o,b∈ts.map (·.2)->s₁.heap.get? b=some o->isCodeTable s₁.heap b/\o=PySem.W.tabObj #[]/\∃ ps,s'.heap.get? b=some (PySem.W.tabObj ps):=fun b o hb e=>by
     obtain⟨ps,hp⟩:=un.tbls b #[] (hHt b hb)
     have e2:=tabO b hb
     rw[e]at e2
     obtain⟨q,hq,eq⟩:=E8.mp hb
     have e3:s'.heap.get? b=some (PySem.W.tabObj (#[]++ps)):=hok' b _ hp
     refine⟨?_,Option.some.inj e2,_,e3⟩
     rw[<- eq]
     exact((hT q hq).1.tab (hT q hq).2).isCodeTable
    refine⟨rfl,⟨fun b o e=>?_,fun b o e=>?_⟩,os,bare⟩
    ·by_cases hb:b∈ts.map (·.2)
     ·obtain⟨ht,rfl,ps,hP⟩:=grown b o hb e
      exact .inr (.inl ⟨ht,rfl,#[],ps,rfl,by rw[Array.empty_append];exact hP⟩)
     ·exact .inl (keep b o hb e)
    ·by_cases hb:b∈ts.map (·.2)
     ·obtain⟨_,_,ps,hP⟩:=grown b o hb e
      exact⟨_,hP⟩
     ·exact⟨o,keep b o hb e⟩
 cases hk:K.lookup a with
 | some o =>
  have e:=KX a o hk
  rw[ha]at e
  cases e
  refine core (fun b=>if b∈ts.map (·.2) then some (.tbl #[]) else none) (fun b hb=>if_pos hb) (fun b hb=>.inl (if_neg hb)) (.inr ⟨_,vs.toArray,_,hk,rfl,rfl,rfl,by rw[d9,lenV];exact hl,by simpa using rv⟩) (fun b u z=>?_) (fun b z=>?_) fun z=>absurd (if_neg aT) z
  ·by_cases hb:b∈ts.map (·.2)
   ·have z':=(if_pos hb).symm.trans z
    cases z'
    exact tabO b hb
   ·have z':=(if_neg hb).symm.trans z
    cases z'
  ·by_cases hb:b∈ts.map (·.2)
   ·exact .inr hb
   ·exact absurd (if_neg hb) z
 | none =>
  have e1:∀ b,b∈ts.map (·.2)->(if b∈ts.map (·.2) then some (HO.tbl #[]) else if b=a then some (.frz { cls:=.type "list",data:=.seq vs.toArray } (.lst (ns.map V.int))) else none)=some (HO.tbl #[]):=fun b hb=>if_pos hb
  have e2:∀ b,b∉ts.map (·.2)->(if b∈ts.map (·.2) then some (HO.tbl #[]) else if b=a then some (.frz { cls:=.type "list",data:=.seq vs.toArray } (.lst (ns.map V.int))) else none)=(if b=a then some (.frz { cls:=.type "list",data:=.seq vs.toArray } (.lst (ns.map V.int))) else none):=fun b hb=>if_neg hb
  refine core (fun b=>if b∈ts.map (·.2) then some (HO.tbl #[]) else if b=a then some (.frz { cls:=.type "list",data:=.seq vs.toArray } (.lst (ns.map V.int))) else none) e1 (fun b hb=>?_) (.inl (.inr ⟨{ cls:=.type "list",data:=.seq vs.toArray },(e2 a aT).trans (if_pos rfl)⟩)) (fun b u z=>?_) (fun b z=>?_) fun _=>hk
  ·rw[e2 b hb]
   by_cases hba:b=a
   ·exact .inr ⟨_,_,if_pos hba⟩
   ·exact .inl (if_neg hba)
  ·by_cases hb:b∈ts.map (·.2)
   ·have z':=(e1 b hb).symm.trans z
    cases z'
    exact tabO b hb
   ·have z1:=(e2 b hb).symm.trans z
    by_cases hba:b=a
    ·have z':=(if_pos hba).symm.trans z1
     cases z'
     subst hba
     exact⟨ha,by rw[b9];exact hl,vs,_,rv,ha⟩
    ·have z':=(if_neg hba).symm.trans z1
     cases z'
  ·by_cases hb:b∈ts.map (·.2)
   ·exact .inr hb
   ·by_cases hba:b=a
    ·exact .inl hba
    ·exact absurd ((e2 b hb).trans (if_neg hba)) z
theorem walk_ofT {l:PySem.W.OpenLaw} {k:Nat} {q:Program} {loose:List Str} {d:DefRec} {K:Params->PySem.W.Frag} {CX:World->CXT} {sp:World->List (Addr × Addr)->Sp} {ts:World->List (Addr × Addr)}
  (hn:l.most=some n) (hn2:n<=d7) (hdf:d.params.defaults=[]) (hr:X9 k bh5)
  (hY:∀ (w:World) (h:Heap),YP w h->(K w.params).In h) (hK0:∀ w:World,PySem.W.noTabs (K w.params)=true)
  (hts:∀ (w:World) (loose:List Str) (mean:ExcName->Option Value) (mg mb:Str->Option Value) (h:Heap),Top q loose mean mg mb h->(K w.params).In h->PySem.W.TabsAt (ts w) h)
  (F : ∀ (w : World) (mg : Str -> Option Value) (fa : Addr) (h : Heap), (K w.params).In h -> h.Ns j7 mg -> mg d.name = some (.ref fa) ->
   ∃ fd:FuncData,(∀ (s:Shared) (u:Value),bh3 s fd ⟨[u],[]⟩ [(x,u)]) /\
    ∀ base:Heap,(K w.params).In base->base.Ns j7 mg->(∀ q∈ts w,aW9 base mg q.1 q.2)->A4 l.prog w (K w.params) mg base (CX w) k fa fd [x] (sp w (ts w)))
  (hsp:∀ (w:World) (H:Hp) (a:Addr) (ns:List Int),ns.length<=n->(∀ q∈ts w,H q.2=some (.tbl #[]))->SqL (K w.params) H a (ns.map V.int)->sp w (ts w) [.ref a] H (fun v _=>v=.bl true) fun _ _ _=>False)
  (hCX:∀ (w:World) (H:Hp) (s:Shared) (e:Value) (s':Shared),CX w [] H s (fun _ _ _=>False) e s'->False) :
  PySem.W.WalkO q loose XP YP l.row.toRowW d [] (fun f vs=>PySem.call f vs):=by
 refine Att.attach_call hn hdf fun w s₀ s₁ mg mb fa o pm cd doc a vs ns G Y ho hd hcd hmg hobj hints hlen hg=>?_
 have KX:=hY w _ Y
 obtain⟨fd,hb,hF⟩:=F w mg fa _ KX G.T.g hmg
 exact bk8 (hts w _ _ _ _ _ G.T KX) (hK0 w) G.T.bmain KX G.T.g G.T.b G.T.builtins G.T.nolimit hg hobj hints (C4 hlen hn2) hr hF hb (fun H hO hS=>hsp w H a ns hlen hO hS) fun H e s'=>hCX w H s₁ e s'
theorem bx8 {l:Addr}{x:Int}{t:Tok}(e:s.heap.get? l=some { cls:=.type "list",data:=.seq items n })(hsz:items.size<=d7)(h0:-(2 ^ 63)<=x)(h1:x<2 ^ 63)
  (h:Q .none { s with heap:=s.heap.update l (Obj.mapSeq fun xs=>have k:=if x<0 then (x+(xs.size:Int)).toNat else min x.toNat xs.size;(xs.extract 0 k).push u++xs.extract k),toks:=s.toks }) :
  q8 (u7 prog w) A (call (.builtin "list.insert") [.ref l,.int x t,u]) Q E s :=
 am8 F.slot_list_insert ⟨_,e,rfl⟩ F.entry_list_insert (F.args_list_insert_3 _ _ _) (PySem.AutoSeq1.list_insert_list_int_val_1 l items n x t u (by rw[show Builtin.List.listFitsIndex x=true from bo5 h0 h1];decide) hsz) ⟨e,h⟩
def bD3:V->List V->Hp->VK->Prop:=fun x vs H Q=>∃ l xs y,∃ i:Nat,x=.ref l/\vs=[.int i,y]/\H l=some (.lst xs)/\i<=xs.length/\xs.length<1000/\Q .non (upd H l (.lst (xs.take i++[y]++xs.drop i)))
theorem aH9:MtM X "list.insert" bD3:=by
 intro pins s σ H x vs v us Q I rx rv h
 obtain⟨l,xs,y,i,rfl,rfl,hH,hi,hz0,q⟩:=h
 cases rx
 cases rv with
 | cons r1 rr =>
  cases rr with
  | cons ru rr =>
   cases rr
   obtain⟨t,rfl⟩:=r1
   rename_i u
   obtain⟨z,its,n,r,hl,e⟩:=I.lstM hH
   have hsl:1000<d7:=by decide
   have hsz:its.toArray.size<=d7:=by rw[d9];omega
   refine bx8 (x:=(i:Int)) e hsz (W9 (show (-(2 ^ 63):Int)<=0 by decide) (ah3 i)) (Int.lt_trans (show (i:Int)<1000 by omega) (by decide)) ?_
   refine⟨.non,_,I.lset (its':=its.take i++[u]++its.drop i) hH e ?_ ((r.take i).append (.cons ru .nil) |>.append (r.drop i)) ?_,rfl,q⟩
   ·have hk:(if (i:Int)<0 then ((i:Int)+(its.toArray.size:Int)).toNat else min (i:Int).toNat its.toArray.size)=i:=by
     rw[if_neg (by omega),d9,u6]
     omega
    show ((its.toArray.extract 0 (if (i:Int)<0 then ((i:Int)+(its.toArray.size:Int)).toNat else min (i:Int).toNat its.toArray.size)).push u++its.toArray.extract (if (i:Int)<0 then ((i:Int)+(its.toArray.size:Int)).toNat else min (i:Int).toNat its.toArray.size))=_
    rw[hk]
    apply Array.toList_inj.mp
    simp
    exact o6 (by rw[C0];omega)
   ·rw[m5,m5,u5,C0,O7]
    omega
def bR2 (ns:List Int)(z:Int):List Int:=[-(ns.getD z.toNat 0),z]
def ole (ns:List Int)(x y:Int):Prop:=Tim.O4 (bR2 ns y) (bR2 ns x)=false
theorem aM8 {x y:Int}:ole ns x y↔(ns.getD y.toNat 0<ns.getD x.toNat 0\/(ns.getD x.toNat 0=ns.getD y.toNat 0/\x<=y)):=by
 unfold ole bR2 Tim.O4
 by_cases h:-(ns.getD y.toNat 0) = -(ns.getD x.toNat 0)
 ·rw[if_pos h]
  unfold Tim.O4
  by_cases h2:y=x
  ·rw[if_pos h2]
   simp only[Tim.O4,true_iff]
   exact .inr ⟨by omega,by omega⟩
  ·rw[if_neg h2,decide_eq_false_iff_not]
   constructor
   ·intro h3;exact .inr ⟨by omega,by omega⟩
   ·intro h3 h4;omega
 ·rw[if_neg h,decide_eq_false_iff_not]
  constructor
  ·intro h3;exact .inl (by omega)
  ·intro h3 h4;omega
end L2
namespace HT
open PySem PyProof.Rows
end HT
namespace L2
open PySem PySem.Spec PyProof.Rows
section
variable {st:Expr} {ts:TE} {p2:Pos}
def cf2 (t u:TS):TS:=fun D σ H=>∃ Mid:St->Hp->Prop,t { D with nx:=Mid } σ H/\∀ σ' H',Mid σ' H'->u D σ' H'
theorem O1 {stm:Stmt}{rest:List Stmt}{t u:TS}(h1:PS X stm t)(h2:PSs X rest u):PSs X (stm::rest) (cf2 t u):=by
 intro pins s σ H D I ⟨Mid,h,k⟩
 refine aX8 (thn (h1 pins s σ H { D with nx:=Mid } I h) fun f s1 q=>?_)
 cases f with
 | next =>
  obtain⟨σ',H',I',q⟩:=q
  exact h2 pins s1 σ' H' D I' (k _ _ q)
 | ret v=>exact q
 | brk=>exact q
 | cont=>exact q
end
section
variable {σ:St}
theorem bd5 (I:Inv X pins σ H s){p:Addr}(hq:SqL X.K H p (ns.map V.int)\/SqT X.K H p (ns.map V.int)):∃ (vs:List Value) (T:String) (o:Obj) (c:Nat),(T="list"\/T="tuple")/\s.heap.get? p=some o/\o.cls=.type T/\o.data=.seq vs.toArray c/\R8 vs ns:=by
 rcases hq with hq | hq
 ·obtain⟨its,r',pl,hz⟩:=I.list hq
  obtain⟨o,ho,hc,n,hd⟩:=pl.isList
  exact⟨its,"list",o,n,.inl rfl,ho,hc,hd,intsAre_of r'⟩
 ·obtain⟨its,r',pl,hz⟩:=I.tuple hq
  obtain⟨o,ho,hc,n,hd⟩:=pl
  exact⟨its,"tuple",o,n,.inr rfl,ho,hc,hd,intsAre_of r'⟩
theorem aA6 (I:Inv X pins σ H s){h1:Heap}{out:Array Value}(kp:∀ b o',s.heap.get? b=some o'->h1.get? b=some o')(hi:R8 out.toList zs)(hz:zs.length<=1000) :
  H h1.objs.size=none/\Inv X pins σ (upd H h1.objs.size (.lst (zs.map V.int))) { s with heap:=am9 (h1.push (W1 "list" vs.toArray 0)) h1.objs.size vs out }:=by
 have I1:Inv X pins σ H { s with heap:=h1,toks:=s.toks }:=I.kept kp
 refine⟨I1.hok.fresh (d6 _),?_⟩
 have hoL:(h1.push (W1 "list" vs.toArray 0)).get? h1.objs.size=some (W1 "list" vs.toArray 0):=m9 _ rfl
 obtain⟨e,he⟩:=sortedHeap_at (out:=out) hoL
 refine I1.laid (t':=s.toks) (fun b o q=>?_) (d6 _) ⟨by rw[b9,N1];omega,out.toList,e,ak1 hi,by rw[bz4];exact he⟩
 have hb:b<h1.objs.size:=d5 q
 rw[sortedHeap_old (l7 hb) (by rw[size_push'];exact E4 hb)]
 exact c8 _ q
theorem aA5 {p:Addr}{b:Bool}(I:Inv X pins σ H s)(hq:SqL X.K H p (ns.map V.int)\/SqT X.K H p (ns.map V.int))(h64:ns.length<64)
  (h:∀ (s':Shared) (D:Addr) (zs:List Int),H D=none->zs.Perm ns->Ordered b zs->Inv X pins σ (upd H D (.lst (zs.map V.int))) s'->Q (.ref D) s') :
  q8 (u7 X.prog X.w) A (call (.builtin "sorted") [.ref p] [(Str.ofString "reverse",.bool b)]) Q E s:=by
 obtain⟨vs,T,o,c,hT,ho,hc,hd,hI⟩:=bd5 I hq
 have hlen:=hI.length
 refine call_function_entry_kw bX8 bM4 bM5 (args_sorted_rev _ _) ?_
 unfold Builtin.«sorted»
 refine b8 (m:=checkCount "sorted" 1 1 _) (i7 ?_)
 refine b8 (wpAny_collect_seq p hT ho hc hd (fun h1 kp=>?_) (by rw[d9,N1];omega))
 rw[bJ1]
 refine b8 (V0 ?_ (by rw[N1];omega))
 have hoL:(h1.push (W1 "list" vs.toArray 0)).get? h1.objs.size=some (W1 "list" vs.toArray 0):=m9 _ rfl
 refine b8 (E9 (wpAny_call_entry_kw bo6 (s:={ s with heap:=h1.push (W1 "list" vs.toArray 0) }) ⟨_,hoL,rfl⟩ bh8 (list_sort_tree_rev (s:={ s with heap:=h1.push (W1 "list" vs.toArray 0) }) hoL hI (by omega) fun out ns' a1 a2 a3=>⟨_,rfl,?_⟩) (args_list_sort_rev _ _)))
 obtain⟨e1,e2⟩:=aA6 (vs:=vs) I kp a1 (by rw[a2.length_eq];omega)
 exact i7 ⟨_,rfl,h _ _ ns' e1 a2 a3 e2⟩
theorem aY8 {p:Addr}(I:Inv X pins σ H s)(hq:SqL X.K H p (ns.map V.int)\/SqT X.K H p (ns.map V.int))(h64:ns.length<64)
  (h:∀ (s':Shared) (D:Addr) (zs:List Int),H D=none->zs.Perm ns->zs.Pairwise (·<=·)->Inv X pins σ (upd H D (.lst (zs.map V.int))) s'->Q (.ref D) s') :
  q8 (u7 X.prog X.w) A (call (.builtin "sorted") [.ref p]) Q E s:=by
 obtain⟨vs,T,o,c,hT,ho,hc,hd,hI⟩:=bd5 I hq
 have hlen:=hI.length
 refine Calls.call_function_entry bX8 bM4 bM5 (args_sorted1 _) ?_
 unfold Builtin.«sorted»
 refine b8 (m:=checkCount "sorted" 1 1 _) (i7 ?_)
 refine b8 (wpAny_collect_seq p hT ho hc hd (fun h1 kp=>?_) (by rw[d9,N1];omega))
 rw[bJ1]
 refine b8 (V0 ?_ (by rw[N1];omega))
 have hoL:(h1.push (W1 "list" vs.toArray 0)).get? h1.objs.size=some (W1 "list" vs.toArray 0):=m9 _ rfl
 refine b8 (E9 (S4 bo6 (s:={ s with heap:=h1.push (W1 "list" vs.toArray 0) }) ⟨_,hoL,rfl⟩ bh8 (list_sort_tree (s:={ s with heap:=h1.push (W1 "list" vs.toArray 0) }) hoL hI (by omega) fun out ns' a1 a2 a3=>⟨_,rfl,?_⟩) (args_list_sort _)))
 obtain⟨e1,e2⟩:=aA6 (vs:=vs) I kp a1 (by rw[a2.length_eq];omega)
 exact i7 ⟨_,rfl,h _ _ ns' e1 a2 a3 e2⟩
end
theorem bb1:S7 X (.builtin "sorted") (fun xs H Q=>∃ (p:Addr) (ns:List Int),xs=[.ref p]/\(SqL X.K H p (ns.map V.int)\/SqT X.K H p (ns.map V.int))/\ns.length<64 /\
  ∀ (l:Addr) (zs:List Int),H l=none->zs.Perm ns->zs.Pairwise (·<=·)->Q (.ref l) (upd H l (.lst (zs.map V.int)))):=by
 intro pins s σ H xs us Q I r h
 obtain⟨p,ns,rfl,hq,h64,q⟩:=h
 obtain⟨u,rfl,rx⟩:=vals1 r
 cases rx
 exact aY8 I hq h64 fun s' D zs a1 a2 a3 I'=>⟨.ref D,_,I',rfl,q D zs a1 a2 a3⟩
def bO2 (K:W.Frag)(tr:TA):TE:=fun σ H Q=>tr σ H fun vs H1=>∃ (p:Addr) (ns:List Int),vs=[.ref p]/\(SqL K H1 p (ns.map V.int)\/SqT K H1 p (ns.map V.int))/\ns.length<64 /\
 ∀ (l:Addr) (zs:List Int),H1 l=none->zs.Perm ns->zs.Pairwise (·≥·)->Q (.ref l) (upd H1 l (.lst (zs.map V.int)))
theorem bt1 {np bpos kpos:Pos}{tr:TA}(K:W.Frag)(hK:X.K=K)(hg:Gl X "sorted")(hm:X.mg "sorted"=none)(ha:PA X [e] tr)
  (hs:O9 pos (u4 [e] X.env)=(false,eval e X.env)::O9 pos (u4 [] X.env):=by rfl)
  (hpl:(O9 pos (u4 [e] X.env)).any (·.1)=false:=by rfl) :
  PE X (.Call (.Name "sorted" np) [e] [⟨some "reverse",.Constant (.bool true) j bpos,kpos⟩] pos) (bO2 K tr):=by
 subst hK
 intro pins s σ H Q I h
 refine K4 (Y4 I hg hm (show M6 "sorted"=some (.builtin "sorted") from rfl) ?_ (by decide) (by decide))
 refine callWith_kw (thn (ha pos pins s σ H _ I h) fun us s1 ⟨vs,H1,I1,r1,q1⟩=>?_) hs hpl rfl rfl
 obtain⟨p,ns,rfl,hq,h64,q⟩:=q1
 have hk:PK X [⟨some "reverse",.Constant (.bool true) j bpos,kpos⟩] (aH2 (tC (.bl true)) bi8):=aM1 Y6 aZ5
 refine thn (hk pos pins s1 σ H1 (fun zs H2=>zs=[.bl true]/\H2=H1) I1 ⟨rfl,rfl⟩) fun ws s2 ⟨zs,H2,I2,r2,ez,eH⟩=>?_
 subst ez eH
 obtain⟨w,rfl,rw⟩:=vals1 r2
 obtain⟨u,rfl,ru⟩:=vals1 r1
 cases rw
 cases ru
 exact aA5 (b:=true) I2 hq h64 fun s' D zs a1 a2 a3 I'=>⟨.ref D,_,I',rfl,q D zs a1 a2 a3⟩
end L2
namespace Web
def mn (r x:Int):Int:=if r<x then r else x
theorem aK6:∀ a b:List Int,(a++b).sum=a.sum+b.sum
 | [],b=>by simp
 | x::a,b=>by rw[bW7,O8,O8,aK6 a b,Int.add_assoc]
theorem ap8:∀ a:List Int,a.reverse.sum=a.sum
 | []=>rfl
 | x::a=>by rw[aG9,aK6,ap8 a,O8,O8,List.sum_nil];omega
def up2 (ns:List Int):List Int:=PySem.W.sortI ns
theorem ap6 (ns:List Int):(up2 ns).length=ns.length:=(PySem.W.sortI_perm ns).length_eq
theorem bD2 (hp:zs.Perm ns)(hs:zs.Pairwise (·<=·)):zs=up2 ns:=PySem.W.eq_sortI hp hs
theorem bf4 (hp:zs.Perm ns)(hs:zs.Pairwise (·≥·)):zs=(up2 ns).reverse:=by
 have h:zs.reverse=up2 ns:=PySem.W.eq_sortI ((aa0 zs).trans hp) (by rw[ab2];exact hs)
 rw[<- h,List.reverse_reverse]
def part (m:Nat)(r:Int)(g:List Int):Int:=((g.take m).map (mn r)).sum - (g.drop m).sum
def bs0 (ns:List Int)(r:Nat):Int:=(r:Int)*((r:Int) - 1)+part (ns.length - r) r (up2 ns)
theorem aZ2 {r:Nat}(e:zs=(up2 ns).reverse):(r:Int)*((r:Int) - 1)+((zs.drop r).map (mn r)).sum - (zs.take r).sum=bs0 ns r:=by
 unfold bs0 part
 rw[e,bW0,bW1,aP3,ap8,ap8,ap6]
 omega
end Web
namespace Web
inductive Wl where
 | below (p:Nat) | odd | wall (r:Nat) | free
 deriving DecidableEq
def AllP (ns:List Int):Prop:=∀ (j:Nat) (x:Int),ns[j]?=some x->0<=x
end Web
namespace Web
def Y5 (ns:List Int)(M r:Nat):Int:=(M:Int)*(r:Int)*((r:Int) - 1)+part (ns.length - r) ((M:Int)*(r:Int)) (up2 ns)
theorem ai3 {M r:Nat}(e:zs=(up2 ns).reverse):(M:Int)*(r:Int)*((r:Int) - 1)+((zs.drop r).map (mn ((M:Int)*(r:Int)))).sum - (zs.take r).sum=Y5 ns M r:=by
 unfold Y5 part
 rw[e,bW0,bW1,aP3,ap8,ap8,ap6]
 omega
end Web
namespace Web
def au8 (ns:List Int)(i:Nat):List Nat:=(C5 i).filter fun j=>decide (ns.getD j 0<0)
def bn3 (ns:List Int):List Int:=(au8 ns ns.length).map Int.ofNat
theorem bn2 (ns:List Int)(i:Nat):au8 ns (i+1)=au8 ns i++(if ns.getD i 0<0 then [i] else []):=by
 unfold au8
 rw[T4,bL8]
 congr 1
 by_cases h:ns.getD i 0<0
 ·rw[if_pos h,List.filter_cons_of_pos (by simpa using h),List.filter_nil]
 ·rw[if_neg h,List.filter_cons_of_neg (by simpa using h),List.filter_nil]
theorem by0 (ns:List Int)(i:Nat):(au8 ns i).length<=i:=by
 unfold au8
 exact C4 (bz5 ..) (by rw[B0];exact d6 _)
theorem as1 {x:Int}(h:ns[j]?=some x):ns.getD j 0=x:=by rw[j8,h];rfl
theorem bH9 (h:au8 ns ns.length=[]):∀ (j:Nat) (x:Int),ns[j]?=some x->0<=x:=fun j x e=>by
 have hj:j<ns.length:=by
  rcases F8 j ns.length with l | l
  ·exact l
  ·rw[C3 l]at e;cases e
 have:=List.filter_eq_nil_iff.mp h j (D6.mpr hj)
 rw[as1 e]at this
 have h2:¬ x<0:=fun q=>this (decide_eq_true q)
 omega
theorem bx9 {p:Nat}{t:List Nat}(h:au8 ns ns.length=p::t):(∃ x,ns[p]?=some x/\x<0)/\∀ (j:Nat) (x:Int),j<p->ns[j]?=some x->0<=x:=by
 have hm:p∈au8 ns ns.length:=by rw[h];exact m7
 have hp:=Q2.mp hm
 have hl:=D6.mp hp.1
 have h0:=of_decide_eq_true hp.2
 refine⟨⟨_,i6 hl,by rw[as1 (i6 hl)]at h0;exact h0⟩,fun j x hj e=>?_⟩
 rcases Int.lt_or_le x 0 with q | q
 ·have hjm:j∈au8 ns ns.length:=Q2.mpr ⟨D6.mpr (by omega),by rw[as1 e];exact decide_eq_true q⟩
  have hs:(au8 ns ns.length).Pairwise (·<·):=List.Pairwise.filter _ bo2
  rw[h]at hs hjm
  rcases j6.mp hjm with r | r
  ·omega
  ·have:=(Y1.mp hs).1 j r
   omega
 ·exact q
theorem bI0 (ns:List Int)(z:Int):z∈bn3 ns↔0<=z/\z<ns.length/\ns.getD z.toNat 0<0:=by
 unfold bn3
 constructor
 ·intro h
  obtain⟨j,hj,rfl⟩:=E8.mp h
  have hp:=Q2.mp hj
  have hl:=D6.mp hp.1
  have h0:=of_decide_eq_true hp.2
  exact⟨ah3 j,by show (j:Int)<_;omega,h0⟩
 ·rintro⟨h1,h2,h3⟩
  refine E8.mpr ⟨z.toNat,Q2.mpr ⟨D6.mpr (by omega),decide_eq_true h3⟩,?_⟩
  show ((z.toNat:Nat):Int)=z
  omega
def aJ5 (ns:List Int)(M:Nat):Wl->Prop
 | .below p=>(∃ x,ns[p]?=some x/\x<0)/\∀ (j:Nat) (x:Int),j<p->ns[j]?=some x->0<=x
 | .odd=>AllP ns/\ns.sum % 2=1
 | .wall r=>AllP ns/\¬ ns.sum % 2=1/\1<=r/\r<=ns.length/\Y5 ns M r<0/\∀ k,1<=k->k<r->0<=Y5 ns M k
 | .free=>AllP ns/\¬ ns.sum % 2=1/\∀ k,1<=k->k<=ns.length->0<=Y5 ns M k
end Web
namespace L2
open PySem PySem.Spec PyProof.Rows
theorem aw9 {ip tp:Addr}{ys:Array Value}{x:Value}(hi:s.heap.IsTupleIter ip tp i)(ht:s.heap.IsTuple tp ys)(hx:ys[i]?=some x)
  (q:∀ h',h'.IsTupleIter ip tp (i+1)->Heap.SameBut ip s.heap h'->Q x { s with heap:=h' }):q8 (u7 prog w) A (Builtin.SmallTypes.nextOf (.ref ip)) Q E s:=by
 obtain⟨u,hu,cu,du⟩:=id hi
 obtain⟨v,hv,_,nv,dv⟩:=ht
 unfold Builtin.SmallTypes.nextOf
 refine b8 (R9 (name:=Str.ofString "__next__") hi.typeIs F.slot_tuple_iterator_next (S4 F.slot_tuple_iterator_next hi.typeIs F.entry_tuple_iterator_next ?_ (F.args_tuple_iterator_next_1 _)))
 show q8 _ _ (field (.ref ip) 0 >>= _) _ _ s;refine b8 (F9 hu du (x:=.ref tp) rfl ?_)
 show q8 _ _ (if (Value.ref tp == Value.none)=true then _ else _) _ _ s;rw[if_neg (show ¬ ((Value.ref tp == Value.none)=true) from j9)]
 show q8 _ _ (field (.ref ip) 1 >>= _) _ _ s;refine b8 (F9 hu du (x:=.int i 0) rfl ?_)
 show q8 _ _ (bi2 (.ref tp) >>= _) _ _ s;refine b8 (K2 hv dv ?_)
 simp only[u6,hx]
 refine b8 (aF5 hu du (by simp) (i7 ⟨x,rfl,i7 (q _ ?_ (Heap.SameBut.update ..))⟩))
 exact⟨_,O6 _ hu (Obj.isFreed_of_fields (Obj.data_mapFields du _)),(Obj.cls_mapFields ..).trans cu,by rw[Obj.data_mapFields du];simp[Y2]⟩
theorem aC6 {ip tp:Addr}{ys:Array Value}(hh:A.handled=none)(hi:s.heap.IsTupleIter ip tp i)(ht:s.heap.IsTuple tp ys)(hx:ys[i]?=none)
  (q:∀ h' e,Heap.ExtBut ip s.heap h'->(∃ o,h'.get? e=some o/\o.cls=.type "StopIteration")->E (.ref e) { s with heap:=h' }):q8 (u7 prog w) A (Builtin.SmallTypes.nextOf (.ref ip)) Q E s:=by
 obtain⟨u,hu,cu,du⟩:=id hi
 obtain⟨v,hv,_,nv,dv⟩:=ht
 unfold Builtin.SmallTypes.nextOf
 refine b8 (R9 (name:=Str.ofString "__next__") hi.typeIs F.slot_tuple_iterator_next (S4 F.slot_tuple_iterator_next hi.typeIs F.entry_tuple_iterator_next ?_ (F.args_tuple_iterator_next_1 _)))
 show q8 _ _ (field (.ref ip) 0 >>= _) _ _ s;refine b8 (F9 hu du (x:=.ref tp) rfl ?_)
 show q8 _ _ (if (Value.ref tp == Value.none)=true then _ else _) _ _ s;rw[if_neg (show ¬ ((Value.ref tp == Value.none)=true) from j9)]
 show q8 _ _ (field (.ref ip) 1 >>= _) _ _ s;refine b8 (F9 hu du (x:=.int i 0) rfl ?_)
 show q8 _ _ (bi2 (.ref tp) >>= _) _ _ s;refine b8 (K2 hv dv ?_)
 simp only[u6,hx]
 refine b8 (ay1 (b8 (aF5 hu du (by simp) ?_)))
 show q8 _ _ (newExc (.type "StopIteration") [] >>= _) _ _ _;refine b8 ?_;simp only[newExc,newTuple]
 refine b8 (U9 ?_ (by size_fits));refine b8 (m:=firstArgMember _ _) (aF9 (a:=Value.none) (by first | rfl | (simp only[firstArgMember];rfl)) ?_)
 refine U9 ?_ (by size_fits);simp only[raiseNew]
 refine b8 (wpAny_handled ?_);first | rw[show A.in1.handled=none from hh] | rw[hh]
 refine b8 (i7 (wpAny_throw ?_));exact q _ _ (((Heap.SameBut.update ..).extBut.push _).push _) ⟨_,m9 _ rfl,rfl⟩
theorem aI7 (hh:A.handled=none)(ip tp:Addr)(hne:tp≠ip)(ys:Array Value):Draws prog w A ip [ip,tp] ys.size (fun i v=>ys[i]?=some v) (fun i h=>h.IsTupleIter ip tp i/\h.IsTuple tp ys) where
 live:=fun _ _ z=>let ⟨o,ho,_⟩:=z.1;⟨o,ho⟩
 frame:=fun _ _ _ z k=>⟨z.1.at fun o e=>k ip (by simp) o e,z.2.at fun o e=>k tp (by simp) o e⟩
 item:=fun i s Q E hi z q=>aw9 z.1 z.2 (x:=ys[i]) (by simp[hi]) fun h' a b=>q _ h' s.toks (by simp[hi]) ⟨a,z.2.extBut b.extBut hne⟩ b
 done:=fun s Q E z q=>aC6 hh z.1 z.2 (by simp) q
open AutoSeq1 (wpAny_loadPart') in
set_option maxRecDepth 100000 in
theorem aC9 (tp:Addr)(ys:Array Value)(n:Nat)(dd:Option Addr)(ss:Array (Option Value)) :
  Meets (Builtin.«enumerate.__new__» ⟨[.type "enumerate",.ref tp],[]⟩) (fun _ R s=>s.heap.get? tp=some { cls:=.type "tuple",dict:=dd,data:=.seq ys n,slots:=ss } /\
   R (.ok (.ret (.ref (s.heap.push { cls:=.type "tuple_iterator",data:=.fields #[.ref tp,.int 0 0] }).objs.size)))
    { s with heap:=(s.heap.push { cls:=.type "tuple_iterator",data:=.fields #[.ref tp,.int 0 0] }).push { cls:=.type "enumerate",data:=.fields #[.none,.bool false,.ref s.heap.objs.size,Y2 0,.none,.none] } }) :=
 .of_wp fun prog w A R s h=>by
  obtain⟨hp,g,d,tk,os⟩:=s;obtain⟨hl,h⟩:=h
  have hsub:=sub_enumerate
  have hT:Heap.IsTuple (Shared.heap ⟨hp,g,d,tk,os⟩) tp ys:=⟨_,hl,rfl,n,rfl⟩
  wp_walk using wpAny_loadPart' hl
  refine wpAny_stack_any fun st=>i7 ?_
  split
  ·rename_i c _ _ _ _ _
   cases (c == Value.type "enumerate")
   ·wp_walk using wpAny_loadPart' hl,aj7 hT;exact⟨_,rfl,h⟩
   ·wp_walk using wpAny_loadPart' hl,aj7 hT;exact⟨_,rfl,h⟩
  ·wp_walk using wpAny_loadPart' hl,aj7 hT;exact⟨_,rfl,h⟩
theorem aG7 {tp:Addr}{ys:Array Value}(hT:s.heap.IsTuple tp ys)
  (q:∀ h',bN0 h' (s.heap.objs.size+1) s.heap.objs.size 0 .none->h'.IsTupleIter s.heap.objs.size tp 0->h'.objs.size=s.heap.objs.size+2->(∀ b o,s.heap.get? b=some o->h'.get? b=some o)->Q (.ref (s.heap.objs.size+1)) { s with heap:=h' }) :
  q8 (u7 prog w) A (call (.type "enumerate") [.ref tp]) Q E s:=by
 obtain⟨⟨c,dd,dt,ss⟩,hl,hc,n,hd⟩:=hT
 replace hc:c=.type "tuple":=hc
 replace hd:dt=.seq ys n:=hd
 subst hc hd
 refine callType_new F.called_enumerate (by decide) (F.typeCall_enumerate_1 _) (F.newCall_enumerate_1 _) (fun obj=>F.args_object_init_2 obj _) F.entry_enumerate_new (aC9 tp ys n dd ss) ⟨hl,?_⟩
 have hz:(s.heap.push { cls:=.type "tuple_iterator",data:=.fields #[.ref tp,.int 0 0] }).objs.size=s.heap.objs.size+1:=G6 ..
 show _/\_
 rw[hz]
 have he:bN0 ((s.heap.push { cls:=.type "tuple_iterator",data:=.fields #[.ref tp,.int 0 0] }).push { cls:=.type "enumerate",data:=.fields #[.none,.bool false,.ref s.heap.objs.size,Y2 0,.none,.none] }) (s.heap.objs.size+1) s.heap.objs.size 0 .none:=by
  have:=m9 (s.heap.push { cls:=.type "tuple_iterator",data:=.fields #[.ref tp,.int 0 0] }) (o:={ cls:=.type "enumerate",data:=.fields #[.none,.bool false,.ref s.heap.objs.size,Y2 0,.none,.none] }) rfl
  rw[hz]at this;exact this
 exact⟨⟨_,he,rfl⟩,q _ he ⟨_,c8 _ (m9 _ rfl),rfl,rfl⟩ (by rw[G6,hz]) fun b o x=>c8 _ (c8 _ x)⟩
def Itm (K:W.Frag)(a:Addr):It:=
 ⟨fun i H=>∃ xs x,SqT K H a xs/\xs[i]?=some x,fun i H x H'=>∃ t v,H t=none/\x=.ref t/\(∀ xs,SqT K H a xs->xs[i]?=some v)/\H'=upd H t (.tup [.int i,v]),fun i H=>∃ xs,SqT K H a xs/\xs.length=i⟩
def bU0 (K:W.Frag)(ta:TA):TI:=fun σ H R=>ta σ H fun vs H1=>∃ a,vs=[.ref a]/\(∃ xs,SqT K H1 a xs)/\R (Itm K a) H1
theorem aY3 {K:W.Frag}{x1:Nat}(a ip e:Addr)(hne:e≠ip):Turn P w K (.Tuple elts x1 pos) (Itm K a) [e,ip] e (fun i h=>(∃ old,bN0 h e ip (i:Int) old)/\h.IsTupleIter ip a i) where
 mem:=by simp
 obj:=fun i h st b hb=>by
  obtain⟨⟨old,he⟩,o,ho,hc,hd⟩:=st
  rcases j6.mp hb with rfl | hb
  ·exact⟨_,he,fun v z=>by cases z⟩
  ·obtain rfl:b=ip:=by simpa using hb
   exact⟨o,ho,fun v z=>by rw[hd]at z;cases z⟩
 keep:=fun i h h' st k=>⟨let ⟨old,he⟩:=st.1;⟨old,k e (by simp) _ he⟩,st.2.at fun o q=>k ip (by simp) o q⟩
 item:=by
  intro X hP hw hK hc i pins s σ H E I hf st hg
  subst hP hw hK
  obtain⟨xs,x,hq,hx⟩:=hg
  obtain⟨⟨old,he⟩,hit⟩:=st
  obtain⟨its,rv,p,hz⟩:=I.tuple hq
  obtain⟨u,hu,ru⟩:=rv.get hx
  obtain⟨f0,f1,f2,f3,f4,f5⟩:=hf e (by simp)
  obtain⟨g0,g1,g2,g3,g4,g5⟩:=hf ip (by simp)
  have pT:s.heap.IsTuple a its.toArray:=p
  have nai:a≠ip:=fun z=>by
   obtain⟨o1,h1,c1,_⟩:=id pT
   obtain⟨o2,h2,c2,_⟩:=id hit
   rw[z,h2]at h1;cases h1;rw[c2]at c1;injection c1 with c1;exact absurd c1 (by decide)
  have nae:a≠e:=fun z=>by
   obtain⟨o1,h1,c1,_⟩:=id pT
   rw[z,show s.heap.get? e=_ from he]at h1;cases h1;injection c1 with c1;exact absurd c1 (by decide)
  have ui:its.toArray[i]?=some u:=by simpa using hu
  have hlt':i<its.toArray.size:=by
   rcases F8 i its.toArray.size with h | h
   ·exact h
   ·rw[am5 h]at ui;cases ui
  refine bA8 (aI7 (A:=X.A.in1) (I.ok.hd hc) ip a nai its.toArray) he ⟨hit,pT⟩ hlt' hne (by simp[hne,Ne.symm nae]) fun v h1 tk hv heo st1 ht1 hz1 hk1=>?_
  have ev:v=u:=by have:=hv.symm.trans ui;cases this;rfl
  subst ev
  have hit1:=st1.1
  refine⟨_,rfl,?_⟩
  refine ah8 heo fun h2 he2 hs2=>?_
  have hlt:e<s.heap.objs.size:=d5 he
  have hs2':Heap.SameBut e h1 h2:=hs2
  have ht2:h2.get? s.heap.objs.size=some { cls:=.type "tuple",data:=.seq #[.int i tk,v] }:=(hs2'.2 _ (L9 hlt)).trans ht1
  have kp:∀ b o,b≠e->b≠ip->s.heap.get? b=some o->h2.get? b=some o:=fun b o h1' h2' q=>(hs2'.2 b h1').trans (hk1 b o h1' h2' q)
  have hT:H s.heap.objs.size=none:=I.hok.fresh (d6 _)
  have nH:∀ b,H b≠none->b≠e/\b≠ip:=fun b hb=>⟨fun z=>hb (z ▸ f0),fun z=>hb (z ▸ g0)⟩
  have keepH:∀ b o,H b=some o->upd H s.heap.objs.size (.tup [.int i,x]) b=some o:=fun b o q=>by rw[p8 (t8 q hT)];exact q
  have hok2:HOk X.prog X.w (upd H s.heap.objs.size (.tup [.int i,x])) h2:=fun b o eb=>by
   by_cases hb:b=s.heap.objs.size
   ·subst hb
    rw[c7]at eb
    cases eb
    exact⟨by show 2<=d7;decide,[.int i tk,v],.cons ⟨_,rfl⟩ (.cons ru .nil),⟨_,ht2,rfl,_,rfl⟩⟩
   ·rw[p8 hb]at eb
    refine(I.hok b o eb).stay (fun c v hcc q=>kp c v ?_ ?_ q) (fun c q=>keepH c _ q) fun c ys q=>keepH c _ q
    ·rcases hcc with z | z
     ·exact(nH c (by rw[z,eb];simp)).1
     ·exact(nH c (by rw[z];simp)).1
    ·rcases hcc with z | z
     ·exact(nH c (by rw[z,eb];simp)).2
     ·exact(nH c (by rw[z];simp)).2
  have I2:Inv X pins σ (upd H s.heap.objs.size (.tup [.int i,x])) { s with heap:=h2,toks:=tk+1 }:=by
   refine I.step (g':=s.gens) (d':=s.drawn) (t':=tk+1) (ch:=[e,ip]) (fun b hb=>?_) (fun b o _ _ hcc q _=>kp b o (fun z=>hcc (by simp[z])) (fun z=>hcc (by simp[z])) q) (fun b o _ _ hcc q _=>⟨o.slots,kp b o (fun z=>hcc (by simp[z])) (fun z=>hcc (by simp[z])) q⟩) (fun b o _ q n=>?_)
    (fun b o hcc q=>⟨o,kp b o (fun z=>hcc (by simp[z])) (fun z=>hcc (by simp[z])) q⟩) (fun b ys q=>keepH b _ q) (fun b o v q=>keepH b _ q) (fun b ps q=>⟨#[],by rw[keepH b _ q];simp⟩) (fun m hm=>?_) hok2 I.bare
   ·rcases j6.mp hb with rfl | hb
    ·exact⟨f3,f1,f4,f5⟩
    ·obtain rfl:b=ip:=by simpa using hb
     exact⟨g3,g1,g4,g5⟩
   ·rw[p8 (l7 (d5 q))]
    exact n
   ·obtain⟨o,es,ep,ho,r⟩:=hm
    exact⟨o,es,ep,kp _ o (Ne.symm f1) (Ne.symm g1) ho,r⟩
  have hilt:ip<s.heap.objs.size:=by
   obtain⟨o,ho,_⟩:=id hit
   exact d5 ho
  refine⟨.ref s.heap.objs.size,_,I2,rfl,⟨s.heap.objs.size,x,hT,rfl,fun ys hy=>by rw[I.tuple_inj hy hq];exact hx,rfl⟩,⟨⟨v,?_⟩,?_⟩,fun b hb=>?_⟩
  ·have:=he2
   rw[show ((i:Int)+1)=(((i+1:Nat):Int)) by simp]at this
   exact this
  ·exact hit1.at fun o q=>(hs2'.2 ip (Ne.symm hne)).trans q
  ·rcases j6.mp hb with rfl | hb
   ·rw[p8 (l7 hlt)];exact f0
   ·obtain rfl:b=ip:=by simpa using hb
    rw[p8 (l7 hilt)]
    exact g0
 done:=by
  intro X hP hw hK hc i pins s σ H E I hf st hg
  subst hP hw hK
  obtain⟨xs,hq,hx⟩:=hg
  obtain⟨⟨old,he⟩,hit⟩:=st
  obtain⟨its,rv,p,hz⟩:=I.tuple hq
  obtain⟨g0,g1,g2,g3,g4,g5⟩:=hf ip (by simp)
  have hl:=rv.length
  have pT:s.heap.IsTuple a its.toArray:=p
  have nai:a≠ip:=fun z=>by
   obtain⟨o1,h1,c1,_⟩:=id pT
   obtain⟨o2,h2,c2,_⟩:=id hit
   rw[z,h2]at h1;cases h1;rw[c2]at c1;injection c1 with c1;exact absurd c1 (by decide)
  have ei:i=its.toArray.size:=by rw[d9];omega
  refine bJ5 (aI7 (A:=X.A.in1) (I.ok.hd hc) ip a nai its.toArray) he ⟨by rw[<- ei];exact hit,pT⟩ fun h' eb=>⟨rfl,I.turned (t':=s.toks) (fun b o hb q=>eb b o hb q) g0 g1 g3 g4 g5⟩
 self:=fun _ _ _ _ _ st h=>let ⟨⟨old,he⟩,_⟩:=st;V2 he h
theorem aT0 {a:Expr}{ta:TA}{x1:Nat}{tpos:Pos}(hg:Gl X "enumerate")(hm:X.mg "enumerate"=none)(ha:PA X [a] ta)(hv:M6 "enumerate"=some (.type "enumerate"):=by rfl)(hs:u4 [a] X.env=[(false,eval a X.env)]:=by rfl) :
  PI X (.Tuple elts x1 tpos) (.Call (.Name "enumerate" p) [a] [] pos) (bU0 X.K ta):=by
 intro pins s σ H R I h
 refine Call_ (Y4 I hg hm hv (PyProof.Rows.callWith_type1 (thn (ha pos pins s σ H _ I h) fun us s1 ⟨vs,H1,I1,r1,q1⟩=>?_) hs rfl))
 obtain⟨b,e,⟨xs,hq⟩,q⟩:=q1
 subst e
 obtain⟨u,rfl,rx⟩:=vals1 r1
 cases rx
 obtain⟨its,rv,pl,hz⟩:=I1.tuple hq
 refine aG7 (show s1.heap.IsTuple b its.toArray from pl) fun h' he hit hsz kp=>?_
 refine V2 he ?_
 have hne:s1.heap.objs.size+1≠s1.heap.objs.size:=aP6 _
 refine⟨s1.heap.objs.size+1,[s1.heap.objs.size+1,s1.heap.objs.size],_,_,H1,rfl,I1.kept (t':=s1.toks) kp,aY3 b s1.heap.objs.size (s1.heap.objs.size+1) hne,⟨⟨_,he⟩,hit⟩,fun c hc=>?_,q⟩
 rcases j6.mp hc with rfl | hc
 ·exact I1.fpOk (Q8 _) (I1.hok.fresh (Q8 _))
 ·obtain rfl:c=s1.heap.objs.size:=by simpa using hc
  exact I1.fpOk (d6 _) (I1.hok.fresh (d6 _))
theorem bm8 (hc:X.calm=true):S7 X (.builtin "sum") (fun xs H Q=>∃ (p:Addr) (ns:List Int),xs=[.ref p]/\SqT X.K H p (ns.map V.int)/\Q (.int ns.sum) H):=by
 intro pins s σ H xs us Q I r h
 obtain⟨p,ns,rfl,hq,q⟩:=h
 obtain⟨u,rfl,rx⟩:=vals1 r
 cases rx
 obtain⟨its,r',pl,hz⟩:=I.tuple hq
 have hi:R8 its ns:=intsAre_of r'
 obtain⟨ys,e⟩:=hi.allInts.items
 refine PySem.W.ktm_sumG (xs:=ys) (I.ok.hd hc) (by rw[<- e];exact pl) fun h' tk t' hk=>⟨.int ns.sum,H,I.kept (t':=tk) hk,⟨t',?_⟩,q⟩
 have e2:numsOf (ap3 ys).toList=ns:=by rw[<- e];exact hi.numsOf
 rw[nums_intItems]at e2
 rw[preSum_eq,o6 (by simp),e2]
end L2
namespace L2
open PySem PySem.Spec PyProof.Rows
theorem bs8 {it:Expr}{w1 w2:TI}(h1:PI X tg it w1)(h2:PI X tg it w2):PI X tg it (fun σ H R=>w1 σ H R\/w2 σ H R):=
 fun pins s σ H R I h=>h.elim (h1 pins s σ H R I) (h2 pins s σ H R I)
theorem aI9 (hc:X.calm=true):S7 X (.builtin "sum") (fun xs H Q=>∃ (p:Addr) (ns:List Int),xs=[.ref p]/\(SqL X.K H p (ns.map V.int)\/SqT X.K H p (ns.map V.int))/\Q (.int ns.sum) H) :=
 fun pins s σ H xs us Q I r ⟨p,ns,e,hq,q⟩=>hq.elim (fun h=>X8 hc pins s σ H xs us Q I r ⟨p,ns,e,h,q⟩) fun h=>bm8 hc pins s σ H xs us Q I r ⟨p,ns,e,h,q⟩
theorem aE2 {D:Addr}{J:It}{S:Hp->Prop}{g:TG}{tt:TT}{σ0:St}{H0:Hp}
  (hst:∀ i H,S H->ys.length=i->J.stop i H)(hgo:∀ i H,S H->i<ys.length->J.go i H)(hy:∀ i H x H'',S H->J.yld i H x H''->∃ (t:Addr) (v:V),H t=none/\x=.ref t/\ys[i]?=some v/\H''=upd H t (.tup [.int i,v]))
  (Pv:Nat->List V->St->Hp->Prop)(h0:Pv 0 [] σ0 H0)(hz:ys.length<=d7)(hl:∀ i xs σ H,i<=ys.length->Pv i xs σ H->S H/\H D=some (.lst xs)/\xs.length<=i)
  (hs:∀ i xs x t σ H (N:List V->St->Hp->Prop),(∀ xs' σ' H',Pv (i+1) xs' σ' H'->N xs' σ' H')->ys[i]?=some x->Pv i xs σ H->H t=none->g (.ref t) σ (upd H t (.tup [.int i,x])) fun σ2 H2=>tt σ2 H2 fun b H3=>if b=true then te σ2 H3 fun v H4=>H4 D=some (.lst xs)/\N (xs++[v]) σ2 (upd H4 D (.lst (xs++[v]))) else N xs σ2 H3)
  (hd:∀ xs σ H,Pv ys.length xs σ H->Qd H) :
  ∃ W:Nat->Nat->List V->St->Hp->Prop,(∃ m,W 0 m [] σ0 H0)/\∀ i m xs σ' H',W i m xs σ' H'->H' D=some (.lst xs)/\((J.stop i H'/\Qd H')\/(J.go i H'/\xs.length<d7/\∀ x H'',J.yld i H' x H''->g x σ' H'' fun σ2 H2=>tt σ2 H2 fun b H3 =>
   if b=true then te σ2 H3 fun v H4=>H4 D=some (.lst xs)/\∃ m',m'<m/\W (i+1) m' (xs++[v]) σ2 (upd H4 D (.lst (xs++[v]))) else ∃ m',m'<m/\W (i+1) m' xs σ2 H3)):=by
 refine⟨fun i m xs σ H=>m=ys.length - i/\i<=ys.length/\Pv i xs σ H,⟨ys.length,by simp,v8 _,h0⟩,?_⟩
 rintro i m xs σ H ⟨rfl,hi,p⟩
 obtain⟨q,hD,hx⟩:=hl i xs σ H hi p
 refine⟨hD,?_⟩
 by_cases hlt:i<ys.length
 ·refine .inr ⟨hgo i H q hlt,by omega,fun x H'' y=>?_⟩
  obtain⟨t,v,ht,e,hv,e'⟩:=hy i H x H'' q y
  subst e e'
  exact hs i xs v t σ _ (fun zs σ' H'=>∃ m',m'<ys.length - i/\m'=ys.length - (i+1)/\i+1<=ys.length/\Pv (i+1) zs σ' H') (fun zs σ' H' r=>⟨_,by omega,rfl,hlt,r⟩) hv p ht
 ·have e:i=ys.length:=by omega
  subst e
  exact .inl ⟨hst _ H q rfl,hd xs σ H p⟩
theorem bT5 {K:W.Frag}(i:Nat)(H:Hp)(q:SqL K H a ys)(h:ys.length=i):(Itn K a).stop i H:=⟨ys,q,bA1 h⟩
theorem bT6 {K:W.Frag}(i:Nat)(H:Hp)(q:SqL K H a ys)(h:i<ys.length):(Itn K a).go i H:=⟨ys,ys[i],q,by simp[h]⟩
theorem cb9 {K:W.Frag}(i:Nat)(H:Hp)(x:V)(H'':Hp)(q:SqL K H a ys)(y:(Itn K a).yld i H x H''):∃ (t:Addr) (v:V),H t=none/\x=.ref t/\ys[i]?=some v/\H''=upd H t (.tup [.int i,v]):=by
 obtain⟨t,v,ht,e,hv,e'⟩:=y
 exact⟨t,v,ht,e,hv ys q,e'⟩
theorem bT7 {K:W.Frag}(i:Nat)(H:Hp)(q:SqT K H a ys)(h:ys.length=i):(Itm K a).stop i H:=⟨ys,q,h⟩
theorem bT8 {K:W.Frag}(i:Nat)(H:Hp)(q:SqT K H a ys)(h:i<ys.length):(Itm K a).go i H:=⟨ys,ys[i],q,by simp[h]⟩
theorem cc0 {K:W.Frag}(i:Nat)(H:Hp)(x:V)(H'':Hp)(q:SqT K H a ys)(y:(Itm K a).yld i H x H''):∃ (t:Addr) (v:V),H t=none/\x=.ref t/\ys[i]?=some v/\H''=upd H t (.tup [.int i,v]):=by
 obtain⟨t,v,ht,e,hv,e'⟩:=y
 exact⟨t,v,ht,e,hv ys q,e'⟩
theorem aE1 {K:W.Frag} {g:TG} {tt:TT} {Qd:Addr->Hp->Prop} {σ0:St} (hS:SqL K H a ys\/SqT K H a ys) (hz:ys.length<=d7)
  (Pv:Addr->Nat->List V->St->Hp->Prop) (h0:∀ D,H D=none->Pv D 0 [] σ0 (upd H D (.lst []))) (hl:∀ D i xs σ H',H D=none->i<=ys.length->Pv D i xs σ H'->B3 H H'/\H' D=some (.lst xs)/\xs.length<=i)
  (hs:∀ D i xs x t σ H' (N:List V->St->Hp->Prop),H D=none->(∀ xs' σ' H'',Pv D (i+1) xs' σ' H''->N xs' σ' H'')->ys[i]?=some x->Pv D i xs σ H'->H' t=none->g (.ref t) σ (upd H' t (.tup [.int i,x])) fun σ2 H2=>tt σ2 H2 fun b H3=>if b=true then te σ2 H3 fun v H4=>H4 D=some (.lst xs)/\N (xs++[v]) σ2 (upd H4 D (.lst (xs++[v]))) else N xs σ2 H3)
  (hd:∀ D xs σ H',H D=none->Pv D ys.length xs σ H'->Qd D H') :
  (∃ b, [V.ref a] = [V.ref b] /\ (∃ xs, SqL K H b xs) /\ ∀ D, H D = none -> ∃ W : Nat -> Nat -> List V -> St -> Hp -> Prop, (∃ m, W 0 m [] σ0 (upd H D (.lst []))) /\ ∀ i m xs σ' H', W i m xs σ' H' -> H' D = some (.lst xs) /\ (((Itn K b).stop i H' /\ Qd D H') \/ ((Itn K b).go i H' /\ xs.length < d7 /\ ∀ x H'', (Itn K b).yld i H' x H'' -> g x σ' H'' fun σ2 H2 => tt σ2 H2 fun b H3 =>
   if b=true then te σ2 H3 fun v H4=>H4 D=some (.lst xs)/\∃ m',m'<m/\W (i+1) m' (xs++[v]) σ2 (upd H4 D (.lst (xs++[v]))) else ∃ m',m'<m/\W (i+1) m' xs σ2 H3))) \/
  (∃ b, [V.ref a] = [V.ref b] /\ (∃ xs, SqT K H b xs) /\ ∀ D, H D = none -> ∃ W : Nat -> Nat -> List V -> St -> Hp -> Prop, (∃ m, W 0 m [] σ0 (upd H D (.lst []))) /\ ∀ i m xs σ' H', W i m xs σ' H' -> H' D = some (.lst xs) /\ (((Itm K b).stop i H' /\ Qd D H') \/ ((Itm K b).go i H' /\ xs.length < d7 /\ ∀ x H'', (Itm K b).yld i H' x H'' -> g x σ' H'' fun σ2 H2 => tt σ2 H2 fun b H3 =>
   if b=true then te σ2 H3 fun v H4=>H4 D=some (.lst xs)/\∃ m',m'<m/\W (i+1) m' (xs++[v]) σ2 (upd H4 D (.lst (xs++[v]))) else ∃ m',m'<m/\W (i+1) m' xs σ2 H3))):=by
 rcases hS with hS | hS
 ·exact .inl ⟨a,rfl,⟨_,hS⟩,fun D hD=>aE2 (S:=fun H'=>SqL K H' a ys) bT5 bT6 cb9 (Pv D) (h0 D hD) hz (fun i xs σ H' hi p=>let ⟨s,g,l⟩:=hl D i xs σ H' hD hi p;⟨s.seq hS,g,l⟩) (fun i xs x t σ H' N kN hx p ht=>hs D i xs x t σ H' N hD kN hx p ht) (fun xs σ H' p=>hd D xs σ H' hD p)⟩
 ·exact .inr ⟨a,rfl,⟨_,hS⟩,fun D hD=>aE2 (S:=fun H'=>SqT K H' a ys) bT7 bT8 cc0 (Pv D) (h0 D hD) hz (fun i xs σ H' hi p=>let ⟨s,g,l⟩:=hl D i xs σ H' hD hi p;⟨s.seqT hS,g,l⟩) (fun i xs x t σ H' N kN hx p ht=>hs D i xs x t σ H' N hD kN hx p ht) (fun xs σ H' p=>hd D xs σ H' hD p)⟩
theorem ay8 (K:W.Frag)(hK:X.K=K){k:Nat}{t:TGs}(hc:X.calm=true)(h:PGs X es t)
  (hn:(ag1 es X.env).length=n:=by rfl)(hst:(ag1 es X.env).findIdx? (·.1)=none:=by rfl):PG X (.Tuple es k pos) (cc7 K n t):=by
 subst hK
 exact at9 hc h hn hst
def an8 (i:Int)(n:Nat):List Int:=(bJ2 0 n).map fun k:Nat=>i+(k:Int)
theorem aV3 (a:Int):∀ {vs:List Value} {n i:Nat},vs.length=n->(∀ j v,vs[j]?=some v->∃ t,v=Value.int (a+((i+j:Nat):Int)) t)->R8 vs ((bJ2 i n).map fun k:Nat=>a+(k:Int))
 | [],n,i,e,_=>by subst e;exact .nil
 | v::vs,0,i,e,_=>by cases e
 | v::vs,n+1,i,e,h=>by
  obtain⟨t,rfl⟩:=h 0 v rfl
  rw[List.range'_succ,x8]
  refine .cons _ t (aV3 a (by simpa using e) fun j v hv=>?_)
  obtain⟨t',e'⟩:=h (j+1) v (by simpa using hv)
  exact⟨t',by rw[e'];congr 2;omega⟩
def bY7 (ta:TA):TE:=fun σ H Q=>ta σ H fun vs H1=>∃ i j:Int,vs=[.int i,.int j]/\∀ r,H1 r=none->Q (.ref r) (upd H1 r (.rng i j))
theorem bE0 {a b:Expr}{ta:TA}(hg:Gl X "range")(hm:X.mg "range"=none)(ha:PA X [a,b] ta)(hs:u4 [a,b] X.env=[(false,eval a X.env),(false,eval b X.env)]:=by rfl)(hs2:u4 [b] X.env=[(false,eval b X.env)]:=by rfl) :
  PE X (.Call (.Name "range" p) [a,b] [] pos) (bY7 ta):=by
 intro pins s σ H Q I h
 refine Call_ (Y4 I hg hm boot_range (PyProof.Rows.callWith_type1 (thn (ha pos pins s σ H _ I h) fun us s1 ⟨vs,H1,I1,r1,q1⟩=>?_) (by rw[hs,hs2]) (by rw[hs2];rfl)))
 obtain⟨i,j,e,q⟩:=q1
 subst e
 cases r1 with
 | cons r rr =>
  cases rr with
  | cons r' rr =>
   cases rr
   obtain⟨t,rfl⟩:=r
   obtain⟨t',rfl⟩:=r'
   refine call_range_2 ?_
   have hf:H1 s1.heap.objs.size=none:=I1.hok.fresh (d6 _)
   exact⟨.ref s1.heap.objs.size,upd H1 s1.heap.objs.size (.rng i j),I1.laid (fun b o e=>c8 _ e) (d6 _) ⟨_,_,_,m9 _ rfl⟩,rfl,q _ hf⟩
theorem aG6 (hc:X.calm=true):S7 X (.type "list") (fun xs H Q=>∃ (r:Addr) (i j:Int) (n:Nat),xs=[.ref r]/\H r=some (.rng i j)/\j - i=n/\n<=1000 /\ -1000<=i/\i<=1000/\∀ l,H l=none->Q (.ref l) (upd H l (.lst ((an8 i n).map V.int)))):=by
 intro pins s σ H xs us Q I r h
 obtain⟨p,i,j,n,rfl,hq,hn,hn1,hi1,hi2,q⟩:=h
 obtain⟨u,rfl,rx⟩:=vals1 r
 cases rx
 obtain⟨t1,t2,t3,hr⟩:=I.hok p _ hq
 refine call_list_range (a:=i) (b:=j) (c:=1) (n:=n) (I.ok.hd hc) hr (small_one (by omega) (by omega) (by omega) (by omega)) (by rw[rangeSize_one];split<;>omega) (by omega) fun h' tk acc c' kp e hacc=>?_
 have hi:R8 acc.toList (an8 i n):=aV3 i (by rw[o7];exact hacc.1) fun k v hk=>by
  obtain⟨t',e⟩:=hacc.2 k v (by rw[<- i9];exact hk)
  exact⟨t',by rw[e];simp⟩
 have hl:(an8 i n).length=n:=by unfold an8;rw[b9,aF4]
 exact⟨.ref s.heap.objs.size,_,I.laid (t':=tk) kp (d6 _) (show P5 X.prog X.w _ h' _ (.lst ((an8 i n).map V.int)) from ⟨by rw[b9,hl,N1];omega,acc.toList,c',ak1 hi,by rw[bz4];exact e⟩),rfl,q _ (I.hok.fresh (d6 _))⟩
theorem ba9 {lo:Int}{D:Addr}{g:TG}{tt:TT}{σ0:St}{H0:Hp}(Pv:Nat->List V->St->Hp->Prop)(h0:Pv 0 [] σ0 H0)(hz:n<=d7)(hl:∀ i xs σ H,i<=n->Pv i xs σ H->H D=some (.lst xs)/\xs.length<=i)
  (hs:∀ i xs σ H (N:List V->St->Hp->Prop),(∀ xs' σ' H',Pv (i+1) xs' σ' H'->N xs' σ' H')->i<n->Pv i xs σ H->g (.int (lo+i)) σ H fun σ2 H2=>tt σ2 H2 fun b H3=>if b=true then te σ2 H3 fun v H4=>H4 D=some (.lst xs)/\N (xs++[v]) σ2 (upd H4 D (.lst (xs++[v]))) else N xs σ2 H3)
  (hd:∀ xs σ H,Pv n xs σ H->Qd H) :
  ∃ W:Nat->Nat->List V->St->Hp->Prop,(∃ m,W 0 m [] σ0 H0)/\∀ i m xs σ' H',W i m xs σ' H'->H' D=some (.lst xs)/\(((Itr lo n).stop i H'/\Qd H')\/((Itr lo n).go i H'/\xs.length<d7/\∀ x H'',(Itr lo n).yld i H' x H''->g x σ' H'' fun σ2 H2=>tt σ2 H2 fun b H3 =>
   if b=true then te σ2 H3 fun v H4=>H4 D=some (.lst xs)/\∃ m',m'<m/\W (i+1) m' (xs++[v]) σ2 (upd H4 D (.lst (xs++[v]))) else ∃ m',m'<m/\W (i+1) m' xs σ2 H3)):=by
 refine⟨fun i m xs σ H=>m=n - i/\i<=n/\Pv i xs σ H,⟨n,by simp,v8 _,h0⟩,?_⟩
 rintro i m xs σ H ⟨rfl,hi,p⟩
 obtain⟨hD,hx⟩:=hl i xs σ H hi p
 refine⟨hD,?_⟩
 by_cases hlt:i<n
 ·refine .inr ⟨hlt,by omega,fun x H'' y=>?_⟩
  obtain⟨e,y⟩:=y
  subst e y
  exact hs i xs σ _ (fun zs σ' H'=>∃ m',m'<n - i/\m'=n - (i+1)/\i+1<=n/\Pv (i+1) zs σ' H') (fun zs σ' H' r=>⟨_,by omega,rfl,hlt,r⟩) hlt p
 ·obtain rfl:i=n:=by omega
  exact .inl ⟨d6 _,hd xs σ H p⟩
end L2
namespace Web
open PySem L2
def cd5 (ks:List (List Int))(p:Nat):Nat:=ks.countP fun k=>decide ((p:Int)∈k)
end Web
namespace L2
open PySem PySem.Spec PyProof.Rows
section
variable {Er:Value->Shared->Prop}
theorem ba2 {B:Heap}{env:Env}{outer:List Env}{L e:Addr}{cls a0 fl:Value}{Q:Unit->Shared->Prop}(hfr:A.frames=some (env::outer))(hf:env.frame=some L)(h1:B.StaysIn s.heap)(h2:B.get? e=none)(h3:s.heap.FunFrames B (env::outer))(h4:s.heap.TracedAtW B e cls a0 fl)
  (hQ:∀ h',Heap.FlyingW B outer e cls a0 h'->s.heap.UpToSlots h'->Q () { s with heap:=h' }):q8 M A (leaving env (.ref e)) Q Er s:=by
 by_cases hfl:fl=Y2 L
 ·subst hfl
  unfold leaving
  refine b8 (wpAny_noteFrame_againW hf h4 (bN2 (L:=L) ⟨h1,h2,h3,h4⟩ fun h' x1 x2=>hQ h' ⟨x1.1,x1.2.1,x1.2.2.1.2.2,x1.2.2.2⟩ x2))
 ·obtain⟨oe,vs,T,oT,ts,he,⟨hcl,h0⟩,hd,e1,nT,Te,hT,dT,e3⟩:=h4
  subst hcl
  have oth:∀ b,b≠T->(s.heap.update T (Obj.mapFields (·.setIfInBounds 3 Value.none))).get? b=s.heap.get? b:=fun b z=>B2 _ _ (Ne.symm z)
  have noT:∀ b o,s.heap.get? b=some o->(∀ vs,o.data≠.fields vs)->b≠T:=fun b o q n z=>by
   rw[z,hT]at q
   cases q
   exact n ts dT
  unfold leaving aw7
  rw[hf]
  refine b8 (b8 (F9 he hd e1 ?_))
  rw[if_pos (by simp:(Value.ref T != Value.none)=true)]
  refine b8 (F9 hT dT e3 ?_)
  rw[if_neg (by simpa using hfl)]
  refine b8 (aF5 hT dT (ae9.mp e3).1 ?_)
  refine wpAny_newEntryW hfr (h3.of_keeps fun b o q n=>⟨o,by rw[oth b (noT b o q n)];exact q,rfl⟩) hf (by rw[oth e (Ne.symm Te)];exact he) (fun b o q=>?_) h2 hd (ae9.mp e1).1 h0 fun h' y=>?_
  ·rw[oth b (fun z=>by rw[z,nT]at q;cases q)]
   exact h1 b o q
  ·obtain⟨y1,y2,y3,y4⟩:=y
   exact hQ h' ⟨y1,h2,y2.2.2,y3⟩ fun b o q n=>y4 b o (by show (s.heap.update T _).get? b=_;rw[oth b (noT b o q n)];exact q) n
end
theorem av6 {B B':Heap}:∀ {l:List Env},(∀ b∈frs l,B.get? b=none->B'.get? b=none)->(∀ b∈frs l,∀ o,h.get? b=some o->(∀ vs,o.data≠.fields vs)->∃ o',h'.get? b=some o'/\∀ vs,o'.data≠.fields vs)->h.FunFrames B l->h'.FunFrames B' l
 | [],_,_,_=>trivial
 | env::r,k1,k2,⟨hk,⟨L,o,hf,hn,ho,hd⟩,hr⟩=>by
  have hL:L∈frs (env::r):=by unfold frs;rw[N5,hf];exact m7
  obtain⟨o',ho',hd'⟩:=k2 L hL o ho hd
  have up:∀ b∈frs r,b∈frs (env::r):=fun b hb=>by unfold frs;rw[N5,hf];exact i8 _ hb
  exact⟨hk,⟨L,o',hf,k1 L hL hn,ho',hd'⟩,av6 (fun b hb=>k1 b (up b hb)) (fun b hb=>k2 b (up b hb)) hr⟩
def CXA (P:Program)(w:World)(stack:List Env)(H:Hp)(s:Shared)(E:XK)(e:Value)(s':Shared):Prop:=
 ∃ x cls H2 fl,e=.ref x/\s'.os=s.os/\ap1 s'.gens/\Un (frs stack) [] H H2 s.heap s'.heap/\HOk P w H2 s'.heap/\s.heap.get? x=none/\H2 x=none /\
  (∃ B a0,(B.StaysIn s'.heap/\B.get? x=none/\s'.heap.FunFrames B stack/\s'.heap.TracedAtW B x cls a0 fl)/\∀ b o,s'.heap.get? b=some o->(H2 b≠none\/s.heap.get? b≠none)->b∉frs stack->B.get? b=some o)/\E cls none H2
section
variable {K:W.Frag} {mg:Str->Option Value} {base:Heap} {cd:Value} {outer:List Env} {E:XK} {σ:St} {H1:Hp} {s1:Shared}
theorem cb1 {e:Value}{s2:Shared}(I:Inv (ab0 (CXE P w) P w K mg base N qual scope f cd A outer s H E) pins σ H1 s1)(hc:CXA P w (ab0 (CXE P w) P w K mg base N qual scope f cd A outer s H E).stack H1 s1 E e s2):(ab0 (CXE P w) P w K mg base N qual scope f cd A outer s H E).xe e s2:=by
 obtain⟨x,cls,H2,fly,rfl,hos,hb2,u,hok,new,hxn,⟨B,a0,⟨k1,k2,k3,k4⟩,st⟩,hE⟩:=hc
 have hst:=I.stack
 have hfr:=I.ok.frames
 have hL:=I.free
 have hbs:Un (frs outer) [] H H1 s.heap s1.heap:=I.base
 change s1.heap.FunFrames base (K5 qual scope s.heap.objs.size f cd::outer) at hst
 change (A.deeper (K5 qual scope s.heap.objs.size f cd)).frames=some (K5 qual scope s.heap.objs.size f cd::outer) at hfr
 change H1 s.heap.objs.size=none at hL
 change Un (frs (K5 qual scope s.heap.objs.size f cd::outer)) [] H1 H2 s1.heap s2.heap at u
 change s2.heap.FunFrames B (K5 qual scope s.heap.objs.size f cd::outer) at k3
 have hff:frs (K5 qual scope s.heap.objs.size f cd::outer)=s.heap.objs.size::frs outer:=aD7 rfl
 have st':∀ b o,s2.heap.get? b=some o->(H2 b≠none\/s1.heap.get? b≠none)->b∉frs (K5 qual scope s.heap.objs.size f cd::outer)->B.get? b=some o:=st
 rw[hff]at u st'
 have hLo:∃ o,s1.heap.get? s.heap.objs.size=some o:=by
  obtain⟨m,⟨o,_,_,ho,_⟩,_⟩:=I.loc
  exact⟨o,ho⟩
 have hL2:H2 s.heap.objs.size=none:=by
  obtain⟨o,ho⟩:=hLo
  exact u.free _ o ho hL (by simp)
 have old:∀ b,(H2 b≠none\/s.heap.get? b≠none)->b∉frs outer->∃ o,s2.heap.get? b=some o/\B.get? b=some o:=fun b hb hno=>by
  have hne:b≠s.heap.objs.size:=by
   rcases hb with z | z
   ·intro q;rw[q]at z;exact z hL2
   ·obtain⟨o,z⟩:=M9 z
    exact l7 (d5 z)
  have hm:b∉s.heap.objs.size::frs outer:=fun hm=>by
   rcases j6.mp hm with q | q
   ·exact hne q
   ·exact hno q
  rcases hb with z | z
  ·obtain⟨o,z'⟩:=M9 z
   obtain⟨o',ho⟩:=(hok b o z').there
   exact⟨o',ho,st' b o' ho (.inl z) hm⟩
  ·obtain⟨o,z⟩:=M9 z
   obtain⟨o1,h1⟩:=hbs.there b o z (by simp)
   obtain⟨o2,h2⟩:=u.there b o1 h1 (by simp)
   exact⟨o2,h2,st' b o2 h2 (.inr (by rw[h1];simp)) hm⟩
 have u2:Un (frs outer) [] H H2 s.heap s2.heap:=by
  refine⟨fun b o e n hb hx=>?_,fun b o e n hb hx=>?_,fun b o e n hx=>?_,fun b o e hx=>?_,fun b xs e=>u.tups b xs (hbs.tups b xs e),fun b o v e=>u.frzs b o v (hbs.frzs b o v e),fun b ps e=>?_⟩
  ·refine u.keep b o (hbs.keep b o e n hb hx) (hbs.free b o e n hx) (fun hm=>?_) hx
   rcases j6.mp hm with q | q
   ·exact l7 (d5 e) q
   ·exact hb q
  ·obtain⟨sl,e1⟩:=hbs.slot b o e n hb hx
   obtain⟨sl2,e2⟩:=u.slot b _ e1 (hbs.free b o e n hx) (i8 _ hb) hx
   exact⟨sl2,e2⟩
  ·obtain⟨o',e1⟩:=hbs.there b o e hx
   exact u.free b o' e1 (hbs.free b o e n hx) hx
  ·obtain⟨o',e1⟩:=hbs.there b o e hx
   exact u.there b o' e1 hx
  ·obtain⟨m1,e1⟩:=hbs.tbls b ps e
   obtain⟨m2,e2⟩:=u.tbls b _ e1
   exact⟨m1++m2,by rw[e2,aA0]⟩
 have frNone:∀ b∈frs outer,H2 b=none:=fun b hb=>by
  have h1:=I.stkFree b (by
   show b∈frs (K5 qual scope s.heap.objs.size f cd::outer)
   rw[hff]
   exact i8 _ hb)
  obtain⟨_,o,ho,_⟩:=hst.mem (b:=b) (by
   show b∈frs (K5 qual scope s.heap.objs.size f cd::outer)
   rw[hff]
   exact i8 _ hb)
  exact u.free b o ho h1 (by simp)
 refine ba2 hfr rfl k1 k2 k3 k4 fun h' x1 x2=>?_
 have stay:∀ b o,s2.heap.get? b=some o->(H2 b≠none\/s.heap.get? b≠none)->b∉frs outer->h'.get? b=some o:=fun b o ho hb hno=>by
  obtain⟨o',ho',hB⟩:=old b hb hno
  rw[ho]at ho'
  cases ho'
  exact x1.1 b o hB
 refine⟨x,cls,H2,rfl,hos.trans I.os,hb2,u2.onto (fun b o ho hh hno=>stay b o ho (.inr hh) hno) (fun b o ho hh hm=>?_),hok.stays fun b o ho hh=>stay b o ho (.inl hh) fun hm=>hh (frNone b hm),?_,hxn,⟨B,a0,x1,fun b o ho hb hno=>?_⟩,hE⟩
 ·obtain⟨_,o',ho',hd⟩:=k3.mem (b:=b) (by
   show b∈frs (K5 qual scope s.heap.objs.size f cd::outer)
   rw[hff]
   exact i8 _ hm)
  rw[ho]at ho'
  cases ho'
  exact x2 b o ho hd
 ·cases q:s.heap.get? x with
  | none=>rfl
  | some o =>
   obtain⟨o',z⟩:=hbs.there x o q (by simp)
   rw[new]at z
   cases z
 ·obtain⟨o',ho',hB⟩:=old b hb hno
  have:=stay b o' ho' hb hno
  rw[ho]at this
  cases this
  exact hB
end
theorem bk2 {e:Value}{env env':Env}(h:env.frame=env'.frame):aw7 e env=aw7 e env':=by
 unfold aw7 PySem.frameOf
 rw[h]
def XeC (X:Cx)(E:XK)(pins:List (Addr × Obj))(σ:St)(C:Addr)(e:Value)(s':Shared):Prop:=
 ∃ s1 H1 m,Inv X pins σ H1 s1/\ad1 X pins H1 C/\s1.heap.Ns C m/\CXE X.prog X.w X.stack H1 s1 E e s'
section
variable {K:W.Frag} {mg:Str->Option Value} {base:Heap} {cd:Value} {outer:List Env} {E:XK} {σ:St}
theorem ar8 (eX:X=ab0 (CXE P w) P w K mg base N qual scope f cd A outer s H E){cenv:Env}(hcf:cenv.frame=X.env.frame){e:Value}{s':Shared}{acc:Value}(h:XeC X E pins σ C e s') :
  notedBy (u7 X.prog X.w) X.A cenv (fun x s''=>ay3 (u7 X.prog X.w) X.A X.xe none Q acc C (.error x) s'') e s':=by
 obtain⟨s1,H1,m,I1,fC,hn,x,cls,H2,rfl,hos,hb2,u,hok,new,hxn,⟨B,a0,fl,st⟩,hE⟩:=h
 have hstk:X.stack=X.env::X.outer:=by rw[eX];rfl
 have hf:X.env.frame=some X.env.locals:=by rw[eX];rfl
 have hfr:X.A.frames=some (X.env::X.outer):=by rw[<- hstk];exact I1.ok.frames
 rw[hstk]at fl
 have nC:C∉frs X.stack:=fun z=>by
  rcases j6.mp (I1.stkSub C z) with q | q
  ·exact fC.2.1 q
  ·exact fC.2.2.1 q
 obtain⟨oC,es,ep,hC,dC,rC⟩:=hn
 have hC':s'.heap.get? C=some oC:=u.keep C oC hC fC.1 nC (by simp)
 have hC2:H2 C=none:=u.free C oC hC fC.1 (by simp)
 have frN:∀ b∈frs X.stack,H2 b=none:=fun b hb=>by
  obtain⟨_,o,ho,_⟩:=I1.stack.mem hb
  exact u.free b o ho (I1.stkFree b hb) (by simp)
 unfold notedBy
 rw[bk2 hcf]
 refine bi1 hfr hf fl fun h4 held up=>?_
 obtain⟨k1,k2,k3,oe,vs,T,oT,ts,he,hcl,hd,e1,nT,Te,hT,dT,e3⟩:=held
 have hsz3:3<ts.size:=(ae9.mp e3).1
 have hn4:h4.Ns C m:=up.ns ⟨oC,es,ep,hC',dC,rC⟩
 obtain⟨oC4,es4,ep4,hC4,dC4,_⟩:=id hn4
 have xC:x≠C:=fun z=>by
  rw[z,hC4]at he
  cases he
  rw[dC4]at hd
  cases hd
 have TC:T≠C:=fun z=>by
  rw[z,hC4]at hT
  cases hT
  rw[dC4]at dT
  cases dT
 refine⟨m,hn4,fun h5 hsb cenv' _=>?_⟩
 have g5:∀ b,b≠C->h5.get? b=h4.get? b:=fun b hb=>hsb.2 b hb
 have he5:=(g5 x xC).trans he
 have hT5:=(g5 T TC).trans hT
 unfold PySem.passOn
 refine b8 (F9 he5 hd e1 ?_)
 rw[if_neg (by simp:¬ ((Value.ref T == Value.none)=true))]
 refine b8 ?_
 unfold setFlight
 refine b8 (F9 he5 hd e1 ?_)
 rw[if_pos (by simp:(Value.ref T != Value.none)=true)]
 refine aF5 hT5 dT hsz3 (wpAny_throw ?_)
 generalize hfv:(cenv'.frame.elim Value.none fun f=>Y2 f)=fv
 have oth:∀ b,b≠T->(h5.update T (Obj.mapFields (·.setIfInBounds 3 fv))).get? b=h5.get? b:=fun b z=>B2 _ _ (Ne.symm z)
 have inB:∀ b o,B.get? b=some o->b≠C->(h5.update T (Obj.mapFields (·.setIfInBounds 3 fv))).get? b=some o:=fun b o q z=>by
  rw[oth b (fun z'=>by rw[z',nT]at q;cases q),g5 b z]
  exact k1 b o q
 have frO:∀ b∈frs X.stack,∀ o,s'.heap.get? b=some o->∃ sl,(h5.update T (Obj.mapFields (·.setIfInBounds 3 fv))).get? b=some { o with slots:=sl }:=fun b hb o q=>by
  obtain⟨_,o',q',nf⟩:=fl.2.2.1.mem (b:=b) (by rw[hstk]at hb;exact hb)
  rw[q]at q'
  cases q'
  obtain⟨sl,q4⟩:=up b o q nf
  refine⟨sl,?_⟩
  rw[oth b (fun z=>by rw[z,hT]at q4;cases q4;exact nf _ dT),g5 b (fun z=>nC (by rw[<- z];exact hb))]
  exact q4
 generalize hh6:h5.update T (Obj.mapFields (·.setIfInBounds 3 fv))=h6 at oth inB frO
 have I1':Inv X pins σ H1 { s1 with heap:=PySem.W.hideAll s1.heap [C],toks:=s1.toks }:=I1.turn fC fun b o hb q=>PySem.W.hideAll_get _ q (by simpa using hb)
 have nh:∀ {g:Heap} {b:Addr} {o:Obj},(PySem.W.hideAll g [C]).get? b=some o->b≠C:=fun {g b o} q z=>by
  rw[z,PySem.W.hideAll_none _ (B9.mpr rfl)]at q
  cases q
 subst eX
 refine cb1 (s1:={ s1 with heap:=PySem.W.hideAll s1.heap [C],toks:=s1.toks }) I1' ⟨x,cls,H2,fv,rfl,hos,hb2,?_,?_,?_,hxn,⟨PySem.W.hideAll B [C],a0,⟨?_,?_,?_,?_⟩,?_⟩,hE⟩
 ·refine⟨fun b o q n hb hx=>?_,fun b o q n hb hx=>?_,fun b o q n hx=>u.free b o (PySem.W.of_hideAll _ q) n hx,fun b o q hx=>?_,u.tups,u.frzs,u.tbls⟩
  ·have q1:=PySem.W.of_hideAll _ q
   exact inB b o (st b o (u.keep b o q1 n hb hx) (.inr (by rw[q1];simp)) hb) (nh q)
  ·obtain⟨sl,q1⟩:=u.slot b o (PySem.W.of_hideAll _ q) n hb hx
   obtain⟨sl',q2⟩:=frO b hb _ q1
   exact⟨sl',q2⟩
  ·have q1:=PySem.W.of_hideAll _ q
   obtain⟨o',q2⟩:=u.there b o q1 hx
   by_cases hb:b∈frs (ab0 (CXE P w) P w K mg base N qual scope f cd A outer s H E).stack
   ·obtain⟨sl,q3⟩:=frO b hb _ q2
    exact⟨_,q3⟩
   ·exact⟨o',inB b o' (st b o' q2 (.inr (by rw[q1];simp)) hb) (nh q)⟩
 ·refine hok.stays fun b o q hh=>inB b o (st b o q (.inl hh) fun z=>hh (frN b z)) fun z=>hh (by rw[z];exact hC2)
 ·cases q:(PySem.W.hideAll s1.heap [C]).get? x with
  | none=>rfl
  | some o =>
   rw[PySem.W.of_hideAll _ q]at new
   cases new
 ·exact fun b o q=>inB b o (PySem.W.of_hideAll _ q) (nh q)
 ·cases q:(PySem.W.hideAll B [C]).get? x with
  | none=>rfl
  | some o =>
   rw[PySem.W.of_hideAll _ q]at k2
   cases k2
 ·refine av6 (fun b hb n=>?_) (fun b hb o q nf=>?_) fl.2.2.1
  ·cases q:(PySem.W.hideAll B [C]).get? b with
   | none=>rfl
   | some o =>
    rw[PySem.W.of_hideAll _ q]at n
    cases n
  ·obtain⟨sl,q2⟩:=frO b hb o q
   exact⟨_,q2,nf⟩
 ·refine⟨oe,vs,T,_,_,(oth x (Ne.symm Te)).trans he5,hcl,hd,e1,?_,Te,by rw[<- hh6];exact O6 _ hT5 (Obj.isFreed_of_fields (Obj.data_mapFields dT _)),Obj.data_mapFields dT _,by simp[hsz3]⟩
  cases q:(PySem.W.hideAll B [C]).get? T with
  | none=>rfl
  | some o =>
   rw[PySem.W.of_hideAll _ q]at nT
   cases nT
 ·intro b o q hh hb
  have bC:b≠C:=fun z=>by
   rcases hh with z' | z'
   ·exact z' (by rw[z];exact hC2)
   ·exact z' (by rw[z];exact PySem.W.hideAll_none _ (B9.mpr rfl))
  have hin:∃ o',s'.heap.get? b=some o'/\B.get? b=some o':=by
   rcases hh with z' | z'
   ·obtain⟨ho,q'⟩:=M9 z'
    obtain⟨o',q2⟩:=(hok b ho q').there
    exact⟨o',q2,st b o' q2 (.inl z') hb⟩
   ·obtain⟨o1,q'⟩:=M9 z'
    have q1:=PySem.W.of_hideAll _ q'
    obtain⟨o',q2⟩:=u.there b o1 q1 (by simp)
    exact⟨o',q2,st b o' q2 (.inr (by rw[q1];simp)) hb⟩
  obtain⟨o',q2,qB⟩:=hin
  have:=inB b o' qB bC
  have q':h6.get? b=some o:=q
  rw[this]at q'
  cases q'
  exact PySem.W.hideAll_get _ qB (by simpa using bC)
end
theorem cb0 {σ:St}{E:XK}{s3:Shared}{H3:Hp}(I3:Inv X pins σ H3 s3)(f3:∀ b∈fp,ad1 X pins H3 b) :
  ao8 (CXE X.prog X.w) (D9 X scope cl N' s3 H3 fp (XeC X E pins σ s3.heap.objs.size)) E:=by
 intro pins' σ' H1 s1 e s' I' hc
 obtain⟨m,hm,_⟩:=I'.loc
 refine⟨s1,H1,m,I3.call' (ch:=fp) I'.os I'.base I'.hok I'.bare fun b hb=>?_,I3.fpOk (d6 _) I'.free,hm,hc⟩
 obtain⟨f0,f1,f2',f3',f4,f5⟩:=f3 b hb
 exact⟨f3',f1,f4,f5⟩
section
variable {K:W.Frag} {mg:Str->Option Value} {base:Heap} {scope0:Scope} {cd:Value} {outer:List Env} {s0:Shared} {H0:Hp} {E:XK}
theorem bt4 (eX:X=ab0 (CXE P w) P w K mg base N qual scope0 f cd A outer s0 H0 E){elt iter:Expr}{ifs:List Expr}{wi:TI}{g:TG}{tt:TT}(hc:X.calm=true)(hi:PI X tg iter wi)(hclos:aQ0 scope X.env=pure cl)(hkind:scope.kind=.function)
  (hnames:∀ y∈scope.names,y.2=.local->scope.names.lookup y.1=some .local)(hcl:aO5 X.env cl)(hfr:aF0 scope.names cl=true)(hlk:bn7 X N' lk scope cl)
  (hg:∀ pins σ s3 H3 fp,PG (D9 X scope cl N' s3 H3 fp (XeC X E pins σ s3.heap.objs.size)) tg g)(ht:∀ pins σ s3 H3 fp,PTs (D9 X scope cl N' s3 H3 fp (XeC X E pins σ s3.heap.objs.size)) ifs tt)(he:∀ pins σ s3 H3 fp,Inv X pins σ H3 s3->(∀ b∈fp,ad1 X pins H3 b)->PE (D9 X scope cl N' s3 H3 fp (XeC X E pins σ s3.heap.objs.size)) elt te)
  (hs:∀ x,ab4 iter X.env x=pure x:=by intro _;rfl):PE X (.ListComp elt [⟨tg,iter,ifs,0⟩] scope pos) (bc7 wi lk g tt te):=by
 intro pins s σ H Q I h
 rw[eval_ListComp]
 have hcellN:∀ y∈scope.names,y.2≠.cell:=fun y hy=>by
  unfold aF0 at hfr
  rw[G9]at hfr
  have:=hfr y hy
  rw[B5]at this
  simpa using this.1
 refine an1 (use:=none) rfl hs hclos hkind hnames (thn (hi pins s σ H _ I h) fun v s1 h1=>thn h1 fun itv s2 h2=>?_)
 obtain⟨it,fp,tn,J,H2,e,I2,T,st2,f2,q⟩:=h2
 subst e
 refine V0 ?_ (v8 _)
 have hD:H2 s2.heap.objs.size=none:=I2.hok.fresh (d6 _)
 have I3:=I2.lnew (ys:=[]) (its:=[]) (t':=s2.toks) .nil (v8 _)
 obtain⟨W,⟨m0,w0⟩,turn⟩:=q s2.heap.objs.size hD
 have fpl:∀ b∈fp,b<s2.heap.objs.size:=fun b hb=>by
  obtain⟨o,ho,_⟩:=T.obj 0 s2.heap st2 b hb
  exact d5 ho
 refine ae7 hcellN (by intro y hy;cases hy) (fun h1 hns1 hsb1=>?_) hkind
 dsimp only at hns1 hsb1 ⊢
 have e3:s2.heap.push { cls:=.type "list",dict:=none,data:=.seq ([]:List Value).toArray }=s2.heap.push { cls:=.type "list",data:=.seq ([]:List Value).toArray }:=rfl
 generalize hh3:s2.heap.push { cls:=.type "list",dict:=none,data:=.seq ([]:List Value).toArray }=h3 at *
 have I3':Inv X pins σ (upd H2 s2.heap.objs.size (.lst [])) { s2 with heap:=h3,toks:=s2.toks }:=I3
 have size3:h3.objs.size=s2.heap.objs.size+1:=by rw[<- hh3,G6]
 have f3:∀ b∈fp,ad1 X pins (upd H2 s2.heap.objs.size (.lst [])) b:=fun b hb=>by
  obtain⟨f0,fr⟩:=f2 b hb
  exact⟨by rw[p8 (l7 (fpl b hb))];exact f0,fr⟩
 have up:∀ b u,h3.get? b=some u->h1.get? b=some u:=fun b u eb=>by
  rw[hsb1.2 b (l7 (d5 eb))]
  exact c8 _ eb
 have I4:Inv (D9 X scope cl N' { s2 with heap:=h3,toks:=s2.toks } (upd H2 s2.heap.objs.size (.lst [])) fp (XeC X E pins σ h3.objs.size)) [] (ax2 lk σ) (upd H2 s2.heap.objs.size (.lst [])) { s2 with heap:=h1,toks:=s2.toks+([]:List (Str × Value)).length }:=
  ao6 (s3:={ s2 with heap:=h3,toks:=s2.toks }) I3' f3 hkind hcl hfr hlk hns1 up fun b hb=>by show b<h3.objs.size;rw[size3];exact E4 (fpl b hb)
 have st4:tn 0 h1:=T.keep 0 s2.heap h1 st2 fun b hb o eb=>up b o (by rw[<- hh3];exact c8 _ eb)
 have hCs:h3.objs.size=(P7 scope cl h3.objs.size X.env).locals:=rfl
 have stat:∀ {H':Hp},(∀ b∈fp,H' b=none)->∀ b∈fp,ad1 (D9 X scope cl N' { s2 with heap:=h3,toks:=s2.toks } (upd H2 s2.heap.objs.size (.lst [])) fp (XeC X E pins σ h3.objs.size)) [] H' b:=fun {H'} hn b hb=>by
  obtain⟨f0,f1,f2',f3',f4,f5⟩:=f3 b hb
  refine⟨hn b hb,?_,fun z=>?_,.inl hb,fun x c ex=>f4 x c (hcl.get ex),fun p hp=>nomatch hp⟩
  ·show b≠h3.objs.size
   rw[size3]
   exact l7 (E4 (fpl b hb))
  ·rcases j6.mp (I3'.stkSub b z) with q | q
   ·exact f1 q
   ·exact f2' q
 have fin:∀ (s':Shared) (σ':St) (H':Hp),Inv (D9 X scope cl N' { s2 with heap:=h3,toks:=s2.toks } (upd H2 s2.heap.objs.size (.lst [])) fp (XeC X E pins σ h3.objs.size)) [] σ' H' s'->Q (.ref s2.heap.objs.size) H' ->
   ay3 (u7 X.prog X.w) X.A X.xe none (EP X pins σ Q) (.ref s2.heap.objs.size) h3.objs.size (.ok .next) s':=fun s' σ' H' I' q'=>by
  obtain⟨m,hm,_⟩:=id I'.loc
  have I5:Inv X pins σ H' s':=I3'.call' (ch:=fp) I'.os I'.base I'.hok I'.bare fun b hb=>by
   obtain⟨f0,f1,f2',f3',f4,f5⟩:=f3 b hb
   exact⟨f3',f1,f4,f5⟩
  refine⟨m,hm,fun h' hsb=>?_⟩
  refine⟨.ref s2.heap.objs.size,H',?_,rfl,q'⟩
  have hfc:H' h3.objs.size=none:=I'.free
  have hcl1:∀ b o,h3.get? b=some o->b≠h3.objs.size:=fun b o eb=>l7 (d5 eb)
  obtain⟨h0',g0,d0,t0,o0⟩:=s'
  refine I5.turned (t':=t0) (it:=h3.objs.size) (fun b o hb eb=>(hsb.2 b hb).trans eb) hfc ?_ (.inr I3'.sz) (fun x c ex z=>?_) (fun p hp z=>?_)
  ·exact L9 I3'.lt
  ·obtain⟨v',q2⟩:=I3'.cell x c ex
   exact absurd q2.lt (by rw[z];exact D0 _)
  ·exact absurd (d5 (I3'.pin p hp).1) (by rw[z];exact D0 _)
 have loop:∀ s5:Shared,s5={ s2 with heap:=h1,toks:=s2.toks+([]:List (Str × Value)).length } ->
   al6 (u7 X.prog X.w) X.A (.compLoop (.ListComp elt [⟨tg,iter,ifs,0⟩] scope pos) 0 (.ref it) (.ref s2.heap.objs.size) (P7 scope cl h3.objs.size X.env)) (ay3 (u7 X.prog X.w) X.A X.xe none (EP X pins σ Q) (.ref s2.heap.objs.size) h3.objs.size) s5:=by
  rintro s5 rfl
  refine bM9 rfl (fun n s'=>∃ i xs σ' H',Inv (D9 X scope cl N' { s2 with heap:=h3,toks:=s2.toks } (upd H2 s2.heap.objs.size (.lst [])) fp (XeC X E pins σ h3.objs.size)) [] σ' H' s'/\tn i s'.heap/\(∀ b∈fp,H' b=none)/\W i n xs σ' H')
   (fun n s6 hI=>?_) m0 ⟨0,[],ax2 lk σ,_,I4,st4,fun b hb=>(f3 b hb).1,w0⟩
  obtain⟨i,xs,σ6,H6,I6,st6,fr6,w6⟩:=hI
  show q8 _ X.A ((compTurn (.ListComp elt [⟨tg,iter,ifs,0⟩] scope pos) 0 (.ref it) (.ref s2.heap.objs.size) (P7 scope cl h3.objs.size X.env)).onRaise (fun x=>do aw7 x (P7 scope cl h3.objs.size X.env);bi0 x)) _ _ s6
  refine bX9 ?_
  rw[bA7]
  refine b8 (Z0 (b8 ?_))
  obtain⟨hD6,hw⟩:=turn i n xs σ6 H6 w6
  rcases hw with⟨stop,qn⟩ | ⟨go,hlen,step⟩
  ·refine thn (T.done (D9 X scope cl N' { s2 with heap:=h3,toks:=s2.toks } (upd H2 s2.heap.objs.size (.lst [])) fp (XeC X E pins σ h3.objs.size)) rfl rfl rfl hc i [] s6 σ6 H6 _ I6 (stat fr6) st6 stop) fun r s7 ⟨hr,I7⟩=>?_
   subst hr
   exact i7 (fin s7 σ6 H6 I7 qn)
  ·refine thn (T.item (D9 X scope cl N' { s2 with heap:=h3,toks:=s2.toks } (upd H2 s2.heap.objs.size (.lst [])) fp (XeC X E pins σ h3.objs.size)) rfl rfl rfl hc i [] s6 σ6 H6 _ I6 (stat fr6) st6 go) fun r s7 ⟨u,hr,h7⟩=>?_
   subst hr
   refine b8 (thn h7 fun _ s8 ⟨x,H8,I8,r8,y8,st8,fr8⟩=>?_)
   have I8':=I8.pinned (stat fr8) (T.obj _ _ st8)
   refine b8 (E5 (hg pins σ _ _ _ _ s8 σ6 H8 x u _ I8' r8 (step x H8 y8)) (fun _ s9 ⟨σ9,H9,I9,q9⟩=>?_) (fun _ _ z=>ar8 eX rfl z))
   refine b8 (E5 (ht pins σ _ _ _ _ s9 σ9 H9 _ I9 q9) (fun ok s10 ⟨H10,I10,q10⟩=>?_) (fun _ _ z=>ar8 eX rfl z))
   have bo4:∀ {σ':St} {H':Hp} {ys:List V} {s':Shared},Inv (D9 X scope cl N' { s2 with heap:=h3,toks:=s2.toks } (upd H2 s2.heap.objs.size (.lst [])) fp (XeC X E pins σ h3.objs.size)) ([]++ao0 fp s8.heap) σ' H' s'->(∃ m',m'<n/\W (i+1) m' ys σ' H') ->
     ∃ m',m'<n/\∃ i xs σ' H',Inv (D9 X scope cl N' { s2 with heap:=h3,toks:=s2.toks } (upd H2 s2.heap.objs.size (.lst [])) fp (XeC X E pins σ h3.objs.size)) [] σ' H' s'/\tn i s'.heap/\(∀ b∈fp,H' b=none)/\W i m' xs σ' H':=fun {σ' H' ys s'} I' ⟨m',hm,w'⟩=>by
    refine⟨m',hm,i+1,ys,σ',H',I'.unpinned,T.keep _ _ _ st8 fun b hb o eb=>(I'.pin (b,o) (o4 _ (o4 _ (R4 hb eb)))).1,fun b hb=>?_,w'⟩
    obtain⟨o,eb,_⟩:=T.obj _ _ st8 b hb
    exact(I'.pin (b,o) (o4 _ (o4 _ (R4 hb eb)))).2.1
   cases ok with
   | false =>
    have q10':∃ m',m'<n/\W (i+1) m' xs σ9 H10:=by simpa using q10
    exact i7 ⟨rfl,bo4 I10 q10'⟩
   | true =>
    rw[if_pos rfl]at q10
    refine b8 (b8 (E5 (he pins σ _ _ _ I3' f3 _ s10 σ9 H10 _ I10 q10) (fun y s11 ⟨v11,H11,I11,r11,hD11,q11⟩=>?_) (fun _ _ z=>ar8 eX rfl z)))
    refine b8 (E5 (L7 (X:=D9 X scope cl N' { s2 with heap:=h3,toks:=s2.toks } (upd H2 s2.heap.objs.size (.lst [])) fp (XeC X E pins σ h3.objs.size)) _ s11 σ9 H11 (.ref s2.heap.objs.size) [v11] (.ref s2.heap.objs.size) [y] (fun _ H'=>∃ m',m'<n/\W (i+1) m' (xs++[v11]) σ9 H') I11 rfl (.cons r11 .nil) ⟨s2.heap.objs.size,xs,v11,rfl,rfl,hD11,hlen,q11⟩) (fun _ s12 ⟨_,H12,I12,_,q12⟩=>?_) (fun _ _ z=>ar8 eX rfl z))
    exact i7 (i7 ⟨rfl,bo4 I12 q12⟩)
 exact at1 (loop _ rfl) (T.self X.A 0 _ _ _ st4 (loop _ rfl))
end
theorem bm7 {elt iter:Expr} {ifs:List Expr} {ipos:Pos} {wi:TI} {g:TG} {tt:TT} {use:Option (Value->Sem Unit)} {R:Value->Shared->Prop} {Q:VK} {σ:St}
  (hc:X.calm=true) (hi:PI X tg iter wi) (hclos:aQ0 scope X.env=pure cl) (hkind:scope.kind=.function)
  (hnames:∀ y∈scope.names,y.2=.local->scope.names.lookup y.1=some .local) (hcl:aO5 X.env cl) (hfr:aF0 scope.names cl=true) (hlk:bn7 X N' lk scope cl)
  (hg:∀ s3 H3 fp,PG (D9 X scope cl N' s3 H3 fp fun _ _=>False) tg g) (ht:∀ s3 H3 fp,PTs (D9 X scope cl N' s3 H3 fp fun _ _=>False) ifs tt) (he:∀ s3 H3 fp,PE (D9 X scope cl N' s3 H3 fp fun _ _=>False) elt te)
  (hs:∀ x,ab4 iter X.env x=pure x) (I:Inv X pins σ H s) (h:bc7 wi lk g tt te σ H Q)
  (hend : ∀ (C D : Addr) (s' : Shared) (H' : Hp), Inv X pins σ H' s' -> Q (.ref D) H' -> H' C = none -> C ≠ X.env.locals -> X.s₀.heap.objs.size <= C -> (∀ x c, X.env.cells.lookup x = some c -> c ≠ C) -> (∀ p ∈ X.pn ++ pins, p.1 ≠ C) -> (∃ m, s'.heap.Ns C m) ->
   ay3 (u7 X.prog X.w) X.A X.xe use R (.ref D) C (.ok .next) s') :
  q8 (u7 X.prog X.w) X.A (comprehension (.ListComp elt [⟨tg,iter,ifs,0⟩] scope pos) scope X.env ipos (newList []) false (eval iter X.env) use) R X.xe s:=by
 have hcellN:∀ y∈scope.names,y.2≠.cell:=fun y hy=>by
  unfold aF0 at hfr
  rw[G9]at hfr
  have:=hfr y hy
  rw[B5]at this
  simpa using this.1
 refine an1 (use:=use) rfl hs hclos hkind hnames (thn (hi pins s σ H _ I h) fun v s1 h1=>thn h1 fun itv s2 h2=>?_)
 obtain⟨it,fp,tn,J,H2,e,I2,T,st2,f2,q⟩:=h2
 subst e
 refine V0 ?_ (v8 _)
 have hD:H2 s2.heap.objs.size=none:=I2.hok.fresh (d6 _)
 have I3:=I2.lnew (ys:=[]) (its:=[]) (t':=s2.toks) .nil (v8 _)
 obtain⟨W,⟨m0,w0⟩,turn⟩:=q s2.heap.objs.size hD
 have fpl:∀ b∈fp,b<s2.heap.objs.size:=fun b hb=>by
  obtain⟨o,ho,_⟩:=T.obj 0 s2.heap st2 b hb
  exact d5 ho
 refine ae7 hcellN (by intro y hy;cases hy) (fun h1 hns1 hsb1=>?_) hkind
 dsimp only at hns1 hsb1 ⊢
 have e3:s2.heap.push { cls:=.type "list",dict:=none,data:=.seq ([]:List Value).toArray }=s2.heap.push { cls:=.type "list",data:=.seq ([]:List Value).toArray }:=rfl
 generalize hh3:s2.heap.push { cls:=.type "list",dict:=none,data:=.seq ([]:List Value).toArray }=h3 at *
 have I3':Inv X pins σ (upd H2 s2.heap.objs.size (.lst [])) { s2 with heap:=h3,toks:=s2.toks }:=I3
 have size3:h3.objs.size=s2.heap.objs.size+1:=by rw[<- hh3,G6]
 have f3:∀ b∈fp,ad1 X pins (upd H2 s2.heap.objs.size (.lst [])) b:=fun b hb=>by
  obtain⟨f0,fr⟩:=f2 b hb
  exact⟨by rw[p8 (l7 (fpl b hb))];exact f0,fr⟩
 have up:∀ b u,h3.get? b=some u->h1.get? b=some u:=fun b u eb=>by
  rw[hsb1.2 b (l7 (d5 eb))]
  exact c8 _ eb
 have I4:Inv (D9 X scope cl N' { s2 with heap:=h3,toks:=s2.toks } (upd H2 s2.heap.objs.size (.lst [])) fp fun _ _=>False) [] (ax2 lk σ) (upd H2 s2.heap.objs.size (.lst [])) { s2 with heap:=h1,toks:=s2.toks+([]:List (Str × Value)).length }:=
  ao6 (s3:={ s2 with heap:=h3,toks:=s2.toks }) I3' f3 hkind hcl hfr hlk hns1 up fun b hb=>by show b<h3.objs.size;rw[size3];exact E4 (fpl b hb)
 have st4:tn 0 h1:=T.keep 0 s2.heap h1 st2 fun b hb o eb=>up b o (by rw[<- hh3];exact c8 _ eb)
 have hCs:h3.objs.size=(P7 scope cl h3.objs.size X.env).locals:=rfl
 have stat:∀ {H':Hp},(∀ b∈fp,H' b=none)->∀ b∈fp,ad1 (D9 X scope cl N' { s2 with heap:=h3,toks:=s2.toks } (upd H2 s2.heap.objs.size (.lst [])) fp fun _ _=>False) [] H' b:=fun {H'} hn b hb=>by
  obtain⟨f0,f1,f2',f3',f4,f5⟩:=f3 b hb
  refine⟨hn b hb,?_,fun z=>?_,.inl hb,fun x c ex=>f4 x c (hcl.get ex),fun p hp=>nomatch hp⟩
  ·show b≠h3.objs.size
   rw[size3]
   exact l7 (E4 (fpl b hb))
  ·rcases j6.mp (I3'.stkSub b z) with q | q
   ·exact f1 q
   ·exact f2' q
 have fin:∀ (s':Shared) (σ':St) (H':Hp),Inv (D9 X scope cl N' { s2 with heap:=h3,toks:=s2.toks } (upd H2 s2.heap.objs.size (.lst [])) fp fun _ _=>False) [] σ' H' s'->Q (.ref s2.heap.objs.size) H' ->
   ay3 (u7 X.prog X.w) X.A X.xe use R (.ref s2.heap.objs.size) h3.objs.size (.ok .next) s':=fun s' σ' H' I' q'=>by
  obtain⟨m,hm,_⟩:=id I'.loc
  have I5:Inv X pins σ H' s':=I3'.call' (ch:=fp) I'.os I'.base I'.hok I'.bare fun b hb=>by
   obtain⟨f0,f1,f2',f3',f4,f5⟩:=f3 b hb
   exact⟨f3',f1,f4,f5⟩
  exact hend h3.objs.size s2.heap.objs.size s' H' I5 q' I'.free (L9 I3'.lt) I3'.sz (fun x c ex z=>by
   obtain⟨v',q2⟩:=I3'.cell x c ex
   exact absurd q2.lt (by rw[z];exact D0 _)) (fun p hp z=>absurd (d5 (I3'.pin p hp).1) (by rw[z];exact D0 _)) ⟨m,hm⟩
 have loop:∀ s5:Shared,s5={ s2 with heap:=h1,toks:=s2.toks+([]:List (Str × Value)).length } ->
   al6 (u7 X.prog X.w) X.A (.compLoop (.ListComp elt [⟨tg,iter,ifs,0⟩] scope pos) 0 (.ref it) (.ref s2.heap.objs.size) (P7 scope cl h3.objs.size X.env)) (ay3 (u7 X.prog X.w) X.A X.xe use R (.ref s2.heap.objs.size) h3.objs.size) s5:=by
  rintro s5 rfl
  refine bM9 rfl (fun n s'=>∃ i xs σ' H',Inv (D9 X scope cl N' { s2 with heap:=h3,toks:=s2.toks } (upd H2 s2.heap.objs.size (.lst [])) fp fun _ _=>False) [] σ' H' s'/\tn i s'.heap/\(∀ b∈fp,H' b=none)/\W i n xs σ' H')
   (fun n s6 hI=>?_) m0 ⟨0,[],ax2 lk σ,_,I4,st4,fun b hb=>(f3 b hb).1,w0⟩
  obtain⟨i,xs,σ6,H6,I6,st6,fr6,w6⟩:=hI
  show q8 _ X.A ((compTurn (.ListComp elt [⟨tg,iter,ifs,0⟩] scope pos) 0 (.ref it) (.ref s2.heap.objs.size) (P7 scope cl h3.objs.size X.env)).onRaise (fun x=>do aw7 x (P7 scope cl h3.objs.size X.env);bi0 x)) _ _ s6
  refine bX9 ?_
  rw[bA7]
  refine b8 (Z0 (b8 ?_))
  obtain⟨hD6,hw⟩:=turn i n xs σ6 H6 w6
  rcases hw with⟨stop,qn⟩ | ⟨go,hlen,step⟩
  ·refine thn (T.done (D9 X scope cl N' { s2 with heap:=h3,toks:=s2.toks } (upd H2 s2.heap.objs.size (.lst [])) fp fun _ _=>False) rfl rfl rfl hc i [] s6 σ6 H6 _ I6 (stat fr6) st6 stop) fun r s7 ⟨hr,I7⟩=>?_
   subst hr
   exact i7 (fin s7 σ6 H6 I7 qn)
  ·refine thn (T.item (D9 X scope cl N' { s2 with heap:=h3,toks:=s2.toks } (upd H2 s2.heap.objs.size (.lst [])) fp fun _ _=>False) rfl rfl rfl hc i [] s6 σ6 H6 _ I6 (stat fr6) st6 go) fun r s7 ⟨u,hr,h7⟩=>?_
   subst hr
   refine b8 (thn h7 fun _ s8 ⟨x,H8,I8,r8,y8,st8,fr8⟩=>?_)
   have I8':=I8.pinned (stat fr8) (T.obj _ _ st8)
   refine b8 (E5 (hg _ _ _ _ s8 σ6 H8 x u _ I8' r8 (step x H8 y8)) (fun _ s9 ⟨σ9,H9,I9,q9⟩=>?_) (fun _ _ z=>False.elim z))
   refine b8 (E5 (ht _ _ _ _ s9 σ9 H9 _ I9 q9) (fun ok s10 ⟨H10,I10,q10⟩=>?_) (fun _ _ z=>False.elim z))
   have bo4:∀ {σ':St} {H':Hp} {ys:List V} {s':Shared},Inv (D9 X scope cl N' { s2 with heap:=h3,toks:=s2.toks } (upd H2 s2.heap.objs.size (.lst [])) fp fun _ _=>False) ([]++ao0 fp s8.heap) σ' H' s'->(∃ m',m'<n/\W (i+1) m' ys σ' H') ->
     ∃ m',m'<n/\∃ i xs σ' H',Inv (D9 X scope cl N' { s2 with heap:=h3,toks:=s2.toks } (upd H2 s2.heap.objs.size (.lst [])) fp fun _ _=>False) [] σ' H' s'/\tn i s'.heap/\(∀ b∈fp,H' b=none)/\W i m' xs σ' H':=fun {σ' H' ys s'} I' ⟨m',hm,w'⟩=>by
    refine⟨m',hm,i+1,ys,σ',H',I'.unpinned,T.keep _ _ _ st8 fun b hb o eb=>(I'.pin (b,o) (o4 _ (o4 _ (R4 hb eb)))).1,fun b hb=>?_,w'⟩
    obtain⟨o,eb,_⟩:=T.obj _ _ st8 b hb
    exact(I'.pin (b,o) (o4 _ (o4 _ (R4 hb eb)))).2.1
   cases ok with
   | false =>
    have q10':∃ m',m'<n/\W (i+1) m' xs σ9 H10:=by simpa using q10
    exact i7 ⟨rfl,bo4 I10 q10'⟩
   | true =>
    rw[if_pos rfl]at q10
    refine b8 (b8 (E5 (he _ _ _ _ s10 σ9 H10 _ I10 q10) (fun y s11 ⟨v11,H11,I11,r11,hD11,q11⟩=>?_) (fun _ _ z=>False.elim z)))
    refine b8 (E5 (L7 (X:=D9 X scope cl N' { s2 with heap:=h3,toks:=s2.toks } (upd H2 s2.heap.objs.size (.lst [])) fp fun _ _=>False) _ s11 σ9 H11 (.ref s2.heap.objs.size) [v11] (.ref s2.heap.objs.size) [y] (fun _ H'=>∃ m',m'<n/\W (i+1) m' (xs++[v11]) σ9 H') I11 rfl (.cons r11 .nil) ⟨s2.heap.objs.size,xs,v11,rfl,rfl,hD11,hlen,q11⟩) (fun _ s12 ⟨_,H12,I12,_,q12⟩=>?_) (fun _ _ z=>False.elim z))
    exact i7 (i7 ⟨rfl,bo4 I12 q12⟩)
 exact at1 (loop _ rfl) (T.self X.A 0 _ _ _ st4 (loop _ rfl))
def bY6 (i:Nat)(t:TE):TS:=fun D σ H=>t σ H fun v H1=>D.nx (σ.set i (some v)) H1
theorem bD8 {y:Str}{py:Pos}{elt iter:Expr}{ifs:List Expr}{spos:Pos}{wi:TI}{g:TG}{tt:TT}
  (hN:X.N.Nodup)(hy:X.N[i]?=some y)(hyl:X.env.scope.names.lookup y=some .local)
  (hsw:swapsWith (.ListComp elt [⟨tg,iter,ifs,0⟩] scope pos) (some (.Name y py)) spos.line X.env=pure true)
  (hc:X.calm=true)(hi:PI X tg iter wi)(hclos:aQ0 scope X.env=pure cl)(hkind:scope.kind=.function)
  (hnames:∀ y∈scope.names,y.2=.local->scope.names.lookup y.1=some .local)(hcl:aO5 X.env cl)(hfr:aF0 scope.names cl=true)(hlk:bn7 X N' lk scope cl)
  (hg:∀ s3 H3 fp,PG (D9 X scope cl N' s3 H3 fp fun _ _=>False) tg g)(ht:∀ s3 H3 fp,PTs (D9 X scope cl N' s3 H3 fp fun _ _=>False) ifs tt)(he:∀ s3 H3 fp,PE (D9 X scope cl N' s3 H3 fp fun _ _=>False) elt te)
  (hs:∀ x,ab4 iter X.env x=pure x:=by intro _;rfl):PS X (.Assign [.Name y py] (.ListComp elt [⟨tg,iter,ifs,0⟩] scope pos) spos) (bY6 i (bc7 wi lk g tt te)):=by
 intro pins s σ H D I h
 rw[exec_Assign_Name_used _ _ _ _ hsw]
 refine b8 (Z0 (b8 ?_))
 show q8 _ X.A (do let _ <- comprehension (.ListComp elt [⟨tg,iter,ifs,0⟩] scope pos) scope X.env _ (newList []) false (eval iter X.env) (some (bM2 (.Name y py) X.env))) _ _ s
 refine b8 (thn (bm7 (use:=some (bM2 (.Name y py) X.env)) (R:=fun _ s'=>SP X pins D .next s') hc hi hclos hkind hnames hcl hfr hlk hg ht he hs I h
  fun C Dd s' H' I' q' hC hCL hCs hCc hCp ⟨m,hm⟩=>?_) fun _ s' hq=>i7 (i7 hq))
 show q8 _ X.A (bM2 (.Name y py) X.env (.ref Dd)) _ _ s'
 refine wpAny_assign_Name (aH3 (v:=.ref Dd) I' hN hy (.inl hyl) rfl (fun s2 I2 ⟨a,hsb,ha⟩=>?_) (.inr hyl))
 have hCa:C≠a:=by
  rcases ha with z | z
  ·rw[z];exact hCL
  ·exact(hCc y a z).symm
 refine⟨m,hm.sameBut hsb hCa,fun h' hs'=>?_⟩
 obtain⟨h0,g0,d0,t0,o0⟩:=s2
 exact⟨_,H',I2.turned (t':=t0) (it:=C) (fun b o hb eb=>(hs'.2 b hb).trans eb) hC hCL (.inr hCs) hCc hCp,q'⟩
end L2
namespace Grf
def S:Nat->(Nat->Int)->Int
 | 0,_=>0
 | n+1,f=>S n f+f n
theorem E1 {f g:Nat->Int}:∀ {n:Nat},(∀ i,i<n->f i=g i)->S n f=S n g
 | 0,_=>rfl
 | n+1,h=>by
  show S n f+f n=S n g+g n
  rw[E1 fun i hi=>h i (by omega),h n (by omega)]
theorem ax5 {f g:Nat->Int}:∀ {n:Nat},(∀ i,i<n->f i<=g i)->S n f<=S n g
 | 0,_=>N8 _
 | n+1,h=>by
  have h1:=ax5 (n:=n) fun i hi=>h i (by omega)
  have h2:=h n (by omega)
  show S n f+f n<=S n g+g n
  omega
theorem as3 (f g:Nat->Int):∀ n:Nat,S n (fun i=>f i+g i)=S n f+S n g
 | 0=>rfl
 | n+1=>by
  show S n (fun i=>f i+g i)+(f n+g n)=S n f+f n+(S n g+g n)
  rw[as3 f g n]
  omega
theorem Q0 (f g:Nat->Int):∀ n:Nat,S n (fun i=>f i - g i)=S n f - S n g
 | 0=>rfl
 | n+1=>by
  show S n (fun i=>f i - g i)+(f n - g n)=S n f+f n - (S n g+g n)
  rw[Q0 f g n]
  omega
theorem ab1:∀ n:Nat,S n (fun _=>0)=0
 | 0=>rfl
 | n+1=>by
  show S n (fun _=>0)+0=0
  rw[ab1 n];rfl
theorem Z9 (c:Int):∀ n:Nat,S n (fun _=>c)=(n:Int)*c
 | 0=>by simp[S]
 | n+1=>by
  show S n (fun _=>c)+c=((n+1:Nat):Int)*c
  rw[Z9 c n,show ((n+1:Nat):Int)=(n:Int)+1 by omega,bL9,am6]
theorem ag3 (c:Int)(f:Nat->Int):∀ n:Nat,S n (fun i=>c*f i)=c*S n f
 | 0=>by simp[S]
 | n+1=>by
  show S n (fun i=>c*f i)+c*f n=c*(S n f+f n)
  rw[ag3 c f n,af0]
theorem aj4 {f:Nat->Int}(h:∀ i,i<n->0<=f i):0<=S n f:=by
 have:=ax5 (f:=fun _=>0) (g:=f) (n:=n) h
 rw[ab1]at this
 exact this
theorem cd9 (c:Int)(h:j<n):S n (fun i=>if i=j then c else 0)=c:=by
 induction n with
 | zero=>omega
 | succ n ih =>
  show S n (fun i=>if i=j then c else 0)+(if n=j then c else 0)=c
  by_cases e:n=j
  ·rw[if_pos e,E1 (g:=fun _=>0) fun i hi=>if_neg (by omega),ab1];omega
  ·rw[if_neg e,ih (by omega)];omega
theorem bb6 {f g:Nat->Int}(h:j<n)(hf:∀ i,i<n->i≠j->f i=g i):S n f=S n g+(f j - g j):=by
 have:S n f=S n (fun i=>g i+(if i=j then f j - g j else 0)):=E1 fun i hi=>by
  by_cases e:i=j
  ·rw[if_pos e,e];omega
  ·rw[if_neg e,hf i hi e];omega
 rw[this,as3,cd9 _ h]
theorem bI2 {f:Nat->Int}(h:j<n)(hf:∀ i,i<n->0<=f i):f j<=S n f:=by
 have h1:=bb6 (f:=f) (g:=fun i=>if i=j then 0 else f i) h (fun i _ e=>by rw[if_neg e])
 have h2:0<=S n (fun i=>if i=j then 0 else f i):=aj4 fun i hi=>by
  by_cases e:i=j
  ·rw[if_pos e];exact N8 _
  ·rw[if_neg e];exact hf i hi
 rw[if_pos rfl]at h1
 omega
def b2 (b:Bool):Int:=if b then 1 else 0
theorem ax3:b2 true=1:=rfl
theorem ao7:b2 false=0:=rfl
theorem aa3 (b:Bool):0<=b2 b:=by cases b<;>decide
theorem by1 (b:Bool):b2 b<=1:=by cases b<;>decide
structure Gph (g:Nat->Nat->Bool):Prop where
 sym:∀ i j,g i j=g j i
 irr:∀ i,g i i=false
def deg (n:Nat)(g:Nat->Nat->Bool)(i:Nat):Int:=S n fun j=>b2 (g i j)
def cf6 (g:Nat->Nat->Bool)(a b:Nat)(v:Bool):Nat->Nat->Bool:=fun i j=>if (i=a/\j=b)\/(i=b/\j=a) then v else g i j
end Grf
namespace Grf
structure Ex (g:Nat->Nat->Bool) (a b c d:Nat):Prop where
 ab:a≠b
 ac:a≠c
 ad:a≠d
 bc:b≠c
 bd:b≠d
 cd:c≠d
 t1:g a b=true
 t2:g c d=true
 n1:g a d=false
 n2:g c b=false
end Grf
namespace Grf
def cnt (n:Nat)(a:Nat->Bool):Int:=S n fun i=>b2 (a i)
def sm (n:Nat)(a:Nat->Bool)(d:Nat->Int):Int:=S n fun i=>if a i=true then d i else 0
def put (a:Nat->Bool)(j:Nat)(v:Bool):Nat->Bool:=fun i=>if i=j then v else a i
theorem aE3 (n:Nat)(a:Nat->Bool):0<=cnt n a:=aj4 fun i _=>aa3 _
theorem bH6 {a b:Nat->Bool}(h:∀ i,a i=true->b i=false):cnt n a+cnt n b<=n:=by
 unfold cnt
 rw[<- as3]
 have:=ax5 (f:=fun i=>b2 (a i)+b2 (b i)) (g:=fun _=>1) (n:=n) (fun i _=>by
  show b2 (a i)+b2 (b i)<=1
  cases ha:a i with
  | true=>rw[h i ha];decide
  | false=>have:=by1 (b i);rw[ao7];omega)
 rw[Z9]at this
 omega
theorem bx4 {a:Nat->Bool}(h:∀ i,i<n->a i=false):cnt n a=0:=by
 unfold cnt
 rw[E1 (g:=fun _=>0) fun i hi=>by rw[h i hi];rfl]
 exact ab1 n
theorem aL4 {a:Nat->Bool}(h:∀ i,i<n->a i=false):sm n a d=0:=by
 unfold sm
 rw[E1 (g:=fun _=>0) fun i hi=>by rw[h i hi];rfl]
 exact ab1 n
theorem bj0 {a:Nat->Bool}(hd:∀ i,i<n->0<=d i):0<=sm n a d:=aj4 fun i hi=>by
 cases a i with
 | true=>exact hd i hi
 | false=>exact N8 _
theorem bH7 {a:Nat->Bool}(h:cnt n a≠0):∃ i,i<n/\a i=true:=by
 by_cases hc:∃ i,i<n/\a i=true
 ·exact hc
 ·exact absurd (bx4 fun i hi=>by
   cases ha:a i with
   | false=>rfl
   | true=>exact absurd ⟨i,hi,ha⟩ hc) h
end Grf
namespace Grf
theorem bV0 {p:Nat->Prop}{f:Nat->Int}:∀ {n:Nat},(∃ i,i<n/\p i)->∃ u,u<n/\p u/\∀ i,i<n->p i->f u<=f i:=by
 intro n
 induction n with
 | zero=>rintro⟨i,h,_⟩;omega
 | succ n ih =>
  rintro⟨i,hi,pi⟩
  by_cases h:∃ i,i<n/\p i
  ·obtain⟨u,hu,pu,hm⟩:=ih h
   by_cases c:p n/\f n<f u
   ·refine⟨n,by omega,c.1,fun j hj pj=>?_⟩
    by_cases e:j=n
    ·rw[e];exact N8 _
    ·have:=hm j (by omega) pj;have:=c.2;omega
   ·refine⟨u,by omega,pu,fun j hj pj=>?_⟩
    by_cases e:j=n
    ·subst e
     have:¬ f j<f u:=fun z=>c ⟨pj,z⟩
     omega
    ·exact hm j (by omega) pj
  ·have e:i=n:=by
    by_cases e:i=n
    ·exact e
    ·exact absurd ⟨i,by omega,pi⟩ h
   subst e
   refine⟨i,by omega,pi,fun j hj pj=>?_⟩
   by_cases e:j=i
   ·rw[e];exact N8 _
   ·exact absurd ⟨j,by omega,pj⟩ h
end Grf
namespace Grf
def mnf (r x:Int):Int:=if r<x then r else x
theorem bF6 (r x:Int):mnf r x<=x:=by unfold mnf;split<;>omega
theorem bF5 (r x:Int):mnf r x<=r:=by unfold mnf;split<;>omega
theorem bv2 {r x y:Int}(h:x<=y):mnf r x<=mnf r y:=by unfold mnf;split<;>split<;>omega
def roomF (n:Nat)(d:Nat->Int)(A:Nat->Bool):Int:=cnt n A*(cnt n A - 1)+S n (fun i=>if A i=true then 0 else mnf (cnt n A) (d i)) - sm n A d
def Top (n:Nat)(d:Nat->Int)(A:Nat->Bool):Prop:=∀ i j,i<n->j<n->A i=true->A j=false->d j<=d i
theorem bp1 {A a:Nat->Bool}{φ:Int->Int}(hφ:∀ x y,x<=y->φ x<=φ y)(ht:Top n d A)(hc:cnt n a=cnt n A):sm n a (fun i=>φ (d i))<=sm n A (fun i=>φ (d i)):=by
 by_cases h0:cnt n A=0
 ·have za:∀ i,i<n->a i=false:=fun i hi=>by
   cases h:a i with
   | false=>rfl
   | true =>
    have:=bI2 (f:=fun i=>b2 (a i)) hi (fun i _=>aa3 _)
    have e:b2 (a i)=1:=by rw[h];rfl
    have t:b2 (a i)<=cnt n a:=this
    omega
  have zA:∀ i,i<n->A i=false:=fun i hi=>by
   cases h:A i with
   | false=>rfl
   | true =>
    have:=bI2 (f:=fun i=>b2 (A i)) hi (fun i _=>aa3 _)
    have e:b2 (A i)=1:=by rw[h];rfl
    have t:b2 (A i)<=cnt n A:=this
    omega
  rw[aL4 za,aL4 zA]
  exact N8 _
 ·obtain⟨m,hm,hAm,hmin⟩:=bV0 (p:=fun i=>A i=true) (f:=d) (bH7 h0)
  have key:S n (fun i=>(if a i=true then φ (d i) else 0) - (if A i=true then φ (d i) else 0))<=S n (fun i=>φ (d m)*b2 (a i) - φ (d m)*b2 (A i)):=ax5 fun i hi=>by
   cases ha:a i with
   | true =>
    cases hA:A i with
    | true=>rw[if_pos rfl];omega
    | false =>
     rw[if_pos rfl,if_neg (by decide),ax3,ao7,ae8,T6]
     have:=hφ _ _ (ht m i hm hi hAm hA)
     omega
   | false =>
    cases hA:A i with
    | true =>
     rw[if_pos rfl,if_neg (by decide),ax3,ao7,ae8,T6]
     have:=hφ _ _ (hmin i hi hA)
     omega
    | false=>rw[if_neg (by decide)];omega
  rw[Q0,Q0,ag3,ag3]at key
  have e:φ (d m)*S n (fun i=>b2 (a i))=φ (d m)*S n (fun i=>b2 (A i)):=by
   show φ (d m)*cnt n a=φ (d m)*cnt n A
   rw[hc]
  show S n (fun i=>if a i=true then φ (d i) else 0)<=S n (fun i=>if A i=true then φ (d i) else 0)
  omega
end Grf
namespace Web
open L2
def rng (n:Nat):List Int:=(bJ2 0 n).map fun k:Nat=>(k:Int)
theorem ak5 {x:Int}:x∈rng n↔0<=x/\x<n:=by
 unfold rng
 constructor
 ·intro h
  obtain⟨k,hk,rfl⟩:=E8.mp h
  have:=bW2.mp hk
  omega
 ·intro h
  exact E8.mpr ⟨x.toNat,bW2.mpr ⟨by omega,by omega⟩,by omega⟩
theorem bD1 (n:Nat):(rng n).length=n:=by unfold rng;rw[b9,aF4]
theorem at8 (n:Nat):(rng n).Nodup:=by
 unfold rng
 refine List.Pairwise.map _ (fun a b h=>?_) (List.nodup_range' (step:=1) (by decide))
 intro e
 exact h (by omega)
def rest (zs:List Int)(p:Int):List Int:=zs.filter fun x=>decide (x≠p)
open Grf (S b2 Gph deg cnt sm Top roomF)
theorem bh0 (f:Nat->Int):∀ n:Nat,S n f=((C5 n).map f).sum
 | 0=>rfl
 | n+1=>by
  rw[T4,p7,aK6,<- bh0 f n]
  show S n f+f n=_+(f n+0)
  omega
theorem map_getD (φ:Int->Int)(xs:List Int):(C5 xs.length).map (fun i=>φ (xs.getD i 0))=xs.map φ:=by
 refine aa1 fun i=>?_
 rw[E2,E2]
 rcases F8 i xs.length with h | h
 ·rw[ax7 h,i6 h]
  show some (φ (xs.getD i 0))=some (φ xs[i])
  rw[j8,i6 h]
  rfl
 ·rw[C3 h,C3 (by rw[B0];exact h)]
  rfl
theorem aE8 (φ:Int->Int)(xs:List Int):S xs.length (fun i=>φ (xs.getD i 0))=(xs.map φ).sum:=by rw[bh0,map_getD]
theorem by7 (xs:List Int):S xs.length (fun i=>xs.getD i 0)=xs.sum:=by
 have:=aE8 (fun x=>x) xs
 rw[List.map_id']at this
 exact this
theorem bb7 {f:Nat->Int}:∀ {L:List Int},L.Nodup->(∀ z∈L,0<=z/\z<n)->S n (fun i=>if (i:Int)∈L then f i else 0)=(L.map fun z=>f z.toNat).sum
 | [],_,_=>by
  rw[Grf.E1 (g:=fun _=>0) fun i _=>by simp]
  exact Grf.ab1 n
 | z::L,nd,h=>by
  obtain⟨h1,h2⟩:=G5.mp nd
  obtain⟨z0,z1⟩:=h z m7
  rw[x8,O8,<- bb7 h2 fun y hy=>h y (i8 _ hy)]
  rw[Grf.bb6 (j:=z.toNat) (f:=fun i=>if (i:Int)∈z::L then f i else 0) (g:=fun i=>if (i:Int)∈L then f i else 0) (by omega) (fun i _ hi=>by
   show (if (i:Int)∈z::L then f i else 0)=if (i:Int)∈L then f i else 0
   by_cases e:(i:Int)∈L
   ·rw[if_pos e,if_pos (i8 _ e)]
   ·rw[if_neg e,if_neg (fun c=>by
     rcases j6.mp c with c | c
     ·exact hi (by omega)
     ·exact e c)])]
  show _+((if ((z.toNat:Nat):Int)∈z::L then f z.toNat else 0) - (if ((z.toNat:Nat):Int)∈L then f z.toNat else 0))=_
  have ez:((z.toNat:Nat):Int)=z:=by omega
  rw[ez,if_pos m7,if_neg h1]
  omega
theorem bD0 (ns:List Int):(rng ns.length).map (fun z=>ns.getD z.toNat 0)=ns:=by
 unfold rng
 rw[bz6,<- bA2]
 have:=map_getD (fun x=>x) ns
 rw[List.map_id']at this
 exact this
theorem aC1 (hp:zs.Perm (rng ns.length))(hs:zs.Pairwise (ole ns)):zs.map (fun z=>ns.getD z.toNat 0)=(up2 ns).reverse:=by
 refine bf4 ?_ ?_
 ·have:=hp.map (fun z:Int=>ns.getD z.toNat 0)
  rw[bD0]at this
  exact this
 ·refine List.Pairwise.map _ (fun a b h=>?_) hs
  have:=aM8.mp h
  show ns.getD b.toNat 0<=ns.getD a.toNat 0
  omega
theorem aH8 (hp:zs.Perm (rng ns.length))(hs:zs.Pairwise (ole ns)){r:Nat}(hr:r<=ns.length) :
  cnt ns.length (fun i=>decide ((i:Int)∈zs.take r))=r/\Top ns.length (fun i=>ns.getD i 0) (fun i=>decide ((i:Int)∈zs.take r))/\roomF ns.length (fun i=>ns.getD i 0) (fun i=>decide ((i:Int)∈zs.take r))=bs0 ns r:=by
 have nd:zs.Nodup:=hp.nodup_iff.mpr (at8 _)
 have hzl:zs.length=ns.length:=by rw[hp.length_eq,bD1]
 have hin:∀ z∈zs,0<=z/\z<(ns.length:Int):=fun z hz=>ak5.mp (hp.mem_iff.mp hz)
 have ndA:(zs.take r).Nodup:=nd.sublist (U1 r zs)
 have ndB:(zs.drop r).Nodup:=nd.sublist (aj6 r zs)
 have inA:∀ z∈zs.take r,0<=z/\z<(ns.length:Int):=fun z hz=>hin z (K0 hz)
 have inB:∀ z∈zs.drop r,0<=z/\z<(ns.length:Int):=fun z hz=>hin z (J9 hz)
 have app:=nd
 rw[<- E7 r zs]at app
 have cross:=(bW3.mp app).2.2
 have mem_or:∀ i:Nat,i<ns.length->(i:Int)∈zs.take r\/(i:Int)∈zs.drop r:=fun i hi=>by
  have:(i:Int)∈zs:=hp.mem_iff.mpr (ak5.mpr ⟨by omega,by omega⟩)
  rw[<- E7 r zs]at this
  exact u9.mp this
 have hc:cnt ns.length (fun i=>decide ((i:Int)∈zs.take r))=r:=by
  have:=bb7 (n:=ns.length) (f:=fun _=>1) ndA inA
  have e:cnt ns.length (fun i=>decide ((i:Int)∈zs.take r))=S ns.length (fun i=>if (i:Int)∈zs.take r then 1 else 0):=Grf.E1 fun i _=>by
   by_cases c:(i:Int)∈zs.take r
   ·rw[if_pos c];simp[b2,c]
   ·rw[if_neg c];simp[b2,c]
  rw[e,this]
  have l:(zs.take r).length=r:=by rw[u5];omega
  have:∀ L:List Int,(L.map fun _=>(1:Int)).sum=L.length:=fun L=>by
   induction L with
   | nil=>rfl
   | cons a L ih=>rw[x8,O8,ih,m6];omega
  rw[this,l]
 refine⟨hc,fun i j hi hj h1 h2=>?_,?_⟩
 ·have a1:(i:Int)∈zs.take r:=of_decide_eq_true h1
  have a2:(j:Int)∈zs.drop r:=(mem_or j hj).resolve_left (of_decide_eq_false h2)
  have pw:=hs
  rw[<- E7 r zs]at pw
  have:=aM8.mp ((C2.mp pw).2.2 _ a1 _ a2)
  rw[u6,u6]at this
  show ns.getD j 0<=ns.getD i 0
  omega
 ·have of:=aC1 hp hs
  have rm:=aZ2 (ns:=ns) (r:=r) of
  unfold roomF
  rw[hc,<- rm,<- aF2,<- aF3,bz6]
  have s1:sm ns.length (fun i=>decide ((i:Int)∈zs.take r)) (fun i=>ns.getD i 0)=((zs.take r).map fun z=>ns.getD z.toNat 0).sum:=by
   rw[<- bb7 (n:=ns.length) (f:=fun i=>ns.getD i 0) ndA inA]
   refine Grf.E1 fun i _=>?_
   show (if decide ((i:Int)∈zs.take r)=true then ns.getD i 0 else 0)=_
   by_cases c:(i:Int)∈zs.take r
   ·rw[if_pos c,decide_eq_true c,if_pos rfl]
   ·rw[if_neg c,decide_eq_false c,if_neg (by decide)]
  have s2:S ns.length (fun i=>if decide ((i:Int)∈zs.take r)=true then 0 else Grf.mnf r (ns.getD i 0))=((zs.drop r).map (mn r ∘ fun z=>ns.getD z.toNat 0)).sum:=by
   have:=bb7 (n:=ns.length) (f:=fun i=>mn r (ns.getD i 0)) ndB inB
   show _=((zs.drop r).map fun z=>mn r (ns.getD z.toNat 0)).sum
   rw[<- this]
   refine Grf.E1 fun i hi=>?_
   by_cases c:(i:Int)∈zs.take r
   ·rw[decide_eq_true c,if_pos rfl,if_neg (fun z=>cross _ c _ z rfl)]
   ·rw[decide_eq_false c,if_neg (by decide),if_pos ((mem_or i hi).resolve_left c)]
    rfl
  rw[s1,s2]
theorem bQ9 (ns:List Int):∃ zs:List Int,zs.Perm (rng ns.length)/\zs.Pairwise (ole ns):=by
 let le:Int->Int->Bool:=fun x y=>decide (ns.getD y.toNat 0<ns.getD x.toNat 0\/(ns.getD x.toNat 0=ns.getD y.toNat 0/\x<=y))
 refine⟨(rng ns.length).mergeSort le,List.mergeSort_perm _ _,?_⟩
 have:=List.pairwise_mergeSort (le:=le) (fun a b c h1 h2=>?_) (fun a b=>?_) (rng ns.length)
 ·exact this.imp fun h=>aM8.mpr (of_decide_eq_true h)
 ·have g1:=of_decide_eq_true h1
  have g2:=of_decide_eq_true h2
  exact decide_eq_true (by omega)
 ·rw[Bool.or_eq_true]
  by_cases h:ns.getD b.toNat 0<ns.getD a.toNat 0\/(ns.getD a.toNat 0=ns.getD b.toNat 0/\a<=b)
  ·exact .inl (decide_eq_true h)
  ·exact .inr (decide_eq_true (by omega))
theorem aE7 (h:AllP ns)(hi:i<ns.length):0<=ns.getD i 0:=by
 rw[j8,i6 hi]
 exact h i _ (i6 hi)
end Web
namespace Web
open L2
open Grf (S b2 Gph deg cf6)
theorem bE2 (h1:i<j)(h2:j<n):[(i:Int),(j:Int)]∈af5 n:=by
 unfold af5
 refine bX2.mpr ⟨i,D6.mpr (by omega),?_⟩
 unfold al9
 exact E8.mpr ⟨j - (i+1),D6.mpr (by omega),by
  rw[show ((j - (i+1):Nat):Int)=(j:Int) - ((i:Int)+1) by omega]
  rw[show (i:Int)+1+((j:Int) - ((i:Int)+1))=(j:Int) by omega]⟩
end Web
namespace Web
open L2
open Grf (S b2 Gph deg cnt sm Top roomF)
end Web
namespace Web
open L2
structure ch9 (ns ps left:List Int) (ks:List (List Int)):Prop where
 len:left.length=ps.length
 nd:ps.Nodup
 inn:∀ q∈ps,0<=q/\q<ns.length
 ends:∀ k∈ks,as4 ns.length k
 nodup:(ks.map up).Nodup
 out:∀ a b:Int,[a,b]∈ks->¬ (a∈ps/\b∈ps)
 cnt:∀ i q:Nat,ps[i]?=some (q:Int)->(cd5 ks q:Int)+left.getD i 0=ns.getD q 0
 done:∀ q:Nat,q<ns.length->(q:Int)∉ps->(cd5 ks q:Int)=ns.getD q 0
theorem aT9:∀ {l m:List (List Int)},l.Nodup->(∀ x∈l,x∈m)->l.length<=m.length
 | [],m,_,_=>v8 _
 | x::l,m,nd,h=>by
  have h1:=G5.mp nd
  have hm:=h x m7
  have h2:∀ y∈l,y∈m.erase x:=fun y hy=>by
   have hne:y≠x:=fun e=>h1.1 (e ▸ hy)
   exact(List.mem_erase_of_ne hne).mpr (h y (i8 _ hy))
  have h3:=aT9 h1.2 h2
  rw[List.length_erase_of_mem hm]at h3
  have h4:0<m.length:=List.length_pos_of_mem hm
  simp only[m6]
  omega
theorem bN5 (hn:n<=24)(nd:ks.Nodup)(h:∀ k∈ks,Up n k):ks.length<=276:=
 C4 (aT9 nd fun k hk=>by
  obtain⟨i,j,h1,h2,rfl⟩:=h k hk
  exact bE2 h1 h2) (aI2 n hn)
end Web
namespace L2
open PySem PySem.Spec PyProof.Rows PySem.SeqAt
theorem bc4:∀ {bs:List Bool} {its:List Value},D3 (bs.map V.bl) its->its=bs.map Value.bool
 | [],_,.nil=>rfl
 | b::bs,_,.cons r t=>by rw[bc4 t,show _=Value.bool b from r];rfl
theorem aM4 {a b:Expr}{tb:TE}(K:W.Frag)(hK:X.K=K)(ha:PE X a ta)(hb:PE X b tb)(hs:aO3 b):PE X (.Subscript a b pos) (tOp (bP8 K) ta tb):=by
 cases hK
 exact C1 C8 ha hb hs
theorem ay9 {a b:Expr}{tb:TE}(K:W.Frag)(hK:X.K=K)(ha:PE X a ta)(hb:PE X b tb)(hs:aO3 b):PE X (.Subscript a b pos) (tOp (rIx K) ta tb):=by
 cases hK
 exact C1 bT4 ha hb hs
end L2
namespace L2
open PySem PySem.Spec PyProof.Rows
def ca6:R2:=fun x y H Q=>∃ l b xs zs,x=.ref l/\y=.ref b/\H l=some (.lst xs)/\H b=some (.lst zs)/\xs.length+zs.length<=1000/\Q (.ref l) (upd H l (.lst (xs++zs)))
theorem ba5:fillsInplaceSlot (.type "list") "add" true=pure false:=by
 unfold fillsInplaceSlot
 show (ay0 (.type "list") (dunderI "add") >>= fun fi=>pure (fi.isSome && !isSeqSlot fi))=pure false
 rw[F.slot_list_iadd.lookup]
 rw[pure_bind]
 congr 1
theorem bl1:seqSlot? (.type "list") (dunderI "add")=pure (some (.builtin "list.__iadd__")):=by
 unfold seqSlot?
 rw[F.slot_list_iadd.lookup]
 rfl
theorem bT9:PIp X .Add ca6:=by
 intro pins s σ H x y v u Q I rx ry h
 obtain⟨l,b,xs,zs,rfl,rfl,hH,hB,hz,q⟩:=h
 cases rx
 cases ry
 obtain⟨z,its,n,r,hl,e⟩:=I.lstM hH
 obtain⟨z2,its2,n2,r2,hl2,e2⟩:=I.lstM hB
 have hln:=r.length
 have hln2:=r2.length
 unfold inplaceOp
 refine E9 ?_
 refine b8 (bM3 (T:="list") ⟨_,e,rfl⟩ (b8 (aF9 ba5 ?_)))
 show q8 _ _ (if false=true then _ else _) _ _ s
 rw[if_neg j9]
 refine b8 (wpAny_binaryOp1_none (a:=.ref l) (b:=.ref b) (s:=s) (nm:="add") (T:="list") ⟨_,e,rfl⟩ ⟨_,e2,rfl⟩ noFill_list_add ?_)
 refine b8 (aF9 bl1 ?_)
 refine b8 (ay1 ?_)
 have hd:¬(!its.toArray.isEmpty && Builtin.List.listTooLong (its.toArray.size+its2.toArray.size))=true:=extend_door (by rw[d9,d9,N1];omega)
 refine am8 F.slot_list_iadd ⟨_,e,rfl⟩ F.entry_list_iadd (F.args_list_iadd_2 _ _) (PySem.AutoSeq1.list___iadd___list_list_0 l its.toArray n b its2.toArray n2 hd (by rw[d9,N1];omega) (by rw[d9,d9,N1];omega)) ⟨e,e2,?_⟩
 refine⟨.ref l,_,I.lset (its':=its++its2) hH e ?_ (r.append r2) ?_,rfl,q⟩
 ·show its.toArray++its2.toArray=_
  simp
 ·rw[m5,N1];omega
end L2
set_option Elab.async false
set_option maxRecDepth 100000
namespace L2
open PySem PySem.Spec PyProof.Rows
section
variable (P:Program) (w:World)
end
section
variable {o:HO}
end
section
variable {x e:Addr} {o':HO}
end
section
variable {fs fs' ex ex':List Addr} {H1 H2:Hp} {h1 h2:Heap} {x e:Addr} {o:HO}
end
section
variable {σ:List (Option V)}
end
section
variable {a b:Expr} {tb:TE}
variable {tA tB':TT} {rest:List Expr}
end
section
variable {σ:St}
end
section
variable {σ:St}
end
section
variable {st:Stmt} {rest:List Stmt} {t u:TS}
end
section
variable {a b c:Expr} {tb tc:TE}
end
section
variable {a b c:Expr} {tb tc:TE}
end
section
variable {K:W.Frag} {x dx:Addr} {name:Str}
end
section
variable {dx:Addr} {fs fs':List (Str × V)}
end
section
variable {σ:St} {dx:Addr} {fs:List (Str × V)} {f:Str} {v:V}
end
section
variable {value:Expr} {f:Str} {pos' tpos:Pos} {tv:TE}
end
section
variable {σ:St} {c:Value} {b:Bool}
end
section
variable {t:TA}
end
section
variable {σ:St} {s':Shared}
end
section
variable {CX:CXT} {k:Nat} {sp:Sp} {dvs:List V} {ds:List Value} {E:XK} {m:Str} {apos:Pos} {t:TA}
end
section
variable {CX:CXT} {k:Nat} {ks:List Str} {sp:Sp} {E:XK} {m:Str} {apos kpos:Pos} {kws:List aw5} {t tk:TA} {nm:Option Str}
end
section
variable {t:TA} {id T:String} {r:List V->Hp->VK->Prop}
end
section
variable {κ:Type} [DecidableEq κ]
end
section
variable {σ:St} {y v:V} {r:Value} {o:Option V}
end
section
variable {σ:St} {kvs:List (Key × V)} {k:Key}
end
section
variable {i value:Expr} {pos' tpos:Pos} {td ty tv:TE}
end
structure M1 (X:Cx) (o:Expr) (m:Str) (apos:Pos) (e:Expr) (cpos:Pos):Prop where
 base:aK2 o m X.env (eval o X.env)=eval o X.env
 few:((O9 cpos (u4 [e] X.env)).all (fun x=>!x.1) && (af3 cpos (R7 [] X.env)).all (fun x=>x.1.isSome)
  && decide (([e]:List Expr).length+([]:List aw5).length+(if ([]:List aw5).isEmpty then 0 else 1)<30))=true
 line:(apos.endLine == cpos.line)=true
 trees:O9 cpos (u4 [e] X.env)=[(false,eval e X.env)]
structure M2 (X:Cx) (o:Expr) (m:Str) (apos:Pos) (e f:Expr) (cpos:Pos):Prop where
 base:aK2 o m X.env (eval o X.env)=eval o X.env
 few:((O9 cpos (u4 [e,f] X.env)).all (fun x=>!x.1) && (af3 cpos (R7 [] X.env)).all (fun x=>x.1.isSome)
  && decide (([e,f]:List Expr).length+([]:List aw5).length+(if ([]:List aw5).isEmpty then 0 else 1)<30))=true
 line:(apos.endLine == cpos.line)=true
 trees:O9 cpos (u4 [e,f] X.env)=[(false,eval e X.env),(false,eval f X.env)]
section
variable {σ:St} {y d:V} {r:Value} {o:Option V}
end
section
variable {f:Expr} {apos cpos:Pos} {td ty tx:TE}
end
section
variable {σ:St} {kvs:List (Key × V)}
end
section
variable {σ:St} {y:V}
end
end L2
namespace Att
open PySem PySem.W PySem.Calls PyProof.Rows
section
variable {K:Frag}
end
end Att
namespace L2
open PySem PySem.Spec PyProof.Rows
section
variable {K:W.Frag} {mg:Str->Option Value} {base:Heap}
end
section
variable {κ:Type} [DecidableEq κ]
end
theorem bm6 {K:W.Frag} {g:TG} {tt:TT} {Qd:Addr->Hp->Prop} {σ0:St} (hS:SqL K H a ys\/SqT K H a ys) (hz:ys.length<=d7)
  (Pv:Addr->Nat->List V->St->Hp->Prop) (h0:∀ D,H D=none->Pv D 0 [] σ0 (upd H D (.lst []))) (hl:∀ D i xs σ H',H D=none->i<=ys.length->Pv D i xs σ H'->B3 H H'/\H' D=some (.lst xs)/\xs.length<=i)
  (hs:∀ D i xs x σ H' (N:List V->St->Hp->Prop),H D=none->(∀ xs' σ' H'',Pv D (i+1) xs' σ' H''->N xs' σ' H'')->ys[i]?=some x->Pv D i xs σ H'->g x σ H' fun σ2 H2=>tt σ2 H2 fun b H3=>if b=true then te σ2 H3 fun v H4=>H4 D=some (.lst xs)/\N (xs++[v]) σ2 (upd H4 D (.lst (xs++[v]))) else N xs σ2 H3)
  (hd:∀ D xs σ H',H D=none->Pv D ys.length xs σ H'->Qd D H') :
  (∃ b, V.ref a = V.ref b /\ (∃ xs, SqL K H b xs) /\ ∀ D, H D = none -> ∃ W : Nat -> Nat -> List V -> St -> Hp -> Prop, (∃ m, W 0 m [] σ0 (upd H D (.lst []))) /\ ∀ i m xs σ' H', W i m xs σ' H' -> H' D = some (.lst xs) /\ (((Itl K b).stop i H' /\ Qd D H') \/ ((Itl K b).go i H' /\ xs.length < d7 /\ ∀ x H'', (Itl K b).yld i H' x H'' -> g x σ' H'' fun σ2 H2 => tt σ2 H2 fun b H3 =>
   if b=true then te σ2 H3 fun v H4=>H4 D=some (.lst xs)/\∃ m',m'<m/\W (i+1) m' (xs++[v]) σ2 (upd H4 D (.lst (xs++[v]))) else ∃ m',m'<m/\W (i+1) m' xs σ2 H3))) \/
  (∃ b, V.ref a = V.ref b /\ (∃ xs, SqT K H b xs) /\ ∀ D, H D = none -> ∃ W : Nat -> Nat -> List V -> St -> Hp -> Prop, (∃ m, W 0 m [] σ0 (upd H D (.lst []))) /\ ∀ i m xs σ' H', W i m xs σ' H' -> H' D = some (.lst xs) /\ (((Itt K b).stop i H' /\ Qd D H') \/ ((Itt K b).go i H' /\ xs.length < d7 /\ ∀ x H'', (Itt K b).yld i H' x H'' -> g x σ' H'' fun σ2 H2 => tt σ2 H2 fun b H3 =>
   if b=true then te σ2 H3 fun v H4=>H4 D=some (.lst xs)/\∃ m',m'<m/\W (i+1) m' (xs++[v]) σ2 (upd H4 D (.lst (xs++[v]))) else ∃ m',m'<m/\W (i+1) m' xs σ2 H3))):=by
 rcases hS with hS | hS
 ·exact .inl ⟨a,rfl,⟨_,hS⟩,fun D hD=>al3 (K:=K) (a:=a) (ys:=ys) (Pv D) (h0 D hD) hz (fun i xs σ H' hi p=>let ⟨s,g,l⟩:=hl D i xs σ H' hD hi p;⟨s.seq hS,g,l⟩) (fun i xs x σ H' N kN hx p=>hs D i xs x σ H' N hD kN hx p) (fun xs σ H' p=>hd D xs σ H' hD p)⟩
 ·exact .inr ⟨a,rfl,⟨_,hS⟩,fun D hD=>ar7 (K:=K) (a:=a) (ys:=ys) (Pv D) (h0 D hD) hz (fun i xs σ H' hi p=>let ⟨s,g,l⟩:=hl D i xs σ H' hD hi p;⟨s.seqT hS,g,l⟩) (fun i xs x σ H' N kN hx p=>hs D i xs x σ H' N hD kN hx p) (fun xs σ H' p=>hd D xs σ H' hD p)⟩
theorem bm9 (K:W.Frag)(hK:X.K=K)(hc:X.calm=true):S7 X (.builtin "sum") (fun xs H Q=>∃ (p:Addr) (ns:List Int),xs=[.ref p]/\SqL K H p (ns.map V.int)/\Q (.int ns.sum) H):=by subst hK;exact X8 hc
end L2
namespace L2
open PySem PySem.Spec PyProof.Rows PySem.SeqAt
theorem bn1 {bs:List Bool}(h:(bs.map Value.bool)[i]?=some v):v=.bool (bs.getD i false):=by
 rw[E2]at h
 cases e:bs[i]? with
 | none=>rw[e]at h;cases h
 | some b=>rw[e]at h;cases h;rw[j8,e];rfl
theorem all_range (bs:List Bool):((C5 bs.length).all fun i=>bs.getD i false)=bs.all id:=by
 rw[ae3,G9,G9]
 constructor
 ·intro h b hb
  obtain⟨i,hi,rfl⟩:=bA3.mp hb
  have:=h i (D6.mpr hi)
  rw[j8,i6 hi]at this
  exact this
 ·intro h i hi
  have hi:=D6.mp hi
  rw[j8,i6 hi]
  exact h _ (aP2 hi)
theorem boot_all:M6 "all"=some (.builtin "all"):=by decide +kernel
theorem bn0 (hc:X.calm=true):S7 X (.builtin "all") (fun xs H Q=>∃ (l:Addr) (bs:List Bool),xs=[.ref l]/\H l=some (.lst (bs.map V.bl))/\Q (.bl (bs.all id)) H):=by
 intro pins s σ H xs us Q I r h
 obtain⟨l,bs,rfl,hH,q⟩:=h
 obtain⟨u,rfl,rx⟩:=vals1 r
 cases rx
 obtain⟨z,its,n,r,hl,e⟩:=I.lstM hH
 obtain rfl:=bc4 r
 have hl1:s.heap.IsList l (bs.map Value.bool).toArray:=⟨_,e,rfl,_,rfl⟩
 refine call_all_walkS (Q4 hl1 ?_)
 have hlt:l<s.heap.objs.size:=d5 e
 have hh:X.A.in1.handled=none:=by simp[I.ok.hd hc]
 refine⟨_,_,_,_,_,_,_,fun i=>bs.getD i false,rfl,(Walks.list hh _ l (l7 hlt) (bs.map Value.bool).toArray).toS,⟨⟨_,m9 _ rfl,rfl,rfl⟩,hl1.push _⟩,?_,fun s' hm=>?_⟩
 ·intro i v s Q E hv hq
  have:=bn1 (bs:=bs) (i:=i) (v:=v) (by simpa using hv)
  subst this
  exact i7 hq
 ·refine⟨.bl (bs.all id),H,?_,?_,q⟩
  ·rw[Moved.eq_with hm]
   exact I.kept (t':=s'.toks) fun b o eo=>hm.heap b o (fun hb=>absurd (d5 eo) (by rw[B9.mp hb];exact D0 _)) (c8 _ eo)
  ·show _=Value.bool (bs.all id)
   rw[<- all_range]
   simp
end L2
namespace L2
open PySem PySem.Spec PyProof.Rows
def bY5 (K:W.Frag)(CT:Addr)(tb:(St->XK)->TS)(th:TS):TS:=fun D σ H=>∃ E:St->XK,tb E D σ H/\∀ σ' cls H',E σ' cls none H'->PySem.W.exmOne K cls (.ref CT)=some true/\th D σ' H'
theorem bD7 {suite:List Stmt}{b0:Stmt}{tn:Str}{np hpos:Pos}{CT:Addr}{tb:(St->XK)->TS}{th:TS}
  (hg:Gl X tn)(hm:X.mg tn=some (.ref CT))(hst:X.stack=X.env::X.outer)(hfr:X.env.frame=some X.env.locals)(hbody:∀ pins E,PSs (aQ7 X pins E) body (tb E))(hh:∀ v,PSs (bG8 X v) (b0::suite) th)
  (hd:(tn == ("__debug__":Str))=false:=by decide) :
  PS X (.Try body [.ExceptHandler (some (.Name tn np)) none (b0::suite) hpos] [] [] pos) (bY5 X.K CT tb th):=by
 intro pins s σ H D I hw
 obtain⟨E,hb,hcatch⟩:=hw
 refine wpAny_Try_except (E5 (hbody pins E [] s σ H D I.toTry hb) (fun fl s1 q=>?_) fun e s1 hx=>?_)
 ·cases fl with
  | next =>
   obtain⟨σ',H',I',q⟩:=q
   exact Y9 ⟨σ',H',I'.ofTry,q⟩
  | brk=>obtain⟨σ',H',I',q⟩:=q;exact⟨σ',H',I'.ofTry,q⟩
  | cont=>obtain⟨σ',H',I',q⟩:=q;exact⟨σ',H',I'.ofTry,q⟩
  | ret u=>obtain⟨v,σ',H',I',r,q⟩:=q;exact⟨v,σ',H',I'.ofTry,r,q⟩
 ·obtain⟨σ1,H1,s0,I1,x,cls,H2,rfl,hos,hbare,u,hok,new,hxn,⟨B,a0,fl,st⟩,hE⟩:=hx
  obtain⟨hmat,hth⟩:=hcatch σ1 cls H2 hE
  have hfl:Heap.FlyingW B (X.env::X.outer) x cls a0 s1.heap:=by rw[hst]at fl;exact fl
  have frNone:∀ b∈frs X.stack,H2 b=none:=fun b hb=>by
   obtain⟨_,o,ho,_⟩:=I1.stack.mem hb
   exact u.free b o ho (I1.stkFree b hb) (by simp)
  have step:∀ h',B.StaysIn h'->s1.heap.UpToSlots h'->Un (frs X.stack) [] H1 H2 s0.heap h'/\HOk X.prog X.w H2 h':=fun h' hB hu=>by
   refine⟨u.onto (fun b o ho hh hno=>hB b o (st b o ho (.inr hh) hno)) fun b o ho hh hm'=>?_,hok.stays fun b o ho hh=>hB b o (st b o ho (.inl hh) fun hm'=>hh (frNone b hm'))⟩
   obtain⟨_,o',ho',hdd⟩:=hfl.2.2.1.mem (b:=b) (by rw[hst]at hm';exact hm')
   rw[ho]at ho'
   cases ho'
   exact hu b o ho hdd
  have inv:∀ h',B.StaysIn h'->s1.heap.UpToSlots h'->Inv X pins σ1 H2 { s1 with heap:=h' }:=fun h' hB hu=>by
   obtain⟨un,ok⟩:=step h' hB hu
   exact I1.call' (s':={ s1 with heap:=h' }) (ch:=[]) hos un ok hbare fun b hb=>by cases hb
  have hfrm:X.A.frames=some (X.env::X.outer):=by rw[<- hst];exact I1.ok.frames
  refine bi1 hfrm hfr hfl fun h4 held4 up4=>?_
  refine bN2 held4 fun h5 fl5 up5=>?_
  have up15:=up4.trans up5
  have I5:=inv h5 fl5.1 up15
  refine bY0 (bN3 ?_) (by intro q;cases q)
  refine af6 (I5.toHd (.ref x)) hg hm ?_ hd
  have LT:PySem.W.Looks (u7 X.prog X.w) h5 (typeOf (.ref x)) cls:=by
   obtain⟨ob,hob,hc⟩:=fl5.there
   subst hc
   exact(PySem.W.Looks.ld hob).andThen .now
  refine(PySem.W.exm_one (M:=u7 X.prog X.w) I5.kIn LT hmat).here ?_
  refine codeAny_handlers_suite ?_
  refine lands_againW fl5 fun h6 fl6 up6=>?_
  have up16:=up15.trans up6
  have I7:=inv h6 fl6.1 up16
  refine E5 (hh (.ref x) pins { s1 with heap:=h6 } σ1 H2 D (I7.toHd _) hth) (fun fl' s9 q=>?_) (fun _ _ z=>False.elim z)
  have hdX:=I.ok.hd
  cases fl' with
  | next =>
   obtain⟨σ',H',I',q⟩:=q
   exact⟨σ',H',I'.ofHd hdX,q⟩
  | brk =>
   obtain⟨σ',H',I',q⟩:=q
   exact⟨σ',H',I'.ofHd hdX,q⟩
  | cont =>
   obtain⟨σ',H',I',q⟩:=q
   exact⟨σ',H',I'.ofHd hdX,q⟩
  | ret u' =>
   obtain⟨v,σ',H',I',r,q⟩:=q
   exact⟨v,σ',H',I'.ofHd hdX,r,q⟩
def al8 (H:Hp)(l:Addr->Option Obj):Hp:=fun b=>match l b with
 | some o=>some (U0 b o)
 | none=>H b
def aa4 (H:Hp)(l:Addr->Option Obj):Hp:=fun b=>match l b with
 | some _=>none
 | none=>H b
section
variable {H1 H2:Hp} {h1 h2:Heap} {fs:List Addr}
theorem ap7 {b:Addr}{o:Obj}(e:l b=some o):al8 H l b=some (U0 b o):=by unfold al8;rw[e]
theorem K8 {b:Addr}(e:l b=none):al8 H l b=H b:=by unfold al8;rw[e]
theorem ad6 {b:Addr}{o:Obj}(e:l b=some o):aa4 H l b=none:=by unfold aa4;rw[e]
theorem K9 {b:Addr}(e:l b=none):aa4 H l b=H b:=by unfold aa4;rw[e]
theorem bI3 {b:Addr}{o:Obj}(e:h.get? b=some o):P5 P w H h b (U0 b o):=⟨e,⟨o,e⟩,fun h1 h2 q z=>z _ q⟩
theorem HOk.trkd (x:HOk P w H h)(hl:∀ b o,l b=some o->h.get? b=some o/\H b=none):HOk P w (al8 H l) h:=fun a o e=>by
 cases hb:l a with
 | some q=>rw[ap7 hb]at e;cases e;exact bI3 (hl a q hb).1
 | none =>
  rw[K8 hb]at e
  have aux:∀ b u,H b=some u->al8 H l b=some u:=fun b u q=>by
   cases hb':l b with
   | some z=>rw[(hl b z hb').2]at q;cases q
   | none=>rw[K8 hb'];exact q
  exact(x a o e).stay (fun _ _ _ q=>q) (fun b q=>aux b _ q) (fun b xs q=>aux b _ q)
theorem au3 {b:Addr}{u:HO}(hl:∀ b o,l b=some o->H b=some (U0 b o))(q:H b=some u)(hu:∀ o,u≠U0 b o):l b=none:=by
 cases hb:l b with
 | some z=>rw[hl b z hb]at q;cases q;exact absurd rfl (hu z)
 | none=>rfl
theorem HOk.rmv (x:HOk P w H h)(hl:∀ b o,l b=some o->H b=some (U0 b o)):HOk P w (aa4 H l) h:=fun a o e=>by
 cases hb:l a with
 | some q=>rw[ad6 hb]at e;cases e
 | none =>
  rw[K9 hb]at e
  refine(x a o e).stay (fun _ _ _ q=>q) (fun b q=>?_) (fun b xs q=>?_)
  ·rw[K9 (au3 hl q (fun o z=>by unfold U0 at z;cases z))];exact q
  ·rw[K9 (au3 hl q (fun o z=>by unfold U0 at z;cases z))];exact q
theorem Un.inner (un:Un fs [] (aa4 H l) H1 h h1)(hl:∀ b o,l b=some o->H b=some (U0 b o)):Un fs [] H (al8 H1 l) h h1:=by
 have nn:∀ b,H b=none->l b=none:=fun b n=>by
  cases hb:l b with
  | some z=>rw[hl b z hb]at n;cases n
  | none=>rfl
 refine⟨fun b o e n hf hx=>un.keep b o e (by rw[K9 (nn b n)];exact n) hf hx,fun b o e n hf hx=>un.slot b o e (by rw[K9 (nn b n)];exact n) hf hx,fun b o e n hx=>?_,un.there,fun b xs q=>?_,fun b o u q=>?_,fun b ps q=>?_⟩
 ·rw[K8 (nn b n)]
  exact un.free b o e (by rw[K9 (nn b n)];exact n) hx
 ·have z:=au3 hl q (fun o z=>by unfold U0 at z;cases z)
  rw[K8 z]
  exact un.tups b xs (by rw[K9 z];exact q)
 ·have z:=au3 hl q (fun o z=>by unfold U0 at z;cases z)
  rw[K8 z]
  exact un.frzs b o u (by rw[K9 z];exact q)
 ·have z:=au3 hl q (fun o z=>by unfold U0 at z;cases z)
  rw[K8 z]
  exact un.tbls b ps (by rw[K9 z];exact q)
theorem Un.outer (un:Un fs [] (al8 H l) H2 h h2)(hl:∀ b o,l b=some o->h.get? b=some o/\H b=none)(h2l:∀ b o,l b=some o->H2 b=some (U0 b o))(ok2:HOk P w H2 h2):Un fs [] H (aa4 H2 l) h h2:=by
 have nn:∀ b u,H b=some u->l b=none:=fun b u q=>by
  cases hb:l b with
  | some z=>rw[(hl b z hb).2]at q;cases q
  | none=>rfl
 have at2:∀ b o,l b=some o->h2.get? b=some o:=fun b o e=>(ok2 b _ (h2l b o e)).1
 refine⟨fun b o e n hf hx=>?_,fun b o e n hf hx=>?_,fun b o e n hx=>?_,un.there,fun b xs q=>?_,fun b o u q=>?_,fun b ps q=>?_⟩
 ·cases hb:l b with
  | some z =>
   rw[(hl b z hb).1]at e
   cases e
   exact at2 b _ hb
  | none=>exact un.keep b o e (by rw[K8 hb];exact n) hf hx
 ·cases hb:l b with
  | some z =>
   rw[(hl b z hb).1]at e
   cases e
   exact⟨_,at2 b _ hb⟩
  | none=>exact un.slot b o e (by rw[K8 hb];exact n) hf hx
 ·cases hb:l b with
  | some z=>exact ad6 hb
  | none =>
   rw[K9 hb]
   exact un.free b o e (by rw[K8 hb];exact n) hx
 ·rw[K9 (nn b _ q)]
  exact un.tups b xs (by rw[K8 (nn b _ q)];exact q)
 ·rw[K9 (nn b _ q)]
  exact un.frzs b o u (by rw[K8 (nn b _ q)];exact q)
 ·rw[K9 (nn b _ q)]
  exact un.tbls b ps (by rw[K8 (nn b _ q)];exact q)
end
def bO7 (sp:Sp)(js:List (Nat × Addr))(t:TA):TE:=fun σ H Q=>t σ H fun vs H1=>∀ l:Addr->Option Obj,(∀ b o,l b=some o->H1 b=none)->(∀ p∈js,∀ v,σ[p.1]?=some (some v)->∃ o u,l p.2=some o/\o.data=.cell (some u)/\RelV v u) ->
 sp vs (al8 H1 l) (fun r H2=>(∀ b o,l b=some o->H2 b=some (U0 b o))/\Q r (aa4 H2 l)) E0
section
variable {k:Nat} {sp:Sp} {t:TA}
theorem bt6 {js:List (Nat × Addr)}(F:A4 X.prog X.w X.K X.mg X.base CX0 k f fd ps sp)(hr:X9 k X.A)(hg:Gl X x)(hm:X.mg x=some (.ref f))(hk:Q7 X.K (.ref f)=true)(hb:Binds X.K fd ps [])
  (hj:∀ q∈js,X.s₀.heap.objs.size<=q.2/\∃ y,X.N[q.1]?=some y/\X.env.scope.names.lookup y=some .cell/\X.env.cells.lookup y=some q.2)
  (ha:PA X (e::es) t)(hdb:(x == ("__debug__":Str))=false:=by decide)(he:u4 (e::es) X.env=(false,eval e X.env)::u4 es X.env:=by rfl)(hpl:(O9 pos (u4 es X.env)).any (·.1)=false:=by rfl) :
  PE X (.Call (.Name x p) (e::es) [] pos) (bO7 sp js t):=by
 intro pins s σ H Q I h
 refine K4 (af6 I hg hm ?_ hdb)
 refine PySem.W.callWith_K (h₀:=X.base) I.ok.mod.kin hk (thn (ha pos pins s σ H _ I h) fun us s1 ⟨vs,H1,I1,r,q⟩=>⟨I1.kIn,?_⟩) he hpl
 obtain⟨l,hl⟩:∃ l:Addr->Option Obj,l=fun b=>if b∈js.map (·.2) then s1.heap.get? b else none:=⟨_,rfl⟩
 have l1:∀ b o,l b=some o->s1.heap.get? b=some o/\b∈js.map (·.2):=fun b o e=>by
  rw[hl]at e
  by_cases hb:b∈js.map (·.2)
  ·have e':(if b∈js.map (·.2) then s1.heap.get? b else none)=some o:=e
   rw[if_pos hb]at e'
   exact⟨e',hb⟩
  ·have e':(if b∈js.map (·.2) then s1.heap.get? b else none)=some o:=e
   rw[if_neg hb]at e'
   cases e'
 have l2:∀ b o,l b=some o->s1.heap.get? b=some o/\H1 b=none:=fun b o e=>by
  obtain⟨e1,e2⟩:=l1 b o e
  obtain⟨q,hq,rfl⟩:=E8.mp e2
  obtain⟨_,y,_,_,hc⟩:=hj q hq
  exact⟨e1,I1.freeC y _ hc⟩
 have l3:∀ q∈js,∀ v,σ[q.1]?=some (some v)->∃ o u,l q.2=some o/\o.data=.cell (some u)/\RelV v u:=fun q hq v hv=>by
  obtain⟨_,y,hN,hs,hc⟩:=hj q hq
  obtain⟨m,hn,lo⟩:=I1.loc
  obtain⟨u,ru,lk⟩:=lo q.1 y v hN hv (.inr (.inl hs))
  rcases lk with⟨z,_⟩ | ⟨_,c,hc',o,ho,hd⟩
  ·have z':X.env.scope.names.lookup y=some .local:=z
   rw[hs]at z'
   cases z'
  ·rw[hc]at hc'
   cases hc'
   refine⟨o,u,?_,hd,ru⟩
   rw[hl]
   show (if q.2∈js.map (·.2) then s1.heap.get? q.2 else none)=some o
   rw[if_pos (E8.mpr ⟨q,hq,rfl⟩)]
   exact ho
 have q':=q l (fun b o e=>(l2 b o e).2) l3
 have nofr:∀ q∈js,q.2∉frs X.stack:=fun q hq z=>by
  obtain⟨hge,y,_,_,hc⟩:=hj q hq
  have nf:q.2∉X.fs:=fun hb=>by
   obtain⟨_,o,ho,_⟩:=I1.ok.funs.mem hb
   exact absurd (p5 (d5 ho) hge) (D0 _)
  rcases I1.ok.stk with h1 | ⟨h1,h2⟩
  ·rw[h1]at z
   exact nf z
  ·rw[h1]at z
   unfold frs at z
   rw[N5,h2]at z
   rcases j6.mp z with z | z
   ·exact I1.cne y _ hc z
   ·exact nf z
 have e0:=I1.env0
 have e1:bz1 X.prog X.w X.K X.mg X.base X.A X.stack s1 (al8 H1 l):=by
  refine⟨e0.frames,e0.mod,fun b o e=>⟨(e0.bs b o e).1,?_⟩,e0.bsz,e0.funs,fun b hb=>?_,e0.hok.trkd l2,e0.bare⟩
  ·cases hb:l b with
   | none=>rw[K8 hb];exact(e0.bs b o e).2
   | some z =>
    obtain⟨q,hq,rfl⟩:=E8.mp (l1 b z hb).2
    have:=(hj q hq).1
    exact absurd (p5 (d5 e) (C4 I1.ok.bsz this)) (D0 _)
  ·cases hb':l b with
   | none=>rw[K8 hb'];exact e0.frf b hb
   | some z =>
    obtain⟨q,hq,rfl⟩:=E8.mp (l1 b z hb').2
    exact absurd hb (nofr q hq)
 have hlen:us.length=ps.length:=by rw[<- r.length];exact F.len _ _ _ _ q'
 have hbind:=hb s1 us I1.kIn (by rw[N6];exact hlen)
 rw[N6]at hbind
 refine aP9 (U8 (F.run X.A X.stack s1 (al8 H1 l) ⟨us,[]⟩ us vs _ E0 hr e1 hbind r q') fun r s' hq=>?_)
 cases r with
 | error e=>exact False.elim hq
 | ok fl =>
  cases fl with
  | ret u =>
   obtain⟨v,H',os,bare,un,hok,rv,kept,qq⟩:=hq
   exact I1.after ⟨v,aa4 H' l,os,bare,un.outer l2 kept hok,hok.rmv kept,rv,qq⟩
  | next=>exact False.elim hq
  | brk=>exact False.elim hq
  | cont=>exact False.elim hq
end
def bL2 (P:Program)(w:World)(K:W.Frag)(mg:Str->Option Value)(base:Heap)(A:Around)(outer:List Env)(qual:Str)(scope:Scope)(cl:List (Str × Addr))(N':List Str)(f:Addr)(cv:Value)(s:Shared)(H:Hp):Cx where
 prog:=P
 w:=w
 K:=K
 mg:=mg
 base:=base
 A:=A.deeper (aN4 qual scope cl f cv s)
 N:=N'
 s₀:=s
 H₀:=H
 env:=aN4 qual scope cl f cv s
 outer:=outer
 stack:=List.cons (aN4 qual scope cl f cv s) outer
 ex:=[]
 fn:=fun _=>false
 calm:=true
 pn:=[]
 xe:=fun _ _=>False
def bZ7 (f c':Addr)(qual:Str)(ob:Obj)(l:Addr->Option Obj)(cvs:St)(te:TE):Sp:=fun vs H Q _=>∃ a,vs=[a]/\H f=some (U0 f ob)/\H c'=some (aJ6 c' qual)/\(∀ b o,l b=some o->H b=some (U0 b o)) /\
 te (some a::cvs) (aa4 H l) fun v' H'=>(∀ b o,l b=some o->H' b=none)->Q v' (al8 H' l)
theorem bS8 {K:W.Frag}{mg:Str->Option Value}{base:Heap}{k:Nat}{p:Str}{params:aK1}{body:Expr}{c':Addr}{pm ctv:Value}{cvs:St}
  (hkind:scope.kind=.function)(hco:scope.isCoroutine=false)(hgen:scope.isGenerator=false)(hfr:aF0 scope.names cl=true)(hp:scope.names.lookup p=some .local)
  (hinj:∀ x y c,cl.lookup x=some c->cl.lookup y=some c->x=y)(hcl:∀ x c,cl.lookup x=some c->∃ o v,l c=some o/\o.data=.cell v)(hN:cvs.length=N'.length)
  (hv:∀ (i:Nat) (x:Str) (v:V),N'[i]?=some x->cvs[i]?=some (some v)->scope.names.lookup x=some .free/\∃ c o u,cl.lookup x=some c/\l c=some o/\o.data=.cell (some u)/\RelV v u)
  (he:∀ (A:Around) (outer:List Env) (s:Shared) (H:Hp),X9 k (A.deeper (aN4 qual scope cl f (.ref c') s))->PE (bL2 P w K mg base A outer qual scope cl (p::N') f (.ref c') s H) body te) :
  A4 P w K mg base CX0 (k+1) f (PySem.W.kla_fn "<lambda>" qual params body scope cl pm (.ref c') ctv) [p] (bZ7 f c' qual (PySem.W.kla_obj "<lambda>" qual params body scope cl pm c' ctv) l cvs te):=by
 refine⟨fun vs H Q E ⟨a,e,_⟩=>by rw[e];rfl,fun A outer s H args us vs Q E hr e0 hb r hsp=>?_⟩
 obtain⟨a,rfl,hf,hc,hl,ht⟩:=hsp
 obtain⟨u,rfl,ru⟩:=vals1 r
 have hmem:∀ y∈scope.names,y.2≠.cell/\(y.2=.free->(cl.lookup y.1).isSome=true):=fun y hy=>by
  unfold aF0 at hfr
  rw[G9]at hfr
  have:=hfr y hy
  rw[B5]at this
  refine⟨by simpa using this.1,fun e=>?_⟩
  have h2:=this.2
  rw[e]at h2
  simpa using h2
 have at0:∀ b o,l b=some o->s.heap.get? b=some o:=fun b o e=>(e0.hok b _ (hl b o e)).1
 have nfr:∀ b o,l b=some o->b∉frs outer:=fun b o e z=>by
  have:=e0.frf b z
  rw[hl b o e]at this
  cases this
 have lim:s.heap.NoLimit:=e0.mod.nolimit.keeps fun b o e=>(e0.bs b o e).1
 refine PySem.W.kla_callFunE hr.depth (e0.hok f _ hf).1 rfl hco hgen rfl (e0.hok c' _ hc).1 (hb _ _ _ _ ?_)
 refine ae7 (fun y hy=>(hmem y hy).1) (fun y hy=>by rw[B9.mp hy];exact hp) (fun h1 hns hsb=>?_) hkind
 have hk:∀ b o,s.heap.get? b=some o->h1.get? b=some o:=fun b o e=>hsb.extBut b o (l7 (d5 e)) (c8 _ e)
 refine⟨lim.keeps hk,?_⟩
 show al6 _ _ (.expr body (PySem.W.envX qual scope s.heap.objs.size f (.ref c') cl)) _ _
 have noE:∀ b:Addr,b∉([]:List Addr):=fun b z=>nomatch z
 have rn:∀ b,H b=none->aa4 H l b=none:=fun b n=>by
  cases hb:l b with
  | some z=>exact ad6 hb
  | none=>rw[K9 hb];exact n
 have hC:aa4 H l s.heap.objs.size=none:=rn _ (e0.hok.fresh (d6 _))
 have I:Inv (bL2 P w K mg base A outer qual scope cl (p::N') f (.ref c') s (aa4 H l)) [] (some a::cvs) (aa4 H l) { s with heap:=h1,toks:=s.toks+[(p,u)].length }:=by
  refine⟨⟨e0.mod,hkind,rfl,rfl,d6 _,hinj,fun x hx=>?_,(fun x c e=>by cases e),fun _=>hr.hd,Around.frames_deeper e0.frames,.inr ⟨rfl,rfl⟩,fun b z=>absurd z (noE b),fun b o e=>⟨(e0.bs b o e).1,rn b (e0.bs b o e).2⟩,e0.bsz,fun b _ _=>noE b,fun b z=>absurd z (noE b),e0.funs,fun b hb=>rn b (e0.frf b hb)⟩,
   rfl,e0.bare,Un.kept hk,⟨_,hns,fun i x v e1 e2 e3=>?_⟩,fun x c e=>?_,hC,fun x c e=>?_,(fun q hq=>nomatch hq),(e0.hok.rmv hl).kept hk,?_⟩
  ·have hx':scope.names.lookup x=some .cell\/scope.names.lookup x=some .free:=hx
   rcases hx' with h | h
   ·exact absurd rfl (hmem _ (PySem.mem_of_lookup h)).1
   ·exact C7.mp ((hmem _ (PySem.mem_of_lookup h)).2 rfl)
  ·cases i with
   | zero =>
    have e1':p=x:=by simpa using (show (p::N')[0]?=some x from e1)
    have e2':a=v:=by simpa using (show (some a::cvs)[0]?=some (some v) from e2)
    subst e1' e2'
    refine⟨u,ru,.inl ⟨hp,?_⟩⟩
    show [(p,u)].reverse.lookup p=some u
    simp[G2]
   | succ i =>
    have e1':N'[i]?=some x:=by simpa using (show (p::N')[i+1]?=some x from e1)
    have e2':cvs[i]?=some (some v):=by simpa using (show (some a::cvs)[i+1]?=some (some v) from e2)
    obtain⟨hs,c,o,u',hc1,hc2,hd,rv⟩:=hv i x v e1' e2'
    exact⟨u',rv,.inr ⟨.inr hs,c,hc1,o,hk c o (at0 c o hc2),hd⟩⟩
  ·obtain⟨o,v,h1',h2'⟩:=hcl x c e
   exact⟨v,o,hk c o (at0 c o h1'),h2'⟩
  ·obtain⟨o,v,h1',h2'⟩:=hcl x c e
   exact ad6 h1'
  ·show (some a::cvs).length=(p::N').length
   rw[m6,m6,hN]
 refine PySem.W.kla_codeExpr (E5 (he A outer s (aa4 H l) (hr.deeper _) [] _ _ (aa4 H l) _ I ht) (fun u' s' hq=>?_) fun _ _ z=>False.elim z)
 obtain⟨v',H',J,r',q⟩:=hq
 have un:Un (frs outer) [] (aa4 H l) H' s.heap s'.heap:=J.base
 have fr:∀ b o,l b=some o->H' b=none:=fun b o e=>un.free b o (at0 b o e) (ad6 e) (noE b)
 exact⟨v',al8 H' l,J.os,J.bare,un.inner hl,J.hok.trkd fun b o e=>⟨un.keep b o (at0 b o e) (ad6 e) (nfr b o e) (noE b),fr b o e⟩,r',q fr⟩
def bO6 (P:Program)(w:World)(K:W.Frag)(mg:Str->Option Value)(base:Heap)(k i:Nat)(t:TA):TE:=fun σ H Q=>∃ (f:Addr) (ob:Obj) (fd:FuncData),σ[i]?=some (some (.ref f))/\H f=some (U0 f ob)/\ob.data=.func fd/\t σ H fun vs H1=>∃ (ps:List Str) (sp:Sp),H1 f=some (U0 f ob) /\
 A4 P w K mg base CX0 k f fd ps sp/\Binds K fd ps []/\sp vs H1 Q E0
theorem bt5 {k:Nat}{t:TA}(hr:X9 k X.A)(hN:X.N[i]?=some x)(hv:Vis X.env.scope x)(ha:PA X (e::es) t)(hd:(x == ("__debug__":Str))=false:=by decide)(hcd:(x == ("__classdict__":Str))=false:=by decide)
  (he:u4 (e::es) X.env=(false,eval e X.env)::u4 es X.env:=by rfl)(hpl:(O9 pos (u4 es X.env)).any (·.1)=false:=by rfl) :
  PE X (.Call (.Name x p) (e::es) [] pos) (bO6 X.prog X.w X.K X.mg X.base k i t):=by
 intro pins s σ H Q I h
 obtain⟨f,ob,fd,hσ,hf,hfd,h⟩:=h
 refine K4 (E5 (bt0 hN hv hd hcd pins s σ H (fun v H'=>v=.ref f/\H'=H) I ⟨_,hσ,rfl,rfl⟩) (fun u s0 hq=>?_) fun _ _ z=>z)
 obtain⟨v,H',I0,rv,rfl,rfl⟩:=hq
 cases rv
 have hfo:=(I0.hok f _ hf).1
 obtain⟨oc,od,odt,osl⟩:=ob
 have kin:∀ {hh:Heap},hh.get? f=some ⟨oc,od,odt,osl⟩->PySem.W.Frag.In [(f,⟨oc,od,odt,osl⟩)] hh:=fun {hh} e a o q=>by
  by_cases z:a=f
  ·subst z
   have:(some ⟨oc,od,odt,osl⟩:Option Obj)=some o:=by simpa [G2] using q
   rw[<- this];exact e
  ·have:(none:Option Obj)=some o:=by
    have zz:(a == f)=false:=by simpa using z
    simpa [G2,zz] using q
   cases this
 have hfd':odt=.func fd:=hfd
 subst hfd'
 refine PySem.W.callWith_K (K:=[(f,⟨oc,od,.func fd,osl⟩)]) (h₀:=s0.heap) (kin hfo) (by unfold Q7;simp[G2]) (thn (ha pos pins s0 σ _ _ I0 h) fun us s1 ⟨vs,H1,I1,r,ps,sp,hf1,F,hb,q⟩=>⟨kin (I1.hok f _ hf1).1,?_⟩) he hpl
 have q':sp (vs++[]) H1 Q E0:=by rw[N6];exact q
 exact br9 F hr hb .nil K3 I1 r q'
end L2
namespace Web
open PySem L2
def top (i:Nat):Stmt:=PySem.Challenge.pw_tallyweb_k48_thick_answers_looked_at.main.body.getD i (.Pass ⟨0,0,0,0⟩)
abbrev aS7:Stmt:=top 33
abbrev bj4:Stmt:=top 11
abbrev sUp:Stmt:=top 12
abbrev aS4:Stmt:=top 13
abbrev aq4:Stmt:=top 14
abbrev aS6:Stmt:=top 16
abbrev aB6:Stmt:=top 18
abbrev an7:Stmt:=top 19
abbrev aZ0:Stmt:=top 35
abbrev aB3:Stmt:=top 20
abbrev at6:Stmt:=top 21
abbrev aB1:Stmt:=top 22
abbrev aq3:Stmt:=top 23
abbrev aB0:Stmt:=top 6
abbrev br8:Stmt:=top 7
abbrev ag9:Stmt:=top 8
abbrev bj5:Stmt:=top 26
abbrev br3:Stmt:=top 27
abbrev br4:Stmt:=top 28
abbrev br5:Stmt:=top 29
abbrev br6:Stmt:=top 30
abbrev bj3:Stmt:=top 31
abbrev an5:Stmt:=top 36
abbrev aS1:Stmt:=top 37
abbrev aS3:Stmt:=top 38
abbrev aA9:Stmt:=top 34
abbrev br2:Stmt:=top 39
abbrev aB4:Stmt:=top 40
abbrev aB5:Stmt:=top 42
abbrev aB7:Stmt:=top 43
abbrev aB2:Stmt:=top 44
abbrev br7:Stmt:=top 45
abbrev aS2:Stmt:=top 46
abbrev aZ1:Stmt:=top 47
structure Bn (mg:Str->Option Value):Prop where
 len:mg "len"=none
 range:mg "range"=none
 enum:mg "enumerate"=none
 list:mg "list"=none
 tuple:mg "tuple"=none
 sorted:mg "sorted"=none
 set:mg "set"=none
 isin:mg "isinstance"=none
 int:mg "int"=none
 bool:mg "bool"=none
 min:mg "min"=none
 max:mg "max"=none
 sum:mg "sum"=none
 str:mg "str"=none
 ve:mg "ValueError"=none
 all:mg "all"=none
 zip:mg "zip"=none
theorem O3:1000<=d7:=by decide
theorem d4 {l:Addr}{o:HO}(h:H l=none):B3 H (upd H l o):=fun b u e=>by
 rw[p8 (t8 e h)]
 exact e
section
variable {K:W.Frag} {mg:Str->Option Value} {base:Heap}
def bq5 (K:W.Frag):Sp:=fun vs H Q _=>∃ (a:Addr) (ns:List Int) (k:Nat),vs=[.ref a,.int k]/\SqL K H a (ns.map V.int)/\∀ r:Int,Q (.int r) H
theorem bP4:B6 ["script","k"] ["script","k"] (p9 aS7):=.mk'
theorem bF1 (F:Fun K "_law_cell_at" "_law_cell_at" aS7 f fd)(B:Bn mg):A4 P w K mg base CX0 1 f fd ["script","k"] (bq5 K):=by
 refine F.ok bP4 (fun cdv A outer s H vs Q E hr h=>?_)
 obtain⟨a,ns,k,rfl,hS,q⟩:=h
 refine⟨_,d8 (F1 (x6 ag2 (pv 1) (p0 y9 (by rfl) B.len PySem.boot_len (b7 (pv 0) d3)) (B1 _)) (k8 (B8 (C1 G8 (pv 0) (pv 1) (fun _ _=>rfl)))) A3)
  (k8 (B8 c9)),?_⟩
 refine⟨_,rfl,_,rfl,a,_,rfl,.inl hS,_,_,rfl,rfl,_,rfl,?_⟩
 refine aa9 (fun h=>?_) (fun h=>?_)
 ·have hl:k<ns.length:=by
   have:=of_decide_eq_true h
   rw[b9]at this
   omega
  refine⟨_,rfl,_,rfl,a,_,_,_,rfl,rfl,hS,A1 (j:=k) (v:=.int ns[k]) (by simp[hl]),?_⟩
  exact q _
 ·exact q _
def bK3:Sp:=fun vs H Q _=>∃ a b:Int,vs=[.int a,.int b]/\Q (.bl (decide (0<=b) && decide (b<a))) H
theorem ca0:B6 ["places","number"] ["places","number"] (p9 bj4):=.mk'
theorem bS4 (F:Fun K "is_place" "is_place" bj4 f fd):A4 P w K mg base CX0 1 f fd ["places","number"] bK3:=by
 refine F.ok ca0 (fun cdv A outer s H vs Q E hr h=>?_)
 obtain⟨a,b,rfl,k⟩:=h
 refine⟨_,k8 (B8 (ai6 U4 ag2 c9 (pv 1) (pv 0))),?_⟩
 refine⟨_,rfl,_,_,rfl,rfl,_,rfl,?_⟩
 cases e:decide ((0:Int)<=b) with
 | true =>
  refine J4 ⟨_,rfl,_,_,rfl,rfl,?_⟩
  rw[e,bn8]at k
  exact k
 | false =>
  refine J2 ?_
  rw[e,Bool.false_and]at k
  exact k
theorem cf7:B6 ["places","tie"] ["places","tie"] (p9 sUp):=.mk'
def X7 (ns:List Int):Prop:=1<=ns.length/\ns.length<=24
def Sq (K:W.Frag)(H:Hp)(a:Addr)(ns:List Int):Prop:=SqL K H a (ns.map V.int)\/SqT K H a (ns.map V.int)
theorem Sq.same (h:Sq K H a ns)(s:B3 H H'):Sq K H' a ns:=h.elim (fun h=>.inl (s.seq h)) fun h=>.inr (s.seqT h)
def aR2 (K:W.Frag)(CB:Addr):Sp:=fun vs H Q E=>∃ (a:Addr) (ns:List Int),vs=[.ref a]/\Sq K H a ns/\(X7 ns->Q .non H)/\(¬ X7 ns->E (.ref CB) none H)
theorem ca2:B6 ["tally"] ["tally"] (p9 aS6):=.mk'
theorem aM9 {tk:Tok}(F:Fun K "check_tally" "check_tally" aS6 f fd)(B:Bn mg)(mM:mg "MOST_PLACES"=some (.int 24 tk))(mB:mg "BadTally"=some (.ref CB))(cB:ao9 K CB):A4 P w K mg base (CXE P w) 1 f fd ["tally"] (aR2 K CB):=by
 refine F.okX ca2 (fun cdv A outer s H vs Q E hr h=>?_)
 obtain⟨a,ns,rfl,hS,h1,h2⟩:=h
 refine⟨_,k8 (F1 (R0 (ai5 U4 U4 c9 (p0 y9 (by rfl) B.len PySem.boot_len (b7 (pv 0) d3)) (aq7 (v:=.int 24) (by rfl) mM ⟨tk,rfl⟩))) (k8 (aa6 (by rfl) mB cB)) A3),?_⟩
 refine⟨_,rfl,a,_,rfl,hS,_,_,rfl,rfl,_,rfl,?_⟩
 rw[b9]
 by_cases hp:(1:Int)<=(ns.length:Int)
 ·rw[decide_eq_true hp]
  refine J4 ⟨_,_,rfl,rfl,_,rfl,?_⟩
  by_cases hp':(ns.length:Int)<=24
  ·rw[decide_eq_true hp']
   exact J2 (h1 ⟨by omega,by omega⟩)
  ·rw[decide_eq_false hp']
   exact J4 (h2 fun z=>hp' (by have:=z.2;omega))
 ·rw[decide_eq_false hp]
  exact J2 ⟨_,rfl,J4 (h2 fun z=>hp (by have:=z.1;omega))⟩
end
theorem ac9 (ns:List Int)(k:Nat):S5 (ns.map V.int) (some (k:Int)) none=(ns.drop k).map V.int:=by rw[bm3,aF2]
theorem ac6 (ns:List Int)(k:Nat):S5 (ns.map V.int) none (some (k:Int))=(ns.take k).map V.int:=by rw[bH5,aF3]
theorem Z6 {x:V}(h:(ns.map V.int)[i]?=some x):∃ z:Int,ns[i]?=some z/\x=V.int z:=by
 rw[E2]at h
 cases e:ns[i]? with
 | none=>rw[e]at h;cases h
 | some z=>rw[e]at h;cases h;exact⟨z,rfl,rfl⟩
section
variable {K:W.Frag} {mg:Str->Option Value} {base:Heap}
def aY7 (K:W.Frag):Sp:=fun vs H Q _=>∃ (a:Addr) (ns:List Int),vs=[.ref a]/\Sq K H a ns/\ns.length<64/\∀ (l:Addr) (H':Hp),B3 H H'->H l=none->H' l=some (.lst ((up2 ns).reverse.map V.int))->Q (.ref l) H'
theorem bP3:B6 ["tally"] ["tally"] (p9 aB6):=.mk'
theorem be7 (F:Fun K "falling" "falling" aB6 f fd)(B:Bn mg):A4 P w K mg base CX0 1 f fd ["tally"] (aY7 K):=by
 refine F.ok bP3 (fun cdv A outer s H vs Q E hr h=>?_)
 obtain⟨a,ns,rfl,hS,h64,q⟩:=h
 refine⟨_,k8 (B8 (bt1 K rfl (by rfl) B.sorted (b7 (pv 0) d3))),?_⟩
 refine⟨_,rfl,a,ns,rfl,hS,h64,fun l zs hl hp hs=>?_⟩
 rw[bf4 hp hs]
 exact q l _ (d4 hl) hl c7
def aL3 (K:W.Frag):Sp:=fun vs H Q _=>∃ (a:Addr) (ns:List Int) (M r:Nat),vs=[.ref a,.int M,.int r]/\SqL K H a ((up2 ns).reverse.map V.int)/\M<=1000000/\r<=100/\ns.length<64/\∀ (H':Hp),B3 H H'->Q (.int (Y5 ns M r)) H'
theorem bd8:B6 ["numbers","most","r","from_others"] ["numbers","most","r"] (p9 an7):=.mk'
theorem aT7 (F:Fun K "room_among" "room_among" an7 f fd) (B:Bn mg):A4 P w K mg base CX0 1 f fd ["numbers","most","r"] (aL3 K):=by
 refine F.ok bd8 (fun cdv A outer s H vs Q E hr h=>?_)
 obtain⟨a,ns,M,r,rfl,hS,hM,hr1,h64,q⟩:=h
 have hsl:=O3
 have nd2:(["number","most","r"]:List Str).Nodup:=by decide +kernel
 have hlen:(up2 ns).reverse.length=ns.length:=by rw[ae6,ap6]
 generalize hz:(up2 ns).reverse=zs at hS hlen
 refine⟨_,d8 (y7 (i:=3) bd8.nd rfl (Or.inl rfl) (p0 (X8 rfl) (by rfl) B.sum (by rfl) (b7
   (X3 (N' := ["number", "most", "r"]) (lk := [none, some 1, some 2]) rfl (Z4 (R3 Z2 (pv 0) (T5 (pv 2)) X2)) (by rfl) rfl (by decide +kernel) (by exact ⟨rfl, rfl, trivial⟩) (by rfl) (by exact LkL.ok ⟨⟨rfl, Or.inl rfl, rfl, Or.inl rfl⟩, ⟨rfl, Or.inl rfl, rfl, Or.inl rfl⟩, trivial⟩)
    (fun _ _ _=>B4 (i:=0) nd2 rfl (Or.inl rfl)) (fun _ _ _=>ac2) (fun _ _ _=>p0 (ae1 rfl) (by rfl) B.min (by rfl) (b7 (pv 0) (b7 (m8 W7 (pv 1) (pv 2)) d3)))) d3)))
  (k8 (B8 (m8 P8 (m8 G3 (m8 W7 (m8 W7 (pv 1) (pv 2)) (m8 P8 (pv 2) c9)) (pv 3)) (p0 (X8 rfl) (by rfl) B.sum (by rfl) (b7 (R3 Z2 (pv 0) X2 (T5 (pv 2))) d3))))),?_⟩
 refine⟨_,rfl,_,rfl,_,rfl,a,_,rfl,hS,fun c hc=>?_⟩
 rw[ac9]
 have s1:=d4 (o:=.lst ((zs.drop r).map V.int)) hc
 refine⟨c,rfl,⟨_,SqL.of c7⟩,fun D hD=>al3 (K:=K) (a:=c) (D:=D) (ys:=(zs.drop r).map V.int) (fun i xs σ' H'=>∃ v,σ'=[v,some (.int M),some (.int r)]/\B3 H H'/\H' c=some (.lst ((zs.drop r).map V.int))/\xs=(((zs.drop r).take i).map (mn ((M:Int)*(r:Int)))).map V.int/\H' D=some (.lst xs))
   ⟨none,rfl,s1.trans (d4 hD),d4 hD _ _ c7,by simp,c7⟩ (by rw[b9,C0];omega) (fun i xs σ' H' hi ⟨_,_,s3,g3,e3,h3⟩=>⟨SqL.of g3,h3,by rw[e3,b9,b9,u5,C0];omega⟩) ?_ ?_⟩
 ·rintro i xs x σ' H' N kN hx ⟨v,rfl,s3,g3,rfl,h3⟩
  obtain⟨z,hz',rfl⟩:=Z6 hx
  refine F0 (X6 ?_)
  refine⟨_,rfl,_,rfl,_,rfl,_,_,rfl,rfl,.inl ⟨by omega,by omega⟩,_,_,rfl,?_⟩
  refine⟨h3,kN _ _ _ ⟨_,rfl,s3.upd (s1.free hD),?_,?_,c7⟩⟩
  ·rw[p8 (t8 c7 hD)];exact g3
  ·rw[G0,hz',p7,p7];rfl
 ·rintro xs σ' H3 ⟨v,rfl,s3,g3,rfl,h3⟩
  rw[o6 (by rw[b9];exact d6 _)]at h3
  refine⟨D,_,rfl,SqL.of h3,?_⟩
  refine⟨_,rfl,_,rfl,_,_,rfl,rfl,.inl ⟨by omega,by omega⟩,_,rfl,_,_,rfl,rfl,_,_,rfl,rfl,.inr ⟨by omega,by omega⟩,_,rfl,_,_,rfl,rfl,?_⟩
  refine⟨_,rfl,_,rfl,_,rfl,a,_,rfl,s3.seq hS,fun c2 hc2=>?_⟩
  rw[ac6]
  refine⟨c2,_,rfl,SqL.of c7,_,_,rfl,rfl,?_⟩
  have fin:=q _ (s3.trans (d4 (o:=.lst ((zs.take r).map V.int)) hc2))
  rw[<- ai3 (M:=M) (r:=r) hz.symm]at fin
  exact fin
end
def wlT:Wl->List V
 | .below p=>[.str "below",.int p]
 | .odd=>[.str "odd"]
 | .wall r=>[.str "wall",.int r]
 | .free=>[]
def ch3 (H:Hp)(v:V)(x:Wl):Prop:=(x=.free/\v=.non)\/(x≠.free/\∃ a,v=.ref a/\H a=some (.tup (wlT x)))
theorem bG6 {a b:Int}(h:decide (V.int a=V.int b)=true):a=b:=by
 have:=of_decide_eq_true h
 injection this
theorem bw1 {a b:Int}(h:¬ decide (V.int a=V.int b)=true):¬ a=b:=fun e=>h (by rw[e];exact decide_eq_true rfl)
section
variable {K:W.Frag} {mg:Str->Option Value} {base:Heap}
def aL2 (K:W.Frag):Sp:=fun vs H Q _=>∃ (a:Addr) (ns:List Int),vs=[.ref a]/\Sq K H a ns/\ns.length<=100/\∀ (l:Addr) (H':Hp),B3 H H'->H l=none->H' l=some (.lst ((bn3 ns).map V.int))->Q (.ref l) H'
theorem bC9:B6 ["numbers"] ["numbers"] (p9 at6):=.mk'
theorem aT6 (F:Fun K "places_below" "places_below" at6 f fd)(B:Bn mg):A4 P w K mg base CX0 1 f fd ["numbers"] (aL2 K):=by
 refine F.ok bC9 (fun cdv A outer s H vs Q E hr h=>?_)
 obtain⟨a,ns,rfl,hS,hn,q⟩:=h
 have hsl:=O3
 have nd2:(["place","number"]:List Str).Nodup:=by decide +kernel
 refine⟨_,k8 (B8 (X3 (N':=["place","number"]) (lk:=[none,none]) rfl (bs8 (be4 (by rfl) B.enum (b7 (pv 0) d3)) (aT0 (by rfl) B.enum (b7 (pv 0) d3))) (by rfl) rfl (by decide +kernel) (by exact trivial) (by rfl) (by exact LkL.ok trivial)
    (fun _ _ _=>ay8 (n:=2) K rfl rfl (F7 (B4 (i:=0) nd2 rfl (Or.inl rfl)) (F7 (B4 (i:=1) nd2 rfl (Or.inl rfl)) Z5))) (fun _ _ _=>ay7 (x6 ag2 (pv 1) c9 (B1 _))) (fun _ _ _=>pv 0))),?_⟩
 refine Or.imp (fun h=>⟨_,rfl,h⟩) (fun h=>⟨_,rfl,h⟩) (aE1 (K:=K) (a:=a) (ys:=ns.map V.int) hS (by rw[b9];omega)
  (fun D i xs σ' H'=>(∃ v u,σ'=[v,u])/\B3 H H'/\H' D=some (.lst xs)/\xs=((au8 ns i).map Int.ofNat).map V.int) (fun D hD=>⟨⟨none,none,rfl⟩,d4 hD,c7,rfl⟩)
  (fun D i xs σ' H' hD hi ⟨_,s1,h1,e1⟩=>⟨s1,h1,by rw[e1,b9,b9];exact by0 ns i⟩) ?_ ?_)
 ·rintro D i xs x t σ' H' N hD kN hx ⟨⟨v,u,rfl⟩,s1,h1,rfl⟩ ht
  obtain⟨z,hz,rfl⟩:=Z6 hx
  have s2:=d4 (o:=.tup [.int i,.int z]) ht
  refine⟨t,_,rfl,SqT.of c7,rfl,_,_,rfl,_,_,rfl,rfl,?_⟩
  refine⟨_,rfl,_,_,rfl,rfl,_,rfl,?_⟩
  have e3:=bn2 ns i
  rw[as1 hz]at e3
  by_cases hb:z<0
  ·rw[decide_eq_true hb]
   refine J4 ⟨_,rfl,s2 _ _ h1,kN _ _ _ ⟨⟨_,_,rfl⟩,(s1.trans s2).upd hD,c7,?_⟩⟩
   rw[e3,if_pos hb,p7,p7]
   rfl
  ·rw[decide_eq_false hb]
   refine J2 (kN _ _ _ ⟨⟨_,_,rfl⟩,s1.trans s2,s2 _ _ h1,?_⟩)
   rw[e3,if_neg hb,N6]
 ·rintro D xs σ' H' hD ⟨⟨v,u,rfl⟩,s1,h1,rfl⟩
  rw[b9]at h1
  exact q D H' s1 hD h1
def aK7 (K:W.Frag)(CB:Addr):Sp:=fun vs H Q E=>∃ (a:Addr) (ns:List Int) (M:Nat),vs=[.ref a,.int M]/\Sq K H a ns/\M<=1000000/\(X7 ns->∀ (v:V) (x:Wl) (H':Hp),B3 H H'->aJ5 ns M x->ch3 H' v x->Q v H')/\(¬ X7 ns->E (.ref CB) none H)
theorem ay6:B6 ["tally","most","below","numbers","r"] ["tally","most"] (p9 aB1):=.mk'
set_option maxHeartbeats 1000000 in
theorem bu0 {fF fA fβ:Addr} {fdF fdβ:FuncData} {tk:Tok} (F:Fun K "wall_with" "wall_with" aB1 f fd) (B:Bn mg) (FT:Fq K mg "check_tally" aS6 fT fdT ["tally"])
  (FF:Fq K mg "falling" aB6 fF fdF ["tally"]) (FA:Fq K mg "room_among" an7 fA fdA ["numbers","most","r"])
  (Fβ:Fq K mg "places_below" at6 fβ fdβ ["numbers"])
  (mM:mg "MOST_PLACES"=some (.int 24 tk)) (mB:mg "BadTally"=some (.ref CB)) (cB:ao9 K CB):A4 P w K mg base (CXE P w) 2 f fd ["tally","most"] (aK7 K CB):=by
 have GT:A4 P w K mg base (CXE P w) 1 fT fdT ["tally"] (aR2 K CB):=aM9 FT.F B mM mB cB
 have GF:A4 P w K mg base CX0 1 fF fdF ["tally"] (aY7 K):=be7 FF.F B
 have GA:A4 P w K mg base CX0 1 fA fdA ["numbers","most","r"] (aL3 K):=aT7 FA.F B
 have GL:A4 P w K mg base CX0 1 fβ fdβ ["numbers"] (aL2 K):=aT6 Fβ.F B
 refine F.okX ay6 (fun cdv A outer s H vs Q E hr h=>?_)
 obtain⟨a,ns,M,rfl,hS,hM,h1,h2⟩:=h
 have hsl:=O3
 refine⟨_,d8 (J6 (F2 GT hr (by rfl) FT aq8 (b7 (pv 0) d3)))
   (d8 (y7 (i:=2) ay6.nd rfl (Or.inl rfl) (F2 GL hr (by rfl) Fβ K3 (b7 (pv 0) d3)))
   (d8 (F1 (bs4 (pv 2) (fun _=>rfl)) (k8 (B8 (F5 (b7 N9 (b7 (C1 G8 (pv 2) c9 (fun _ _=>rfl)) d3))))) A3)
   (d8 (F1 (x6 P4 (m8 E6 (p0 (aI9 rfl) (by rfl) B.sum (by rfl) (b7 (pv 0) d3)) c9) c9 (B1 _)) (k8 (B8 (F5 (b7 N9 d3)))) A3)
   (d8 (y7 (i:=3) ay6.nd rfl (Or.inl rfl) (F2 GF hr (by rfl) FF K3 (b7 (pv 0) d3)))
   (d8 (T7 bs6 rfl (aH6 rfl B.range (b7 c9 (b7 (m8 G3 (p0 y9 (by rfl) B.len PySem.boot_len (b7 (pv 3) d3)) c9) d3))) (B4 (i := 4) ay6.nd rfl (Or.inl rfl))
    (k8 (F1 (x6 ag2 (F2 GA hr (by rfl) FA K3 (b7 (pv 3) (b7 (pv 1) (b7 (pv 4) d3)))) c9 (B1 _)) (k8 (B8 (F5 (b7 N9 (b7 (pv 4) d3))))) A3)))
   (k8 (B8 bt2))))))),?_⟩
 refine⟨_,rfl,a,ns,rfl,hS,fun ht=>?_,h2⟩
 have t2:=ht.2
 refine⟨_,rfl,a,ns,rfl,hS,by omega,fun bl H1 s1 hbl g1=>?_⟩
 refine⟨_,rfl,_,.inl ⟨_,SqL.of g1,rfl⟩,?_⟩
 unfold bn3 at g1 ⊢
 cases hb:au8 ns ns.length with
 | cons p ps =>
  rw[hb]at g1
  refine J4 ⟨_,rfl,bl,_,_,_,rfl,rfl,SqL.of g1,A1 (j:=0) rfl,(by show 2<=d7;decide),fun q hq=>?_⟩
  exact h1 ht _ (.below p) _ (s1.trans (d4 hq)) (bx9 hb) (.inr ⟨by simp,q,rfl,c7⟩)
 | nil =>
  have hall:AllP ns:=bH9 hb
  refine J2 ?_
  refine⟨_,rfl,a,ns,rfl,hS.same s1,_,_,rfl,rfl,(by show (0:Int)<2;decide),rfl,_,rfl,?_⟩
  refine aa9 (fun h=>?_) (fun h=>?_)
  ·exact⟨(by show 1<=d7;decide),fun p hp=>h1 ht _ .odd _ (s1.trans (d4 hp)) ⟨hall,bG6 h⟩ (.inr ⟨by simp,p,rfl,c7⟩)⟩
  ·have hev:=bw1 h
   refine⟨_,rfl,a,ns,rfl,hS.same s1,by omega,fun l H2 s2 hl g2=>?_⟩
   refine⟨_,rfl,l,_,rfl,.inl (SqL.of g2),_,_,rfl,rfl,1,((ns.length:Int)+1),by rw[b9,ae6,ap6],⟨by omega,by omega,by omega,by omega⟩,?_⟩
   rw[show ((ns.length:Int)+1 - 1).toNat=ns.length by omega]
   refine W8 (lo:=1) (n:=ns.length) (fun i σ H3=>∃ e4,σ=[some (.ref a),some (.int M),some (.ref bl),some (.ref l),e4]/\B3 H2 H3/\∀ k,1<=k->k<i+1->0<=Y5 ns M k) ⟨none,rfl,B3.refl H2,fun k k1 k2=>by omega⟩ ?_ ?_
   ·rintro i σ H3 hi ⟨e4,rfl,s3,hrm⟩
    have e0:((1:Int)+(i:Int))=((i+1:Nat):Int):=by omega
    rw[e0]
    refine F0 ?_
    refine⟨_,rfl,_,rfl,_,rfl,l,ns,M,i+1,rfl,SqL.of (s3 _ _ g2),hM,by omega,by omega,fun H4 s4=>⟨_,_,rfl,rfl,_,rfl,?_⟩⟩
    refine aa9 (fun h=>?_) (fun h=>?_)
    ·refine⟨_,rfl,(by show 2<=d7;decide),fun p hp=>?_⟩
     exact h1 ht _ (.wall (i+1)) _ ((((s1.trans s2).trans s3).trans s4).trans (d4 hp)) ⟨hall,hev,by omega,by omega,of_decide_eq_true h,hrm⟩ (.inr ⟨by simp,p,rfl,c7⟩)
    ·have h':¬ Y5 ns M (i+1)<0:=fun q=>h (decide_eq_true q)
     refine⟨_,rfl,s3.trans s4,fun k k1 k2=>?_⟩
     rcases F8 k (i+1) with l1 | l1
     ·exact hrm k k1 l1
     ·rw[show k=i+1 by omega];omega
   ·rintro σ H3 ⟨e4,rfl,s3,hrm⟩
    exact h1 ht _ .free _ ((s1.trans s2).trans s3) ⟨hall,hev,fun k k1 k2=>hrm k k1 (by omega)⟩ (.inl ⟨rfl,rfl⟩)
end
theorem p60:(0:Int)<10 ^ (W2 60):=am7 (by decide)
theorem p58:(0:Int)<10 ^ (W2 58):=am7 (by decide)
theorem p50:(0:Int)<10 ^ (W2 50):=am7 (by decide)
theorem p6:(10:Int) ^ (W2 6)=1000000:=by decide
theorem J5 (ns:List Int)(j:Nat)(v:Int):(ns.map V.int).set j (.int v)=(ns.set j v).map V.int:=by rw[List.map_set]
theorem V7 (h:j<ns.length):atI (ns.map V.int) (j:Int)=some (.int (ns.getD j 0)):=A1 (j:=j) (by simp[h])
theorem bs1 (n:Nat)(z:Int):(o9 n [V.int z]).flatten=(o9 n z).map V.int:=by
 induction n with
 | zero=>rfl
 | succ n ih=>rw[J3,N3,ih,J3];rfl
theorem bf3 {k:Int}(h0:0<=k)(h1:k<1000):-(2 ^ 63)<=k/\k<2 ^ 63:=by
 constructor<;>omega
theorem aN0 (c:Int)(h:0<n):∃ j:Nat,c % (n:Int)=(j:Int)/\j<n:=by
 have h1:=N7 c (show (n:Int)≠0 by omega)
 have h2:=K1 c (show (0:Int)<(n:Int) by omega)
 exact⟨(c % (n:Int)).toNat,by omega,by omega⟩
theorem bf9 {K:W.Frag}(b:Bool):Dt K H (.bool b) (.bl b):=by unfold Dt;rfl
section
variable {K:W.Frag} {mg:Str->Option Value} {base:Heap}
def bq0 (K:W.Frag):Sp:=fun vs H Q _=>∃ (c:Int) (m z:Nat),vs=[.int c,.int m,.int z]/\m<=300/\1<=z/\z<=100000000/\∀ (l:Addr) (ts:List Int) (H':Hp),ts.length=m->B3 H H'->H l=none->H' l=some (.lst (ts.map V.int))->Q (.ref l) H'
theorem am4:B6 ["cell","many","size","rest","stir","row","k"] ["cell","many","size"] (p9 aZ0):=.mk'
theorem bu2 (F:Fun K "_law_row" "_law_row" aZ0 f fd) (B:Bn mg):A4 P w K mg base CX0 1 f fd ["cell","many","size"] (bq0 K):=by
 refine F.ok am4 (fun cdv A outer s H vs Q E hr h=>?_)
 obtain⟨c,m,z,rfl,hm,hz1,hz2,q⟩:=h
 have hsl:=O3
 have hz0:(0:Int)<(z:Int):=by omega
 refine⟨_,d8 (y7 (i:=0) am4.nd rfl (Or.inl rfl) (m8 E6 (pv 0) (m8 V4 c9 c9)))
  (d8 (y7 (i:=3) am4.nd rfl (Or.inl rfl) (m8 F6 (pv 0) c9))
  (d8 (y7 (i:=4) am4.nd rfl (Or.inl rfl) (pv 0))
  (d8 (y7 (i:=5) am4.nd rfl (Or.inl rfl) (L8 d3))
  (d8 (T7 PassesOwn.never rfl (aa2 rfl B.range (b7 (pv 1) d3)) (B4 (i := 6) am4.nd rfl (Or.inl rfl))
   (k8 (F1 (x6 P4 (m8 E6 (pv 0) c9) c9 (B1 _))
    (d8 (J6 (aa7 PySem.F.plainAttrs_list PySem.F.slot_list_append PySem.F.type_list_append L7 (pv 5) (b7 (m8 E6 (pv 3) (pv 2)) d3)))
    (k8 (y7 (i:=3) am4.nd rfl (Or.inl rfl) (m8 F6 (pv 3) (pv 2)))))
    (d8 (y7 (i:=4) am4.nd rfl (Or.inl rfl) (m8 E6 (m8 G3 (m8 E6 (pv 4) c9) (m8 W7 c9 (m8 G3 (pv 6) c9))) c9))
    (d8 (y7 (i:=4) am4.nd rfl (Or.inl rfl) (m8 E6 (m8 W7 (pv 4) (pv 4)) c9))
    (d8 (y7 (i:=4) am4.nd rfl (Or.inl rfl) (m8 E6 (m8 W7 (pv 4) c9) c9))
    (k8 (J6 (aa7 PySem.F.plainAttrs_list PySem.F.slot_list_append PySem.F.type_list_append L7 (pv 5) (b7 (m8 E6 (m8 F6 (pv 4) c9) (pv 2)) d3))))))))))
  (k8 (B8 (pv 5))))))),?_⟩
 refine⟨_,rfl,_,_,rfl,rfl,⟨by decide,by decide,by decide⟩,_,_,rfl,rfl,p60,?_⟩
 refine M7 fun c1 _=>?_
 refine⟨_,rfl,_,_,rfl,rfl,⟨by decide,by decide⟩,?_⟩
 refine M7 fun r0 _=>?_
 refine⟨_,rfl,?_⟩
 refine⟨by show 0<=d7;omega,fun l hl=>?_⟩
 have s0:=d4 (o:=.lst []) hl
 refine⟨_,rfl,m,rfl,by omega,by omega,W8 (lo:=0) (n:=m) (fun i σ H1=>∃ (ts:List Int) (r st:Int) (e6:Option V),σ=[some (.int c1),some (.int m),some (.int z),some (.int r),some (.int st),some (.ref l),e6]/\B3 H H1/\H1 l=some (.lst (ts.map V.int))/\ts.length=i)
  ⟨[],r0,c1,none,rfl,s0,c7,rfl⟩ ?_ ?_⟩
 ·rintro i σ H1 hi ⟨ts,r,st,e6,rfl,s1,g1,hl1⟩
  have e0:((0:Int)+(i:Int))=(i:Int):=by omega
  rw[e0]
  refine F0 ?_
  refine⟨_,rfl,_,_,rfl,rfl,(by show (0:Int)<2;decide),rfl,_,rfl,?_⟩
  refine aa9 (fun h=>?_) (fun h=>?_)
  ·refine⟨_,rfl,.inl ⟨rfl,_,SqL.of g1⟩,_,rfl,_,rfl,_,_,rfl,rfl,hz0,l,_,_,rfl,rfl,g1,by rw[b9];omega,?_⟩
   refine⟨_,rfl,_,rfl,_,_,rfl,rfl,⟨hz0,by omega⟩,?_⟩
   exact⟨ts++[r % (z:Int)],_,_,_,rfl,s1.upd hl,by rw[c7,p7];rfl,by rw[m5,hl1];rfl⟩
  ·refine⟨_,rfl,_,_,rfl,rfl,(by show (0:Int)<998244353;decide),_,rfl,_,_,rfl,rfl,_,_,rfl,rfl,.inl ⟨by decide,by decide⟩,_,_,rfl,rfl,_,_,rfl,rfl,(by show (0:Int)<2147483647;decide),?_⟩
   refine M7 fun k1 hk1=>?_
   have k10:0<=k1:=by rw[hk1];exact N7 _ (by decide)
   have k11:k1<2147483647:=by rw[hk1];exact K1 _ (by decide)
   clear hk1
   refine⟨_,rfl,_,rfl,_,_,rfl,rfl,.inl ⟨by omega,by omega⟩,_,_,rfl,rfl,(by show (0:Int)<2147483629;decide),?_⟩
   refine M7 fun k2 _=>?_
   refine⟨_,rfl,_,_,rfl,rfl,.inr ⟨by decide,by decide⟩,_,_,rfl,rfl,(by show (0:Int)<2147483647;decide),?_⟩
   refine M7 fun k3 _=>?_
   refine⟨_,rfl,.inl ⟨rfl,_,SqL.of g1⟩,_,rfl,_,_,rfl,rfl,⟨by decide,by decide⟩,_,rfl,_,_,rfl,rfl,hz0,l,_,_,rfl,rfl,g1,by rw[b9];omega,?_⟩
   exact⟨ts++[k3 / 7 % (z:Int)],_,_,_,rfl,s1.upd hl,by rw[c7,p7];rfl,by rw[m5,hl1];rfl⟩
 ·rintro σ H1 ⟨ts,r,st,e6,rfl,s1,g1,hl1⟩
  exact⟨_,rfl,q l ts H1 hl1 s1 hl g1⟩
end
end Web
namespace Thk
open Grf
section
variable {m:Nat} {M L:Int} {c x:Nat->Int}
def sz (m:Nat)(σ:Nat->Bool):Int:=S m fun j=>b2 (σ j)
def fV (m:Nat)(M:Int)(c:Nat->Int)(σ τ:Nat->Bool):Int:=S m (fun j=>(b2 (σ j) - b2 (τ j))*c j) - M*(sz m σ*((m:Int) - 1 - sz m τ))
def Apart (m:Nat)(σ τ:Nat->Bool):Prop:=∀ j,j<m->¬ (σ j=true/\τ j=true)
theorem al1 (u v w c k:Int):(u - v)*(c - k)=(u - w)*c - (v - w)*c - k*(u - v):=by
 rw[P6,P0 k (u - v),<- aA1]
 have:u - w - (v - w)=u - v:=by omega
 rw[this]
theorem al2 (u v w c k:Int):(u - v)*(c - k)=(w - v)*c - (w - u)*c - k*(u - v):=by
 rw[P6,P0 k (u - v),<- aA1]
 have:w - v - (w - u)=u - v:=by omega
 rw[this]
theorem bf6 (σ σ' τ:Nat->Bool):fV m M c σ' τ=fV m M c σ τ+S m (fun j=>(b2 (σ' j) - b2 (σ j))*(c j - M*((m:Int) - 1 - sz m τ))):=by
 unfold fV
 have e1:S m (fun j=>(b2 (σ' j) - b2 (σ j))*(c j - M*((m:Int) - 1 - sz m τ)))=S m (fun j=>(b2 (σ' j) - b2 (τ j))*c j - (b2 (σ j) - b2 (τ j))*c j - (M*((m:Int) - 1 - sz m τ))*(b2 (σ' j) - b2 (σ j))):=E1 fun j _=>al1 _ _ _ _ _
 rw[e1,Q0,Q0,ag3,Q0]
 unfold sz
 have e2:M*((m:Int) - 1 - S m fun j=>b2 (τ j))*((S m fun j=>b2 (σ' j)) - S m fun j=>b2 (σ j))=M*((S m fun j=>b2 (σ' j))*((m:Int) - 1 - S m fun j=>b2 (τ j))) - M*((S m fun j=>b2 (σ j))*((m:Int) - 1 - S m fun j=>b2 (τ j))):=by
  rw[P6,P3,P3,P0 ((m:Int) - 1 - S m fun j=>b2 (τ j)),P0 ((m:Int) - 1 - S m fun j=>b2 (τ j))]
 rw[e2]
 omega
theorem bf5 (σ τ τ':Nat->Bool):fV m M c σ τ'=fV m M c σ τ - S m (fun j=>(b2 (τ' j) - b2 (τ j))*(c j - M*sz m σ)):=by
 unfold fV
 have e1:S m (fun j=>(b2 (τ' j) - b2 (τ j))*(c j - M*sz m σ))=S m (fun j=>(b2 (σ j) - b2 (τ j))*c j - (b2 (σ j) - b2 (τ' j))*c j - (M*sz m σ)*(b2 (τ' j) - b2 (τ j))):=E1 fun j _=>al2 _ _ _ _ _
 rw[e1,Q0,Q0,ag3,Q0]
 have e2:M*sz m σ*((S m fun j=>b2 (τ' j)) - S m fun j=>b2 (τ j))=M*(sz m σ*((m:Int) - 1 - sz m τ)) - M*(sz m σ*((m:Int) - 1 - sz m τ')):=by
  rw[<- P6,<- P6,P3]
  congr 2
  unfold sz
  omega
 rw[e2]
 omega
theorem bf7 (σ τ:Nat->Bool)(hM:0<=M):fV m M c σ τ<=S m (fun j=>(c j).natAbs)+M*((m:Int)*(m:Int))+M*(m:Int):=by
 unfold fV
 have s0:0<=sz m σ/\sz m σ<=m:=⟨aj4 fun j _=>aa3 _,by
  have:S m (fun j=>b2 (σ j))<=S m (fun _=>1):=ax5 fun j _=>by1 _
  rw[Z9]at this
  unfold sz
  omega⟩
 have t0:0<=sz m τ/\sz m τ<=m:=⟨aj4 fun j _=>aa3 _,by
  have:S m (fun j=>b2 (τ j))<=S m (fun _=>1):=ax5 fun j _=>by1 _
  rw[Z9]at this
  unfold sz
  omega⟩
 have a:S m (fun j=>(b2 (σ j) - b2 (τ j))*c j)<=S m (fun j=>((c j).natAbs:Int)):=ax5 fun j _=>by
  cases σ j<;>cases τ j<;>simp[b2]<;>omega
 have b:-(sz m σ)<=sz m σ*((m:Int) - 1 - sz m τ):=by
  have:sz m σ*(-1)<=sz m σ*((m:Int) - 1 - sz m τ):=R6 (by omega) s0.1
  omega
 have d:M*(-(m:Int))<=M*(sz m σ*((m:Int) - 1 - sz m τ)):=R6 (by omega) hM
 have e:0<=M*((m:Int)*(m:Int)):=ah6 hM (ah6 (by omega) (by omega))
 rw[Int.mul_neg]at d
 omega
theorem cc9 (hM:0<=M)(h:Apart m σ τ):∃ σ' τ',Apart m σ' τ'/\fV m M c σ τ<=fV m M c σ' τ'/\∀ σ₁ τ₁,Apart m σ₁ τ₁->fV m M c σ₁ τ₁<=fV m M c σ' τ':=by
 obtain⟨N,hN⟩:∃ N:Int,N=S m (fun j=>((c j).natAbs:Int))+M*((m:Int)*(m:Int))+M*(m:Int):=⟨_,rfl⟩
 have key:∀ (n:Nat) (σ τ:Nat->Bool),Apart m σ τ->(N - fV m M c σ τ).toNat=n->∃ σ' τ',Apart m σ' τ'/\fV m M c σ τ<=fV m M c σ' τ'/\∀ σ₁ τ₁,Apart m σ₁ τ₁->fV m M c σ₁ τ₁<=fV m M c σ' τ':=by
  intro n
  induction n using Nat.strongRecOn with
  | _ n ih =>
   intro σ τ ha hn
   by_cases hm:∀ σ₁ τ₁,Apart m σ₁ τ₁->fV m M c σ₁ τ₁<=fV m M c σ τ
   ·exact⟨σ,τ,ha,N8 _,hm⟩
   ·obtain⟨σ₁,h1⟩:=Classical.not_forall.mp hm
    obtain⟨τ₁,h2⟩:=Classical.not_forall.mp h1
    obtain⟨a1,h3⟩:=Classical.not_imp.mp h2
    have b1:=bf7 (m:=m) (c:=c) σ₁ τ₁ hM
    have b0:=bf7 (m:=m) (c:=c) σ τ hM
    rw[<- hN]at b0 b1
    obtain⟨σ',τ',q1,q2,q3⟩:=ih (N - fV m M c σ₁ τ₁).toNat (by omega) σ₁ τ₁ a1 rfl
    exact⟨σ',τ',q1,by omega,q3⟩
 exact key _ σ τ h rfl
end
section
variable {m:Nat} {M L:Int} {c x:Nat->Int}
def Mx (m:Nat)(M:Int)(c:Nat->Int)(σ τ:Nat->Bool):Prop:=Apart m σ τ/\∀ σ₁ τ₁,Apart m σ₁ τ₁->fV m M c σ₁ τ₁<=fV m M c σ τ
def pP (m:Nat)(M:Int)(σ:Nat->Bool):Int:=M*sz m σ
def qQ (m:Nat)(M:Int)(τ:Nat->Bool):Int:=M*((m:Int) - 1 - sz m τ)
def setB (σ:Nat->Bool)(i:Nat)(v:Bool):Nat->Bool:=fun j=>if j=i then v else σ j
theorem aL6 {v:Bool}:setB σ i v i=v:=if_pos rfl
theorem aq1 {v:Bool}(h:j≠i):setB σ i v j=σ j:=if_neg h
theorem bg9 (σ:Nat->Bool)(i:Nat)(v:Bool)(g:Nat->Int)(hi:i<m):S m (fun j=>(b2 (setB σ i v j) - b2 (σ j))*g j)=(b2 v - b2 (σ i))*g i:=by
 rw[bb6 (g:=fun _=>0) hi (fun j _ hj=>by rw[aq1 hj];simp),ab1,aL6]
 omega
theorem cg8 (h:Mx m M c σ τ)(hj:j<m)(hs:σ j=true):qQ m M τ<=c j:=by
 have a:=h.2 (setB σ j false) τ (fun i hi ⟨u,v⟩=>by
  by_cases e:i=j
  ·subst e;rw[aL6]at u;cases u
  ·rw[aq1 e]at u;exact h.1 i hi ⟨u,v⟩)
 rw[bf6 σ (setB σ j false) τ,bg9 σ j false _ hj,hs]at a
 unfold qQ
 simp only[ax3,ao7]at a
 omega
theorem cb7 (h:Mx m M c σ τ)(hj:j<m)(hs:σ j=false)(ht:τ j=false):c j<=qQ m M τ:=by
 have a:=h.2 (setB σ j true) τ (fun i hi ⟨u,v⟩=>by
  by_cases e:i=j
  ·subst e;rw[ht]at v;cases v
  ·rw[aq1 e]at u;exact h.1 i hi ⟨u,v⟩)
 rw[bf6 σ (setB σ j true) τ,bg9 σ j true _ hj,hs]at a
 unfold qQ
 simp only[ax3,ao7]at a
 omega
theorem cg4 (h:Mx m M c σ τ)(hj:j<m)(ht:τ j=true):c j<=pP m M σ:=by
 have a:=h.2 σ (setB τ j false) (fun i hi ⟨u,v⟩=>by
  by_cases e:i=j
  ·subst e;rw[aL6]at v;cases v
  ·rw[aq1 e]at v;exact h.1 i hi ⟨u,v⟩)
 rw[bf5 σ τ (setB τ j false),bg9 τ j false _ hj,ht]at a
 unfold pP
 simp only[ax3,ao7]at a
 omega
theorem cc6 (h:Mx m M c σ τ)(hj:j<m)(hs:σ j=false)(ht:τ j=false):pP m M σ<=c j:=by
 have a:=h.2 σ (setB τ j true) (fun i hi ⟨u,v⟩=>by
  by_cases e:i=j
  ·subst e;rw[hs]at u;cases u
  ·rw[aq1 e]at v;exact h.1 i hi ⟨u,v⟩)
 rw[bf5 σ τ (setB τ j true),bg9 τ j true _ hj,ht]at a
 unfold pP
 simp only[ax3,ao7]at a
 omega
theorem aS0 {σ':Nat->Bool}(h:∀ j,j<m->σ' j≠σ j->c j=qQ m M τ):fV m M c σ' τ=fV m M c σ τ:=by
 rw[bf6 σ σ' τ,E1 (g:=fun _=>0) fun j hj=>?_,ab1,aP4]
 by_cases e:σ' j=σ j
 ·rw[e,ah4,as9]
 ·rw[h j hj e];unfold qQ;rw[ah4,T6]
theorem aR9 {τ':Nat->Bool}(h:∀ j,j<m->τ' j≠τ j->c j=pP m M σ):fV m M c σ τ'=fV m M c σ τ:=by
 rw[bf5 σ τ τ',E1 (g:=fun _=>0) fun j hj=>?_,ab1,aP5]
 by_cases e:τ' j=τ j
 ·rw[e,ah4,as9]
 ·rw[h j hj e];unfold pP;rw[ah4,T6]
structure Shr (m:Nat) (M L:Int) (c x:Nat->Int):Prop where
 m1:1<=M
 x0:∀ j,j<m->0<=x j
 xM:∀ j,j<m->x j<=M
 lo:∀ j,j<m->0<x j->L - 1<=c j
 hi:∀ j,j<m->x j<M->c j<=L
 A:∀ σ τ,Apart m σ τ->fV m M c σ τ<=S m fun j=>b2 (σ j)*(M - x j)+b2 (τ j)*x j
 B:∀ σ τ,Apart m σ τ->fV m M c σ τ<=S m fun j=>(1+b2 (σ j) - b2 (τ j))*(M - x j)
 C:∀ σ τ,Apart m σ τ->fV m M c σ τ<=S m fun j=>(1 - b2 (σ j)+b2 (τ j))*x j
def full (M:Int)(x:Nat->Int)(σ:Nat->Bool):Nat->Bool:=fun j=>σ j && decide (x j=M)
def U5 (x:Nat->Int)(τ:Nat->Bool):Nat->Bool:=fun j=>τ j && decide (x j=0)
theorem aD6:full M x σ j=true↔σ j=true/\x j=M:=by simp[full]
theorem ar0:U5 x τ j=true↔τ j=true/\x j=0:=by simp[U5]
theorem aN8 (h:Apart m σ τ):Apart m (full M x σ) τ:=fun j hj ⟨u,v⟩=>h j hj ⟨(aD6.mp u).1,v⟩
theorem aC4 (h:Apart m σ τ):Apart m σ (U5 x τ):=fun j hj ⟨u,v⟩=>h j hj ⟨u,(ar0.mp v).1⟩
theorem bf1 (h:full M x σ j≠σ j):σ j=true/\x j≠M:=by
 unfold full at h
 cases e:σ j
 ·rw[e]at h;simp at h
 ·rw[e]at h;exact⟨rfl,by simpa using h⟩
theorem aT8 (h:U5 x τ j≠τ j):τ j=true/\x j≠0:=by
 unfold U5 at h
 cases e:τ j
 ·rw[e]at h;simp at h
 ·rw[e]at h;exact⟨rfl,by simpa using h⟩
theorem au6 (H:Shr m M L c x)(h:Mx m M c σ τ)(hq:L<=qQ m M τ):fV m M c (full M x σ) τ=fV m M c σ τ:=aS0 fun j hj e=>by
 have:=bf1 e
 have a:=H.hi j hj (by have:=H.xM j hj;omega)
 have b:=cg8 h hj this.1
 omega
theorem ao3 (H:Shr m M L c x)(h:Mx m M c σ τ)(hp:pP m M σ<=L - 1):fV m M c σ (U5 x τ)=fV m M c σ τ:=aR9 fun j hj e=>by
 have:=aT8 e
 have a:=H.lo j hj (by have:=H.x0 j hj;omega)
 have b:=cg4 h hj this.1
 omega
theorem by9 {g:Nat->Int}(h:∀ j,j<m->g j<=0):S m g<=0:=by
 have:=ax5 (g:=fun _=>0) h
 rw[ab1]at this
 exact this
theorem A0 (H:Shr m M L c x)(ha:Apart m σ τ)(hs:∀ j,j<m->σ j=true->x j=M)(ht:∀ j,j<m->τ j=true->x j=0):fV m M c σ τ<=0:=
 W9 (H.A σ τ ha) (by9 fun j hj=>by
  cases e:σ j<;>cases e':τ j<;>simp only[ax3,ao7,as9,am6]
  ·omega
  ·have:=ht j hj e';omega
  ·have:=hs j hj e;omega
  ·have:=ht j hj e';have:=hs j hj e;omega)
theorem X0 (H:Shr m M L c x)(h:Mx m M c σ τ)(ht:∀ j,j<m->τ j=true->x j=0):fV m M c σ τ<=0:=by
 by_cases hq:L<=qQ m M τ
 ·rw[<- au6 H h hq]
  exact A0 H (aN8 h.1) (fun j _ e=>(aD6.mp e).2) ht
 ·let σ':Nat->Bool:=fun j=>σ j || (!τ j && decide (0<x j))
  have hσ:∀ j,σ' j=(σ j || (!τ j && decide (0<x j))):=fun _=>rfl
  have ap:Apart m σ' τ:=fun j hj ⟨u,v⟩=>by
   rw[hσ,v]at u
   simp at u
   exact h.1 j hj ⟨u,v⟩
  have e:fV m M c σ' τ=fV m M c σ τ:=aS0 fun j hj e=>by
   rw[hσ]at e
   cases e1:σ j
   ·cases e2:τ j
    ·rw[e1,e2]at e
     have e3:0<x j:=by simpa using e
     have a:=H.lo j hj e3
     have b:=cb7 h hj e1 e2
     omega
    ·rw[e1,e2]at e;simp at e
   ·rw[e1]at e;simp at e
  rw[<- e]
  refine W9 (H.C σ' τ ap) (by9 fun j hj=>?_)
  rw[hσ]
  cases e1:σ j
  ·cases e2:τ j
   ·by_cases e3:0<x j
    ·simp[e3,b2]
    ·have:=H.x0 j hj
     have e4:x j=0:=by omega
     rw[e4,T6];exact N8 _
   ·rw[ht j hj e2,T6];exact N8 _
  ·cases e2:τ j
   ·simp[b2]
   ·exact absurd ⟨e1,e2⟩ (h.1 j hj)
theorem XM (H:Shr m M L c x)(h:Mx m M c σ τ)(hs:∀ j,j<m->σ j=true->x j=M):fV m M c σ τ<=0:=by
 by_cases hp:pP m M σ<=L - 1
 ·rw[<- ao3 H h hp]
  exact A0 H (aC4 h.1) hs (fun j _ e=>(ar0.mp e).2)
 ·let τ':Nat->Bool:=fun j=>τ j || (!σ j && decide (x j<M))
  have hτ:∀ j,τ' j=(τ j || (!σ j && decide (x j<M))):=fun _=>rfl
  have ap:Apart m σ τ':=fun j hj ⟨u,v⟩=>by
   rw[hτ,u]at v
   simp at v
   exact h.1 j hj ⟨u,v⟩
  have e:fV m M c σ τ'=fV m M c σ τ:=aR9 fun j hj e=>by
   rw[hτ]at e
   cases e2:τ j
   ·cases e1:σ j
    ·rw[e1,e2]at e
     have e3:x j<M:=by simpa using e
     have a:=H.hi j hj e3
     have b:=cc6 h hj e1 e2
     omega
    ·rw[e1,e2]at e;simp at e
   ·rw[e2]at e;simp at e
  rw[<- e]
  refine W9 (H.B σ τ' ap) (by9 fun j hj=>?_)
  rw[hτ]
  cases e1:σ j
  ·cases e2:τ j
   ·by_cases e3:x j<M
    ·simp[e3,b2]
    ·have:=H.xM j hj
     have e4:M - x j=0:=by omega
     rw[e4,T6];exact N8 _
   ·simp[b2]
  ·rw[hs j hj e1,ah4,T6];exact N8 _
end
section
variable {m:Nat} {M L:Int} {c x:Nat->Int}
def cut (m:Nat)(σ σ':Nat->Bool):Int:=S m fun j=>b2 (σ j) - b2 (σ' j)
theorem bO8 (σ σ':Nat->Bool):sz m σ'=sz m σ - cut m σ σ':=by
 unfold cut sz
 rw[Q0]
 omega
theorem cd4 {σ':Nat->Bool}(h:∀ j,j<m->b2 (σ' j)<=b2 (σ j))(e:cut m σ σ'<=0)(hj:j<m):σ' j=σ j:=by
 have a:=bI2 (f:=fun j=>b2 (σ j) - b2 (σ' j)) hj fun i hi=>by have:=h i hi;omega
 have b:=h j hj
 unfold cut at e
 have:b2 (σ' j)=b2 (σ j):=by omega
 cases e1:σ' j<;>cases e2:σ j<;>rw[e1,e2]at this<;>simp[b2]at this<;>rfl
theorem bG9 (σ:Nat->Bool)(j:Nat):b2 (full M x σ j)<=b2 (σ j):=by
 unfold full
 cases σ j<;>cases decide (x j=M)<;>decide
theorem bu9 (τ:Nat->Bool)(j:Nat):b2 (U5 x τ j)<=b2 (τ j):=by
 unfold U5
 cases τ j<;>cases decide (x j=0)<;>decide
theorem bl9 (s:Int):∃ k,s*(s - 1)=2*k:=by
 rcases(show s % 2=0\/s % 2=1 by omega) with e | e
 ·obtain⟨k,hk⟩:∃ k,s=2*k:=⟨s / 2,by omega⟩
  exact⟨k*(s - 1),by rw[<- P3,<- hk]⟩
 ·obtain⟨k,hk⟩:∃ k,s - 1=2*k:=⟨s / 2,by omega⟩
  exact⟨k*s,by rw[<- P3,<- hk,P0]⟩
theorem bU5 (hr:∀ j,j<m->b2 (σ j)+b2 (τ j)=1)(hc:∃ k,S m c=2*k):∃ k,fV m M c σ τ=2*k:=by
 obtain⟨k,hk⟩:=hc
 have st:sz m σ+sz m τ=m:=by
  unfold sz
  rw[<- as3,E1 (g:=fun _=>1) hr,Z9]
  omega
 have e1:S m (fun j=>(b2 (σ j) - b2 (τ j))*c j)=S m c - 2*S m (fun j=>b2 (τ j)*c j):=by
  rw[<- ag3,<- Q0]
  refine E1 fun j hj=>?_
  have:b2 (σ j)=1 - b2 (τ j):=by have:=hr j hj;omega
  rw[this]
  cases τ j<;>simp[b2]<;>omega
 obtain⟨n,hn⟩:=bl9 (sz m σ)
 unfold fV
 rw[e1,show (m:Int) - 1 - sz m τ=sz m σ - 1 by omega,hn,hk,show M*(2*n)=2*(M*n) by rw[<- P3,P0 M 2,P3]]
 exact⟨k - S m (fun j=>b2 (τ j)*c j) - M*n,by omega⟩
theorem bG2 {h k w F:Int}(hM:1<=M)(h1:1<=h)(k1:1<=k)(w0:0<=w)(w1:w<=M - 1)(hF:F<=(h - k)*w+h - M*(k*(h - 1))):F<=1:=by
 have kh:0<=(k - 1)*(h - 1):=ah6 (by omega) (by omega)
 have e0:(k - 1)*(h - 1)=k*(h - 1) - (h - 1):=by rw[aA1];omega
 by_cases c1:k<=h
 ·have a:(h - k)*w<=(h - k)*(M - 1):=R6 w1 (by omega)
  have b:(h - k)*(M - 1)=M*(h - k) - (h - k):=by rw[P6,ae8,P0]
  have d:M*(h - k) - M*(k*(h - 1))=M*(h - k - k*(h - 1)):=by rw[P6 M (h - k)]
  have e2:h - k - k*(h - 1) = -(h*(k - 1)):=by
   rw[P6,P6,P0 h k];omega
  have g:1*(h*(k - 1))<=M*(h*(k - 1)):=ab3 hM (ah6 (by omega) (by omega))
  have g2:1*(k - 1)<=h*(k - 1):=ab3 h1 (by omega)
  rw[e2,Int.mul_neg]at d
  omega
 ·have a:(k - h)*0<=(k - h)*w:=R6 w0 (by omega)
  have b:(h - k)*w = -((k - h)*w):=by rw[<- bM0];congr 1;omega
  have g:1*(k*(h - 1))<=M*(k*(h - 1)):=ab3 hM (ah6 (by omega) (by omega))
  omega
theorem mid (H:Shr m M L c x)(ha:Apart m σ τ)(hr:sz m σ+sz m τ=m):fV m M c σ τ<=(cut m τ (U5 x τ) - cut m σ (full M x σ))*(pP m M σ - L)+cut m τ (U5 x τ) - M*(cut m σ (full M x σ)*(cut m τ (U5 x τ) - 1)):=by
 have a0:=A0 H (aN8 (x:=x) (M:=M) (aC4 (x:=x) ha)) (fun j _ e=>(aD6.mp e).2) (fun j _ e=>(ar0.mp e).2)
 rw[bf6 σ (full M x σ) (U5 x τ),bf5 σ τ (U5 x τ),bO8 τ (U5 x τ)]at a0
 obtain⟨h,hh⟩:∃ h,h=cut m τ (U5 x τ):=⟨_,rfl⟩
 obtain⟨k,hk⟩:∃ k,k=cut m σ (full M x σ):=⟨_,rfl⟩
 rw[<- hh]at a0
 rw[<- hh,<- hk]
 have t:S m (fun j=>(b2 (U5 x τ j) - b2 (τ j))*(c j - M*sz m σ))<=(pP m M σ - L+1)*h:=by
  rw[hh]
  unfold cut
  rw[<- ag3]
  refine ax5 fun j hj=>?_
  by_cases e:U5 x τ j=τ j
  ·rw[e];simp
  ·obtain⟨e1,e2⟩:=aT8 e
   have e3:U5 x τ j=false:=by cases e4:U5 x τ j;rfl;rw[e4,e1]at e;exact absurd rfl e
   have:=H.lo j hj (by have:=H.x0 j hj;omega)
   rw[e1,e3]
   simp only[ax3,ao7]
   unfold pP
   omega
 have s:-((L - M*((m:Int) - 1 - (sz m τ - h)))*k)<=S m (fun j=>(b2 (full M x σ j) - b2 (σ j))*(c j - M*((m:Int) - 1 - (sz m τ - h)))):=by
  rw[hk,<- bM0]
  unfold cut
  rw[<- ag3]
  refine ax5 fun j hj=>?_
  by_cases e:full M x σ j=σ j
  ·rw[e];simp
  ·obtain⟨e1,e2⟩:=bf1 e
   have e3:full M x σ j=false:=by cases e4:full M x σ j;rfl;rw[e4,e1]at e;exact absurd rfl e
   have:=H.hi j hj (by have:=H.xM j hj;omega)
   rw[e1,e3]
   simp only[ax3,ao7]
   omega
 have q1:M*((m:Int) - 1 - (sz m τ - h))=pP m M σ+M*(h - 1):=by
  unfold pP
  rw[<- af0]
  congr 1
  omega
 rw[q1]at s a0
 have e1:(L - (pP m M σ+M*(h - 1)))*k = -((pP m M σ - L)*k) - M*(k*(h - 1)):=by
  rw[<- Int.sub_sub,aA1,P3,P0 (h - 1) k,<- bM0]
  congr 2
  omega
 have e2:(pP m M σ - L+1)*h=(pP m M σ - L)*h+h:=by rw[bL9,am6]
 have e3:(h - k)*(pP m M σ - L)=(pP m M σ - L)*h - (pP m M σ - L)*k:=by rw[aA1,P0 h,P0 k]
 rw[e3]
 rw[e1]at s
 rw[e2]at t
 omega
theorem bY3 (H:Shr m M L c x)(hc:∃ k,S m c=2*k)(ha:Apart m σ τ):fV m M c σ τ<=0:=by
 have M0:0<=M:=by have:=H.m1;omega
 obtain⟨σ',τ',a1,a2,a3⟩:=cc9 (c:=c) M0 ha
 refine W9 a2 ?_
 have h:Mx m M c σ' τ':=⟨a1,a3⟩
 clear a2 a3 ha
 by_cases hp:pP m M σ'<=L - 1
 ·rw[<- ao3 H h hp]
  exact X0 H ⟨aC4 a1,fun σ₁ τ₁ q=>by rw[ao3 H h hp];exact h.2 _ _ q⟩ fun j _ e=>(ar0.mp e).2
 ·by_cases hq:L<=qQ m M τ'
  ·rw[<- au6 H h hq]
   exact XM H ⟨aN8 a1,fun σ₁ τ₁ q=>by rw[au6 H h hq];exact h.2 _ _ q⟩ fun j _ e=>(aD6.mp e).2
  ·have hr:∀ j,j<m->b2 (σ' j)+b2 (τ' j)=1:=fun j hj=>by
    cases e1:σ' j<;>cases e2:τ' j
    ·have:=cc6 h hj e1 e2
     have:=cb7 h hj e1 e2
     omega
    ·rfl
    ·rfl
    ·exact absurd ⟨e1,e2⟩ (a1 j hj)
   have st:sz m σ'+sz m τ'=m:=by
    unfold sz
    rw[<- as3,E1 (g:=fun _=>1) hr,Z9]
    omega
   by_cases k0:cut m σ' (full M x σ')<=0
   ·exact XM H h fun j hj e=>by
     have:=cd4 (fun i _=>bG9 σ' i) k0 hj
     rw[e]at this
     exact(aD6.mp this).2
   ·by_cases h0:cut m τ' (U5 x τ')<=0
    ·exact X0 H h fun j hj e=>by
      have:=cd4 (fun i _=>bu9 τ' i) h0 hj
      rw[e]at this
      exact(ar0.mp this).2
    ·have q1:qQ m M τ'=pP m M σ' - M:=by
      unfold qQ pP
      rw[show (m:Int) - 1 - sz m τ'=sz m σ' - 1 by omega,P6,ae8]
     have f1:=bG2 H.m1 (by omega) (by omega) (by omega) (by omega) (mid H a1 st)
     obtain⟨n,hn⟩:=bU5 (M:=M) hr hc
     omega
end
section
variable {m:Nat} {M L a:Int} {c x:Nat->Int}
theorem aE9 (f:Nat->Int):∀ n:Nat,S (n+1) f=f 0+S n (fun j=>f (j+1))
 | 0=>by simp[S]
 | n+1=>by
  show S (n+1) f+f (n+1)=f 0+(S n (fun j=>f (j+1))+f (n+1))
  rw[aE9 f n]
  omega
def aE0 (b:Bool)(σ:Nat->Bool):Nat->Bool
 | 0=>b
 | j+1=>σ j
theorem bc8 (b:Bool)(σ:Nat->Bool):sz (m+1) (aE0 b σ)=b2 b+sz m σ:=by
 unfold sz
 rw[aE9]
 rfl
theorem az7 {b b':Bool}(h:Apart m σ τ)(hb:¬ (b=true/\b'=true)):Apart (m+1) (aE0 b σ) (aE0 b' τ)
 | 0,_=>hb
 | j+1,hj=>h j (by omega)
theorem az4 (b b':Bool)(σ τ:Nat->Bool):fV (m+1) M d (aE0 b σ) (aE0 b' τ)=(b2 b - b2 b')*d 0+S m (fun j=>(b2 (σ j) - b2 (τ j))*d (j+1)) - M*((b2 b+sz m σ)*((m:Int) - b2 b' - sz m τ)):=by
 unfold fV
 rw[aE9,bc8,bc8]
 have:((m+1:Nat):Int) - 1 - (b2 b'+sz m τ)=(m:Int) - b2 b' - sz m τ:=by omega
 rw[this]
 rfl
def Kk (n:Nat)(M:Int)(d:Nat->Int):Prop:=∀ σ τ,Apart n σ τ->fV n M d σ τ<=0
theorem aO0 (σ τ:Nat->Bool):fV m M (fun j=>d (j+1) - x j) σ τ=S m (fun j=>(b2 (σ j) - b2 (τ j))*d (j+1)) - S m (fun j=>(b2 (σ j) - b2 (τ j))*x j) - M*(sz m σ*((m:Int) - 1 - sz m τ)):=by
 unfold fV
 rw[<- Q0]
 congr 1
 exact E1 fun j _=>P6 _ _ _
theorem bK9 (s u:Int):M*(s*u)=M*(s*(u - 1))+M*s:=by
 rw[<- af0,P6];congr 1;omega
theorem ca9 (s u:Int):M*((1+s)*u)=M*(s*(u - 1))+M*s+M*u:=by
 rw[<- bK9,bL9,af0,am6];omega
theorem bP0 (hM:1<=M)(hK:Kk (m+1) M d)(ha:S m x=d 0)(x0:∀ j,j<m->0<=x j)(xM:∀ j,j<m->x j<=M)(lo:∀ j,j<m->0<x j->L - 1<=d (j+1) - x j)(hi:∀ j,j<m->x j<M->d (j+1) - x j<=L):Shr m M L (fun j=>d (j+1) - x j) x where
 m1:=hM
 x0:=x0
 xM:=xM
 lo:=lo
 hi:=hi
 A σ τ h:=by
  have k:=hK _ _ (az7 (b:=false) (b':=false) h (fun e=>by cases e.1))
  rw[az4]at k
  rw[aO0]
  have e:S m (fun j=>b2 (σ j)*(M - x j)+b2 (τ j)*x j)=M*sz m σ - S m (fun j=>(b2 (σ j) - b2 (τ j))*x j):=by
   unfold sz
   rw[<- ag3,<- Q0]
   refine E1 fun j _=>?_
   cases σ j<;>cases τ j<;>simp[b2]
  rw[e]
  have p:=bK9 (M:=M) (sz m σ) ((m:Int) - sz m τ)
  rw[show (m:Int) - sz m τ - 1=(m:Int) - 1 - sz m τ by omega]at p
  simp only[ao7,Int.zero_add,aP5,ah4,as9]at k
  omega
 B σ τ h:=by
  have k:=hK _ _ (az7 (b:=true) (b':=false) h (fun e=>by cases e.2))
  rw[az4]at k
  rw[aO0]
  have e:S m (fun j=>(1+b2 (σ j) - b2 (τ j))*(M - x j))=M*((m:Int) - sz m τ)+M*sz m σ - S m x - S m (fun j=>(b2 (σ j) - b2 (τ j))*x j):=by
   have e1:S m (fun j=>(1+b2 (σ j) - b2 (τ j))*(M - x j))=S m (fun j=>M*((1 - b2 (τ j))+b2 (σ j)) - x j - (b2 (σ j) - b2 (τ j))*x j):=E1 fun j _=>by
    cases σ j<;>cases τ j<;>simp[b2]<;>omega
   rw[e1,Q0,Q0,ag3,as3,Q0,Z9,af0]
   unfold sz
   rw[ae8]
  rw[e]
  have p:=ca9 (M:=M) (sz m σ) ((m:Int) - sz m τ)
  rw[show (m:Int) - sz m τ - 1=(m:Int) - 1 - sz m τ by omega]at p
  simp only[ao7,ax3,aP5,am6]at k
  omega
 C σ τ h:=by
  have k:=hK _ _ (az7 (b:=false) (b':=true) h (fun e=>by cases e.1))
  rw[az4]at k
  rw[aO0]
  have e:S m (fun j=>(1 - b2 (σ j)+b2 (τ j))*x j)=S m x - S m (fun j=>(b2 (σ j) - b2 (τ j))*x j):=by
   rw[<- Q0]
   refine E1 fun j _=>?_
   cases σ j<;>cases τ j<;>simp[b2]<;>omega
  rw[e]
  simp only[ao7,ax3,Int.zero_add,Int.zero_sub]at k
  omega
theorem bV5 (hM:1<=M)(hK:Kk (m+1) M d)(ev:∃ k,S (m+1) d=2*k)(ha:S m x=d 0)(x0:∀ j,j<m->0<=x j)(xM:∀ j,j<m->x j<=M)(lo:∀ j,j<m->0<x j->L - 1<=d (j+1) - x j)(hi:∀ j,j<m->x j<M->d (j+1) - x j<=L):Kk m M (fun j=>d (j+1) - x j)/\∃ k,S m (fun j=>d (j+1) - x j)=2*k:=by
 have e:∃ k,S m (fun j=>d (j+1) - x j)=2*k:=by
  obtain⟨k,hk⟩:=ev
  rw[aE9]at hk
  exact⟨k - d 0,by rw[Q0,ha];omega⟩
 exact⟨fun σ τ h=>bY3 (bP0 hM hK ha x0 xM lo hi) e h,e⟩
theorem bI4 (hK:Kk (m+1) M d)(hM:0<=M):d 0<=S m fun j=>if d (j+1)<=M then d (j+1) else M:=by
 have k:=hK (aE0 true fun _=>false) (aE0 false fun j=>decide (d (j+1)<=M)) (az7 (fun j _ e=>by cases e.1) fun e=>by cases e.2)
 rw[az4]at k
 have e:S m (fun j=>if d (j+1)<=M then d (j+1) else M)=M*((m:Int) - sz m (fun j=>decide (d (j+1)<=M))) - S m (fun j=>(b2 false - b2 (decide (d (j+1)<=M)))*d (j+1)):=by
  have:(m:Int)=S m fun _=>1:=by rw[Z9];omega
  unfold sz
  rw[this,<- Q0,<- ag3,<- Q0]
  refine E1 fun j _=>?_
  by_cases h:d (j+1)<=M<;>simp[h,b2]
 have z:sz m (fun _=>false)=0:=by unfold sz;rw[E1 (g:=fun _=>0) fun _ _=>ao7,ab1]
 rw[z]at k
 rw[e]
 simp only[ao7,ax3,aP5,am6,aP4]at k ⊢
 omega
end
section
variable {M:Int}
def aL9 (n:Nat)(M:Int)(d:Nat->Int)(A:Nat->Bool):Int:=M*(cnt n A*(cnt n A - 1))+S n (fun i=>if A i=true then 0 else mnf (M*cnt n A) (d i)) - sm n A d
theorem cd0 (σ τ:Nat->Bool):fV n M d σ τ=sm n σ d - sm n τ d - M*(cnt n σ*((n:Int) - 1 - cnt n τ)):=by
 unfold fV sm
 rw[<- Q0]
 congr 1
 refine E1 fun j _=>?_
 cases σ j<;>cases τ j<;>simp[b2]
theorem ca8 (s t:Int):M*(s*((n:Int) - 1 - t))=M*(s*(s - 1))+(M*s)*((n:Int) - s - t):=by
 rw[P3,<- af0,<- af0]
 congr 2
 omega
theorem bG4 (hM:0<=M)(hd:∀ i,i<n->0<=d i)(h:∀ r:Nat,1<=r->r<=n->∃ A,cnt n A=r/\Top n d A/\0<=aL9 n M d A):Kk n M d:=by
 intro a0 b hab0
 rw[cd0]
 let a:Nat->Bool:=fun i=>a0 i && !b i
 have ha0:∀ i,i<n->a i=a0 i:=fun i hi=>by
  show (a0 i && !b i)=a0 i
  cases e:a0 i<;>cases e':b i<;>first | rfl | exact absurd ⟨e,e'⟩ (hab0 i hi)
 have hab:∀ i,a i=true->b i=false:=fun i hi=>by
  have hi:(a0 i && !b i)=true:=hi
  cases e:b i
  ·rfl
  ·rw[e]at hi;simp at hi
 have ec:cnt n a0=cnt n a:=E1 fun i hi=>by rw[ha0 i hi]
 have es:sm n a0 d=sm n a d:=E1 fun i hi=>by rw[ha0 i hi]
 rw[ec,es]
 have k0:=aE3 n a
 have kr:=bH6 (n:=n) hab
 have kb:=aE3 n b
 by_cases hz:cnt n a=0
 ·have za:∀ i,i<n->a i=false:=fun i hi=>by
   cases h:a i with
   | false=>rfl
   | true =>
    have:=bI2 (f:=fun i=>b2 (a i)) hi (fun i _=>aa3 _)
    have e:b2 (a i)=1:=by rw[h];rfl
    have t:b2 (a i)<=cnt n a:=this
    omega
  have:=bj0 (a:=b) hd
  rw[aL4 za,hz,as9,T6]
  omega
 ·obtain⟨A,hc,ht,r1⟩:=h (cnt n a).toNat (by omega) (by omega)
  have hcA:cnt n A=cnt n a:=by omega
  have r2:=bp1 (φ:=fun x=>x+mnf (M*cnt n a) x) (fun x y hxy=>by have:=bv2 (r:=M*cnt n a) hxy;omega) ht hcA.symm
  have sp:∀ c:Nat->Bool,sm n c (fun i=>d i+mnf (M*cnt n a) (d i))=sm n c d+S n (fun i=>mnf (M*cnt n a) (d i)) - S n (fun i=>if c i=true then 0 else mnf (M*cnt n a) (d i)):=fun c=>by
   unfold sm
   rw[<- as3,<- Q0]
   refine E1 fun i _=>?_
   cases c i<;>simp
  rw[sp a,sp A]at r2
  unfold aL9 at r1
  rw[hcA]at r1
  have low:S n (fun i=>if a i=true then 0 else mnf (M*cnt n a) (d i))<=sm n b d+(M*cnt n a)*((n:Int) - cnt n a - cnt n b):=by
   have e:(M*cnt n a)*((n:Int) - cnt n a - cnt n b)=S n (fun i=>(M*cnt n a)*(1 - b2 (a i) - b2 (b i))):=by
    rw[ag3,Q0,Q0,Z9,ae8];rfl
   rw[e]
   unfold sm
   rw[<- as3]
   refine ax5 fun i hi=>?_
   have l1:=bF6 (M*cnt n a) (d i)
   have l2:=bF5 (M*cnt n a) (d i)
   cases ha:a i with
   | true=>rw[hab i ha];simp[b2]
   | false=>cases b i<;>simp[b2]<;>assumption
  rw[ca8]
  omega
structure Thw (M:Int) (g:Nat->Nat->Int):Prop where
 sym:∀ i j,g i j=g j i
 dia:∀ i,g i i=0
 lo:∀ i j,0<=g i j
 hi:∀ i j,g i j<=M
end
end Thk
namespace Web
open L2 Grf Thk
theorem aZ6 (hp:zs.Perm (rng ns.length))(hs:zs.Pairwise (ole ns)){M r:Nat}(hr:r<=ns.length) :
  aL9 ns.length M (fun i=>ns.getD i 0) (fun i=>decide ((i:Int)∈zs.take r))=Y5 ns M r:=by
 have nd:zs.Nodup:=hp.nodup_iff.mpr (at8 _)
 have hin:∀ z∈zs,0<=z/\z<(ns.length:Int):=fun z hz=>ak5.mp (hp.mem_iff.mp hz)
 have ndA:(zs.take r).Nodup:=nd.sublist (U1 r zs)
 have ndB:(zs.drop r).Nodup:=nd.sublist (aj6 r zs)
 have inA:∀ z∈zs.take r,0<=z/\z<(ns.length:Int):=fun z hz=>hin z (K0 hz)
 have inB:∀ z∈zs.drop r,0<=z/\z<(ns.length:Int):=fun z hz=>hin z (J9 hz)
 have app:=nd
 rw[<- E7 r zs]at app
 have cross:=(bW3.mp app).2.2
 have mem_or:∀ i:Nat,i<ns.length->(i:Int)∈zs.take r\/(i:Int)∈zs.drop r:=fun i hi=>by
  have:(i:Int)∈zs:=hp.mem_iff.mpr (ak5.mpr ⟨by omega,by omega⟩)
  rw[<- E7 r zs]at this
  exact u9.mp this
 have hc:=(aH8 hp hs hr).1
 have of:=aC1 hp hs
 have rm:=ai3 (ns:=ns) (M:=M) (r:=r) of
 unfold aL9
 rw[hc,<- rm,<- aF2,<- aF3,bz6,<- P3]
 have s1:sm ns.length (fun i=>decide ((i:Int)∈zs.take r)) (fun i=>ns.getD i 0)=((zs.take r).map fun z=>ns.getD z.toNat 0).sum:=by
  rw[<- bb7 (n:=ns.length) (f:=fun i=>ns.getD i 0) ndA inA]
  refine Grf.E1 fun i _=>?_
  show (if decide ((i:Int)∈zs.take r)=true then ns.getD i 0 else 0)=_
  by_cases c:(i:Int)∈zs.take r
  ·rw[if_pos c,decide_eq_true c,if_pos rfl]
  ·rw[if_neg c,decide_eq_false c,if_neg (by decide)]
 have s2:S ns.length (fun i=>if decide ((i:Int)∈zs.take r)=true then 0 else Grf.mnf ((M:Int)*r) (ns.getD i 0))=((zs.drop r).map (mn ((M:Int)*r) ∘ fun z=>ns.getD z.toNat 0)).sum:=by
  have:=bb7 (n:=ns.length) (f:=fun i=>mn ((M:Int)*r) (ns.getD i 0)) ndB inB
  show _=((zs.drop r).map fun z=>mn ((M:Int)*r) (ns.getD z.toNat 0)).sum
  rw[<- this]
  refine Grf.E1 fun i hi=>?_
  by_cases c:(i:Int)∈zs.take r
  ·rw[decide_eq_true c,if_pos rfl,if_neg (fun z=>cross _ c _ z rfl)]
  ·rw[decide_eq_false c,if_neg (by decide),if_pos ((mem_or i hi).resolve_left c)]
   rfl
 rw[s1,s2]
theorem bH0 {M:Nat}(h:aJ5 ns M .free):Kk ns.length M (fun i=>ns.getD i 0):=by
 obtain⟨h1,h2,h3⟩:=h
 obtain⟨zs,hp,hs⟩:=bQ9 ns
 have hd:∀ i,i<ns.length->0<=ns.getD i 0:=fun i hi=>aE7 h1 hi
 exact bG4 (ah3 M) hd fun r r1 r2=>by
  obtain⟨a1,a2,_⟩:=aH8 hp hs r2
  exact⟨_,a1,a2,by rw[aZ6 hp hs r2];exact h3 r r1 r2⟩
def abv (M L c:Int):Int:=if c - L<=0 then 0 else if c - L<=M then c - L else M
theorem by3 {M:Int}(hM:1<=M)(L c:Int):abv M (L - 1) c - abv M L c=if abv M L c<abv M (L - 1) c then 1 else 0:=by
 unfold abv
 split<;>split<;>split<;>first | omega | (split<;>omega)
theorem by5 {M L c:Int}(hM:1<=M)(h:abv M L c<abv M (L - 1) c):abv M L c=c - L/\0<=c - L/\c - L<M:=by
 unfold abv at *
 split at h<;>split at h<;>first | omega | (split at h<;>first | omega | (split at h<;>omega)) | skip
 all_goals (repeat' split)<;>omega
def ai8 (M L:Int)(ns:List Int):List Int:=(rng ns.length).filter fun z=>decide (abv M L (ns.getD z.toNat 0)<abv M (L - 1) (ns.getD z.toNat 0))
def aM7 (M L:Int)(ns:List Int)(k:Nat):List Int:=(ai8 M L ns).take k
def shx (M L:Int)(ns:List Int)(k:Nat)(j:Nat):Int:=abv M L (ns.getD j 0)+if (j:Int)∈aM7 M L ns k then 1 else 0
theorem aU2 (M L:Int)(ns:List Int):(ai8 M L ns).Nodup:=(at8 _).sublist List.filter_sublist
theorem aU3 {M L:Int}:∀ z∈ai8 M L ns,0<=z/\z<ns.length:=fun z hz=>ak5.mp (Q2.mp hz).1
theorem au0 {M L:Int}(hj:j<ns.length):(j:Int)∈ai8 M L ns↔abv M L (ns.getD j 0)<abv M (L - 1) (ns.getD j 0):=by
 unfold ai8
 rw[Q2,ak5,decide_eq_true_iff,u6]
 constructor
 ·exact fun h=>h.2
 ·exact fun h=>⟨⟨by omega,by omega⟩,h⟩
theorem bp6 (L:List Int):(L.map fun _=>(1:Int)).sum=L.length:=by
 induction L with
 | nil=>rfl
 | cons a L ih=>rw[x8,O8,ih,m6];omega
theorem by8 {L:List Int}(nd:L.Nodup)(h:∀ z∈L,0<=z/\z<n):S n (fun i=>if (i:Int)∈L then 1 else 0)=L.length:=by
 rw[bb7 (f:=fun _=>1) nd h,bp6]
theorem bk4 {M:Int}(hM:1<=M)(L:Int)(ns:List Int):((ai8 M L ns).length:Int)=(ns.map (abv M (L - 1))).sum - (ns.map (abv M L)).sum:=by
 rw[<- by8 (aU2 M L ns) aU3,<- aE8,<- aE8,<- Q0]
 refine Grf.E1 fun j hj=>?_
 rw[by3 hM]
 by_cases c:abv M L (ns.getD j 0)<abv M (L - 1) (ns.getD j 0)
 ·rw[if_pos c,if_pos ((au0 hj).mpr c)]
 ·rw[if_neg c,if_neg fun h=>c ((au0 hj).mp h)]
structure Lvl (M:Int) (ns:List Int) (a L:Int):Prop where
 l0:0<=L
 le:(ns.map (abv M L)).sum<=a
 lt:0<L->a<(ns.map (abv M (L - 1))).sum
section
variable {M a L:Int}
theorem bC5 (hM:1<=M)(h:Lvl M ns a L)(h0:a<=(ns.map (abv M 0)).sum):S ns.length (shx M L ns (a - (ns.map (abv M L)).sum).toNat)=a:=by
 unfold shx
 rw[as3,aE8,by8 (L:=aM7 M L ns (a - (ns.map (abv M L)).sum).toNat) ((aU2 M L ns).sublist (U1 _ _)) fun z hz=>aU3 z (K0 hz)]
 unfold aM7
 rw[u5]
 have l:=bk4 hM L ns
 have le:=h.le
 by_cases c:0<L
 ·have:=h.lt c
  omega
 ·have:L=0:=by have:=h.l0;omega
  subst this
  omega
theorem bd4 (hj:j<ns.length){k:Nat}(hM:1<=M)(h:(j:Int)∈aM7 M L ns k):abv M L (ns.getD j 0)=ns.getD j 0 - L/\0<=ns.getD j 0 - L/\ns.getD j 0 - L<M:=by5 hM ((au0 hj).mp (K0 h))
theorem ad5 (hM:1<=M)(k:Nat)(hj:j<ns.length):0<=shx M L ns k j/\shx M L ns k j<=M/\(0<shx M L ns k j->L - 1<=ns.getD j 0 - shx M L ns k j)/\(shx M L ns k j<M->ns.getD j 0 - shx M L ns k j<=L):=by
 unfold shx
 by_cases c:(j:Int)∈aM7 M L ns k
 ·obtain⟨e1,e2,e3⟩:=bd4 hj hM c
  rw[if_pos c,e1]
  omega
 ·rw[if_neg c]
  unfold abv
  split
  ·omega
  ·split<;>omega
theorem bO9 (hM:1<=M)(h:Lvl M ns a L)(h0:a<=(ns.map (abv M 0)).sum)(hj:j<ns.length)(hn:0<=ns.getD j 0):shx M L ns (a - (ns.map (abv M L)).sum).toNat j<=ns.getD j 0:=by
 have l0:=h.l0
 unfold shx
 by_cases c:(j:Int)∈aM7 M L ns (a - (ns.map (abv M L)).sum).toNat
 ·obtain⟨e1,e2,e3⟩:=bd4 hj hM c
  have:L≠0:=fun e=>by
   subst e
   have z:(a - (ns.map (abv M 0)).sum).toNat=0:=by omega
   rw[z]at c
   unfold aM7 at c
   rw[ah5]at c
   cases c
  rw[if_pos c,e1]
  omega
 ·rw[if_neg c]
  unfold abv
  split
  ·omega
  ·split<;>omega
end
theorem aR3 {M:Nat}{a L:Int}(hM:1<=M)(hK:Kk (ns.length+1) M (fun i=>(a::ns).getD i 0))(hn:AllP ns)(ev:(a+ns.sum) % 2=0)(h:Lvl M ns a L) :
  S ns.length (shx M L ns (a - (ns.map (abv M L)).sum).toNat)=a/\Kk ns.length M (fun j=>ns.getD j 0 - shx M L ns (a - (ns.map (abv M L)).sum).toNat j)/\(∀ j,j<ns.length->0<=ns.getD j 0 - shx M L ns (a - (ns.map (abv M L)).sum).toNat j)/\∃ k,S ns.length (fun j=>ns.getD j 0 - shx M L ns (a - (ns.map (abv M L)).sum).toNat j)=2*k:=by
 have M1:1<=(M:Int):=by omega
 have g:∀ j,(a::ns).getD (j+1) 0=ns.getD j 0:=fun j=>by rw[ax8]
 have h0:a<=(ns.map (abv M 0)).sum:=by
  have:=bI4 hK (by omega)
  rw[<- aE8]
  refine W9 this (Grf.ax5 fun j hj=>?_)
  simp only[g]
  have:=aE7 hn hj
  unfold abv
  split<;>split<;>first | omega | (split<;>omega)
 have sx:=bC5 M1 h h0
 have st:=bV5 (L:=L) (x:=shx M L ns (a - (ns.map (abv M L)).sum).toNat) M1 hK ?_ sx (fun j hj=>(ad5 M1 _ hj).1) (fun j hj=>(ad5 M1 _ hj).2.1) (fun j hj=>by simp only[g];exact(ad5 M1 _ hj).2.2.1) (fun j hj=>by simp only[g];exact(ad5 M1 _ hj).2.2.2)
 ·simp only[g]at st
  exact⟨sx,st.1,fun j hj=>by have:=bO9 M1 h h0 hj (aE7 hn hj);omega,st.2⟩
 ·rw[aE9]
  simp only[g]
  rw[by7,ax9]
  exact⟨(a+ns.sum) / 2,by omega⟩
def Y3 (p:Nat):Nat->List Int->List (List Int)
 | _,[]=>[]
 | q,x::xs=>if 0<x then [(p:Int),(q:Int),x]::Y3 p (q+1) xs else Y3 p (q+1) xs
def ad0:List (List Int)->Nat->Int
 | [],_=>0
 | k::ks,i=>(if k.getD 0 0=(i:Int) then k.getD 2 0 else 0)+(if k.getD 1 0=(i:Int) then k.getD 2 0 else 0)+ad0 ks i
def ar3 (k k':List Int):Prop:=k.getD 0 0<k'.getD 0 0\/(k.getD 0 0=k'.getD 0 0/\k.getD 1 0<k'.getD 1 0)
def tri (n M:Nat)(k:List Int):Prop:=∃ (i j:Nat) (x:Int),k=[(i:Int),(j:Int),x]/\i<j/\j<n/\1<=x/\x<=M
theorem ar9:∀ (ks ks':List (List Int)) (i:Nat),ad0 (ks++ks') i=ad0 ks i+ad0 ks' i
 | [],ks',i=>by show ad0 ks' i=0+ad0 ks' i;omega
 | k::ks,ks',i=>by
  show _+_+ad0 (ks++ks') i=_+_+ad0 ks i+ad0 ks' i
  rw[ar9 ks ks' i]
  omega
theorem aq5 {p:Nat}:∀ {xs:List Int} {q:Nat} {k:List Int},k∈Y3 p q xs->∃ (j:Nat) (x:Int),k=[(p:Int),(j:Int),x]/\q<=j/\j<q+xs.length/\0<x/\x∈xs
 | [],q,k,h=>by cases h
 | x::xs,q,k,h=>by
  unfold Y3 at h
  have go:k∈Y3 p (q+1) xs->∃ (j:Nat) (y:Int),k=[(p:Int),(j:Int),y]/\q<=j/\j<q+(x::xs).length/\0<y/\y∈x::xs:=fun h=>by
   obtain⟨j,y,e,h1,h2,h3,h4⟩:=aq5 h
   exact⟨j,y,e,by omega,by rw[m6];omega,h3,i8 _ h4⟩
  by_cases c:0<x
  ·rw[if_pos c]at h
   rcases j6.mp h with e | h
   ·exact⟨q,x,e,by omega,by rw[m6];omega,c,m7⟩
   ·exact go h
  ·rw[if_neg c]at h
   exact go h
theorem aL8 {p:Nat}:∀ (xs:List Int) (q:Nat),(Y3 p q xs).Pairwise ar3
 | [],_=>List.Pairwise.nil
 | x::xs,q=>by
  unfold Y3
  by_cases c:0<x
  ·rw[if_pos c]
   refine List.Pairwise.cons (fun k hk=>?_) (aL8 xs (q+1))
   obtain⟨j,y,e,h1,_⟩:=aq5 hk
   rw[e]
   refine .inr ⟨rfl,?_⟩
   show (q:Int)<(j:Int)
   omega
  ·rw[if_neg c]
   exact aL8 xs (q+1)
theorem aB9 {p:Nat}:∀ (xs:List Int) (q:Nat) (i:Nat),p<q->(∀ x∈xs,0<=x)->ad0 (Y3 p q xs) i=(if i=p then xs.sum else 0)+(if q<=i then xs.getD (i - q) 0 else 0)
 | [],q,i,_,_=>by
  show (0:Int)=(if i=p then 0 else 0)+(if q<=i then 0 else 0)
  split<;>split<;>rfl
 | x::xs,q,i,hp,hx=>by
  have ih:=aB9 (p:=p) xs (q+1) i (by omega) fun y hy=>hx y (i8 _ hy)
  have x0:=hx x m7
  have e1:ad0 (Y3 p q (x::xs)) i=(if i=p then x else 0)+(if i=q then x else 0)+ad0 (Y3 p (q+1) xs) i:=by
   show ad0 (if 0<x then _ else _) i=_
   by_cases c:0<x
   ·rw[if_pos c]
    show (if (p:Int)=(i:Int) then x else 0)+(if (q:Int)=(i:Int) then x else 0)+ad0 (Y3 p (q+1) xs) i=_
    congr 2
    ·by_cases e:i=p
     ·rw[if_pos e,if_pos (by omega)]
     ·rw[if_neg e,if_neg (by omega)]
    ·by_cases e:i=q
     ·rw[if_pos e,if_pos (by omega)]
     ·rw[if_neg e,if_neg (by omega)]
   ·have:x=0:=by omega
    rw[if_neg c,this]
    split<;>split<;>omega
  rw[e1,ih,O8]
  by_cases c1:i=p
  ·rw[if_pos c1,if_pos c1,if_pos c1,if_neg (by omega),if_neg (by omega),if_neg (by omega)]
   omega
  ·rw[if_neg c1,if_neg c1,if_neg c1]
   by_cases c2:i=q
   ·subst c2
    rw[if_pos rfl,if_neg (by omega),if_pos (d6 _),aO8,ax9]
    omega
   ·rw[if_neg c2]
    by_cases c3:q+1<=i
    ·rw[if_pos c3,if_pos (by omega),show i - q=(i - (q+1))+1 by omega,ax8]
     omega
    ·rw[if_neg c3,if_neg (by omega)]
     omega
structure Lay (n M p:Nat) (os:List Int) (ks:List (List Int)) (ds:List Int):Prop where
 on:os.length=n
 len:p+ds.length=n
 tr:∀ k∈ks,tri n M k/\k.getD 0 0<p
 pw:ks.Pairwise ar3
 don:∀ i,i<p->ad0 ks i=os.getD i 0
 rst:∀ i,p<=i->i<n->ad0 ks i+ds.getD (i - p) 0=os.getD i 0
 pos:AllP ds
 evn:ds.sum % 2=0
 kk:Kk ds.length M (fun i=>ds.getD i 0)
theorem bk7 {M:Nat}{os:List Int}(h:aJ5 os M .free):Lay os.length M 0 os [] os where
 on:=rfl
 len:=by omega
 tr:=fun k hk=>by cases hk
 pw:=List.Pairwise.nil
 don:=fun i hi=>by omega
 rst:=fun i _ _=>by show 0+os.getD (i - 0) 0=_;rw[bz9];omega
 pos:=h.1
 evn:=by have:=h.2.1;omega
 kk:=bH0 h
theorem bv6 {M p:Nat}{a L:Int}{os xs ds:List Int}(hM:1<=M)(h:Lay n M p os ks (a::ns))(hl:Lvl M ns a L)(hxl:xs.length=ns.length)(hx:∀ j,j<ns.length->xs.getD j 0=shx M L ns (a - (ns.map (abv M L)).sum).toNat j)(hdl:ds.length=ns.length)(hd:∀ j,j<ns.length->ds.getD j 0=ns.getD j 0 - xs.getD j 0):Lay n M (p+1) os (ks++Y3 p (p+1) xs) ds:=by
 have M1:1<=(M:Int):=by omega
 have hlen:=h.len
 rw[m6]at hlen
 have hn:AllP ns:=fun j x hj=>h.pos (j+1) x (by rw[bo0];exact hj)
 have ev:=h.evn
 rw[O8]at ev
 have kk:=h.kk
 rw[m6]at kk
 obtain⟨s1,s2,s3,s4⟩:=aR3 (L:=L) hM kk hn ev hl
 have xs0:∀ x∈xs,0<=x/\x<=M:=fun x hx'=>by
  obtain⟨j,hj,e⟩:=List.getElem_of_mem hx'
  have e2:xs.getD j 0=x:=by rw[j8,i6 hj,e];rfl
  rw[<- e2,hx j (by omega)]
  have:=ad5 (L:=L) M1 (a - (ns.map (abv M L)).sum).toNat (show j<ns.length by omega)
  exact⟨this.1,this.2.1⟩
 have xsum:xs.sum=a:=by
  rw[<- by7,hxl,Grf.E1 hx,s1]
 have de:∀ j,j<ns.length->ds.getD j 0=ns.getD j 0 - shx M L ns (a - (ns.map (abv M L)).sum).toNat j:=fun j hj=>by rw[hd j hj,hx j hj]
 refine⟨h.on,by omega,fun k hk=>?_,?_,fun i hi=>?_,fun i h1 h2=>?_,fun j x hj=>?_,?_,?_⟩
 ·rcases u9.mp hk with hk | hk
  ·have:=h.tr k hk
   exact⟨this.1,by omega⟩
  ·obtain⟨j,x,e,h1,h2,h3,h4⟩:=aq5 hk
   refine⟨⟨p,j,x,e,by omega,by omega,by omega,(xs0 x h4).2⟩,?_⟩
   rw[e]
   show (p:Int)<((p+1:Nat):Int)
   omega
 ·refine C2.mpr ⟨h.pw,aL8 xs _,fun k hk k' hk'=>?_⟩
  have a1:=(h.tr k hk).2
  obtain⟨j,x,e,_⟩:=aq5 hk'
  refine .inl ?_
  rw[e]
  exact a1
 ·rw[ar9,aB9 xs (p+1) i (by omega) fun x hx=>(xs0 x hx).1,if_neg (show ¬ p+1<=i by omega)]
  by_cases c:i=p
  ·have:=h.rst i (by omega) (by omega)
   rw[show i - p=0 by omega,ax9]at this
   rw[if_pos c,xsum]
   omega
  ·rw[if_neg c,<- h.don i (by omega)]
   omega
 ·have:=h.rst i (by omega) h2
  rw[show i - p=(i - (p+1))+1 by omega,ax8]at this
  rw[ar9,aB9 xs (p+1) i (by omega) fun x hx=>(xs0 x hx).1,if_neg (by omega),if_pos h1,hd _ (by omega)]
  omega
 ·have hj':j<ds.length:=by
   rcases F8 j ds.length with h | h
   ·exact h
   ·rw[C3 h]at hj;cases hj
  have e:ds.getD j 0=x:=by rw[j8,hj];rfl
  rw[<- e,de j (by omega)]
  exact s3 j (by omega)
 ·obtain⟨k,hk⟩:=s4
  have:ds.sum=2*k:=by rw[<- by7,hdl,Grf.E1 de,hk]
  omega
 ·rw[hdl]
  intro σ τ hap
  have:=s2 σ τ hap
  unfold fV at this ⊢
  rw[Grf.E1 (g:=fun j=>(b2 (σ j) - b2 (τ j))*(ns.getD j 0 - shx M L ns (a - (ns.map (abv M L)).sum).toNat j)) fun j hj=>by show _*ds.getD j 0=_;rw[de j hj]]
  exact this
theorem bG1 {M:Nat}{os ds:List Int}(h:Lay n M n os ks ds):(∀ k∈ks,tri n M k)/\ks.Pairwise ar3/\∀ i,i<n->ad0 ks i=os.getD i 0:=⟨fun k hk=>(h.tr k hk).1,h.pw,h.don⟩
end Web
namespace L2
open PySem PySem.Spec PyProof.Rows
open Sem (wp)
set_option maxRecDepth 100000
theorem bm4 {T newId initId:String}{Bn Bi:Builtin}{args:List Value}{kw:List (Str × Value)}{S:PySem.Spec}{Q₁:Value->Shared->Prop}(ft:TypeCalled T newId initId)(hct:checkTypeCall T ⟨args,kw⟩=pure ())(hcn:as6 newId ⟨.type T::args,kw⟩=pure ())
  (entryN:entryFor table newId=some Bn)(entryI:entryFor table initId=some Bi)(g:Meets (Bn ⟨.type T::args,kw⟩) S)(h:S A.in1 (wants Q₁ E) s)
  (hnext:∀ obj s₁,Q₁ obj s₁->s₁.TypeIs obj T/\argsOk initId ⟨obj::args,kw⟩/\∃ Si,Meets (Bi ⟨obj::args,kw⟩) Si/\Si A.in1 (wants (fun r s₂=>r=.none/\Q obj s₂) E) s₁):q8 (u7 prog w) A (call (.type T) args kw) Q E s:=by
 obtain⟨c,tl,hmro⟩:=ft.mro;have hmade:=ft.made;have hsub:=ft.sub
 refine aP9 (codeAny_of_tree ?_);show q8 _ _ (callAny (.type T) _) _ _ _
 refine i7 ⟨Code.quiet_builtin _ (by decide +kernel),Q5 F.entry_type_call ?_⟩;rw[Around.under_plain (bM8 T args kw) (units_type_call_type T args kw)]
 have h1:=ft.notType;have h2:=ft.canCreate;repeat (any_goals (first | assumption | wp_step))
 refine U8 (W3 ft.plain entryN (aF9 hcn (g prog w A.in1 _ s h))) fun r s₁ hr=>?_;cases r with
 | error e=>exact hr
 | ok fl =>
  cases fl with
  | ret obj =>
   obtain⟨hT,hok,Si,gi,hsi⟩:=hnext _ _ hr;have hli:=ft.init.lookup;have hbi:=ft.init.bind obj
   repeat (any_goals (first | assumption | wp_step))
   refine U8 (W3 ft.init.plain entryI (ft.init.check _ _ _ _ _ _ _ _ hT hok (gi prog w A.in1 _ s₁ hsi))) fun r₂ s₂ hr₂=>?_;cases r₂ with
   | error e=>exact hr₂
   | ok fl₂ =>
    cases fl₂ with
    | ret r =>
     obtain⟨rfl,hq⟩:=hr₂;repeat (any_goals (first | assumption | wp_step))
    | _=>exact hr₂.elim
  | _=>exact hr.elim
theorem bk0 {T newId:String} {self:Value} {rest:List Value} {kw:List (Str × Value)} (hl:ay0 (.type T) "__init__"=pure (some (.builtin "object.__init__"))) (hm:Bind.madeBy (.type T)=pure (some newId)) (hne:(some newId != some "object.__new__")=true) :
    Meets (Builtin.«object.__init__» ⟨self::rest,kw⟩) (fun _ R s=>s.TypeIs self T/\R (.ok (.ret .none)) s):=by
  refine Meets.of_wp fun prog w A R s hs=>?_;obtain⟨hT,hq⟩:=hs
  cases rest with
  | nil =>
    cases kw with
    | nil=>exact i7 ⟨_,rfl,hq⟩
    | cons b kw => repeat (any_goals (first | assumption | wp_step))
                   exact⟨_,rfl,hq⟩
  | cons a rest => repeat (any_goals (first | assumption | wp_step))
                   exact⟨_,rfl,hq⟩
theorem bw8 (a v:Value):checkTypeCall "enumerate" ⟨[a],[(Str.ofString "start",v)]⟩=pure ():=by kernel_rfl
theorem bH4 (a v:Value):as6 "enumerate.__new__" ⟨[.type "enumerate",a],[(Str.ofString "start",v)]⟩=pure ():=by kernel_rfl
theorem bw9 (o a v:Value):argsOk "object.__init__" ⟨[o,a],[(Str.ofString "start",v)]⟩:=by unfold argsOk;kernel_rfl
end L2
namespace L2
open PySem PySem.Spec PyProof.Rows
set_option maxHeartbeats 1000000
open AutoSeq1 (wpAny_loadPart') in
set_option maxRecDepth 100000 in
theorem bm1 (l:Addr)(ys:Array Value)(n:Nat)(dd:Option Addr)(ss:Array (Option Value))(k:Int)(t:Tok)(hk:Builtin.SmallTypes.fitsIndex k=true) :
  Meets (Builtin.«enumerate.__new__» ⟨[.type "enumerate",.ref l],[(Str.ofString "start",.int k t)]⟩) (fun _ R s=>s.heap.get? l=some { cls:=.type "list",dict:=dd,data:=.seq ys n,slots:=ss } /\
   R (.ok (.ret (.ref (s.heap.push { cls:=.type "list_iterator",data:=.fields #[.ref l,.int 0 0] }).objs.size)))
    { s with heap:=(s.heap.push { cls:=.type "list_iterator",data:=.fields #[.ref l,.int 0 0] }).push { cls:=.type "enumerate",data:=.fields #[.none,.bool false,.ref s.heap.objs.size,Y2 k,.none,.none] } }) :=
 .of_wp fun prog w A R s h=>by
  obtain⟨hp,g,d,tk,os⟩:=s;obtain⟨hl,h⟩:=h
  have hsub:=sub_enumerate
  have hL:Heap.IsList (Shared.heap ⟨hp,g,d,tk,os⟩) l ys:=⟨_,hl,rfl,n,rfl⟩
  wp_walk using wpAny_loadPart' hl
  refine wpAny_stack_any fun st=>i7 ?_
  split
  ·rename_i c _ _ _ _ _
   cases (c == Value.type "enumerate")
   ·wp_walk using wpAny_loadPart' hl,Q4 hL;exact⟨_,rfl,h⟩
   ·wp_walk using wpAny_loadPart' hl,Q4 hL;exact⟨_,rfl,h⟩
  ·wp_walk using wpAny_loadPart' hl,Q4 hL;exact⟨_,rfl,h⟩
end L2
namespace L2
open PySem PySem.Spec PyProof.Rows
theorem bx0 {l:Addr}{ys:Array Value}{k:Int}{t:Tok}(hk:Builtin.SmallTypes.fitsIndex k=true)(hT:s.heap.IsList l ys)
  (q:∀ h',bN0 h' (s.heap.objs.size+1) s.heap.objs.size k .none->h'.IsListIter s.heap.objs.size l 0->h'.objs.size=s.heap.objs.size+2->(∀ b o,s.heap.get? b=some o->h'.get? b=some o)->Q (.ref (s.heap.objs.size+1)) { s with heap:=h' }) :
  q8 (u7 prog w) A (call (.type "enumerate") [.ref l] [(Str.ofString "start",.int k t)]) Q E s:=by
 obtain⟨⟨c,dd,dt,ss⟩,hl,hc,n,hd⟩:=hT
 replace hc:c=.type "list":=hc
 replace hd:dt=.seq ys n:=hd
 subst hc hd
 refine bm4 (Q₁:=fun obj s₁=>s₁.TypeIs obj "enumerate"/\Q obj s₁) F.called_enumerate (bw8 _ _) (bH4 _ _) F.entry_enumerate_new F.entry_object_init (bm1 l ys n dd ss k t hk) ⟨hl,?_⟩ fun obj _ hq=>⟨hq.1,bw9 obj _ _,_,bk0 F.called_enumerate.init.lookup F.called_enumerate.made (by decide),hq.1,rfl,hq.2⟩
 have hz:(s.heap.push { cls:=.type "list_iterator",data:=.fields #[.ref l,.int 0 0] }).objs.size=s.heap.objs.size+1:=G6 ..
 show _/\_
 rw[hz]
 have he:bN0 ((s.heap.push { cls:=.type "list_iterator",data:=.fields #[.ref l,.int 0 0] }).push { cls:=.type "enumerate",data:=.fields #[.none,.bool false,.ref s.heap.objs.size,Y2 k,.none,.none] }) (s.heap.objs.size+1) s.heap.objs.size k .none:=by
  have:=m9 (s.heap.push { cls:=.type "list_iterator",data:=.fields #[.ref l,.int 0 0] }) (o:={ cls:=.type "enumerate",data:=.fields #[.none,.bool false,.ref s.heap.objs.size,Y2 k,.none,.none] }) rfl
  rw[hz]at this;exact this
 exact⟨⟨_,he,rfl⟩,q _ he ⟨_,c8 _ (m9 _ rfl),rfl,rfl⟩ (by rw[G6,hz]) fun b o x=>c8 _ (c8 _ x)⟩
section
variable {env:Env}
theorem bx3 {T:String}{rest:List Expr}{kws:List aw5}
  (h:q8 M A (spliced (O9 pos (u4 (e::rest) env))) (fun vs s₁=>q8 M A (evalAll ((af3 pos (R7 kws env)).map (·.2))) (fun kvs s₂=>q8 M A (call (.type T) vs (((af3 pos (R7 kws env)).filterMap (·.1)).zip kvs)) Q E s₂) E s₁) E s)
  (he:O9 pos (u4 (e::rest) env)=(false,eval e env)::O9 pos (u4 rest env):=by rfl)(hplain:(O9 pos (u4 (e::rest) env)).any (·.1)=false:=by rfl)
  (hall:(af3 pos (R7 kws env)).all (·.1.isSome)=true:=by rfl)(hkw:(af3 pos (R7 kws env)).any (·.1.isNone)=false:=by rfl) :
  q8 M A (callWith pos (.type T) [] (O9 pos (u4 (e::rest) env)) (af3 pos (R7 kws env))) Q E s:=by
 have h':q8 M A (evalArgs (.type T) true (O9 pos (u4 (e::rest) env)) (af3 pos (R7 kws env))) (fun a s₁=>q8 M A (call (.type T) ([]++a.pos) a.kw) Q E s₁) E s:=by
  rw[he]at h ⊢;exact evalArgs_kwB hall h
 unfold callWith;refine b8 (E9 (E5 h' (fun a s₁ h₁=>b8 (Z0 ?_)) fun _ _ x=>x));simp only[hplain,hkw,Bool.or_false]
 refine b8 (i7 ?_);exact b8 (E5 h₁ (fun r s₂ hr=>b8 (E9 (wpAny_point (i7 hr)))) fun _ _ x=>x)
end
structure ZAp (z TI TO i1 i2:Addr) (f1 f2:List Addr):Prop where
 a1:TI≠z
 a2:TO≠z
 a3:i1≠z
 a4:i2≠z
 a5:TI≠TO
 a6:TI≠i1
 a7:TI≠i2
 a8:TO≠i1
 a9:TO≠i2
 b0:i1≠i2
 b1:z∉f1
 b2:z∉f2
 b3:TO∉f1
 b4:TO∉f2
 b5:i1∉f2
 b6:i2∉f1
section
variable {z TI TO i1 i2:Addr} {f1 f2:List Addr} {n1 n2 k:Nat} {P1 P2:Nat->Value->Prop} {S1 S2:Nat->Heap->Prop}
theorem V3 {it:Addr}{P:Nat->Value->Prop}{St:Nat->Heap->Prop}(D:Draws prog w A it fp n P St){c:Addr}(st:St i h)(k:Heap.ExtBut c h h')(hc:c∉fp):St i h':=D.frame i h h' st fun b hb o e=>k b o (fun zz=>hc (zz ▸ hb)) e
theorem bB2 {a b:Value} (D:ZAp z TI TO i1 i2 f1 f2) (D1:Draws prog w A i1 f1 n1 P1 S1) (D2:Draws prog w A i2 f2 n2 P2 S2) (hz:aX9 s.heap z TI TO .none) (hTI:ac8 s.heap TI (.ref i1) (.ref i2)) (hTO:ac8 s.heap TO a b) (st1:S1 k s.heap) (st2:S2 k s.heap) (hk1:k<n1) (hk2:k<n2)
  (hQ : ∀ x y h' tk, P1 k x -> P2 k y -> aX9 h' z TI TO (Y2 s.heap.objs.size) -> ac8 h' TO x y -> S1 (k + 1) h' -> S2 (k + 1) h' -> ac8 h' s.heap.objs.size x y -> h'.objs.size = s.heap.objs.size + 1 ->
   (∀ c o,c≠z->c≠TO->c≠i1->c≠i2->s.heap.get? c=some o->h'.get? c=some o)->Q (.ref s.heap.objs.size) { s with heap:=h',toks:=tk }) :
  q8 (u7 prog w) A (Builtin.«zip.__next__» ⟨[.ref z],[]⟩) (fun fin s'=>∃ v,fin=.done (.ret v)/\Q v s') E s:=by
 show q8 _ _ (field (.ref z) 2 >>= _) _ _ _;refine b8 (F9 hz rfl (x:=.bool false) rfl ?_)
 show q8 _ _ (field (.ref z) 3 >>= _) _ _ _;refine b8 (F9 hz rfl (x:=.ref TI) rfl (b8 (K2 hTI rfl ?_)))
 show q8 _ _ (Builtin.SmallTypes.ownedTupleIsFree (.ref z) >>= _) _ _ _;refine b8 ?_;unfold Builtin.SmallTypes.ownedTupleIsFree
 refine b8 (F9 hz rfl (x:=.none) rfl (i7 ?_));simp only[if_true]
 refine b8 (ay1 (b8 (F9 hz rfl (x:=.ref TO) rfl (b8 (Z1 hz (by simp) fun hA hzA hsA=>?_)))))
 replace hzA:aX9 hA z TI TO .ellipsis:=hzA
 refine b8 ?_;simp only[aO7,List.zipIdx_nil,List.forIn_cons,List.forIn_nil]
 refine b8 (b8 (bA9 ?_));show q8 _ _ (Builtin.SmallTypes.nextOf (.ref i1) >>= _) _ _ _
 refine b8 (D1.item k _ _ _ hk1 (V3 D1 st1 hsA.extBut D.b1) fun x hB tB hx stB hsB=>i7 ?_)
 have hTOB:ac8 hB TO a b:=hsB.extBut _ _ D.a8 (hsA.extBut _ _ D.a2 hTO)
 refine b8 (K2 hTOB rfl (b8 (bW6 hTOB fun hC hTOC hsC=>?_)))
 replace hTOC:ac8 hC TO x b:=hTOC
 refine b8 (ap4 (i7 ?_));refine b8 (b8 (bA9 ?_));show q8 _ _ (Builtin.SmallTypes.nextOf (.ref i2) >>= _) _ _ _
 refine b8 (D2.item k _ _ _ hk2 (V3 D2 (V3 D2 (V3 D2 st2 hsA.extBut D.b2) hsB.extBut D.b5) hsC.extBut D.b4) fun y hD tD hy stD hsD=>i7 ?_)
 have hTOD:ac8 hD TO x b:=hsD.extBut _ _ D.a9 hTOC
 refine b8 (K2 hTOD rfl (b8 (bW6 hTOD fun hF hTOF hsF=>?_)))
 replace hTOF:ac8 hF TO x y:=hTOF
 refine b8 (ap4 (i7 (i7 (b8 (K2 hTOF rfl (b8 (wpAny_newTuple ?_)))))))
 have hsz:hF.objs.size=s.heap.objs.size:=by rw[hsF.1,hsD.1,hsC.1,hsB.1,hsA.1]
 have hzF:aX9 hF z TI TO .ellipsis:=hsF.extBut _ _ D.a2.symm (hsD.extBut _ _ D.a4.symm (hsC.extBut _ _ D.a2.symm (hsB.extBut _ _ D.a3.symm hzA)))
 have hkF:∀ c o,c≠z->c≠TO->c≠i1->c≠i2->s.heap.get? c=some o->hF.get? c=some o:=fun c o c1 c2 c3 c4 e=>hsF.extBut _ _ c2 (hsD.extBut _ _ c4 (hsC.extBut _ _ c2 (hsB.extBut _ _ c3 (hsA.extBut _ _ c1 e))))
 have s1F:S1 (k+1) hF:=V3 D1 (V3 D1 (V3 D1 stB hsC.extBut D.b3) hsD.extBut D.b6) hsF.extBut D.b3
 have s2F:S2 (k+1) hF:=V3 D2 stD hsF.extBut D.b4
 have hzlt:z<hF.objs.size:=d5 hzF
 show q8 _ _ (Builtin.SmallTypes.ownedTupleHandOut (.ref z) (.ref hF.objs.size) >>= _) _ _ _;refine b8 ?_;unfold Builtin.SmallTypes.ownedTupleHandOut
 have hzG:aX9 (hF.push { cls:=.type "tuple",data:=.seq #[x,y] }) z TI TO .ellipsis:=c8 _ hzF
 refine b8 (Z1 hzG (by simp) fun hJ hzJ hsJ=>?_)
 replace hzJ:aX9 hJ z TI TO (Y2 hF.objs.size):=hzJ
 refine Z1 hzJ (by simp) fun hL hzL hsL=>?_
 replace hzL:aX9 hL z TI TO (Y2 hF.objs.size):=hzL
 have up:∀ c o,c≠z->hF.get? c=some o->hL.get? c=some o:=fun c o c1 e=>hsL.extBut _ _ c1 (hsJ.extBut _ _ c1 (c8 _ e))
 have hTL:ac8 hL hF.objs.size x y:=hsL.extBut _ _ (L9 hzlt) (hsJ.extBut _ _ (L9 hzlt) (m9 _ rfl))
 have hzs:hL.objs.size=hF.objs.size+1:=by rw[hsL.1,hsJ.1,G6]
 rw[hsz]at hzL hTL hzs
 refine i7 ⟨_,rfl,?_⟩;show Q (.ref hF.objs.size) _;rw[hsz]
 exact hQ x y hL tD hx hy hzL (up _ _ D.a2 hTOF) (D1.frame _ _ _ s1F fun b hb o e=>up b o (fun q=>D.b1 (q ▸ hb)) e) (D2.frame _ _ _ s2F fun b hb o e=>up b o (fun q=>D.b2 (q ▸ hb)) e) hTL hzs fun c o c1 c2 c3 c4 e=>up c o c1 (hkF c o c1 c2 c3 c4 e)
theorem bN4 {Q:PySem.Fin->Shared->Prop}{a b:Value}(D:ZAp z TI TO i1 i2 f1 f2)(D1:Draws prog w A i1 f1 n1 P1 S1)(hz:aX9 s.heap z TI TO .none)(hTI:ac8 s.heap TI (.ref i1) (.ref i2))(hTO:ac8 s.heap TO a b)(st1:S1 n1 s.heap)
  (hE:∀ h' e,(∀ c o,c≠z->c≠TO->c≠i1->c≠i2->s.heap.get? c=some o->h'.get? c=some o)->(∃ o,h'.get? e=some o/\o.cls=.type "StopIteration")->E (.ref e) { s with heap:=h' }) :
  q8 (u7 prog w) A (Builtin.«zip.__next__» ⟨[.ref z],[]⟩) Q E s:=by
 show q8 _ _ (field (.ref z) 2 >>= _) _ _ _;refine b8 (F9 hz rfl (x:=.bool false) rfl ?_)
 show q8 _ _ (field (.ref z) 3 >>= _) _ _ _;refine b8 (F9 hz rfl (x:=.ref TI) rfl (b8 (K2 hTI rfl ?_)))
 show q8 _ _ (Builtin.SmallTypes.ownedTupleIsFree (.ref z) >>= _) _ _ _;refine b8 ?_;unfold Builtin.SmallTypes.ownedTupleIsFree
 refine b8 (F9 hz rfl (x:=.none) rfl (i7 ?_));simp only[if_true]
 refine b8 (ay1 (b8 (F9 hz rfl (x:=.ref TO) rfl (b8 (Z1 hz (by simp) fun hA hzA hsA=>?_)))))
 replace hzA:aX9 hA z TI TO .ellipsis:=hzA
 refine b8 ?_;simp only[aO7,List.zipIdx_nil,List.forIn_cons,List.forIn_nil]
 refine b8 (b8 (bA9 ?_));show q8 _ _ (Builtin.SmallTypes.nextOf (.ref i1) >>= _) _ _ _
 refine b8 (D1.done _ _ _ (V3 D1 st1 hsA.extBut D.b1) fun hB e hsB he=>?_)
 obtain⟨oe,hoe,hce⟩:=he
 have hzB:aX9 hB z TI TO .ellipsis:=hsB _ _ D.a3.symm hzA
 have hez:e≠z:=fun x=>by subst x;rw[hzB]at hoe;cases hoe;simp at hce
 exact Z1 hzB (by simp) fun hC _ hsC=>hE hC e (fun c o c1 _ c3 _ x=>hsC.extBut _ _ c1 (hsB _ _ c3 (hsA.extBut _ _ c1 x))) ⟨oe,hsC.extBut _ _ hez hoe,hce⟩
theorem bB0 {Q:Option Value->Shared->Prop} {a b:Value} (D:ZAp z TI TO i1 i2 f1 f2) (D1:Draws prog w A.in1 i1 f1 n1 P1 S1) (D2:Draws prog w A.in1 i2 f2 n2 P2 S2) (hz:aX9 s.heap z TI TO .none) (hTI:ac8 s.heap TI (.ref i1) (.ref i2)) (hTO:ac8 s.heap TO a b) (st1:S1 k s.heap) (st2:S2 k s.heap) (hk1:k<n1) (hk2:k<n2)
  (hQ : ∀ x y h' tk, P1 k x -> P2 k y -> aX9 h' z TI TO (Y2 s.heap.objs.size) -> ac8 h' TO x y -> S1 (k + 1) h' -> S2 (k + 1) h' -> ac8 h' s.heap.objs.size x y -> h'.objs.size = s.heap.objs.size + 1 ->
   (∀ c o,c≠z->c≠TO->c≠i1->c≠i2->s.heap.get? c=some o->h'.get? c=some o)->Q (some (.ref s.heap.objs.size)) { s with heap:=h',toks:=tk }):q8 (u7 prog w) A (aJ8 (.ref z)) Q E s:=by
 have hT:s.TypeIs (.ref z) "zip":=⟨_,hz,rfl⟩;unfold aJ8
 refine b8 (bA6 (R9 (name:=Str.ofString "__next__") hT F.slot_zip_next (S4 F.slot_zip_next hT F.entry_zip_next ?_ (F.args_zip_next_1 _))))
 exact bB2 D D1 D2 hz hTI hTO st1 st2 hk1 hk2 fun x y h' tk a0 a1 a2 a3 a4 a5 a6 a7 a8=>i7 (hQ x y h' tk a0 a1 a2 a3 a4 a5 a6 a7 a8)
theorem bB1 {Q:Option Value->Shared->Prop}{a b:Value}(D:ZAp z TI TO i1 i2 f1 f2)(D1:Draws prog w A.in1 i1 f1 n1 P1 S1)(hz:aX9 s.heap z TI TO .none)(hTI:ac8 s.heap TI (.ref i1) (.ref i2))(hTO:ac8 s.heap TO a b)(st1:S1 n1 s.heap)
  (hQ:∀ h',(∀ c o,c≠z->c≠TO->c≠i1->c≠i2->s.heap.get? c=some o->h'.get? c=some o)->Q none { s with heap:=h' }):q8 (u7 prog w) A (aJ8 (.ref z)) Q E s:=by
 have hT:s.TypeIs (.ref z) "zip":=⟨_,hz,rfl⟩;unfold aJ8
 refine b8 (bA6 (R9 (name:=Str.ofString "__next__") hT F.slot_zip_next (S4 F.slot_zip_next hT F.entry_zip_next (bN4 D D1 hz hTI hTO st1 fun h' e hk he=>?_) (F.args_zip_next_1 _))))
 obtain⟨o,ho,hc⟩:=he
 exact b8 (wpAny_isInstance (T:="StopIteration") (b:=true) ⟨o,ho,hc⟩ isSubtype_stop (i7 (hQ _ hk)))
end
abbrev zA (h:Heap)(p:Addr):Heap:=h.push { cls:=.type "list_iterator",data:=.fields #[.ref p,.int 0 0] }
section
variable {σ:St}
theorem bH1 {c:Addr}{o:Obj}(I:Inv X pins σ H s)(f:ad1 X pins H c)(lk:X.K.lookup a=some o):a≠c:=fun z=>by
 have e:=I.ok.mod.kin a o lk
 rw[z]at e
 rcases f.2.2.2.1 with h | h
 ·exact I.ok.noex c o e h
 ·exact absurd (p5 (d5 e) (C4 I.ok.bsz h)) (D0 _)
theorem bl6 {c:Addr}(I:Inv X pins σ H s)(f:ad1 X pins H c)(q:SqL X.K H a xs):a≠c:=by
 rcases q with(q | ⟨o,q⟩) | ⟨o,its,n,lk,_⟩
 ·exact t8 q f.1
 ·exact t8 q f.1
 ·exact bH1 I f lk
theorem Inv.tupled (I:Inv X pins σ H s)(hf:∀ b∈fp,ad1 X pins H b)(kp:∀ b o,b∉fp->s.heap.get? b=some o->h'.get? b=some o)
  (ht:h'.get? s.heap.objs.size=some { cls:=.type "tuple",data:=.seq its.toArray })(rv:D3 xs its)(hl:xs.length<=d7):Inv X pins σ (upd H s.heap.objs.size (.tup xs)) { s with heap:=h',toks:=t' }:=by
 have hT:H s.heap.objs.size=none:=I.hok.fresh (d6 _)
 have nH:∀ b o,H b=some o->b∉fp:=fun b o q hb=>by rw[(hf b hb).1]at q;cases q
 have keepH:∀ b o,H b=some o->upd H s.heap.objs.size (.tup xs) b=some o:=fun b o q=>by rw[p8 (t8 q hT)];exact q
 have hok2:HOk X.prog X.w (upd H s.heap.objs.size (.tup xs)) h':=fun b o eb=>by
  by_cases hb:b=s.heap.objs.size
  ·subst hb
   rw[c7]at eb
   cases eb
   exact⟨hl,its,rv,⟨_,ht,rfl,_,rfl⟩⟩
  ·rw[p8 hb]at eb
   refine(I.hok b o eb).stay (fun c v hcc q=>kp c v ?_ q) (fun c q=>keepH c _ q) fun c ys q=>keepH c _ q
   rcases hcc with z | z
   ·exact nH c o (by rw[z];exact eb)
   ·exact nH c _ z
 refine I.step (g':=s.gens) (d':=s.drawn) (t':=t') (ch:=fp) (fun b hb=>?_) (fun b o _ _ hcc q _=>kp b o hcc q) (fun b o _ _ hcc q _=>⟨o.slots,kp b o hcc q⟩) (fun b o _ q n=>?_) (fun b o hcc q=>⟨o,kp b o hcc q⟩) (fun b ys q=>keepH b _ q) (fun b o v q=>keepH b _ q) (fun b ps q=>⟨#[],by rw[keepH b _ q];simp⟩) (fun m hm=>?_) hok2 I.bare
 ·obtain⟨f0,f1,f2,f3,f4,f5⟩:=hf b hb
  exact⟨f3,f1,f4,f5⟩
 ·rw[p8 (l7 (d5 q))]
  exact n
 ·obtain⟨o,es,ep,ho,r⟩:=hm
  exact⟨o,es,ep,kp _ o (fun hb=>(hf _ hb).2.1 rfl) ho,r⟩
theorem Inv.turns (I:Inv X pins σ H s)(hf:∀ b∈fp,ad1 X pins H b)(kp:∀ b o,b∉fp->s.heap.get? b=some o->h'.get? b=some o):Inv X pins σ H { s with heap:=h',toks:=t' }:=by
 have nH:∀ b o,H b=some o->b∉fp:=fun b o q hb=>by rw[(hf b hb).1]at q;cases q
 refine I.step (g':=s.gens) (d':=s.drawn) (t':=t') (ch:=fp) (fun b hb=>?_) (fun b o _ _ hcc q _=>kp b o hcc q) (fun b o _ _ hcc q _=>⟨o.slots,kp b o hcc q⟩) (fun b o _ q n=>n) (fun b o hcc q=>⟨o,kp b o hcc q⟩) (fun b ys q=>q) (fun b o v q=>q) (fun b ps q=>⟨#[],by rw[q];simp⟩) (fun m hm=>?_) (fun b o eb=>?_) I.bare
 ·obtain⟨f0,f1,f2,f3,f4,f5⟩:=hf b hb
  exact⟨f3,f1,f4,f5⟩
 ·obtain⟨o,es,ep,ho,r⟩:=hm
  exact⟨o,es,ep,kp _ o (fun hb=>(hf _ hb).2.1 rfl) ho,r⟩
 ·refine(I.hok b o eb).stay (fun c v hcc q=>kp c v ?_ q) (fun c q=>q) fun c ys q=>q
  rcases hcc with z | z
  ·exact nH c o (by rw[z];exact eb)
  ·exact nH c _ z
end
theorem nd5 (n:Nat):[n+4,n+2,n+3,n,n+1].Nodup:=by
 simp only[G5,j6,O2,or_false,not_or,bc2,not_false_eq_true,and_true]
 omega
theorem cg3 {k:Nat}(h:k∈[n+4,n+2,n+3,n,n+1]):n<=k:=by
 simp only[j6,O2,or_false]at h
 omega
theorem bg4 (bt:Nat->Nat->Bool):∀ n:Nat,ag8 bt n<=n
 | 0=>d6 _
 | n+1=>by
  unfold ag8
  have:=bg4 bt n
  split<;>omega
theorem bg5 (f:Nat->Int):∀ (n j:Nat),j<=n->f j<=f (ag8 (fun i j=>decide (f i > f j)) n)
 | 0,j,h=>by rw[Nat.le_zero.mp h];exact N8 _
 | n+1,j,h=>by
  unfold ag8
  have ih:=bg5 f n
  by_cases hb:f (n+1) > f (ag8 (fun i j=>decide (f i > f j)) n)
  ·rw[if_pos (decide_eq_true hb)]
   rcases F8 j (n+1) with l | l
   ·have:=ih j (by omega);omega
   ·rw[show j=n+1 by omega];exact N8 _
  ·rw[if_neg (fun z=>hb (of_decide_eq_true z))]
   rcases F8 j (n+1) with l | l
   ·exact ih j (by omega)
   ·rw[show j=n+1 by omega];omega
theorem ar2:(toString "max"++toString ".loop":String)="max.loop":=by decide
section
variable {R:Result->Shared->Prop} {I:Addr} {wr:List Addr} {P:Nat->Value->Prop} {St:Nat->Heap->Prop} {d:Value}
theorem bv1 (W:Walks prog w A.in1 I fp wr n P St)(bt:Nat->Nat->Bool)(hcmp:CmpOf prog w A.in1 .Gt P bt)(S:Addr)(hSf:S∉fp):∀ (k j:Nat) (s:Shared) (vb:Value) (c:Nat),n - (j+1)=k->j+1<=n->St (j+1) s.heap->P (ag8 bt j) vb ->
  s.heap.get? S=some { cls:=.type "list",dict:=none,data:=.seq #[vb,vb] c,slots:=#[] }->(∀ v h' tk,P (ag8 bt (n - 1)) v->(∀ b o,b∉wr->b≠S->s.heap.get? b=some o->h'.get? b=some o)->R (.ok (.ret v)) { s with heap:=h',toks:=tk }) ->
  al6 (u7 prog w) A (.builtin "max.loop" ⟨[.ref I,.none,.ref S],[("default",d)]⟩) R s:=by
 have hSw:S∉wr:=(fun h=>hSf (W.sub _ h));intro k
 induction k with
 | zero =>
  intro j s vb c hk hj hst hPb hS hR;have hin:j+1=n:=by omega
  refine Q5 F.entry_max_loop ?_;rw[Around.under_plainId F.plain_max_loop _];show q8 _ A.in1 (bi2 (.ref S) >>= _) _ _ s
  refine b8 (K2 hS rfl ?_);show q8 _ A.in1 (tryCatch (aJ8 (.ref I)) _ >>= _) _ _ s
  refine b8 (al7 (W.done s _ _ (hin ▸ hst) fun h' tk hk'=>?_));have hS':=hk' S _ hSw hS
  show q8 _ A.in1 (updateSeq S (fun _=>#[]) >>= _) _ _ _;refine b8 ?_
  refine bi3 hS' rfl (b8 (ap4 (i7 ?_)));exact hR vb _ tk (by rw[<- hin];exact hPb) fun b o hbw hbS e=>(B2 _ _ (Ne.symm hbS)).trans (hk' b o hbw e)
 | succ k ih =>
  intro j s vb c hk hj hst hPb hS hR;have hlt:j+1<n:=by omega
  refine Q5 F.entry_max_loop ?_;rw[Around.under_plainId F.plain_max_loop _];show q8 _ A.in1 (bi2 (.ref S) >>= _) _ _ s
  refine b8 (K2 hS rfl ?_);show q8 _ A.in1 (tryCatch (aJ8 (.ref I)) _ >>= _) _ _ s
  refine b8 (al7 (W.item (j+1) s _ _ hlt hst fun v h' tk hP hst' hk'=>?_));have hS':=hk' S _ hSw hS
  show q8 _ A.in1 (tryCatch (aF6 [v,v] (richCompare .Gt v vb >>= _)) _ >>= _) _ _ _;refine b8 (al7 (E9 (b8 (hcmp (j+1) (ag8 bt j) v vb _ _ _ hP hPb ?_))))
  refine b8 (E9 (F3 ?_));refine b8 (ap4 (i7 ?_))
  cases hb:bt (j+1) (ag8 bt j) with
  | true =>
   simp only[if_true];refine b8 ?_
   refine bi3 hS' rfl (b8 (ap4 ?_));rw[ar2]
   refine i7 ⟨ap2 F.plain_max_loop _,ih (j+1) _ v _ (by omega) hlt (W.frame _ _ _ hst' fun b hbf o e=>?_) (by simp only[ag8,hb,if_true];exact hP) (O6 _ hS' rfl) fun v' h'' tk'' hP' hk''=>?_⟩
   ·exact((B2 _ _ (fun h:S=b=>hSf (by rw[h];exact hbf))).trans e)
   ·exact(hR v' h'' tk'' hP' fun b o hbw hbS e=>hk'' b o hbw hbS ((B2 _ _ (Ne.symm hbS)).trans (hk' b o hbw e)))
  | false =>
   simp only[t7,if_false];refine b8 (ap4 ?_);rw[ar2]
   refine i7 ⟨ap2 F.plain_max_loop _,ih (j+1) _ vb c (by omega) hlt hst' (by simp only[ag8,hb,t7,if_false];exact hPb) hS' fun v' h'' tk'' hP' hk''=>?_⟩;exact hR v' h'' tk'' hP' fun b o hbw hbS e=>hk'' b o hbw hbS (hk' b o hbw e)
theorem bk3 (W:Walks prog w A.in1 I fp wr n P St)(bt:Nat->Nat->Bool)(hcmp:CmpOf prog w A.in1 .Gt P bt)(S:Addr)(hSf:S∉fp){c:Nat}(hst:St 0 s.heap)(hS:s.heap.get? S=some { cls:=.type "list",dict:=none,data:=.seq #[] c,slots:=#[] })
  (h0:n=0->∀ h' tk,(∀ b o,b∉wr->b≠S->s.heap.get? b=some o->h'.get? b=some o)->R (.ok (.ret d)) { s with heap:=h',toks:=tk })
  (hR:0<n->∀ v h' tk,P (ag8 bt (n - 1)) v->(∀ b o,b∉wr->b≠S->s.heap.get? b=some o->h'.get? b=some o)->R (.ok (.ret v)) { s with heap:=h',toks:=tk }) :
  al6 (u7 prog w) A (.builtin "max.loop" ⟨[.ref I,.none,.ref S],[("default",d)]⟩) R s:=by
 have hSw:S∉wr:=(fun h=>hSf (W.sub _ h))
 refine Q5 F.entry_max_loop ?_;rw[Around.under_plainId F.plain_max_loop _];show q8 _ A.in1 (bi2 (.ref S) >>= _) _ _ s
 refine b8 (K2 hS rfl ?_);show q8 _ A.in1 (tryCatch (aJ8 (.ref I)) _ >>= _) _ _ s
 by_cases hn:0<n
 ·refine b8 (al7 (W.item 0 s _ _ hn hst fun v h' tk hP hst' hk'=>?_));have hS':=hk' S _ hSw hS
  show q8 _ A.in1 (updateSeq S (fun _=>#[v,v]) >>= _) _ _ _;refine b8 ?_
  refine bi3 hS' rfl ?_;rw[ar2]
  refine i7 ⟨ap2 F.plain_max_loop _,bv1 W bt hcmp S hSf _ 0 _ v _ rfl hn (W.frame _ _ _ hst' fun b hbf o e=>?_) hP (O6 _ hS' rfl) fun v' h'' tk'' hP' hk''=>?_⟩
  ·exact((B2 _ _ (fun h:S=b=>hSf (by rw[h];exact hbf))).trans e)
  ·exact(hR hn v' h'' tk'' hP' fun b o hbw hbS e=>hk'' b o hbw hbS ((B2 _ _ (Ne.symm hbS)).trans (hk' b o hbw e)))
 ·have hz:n=0:=by omega
  refine b8 (al7 (W.done s _ _ (by rw[hz];exact hst) fun h' tk hk'=>?_))
  refine b8 (ay1 ?_)
  exact i7 (h0 hz h' tk fun b o hbw _ e=>hk' b o hbw e)
end
theorem bn4 (a v:Value):argsOk "max" ⟨[a],[(Str.ofString "default",v)]⟩:=by unfold argsOk;kernel_rfl
theorem max_def {σ:St}{p:Addr}{d:Value}(hc:X.calm=true)(I:Inv X pins σ H s)(hq:SqL X.K H p (ns.map V.int))
  (h0:ns=[]->∀ s',Inv X pins σ H s'->Q d s')(h1:∀ (m:Int) (t:Tok) (s':Shared),m∈ns->(∀ x∈ns,x<=m)->Inv X pins σ H s'->Q (.int m t) s'):q8 (u7 X.prog X.w) X.A (call (.builtin "max") [.ref p] [(Str.ofString "default",d)]) Q E s:=by
 obtain⟨its,r',pl,hz⟩:=I.list hq
 have hlen:its.length=ns.length:=by rw[<- r'.length,b9]
 have hi:R8 its ns:=intsAre_of r'
 obtain⟨ys,e⟩:=hi.allInts.items
 have hT:s.heap.IsList p (ap3 ys):=by rw[<- e];exact pl.isList
 have hsz:(ap3 ys).size=ns.length:=by rw[<- e,d9,hlen]
 have hnum:∀ j,j<ns.length->numAt ys j=ns.getD j 0:=fun j hj=>by
  have hx:(ns.map V.int)[j]?=some (.int (ns.getD j 0)):=by simp[hj]
  obtain⟨v,hv,t,rfl⟩:=r'.get hx
  have hv':(ap3 ys)[j]?=some (.int (ns.getD j 0) t):=by rw[<- e];simpa using hv
  obtain⟨t',ht'⟩:=bY1 hv'
  injection ht' with h1 _
  exact h1.symm
 have hpl:p<s.heap.objs.size:=by
  obtain⟨o,ho,_⟩:=hT
  exact d5 ho
 refine kmk_tree PySem.F.kind_max PySem.F.plain_max PySem.F.entry_max (bn4 _ _) ?_;show q8 _ X.A.in1 (Builtin.Builtins.bindParams "max" ["key","default"] 0 ⟨[],[(Str.ofString "default",d)]⟩ >>= _) _ _ s
 refine b8 (aF9 (show Builtin.Builtins.bindParams "max" ["key","default"] 0 ⟨[],[(Str.ofString "default",d)]⟩=pure [none,some d] from rfl) ?_);refine b8 (i7 ?_)
 refine b8 (Q4 hT ?_);refine b8 (V0 ?_ (v8 _));rw[ar2]
 have hS:(s.heap.push { cls:=.type "list_iterator",data:=.fields #[.ref p,.int 0 0] }).objs.size=s.heap.objs.size+1:=G6 ..
 have old:∀ c o,s.heap.get? c=some o->((s.heap.push { cls:=.type "list_iterator",data:=.fields #[.ref p,.int 0 0] }).push (W1 "list" #[] 0)).get? c=some o:=fun c o e=>c8 _ (c8 _ e)
 refine i7 ⟨ap2 PySem.F.plain_max_loop _,bk3 (Walks.list (A:=X.A.in1) (I.ok.hd hc) s.heap.objs.size p (l7 hpl) (ap3 ys)) _ (CmpOf.ints_gt (numAt ys) (fun _ _=>bY1)) _ (fun hm=>?_) ⟨⟨_,c8 _ (m9 _ rfl),rfl,rfl⟩,(hT.push _).push _⟩ (m9 _ rfl) (fun hn h' tk hk=>?_) fun hn v h' tk hP hk=>?_⟩
 ·rw[hS]at hm
  rcases j6.mp hm with e1 | hm
  ·exact absurd e1 (L9 (Nat.lt_succ_self _))
  ·rcases j6.mp hm with e1 | hm
   ·exact absurd e1 (L9 (E4 hpl))
   ·cases hm
 ·have hold:∀ c o,s.heap.get? c=some o->h'.get? c=some o:=fun c o e=>hk c o (fun hm=>by
   rcases j6.mp hm with e1 | hm
   ·exact absurd (d5 e) (by rw[e1];exact D0 _)
   ·cases hm) (by rw[hS];exact l7 (E4 (d5 e))) (old c o e)
  exact h0 (List.length_eq_zero_iff.mp (by omega)) _ (I.kept (t':=tk) hold)
 ·have hold:∀ c o,s.heap.get? c=some o->h'.get? c=some o:=fun c o e=>hk c o (fun hm=>by
   rcases j6.mp hm with e1 | hm
   ·exact absurd (d5 e) (by rw[e1];exact D0 _)
   ·cases hm) (by rw[hS];exact l7 (E4 (d5 e))) (old c o e)
  obtain⟨t,rfl⟩:=bY1 hP
  have hb:=bg4 (fun i j=>decide (numAt ys i > numAt ys j)) ((ap3 ys).size - 1)
  have hbl:ag8 (fun i j=>decide (numAt ys i > numAt ys j)) ((ap3 ys).size - 1)<ns.length:=by rw[hsz]at hb ⊢;omega
  refine h1 _ t _ ?_ (fun x hx=>?_) (I.kept (t':=tk) hold)
  ·rw[hnum _ hbl,j8,i6 hbl]
   exact aP2 hbl
  ·obtain⟨j,hj,rfl⟩:=bA3.mp hx
   have:=bg5 (numAt ys) ((ap3 ys).size - 1) j (by rw[hsz];omega)
   rw[hnum j hj,j8,i6 hj]at this
   exact this
theorem aW1 {it:Addr}{P:Nat->Value->Prop}{St:Nat->Heap->Prop}(D:Draws prog w A it fp n P St)(k:Nat):Draws prog w A it fp (k+n) (fun j x=>∃ i,j=k+i/\P i x) (fun j h=>∃ i,j=k+i/\St i h) where
 live:=fun j h ⟨i,_,st⟩=>D.live i h st
 frame:=fun j h h' ⟨i,e,st⟩ kp=>⟨i,e,D.frame i h h' st kp⟩
 item:=fun j s Q E hj ⟨i,e,st⟩ hQ=>D.item i s Q E (by omega) st fun x h' tk p st' sb=>hQ x h' tk ⟨i,e,p⟩ ⟨i+1,by omega,st'⟩ sb
 done:=fun s Q E ⟨i,e,st⟩ hE=>by
  obtain rfl:i=n:=by omega
  exact D.done s Q E st hE
def Itk (K:W.Frag)(a:Addr)(k0:Nat):It:=
 ⟨fun i H=>∃ xs x,SqL K H a xs/\xs[i]?=some x,fun i H x H'=>∃ t v,H t=none/\x=.ref t/\(∀ xs,SqL K H a xs->xs[i]?=some v)/\H'=upd H t (.tup [.int ((k0+i:Nat):Int),v]),fun i H=>∃ xs,SqL K H a xs/\xs.length=i⟩
theorem aY4 {K:W.Frag}{x1:Nat}(k0:Nat)(a it e:Addr)(hne:e≠it):Turn P w K (.Tuple elts x1 pos) (Itk K a k0) [e,it] e (fun i h=>(∃ old,bN0 h e it ((k0+i:Nat):Int) old)/\h.IsListIter it a i) where
 mem:=by simp
 obj:=fun i h st b hb=>by
  obtain⟨⟨old,he⟩,o,ho,hc,hd⟩:=st
  rcases j6.mp hb with rfl | hb
  ·exact⟨_,he,fun v z=>by cases z⟩
  ·have eb:b=it:=by simpa using hb
   subst eb
   exact⟨o,ho,fun v z=>by rw[hd]at z;cases z⟩
 keep:=fun i h h' st k=>by
  obtain⟨⟨old,he⟩,hit⟩:=st
  exact⟨⟨old,k e (by simp) _ he⟩,hit.at fun o q=>k it (by simp) o q⟩
 item:=by
  intro X hP hw hK hc i pins s σ H E I hf st hg
  subst hP hw hK
  obtain⟨xs,x,hq,hx⟩:=hg
  obtain⟨⟨old,he⟩,hit⟩:=st
  obtain⟨its,rv,p,hz⟩:=I.list hq
  obtain⟨u,hu,ru⟩:=rv.get hx
  obtain⟨f0,f1,f2,f3,f4,f5⟩:=hf e (by simp)
  obtain⟨g0,g1,g2,g3,g4,g5⟩:=hf it (by simp)
  have ha:a≠it:=bl6 I (hf it (by simp)) hq
  have hae:a≠e:=bl6 I (hf e (by simp)) hq
  have hlt0:i<its.toArray.size:=by
   rw[d9]
   rcases F8 i its.length with z | z
   ·exact z
   ·rw[C3 z]at hu;cases hu
  refine bA8 (i:=k0+i) (aW1 (Draws.list (A:=X.A.in1) (I.ok.hd hc) it a ha its.toArray) k0) he ⟨i,rfl,hit,p.isList⟩ (by omega) hne (by simp only[j6,ac0,or_false,not_or];exact⟨hne,Ne.symm hae⟩) fun u' h1 tk hP heo hit1' ht1 hz1 hk1=>?_
  obtain⟨i',ei,hP⟩:=hP
  obtain rfl:i'=i:=by omega
  obtain rfl:u'=u:=by
   have hu':its.toArray[i']?=some u:=by simpa using hu
   rw[hu']at hP
   exact(Option.some.inj hP).symm
  obtain⟨i2,ei2,hit1,_⟩:=hit1'
  obtain rfl:i2=i'+1:=by omega
  refine⟨_,rfl,?_⟩
  refine ah8 heo fun h2 he2 hs2=>?_
  have hlt:e<s.heap.objs.size:=d5 he
  have hs2':Heap.SameBut e h1 h2:=hs2
  have ht2:h2.get? s.heap.objs.size=some { cls:=.type "tuple",data:=.seq #[.int ((k0+i':Nat):Int) tk,u'] }:=(hs2'.2 _ (L9 hlt)).trans ht1
  have kp:∀ b o,b≠e->b≠it->s.heap.get? b=some o->h2.get? b=some o:=fun b o h1' h2' q=>(hs2'.2 b h1').trans (hk1 b o h1' h2' q)
  have hT:H s.heap.objs.size=none:=I.hok.fresh (d6 _)
  have nH:∀ b,H b≠none->b≠e/\b≠it:=fun b hb=>⟨fun z=>hb (z ▸ f0),fun z=>hb (z ▸ g0)⟩
  have keepH:∀ b o,H b=some o->upd H s.heap.objs.size (.tup [.int ((k0+i':Nat):Int),x]) b=some o:=fun b o q=>by rw[p8 (t8 q hT)];exact q
  have hok2:HOk X.prog X.w (upd H s.heap.objs.size (.tup [.int ((k0+i':Nat):Int),x])) h2:=fun b o eb=>by
   by_cases hb:b=s.heap.objs.size
   ·subst hb
    rw[c7]at eb
    cases eb
    exact⟨by show 2<=d7;decide,[.int ((k0+i':Nat):Int) tk,u'],.cons ⟨_,rfl⟩ (.cons ru .nil),⟨_,ht2,rfl,_,rfl⟩⟩
   ·rw[p8 hb]at eb
    refine(I.hok b o eb).stay (fun c v hcc q=>kp c v ?_ ?_ q) (fun c q=>keepH c _ q) fun c ys q=>keepH c _ q
    ·rcases hcc with z | z
     ·exact(nH c (by rw[z,eb];simp)).1
     ·exact(nH c (by rw[z];simp)).1
    ·rcases hcc with z | z
     ·exact(nH c (by rw[z,eb];simp)).2
     ·exact(nH c (by rw[z];simp)).2
  have I2:Inv X pins σ (upd H s.heap.objs.size (.tup [.int ((k0+i':Nat):Int),x])) { s with heap:=h2,toks:=tk+1 }:=by
   refine I.step (g':=s.gens) (d':=s.drawn) (t':=tk+1) (ch:=[e,it]) (fun b hb=>?_) (fun b o _ _ hcc q _=>kp b o (fun z=>hcc (by simp[z])) (fun z=>hcc (by simp[z])) q) (fun b o _ _ hcc q _=>⟨o.slots,kp b o (fun z=>hcc (by simp[z])) (fun z=>hcc (by simp[z])) q⟩) (fun b o _ q n=>?_)
    (fun b o hcc q=>⟨o,kp b o (fun z=>hcc (by simp[z])) (fun z=>hcc (by simp[z])) q⟩) (fun b ys q=>keepH b _ q) (fun b o v q=>keepH b _ q) (fun b ps q=>⟨#[],by rw[keepH b _ q];simp⟩) (fun m hm=>?_) hok2 I.bare
   ·rcases j6.mp hb with rfl | hb
    ·exact⟨f3,f1,f4,f5⟩
    ·have eb:b=it:=by simpa using hb
     subst eb
     exact⟨g3,g1,g4,g5⟩
   ·rw[p8 (l7 (d5 q))]
    exact n
   ·obtain⟨o,es,ep,ho,r⟩:=hm
    exact⟨o,es,ep,kp _ o (Ne.symm f1) (Ne.symm g1) ho,r⟩
  have hilt:it<s.heap.objs.size:=by
   obtain⟨o,ho,_⟩:=id hit
   exact d5 ho
  refine⟨.ref s.heap.objs.size,_,I2,rfl,⟨s.heap.objs.size,x,hT,rfl,fun ys hy=>by rw[I.list_inj hy hq];exact hx,rfl⟩,⟨⟨u',?_⟩,?_⟩,fun b hb=>?_⟩
  ·have:=he2
   rw[show (((k0+i':Nat):Int)+1)=(((k0+(i'+1):Nat):Int)) by omega]at this
   exact this
  ·exact hit1.at fun o q=>(hs2'.2 it (Ne.symm hne)).trans q
  ·rcases j6.mp hb with rfl | hb
   ·rw[p8 (l7 hlt)];exact f0
   ·have eb:b=it:=by simpa using hb
    subst eb
    rw[p8 (l7 hilt)]
    exact g0
 done:=by
  intro X hP hw hK hc i pins s σ H E I hf st hg
  subst hP hw hK
  obtain⟨xs,hq,hx⟩:=hg
  obtain⟨⟨old,he⟩,hit⟩:=st
  obtain⟨its,rv,p,hz⟩:=I.list hq
  obtain⟨g0,g1,g2,g3,g4,g5⟩:=hf it (by simp)
  have hl:=rv.length
  have ha:a≠it:=bl6 I (hf it (by simp)) hq
  have ei:i=its.toArray.size:=by rw[d9];omega
  exact bJ5 (aW1 (Draws.list (A:=X.A.in1) (I.ok.hd hc) it a ha its.toArray) k0) he ⟨its.toArray.size,rfl,ei ▸ hit,p.isList⟩ fun h' eb=>⟨rfl,I.turned (t':=s.toks) (fun b o hb q=>eb b o hb q) g0 g1 g3 g4 g5⟩
 self:=fun _ _ _ _ _ st h=>by
  obtain⟨⟨old,he⟩,_⟩:=st
  exact V2 he h
def bU1 (K:W.Frag)(ta:TA)(tb:TE):TI:=fun σ H R=>ta σ H fun vs H1=>aH2 tb bi8 σ H1 fun zs H2=>∃ (c:Addr) (k:Nat),vs=[.ref c]/\zs=[.int k]/\k<1000/\(∃ xs,SqL K H2 c xs)/\R (Itk K c k) H2
theorem bs9 {a b:Expr}{ta:TA}{tb:TE}{x1:Nat}{tpos kpos:Pos}(hg:Gl X "enumerate")(hm:X.mg "enumerate"=none)(ha:PA X [a] ta)(hb:PE X b tb)
  (hs:O9 pos (u4 [a] X.env)=(false,eval a X.env)::O9 pos (u4 [] X.env):=by rfl)(hpl:(O9 pos (u4 [a] X.env)).any (·.1)=false:=by rfl) :
  PI X (.Tuple elts x1 tpos) (.Call (.Name "enumerate" p) [a] [⟨some "start",b,kpos⟩] pos) (bU1 X.K ta tb):=by
 intro pins s σ H R I h
 refine K4 (Y4 I hg hm (show M6 "enumerate"=some (.type "enumerate") from rfl) ?_ (by decide) (by decide))
 refine bx3 (thn (ha pos pins s σ H _ I h) fun us s1 ⟨vs,H1,I1,r1,q1⟩=>?_) hs hpl rfl rfl
 have hk:PK X [⟨some "start",b,kpos⟩] (aH2 tb bi8):=aM1 hb aZ5
 refine thn (hk pos pins s1 σ H1 (fun zs H2=>∃ (c:Addr) (k:Nat),vs=[.ref c]/\zs=[.int k]/\k<1000/\(∃ xs,SqL X.K H2 c xs)/\R (Itk X.K c k) H2) I1 q1) fun ws s2 ⟨zs,H2,I2,r2,c,k,ev,ez,hk',⟨xs,hq⟩,q⟩=>?_
 subst ev ez
 obtain⟨w,rfl,rw⟩:=vals1 r2
 obtain⟨u,rfl,ru⟩:=vals1 r1
 obtain⟨t,rfl⟩:=rw
 cases ru
 obtain⟨its,rv,pl,hz⟩:=I2.list hq
 refine bx0 (k:=(k:Int)) (t:=t) ?_ pl.isList fun h' he hit hsz kp=>?_
 ·unfold Builtin.SmallTypes.fitsIndex
  simp only[B5,decide_eq_true_eq]
  exact⟨W9 (show (-(2 ^ 63):Int)<=0 by decide) (ah3 k),Int.lt_trans (show (k:Int)<1000 by omega) (by decide)⟩
 refine V2 he ?_
 have hne:s2.heap.objs.size+1≠s2.heap.objs.size:=aP6 _
 refine⟨s2.heap.objs.size+1,[s2.heap.objs.size+1,s2.heap.objs.size],_,_,H2,rfl,I2.kept (t':=s2.toks) kp,aY4 k c s2.heap.objs.size (s2.heap.objs.size+1) hne,⟨⟨_,he⟩,hit⟩,fun d hd=>?_,q⟩
 rcases j6.mp hd with rfl | hd
 ·exact I2.fpOk (Q8 _) (I2.hok.fresh (Q8 _))
 ·have e:d=s2.heap.objs.size:=by simpa using hd
  subst e
  exact I2.fpOk (d6 _) (I2.hok.fresh (d6 _))
theorem bb0 {K:W.Frag}{D:Addr}{k0:Nat}{g:TG}{tt:TT}{σ0:St}{H0:Hp}(Pv:Nat->List V->St->Hp->Prop)(h0:Pv 0 [] σ0 H0)(hz:ys.length<=d7)(hl:∀ i xs σ H,i<=ys.length->Pv i xs σ H->SqL K H a ys/\H D=some (.lst xs)/\xs.length<=i)
  (hs:∀ i xs x t σ H (N:List V->St->Hp->Prop),(∀ xs' σ' H',Pv (i+1) xs' σ' H'->N xs' σ' H')->ys[i]?=some x->Pv i xs σ H->H t=none->g (.ref t) σ (upd H t (.tup [.int ((k0+i:Nat):Int),x])) fun σ2 H2=>tt σ2 H2 fun b H3=>if b=true then te σ2 H3 fun v H4=>H4 D=some (.lst xs)/\N (xs++[v]) σ2 (upd H4 D (.lst (xs++[v]))) else N xs σ2 H3)
  (hd:∀ xs σ H,Pv ys.length xs σ H->Qd H) :
  ∃ W:Nat->Nat->List V->St->Hp->Prop,(∃ m,W 0 m [] σ0 H0)/\∀ i m xs σ' H',W i m xs σ' H'->H' D=some (.lst xs)/\(((Itk K a k0).stop i H'/\Qd H')\/((Itk K a k0).go i H'/\xs.length<d7/\∀ x H'',(Itk K a k0).yld i H' x H''->g x σ' H'' fun σ2 H2=>tt σ2 H2 fun b H3 =>
   if b=true then te σ2 H3 fun v H4=>H4 D=some (.lst xs)/\∃ m',m'<m/\W (i+1) m' (xs++[v]) σ2 (upd H4 D (.lst (xs++[v]))) else ∃ m',m'<m/\W (i+1) m' xs σ2 H3)):=by
 refine⟨fun i m xs σ H=>m=ys.length - i/\i<=ys.length/\Pv i xs σ H,⟨ys.length,by simp,v8 _,h0⟩,?_⟩
 rintro i m xs σ H ⟨rfl,hi,p⟩
 obtain⟨q,hD,hx⟩:=hl i xs σ H hi p
 refine⟨hD,?_⟩
 by_cases hlt:i<ys.length
 ·refine .inr ⟨⟨ys,ys[i],q,by simp[hlt]⟩,by omega,fun x H'' y=>?_⟩
  obtain⟨t,v,ht,e,hv,e'⟩:=y
  subst e e'
  exact hs i xs v t σ _ (fun zs σ' H'=>∃ m',m'<ys.length - i/\m'=ys.length - (i+1)/\i+1<=ys.length/\Pv (i+1) zs σ' H') (fun zs σ' H' r=>⟨_,by omega,rfl,hlt,r⟩) (hv ys q) p ht
 ·have e:i=ys.length:=by omega
  subst e
  exact .inl ⟨⟨ys,q,rfl⟩,hd xs σ H p⟩
def bz0 (K:W.Frag)(a b:Addr):It:=
 ⟨fun i H=>∃ xs ys x y,SqL K H a xs/\SqL K H b ys/\xs[i]?=some x/\ys[i]?=some y,fun i H x H'=>∃ t u v,H t=none/\x=.ref t/\(∀ xs,SqL K H a xs->xs[i]?=some u)/\(∀ ys,SqL K H b ys->ys[i]?=some v)/\H'=upd H t (.tup [u,v]),fun i H=>∃ xs,SqL K H a xs/\xs.length=i⟩
def cc1 (K:W.Frag)(ta:TA):TI:=fun σ H R=>ta σ H fun vs H1=>∃ a b,vs=[.ref a,.ref b]/\(∃ xs,SqL K H1 a xs)/\(∃ ys,SqL K H1 b ys)/\R (bz0 K a b) H1
theorem bi5 {K:W.Frag}{x1:Nat}(a b z TI TO i1 i2:Addr)(nd:[z,TI,TO,i1,i2].Nodup) :
  Turn P w K (.Tuple elts x1 pos) (bz0 K a b) [z,TI,TO,i1,i2] z (fun i h=>aX9 h z TI TO .none/\ac8 h TI (.ref i1) (.ref i2)/\(∃ x y,ac8 h TO x y)/\h.IsListIter i1 a i/\h.IsListIter i2 b i) where
 mem:=by simp
 obj:=fun i h st c hc=>by
  obtain⟨hz,hTI,⟨x,y,hTO⟩,⟨o1,ho1,hc1,hd1⟩,⟨o2,ho2,hc2,hd2⟩⟩:=st
  simp only[j6,O2,or_false]at hc
  rcases hc with rfl | rfl | rfl | rfl | rfl
  ·exact⟨_,hz,fun v q=>by cases q⟩
  ·exact⟨_,hTI,fun v q=>by cases q⟩
  ·exact⟨_,hTO,fun v q=>by cases q⟩
  ·exact⟨o1,ho1,fun v q=>by rw[hd1]at q;cases q⟩
  ·exact⟨o2,ho2,fun v q=>by rw[hd2]at q;cases q⟩
 keep:=fun i h h' st k=>by
  obtain⟨hz,hTI,⟨x,y,hTO⟩,h1,h2⟩:=st
  exact⟨k z (by simp) _ hz,k TI (by simp) _ hTI,⟨x,y,k TO (by simp) _ hTO⟩,h1.at fun o q=>k i1 (by simp) o q,h2.at fun o q=>k i2 (by simp) o q⟩
 item:=by
  intro X hP hw hK hc i pins s σ H E I hf st hg
  subst hP hw hK
  obtain⟨xs,ys,x,y,q1,q2,hx,hy⟩:=hg
  obtain⟨hz,hTI,⟨o1,o2,hTO⟩,h1,h2⟩:=st
  obtain⟨its,rv,pl,hzl⟩:=I.list q1
  obtain⟨jts,rw',pt,hzt⟩:=I.list q2
  obtain⟨u,hu,ru⟩:=rv.get hx
  obtain⟨v,hv,rv'⟩:=rw'.get hy
  have fa:∀ c∈[z,TI,TO,i1,i2],a≠c:=fun c hc=>bl6 I (hf c hc) q1
  have fb:∀ c∈[z,TI,TO,i1,i2],b≠c:=fun c hc=>bl6 I (hf c hc) q2
  have hl1:s.heap.IsList a its.toArray:=pl.isList
  have hl2:s.heap.IsList b jts.toArray:=pt.isList
  have ui:its.toArray[i]?=some u:=by simpa using hu
  have vi:jts.toArray[i]?=some v:=by simpa using hv
  have lt1:i<its.toArray.size:=by
   rcases F8 i its.toArray.size with h | h
   ·exact h
   ·rw[am5 h]at ui;cases ui
  have lt2:i<jts.toArray.size:=by
   rcases F8 i jts.toArray.size with h | h
   ·exact h
   ·rw[am5 h]at vi;cases vi
  simp only[G5,j6,O2,or_false,not_or]at nd
  obtain⟨⟨n1,n2,n3,n4⟩,⟨n5,n6,n7⟩,⟨n8,n9⟩,n10,_⟩:=nd
  have ap:ZAp z TI TO i1 i2 [i1,a] [i2,b]:=by
   refine⟨Ne.symm n1,Ne.symm n2,Ne.symm n3,Ne.symm n4,n5,n6,n7,n8,n9,n10,?_,?_,?_,?_,?_,?_⟩
   ·simp[n3,Ne.symm (fa z (by simp))]
   ·simp[n4,Ne.symm (fb z (by simp))]
   ·simp[n8,Ne.symm (fa TO (by simp))]
   ·simp[n9,Ne.symm (fb TO (by simp))]
   ·simp[n10,Ne.symm (fb i1 (by simp))]
   ·simp[Ne.symm n10,Ne.symm (fa i2 (by simp))]
  refine bB0 (k:=i) ap (Draws.list (A:=X.A.in1) (I.ok.hd hc) i1 a (fa i1 (by simp)) its.toArray) (Draws.list (A:=X.A.in1) (I.ok.hd hc) i2 b (fb i2 (by simp)) jts.toArray) hz hTI hTO ⟨h1,hl1⟩ ⟨h2,hl2⟩ lt1 lt2 fun x' y' hA tk px py hzo hTOo st1 st2 hT hsz hk=>?_
  obtain rfl:u=x':=by have:=ui.symm.trans px;cases this;rfl
  obtain rfl:v=y':=by have:=vi.symm.trans py;cases this;rfl
  refine⟨_,rfl,?_⟩
  refine wpAny_letOwnedTupleGo_zip hzo fun hB hzB hsB=>?_
  have hsB':Heap.SameBut z hA hB:=hsB
  have zlt:z<s.heap.objs.size:=d5 hz
  have up:∀ c o,c≠z->hA.get? c=some o->hB.get? c=some o:=fun c o c1 e=>(hsB'.2 c c1).trans e
  have kp:∀ c o,c∉[z,TI,TO,i1,i2]->s.heap.get? c=some o->hB.get? c=some o:=fun c o hc e=>by
   simp only[j6,O2,or_false,not_or]at hc
   exact up c o hc.1 (hk c o hc.1 hc.2.2.1 hc.2.2.2.1 hc.2.2.2.2 e)
  have I2:Inv X pins σ (upd H s.heap.objs.size (.tup [x,y])) { s with heap:=hB,toks:=tk }:=I.tupled (its:=[u,v]) hf kp (up _ _ (L9 zlt) hT) (.cons ru (.cons rv' .nil)) (by show 2<=d7;decide)
  have hTn:H s.heap.objs.size=none:=I.hok.fresh (d6 _)
  refine⟨.ref s.heap.objs.size,_,I2,rfl,⟨s.heap.objs.size,x,y,hTn,rfl,fun zs hq=>by rw[I.list_inj hq q1];exact hx,fun zs hq=>by rw[I.list_inj hq q2];exact hy,rfl⟩,⟨hzB,?_,⟨u,v,up _ _ (Ne.symm n2) hTOo⟩,st1.1.at fun o e=>up i1 o (Ne.symm n3) e,st2.1.at fun o e=>up i2 o (Ne.symm n4) e⟩,fun c hc=>?_⟩
  ·exact up _ _ (Ne.symm n1) (hk _ _ (Ne.symm n1) n5 n6 n7 hTI)
  ·have lt:c<s.heap.objs.size:=by
    simp only[j6,O2,or_false]at hc
    rcases hc with rfl | rfl | rfl | rfl | rfl
    ·exact zlt
    ·exact d5 hTI
    ·exact d5 hTO
    ·obtain⟨o,ho,_⟩:=h1;exact d5 ho
    ·obtain⟨o,ho,_⟩:=h2;exact d5 ho
   rw[p8 (l7 lt)]
   exact(hf c hc).1
 done:=by
  intro X hP hw hK hc i pins s σ H E I hf st hg
  subst hP hw hK
  obtain⟨xs,q1,hx⟩:=hg
  obtain⟨hz,hTI,⟨o1,o2,hTO⟩,h1,h2⟩:=st
  obtain⟨its,rv,pl,hzl⟩:=I.list q1
  have hl:=rv.length
  have fa:∀ c∈[z,TI,TO,i1,i2],a≠c:=fun c hc=>bl6 I (hf c hc) q1
  simp only[G5,j6,O2,or_false,not_or]at nd
  obtain⟨⟨n1,n2,n3,n4⟩,⟨n5,n6,n7⟩,⟨n8,n9⟩,n10,_⟩:=nd
  have ap:ZAp z TI TO i1 i2 [i1,a] [i2]:=by
   refine⟨Ne.symm n1,Ne.symm n2,Ne.symm n3,Ne.symm n4,n5,n6,n7,n8,n9,n10,?_,?_,?_,?_,?_,?_⟩
   ·simp[n3,Ne.symm (fa z (by simp))]
   ·simp[n4]
   ·simp[n8,Ne.symm (fa TO (by simp))]
   ·simp[n9]
   ·simp[n10]
   ·simp[Ne.symm n10,Ne.symm (fa i2 (by simp))]
  have ei:i=its.toArray.size:=by rw[d9];omega
  refine bB1 ap (Draws.list (A:=X.A.in1) (I.ok.hd hc) i1 a (fa i1 (by simp)) its.toArray) hz hTI hTO ⟨by rw[<- ei];exact h1,pl.isList⟩ fun h' hk=>⟨rfl,I.turns (t':=s.toks) hf fun c o hc' e=>?_⟩
  simp only[j6,O2,or_false,not_or]at hc'
  exact hk c o hc'.1 hc'.2.2.1 hc'.2.2.2.1 hc'.2.2.2.2 e
 self:=fun _ _ _ _ _ st h=>wpAny_pyIter_zip st.1 h
theorem bD9 {a b:Expr}{ta:TA}{x1:Nat}{tpos:Pos}(hg:Gl X "zip")(hm:X.mg "zip"=none)(ha:PA X [a,b] ta)(hv:M6 "zip"=some (.type "zip"):=by rfl)(hs:u4 [a,b] X.env=(false,eval a X.env)::u4 [b] X.env:=by rfl)(hpl:(O9 pos (u4 [b] X.env)).any (·.1)=false:=by rfl) :
  PI X (.Tuple elts x1 tpos) (.Call (.Name "zip" p) [a,b] [] pos) (cc1 X.K ta):=by
 intro pins s σ H R I h
 refine Call_ (Y4 I hg hm hv (PyProof.Rows.callWith_type1 (thn (ha pos pins s σ H _ I h) fun us s1 ⟨vs,H1,I1,r1,q1⟩=>?_) hs hpl))
 obtain⟨c,d,e,⟨xs,hq⟩,⟨ys,hq2⟩,q⟩:=q1
 subst e
 obtain⟨u,v,rfl,rx,ry⟩:=vals2 r1
 cases rx
 cases ry
 obtain⟨its,rv,pl,hz⟩:=I1.list hq
 obtain⟨jts,rv2,pt,hz2⟩:=I1.list hq2
 refine call_zip_2 pl.isList pt.isList fun h' gz gTI gTO g1 g2 hsz kp=>?_
 refine wpAny_pyIter_zip gz ?_
 refine⟨s1.heap.objs.size+4,[s1.heap.objs.size+4,s1.heap.objs.size+2,s1.heap.objs.size+3,s1.heap.objs.size,s1.heap.objs.size+1],_,_,H1,rfl,I1.kept (t':=s1.toks) kp,bi5 c d (s1.heap.objs.size+4) (s1.heap.objs.size+2) (s1.heap.objs.size+3) s1.heap.objs.size (s1.heap.objs.size+1) ?_,⟨gz,gTI,⟨_,_,gTO⟩,g1,g2⟩,fun k hk=>?_,q⟩
 ·exact nd5 _
 ·have:=cg3 hk
  exact I1.fpOk this (I1.hok.fresh this)
theorem bm5 {K:W.Frag}{b D:Addr}{zs:List V}{g:TG}{tt:TT}{σ0:St}{H0:Hp}(hyz:ys.length=zs.length)(Pv:Nat->List V->St->Hp->Prop)(h0:Pv 0 [] σ0 H0)(hz:ys.length<=d7)(hl:∀ i xs σ H,i<=ys.length->Pv i xs σ H->SqL K H a ys/\SqL K H b zs/\H D=some (.lst xs)/\xs.length<=i)
  (hs:∀ i xs x y t σ H (N:List V->St->Hp->Prop),(∀ xs' σ' H',Pv (i+1) xs' σ' H'->N xs' σ' H')->ys[i]?=some x->zs[i]?=some y->Pv i xs σ H->H t=none->g (.ref t) σ (upd H t (.tup [x,y])) fun σ2 H2=>tt σ2 H2 fun b H3=>if b=true then te σ2 H3 fun v H4=>H4 D=some (.lst xs)/\N (xs++[v]) σ2 (upd H4 D (.lst (xs++[v]))) else N xs σ2 H3)
  (hd:∀ xs σ H,Pv ys.length xs σ H->Qd H) :
  ∃ W:Nat->Nat->List V->St->Hp->Prop,(∃ m,W 0 m [] σ0 H0)/\∀ i m xs σ' H',W i m xs σ' H'->H' D=some (.lst xs)/\(((bz0 K a b).stop i H'/\Qd H')\/((bz0 K a b).go i H'/\xs.length<d7/\∀ x H'',(bz0 K a b).yld i H' x H''->g x σ' H'' fun σ2 H2=>tt σ2 H2 fun b H3 =>
   if b=true then te σ2 H3 fun v H4=>H4 D=some (.lst xs)/\∃ m',m'<m/\W (i+1) m' (xs++[v]) σ2 (upd H4 D (.lst (xs++[v]))) else ∃ m',m'<m/\W (i+1) m' xs σ2 H3)):=by
 refine⟨fun i m xs σ H=>m=ys.length - i/\i<=ys.length/\Pv i xs σ H,⟨ys.length,by simp,v8 _,h0⟩,?_⟩
 rintro i m xs σ H ⟨rfl,hi,p⟩
 obtain⟨q1,q2,hD,hx⟩:=hl i xs σ H hi p
 refine⟨hD,?_⟩
 by_cases hlt:i<ys.length
 ·refine .inr ⟨⟨ys,zs,ys[i],zs[i],q1,q2,by simp[hlt],by simp[hyz ▸ hlt]⟩,by omega,fun x H'' y=>?_⟩
  obtain⟨t,u,v,ht,e,hu,hv,e'⟩:=y
  subst e e'
  exact hs i xs u v t σ _ (fun zs σ' H'=>∃ m',m'<ys.length - i/\m'=ys.length - (i+1)/\i+1<=ys.length/\Pv (i+1) zs σ' H') (fun zs σ' H' r=>⟨_,by omega,rfl,hlt,r⟩) (hu ys q1) (hv zs q2) p ht
 ·obtain rfl:i=ys.length:=by omega
  exact .inl ⟨⟨ys,q1,rfl⟩,hd xs σ H p⟩
end L2
namespace Web
open PySem L2
theorem aV4 {K:W.Frag}{Q:VK}{l:Addr}{es:List Int}{z:Int}(hun:A.units+64<aw4)(hl:SqL K H l (es.map V.int))(q:Q (.bl (decide (z∈es))) H):bQ0 K A false (.int z) (.ref l) H Q:=by
 refine⟨l,_,.int z,es.map .int,rfl,.inl hl,Dt.mkInt,G1.ints es,by simp[PyData.canLay0],lay_ints es,bN7 hun (by simp[PyData.depth]),?_⟩
 rw[aW0,if_neg j9]
 exact q
inductive Wz where
 | odd | below (z:Int) | wall (z:Int)
def wzT:Wz->List V
 | .odd=>[.str "odd"]
 | .below z=>[.str "below",.int z]
 | .wall z=>[.str "wall",.int z]
def bC6 (ns:List Int)(M:Nat):Wz->Bool
 | .odd=>decide (ns.sum % 2=1)
 | .below z=>decide (z∈bn3 ns)
 | .wall z=>decide (1<=z/\z<=ns.length/\Y5 ns M z.toNat<0)
theorem cd3 (a b:Int):decide (V.int a=V.int b)=decide (a=b):=by
 by_cases h:a=b
 ·rw[h,decide_eq_true rfl,decide_eq_true rfl]
 ·rw[decide_eq_false h,decide_eq_false (fun z=>h (by injection z))]
theorem cb6:¬ (V.str "below"=V.str "odd"):=by decide +kernel
theorem cb4:¬ (V.str "wall"=V.str "odd"):=by decide +kernel
theorem cb5:¬ (V.str "wall"=V.str "below"):=by decide +kernel
theorem av7 {x y:V}:atI ([x,y]:List V) 0=some x:=A1 (j:=0) rfl
theorem aE6 {x y:V}:atI ([x,y]:List V) 1=some y:=A1 (j:=1) rfl
theorem cd6 {x:V}:atI ([x]:List V) 0=some x:=A1 (j:=0) rfl
theorem aH7:ao8 (CXE P w) X E0:=fun _ _ _ _ _ _ _ h=>by
 obtain⟨_,_,_,_,_,_,_,_,_,_,_,hE⟩:=h
 exact hE.elim
def bZ1 (K:W.Frag)(tr:TA):TE:=fun σ H Q=>tr σ H fun vs H1=>∃ (p:Addr) (ns:List Int),vs=[.ref p]/\SqL K H1 p (ns.map V.int)/\AllP ns/\∀ m:Int,0<=m->(∀ x∈ns,x<=m)->Q (.int m) H1
open PyProof.Rows in
theorem bE1 {np bpos kpos:Pos}{tr:TA}(K:W.Frag)(hK:X.K=K)(hc:X.calm=true)(hg:Gl X "max")(hm:X.mg "max"=none)(ha:PA X [e] tr)
  (hs:O9 pos (u4 [e] X.env)=(false,eval e X.env)::O9 pos (u4 [] X.env):=by rfl)
  (hpl:(O9 pos (u4 [e] X.env)).any (·.1)=false:=by rfl) :
  PE X (.Call (.Name "max" np) [e] [⟨some "default",.Constant (.int 0) j bpos,kpos⟩] pos) (bZ1 K tr):=by
 subst hK
 intro pins s σ H Q I h
 refine K4 (Y4 I hg hm (show M6 "max"=some (.builtin "max") from rfl) ?_ (by decide) (by decide))
 refine callWith_kw (thn (ha pos pins s σ H _ I h) fun us s1 ⟨vs,H1,I1,r1,q1⟩=>?_) hs hpl rfl rfl
 obtain⟨p,ns,rfl,hq,hp,q⟩:=q1
 have hk:PK X [⟨some "default",.Constant (.int 0) j bpos,kpos⟩] (aH2 (tC (.int 0)) bi8):=aM1 c9 aZ5
 refine thn (hk pos pins s1 σ H1 (fun zs H2=>zs=[.int 0]/\H2=H1) I1 ⟨rfl,rfl⟩) fun ws s2 ⟨zs,H2,I2,r2,ez,eH⟩=>?_
 subst ez eH
 obtain⟨w,rfl,rw⟩:=vals1 r2
 obtain⟨u,rfl,ru⟩:=vals1 r1
 obtain⟨t,rfl⟩:=rw
 cases ru
 exact max_def hc I2 hq (fun e s' I'=>⟨.int 0,_,I',⟨_,rfl⟩,q 0 (by omega) fun x hx=>by rw[e]at hx;cases hx⟩) fun m t s' a1 a2 I'=>⟨.int m,_,I',⟨t,rfl⟩,q m (by
  obtain⟨i,hi⟩:=q0.mp a1
  exact hp i m hi) a2⟩
theorem bV1 (M L c:Int)(hM:1<=M):(if (if c - L > 0 then c - L else 0)<M then (if c - L > 0 then c - L else 0) else M)=abv M L c:=by
 unfold abv
 by_cases h1:c - L<=0
 ·have e:(if c - L > 0 then c - L else 0)=0:=if_neg (by omega)
  rw[if_pos h1,e,if_pos (show (0:Int)<M by omega)]
 ·have e:(if c - L > 0 then c - L else 0)=c - L:=if_pos (by omega)
  rw[if_neg h1,e]
  by_cases h2:c - L<=M
  ·rw[if_pos h2]
   by_cases h3:c - L<M
   ·rw[if_pos h3]
   ·rw[if_neg h3];omega
  ·rw[if_neg h2,if_neg (by omega)]
seal L2.PE L2.PA L2.PS L2.PSs L2.PT
section
variable {K:W.Frag} {mg:Str->Option Value} {base:Heap}
def bd0 (P:Program)(w:World)(K:W.Frag)(mg:Str->Option Value)(base:Heap)(k:Nat):Sp:=fun vs H Q _=>∃ (lo hi:Int) (f:Addr) (ob:Obj) (fd:FuncData) (x:Str) (sp:Sp) (J:Hp->Prop) (p:Int->Bool),vs=[.int lo,.int hi,.ref f]/\lo<=hi/\ob.data=.func fd /\
 A4 P w K mg base CX0 k f fd [x] sp/\Binds K fd [x] []/\(∀ H,J H->H f=some (U0 f ob))/\(∀ (H:Hp) (m:Int) (Q:VK),J H->lo<=m->m<hi->(∀ H',B3 H H'->J H'->Q (.bl (p m)) H')->sp [.int m] H Q E0)/\J H /\
 ∀ (r:Int) (H':Hp),lo<=r->r<=hi->(r<hi->p r=true)->(lo<r->p (r - 1)=false)->J H'->B3 H H'->Q (.int r) H'
theorem ay5:B6 ["low","high","holds","middle"] ["low","high","holds"] (p9 aB0):=.mk'
theorem bt9 {k:Nat} (F:Fun K "least_where" "least_where" aB0 f fd):A4 P w K mg base CX0 (k+1) f fd ["low","high","holds"] (bd0 P w K mg base k):=by
 refine F.ok ay5 (fun cdv A outer s H vs Q E hr h=>?_)
 obtain⟨lo,hi,fl,ob,fdl,x,sp,J,p,rfl,hlh,hob,FL,bL,hJ,hcall,hJ0,q⟩:=h
 refine⟨_,d8 (bs5 PassesOwn.never (x6 ag2 (pv 0) (pv 1) (B1 _))
  (d8 (y7 (i:=3) ay5.nd rfl (Or.inl rfl) (m8 F6 (m8 G3 (pv 0) (pv 1)) c9))
  (k8 (F1 (aa5 (bt5 hr (i := 2) rfl (Or.inl rfl) (b7 (pv 3) d3)))
   (k8 (y7 (i:=1) ay5.nd rfl (Or.inl rfl) (pv 3))) (k8 (y7 (i:=0) ay5.nd rfl (Or.inl rfl) (m8 G3 (pv 3) c9)))))))
  (k8 (B8 (pv 0))),?_⟩
 refine⟨fun m σ H1=>∃ (a b:Int) (e3:Option V),m=(b - a).toNat/\σ=[some (.int a),some (.int b),some (.ref fl),e3]/\lo<=a/\a<=b/\b<=hi/\(b<hi->p b=true)/\(lo<a->p (a - 1)=false)/\J H1/\B3 H H1,⟨_,lo,hi,none,rfl,rfl,by omega,hlh,by omega,fun z=>absurd z (by omega),fun z=>absurd z (by omega),hJ0,B3.refl H⟩,?_⟩
 rintro m σ H1 ⟨a,b,e3,rfl,rfl,h1,h2,h3,h4,h5,h6,h7⟩
 refine⟨_,rfl,_,rfl,_,_,rfl,rfl,_,rfl,?_⟩
 refine aa9 (fun hc=>?_) (fun hc=>?_)
 ·have hab:=of_decide_eq_true hc
  refine⟨fun σ' H'=>∃ (a' b':Int) (e3:Option V),(b' - a').toNat<(b - a).toNat/\σ'=[some (.int a'),some (.int b'),some (.ref fl),e3]/\lo<=a'/\a'<=b'/\b'<=hi/\(b'<hi->p b'=true)/\(lo<a'->p (a' - 1)=false)/\J H'/\B3 H H',fun σ' H' ⟨a',b',e3',z0,z1,z2,z3,z4,z5,z6,z7,z8⟩=>⟨_,z0,a',b',e3',rfl,z1,z2,z3,z4,z5,z6,z7,z8⟩,?_⟩
  refine⟨_,rfl,_,rfl,_,_,rfl,rfl,_,_,rfl,rfl,⟨by decide,by decide⟩,?_⟩
  refine M7 fun c hcm=>?_
  refine F0 ?_
  have hc1:a<=c:=by omega
  have hc2:c<b:=by omega
  refine⟨fl,ob,fdl,rfl,hJ _ h6,hob,_,rfl,[x],sp,hJ _ h6,FL,bL,hcall H1 c _ h6 (by omega) (by omega) fun H2 s2 j2=>⟨_,rfl,?_⟩⟩
  refine aa9 (fun hp=>?_) (fun hp=>?_)
  ·exact⟨_,rfl,a,c,_,by omega,rfl,h1,by omega,by omega,fun _=>hp,h5,j2,h7.trans s2⟩
  ·refine⟨_,rfl,_,_,rfl,rfl,c+1,b,_,by omega,rfl,by omega,by omega,h3,h4,fun _=>?_,j2,h7.trans s2⟩
   rw[show c+1 - 1=c by omega]
   simpa using hp
 ·have hab:¬ a<b:=fun z=>hc (decide_eq_true z)
  have e:b=a:=by omega
  rw[e]at h4
  exact⟨_,rfl,q a H1 h1 (by omega) h4 h5 h6 h7⟩
def bq6 (K:W.Frag):Sp:=fun vs H Q _=>∃ (a:Addr) (ns:List Int) (L M:Int),vs=[.ref a,.int L,.int M]/\SqL K H a (ns.map V.int)/\ns.length<=100/\1<=M/\∀ (l:Addr) (H':Hp),B3 H H'->H l=none->H' l=some (.lst ((ns.map (abv M L)).map V.int))->Q (.ref l) H'
theorem ca3:B6 ["numbers","level","most"] ["numbers","level","most"] (p9 br8):=.mk'
theorem bS7 (F:Fun K "above" "above" br8 f fd)(B:Bn mg):A4 P w K mg base CX0 1 f fd ["numbers","level","most"] (bq6 K):=by
 refine F.ok ca3 (fun cdv A outer s H vs Q E hr h=>?_)
 obtain⟨a,ns,L,M,rfl,hS,hn,hM,q⟩:=h
 have hsl:=O3
 have nd3:(["number","level","most"]:List Str).Nodup:=by decide +kernel
 refine⟨_,k8 (B8 (X3 (N':=["number","level","most"]) (lk:=[none,some 1,some 2]) rfl (Z4 (pv 0)) (by rfl) rfl (by decide +kernel) (by exact⟨rfl,rfl,trivial⟩) (by rfl) (by exact LkL.ok ⟨⟨rfl,Or.inl rfl,rfl,Or.inl rfl⟩,⟨rfl,Or.inl rfl,rfl,Or.inl rfl⟩,trivial⟩)
    (fun _ _ _=>B4 (i:=0) nd3 rfl (Or.inl rfl)) (fun _ _ _=>ac2) (fun _ _ _=>p0 (ae1 rfl) (by rfl) B.min (by rfl) (b7 (pv 2) (b7 (p0 (ae2 rfl) (by rfl) B.max (by rfl) (b7 c9 (b7 (m8 P8 (pv 0) (pv 1)) d3))) d3))))),?_⟩
 refine⟨_,rfl,a,rfl,⟨_,hS⟩,fun D hD=>al3 (K:=K) (a:=a) (D:=D) (ys:=ns.map V.int) (fun i xs σ' H'=>(∃ v,σ'=[v,some (.int L),some (.int M)])/\B3 H H'/\H' D=some (.lst xs)/\xs=((ns.take i).map (abv M L)).map V.int)
  ⟨⟨none,rfl⟩,d4 hD,c7,rfl⟩ (by rw[b9];omega) (fun i xs σ' H' hi ⟨_,s6,h6,e6⟩=>⟨s6.seq hS,h6,by rw[e6,b9,b9,u5];omega⟩) ?_ ?_⟩
 ·rintro i xs x σ' H' N kN hx ⟨⟨v,rfl⟩,s6,h6,rfl⟩
  obtain⟨z,hz,rfl⟩:=Z6 hx
  refine F0 (X6 ?_)
  refine⟨_,rfl,_,rfl,_,rfl,_,_,rfl,rfl,_,_,rfl,_,_,rfl,?_⟩
  rw[bV1 M L z hM]
  refine⟨h6,kN _ _ _ ⟨⟨_,rfl⟩,s6.upd hD,c7,?_⟩⟩
  rw[G0,hz,p7,p7]
  rfl
 ·rintro xs σ' H' ⟨⟨v,rfl⟩,s6,h6,rfl⟩
  rw[o6 (by rw[b9];exact d6 _)]at h6
  exact q D H' s6 hD h6
def cb8 (st:Stmt):Pos:=match (V5 st).getD 0 (.Pass ⟨0,0,0,0⟩) with
 | .Assign _ (.Call _ [_,_,.Lambda _ _ _ p] _ _) _=>p
 | _=>⟨0,0,0,0⟩
def ax0 (st:Stmt):aK1 × Expr × Scope:=match (V5 st).getD 0 (.Pass ⟨0,0,0,0⟩) with
 | .Assign _ (.Call _ [_,_,.Lambda a b c _] _ _) _=>(a,b,c)
 | _=>({ posonlyargs:=[],args:=[],vararg:=none,kwonlyargs:=[],kw_defaults:=[],kwarg:=none,defaults:=[] },.Constant .none 0 ⟨0,0,0,0⟩,{ kind:=.function,names:=[],isGenerator:=false,isCoroutine:=false })
def bk9:Str:=(("shares":Str)++(".<locals>.":Str))++("<lambda>":Str)
abbrev Tb (P:Addr)(H:Hp):Prop:=Y7 P (cb8 ag9) bk9 H
theorem O5.sqL {K:W.Frag}{P:Addr}{po:Pos}{qu:Str}(g:O5 P H H')(t:Y7 P po qu H)(h:SqL K H a xs):SqL K H' a xs:=by
 obtain⟨ps,hP,_⟩:=t
 rcases h with(h | ⟨o,h⟩) | h
 ·exact .inl (.inl (g a _ (fun z=>by rw[z,hP]at h;cases h) h))
 ·exact .inl (.inr ⟨o,g a _ (fun z=>by rw[z,hP]at h;cases h) h⟩)
 ·exact .inr h
theorem O5.sqT {K:W.Frag}{P:Addr}{po:Pos}{qu:Str}(g:O5 P H H')(t:Y7 P po qu H)(h:SqT K H a xs):SqT K H' a xs:=by
 obtain⟨ps,hP,_⟩:=t
 rcases h with(h | ⟨o,h⟩) | h
 ·exact .inl (.inl (g a _ (fun z=>by rw[z,hP]at h;cases h) h))
 ·exact .inl (.inr ⟨o,g a _ (fun z=>by rw[z,hP]at h;cases h) h⟩)
 ·exact .inr h
theorem Sq.grow {K:W.Frag}{P:Addr}{po:Pos}{qu:Str}(h:Sq K H a ns)(g:O5 P H H')(t:Y7 P po qu H):Sq K H' a ns:=h.elim (fun h=>.inl (O5.sqL g t h)) fun h=>.inr (O5.sqT g t h)
theorem br0 (hl:∀ b o,l b=some o->H b=none):B3 H (al8 H l):=fun b u e=>by
 cases hb:l b with
 | some z=>rw[hl b z hb]at e;cases e
 | none=>rw[K8 hb];exact e
theorem bj2 (hl:∀ b o,l b=some o->H b=some (U0 b o))(s:B3 (aa4 H l) H'):B3 H (al8 H' l):=fun b u e=>by
 cases hb:l b with
 | some z=>rw[hl b z hb]at e;rw[ap7 hb];exact e
 | none=>rw[K8 hb];exact s b u (by rw[K9 hb];exact e)
theorem br1 {H2:Hp}(hl:∀ b o,l b=some o->H b=none)(s:B3 (al8 H l) H2):B3 H (aa4 H2 l):=fun b u e=>by
 cases hb:l b with
 | some z=>rw[hl b z hb]at e;cases e
 | none=>rw[K9 hb];exact s b u (by rw[K8 hb];exact e)
theorem SqL.rmv (h:SqL K H a (ns.map V.int))(hl:∀ b o,l b=some o->H b=some (U0 b o)):SqL K (aa4 H l) a (ns.map V.int):=by
 have go:∀ u,(∀ o,u≠U0 a o)->H a=some u->aa4 H l a=some u:=fun u hu q=>by rw[K9 (au3 hl q hu)];exact q
 rcases h with(h | ⟨o,h⟩) | h
 ·exact .inl (.inl (go _ (fun o z=>by unfold U0 at z;cases z) h))
 ·exact .inl (.inr ⟨o,go _ (fun o z=>by unfold U0 at z;cases z) h⟩)
 ·exact .inr h
end
end Web
namespace Web
open PySem L2
theorem bv4 {k1 k2 k3:Str}{c a1 a2 a3:Addr}(h:G2 x [(k1,a1),(k2,a2),(k3,a3)]=some c):(x=k1/\c=a1)\/(x=k2/\c=a2)\/(x=k3/\c=a3):=by
 by_cases z1:x=k1
 ·subst z1
  simp[G2]at h
  exact .inl ⟨rfl,h.symm⟩
 ·have e1:(x == k1)=false:=by simpa using z1
  by_cases z2:x=k2
  ·subst z2
   simp[G2,e1]at h
   exact .inr (.inl ⟨rfl,h.symm⟩)
  ·have e2:(x == k2)=false:=by simpa using z2
   by_cases z3:x=k3
   ·subst z3
    simp[G2,e1,e2]at h
    exact .inr (.inr ⟨rfl,h.symm⟩)
   ·have e3:(x == k3)=false:=by simpa using z3
    simp[G2,e1,e2,e3]at h
theorem cg6 {y k1 k2 k3:Str}{c a1 a2 a3:Addr}(n12:a1≠a2)(n13:a1≠a3)(n23:a2≠a3)(hx:G2 x [(k1,a1),(k2,a2),(k3,a3)]=some c)(hy:G2 y [(k1,a1),(k2,a2),(k3,a3)]=some c):x=y:=by
 rcases bv4 hx with⟨rfl,e⟩ | ⟨rfl,e⟩ | ⟨rfl,e⟩<;>rcases bv4 hy with⟨h,e'⟩ | ⟨h,e'⟩ | ⟨h,e'⟩
 all_goals first | exact h.symm | exact absurd (e.symm.trans e') n12 | exact absurd (e.symm.trans e') n13 | exact absurd (e.symm.trans e') n23 | exact absurd (e'.symm.trans e) n12 | exact absurd (e'.symm.trans e) n13 | exact absurd (e'.symm.trans e) n23
theorem lk1 {k1 k2 k3:Str}{a1 a2 a3:Addr}:G2 k1 [(k1,a1),(k2,a2),(k3,a3)]=some a1:=by simp[G2]
theorem lk2 {k1 k2 k3:Str}{a1 a2 a3:Addr}(h:(k2 == k1)=false):G2 k2 [(k1,a1),(k2,a2),(k3,a3)]=some a2:=by simp[G2,h]
theorem lk3 {k1 k2 k3:Str}{a1 a2 a3:Addr}(h:(k3 == k1)=false)(h':(k3 == k2)=false):G2 k3 [(k1,a1),(k2,a2),(k3,a3)]=some a3:=by simp[G2,h,h']
theorem bg8 {M L:Int}:∀ {ns:List Int},(∀ x∈ns,x<=L)->(ns.map (abv M L)).sum=0
 | [],_=>rfl
 | c::ns,h=>by
  rw[x8,O8,bg8 fun x hx=>h x (i8 _ hx)]
  have:=h c m7
  unfold abv
  rw[if_pos (by omega)]
  rfl
def mpN (M L:Int)(ns:List Int)(i:Nat):List Int:=((C5 i).filter fun j=>decide (abv M L (ns.getD j 0)<abv M (L - 1) (ns.getD j 0))).map fun j:Nat=>(j:Int)
theorem aU1 (M L:Int)(ns:List Int)(i:Nat):mpN M L ns (i+1)=mpN M L ns i++(if abv M L (ns.getD i 0)<abv M (L - 1) (ns.getD i 0) then [(i:Int)] else []):=by
 unfold mpN
 rw[T4,bL8,p7]
 congr 1
 by_cases h:abv M L (ns.getD i 0)<abv M (L - 1) (ns.getD i 0)
 ·rw[if_pos h,bX3,if_pos (decide_eq_true h)];rfl
 ·rw[if_neg h,bX3,if_neg (by rw[decide_eq_false h];decide)];rfl
theorem bF4 (M L:Int)(ns:List Int):mpN M L ns ns.length=ai8 M L ns:=by
 unfold mpN ai8 rng
 rw[List.filter_map,<- bA2]
 congr 1
theorem bF3 (M L:Int)(ns:List Int)(i:Nat):(mpN M L ns i).length<=i:=by
 unfold mpN
 rw[b9]
 have:=bz5 (fun j=>decide (abv M L (ns.getD j 0)<abv M (L - 1) (ns.getD j 0))) (C5 i)
 rw[B0]at this
 exact this
theorem aD4 {M L:Int}(h:j<ns.length):(ns.map (abv M L)).getD j 0=abv M L (ns.getD j 0):=by
 rw[j8,j8,E2,i6 h]
 rfl
theorem ae0 {f:Nat->Int}(h:j<n):((C5 n).map f).getD j 0=f j:=by
 rw[j8,E2,ax7 h]
 rfl
theorem cd7 {K:W.Frag}{Q:VK}(h:SqL K H a (ns.map V.int))(hj:j<ns.length)(q:Q (.int (ns.getD j 0)) H):rIx K (.ref a) (.int j) H Q:=.inl ⟨a,_,_,_,rfl,rfl,h,V7 hj,q⟩
theorem aI4 {PT l:Addr}{po:Pos}{qu:Str}(g:O5 PT H H')(t:Y7 PT po qu H')(h:H' l=none):H l=none:=by
 cases e:H l with
 | none=>rfl
 | some o =>
  by_cases z:l=PT
  ·obtain⟨ps,hP,_⟩:=t
   rw[z,hP]at h
   cases h
  ·rw[g l o z e]at h
   cases h
seal L2.PE L2.PA L2.PS L2.PSs L2.PT
section
variable {K:W.Frag} {mg:Str->Option Value} {base:Heap}
def bp9 (K:W.Frag)(PT:Addr):Sp:=fun vs H Q _=>∃ (na:Addr) (ns:List Int) (a:Int) (M:Nat),vs=[.ref na,.int a,.int M]/\SqL K H na (ns.map V.int)/\ns.length<=24/\1<=M/\AllP ns/\0<=a/\Tb PT H /\
 ∀ (l:Addr) (xs:List Int) (L:Int) (H':Hp),O5 PT H H'->Tb PT H'->Lvl M ns a L->xs.length=ns.length->(∀ j,j<ns.length->xs.getD j 0=shx M L ns (a - (ns.map (abv M L)).sum).toNat j)->H l=none->H' l=some (.lst (xs.map V.int))->Q (.ref l) H'
theorem aR8:B6 ["numbers","much","most","level","taken","deeper","one_more"] ["numbers","much","most"] (p9 ag9):=.mk'
set_option maxHeartbeats 4000000 in
theorem bS0 {fA fW c PT:Addr}{fdW:FuncData}(F:Fun K "shares" "shares" ag9 f fd)(hc:fd.code=.ref c)(LB:aW9 base mg c PT)(B:Bn mg)(FA:Fq K mg "above" br8 fA fdA ["numbers","level","most"])
  (FW:Fq K mg "least_where" aB0 fW fdW ["low","high","holds"]):A4 P w K mg base (CXE P w) 4 f fd ["numbers","much","most"] (bp9 K PT):=by
 have GA:A4 P w K mg base CX0 1 fA fdA ["numbers","level","most"] (bq6 K):=bS7 FA.F B
 have GA3:A4 P w K mg base CX0 3 fA fdA ["numbers","level","most"] (bq6 K):=GA.mono (by decide)
 have GW:A4 P w K mg base CX0 3 fW fdW ["low","high","holds"] (bd0 P w K mg base 2):=bt9 FW.F
 refine F.okXC hc aR8 (fun A outer s H vs Q E hr h=>?_)
 obtain⟨na,ns,a,M,rfl,hS,hn,hM,hp,ha,tb,q⟩:=h
 have hsl:=O3
 have hun:=hr.units
 have nd3:(["place","deeper","taken"]:List Str).Nodup:=by decide +kernel
 have nd4:(["place","many","one_more"]:List Str).Nodup:=by decide +kernel
 refine⟨_,d8 (y7 (i:=3) aR8.nd rfl (Or.inl rfl) (bt6 (js:=[(0,s.heap.objs.size+1),(1,s.heap.objs.size+2),(2,s.heap.objs.size+3)]) GW hr (by rfl) FW.m FW.F.kp FW.b (fun q hq=>by
    simp only[j6,ac0,or_false]at hq
    rcases hq with e | e | e
    ·rw[e];exact⟨R5 _ _,"numbers",rfl,rfl,rfl⟩
    ·rw[e];exact⟨R5 _ _,"much",rfl,rfl,rfl⟩
    ·rw[e];exact⟨R5 _ _,"most",rfl,rfl,rfl⟩) (b7 c9 (b7 (bE1 K rfl rfl (by rfl) B.max (b7 (pv 0) d3)) (b7 (bQ7 LB rfl (by rfl) (by rfl)) d3)))))
  (d8 (y7 (i:=4) aR8.nd rfl (Or.inr rfl) (F2 GA3 hr (by rfl) FA K3 (b7 (pv 0) (b7 (pv 3) (b7 (pv 2) d3)))))
  (d8 (y7 (i:=5) aR8.nd rfl (Or.inr rfl) (F2 GA3 hr (by rfl) FA K3 (b7 (pv 0) (b7 (m8 P8 (pv 3) c9) (b7 (pv 2) d3)))))
  (d8 (y7 (i:=6) aR8.nd rfl (Or.inr rfl) (R3 Z2 (X3 (N':=["place","deeper","taken"]) (lk:=[none,some 5,some 4]) rfl (aa2 rfl B.range (b7 (p0 y9 (by rfl) B.len PySem.boot_len (b7 (pv 0) d3)) d3)) (by rfl) rfl (by decide +kernel) (by exact⟨rfl,rfl,trivial⟩) (by rfl) (by exact LkL.ok ⟨⟨rfl,Or.inl rfl,rfl,Or.inl rfl⟩,⟨rfl,Or.inl rfl,rfl,Or.inl rfl⟩,trivial⟩)
    (fun _ _ _=>B4 (i:=0) nd3 rfl (Or.inl rfl)) (fun _ _ _=>ay7 (x6 aT4 (ay9 K rfl (pv 1) (pv 0) (fun _ _=>rfl)) (ay9 K rfl (pv 2) (pv 0) (fun _ _=>rfl)) (B1 _))) (fun _ _ _=>pv 0)) X2 (T5 (m8 P8 (pv 1) (p0 (X8 rfl) (by rfl) B.sum (by rfl) (b7 (pv 4) d3))))))
  (k8 (B8 (X3 (N':=["place","many","one_more"]) (lk:=[none,none,some 6]) rfl (bs8 (be4 (by rfl) B.enum (b7 (pv 4) d3)) (aT0 (by rfl) B.enum (b7 (pv 4) d3))) (by rfl) rfl (by decide +kernel) (by exact⟨rfl,trivial⟩) (by rfl) (by exact LkL.ok ⟨⟨rfl,Or.inl rfl,rfl,Or.inl rfl⟩,trivial⟩)
    (fun _ _ _=>ay8 (n:=2) K rfl rfl (F7 (B4 (i:=0) nd4 rfl (Or.inl rfl)) (F7 (B4 (i:=1) nd4 rfl (Or.inl rfl)) Z5))) (fun _ _ _=>ac2) (fun _ _ _=>bt3 (x6 (bE4 K hr.around rfl rfl) (pv 0) (pv 2) (by rfl)) (m8 G3 (pv 1) c9) (pv 1)))))))),?_⟩
 refine⟨_,rfl,na,ns,rfl,hS,hp,fun hi h0 hmx=>⟨tb,fun fl c' ctv H2 g2 tb2 hfn hfo hco l hl hjv=>?_⟩⟩
 obtain⟨o1,u1,hl1,hd1,ru1⟩:=hjv _ m7 (.ref na) rfl
 obtain⟨o2,u2,hl2,hd2,ru2⟩:=hjv _ (i8 _ m7) (.int a) rfl
 obtain⟨o3,u3,hl3,hd3,ru3⟩:=hjv _ (i8 _ (i8 _ m7)) (.int (M:Int)) rfl
 have hS2:=O5.sqL g2 tb hS
 have st:=br0 hl
 have n1:(("much":Str) == ("numbers":Str))=false:=by decide +kernel
 have n2:(("most":Str) == ("numbers":Str))=false:=by decide +kernel
 have n3:(("most":Str) == ("much":Str))=false:=by decide +kernel
 refine⟨0,hi,fl,PySem.W.kla_obj "<lambda>" bk9 (ax0 ag9).1 (ax0 ag9).2.1 (ax0 ag9).2.2 [("numbers",s.heap.objs.size+1),("much",s.heap.objs.size+2),("most",s.heap.objs.size+3)] ((mg "__name__").getD .none) c' ctv,PySem.W.kla_fn "<lambda>" bk9 (ax0 ag9).1 (ax0 ag9).2.1 (ax0 ag9).2.2 [("numbers",s.heap.objs.size+1),("much",s.heap.objs.size+2),("most",s.heap.objs.size+3)] ((mg "__name__").getD .none) (.ref c') ctv,"tried",?sp,?J,?p,rfl,h0,rfl,?F,?b,?h3,?h4,?h5,?h6⟩
 case F =>
  refine bS8 (k:=1) (p:="tried") (qual:=bk9) (params:=(ax0 ag9).1) (body:=(ax0 ag9).2.1) (scope:=(ax0 ag9).2.2) (cl:=[("numbers",s.heap.objs.size+1),("much",s.heap.objs.size+2),("most",s.heap.objs.size+3)]) (f:=fl) (c':=c') (l:=l) (cvs:=[some (.int (M:Int)),some (.int a),some (.ref na)]) (N':=["most","much","numbers"]) rfl rfl rfl (by rfl) rfl ?_ ?_ rfl ?_ (fun A' outer' s' H' hr'=>X4 U4 (p0 (bm9 K rfl rfl) (by rfl) B.sum (by rfl) (b7 (az0 GA hr' (by rfl) FA.m FA.F.kp FA.b .nil K3 (b7 (pv 3) (b7 (pv 0) (b7 (pv 1) d3)))) d3)) (pv 2) (by rfl))
  ·intro x y c hx hy
   exact cg6 (show (s.heap.objs.size+1:Nat)≠s.heap.objs.size+2 by omega) (show (s.heap.objs.size+1:Nat)≠s.heap.objs.size+3 by omega) (show (s.heap.objs.size+2:Nat)≠s.heap.objs.size+3 by omega) hx hy
  ·intro x c hx
   rcases bv4 hx with⟨_,e⟩ | ⟨_,e⟩ | ⟨_,e⟩
   ·rw[e];exact⟨o1,_,hl1,hd1⟩
   ·rw[e];exact⟨o2,_,hl2,hd2⟩
   ·rw[e];exact⟨o3,_,hl3,hd3⟩
  ·intro i x v e1 e2
   match i,e1,e2 with
   | 0,e1,e2 =>
    have e1':("most":Str)=x:=Option.some.inj e1
    have e2':V.int (M:Int)=v:=Option.some.inj (Option.some.inj e2)
    subst e1' e2'
    exact⟨rfl,_,o3,u3,lk3 n2 n3,hl3,hd3,ru3⟩
   | 1,e1,e2 =>
    have e1':("much":Str)=x:=Option.some.inj e1
    have e2':V.int a=v:=Option.some.inj (Option.some.inj e2)
    subst e1' e2'
    exact⟨rfl,_,o2,u2,lk2 n1,hl2,hd2,ru2⟩
   | 2,e1,e2 =>
    have e1':("numbers":Str)=x:=Option.some.inj e1
    have e2':V.ref na=v:=Option.some.inj (Option.some.inj e2)
    subst e1' e2'
    exact⟨rfl,_,o1,u1,lk1,hl1,hd1,ru1⟩
   | i+3,e1,e2=>cases e1
 case b=>exact .all fun us hl=>match us,hl with | [_],_=>rfl
 case J=>exact fun Hx=>Hx fl=some (U0 fl (PySem.W.kla_obj "<lambda>" bk9 (ax0 ag9).1 (ax0 ag9).2.1 (ax0 ag9).2.2 [("numbers",s.heap.objs.size+1),("much",s.heap.objs.size+2),("most",s.heap.objs.size+3)] ((mg "__name__").getD .none) c' ctv))/\Hx c'=some (aJ6 c' bk9)/\(∀ b o,l b=some o->Hx b=some (U0 b o))/\SqL K Hx na (ns.map V.int)
 case p=>exact fun t=>decide ((ns.map (abv M t)).sum<=a)
 case h3=>exact fun Hx h=>h.1
 case h4 =>
  rintro Hx m Qx ⟨j1,j2,j3,j4⟩ hm1 hm2 hq
  refine⟨.int m,rfl,j1,j2,j3,?_⟩
  refine⟨_,rfl,_,rfl,_,rfl,na,ns,m,M,rfl,SqL.rmv j4 j3,by omega,by omega,fun l8 H8 s8 f8 g8=>⟨l8,_,rfl,SqL.of g8,_,rfl,_,_,rfl,rfl,fun hfr=>?_⟩⟩
  have sb:=bj2 j3 s8
  exact hq _ sb ⟨sb _ _ j1,sb _ _ j2,fun b o e=>ap7 e,sb.seq j4⟩
 case h5=>exact⟨st _ _ hfo,st _ _ hco,fun b o e=>ap7 e,st.seq hS2⟩
 case h6 =>
  rintro L H' hr1 hr2 hp1 hp2 ⟨j1,j2,j3,j4⟩ s'
  have so:=br1 hl s'
  refine⟨j3,?_⟩
  have hlv:Lvl M ns a L:=by
   refine⟨hr1,?_,fun h=>?_⟩
   ·rcases Int.lt_or_le L hi with z | z
    ·exact of_decide_eq_true (hp1 z)
    ·rw[bg8 fun x hx=>W9 (hmx x hx) z]
     exact ha
   ·have:=of_decide_eq_false (hp2 h)
    omega
  have g3:O5 PT H (aa4 H' l):=g2.trans (so.grow PT)
  have tb3:=tb2.same so
  have hS3:=so.seq hS2
  generalize aa4 H' l=H3 at g3 tb3 hS3 ⊢
  refine⟨_,rfl,_,rfl,_,rfl,na,ns,L,M,rfl,hS3,by omega,by omega,fun lt H4 s4 f4 g4=>?_⟩
  refine⟨_,rfl,_,rfl,_,_,rfl,rfl,_,rfl,na,ns,L - 1,M,rfl,s4.seq hS3,by omega,by omega,fun ld H5 s5 f5 g5=>?_⟩
  have g45:=s5 _ _ g4
  have hS5:=(s4.trans s5).seq hS3
  have hle:=hlv.le
  obtain⟨k,hk⟩:∃ k:Nat,a - (ns.map (abv M L)).sum=(k:Int):=⟨(a - (ns.map (abv M L)).sum).toNat,by omega⟩
  refine⟨_,rfl,na,_,rfl,.inl hS5,(ns.length:Int),congrArg (fun z:Nat=>[V.int (z:Int)]) (b9 ..),by omega,by omega,fun D hD=>?_⟩
  rw[u6]
  refine ba9 (lo:=0) (n:=ns.length) (D:=D) (fun i xs σ' H'=>(∃ v,σ'=[v,some (.ref ld),some (.ref lt)])/\B3 H5 H'/\H' D=some (.lst xs)/\xs=(mpN M L ns i).map V.int) ⟨⟨none,rfl⟩,d4 hD,c7,rfl⟩ (by omega)
   (fun i xs σ' H' hi ⟨_,s6,h6,e6⟩=>⟨h6,by rw[e6,b9];exact bF3 M L ns i⟩) ?_ ?_
  ·rintro i xs σ' H' N kN hi ⟨⟨v,rfl⟩,s6,h6,rfl⟩
   have e0:((0:Int)+(i:Int))=(i:Int):=by omega
   rw[e0]
   refine F0 ?_
   refine⟨_,rfl,_,rfl,cd7 (SqL.of (s6 _ _ g5)) (by rw[b9];exact hi) ⟨_,rfl,_,rfl,cd7 (SqL.of (s6 _ _ g45)) (by rw[b9];exact hi) ⟨_,_,rfl,rfl,_,rfl,?_⟩⟩⟩
   rw[aD4 hi,aD4 hi]
   by_cases hm:abv M L (ns.getD i 0)<abv M (L - 1) (ns.getD i 0)
   ·rw[decide_eq_true hm]
    refine J4 ⟨_,rfl,h6,kN _ _ _ ⟨⟨_,rfl⟩,s6.upd hD,c7,?_⟩⟩
    rw[aU1,if_pos hm,p7]
    rfl
   ·rw[decide_eq_false hm]
    refine J2 (kN _ _ _ ⟨⟨_,rfl⟩,s6,h6,?_⟩)
    rw[aU1,if_neg hm,N6]
  ·rintro xs σ' H6 ⟨⟨v,rfl⟩,s6,h6,rfl⟩
   rw[bF4]at h6
   refine⟨_,rfl,_,rfl,lt,_,rfl,SqL.of (s6 _ _ g45),_,_,rfl,rfl,_,rfl,D,_,rfl,SqL.of h6,fun lo flo=>?_⟩
   rw[hk,ac6]
   have s7:=d4 (o:=.lst (((ai8 M L ns).take k).map V.int)) flo
   have g7:(upd H6 lo (.lst (((ai8 M L ns).take k).map V.int))) lo=some (.lst ((aM7 M L ns k).map V.int)):=c7
   have s57:=s6.trans s7
   generalize upd H6 lo (.lst (((ai8 M L ns).take k).map V.int))=H7 at s57 g7 ⊢
   have g47:=s57 _ _ g45
   refine Or.imp (fun h=>⟨_,rfl,h⟩) (fun h=>⟨_,rfl,h⟩) (aE1 (K:=K) (a:=lt) (ys:=(ns.map (abv M L)).map V.int) (.inl (SqL.of g47)) (by rw[b9,b9];omega)
    (fun D i xs σ' H'=>(∃ v u,σ'=[v,u,some (.ref lo)])/\B3 H7 H'/\H' D=some (.lst xs)/\xs=((C5 i).map (shx M L ns k)).map V.int) (fun D hD=>⟨⟨none,none,rfl⟩,d4 hD,c7,rfl⟩)
    (fun D i xs σ' H' hD hi ⟨_,s1,h1,e1⟩=>⟨s1,h1,by rw[e1,b9,b9,B0];exact d6 _⟩) ?_ ?_)
   ·rintro D8 i xs x t σ' H' N hD8 kN hx ⟨⟨v,u,rfl⟩,s1,h1,rfl⟩ ht'
    obtain⟨z,hz,rfl⟩:=Z6 hx
    have s2:=d4 (o:=.tup [.int i,.int z]) ht'
    have hi:i<ns.length:=by
     rcases F8 i ns.length with h | h
     ·exact h
     ·rw[C3 (by rw[b9];exact h)]at hz;cases hz
    have ez:z=abv M L (ns.getD i 0):=by
     rw[<- aD4 hi,j8,hz]
     rfl
    refine⟨t,_,rfl,SqT.of c7,rfl,_,_,rfl,_,_,rfl,rfl,X6 ?_⟩
    refine⟨_,rfl,_,rfl,aV4 hun (SqL.of ((s1.trans s2) _ _ g7)) ⟨_,rfl,?_⟩⟩
    have ex:((C5 (i+1)).map (shx M L ns k)).map V.int=((C5 i).map (shx M L ns k)).map V.int++[V.int (shx M L ns k i)]:=by
     rw[T4,p7,p7]
     rfl
    by_cases hm:(i:Int)∈aM7 M L ns k
    ·rw[decide_eq_true hm]
     refine J4 ⟨_,rfl,_,_,rfl,rfl,s2 _ _ h1,kN _ _ _ ⟨⟨_,_,rfl⟩,(s1.trans s2).upd hD8,c7,?_⟩⟩
     rw[ex]
     unfold shx
     rw[if_pos hm,ez]
    ·rw[decide_eq_false hm]
     refine J2 ⟨_,rfl,s2 _ _ h1,kN _ _ _ ⟨⟨_,_,rfl⟩,(s1.trans s2).upd hD8,c7,?_⟩⟩
     rw[ex]
     unfold shx
     rw[if_neg hm,ez,aP4]
   ·rintro D8 xs σ' H8 hD8 ⟨⟨v,u,rfl⟩,s1,h1,rfl⟩
    rw[b9,b9]at h1
    have sE:=(s4.trans s5).trans (s57.trans s1)
    have sF:=(s4.trans s5).trans s57
    refine q D8 _ L H8 (g3.trans (sE.grow PT)) (tb3.same sE) hlv (by rw[b9,B0]) (fun j hj=>?_) (aI4 (g3.trans (sF.grow PT)) (tb3.same sF) hD8) h1
    rw[ae0 hj,hk,u6]
end
end Web
namespace Web
open PySem L2
theorem au1 {xs ys:List Int}(hl:xs.length=ys.length)(h:∀ j,j<ys.length->xs.getD j 0=ys.getD j 0):xs=ys:=by
 apply aa1
 intro j
 rcases F8 j ys.length with z | z
 ·have:=h j z
  rw[j8,j8,i6 z,i6 (show j<xs.length by omega)]at this
  rw[i6 z,i6 (show j<xs.length by omega)]
  exact congrArg some this
 ·rw[C3 z,C3 (by omega)]
theorem aH5 {p:Nat}:∀ (xs:List Int) (q:Nat) (x:Int),Y3 p q (xs++[x])=Y3 p q xs++(if 0<x then [[(p:Int),((q+xs.length:Nat):Int),x]] else [])
 | [],q,x=>by
  show (if 0<x then [(p:Int),(q:Int),x]::Y3 p (q+1) [] else Y3 p (q+1) [])=_
  by_cases c:0<x
  ·rw[if_pos c,if_pos c];rfl
  ·rw[if_neg c,if_neg c];rfl
 | y::xs,q,x=>by
  have ih:=aH5 (p:=p) xs (q+1) x
  rw[show q+1+xs.length=q+(y::xs).length by rw[m6];omega]at ih
  show (if 0<y then [(p:Int),(q:Int),y]::Y3 p (q+1) (xs++[x]) else Y3 p (q+1) (xs++[x]))=(if 0<y then [(p:Int),(q:Int),y]::Y3 p (q+1) xs else Y3 p (q+1) xs)++_
  rw[ih]
  by_cases c:0<y
  ·rw[if_pos c,if_pos c];rfl
  ·rw[if_neg c,if_neg c]
theorem aB8 {p:Nat}:∀ (xs:List Int) (q:Nat),(Y3 p q xs).length<=xs.length
 | [],_=>d6 _
 | x::xs,q=>by
  have:=aB8 (p:=p) xs (q+1)
  unfold Y3
  split
  ·rw[m6,m6];omega
  ·rw[m6];omega
theorem P9 {PT l:Addr}{po:Pos}{qu:Str}(g:O5 PT H H')(t:Y7 PT po qu H)(h:H l=some (.lst xs)):H' l=some (.lst xs):=by
 obtain⟨ps,hP,_⟩:=t
 exact g l _ (fun z=>by rw[z,hP]at h;cases h) h
theorem aj0 {PT l:Addr}{po:Pos}{qu:Str}(g:O5 PT H H')(t:Y7 PT po qu H)(h:H l=some (.tup xs)):H' l=some (.tup xs):=by
 obtain⟨ps,hP,_⟩:=t
 exact g l _ (fun z=>by rw[z,hP]at h;cases h) h
theorem ak9 {K:W.Frag}{PT:Addr}{po:Pos}{qu:Str}(g:O5 PT H H')(t:Y7 PT po qu H):∀ {zs:List V} {ks:List (List Int)},v9 K H zs ks->v9 K H' zs ks
 | _,_,.nil=>.nil
 | _,_,.cons ⟨a,e,h⟩ r=>.cons ⟨a,e,O5.sqT g t h⟩ (ak9 g t r)
structure ThW (K:W.Frag) (H:Hp) (b:Addr) (os:List Int) (M:Nat) (ks:List (List Int)):Prop where
 at_:∃ t zs,H b=some (.tup [.int os.length,.ref t])/\H t=some (.tup zs)/\v9 K H zs ks
 tr:∀ k∈ks,tri os.length M k
 pw:ks.Pairwise ar3
 ct:∀ i,i<os.length->ad0 ks i=os.getD i 0
 len:ks.length<=600
seal L2.PE L2.PA L2.PS L2.PSs L2.PT
section
variable {K:W.Frag} {mg:Str->Option Value} {base:Heap}
def bp7 (K:W.Frag)(PT:Addr):Sp:=fun vs H Q _=>∃ (a:Addr) (os:List Int) (M:Nat),vs=[.ref a,.int M]/\Sq K H a os/\X7 os/\1<=M/\aJ5 os M .free/\Tb PT H /\
 ∀ (r:Addr) (ks:List (List Int)) (H':Hp),O5 PT H H'->Tb PT H'->ThW K H' r os M ks->Q (.ref r) H'
theorem av4:B6 ["tally","most","triples","left","place","behind","laid"] ["tally","most"] (p9 br3):=.mk'
set_option maxHeartbeats 4000000 in
theorem bR7 {fS PT:Addr} {fdS:FuncData} (F:Fun K "thick_laid" "thick_laid" br3 f fd) (B:Bn mg) (FS:Fq K mg "shares" ag9 fS fdS ["numbers","much","most"]) (GS:A4 P w K mg base (CXE P w) 4 fS fdS ["numbers","much","most"] (bp9 K PT)):A4 P w K mg base CX0 5 f fd ["tally","most"] (bp7 K PT):=by
  refine F.ok av4 (fun cdv A outer s H vs Q E hr h=>?_)
  obtain⟨a,os,M,rfl,hS,ht,hM,hf,tb,q⟩:=h
  have hsl:=O3
  have t2:=ht.2
  have nd3:(["other","many","place"]:List Str).Nodup:=by decide +kernel
  have nd2:(["number","many"]:List Str).Nodup:=by decide +kernel
  refine⟨_,d8 (y7 (i:=2) av4.nd rfl (Or.inl rfl) (L8 d3))
    (d8 (y7 (i:=3) av4.nd rfl (Or.inl rfl) (L6 V6 (by rfl) B.list (by rfl) (b7 (pv 0) d3)))
    (d8 (T7 PassesOwn.never rfl (aa2 rfl B.range (b7 (p0 y9 (by rfl) B.len PySem.boot_len (b7 (pv 0) d3)) d3)) (B4 (i:=4) av4.nd rfl (Or.inr rfl))
      (d8 (y7 (i:=5) av4.nd rfl (Or.inl rfl) (R3 Z2 (pv 3) (T5 c9) X2))
      (d8 (y7 (i:=6) av4.nd rfl (Or.inl rfl) (F2 GS hr (by rfl) FS (aH7 (P:=P) (w:=w)) (b7 (pv 5) (b7 (C1 G8 (pv 3) c9 (fun _ _=>rfl)) (b7 (pv 1) d3)))))
      (d8 (bQ4 (i:=2) av4.nd rfl (Or.inl rfl) (X3 (N':=["other","many","place"]) (lk:=[none,none,some 4]) rfl (bs9 (by rfl) B.enum (b7 (pv 6) d3) (m8 G3 (pv 4) c9)) (by rfl) rfl (by decide +kernel) (by exact⟨rfl,trivial⟩) (by rfl) (by exact LkL.ok ⟨⟨rfl,Or.inl rfl,rfl,Or.inl rfl⟩,trivial⟩)
          (fun _ _ _=>ay8 (n:=2) K rfl rfl (F7 (B4 (i:=0) nd3 rfl (Or.inl rfl)) (F7 (B4 (i:=1) nd3 rfl (Or.inl rfl)) Z5))) (fun _ _ _=>ay7 (x6 aT4 (pv 1) c9 (B1 _))) (fun _ _ _=>F5 (b7 (pv 2) (b7 (pv 0) (b7 (pv 1) d3))))) bT9)
      (k8 (bD8 (i:=3) av4.nd rfl rfl (by rfl) (N':=["number","many"]) (lk:=[none,none]) rfl (bD9 (by rfl) B.zip (b7 (pv 5) (b7 (pv 6) d3))) (by rfl) rfl (by decide +kernel) (by exact trivial) (by rfl) (by exact LkL.ok trivial)
          (fun _ _ _=>ay8 (n:=2) K rfl rfl (F7 (B4 (i:=0) nd2 rfl (Or.inl rfl)) (F7 (B4 (i:=1) nd2 rfl (Or.inl rfl)) Z5))) (fun _ _ _=>ac2) (fun _ _ _=>m8 P8 (pv 0) (pv 1))))))))
    (k8 (B8 (F5 (b7 (p0 y9 (by rfl) B.len PySem.boot_len (b7 (pv 0) d3)) (b7 (L6 O0 (by rfl) B.tuple (by rfl) (b7 (pv 2) d3)) d3))))))),?_⟩
  refine⟨(by show 0<=d7;omega),fun lz fz=>?_⟩
  have sz:=d4 (o:=.lst []) fz
  refine⟨_,rfl,a,_,rfl,hS.same sz,fun l0 f0=>?_⟩
  have s0:=d4 (o:=.lst (os.map V.int)) f0
  have n0:l0≠lz:=(t8 c7 f0).symm
  have gz0:(upd (upd H lz (.lst [])) l0 (.lst (os.map V.int))) lz=some (.lst []):=s0 _ _ c7
  have gl0:(upd (upd H lz (.lst [])) l0 (.lst (os.map V.int))) l0=some (.lst (os.map V.int)):=c7
  have sz0:=sz.trans s0
  generalize upd (upd H lz (.lst [])) l0 (.lst (os.map V.int))=H0 at gz0 gl0 sz0 ⊢
  refine⟨_,rfl,a,_,rfl,hS.same sz0,(os.length:Int),congrArg (fun z:Nat=>[V.int (z:Int)]) (b9 ..),by omega,by omega,?_⟩
  rw[u6]
  refine W8 (lo:=0) (n:=os.length) (fun p σ Ha=>∃ (ks:List (List Int)) (left:List Int) (zs:List V) (la:Addr) (e4 e5 e6:Option V),σ=[some (.ref a),some (.int M),some (.ref lz),some (.ref la),e4,e5,e6]/\Ha lz=some (.lst zs)/\v9 K Ha zs ks/\Ha la=some (.lst (left.map V.int))/\la≠lz /\
      Lay os.length M p os ks left/\ks.length<=24*p/\O5 PT H Ha/\Tb PT Ha)
    ⟨[],os,[],l0,none,none,none,rfl,gz0,.nil,gl0,n0,bk7 hf,v8 _,sz0.grow PT,tb.same sz0⟩ ?_ ?_
  · rintro p σ Ha hp ⟨ks,left,zs,la,e4,e5,e6,rfl,gz,tz,gl,nl,hL,hkl,gr,tba⟩
    have e0:((0:Int)+(p:Int))=(p:Int):=by omega
    rw[e0]
    have hlen:=hL.len
    obtain⟨a0,ns,rfl⟩:∃ a0 ns,left=a0::ns:=by
      cases left with
      | nil=>simp at hlen;omega
      | cons x xs=>exact⟨x,xs,rfl⟩
    rw[m6]at hlen
    have hpos:=hL.pos
    have hpn:AllP ns:=fun j x hj=>hpos (j+1) x (by rw[bo0];exact hj)
    have ha0:0<=a0:=hpos 0 a0 rfl
    refine F0 ?_
    refine⟨_,rfl,_,rfl,la,_,rfl,SqL.of gl,fun lb fb=>?_⟩
    have ecut:S5 ((a0::ns).map V.int) (some 1) none=ns.map V.int:=by
      have:=ac9 (a0::ns) 1
      simpa using this
    rw[ecut]
    have sb:=d4 (o:=.lst (ns.map V.int)) fb
    have gb:(upd Ha lb (.lst (ns.map V.int))) lb=some (.lst (ns.map V.int)):=c7
    have glb:=sb _ _ gl
    have gzb:=sb _ _ gz
    have tzb:=sb.tups tz
    have tbb:=tba.same sb
    have grb:=gr.trans (sb.grow PT)
    have nb:lb≠lz:=(t8 gz fb).symm
    generalize upd Ha lb (.lst (ns.map V.int))=Hb at gb glb gzb tzb tbb grb ⊢
    have at0:atI ((a0::ns).map V.int) 0=some (.int a0):=A1 (j:=0) rfl
    refine⟨_,rfl,_,rfl,la,_,_,_,rfl,rfl,SqL.of glb,at0,_,rfl,lb,ns,a0,M,rfl,SqL.of gb,by omega,hM,hpn,ha0,tbb,fun lx xs L Hc gc tbc hlv hxl hxj fx gx=>?_⟩
    have gzc:=P9 gc tbb gzb
    have gbc:=P9 gc tbb gb
    have tzc:=ak9 gc tbb tzb
    have grc:=grb.trans gc
    refine⟨_,rfl,_,rfl,_,rfl,_,_,rfl,rfl,lx,p+1,rfl,by simp,by omega,⟨_,SqL.of gx⟩,fun D hD=>?_⟩
    refine bb0 (K:=K) (a:=lx) (D:=D) (k0:=p+1) (ys:=xs.map V.int) (fun i us σ' H'=>(∃ v u,σ'=[v,u,some (.int p)])/\B3 Hc H'/\H' D=some (.lst us)/\v9 K H' us (Y3 p (p+1) (xs.take i)))
      ⟨⟨none, none, rfl⟩, d4 hD, c7, .nil⟩ (by rw [b9]; omega) (fun i us σ' H' hi ⟨_, s6, h6, t6⟩ => ⟨SqL.of (s6 _ _ gx), h6, by
        have h1:=t6.len
        have h2:=aB8 (p:=p) (xs.take i) (p+1)
        rw[u5]at h2
        omega⟩) ?_ ?_
    · rintro i us x t σ' H' N kN hx ⟨⟨v,u,rfl⟩,s6,h6,t6⟩ ht'
      obtain⟨z,hz,rfl⟩:=Z6 hx
      have s7:=d4 (o:=.tup [.int ((p+1+i:Nat):Int),.int z]) ht'
      have hi:i<xs.length:=by
        rcases F8 i xs.length with h | h
        · exact h
        · rw[C3 h]at hz;cases hz
      have er:=aH5 (p:=p) (xs.take i) (p+1) z
      have et:xs.take (i+1)=xs.take i++[z]:=by rw[G0,hz];rfl
      rw[<- et,u5,aX7 (by omega)]at er
      refine⟨t,_,rfl,SqT.of c7,rfl,_,_,rfl,_,_,rfl,rfl,?_⟩
      refine⟨_,rfl,_,_,rfl,rfl,_,rfl,?_⟩
      by_cases hb:0<z
      · rw[decide_eq_true hb]
        refine J4 ⟨_,rfl,_,rfl,_,rfl,(by show 3<=d7;omega),fun t9 f9=>?_⟩
        have s9:=d4 (o:=.tup [.int (p:Int),.int ((p+1+i:Nat):Int),.int z]) f9
        have h6':=(s7.trans s9) _ _ h6
        refine⟨h6',kN _ _ _ ⟨⟨_,_,rfl⟩,(s6.trans (s7.trans s9)).upd hD,c7,?_⟩⟩
        rw[er,if_pos hb]
        refine v9.updL h6' (v9.append ((s7.trans s9).tups t6) (v9.one (SqT.of ?_)))
        exact c7
      · rw[decide_eq_false hb]
        refine J2 (kN _ _ _ ⟨⟨_,_,rfl⟩,s6.trans s7,s7 _ _ h6,?_⟩)
        rw[er,if_neg hb,N6]
        exact s7.tups t6
    · rintro us σ' H5 ⟨⟨v,u,rfl⟩,s5,h5,t5⟩
      rw[o6 (by rw[b9];exact d6 _)]at t5
      have gz5:=s5 _ _ gzc
      have hl5:=t5.len
      have hlz:=tzc.len
      have hr3:=aB8 (p:=p) xs (p+1)
      refine⟨lz,D,zs,us,rfl,rfl,gz5,h5,by omega,?_⟩
      have fzH:H lz=none:=fz
      have gu:O5 PT H (upd H5 lz (.lst (zs++us))):=by
        intro b o nb hb
        rw[p8 (t8 hb fzH)]
        exact(grc.trans (s5.grow PT)) b o nb hb
      have tb6:Tb PT (upd H5 lz (.lst (zs++us))):=by
        obtain⟨ps',hP,hx⟩:=tbc.same s5
        refine⟨ps',?_,hx.1,hx.2.imp id fun⟨c',e,h⟩=>⟨c',e,by rw[p8 (fun z=>by rw[z,gz5]at h;cases h)];exact h⟩⟩
        rw[p8 (fun z=>by rw[z,gz5]at hP;cases hP)]
        exact hP
      have nx:lx≠lz:=(t8 gzb fx).symm
      have gz6:(upd H5 lz (.lst (zs++us))) lz=some (.lst (zs++us)):=c7
      have t6:v9 K (upd H5 lz (.lst (zs++us))) (zs++us) (ks++Y3 p (p+1) xs):=v9.updL gz5 (v9.append (s5.tups tzc) t5)
      have gb6:(upd H5 lz (.lst (zs++us))) lb=some (.lst (ns.map V.int)):=by rw[p8 nb];exact s5 _ _ gbc
      have gx6:(upd H5 lz (.lst (zs++us))) lx=some (.lst (xs.map V.int)):=by rw[p8 nx];exact s5 _ _ gx
      generalize upd H5 lz (.lst (zs++us))=H6 at gu tb6 gz6 t6 gb6 gx6 ⊢
      refine⟨_,rfl,_,rfl,lb,lx,rfl,⟨_,SqL.of gb6⟩,⟨_,SqL.of gx6⟩,fun D7 hD7=>?_⟩
      refine bm5 (K:=K) (a:=lb) (b:=lx) (D:=D7) (ys:=ns.map V.int) (zs:=xs.map V.int) (by rw[b9,b9,hxl]) (fun i ds σ' H'=>(∃ v u,σ'=[v,u])/\B3 H6 H'/\H' D7=some (.lst ds)/\ds=((C5 i).map fun j=>ns.getD j 0 - xs.getD j 0).map V.int)
        ⟨⟨none,none,rfl⟩,d4 hD7,c7,rfl⟩ (by rw[b9];omega) (fun i ds σ' H' hi ⟨_,s8,h8,e8⟩=>⟨SqL.of (s8 _ _ gb6),SqL.of (s8 _ _ gx6),h8,by rw[e8,b9,b9,B0];exact d6 _⟩) ?_ ?_
      · rintro i ds x y t σ' H' N kN hx hy ⟨⟨v,u,rfl⟩,s8,h8,rfl⟩ ht'
        obtain⟨z1,hz1,rfl⟩:=Z6 hx
        obtain⟨z2,hz2,rfl⟩:=Z6 hy
        have s9:=d4 (o:=.tup [.int z1,.int z2]) ht'
        refine⟨t,_,rfl,SqT.of c7,rfl,_,_,rfl,_,_,rfl,rfl,X6 ?_⟩
        refine⟨_,rfl,_,rfl,_,_,rfl,rfl,s9 _ _ h8,kN _ _ _ ⟨⟨_,_,rfl⟩,(s8.trans s9).upd hD7,c7,?_⟩⟩
        rw[T4,p7,p7]
        show _=_++[V.int (ns.getD i 0 - xs.getD i 0)]
        rw[j8,j8,hz1,hz2]
        rfl
      · rintro ds σ' H8 ⟨⟨v,u,rfl⟩,s8,h8,rfl⟩
        rw[b9]at h8
        have hdl:((C5 ns.length).map fun j=>ns.getD j 0 - xs.getD j 0).length=ns.length:=by rw[b9,B0]
        have hL':=bv6 hM hL hlv hxl hxj hdl fun j hj=>ae0 hj
        refine⟨ks++Y3 p (p+1) xs,_,zs++us,D7,_,_,_,rfl,s8 _ _ gz6,s8.tups t6,h8,(t8 gz6 hD7).symm,hL',?_,gu.trans (s8.grow PT),tb6.same s8⟩
        · rw[m5]
          omega
  · rintro σ Ha ⟨ks,left,zs,la,e4,e5,e6,rfl,gz,tz,gl,nl,hL,hkl,gr,tba⟩
    obtain⟨e1,e2,e3⟩:=bG1 hL
    refine⟨_,rfl,a,_,rfl,hS.grow gr tb,_,rfl,lz,_,rfl,.inl ⟨SqL.of gz,fun t9 f9=>⟨(by show 2<=d7;decide),fun r9 f9'=>?_⟩⟩⟩
    rw[b9]
    have s9:=d4 (o:=.tup zs) f9
    have s10:=d4 (o:=.tup [.int (os.length:Int),.ref t9]) f9'
    have sE:=s9.trans s10
    refine q r9 ks _ (gr.trans (sE.grow PT)) (tba.same sE) ⟨⟨t9,zs,c7,s10 _ _ c7,sE.tups tz⟩,e1,e2,e3,by omega⟩
end
end Web
namespace Web
open PySem L2
def aG8 (K:W.Frag)(H:Hp)(r:Addr)(ns:List Int)(M:Nat):Prop:=
 (∃ (x:Wl) (b:Addr),x≠.free/\aJ5 ns M x/\H r=some (.tup [.str "wall",.ref b])/\H b=some (.tup (wlT x))) \/
 (aJ5 ns M .free/\∃ (b:Addr) (ks:List (List Int)),H r=some (.tup [.str "web",.ref b])/\ThW K H b ns M ks)
seal L2.PE L2.PA L2.PS L2.PSs L2.PT
section
variable {K:W.Frag} {mg:Str->Option Value} {base:Heap}
def isM (m:Int):Prop:=1<=m/\m<=1000000
def bd3 (K:W.Frag)(CB CN:Addr):Sp:=fun vs H Q E=>∃ (a:Addr) (ns:List Int) (m:Int),vs=[.ref a,.int m]/\Sq K H a ns/\(X7 ns->isM m->Q .non H)/\(X7 ns->¬ isM m->E (.ref CN) none H)/\(¬ X7 ns->E (.ref CB) none H)
theorem ca1:B6 ["tally","most"] ["tally","most"] (p9 bj5):=.mk'
theorem bS6 {CN:Addr}{tk tg:Tok}(F:Fun K "check_most" "check_most" bj5 f fd)(B:Bn mg)(FT:Fq K mg "check_tally" aS6 fT fdT ["tally"])
  (mM:mg "MOST_PLACES"=some (.int 24 tk))(mG:mg "GREATEST_MOST"=some (.int 1000000 tg))(mB:mg "BadTally"=some (.ref CB))(cB:ao9 K CB)(mN:mg "BadNumber"=some (.ref CN))(cN:ao9 K CN):A4 P w K mg base (CXE P w) 2 f fd ["tally","most"] (bd3 K CB CN):=by
 have GT:A4 P w K mg base (CXE P w) 1 fT fdT ["tally"] (aR2 K CB):=aM9 FT.F B mM mB cB
 refine F.okX ca1 (fun cdv A outer s H vs Q E hr h=>?_)
 obtain⟨a,ns,m,rfl,hS,h1,h2,h3⟩:=h
 refine⟨_,d8 (J6 (F2 GT hr (by rfl) FT aq8 (b7 (pv 0) d3)))
  (k8 (F1 (R0 (ai5 U4 U4 c9 (pv 1) (aq7 (v:=.int 1000000) (by rfl) mG ⟨tg,rfl⟩))) (k8 (aa6 (by rfl) mN cN)) A3)),?_⟩
 refine⟨_,rfl,a,ns,rfl,hS,fun ht=>?_,h3⟩
 refine⟨_,rfl,_,_,rfl,rfl,_,rfl,?_⟩
 by_cases hp:(1:Int)<=m
 ·rw[decide_eq_true hp]
  refine J4 ⟨_,_,rfl,rfl,_,rfl,?_⟩
  by_cases hp':m<=1000000
  ·rw[decide_eq_true hp']
   exact J2 (h1 ht ⟨hp,hp'⟩)
  ·rw[decide_eq_false hp']
   exact J4 (h2 ht fun z=>hp' z.2)
 ·rw[decide_eq_false hp]
  exact J2 ⟨_,rfl,J4 (h2 ht fun z=>hp z.1)⟩
def bp8 (K:W.Frag)(CB CN PT:Addr):Sp:=fun vs H Q E=>∃ (a:Addr) (ns:List Int) (m:Int),vs=[.ref a,.int m]/\Sq K H a ns/\(X7 ns->isM m->Tb PT H/\∀ (r:Addr) (H':Hp),O5 PT H H'->Tb PT H'->aG8 K H' r ns m.toNat->Q (.ref r) H')/\(X7 ns->¬ isM m->E (.ref CN) none H)/\(¬ X7 ns->E (.ref CB) none H)
theorem bK4:B6 ["tally","most","wall"] ["tally","most"] (p9 br4):=.mk'
theorem bR9 {fK fω fL CN PT:Addr}{fdK fdω fdL:FuncData}(F:Fun K "thick_answered" "thick_answered" br4 f fd)
  (FK:Fq K mg "check_most" bj5 fK fdK ["tally","most"])(GK:A4 P w K mg base (CXE P w) 5 fK fdK ["tally","most"] (bd3 K CB CN))
  (Fω:Fq K mg "wall_with" aB1 fω fdω ["tally","most"])(Gω:A4 P w K mg base (CXE P w) 5 fω fdω ["tally","most"] (aK7 K CB))
  (FL:Fq K mg "thick_laid" br3 fL fdL ["tally","most"])(GL:A4 P w K mg base CX0 5 fL fdL ["tally","most"] (bp7 K PT)):A4 P w K mg base (CXE P w) 6 f fd ["tally","most"] (bp8 K CB CN PT):=by
 refine F.okX bK4 (fun cdv A outer s H vs Q E hr h=>?_)
 obtain⟨a,ns,m,rfl,hS,h1,h2,h3⟩:=h
 refine⟨_,d8 (J6 (F2 GK hr (by rfl) FK aq8 (b7 (pv 0) (b7 (pv 1) d3))))
  (d8 (y7 (i:=2) bK4.nd rfl (Or.inl rfl) (F2 Gω hr (by rfl) Fω aq8 (b7 (pv 0) (b7 (pv 1) d3))))
  (d8 (F1 (x6 bE3 (pv 2) bt2 (B1 _)) (k8 (B8 (F5 (b7 N9 (b7 (pv 2) d3))))) A3)
  (k8 (B8 (F5 (b7 N9 (b7 (F2 GL hr (by rfl) FL K3 (b7 (pv 0) (b7 (pv 1) d3))) d3))))))),?_⟩
 refine⟨_,rfl,_,rfl,a,ns,m,rfl,hS,fun ht hm=>?_,h2,h3⟩
 obtain⟨tb,q⟩:=h1 ht hm
 obtain⟨M,rfl⟩:∃ M:Nat,m=(M:Int):=⟨m.toNat,by have:=hm.1;omega⟩
 have hm1:=hm.1
 have hm2:=hm.2
 rw[u6]at q
 refine⟨_,rfl,_,rfl,a,ns,M,rfl,hS,by omega,fun _ v x H1 s1 hx hv=>?_,fun h=>absurd ht h⟩
 refine⟨_,rfl,rfl,_,rfl,?_⟩
 rcases hv with⟨rfl,rfl⟩ | ⟨hne,b,rfl,gb⟩
 ·refine J2 ?_
  refine⟨_,rfl,_,rfl,a,ns,M,rfl,hS.same s1,ht,by omega,hx,tb.same s1,fun r ks H2 g2 tb2 hw=>⟨(by show 2<=d7;decide),fun p fp=>?_⟩⟩
  have sp:=d4 (o:=.tup [.str "web",.ref r]) fp
  obtain⟨⟨t,zs,k1,k2,k3⟩,w1,w2,w3,w4⟩:=hw
  exact q p _ (((s1.grow PT).trans g2).trans (sp.grow PT)) (tb2.same sp) (.inr ⟨hx,r,ks,c7,⟨⟨t,zs,sp _ _ k1,sp _ _ k2,sp.tups k3⟩,w1,w2,w3,w4⟩⟩)
 ·refine J4 ⟨_,rfl,(by show 2<=d7;decide),fun p fp=>?_⟩
  have sp:=d4 (o:=.tup [.str "wall",.ref b]) fp
  exact q p _ ((s1.trans sp).grow PT) (tb.same (s1.trans sp)) (.inl ⟨x,b,hne,hx,c7,sp _ _ gb⟩)
end
end Web
namespace Web
open PySem L2
theorem bG0 {a b:List Int}(ha:Up n a)(hb:Up n b)(hne:a≠b)(h:Tim.O4 b a=false):Tim.O4 a b=true:=by
 obtain⟨i,j,_,_,rfl⟩:=ha
 obtain⟨u,v,_,_,rfl⟩:=hb
 unfold Tim.O4 Tim.O4 at h ⊢
 by_cases e1:(u:Int)=i
 ·rw[if_pos e1]at h
  rw[if_pos e1.symm]
  by_cases e2:(v:Int)=j
  ·exact absurd (by rw[e1,e2]) hne
  ·rw[if_neg e2]at h
   rw[if_neg (Ne.symm e2)]
   have:=of_decide_eq_false h
   exact decide_eq_true (by omega)
 ·rw[if_neg e1]at h
  rw[if_neg (Ne.symm e1)]
  have:=of_decide_eq_false h
  exact decide_eq_true (by omega)
theorem bU9 (ups:∀ k∈ks,Up n k)(nd:ks.Nodup)(so:ks.Pairwise (fun a b=>Tim.O4 b a=false)):Asc ks:=by
 have h2:=U6.mp nd
 have h3:=so.and h2
 exact List.Pairwise.imp_of_mem (fun {a b} ha hb h=>bG0 (ups a ha) (ups b hb) h.2 h.1) h3
theorem aK5:∀ {ks:List (List Int)},(∀ k∈ks,Up n k)->ks.map up=ks
 | [],_=>rfl
 | k::ks,h=>by
  rw[x8,aK5 fun x hx=>h x (i8 _ hx)]
  rw[bY2 (h k m7)]
structure Tld (n:Nat) (ks:List (List Int)):Prop where
 ups:∀ k∈ks,Up n k
 nd:ks.Nodup
 srt:ks.Pairwise (fun a b=>Tim.O4 b a=false)
def GoodW (n:Int)(hs:List (List Int)):Prop:=∃ m:Nat,n=m/\1<=m/\m<=24/\(∀ k∈hs,as4 m k)/\(hs.map up).Nodup
def Wx (K:W.Frag)(H:Hp)(p:Addr)(z:Int)(ks:List (List Int)):Prop:=(∃ t zs,SqT K H p [.int z,.ref t]/\SqT K H t zs/\v9 K H zs ks)/\(∀ k∈ks,∃ a b,k=[a,b])/\ks.length<300
structure Tl (z:Int) (n:Nat) (ks:List (List Int)):Prop where
 z:z=n
 n1:1<=n
 n2:n<=24
 t:Tld n ks
theorem bO0 {z:Int}{hs:List (List Int)}(h:GoodW z hs)(pm:ks.Perm (hs.map up))(so:ks.Pairwise (fun a b=>Tim.O4 b a=false)):ks=hs↔∃ n:Nat,Tl z n hs:=by
 obtain⟨m,rfl,m1,m2,hE,hN⟩:=h
 constructor
 ·intro e
  subst e
  have hup:∀ k∈ks,Up m k:=fun k hk=>by
   obtain⟨k0,h0,rfl⟩:=E8.mp (pm.mem_iff.mp hk)
   exact(hE k0 h0).up
  exact⟨m,rfl,m1,m2,⟨hup,pm.nodup_iff.mpr hN,so⟩⟩
 ·rintro⟨n,e,_,_,T⟩
  have:n=m:=by omega
  subst this
  rw[aK5 T.ups]at pm
  exact aW8 (bU9 T.ups T.nd T.srt) pm so
theorem bB8 {z:Int}{hs:List (List Int)}(h:Tl z n hs):GoodW z hs:=⟨n,h.z,h.n1,h.n2,fun k hk=>(h.t.ups k hk).ends,by rw[aK5 h.t.ups];exact h.t.nd⟩
seal L2.PE L2.PA L2.PS L2.PSs L2.PT
section
variable {K:W.Frag} {mg:Str->Option Value} {base:Heap}
def bJ8 (K:W.Frag)(CW:Addr):Sp:=fun vs H Q E=>∃ (n:Nat) (a:Addr) (p q:Int),vs=[.int n,.ref a]/\SqT K H a (([p,q]:List Int).map V.int) /\
 (as4 n [p,q]->∀ t,H t=none->Q (.ref t) (upd H t (.tup ((up [p,q]).map V.int))))/\(¬ as4 n [p,q]->E (.ref CW) none H)
theorem bu7 {p:Int}(h:¬ (0<=p/\p<(n:Int))):(decide ((0:Int)<=p) && decide (p<(n:Int)))=false:=by
 rw[Bool.and_eq_false_iff]
 by_cases z:(0:Int)<=p
 ·exact .inr (decide_eq_false fun z'=>h ⟨z,z'⟩)
 ·exact .inl (decide_eq_false z)
theorem ar6 {p q:Int}:as4 n [p,q]↔(0<=p/\p<(n:Int))/\(0<=q/\q<(n:Int))/\p≠q:=by
 constructor
 ·rintro⟨i,j,h1,h2,h3,e⟩
  injection e with e1 e2
  injection e2 with e2 _
  subst e1 e2
  exact⟨⟨by omega,by omega⟩,⟨by omega,by omega⟩,by omega⟩
 ·rintro⟨⟨a,b⟩,⟨c,d⟩,e⟩
  exact⟨p.toNat,q.toNat,by omega,by omega,by omega,by congr 1;omega;congr 1;omega⟩
theorem bR3 {fI CW:Addr} {fdI:FuncData} (F:Fun K "turned_up" "turned_up" sUp f fd) (B:Bn mg) (FI:Fq K mg "is_place" bj4 fI fdI ["places","number"]) (mW:mg "BadWeb"=some (.ref CW)) (cW:ao9 K CW) :
  A4 P w K mg base (CXE P w) 2 f fd ["places","tie"] (bJ8 K CW):=by
 have GI:A4 P w K mg base CX0 1 fI fdI ["places","number"] bK3:=bS4 FI.F
 refine F.okX cf7 (fun cdv A outer s H vs Q E hr h=>?_)
 obtain⟨n,a,p,q,rfl,hS,h1,h2⟩:=h
 refine⟨_,d8 (F1 (PW.pt (ai4 (R0 (aa5 (az0 GI hr rfl FI.m FI.F.kp FI.b .nil K3 (b7 (pv 0) (b7 (C1 C8 (pv 1) c9 (fun _ _=>rfl)) d3)))))
    (an9 (R0 (aa5 (az0 GI hr rfl FI.m FI.F.kp FI.b .nil K3 (b7 (pv 0) (b7 (C1 C8 (pv 1) c9 (fun _ _=>rfl)) d3)))))))) (k8 (aa6 (by rfl) mW cW)) A3)
  (d8 (F1 (x6 P4 (C1 C8 (pv 1) c9 (fun _ _=>rfl)) (C1 C8 (pv 1) c9 (fun _ _=>rfl)) (B1 _)) (k8 (aa6 (by rfl) mW cW)) A3)
  (k8 (B8 (F5 (b7 (p0 (ae1 rfl) (by rfl) B.min (by rfl) (b7 (C1 C8 (pv 1) c9 (fun _ _ => rfl)) (b7 (C1 C8 (pv 1) c9 (fun _ _ => rfl)) d3)))
   (b7 (p0 (ae2 rfl) (by rfl) B.max (by rfl) (b7 (C1 C8 (pv 1) c9 (fun _ _=>rfl)) (b7 (C1 C8 (pv 1) c9 (fun _ _=>rfl)) d3))) d3)))))),?_⟩
 have a0:atI (([p,q]:List Int).map V.int) 0=some (.int p):=A1 (j:=0) rfl
 have a1:atI (([p,q]:List Int).map V.int) 1=some (.int q):=A1 (j:=1) rfl
 refine⟨_,rfl,_,rfl,a,_,_,_,rfl,rfl,hS,a0,_,_,rfl,?_⟩
 by_cases hp:0<=p/\p<(n:Int)
 ·rw[decide_eq_true hp.1,decide_eq_true hp.2]
  refine⟨_,rfl,J2 ?_⟩
  refine⟨_,rfl,_,rfl,a,_,_,_,rfl,rfl,hS,a1,_,_,rfl,?_⟩
  by_cases hq:0<=q/\q<(n:Int)
  ·rw[decide_eq_true hq.1,decide_eq_true hq.2]
   refine⟨_,rfl,J2 ?_⟩
   refine⟨_,rfl,a,_,_,_,rfl,rfl,hS,a0,_,rfl,a,_,_,_,rfl,rfl,hS,a1,rfl,_,rfl,?_⟩
   by_cases hpq:p=q
   ·rw[decide_eq_true (by rw[hpq])]
    exact J4 (h2 fun z=>(ar6.mp z).2.2 hpq)
   ·rw[decide_eq_false (show ¬ V.int p=V.int q by intro z;injection z;exact hpq ‹_›)]
    refine J2 ?_
    refine⟨_,rfl,a,_,_,_,rfl,rfl,hS,a0,_,rfl,a,_,_,_,rfl,rfl,hS,a1,_,_,rfl,?_⟩
    refine⟨_,rfl,a,_,_,_,rfl,rfl,hS,a0,_,rfl,a,_,_,_,rfl,rfl,hS,a1,_,_,rfl,(by show 2<=d7;decide),fun t ht=>?_⟩
    exact h1 (ar6.mpr ⟨hp,hq,hpq⟩) t ht
  ·rw[bu7 hq]
   exact⟨_,rfl,J4 (h2 fun z=>hq (ar6.mp z).2.1)⟩
 ·rw[bu7 hp]
  exact⟨_,rfl,J4 (J4 (h2 fun z=>hp (ar6.mp z).1))⟩
theorem bq9:B6 ["places","ties","ascending"] ["places","ties"] (p9 aS4):=.mk'
def aL0 (K:W.Frag)(CW:Addr):Sp:=fun vs H Q E=>∃ (n:Int) (a:Addr) (ys:List V) (hs:List (List Int)),vs=[.int n,.ref a]/\(SqL K H a ys\/SqT K H a ys)/\v9 K H ys hs/\(∀ k∈hs,∃ p q,k=[p,q])/\hs.length<300 /\
 (GoodW n hs->∀ (p t:Addr) (zs:List V) (ks:List (List Int)) (H':Hp),B3 H H'->H' p=some (.tup [.int n,.ref t])->H' t=some (.tup zs)->v9 K H' zs ks->ks.Perm (hs.map up)->ks.Pairwise (fun a b=>Tim.O4 b a=false)->Q (.ref p) H')/\(¬ GoodW n hs->∀ H',B3 H H'->E (.ref CW) none H')
theorem bu4 {fI fU CW:Addr} {fdI fdU:FuncData} {tk:Tok} (F:Fun K "made" "made" aS4 f fd) (B:Bn mg) (FI:Fq K mg "is_place" bj4 fI fdI ["places","number"])
  (FU:Fq K mg "turned_up" sUp fU fdU ["places","tie"]) (mM:mg "MOST_PLACES"=some (.int 24 tk)) (mW:mg "BadWeb"=some (.ref CW)) (cW:ao9 K CW) :
  A4 P w K mg base (CXE P w) 3 f fd ["places","ties"] (aL0 K CW):=by
 have GU:A4 P w K mg base (CXE P w) 2 fU fdU ["places","tie"] (bJ8 K CW):=bR3 FU.F B FI mW cW
 refine F.okX bq9 (fun cdv A outer s H vs Q E hr h=>?_)
 obtain⟨n,a,ys,hs,rfl,hS,hT,h2,hL,q,qE⟩:=h
 have hu8:=bW4 (W5 (by decide:8<=64) _) hr.units
 have hyl:=hT.len
 have nd2:(["tie","places"]:List Str).Nodup:=by decide +kernel
 refine⟨_,d8 (F1 (R0 (ai5 U4 U4 c9 (pv 0) (aq7 (v:=.int 24) rfl mM ⟨_,rfl⟩))) (k8 (aa6 (by rfl) mW cW)) A3)
   (d8 (y7 (i := 2) bq9.nd rfl (Or.inl rfl) (p0 aW5 (by rfl) B.sorted (by rfl) (b7
    (bt4 (E := E) rfl (N' := ["tie", "places"]) (lk := [none, some 0]) rfl (bs8 (Z4 (pv 1)) (ao1 (pv 1))) (by rfl) rfl (by decide +kernel) (by exact ⟨rfl, trivial⟩) (by rfl) (by exact LkL.ok ⟨⟨rfl, Or.inl rfl, rfl, Or.inl rfl⟩, trivial⟩)
     (fun _ _ _ _ _=>B4 (i:=0) nd2 rfl (Or.inl rfl)) (fun _ _ _ _ _=>ac2) (fun _ _ _ _ _ I3 f3=>F2 GU hr (by rfl) FU (cb0 I3 f3) (b7 (pv 1) (b7 (pv 0) d3)))) d3)))
   (d8 (F1 (x6 ag2 (p0 call_len_set (by rfl) B.len PySem.boot_len (b7 (L6 (bx7 rfl hu8) (by rfl) B.set (by rfl) (b7 (pv 2) d3)) d3)) (p0 y9 (by rfl) B.len PySem.boot_len (b7 (pv 2) d3)) (B1 _)) (k8 (aa6 (by rfl) mW cW)) A3)
   (k8 (B8 (F5 (b7 (pv 0) (b7 (L6 O0 (by rfl) B.tuple (by rfl) (b7 (pv 2) d3)) d3))))))),?_⟩
 refine⟨_,rfl,_,_,rfl,rfl,_,rfl,?_⟩
 by_cases n1:(1:Int)<=n
 ·rw[decide_eq_true n1]
  refine J4 ⟨_,_,rfl,rfl,_,rfl,?_⟩
  by_cases n2:n<=24
  ·rw[decide_eq_true n2]
   refine J2 ?_
   obtain⟨m,rfl⟩:∃ m:Nat,n=(m:Int):=⟨n.toNat,by omega⟩
   have m1:1<=m:=by omega
   have m2:m<=24:=by omega
   refine Or.imp (fun h=>⟨_,rfl,h⟩) (fun h=>⟨_,rfl,h⟩) (bm6 (K:=K) (a:=a) (ys:=ys) hS (by have:=O3;omega) (fun D i xs σ' H'=>∃ v,σ'=[v,some (.int m)]/\B3 H H'/\H' D=some (.lst xs)/\v9 K H' xs ((hs.take i).map up)/\∀ k∈hs.take i,as4 m k) (fun D hD=>⟨none,rfl,d4 hD,c7,.nil,(fun k hk=>by simp at hk)⟩)
    (fun D i xs σ' H' hD hi ⟨_,_,s1,h1,h2,_⟩=>⟨s1,h1,by have:=h2.len;simp at this;omega⟩) ?_ ?_)
   ·rintro D i xs x σ' H' N hD kN hx ⟨v,rfl,s1,hd,ht,hE⟩
    refine F0 ?_
    refine X6 ?_
    obtain⟨b,kk,rfl,hk,hq⟩:=hT.get hx
    obtain⟨p,pq,rfl⟩:=h2 kk (j0 hk)
    refine⟨_,rfl,_,rfl,m,b,p,pq,rfl,s1.seqT hq,fun hend t htn=>?_,fun hbad=>qE (fun⟨m',em,_,_,g,_⟩=>hbad ?_) _ s1⟩
    ·have npd:D≠t:=t8 hd htn
     have hd':(upd H' t (.tup ((up [p,pq]).map V.int))) D=some (.lst xs):=by rw[p8 npd];exact hd
     have ek:hs.take (i+1)=hs.take i++[[p,pq]]:=by rw[G0,hk];rfl
     refine⟨hd',kN _ _ _ ⟨_,rfl,(s1.trans (d4 htn)).upd hD,c7,?_,fun k hk'=>?_⟩⟩
     ·rw[ek,p7]
      exact v9.updL hd' (v9.append (B3.tups (d4 htn) ht) (v9.one (SqT.of c7)))
     ·rw[ek]at hk'
      rcases u9.mp hk' with z | z
      ·exact hE k z
      ·rw[B9.mp z];exact hend
    ·have em':m'=m:=by omega
     subst em'
     exact g _ (j0 hk)
   ·rintro D xs σ' H1 hD ⟨v,rfl,s1,h1,h2',hE⟩
    rw[o6 (by omega)]at h2' hE
    have hup:∀ k∈hs.map up,Up m k:=fun k hk=>by
     obtain⟨k0,h0,rfl⟩:=E8.mp hk
     exact(hE k0 h0).up
    refine⟨D,xs,_,rfl,SqL.of h1,h2',(fun k hk z=>by have:=(hup k hk).len;rw[z]at this;cases this),fun l zs ks hl pk hs1 ht1=>?_⟩
    have hkl:ks.length=hs.length:=by rw[pk.length_eq,b9]
    have hzl:=ht1.len
    have s2:B3 H (upd H1 l (.lst zs)):=s1.trans (d4 hl)
    refine⟨_,rfl,l,zs,ks,rfl,SqL.of c7,ht1,(fun k hk=>(hup k (pk.mem_iff.mp hk)).key m2),by omega,fun S hSn=>?_⟩
    have hlS:l≠S:=t8 c7 hSn
    have s3:=s2.trans (d4 (o:=bn6 P w S (ks.foldl Sett.Z7 []).length) hSn)
    have l3:(upd (upd H1 l (.lst zs)) S (bn6 P w S (ks.foldl Sett.Z7 []).length)) l=some (.lst zs):=by rw[p8 hlS,c7]
    refine⟨S,_,rfl,c7,_,rfl,l,zs,rfl,.inl (SqL.of l3),_,_,rfl,rfl,_,rfl,?_⟩
    by_cases hN:(hs.map up).Nodup
    ·have hfold:(ks.foldl Sett.Z7 []).length=zs.length:=by
      have:=(Sett.au7 ks []).mpr ⟨(pk.nodup_iff).mpr hN,fun x _=>by simp⟩
      simp at this
      omega
     rw[decide_eq_false (by omega)]
     refine J2 ?_
     refine⟨_,rfl,_,rfl,l,zs,rfl,.inl ⟨SqL.of l3,fun t ht=>⟨(by show 2<=d7;decide),fun p hp=>?_⟩⟩⟩
     have st:=d4 (o:=.tup zs) ht
     have sp:=d4 (o:=.tup [.int (m:Int),.ref t]) hp
     exact q ⟨m,rfl,m1,m2,hE,hN⟩ p t zs ks _ ((s3.trans st).trans sp) c7 (sp _ _ c7) (((d4 (o:=bn6 P w S (ks.foldl Sett.Z7 []).length) hSn).trans (st.trans sp)).tups ht1) pk hs1
    ·have hfold:(ks.foldl Sett.Z7 []).length<zs.length:=by
      have h1:=Sett.ar5 ks []
      have h3:(ks.foldl Sett.Z7 []).length≠([]:List (List Int)).length+ks.length:=fun z=>hN ((pk.nodup_iff).mp ((Sett.au7 ks []).mp z).1)
      simp at h1 h3
      omega
     rw[decide_eq_true (by omega)]
     refine J4 (qE (fun⟨m',em,_,_,_,g⟩=>hN g) _ s3)
  ·rw[decide_eq_false n2]
   exact J4 (qE (fun⟨m',em,_,z,_,_⟩=>n2 (by omega)) _ (B3.refl H))
 ·rw[decide_eq_false n1]
  exact J2 ⟨_,rfl,J4 (qE (fun⟨m',em,z,_,_,_⟩=>n1 (by omega)) _ (B3.refl H))⟩
def aK8 (K:W.Frag):Sp:=fun vs H Q _=>∃ (p:Addr) (z:Int) (ks:List (List Int)),vs=[.ref p]/\Wx K H p z ks/\∀ (b:Bool) (H':Hp),B3 H H'->(b=true↔∃ n:Nat,Tl z n ks)->Q (.bl b) H'
theorem bP1:B6 ["web"] ["web"] (p9 aq4):=.mk'
theorem bu1 {fV CX:Addr}{fdV:FuncData}(F:Fun K "is_told" "is_told" aq4 f fd)(FV:Fq K mg "made" aS4 fV fdV ["places","ties"])(GV:A4 P w K mg base (CXE P w) 3 fV fdV ["places","ties"] (aL0 K CX))(mX:mg "BadWeb"=some (.ref CX))(xX:PySem.W.exmOne K (.ref CX) (.ref CX)=some true):A4 P w K mg base CX0 4 f fd ["web"] (aK8 K):=by
 refine F.ok bP1 (fun cdv A outer s H vs Q E hr h=>?_)
 obtain⟨p,z,ks,rfl,⟨⟨t,zs,h1,h2,h3⟩,hp2,hkl⟩,q⟩:=h
 have hun:=hr.units
 refine⟨_,k8 (bD7 (by rfl) mX rfl rfl (fun _ _=>k8 (B8 (X4 (bE5 K hr.around rfl rfl) (aT2 GV hr (by rfl) FV.m FV.F.kp FV.b be5 (b7 (ay9 K rfl (pv 0) c9 (fun _ _=>rfl)) (b7 (ay9 K rfl (pv 0) c9 (fun _ _=>rfl)) d3))) (pv 0) (B1 _)))) (fun _=>k8 (B8 Y6))),?_⟩
 have a0:atI ([.int z,.ref t]:List V) 0=some (.int z):=A1 (j:=0) rfl
 have a1:atI ([.int z,.ref t]:List V) 1=some (.ref t):=A1 (j:=1) rfl
 refine⟨fun σ' cls _ H'=>B3 H H'/\cls=.ref CX/\¬ GoodW z ks,?_,?_⟩
 ·refine⟨_,rfl,.inr (.inl ⟨p,_,_,_,rfl,rfl,h1,a0,_,rfl,.inr (.inl ⟨p,_,_,_,rfl,rfl,h1,a1,?_⟩)⟩)⟩
  refine⟨z,t,zs,ks,rfl,.inr h2,h3,hp2,hkl,fun hg r t' zs2 ks2 H' s' k1 k2 tt pm so=>?_,fun hg H' s'=>⟨s',rfl,hg⟩⟩
  have hw:Dt K H' (dW z ks) (.ref p):=Dt.mkT (s'.seqT h1) (.mkC .mkInt (.mkC (Dt.mkT (s'.seqT h2) (s'.tups h3).dtAll) .mkN))
  have hw2:Dt K H' (dW z ks2) (.ref r):=Dt.mkT (SqT.of k1) (.mkC .mkInt (.mkC (Dt.mkT (SqT.of k2) tt.dtAll) .mkN))
  refine⟨_,rfl,_,_,hw2,hw,bL1 _ _,bL1 _ _,?_,?_⟩
  ·refine aH1 hun (C4 (af1 _ _) ?_)
   have:=cd2 z ks2
   omega
  ·rw[if_neg j9,cd1,decide_eq_true rfl,bn8]
   refine q _ H' s' ?_
   rw[decide_eq_true_iff]
   exact bO0 hg pm so
 ·rintro σ' cls H' ⟨s',rfl,hg⟩
  exact⟨xX,q false H' s' ⟨fun h=>(by cases h),fun⟨n,h⟩=>absurd (bB8 h) hg⟩⟩
end
end Web
namespace Web
open PySem L2
section
variable {K:W.Frag} {mg:Str->Option Value} {base:Heap}
def isR (ns:List Int)(r:Int):Prop:=0<=r/\r<=ns.length
def bd1 (K:W.Frag)(CB CN:Addr):Sp:=fun vs H Q E=>∃ (a:Addr) (ns:List Int) (M:Nat) (r:Int),vs=[.ref a,.int M,.int r]/\Sq K H a ns/\M<=1000000/\(X7 ns->isR ns r->∀ H':Hp,B3 H H'->Q (.int (Y5 ns M r.toNat)) H')/\(X7 ns->¬ isR ns r->E (.ref CN) none H)/\(¬ X7 ns->E (.ref CB) none H)
theorem bC8:B6 ["tally","most","r"] ["tally","most","r"] (p9 aB3):=.mk'
theorem bu3 {fF fA CN:Addr}{fdF:FuncData}{tk:Tok}(F:Fun K "room_with" "room_with" aB3 f fd)(B:Bn mg)(FT:Fq K mg "check_tally" aS6 fT fdT ["tally"])
  (FF:Fq K mg "falling" aB6 fF fdF ["tally"])(FA:Fq K mg "room_among" an7 fA fdA ["numbers","most","r"])
  (mM:mg "MOST_PLACES"=some (.int 24 tk))(mB:mg "BadTally"=some (.ref CB))(cB:ao9 K CB)(mN:mg "BadNumber"=some (.ref CN))(cN:ao9 K CN):A4 P w K mg base (CXE P w) 2 f fd ["tally","most","r"] (bd1 K CB CN):=by
 have GT:A4 P w K mg base (CXE P w) 1 fT fdT ["tally"] (aR2 K CB):=aM9 FT.F B mM mB cB
 have GF:A4 P w K mg base CX0 1 fF fdF ["tally"] (aY7 K):=be7 FF.F B
 have GA:A4 P w K mg base CX0 1 fA fdA ["numbers","most","r"] (aL3 K):=aT7 FA.F B
 refine F.okX bC8 (fun cdv A outer s H vs Q E hr h=>?_)
 obtain⟨a,ns,M,r,rfl,hS,hM,h1,h2,h3⟩:=h
 refine⟨_,d8 (J6 (F2 GT hr (by rfl) FT aq8 (b7 (pv 0) d3)))
  (d8 (F1 (R0 (ai5 U4 U4 c9 (pv 2) (p0 y9 (by rfl) B.len PySem.boot_len (b7 (pv 0) d3)))) (k8 (aa6 (by rfl) mN cN)) A3)
  (k8 (B8 (F2 GA hr (by rfl) FA K3 (b7 (F2 GF hr (by rfl) FF K3 (b7 (pv 0) d3)) (b7 (pv 1) (b7 (pv 2) d3))))))),?_⟩
 refine⟨_,rfl,a,ns,rfl,hS,fun ht=>?_,h3⟩
 have t2:=ht.2
 refine⟨_,rfl,_,_,rfl,rfl,_,rfl,?_⟩
 by_cases hp:(0:Int)<=r
 ·rw[decide_eq_true hp]
  refine J4 ⟨_,rfl,a,_,rfl,hS,_,_,rfl,rfl,_,rfl,?_⟩
  rw[b9]
  by_cases hp':r<=(ns.length:Int)
  ·rw[decide_eq_true hp']
   refine J2 ?_
   obtain⟨k,rfl⟩:∃ k:Nat,r=(k:Int):=⟨r.toNat,by omega⟩
   refine⟨_,rfl,a,ns,rfl,hS,by omega,fun l H1 s1 hl g1=>?_⟩
   refine⟨_,rfl,_,rfl,l,ns,M,k,rfl,SqL.of g1,hM,by omega,by omega,fun H2 s2=>?_⟩
   exact h1 ht ⟨hp,hp'⟩ H2 (s1.trans s2)
  ·rw[decide_eq_false hp']
   exact J4 (h2 ht fun z=>hp' z.2)
 ·rw[decide_eq_false hp]
  exact J2 ⟨_,rfl,J4 (h2 ht fun z=>hp z.1)⟩
end
section
variable {K:W.Frag} {mg:Str->Option Value} {base:Heap}
def aA4 (K:W.Frag)(CB:Addr):Sp:=fun vs H Q E=>∃ (a p:Addr) (ns:List Int) (M:Nat) (x:Wz),vs=[.ref a,.int M,.ref p]/\Sq K H a ns/\M<=1000000/\SqT K H p (wzT x)/\(X7 ns->∀ H':Hp,B3 H H'->Q (.bl (bC6 ns M x)) H')/\(¬ X7 ns->E (.ref CB) none H)
theorem bq8:B6 ["tally","most","wall"] ["tally","most","wall"] (p9 aq3):=.mk'
set_option maxHeartbeats 1000000 in
theorem bj9 {fF fA fρ fβ CN:Addr}{fdF fdρ fdβ:FuncData}{tk:Tok}(F:Fun K "wall_shows_with" "wall_shows_with" aq3 f fd)(B:Bn mg)
  (FT:Fq K mg "check_tally" aS6 fT fdT ["tally"])
  (FF:Fq K mg "falling" aB6 fF fdF ["tally"])(FA:Fq K mg "room_among" an7 fA fdA ["numbers","most","r"])
  (Fρ:Fq K mg "room_with" aB3 fρ fdρ ["tally","most","r"])(Fβ:Fq K mg "places_below" at6 fβ fdβ ["numbers"])
  (mM:mg "MOST_PLACES"=some (.int 24 tk))(mB:mg "BadTally"=some (.ref CB))(cB:ao9 K CB)(mN:mg "BadNumber"=some (.ref CN))(cN:ao9 K CN):A4 P w K mg base (CXE P w) 3 f fd ["tally","most","wall"] (aA4 K CB):=by
 have GT:A4 P w K mg base (CXE P w) 2 fT fdT ["tally"] (aR2 K CB):=(aM9 FT.F B mM mB cB).mono (by decide)
 have GL:A4 P w K mg base CX0 2 fβ fdβ ["numbers"] (aL2 K):=(aT6 Fβ.F B).mono (by decide)
 have GR:A4 P w K mg base (CXE P w) 2 fρ fdρ ["tally","most","r"] (bd1 K CB CN):=bu3 Fρ.F B FT FF FA mM mB cB mN cN
 refine F.okX bq8 (fun cdv A outer s H vs Q E hr h=>?_)
 obtain⟨a,p,ns,M,x,rfl,hS,hM,hp,h1,h2⟩:=h
 have hsl:=O3
 have hun:=hr.units
 refine⟨_,d8 (J6 (F2 GT hr (by rfl) FT aq8 (b7 (pv 0) d3)))
   (d8 (F1 (x6 P4 (C1 C8 (pv 2) c9 (fun _ _=>rfl)) N9 (B1 _)) (k8 (B8 (X4 P4 (m8 E6 (p0 (aI9 rfl) (by rfl) B.sum (by rfl) (b7 (pv 0) d3)) c9) c9 (B1 _)))) A3)
   (d8 (F1 (x6 P4 (C1 C8 (pv 2) c9 (fun _ _=>rfl)) N9 (B1 _)) (k8 (B8 (X4 bt7 (C1 C8 (pv 2) c9 (fun _ _=>rfl)) (F2 GL hr (by rfl) Fβ K3 (b7 (pv 0) d3)) (by rfl)))) A3)
   (k8 (B8 (aM5 (ai6 U4 U4 c9 (C1 C8 (pv 2) c9 (fun _ _=>rfl)) (p0 y9 (by rfl) B.len PySem.boot_len (b7 (pv 0) d3)))
     (aM3 (X4 ag2 (F2 GR hr (by rfl) Fρ aq8 (b7 (pv 0) (b7 (pv 1) (b7 (C1 C8 (pv 2) c9 (fun _ _=>rfl)) d3)))) c9 (B1 _)))))))),?_⟩
 refine⟨_,rfl,a,ns,rfl,hS,fun ht=>?_,h2⟩
 have t2:=ht.2
 have h1:=fun Q'=>h1 ht Q'
 cases x with
 | odd =>
  refine⟨_,rfl,p,_,_,_,rfl,rfl,hp,cd6,rfl,_,rfl,?_⟩
  rw[decide_eq_true rfl]
  refine J4 ⟨_,rfl,a,ns,rfl,hS,_,_,rfl,rfl,(by show (0:Int)<2;decide),rfl,?_⟩
  rw[cd3]
  exact h1 _ (B3.refl H)
 | below z =>
  refine⟨_,rfl,p,_,_,_,rfl,rfl,hp,av7,rfl,_,rfl,?_⟩
  rw[decide_eq_false cb6]
  refine J2 ⟨_,rfl,p,_,_,_,rfl,rfl,hp,av7,rfl,_,rfl,?_⟩
  rw[decide_eq_true rfl]
  refine J4 ⟨_,rfl,p,_,_,_,rfl,rfl,hp,aE6,_,rfl,a,ns,rfl,hS,by omega,fun l H1 s1 hl g1=>?_⟩
  exact aV4 hun (SqL.of g1) (h1 _ s1)
 | wall z =>
  refine⟨_,rfl,p,_,_,_,rfl,rfl,hp,av7,rfl,_,rfl,?_⟩
  rw[decide_eq_false cb4]
  refine J2 ⟨_,rfl,p,_,_,_,rfl,rfl,hp,av7,rfl,_,rfl,?_⟩
  rw[decide_eq_false cb5]
  refine J2 ⟨_,rfl,p,_,_,_,rfl,rfl,hp,aE6,_,_,rfl,rfl,_,rfl,?_⟩
  have no:¬ (1<=z/\z<=(ns.length:Int))->Q (.bl false) H:=fun hz=>by
   have e2:bC6 ns M (.wall z)=false:=decide_eq_false fun q=>hz ⟨q.1,q.2.1⟩
   have:=h1 _ (B3.refl H)
   rw[e2]at this
   exact this
  by_cases hz1:(1:Int)<=z
  ·rw[decide_eq_true hz1]
   refine J4 ⟨_,rfl,a,_,rfl,hS,_,_,rfl,rfl,_,rfl,?_⟩
   rw[b9]
   by_cases hz2:z<=(ns.length:Int)
   ·rw[decide_eq_true hz2]
    refine J4 ⟨_,rfl,_,rfl,_,rfl,p,_,_,_,rfl,rfl,hp,aE6,a,ns,M,z,rfl,hS,hM,fun _ _ H' s'=>?_,fun _ h=>absurd ⟨by omega,hz2⟩ h,fun h=>absurd ht h⟩
    refine⟨_,_,rfl,rfl,?_⟩
    have e:bC6 ns M (.wall z)=decide (Y5 ns M z.toNat<0):=by
     show decide (_/\_/\_)=_
     by_cases h:Y5 ns M z.toNat<0
     ·rw[decide_eq_true h,decide_eq_true ⟨hz1,hz2,h⟩]
     ·rw[decide_eq_false h,decide_eq_false fun q=>h q.2.2]
    have:=h1 _ s'
    rw[e]at this
    exact this
   ·rw[decide_eq_false hz2]
    exact J2 (no fun q=>hz2 q.2)
  ·rw[decide_eq_false hz1]
   refine J2 ⟨_,rfl,J2 (no fun q=>hz1 q.1)⟩
end
end Web
namespace L2
open PySem PySem.Spec PyProof.Rows
section
variable {a b c d:Expr} {tb tc td:TE}
def bC4 (r r' r'':R2)(ta tb tc td:TE):TE:=fun σ H Q=>ta σ H fun x H1=>tb σ H1 fun y H2=>r x y H2 fun z H3=>∃ k,z=.bl k /\
 (if k=true then tc σ H3 fun y' H4=>r' y y' H4 fun z' H5=>∃ k',z'=.bl k'/\(if k'=true then td σ H5 fun y'' H6=>r'' y' y'' H6 Q else Q (.bl false) H5) else Q (.bl false) H3)
theorem bj7 {op op' op'':CmpOp}{r r' r'':R2}(ho:OpR X (J1 op) r)(ho':OpR X (J1 op') r')(ho'':OpR X (J1 op'') r'')(ha:PE X a ta)(hb:PE X b tb)(hc:PE X c tc)(hd:PE X d td)
  (hm:lastMarks [op,op',op''] [b,c,d]=false:=by with_unfolding_all rfl):PT X (.Compare a [op,op',op''] [b,c,d] pos) (bp4 (bC4 r r' r'' ta tb tc td)):=by
 intro pins s σ H Q I h
 refine isTrue_chain (thn (ha pins s σ H _ I h) fun v s1 ⟨x,H1,I1,r1,q1⟩=>test_link (thn (hb pins s1 σ H1 _ I1 q1) fun u s2 ⟨y,H2,I2,r2,q2⟩=>thn (ho pins s2 σ H2 x y v u _ I2 r1 r2 q2) fun e0 s3 ⟨z,H3,I3,r3,k,e,q3⟩=>?_)) hm
 subst e;cases r3
 refine F3 ?_
 cases k with
 | false=>obtain⟨k',e',q'⟩:=q3;cases e';exact ite_ff ⟨H3,I3,q'⟩
 | true =>
  refine ite_tt (test_link (thn (hc pins s3 σ H3 _ I3 q3) fun u' s4 ⟨y',H4,I4,r4,q4⟩=>thn (ho' pins s4 σ H4 y y' u u' _ I4 r2 r4 q4) fun e1 s5 ⟨z',H5,I5,r5,k',e',q5⟩=>?_))
  subst e';cases r5
  refine F3 ?_
  cases k' with
  | false=>obtain⟨k2,e2,q'⟩:=q5;cases e2;exact ite_ff ⟨H5,I5,q'⟩
  | true =>
   refine ite_tt (test_last (thn (hd pins s5 σ H5 _ I5 q5) fun u2 s6 ⟨y2,H6,I6,r6,q6⟩=>thn (ho'' pins s6 σ H6 y' y2 u' u2 _ I6 r4 r6 q6) fun e3 s7 ⟨z3,H7,I7,r7,k3,e4,q7⟩=>?_))
   subst e4;cases r7
   exact F3 ⟨H7,I7,q7⟩
end
end L2
namespace HT
open PySem PyProof.Rows
section
open PySem.SeqAt
open PySem.AutoSeq1 (wpAny_loadPart')
open PySem.MeetsSeq PySem.MeetsSeq2 PySem.MeetsSeq3
end
end HT
namespace L2
open PySem PySem.Spec PyProof.Rows
end L2
namespace Web
open PySem L2
theorem bx5 (u v:Nat)(m:Int)(i:Nat):ad0 [[(u:Int),(v:Int),m]] i=(if u=i then m else 0)+(if v=i then m else 0):=by
 show (if (u:Int)=(i:Int) then m else 0)+(if (v:Int)=(i:Int) then m else 0)+0=_
 rw[aP4]
 congr 1
 ·by_cases h:u=i
  ·rw[if_pos h,if_pos (by omega)]
  ·rw[if_neg h,if_neg (by omega)]
 ·by_cases h:v=i
  ·rw[if_pos h,if_pos (by omega)]
  ·rw[if_neg h,if_neg (by omega)]
theorem au5 {ts:List Int}{x:Int}(hi:i<ts.length):(ts.set i x).getD j 0=if i=j then x else ts.getD j 0:=by
 rw[j8,List.getElem?_set,j8]
 by_cases h:i=j
 ·rw[if_pos h,if_pos h,if_pos hi];rfl
 ·rw[if_neg h,if_neg h]
def N2 (n:Nat)(ks:List (List Int)):List Int:=(C5 n).map (ad0 ks)
theorem aW2 {u v:Nat}{m:Int}(hu:u<n)(hv:v<n)(hne:u≠v) :
  ((N2 n ks).set u ((N2 n ks).getD u 0+m)).set v (((N2 n ks).set u ((N2 n ks).getD u 0+m)).getD v 0+m)=N2 n (ks++[[(u:Int),(v:Int),m]]):=by
 have l0:(N2 n ks).length=n:=by unfold N2;rw[b9,B0]
 have l1:(N2 n (ks++[[(u:Int),(v:Int),m]])).length=n:=by unfold N2;rw[b9,B0]
 have g:∀ {qs:List (List Int)} {i:Nat},i<n->(N2 n qs).getD i 0=ad0 qs i:=fun hi=>ae0 hi
 refine au1 (by rw[B7,B7,l0,l1]) fun i hi=>?_
 rw[l1]at hi
 rw[au5 (by rw[B7];omega),au5 (by omega),au5 (by omega),g hi,g hi,ar9,bx5,g hu,g hv]
 by_cases e1:v=i
 ·subst e1
  rw[if_pos rfl,if_neg hne,if_neg hne,if_pos rfl]
  omega
 ·rw[if_neg e1,if_neg e1]
  by_cases e2:u=i
  ·subst e2
   rw[if_pos rfl,if_pos rfl]
   omega
  ·rw[if_neg e2,if_neg e2]
   omega
def two (k:List Int):List Int:=[k.getD 0 0,k.getD 1 0]
theorem aU8 {k':List Int}(h:ar3 k k'):two k≠two k'/\Tim.O4 (two k') (two k)=false:=by
 unfold ar3 at h
 unfold two
 generalize k.getD 0 0=a at h ⊢
 generalize k.getD 1 0=b at h ⊢
 generalize k'.getD 0 0=c at h ⊢
 generalize k'.getD 1 0=d at h ⊢
 constructor
 ·intro e
  injection e with e1 e2
  injection e2 with e2 _
  omega
 ·unfold Tim.O4 Tim.O4
  by_cases e1:c=a
  ·rw[if_pos e1]
   by_cases e2:d=b
   ·omega
   ·rw[if_neg e2]
    exact decide_eq_false (by omega)
  ·rw[if_neg e1]
   exact decide_eq_false (by omega)
theorem bB7 {M:Nat}(tr:∀ k∈ks,tri n M k)(pw:ks.Pairwise ar3):Tld n (ks.map two):=by
 refine⟨fun k hk=>?_,?_,?_⟩
 ·obtain⟨q,hq,rfl⟩:=E8.mp hk
  obtain⟨i,j,x,rfl,h1,h2,_⟩:=tr q hq
  exact⟨i,j,h1,h2,rfl⟩
 ·refine U6.mpr (L4.mpr (pw.imp fun h=>(aU8 h).1))
 ·exact L4.mpr (pw.imp fun h=>(aU8 h).2)
seal L2.PE L2.PA L2.PS L2.PSs L2.PT
section
variable {K:W.Frag} {mg:Str->Option Value} {base:Heap}
def bK2 (K:W.Frag):Sp:=fun vs H Q _=>∃ (b t:Addr) (n:Nat) (zs:List V) (ks:List (List Int)),vs=[.ref b]/\n<=24/\SqT K H b [.int n,.ref t]/\SqT K H t zs/\v9 K H zs ks/\(∃ M:Nat,∀ k∈ks,tri n M k)/\∀ (l:Addr) (H':Hp),B3 H H'->H l=none->H' l=some (.lst ((N2 n ks).map V.int))->Q (.ref l) H'
theorem aR6:B6 ["web","tally","one","other","many"] ["web"] (p9 br5):=.mk'
theorem bR4 (F:Fun K "thick_tally" "thick_tally" br5 f fd):A4 P w K mg base CX0 1 f fd ["web"] (bK2 K):=by
 refine F.ok aR6 (fun cdv A outer s H vs Q E hr h=>?_)
 obtain⟨b,a,n,zs,ks,rfl,hn,hb,hS,hT,⟨M,htr⟩,q⟩:=h
 have hsl:=O3
 refine⟨_,d8 (y7 (i:=1) aR6.nd rfl (Or.inl rfl) (m8 aC2 (L8 (b7 c9 d3)) (C1 C8 (pv 0) c9 (fun _ _=>rfl))))
  (d8 (T7 PassesOwn.never rfl (ao1 (C1 C8 (pv 0) c9 (fun _ _ => rfl))) (at9 rfl (F7 (B4 (i := 2) aR6.nd rfl (Or.inl rfl)) (F7 (B4 (i := 3) aR6.nd rfl (Or.inl rfl)) (F7 (B4 (i := 4) aR6.nd rfl (Or.inl rfl)) Z5))))
   (d8 (be3 (pv 1) (pv 2) aV7 (pv 4) bw0 set_list) (k8 (be3 (pv 1) (pv 3) aV7 (pv 4) bw0 set_list))))
  (k8 (B8 (pv 1)))),?_⟩
 have a0:atI ([.int n,.ref a]:List V) 0=some (.int n):=A1 (j:=0) rfl
 have a1:atI ([.int n,.ref a]:List V) 1=some (.ref a):=A1 (j:=1) rfl
 have hk:=bf3 (k:=(n:Int)) (by omega) (by omega)
 refine⟨(by show 1<=d7;decide),fun l0 f0=>?_⟩
 have s0:=d4 (o:=.lst [.int 0]) f0
 refine⟨_,rfl,b,_,_,_,rfl,rfl,s0.seqT hb,a0,l0,_,_,rfl,rfl,c7,hk.1,hk.2,by show 1*_<=d7;omega,fun l hl=>?_⟩
 have hlH:H l=none:=s0.free hl
 rw[u6,bs1]
 have e00:o9 n (0:Int)=N2 n []:=by
  refine au1 (by unfold N2;rw[S8,b9,B0]) fun i hi=>?_
  unfold N2 at hi ⊢
  rw[b9,B0]at hi
  rw[ae0 hi,j8,am2,if_pos hi]
  rfl
 rw[e00]
 have sA:=s0.trans (d4 (o:=.lst ((N2 n []).map V.int)) hl)
 have gA:(upd (upd H l0 (.lst [.int 0])) l (.lst ((N2 n []).map V.int))) l=some (.lst ((N2 n []).map V.int)):=c7
 generalize upd (upd H l0 (.lst [.int 0])) l (.lst ((N2 n []).map V.int))=HA at sA gA
 have hzl:=hT.len
 have lC:∀ qs,(N2 n qs).length=n:=fun qs=>by unfold N2;rw[b9,B0]
 refine⟨_,rfl,b,_,_,_,rfl,rfl,sA.seqT hb,a1,a,rfl,⟨_,sA.seqT hS⟩,?_⟩
 refine aN9 (K:=K) (a:=a) (xs:=zs) (fun j σ H2=>∃ (e3 e4 e5:Option V),σ=[some (.ref b),some (.ref l),e3,e4,e5]/\B3 H H2/\H2 l=some (.lst ((N2 n (ks.take j)).map V.int)))
  ⟨none,none,none,rfl,sA,by rw[ah5];exact gA⟩ (fun i σ H2 _ ⟨_,_,_,_,s,_⟩=>s.seqT hS) ?_ ?_
 ·rintro i x σ H2 hx ⟨e3,e4,e5,rfl,s2,g2⟩
  obtain⟨pa,pk,rfl,hk',hq⟩:=hT.get hx
  obtain⟨u,v,m,rfl,huv,hv,_⟩:=htr _ (j0 hk')
  have hu':u<(N2 n (ks.take i)).length:=by rw[lC];omega
  refine⟨pa,_,rfl,s2.seqT hq,rfl,_,_,rfl,_,_,rfl,_,_,rfl,rfl,?_⟩
  refine⟨_,rfl,_,rfl,l,_,_,_,rfl,rfl,SqL.of g2,V7 hu',_,rfl,_,_,rfl,rfl,l,_,_,u,rfl,rfl,g2,M5 (by rw[b9];exact hu'),?_⟩
  rw[J5]
  have hv2:v<((N2 n (ks.take i)).set u ((N2 n (ks.take i)).getD u 0+m)).length:=by rw[B7,lC];omega
  refine⟨_,rfl,_,rfl,l,_,_,_,rfl,rfl,SqL.of c7,V7 hv2,_,rfl,_,_,rfl,rfl,l,_,_,v,rfl,rfl,c7,M5 (by rw[b9];exact hv2),?_⟩
  rw[J5,ak2,aW2 (by omega) hv (by omega)]
  refine⟨_,_,_,rfl,s2.upd hlH,?_⟩
  rw[c7,G0,hk']
  rfl
 ·rintro σ H2 ⟨e3,e4,e5,rfl,s2,g2⟩
  rw[o6 (by omega)]at g2
  exact⟨_,rfl,q l H2 s2 hlH g2⟩
end
end Web
namespace Web
open PySem L2
def WxT (K:W.Frag)(H:Hp)(b:Addr)(z:Int)(ks:List (List Int)):Prop:=(∃ t zs,SqT K H b [.int z,.ref t]/\SqT K H t zs/\v9 K H zs ks)/\(∀ k∈ks,∃ p q m:Int,k=[p,q,m])/\ks.length<300
theorem WxT.same {K:W.Frag}{p:Addr}{z:Int}(h:WxT K H p z ks)(s:B3 H H'):WxT K H' p z ks:=by
 obtain⟨⟨t,zs,h1,h2,h3⟩,a,b⟩:=h
 exact⟨⟨t,zs,s.seqT h1,s.seqT h2,s.tups h3⟩,a,b⟩
def inM (M:Int)(k:List Int):Bool:=decide (1<=k.getD 2 0) && decide (k.getD 2 0<=M)
def bb5 (os:List Int)(M z:Int)(ks:List (List Int)):Prop:=∃ n:Nat,Tl z n (ks.map two)/\ks.all (inM M)=true/\N2 n ks=os
theorem bp0 {M z:Int}(h3:∀ k∈ks,∃ p q m:Int,k=[p,q,m])(T:Tl z n (ks.map two))(hM:ks.all (inM M)=true):∀ k∈ks,tri n M.toNat k:=fun k hk=>by
 obtain⟨p,q,m,rfl⟩:=h3 k hk
 obtain⟨i,j,h1,h2,e⟩:=T.t.ups (two [p,q,m]) (bJ0 hk)
 have hm:=G9.mp hM _ hk
 unfold inM at hm
 rw[B5,decide_eq_true_eq,decide_eq_true_eq]at hm
 have hm1:1<=m:=hm.1
 have hm2:m<=M:=hm.2
 have e':([p,q]:List Int)=[(i:Int),(j:Int)]:=e
 injection e' with ep e''
 injection e'' with eq _
 rw[ep,eq]
 exact⟨i,j,m,rfl,h1,h2,hm1,by omega⟩
seal L2.PE L2.PA L2.PS L2.PSs L2.PT
section
variable {K:W.Frag} {mg:Str->Option Value} {base:Heap}
def aY6 (K:W.Frag):Sp:=fun vs H Q _=>∃ (a b:Addr) (os:List Int) (M z:Int) (ks:List (List Int)),vs=[.ref a,.int M,.ref b]/\Sq K H a os/\WxT K H b z ks/\∀ (c:Bool) (H':Hp),B3 H H'->(c=true↔bb5 os M z ks)->Q (.bl c) H'
theorem bK5:B6 ["tally","most","web","thin"] ["tally","most","web"] (p9 br6):=.mk'
set_option maxHeartbeats 2000000 in
theorem bF0 {fL:Addr} {fdL:FuncData} (F:Fun K "is_thick_web_of" "is_thick_web_of" br6 f fd) (B:Bn mg) (FT:Fq K mg "is_told" aq4 fT fdT ["web"]) (GT:A4 P w K mg base CX0 4 fT fdT ["web"] (aK8 K))
  (FL:Fq K mg "thick_tally" br5 fL fdL ["web"]):A4 P w K mg base CX0 5 f fd ["tally","most","web"] (aY6 K):=by
 have GL:A4 P w K mg base CX0 4 fL fdL ["web"] (bK2 K):=(bR4 FL.F).mono (by decide)
 refine F.ok bK5 (fun cdv A outer s H vs Q E hr h=>?_)
 obtain⟨a,b,os,M,z,ks,rfl,hS,⟨⟨t,zs,hb,htt,h3⟩,tr,hlen⟩,q⟩:=h
 have hun:=hr.units
 have hsl:=O3
 have nd1:(["triple"]:List Str).Nodup:=by decide +kernel
 have nd2:(["triple","most"]:List Str).Nodup:=by decide +kernel
 refine⟨_,d8 (y7 (i:=3) bK5.nd rfl (Or.inl rfl) (F5 (b7 (C1 C8 (pv 2) c9 (fun _ _=>rfl)) (b7 (L6 O0 (by rfl) B.tuple (by rfl) (b7
    (X3 (N' := ["triple"]) (lk := [none]) rfl (ao1 (C1 C8 (pv 2) c9 (fun _ _ => rfl))) (by rfl) rfl (by decide +kernel) (by exact trivial) (by rfl) (by exact LkL.ok trivial)
     (fun _ _ _=>B4 (i:=0) nd1 rfl (Or.inl rfl)) (fun _ _ _=>ac2) (fun _ _ _=>F5 (b7 (aM4 K rfl (pv 0) c9 (fun _ _=>rfl)) (b7 (aM4 K rfl (pv 0) c9 (fun _ _=>rfl)) d3)))) d3)) d3))))
  (d8 (F1 (PW.pt (ai4 (R0 (aa5 (F2 GT hr (by rfl) FT K3 (b7 (pv 3) d3))))
    (an9 (R0 (aa5 (p0 (bn0 rfl) (by rfl) B.all boot_all (b7
    (X3 (N' := ["triple", "most"]) (lk := [none, some 1]) rfl (ao1 (C1 C8 (pv 2) c9 (fun _ _ => rfl))) (by rfl) rfl (by decide +kernel) (by exact ⟨rfl, trivial⟩) (by rfl) (by exact LkL.ok ⟨⟨rfl, Or.inl rfl, rfl, Or.inl rfl⟩, trivial⟩)
     (fun _ _ _=>B4 (i:=0) nd2 rfl (Or.inl rfl)) (fun _ _ _=>ac2) (fun _ _ _=>ai6 U4 U4 c9 (aM4 K rfl (pv 0) c9 (fun _ _=>rfl)) (pv 1))) d3))))))) (k8 (B8 Y6)) A3)
  (k8 (B8 (X4 aM6 (F2 GL hr (by rfl) FL K3 (b7 (pv 2) d3)) (L6 V6 (by rfl) B.list (by rfl) (b7 (pv 0) d3)) (B1 _))))),?_⟩
 have a0:atI ([.int z,.ref t]:List V) 0=some (.int z):=A1 (j:=0) rfl
 have a1:atI ([.int z,.ref t]:List V) 1=some (.ref t):=A1 (j:=1) rfl
 have hzl:=h3.len
 refine⟨_,rfl,b,_,_,_,rfl,rfl,hb,a0,_,rfl,b,_,_,_,rfl,rfl,hb,a1,t,rfl,⟨_,htt⟩,fun D hD=>ar7 (K:=K) (a:=t) (D:=D) (ys:=zs) (fun i xs σ' H'=>(∃ v,σ'=[v])/\B3 H H'/\H' D=some (.lst xs)/\v9 K H' xs ((ks.take i).map two))
  ⟨⟨none,rfl⟩,d4 hD,c7,by rw[ah5];exact .nil⟩ (by omega) (fun i xs σ' H' hi ⟨_,s6,h6,t6⟩=>⟨s6.seqT htt,h6,by have:=t6.len;rw[b9,u5]at this;omega⟩) ?_ ?_⟩
 ·rintro i xs x σ' H' N kN hx ⟨⟨v,rfl⟩,s6,h6,t6⟩
  obtain⟨pa,pk,rfl,hk',hq⟩:=h3.get hx
  obtain⟨u,v',m,rfl⟩:=tr _ (j0 hk')
  have b0:atI (([u,v',m]:List Int).map V.int) 0=some (.int u):=A1 (j:=0) rfl
  have b1:atI (([u,v',m]:List Int).map V.int) 1=some (.int v'):=A1 (j:=1) rfl
  refine F0 (X6 ?_)
  refine⟨_,rfl,pa,_,_,_,rfl,rfl,s6.seqT hq,b0,_,rfl,pa,_,_,_,rfl,rfl,s6.seqT hq,b1,(by show 2<=d7;decide),fun p fp=>?_⟩
  have sp:=d4 (o:=.tup [.int u,.int v']) fp
  have h6':=sp _ _ h6
  refine⟨h6',kN _ _ _ ⟨⟨_,rfl⟩,(s6.trans sp).upd hD,c7,?_⟩⟩
  rw[G0,hk',p7]
  exact v9.updL h6' (v9.append (sp.tups t6) (v9.one (SqT.of c7)))
 ·rintro xs σ' H1 ⟨⟨v,rfl⟩,s1,g1,t1⟩
  rw[o6 (by omega)]at t1
  refine⟨D,_,rfl,.inl ⟨SqL.of g1,fun l hl=>?_⟩⟩
  have sl:=d4 (o:=.tup xs) hl
  refine⟨(by show 2<=d7;decide),fun p fp=>?_⟩
  have sp:=d4 (o:=.tup [.int z,.ref l]) fp
  have s3:=s1.trans (sl.trans sp)
  have hw:Wx K (upd (upd H1 l (.tup xs)) p (.tup [.int z,.ref l])) p z (ks.map two):=⟨⟨l,xs,SqT.of c7,SqT.of (sp _ _ c7),(sl.trans sp).tups t1⟩,fun k hk=>by
   obtain⟨k0,_,rfl⟩:=E8.mp hk
   exact⟨_,_,rfl⟩,by rw[b9];exact hlen⟩
  generalize upd (upd H1 l (.tup xs)) p (.tup [.int z,.ref l])=H2 at s3 hw ⊢
  refine⟨_,rfl,p,z,_,rfl,hw,fun bt H3 s4 hbt=>⟨_,rfl,?_⟩⟩
  have s34:=s3.trans s4
  cases bt with
  | false=>exact J4 (J4 (q false H3 s34 ⟨fun h=>(by cases h),fun⟨n,T,_⟩=>hbt.mpr ⟨n,T⟩⟩))
  | true =>
  obtain⟨n,T⟩:=hbt.mp rfl
  refine J2 ?_
  refine⟨_,rfl,b,_,_,_,rfl,rfl,s34.seqT hb,a1,t,rfl,⟨_,s34.seqT htt⟩,fun D2 hD2=>ar7 (K:=K) (a:=t) (D:=D2) (ys:=zs) (fun i xs σ' H'=>(∃ v,σ'=[v,some (.int M)])/\B3 H3 H'/\H' D2=some (.lst xs)/\xs=((ks.take i).map (inM M)).map V.bl)
   ⟨⟨none,rfl⟩,d4 hD2,c7,by rw[ah5];rfl⟩ (by omega) (fun i xs σ' H' hi ⟨_,s6,h6,e6⟩=>⟨(s34.trans s6).seqT htt,h6,by rw[e6,b9,b9,u5];omega⟩) ?_ ?_⟩
  ·rintro i xs x σ' H' N kN hx ⟨⟨v,rfl⟩,s6,h6,rfl⟩
   obtain⟨pa,pk,rfl,hk',hq⟩:=h3.get hx
   obtain⟨u,v',m,rfl⟩:=tr _ (j0 hk')
   have b2:atI (([u,v',m]:List Int).map V.int) 2=some (.int m):=A1 (j:=2) rfl
   refine F0 (X6 ?_)
   refine⟨_,rfl,pa,_,_,_,rfl,rfl,(s34.trans s6).seqT hq,b2,_,_,rfl,rfl,_,rfl,?_⟩
   have ein:inM M [u,v',m]=(decide (1<=m) && decide (m<=M)):=rfl
   have put:∀ c:Bool,c=inM M [u,v',m]->((ks.take i).map (inM M)).map V.bl++[V.bl c]=((ks.take (i+1)).map (inM M)).map V.bl:=fun c e=>by
    rw[G0,hk',p7,p7,e]
    rfl
   by_cases m1:(1:Int)<=m
   ·rw[decide_eq_true m1]
    refine J4 ⟨_,rfl,_,_,rfl,rfl,h6,kN _ _ _ ⟨⟨_,rfl⟩,s6.upd hD2,c7,put _ ?_⟩⟩
    rw[ein,decide_eq_true m1];rfl
   ·rw[decide_eq_false m1]
    refine J2 ⟨h6,kN _ _ _ ⟨⟨_,rfl⟩,s6.upd hD2,c7,put _ ?_⟩⟩
    rw[ein,decide_eq_false m1];rfl
  ·rintro xs σ' H4 ⟨⟨v,rfl⟩,s5,g5,rfl⟩
   rw[o6 (by omega)]at g5
   refine⟨D2,_,rfl,g5,?_⟩
   have s45:=s34.trans s5
   have e:(ks.map (inM M)).all id=ks.all (inM M):=by rw[List.all_map];rfl
   rw[e]
   cases hab:ks.all (inM M) with
   | false=>exact⟨_,rfl,J4 (q false _ s45 ⟨fun h=>(by cases h),fun⟨n,_,h,_⟩=>by rw[hab]at h;cases h⟩)⟩
   | true =>
   refine⟨_,rfl,J2 ?_⟩
   have tr':=bp0 tr T hab
   have hz:z=(n:Int):=T.z
   refine⟨_,rfl,b,t,n,zs,ks,rfl,T.n2,by rw[<- hz];exact s45.seqT hb,s45.seqT htt,s45.tups h3,⟨_,tr'⟩,fun l9 H9 s9 _ g9=>?_⟩
   refine⟨_,rfl,a,_,rfl,(hS.same (s45.trans s9)),fun l10 f10=>?_⟩
   have s10:=d4 (o:=.lst (os.map V.int)) f10
   refine⟨.list ((N2 n ks).map .int),.list (os.map .int),Dt.mkLi (SqL.of (s10 _ _ g9)),Dt.mkLi (SqL.of c7),aN3 _,aN3 _,?_,?_⟩
   ·refine aH1 hun (C4 (af1 _ _) ?_)
    have:=bx1 (N2 n ks)
    omega
   ·show Q (.bl (PyData.eqv _ _)) _
    rw[bw6]
    refine q _ _ ((s45.trans s9).trans s10) ?_
    rw[decide_eq_true_iff]
    refine⟨fun h=>⟨n,T,hab,h⟩,fun⟨n',T',_,h⟩=>?_⟩
    have:n'=n:=by have:=T'.z;omega
    rw[<- this];exact h
end
end Web
namespace Web
open PySem L2
inductive Aw8 where
 | wall (x:Wz)
 | web (z:Int) (ks:List (List Int))
def ad2 (K:W.Frag)(H:Hp)(r:Addr):Aw8->Prop
 | .wall x=>∃ b,SqT K H r [.str "wall",.ref b]/\SqT K H b (wzT x)
 | .web z ks=>∃ b,SqT K H r [.str "web",.ref b]/\WxT K H b z ks
theorem ad2.same {K:W.Frag}{r:Addr}{x:Aw8}(h:ad2 K H r x)(s:B3 H H'):ad2 K H' r x:=by
 cases x with
 | wall x =>
  obtain⟨b,h1,h2⟩:=h
  exact⟨b,s.seqT h1,s.seqT h2⟩
 | web z ks =>
  obtain⟨b,h1,h2⟩:=h
  exact⟨b,s.seqT h1,h2.same s⟩
def bV7 (os:List Int)(M:Nat):Aw8->Prop
 | .wall x=>bC6 os M x=true
 | .web z ks=>bb5 os M z ks
seal L2.PE L2.PA L2.PS L2.PSs L2.PT
section
variable {K:W.Frag} {mg:Str->Option Value} {base:Heap}
def aK9 (K:W.Frag)(CB CN:Addr):Sp:=fun vs H Q E=>∃ (a r:Addr) (os:List Int) (m:Int) (x:Aw8),vs=[.ref a,.int m,.ref r]/\Sq K H a os/\ad2 K H r x/\(X7 os->isM m->∀ (c:Bool) (H':Hp),B3 H H'->(c=true↔bV7 os m.toNat x)->Q (.bl c) H')/\(X7 os->¬ isM m->E (.ref CN) none H)/\(¬ X7 os->E (.ref CB) none H)
theorem bZ9:B6 ["tally","most","told"] ["tally","most","told"] (p9 bj3):=.mk'
theorem bE7 {fK fO fσ CN:Addr}{fdK fdO fdσ:FuncData}(F:Fun K "thick_shows" "thick_shows" bj3 f fd)(FK:Fq K mg "check_most" bj5 fK fdK ["tally","most"])(GK:A4 P w K mg base (CXE P w) 5 fK fdK ["tally","most"] (bd3 K CB CN))
  (FO:Fq K mg "is_thick_web_of" br6 fO fdO ["tally","most","web"])(GO:A4 P w K mg base CX0 5 fO fdO ["tally","most","web"] (aY6 K))
  (Fσ:Fq K mg "wall_shows_with" aq3 fσ fdσ ["tally","most","wall"])(Gσ:A4 P w K mg base (CXE P w) 5 fσ fdσ ["tally","most","wall"] (aA4 K CB)):A4 P w K mg base (CXE P w) 6 f fd ["tally","most","told"] (aK9 K CB CN):=by
 refine F.okX bZ9 (fun cdv A outer s H vs Q E hr h=>?_)
 obtain⟨a,r,os,m,x,rfl,hS,hx,q,qn,qb⟩:=h
 refine⟨_,d8 (J6 (F2 GK hr (by rfl) FK aq8 (b7 (pv 0) (b7 (pv 1) d3))))
  (d8 (F1 (x6 P4 (C1 C8 (pv 2) c9 (fun _ _=>rfl)) N9 (B1 _)) (k8 (B8 (F2 GO hr (by rfl) FO K3 (b7 (pv 0) (b7 (pv 1) (b7 (C1 C8 (pv 2) c9 (fun _ _=>rfl)) d3)))))) A3)
  (k8 (B8 (F2 Gσ hr (by rfl) Fσ aq8 (b7 (pv 0) (b7 (pv 1) (b7 (C1 C8 (pv 2) c9 (fun _ _=>rfl)) d3))))))),?_⟩
 refine⟨_,rfl,_,rfl,a,os,m,rfl,hS,fun ht hm=>?_,qn,qb⟩
 have q:=q ht hm
 obtain⟨m1,m2⟩:1<=m/\m<=1000000:=hm
 obtain⟨M,rfl⟩:∃ M:Nat,m=(M:Int):=⟨m.toNat,by omega⟩
 rw[u6]at q
 cases x with
 | wall x =>
  obtain⟨b,hr1,k4⟩:=hx
  refine⟨_,rfl,r,_,_,_,rfl,rfl,hr1,av7,rfl,_,rfl,?_⟩
  rw[decide_eq_false (by decide +kernel)]
  refine J2 ?_
  exact⟨_,rfl,_,rfl,_,rfl,r,_,_,_,rfl,rfl,hr1,aE6,a,b,os,M,x,rfl,hS,by omega,k4,fun _ H' s'=>q _ _ s' Iff.rfl,fun h=>absurd ht h⟩
 | web z ks =>
  obtain⟨b,hr1,hw⟩:=hx
  refine⟨_,rfl,r,_,_,_,rfl,rfl,hr1,av7,rfl,_,rfl,?_⟩
  rw[decide_eq_true rfl]
  refine J4 ?_
  exact⟨_,rfl,_,rfl,_,rfl,r,_,_,_,rfl,rfl,hr1,aE6,a,b,os,M,z,ks,rfl,hS,hw,q⟩
end
end Web
namespace Web
open PySem L2
seal L2.PE L2.PA L2.PS L2.PSs L2.PT
section
variable {K:W.Frag} {mg:Str->Option Value} {base:Heap}
def bc9:Sp:=fun vs H Q _=>∃ z:Int,vs=[.int z]/\Q (.bl true) H
theorem bC7:B6 ["found"] ["found"] (p9 aA9):=.mk'
theorem bt8 (F:Fun K "_law_whole" "_law_whole" aA9 f fd)(B:Bn mg):A4 P w K mg base CX0 1 f fd ["found"] bc9:=by
 refine F.ok bC7 (fun cdv A outer s H vs Q E hr h=>?_)
 obtain⟨z,rfl,q⟩:=h
 refine⟨_,k8 (B8 (aM5 (p0 (af8 K rfl) (by rfl) B.isin (by rfl) (b7 (pv 0) (b7 (ak6 (v:=.ty "int") (by rfl) B.int (by rfl) rfl) d3)))
   (aM3 (bQ6 (p0 (af8 K rfl) (by rfl) B.isin (by rfl) (b7 (pv 0) (b7 (ak6 (v:=.ty "bool") (by rfl) B.bool (by rfl) rfl) d3))))))),?_⟩
 refine⟨_,rfl,_,_,_,true,rfl,.int z,rfl,true,rfl,J4 ?_⟩
 exact⟨_,rfl,_,_,_,false,rfl,.int z,rfl,false,rfl,q⟩
end
end Web
namespace Web
open PySem L2
def bN9 (n:Nat)(k:List Int):Prop:=∃ (i j:Nat) (m:Int),k=[(i:Int),(j:Int),m]/\i<n/\j<n
theorem bp2 (M:Nat)(hM:M<=1000000)(z:Int)(h:0<=z/\z<3):∃ v:Int,atI ([.int 2,.int 4,.int ((M:Int)+1)]:List V) z=some (.int v)/\v<=1000001:=by
 have:z=0\/z=1\/z=2:=by omega
 rcases this with h | h | h
 ·rw[h];exact⟨_,A1 (j:=0) rfl,by omega⟩
 ·rw[h];exact⟨_,A1 (j:=1) rfl,by omega⟩
 ·rw[h];exact⟨_,A1 (j:=2) rfl,by omega⟩
section
variable {K:W.Frag} {mg:Str->Option Value} {base:Heap}
def ay4 (K:W.Frag):Sp:=fun vs H Q _=>∃ (c:Int) (n M:Nat),vs=[.int c,.int n,.int M]/\n<=24/\M<=1000000/\∀ (l:Addr) (zs:List V) (ks:List (List Int)) (H':Hp),B3 H H'->H l=none->H' l=some (.lst zs)->v9 K H' zs ks->(∀ k∈ks,bN9 n k)->ks.length<=276->Q (.ref l) H'
theorem Z3:B6 ["cell","places","most","pairs","one","other","size","row","triples","k"] ["cell","places","most"] (p9 an5):=.mk'
set_option maxHeartbeats 1000000 in
theorem aT5 {fR:Addr} {fdR:FuncData} (F:Fun K "_law_thick" "_law_thick" an5 f fd) (B:Bn mg) (FR:Fq K mg "_law_row" aZ0 fR fdR ["cell","many","size"]):A4 P w K mg base CX0 2 f fd ["cell","places","most"] (ay4 K):=by
 have GR:A4 P w K mg base CX0 1 fR fdR ["cell","many","size"] (bq0 K):=bu2 FR.F B
 refine F.ok Z3 (fun cdv A outer s H vs Q E hr h=>?_)
 obtain⟨c,n,M,rfl,hn,hM,q⟩:=h
 have hsl:=O3
 have hlen:=aI2 n hn
 refine⟨_,d8 (y7 (i:=0) Z3.nd rfl (Or.inl rfl) (m8 E6 (pv 0) (m8 V4 c9 c9)))
  (d8 (y7 (i:=3) Z3.nd rfl (Or.inl rfl) (L8 d3))
  (d8 (T7 PassesOwn.never rfl (aa2 rfl B.range (b7 (pv 1) d3)) (B4 (i := 4) Z3.nd rfl (Or.inl rfl))
   (k8 (T7 PassesOwn.never rfl (aH6 rfl B.range (b7 (m8 G3 (pv 4) c9) (b7 (pv 1) d3))) (B4 (i := 5) Z3.nd rfl (Or.inl rfl))
    (k8 (J6 (aa7 PySem.F.plainAttrs_list PySem.F.slot_list_append PySem.F.type_list_append L7 (pv 3) (b7 (F5 (b7 (pv 4) (b7 (pv 5) d3))) d3)))))))
  (d8 (y7 (i:=6) Z3.nd rfl (Or.inl rfl) (C1 G8 (L8 (b7 c9 (b7 c9 (b7 (m8 G3 (pv 2) c9) d3)))) (m8 E6 (pv 0) c9) (fun _ _=>rfl)))
  (d8 (y7 (i:=7) Z3.nd rfl (Or.inl rfl) (F2 GR hr (by rfl) FR K3 (b7 (m8 F6 (pv 0) c9) (b7 (p0 y9 (by rfl) B.len PySem.boot_len (b7 (pv 3) d3)) (b7 (p0 (ae2 rfl) (by rfl) B.max (by rfl) (b7 (pv 6) (b7 c9 d3))) d3)))))
  (d8 (y7 (i:=8) Z3.nd rfl (Or.inl rfl) (L8 d3))
  (d8 (T7 PassesOwn.never rfl (aa2 rfl B.range (b7 (p0 y9 (by rfl) B.len PySem.boot_len (b7 (pv 3) d3)) d3)) (B4 (i := 9) Z3.nd rfl (Or.inl rfl))
   (k8 (F1 (x6 aT4 (C1 G8 (pv 7) (pv 9) (fun _ _ => rfl)) c9 (B1 _))
    (k8 (J6 (aa7 PySem.F.plainAttrs_list PySem.F.slot_list_append PySem.F.type_list_append L7 (pv 8) (b7 (m8 bE6 (C1 G8 (pv 3) (pv 9) (fun _ _=>rfl)) (F5 (b7 (p0 (ae1 rfl) (by rfl) B.min (by rfl) (b7 (C1 G8 (pv 7) (pv 9) (fun _ _=>rfl)) (b7 (pv 2) d3))) d3))) d3)))) A3)))
  (k8 (B8 (pv 8))))))))),?_⟩
 refine⟨_,rfl,_,_,rfl,rfl,⟨by decide,by decide,by decide⟩,_,_,rfl,rfl,p60,?_⟩
 refine M7 fun c1 _=>?_
 refine⟨by show 0<=d7;omega,fun l hl=>?_⟩
 refine⟨_,rfl,n,rfl,by omega,by omega,W8 (lo:=0) (n:=n) (fun i σ H1=>∃ a b zs,σ=[some (.int c1),some (.int n),some (.int M),some (.ref l),a,b,none,none,none,none]/\B3 H H1/\H1 l=some (.lst zs)/\v9 K H1 zs ((C5 i).flatMap fun j=>al9 j (n - (j+1))))
  ⟨none,none,[],rfl,d4 hl,c7,.nil⟩ ?_ ?_⟩
 ·rintro i σ H1 hi ⟨a,b,zs,rfl,s1,h1,t1⟩
  refine⟨_,rfl,_,_,rfl,rfl,_,rfl,_,_,rfl,⟨by omega,by omega,by omega,by omega⟩,W8 (lo:=0+(i:Int)+1) (fun d σ H2=>∃ b zs,σ=[some (.int c1),some (.int n),some (.int M),some (.ref l),some (.int (0+i)),b,none,none,none,none]/\B3 H H2/\H2 l=some (.lst zs)/\v9 K H2 zs (((C5 i).flatMap fun j=>al9 j (n - (j+1)))++al9 i d))
   ⟨b,zs,rfl,s1,h1,by simpa [al9] using t1⟩ ?_ ?_⟩
  ·rintro d σ H2 hd ⟨b,zs,rfl,s2,h2,t2⟩
   have hlz:=t2.len
   have hpart:=bv5 n (i+1) (by omega)
   rw[aC0,m5]at hpart
   have hrow:∀ m,(al9 i m).length=m:=fun m=>by simp[al9]
   rw[m5,hrow]at hlz
   rw[hrow]at hpart
   refine⟨_,rfl,.inl ⟨rfl,_,SqL.of h2⟩,_,rfl,_,rfl,(by show 2<=d7;decide),fun p hp=>?_⟩
   have hlp:l≠p:=t8 h2 hp
   have h2':(upd H2 p (.tup [.int (0+(i:Int)),.int (0+(i:Int)+1+(d:Int))])) l=some (.lst zs):=by rw[p8 hlp];exact h2
   refine⟨l,zs,_,rfl,rfl,h2',by omega,?_⟩
   refine⟨_,_,rfl,(s2.trans (d4 hp)).upd hl,c7,?_⟩
   rw[bj6,<- E3]
   refine v9.updL h2' (v9.append (B3.tups (d4 hp) t2) (v9.one (SqT.of ?_)))
   rw[c7]
   simp
  ·rintro σ H2 ⟨b,zs,rfl,s2,h2,t2⟩
   refine⟨_,_,zs,rfl,s2,h2,?_⟩
   rw[aC0]
   have e:((n:Int) - (0+(i:Int)+1)).toNat=n - (i+1):=by omega
   rw[e]at t2
   exact t2
 ·rintro σ H1 ⟨a,b,zs,rfl,s1,h1,t1⟩
  replace t1:v9 K H1 zs (af5 n):=t1
  have hzl:=t1.len
  obtain⟨v,hv,hv2⟩:=bp2 M hM (c1 % 3) ⟨N7 _ (by decide),K1 _ (by decide)⟩
  refine⟨_,rfl,_,_,rfl,rfl,(by show 3<=d7;decide),fun l3 f3=>?_⟩
  have s3:=d4 (o:=.lst [.int 2,.int 4,.int ((M:Int)+1)]) f3
  refine⟨_,rfl,_,_,rfl,rfl,(by show (0:Int)<3;decide),l3,_,_,_,rfl,rfl,SqL.of c7,hv,?_⟩
  have g3:=s3 _ _ h1
  obtain⟨z,hz,hz1,hz2⟩:∃ z:Nat,(if (2:Int) > v then 2 else v)=(z:Int)/\1<=z/\z<=100000000:=⟨(if (2:Int) > v then 2 else v).toNat,by split<;>omega,by split<;>omega,by split<;>omega⟩
  refine⟨_,rfl,_,_,rfl,rfl,⟨by decide,by decide⟩,_,rfl,l,_,rfl,.inl (SqL.of g3),_,rfl,_,_,rfl,c1 / 3,zs.length,z,congrArg (fun u:Int=>[V.int (c1 / 3),.int zs.length,.int u]) hz,by omega,hz1,hz2,fun rl ts H4 htl s4 fr g4=>?_⟩
  have t4:=(s3.trans s4).tups t1
  have g4l:=s4 _ _ g3
  have s04:=s1.trans (s3.trans s4)
  refine⟨by show 0<=d7;omega,fun tl ft=>?_⟩
  have s5:=d4 (o:=.lst []) ft
  have g5l:=s5 _ _ g4l
  have g5r:=s5 _ _ g4
  have t5:=s5.tups t4
  have ftH:H tl=none:=s04.free ft
  have ntl:l≠tl:=t8 g4l ft
  have ntr:rl≠tl:=t8 g4 ft
  refine⟨_,rfl,l,_,rfl,.inl (SqL.of g5l),(zs.length:Int),rfl,by omega,by omega,?_⟩
  rw[u6]
  refine W8 (lo:=0) (n:=zs.length) (fun i σ H2=>∃ (us:List V) (ks:List (List Int)) (e9:Option V),σ=[some (.int c1),some (.int n),some (.int M),some (.ref l),a,b,some (.int v),some (.ref rl),some (.ref tl),e9]/\B3 H H2/\H2 l=some (.lst zs)/\H2 rl=some (.lst (ts.map V.int))/\H2 tl=some (.lst us)/\v9 K H2 zs (af5 n)/\v9 K H2 us ks/\(∀ k∈ks,bN9 n k)/\us.length<=i)
   ⟨[],[],none,rfl,s04.trans s5,g5l,g5r,c7,t5,.nil,(fun k hk=>absurd hk ac0),d6 _⟩ ?_ ?_
  ·rintro i σ H2 hi ⟨us,ks,e9,rfl,sa,gl,gr,gt,tz,tu,htr,hul⟩
   have e0:((0:Int)+(i:Int))=(i:Int):=by omega
   rw[e0]
   refine F0 ?_
   have hti:i<ts.length:=by omega
   refine⟨_,rfl,_,rfl,rl,_,_,_,rfl,rfl,SqL.of gr,V7 hti,_,_,rfl,rfl,_,rfl,?_⟩
   refine aa9 (fun h=>?_) (fun h=>?_)
   ·obtain⟨y,hy⟩:∃ y,zs[i]?=some y:=⟨_,i6 hi⟩
    obtain⟨pa,pk,rfl,hk',hq⟩:=tz.get hy
    obtain⟨u,v',huv,hvn,rfl⟩:=bk5 (j0 hk')
    refine⟨_,rfl,.inl ⟨rfl,_,SqL.of gt⟩,_,rfl,_,rfl,l,_,_,_,rfl,rfl,SqL.of gl,A1 hy,_,rfl,_,rfl,rl,_,_,_,rfl,rfl,SqL.of gr,V7 hti,_,rfl,_,_,rfl,(by show 1<=d7;decide),fun t1' ft1=>?_⟩
    have sb:=d4 (o:=.tup [V.int (if (M:Int)<ts.getD i 0 then (M:Int) else ts.getD i 0)]) ft1
    refine⟨pa,t1',_,_,rfl,rfl,sb.seqT hq,SqT.of c7,by simp,by simp;omega,fun h=>absurd h (by simp),fun _ t2' ft2=>?_⟩
    generalize (if (M:Int)<ts.getD i 0 then (M:Int) else ts.getD i 0)=m at sb ft2
    have sc:=sb.trans (d4 (o:=.tup (([(u:Int),(v':Int)]:List Int).map V.int++[V.int m])) ft2)
    have gtc:=sc _ _ gt
    refine⟨tl,us,_,rfl,rfl,gtc,by omega,?_⟩
    refine⟨us++[.ref t2'],ks++[[(u:Int),(v':Int),m]],_,rfl,(sa.trans sc).upd ftH,by rw[p8 ntl];exact sc _ _ gl,by rw[p8 ntr];exact sc _ _ gr,c7,v9.updL gtc (sc.tups tz),v9.updL gtc (v9.append (sc.tups tu) (v9.one (SqT.of ?_))),fun k hk=>?_,by rw[m5,O7];omega⟩
    ·rw[c7];rfl
    ·rcases u9.mp hk with hk | hk
     ·exact htr k hk
     ·exact⟨u,v',m,B9.mp hk,by omega,hvn⟩
   ·exact⟨us,ks,_,rfl,sa,gl,gr,gt,tz,tu,htr,by omega⟩
  ·rintro σ H2 ⟨us,ks,e9,rfl,sa,gl,gr,gt,tz,tu,htr,hul⟩
   exact⟨_,rfl,q tl us ks H2 sa ftH gt tu htr (by have:=tu.len;have:=tz.len;omega)⟩
def bK1 (K:W.Frag):Sp:=fun vs H Q _=>∃ (n:Nat) (a:Addr) (zs:List V) (ks:List (List Int)),vs=[.int n,.ref a]/\n<=24/\SqL K H a zs/\v9 K H zs ks/\(∀ k∈ks,bN9 n k)/\∀ (l:Addr) (ts:List Int) (H':Hp),ts.length=n->B3 H H'->H l=none->H' l=some (.lst (ts.map V.int))->Q (.ref l) H'
theorem am3:B6 ["places","triples","counts","one","other","many"] ["places","triples"] (p9 aS1):=.mk'
theorem bR8 (F:Fun K "_law_thick_counts" "_law_thick_counts" aS1 f fd) (B:Bn mg):A4 P w K mg base CX0 1 f fd ["places","triples"] (bK1 K):=by
 refine F.ok am3 (fun cdv A outer s H vs Q E hr h=>?_)
 obtain⟨n,a,zs,ks,rfl,hn,hS,hT,htr,q⟩:=h
 have hsl:=O3
 refine⟨_,d8 (y7 (i:=2) am3.nd rfl (Or.inl rfl) (m8 aC2 (L8 (b7 c9 d3)) (pv 0)))
  (d8 (T7 PassesOwn.never rfl (Z4 (pv 1)) (at9 rfl (F7 (B4 (i := 3) am3.nd rfl (Or.inl rfl)) (F7 (B4 (i := 4) am3.nd rfl (Or.inl rfl)) (F7 (B4 (i := 5) am3.nd rfl (Or.inl rfl)) Z5))))
   (d8 (R1 (m8 G3 (C1 G8 (pv 2) (pv 3) (fun _ _=>rfl)) (pv 5)) (T8 (pv 2) (pv 3) set_list))
   (k8 (R1 (m8 G3 (C1 G8 (pv 2) (pv 4) (fun _ _=>rfl)) (pv 5)) (T8 (pv 2) (pv 4) set_list)))))
  (k8 (B8 (pv 2)))),?_⟩
 have hk:=bf3 (k:=(n:Int)) (by omega) (by omega)
 refine⟨(by show 1<=d7;decide),fun l0 f0=>⟨_,rfl,l0,_,_,rfl,rfl,c7,hk.1,hk.2,by show 1*_<=d7;omega,fun l hl=>?_⟩⟩
 have s0:=d4 (o:=.lst [.int 0]) f0
 have hlH:H l=none:=s0.free hl
 rw[u6,bs1]
 have sA:=s0.trans (d4 (o:=.lst ((o9 n (0:Int)).map V.int)) hl)
 have gA:(upd (upd H l0 (.lst [.int 0])) l (.lst ((o9 n (0:Int)).map V.int))) l=some (.lst ((o9 n (0:Int)).map V.int)):=c7
 generalize upd (upd H l0 (.lst [.int 0])) l (.lst ((o9 n (0:Int)).map V.int))=HA at sA gA
 refine⟨_,rfl,a,rfl,⟨_,sA.seq hS⟩,?_⟩
 refine aj2 (K:=K) (a:=a) (xs:=zs) (fun _ σ H2=>∃ (ts:List Int) (e3 e4 e5:Option V),σ=[some (.int n),some (.ref a),some (.ref l),e3,e4,e5]/\B3 H H2/\H2 l=some (.lst (ts.map V.int))/\ts.length=n)
  ⟨o9 n 0,none,none,none,rfl,sA,gA,S8⟩ (fun i σ H2 _ ⟨_,_,_,_,_,s,_⟩=>s.seq hS) ?_ ?_
 ·rintro i x σ H2 hx ⟨ts,e3,e4,e5,rfl,s2,g2,hl2⟩
  obtain⟨pa,pk,rfl,hk',hq⟩:=hT.get hx
  obtain⟨u,v,m,rfl,hu,hv⟩:=htr _ (j0 hk')
  have hu':u<ts.length:=by omega
  refine⟨pa,_,rfl,s2.seqT hq,rfl,_,_,rfl,_,_,rfl,_,_,rfl,rfl,?_⟩
  refine⟨_,rfl,_,rfl,l,_,_,_,rfl,rfl,SqL.of g2,V7 hu',_,rfl,_,_,rfl,rfl,_,rfl,_,rfl,l,_,_,u,rfl,rfl,g2,M5 (by rw[b9];omega),?_⟩
  rw[J5]
  have hv2:v<(ts.set u (ts.getD u 0+m)).length:=by rw[B7];omega
  refine⟨_,rfl,_,rfl,l,_,_,_,rfl,rfl,SqL.of c7,V7 hv2,_,rfl,_,_,rfl,rfl,_,rfl,_,rfl,l,_,_,v,rfl,rfl,c7,M5 (by rw[b9];omega),?_⟩
  rw[J5,ak2]
  exact⟨_,_,_,_,rfl,s2.upd hlH,c7,by rw[B7,B7];exact hl2⟩
 ·rintro σ H2 ⟨ts,e3,e4,e5,rfl,s2,g2,hl2⟩
  exact⟨_,rfl,q l ts H2 hl2 s2 hlH g2⟩
theorem bU4 (x z:Int)(h:0<=z/\z<5):∃ M:Nat,atI ([.int 1,.int 2,.int 3,.int (1+x / 5 % 7),.int (1+x / 5 % 10 ^ (W2 6))]:List V) z=some (.int M)/\1<=M/\M<=1000000:=by
 have:z=0\/z=1\/z=2\/z=3\/z=4:=by omega
 rw[p6]
 rcases this with h | h | h | h | h
 ·rw[h];exact⟨1,A1 (j:=0) rfl,by decide,by decide⟩
 ·rw[h];exact⟨2,A1 (j:=1) rfl,by decide,by decide⟩
 ·rw[h];exact⟨3,A1 (j:=2) rfl,by decide,by decide⟩
 ·rw[h]
  have e:((((1+x / 5 % 7).toNat:Nat)):Int)=1+x / 5 % 7:=by omega
  exact⟨(1+x / 5 % 7).toNat,by rw[e];exact A1 (j:=3) rfl,by omega,by omega⟩
 ·rw[h]
  have e:((((1+x / 5 % 1000000).toNat:Nat)):Int)=1+x / 5 % 1000000:=by omega
  exact⟨(1+x / 5 % 1000000).toNat,by rw[e];exact A1 (j:=4) rfl,by omega,by omega⟩
def bq2:Sp:=fun vs H Q _=>∃ c:Int,vs=[.int c]/\∀ (M:Nat) (H':Hp),1<=M->M<=1000000->B3 H H'->Q (.int M) H'
theorem bP2:B6 ["cell"] ["cell"] (p9 aS3):=.mk'
set_option maxHeartbeats 4000000 in
theorem bE8 (F:Fun K "_law_most" "_law_most" aS3 f fd)(B:Bn mg):A4 P w K mg base CX0 1 f fd ["cell"] bq2:=by
 refine F.ok bP2 (fun cdv A outer s H vs Q E hr h=>?_)
 obtain⟨c,rfl,q⟩:=h
 refine⟨_,k8 (B8 (C1 G8 (L8 (b7 c9 (b7 c9 (b7 c9 (b7 (m8 G3 c9 (m8 E6 (m8 F6 (pv 0) c9) c9)) (b7 (m8 G3 c9 (m8 E6 (m8 F6 (pv 0) c9) (m8 V4 c9 c9))) d3)))))) (m8 E6 (pv 0) c9) (fun _ _=>rfl))),?_⟩
 obtain⟨M,hM,h1,h2⟩:=bU4 c (c % 5) ⟨N7 _ (by decide),K1 _ (by decide)⟩
 have pp:(0:Int)<10 ^ (W2 6):=am7 (by decide)
 refine⟨_,rfl,_,_,rfl,rfl,⟨by decide,by decide⟩,?_⟩
 refine⟨_,_,rfl,rfl,(by show (0:Int)<7;decide),?_⟩
 refine⟨_,_,rfl,rfl,?_⟩
 refine⟨_,rfl,_,_,rfl,rfl,⟨by decide,by decide⟩,?_⟩
 refine⟨_,_,rfl,rfl,⟨by decide,by decide,by decide⟩,?_⟩
 refine⟨_,_,rfl,rfl,pp,?_⟩
 refine⟨_,_,rfl,rfl,?_⟩
 refine⟨(by show 5<=d7;decide),fun l hl=>?_⟩
 refine⟨_,rfl,_,_,rfl,rfl,(by show (0:Int)<5;decide),l,_,_,_,rfl,rfl,SqL.of c7,hM,?_⟩
 exact q M _ h1 h2 (d4 hl)
end
section
variable {K:W.Frag} {mg:Str->Option Value} {base:Heap}
def bJ9 (K:W.Frag):Sp:=fun vs H Q _=>∃ (c:Int) (n M:Nat),vs=[.int c,.int n,.int M]/\1<=n/\n<=24/\1<=M/\M<=1000000/\∀ (l:Addr) (ts:List Int) (H':Hp),ts.length=n->B3 H H'->H l=none->H' l=some (.lst (ts.map V.int))->Q (.ref l) H'
theorem aH4:B6 ["cell","places","most","tally","at","way"] ["cell","places","most"] (p9 br2):=.mk'
def aY5 (H:Hp)(c n M y:Int)(m j:Nat)(σ:St)(H2:Hp):Prop:=
 ∃ (l:Addr) (ts:List Int),σ=[some (.int c),some (.int n),some (.int M),some (.ref l),some (.int j),some (.int y)]/\B3 H H2/\H l=none/\H2 l=some (.lst (ts.map V.int))/\ts.length=m
set_option maxHeartbeats 4000000 in
theorem bR5 {fR fC:Addr} {fdR fdC:FuncData} (F:Fun K "_law_thick_tally" "_law_thick_tally" br2 f fd) (B:Bn mg) (FR:Fq K mg "_law_row" aZ0 fR fdR ["cell","many","size"])
  (FT:Fq K mg "_law_thick" an5 fT fdT ["cell","places","most"]) (FC:Fq K mg "_law_thick_counts" aS1 fC fdC ["places","triples"]) :
  A4 P w K mg base CX0 3 f fd ["cell","places","most"] (bJ9 K):=by
 have GR:A4 P w K mg base CX0 2 fR fdR ["cell","many","size"] (bq0 K):=(bu2 FR.F B).mono (by decide)
 have GT:A4 P w K mg base CX0 2 fT fdT ["cell","places","most"] (ay4 K):=aT5 FT.F B FR
 have GC:A4 P w K mg base CX0 2 fC fdC ["places","triples"] (bK1 K):=(bR8 FC.F B).mono (by decide)
 refine F.ok aH4 (fun cdv A outer s H vs Q E hr h=>?_)
 obtain⟨c,n,M,rfl,hn1,hn2,hM1,hM2,q⟩:=h
 have hsl:=O3
 refine⟨_,d8 (y7 (i:=0) aH4.nd rfl (Or.inl rfl) (m8 E6 (pv 0) (m8 V4 c9 c9)))
  (d8 (y7 (i:=3) aH4.nd rfl (Or.inl rfl) (F2 GC hr (by rfl) FC K3 (b7 (pv 1) (b7 (F2 GT hr (by rfl) FT K3 (b7 (m8 F6 (pv 0) c9) (b7 (pv 1) (b7 (pv 2) d3)))) d3))))
  (d8 (y7 (i:=4) aH4.nd rfl (Or.inl rfl) (m8 E6 (m8 F6 (pv 0) c9) (pv 1)))
  (d8 (y7 (i:=5) aH4.nd rfl (Or.inl rfl) (m8 E6 (pv 0) c9))
  (O1 (F1 (x6 P4 (pv 5) c9 (B1 _)) (k8 (R1 (m8 G3 (C1 G8 (pv 3) (pv 4) (fun _ _=>rfl)) c9) (T8 (pv 3) (pv 4) set_list))) A3)
  (O1 (F1 (x6 P4 (pv 5) c9 (B1 _))
   (d8 (R1 (m8 G3 (m8 G3 (C1 G8 (pv 3) (pv 4) (fun _ _=>rfl)) c9) (m8 E6 (m8 F6 (pv 0) c9) (m8 W7 (pv 2) (pv 1)))) (T8 (pv 3) (pv 4) set_list))
   (k8 (R1 (m8 G3 (C1 G8 (pv 3) (m8 E6 (m8 F6 (pv 0) c9) (pv 1)) (fun _ _=>rfl)) c9) (T8 (pv 3) (m8 E6 (m8 F6 (pv 0) c9) (pv 1)) set_list)))) A3)
  (O1 (F1 (x6 P4 (pv 5) c9 (B1 _)) (k8 (R1 (m8 P8 (m8 P8 (C1 G8 (pv 3) (pv 4) (fun _ _=>rfl)) c9) (m8 E6 (m8 F6 (pv 0) c9) (m8 V4 c9 c9))) (T8 (pv 3) (pv 4) set_list))) A3)
  (O1 (F1 (x6 P4 (pv 5) c9 (B1 _)) (k8 (R1 (m8 E6 (m8 F6 (pv 0) c9) (m8 V4 c9 c9)) (T8 (pv 3) (pv 4) set_list))) A3)
  (O1 (F1 (x6 P4 (pv 5) c9 (B1 _)) (k8 (R1 (m8 W7 (pv 2) (p0 (ae2 rfl) (by rfl) B.max (by rfl) (b7 c9 (b7 (m8 P8 (pv 1) c9) d3)))) (T8 (pv 3) (pv 4) set_list))) A3)
  (O1 (F1 (x6 aT4 (pv 5) c9 (B1 _)) (k8 (y7 (i:=3) aH4.nd rfl (Or.inl rfl) (F2 GR hr (by rfl) FR K3 (b7 (m8 F6 (pv 0) c9) (b7 (pv 1) (b7 (m8 G3 (m8 W7 (pv 2) (pv 1)) c9) d3)))))) A3)
  (k8 (B8 (pv 3)))))))))))),?_⟩
 refine⟨_,rfl,_,_,rfl,rfl,⟨by decide,by decide,by decide⟩,_,_,rfl,rfl,p60,?_⟩
 refine M7 fun c1 _=>?_
 refine⟨_,rfl,_,rfl,_,_,rfl,rfl,⟨by decide,by decide⟩,_,rfl,_,rfl,c1 / 12,n,M,rfl,hn2,hM2,fun tl zs ks H1 s1 f1 g1 t1 htr _=>?_⟩
 refine⟨n,tl,zs,ks,rfl,hn2,SqL.of g1,t1,htr,fun l ts H2 hl2 s2 f2 g2=>?_⟩
 have hn0:(0:Int)<(n:Int):=by omega
 obtain⟨j,hj,hjn⟩:=aN0 (c1 / 12) (n:=n) (by omega)
 refine⟨_,rfl,_,_,rfl,rfl,⟨by decide,by decide⟩,_,rfl,_,_,rfl,rfl,hn0,?_⟩
 refine aj1 (congrArg V.int hj) ?_
 refine⟨_,rfl,_,_,rfl,rfl,(by show (0:Int)<12;decide),?_⟩
 refine M7 fun y _=>?_
 have step:∀ (l:Addr) (ts:List Int) (H2:Hp) (i:Nat) (v:Int),B3 H H2->H l=none->H2 l=some (.lst (ts.map V.int))->ts.length=n->aY5 H c1 n M y n j [some (.int c1),some (.int n),some (.int M),some (.ref l),some (.int j),some (.int y)] (upd H2 l (.lst ((ts.set i v).map V.int))):=
  fun l ts H2 i v s f g hl=>⟨l,_,rfl,s.upd f,f,c7,by rw[B7];exact hl⟩
 refine⟨aY5 H c1 n M y n j,?_,?_⟩
 ·refine⟨_,rfl,rfl,_,rfl,?_⟩
  refine aa9 (fun h=>?_) (fun h=>?_)
  ·refine⟨_,rfl,_,rfl,l,_,_,_,rfl,rfl,SqL.of g2,V7 (by omega),_,_,rfl,rfl,_,rfl,_,rfl,l,_,_,j,rfl,rfl,g2,M5 (by rw[b9];omega),?_⟩
   rw[J5]
   exact step l ts H2 j _ (s1.trans s2) (s1.free f2) g2 hl2
  ·exact⟨l,ts,rfl,s1.trans s2,s1.free f2,g2,hl2⟩
 rintro σ' H' ⟨l,ts,rfl,s1,fl,g2,hl2⟩
 clear f2
 refine⟨aY5 H c1 n M y n j,?_,?_⟩
 ·refine⟨_,rfl,rfl,_,rfl,?_⟩
  refine aa9 (fun h=>?_) (fun h=>?_)
  ·have hMn:(0:Int)<(M:Int)*(n:Int):=Int.mul_pos (by omega) (by omega)
   refine⟨_,rfl,_,rfl,l,_,_,_,rfl,rfl,SqL.of g2,V7 (by omega),_,_,rfl,rfl,_,rfl,_,_,rfl,rfl,⟨by decide,by decide⟩,_,rfl,_,rfl,_,_,rfl,rfl,.inr ⟨by omega,by omega⟩,_,_,rfl,rfl,hMn,_,_,rfl,rfl,_,rfl,_,rfl,l,_,_,j,rfl,rfl,g2,M5 (by rw[b9];omega),?_⟩
   rw[J5]
   obtain⟨i,hi,hin⟩:=aN0 (c1 / 77) (n:=n) (by omega)
   have hl3:(ts.set j (ts.getD j 0+1+c1 / 24 % ((M:Int)*(n:Int)))).length=n:=by rw[B7];exact hl2
   refine⟨_,rfl,_,rfl,_,_,rfl,rfl,⟨by decide,by decide⟩,_,rfl,_,_,rfl,rfl,hn0,l,_,_,_,rfl,rfl,SqL.of c7,by rw[hi];exact V7 (by omega),_,_,rfl,rfl,_,rfl,_,rfl,_,_,rfl,rfl,⟨by decide,by decide⟩,_,rfl,_,_,rfl,rfl,hn0,l,_,_,i,rfl,rfl,c7,by rw[hi];exact M5 (by rw[b9];omega),?_⟩
   rw[J5,ak2]
   exact⟨l,_,rfl,s1.upd fl,fl,c7,by rw[B7];exact hl3⟩
  ·exact⟨l,ts,rfl,s1,fl,g2,hl2⟩
 rintro σ' H' ⟨l,ts,rfl,s1,fl,g2,hl2⟩
 refine⟨aY5 H c1 n M y n j,?_,?_⟩
 ·refine⟨_,rfl,rfl,_,rfl,?_⟩
  refine aa9 (fun h=>?_) (fun h=>?_)
  ·refine⟨_,rfl,_,rfl,l,_,_,_,rfl,rfl,SqL.of g2,V7 (by omega),_,_,rfl,rfl,_,rfl,_,_,rfl,rfl,⟨by decide,by decide⟩,_,_,rfl,rfl,⟨by decide,by decide,by decide⟩,_,_,rfl,rfl,p50,_,_,rfl,rfl,_,rfl,_,rfl,l,_,_,j,rfl,rfl,g2,M5 (by rw[b9];omega),?_⟩
   rw[J5]
   exact step l ts _ j _ s1 fl g2 hl2
  ·exact⟨l,ts,rfl,s1,fl,g2,hl2⟩
 rintro σ' H' ⟨l,ts,rfl,s1,fl,g2,hl2⟩
 refine⟨aY5 H c1 n M y n j,?_,?_⟩
 ·refine⟨_,rfl,rfl,_,rfl,?_⟩
  refine aa9 (fun h=>?_) (fun h=>?_)
  ·refine⟨_,rfl,_,_,rfl,rfl,⟨by decide,by decide⟩,_,_,rfl,rfl,⟨by decide,by decide,by decide⟩,_,_,rfl,rfl,p58,_,rfl,_,rfl,l,_,_,j,rfl,rfl,g2,M5 (by rw[b9];omega),?_⟩
   rw[J5]
   exact step l ts _ j _ s1 fl g2 hl2
  ·exact⟨l,ts,rfl,s1,fl,g2,hl2⟩
 rintro σ' H' ⟨l,ts,rfl,s1,fl,g2,hl2⟩
 refine⟨aY5 H c1 n M y n j,?_,?_⟩
 ·refine⟨_,rfl,rfl,_,rfl,?_⟩
  refine aa9 (fun h=>?_) (fun h=>?_)
  ·refine⟨_,rfl,_,rfl,_,_,rfl,rfl,_,_,rfl,_,_,rfl,rfl,.inl ⟨by omega,by omega⟩,_,rfl,_,rfl,l,_,_,j,rfl,rfl,g2,M5 (by rw[b9];omega),?_⟩
   rw[J5]
   exact step l ts _ j _ s1 fl g2 hl2
  ·exact⟨l,ts,rfl,s1,fl,g2,hl2⟩
 rintro σ' H' ⟨l,ts,rfl,s1,fl,g2,hl2⟩
 refine⟨aY5 H c1 n M y n j,?_,?_⟩
 ·refine⟨_,rfl,_,_,rfl,rfl,_,rfl,?_⟩
  refine aa9 (fun h=>?_) (fun h=>?_)
  ·have hMn:(M*n+1:Nat)<=100000000:=by
    have:M*n<=1000000*24:=Nat.mul_le_mul hM2 hn2
    omega
   refine⟨_,rfl,_,_,rfl,rfl,⟨by decide,by decide⟩,_,rfl,_,rfl,_,rfl,_,_,rfl,rfl,.inr ⟨by omega,by omega⟩,_,_,rfl,rfl,c1 / 12,n,M*n+1,by rw[Int.natCast_add,Int.natCast_mul];rfl,by omega,by omega,hMn,fun l' us H3 hu s3 f3 g3=>?_⟩
   exact⟨l',us,rfl,s1.trans s3,s1.free f3,g3,hu⟩
  ·exact⟨l,ts,rfl,s1,fl,g2,hl2⟩
 rintro σ' H' ⟨l,ts,rfl,s1,fl,g2,hl2⟩
 exact⟨_,rfl,q l ts _ hl2 s1 fl g2⟩
def aL1 (K:W.Frag):Sp:=fun vs H Q _=>∃ c:Int,vs=[.int c]/\∀ (x l:Addr) (ts:List Int) (M:Nat) (H':Hp),X7 ts->1<=M->M<=1000000->B3 H H'->H' l=some (.lst (ts.map V.int))->H' x=some (.tup [.ref l,.int M])->Q (.ref x) H'
theorem aq2:B6 ["cell","places","most"] ["cell"] (p9 aB7):=.mk'
set_option maxHeartbeats 1000000 in
theorem bu6 {fR fC fM fY:Addr}{fdR fdC fdM fdY:FuncData}(F:Fun K "_law_drawn" "_law_drawn" aB7 f fd)(B:Bn mg)(FR:Fq K mg "_law_row" aZ0 fR fdR ["cell","many","size"])
  (FT:Fq K mg "_law_thick" an5 fT fdT ["cell","places","most"])(FC:Fq K mg "_law_thick_counts" aS1 fC fdC ["places","triples"])
  (FM:Fq K mg "_law_most" aS3 fM fdM ["cell"])(FY:Fq K mg "_law_thick_tally" br2 fY fdY ["cell","places","most"]) :
  A4 P w K mg base CX0 4 f fd ["cell"] (aL1 K):=by
 have GM:A4 P w K mg base CX0 3 fM fdM ["cell"] bq2:=(bE8 FM.F B).mono (by decide)
 have GY:A4 P w K mg base CX0 3 fY fdY ["cell","places","most"] (bJ9 K):=bR5 FY.F B FR FT FC
 refine F.ok aq2 (fun cdv A outer s H vs Q E hr h=>?_)
 obtain⟨c,rfl,q⟩:=h
 have hsl:=O3
 refine⟨_,d8 (y7 (i:=0) aq2.nd rfl (Or.inl rfl) (m8 E6 (pv 0) (m8 V4 c9 c9)))
  (d8 (y7 (i:=1) aq2.nd rfl (Or.inl rfl) (m8 G3 c9 (m8 E6 (pv 0) c9)))
  (O1 (F1 (x6 P4 (m8 E6 (m8 F6 (pv 0) c9) c9) c9 (B1 _)) (k8 (y7 (i:=1) aq2.nd rfl (Or.inl rfl) (m8 G3 c9 (m8 E6 (m8 F6 (pv 0) c9) c9)))) A3)
  (d8 (y7 (i:=2) aq2.nd rfl (Or.inl rfl) (F2 GM hr (by rfl) FM K3 (b7 (m8 F6 (pv 0) c9) d3)))
  (k8 (B8 (F5 (b7 (F2 GY hr (by rfl) FY K3 (b7 (m8 F6 (pv 0) c9) (b7 (pv 1) (b7 (pv 2) d3)))) (b7 (pv 2) d3)))))))),?_⟩
 refine⟨_,rfl,_,_,rfl,rfl,⟨by decide,by decide,by decide⟩,_,_,rfl,rfl,p60,?_⟩
 refine M7 fun c1 _=>?_
 refine⟨_,rfl,_,_,rfl,rfl,(by show (0:Int)<8;decide),_,_,rfl,rfl,?_⟩
 have hb1:0<=c1 % 8:=N7 _ (by decide)
 have hb2:c1 % 8<8:=K1 _ (by decide)
 refine aj1 (congrArg V.int (show 1+c1 % 8=(((1+c1 % 8).toNat:Nat):Int) by omega)) ?_
 refine⟨fun σ H2=>H2=H/\∃ n:Nat,1<=n/\n<=24/\σ=[some (.int c1),some (.int n),none],?_,?_⟩
 ·refine⟨_,rfl,_,_,rfl,rfl,⟨by decide,by decide⟩,_,_,rfl,rfl,(by show (0:Int)<8;decide),rfl,_,rfl,?_⟩
  refine aa9 (fun h=>?_) (fun h=>?_)
  ·refine⟨_,rfl,_,_,rfl,rfl,⟨by decide,by decide⟩,_,_,rfl,rfl,(by show (0:Int)<16;decide),_,_,rfl,rfl,?_⟩
   have hb3:0<=c1 / 64 % 16:=N7 _ (by decide)
   have hb4:c1 / 64 % 16<16:=K1 _ (by decide)
   refine aj1 (congrArg V.int (show 9+c1 / 64 % 16=(((9+c1 / 64 % 16).toNat:Nat):Int) by omega)) ?_
   exact⟨rfl,_,by omega,by omega,rfl⟩
  ·exact⟨rfl,_,by omega,by omega,rfl⟩
 rintro σ' H' ⟨rfl,n,hn1,hn2,rfl⟩
 refine⟨_,rfl,_,_,rfl,rfl,⟨by decide,by decide⟩,_,rfl,fun M H1 hM1 hM2 s1=>?_⟩
 refine⟨_,rfl,_,_,rfl,rfl,⟨by decide,by decide⟩,_,rfl,_,rfl,c1 / 320,n,M,rfl,hn1,hn2,hM1,hM2,fun l ts H2 hl2 s2 f2 g2=>?_⟩
 refine⟨_,rfl,(by show 2<=d7;decide),fun x hx=>?_⟩
 have s3:=d4 (o:=.tup [.ref l,.int M]) hx
 exact q x l ts M _ ⟨by omega,by omega⟩ hM1 hM2 ((s1.trans s2).trans s3) (s3 _ _ g2) c7
end
section
variable {K:W.Frag} {mg:Str->Option Value} {base:Heap}
def bd2 (K:W.Frag):Sp:=fun vs H Q _=>∃ (a:Addr) (ns:List Int) (M r:Nat),vs=[.ref a,.int M,.int r]/\SqL K H a (ns.map V.int)/\M<=1000000/\r<=100/\ns.length<64/\∀ (H':Hp),B3 H H'->Q (.int (Y5 ns M r)) H'
theorem aL7:B6 ["tally","most","r","numbers","others"] ["tally","most","r"] (p9 aB4):=.mk'
theorem bu5 (F:Fun K "_law_room" "_law_room" aB4 f fd) (B:Bn mg):A4 P w K mg base CX0 1 f fd ["tally","most","r"] (bd2 K):=by
 refine F.ok aL7 (fun cdv A outer s H vs Q E hr h=>?_)
 obtain⟨a,ns,M,r,rfl,hS,hM,hr1,h64,q⟩:=h
 have hsl:=O3
 have nd2:(["number","most","r"]:List Str).Nodup:=by decide +kernel
 refine⟨_,d8 (y7 (i:=3) aL7.nd rfl (Or.inl rfl) (p0 bb1 (by rfl) B.sorted (by rfl) (b7 (pv 0) d3)))
  (d8 (J6 (bQ8 PySem.F.plainAttrs_list PySem.F.slot_list_reverse PySem.F.type_list_reverse aZ8 (pv 3)))
  (d8 (y7 (i := 4) aL7.nd rfl (Or.inl rfl) (p0 (X8 rfl) (by rfl) B.sum (by rfl) (b7
   (X3 (N' := ["number", "most", "r"]) (lk := [none, some 1, some 2]) rfl (Z4 (R3 Z2 (pv 3) (T5 (pv 2)) X2)) (by rfl) rfl (by decide +kernel) (by exact ⟨rfl, rfl, trivial⟩) (by rfl) (by exact LkL.ok ⟨⟨rfl, Or.inl rfl, rfl, Or.inl rfl⟩, ⟨rfl, Or.inl rfl, rfl, Or.inl rfl⟩, trivial⟩)
    (fun _ _ _=>B4 (i:=0) nd2 rfl (Or.inl rfl)) (fun _ _ _=>ac2) (fun _ _ _=>p0 (ae1 rfl) (by rfl) B.min (by rfl) (b7 (pv 0) (b7 (m8 W7 (pv 1) (pv 2)) d3)))) d3)))
  (k8 (B8 (m8 P8 (m8 G3 (m8 W7 (m8 W7 (pv 1) (pv 2)) (m8 P8 (pv 2) c9)) (pv 4)) (p0 (X8 rfl) (by rfl) B.sum (by rfl) (b7 (R3 Z2 (pv 3) X2 (T5 (pv 2))) d3))))))),?_⟩
 refine⟨_,rfl,a,ns,rfl,.inl hS,by omega,fun l zs0 hl hp hs=>?_⟩
 obtain rfl:=bD2 hp hs
 have sA:=d4 (o:=.lst ((up2 ns).map V.int)) hl
 refine⟨_,rfl,.inl ⟨rfl,_,SqL.of c7⟩,l,_,rfl,rfl,c7,?_⟩
 rw[ak2,<- aP3]
 have sB:=d4 (o:=.lst ((up2 ns).reverse.map V.int)) hl
 have gB:(upd H l (.lst ((up2 ns).reverse.map V.int))) l=some (.lst ((up2 ns).reverse.map V.int)):=c7
 have hlen:(up2 ns).reverse.length=ns.length:=by rw[ae6,ap6]
 generalize upd H l (.lst ((up2 ns).reverse.map V.int))=H0 at sB gB
 generalize hz:(up2 ns).reverse=zs at gB hlen
 refine⟨_,rfl,_,rfl,_,rfl,l,_,rfl,SqL.of gB,fun c hc=>?_⟩
 rw[ac9]
 have s1:=d4 (o:=.lst ((zs.drop r).map V.int)) hc
 refine⟨c,rfl,⟨_,SqL.of c7⟩,fun D hD=>al3 (K:=K) (a:=c) (D:=D) (ys:=(zs.drop r).map V.int) (fun i xs σ' H'=>∃ v,σ'=[v,some (.int M),some (.int r)]/\B3 H0 H'/\H' c=some (.lst ((zs.drop r).map V.int))/\xs=(((zs.drop r).take i).map (mn ((M:Int)*(r:Int)))).map V.int/\H' D=some (.lst xs))
   ⟨none,rfl,s1.trans (d4 hD),d4 hD _ _ c7,by simp,c7⟩ (by rw[b9,C0];omega) (fun i xs σ' H' hi ⟨_,_,s3,g3,e3,h3⟩=>⟨SqL.of g3,h3,by rw[e3,b9,b9,u5,C0];omega⟩) ?_ ?_⟩
 ·rintro i xs x σ' H' N kN hx ⟨v,rfl,s3,g3,rfl,h3⟩
  obtain⟨z,hz',rfl⟩:=Z6 hx
  refine F0 (X6 ?_)
  refine⟨_,rfl,_,rfl,_,rfl,_,_,rfl,rfl,.inl ⟨by omega,by omega⟩,_,_,rfl,?_⟩
  refine⟨h3,kN _ _ _ ⟨_,rfl,s3.upd (s1.free hD),?_,?_,c7⟩⟩
  ·rw[p8 (t8 c7 hD)];exact g3
  ·rw[G0,hz',p7,p7];rfl
 ·rintro xs σ' H3 ⟨v,rfl,s3,g3,rfl,h3⟩
  rw[o6 (by rw[b9];exact d6 _)]at h3
  refine⟨D,_,rfl,SqL.of h3,?_⟩
  refine⟨_,rfl,_,rfl,_,_,rfl,rfl,.inl ⟨by omega,by omega⟩,_,rfl,_,_,rfl,rfl,_,_,rfl,rfl,.inr ⟨by omega,by omega⟩,_,rfl,_,_,rfl,rfl,?_⟩
  refine⟨_,rfl,_,rfl,_,rfl,l,_,rfl,SqL.of (s3 _ _ gB),fun c2 hc2=>?_⟩
  rw[ac6]
  refine⟨c2,_,rfl,SqL.of c7,_,_,rfl,rfl,?_⟩
  have fin:=q _ (sB.trans (s3.trans (d4 (o:=.lst ((zs.take r).map V.int)) hc2)))
  rw[<- ai3 (M:=M) (r:=r) hz.symm]at fin
  exact fin
end
def prv (ks:List (List Int)):Nat->List Int
 | 0=>[0,0]
 | i+1=>[(ks.getD i []).getD 0 0,(ks.getD i []).getD 1 0]
theorem bQ5 {M:Nat}(tr:∀ k∈ks,tri n M k)(pw:ks.Pairwise ar3){u v:Nat}{m:Int}(hk:ks[i]?=some [(u:Int),(v:Int),m]):HT.lexLt (prv ks i) [(u:Int),(v:Int)]=true:=by
 have hi:i<ks.length:=by
  rcases F8 i ks.length with h | h
  ·exact h
  ·rw[C3 h]at hk;cases hk
 cases i with
 | zero =>
  obtain⟨a,b,x,e,h1,h2,_⟩:=tr _ (j0 hk)
  injection e with e1 e2
  injection e2 with e2 _
  show HT.lexLt [0,0] [(u:Int),(v:Int)]=true
  rw[HT.T9,HT.T9]
  by_cases c:(0:Int)=(u:Int)
  ·rw[if_pos c,if_neg (by omega)]
   exact decide_eq_true (by omega)
  ·rw[if_neg c]
   exact decide_eq_true (by omega)
 | succ i =>
  have h1:ks[i]'(by omega)=ks.getD i []:=by rw[j8,i6 (by omega)];rfl
  have h2:ks[i+1]'hi=[(u:Int),(v:Int),m]:=by
   rw[i6 hi]at hk
   exact Option.some.inj hk
  have h3:=v7.mp pw i (i+1) (by omega) hi (by omega)
  rw[h1,h2]at h3
  show HT.lexLt [(ks.getD i []).getD 0 0,(ks.getD i []).getD 1 0] [(u:Int),(v:Int)]=true
  rw[HT.T9,HT.T9]
  rcases h3 with z | ⟨z1,z2⟩
  ·have z':(ks.getD i []).getD 0 0<(u:Int):=z
   rw[if_neg (by omega)]
   exact decide_eq_true z'
  ·have z1':(ks.getD i []).getD 0 0=(u:Int):=z1
   have z2':(ks.getD i []).getD 1 0<(v:Int):=z2
   rw[if_pos z1',if_neg (by omega)]
   exact decide_eq_true z2'
theorem be9 {a b c d:Int}:HT.lexLt [a,b] [c,d]=true↔a<c\/(a=c/\b<d):=by
 rw[HT.T9]
 by_cases e1:a=c
 ·rw[if_pos e1,HT.T9]
  by_cases e2:b=d
  ·rw[if_pos e2]
   constructor
   ·intro h;exact absurd h (by decide)
   ·intro h;omega
  ·rw[if_neg e2,decide_eq_true_eq]
   omega
 ·rw[if_neg e1,decide_eq_true_eq]
  omega
theorem aM0 (h:ks[j]?=some k):prv ks (j+1)=two k:=by
 show [(ks.getD j []).getD 0 0,(ks.getD j []).getD 1 0]=[k.getD 0 0,k.getD 1 0]
 have e:ks.getD j []=k:=by rw[j8,h];rfl
 rw[e]
theorem bx6 (h:∀ (j:Nat) (k:List Int),ks[j]?=some k->HT.lexLt (prv ks j) (two k)=true):ks.Pairwise ar3:=by
 have key:∀ (d i:Nat) (a b:List Int),ks[i]?=some a->ks[i+1+d]?=some b->ar3 a b:=by
  intro d
  induction d with
  | zero =>
   intro i a b ha hb
   have:=h (i+1) b hb
   rw[aM0 ha]at this
   exact be9.mp this
  | succ d ih =>
   intro i a b ha hb
   have hl:i+1+d<ks.length:=by
    have:=(j5.mp hb).1
    omega
   have hc:ks[i+1+d]?=some ks[i+1+d]:=i6 hl
   have h1:=ih i a _ ha hc
   have h2:=h (i+1+(d+1)) b hb
   rw[show i+1+(d+1)=(i+1+d)+1 by omega,aM0 hc]at h2
   have h2:=be9.mp h2
   unfold ar3 at h1 ⊢
   omega
 refine v7.mpr fun i j hi hj hij=>?_
 exact key (j - (i+1)) i _ _ (i6 hi) (by rw[show i+1+(j - (i+1))=j by omega];exact i6 hj)
theorem bQ1 (T:Tld n (ks.map two)):ks.Pairwise ar3:=by
 have h1:=L4.mp T.srt
 have h2:=L4.mp (U6.mp T.nd)
 refine(h1.and h2).imp fun {a b} h=>?_
 obtain⟨hs,hn⟩:=h
 unfold two at hs hn
 unfold ar3
 generalize a.getD 0 0=a0 at hs hn ⊢
 generalize a.getD 1 0=a1 at hs hn ⊢
 generalize b.getD 0 0=b0 at hs hn ⊢
 generalize b.getD 1 0=b1 at hs hn ⊢
 unfold Tim.O4 Tim.O4 at hs
 by_cases e1:b0=a0
 ·rw[if_pos e1]at hs
  by_cases e2:b1=a1
  ·exact absurd (by rw[e1,e2]) hn
  ·rw[if_neg e2]at hs
   have:=of_decide_eq_false hs
   omega
 ·rw[if_neg e1]at hs
  have:=of_decide_eq_false hs
  omega
seal L2.PE L2.PA L2.PS L2.PSs L2.PT
section
variable {K:W.Frag} {mg:Str->Option Value} {base:Heap}
def bK0 (K:W.Frag):Sp:=fun vs H Q _=>∃ (n:Nat) (a:Addr) (zs:List V) (ks:List (List Int)),vs=[.int n,.ref a]/\n<=24/\SqT K H a zs/\v9 K H zs ks/\(∃ M:Nat,∀ k∈ks,tri n M k)/\∀ (l:Addr) (H':Hp),B3 H H'->H l=none->H' l=some (.lst ((N2 n ks).map V.int))->Q (.ref l) H'
theorem bR6 (F:Fun K "_law_thick_counts" "_law_thick_counts" aS1 f fd) (B:Bn mg):A4 P w K mg base CX0 1 f fd ["places","triples"] (bK0 K):=by
 refine F.ok am3 (fun cdv A outer s H vs Q E hr h=>?_)
 obtain⟨n,a,zs,ks,rfl,hn,hS,hT,⟨M,htr⟩,q⟩:=h
 have hsl:=O3
 refine⟨_,d8 (y7 (i:=2) am3.nd rfl (Or.inl rfl) (m8 aC2 (L8 (b7 c9 d3)) (pv 0)))
  (d8 (T7 PassesOwn.never rfl (ao1 (pv 1)) (at9 rfl (F7 (B4 (i := 3) am3.nd rfl (Or.inl rfl)) (F7 (B4 (i := 4) am3.nd rfl (Or.inl rfl)) (F7 (B4 (i := 5) am3.nd rfl (Or.inl rfl)) Z5))))
   (d8 (R1 (m8 G3 (C1 G8 (pv 2) (pv 3) (fun _ _=>rfl)) (pv 5)) (T8 (pv 2) (pv 3) set_list))
   (k8 (R1 (m8 G3 (C1 G8 (pv 2) (pv 4) (fun _ _=>rfl)) (pv 5)) (T8 (pv 2) (pv 4) set_list)))))
  (k8 (B8 (pv 2)))),?_⟩
 have hk:=bf3 (k:=(n:Int)) (by omega) (by omega)
 refine⟨(by show 1<=d7;decide),fun l0 f0=>⟨_,rfl,l0,_,_,rfl,rfl,c7,hk.1,hk.2,by show 1*_<=d7;omega,fun l hl=>?_⟩⟩
 have s0:=d4 (o:=.lst [.int 0]) f0
 have hlH:H l=none:=s0.free hl
 rw[u6,bs1]
 have e00:o9 n (0:Int)=N2 n []:=by
  refine au1 (by unfold N2;rw[S8,b9,B0]) fun i hi=>?_
  unfold N2 at hi ⊢
  rw[b9,B0]at hi
  rw[ae0 hi,j8,am2,if_pos hi]
  rfl
 rw[e00]
 have sA:=s0.trans (d4 (o:=.lst ((N2 n []).map V.int)) hl)
 have gA:(upd (upd H l0 (.lst [.int 0])) l (.lst ((N2 n []).map V.int))) l=some (.lst ((N2 n []).map V.int)):=c7
 generalize upd (upd H l0 (.lst [.int 0])) l (.lst ((N2 n []).map V.int))=HA at sA gA
 have hzl:=hT.len
 have lC:∀ qs,(N2 n qs).length=n:=fun qs=>by unfold N2;rw[b9,B0]
 refine⟨_,rfl,a,rfl,⟨_,sA.seqT hS⟩,?_⟩
 refine aN9 (K:=K) (a:=a) (xs:=zs) (fun j σ H2=>∃ (e3 e4 e5:Option V),σ=[some (.int n),some (.ref a),some (.ref l),e3,e4,e5]/\B3 H H2/\H2 l=some (.lst ((N2 n (ks.take j)).map V.int)))
  ⟨none,none,none,rfl,sA,by rw[ah5];exact gA⟩ (fun i σ H2 _ ⟨_,_,_,_,s,_⟩=>s.seqT hS) ?_ ?_
 ·rintro i x σ H2 hx ⟨e3,e4,e5,rfl,s2,g2⟩
  obtain⟨pa,pk,rfl,hk',hq⟩:=hT.get hx
  obtain⟨u,v,m,rfl,huv,hv,_⟩:=htr _ (j0 hk')
  have hu':u<(N2 n (ks.take i)).length:=by rw[lC];omega
  refine⟨pa,_,rfl,s2.seqT hq,rfl,_,_,rfl,_,_,rfl,_,_,rfl,rfl,?_⟩
  refine⟨_,rfl,_,rfl,l,_,_,_,rfl,rfl,SqL.of g2,V7 hu',_,rfl,_,_,rfl,rfl,_,rfl,_,rfl,l,_,_,u,rfl,rfl,g2,M5 (by rw[b9];exact hu'),?_⟩
  rw[J5]
  have hv2:v<((N2 n (ks.take i)).set u ((N2 n (ks.take i)).getD u 0+m)).length:=by rw[B7,lC];omega
  refine⟨_,rfl,_,rfl,l,_,_,_,rfl,rfl,SqL.of c7,V7 hv2,_,rfl,_,_,rfl,rfl,_,rfl,_,rfl,l,_,_,v,rfl,rfl,c7,M5 (by rw[b9];exact hv2),?_⟩
  rw[J5,ak2,aW2 (by omega) hv (by omega)]
  refine⟨_,_,_,rfl,s2.upd hlH,?_⟩
  rw[c7,G0,hk']
  rfl
 ·rintro σ H2 ⟨e3,e4,e5,rfl,s2,g2⟩
  rw[o6 (by omega)]at g2
  exact⟨_,rfl,q l H2 s2 hlH g2⟩
end
end Web
namespace Web
open PySem L2
theorem bC0 {os:List Int}{M z:Int}(h:z≠(os.length:Int)):¬ bb5 os M z ks:=fun⟨n,T,_,e⟩=>by
 have:(N2 n ks).length=n:=by unfold N2;rw[b9,B0]
 rw[e]at this
 have:=T.z
 omega
theorem bC1 {os:List Int}{M z:Int}(h3:∀ k∈ks,∃ p q m:Int,k=[p,q,m])(h:bb5 os M z ks){u v m:Int}(hk:ks[i]?=some [u,v,m]):0<=u/\u<v/\v<(os.length:Int)/\1<=m/\m<=M/\HT.lexLt (prv ks i) [u,v]=true:=by
 obtain⟨n,T,hM,e⟩:=h
 have hn:os.length=n:=by rw[<- e];unfold N2;rw[b9,B0]
 have tr:=bp0 h3 T hM
 obtain⟨a,b,x,ek,h1,h2,h4,h5⟩:=tr _ (j0 hk)
 injection ek with e1 ek
 injection ek with e2 ek
 injection ek with e3 _
 have hp:=bQ5 tr (bQ1 T.t) (u:=a) (v:=b) (m:=x) (i:=i) (by rw[hk,e1,e2,e3])
 subst e1 e2 e3
 have hmM:=G9.mp hM _ (j0 hk)
 unfold inM at hmM
 rw[B5,decide_eq_true_eq,decide_eq_true_eq]at hmM
 exact⟨by omega,by omega,by omega,h4,hmM.2,hp⟩
theorem bB9 {os:List Int}{M:Int}(h1:1<=os.length)(h2:os.length<=24)(h:∀ (i:Nat) (k:List Int),ks[i]?=some k->∃ u v m:Int,k=[u,v,m]/\0<=u/\u<v/\v<(os.length:Int)/\1<=m/\m<=M/\HT.lexLt (prv ks i) [u,v]=true):Tl (os.length:Int) os.length (ks.map two)/\ks.all (inM M)=true/\∀ k∈ks,tri os.length M.toNat k:=by
 have tr:∀ k∈ks,tri os.length M.toNat k:=fun k hk=>by
  obtain⟨i,hi⟩:=q0.mp hk
  obtain⟨u,v,m,rfl,a1,a2,a3,a4,a5,_⟩:=h i k hi
  exact⟨u.toNat,v.toNat,m,by rw[bM1 a1,bM1 (by omega)],by omega,by omega,a4,by omega⟩
 have pw:=bx6 (ks:=ks) fun j k hk=>by
  obtain⟨u,v,m,rfl,_,_,_,_,_,hp⟩:=h j k hk
  exact hp
 refine⟨⟨rfl,h1,h2,bB7 tr pw⟩,G9.mpr fun k hk=>?_,tr⟩
 obtain⟨i,hi⟩:=q0.mp hk
 obtain⟨u,v,m,rfl,_,_,_,a4,a5,_⟩:=h i k hi
 unfold inM
 rw[B5,decide_eq_true_eq,decide_eq_true_eq]
 exact⟨a4,a5⟩
seal L2.PE L2.PA L2.PS L2.PSs L2.PT
section
variable {K:W.Frag} {mg:Str->Option Value} {base:Heap}
def bq3 (K:W.Frag):Sp:=fun vs H Q _=>∃ (b a:Addr) (os:List Int) (M z:Int) (ks:List (List Int)),vs=[.ref b,.ref a,.int M]/\SqL K H a (os.map V.int)/\X7 os/\WxT K H b z ks/\∀ (c:Bool) (H':Hp),B3 H H'->(c=true↔bb5 os M z ks)->Q (.bl c) H'
theorem bd7:B6 ["web","tally","most","last","triple"] ["web","tally","most"] (p9 aB5):=.mk'
set_option maxHeartbeats 4000000 in
theorem bS3 {fH fN:Addr} {fdH fdN:FuncData} (F:Fun K "_law_is_thick" "_law_is_thick" aB5 f fd) (B:Bn mg) (FH:Fq K mg "_law_whole" aA9 fH fdH ["found"])
  (FN:Fq K mg "_law_thick_counts" aS1 fN fdN ["places","triples"]):A4 P w K mg base CX0 2 f fd ["web","tally","most"] (bq3 K):=by
 have GH:A4 P w K mg base CX0 1 fH fdH ["found"] bc9:=bt8 FH.F B
 have GN:A4 P w K mg base CX0 1 fN fdN ["places","triples"] (bK0 K):=bR6 FN.F B
 refine F.ok bd7 (fun cdv A outer s H vs Q E hr h=>?_)
 obtain⟨b,a,os,M,z,ks,rfl,hS,ht,⟨⟨t,zs,hb,htt,k3⟩,tr3,hkl⟩,q⟩:=h
 have hsl:=O3
 have hun:=hr.units
 have t2:=ht.2
 have nd1:(["n"]:List Str).Nodup:=by decide +kernel
 refine⟨_,d8 (F1 (PW.pt (ai4 (R0 (aa5 (p0 af7 (by rfl) B.isin (by rfl) (b7 (pv 0) (b7 (ak6 (v:=.ty "tuple") (by rfl) B.tuple (by rfl) rfl) d3)))))
    (ai4 (x6 aT3 (p0 y9 (by rfl) B.len PySem.boot_len (b7 (pv 0) d3)) c9 (B1 _))
    (ai4 (R0 (aa5 (F2 GH hr (by rfl) FH K3 (b7 (C1 C8 (pv 0) c9 (fun _ _=>rfl)) d3))))
    (an9 (x6 aT3 (C1 C8 (pv 0) c9 (fun _ _=>rfl)) (p0 y9 (by rfl) B.len PySem.boot_len (b7 (pv 1) d3)) (B1 _))))))) (k8 (B8 Y6)) A3)
  (d8 (F1 (R0 (aa5 (p0 af7 (by rfl) B.isin (by rfl) (b7 (C1 C8 (pv 0) c9 (fun _ _=>rfl)) (b7 (ak6 (v:=.ty "tuple") (by rfl) B.tuple (by rfl) rfl) d3))))) (k8 (B8 Y6)) A3)
  (d8 (y7 (i:=3) bd7.nd rfl (Or.inl rfl) (F5 (b7 c9 (b7 c9 d3))))
  (d8 (T7 PassesOwn.never rfl (ao1 (C1 C8 (pv 0) c9 (fun _ _ => rfl))) (B4 (i := 4) bd7.nd rfl (Or.inl rfl))
   (d8 (F1 (PW.pt (ai4 (R0 (aa5 (p0 af7 (by rfl) B.isin (by rfl) (b7 (pv 4) (b7 (ak6 (v:=.ty "tuple") (by rfl) B.tuple (by rfl) rfl) d3)))))
     (ai4 (x6 aT3 (p0 y9 (by rfl) B.len PySem.boot_len (b7 (pv 4) d3)) c9 (B1 _))
     (an9 (x6 aC3 (X3 (N' := ["n"]) (lk := [none]) rfl (ao1 (pv 4)) (by rfl) rfl (by decide +kernel) (by exact trivial) (by rfl) (by exact LkL.ok trivial)
      (fun _ _ _=>B4 (i:=0) nd1 rfl (Or.inl rfl)) (fun _ _ _=>ay7 (R0 (aa5 (F2 GH hr (by rfl) FH K3 (b7 (pv 0) d3))))) (fun _ _ _=>pv 0)) (L8 d3) (B1 _)))))) (k8 (B8 Y6)) A3)
   (d8 (F1 (PW.pt (ai4 (R0 (bj7 U4 ag2 ag2 c9 (C1 C8 (pv 4) c9 (fun _ _=>rfl)) (C1 C8 (pv 4) c9 (fun _ _=>rfl)) (p0 y9 (by rfl) B.len PySem.boot_len (b7 (pv 1) d3))))
     (ai4 (R0 (x6 (bR0 (bW4 (R5 _ _) hun)) (pv 3) (R3 bq7 (pv 4) X2 (T5 c9)) (B1 _)))
     (an9 (R0 (ai5 U4 U4 c9 (C1 C8 (pv 4) c9 (fun _ _=>rfl)) (pv 2))))))) (k8 (B8 Y6)) A3)
   (k8 (y7 (i:=3) bd7.nd rfl (Or.inl rfl) (R3 bq7 (pv 4) X2 (T5 c9)))))))
  (k8 (B8 (X4 aM6 (F2 GN hr (by rfl) FN K3 (b7 (p0 y9 (by rfl) B.len PySem.boot_len (b7 (pv 1) d3)) (b7 (C1 C8 (pv 0) c9 (fun _ _=>rfl)) d3))) (L6 V6 (by rfl) B.list (by rfl) (b7 (pv 1) d3)) (B1 _))))))),?_⟩
 have a0:atI ([.int z,.ref t]:List V) 0=some (.int z):=A1 (j:=0) rfl
 have a1:atI ([.int z,.ref t]:List V) 1=some (.ref t):=A1 (j:=1) rfl
 have hzl:=k3.len
 have no:∀ H':Hp,B3 H H'->¬ bb5 os M z ks->Q (.bl false) H':=fun H' s' h=>q false H' s' ⟨fun z=>(by cases z),fun z=>absurd z h⟩
 refine⟨_,rfl,b,_,_,true,rfl,hb,rfl,_,rfl,J2 ?_⟩
 refine⟨_,rfl,b,_,rfl,.inr hb,rfl,_,rfl,aV1 rfl ?_⟩
 refine⟨_,rfl,b,_,_,_,rfl,rfl,hb,a0,_,rfl,_,rfl,J2 ?_⟩
 refine⟨_,rfl,b,_,_,_,rfl,rfl,hb,a0,_,rfl,a,_,rfl,.inl hS,rfl,_,rfl,?_⟩
 rw[b9]
 by_cases hz:z=(os.length:Int)
 rotate_left
 ·rw[decide_eq_false (fun e=>hz (by injection e))]
  exact J4 (no H (B3.refl H) (bC0 hz))
 refine aV1 (congrArg V.int hz) ?_
 refine⟨_,rfl,b,_,_,_,rfl,rfl,hb,a1,t,_,_,true,rfl,htt,rfl,_,rfl,J2 ?_⟩
 refine⟨(by show 2<=d7;decide),fun l0 f0=>?_⟩
 have s0:=d4 (o:=.tup [.int 0,.int 0]) f0
 have g0:(upd H l0 (.tup [.int 0,.int 0])) l0=some (.tup ((prv ks 0).map V.int)):=c7
 generalize upd H l0 (.tup [.int 0,.int 0])=H0 at s0 g0 ⊢
 refine⟨_,rfl,b,_,_,_,rfl,rfl,s0.seqT hb,a1,t,rfl,⟨_,s0.seqT htt⟩,?_⟩
 refine aN9 (K:=K) (a:=t) (xs:=zs) (fun i σ Ha=>∃ (la:Addr) (e4:Option V),σ=[some (.ref b),some (.ref a),some (.int M),some (.ref la),e4]/\B3 H Ha/\Ha la=some (.tup ((prv ks i).map V.int))/\∀ (j:Nat) (k:List Int),j<i->ks[j]?=some k->∃ u v m:Int,k=[u,v,m]/\0<=u/\u<v/\v<(os.length:Int)/\1<=m/\m<=M/\HT.lexLt (prv ks j) [u,v]=true) ⟨l0,none,rfl,s0,g0,fun j k hj=>absurd hj (aX6 _)⟩ (fun i σ Ha _ ⟨_,_,_,sa,_⟩=>sa.seqT htt) ?_ ?_
 ·rintro i x σ Ha hx ⟨la,e4,rfl,sa,ga,hpre⟩
  obtain⟨pa,pk,rfl,hk,hq⟩:=k3.get hx
  obtain⟨u,v,m,rfl⟩:=tr3 pk (j0 hk)
  have hpl:SqT K Ha pa [.int u,.int v,.int m]:=sa.seqT hq
  have b0:atI ([.int u,.int v,.int m]:List V) 0=some (.int u):=A1 (j:=0) rfl
  have b1:atI ([.int u,.int v,.int m]:List V) 1=some (.int v):=A1 (j:=1) rfl
  have b2:atI ([.int u,.int v,.int m]:List V) 2=some (.int m):=A1 (j:=2) rfl
  have hat:bb5 os M z ks->_:=fun h=>bC1 tr3 h hk
  refine F0 ?_
  refine⟨_,rfl,pa,_,_,true,rfl,hpl,rfl,_,rfl,J2 ?_⟩
  refine⟨_,rfl,pa,_,rfl,.inr hpl,rfl,_,rfl,aV1 rfl ?_⟩
  refine⟨_,rfl,pa,rfl,⟨_,hpl⟩,fun D hD=>ar7 (K:=K) (a:=pa) (D:=D) (ys:=[.int u,.int v,.int m]) (fun j xs σ' H'=>(∃ v,σ'=[v])/\B3 Ha H'/\H' D=some (.lst xs)/\xs=[]) ⟨⟨none,rfl⟩,d4 hD,c7,rfl⟩ (by show 3<=d7;omega)
   (fun j xs σ' H' hj ⟨_,s6,h6,e6⟩=>⟨s6.seqT hpl,h6,by rw[e6];exact v8 _⟩) ?_ ?_⟩
  ·rintro j xs x σ' H' N kN hx' ⟨⟨v',rfl⟩,s6,h6,rfl⟩
   have hx2:(([u,v,m]:List Int).map V.int)[j]?=some x:=hx'
   obtain⟨z',hz',rfl⟩:=Z6 hx2
   refine F0 ?_
   exact⟨_,rfl,z',rfl,_,rfl,J2 (kN _ _ _ ⟨⟨_,rfl⟩,s6,h6,rfl⟩)⟩
  rintro xs σ' H1 ⟨⟨v',rfl⟩,s1,h1,rfl⟩
  refine⟨(by show 0<=d7;omega),fun le fe=>?_⟩
  have se:=d4 (o:=.lst []) fe
  have s1e:=s1.trans se
  refine⟨.list [],.list [],Dt.mkL (SqL.of (se _ _ h1)) .mkN,Dt.mkL (SqL.of c7) .mkN,by simp[PyData.canLay0,PyData.canLayAll0],by simp[PyData.canLay0,PyData.canLayAll0],aH1 hun (C4 (af1 _ _) (by simp[PyData.depth,PyData.depthAll])),_,rfl,?_⟩
  have eqn:PyData.eqv (.list []) (.list [])=true:=by simp[PyData.eqv,PyData.eqvAll]
  rw[if_pos rfl,eqn]
  refine J2 ?_
  generalize upd H1 le (.lst [])=H2 at s1e ⊢
  have hp2:=s1e.seqT hpl
  have ga2:=s1e _ _ ga
  have hS2:=(sa.trans s1e).seq hS
  have sH2:=sa.trans s1e
  refine⟨_,rfl,pa,_,_,_,rfl,rfl,hp2,b0,_,_,rfl,rfl,_,rfl,?_⟩
  by_cases c1:(0:Int)<=u
  rotate_left
  ·rw[decide_eq_false c1]
   exact J2 ⟨_,rfl,J4 (J4 (no H2 sH2 fun h=>c1 (hat h).1))⟩
  rw[decide_eq_true c1]
  refine J4 ⟨_,rfl,pa,_,_,_,rfl,rfl,hp2,b1,_,_,rfl,rfl,_,rfl,?_⟩
  by_cases c2:u<v
  rotate_left
  ·rw[decide_eq_false c2]
   exact J2 ⟨_,rfl,J4 (J4 (no H2 sH2 fun h=>c2 (hat h).2.1))⟩
  rw[decide_eq_true c2]
  refine J4 ⟨_,rfl,a,_,rfl,.inl hS2,_,_,rfl,rfl,_,rfl,?_⟩
  rw[b9]
  by_cases c3:v<(os.length:Int)
  rotate_left
  ·rw[decide_eq_false c3]
   exact J4 (J4 (no H2 sH2 fun h=>c3 (hat h).2.2.1))
  rw[decide_eq_true c3]
  refine J2 ?_
  have ecut:S5 ([.int u,.int v,.int m]:List V) none (some 2)=([u,v]:List Int).map V.int:=ac6 [u,v,m] 2
  refine⟨_,rfl,_,rfl,_,rfl,pa,_,rfl,hp2,(by show ¬ (HT.sIx 3 0 none=0/\HT.sIx 3 3 (some 2)=3);decide),fun p3 f3=>?_⟩
  rw[ecut]
  have s3:=d4 (o:=.tup (([u,v]:List Int).map V.int)) f3
  have s13:=s1e.trans s3
  refine⟨la,p3,prv ks i,[u,v],rfl,rfl,SqT.of (s3 _ _ ga2),SqT.of c7,_,rfl,?_⟩
  cases c4:HT.lexLt (prv ks i) [u,v] with
  | false=>exact J4 (J4 (no _ (sa.trans s13) fun h=>by have:=(hat h).2.2.2.2.2;rw[c4]at this;cases this))
  | true =>
  refine J2 ?_
  have hp3:=s13.seqT hpl
  refine⟨_,rfl,pa,_,_,_,rfl,rfl,hp3,b2,_,_,rfl,rfl,_,rfl,?_⟩
  by_cases c5:(1:Int)<=m
  rotate_left
  ·rw[decide_eq_false c5]
   exact J2 ⟨_,rfl,J4 (no _ (sa.trans s13) fun h=>c5 (hat h).2.2.2.1)⟩
  rw[decide_eq_true c5]
  refine J4 ⟨_,rfl,_,_,rfl,rfl,_,rfl,?_⟩
  by_cases c6:m<=M
  rotate_left
  ·rw[decide_eq_false c6]
   exact J4 (no _ (sa.trans s13) fun h=>c6 (hat h).2.2.2.2.1)
  rw[decide_eq_true c6]
  refine J2 ?_
  refine⟨_,rfl,_,rfl,pa,_,rfl,hp3,(by show ¬ (HT.sIx 3 0 none=0/\HT.sIx 3 3 (some 2)=3);decide),fun p4 f4=>?_⟩
  rw[ecut]
  have s4:=d4 (o:=.tup (([u,v]:List Int).map V.int)) f4
  refine⟨p4,_,rfl,sa.trans (s13.trans s4),?_,fun j k hj hjk=>?_⟩
  ·rw[aM0 hk]
   exact c7
  ·rcases F8 j i with w1 | w1
   ·exact hpre j k w1 hjk
   ·have:j=i:=by omega
    subst this
    rw[hk]at hjk
    cases hjk
    exact⟨u,v,m,rfl,c1,c2,c3,c5,c6,c4⟩
 ·rintro σ Ha ⟨la,e4,rfl,sa,ga,hpre⟩
  obtain⟨T,hM,tr⟩:=bB9 (os:=os) (M:=M) (ks:=ks) ht.1 t2 fun j k hjk=>hpre j k (by rw[hzl];exact(j5.mp hjk).1) hjk
  subst hz
  refine⟨_,rfl,a,_,rfl,.inl (sa.seq hS),_,rfl,b,_,_,_,rfl,rfl,sa.seqT hb,a1,os.length,t,zs,ks,by rw[b9];rfl,t2,sa.seqT htt,sa.tups k3,⟨_,tr⟩,fun l8 H8 s8 f8 g8=>?_⟩
  refine⟨_,rfl,a,_,rfl,.inl ((sa.trans s8).seq hS),fun l9 f9=>?_⟩
  have s9:=d4 (o:=.lst (os.map V.int)) f9
  refine⟨.list ((N2 os.length ks).map .int),.list (os.map .int),Dt.mkLi (SqL.of (s9 _ _ g8)),Dt.mkLi (SqL.of c7),aN3 _,aN3 _,?_,?_⟩
  ·refine aH1 hun (C4 (af1 _ _) ?_)
   have:=bx1 (N2 os.length ks)
   omega
  ·show Q (.bl (PyData.eqv _ _)) _
   rw[bw6]
   refine q _ _ (sa.trans (s8.trans s9)) ?_
   rw[decide_eq_true_iff]
   refine⟨fun h=>⟨_,T,hM,h⟩,fun⟨n',T',_,h⟩=>?_⟩
   have:n'=os.length:=by have:=T'.z;omega
   rw[<- this];exact h
end
end Web
namespace Web
open PySem L2
seal L2.PE L2.PA L2.PS L2.PSs L2.PT
section
variable {K:W.Frag} {mg:Str->Option Value} {base:Heap}
def bq4 (K:W.Frag):Sp:=fun vs H Q _=>∃ (a r:Addr) (os:List Int) (M:Nat) (x:Aw8),vs=[.ref a,.int M,.ref r]/\SqL K H a (os.map V.int)/\X7 os/\M<=1000000/\ad2 K H r x/\∀ (c:Bool) (H':Hp),B3 H H'->(c=true↔bV7 os M x)->Q (.bl c) H'
theorem bK6:B6 ["tally","most","told","wall"] ["tally","most","told"] (p9 br7):=.mk'
theorem bS5 {fM:Addr}{fdM:FuncData}(F:Fun K "_law_due" "_law_due" br7 f fd)(B:Bn mg)
  (FT:Fq K mg "_law_is_thick" aB5 fT fdT ["web","tally","most"])(GT:A4 P w K mg base CX0 2 fT fdT ["web","tally","most"] (bq3 K))
  (FM:Fq K mg "_law_room" aB4 fM fdM ["tally","most","r"])(GM:A4 P w K mg base CX0 2 fM fdM ["tally","most","r"] (bd2 K)):A4 P w K mg base CX0 3 f fd ["tally","most","told"] (bq4 K):=by
 refine F.ok bK6 (fun cdv A outer s H vs Q E hr h=>?_)
 obtain⟨a,r,ns,M,x,rfl,hS,ht,hM,hx,q⟩:=h
 have t2:=ht.2
 refine⟨_,d8 (F1 (x6 P4 (C1 C8 (pv 2) c9 (fun _ _=>rfl)) N9 (B1 _)) (k8 (B8 (F2 GT hr (by rfl) FT K3 (b7 (C1 C8 (pv 2) c9 (fun _ _=>rfl)) (b7 (pv 0) (b7 (pv 1) d3)))))) A3)
  (d8 (y7 (i:=3) bK6.nd rfl (Or.inl rfl) (C1 C8 (pv 2) c9 (fun _ _=>rfl)))
  (d8 (F1 (x6 P4 (C1 C8 (pv 3) c9 (fun _ _=>rfl)) N9 (B1 _)) (k8 (B8 (X4 P4 (m8 E6 (p0 (X8 rfl) (by rfl) B.sum (by rfl) (b7 (pv 0) d3)) c9) c9 (B1 _)))) A3)
  (d8 (F1 (x6 P4 (C1 C8 (pv 3) c9 (fun _ _=>rfl)) N9 (B1 _)) (k8 (B8 (aM5 (ai6 U4 ag2 c9 (C1 C8 (pv 3) c9 (fun _ _=>rfl)) (p0 y9 (by rfl) B.len PySem.boot_len (b7 (pv 0) d3))) (aM3 (X4 ag2 (C1 G8 (pv 0) (C1 C8 (pv 3) c9 (fun _ _=>rfl)) (fun _ _=>rfl)) c9 (B1 _)))))) A3)
  (k8 (B8 (aM5 (ai6 U4 U4 c9 (C1 C8 (pv 3) c9 (fun _ _=>rfl)) (p0 y9 (by rfl) B.len PySem.boot_len (b7 (pv 0) d3))) (aM3 (X4 ag2 (F2 GM hr (by rfl) FM K3 (b7 (pv 0) (b7 (pv 1) (b7 (C1 C8 (pv 3) c9 (fun _ _=>rfl)) d3)))) c9 (B1 _))))))))),?_⟩
 cases x with
 | web z ks =>
  obtain⟨p,hr1,hw⟩:=hx
  refine⟨_,rfl,r,_,_,_,rfl,rfl,hr1,av7,rfl,_,rfl,?_⟩
  rw[decide_eq_true rfl]
  exact J4 ⟨_,rfl,r,_,_,_,rfl,rfl,hr1,aE6,_,rfl,_,rfl,p,a,ns,(M:Int),z,ks,rfl,hS,ht,hw,q⟩
 | wall x =>
  obtain⟨p,hr1,hw⟩:=hx
  refine⟨_,rfl,r,_,_,_,rfl,rfl,hr1,av7,rfl,_,rfl,?_⟩
  rw[decide_eq_false (by decide +kernel)]
  refine J2 ⟨_,rfl,r,_,_,_,rfl,rfl,hr1,aE6,?_⟩
  refine F0 ?_
  cases x with
  | odd =>
   have b0:atI (wzT .odd) 0=some (.str "odd"):=A1 (j:=0) rfl
   refine⟨_,rfl,p,_,_,_,rfl,rfl,hw,b0,rfl,_,rfl,?_⟩
   rw[decide_eq_true rfl]
   refine J4 ⟨_,rfl,a,ns,rfl,hS,_,_,rfl,rfl,(by show (0:Int)<2;decide),rfl,?_⟩
   refine q _ H (B3.refl H) ?_
   show decide (V.int (ns.sum % 2)=V.int 1)=true↔decide (ns.sum % 2=1)=true
   rw[decide_eq_true_iff,decide_eq_true_iff]
   exact⟨fun h=>(by injection h),fun h=>(by rw[h])⟩
  | below y =>
   have b0:atI (wzT (.below y)) 0=some (.str "below"):=A1 (j:=0) rfl
   have b1:atI (wzT (.below y)) 1=some (.int y):=A1 (j:=1) rfl
   have hbel:bV7 ns M (.wall (.below y))↔0<=y/\y<ns.length/\ns.getD y.toNat 0<0:=by
    show decide (y∈bn3 ns)=true↔_
    rw[decide_eq_true_iff,bI0]
   refine⟨_,rfl,p,_,_,_,rfl,rfl,hw,b0,rfl,_,rfl,?_⟩
   refine J2 ⟨_,rfl,p,_,_,_,rfl,rfl,hw,b0,rfl,_,rfl,?_⟩
   rw[decide_eq_true rfl]
   refine J4 ⟨_,rfl,p,_,_,_,rfl,rfl,hw,b1,_,_,rfl,rfl,_,rfl,?_⟩
   by_cases c1:(0:Int)<=y
   ·rw[decide_eq_true c1]
    refine J4 ⟨_,rfl,a,_,rfl,.inl hS,_,_,rfl,rfl,_,rfl,?_⟩
    show (if decide (y<((ns.map V.int).length:Int))=true then _ else _)
    rw[b9]
    by_cases c2:y<(ns.length:Int)
    ·rw[decide_eq_true c2]
     obtain⟨j,rfl⟩:∃ j:Nat,y=(j:Int):=⟨y.toNat,by omega⟩
     refine J4 ⟨_,rfl,_,rfl,p,_,_,_,rfl,rfl,hw,b1,a,_,_,_,rfl,rfl,hS,V7 (by omega),_,_,rfl,rfl,?_⟩
     refine q _ H (B3.refl H) ?_
     rw[hbel,decide_eq_true_iff,u6]
     exact⟨fun h=>⟨c1,c2,h⟩,fun h=>h.2.2⟩
    ·rw[decide_eq_false c2]
     refine J2 (q false H (B3.refl H) ⟨fun h=>(by cases h),fun h=>?_⟩)
     exact absurd (hbel.mp h).2.1 c2
   ·rw[decide_eq_false c1]
    refine J2 ⟨_,rfl,J2 (q false H (B3.refl H) ⟨fun h=>(by cases h),fun h=>?_⟩)⟩
    exact absurd (hbel.mp h).1 c1
  | wall y =>
   have b0:atI (wzT (.wall y)) 0=some (.str "wall"):=A1 (j:=0) rfl
   have b1:atI (wzT (.wall y)) 1=some (.int y):=A1 (j:=1) rfl
   refine⟨_,rfl,p,_,_,_,rfl,rfl,hw,b0,rfl,_,rfl,?_⟩
   refine J2 ⟨_,rfl,p,_,_,_,rfl,rfl,hw,b0,rfl,_,rfl,?_⟩
   refine J2 ⟨_,rfl,p,_,_,_,rfl,rfl,hw,b1,_,_,rfl,rfl,_,rfl,?_⟩
   by_cases c1:(1:Int)<=y
   ·rw[decide_eq_true c1]
    refine J4 ⟨_,rfl,a,_,rfl,.inl hS,_,_,rfl,rfl,_,rfl,?_⟩
    show (if decide (y<=((ns.map V.int).length:Int))=true then _ else _)
    rw[b9]
    by_cases c2:y<=(ns.length:Int)
    ·rw[decide_eq_true c2]
     obtain⟨j,rfl⟩:∃ j:Nat,y=(j:Int):=⟨y.toNat,by omega⟩
     refine J4 ⟨_,rfl,_,rfl,_,rfl,p,_,_,_,rfl,rfl,hw,b1,a,ns,M,j,rfl,hS,hM,by omega,by omega,fun H3 s3=>?_⟩
     refine⟨_,_,rfl,rfl,?_⟩
     refine q _ H3 s3 ?_
     show decide (Y5 ns M j<0)=true↔decide (1<=(j:Int)/\(j:Int)<=ns.length/\Y5 ns M (j:Int).toNat<0)=true
     rw[decide_eq_true_iff,decide_eq_true_iff,u6]
     exact⟨fun h=>⟨c1,c2,h⟩,fun h=>h.2.2⟩
    ·rw[decide_eq_false c2]
     refine J2 (q false H (B3.refl H) ⟨fun h=>(by cases h),fun h=>?_⟩)
     exact absurd (of_decide_eq_true h).2.1 c2
   ·rw[decide_eq_false c1]
    refine J2 ⟨_,rfl,J2 (q false H (B3.refl H) ⟨fun h=>(by cases h),fun h=>?_⟩)⟩
    exact absurd (of_decide_eq_true h).1 c1
end
end Web
namespace Web
open PySem L2
structure ce2 (K:W.Frag) (mg:Str->Option Value) (CT CB CN:Addr):Prop where
 mT:mg "TallyError"=some (.ref CT)
 mB:mg "BadTally"=some (.ref CB)
 mN:mg "BadNumber"=some (.ref CN)
 cB:ao9 K CB
 kB:aO4 K CB
 xB:PySem.W.exmOne K (.ref CB) (.ref CT)=some true
 nB:PySem.W.kitOne K (.ref CB) (.ref CN)=some false
 bB:PySem.W.kitOne K (.ref CB) (.ref CB)=some true
 cN:ao9 K CN
 kN:aO4 K CN
 xN:PySem.W.exmOne K (.ref CN) (.ref CT)=some true
 nN:PySem.W.kitOne K (.ref CN) (.ref CN)=some true
 bN:PySem.W.kitOne K (.ref CN) (.ref CB)=some false
seal L2.PE L2.PA L2.PS L2.PSs L2.PT
section
variable {K:W.Frag} {mg:Str->Option Value} {base:Heap}
def bq1 (K:W.Frag):Sp:=fun vs H Q _=>∃ (a r:Addr) (ns:List Int) (m:Int) (x:Aw8) (t:Bool),vs=[.ref a,.int m,.ref r]/\SqL K H a (ns.map V.int)/\ad2 K H r x/\((t=false/\¬ X7 ns)\/(t=true/\X7 ns/\¬ isM m))/\∀ (l:Addr) (H':Hp),B3 H H'->H' l=some (.lst [.bl t,.bl (!t)])->Q (.ref l) H'
theorem bd6:B6 ["tally","most","told","kinds","e"] ["tally","most","told"] (p9 aS2):=.mk'
set_option maxHeartbeats 2000000 in
theorem bS1 {fA CT CN:Addr} (F:Fun K "_law_refused" "_law_refused" aS2 f fd) (B:Bn mg) (FA:Fq K mg "thick_shows" bj3 fA fdA ["tally","most","told"]) (GA:A4 P w K mg base (CXE P w) 6 fA fdA ["tally","most","told"] (aK9 K CB CN))
  (L:ce2 K mg CT CB CN):A4 P w K mg base CX0 7 f fd ["tally","most","told"] (bq1 K):=by
 refine F.ok bd6 (fun cdv A outer s H vs Q E hr h=>?_)
 obtain⟨a,r,ns,m,x,t,rfl,hS,hA,hn,q⟩:=h
 refine⟨_,d8 (y7 (i:=3) bd6.nd rfl (Or.inl rfl) (L8 d3))
  (d8 (bQ3 (i:=4) bd6.nd rfl rfl (by rfl) L.mT rfl rfl
    (fun _ _=>k8 (J6 (aT2 GA hr (by rfl) FA.m FA.F.kp FA.b be5 (b7 (pv 0) (b7 (pv 1) (b7 (pv 2) d3))))))
    (fun _ => k8 (y7 (i := 3) bd6.nd rfl (Or.inl rfl) (L8 (b7 (p0 (as0 K rfl) (by rfl) B.isin (by rfl) (b7 (pv 4) (b7 (aq7 (v := .ref CN) (by rfl) L.mN rfl) d3)))
     (b7 (p0 (as0 K rfl) (by rfl) B.isin (by rfl) (b7 (pv 4) (b7 (aq7 (v:=.ref CB) (by rfl) L.mB rfl) d3))) d3))))))
  (k8 (B8 (pv 3)))),?_⟩
 refine⟨(by show 0<=d7;exact v8 _),fun l0 f0=>?_⟩
 have s0:=d4 (o:=.lst []) f0
 generalize upd H l0 (.lst [])=H0 at s0 ⊢
 refine⟨fun σ' cls _ H'=>σ'=[some (.ref a),some (.int m),some (.ref r),some (.ref l0),none]/\H'=H0/\cls=.ref (if t then CN else CB),?_,?_⟩
 ·refine⟨_,rfl,_,rfl,_,rfl,a,r,ns,m,x,rfl,.inl (s0.seq hS),hA.same s0,fun ht hm=>?_,fun ht hm=>?_,fun ht=>?_⟩
  ·rcases hn with⟨_,h⟩ | ⟨_,_,h⟩
   ·exact absurd ht h
   ·exact absurd hm h
  ·rcases hn with⟨_,h⟩ | ⟨e,_,_⟩
   ·exact absurd ht h
   ·rw[e];exact⟨rfl,rfl,rfl⟩
  ·rcases hn with⟨e,_⟩ | ⟨_,h,_⟩
   ·rw[e];exact⟨rfl,rfl,rfl⟩
   ·exact absurd h ht
 ·rintro σ' cls H' ⟨rfl,rfl,rfl⟩
  cases t with
  | true =>
   refine⟨L.xN,fun xe hx=>?_⟩
   have s1:=d4 (o:=XO xe (.ref CN)) hx
   have gx:(upd H' xe (XO xe (.ref CN))) xe=some (XO xe (.ref CN)):=c7
   refine⟨_,rfl,xe,CN,.ref CN,_,true,rfl,gx,L.kN,rfl,L.nN,_,rfl,xe,CN,.ref CB,_,false,rfl,gx,L.kN,rfl,L.bN,(by show 2<=d7;decide),fun l9 f9=>?_⟩
   exact⟨_,rfl,q l9 _ ((s0.trans s1).trans (d4 f9)) c7⟩
  | false =>
   refine⟨L.xB,fun xe hx=>?_⟩
   have s1:=d4 (o:=XO xe (.ref CB)) hx
   have gx:(upd H' xe (XO xe (.ref CB))) xe=some (XO xe (.ref CB)):=c7
   refine⟨_,rfl,xe,CB,.ref CN,_,false,rfl,gx,L.kB,rfl,L.nB,_,rfl,xe,CB,.ref CB,_,true,rfl,gx,L.kB,rfl,L.bB,(by show 2<=d7;decide),fun l9 f9=>?_⟩
   exact⟨_,rfl,q l9 _ ((s0.trans s1).trans (d4 f9)) c7⟩
end
end Web
namespace Web
open PySem L2
theorem v9.setK {K:W.Frag}{p:Addr}(hp:SqT K H p (k.map V.int)):∀ {zs:List V} {ks:List (List Int)} (i:Nat),v9 K H zs ks->v9 K H (zs.set i (.ref p)) (ks.set i k)
 | _,_,_,.nil=>by rw[List.set_nil,List.set_nil];exact .nil
 | _,_,0,.cons _ r=>.cons ⟨p,rfl,hp⟩ r
 | _,_,i+1,.cons h r=>.cons h (v9.setK hp i r)
theorem v9.eraseK {K:W.Frag}:∀ {zs:List V} {ks:List (List Int)} (i:Nat),v9 K H zs ks->v9 K H (zs.eraseIdx i) (ks.eraseIdx i)
 | _,_,_,.nil=>.nil
 | _,_,0,.cons _ r=>r
 | _,_,i+1,.cons h r=>.cons h (v9.eraseK i r)
theorem v9.insK {K:W.Frag}{p:Addr}(hp:SqT K H p (k.map V.int)){zs:List V}(i:Nat)(h:v9 K H zs ks):v9 K H (zs.take i++[.ref p]++zs.drop i) (ks.take i++[k]++ks.drop i):=
 v9.append (v9.append (v9.take i h) (v9.one hp)) (v9.drop i h)
def aj3 (ks:List (List Int)):Prop:=∀ k∈ks,∃ p q m:Int,k=[p,q,m]
theorem aj3.set (h:aj3 ks)(i:Nat)(a b c:Int):aj3 (ks.set i [a,b,c]):=fun k hk=>by
 rcases List.mem_or_eq_of_mem_set hk with e | e
 ·exact h k e
 ·exact⟨a,b,c,e⟩
theorem aj3.erase (h:aj3 ks)(i:Nat):aj3 (ks.eraseIdx i):=fun k hk=>h k (List.mem_of_mem_eraseIdx hk)
theorem aj3.snoc (h:aj3 ks)(hk:∃ p q m:Int,k=[p,q,m]):aj3 (ks++[k]):=fun x hx=>by
 rcases u9.mp hx with e | e
 ·exact h x e
 ·rw[B9.mp e];exact hk
theorem aj3.ins {ks:List (List Int)}(h:aj3 ks)(i:Nat){k:List Int}(hk:∃ p q m:Int,k=[p,q,m]):aj3 (ks.take i++[k]++ks.drop i):=fun x hx=>by
 rcases u9.mp hx with e | e
 ·rcases u9.mp e with e | e
  ·exact h x (K0 e)
  ·rw[B9.mp e];exact hk
 ·exact h x (J9 e)
theorem p40:(0:Int)<10 ^ (W2 40):=am7 (by decide)
theorem p30:(0:Int)<10 ^ (W2 30):=am7 (by decide)
theorem aQ6 {K:W.Frag}{p:Addr}(h:SqT K H p (k.map V.int)):∀ n:Nat,v9 K H (o9 n (.ref p)) (o9 n k)
 | 0=>.nil
 | n+1=>.cons ⟨p,rfl,h⟩ (aQ6 h n)
theorem bf2 (x0 x1 x2 x3:Int)(z:Int)(h:0<=z/\z<4):∃ v:Int,atI ([.int x0,.int x1,.int x2,.int x3]:List V) z=some (.int v):=by
 have:z=0\/z=1\/z=2\/z=3:=by omega
 rcases this with h | h | h | h<;>rw[h]
 ·exact⟨x0,A1 (j:=0) rfl⟩
 ·exact⟨x1,A1 (j:=1) rfl⟩
 ·exact⟨x2,A1 (j:=2) rfl⟩
 ·exact⟨x3,A1 (j:=3) rfl⟩
def SpJ (K:W.Frag)(H:Hp)(a l:Addr)(c:Int)(w j:Nat)(x y m:Int)(zs:List V)(ks:List (List Int))(k:Nat)(σ:St)(Hn:Hp):Prop:=∃ zs' ks',σ=[some (.ref a),some (.int c),some (.int w),some (.ref l),some (.int j),some (.int x),some (.int y),some (.int m)]/\B3 H Hn/\Hn l=some (.lst zs')/\v9 K Hn zs' ks'/\aj3 ks'/\ks'.length<=277/\(k<w->zs'=zs/\ks'=ks)
seal L2.PE L2.PA L2.PS L2.PSs L2.PT
section
variable {K:W.Frag} {mg:Str->Option Value} {base:Heap}
theorem aR7:B6 ["triples","cell","way","rows","at","one","other","many"] ["triples","cell"] (p9 aB2):=.mk'
def bZ6 (K:W.Frag):Sp:=fun vs H Q _=>∃ (a:Addr) (c:Int) (zs:List V) (ks:List (List Int)),vs=[.ref a,.int c]/\SqL K H a zs/\v9 K H zs ks/\aj3 ks/\ks.length<=276/\∀ (l:Addr) (zs':List V) (ks':List (List Int)) (H':Hp),B3 H H'->H' l=some (.lst zs')->v9 K H' zs' ks'->aj3 ks'->ks'.length<=277->Q (.ref l) H'
set_option maxHeartbeats 4000000 in
theorem cb3 (F:Fun K "_law_spoiled" "_law_spoiled" aB2 f fd)(B:Bn mg):A4 P w K mg base CX0 1 f fd ["triples","cell"] (bZ6 K):=by
 refine F.ok aR7 (fun cdv A outer s H vs Q E hr h=>?_)
 obtain⟨a,c,zs,ks,rfl,hS,hT,h3,hl,q⟩:=h
 have hsl:=O3
 have hun:=hr.units
 refine⟨_,d8 (y7 (i:=1) aR7.nd rfl (Or.inl rfl) (m8 E6 (pv 1) (m8 V4 c9 c9)))
  (d8 (y7 (i:=2) aR7.nd rfl (Or.inl rfl) (m8 E6 (pv 1) c9))
  (d8 (y7 (i:=3) aR7.nd rfl (Or.inl rfl) (L6 V6 (by rfl) B.list (by rfl) (b7 (pv 0) d3)))
  (d8 (F1 (x6 aM6 (pv 3) (L8 d3) (B1 _)) (k8 (B8 (m8 aC2 (L8 (b7 (F5 (b7 c9 (b7 c9 (b7 c9 d3)))) d3)) (m8 E6 (pv 2) c9)))) A3)
  (d8 (y7 (i:=4) aR7.nd rfl (Or.inl rfl) (m8 E6 (m8 F6 (pv 1) c9) (p0 y9 (by rfl) B.len PySem.boot_len (b7 (pv 3) d3))))
  (d8 (R1 (C1 G8 (pv 3) (pv 4) (fun _ _=>rfl)) (at9 rfl (F7 (B4 (i:=5) aR7.nd rfl (Or.inl rfl)) (F7 (B4 (i:=6) aR7.nd rfl (Or.inl rfl)) (F7 (B4 (i:=7) aR7.nd rfl (Or.inl rfl)) Z5)))))
  (O1 (F1 (x6 P4 (pv 2) c9 (B1 _)) (k8 (J6 (aa7 PySem.F.plainAttrs_list PySem.F.slot_list_pop PySem.F.type_list_pop aU0 (pv 3) (b7 (pv 4) d3)))) A3)
  (O1 (F1 (x6 P4 (pv 2) c9 (B1 _)) (k8 (J6 (aa7 PySem.F.plainAttrs_list PySem.F.slot_list_insert PySem.F.type_list_insert aH9 (pv 3) (b7 (pv 4) (b7 (C1 G8 (pv 3) (pv 4) (fun _ _=>rfl)) d3))))) A3)
  (O1 (F1 (x6 P4 (pv 2) c9 (B1 _)) (k8 (R1 (F5 (b7 (pv 6) (b7 (pv 5) (b7 (pv 7) d3)))) (T8 (pv 3) (pv 4) set_list))) A3)
  (O1 (F1 (x6 P4 (pv 2) c9 (B1 _)) (k8 (J6 (aa7 PySem.F.plainAttrs_list PySem.F.slot_list_append PySem.F.type_list_append L7 (pv 3) (b7 (aa7 PySem.F.plainAttrs_list PySem.F.slot_list_pop PySem.F.type_list_pop aU0 (pv 3) (b7 (pv 4) d3)) d3)))) A3)
  (O1 (F1 (x6 P4 (pv 2) c9 (B1 _)) (k8 (R1 (F5 (b7 (pv 5) (b7 (pv 6) (b7 (m8 G3 (pv 7) (C1 G8 (L8 (b7 c9 (b7 (m8 P8 c9 (pv 7)) (b7 (m8 E6 (m8 F6 (pv 1) c9) (m8 V4 c9 c9)) (b7 (m8 P8 c9 c9) d3))))) (m8 E6 (m8 F6 (pv 1) c9) c9) (fun _ _=>rfl))) d3)))) (T8 (pv 3) (pv 4) set_list))) A3)
  (O1 (F1 (x6 P4 (pv 2) c9 (B1 _)) (k8 (R1 (F5 (b7 (pv 5) (b7 (m8 G3 (pv 6) (C1 G8 (L8 (b7 c9 (b7 c9 (b7 (m8 P8 (m8 P8 c9 c9) (pv 6)) (b7 (m8 E6 (m8 F6 (pv 1) c9) (m8 V4 c9 c9)) d3))))) (m8 E6 (m8 F6 (pv 1) c9) c9) (fun _ _=>rfl))) (b7 (pv 7) d3)))) (T8 (pv 3) (pv 4) set_list))) A3)
  (O1 (F1 (x6 P4 (pv 2) c9 (B1 _)) (k8 (R1 (F5 (b7 (m8 P8 (pv 5) c9) (b7 (pv 6) (b7 (pv 7) d3)))) (T8 (pv 3) (pv 4) set_list))) A3)
  (O1 (F1 (PW.pt (bQ2 (x6 P4 (pv 2) c9 (B1 _)) (bD6 (x6 aT4 (pv 7) c9 (B1 _))))) (d8 (R1 (F5 (b7 (pv 5) (b7 (pv 6) (b7 (m8 P8 (pv 7) c9) d3)))) (T8 (pv 3) (pv 4) set_list)) (k8 (J6 (aa7 PySem.F.plainAttrs_list PySem.F.slot_list_insert PySem.F.type_list_insert aH9 (pv 3) (b7 (pv 4) (b7 (F5 (b7 (pv 5) (b7 (pv 6) (b7 c9 d3)))) d3)))))) A3)
  (k8 (B8 (pv 3)))))))))))))))),?_⟩
 refine⟨_,rfl,_,_,rfl,rfl,⟨by decide,by decide,by decide⟩,_,_,rfl,rfl,p40,?_⟩
 refine M7 fun c1 _=>?_
 obtain⟨w,hw,hw9⟩:∃ w:Nat,c1 % 9=(w:Int)/\w<9:=⟨(c1 % 9).toNat,by omega,by omega⟩
 refine⟨_,rfl,_,_,rfl,rfl,(by show (0:Int)<9;decide),?_⟩
 refine aj1 (v':=.int (w:Int)) (congrArg V.int hw) ?_
 refine⟨_,rfl,a,zs,rfl,.inl hS,fun l fl=>?_⟩
 have s1:=d4 (o:=.lst zs) fl
 have gl:(upd H l (.lst zs)) l=some (.lst zs):=c7
 have t1:=s1.tups hT
 generalize upd H l (.lst zs)=H1 at s1 gl t1 ⊢
 refine F0 ?_
 have hzl:=hT.len
 refine⟨_,rfl,(by show 0<=d7;omega),fun le fe=>?_⟩
 have se:=d4 (o:=.lst []) fe
 have ge:(upd H1 le (.lst [])) le=some (.lst []):=c7
 have gl2:=se _ _ gl
 have t2:=se.tups t1
 have s2:=s1.trans se
 generalize upd H1 le (.lst [])=H2 at s2 gl2 t2 ge ⊢
 refine⟨.list (ks.map dP),.list [],Dt.mkL (SqL.of gl2) t2.dtAll,Dt.mkL (SqL.of ge) .mkN,by simp[PyData.canLay0,au2 ks],by simp[PyData.canLay0,PyData.canLayAll0],aH1 hun (C4 (Nat.min_le_right _ _) (by simp[PyData.depth,PyData.depthAll])),_,rfl,?_⟩
 cases ks with
 | nil =>
  have eqn:PyData.eqv (.list ([].map dP)) (.list [])=true:=by simp[PyData.eqv,PyData.eqvAll]
  rw[if_neg j9,eqn]
  refine J4 ⟨(by show 3<=d7;omega),fun p fp=>⟨(by show 1<=d7;omega),fun l1 f1=>?_⟩⟩
  have u1:=d4 (o:=.tup [.int 0,.int 1,.int 1]) fp
  have u2:=d4 (o:=.lst [.ref p]) f1
  have hk:=bf3 (k:=(w:Int) % 3) (by omega) (by omega)
  refine⟨_,rfl,_,_,rfl,rfl,(by show (0:Int)<3;decide),l1,_,_,rfl,rfl,c7,hk.1,hk.2,by show 1*_<=d7;omega,fun l2 f2=>?_⟩
  rw[List.flatten_replicate_singleton]
  have u3:=d4 (o:=.lst (o9 ((w:Int) % 3).toNat (.ref p))) f2
  refine q l2 _ (o9 ((w:Int) % 3).toNat [0,1,1]) _ (((s2.trans u1).trans u2).trans u3) c7 (aQ6 (SqT.of ((u2.trans u3) _ _ c7)) _) (fun k hk=>⟨0,1,1,List.eq_of_mem_replicate hk⟩) (by rw[S8];omega)
 | cons k0 ks0 =>
 have eqn:PyData.eqv (.list ((k0::ks0).map dP)) (.list [])=false:=by simp[PyData.eqv,PyData.eqvAll]
 rw[if_neg j9,eqn]
 have hz0:0<zs.length:=by rw[hzl,m6];omega
 generalize k0::ks0=ks at hT h3 hl t1 t2 hzl
 obtain⟨j,hj,hjn⟩:=aN0 (c1 / 9) (n:=zs.length) hz0
 refine J2 ⟨_,rfl,_,_,rfl,rfl,⟨by decide,by decide⟩,_,rfl,l,_,rfl,.inl (SqL.of gl2),_,_,rfl,rfl,(by show (0:Int)<(zs.length:Int);omega),?_⟩
 refine aj1 (v':=.int (j:Int)) (congrArg V.int hj) ?_
 obtain⟨pa,pk,ez,hk',hq⟩:=t2.get (i6 hjn)
 obtain⟨x,y,m,rfl⟩:=h3 pk (j0 hk')
 have hat:atI zs (j:Int)=some (.ref pa):=A1 (j:=j) (by rw[i6 hjn,ez])
 refine⟨_,rfl,_,rfl,l,_,_,_,rfl,rfl,SqL.of gl2,hat,pa,_,rfl,hq,rfl,_,_,rfl,_,_,rfl,_,_,rfl,rfl,?_⟩
 have J0:SpJ K H a l c1 w j x y m zs ks 0 [some (.ref a),some (.int c1),some (.int w),some (.ref l),some (.int j),some (.int x),some (.int y),some (.int m)] H2:=⟨zs,ks,rfl,s2,gl2,t2,h3,by omega,fun _=>⟨rfl,rfl⟩⟩
 obtain⟨zs',ks',_,sA,gA,tA,h3A,hlA,hW⟩:=J0
 refine⟨SpJ K H a l c1 w j x y m zs ks 1,?_,?_⟩
 ·refine⟨_,rfl,rfl,_,rfl,aa9 (fun h=>?_) (fun h=>⟨zs',ks',rfl,sA,gA,tA,h3A,hlA,fun hk=>hW (by omega)⟩)⟩
  have hwk:w=1:=by
   have:=of_decide_eq_true h
   rw[V.int.injEq]at this
   omega
  obtain⟨rfl,rfl⟩:=hW (by omega)
  refine⟨_,rfl,.inl ⟨rfl,_,SqL.of gA⟩,_,rfl,l,_,_,j,_,rfl,rfl,gA,by omega,by omega,(az1 (M5 hjn)).1,(by rw[i6 hjn]),?_⟩
  exact⟨_,_,rfl,sA.upd fl,c7,v9.updL gA (v9.eraseK j tA),h3A.erase j,C4 (bo1 ..) (by omega),fun h=>absurd h (by omega)⟩
 rintro σ' H' ⟨zs',ks',rfl,sA,gA,tA,h3A,hlA,hW⟩
 refine⟨SpJ K H a l c1 w j x y m zs ks 2,?_,?_⟩
 ·refine⟨_,rfl,rfl,_,rfl,aa9 (fun h=>?_) (fun h=>⟨zs',ks',rfl,sA,gA,tA,h3A,hlA,fun hk=>hW (by omega)⟩)⟩
  have hwk:w=2:=by
   have:=of_decide_eq_true h
   rw[V.int.injEq]at this
   omega
  obtain⟨rfl,rfl⟩:=hW (by omega)
  refine⟨_,rfl,.inl ⟨rfl,_,SqL.of gA⟩,_,rfl,_,rfl,_,rfl,l,_,_,_,rfl,rfl,SqL.of gA,hat,l,_,_,j,rfl,rfl,gA,by omega,by omega,?_⟩
  obtain⟨pb,pk2,ez2,hk2,hq2⟩:=tA.get (i6 hjn)
  have epb:pb=pa:=by rw[ez]at ez2;injection ez2 with e;exact e.symm
  subst epb
  exact⟨_,_,rfl,sA.upd fl,c7,v9.updL gA (v9.insK hq2 j tA),h3A.ins j (h3A _ (j0 hk2)),by rw[m5,m5,O7,u5,C0];omega,fun h=>absurd h (by omega)⟩
 rintro σ' H' ⟨zs',ks',rfl,sA,gA,tA,h3A,hlA,hW⟩
 refine⟨SpJ K H a l c1 w j x y m zs ks 3,?_,?_⟩
 ·refine⟨_,rfl,rfl,_,rfl,aa9 (fun h=>?_) (fun h=>⟨zs',ks',rfl,sA,gA,tA,h3A,hlA,fun hk=>hW (by omega)⟩)⟩
  have hwk:w=3:=by
   have:=of_decide_eq_true h
   rw[V.int.injEq]at this
   omega
  obtain⟨rfl,rfl⟩:=hW (by omega)
  refine⟨_,rfl,_,rfl,_,rfl,(by show 3<=d7;omega),fun p fp=>?_⟩
  have stp:=d4 (o:=.tup [.int y,.int x,.int m]) fp
  have gA':=stp _ _ gA
  refine⟨_,rfl,_,rfl,l,_,_,j,rfl,rfl,gA',M5 hjn,?_⟩
  exact⟨_,_,rfl,(sA.trans stp).upd fl,c7,v9.updL gA' (v9.setK (k:=[y,x,m]) (SqT.of c7) j (stp.tups tA)),h3A.set j _ _ _,by rw[B7];omega,fun h=>absurd h (by omega)⟩
 rintro σ' H' ⟨zs',ks',rfl,sA,gA,tA,h3A,hlA,hW⟩
 refine⟨SpJ K H a l c1 w j x y m zs ks 4,?_,?_⟩
 ·refine⟨_,rfl,rfl,_,rfl,aa9 (fun h=>?_) (fun h=>⟨zs',ks',rfl,sA,gA,tA,h3A,hlA,fun hk=>hW (by omega)⟩)⟩
  have hwk:w=4:=by
   have:=of_decide_eq_true h
   rw[V.int.injEq]at this
   omega
  obtain⟨rfl,rfl⟩:=hW (by omega)
  refine⟨_,rfl,.inl ⟨rfl,_,SqL.of gA⟩,_,rfl,.inl ⟨rfl,_,SqL.of gA⟩,_,rfl,l,_,_,j,_,rfl,rfl,gA,by omega,by omega,(az1 (M5 hjn)).1,(by rw[i6 hjn]),?_⟩
  obtain⟨pb,pk2,ez2,hk2,hq2⟩:=tA.get (i6 hjn)
  have hle:(zs'.eraseIdx j).length<=zs'.length:=bo1 ..
  have hle2:(ks'.eraseIdx j).length+1=ks'.length:=by
   rw[List.length_eraseIdx,if_pos (by omega)]
   omega
  refine⟨l,_,_,rfl,rfl,c7,by omega,?_⟩
  rw[ak2]
  refine⟨_,_,rfl,sA.upd fl,c7,v9.updL gA (v9.append (v9.eraseK j tA) (ez2 ▸ v9.one hq2)),(h3A.erase j).snoc (h3A _ (j0 hk2)),by rw[m5,O7];omega,fun h=>absurd h (by omega)⟩
 rintro σ' H' ⟨zs',ks',rfl,sA,gA,tA,h3A,hlA,hW⟩
 refine⟨SpJ K H a l c1 w j x y m zs ks 5,?_,?_⟩
 ·refine⟨_,rfl,rfl,_,rfl,aa9 (fun h=>?_) (fun h=>⟨zs',ks',rfl,sA,gA,tA,h3A,hlA,fun hk=>hW (by omega)⟩)⟩
  have hwk:w=5:=by
   have:=of_decide_eq_true h
   rw[V.int.injEq]at this
   omega
  obtain⟨rfl,rfl⟩:=hW (by omega)
  refine⟨_,rfl,_,rfl,_,rfl,_,rfl,_,_,rfl,rfl,_,rfl,_,_,rfl,rfl,⟨by decide,by decide⟩,_,_,rfl,rfl,⟨by decide,by decide,by decide⟩,_,_,rfl,rfl,p30,_,_,rfl,rfl,(by show 4<=d7;omega),fun l4 f4=>?_⟩
  have s4:=d4 (o:=.lst [.int 1,.int (0 - m),.int (c1 / 9 % 10 ^ (W2 30)),.int (0 - 1)]) f4
  obtain⟨v,hv⟩:=bf2 1 (0 - m) (c1 / 9 % 10 ^ (W2 30)) (0 - 1) (c1 / 99 % 4) ⟨N7 _ (by decide),K1 _ (by decide)⟩
  refine⟨_,rfl,_,_,rfl,rfl,⟨by decide,by decide⟩,_,_,rfl,rfl,(by show (0:Int)<4;decide),l4,_,_,_,rfl,rfl,SqL.of c7,hv,_,_,rfl,rfl,(by show 3<=d7;omega),fun p fp=>?_⟩
  have stp:=d4 (o:=.tup [.int x,.int y,.int (m+v)]) fp
  have gA':=stp _ _ (s4 _ _ gA)
  refine⟨_,rfl,_,rfl,l,_,_,j,rfl,rfl,gA',M5 hjn,?_⟩
  exact⟨_,_,rfl,((sA.trans s4).trans stp).upd fl,c7,v9.updL gA' (v9.setK (k:=[x,y,(m+v)]) (SqT.of c7) j (stp.tups (s4.tups tA))),h3A.set j _ _ _,by rw[B7];omega,fun h=>absurd h (by omega)⟩
 rintro σ' H' ⟨zs',ks',rfl,sA,gA,tA,h3A,hlA,hW⟩
 refine⟨SpJ K H a l c1 w j x y m zs ks 6,?_,?_⟩
 ·refine⟨_,rfl,rfl,_,rfl,aa9 (fun h=>?_) (fun h=>⟨zs',ks',rfl,sA,gA,tA,h3A,hlA,fun hk=>hW (by omega)⟩)⟩
  have hwk:w=6:=by
   have:=of_decide_eq_true h
   rw[V.int.injEq]at this
   omega
  obtain⟨rfl,rfl⟩:=hW (by omega)
  refine⟨_,rfl,_,rfl,_,_,rfl,rfl,_,rfl,_,_,rfl,rfl,_,rfl,_,_,rfl,rfl,⟨by decide,by decide⟩,_,_,rfl,rfl,⟨by decide,by decide,by decide⟩,_,_,rfl,rfl,p30,(by show 4<=d7;omega),fun l4 f4=>?_⟩
  have s4:=d4 (o:=.lst [.int 1,.int 24,.int (0 - 1 - y),.int (c1 / 9 % 10 ^ (W2 30))]) f4
  obtain⟨v,hv⟩:=bf2 1 24 (0 - 1 - y) (c1 / 9 % 10 ^ (W2 30)) (c1 / 99 % 4) ⟨N7 _ (by decide),K1 _ (by decide)⟩
  refine⟨_,rfl,_,_,rfl,rfl,⟨by decide,by decide⟩,_,_,rfl,rfl,(by show (0:Int)<4;decide),l4,_,_,_,rfl,rfl,SqL.of c7,hv,_,_,rfl,rfl,_,rfl,(by show 3<=d7;omega),fun p fp=>?_⟩
  have stp:=d4 (o:=.tup [.int x,.int (y+v),.int m]) fp
  have gA':=stp _ _ (s4 _ _ gA)
  refine⟨_,rfl,_,rfl,l,_,_,j,rfl,rfl,gA',M5 hjn,?_⟩
  exact⟨_,_,rfl,((sA.trans s4).trans stp).upd fl,c7,v9.updL gA' (v9.setK (k:=[x,(y+v),m]) (SqT.of c7) j (stp.tups (s4.tups tA))),h3A.set j _ _ _,by rw[B7];omega,fun h=>absurd h (by omega)⟩
 rintro σ' H' ⟨zs',ks',rfl,sA,gA,tA,h3A,hlA,hW⟩
 refine⟨SpJ K H a l c1 w j x y m zs ks 7,?_,?_⟩
 ·refine⟨_,rfl,rfl,_,rfl,aa9 (fun h=>?_) (fun h=>⟨zs',ks',rfl,sA,gA,tA,h3A,hlA,fun hk=>hW (by omega)⟩)⟩
  have hwk:w=7:=by
   have:=of_decide_eq_true h
   rw[V.int.injEq]at this
   omega
  obtain⟨rfl,rfl⟩:=hW (by omega)
  refine⟨_,rfl,_,_,rfl,rfl,_,rfl,_,rfl,(by show 3<=d7;omega),fun p fp=>?_⟩
  have stp:=d4 (o:=.tup [.int (x - 1),.int y,.int m]) fp
  have gA':=stp _ _ gA
  refine⟨_,rfl,_,rfl,l,_,_,j,rfl,rfl,gA',M5 hjn,?_⟩
  exact⟨_,_,rfl,(sA.trans stp).upd fl,c7,v9.updL gA' (v9.setK (k:=[(x - 1),y,m]) (SqT.of c7) j (stp.tups (tA))),h3A.set j _ _ _,by rw[B7];omega,fun h=>absurd h (by omega)⟩
 rintro σ' H' ⟨zs',ks',rfl,sA,gA,tA,h3A,hlA,hW⟩
 refine⟨SpJ K H a l c1 w j x y m zs ks 8,?_,?_⟩
 ·have same8:SpJ K H a l c1 w j x y m zs ks 8 [some (.ref a),some (.int c1),some (.int w),some (.ref l),some (.int j),some (.int x),some (.int y),some (.int m)] H':=⟨zs',ks',rfl,sA,gA,tA,h3A,hlA,fun hk=>hW (by omega)⟩
  refine⟨_,rfl,rfl,_,rfl,aa9 (fun h=>?_) (fun h=>J2 same8)⟩
  refine⟨_,rfl,_,_,rfl,rfl,_,rfl,aa9 (fun h2=>?_) (fun h2=>same8)⟩
  have hwk:w=8:=by
   have:=of_decide_eq_true h
   rw[V.int.injEq]at this
   omega
  obtain⟨rfl,rfl⟩:=hW (by omega)
  refine⟨_,rfl,_,rfl,_,rfl,_,_,rfl,rfl,(by show 3<=d7;omega),fun p fp=>?_⟩
  have stp:=d4 (o:=.tup [.int x,.int y,.int (m - 1)]) fp
  have gA':=stp _ _ gA
  refine⟨_,rfl,_,rfl,l,_,_,j,rfl,rfl,gA',M5 hjn,?_⟩
  have tB:=v9.updL (zs:=zs'.set j (.ref p)) gA' (v9.setK (k:=[x,y,m - 1]) (SqT.of c7) j (stp.tups tA))
  have sB:=(sA.trans stp).upd (o:=.lst (zs'.set j (.ref p))) fl
  have gB:(upd (upd H' p (.tup [.int x,.int y,.int (m - 1)])) l (.lst (zs'.set j (.ref p)))) l=some (.lst (zs'.set j (.ref p))):=c7
  generalize upd (upd H' p (.tup [.int x,.int y,.int (m - 1)])) l (.lst (zs'.set j (.ref p)))=HB at tB sB gB ⊢
  refine⟨_,rfl,.inl ⟨rfl,_,SqL.of gB⟩,_,rfl,_,rfl,_,rfl,(by show 3<=d7;omega),fun p2 fp2=>?_⟩
  have st2:=d4 (o:=.tup [.int x,.int y,.int 1]) fp2
  have gB':=st2 _ _ gB
  refine⟨l,_,_,j,rfl,rfl,gB',by rw[B7];omega,by rw[B7];omega,?_⟩
  exact⟨_,_,rfl,(sB.trans st2).upd fl,c7,v9.updL gB' (v9.insK (k:=[x,y,1]) (SqT.of c7) j (st2.tups tB)),(h3A.set j _ _ _).ins j ⟨_,_,_,rfl⟩,by rw[m5,m5,O7,u5,C0,B7];omega,fun h=>absurd h (by omega)⟩
 rintro σ' H' ⟨zs',ks',rfl,sA,gA,tA,h3A,hlA,hW⟩
 exact⟨_,rfl,q l zs' ks' H' sA gA tA h3A hlA⟩
end
end Web
namespace Web
open PySem L2
theorem ThW.grow {K:W.Frag}{PT b:Addr}{M:Nat}(h:ThW K H b ns M ks)(g:O5 PT H H')(t:Tb PT H):ThW K H' b ns M ks:=by
 obtain⟨⟨u,zs,h1,h2,h3⟩,a1,a2,a3,a4⟩:=h
 exact⟨⟨u,zs,aj0 g t h1,aj0 g t h2,ak9 g t h3⟩,a1,a2,a3,a4⟩
theorem aG8.grow {K:W.Frag}{PT r:Addr}{M:Nat}(h:aG8 K H r ns M)(g:O5 PT H H')(t:Tb PT H):aG8 K H' r ns M:=by
 rcases h with⟨x,b,h1,h2,h3,h4⟩ | ⟨hG,b,ks,h1,h2⟩
 ·exact .inl ⟨x,b,h1,h2,aj0 g t h3,aj0 g t h4⟩
 ·exact .inr ⟨hG,b,ks,aj0 g t h1,h2.grow g t⟩
theorem aG8.updL {K:W.Frag}{r l:Addr}{M:Nat}{us:List V}(h:aG8 K H r ns M)(hl:H l=some (.lst xs)):aG8 K (upd H l (.lst us)) r ns M:=by
 rcases h with⟨x,b,h1,h2,h3,h4⟩ | ⟨hG,b,ks,h1,⟨u,zs,e1,e2,e3⟩,a1,a2,a3,a4⟩
 ·exact .inl ⟨x,b,h1,h2,ah9 h3 hl,ah9 h4 hl⟩
 ·exact .inr ⟨hG,b,ks,ah9 h1 hl,⟨u,zs,ah9 e1 hl,ah9 e2 hl,v9.updL hl e3⟩,a1,a2,a3,a4⟩
theorem bc6 {K:W.Frag}{b:Addr}{M:Nat}(ht:X7 ns)(h:ThW K H b ns M ks):ks.length<=276:=by
 have nd:(ks.map two).Nodup:=U6.mpr (L4.mpr (h.pw.imp fun {a b} hl e=>by
  unfold two at e
  injection e with e1 e2
  injection e2 with e2 _
  unfold ar3 at hl
  omega))
 have:=bN5 ht.2 nd fun k hk=>by
  obtain⟨k',hk',rfl⟩:=E8.mp hk
  obtain⟨i,j,x,rfl,h1,h2,_⟩:=h.tr k' hk'
  exact⟨i,j,h1,h2,rfl⟩
 rwa [b9]at this
theorem bc5 {K:W.Frag}{b:Addr}{M:Nat}(h:ThW K H b ns M ks):aj3 ks:=fun k hk=>by
 obtain⟨i,j,x,rfl,_⟩:=h.tr k hk
 exact⟨i,j,x,rfl⟩
theorem aG8.aw {K:W.Frag}{r:Addr}{M:Nat}(ht:X7 ns)(h:aG8 K H r ns M):∃ x:Aw8,ad2 K H r x:=by
 rcases h with⟨x,b,h1,_,h3,h4⟩ | ⟨_,b,ks,h1,h2⟩
 ·cases x with
  | free=>exact absurd rfl h1
  | odd=>exact⟨.wall .odd,b,SqT.of h3,SqT.of h4⟩
  | below p=>exact⟨.wall (.below p),b,SqT.of h3,SqT.of h4⟩
  | wall p=>exact⟨.wall (.wall p),b,SqT.of h3,SqT.of h4⟩
 ·have hl:=bc6 ht h2
  have h3:=bc5 h2
  obtain⟨⟨t,zs,k1,k2,k3⟩,_⟩:=h2
  exact⟨.web ns.length ks,b,SqT.of h1,⟨t,zs,SqT.of k1,SqT.of k2,k3⟩,h3,by omega⟩
theorem ad2.updL {K:W.Frag}{r l:Addr}{x:Aw8}{us:List V}(h:ad2 K H r x)(hl:H l=some (.lst xs)):ad2 K (upd H l (.lst us)) r x:=by
 cases x with
 | wall x=>obtain⟨p,h1,h2⟩:=h;exact⟨p,SqT.updL h1 hl,SqT.updL h2 hl⟩
 | web z ks =>
  obtain⟨p,h1,⟨t,zs,h2,h3,h4⟩,a,b⟩:=h
  exact⟨p,SqT.updL h1 hl,⟨t,zs,SqT.updL h2 hl,SqT.updL h3 hl,v9.updL hl h4⟩,a,b⟩
theorem ad2.grow {K:W.Frag}{PT r:Addr}{x:Aw8}(h:ad2 K H r x)(g:O5 PT H H')(t:Tb PT H):ad2 K H' r x:=by
 cases x with
 | wall x=>obtain⟨p,h1,h2⟩:=h;exact⟨p,O5.sqT g t h1,O5.sqT g t h2⟩
 | web z ks =>
  obtain⟨p,h1,⟨u,zs,h2,h3,h4⟩,a,b⟩:=h
  exact⟨p,O5.sqT g t h1,⟨u,zs,O5.sqT g t h2,O5.sqT g t h3,ak9 g t h4⟩,a,b⟩
theorem bl4 {PT l:Addr}{o:HO}(g:O5 PT H H')(h:H l=none):O5 PT H (upd H' l o):=fun b u hb q=>by
 rw[p8 (t8 q h)]
 exact g b u hb q
theorem bC2 {PT l:Addr}{o:HO}{po:Pos}{qu:Str}(t:Y7 PT po qu H)(h:H l=some (.lst xs)):Y7 PT po qu (upd H l o):=by
 obtain⟨ps,hP,r1,r2⟩:=t
 refine⟨ps,by rw[p8 (fun z=>by rw[z,h]at hP;cases hP)];exact hP,r1,r2.imp id fun⟨c,e,g⟩=>⟨c,e,?_⟩⟩
 rw[p8 (fun z=>by rw[z,h]at g;cases g)]
 exact g
structure An8 (K:W.Frag) (PT:Addr) (HB:Hp) (l r0:Addr) (ts:List Int) (M n:Nat) (Hc:Hp) (us:List V):Prop where
 g:O5 PT HB Hc
 t:Tb PT Hc
 f:HB l=none
 at_:Hc l=some (.lst (.ref r0::us))
 len:us.length<=n
 all:∀ u∈(.ref r0::us:List V),∃ (r:Addr) (x:Aw8),u=.ref r/\ad2 K Hc r x
 ans:aG8 K Hc r0 ts M
theorem An8.grow {K:W.Frag}{PT l r0:Addr}{HB Hc Hd:Hp}{ts:List Int}{M:Nat}{us:List V}(h:An8 K PT HB l r0 ts M n Hc us)(g:O5 PT Hc Hd)(t:Tb PT Hd):An8 K PT HB l r0 ts M n Hd us:=
 ⟨h.g.trans g,t,h.f,P9 g h.t h.at_,h.len,fun u hu=>let ⟨r,x,e,a⟩:=h.all u hu;⟨r,x,e,a.grow g h.t⟩,h.ans.grow g h.t⟩
theorem An8.same {K:W.Frag}{PT l r0:Addr}{HB Hc Hd:Hp}{ts:List Int}{M:Nat}{us:List V}(h:An8 K PT HB l r0 ts M n Hc us)(s:B3 Hc Hd):An8 K PT HB l r0 ts M n Hd us:=h.grow (s.grow PT) (h.t.same s)
theorem An8.app {K:W.Frag}{PT l r0 r:Addr}{HB Hc:Hp}{ts:List Int}{M:Nat}{us:List V}{x:Aw8}(h:An8 K PT HB l r0 ts M n Hc us)(hx:ad2 K Hc r x):An8 K PT HB l r0 ts M (n+1) (upd Hc l (.lst ((.ref r0::us)++[.ref r]))) (us++[.ref r]):=by
 refine⟨bl4 h.g h.f,bC2 h.t h.at_,h.f,c7,by rw[m5];have:=h.len;exact Nat.succ_le_succ this,fun u hu=>?_,h.ans.updL h.at_⟩
 rcases u9.mp (show u∈(.ref r0::us)++[.ref r] from hu) with e | e
 ·obtain⟨r',y,e',a⟩:=h.all u e
  exact⟨r',y,e',a.updL h.at_⟩
 ·exact⟨r,x,B9.mp e,hx.updL h.at_⟩
theorem bg6 {b c:Bool}{p:Prop}(h:b=true↔p)(g:c=true↔p):b=c:=by
 cases b<;>cases c
 ·rfl
 ·exact absurd (h.mpr (g.mp rfl)) (by decide)
 ·exact absurd (g.mpr (h.mp rfl)) (by decide)
 ·rfl
theorem aO2 {K:W.Frag}{Q:VK}{l u:Addr}{a b:Bool}(hun:A.units+64<aw4)(gl:H l=some (.lst [.bl a,.bl b]))(gu:H u=some (.lst [.bl a,.bl b]))(q:Q (.bl false) H):bD4 K A true (.ref l) (.ref u) H Q:=by
 refine⟨.list [.bool a,.bool b],.list [.bool a,.bool b],Dt.mkL (SqL.of gl) (.mkC (bf9 _) (.mkC (bf9 _) .mkN)),Dt.mkL (SqL.of gu) (.mkC (bf9 _) (.mkC (bf9 _) .mkN)),?_,?_,?_,?_⟩
 ·simp[PyData.canLay0,PyData.canLayAll0]
 ·simp[PyData.canLay0,PyData.canLayAll0]
 ·exact aH1 hun (C4 (af1 _ _) (by simp[PyData.depth,PyData.depthAll]))
 ·have e:PyData.eqv (.list [.bool a,.bool b]) (.list [.bool a,.bool b])=true:=by simp[PyData.eqv,PyData.eqvAll]
  rw[e]
  exact q
theorem rep1 (m:Nat)(z:Int):(o9 m [V.int z]).flatten=(o9 m z).map V.int:=by
 induction m with
 | zero=>rfl
 | succ m ih=>rw[J3,N3,ih,J3,x8];rfl
theorem be8 {lo hi:Option Int}{u:V}(h:u∈S5 xs lo hi):u∈xs:=J9 (K0 h)
def Tr8 (K:W.Frag)(H:Hp)(tr:Addr)(zs:List V)(ks:List (List Int)):Prop:=H tr=some (.lst zs)/\v9 K H zs ks/\aj3 ks/\ks.length<=276
theorem Tr8.same {K:W.Frag}{tr:Addr}{zs:List V}(h:Tr8 K H tr zs ks)(s:B3 H H'):Tr8 K H' tr zs ks:=⟨s _ _ h.1,s.tups h.2.1,h.2.2⟩
theorem Tr8.updL {K:W.Frag}{tr l:Addr}{zs us:List V}(h:Tr8 K H tr zs ks)(hl:H l=some (.lst xs))(hn:tr≠l):Tr8 K (upd H l (.lst us)) tr zs ks:=⟨by rw[p8 hn];exact h.1,v9.updL hl h.2.1,h.2.2⟩
seal L2.PE L2.PA L2.PS L2.PSs L2.PT
section
variable {K:W.Frag} {mg:Str->Option Value} {base:Heap}
def aR1 (K:W.Frag)(PT:Addr):Sp:=fun vs H Q _=>∃ (a:Addr) (ns:List Int),vs=[.ref a]/\SqL K H a (ns.map V.int)/\ns.length<=63/\Tb PT H/\∀ H',Q (.bl true) H'
theorem ac1:B6 ["script","cell","tally","most","far","answers","r","triples","k","told","found"] ["script"] (p9 aZ1):=.mk'
set_option maxHeartbeats 4000000 in
theorem bE9 {fC fG fA fS fI fP fD fX CN PT:Addr} {fdC fdG fdS fdI fdP fdD fdX:FuncData} (F:Fun K "law" "law" aZ1 f fd) (B:Bn mg) (FC:Fq K mg "_law_cell_at" aS7 fC fdC ["script","k"])
  (FG:Fq K mg "_law_drawn" aB7 fG fdG ["cell"]) (GG:A4 P w K mg base CX0 7 fG fdG ["cell"] (aL1 K))
  (FA:Fq K mg "thick_answered" br4 fA fdA ["tally","most"]) (GA:A4 P w K mg base (CXE P w) 7 fA fdA ["tally","most"] (bp8 K CB CN PT))
  (FS:Fq K mg "thick_shows" bj3 fS fdS ["tally","most","told"]) (GS:A4 P w K mg base (CXE P w) 7 fS fdS ["tally","most","told"] (aK9 K CB CN))
  (FI:Fq K mg "_law_thick" an5 fI fdI ["cell","places","most"]) (GI:A4 P w K mg base CX0 7 fI fdI ["cell","places","most"] (ay4 K))
  (FP:Fq K mg "_law_spoiled" aB2 fP fdP ["triples","cell"]) (GP:A4 P w K mg base CX0 7 fP fdP ["triples","cell"] (bZ6 K))
  (FD:Fq K mg "_law_due" br7 fD fdD ["tally","most","told"]) (GD:A4 P w K mg base CX0 7 fD fdD ["tally","most","told"] (bq4 K))
  (FX:Fq K mg "_law_refused" aS2 fX fdX ["tally","most","told"]) (GX:A4 P w K mg base CX0 7 fX fdX ["tally","most","told"] (bq1 K)):A4 P w K mg base CX0 8 f fd ["script"] (aR1 K PT):=by
 have GC:A4 P w K mg base CX0 7 fC fdC ["script","k"] (bq5 K):=(bF1 FC.F B).mono (by decide)
 refine F.ok ac1 (fun cdv A outer s H vs Q E hr h=>?_)
 obtain⟨sc,ns,rfl,hS,hlen,tb,q⟩:=h
 have hsl:=O3
 have hun:=hr.units
 refine⟨_,d8 (T7 PassesOwn.never rfl (Z4 (m8 aZ7 (L8 (b7 (F2 GC hr (by rfl) FC K3 (b7 (pv 0) (b7 c9 d3))) d3)) (R3 Z2 (pv 0) (T5 c9) (T5 c9)))) (B4 (i:=1) ac1.nd rfl (Or.inl rfl))
   (d8 (R1 (F2 GG hr (by rfl) FG K3 (b7 (pv 1) d3)) (at9 rfl (F7 (B4 (i:=2) ac1.nd rfl (Or.inl rfl)) (F7 (B4 (i:=3) ac1.nd rfl (Or.inl rfl)) Z5))))
   (d8 (y7 (i:=1) ac1.nd rfl (Or.inl rfl) (m8 E6 (pv 1) (m8 V4 c9 c9)))
   (d8 (y7 (i:=4) ac1.nd rfl (Or.inl rfl) (m8 G3 (m8 E6 (pv 1) (m8 V4 c9 c9)) c9))
   (d8 (y7 (i:=5) ac1.nd rfl (Or.inl rfl) (L8 (b7 (F2 GA hr (by rfl) FA (aH7 (P:=P) (w:=w)) (b7 (pv 2) (b7 (pv 3) d3))) (b7 (F5 (b7 N9 (b7 (F5 (b7 N9 d3)) d3))) (b7 (F2 GA hr (by rfl) FA (aH7 (P:=P) (w:=w)) (b7 (pv 2) (b7 (m8 V4 c9 c9) d3))) d3)))))
   (d8 (J6 (aa7 PySem.F.plainAttrs_list PySem.F.slot_list_append PySem.F.type_list_append L7 (pv 5) (b7 (F2 GA hr (by rfl) FA (aH7 (P:=P) (w:=w)) (b7 (pv 2) (b7 (p0 (ae2 rfl) (by rfl) B.max (by rfl) (b7 c9 (b7 (m8 P8 (pv 3) c9) d3))) d3))) d3)))
   (d8 (T7 PassesOwn.never rfl (Z4 (m8 aZ7 (L8 (b7 (pv 4) (b7 (m8 P8 c9 (pv 4)) d3))) (L6 (aG6 rfl) (by rfl) B.list (by rfl) (b7 (bE0 (by rfl) B.range (b7 (bL0 bo8 c9) (b7 (m8 G3 (p0 y9 (by rfl) B.len PySem.boot_len (b7 (pv 2) d3)) c9) d3))) d3)))) (B4 (i := 6) ac1.nd rfl (Or.inl rfl))
    (d8 (J6 (aa7 PySem.F.plainAttrs_list PySem.F.slot_list_append PySem.F.type_list_append L7 (pv 5) (b7 (F5 (b7 N9 (b7 (F5 (b7 N9 (b7 (pv 6) d3))) d3))) d3))) (k8 (J6 (aa7 PySem.F.plainAttrs_list PySem.F.slot_list_append PySem.F.type_list_append L7 (pv 5) (b7 (F5 (b7 N9 (b7 (F5 (b7 N9 (b7 (pv 6) d3))) d3))) d3))))))
   (d8 (y7 (i:=7) ac1.nd rfl (Or.inl rfl) (F2 GI hr (by rfl) FI K3 (b7 (m8 F6 (m8 F6 (pv 1) c9) c9) (b7 (p0 y9 (by rfl) B.len PySem.boot_len (b7 (pv 2) d3)) (b7 (pv 3) d3)))))
   (O1 (F1 (x6 P4 (C1 C8 (C1 G8 (pv 5) c9 (fun _ _=>rfl)) c9 (fun _ _=>rfl)) N9 (B1 _)) (k8 (y7 (i:=7) ac1.nd rfl (Or.inl rfl) (L6 V6 (by rfl) B.list (by rfl) (b7 (C1 C8 (C1 C8 (C1 G8 (pv 5) c9 (fun _ _=>rfl)) c9 (fun _ _=>rfl)) c9 (fun _ _=>rfl)) d3)))) A3)
   (d8 (T7 PassesOwn.never rfl (aa2 rfl B.range (b7 c9 d3)) (B4 (i:=8) ac1.nd rfl (Or.inl rfl)) (k8 (J6 (aa7 PySem.F.plainAttrs_list PySem.F.slot_list_append PySem.F.type_list_append L7 (pv 5) (b7 (F5 (b7 N9 (b7 (F5 (b7 (p0 y9 (by rfl) B.len PySem.boot_len (b7 (pv 2) d3)) (b7 (L6 O0 (by rfl) B.tuple (by rfl) (b7 (F2 GP hr (by rfl) FP K3 (b7 (pv 7) (b7 (m8 G3 (m8 W7 (m8 F6 (pv 1) c9) c9) (pv 8)) d3))) d3)) d3))) d3))) d3)))))
   (d8 (J6 (aa7 PySem.F.plainAttrs_list PySem.F.slot_list_append PySem.F.type_list_append L7 (pv 5) (b7 (F5 (b7 N9 (b7 (F5 (b7 (m8 G3 (p0 y9 (by rfl) B.len PySem.boot_len (b7 (pv 2) d3)) c9) (b7 (L6 O0 (by rfl) B.tuple (by rfl) (b7 (pv 7) d3)) d3))) d3))) d3)))
   (d8 (J6 (aa7 PySem.F.plainAttrs_list PySem.F.slot_list_append PySem.F.type_list_append L7 (pv 5) (b7 (F5 (b7 N9 (b7 (F5 (b7 (pv 4) (b7 (L6 O0 (by rfl) B.tuple (by rfl) (b7 (pv 7) d3)) d3))) d3))) d3)))
   (d8 (T7 PassesOwn.never rfl (Z4 (pv 5)) (B4 (i := 9) ac1.nd rfl (Or.inl rfl))
    (d8 (y7 (i:=10) ac1.nd rfl (Or.inl rfl) (F2 GS hr (by rfl) FS (aH7 (P:=P) (w:=w)) (b7 (pv 2) (b7 (pv 3) (b7 (pv 9) d3)))))
    (d8 (F1 (PW.pt (ai4 (R0 (aa5 (p0 (af8 K rfl) (by rfl) B.isin (by rfl) (b7 (pv 10) (b7 (ak6 (v:=.ty "bool") (by rfl) B.bool (by rfl) rfl) d3))))) (an9 (x6 aT3 (pv 10) (F2 GD hr (by rfl) FD K3 (b7 (pv 2) (b7 (pv 3) (b7 (pv 9) d3)))) (B1 _))))) ad7 A3)
    (k8 (F1 (x6 aT3 (F2 GS hr (by rfl) FS (aH7 (P:=P) (w:=w)) (b7 (L6 O0 (by rfl) B.tuple (by rfl) (b7 (pv 2) d3)) (b7 (pv 3) (b7 (pv 9) d3)))) (pv 10) (B1 _)) ad7 A3)))))
   (k8 (T7 PassesOwn.never rfl (Z4 (m8 aZ7 (R3 Z2 (pv 5) X2 (T5 c9)) (R3 Z2 (pv 5) (T5 (bL0 bo8 c9)) X2))) (B4 (i := 9) ac1.nd rfl (Or.inl rfl))
    (d8 (F1 (PW.pt (ai4 (x6 aC3 (F2 GX hr (by rfl) FX K3 (b7 (L8 d3) (b7 c9 (b7 (pv 9) d3)))) (L8 (b7 Y6 (b7 Y6 d3))) (B1 _)) (an9 (x6 aC3 (F2 GX hr (by rfl) FX K3 (b7 (pv 2) (b7 c9 (b7 (pv 9) d3)))) (L8 (b7 Y6 (b7 Y6 d3))) (B1 _))))) ad7 A3)
    (d8 (F1 (x6 aC3 (F2 GX hr (by rfl) FX K3 (b7 (m8 aC2 (L8 (b7 c9 d3)) c9) (b7 c9 (b7 (pv 9) d3)))) (L8 (b7 Y6 (b7 Y6 d3))) (B1 _)) ad7 A3)
    (k8 (F1 (x6 aC3 (F2 GX hr (by rfl) FX K3 (b7 (pv 2) (b7 (m8 G3 (m8 V4 c9 c9) c9) (b7 (pv 9) d3)))) (L8 (b7 Y6 (b7 Y6 d3))) (B1 _)) ad7 A3)))))))))))))))))))
  (k8 (B8 Y6)),?_⟩
 refine⟨_,rfl,sc,ns,0,rfl,hS,fun c0=>?_⟩
 refine⟨(by show 1<=d7;decide),fun l0 f0=>?_⟩
 have sl0:=d4 (o:=.lst [.int c0]) f0
 obtain⟨ks,hks,hkl⟩:=bm2 ns (some 1) (some 9)
 refine⟨_,rfl,_,rfl,_,rfl,sc,ns.map V.int,rfl,sl0.seq hS,fun l1 f1=>?_⟩
 rw[hks]
 have sl1:=d4 (o:=.lst (ks.map V.int)) f1
 refine⟨l0,l1,_,_,rfl,rfl,sl1 _ _ c7,c7,by rw[b9];show 1+ks.length<=d7;omega,fun ld fld=>⟨ld,rfl,⟨_,SqL.of c7⟩,?_⟩⟩
 have sL:=(sl0.trans sl1).trans (d4 (o:=.lst ([.int c0]++ks.map V.int)) fld)
 have gld:(upd (upd (upd H l0 (.lst [.int c0])) l1 (.lst (ks.map V.int))) ld (.lst ([.int c0]++ks.map V.int))) ld=some (.lst (([c0]++ks:List Int).map V.int)):=by rw[c7,p7];rfl
 generalize upd (upd (upd H l0 (.lst [.int c0])) l1 (.lst (ks.map V.int))) ld (.lst ([.int c0]++ks.map V.int))=HB at gld sL
 clear sl1 sl0 f0 f1 fld hks
 have tbL:=tb.same sL
 refine aj2 (K:=K) (a:=ld) (xs:=([c0]++ks:List Int).map V.int) (fun _ σ H2=>∃ e1 e2 e3 e4 e5 e6 e7 e8 e9 e10,σ=[some (.ref sc),e1,e2,e3,e4,e5,e6,e7,e8,e9,e10]/\O5 PT HB H2/\Tb PT H2) ⟨_,_,_,_,_,_,_,_,_,_,rfl,O5.refl PT HB,tbL⟩ (fun i σ H2 _ ⟨_,_,_,_,_,_,_,_,_,_,_,g,_⟩=>SqL.of (P9 g tbL gld)) ?_ ?_
 ·rintro i x σ Ha hx ⟨e1,e2,e3,e4,e5,e6,e7,e8,e9,e10,rfl,ga,tba⟩
  obtain⟨z,rfl⟩:=int_at hx
  refine F0 ?_
  refine⟨_,rfl,z,rfl,fun x tl ts M H1 ht hM1 hM2 s1 gl gx=>?_⟩
  refine⟨x,_,rfl,SqT.of gx,rfl,_,_,rfl,_,_,rfl,rfl,?_⟩
  have hM:isM (M:Int):=⟨by omega,by omega⟩
  have t1:=ht.1
  have t2:=ht.2
  have tb1:=tba.same s1
  have g1:=ga.trans (s1.grow PT)
  refine⟨_,rfl,_,_,rfl,rfl,⟨by decide,by decide,by decide⟩,_,_,rfl,rfl,p60,?_⟩
  refine M7 fun c1 _=>?_
  refine⟨_,rfl,_,_,rfl,rfl,⟨by decide,by decide,by decide⟩,_,_,rfl,rfl,p58,_,_,rfl,rfl,?_⟩
  refine M7 fun fr _=>?_
  clear gx s1 ga
  refine⟨_,rfl,_,rfl,tl,ts,(M:Int),rfl,.inl (SqL.of gl),fun _ _=>⟨tb1,fun r0 H2 g2 tb2 an2=>?_⟩,fun _ h=>absurd hM h,fun h=>absurd ht h⟩
  rw[u6]at an2
  refine⟨(by show 1<=d7;decide),fun b1 fb1=>⟨(by show 2<=d7;decide),fun r1 fr1=>?_⟩⟩
  have u1:=d4 (o:=.tup [.str "odd"]) fb1
  have v1:=d4 (o:=.tup [.str "wall",.ref b1]) fr1
  have aw1:ad2 K _ r1 (.wall .odd):=⟨b1,SqT.of c7,SqT.of (v1 _ _ c7)⟩
  have s12:=u1.trans v1
  have an3:=an2.grow (s12.grow PT) tb2
  have tb3:=tb2.same s12
  have g3:=g2.trans (s12.grow PT)
  generalize upd (upd H2 b1 (.tup [.str "odd"])) r1 (.tup [.str "wall",.ref b1])=H3 at aw1 s12 an3 tb3 g3 ⊢
  have gl3:=P9 g3 tb1 gl
  refine⟨_,rfl,_,_,rfl,rfl,⟨by decide,by decide,by decide⟩,tl,ts,_,rfl,.inl (SqL.of gl3),fun _ _=>⟨tb3,fun r2 H4 g4 tb4 an4=>?_⟩,fun _ h=>absurd ⟨by decide,by decide⟩ h,fun h=>absurd ht h⟩
  have an04:=an3.grow g4 tb3
  have aw14:=aw1.grow g4 tb3
  obtain⟨x0,aw0⟩:=an04.aw ht
  obtain⟨x2,aw2⟩:=an4.aw ht
  have g14:=g3.trans g4
  refine⟨(by show 3<=d7;decide),fun l fl=>?_⟩
  have fl1:=aI4 g14 tb4 fl
  have s5:=d4 (o:=.lst [.ref r0,.ref r1,.ref r2]) fl
  have A5:An8 K PT H1 l r0 ts M 2 (upd H4 l (.lst [.ref r0,.ref r1,.ref r2])) [.ref r1,.ref r2]:=⟨g14.trans (s5.grow PT),tb4.same s5,fl1,c7,by show 2<=2;decide,(fun u hu=>by
   rcases j6.mp hu with e | hu
   ·exact⟨r0,x0,e,aw0.same s5⟩
   rcases j6.mp hu with e | hu
   ·exact⟨r1,_,e,aw14.same s5⟩
   rcases j6.mp hu with e | hu
   ·exact⟨r2,x2,e,aw2.same s5⟩
   cases hu),an04.grow (s5.grow PT) tb4⟩
  generalize upd H4 l (.lst [.ref r0,.ref r1,.ref r2])=H5 at A5 ⊢
  generalize ([.ref r1,.ref r2]:List V)=us5 at A5
  clear s5 fl aw14 aw2 aw0 aw1 an04 an4 an3 an2 g14 g4 g3 g2 gl3 u1 v1 s12 tb2 tb3 tb4
  refine F0 ?_
  have hl5:=A5.len
  refine⟨_,rfl,.inl ⟨rfl,_,SqL.of A5.at_⟩,_,rfl,_,rfl,_,_,rfl,rfl,_,_,rfl,?_⟩
  generalize hm:(if (M:Int) - 1 > 1 then (M:Int) - 1 else 1)=m'
  have hm':isM m':=by
   rw[<- hm]
   by_cases c:(M:Int) - 1 > 1
   ·rw[if_pos c];exact⟨by omega,by omega⟩
   ·rw[if_neg c];exact⟨by decide,by decide⟩
  refine⟨tl,ts,m',rfl,.inl (SqL.of (P9 A5.g tb1 gl)),fun _ _=>⟨A5.t,fun r3 H6 g6 tb6 an6=>?_⟩,fun _ h=>absurd hm' h,fun h=>absurd ht h⟩
  have A6:=A5.grow g6 tb6
  obtain⟨x3,aw3⟩:=an6.aw ht
  refine⟨l,_,_,rfl,rfl,A6.at_,(by rw[m6];omega),?_⟩
  have A7:=A6.app aw3
  generalize upd H6 l (.lst ((.ref r0::us5)++[.ref r3]))=H7 at A7 ⊢
  generalize us5++[V.ref r3]=us7 at A7
  clear A6 A5 aw3 an6 g6 tb6 hl5
  refine⟨_,rfl,_,rfl,_,_,rfl,rfl,(by show 2<=d7;decide),fun la fa=>?_⟩
  have sa:=d4 (o:=.lst [.int fr,.int (0 - fr)]) fa
  have hlt:(ts.map V.int).length=ts.length:=b9 ..
  refine⟨_,rfl,_,rfl,tl,_,rfl,.inl (SqL.of (P9 (A7.same sa).g tb1 gl)),_,_,rfl,rfl,-1,((ts.length:Int)+2),by rw[hlt],fun rg frg=>?_⟩
  have srg:=d4 (o:=.rng (-1) ((ts.length:Int)+2)) frg
  refine⟨rg,-1,(ts.length:Int)+2,ts.length+3,rfl,c7,by omega,by omega,by decide,by decide,fun nu fnu=>?_⟩
  have snu:=d4 (o:=.lst ((an8 (-1) (ts.length+3)).map V.int)) fnu
  have hrl:(an8 (-1) (ts.length+3)).length=ts.length+3:=by unfold an8;rw[b9,aF4]
  refine⟨la,nu,_,_,rfl,rfl,(srg.trans snu) _ _ c7,c7,by rw[b9,hrl];show 2+(ts.length+3)<=d7;omega,fun lc flc=>⟨lc,rfl,⟨_,SqL.of c7⟩,?_⟩⟩
  have slc:=d4 (o:=.lst ([.int fr,.int (0 - fr)]++(an8 (-1) (ts.length+3)).map V.int)) flc
  have gc:(upd (upd (upd (upd H7 la (.lst [.int fr,.int (0 - fr)])) rg (.rng (-1) ((ts.length:Int)+2))) nu (.lst ((an8 (-1) (ts.length+3)).map V.int))) lc (.lst ([.int fr,.int (0 - fr)]++(an8 (-1) (ts.length+3)).map V.int))) lc=some (.lst (([fr,0 - fr]++an8 (-1) (ts.length+3)).map V.int)):=by rw[c7,p7];rfl
  have A8:=A7.same ((sa.trans srg).trans (snu.trans slc))
  have nlc:lc≠l:=fun e=>by
   have:=((sa.trans srg).trans snu) _ _ A7.at_
   rw[e]at flc
   rw[flc]at this
   cases this
  generalize upd (upd (upd (upd H7 la (.lst [.int fr,.int (0 - fr)])) rg (.rng (-1) ((ts.length:Int)+2))) nu (.lst ((an8 (-1) (ts.length+3)).map V.int))) lc (.lst ([.int fr,.int (0 - fr)]++(an8 (-1) (ts.length+3)).map V.int))=H8 at gc A8 ⊢
  generalize hws:[fr,0 - fr]++an8 (-1) (ts.length+3)=ws at gc
  have hwl:ws.length<=29:=by rw[<- hws,m5,hrl];show 2+_<=_;omega
  clear A7 slc snu srg sa flc fnu frg fa hrl hws
  refine aj2 (K:=K) (a:=lc) (xs:=ws.map V.int) (fun i σ H2=>∃ us e6,σ=[some (.ref sc),some (.int c1),some (.ref tl),some (.int M),some (.int fr),some (.ref l),e6,e7,e8,e9,e10]/\An8 K PT H1 l r0 ts M (3+2*i) H2 us/\H2 lc=some (.lst (ws.map V.int))) ⟨_,_,rfl,A8,gc⟩ (fun i σ H2 _ ⟨_,_,_,_,g⟩=>SqL.of g) ?_ ?_
  ·rintro i x σ H9 hx ⟨us,e6,rfl,A9,g9⟩
   obtain⟨v,rfl⟩:=int_at hx
   have hi:i<ws.length:=by
    rcases F8 i ws.length with h | h
    ·exact h
    ·rw[C3 (by rw[b9];exact h)]at hx;cases hx
   have hl9:=A9.len
   refine F0 ?_
   refine⟨_,rfl,.inl ⟨rfl,_,SqL.of A9.at_⟩,_,rfl,(by show 2<=d7;decide),fun b fb=>⟨(by show 2<=d7;decide),fun r fr=>?_⟩⟩
   have v1:=d4 (o:=.tup [.str "wall",.ref b]) fr
   have u1:=d4 (o:=.tup [.str "wall",.int v]) fb
   have aw1:ad2 K _ r (.wall (.wall v)):=⟨b,SqT.of c7,SqT.of (v1 _ _ c7)⟩
   have A10:=A9.same (u1.trans v1)
   have g10:=(u1.trans v1) _ _ g9
   refine⟨l,_,_,rfl,rfl,A10.at_,(by rw[m6];omega),?_⟩
   have A11:=A10.app aw1
   have g11:upd (upd (upd H9 b (.tup [.str "wall",.int v])) r (.tup [.str "wall",.ref b])) l (.lst ((.ref r0::us)++[.ref r])) lc=_:=(p8 nlc).trans g10
   generalize upd (upd (upd H9 b (.tup [.str "wall",.int v])) r (.tup [.str "wall",.ref b])) l (.lst ((.ref r0::us)++[.ref r]))=H11 at A11 g11 ⊢
   clear A10 g10 aw1 u1 v1 fr fb
   have hl11:=A11.len
   refine⟨_,rfl,.inl ⟨rfl,_,SqL.of A11.at_⟩,_,rfl,(by show 2<=d7;decide),fun b fb=>⟨(by show 2<=d7;decide),fun r' fr=>?_⟩⟩
   have v1:=d4 (o:=.tup [.str "wall",.ref b]) fr
   have u1:=d4 (o:=.tup [.str "below",.int v]) fb
   have aw1:ad2 K _ r' (.wall (.below v)):=⟨b,SqT.of c7,SqT.of (v1 _ _ c7)⟩
   have A12:=A11.same (u1.trans v1)
   have g12:=(u1.trans v1) _ _ g11
   refine⟨l,_,_,rfl,rfl,A12.at_,(by rw[m6];omega),?_⟩
   exact⟨_,_,rfl,A12.app aw1,(p8 nlc).trans g12⟩
  ·rintro σ H9 ⟨us,e6,rfl,A9,g9⟩
   rw[b9]at A9
   have hN:3+2*ws.length<=61:=by omega
   generalize 3+2*ws.length=N at A9 hN
   clear g9 gc A8 nlc hwl
   refine⟨_,rfl,_,_,rfl,rfl,⟨by decide,by decide⟩,_,_,rfl,rfl,⟨by decide,by decide⟩,_,rfl,tl,_,rfl,.inl (SqL.of (P9 A9.g tb1 gl)),_,rfl,c1 / 320 / 12,ts.length,M,by rw[b9];rfl,t2,hM2,fun tr zs ks H10 s10 f10 g10 z10 htr hkl=>?_⟩
   refine F0 ?_
   have A10:=A9.same s10
   refine⟨fun σ Hx=>∃ tr zs ks,σ=[some (.ref sc),some (.int c1),some (.ref tl),some (.int M),some (.int fr),some (.ref l),e6,some (.ref tr),e8,e9,e10]/\An8 K PT H1 l r0 ts M N Hx us/\Tr8 K Hx tr zs ks/\tr≠l,?_,?_⟩
   ·have w10:Tr8 K H10 tr zs ks:=⟨g10,z10,fun k hk=>let ⟨i,j,m,e,_⟩:=htr k hk;⟨i,j,m,e⟩,hkl⟩
    have n10:tr≠l:=fun e=>by rw[e,A9.at_]at f10;cases f10
    have b0:atI (.ref r0::us:List V) 0=some (.ref r0):=A1 (j:=0) rfl
    rcases A10.ans with⟨x',b,k1,k2,k3,k4⟩ | ⟨hG,b,kk,k1,k2⟩
    ·have a0:atI ([.str "wall",.ref b]:List V) 0=some (.str "wall"):=A1 (j:=0) rfl
     exact⟨_,rfl,l,_,_,_,rfl,rfl,SqL.of A10.at_,b0,r0,_,_,_,rfl,rfl,SqT.of k3,a0,rfl,_,rfl,J2 ⟨tr,zs,ks,rfl,A10,w10,n10⟩⟩
    ·have a0:atI ([.str "web",.ref b]:List V) 0=some (.str "web"):=A1 (j:=0) rfl
     have a1:atI ([.str "web",.ref b]:List V) 1=some (.ref b):=A1 (j:=1) rfl
     have hk:=bc6 ht k2
     have hk3:=bc5 k2
     obtain⟨⟨t,zt,q1,q2,q3⟩,_⟩:=k2
     have a2:atI ([.int ts.length,.ref t]:List V) 1=some (.ref t):=A1 (j:=1) rfl
     refine⟨_,rfl,l,_,_,_,rfl,rfl,SqL.of A10.at_,b0,r0,_,_,_,rfl,rfl,SqT.of k1,a0,rfl,_,rfl,?_⟩
     rw[decide_eq_true rfl]
     refine J4 ⟨_,rfl,l,_,_,_,rfl,rfl,SqL.of A10.at_,b0,r0,_,_,_,rfl,rfl,SqT.of k1,a1,b,_,_,_,rfl,rfl,SqT.of q1,a2,t,zt,rfl,.inr (SqT.of q2),fun tr' f'=>?_⟩
     have s':=d4 (o:=.lst zt) f'
     exact⟨tr',zt,kk,rfl,A10.same s',⟨c7,s'.tups q3,hk3,hk⟩,fun e=>by rw[e,A10.at_]at f';cases f'⟩
   ·rintro σ H11 ⟨tr,zs,ks,rfl,A11,w11,ntr⟩
    clear A10 A9 s10 f10 g10 z10 htr hkl
    refine⟨(9:Int),rfl,by decide,by decide,?_⟩
    refine W8 (lo:=0) (n:=9) (fun i σ H2=>∃ us e8,σ=[some (.ref sc),some (.int c1),some (.ref tl),some (.int M),some (.int fr),some (.ref l),e6,some (.ref tr),e8,e9,e10]/\An8 K PT H1 l r0 ts M (N+i) H2 us/\Tr8 K H2 tr zs ks) ⟨_,_,rfl,A11,w11⟩ ?_ ?_
    ·rintro i σ H12 hi ⟨us,e8,rfl,A12,w12⟩
     have hl12:=A12.len
     refine F0 ?_
     refine⟨_,rfl,.inl ⟨rfl,_,SqL.of A12.at_⟩,_,rfl,tl,_,rfl,.inl (SqL.of (P9 A12.g tb1 gl)),_,rfl,_,rfl,_,_,rfl,rfl,⟨by decide,by decide⟩,_,_,rfl,rfl,.inr ⟨by decide,by decide⟩,_,rfl,_,_,rfl,rfl,tr,_,zs,ks,rfl,SqL.of w12.1,w12.2.1,w12.2.2.1,w12.2.2.2,fun l' zs' ks' H13 s13 g13 z13 h13 k13=>?_⟩
     refine⟨l',_,rfl,.inl ⟨SqL.of g13,fun tt ft=>?_⟩⟩
     have st:=d4 (o:=.tup zs') ft
     rw[b9]
     refine⟨(by show 2<=d7;decide),fun wb fw=>⟨(by show 2<=d7;decide),fun r fr=>?_⟩⟩
     have sw:=d4 (o:=.tup [.int (ts.length:Int),.ref tt]) fw
     have sr:=d4 (o:=.tup [.str "web",.ref wb]) fr
     have aw:ad2 K _ r (.web ts.length ks'):=⟨wb,SqT.of c7,⟨tt,zs',SqT.of (sr _ _ c7),SqT.of ((sw.trans sr) _ _ c7),((st.trans sw).trans sr).tups z13⟩,h13,by omega⟩
     have sA:=s13.trans ((st.trans sw).trans sr)
     have A13:=A12.same sA
     refine⟨l,_,_,rfl,rfl,A13.at_,(by rw[m6];omega),?_⟩
     exact⟨_,_,rfl,A13.app aw,(w12.same sA).updL A13.at_ ntr⟩
    ·rintro σ H12 ⟨us,e8,rfl,A12,w12⟩
     have hl12:=A12.len
     refine⟨_,rfl,.inl ⟨rfl,_,SqL.of A12.at_⟩,_,rfl,tl,_,rfl,.inl (SqL.of (P9 A12.g tb1 gl)),_,_,rfl,rfl,_,rfl,tr,_,rfl,.inl ⟨SqL.of w12.1,fun tt ft=>?_⟩⟩
     have st:=d4 (o:=.tup zs) ft
     rw[b9]
     refine⟨(by show 2<=d7;decide),fun wb fw=>⟨(by show 2<=d7;decide),fun r fr=>?_⟩⟩
     have sw:=d4 (o:=.tup [.int ((ts.length:Int)+1),.ref tt]) fw
     have sr:=d4 (o:=.tup [.str "web",.ref wb]) fr
     have sA:=(st.trans sw).trans sr
     have aw:ad2 K _ r (.web ((ts.length:Int)+1) ks):=⟨wb,SqT.of c7,⟨tt,zs,SqT.of (sr _ _ c7),SqT.of ((sw.trans sr) _ _ c7),sA.tups w12.2.1⟩,w12.2.2.1,by have:=w12.2.2.2;omega⟩
     have A13:=A12.same sA
     refine⟨l,_,_,rfl,rfl,A13.at_,(by rw[m6];omega),?_⟩
     have A14:=A13.app aw
     have w14:=(w12.same sA).updL (us:=(.ref r0::us)++[.ref r]) A13.at_ ntr
     generalize upd (upd (upd (upd H12 tt (.tup zs)) wb (.tup [.int ((ts.length:Int)+1),.ref tt])) r (.tup [.str "web",.ref wb])) l (.lst ((.ref r0::us)++[.ref r]))=H14 at A14 w14 ⊢
     clear A13 A12 w12 aw sA sr sw st ft fw fr hl12
     have hl12:=A14.len
     refine⟨_,rfl,.inl ⟨rfl,_,SqL.of A14.at_⟩,_,rfl,_,rfl,tr,_,rfl,.inl ⟨SqL.of w14.1,fun tt ft=>?_⟩⟩
     have st:=d4 (o:=.tup zs) ft
     refine⟨(by show 2<=d7;decide),fun wb fw=>⟨(by show 2<=d7;decide),fun r' fr'=>?_⟩⟩
     have sw:=d4 (o:=.tup [.int fr,.ref tt]) fw
     have sr:=d4 (o:=.tup [.str "web",.ref wb]) fr'
     have sA:=(st.trans sw).trans sr
     have aw:ad2 K _ r' (.web fr ks):=⟨wb,SqT.of c7,⟨tt,zs,SqT.of (sr _ _ c7),SqT.of ((sw.trans sr) _ _ c7),sA.tups w14.2.1⟩,w14.2.2.1,by have:=w14.2.2.2;omega⟩
     have A15:=A14.same sA
     refine⟨l,_,_,rfl,rfl,A15.at_,(by rw[m6];omega),?_⟩
     have A16:=A15.app aw
     generalize upd (upd (upd (upd H14 tt (.tup zs)) wb (.tup [.int fr,.ref tt])) r' (.tup [.str "web",.ref wb])) l (.lst ((.ref r0::(us++[.ref r]))++[.ref r']))=H16 at A16 ⊢
     generalize us++[V.ref r]++[V.ref r']=us16 at A16
     clear A15 A14 w14 aw sA sr sw st ft fw fr' hl12 A11 w11
     have gtl:=P9 A16.g tb1 gl
     have hl16:=A16.len
     refine⟨_,rfl,l,rfl,⟨_,SqL.of A16.at_⟩,aj2 (K:=K) (a:=l) (xs:=.ref r0::us16) (fun _ σ H2=>∃ e9 e10,σ=[some (.ref sc),some (.int c1),some (.ref tl),some (.int M),some (.int fr),some (.ref l),e6,some (.ref tr),e8,e9,e10]/\B3 H16 H2) ⟨_,_,rfl,B3.refl H16⟩ (fun i σ H2 _ ⟨_,_,_,s1⟩=>SqL.of (s1 _ _ A16.at_)) ?_ ?_⟩
     ·rintro i u σ H17 hu ⟨e9,e10,rfl,s17⟩
      obtain⟨r,x,rfl,hx0⟩:=A16.all u (j0 hu)
      have hx1:=hx0.same s17
      have gt1:=s17 _ _ gtl
      refine F0 ?_
      refine⟨_,rfl,_,rfl,_,rfl,tl,r,ts,(M:Int),x,rfl,.inl (SqL.of gt1),hx1,fun _ _ b H18 s18 hb=>?_,fun _ h=>absurd hM h,fun h=>absurd ht h⟩
      rw[u6]at hb
      refine F0 ?_
      refine⟨_,rfl,_,_,_,true,rfl,.bl b,rfl,_,rfl,J2 ?_⟩
      refine⟨_,rfl,_,rfl,_,rfl,_,rfl,tl,r,ts,M,x,rfl,SqL.of (s18 _ _ gt1),ht,hM2,hx1.same s18,fun b' H19 s19 hb'=>?_⟩
      obtain rfl:=bg6 hb hb'
      refine⟨rfl,_,rfl,aV1 rfl ?_⟩
      have s189:=s18.trans s19
      refine⟨_,rfl,tl,_,rfl,.inl ⟨SqL.of (s189 _ _ gt1),fun tu ftu=>?_⟩⟩
      have su:=d4 (o:=.tup (ts.map V.int)) ftu
      refine⟨_,rfl,_,rfl,tu,r,ts,(M:Int),x,rfl,.inr (SqT.of c7),hx1.same (s189.trans su),fun _ _ b' H20 s20 hb5=>?_,fun _ h=>absurd hM h,fun h=>absurd ht h⟩
      rw[u6]at hb5
      obtain rfl:=bg6 hb hb5
      refine⟨_,rfl,rfl,_,rfl,aV1 rfl ?_⟩
      exact⟨_,_,rfl,s17.trans ((s189.trans su).trans s20)⟩
     ·rintro σ H17 ⟨e9,e10,rfl,s17⟩
      have A17:=A16.same s17
      refine⟨_,rfl,_,rfl,l,_,rfl,SqL.of A17.at_,fun p fp=>?_⟩
      have sp:=d4 (o:=.lst (S5 (.ref r0::us16) none (some 2))) fp
      refine⟨_,rfl,_,rfl,_,rfl,l,_,rfl,SqL.of (sp _ _ A17.at_),fun p' fp'=>?_⟩
      have sp':=d4 (o:=.lst (S5 (.ref r0::us16) (some (-2)) none)) fp'
      have c1':=ac7 (.ref r0::us16) none (some 2)
      have c2':=ac7 (.ref r0::us16) (some (-2)) none
      rw[m6]at c1' c2'
      refine⟨p,p',_,_,rfl,rfl,sp' _ _ c7,c7,by omega,fun lt flt=>⟨lt,rfl,⟨_,SqL.of c7⟩,?_⟩⟩
      have slt:=d4 (o:=.lst (S5 (.ref r0::us16) none (some 2)++S5 (.ref r0::us16) (some (-2)) none)) flt
      have A18:=A17.same ((sp.trans sp').trans slt)
      have glt:=c7 (H:=upd (upd H17 p (.lst (S5 (.ref r0::us16) none (some 2)))) p' (.lst (S5 (.ref r0::us16) (some (-2)) none))) (a:=lt) (o:=.lst (S5 (.ref r0::us16) none (some 2)++S5 (.ref r0::us16) (some (-2)) none))
      have hal:∀ u∈S5 (.ref r0::us16) none (some 2)++S5 (.ref r0::us16) (some (-2)) none,u∈(.ref r0::us16:List V):=fun u hu=>(u9.mp hu).elim be8 be8
      generalize upd (upd (upd H17 p (.lst (S5 (.ref r0::us16) none (some 2)))) p' (.lst (S5 (.ref r0::us16) (some (-2)) none))) lt (.lst (S5 (.ref r0::us16) none (some 2)++S5 (.ref r0::us16) (some (-2)) none))=H18 at A18 glt ⊢
      generalize S5 (.ref r0::us16) none (some 2)++S5 (.ref r0::us16) (some (-2)) none=vs at glt hal
      clear slt sp' sp c1' c2' flt fp fp' A17 s17
      have gtl:=P9 A18.g tb1 gl
      refine aj2 (K:=K) (a:=lt) (xs:=vs) (fun _ σ H2=>∃ e9,σ=[some (.ref sc),some (.int c1),some (.ref tl),some (.int M),some (.int fr),some (.ref l),e6,some (.ref tr),e8,e9,e10]/\B3 H18 H2) ⟨_,rfl,B3.refl H18⟩ (fun i σ H2 _ ⟨_,_,s1⟩=>SqL.of (s1 _ _ glt)) ?_ ?_
      ·rintro i u σ H19 hu ⟨e9,rfl,s19⟩
       obtain⟨r,x,rfl,hx0⟩:=A18.all u (hal u (j0 hu))
       refine F0 ?_
       refine⟨by show 0<=d7;omega,fun w1 fw=>?_⟩
       have sw:=d4 (o:=.lst []) fw
       refine⟨_,rfl,w1,r,[],0,x,false,rfl,SqL.of c7,hx0.same (s19.trans sw),.inl ⟨rfl,fun h=>absurd h.1 (by decide)⟩,fun y1 Hp s1p gy1=>?_⟩
       refine⟨(by show 2<=d7;decide),fun l3 f3=>?_⟩
       have s3:=d4 (o:=.lst [.bl false,.bl true]) f3
       refine aO2 hun (s3 _ _ gy1) c7 ⟨_,rfl,J2 ?_⟩
       have sY3:=s19.trans (sw.trans (s1p.trans s3))
       generalize upd Hp l3 (.lst [.bl false,.bl true])=Hz at sY3 ⊢
       clear s3 gy1 f3 s1p sw fw
       refine⟨_,rfl,_,rfl,tl,r,ts,0,x,true,rfl,SqL.of (sY3 _ _ gtl),hx0.same sY3,.inr ⟨rfl,ht,fun h=>absurd h.1 (by decide)⟩,fun y2 Hq s2q gy2=>?_⟩
       refine⟨(by show 2<=d7;decide),fun l4 f4=>?_⟩
       have s4':=d4 (o:=.lst [.bl true,.bl false]) f4
       refine aO2 hun (s4' _ _ gy2) c7 ⟨_,rfl,J2 ?_⟩
       have sY4:=sY3.trans (s2q.trans s4')
       generalize upd Hq l4 (.lst [.bl true,.bl false])=Hr at sY4 ⊢
       clear s4' gy2 f4 s2q
       refine⟨(by show 1<=d7;decide),fun lz fz=>?_⟩
       have sz:=d4 (o:=.lst [.int 1]) fz
       refine⟨lz,_,_,rfl,rfl,c7,by decide,by decide,by show 1*25<=d7;decide,fun lr flr=>?_⟩
       have er:(o9 (25:Int).toNat [V.int 1]).flatten=(o9 25 (1:Int)).map V.int:=rep1 25 1
       rw[er]
       have sr:=d4 (o:=.lst ((o9 25 (1:Int)).map V.int)) flr
       refine⟨_,rfl,lr,r,o9 25 1,_,x,false,rfl,SqL.of c7,hx0.same (sY4.trans (sz.trans sr)),.inl ⟨rfl,fun h=>by have:=h.2;simp at this⟩,fun y3 Hs s3s gy3=>?_⟩
       refine⟨(by show 2<=d7;decide),fun l5 f5=>?_⟩
       have s5':=d4 (o:=.lst [.bl false,.bl true]) f5
       refine aO2 hun (s5' _ _ gy3) c7 ⟨_,rfl,J2 ?_⟩
       have sY5:=sY4.trans ((sz.trans sr).trans (s3s.trans s5'))
       generalize upd Hs l5 (.lst [.bl false,.bl true])=Ht at sY5 ⊢
       clear s5' gy3 f5 s3s sr sz flr fz
       refine⟨_,rfl,10,6,rfl,rfl,⟨by decide,by decide,by decide⟩,_,1,rfl,rfl,_,rfl,tl,r,ts,_,x,true,rfl,SqL.of (sY5 _ _ gtl),hx0.same sY5,.inr ⟨rfl,ht,fun h=>absurd h.2 (by decide)⟩,fun y4 Hu s4u gy4=>?_⟩
       refine⟨(by show 2<=d7;decide),fun l6 f6=>?_⟩
       have s6':=d4 (o:=.lst [.bl true,.bl false]) f6
       refine aO2 hun (s6' _ _ gy4) c7 ⟨_,rfl,J2 ?_⟩
       exact⟨_,rfl,sY5.trans (s4u.trans s6')⟩
      ·rintro σ H19 ⟨e9,rfl,s19⟩
       exact⟨_,_,_,_,_,_,_,_,_,_,rfl,g1.trans (A18.same s19).g,(A18.same s19).t⟩
 ·rintro σ Ha ⟨e1,e2,e3,e4,e5,e6,e7,e8,e9,e10,rfl,ga,tba⟩
  exact q _
theorem bS2 {fH fV fS fI fU fN fι fF fA fρ fβ fω fσ fQ fL fJ fY fO fX fC fW fR fP fK fM fτ fE fφ fG fψ fD fη CT CN CW c PT:Addr}{fdH fdV fdS fdI fdU fdN fdι fdF fdρ fdβ fdω fdσ fdQ fdL fdJ fdY fdO fdX fdC fdW fdR fdP fdK fdM fdτ fdE fdφ fdG fdψ fdD fdη:FuncData}{tk tg:Tok}(F:Fun K "law" "law" aZ1 f fd)(B:Bn mg)(mM':mg "MOST_PLACES"=some (.int 24 tk))(mg':mg "GREATEST_MOST"=some (.int 1000000 tg))
  (FH:Fq K mg "least_where" aB0 fH fdH ["low","high","holds"])
  (FV:Fq K mg "above" br8 fV fdV ["numbers","level","most"])
  (FS:Fq K mg "shares" ag9 fS fdS ["numbers","much","most"])
  (FI:Fq K mg "is_place" bj4 fI fdI ["places","number"])
  (FU:Fq K mg "turned_up" sUp fU fdU ["places","tie"])
  (FN:Fq K mg "made" aS4 fN fdN ["places","ties"])
  (Fι:Fq K mg "is_told" aq4 fι fdι ["web"])
  (FT:Fq K mg "check_tally" aS6 fT fdT ["tally"])
  (FF:Fq K mg "falling" aB6 fF fdF ["tally"])
  (FA:Fq K mg "room_among" an7 fA fdA ["numbers","most","r"])
  (Fρ:Fq K mg "room_with" aB3 fρ fdρ ["tally","most","r"])
  (Fβ:Fq K mg "places_below" at6 fβ fdβ ["numbers"])
  (Fω:Fq K mg "wall_with" aB1 fω fdω ["tally","most"])
  (Fσ:Fq K mg "wall_shows_with" aq3 fσ fdσ ["tally","most","wall"])
  (FQ:Fq K mg "check_most" bj5 fQ fdQ ["tally","most"])
  (FL:Fq K mg "thick_laid" br3 fL fdL ["tally","most"])
  (FJ:Fq K mg "thick_answered" br4 fJ fdJ ["tally","most"])
  (FY:Fq K mg "thick_tally" br5 fY fdY ["web"])
  (FO:Fq K mg "is_thick_web_of" br6 fO fdO ["tally","most","web"])
  (FX:Fq K mg "thick_shows" bj3 fX fdX ["tally","most","told"])
  (FC:Fq K mg "_law_cell_at" aS7 fC fdC ["script","k"])
  (FW:Fq K mg "_law_whole" aA9 fW fdW ["found"])
  (FR:Fq K mg "_law_row" aZ0 fR fdR ["cell","many","size"])
  (FP:Fq K mg "_law_thick" an5 fP fdP ["cell","places","most"])
  (FK:Fq K mg "_law_thick_counts" aS1 fK fdK ["places","triples"])
  (FM:Fq K mg "_law_most" aS3 fM fdM ["cell"])
  (Fτ:Fq K mg "_law_thick_tally" br2 fτ fdτ ["cell","places","most"])
  (FE:Fq K mg "_law_room" aB4 fE fdE ["tally","most","r"])
  (Fφ:Fq K mg "_law_is_thick" aB5 fφ fdφ ["web","tally","most"])
  (FG:Fq K mg "_law_drawn" aB7 fG fdG ["cell"])
  (Fψ:Fq K mg "_law_spoiled" aB2 fψ fdψ ["triples","cell"])
  (FD:Fq K mg "_law_due" br7 fD fdD ["tally","most","told"])
  (Fη:Fq K mg "_law_refused" aS2 fη fdη ["tally","most","told"])
  (Lc:ce2 K mg CT CB CN)(mW':mg "BadWeb"=some (.ref CW))(cW:ao9 K CW)(xW:PySem.W.exmOne K (.ref CW) (.ref CW)=some true)(hc:fdS.code=.ref c)(LB:aW9 base mg c PT):A4 P w K mg base CX0 8 f fd ["script"] (aR1 K PT):=by
 have GS:A4 P w K mg base (CXE P w) 4 fS fdS ["numbers","much","most"] (bp9 K PT):=bS0 FS.F hc LB B FV FH
 have GL:A4 P w K mg base CX0 5 fL fdL ["tally","most"] (bp7 K PT):=bR7 FL.F B FS GS
 have GQ:A4 P w K mg base (CXE P w) 2 fQ fdQ ["tally","most"] (bd3 K CB CN):=bS6 FQ.F B FT mM' mg' Lc.mB Lc.cB Lc.mN Lc.cN
 have Gω:A4 P w K mg base (CXE P w) 2 fω fdω ["tally","most"] (aK7 K CB):=bu0 Fω.F B FT FF FA Fβ mM' Lc.mB Lc.cB
 have GJ:A4 P w K mg base (CXE P w) 6 fJ fdJ ["tally","most"] (bp8 K CB CN PT):=bR9 FJ.F FQ (GQ.mono (by decide)) Fω (Gω.mono (by decide)) FL GL
 have GN:A4 P w K mg base (CXE P w) 3 fN fdN ["places","ties"] (aL0 K CW):=bu4 FN.F B FI FU mM' mW' cW
 have Gι:A4 P w K mg base CX0 4 fι fdι ["web"] (aK8 K):=bu1 Fι.F FN GN mW' xW
 have GO:A4 P w K mg base CX0 5 fO fdO ["tally","most","web"] (aY6 K):=bF0 FO.F B Fι Gι FY
 have Gσ:A4 P w K mg base (CXE P w) 3 fσ fdσ ["tally","most","wall"] (aA4 K CB):=bj9 Fσ.F B FT FF FA Fρ Fβ mM' Lc.mB Lc.cB Lc.mN Lc.cN
 have GX:A4 P w K mg base (CXE P w) 6 fX fdX ["tally","most","told"] (aK9 K CB CN):=bE7 FX.F FQ (GQ.mono (by decide)) FO GO Fσ (Gσ.mono (by decide))
 have GP:A4 P w K mg base CX0 2 fP fdP ["cell","places","most"] (ay4 K):=aT5 FP.F B FR
 have GG:A4 P w K mg base CX0 4 fG fdG ["cell"] (aL1 K):=bu6 FG.F B FR FP FK FM Fτ
 have Gφ:A4 P w K mg base CX0 2 fφ fdφ ["web","tally","most"] (bq3 K):=bS3 Fφ.F B FW FK
 have GD:A4 P w K mg base CX0 3 fD fdD ["tally","most","told"] (bq4 K):=bS5 FD.F B Fφ Gφ FE ((bu5 FE.F B).mono (by decide))
 have Gη:A4 P w K mg base CX0 7 fη fdη ["tally","most","told"] (bq1 K):=bS1 Fη.F B FX GX Lc
 exact bE9 F B FC FG (GG.mono (by decide)) FJ (GJ.mono (by decide)) FX (GX.mono (by decide)) FP (GP.mono (by decide)) Fψ ((cb3 Fψ.F B).mono (by decide)) FD (GD.mono (by decide)) Fη Gη
end
end Web
namespace Web
open PySem L2
def aA3 (K:W.Frag):List (Addr × Addr):=match PySem.W.tabIn K "shares" with
 | some q=>[q]
 | none=>[]
def aZ3 (K:W.Frag):Addr:=((PySem.W.tabIn K "shares").getD (0,0)).2
theorem ls1 {p:List Value->Prop}(h:∀ x0,p [x0]):∀ us,us.length=1->p us
 | [x0],_=>h x0
theorem ls2 {p:List Value->Prop}(h:∀ x0 x1,p [x0,x1]):∀ us,us.length=2->p us
 | [x0,x1],_=>h x0 x1
theorem ls3 {p:List Value->Prop}(h:∀ x0 x1 x2,p [x0,x1,x2]):∀ us,us.length=3->p us
 | [x0,x1,x2],_=>h x0 x1 x2
theorem fq {K:W.Frag}{mg:Str->Option Value}{st:Stmt}(X:K.In h)(G:h.Ns j7 mg)(a:k7 K j7 x=some (some (.ref f)))(F:Fun K x x st f fd)
  (b:∀ (kV doc pm:Value) (an:Option Addr) (cdv ct:Value) (us:List Value),us.length=ps.length->bindArgs (W0 x x (al0 st) (V5 st) (p9 st) .none kV doc pm an cdv ct) ⟨us,[]⟩=pure (ps.zip us)):Fq K mg x st f fd ps:=⟨F,F.binds b,S6 X G a⟩
set_option maxHeartbeats 0 in
theorem all_mk {l:PySem.W.OpenLaw}{K:W.Frag}{mg:Str->Option Value}{fa fH fV fS fI fU fN fι fF fA fρ fβ fω fσ fQ fL fJ fY fO fX fC fW fR fP fK fM fτ fE fφ fG fψ fD fη fZ CTallyError CBadTally CBadNumber CBadWeb:Addr}{tk:Tok}{tg:Tok}{cdBadTally:ClassData}{cdBadNumber:ClassData}(X:K.In h)(G:h.Ns j7 mg)(hfa:mg "law"=some (.ref fa))
  {fdH fdV fdS fdI fdU fdN fdι fdF fdρ fdβ fdω fdσ fdQ fdL fdJ fdY fdO fdX fdC fdW fdR fdP fdK fdM fdτ fdE fdφ fdG fdψ fdD fdη fdZ:FuncData}
  (aH:k7 K j7 "least_where"=some (some (.ref fH)))(FH:Fun K "least_where" "least_where" aB0 fH fdH)
  (aV:k7 K j7 "above"=some (some (.ref fV)))(FV:Fun K "above" "above" br8 fV fdV)
  (aS:k7 K j7 "shares"=some (some (.ref fS)))(FS:Fun K "shares" "shares" ag9 fS fdS)
  (aI:k7 K j7 "is_place"=some (some (.ref fI)))(FI:Fun K "is_place" "is_place" bj4 fI fdI)
  (aU:k7 K j7 "turned_up"=some (some (.ref fU)))(FU:Fun K "turned_up" "turned_up" sUp fU fdU)
  (aN:k7 K j7 "made"=some (some (.ref fN)))(FN:Fun K "made" "made" aS4 fN fdN)
  (aι:k7 K j7 "is_told"=some (some (.ref fι)))(Fι:Fun K "is_told" "is_told" aq4 fι fdι)
  (aT:k7 K j7 "check_tally"=some (some (.ref fT)))(FT:Fun K "check_tally" "check_tally" aS6 fT fdT)
  (aF:k7 K j7 "falling"=some (some (.ref fF)))(FF:Fun K "falling" "falling" aB6 fF fdF)
  (aA:k7 K j7 "room_among"=some (some (.ref fA)))(FA:Fun K "room_among" "room_among" an7 fA fdA)
  (aρ:k7 K j7 "room_with"=some (some (.ref fρ)))(Fρ:Fun K "room_with" "room_with" aB3 fρ fdρ)
  (aβ:k7 K j7 "places_below"=some (some (.ref fβ)))(Fβ:Fun K "places_below" "places_below" at6 fβ fdβ)
  (aω:k7 K j7 "wall_with"=some (some (.ref fω)))(Fω:Fun K "wall_with" "wall_with" aB1 fω fdω)
  (aσ:k7 K j7 "wall_shows_with"=some (some (.ref fσ)))(Fσ:Fun K "wall_shows_with" "wall_shows_with" aq3 fσ fdσ)
  (aQ:k7 K j7 "check_most"=some (some (.ref fQ)))(FQ:Fun K "check_most" "check_most" bj5 fQ fdQ)
  (aL:k7 K j7 "thick_laid"=some (some (.ref fL)))(FL:Fun K "thick_laid" "thick_laid" br3 fL fdL)
  (aJ:k7 K j7 "thick_answered"=some (some (.ref fJ)))(FJ:Fun K "thick_answered" "thick_answered" br4 fJ fdJ)
  (aY:k7 K j7 "thick_tally"=some (some (.ref fY)))(FY:Fun K "thick_tally" "thick_tally" br5 fY fdY)
  (aO:k7 K j7 "is_thick_web_of"=some (some (.ref fO)))(FO:Fun K "is_thick_web_of" "is_thick_web_of" br6 fO fdO)
  (aX:k7 K j7 "thick_shows"=some (some (.ref fX)))(FX:Fun K "thick_shows" "thick_shows" bj3 fX fdX)
  (aC:k7 K j7 "_law_cell_at"=some (some (.ref fC)))(FC:Fun K "_law_cell_at" "_law_cell_at" aS7 fC fdC)
  (aW:k7 K j7 "_law_whole"=some (some (.ref fW)))(FW:Fun K "_law_whole" "_law_whole" aA9 fW fdW)
  (aR:k7 K j7 "_law_row"=some (some (.ref fR)))(FR:Fun K "_law_row" "_law_row" aZ0 fR fdR)
  (aP:k7 K j7 "_law_thick"=some (some (.ref fP)))(FP:Fun K "_law_thick" "_law_thick" an5 fP fdP)
  (aK:k7 K j7 "_law_thick_counts"=some (some (.ref fK)))(FK:Fun K "_law_thick_counts" "_law_thick_counts" aS1 fK fdK)
  (aM:k7 K j7 "_law_most"=some (some (.ref fM)))(FM:Fun K "_law_most" "_law_most" aS3 fM fdM)
  (aτ:k7 K j7 "_law_thick_tally"=some (some (.ref fτ)))(Fτ:Fun K "_law_thick_tally" "_law_thick_tally" br2 fτ fdτ)
  (aE:k7 K j7 "_law_room"=some (some (.ref fE)))(FE:Fun K "_law_room" "_law_room" aB4 fE fdE)
  (aφ:k7 K j7 "_law_is_thick"=some (some (.ref fφ)))(Fφ:Fun K "_law_is_thick" "_law_is_thick" aB5 fφ fdφ)
  (aG:k7 K j7 "_law_drawn"=some (some (.ref fG)))(FG:Fun K "_law_drawn" "_law_drawn" aB7 fG fdG)
  (aψ:k7 K j7 "_law_spoiled"=some (some (.ref fψ)))(Fψ:Fun K "_law_spoiled" "_law_spoiled" aB2 fψ fdψ)
  (aD:k7 K j7 "_law_due"=some (some (.ref fD)))(FD:Fun K "_law_due" "_law_due" br7 fD fdD)
  (aη:k7 K j7 "_law_refused"=some (some (.ref fη)))(Fη:Fun K "_law_refused" "_law_refused" aS2 fη fdη)
  (aZ:k7 K j7 "law"=some (some (.ref fZ)))(FZ:Fun K "law" "law" aZ1 fZ fdZ)
  (mo:k7 K j7 "MOST_PLACES"=some (some (.int 24 tk)))
  (gm:k7 K j7 "GREATEST_MOST"=some (some (.int 1000000 tg)))
  (aTallyError:k7 K j7 "TallyError"=some (some (.ref CTallyError)))
  (aBadTally:k7 K j7 "BadTally"=some (some (.ref CBadTally)))
  (aBadNumber:k7 K j7 "BadNumber"=some (some (.ref CBadNumber)))
  (aBadWeb:k7 K j7 "BadWeb"=some (some (.ref CBadWeb)))
  (qBadTally:PySem.W.excIn K CBadTally [.type "ValueError",.type "Exception",.type "BaseException",.type "object"] "ValueError.__new__"=true)
  (gaBadTally:PySem.W.findIn K (.ref CBadTally) "__getattribute__"=some (some (.builtin "BaseException.__getattribute__")))
  (naBadTally:PySem.W.findIn K (.ref CBadTally) "__getattr__"=some none)
  (clBadTally:PySem.W.findIn K (.ref CBadTally) "__class__"=some (some (.builtin "object.__class__")))
  (sbBadTally:PySem.W.subIn K (.ref CBadTally) (.type "BaseException")=some true)
  (soBadTally:PySem.W.subIn K (.ref CBadTally) (.type "object")=some true)
  (csBadTally:bX4 K CBadTally=some cdBadTally)
  (xmBadTally:PySem.W.exmOne K (.ref CBadTally) (.ref CTallyError)=some true)
  (i0BadTally:PySem.W.kitOne K (.ref CBadTally) (.ref CBadNumber)=some false)
  (i1BadTally:PySem.W.kitOne K (.ref CBadTally) (.ref CBadTally)=some true)
  (qBadNumber:PySem.W.excIn K CBadNumber [.type "ValueError",.type "Exception",.type "BaseException",.type "object"] "ValueError.__new__"=true)
  (gaBadNumber:PySem.W.findIn K (.ref CBadNumber) "__getattribute__"=some (some (.builtin "BaseException.__getattribute__")))
  (naBadNumber:PySem.W.findIn K (.ref CBadNumber) "__getattr__"=some none)
  (clBadNumber:PySem.W.findIn K (.ref CBadNumber) "__class__"=some (some (.builtin "object.__class__")))
  (sbBadNumber:PySem.W.subIn K (.ref CBadNumber) (.type "BaseException")=some true)
  (soBadNumber:PySem.W.subIn K (.ref CBadNumber) (.type "object")=some true)
  (csBadNumber:bX4 K CBadNumber=some cdBadNumber)
  (xmBadNumber:PySem.W.exmOne K (.ref CBadNumber) (.ref CTallyError)=some true)
  (i0BadNumber:PySem.W.kitOne K (.ref CBadNumber) (.ref CBadNumber)=some true)
  (i1BadNumber:PySem.W.kitOne K (.ref CBadNumber) (.ref CBadTally)=some false)
  (qBadWeb:PySem.W.excIn K CBadWeb [.type "ValueError",.type "Exception",.type "BaseException",.type "object"] "ValueError.__new__"=true)
  (xmBadWeb:PySem.W.exmOne K (.ref CBadWeb) (.ref CBadWeb)=some true)
  (tb:(PySem.W.tabIn K "shares").isSome=true)
  (z1:k7 K j7 "len"=some none)
  (z2:k7 K j7 "range"=some none)
  (z3:k7 K j7 "enumerate"=some none)
  (z4:k7 K j7 "list"=some none)
  (z5:k7 K j7 "tuple"=some none)
  (z6:k7 K j7 "sorted"=some none)
  (z7:k7 K j7 "set"=some none)
  (z8:k7 K j7 "isinstance"=some none)
  (z9:k7 K j7 "int"=some none)
  (z10:k7 K j7 "bool"=some none)
  (z11:k7 K j7 "min"=some none)
  (z12:k7 K j7 "max"=some none)
  (z13:k7 K j7 "sum"=some none)
  (z14:k7 K j7 "str"=some none)
  (z15:k7 K j7 "ValueError"=some none)
  (z16:k7 K j7 "all"=some none)
  (z17:k7 K j7 "zip"=some none) :
  ∃ fd:FuncData,(∀ (s:Shared) (v:Value),bh3 s fd ⟨[v],[]⟩ [("script",v)])/\∀ base:Heap,K.In base->base.Ns j7 mg->(∀ q∈aA3 K,aW9 base mg q.1 q.2)->A4 l.prog w K mg base CX0 8 fa fd ["script"] (aR1 K (aZ3 K)):=by
 have e:=hfa.symm.trans (S6 X G aZ)
 cases e
 have B:Bn mg:=⟨A2 X G z1,A2 X G z2,A2 X G z3,A2 X G z4,A2 X G z5,A2 X G z6,A2 X G z7,A2 X G z8,A2 X G z9,A2 X G z10,A2 X G z11,A2 X G z12,A2 X G z13,A2 X G z14,A2 X G z15,A2 X G z16,A2 X G z17⟩
 obtain⟨⟨c,PT⟩,hcp⟩:=C7.mp tb
 obtain⟨_,_,_,_,_,_,_,_,_,_,lS,_⟩:=FS.ex
 have hc:=bp3 hcp aS lS
 have ept:aZ3 K=PT:=by unfold aZ3;rw[hcp];rfl
 have ets:aA3 K=[(c,PT)]:=by unfold aA3;rw[hcp]
 rw[ept,ets]
 obtain⟨_,_,y1,y2,y3,y4,y5,y6,_,rfl,_,_⟩:=FZ.ex
 exact⟨W0 "law" "law" (al0 aZ1) (V5 aZ1) (p9 aZ1) .none y1 y2 y3 y4 y5 y6,fun s v=>.of_eq rfl,fun base _ _ hL=>bS2 FZ B (S6 X G mo) (S6 X G gm) (fq X G aH FH fun _ _ _ _ _ _=>ls3 fun _ _ _=>rfl) (fq X G aV FV fun _ _ _ _ _ _=>ls3 fun _ _ _=>rfl) (fq X G aS FS fun _ _ _ _ _ _=>ls3 fun _ _ _=>rfl) (fq X G aI FI fun _ _ _ _ _ _=>ls2 fun _ _=>rfl) (fq X G aU FU fun _ _ _ _ _ _=>ls2 fun _ _=>rfl) (fq X G aN FN fun _ _ _ _ _ _=>ls2 fun _ _=>rfl) (fq X G aι Fι fun _ _ _ _ _ _=>ls1 fun _=>rfl) (fq X G aT FT fun _ _ _ _ _ _=>ls1 fun _=>rfl) (fq X G aF FF fun _ _ _ _ _ _=>ls1 fun _=>rfl) (fq X G aA FA fun _ _ _ _ _ _=>ls3 fun _ _ _=>rfl) (fq X G aρ Fρ fun _ _ _ _ _ _=>ls3 fun _ _ _=>rfl) (fq X G aβ Fβ fun _ _ _ _ _ _=>ls1 fun _=>rfl) (fq X G aω Fω fun _ _ _ _ _ _=>ls2 fun _ _=>rfl) (fq X G aσ Fσ fun _ _ _ _ _ _=>ls3 fun _ _ _=>rfl) (fq X G aQ FQ fun _ _ _ _ _ _=>ls2 fun _ _=>rfl) (fq X G aL FL fun _ _ _ _ _ _=>ls2 fun _ _=>rfl) (fq X G aJ FJ fun _ _ _ _ _ _=>ls2 fun _ _=>rfl) (fq X G aY FY fun _ _ _ _ _ _=>ls1 fun _=>rfl) (fq X G aO FO fun _ _ _ _ _ _=>ls3 fun _ _ _=>rfl) (fq X G aX FX fun _ _ _ _ _ _=>ls3 fun _ _ _=>rfl) (fq X G aC FC fun _ _ _ _ _ _=>ls2 fun _ _=>rfl) (fq X G aW FW fun _ _ _ _ _ _=>ls1 fun _=>rfl) (fq X G aR FR fun _ _ _ _ _ _=>ls3 fun _ _ _=>rfl) (fq X G aP FP fun _ _ _ _ _ _=>ls3 fun _ _ _=>rfl) (fq X G aK FK fun _ _ _ _ _ _=>ls2 fun _ _=>rfl) (fq X G aM FM fun _ _ _ _ _ _=>ls1 fun _=>rfl) (fq X G aτ Fτ fun _ _ _ _ _ _=>ls3 fun _ _ _=>rfl) (fq X G aE FE fun _ _ _ _ _ _=>ls3 fun _ _ _=>rfl) (fq X G aφ Fφ fun _ _ _ _ _ _=>ls3 fun _ _ _=>rfl) (fq X G aG FG fun _ _ _ _ _ _=>ls1 fun _=>rfl) (fq X G aψ Fψ fun _ _ _ _ _ _=>ls2 fun _ _=>rfl) (fq X G aD FD fun _ _ _ _ _ _=>ls3 fun _ _ _=>rfl) (fq X G aη Fη fun _ _ _ _ _ _=>ls3 fun _ _ _=>rfl) ⟨S6 X G aTallyError,S6 X G aBadTally,S6 X G aBadNumber,⟨qBadTally⟩,⟨gaBadTally,naBadTally,clBadTally,sbBadTally,soBadTally,by rw[csBadTally];rfl⟩,xmBadTally,i0BadTally,i1BadTally,⟨qBadNumber⟩,⟨gaBadNumber,naBadNumber,clBadNumber,sbBadNumber,soBadNumber,by rw[csBadNumber];rfl⟩,xmBadNumber,i0BadNumber,i1BadNumber⟩ (S6 X G aBadWeb) ⟨qBadWeb⟩ xmBadWeb hc (hL (c,PT) m7)⟩
theorem walk {l:PySem.W.OpenLaw} {q:Program} {loose:List Str} {d:DefRec} {K:Params->PySem.W.Frag} (hn:l.most=some 63) (hdf:d.params.defaults=[])
  (hY:∀ (w:World) (h:Heap),YP w h->(K w.params).In h) (hK0:∀ w:World,PySem.W.noTabs (K w.params)=true) (hrec:((PyProof.Rows.recsOf q).find? (fun e=>e.name == ("shares":Str))).isSome=true) (htb:∀ w:World,(PySem.W.tabIn (K w.params) "shares").isSome=true)
  (F : ∀ (w : World) (mg : Str -> Option Value) (fa : Addr) (h : Heap), (K w.params).In h -> h.Ns j7 mg -> mg d.name = some (.ref fa) ->
   ∃ fd:FuncData,(∀ (s:Shared) (u:Value),bh3 s fd ⟨[u],[]⟩ [("script",u)])/\∀ base:Heap,(K w.params).In base->base.Ns j7 mg->(∀ q∈aA3 (K w.params),aW9 base mg q.1 q.2)->A4 l.prog w (K w.params) mg base CX0 8 fa fd ["script"] (aR1 (K w.params) (aZ3 (K w.params)))) :
  PySem.W.WalkO q loose XP YP l.row.toRowW d [] (fun f vs=>PySem.call f vs):=by
 refine L2.walk_ofT (n:=63) (k:=8) (x:="script") (CX:=fun _=>CX0) (sp:=fun w _=>aR1 (K w.params) (aZ3 (K w.params))) (ts:=fun w=>aA3 (K w.params)) hn (by decide) hdf ⟨rfl,by decide,by decide⟩ hY hK0 (fun w loose mean mg mb h T X=>?_) F (fun w H a ns hl hT hS=>?_) fun _ _ _ _ _ z=>z
 ·obtain⟨⟨c,PT⟩,hcp⟩:=C7.mp (htb w)
  obtain⟨d',hd'⟩:=C7.mp hrec
  have ets:aA3 (K w.params)=[(c,PT)]:=by unfold aA3;rw[hcp]
  show PySem.W.TabsAt (aA3 (K w.params)) h
  rw[ets]
  intro r hr
  rw[B9.mp hr]
  exact PySem.W.tab_of T X hd' hcp
 ·obtain⟨⟨c,PT⟩,hcp⟩:=C7.mp (htb w)
  have ets:aA3 (K w.params)=[(c,PT)]:=by unfold aA3;rw[hcp]
  have ept:aZ3 (K w.params)=PT:=by unfold aZ3;rw[hcp];rfl
  refine⟨a,ns,rfl,hS,hl,?_,fun _=>rfl⟩
  rw[ept]
  exact⟨#[],hT (c,PT) (by show (c,PT)∈aA3 (K w.params);rw[ets];exact m7),trivial,.inl rfl⟩
end Web
set_option Elab.async false
namespace PySem.W.Fast
def tw12253984560437219425:=0
def tw16604650326571641833:=0
def tw14471095218263551854:=0
def tw16257258764489725896:=0
def tw3066532894811687484:=0
def tw11758657147140991449:=0
def tw13903837523188732683:=0
def tw10105148212831855545:=0
def tw7263153970300121150:=0
def tw2678077477697694886:=0
def tw5263240308067330606:=0
def tw11341864383122604706:=0
def tw1340927872985345230:=0
def tw6246593710002120921:=0
def tw5521477383427228609:=0
def tw451199213409620263:=0
def tw4151948208327557101:=0
def tw16676080729002702955:=0
def tw16449416614398496822:=0
def tw1521582475222471934:=0
def tw17913542194267212333:=0
def tw17825616281881835606:=0
def tw6457794999665748309:=0
def tw3728296652144854343:=0
def tw16263417568942017206:=0
def tw8485549416750594014:=0
def tw15659999583858724846:=0
def tw14131561051114360949:=0
def tw8799756527783773858:=0
def tw2034550065915388053:=0
def tw4394775178116299430:=0
def tw5153320732035266632:=0
def tw1424905994326240370:=0
def tw17236324401389661989:=0
def tw10837573507845179492:=0
def tw9073500624300977626:=0
def tw927236924337721790:=0
def tw4367291539749881148:=0
def tw9047106483643913952:=0
def tw10111903048032115773:=0
def tw10892822071004086564:=0
def tw4407505423876967006:=0
def tw12421655516082741872:=0
def tw7601820483084648504:=0
def tw10975671258964245451:=0
def tw15273960825417433070:=0
def tw11444112355769230421:=0
def tw16845688540434470602:=0
def tw14529700021636771353:=0
def tw6003331512679446820:=0
def tw14535585664180963941:=0
def tw10834519235967122372:=0
def tw12935068367075074455:=0
def tw6482500393018524120:=0
def tw1891921333087896400:=0
def tw10273680690006724452:=0
def tw14188990843181825301:=0
def tw12301545752560962600:=0
def tw13123740384030351145:=0
def tw4320422404247577013:=0
def tw9709241398735027769:=0
def tw2834544425900270015:=0
def tw15934928010170476416:=0
def tw7961499508754239451:=0
def tw1462216233287178719:=0
def tw14640190031887637809:=0
def tw5561933361583720675:=0
def tw5880084404429045301:=0
def tw5892566910439896626:=0
def tw5863164423177774012:=0
def tw7459137371463681713:=0
def tw16677221925333380361:=0
def tw17438330922587317511:=0
def tw12268479003611780605:=0
def tw11267882119151533697:=0
def tw10751042886104956193:=0
def tw17678911813683937086:=0
def tw4691898103425599052:=0
def tw17118714439809558458:=0
def tw8659201566423152618:=0
def tw791460362257189408:=0
def tw3931696071953793007:=0
def tw2940674394572429617:=0
def tw12743589146406901216:=0
def tw3585861857858913915:=0
def tw17604163748368117204:=0
def tw14391601207166414033:=0
def tw5813678989054988774:=0
def tw9300006664653419801:=0
def tw15185537690267446051:=0
def tw17740238630175232077:=0
def tw16301859930886349022:=0
def tw9801292668970595188:=0
def tw3683393012446926797:=0
def tw17162774132140540962:=0
def tw11856863517070828671:=0
def tw9372013228665245575:=0
def tw15092294468634719140:=0
def tw15889385543434849824:=0
def tw9466863481738701634:=0
def tw6061677767022699111:=0
def tw11733419511669465141:=0
def tw10285235705699948751:=0
def tw2055332750500029982:=0
def tw13388277779238071119:=0
def tw14426848424347757094:=0
def tw11745638690051408922:=0
def tw13044446363586849507:=0
def tw4708828071186204111:=0
def tw16264964474265474695:=0
def tw15310355642297069182:=0
def tw7078727732162249957:=0
def tw7610145304793170691:=0
def tw10103738012030676878:=0
def tw1559719245660338235:=0
def tw3522179626624734173:=0
def tw17984207490531656098:=0
def tw2152569106567368329:=0
def tw11384048549632874217:=0
def tw7739965515421456858:=0
def tw11446144954253099608:=0
def tw15995608250998355194:=0
def tw6416842862611396011:=0
def tw8172341995955547039:=0
def tw11549575589201078386:=0
def tw8238772137932296406:=0
def tw13681891085217678970:=0
def tw7403854530270538544:=0
def tw9343036002476987492:=0
def tw1624939830058787685:=0
def tw4452007297000330787:=0
def tw6503700181342938131:=0
def tw2658312490373064521:=0
def tw13828182851310202613:=0
def tw15291370231728231672:=0
def tw16672578137199298331:=0
def tw1499441333257087427:=0
def tw6535851702050101509:=0
def tw174350647211867638:=0
def tw15965786868914621892:=0
def tw5683997330965289923:=0
def tw18157524565921410529:=0
def tw10005432507631873062:=0
def tw17228791659151907607:=0
def tw9942028153889386037:=0
def tw13578781168693659846:=0
def tw14275708831256060200:=0
def tw18159605884823634939:=0
def tw11397289994289686480:=0
def tw12745381404292465541:=0
def tw318066460176083081:=0
def tw4176769462818251656:=0
def tw6604385533350195517:=0
def tw1932597962177225355:=0
def tw5404055614885443761:=0
def tw1272769348187746360:=0
def tw8608796160279411379:=0
def tw6823636607650895696:=0
def tw501121633886145308:=0
def tw9846228394394003243:=0
def tw6664466462711301250:=0
def tw11343136817416275629:=0
def tw13309253172284509011:=0
def tw9383352100844167905:=0
def tw8403543341248796884:=0
def tw8325464721022830717:=0
def tw10015361656358910999:=0
def tw12619742622454328958:=0
def tw17226715072657182848:=0
def tw9564525192097038202:=0
def tw13916060407272628911:=0
def tw10334896731078472216:=0
def tw16990388783252422360:=0
def tw11573725227542057168:=0
def tw12261016776853413665:=0
def tw187876749222394114:=0
def tw3641554403404913205:=0
def tw6126290667883687230:=0
def tw17376417734006576465:=0
def tw17968483098829539971:=0
end PySem.W.Fast
open PySem PySem.W PyProof.Rows
set_option maxRecDepth 100000 in
set_option maxHeartbeats 0 in
theorem PySem.Challenge.cw_tallyweb_k48_thick_answers_looked_at_holds : PySem.Challenge.rw_tallyweb_k48_thick_answers_looked_at.Holds := by
 w_on; o_law; k_head; (case hw => w_witness2)
 k_fill
 refine Web.walk (l := PySem.Challenge.rw_tallyweb_k48_thick_answers_looked_at) rfl rfl (fun w h Y => PySem.W.km_in_of Y) ?hN0 ?hR0 ?hT0 ?F
 case hN0 => intro w; kernel_rfl
 case hR0 => kernel_rfl
 case hT0 => intro w; kernel_rfl
 case F =>
  intro w mg fa h KX G hmg
  refine' Web.all_mk KX G hmg ?aH (L2.fun_mk ?lH ?cH ?kH) ?aV (L2.fun_mk ?lV ?cV ?kV) ?aS (L2.fun_mk ?lS ?cS ?kS) ?aI (L2.fun_mk ?lI ?cI ?kI) ?aU (L2.fun_mk ?lU ?cU ?kU) ?aN (L2.fun_mk ?lN ?cN ?kN) ?aι (L2.fun_mk ?lι ?cι ?kι) ?aT (L2.fun_mk ?lT ?cT ?kT) ?aF (L2.fun_mk ?lF ?cF ?kF) ?aA (L2.fun_mk ?lA ?cA ?kA) ?aρ (L2.fun_mk ?lρ ?cρ ?kρ) ?aβ (L2.fun_mk ?lβ ?cβ ?kβ) ?aω (L2.fun_mk ?lω ?cω ?kω) ?aσ (L2.fun_mk ?lσ ?cσ ?kσ) ?aQ (L2.fun_mk ?lQ ?cQ ?kQ) ?aL (L2.fun_mk ?lL ?cL ?kL) ?aJ (L2.fun_mk ?lJ ?cJ ?kJ) ?aY (L2.fun_mk ?lY ?cY ?kY) ?aO (L2.fun_mk ?lO ?cO ?kO) ?aX (L2.fun_mk ?lX ?cX ?kX) ?aC (L2.fun_mk ?lC ?cC ?kC) ?aW (L2.fun_mk ?lW ?cW ?kW) ?aR (L2.fun_mk ?lR ?cR ?kR) ?aP (L2.fun_mk ?lP ?cP ?kP) ?aK (L2.fun_mk ?lK ?cK ?kK) ?aM (L2.fun_mk ?lM ?cM ?kM) ?aτ (L2.fun_mk ?lτ ?cτ ?kτ) ?aE (L2.fun_mk ?lE ?cE ?kE) ?aφ (L2.fun_mk ?lφ ?cφ ?kφ) ?aG (L2.fun_mk ?lG ?cG ?kG) ?aψ (L2.fun_mk ?lψ ?cψ ?kψ) ?aD (L2.fun_mk ?lD ?cD ?kD) ?aη (L2.fun_mk ?lη ?cη ?kη) ?aZ (L2.fun_mk ?lZ ?cZ ?kZ) ?mo ?gm ?aTallyError ?aBadTally ?aBadNumber ?aBadWeb ?qBadTally ?gaBadTally ?naBadTally ?clBadTally ?sbBadTally ?soBadTally ?csBadTally ?xmBadTally ?i0BadTally ?i1BadTally ?qBadNumber ?gaBadNumber ?naBadNumber ?clBadNumber ?sbBadNumber ?soBadNumber ?csBadNumber ?xmBadNumber ?i0BadNumber ?i1BadNumber ?qBadWeb ?xmBadWeb ?tb ?z1 ?z2 ?z3 ?z4 ?z5 ?z6 ?z7 ?z8 ?z9 ?z10 ?z11 ?z12 ?z13 ?z14 ?z15 ?z16 ?z17
  case aH | lH | cH | kH | aV | lV | cV | kV | aS | lS | cS | kS | aI | lI | cI | kI | aU | lU | cU | kU | aN | lN | cN | kN | aι | lι | cι | kι | aT | lT | cT | kT | aF | lF | cF | kF | aA | lA | cA | kA | aρ | lρ | cρ | kρ | aβ | lβ | cβ | kβ | aω | lω | cω | kω | aσ | lσ | cσ | kσ | aQ | lQ | cQ | kQ | aL | lL | cL | kL | aJ | lJ | cJ | kJ | aY | lY | cY | kY | aO | lO | cO | kO | aX | lX | cX | kX | aC | lC | cC | kC | aW | lW | cW | kW | aR | lR | cR | kR | aP | lP | cP | kP | aK | lK | cK | kK | aM | lM | cM | kM | aτ | lτ | cτ | kτ | aE | lE | cE | kE | aφ | lφ | cφ | kφ | aG | lG | cG | kG | aψ | lψ | cψ | kψ | aD | lD | cD | kD | aη | lη | cη | kη | aZ | lZ | cZ | kZ | mo | gm | aTallyError | aBadTally | aBadNumber | aBadWeb | gaBadTally | naBadTally | clBadTally | sbBadTally | soBadTally | csBadTally | gaBadNumber | naBadNumber | clBadNumber | sbBadNumber | soBadNumber | csBadNumber | z1 | z2 | z3 | z4 | z5 | z6 | z7 | z8 | z9 | z10 | z11 | z12 | z13 | z14 | z15 | z16 | z17 => k_is
  case qBadTally | qBadNumber | qBadWeb => k_exc
  case xmBadTally | xmBadNumber | xmBadWeb => kts_exm
  case i0BadTally | i1BadTally | i0BadNumber | i1BadNumber => kit_is
  case tb => kernel_rfl
#print axioms PySem.Challenge.cw_tallyweb_k48_thick_answers_looked_at_holds

