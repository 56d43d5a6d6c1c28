import PyProof.Rows.All
import Wide.All
import OpenK.AllK
import Wide.FinOn
import Lean
import PyProof.EqAt
import PyProof.EqKinds
import PyProof.TupleCall
import PyProof.Rows.SortRunsK
import PyProof.Rows.SortShellK
import KE.KSortTup
import PyProof.TupleKey
import PySem.SetOps
import PyProof.Rows.SetFrom
import PyProof.EnumFor
import PyProof.EnumStmt
import PyProof.EnumMake
import PyProof.P3Eq
import PyProof.NeData
import PyProof.P3In
import PyProof.Rows.SumAny
import KE.KLam
import KE.KSortKey
import PyProof.ListRange
import KE.KTryMore
import PyProof.NsDelKeeps
import PyProof.RulesAs
import PyProof.ExcBaseAll.ValueError
import PyProof.ExcArgsOwn
import KE.KIsAll
import PyProof.Rows.SortRev
import PyProof.TupleOfSeq
import PyProof.Draws
import KE.KTupSum
import Wide.Txt2
import PyProof.ListOps
import PyProof.AutoSeq1
import KE.KIntText
import KE.IntTextLaws
import PyProof.StrLawsIn
import PyProof.Rows.StrNews2
import PyProof.StrLawsOcc
import PyProof.StrLawsTight
import PyProof.StrLawsFirst
import PyProof.Rows.ReprOcc
import PyProof.Rows.FStr
import PyProof.Cells
import PyProof.Rows.TupAdd
import PyProof.DictWalks
import PyProof.ConsumeWalk
import PyProof.DictKeyH
import PyProof.ListNew
import PyProof.ConsumeS
import PyProof.WalksMore
import PyProof.CallStr
import KE.RegKIsAll
import KE.RegKTryMore
import PySem.Challenge.RW_tallyweb_k62_web_answers
set_option autoImplicit false
set_option linter.all false
set_option Elab.async false
set_option maxRecDepth 100000
open List renaming length_map->a5,mem_cons_of_mem->b7,mem_of_getElem?->b8,getElem?_eq_some_iff->c4,mem_cons_self->c5,map_append->c8,mem_cons->d3,size_toArray->d9,getElem?_eq_getElem->g9,length_append->i9,mem_append_right->j2,take_of_length_le->j5,length_cons->k8,length_take->l6,mem_map->m5,getD_eq_getElem?_getD->m6,mem_iff_getElem?->m8,getElem?_map->m9,mem_singleton->n5,map_cons->n9,pairwise_iff_getElem->o4,take_add_one->o5,getElem?_eq_none->o9,append_assoc->q8,mem_append->u6,pairwise_append->v8,length_drop->x6,range->x8,all_eq_true->x9,mem_range->y9,take_append_drop->A9,replicate->B4,pairwise_cons->D3,mem_append_left->D6,getElem?_append_right->E4,drop_of_length_le->E6,append_nil->F4,nodup_cons->F5,take_zero->G2,take_sublist->G3,length_range->G4,replicate_succ->G9,take_length->J5,getElem?_drop->J8,filter_append->J9,length_filter_le->K1,mem_of_mem_drop->L1,mem_of_mem_take->L3,getElem?_take_of_lt->L6,flatten_cons->L7,nil_append->L8,pairwise_map->L9,range_succ->M0,filterMap_cons->N2,eq_nil_of_length_eq_zero->N7,not_mem_nil->N8,getElem?_take->O2,mem_filter->O5,length_set->O6,drop_sublist->P0,ext_getElem?->P1,sum_cons->P4,nodup_iff_pairwise_ne->P9,extract_eq_take_drop->R3,getElem_mem->R4,getElem?_range->R6,map_congr_left->R7,zip_cons_cons->T5,reverse_perm->V2,pairwise_reverse->W1,map_map->W2,drop_append->W8,take_append_of_le_length->W9,foldl->Z0,length->aa0,length_nil->aa1,foldl_cons->aa2,length_pos_iff->aa3,mem_filterMap->ac3,getElem_range->ac5,map_set->ac6,getElem?_append_left->ad2,drop_eq_getElem_cons->ad3,any_cons->ai4,range'->ai5,filter_cons_of_pos->ai6,filter_cons_of_neg->ai7,any_toArray->aj3,filter_eq_nil_iff->al7,of_mem_zip->ao2,length_singleton->ao3,perm_append_comm->ao4,filter_nil->ao5,getElem?_set_ne->ar7,length_reverse->au5,map_drop->aB1,map_take->aB2,length_range'->aB3,mem_range'_1->aD3,mem_reverse->aK1,drop_append_of_le_length->aK3,countP_cons->aK4,take->aS0,drop_drop->aX4,drop_zero->aX5,length_erase_of_mem->bc6,length_eq_zero_iff->bi6,getElem?_set_self->bi8,pairwise_lt_range->bi9,drop_eq_nil_of_le->bj0,drop->bu1,singleton_append->bu3,range_eq_range'->bv4,reverse_append->bE7,flatMap_append->bE9,toList_toArray->bF0,getElem_of_mem->bF2,getElem?_set->bS4,drop_reverse->bS5,take_reverse->bS6,nodup_append->bS7,cons_append->bT0,take_append->bT1,lookup_cons->bT4,mem_flatMap->bT5,map_reverse->bT6
open PySem renaming wpAny_bind->a7,mainGlobals->d5,sizeLine->f6,wpAny_pure->i8,model->o7,tupleKeyHash->p5,wpAny->r6,sizeLine_eq->r9,intKind->y7,starEach->A4,compareOp->B0,wpAny_mono->B6,wpAny_holding->D9,IsTupleKey->G1,bootBuiltins->K5,compEnvC->K7,wpAny_truthy_bool->N0,wpAny_Call_Name_kw->O7,wpAny_passesOwn->Q0,foldedSetIterable->Q1,wpAny_newList->Q2,wpAny_setState_of->Q3,wpAny_standAt->U2,wpAny_getItem_str_slice->U4,wpAny_field->W3,Paired->Y0,backTo->Y1,wpAny_newFunctionEnv->aa4,assignEach->ac1,call_meets->ac2,wpAny_execs_nil->ac7,sliceBounds->ac8,unsupported->ac9,codeAny_builtin->ad0,PyData->ad1,wpAny_pyIter_tuple->ag2,binaryOp->ag3,codeAny_mono->ag4,rawInt->aj5,typeIs_str->aj6,ofAClassStatement->aj8,closureFor->aj9,wpAny_comprehension_free->ak0,wpAny_pyIter_enum->ak1,cLine->al9,compPost->am0,wpAny_forIn_list->ao6,codeAny_compStart_list->ap2,noteFrame->at7,post_val_or_str->at8,recursionLimit->aB4,wpAny_seqItems->aB5,wpAny_setField->aB6,codeAny->aB9,Keyword->aC0,keywordEach->aC1,behindInMarks->aG1,NameKind->aG2,setSearchFrom->aG3,comprehension->aG4,builtinsNs->aK6,wpAny_assign_Name->aK7,wpAny_pyIter_list->aK8,wpAny_newObj_type->aK9,assign->aS4,wpAny_execs_cons->aS8,wpAny_call_entry->aS9,holding->bc7,letOwnedTupleGo->bc8,again->bc9,BindsTo->bd0,callerA->bd1,hashByValue->bd5,theTreesLotGoes->bd6,wpAny_letOwnedTupleGo_enum->bi7,wpAny_call->bu5,wpAny_rule->bu6,GenState->bv6,bindArgs->bv7,backToKw->bv8,attributeBase->bv9,compTurn_list->bw1,ReadsAll->bw2,wpAny_callSpecial?_slot->bw3,swapsWith->bI8,seqIndex_neg->bI9,setSearch->bJ3,wpAny_eqIsQuiet_tuple->bJ4,codeAny_loop->bJ5,codeAmong->bJ6,exec_Assign_Name_used->bJ7,strValues->bJ8,wpAny_loadName_local->bS8,wpAny_loadName_cell->bT7,subscripted->bT8,seqIndex_of->bT9,wpAny_noted->bU3,newList->bU4,wpAny_of_eq->bU6
open PySem.Heap renaming get?_push_of_some->a8,lt_size->f9,get?_push_size->j8,get?_update_other->C5,size_push->K3,get?_update_self->W0,get?_none_of_le->ar6,size_update->bT2
open Array renaming getElem?_toList->b9,length_toList->j3,size_push->y6,toList_append->A3,size_extract->C4,size_append->E8,perm_iff_toList_perm->J2,toList_extract->P8,toList_push->U1,toList_reverse->W7,getElem?_eq_some_iff->aa5,forIn_toList->ac0,size_map->ac4,mem_toList_iff->ao8,toArray_toList->ap0,append_assoc->aw4,toList_setIfInBounds->aR9,getElem?_append_left->aS2,size_setIfInBounds->aX6,getElem?_replicate->aX7,setIfInBounds->bu9,size_reverse->bE8,getD->bI4,toList_map->bS1,toList_inj->bS3
open Nat renaming le_refl->c6,ne_of_lt->k7,lt_of_lt_of_le->n6,zero_le->o6,le_trans->p9,lt_or_ge->C0,lt_irrefl->C2,lt_succ_of_lt->C3,lt_or_eq_of_le->F9,zero_add->K2,toDigits->N3,add_sub_cancel_left->N5,add_le_add_left->S0,ne_of_gt->S4,le_succ->V3,lt_trichotomy->V4,add_sub_cancel->ad4,succ_pos->ad5,le_of_succ_le->ai0,le_of_lt_succ->ai1,toDigits_of_lt_base->aj4,le_add_right->al6,le_of_lt->ao7,le_of_eq->ao9,lt_of_le_of_lt->aB8,mod_lt->aG0,add_zero->aK2,toDigits_append_toDigits->aS3,not_lt_zero->aS6,isDigit_of_mem_toDigits->aS7,div_div_eq_div_mul->bu2,sub_self->bv0,mul_le_mul_right->bF1,testBit_two_pow->bI3
open Bool renaming false_ne_true->d4,false_eq_true->l9,and_eq_true->m7,false_and->B9,eq_iff_iff->F3,not_true->P2,true_and->P3,or_eq_true->aS1,not_false->aX8,and_false->aX9,or_true->bu4,or_eq_false_iff->bv1,not_eq_true'->bS0,not_eq_true->bT3
open PySem.W renaming nsIn->d8,keepIn->j0,mg_of->j4,codeIn->j6,fnOf->k9,mg_none_of->p8
open PyProof.Rows renaming wpS_bind->i7,wpS_pure->j9,arrOf->l5,pendingOf->A5,wpS_forRange->C8,envOfC->E1,seqObj->E7,IntsAre->F1,failedOf->K6,wpS_mono->S5,get?_update_seq->U3,listUpdate_at->aa6,elem'->ad6,mem_zip_self->ag5,sortedHeap->aj7,AllBare->al8,wpS_get->at6,wpS_modify->au6,wpS_reverse->aC2,KeyOrd->aS5,mirror_perm->bd2,seqEpoch_at->bd3,entry_list_sort->bd4,slot_list_sort->bj2,joinParts_cons->bj3,setPending->bu7,size_push'->bu8,tuples'->bw0,subscriptTail_builtinR->bF3,call_function_entry_kw->bF4,listItems_at->bJ0,plain_sorted->bJ1,entry_sorted->bJ2,formatField_int_small->bJ9,FormattedValue_plain->bS9,getElem?_mirror_all->bU0,pairsOf->bU1,kind_sorted->bU2,wpAny_call_entry_kw->bU5
open Int renaming toNat_natCast->p0,emod_lt_of_pos->D7,emod_nonneg->J0,toNat->J1,le_refl->K4,mul_one->N4,mul_zero->ap1,lt_irrefl->aB7,mul_le_mul_of_nonneg_left->aK5,eq_ofNat_of_zero_le->bj1,mul_comm->bv2,zero_mul->bv3,one_mul->bI5,toNat_of_nonneg->bI6,pow_pos->bI7,natCast_nonneg->bS2
open Option renaming isSome_iff_exists->A7,isNone->aY0,toList_some->bv5,getD_none->bI2
variable {A:PySem.Around}{B:PyProof.Rows.Keyed->PyProof.Rows.Keyed->Bool}{C a f fT l:PySem.Addr}{E Q:PySem.Value->PySem.Shared->Prop}{M:PySem.Model}{N N' ps:List PySem.Str}{P prog:PySem.Program}{R:PyProof.Rows.Keyed->PyProof.Rows.Keyed->Prop}{XP:(PySem.Str->Option PySem.Value)->PySem.Heap->Prop}{YP:PySem.World->PySem.Heap->Prop}{b:Nat->Option (Option Nat) × Nat × Nat->StateT PyProof.Rows.SortSt PySem.Sem (ForInStep (Option (Option Nat) × Nat × Nat))}{cl:List (PySem.Str × PySem.Addr)}{d:Nat->Int}{e tg:PySem.Expr}{fd fdA fdI fdO fdR fdT:PySem.FuncData}{fp:List PySem.Addr}{g:Nat->Nat->Bool}{h h':PySem.Heap}{i j n p:Nat}{ifs:List PySem.Expr}{k ns zs:List Int}{ks:List (List Int)}{lk:List (Option Nat)}{mA:PySem.Str->Option PySem.Value}{out ra rb:List PyProof.Rows.Keyed}{outer:List PySem.Env}{params:PySem.Arguments}{pins:List (PySem.Addr × PySem.Obj)}{pos:PySem.Pos}{qual x:PySem.Str}{s:PySem.Shared}{scope:PySem.Scope}{t:PySem.SetTable}{u v:PySem.Value}{us vs:List PySem.Value}{use:Option (PySem.Value->PySem.Sem Unit)}{w:PySem.World}{xs:Array PyProof.Rows.Keyed}{κ:PyProof.Rows.SortKind}
namespace L2
open PySem PySem.Spec PyProof.Rows
abbrev Key:=Sum Int Str
def bH8:Key->Value->Bool
 | .inl k,v=>Value.isInt k v
 | .inr x,v=>Value.isStrOf x v
def cd7 (w:World):Key->Int
 | .inl k=>hashInt k
 | .inr x=>hashStr w x
theorem G8:∀ {k:Key} {v:Value},bH8 k v=true->(∃ i t,k=Sum.inl i/\v=Value.int i t)\/(∃ x t,k=Sum.inr x/\v=Value.str x t)
 | .inl i,v,h=>by
  obtain⟨t,e⟩:=Value.isInt_shape (k:=i) (v:=v) h
  exact .inl ⟨i,t,rfl,e⟩
 | .inr x,v,h=>by
  obtain⟨t,e⟩:=Value.isStrOf_shape (x:=x) (v:=v) h
  exact .inr ⟨x,t,rfl,e⟩
theorem bP3 (a b:Int):decide ((Sum.inl a:Key)=Sum.inl b)=(a == b):=by
 by_cases e:a=b
 ·subst e;simp
 ·have h:¬ (Sum.inl a:Key)=Sum.inl b:=fun q=>e (Sum.inl.inj q)
  rw[decide_eq_false h]
  exact(beq_eq_false_iff_ne.mpr e).symm
theorem bP0 (a b:Str):decide ((Sum.inr a:Key)=Sum.inr b)=decide (a=b):=by
 by_cases e:a=b
 ·subst e;simp
 ·have h:¬ (Sum.inr a:Key)=Sum.inr b:=fun q=>e (Sum.inr.inj q)
  rw[decide_eq_false h,decide_eq_false e]
theorem bP2 (a:Int)(b:Str):decide ((Sum.inl a:Key)=Sum.inr b)=false:=decide_eq_false (fun q=>nomatch q)
theorem bP1 (a:Str)(b:Int):decide ((Sum.inr a:Key)=Sum.inl b)=false:=decide_eq_false (fun q=>nomatch q)
def aI5 (prog:Program) (w:World):PySem.KeyKind prog w Key where
  is:=bH8
  hash:=cd7 w
  inj:=fun v a b ha hb=>by
    rcases G8 ha with⟨i,t,rfl,rfl⟩ | ⟨x,t,rfl,rfl⟩
    · rcases G8 hb with⟨j,u,rfl,e⟩ | ⟨y,u,rfl,e⟩
      · injection e with e1 _;rw[e1]
      · exact nomatch e
    · rcases G8 hb with⟨j,u,rfl,e⟩ | ⟨y,u,rfl,e⟩
      · exact nomatch e
      · injection e with e1 _;rw[e1]
  byValue := fun k v h => by
    rcases G8 h with⟨i,t,rfl,rfl⟩ | ⟨x,t,rfl,rfl⟩<;>rfl
  pyHash:=fun hv h=>by
    rcases G8 hv with⟨i,t,rfl,rfl⟩ | ⟨x,t,rfl,rfl⟩
    · exact wpAny_pyHash_int h
    · exact wpAny_pyHash_str h
  eqBool:=fun hu hv h=>by
    rcases G8 hu with⟨i,t,rfl,rfl⟩ | ⟨x,t,rfl,rfl⟩
    · rcases G8 hv with⟨j,u,rfl,rfl⟩ | ⟨y,u,rfl,rfl⟩
      · rw[bP3]at h;exact wpAny_eqBool_int h
      · rw[bP2]at h;exact SeqAt.EqAt.int_str i t y u _ _ _ _ h
    · rcases G8 hv with⟨j,u,rfl,rfl⟩ | ⟨y,u,rfl,rfl⟩
      · rw[bP1]at h;exact SeqAt.EqAt.str_int x t j u _ _ _ _ h
      · rw[bP0]at h;exact wpAny_eqBool_str h
  «strs»:=fun k x t v h=>by
    rcases G8 h with⟨i,u,rfl,e⟩ | ⟨y,u,rfl,e⟩
    · exact nomatch e
    · injection e with e1 _
      subst e1
      cases v<;>rfl
inductive V where
 | non | bl (b:Bool) | int (i:Int) | str (x:Str) | byt (b:Array UInt8) | flt (b:UInt64) | ref (a:Addr) | ty (n:String)
 deriving DecidableEq
def RelV:V->Value->Prop
 | .non,u=>u=Value.none
 | .bl b,u=>u=Value.bool b
 | .int i,u=>∃ t,u=Value.int i t
 | .str x,u=>∃ t,u=Value.str x t
 | .byt b,u=>∃ t,u=Value.bytes b t
 | .flt b,u=>∃ t,u=Value.float b t
 | .ref a,u=>u=Value.ref a
 | .ty n,u=>u=Value.type n
abbrev A8:List V->List Value->Prop:=Y0 RelV
theorem A8.length {xs:List V}(r:A8 xs us):xs.length=us.length:=Paired.length r
theorem A8.get:∀ {xs:List V} {us:List Value} {i:Nat} {x:V},A8 xs us->xs[i]?=some x->∃ u,us[i]?=some u/\RelV x u
 | _,_,_,_,.nil,e=>by simp at e
 | _,_,0,_,.cons r _,e=>by simp at e;subst e;exact⟨_,rfl,r⟩
 | _,_,i+1,x,.cons _ t,e=>by
  obtain⟨u,h1,h2⟩:=A8.get (i:=i) (x:=x) t (by simpa using e)
  exact⟨u,by simpa using h1,h2⟩
theorem A8.set {x:V}(r:RelV x u):∀ {xs:List V} {us:List Value} (i:Nat),A8 xs us->A8 (xs.set i x) (us.set i u)
 | _,_,_,.nil=>.nil
 | _,_,0,.cons _ t=>.cons r t
 | _,_,i+1,.cons q t=>.cons q (A8.set r i t)
theorem A8.append:∀ {xs ys:List V} {us ws:List Value},A8 xs us->A8 ys ws->A8 (xs++ys) (us++ws)
 | _,_,_,_,.nil,s=>s
 | _,_,_,_,.cons r t,s=>.cons r (A8.append t s)
theorem A8.take:∀ {xs:List V} {us:List Value} (n:Nat),A8 xs us->A8 (xs.take n) (us.take n)
 | _,_,0,_=>.nil
 | _,_,_+1,.nil=>.nil
 | _,_,n+1,.cons r t=>.cons r (A8.take n t)
theorem A8.drop:∀ {xs:List V} {us:List Value} (n:Nat),A8 xs us->A8 (xs.drop n) (us.drop n)
 | _,_,0,r=>r
 | _,_,_+1,.nil=>.nil
 | _,_,n+1,.cons _ t=>A8.drop n t
def bR7:Option V->Option Value->Prop
 | some v,some u=>RelV v u
 | none,none=>True
 | _,_=>False
def KV {κ:Type}:List (κ × V)->List (κ × Value)->Prop:=Y0 fun(p:κ × V) (q:κ × Value)=>p.1=q.1/\RelV p.2 q.2
def kV:Key->V
 | .inl i=>.int i
 | .inr x=>.str x
inductive HO where
  | lst (xs:List V)
  | tup (xs:List V)
  | dK (kvs:List (Key × V)) | dT (kvs:List (List Key × V))
  | set (S:Int->Bool) (n:Nat)
  | ins (C dx:Addr) (fs:List (Str × V))
  | own (x:Addr)
  | xd (fs:List (Str × V))
  | met (f x:Addr)
  | rng (lo hi:Int)
  | frz (o:Obj) (u:HO)
  | tbl (ps:Array Value)
  | ext (φ:Heap->Prop)
abbrev Hp:=Addr->Option HO
def upd (H:Hp)(a:Addr)(o:HO):Hp:=fun b=>if b=a then some o else H b
theorem a9 {H:Hp}{o:HO}:upd H a o a=some o:=by unfold upd;rw[if_pos rfl]
theorem t8 {H:Hp}{b:Addr}{o:HO}(h:b≠a):upd H a o b=H b:=by unfold upd;rw[if_neg h]
theorem bw8 {H:Hp}{o u:HO}:upd (upd H a o) a u=upd H a u:=by
 funext b;unfold upd;split<;>rfl
theorem bH7 {H:Hp}{b:Addr}{o u:HO}(h:H a=some o)(h':H b=some u)(d:o≠u):a≠b:=by
 intro e;subst e;rw[h]at h';exact d (Option.some.inj h')
theorem u5 {H:Hp}{b:Addr}{o:HO}(h:H a=some o)(h':H b=none):a≠b:=by
 intro e;subst e;rw[h]at h';cases h'
section
variable (P:Program) (w:World)
def M9 (H:Hp)(h:Heap)(a:Addr):HO->Prop
 | .lst xs=>xs.length<=f6/\∃ (its:List Value) (n:Nat),A8 xs its/\h.get? a=some { cls:=.type "list",data:=.seq its.toArray n }
 | .tup xs=>xs.length<=f6/\∃ its:List Value,A8 xs its/\IsTup h a its.toArray
 | .dK kvs=>kvs.length<=f6/\(a == sysModules)=false/\∃ vs,KV kvs vs/\h.DictOf (aI5 P w) a vs
 | .dT kvs=>kvs.length<=f6/\(a == sysModules)=false/\∃ xs:List (List Key × Addr × Value),
   Y0 (fun(p:List Key × V) (q:List Key × Addr × Value)=>p.1=q.1/\H q.2.1=some (.tup (p.1.map kV))/\RelV p.2 q.2.2) kvs xs /\
   ∃ o es ep,h.get? a=some o/\o.ExactDict/\o.data=.dict es ep/\es.toList=xs.map (entryOfKey (tupleKind (aI5 P w)))/\(xs.map (·.1)).Nodup
 | .set S n=>h.SetOf (y7 P w) a S n
 | .ins C dx fs=>H dx=some (.own a)/\fs.length<=1000/\dx≠a/\h.get? a=some (PySem.W.instObj C dx) /\
   ∃ mA,h.Ns1 dx mA/\(∀ f,bR7 (fs.lookup f) (mA f))/\PySem.Within mA (fs.map (·.1))
 | .own _=>∃ o,h.get? a=some o
 | .xd fs=>∃ mA,h.Ns1 a mA/\∀ f,bR7 (fs.lookup f) (mA f)
 | .rng lo hi=>∃ t u v,h.get? a=some { cls:=.type "range",data:=.fields #[.int lo t,.int hi u,.int 1 v] }
 | .frz o u=>h.get? a=some o/\M9 H h a u
 | .tbl ps=>h.get? a=some { cls:=.none,data:=.fields ps }
 | .met f x=>h.get? a=some (PySem.W.methodObj (.ref f) (.ref x))
 | .ext φ=>φ h/\(∃ o,h.get? a=some o)/\∀ h1 h2:Heap,φ h1->(∀ o,h1.get? a=some o->h2.get? a=some o)->φ h2
def HOk (H:Hp)(h:Heap):Prop:=∀ a o,H a=some o->M9 P w H h a o
end
section
variable {H H':Hp} {o:HO}
theorem M9.lt (x:M9 P w H h a o):a<h.objs.size:=by
 cases o with
 | lst xs=>obtain⟨_,_,_,_,e⟩:=x;exact f9 e
 | tup xs=>obtain⟨_,_,_,p⟩:=x;exact p.lt
 | dK kvs=>obtain⟨_,_,_,_,o,_,_,e,_⟩:=x;exact f9 e
 | dT kvs=>obtain⟨_,_,_,_,o,_,_,e,_⟩:=x;exact f9 e
 | set S n=>obtain⟨o,_,_,_,e,_⟩:=x;exact f9 e
 | ins C dx fs=>obtain⟨_,_,_,e,_⟩:=x;exact f9 e
 | own y=>obtain⟨_,e⟩:=x;exact f9 e
 | xd fs=>obtain⟨_,⟨_,_,_,e,_⟩,_⟩:=x;exact f9 e
 | rng lo hi=>obtain⟨_,_,_,e⟩:=x;exact f9 e
 | frz ob u=>obtain⟨e,_⟩:=x;exact f9 e
 | tbl ps=>exact f9 (show h.get? a=some _ from x)
 | met f y=>exact f9 (show h.get? a=some _ from x)
 | ext φ=>obtain⟨_,⟨_,e⟩,_⟩:=x;exact f9 e
theorem Paired.mapP {α β:Type}{F G:α->β->Prop}:∀ {l₁:List α} {l₂:List β},Y0 F l₁ l₂->(∀ a b,F a b->G a b)->Y0 G l₁ l₂
 | _,_,.nil,_=>.nil
 | _,_,.cons r t,f=>.cons (f _ _ r) (Paired.mapP t f)
theorem M9.stay (x:M9 P w H h a o)(k:∀ b u,(b=a\/H b=some (.own a))->h.get? b=some u->h'.get? b=some u)
  (ho:∀ b,H b=some (.own a)->H' b=some (.own a))(ht:∀ b xs,H b=some (.tup xs)->H' b=some (.tup xs)):M9 P w H' h' a o:=by
 induction o with
 | lst xs=>obtain⟨z,its,n,r,e⟩:=x;exact⟨z,its,n,r,k _ _ (.inl rfl) e⟩
 | tup xs=>obtain⟨z,its,r,ob,e,c⟩:=x;exact⟨z,its,r,ob,k _ _ (.inl rfl) e,c⟩
 | dK kvs=>obtain⟨z,y,vs,r,ob,es,ep,e,c⟩:=x;exact⟨z,y,vs,r,ob,es,ep,k _ _ (.inl rfl) e,c⟩
 | dT kvs =>
  obtain⟨z,y,xs,r,ob,es,ep,e,c⟩:=x
  exact⟨z,y,xs,Paired.mapP r fun p q z=>⟨z.1,ht _ _ z.2.1,z.2.2⟩,ob,es,ep,k _ _ (.inl rfl) e,c⟩
 | set S n=>obtain⟨ob,es,ep,t,e,c⟩:=x;exact⟨ob,es,ep,t,k _ _ (.inl rfl) e,c⟩
 | ins C dx fs =>
  obtain⟨d,z,ne,e,mA,⟨od,es,ep,e2,c⟩,r⟩:=x
  exact⟨ho _ d,z,ne,k _ _ (.inl rfl) e,mA,⟨od,es,ep,k _ _ (.inr d) e2,c⟩,r⟩
 | own y=>obtain⟨ob,e⟩:=x;exact⟨ob,k _ _ (.inl rfl) e⟩
 | xd fs=>obtain⟨mA,⟨od,es,ep,e,c⟩,r⟩:=x;exact⟨mA,⟨od,es,ep,k _ _ (.inl rfl) e,c⟩,r⟩
 | rng lo hi=>obtain⟨t,u,v,e⟩:=x;exact⟨t,u,v,k _ _ (.inl rfl) e⟩
 | frz ob u ih=>obtain⟨e,q⟩:=x;exact⟨k _ _ (.inl rfl) e,ih q⟩
 | tbl ps =>
  have e:h.get? a=some { cls:=.none,data:=.fields ps }:=x
  show h'.get? a=some { cls:=.none,data:=.fields ps }
  exact k a _ (.inl rfl) e
 | met f y =>
  have e:h.get? a=some (PySem.W.methodObj (.ref f) (.ref y)):=x
  show h'.get? a=some (PySem.W.methodObj (.ref f) (.ref y))
  exact k a _ (.inl rfl) e
 | ext φ=>obtain⟨p,⟨o,e⟩,st⟩:=x;exact⟨st _ _ p fun o q=>k _ _ (.inl rfl) q,⟨o,k _ _ (.inl rfl) e⟩,st⟩
theorem HOk.lt (x:HOk P w H h)(e:H a=some o):a<h.objs.size:=(x a o e).lt
theorem HOk.fresh (x:HOk P w H h)(e:h.objs.size<=a):H a=none:=by
 cases q:H a with
 | none=>rfl
 | some u=>exact absurd (n6 (x.lt q) e) (C2 _)
theorem HOk.kept (x:HOk P w H h)(k:∀ b u,h.get? b=some u->h'.get? b=some u):HOk P w H h':=fun a o e =>
 (x a o e).stay (fun b u _ q=>k b u q) (fun _ q=>q) fun _ _ q=>q
theorem HOk.laid (x:HOk P w H h)(k:∀ b u,h.get? b=some u->h'.get? b=some u)(hp:h.objs.size<=a)(new:M9 P w (upd H a o) h' a o):HOk P w (upd H a o) h':=fun b u e=>by
 have hn:=x.fresh hp
 by_cases hb:b=a
 ·subst hb;rw[a9]at e;cases e;exact new
 ·rw[t8 hb]at e
  exact(x b u e).stay (fun c v _ q=>k c v q) (fun c q=>by rw[t8 (u5 q hn)];exact q) fun c xs q=>by rw[t8 (u5 q hn)];exact q
end
def Rd (H:Hp)(a:Addr)(u:HO):Prop:=H a=some u\/∃ o,H a=some (.frz o u)
theorem Rd.ok {H:Hp}{u:HO}(r:Rd H a u)(x:HOk P w H h):M9 P w H h a u:=by
 rcases r with r | ⟨o,r⟩
 ·exact x a u r
 ·obtain⟨_,q⟩:=x a _ r
  exact q
def Mut:Option HO->Prop
 | some (.lst _)=>True
 | some (.dK _)=>True
 | some (.dT _)=>True
 | some (.set _ _)=>True
 | some (.ins _ _ _)=>True
 | some (.ext _)=>True
 | _=>False
section
variable {H:Hp} {x e:Addr} {o':HO}
theorem HOk.write (ok:HOk P w H h)(mu:Mut (H x))(he:e=x\/H e=some (.own x))(k:∀ b u,b≠e->h.get? b=some u->h'.get? b=some u)(heo:∃ u,h'.get? e=some u)
  (new:M9 P w (upd H x o') h' x o'):HOk P w (upd H x o') h':=fun b u q=>by
 have nown:∀ c y,H c=some (.own y)->c≠x:=fun c y r z=>by subst z;rw[r]at mu;exact mu
 have ntup:∀ c xs,H c=some (.tup xs)->c≠x:=fun c xs r z=>by subst z;rw[r]at mu;exact mu
 by_cases hb:b=x
 ·subst hb;rw[a9]at q;cases q;exact new
 ·rw[t8 hb]at q
  by_cases hbe:b=e
  ·have q':H b=some (.own x):=by
    rcases he with z | z
    ·exact absurd (hbe.trans z) hb
    ·rw[hbe];exact z
   rw[q]at q';cases q'
   obtain⟨v,hv⟩:=heo
   exact⟨v,by rw[hbe];exact hv⟩
  ·refine(ok b u q).stay (fun c v hc r=>k c v ?_ r) (fun c r=>by rw[t8 (nown c b r)];exact r) fun c xs r=>by rw[t8 (ntup c xs r)];exact r
   rcases hc with rfl | hc
   ·exact hbe
   ·rintro rfl
    rcases he with z | z
    ·exact nown c b hc z
    ·rw[hc]at z;cases z;exact hb rfl
end
structure Un (fs ex:List Addr) (H H':Hp) (h h':Heap):Prop where
 keep:∀ b o,h.get? b=some o->H b=none->b∉fs->b∉ex->h'.get? b=some o
 slot:∀ b o,h.get? b=some o->H b=none->b∈fs->b∉ex->∃ sl,h'.get? b=some { o with slots:=sl }
 free:∀ b o,h.get? b=some o->H b=none->b∉ex->H' b=none
 there:∀ b o,h.get? b=some o->b∉ex->∃ o',h'.get? b=some o'
 tups:∀ b xs,H b=some (.tup xs)->H' b=some (.tup xs)
 frzs:∀ b o u,H b=some (.frz o u)->H' b=some (.frz o u)
 tbls:∀ b ps,H b=some (.tbl ps)->∃ more,H' b=some (.tbl (ps++more))
section
variable {fs fs' ex ex':List Addr} {H H1 H2:Hp} {h1 h2:Heap} {x e:Addr} {o:HO}
theorem Un.any (u:Un fs ex H H1 h h1){b:Addr}{ob:Obj}(q:h.get? b=some ob)(n:H b=none)(hx:b∉ex):∃ sl,h1.get? b=some { ob with slots:=sl }:=by
 by_cases hb:b∈fs
 ·exact u.slot b ob q n hb hx
 ·exact⟨ob.slots,u.keep b ob q n hb hx⟩
theorem Un.kept (k:∀ b u,h.get? b=some u->h'.get? b=some u):Un fs ex H H h h':=
 ⟨fun b ob q _ _ _=>k b ob q,fun b ob q _ _ _=>⟨ob.slots,k b ob q⟩,fun _ _ _ n _=>n,fun b ob q _=>⟨ob,k b ob q⟩,fun _ _ q=>q,fun _ _ _ q=>q,fun _ ps q=>⟨#[],by rw[q];simp⟩⟩
theorem Un.refl:Un fs ex H H h h:=Un.kept fun _ _ q=>q
theorem Un.laid (k:∀ b u,h.get? b=some u->h'.get? b=some u)(hp:h.objs.size<=a)(hn:H a=none):Un fs ex H (upd H a o) h h' where
 keep:=fun b u q _ _ _=>k b u q
 slot:=fun b u q _ _ _=>⟨u.slots,k b u q⟩
 free:=fun b u q n _=>by rw[t8 (k7 (n6 (f9 q) hp))];exact n
 there:=fun b u q _=>⟨u,k b u q⟩
 tups:=fun b xs q=>by rw[t8 (u5 q hn)];exact q
 frzs:=fun b u xs q=>by rw[t8 (u5 q hn)];exact q
 tbls:=fun b ps q=>⟨#[],by rw[t8 (u5 q hn),q];simp⟩
theorem Un.write (mu:Mut (H x))(he:e=x\/H e=some (.own x))(k:∀ b u,b≠e->h.get? b=some u->h'.get? b=some u)(heo:∃ u,h'.get? e=some u):Un fs ex H (upd H x o) h h':=by
 have hx:∀ b,H b=none->b≠x:=fun b n z=>by subst z;rw[n]at mu;exact mu
 have hb:∀ b,H b=none->b≠e:=fun b n z=>by
  subst z
  rcases he with r | r
  ·exact hx b n r
  ·rw[n]at r;cases r
 have hm:∀ b u,H b=some u->¬ Mut (some u)->b≠x:=fun b u q nm z=>by subst z;rw[q]at mu;exact nm mu
 refine⟨fun b u q n _ _=>k b u (hb b n) q,fun b u q n _ _=>⟨u.slots,k b u (hb b n) q⟩,fun b u q n _=>by rw[t8 (hx b n)];exact n,fun b u q _=>?_,
  fun b xs q=>by rw[t8 (hm b _ q fun z=>z)];exact q,fun b u xs q=>by rw[t8 (hm b _ q fun z=>z)];exact q,fun b ps q=>⟨#[],by rw[t8 (hm b _ q fun z=>z),q];simp⟩⟩
 by_cases hbe:b=e
 ·subst hbe;exact heo
 ·exact⟨u,k b u hbe q⟩
end
def trk (h:Heap)(H:Hp):List Addr:=(x8 h.objs.size).filter fun a=>(H a).isSome
def aD0 (h:Heap)(H:Hp):Heap:=PySem.W.hideAll h (trk h H)
theorem bg8 (h:Heap)(H:Hp):(aD0 h H).objs.size=h.objs.size:=PySem.W.hideAll_size _ _
theorem bq9 {H:Hp}{b:Addr}{o:Obj}(e:h.get? b=some o)(n:H b=none):(aD0 h H).get? b=some o:=
 PySem.W.hideAll_get _ e fun hm=>by
  have q:(H b).isSome=true:=(O5.mp hm).2
  rw[n]at q;simp at q
theorem bB6 {H:Hp}{b:Addr}{o:Obj}(e:(aD0 h H).get? b=some o):h.get? b=some o/\H b=none:=by
 have e':h.get? b=some o:=PySem.W.of_hideAll (trk h H) e
 refine⟨e',?_⟩
 cases q:H b with
 | none=>rfl
 | some x =>
  have hm:b∈trk h H:=O5.mpr ⟨y9.mpr (f9 e'),by simp[q]⟩
  have z:(aD0 h H).get? b=none:=PySem.W.hideAll_none (trk h H) hm
  rw[z]at e;cases e
def bE1 (g h:Heap)(L:Addr):List (Addr × Obj):=(x8 h.objs.size).filterMap fun a=>if a=L\/(g.get? a).isSome=true then none else (h.get? a).map fun o=>(a,o)
def rest (g h:Heap)(L d:Addr):List (Addr × Obj):=(bE1 g h L).filter fun p=>decide (p.1≠d)
end L2
variable {H H':L2.Hp}{Qd:L2.Hp->Prop}{gV:List L2.V->List L2.V->List L2.V}{ys:List L2.V}
namespace L2
open PySem PySem.Spec PyProof.Rows
structure Mod (K:W.Frag) (mg:Str->Option Value) (base:Heap):Prop where
 kin:K.In base
 glob:base.Ns d5 mg
 blt:∃ mb,base.Ns aK6 mb/\∀ x:Str,x≠"__name__"->mb x=K5 x
 nolimit:base.NoLimit
structure Cx where
 prog:Program
 w:World
 K:W.Frag
 mg:Str->Option Value
 base:Heap
 A:Around
 N:List Str
 s₀:Shared
 H₀:Hp
 env:Env
 outer:List Env
 stack:List Env
 ex:List Addr
 fn:Str->Bool
 calm:Bool
 pn:List (Addr × Obj)
 xe:Value->Shared->Prop
def frs (l:List Env):List Addr:=l.filterMap (·.frame)
abbrev Cx.fs (X:Cx):List Addr:=frs X.outer
def Vis (sc:Scope)(x:Str):Prop:=sc.names.lookup x=some .local\/sc.names.lookup x=some .cell\/sc.names.lookup x=some .free
def Loc (sc:Scope)(x:Str):Prop:=sc.names.lookup x=some .local\/sc.names.lookup x=some .cell
def Look (env:Env)(h:Heap)(m:Str->Option Value)(x:Str)(u:Value):Prop:=
 (env.kindOf x=some .local/\m x=some u)\/((env.kindOf x=some .cell\/env.kindOf x=some .free)/\∃ c,env.cells.lookup x=some c/\h.IsCell c (some u))
structure Cx.Ok (X:Cx):Prop where
 mod:Mod X.K X.mg X.base
 kind:X.env.scope.kind=.function
 glob:X.env.globals=d5
 blt:X.env.builtins=aK6
 above:X.s₀.heap.objs.size<=X.env.locals
 inj:∀ x y c,X.env.cells.lookup x=some c->X.env.cells.lookup y=some c->x=y
 has:∀ x,(X.env.kindOf x=some .cell\/X.env.kindOf x=some .free)->∃ c,X.env.cells.lookup x=some c
 cab:∀ x c,X.fn x=true->X.env.cells.lookup x=some c->X.s₀.heap.objs.size<=c
 hd:X.calm=true->X.A.handled=none
 frames:X.A.frames=some X.stack
 stk:X.stack=X.outer\/(X.stack=X.env::X.outer/\X.env.frame=some X.env.locals)
 exf:∀ b∈X.ex,b≠X.env.locals/\∀ x c,X.env.cells.lookup x=some c->c≠b
 bs:∀ b o,X.base.get? b=some o->X.s₀.heap.get? b=some o/\X.H₀ b=none
 bsz:X.base.objs.size<=X.s₀.heap.objs.size
 noex:∀ b o,X.base.get? b=some o->b∉X.ex
 exfs:∀ b∈X.ex,b∉X.fs
 funs:X.s₀.heap.FunFrames X.base X.outer
 frf:∀ b∈X.fs,X.H₀ b=none
structure Inv (X:Cx) (pins:List (Addr × Obj)) (σ:List (Option V)) (H:Hp) (s:Shared):Prop where
 ok:X.Ok
 os:s.os=X.s₀.os
 bare:al8 s.gens
 base:Un X.fs X.ex X.H₀ H X.s₀.heap s.heap
 loc:∃ m,s.heap.Ns X.env.locals m/\∀ (i:Nat) (x:Str) (v:V),X.N[i]?=some x->σ[i]?=some (some v)->Vis X.env.scope x->∃ u,RelV v u/\Look X.env s.heap m x u
 cell:∀ x c,X.env.cells.lookup x=some c->∃ v,s.heap.IsCell c v
 free:H X.env.locals=none
 freeC:∀ x c,X.env.cells.lookup x=some c->H c=none
 pin:∀ p∈X.pn++pins,s.heap.get? p.1=some p.2/\H p.1=none/\p.1≠X.env.locals/\p.1∉X.fs/\∀ v,p.2.data≠.cell v
 hok:HOk X.prog X.w H s.heap
 len:σ.length=X.N.length
section
variable {X:Cx} {σ:List (Option V)}
theorem Cx.Ok.nofr (ok:X.Ok){b:Addr}{o:Obj}(e:X.base.get? b=some o):b∉X.fs:=fun hb=>by
 have:=(ok.funs.mem hb).1
 rw[e]at this;cases this
theorem Inv.bs (I:Inv X pins σ H s):∀ b o,X.base.get? b=some o->s.heap.get? b=some o/\H b=none:=fun b o e =>
 ⟨I.base.keep b o (I.ok.bs b o e).1 (I.ok.bs b o e).2 (I.ok.nofr e) (I.ok.noex b o e),I.base.free b o (I.ok.bs b o e).1 (I.ok.bs b o e).2 (I.ok.noex b o e)⟩
theorem Inv.bk (I:Inv X pins σ H s):∀ b o,X.base.get? b=some o->s.heap.get? b=some o:=fun b o e=>(I.bs b o e).1
theorem Inv.mod (I:Inv X pins σ H s):Mod X.K X.mg X.base:=I.ok.mod
theorem Inv.kIn (I:Inv X pins σ H s):X.K.In s.heap:=I.ok.mod.kin.keeps I.bk
theorem Inv.nolimit (I:Inv X pins σ H s):s.heap.NoLimit:=I.ok.mod.nolimit.keeps I.bk
theorem Inv.lt (I:Inv X pins σ H s):X.env.locals<s.heap.objs.size:=let ⟨_,hn,_⟩:=I.loc;hn.lt
theorem Inv.sz (I:Inv X pins σ H s):X.s₀.heap.objs.size<=s.heap.objs.size:=p9 I.ok.above (ao7 I.lt)
theorem Inv.nofs (I:Inv X pins σ H s)(h:s.heap.objs.size<=a):a∉X.fs:=fun hb=>by
 obtain⟨_,o,ho,_⟩:=I.ok.funs.mem hb
 exact absurd (n6 (f9 ho) (p9 I.sz h)) (C2 _)
theorem Inv.cne (I:Inv X pins σ H s):∀ x c,X.env.cells.lookup x=some c->c≠X.env.locals:=fun x c e z=>by
 obtain⟨v,o,ho,hd⟩:=I.cell x c e
 obtain⟨m,⟨o',es,ep,ho',hd',_⟩,_⟩:=I.loc
 rw[z,ho']at ho;cases ho;rw[hd']at hd;cases hd
theorem Inv.funs (I:Inv X pins σ H s):s.heap.FunFrames X.base X.outer:=by
 have all:∀ (l:List Env),(∀ b∈frs l,b∈X.fs)->X.s₀.heap.FunFrames X.base l->s.heap.FunFrames X.base l:=by
  intro l
  induction l with
  | nil=>intro _ _;trivial
  | cons env r ih =>
   intro hs hl
   obtain⟨hk,⟨L,o,hf,hn,ho,hd⟩,hr⟩:=hl
   have hL:L∈X.fs:=hs L (by unfold frs;rw[N2,hf];exact c5)
   obtain⟨sl,e⟩:=I.base.slot L o ho (I.ok.frf L hL) hL fun z=>I.ok.exfs L z hL
   exact⟨hk,⟨L,_,hf,hn,e,hd⟩,ih (fun b hb=>hs b (by unfold frs;rw[N2,hf];exact b7 _ hb)) hr⟩
 exact all X.outer (fun _ hb=>hb) I.ok.funs
theorem Inv.stack (I:Inv X pins σ H s):s.heap.FunFrames X.base X.stack:=by
 rcases I.ok.stk with e | ⟨e,hf⟩
 ·rw[e];exact I.funs
 ·rw[e]
  obtain⟨m,hn,_⟩:=I.loc
  refine .cons (by rw[I.ok.kind];decide) hf hn ?_ I.funs
  exact ar6 (p9 I.ok.bsz I.ok.above)
theorem Inv.stkSub (I:Inv X pins σ H s):∀ b∈frs X.stack,b∈X.env.locals::X.fs:=fun b hb=>by
 rcases I.ok.stk with e | ⟨e,hf⟩
 ·rw[e]at hb;exact b7 _ hb
 ·rw[e]at hb
  unfold frs at hb
  rw[N2,hf]at hb
  exact hb
theorem Inv.stkFree (I:Inv X pins σ H s):∀ b∈frs X.stack,H b=none:=fun b hb=>by
 rcases d3.mp (I.stkSub b hb) with e | hb
 ·rw[e];exact I.free
 ·obtain⟨_,o,ho,_⟩:=I.ok.funs.mem hb
  exact I.base.free b o ho (I.ok.frf b hb) fun z=>I.ok.exfs b z hb
theorem Inv.step {g':Array bv6}{t':Nat}{d':Drawn}{ch:List Addr}(I:Inv X pins σ H s)
  (hch:∀ b∈ch,(b∈X.ex\/X.s₀.heap.objs.size<=b)/\b≠X.env.locals/\(∀ x c,X.env.cells.lookup x=some c->c≠b)/\∀ p∈X.pn++pins,p.1≠b)
  (keep:∀ b o,b≠X.env.locals->b∉X.fs->b∉ch->s.heap.get? b=some o->H b=none->h'.get? b=some o)
  (slot:∀ b o,b≠X.env.locals->b∈X.fs->b∉ch->s.heap.get? b=some o->H b=none->∃ sl,h'.get? b=some { o with slots:=sl })(free:∀ b o,b∉ch->s.heap.get? b=some o->H b=none->H' b=none)
  (there:∀ b o,b∉ch->s.heap.get? b=some o->∃ o',h'.get? b=some o')
  (tups:∀ b xs,H b=some (.tup xs)->H' b=some (.tup xs))(frzs:∀ b o u,H b=some (.frz o u)->H' b=some (.frz o u))(tbls:∀ b ps,H b=some (.tbl ps)->∃ more,H' b=some (.tbl (ps++more)))
  (ns:∀ m,s.heap.Ns X.env.locals m->h'.Ns X.env.locals m)(hok:HOk X.prog X.w H' h')(hg:al8 g') :
  Inv X pins σ H' { s with heap:=h',gens:=g',drawn:=d',toks:=t' }:=by
 have neL:∀ b o,X.s₀.heap.get? b=some o->b≠X.env.locals:=fun b o e=>k7 (n6 (f9 e) I.ok.above)
 have neC:∀ b o,X.s₀.heap.get? b=some o->b∉X.ex->b∉ch:=fun b o e hx hb=>by
  rcases(hch b hb).1 with z | z
  ·exact hx z
  ·exact absurd (n6 (f9 e) z) (C2 _)
 have cellK:∀ x c,X.env.cells.lookup x=some c->∀ v,s.heap.IsCell c v->h'.IsCell c v:=fun x c e v ⟨o,ho,hd⟩=>by
  have nch:c∉ch:=fun z=>(hch c z).2.2.1 x c e rfl
  by_cases hc:c∈X.fs
  ·obtain⟨sl,q⟩:=slot c o (I.cne x c e) hc nch ho (I.freeC x c e)
   exact⟨_,q,hd⟩
  ·exact⟨o,keep c o (I.cne x c e) hc nch ho (I.freeC x c e),hd⟩
 refine⟨I.ok,I.os,hg,⟨fun b o e n hb hx=>?_,fun b o e n hb hx=>?_,fun b o e n hx=>?_,fun b o e hx=>?_,fun b xs e=>tups b xs (I.base.tups b xs e),fun b o xs e=>frzs b o xs (I.base.frzs b o xs e),fun b ps e=>?_⟩,?_,fun x c e=>?_,?_,fun x c e=>?_,fun p hp=>?_,hok,I.len⟩
 ·exact keep b o (neL b o e) hb (neC b o e hx) (I.base.keep b o e n hb hx) (I.base.free b o e n hx)
 ·obtain⟨sl,e1⟩:=I.base.slot b o e n hb hx
  obtain⟨sl',e2⟩:=slot b _ (neL b o e) hb (neC b o e hx) e1 (I.base.free b o e n hx)
  exact⟨sl',e2⟩
 ·obtain⟨o',e1⟩:=I.base.there b o e hx
  exact free b o' (neC b o e hx) e1 (I.base.free b o e n hx)
 ·obtain⟨o',e1⟩:=I.base.there b o e hx
  exact there b o' (neC b o e hx) e1
 ·obtain⟨m1,e1⟩:=I.base.tbls b ps e
  obtain⟨m2,e2⟩:=tbls b _ e1
  exact⟨m1++m2,by rw[e2,aw4]⟩
 ·obtain⟨m,hn,hl⟩:=I.loc
  refine⟨m,ns m hn,fun i x v e1 e2 e3=>?_⟩
  obtain⟨u,r,l⟩:=hl i x v e1 e2 e3
  refine⟨u,r,?_⟩
  rcases l with l | ⟨k,c,e,z⟩
  ·exact .inl l
  ·exact .inr ⟨k,c,e,cellK x c e _ z⟩
 ·obtain⟨v,z⟩:=I.cell x c e
  exact⟨v,cellK x c e v z⟩
 ·obtain⟨m,⟨o,_,_,ho,_⟩,_⟩:=I.loc
  exact free _ o (fun z=>(hch _ z).2.1 rfl) ho I.free
 ·obtain⟨v,o,ho,hd⟩:=I.cell x c e
  exact free c o (fun z=>(hch c z).2.2.1 x c e rfl) ho (I.freeC x c e)
 ·obtain⟨e,n,ne,nf,d⟩:=I.pin p hp
  have nch:p.1∉ch:=fun z=>(hch p.1 z).2.2.2 p hp rfl
  exact⟨keep p.1 p.2 ne nf nch e n,free p.1 p.2 nch e n,ne,nf,d⟩
theorem Inv.un {t':Nat}(I:Inv X pins σ H s)(u:Un X.fs [] H H' s.heap h')(hok:HOk X.prog X.w H' h'):Inv X pins σ H' { s with heap:=h',toks:=t' }:=by
 obtain⟨m,⟨o,es,ep,ho,r⟩,_⟩:=id I.loc
 obtain⟨sl,hL⟩:=u.any ho I.free (by simp)
 exact I.step (g':=s.gens) (d':=s.drawn) (ch:=[]) (fun _ z=>nomatch z) (fun b o _ hb _ e n=>u.keep b o e n hb (by simp)) (fun b o _ hb _ e n=>u.slot b o e n hb (by simp)) (fun b o _ e n=>u.free b o e n (by simp)) (fun b o _ e=>u.there b o e (by simp)) u.tups u.frzs u.tbls (fun m' hm=>by
  obtain⟨o',es',ep',ho',r'⟩:=hm
  rw[ho]at ho';cases ho'
  exact⟨_,es',ep',hL,r'⟩) hok I.bare
theorem Inv.call {g':Array bv6}{t':Nat}{d':Drawn}{ch:List Addr}(I:Inv X pins σ H s)(u:Un (frs X.stack) ch H H' s.heap h')(hok:HOk X.prog X.w H' h')(hg:al8 g')
  (hch:∀ b∈ch,(b∈X.ex\/X.s₀.heap.objs.size<=b)/\b≠X.env.locals/\(∀ x c,X.env.cells.lookup x=some c->c≠b)/\∀ p∈X.pn++pins,p.1≠b) :
  Inv X pins σ H' { s with heap:=h',gens:=g',drawn:=d',toks:=t' }:=by
 obtain⟨m,⟨o,es,ep,ho,r⟩,_⟩:=id I.loc
 obtain⟨sl,hL⟩:=u.any ho I.free fun z=>(hch _ z).2.1 rfl
 exact I.step (ch:=ch) hch (fun b o hL hb hc e n=>u.keep b o e n (fun z=>(d3.mp (I.stkSub b z)).elim hL hb) hc) (fun b o _ _ hc e n=>u.any e n hc) (fun b o hc e n=>u.free b o e n hc) (fun b o hc e=>u.there b o e hc) u.tups u.frzs u.tbls (fun m' hm=>by
  obtain⟨o',es',ep',ho',r'⟩:=hm
  rw[ho]at ho';cases ho'
  exact⟨_,es',ep',hL,r'⟩) hok hg
theorem Inv.turned {t':Nat}{it:Addr}(I:Inv X pins σ H s)(k:∀ b o,b≠it->s.heap.get? b=some o->h'.get? b=some o)(hn:H it=none)(hL:it≠X.env.locals)
  (h1:it∈X.ex\/X.s₀.heap.objs.size<=it)(h2:∀ x c,X.env.cells.lookup x=some c->c≠it)(h3:∀ p∈X.pn++pins,p.1≠it):Inv X pins σ H { s with heap:=h',toks:=t' }:=by
 have nit:∀ b u,H b=some u->b≠it:=fun b u e z=>by rw[z,hn]at e;cases e
 refine I.step (g':=s.gens) (d':=s.drawn) (ch:=[it]) (fun b hb=>?_) (fun b o _ _ hc e _=>k b o (fun z=>hc (by simp[z])) e) (fun b o _ _ hc e _=>⟨o.slots,k b o (fun z=>hc (by simp[z])) e⟩) (fun _ _ _ _ n=>n)
  (fun b o hc e=>⟨o,k b o (fun z=>hc (by simp[z])) e⟩) (fun _ _ e=>e) (fun _ _ _ e=>e) (fun b ps e=>⟨#[],by rw[e];simp⟩) (fun m hm=>?_) (fun b u e=>?_) I.bare
 ·have e:b=it:=by simpa using hb
  subst e
  exact⟨h1,hL,h2,h3⟩
 ·obtain⟨o,es,ep,ho,r⟩:=hm
  exact⟨o,es,ep,k _ o (Ne.symm hL) ho,r⟩
 ·refine(I.hok b u e).stay (fun c v hc q=>k c v ?_ q) (fun _ q=>q) fun _ _ q=>q
  rcases hc with z | z
  ·rw[z];exact nit b u e
  ·exact nit c _ z
theorem Inv.tok (I:Inv X pins σ H s)(t:Nat):Inv X pins σ H { s with toks:=t }:=I.un (h':=s.heap) (t':=t) Un.refl I.hok
theorem Inv.kept {t':Nat}(I:Inv X pins σ H s)(k:∀ b u,s.heap.get? b=some u->h'.get? b=some u):Inv X pins σ H { s with heap:=h',toks:=t' }:=I.un (Un.kept k) (I.hok.kept k)
theorem Inv.laid {o:HO}{t':Nat}(I:Inv X pins σ H s)(k:∀ b u,s.heap.get? b=some u->h'.get? b=some u)(hp:s.heap.objs.size<=a)(new:M9 X.prog X.w (upd H a o) h' a o) :
  Inv X pins σ (upd H a o) { s with heap:=h',toks:=t' }:=I.un (Un.laid k hp (I.hok.fresh hp)) (I.hok.laid k hp new)
theorem Inv.write {x e:Addr}{o:HO}{t':Nat}(I:Inv X pins σ H s)(mu:Mut (H x))(he:e=x\/H e=some (.own x))(k:∀ b u,b≠e->s.heap.get? b=some u->h'.get? b=some u)(heo:∃ u,h'.get? e=some u)
  (new:M9 X.prog X.w (upd H x o) h' x o):Inv X pins σ (upd H x o) { s with heap:=h',toks:=t' }:=I.un (Un.write mu he k heo) (I.hok.write mu he k heo new)
theorem Inv.pins_of {pins':List (Addr × Obj)}(I:Inv X pins σ H s)(h:∀ p∈pins',s.heap.get? p.1=some p.2/\H p.1=none/\p.1≠X.env.locals/\p.1∉X.fs/\∀ v,p.2.data≠.cell v):Inv X pins' σ H s:=
 ⟨I.ok,I.os,I.bare,I.base,I.loc,I.cell,I.free,I.freeC,fun p hp=>(u6.mp hp).elim (fun z=>I.pin p (D6 _ z)) (h p),I.hok,I.len⟩
theorem aO4 (hN:N.Nodup)(a:N[i]?=some x)(b:N[j]?=some x):i=j:=by
 obtain⟨h1,e1⟩:=c4.mp a
 obtain⟨h2,e2⟩:=c4.mp b
 exact(List.getElem_inj hN).mp (e1.trans e2.symm)
theorem ap3 {v:V}{Q:Unit->Shared->Prop}(I:Inv X pins σ H s)(hN:X.N.Nodup)(hi:X.N[i]?=some x)(hx:Loc X.env.scope x)(r:RelV v u)
  (h:∀ s',Inv X pins (σ.set i (some v)) H s'->(∃ a,Heap.SameBut a s.heap s'.heap/\(a=X.env.locals\/X.env.cells.lookup x=some a))->Q () s')(hf:X.fn x=true\/X.env.scope.names.lookup x=some .local:=by first | exact .inl rfl | exact .inr rfl | assumption):r6 M A (storeName X.env x u) Q E s:=by
 obtain⟨m,hn,hl⟩:=id I.loc
 have hcls:(X.env.scope.kind == .class || (X.env.scope.kind == .module && X.env.locals != X.env.globals))=false:=by rw[I.ok.kind];rfl
 have hiσ:i<σ.length:=by rw[I.len];exact(c4.mp hi).1
 have cne:=I.cne
 have tracked:∀ {a:Addr} {h':Heap},(∃ o,s.heap.get? a=some o/\H a=none)->Heap.SameBut a s.heap h'->HOk X.prog X.w H h':=fun {a h'} ha hs b ob e=>by
  obtain⟨_,_,hfree⟩:=ha
  refine(I.hok b ob e).stay (fun c w' hc q=>(hs.2 c ?_).trans q) (fun _ q=>q) fun _ _ q=>q
  rintro rfl
  rcases hc with rfl | hc
  ·rw[hfree]at e;cases e
  ·rw[hfree]at hc;cases hc
 rcases hx with hk | hk
 ·refine wpAny_storeName_local hk hn (fun h' hn' hs=>?_) hcls
  obtain⟨oL,_,_,hoL,_⟩:=id hn
  refine h _ ⟨I.ok,I.os,I.bare,⟨fun b o e n hb hx=>?_,fun b o e n hb hx=>?_,I.base.free,fun b o e hx=>?_,I.base.tups,I.base.frzs,I.base.tbls⟩,⟨_,hn',fun j y v' e1 e2 e3=>?_⟩,fun y c e=>?_,I.free,I.freeC,fun p hp=>?_,tracked ⟨oL,hoL,I.free⟩ hs,by simpa using I.len⟩ ⟨_,hs,.inl rfl⟩
  ·exact(hs.2 b (k7 (n6 (f9 e) I.ok.above))).trans (I.base.keep b o e n hb hx)
  ·obtain⟨sl,e1⟩:=I.base.slot b o e n hb hx
   exact⟨sl,(hs.2 b (k7 (n6 (f9 e) I.ok.above))).trans e1⟩
  ·obtain⟨o',e1⟩:=I.base.there b o e hx
   exact⟨o',(hs.2 b (k7 (n6 (f9 e) I.ok.above))).trans e1⟩
  ·by_cases hj:j=i
   ·subst hj
    rw[hi]at e1;cases e1
    rw[bi8 hiσ]at e2
    cases e2
    exact⟨u,r,.inl ⟨hk,by simp⟩⟩
   ·rw[ar7 (Ne.symm hj)]at e2
    obtain⟨u',r',q⟩:=hl j y v' e1 e2 e3
    refine⟨u',r',?_⟩
    rcases q with⟨k,e⟩ | ⟨k,c,e,z⟩
    ·refine .inl ⟨k,?_⟩
     have:y≠x:=fun e=>hj (aO4 hN e1 (e ▸ hi))
     simp[this,e]
    ·exact .inr ⟨k,c,e,z.sameBut hs (cne y c e)⟩
  ·obtain⟨w',z⟩:=I.cell y c e
   exact⟨w',z.sameBut hs (cne y c e)⟩
  ·obtain⟨e,n,ne,nf,d⟩:=I.pin p hp
   exact⟨(hs.2 p.1 ne).trans e,n,ne,nf,d⟩
 ·have hfn:X.fn x=true:=by
   rcases hf with z | z
   ·exact z
   ·rw[z]at hk;cases hk
  obtain⟨c,hc⟩:=I.ok.has x (.inl hk)
  obtain⟨w',z⟩:=I.cell x c hc
  refine wpAny_storeName_cell I.ok.kind hk hc z (fun h' hc' hs=>?_)
  obtain⟨oc,hoc,hocd⟩:=id z
  refine h { s with heap:=h' } ⟨I.ok,I.os,I.bare,⟨fun b o e n hb hx=>?_,fun b o e n hb hx=>?_,I.base.free,fun b o e hx=>?_,I.base.tups,I.base.frzs,I.base.tbls⟩,⟨m,hn.sameBut hs (Ne.symm (cne x c hc)),fun j y v' e1 e2 e3=>?_⟩,fun y c' e=>?_,I.free,I.freeC,fun p hp=>?_,tracked ⟨oc,hoc,I.freeC x c hc⟩ hs,by simpa using I.len⟩ ⟨c,hs,.inr hc⟩
  ·exact(hs.2 b (k7 (n6 (f9 e) (I.ok.cab x c hfn hc)))).trans (I.base.keep b o e n hb hx)
  ·obtain⟨sl,e1⟩:=I.base.slot b o e n hb hx
   exact⟨sl,(hs.2 b (k7 (n6 (f9 e) (I.ok.cab x c hfn hc)))).trans e1⟩
  ·obtain⟨o',e1⟩:=I.base.there b o e hx
   exact⟨o',(hs.2 b (k7 (n6 (f9 e) (I.ok.cab x c hfn hc)))).trans e1⟩
  ·by_cases hj:j=i
   ·subst hj
    rw[hi]at e1;cases e1
    rw[bi8 hiσ]at e2
    cases e2
    exact⟨u,r,.inr ⟨.inl hk,c,hc,hc'⟩⟩
   ·rw[ar7 (Ne.symm hj)]at e2
    obtain⟨u',r',q⟩:=hl j y v' e1 e2 e3
    refine⟨u',r',?_⟩
    rcases q with q | ⟨k,c',e,z'⟩
    ·exact .inl q
    ·refine .inr ⟨k,c',e,z'.sameBut hs ?_⟩
     rintro rfl
     exact hj (aO4 hN e1 (I.ok.inj _ _ _ e hc ▸ hi))
  ·by_cases hcc:c'=c
   ·subst hcc;exact⟨_,hc'⟩
   ·obtain⟨w2,z2⟩:=I.cell y c' e
    exact⟨w2,z2.sameBut hs hcc⟩
  ·obtain⟨e,n,ne,nf,d⟩:=I.pin p hp
   refine⟨(hs.2 p.1 ?_).trans e,n,ne,nf,d⟩
   intro q
   rw[q,hoc]at e
   have q':oc=p.2:=Option.some.inj e
   exact d w' (by rw[<- q'];exact hocd)
theorem aw7 {v:V}{Q:Unit->Shared->Prop}(I:Inv X pins σ H s)(hN:X.N.Nodup)(hi:X.N[i]?=some x)(hx:Loc X.env.scope x)(r:RelV v u)
  (h:∀ s',Inv X pins (σ.set i (some v)) H s'->Q () s')(hf:X.fn x=true\/X.env.scope.names.lookup x=some .local:=by first | exact .inl rfl | exact .inr rfl | assumption):r6 M A (storeName X.env x u) Q E s:=
 ap3 I hN hi hx r (fun s' I' _=>h s' I') hf
theorem Inv.call' {s':Shared}{ch:List Addr}(I:Inv X pins σ H s)(ho:s'.os=s.os)(u:Un (frs X.stack) ch H H' s.heap s'.heap)(hok:HOk X.prog X.w H' s'.heap)(hg:al8 s'.gens)
  (hch:∀ b∈ch,(b∈X.ex\/X.s₀.heap.objs.size<=b)/\b≠X.env.locals/\(∀ x c,X.env.cells.lookup x=some c->c≠b)/\∀ p∈X.pn++pins,p.1≠b):Inv X pins σ H' s':=by
 obtain⟨h',g',d',t',o'⟩:=s'
 have e:o'=s.os:=ho
 subst e
 exact I.call (g':=g') (t':=t') (d':=d') u hok hg hch
end
abbrev XK:=Value->Option Addr->Hp->Prop
abbrev St:=List (Option V)
abbrev VK:=V->Hp->Prop
abbrev TE:=St->Hp->VK->Prop
abbrev TT:=St->Hp->(Bool->Hp->Prop)->Prop
abbrev TA:=St->Hp->(List V->Hp->Prop)->Prop
structure Ends where
 nx:St->Hp->Prop
 rt:VK
 bk:St->Hp->Prop:=fun _ _=>False
 ct:St->Hp->Prop:=fun _ _=>False
abbrev TS:=Ends->St->Hp->Prop
def EP (X:Cx)(pins:List (Addr × Obj))(σ:St)(Q:VK)(u:Value)(s':Shared):Prop:=∃ v H',Inv X pins σ H' s'/\RelV v u/\Q v H'
def TP (X:Cx)(pins:List (Addr × Obj))(σ:St)(Q:Bool->Hp->Prop)(b:Bool)(s':Shared):Prop:=∃ H',Inv X pins σ H' s'/\Q b H'
def AP (X:Cx)(pins:List (Addr × Obj))(σ:St)(Q:List V->Hp->Prop)(us:List Value)(s':Shared):Prop:=∃ vs H',Inv X pins σ H' s'/\A8 vs us/\Q vs H'
def SP (X:Cx)(pins:List (Addr × Obj))(D:Ends)(f:Flow)(s':Shared):Prop:=
 match f with
 | .next=>∃ σ' H',Inv X pins σ' H' s'/\D.nx σ' H'
 | .brk=>∃ σ' H',Inv X pins σ' H' s'/\D.bk σ' H'
 | .cont=>∃ σ' H',Inv X pins σ' H' s'/\D.ct σ' H'
 | .ret u=>∃ v σ' H',Inv X pins σ' H' s'/\RelV v u/\D.rt v H'
def PE (X:Cx)(e:Expr)(t:TE):Prop:=
 ∀ (pins:List (Addr × Obj)) (s:Shared) (σ:St) (H:Hp) (Q:VK),Inv X pins σ H s->t σ H Q->r6 (o7 X.prog X.w) X.A (eval e X.env) (EP X pins σ Q) X.xe s
def PT (X:Cx)(e:Expr)(t:TT):Prop:=
 ∀ (pins:List (Addr × Obj)) (s:Shared) (σ:St) (H:Hp) (Q:Bool->Hp->Prop),Inv X pins σ H s->t σ H Q->r6 (o7 X.prog X.w) X.A (isTrue e X.env (eval e X.env)) (TP X pins σ Q) X.xe s
def PW (X:Cx)(e:Expr)(t:TT):Prop:=
 ∀ (whole:Sem Value) (pins:List (Addr × Obj)) (s:Shared) (σ:St) (H:Hp) (Q:Bool->Hp->Prop),Inv X pins σ H s->t σ H Q->r6 (o7 X.prog X.w) X.A (isTrue e X.env whole) (TP X pins σ Q) X.xe s
theorem PW.pt {X:Cx}{t:TT}(h:PW X e t):PT X e t:=h _
def PA (X:Cx)(es:List Expr)(t:TA):Prop:=
 ∀ (pos:Pos) (pins:List (Addr × Obj)) (s:Shared) (σ:St) (H:Hp) (Q:List V->Hp->Prop),Inv X pins σ H s->t σ H Q->r6 (o7 X.prog X.w) X.A (spliced (Y1 pos (A4 es X.env))) (AP X pins σ Q) X.xe s
def PS (X:Cx)(st:Stmt)(t:TS):Prop:=
 ∀ (pins:List (Addr × Obj)) (s:Shared) (σ:St) (H:Hp) (D:Ends),Inv X pins σ H s->t D σ H->r6 (o7 X.prog X.w) X.A (exec st X.env) (SP X pins D) X.xe s
def PSs (X:Cx)(st:List Stmt)(t:TS):Prop:=
 ∀ (pins:List (Addr × Obj)) (s:Shared) (σ:St) (H:Hp) (D:Ends),Inv X pins σ H s->t D σ H->r6 (o7 X.prog X.w) X.A (execs st X.env) (SP X pins D) X.xe s
theorem thn {α:Type}{t:Sem α}{Q Q':α->Shared->Prop}(h:r6 M A t Q E s)(hQ:∀ a s,Q a s->Q' a s):r6 M A t Q' E s:=B6 h hQ fun _ _ x=>x
end L2
variable {X:L2.Cx}{r:L2.V->List L2.V->L2.Hp->L2.VK->Prop}{ta te:L2.TE}{σ:L2.St}
namespace L2
open PySem PySem.Spec PyProof.Rows
section
def bU7 (i:Nat):TE:=fun σ H Q=>∃ v,σ[i]?=some (some v)/\Q v H
def tC (v:V):TE:=fun _ H Q=>Q v H
theorem bN0 (hN:X.N[i]?=some x)(hv:Vis X.env.scope x)(hd:(x == ("__debug__":Str))=false:=by decide)(hcd:(x == ("__classdict__":Str))=false:=by decide):PE X (.Name x pos) (bU7 i):=by
 intro pins s σ H Q I h
 obtain⟨v,e,h⟩:=h
 obtain⟨m,hn,hl⟩:=I.loc
 obtain⟨u,r,l⟩:=hl i x v hN e hv
 have fin:EP X pins σ Q u s:=⟨v,H,I,r,h⟩
 rcases l with⟨hk,hm⟩ | ⟨hk,c,hc,hcell⟩
 ·exact wpAny_Name (bS8 I.ok.kind hk hn hm fin) hd
 ·rcases hk with hk | hk
  ·exact wpAny_Name (bT7 I.ok.kind hk hc hcell fin) hd
  ·exact wpAny_Name (wpAny_loadName_free I.ok.kind hk hc hcell fin hcd) hd
theorem c9 {i j pos}:PE X (.Constant (.int i) j pos) (tC (.int i)):=fun _ _ _ H _ I h=>wpAny_Constant_int ⟨.int i,H,I.tok _,⟨_,rfl⟩,h⟩
theorem bn8 {b j pos}:PE X (.Constant (.bool b) j pos) (tC (.bl b)):=fun _ _ _ H _ I h=>Constant_bool ⟨.bl b,H,I,rfl,h⟩
theorem Q6 {j pos}:PE X (.Constant .none j pos) (tC .non):=fun _ _ _ H _ I h=>Constant_none ⟨.non,H,I,rfl,h⟩
theorem D8 {x j pos}:PE X (.Constant (.str x) j pos) (tC (.str x)):=fun _ _ _ H _ I h=>Calls.Constant_str ⟨.str x,H,I.tok _,⟨_,rfl⟩,h⟩
def Gl (X:Cx)(x:Str):Prop:=X.env.kindOf x=some .globalImplicit
theorem an5 (I:Inv X pins σ H s)(hg:Gl X x)(hm:X.mg x=some u)(h:Q u s)
  (hd:(x == ("__debug__":Str))=false:=by decide):r6 (o7 X.prog X.w) X.A (eval (.Name x pos) X.env) Q E s :=
 Calls.Name_function_global I.ok.kind hg (Calls.loadGlobal_global (by rw[I.ok.glob];exact I.mod.glob.keeps I.bk) hm h) hd
theorem Y5 (I:Inv X pins σ H s)(hg:Gl X x)(hm:X.mg x=none)(hv:K5 x=some u)(h:Q u s)
  (hn:x≠"__name__":=by decide)(hd:(x == ("__debug__":Str))=false:=by decide):r6 (o7 X.prog X.w) X.A (eval (.Name x pos) X.env) Q E s:=by
 obtain⟨mb,h1,h2⟩:=I.mod.blt
 exact Calls.Name_function_global I.ok.kind hg (Calls.loadGlobal_builtin (by rw[I.ok.glob];exact I.mod.glob.keeps I.bk) hm (by rw[I.ok.blt];exact h1.keeps I.bk) ((h2 x hn).trans hv) h) hd
theorem ab2 {v:V}(hg:Gl X x)(hm:X.mg x=some u)(r:RelV v u)(hd:(x == ("__debug__":Str))=false:=by decide):PE X (.Name x pos) (tC v) :=
 fun _ _ _ H _ I h=>an5 I hg hm ⟨v,H,I,r,h⟩ hd
theorem bz6 {v:V}(hg:Gl X x)(hm:X.mg x=none)(hv:K5 x=some u)(r:RelV v u)(hn:x≠"__name__":=by decide)(hd:(x == ("__debug__":Str))=false:=by decide):PE X (.Name x pos) (tC v) :=
 fun _ _ _ H _ I h=>Y5 I hg hm hv ⟨v,H,I,r,h⟩ hn hd
variable {a b:Expr} {tb:TE}
def tB (t:TE):TT:=fun σ H Q=>t σ H fun x H1=>∃ c,x=.bl c/\Q c H1
theorem aq0 {t:TE}(h:PE X e t)(he:∀ whole,isTrue e X.env whole=(do let v <- whole;standAt e.pos;bc7 [v] (truthy v)):=by intro _;rfl):PT X e (tB t):=by
 intro pins s σ H Q I hw
 refine isTrue_plain (thn (h pins s σ H _ I hw) fun v s1 ⟨x,H1,I1,r1,q1⟩=>?_) (he _)
 obtain⟨d,rfl,q⟩:=q1
 cases r1
 exact N0 ⟨H1,I1,q⟩
variable {tA tB':TT} {rest:List Expr}
def cc3 (t u:TT):TT:=fun σ H Q=>t σ H fun c H1=>if c=true then u σ H1 Q else Q false H1
def tOr (t u:TT):TT:=fun σ H Q=>t σ H fun c H1=>if c=true then Q true H1 else u σ H1 Q
def cb6 (t:TT):TT:=fun σ H Q=>t σ H fun c H1=>Q (!c) H1
theorem am9 (ha:PT X a tA):PW X (.BoolOp .And [a] pos) tA:=by
 intro wh pins s σ H Q I h
 refine isTrue_and (thn (ha pins s σ H Q I h) fun c s1 e=>?_)
 cases c with
 | true=>exact isTrue_and_nil e
 | false=>exact e
theorem ae6 (ha:PT X a tA):PW X (.BoolOp .Or [a] pos) tA:=by
 intro wh pins s σ H Q I h
 refine isTrue_or (thn (ha pins s σ H Q I h) fun c s1 e=>?_)
 cases c with
 | false=>exact isTrue_or_nil e
 | true=>exact e
theorem ax8 (ha:PT X a tA)(hb:PW X (.BoolOp .And (b::rest) pos) tB'):PW X (.BoolOp .And (a::b::rest) pos) (cc3 tA tB'):=by
 intro wh pins s σ H Q I h
 refine isTrue_and (thn (ha pins s σ H _ I h) fun c s1 ⟨H1,I1,q1⟩=>?_)
 cases c with
 | true=>exact hb wh pins s1 σ H1 Q I1 q1
 | false=>exact⟨H1,I1,q1⟩
theorem as6 (ha:PT X a tA)(hb:PW X (.BoolOp .Or (b::rest) pos) tB'):PW X (.BoolOp .Or (a::b::rest) pos) (tOr tA tB'):=by
 intro wh pins s σ H Q I h
 refine isTrue_or (thn (ha pins s σ H _ I h) fun c s1 ⟨H1,I1,q1⟩=>?_)
 cases c with
 | true=>exact⟨H1,I1,q1⟩
 | false=>exact hb wh pins s1 σ H1 Q I1 q1
theorem T6 (ha:PT X a tA):PT X (.UnaryOp .Not a pos) (cb6 tA):=by
 intro pins s σ H Q I h
 exact isTrue_not (ha pins s σ H (fun c H1=>Q (!c) H1) I h)
def cb5 (ta tb:TE):TE:=fun σ H Q=>ta σ H fun x H1=>∃ c,x=.bl c/\if c=true then Q (.bl true) H1 else tb σ H1 Q
theorem bN1 {op}{t:TE}(h:PE X a t):PE X (.BoolOp op [a] pos) t:=fun pins s σ H Q I hw=>BoolOp_one (h pins s σ H Q I hw)
theorem bX7 (ha:PE X a ta)(hb:PE X (.BoolOp .Or (b::rest) pos) tb):PE X (.BoolOp .Or (a::b::rest) pos) (cb5 ta tb):=by
 intro pins s σ H Q I h
 refine BoolOp_or (thn (ha pins s σ H _ I h) fun v s1 ⟨x,H1,I1,r1,q1⟩=>?_)
 obtain⟨c,rfl,q1⟩:=q1
 cases r1
 refine N0 ?_
 cases c with
 | false=>exact hb pins s1 σ H1 Q I1 q1
 | true=>exact⟨.bl true,H1,I1,rfl,q1⟩
def tIf (t:TT)(ta tb:TE):TE:=fun σ H Q=>t σ H fun c H1=>if c=true then ta σ H1 Q else tb σ H1 Q
theorem an0 {c:Expr}(hc:PT X c tA)(ha:PE X a ta)(hb:PE X b tb):PE X (.IfExp c a b pos) (tIf tA ta tb):=by
 intro pins s σ H Q I h
 refine wpAny_IfExp (thn (hc pins s σ H _ I h) fun d s1 ⟨H1,I1,q1⟩=>?_)
 cases d with
 | true=>exact ha pins s1 σ H1 Q I1 q1
 | false=>exact hb pins s1 σ H1 Q I1 q1
end
def SqL (K:W.Frag)(H:Hp)(a:Addr)(xs:List V):Prop:=
 Rd H a (.lst xs) \/
  ∃ (o:Obj) (its:Array Value) (n:Nat),K.lookup a=some o/\o.cls=.type "list"/\o.dict=none/\o.data=.seq its n/\its.size<=f6/\A8 xs its.toList
def SqT (K:W.Frag)(H:Hp)(a:Addr)(xs:List V):Prop:=
 Rd H a (.tup xs) \/
  ∃ (o:Obj) (its:Array Value) (n:Nat),K.lookup a=some o/\o.cls=.type "tuple"/\o.data=.seq its n/\its.size<=f6/\A8 xs its.toList
def ce4:Value->Option V
 | .none=>some .non
 | .bool b=>some (.bl b)
 | .int i _=>some (.int i)
 | .str x _=>some (.str x)
 | .bytes b _=>some (.byt b)
 | .float b _=>some (.flt b)
 | .ref a=>some (.ref a)
 | .type n=>some (.ty n)
 | _=>none
theorem RelV.abs {x:V}(r:RelV x u):ce4 u=some x:=by
 cases x with
 | non=>cases r;rfl
 | bl _=>cases r;rfl
 | int _=>obtain⟨t,rfl⟩:=r;rfl
 | str _=>obtain⟨t,rfl⟩:=r;rfl
 | byt _=>obtain⟨t,rfl⟩:=r;rfl
 | flt _=>obtain⟨t,rfl⟩:=r;rfl
 | ref _=>cases r;rfl
 | ty _=>cases r;rfl
theorem RelV.inj {x y:V}(r:RelV x u)(q:RelV y u):x=y:=Option.some.inj (r.abs.symm.trans q.abs)
theorem A8.inj:∀ {xs ys:List V} {us:List Value},A8 xs us->A8 ys us->xs=ys
 | _,_,_,.nil,.nil=>rfl
 | _,_,_,.cons r t,.cons r' t'=>by rw[r.inj r',A8.inj t t']
section
variable {xs:List V}
theorem SqL.of {K:W.Frag}(h:H a=some (.lst xs)):SqL K H a xs:=.inl (.inl h)
theorem SqT.of {K:W.Frag}(h:H a=some (.tup xs)):SqT K H a xs:=.inl (.inl h)
theorem Inv.list (I:Inv X pins σ H s)(h:SqL X.K H a xs):∃ its:List Value,A8 xs its/\PlainL s.heap a its.toArray/\xs.length<=f6:=by
 rcases h with h | ⟨o,its,n,hk,hc,hd,hs,hz,r⟩
 ·obtain⟨z,its,n,r,e⟩:=h.ok I.hok
  exact⟨its,r,⟨_,n,e,rfl,rfl,rfl⟩,z⟩
 ·refine⟨its.toList,r,⟨o,n,I.kIn a o hk,hc,hd,by simpa using hs⟩,?_⟩
  have e:=r.length
  simp only[j3]at e
  omega
theorem Inv.tuple (I:Inv X pins σ H s)(h:SqT X.K H a xs):∃ its:List Value,A8 xs its/\IsTup s.heap a its.toArray/\xs.length<=f6:=by
 rcases h with h | ⟨o,its,n,hk,hc,hs,hz,r⟩
 ·obtain⟨z,its,r,p⟩:=h.ok I.hok
  exact⟨its,r,p,z⟩
 ·refine⟨its.toList,r,⟨o,I.kIn a o hk,hc,n,by simpa using hs⟩,?_⟩
  have e:=r.length
  simp only[j3]at e
  omega
theorem Inv.list_inj (I:Inv X pins σ H s)(h:SqL X.K H a xs)(h':SqL X.K H a ys):xs=ys:=by
 obtain⟨its,r,⟨o,n,e,_,_,d⟩,_⟩:=I.list h
 obtain⟨its',r',⟨o',n',e',_,_,d'⟩,_⟩:=I.list h'
 rw[e]at e';cases e'
 rw[d]at d'
 injection d' with d1 _
 have:its=its':=by simpa using congrArg Array.toList d1
 subst this
 exact r.inj r'
theorem Inv.tuple_inj (I:Inv X pins σ H s)(h:SqT X.K H a xs)(h':SqT X.K H a ys):xs=ys:=by
 obtain⟨its,r,⟨o,e,_,n,d⟩,_⟩:=I.tuple h
 obtain⟨its',r',⟨o',e',_,n',d'⟩,_⟩:=I.tuple h'
 rw[e]at e';cases e'
 rw[d]at d'
 injection d' with d1 _
 have:its=its':=by simpa using congrArg Array.toList d1
 subst this
 exact r.inj r'
end
abbrev Cx.wish (X:Cx)(E:Value->Shared->Prop):Cx:={ X with xe:=E }
abbrev Cx.nox (X:Cx):Cx:=X.wish fun _ _=>False
theorem Cx.Ok.wish (ok:X.Ok)(E:Value->Shared->Prop):(X.wish E).Ok:=
 ⟨ok.mod,ok.kind,ok.glob,ok.blt,ok.above,ok.inj,ok.has,ok.cab,ok.hd,ok.frames,ok.stk,ok.exf,ok.bs,ok.bsz,ok.noex,ok.exfs,ok.funs,ok.frf⟩
theorem Cx.Ok.unwish (ok:(X.wish E).Ok):X.Ok:=
 ⟨ok.mod,ok.kind,ok.glob,ok.blt,ok.above,ok.inj,ok.has,ok.cab,ok.hd,ok.frames,ok.stk,ok.exf,ok.bs,ok.bsz,ok.noex,ok.exfs,ok.funs,ok.frf⟩
theorem Inv.wish (I:Inv X pins σ H s)(E:Value->Shared->Prop):Inv (X.wish E) pins σ H s:=⟨I.ok.wish E,I.os,I.bare,I.base,I.loc,I.cell,I.free,I.freeC,I.pin,I.hok,I.len⟩
theorem Inv.unwish (I:Inv (X.wish E) pins σ H s):Inv X pins σ H s:=⟨I.ok.unwish,I.os,I.bare,I.base,I.loc,I.cell,I.free,I.freeC,I.pin,I.hok,I.len⟩
theorem SP.unwish {D:Ends}{f:Flow}{s':Shared}(h:SP (X.wish E) pins D f s'):SP X pins D f s':=by
 cases f with
 | next=>obtain⟨σ',H',I,q⟩:=h;exact⟨σ',H',I.unwish,q⟩
 | brk=>obtain⟨σ',H',I,q⟩:=h;exact⟨σ',H',I.unwish,q⟩
 | cont=>obtain⟨σ',H',I,q⟩:=h;exact⟨σ',H',I.unwish,q⟩
 | ret u=>obtain⟨v,σ',H',I,r,q⟩:=h;exact⟨v,σ',H',I.unwish,r,q⟩
theorem PSs.nox {st:List Stmt}{t:TS}(h:PSs X.nox st t):PSs X st t:=fun pins s σ H D I hw =>
 B6 (h pins s σ H D (I.wish _) hw) (fun _ _ q=>q.unwish) fun _ _ z=>False.elim z
section
variable {st:Stmt} {rest:List Stmt} {t u:TS}
def bV1:TS:=fun D σ H=>D.nx σ H
def cb3 (t u:TS):TS:=fun D σ H=>t { D with nx:=u D } σ H
theorem A6:PSs X [] bV1:=fun _ _ σ H _ I h=>ac7 ⟨σ,H,I,h⟩
theorem d7 (h1:PS X st t)(h2:PSs X rest u):PSs X (st::rest) (cb3 t u):=by
 intro pins s σ H D I h
 refine aS8 (thn (h1 pins s σ H { D with nx:=u D } I h) fun f s1 q=>?_)
 cases f with
 | next =>
  obtain⟨σ',H',I',q⟩:=q
  exact h2 pins s1 σ' H' D I' q
 | ret v=>exact q
 | brk=>exact q
 | cont=>exact q
theorem j7 (h1:PS X st t):PSs X [st] t:=by
 intro pins s σ H D I h
 refine aS8 (thn (h1 pins s σ H D I h) fun f s1 q=>?_)
 cases f with
 | next=>exact ac7 q
 | ret v=>exact q
 | brk=>exact q
 | cont=>exact q
theorem Inv.quiet (I:Inv X pins σ H s):interactive X.env=false:=by simp[interactive,I.ok.kind]
def bV3 (te:TE):TS:=fun D σ H=>te σ H fun _ H1=>D.nx σ H1
theorem X1 (he:PE X e te)(hs:bI8 e none pos.line X.env=pure false:=by rfl):PS X (.Expr e pos) (bV3 te):=by
 intro pins s σ H D I h
 exact wpAny_Expr_any (thn (he pins s σ H _ I h) fun v s1 ⟨x,H1,I1,r1,q1⟩=>⟨σ,H1,I1,q1⟩) I.quiet hs
def cb4 (te:TE):TS:=fun D σ H=>te σ H D.rt
theorem u4 (he:PE X e te):PS X (.Return (some e) pos) (cb4 te):=by
 intro pins s σ H D I h
 exact wpAny_Return_some (thn (he pins s σ H _ I h) fun v s1 ⟨x,H1,I1,r1,q1⟩=>⟨x,σ,H1,I1,r1,q1⟩)
def cb8 (c:TT)(t u:TS):TS:=fun D σ H=>c σ H fun b H1=>if b=true then t D σ H1 else u D σ H1
theorem E5 {c:Expr}{a b:List Stmt}{tc:TT}(hc:PT X c tc)(ha:PSs X a t)(hb:PSs X b u):PS X (.If c a b pos) (cb8 tc t u):=by
 intro pins s σ H D I h
 refine wpAny_If (thn (hc pins s σ H _ I h) fun d s1 ⟨H1,I1,q1⟩=>?_)
 cases d with
 | true=>exact ha pins s1 σ H1 D I1 q1
 | false=>exact hb pins s1 σ H1 D I1 q1
def bL1:TS:=fun _ _ _=>False
theorem M4 {sts:List Stmt}:PSs X sts bL1:=fun _ _ _ _ _ _ h=>h.elim
end
abbrev TG:=V->St->Hp->(St->Hp->Prop)->Prop
abbrev TGs:=List V->St->Hp->(St->Hp->Prop)->Prop
def PG (X:Cx)(target:Expr)(t:TG):Prop:=
 ∀ (pins:List (Addr × Obj)) (s:Shared) (σ:St) (H:Hp) (v:V) (u:Value) (Q:St->Hp->Prop),Inv X pins σ H s->RelV v u->t v σ H Q ->
  r6 (o7 X.prog X.w) X.A (aS4 target X.env u) (fun _ s'=>∃ σ' H',Inv X pins σ' H' s'/\Q σ' H') X.xe s
def PGs (X:Cx)(ts:List Expr)(t:TGs):Prop:=
 ∀ (pins:List (Addr × Obj)) (s:Shared) (σ:St) (H:Hp) (vs:List V) (us:List Value) (Q:St->Hp->Prop),Inv X pins σ H s->A8 vs us->t vs σ H Q ->
  r6 (o7 X.prog X.w) X.A (assignInOrder ((ac1 ts X.env).map (·.2)) us) (fun _ s'=>∃ σ' H',Inv X pins σ' H' s'/\Q σ' H') X.xe s
abbrev bR5:=V->V->V->Hp->(Hp->Prop)->Prop
def cb0 (X:Cx)(t:bR5):Prop:=
 ∀ (pins:List (Addr × Obj)) (s:Shared) (σ:St) (H:Hp) (o i v:V) (ov iv u:Value) (Q:Hp->Prop),Inv X pins σ H s->RelV o ov->RelV i iv->RelV v u->t o i v H Q ->
  r6 (o7 X.prog X.w) X.A (setItem ov iv u) (fun _ s'=>∃ H',Inv X pins σ H' s'/\Q H') X.xe s
abbrev TIp:=V->V->Hp->VK->Prop
def PIp (X:Cx)(op:Operator)(t:TIp):Prop:=
 ∀ (pins:List (Addr × Obj)) (s:Shared) (σ:St) (H:Hp) (x y:V) (v u:Value) (Q:VK),Inv X pins σ H s->RelV x v->RelV y u->t x y H Q ->
  r6 (o7 X.prog X.w) X.A (inplaceOp op v u) (EP X pins σ Q) X.xe s
def aQ1 (i:Nat):TG:=fun v σ H Q=>Q (σ.set i (some v)) H
theorem A2 (hN:X.N.Nodup)(hi:X.N[i]?=some x)(hx:Loc X.env.scope x)(hf:X.fn x=true\/X.env.scope.names.lookup x=some .local:=by first | exact .inl rfl | exact .inr rfl | assumption):PG X (.Name x pos) (aQ1 i):=by
 intro pins s σ H v u Q I r h
 exact aK7 (aw7 I hN hi hx r (fun s' I'=>⟨_,H,I',h⟩) hf)
def ce1:TGs:=fun vs σ H Q=>vs=[]/\Q σ H
def ca3 (t:TG)(u:TGs):TGs:=fun vs σ H Q=>∃ v r,vs=v::r/\t v σ H fun σ' H'=>u r σ' H' Q
theorem aH9:PGs X [] ce1:=by
 intro pins s σ H vs us Q I r h
 obtain⟨e,h⟩:=h
 subst e
 cases r
 exact assignInOrder_nil ⟨σ,H,I,h⟩
theorem Z4 {es:List Expr}{t:TG}{u:TGs}(h1:PG X e t)(h2:PGs X es u)
  (hs:(ac1 (e::es) X.env).map (·.2)=aS4 e X.env::(ac1 es X.env).map (·.2):=by rfl):PGs X (e::es) (ca3 t u):=by
 intro pins s σ H vs us Q I r h
 obtain⟨v,vr,e1,h⟩:=h
 subst e1
 cases r with
 | cons r rr =>
  rw[hs]
  refine assignInOrder_cons (thn (h1 pins s σ H _ _ _ I r h) fun _ s1 ⟨σ1,H1,I1,q1⟩=>?_)
  exact h2 pins s1 σ1 H1 _ _ Q I1 rr q1
def ca2 (K:W.Frag)(n:Nat)(t:TGs):TG:=fun v σ H Q=>∃ a xs,v=.ref a/\SqT K H a xs/\xs.length=n/\t xs σ H Q
theorem bn4 {es:List Expr}{k:Nat}{t:TGs}(hc:X.calm=true)(h:PGs X es t)
  (hn:(ac1 es X.env).length=n:=by rfl)(hst:(ac1 es X.env).findIdx? (·.1)=none:=by rfl):PG X (.Tuple es k pos) (ca2 X.K n t):=by
 intro pins s σ H v u Q I r hw
 obtain⟨a,xs,e1,hq,hl,hw⟩:=hw
 subst e1
 cases r
 obtain⟨its,rv,ht,hz⟩:=I.tuple hq
 refine assign_Tuple_tuple (I.ok.hd hc) ht (by simp[hn,<- hl,rv.length]) hst fun h' hx=>?_
 have I1:Inv X pins σ H { s with heap:=h' }:=I.kept (t':=s.toks) fun b o e=>hx b o (k7 (f9 e)) e
 exact h pins _ σ H xs _ Q I1 (by simpa using rv) hw
def ce0 (to ti:TE)(t:bR5):TG:=fun v σ H Q=>to σ H fun o H1=>ti σ H1 fun i H2=>t o i v H2 fun H3=>Q σ H3
theorem aq3 {o i:Expr} {to ti:TE} {t:bR5} (ho:PE X o to) (hi:PE X i ti) (hs:cb0 X t)
  (ha : ∀ v, aS4 (.Subscript o i pos) X.env v = (do
   let ov <- bc7 [v] (eval o X.env)
   let iv <- bc7 [v,ov] (eval i X.env)
   standAt pos
   bc7 [v,ov,iv] (setItem ov iv v)
   release [v,ov,iv] []):=by intro _;rfl):PG X (.Subscript o i pos) (ce0 to ti t):=by
 intro pins s σ H v u Q I r h
 rw[ha]
 refine a7 (D9 (thn (ho pins s σ H _ I h) fun ov s1 ⟨x,H1,I1,r1,q1⟩=>?_))
 refine a7 (D9 (thn (hi pins s1 σ H1 _ I1 q1) fun iv s2 ⟨y,H2,I2,r2,q2⟩=>?_))
 refine a7 (U2 (a7 (D9 (thn (hs pins s2 σ H2 x y v ov iv u _ I2 r1 r2 r q2) fun _ s3 ⟨H3,I3,q3⟩=>?_))))
 exact wpAny_release ⟨σ,H3,I3,q3⟩
def bV5 (te:TE)(g:TG):TS:=fun D σ H=>te σ H fun x H1=>g x σ H1 D.nx
theorem aq1 {g:TG}(he:PE X e te)(hg:PG X tg g)(hs:swapsWithSole [tg] e pos.line X.env=pure false:=by rfl)(hw:swappedStores [tg] e X.env=pure none:=by rfl)
  (h1:(ac1 [tg] X.env).map (·.2)=[aS4 tg X.env]:=by rfl):PS X (.Assign [tg] e pos) (bV5 te g):=by
 intro pins s σ H D I h
 refine wpAny_Assign_stores (thn (he pins s σ H _ I h) fun v s1 ⟨x,H1,I1,r1,q1⟩=>?_) hs hw
 rw[h1]
 exact thn (hg pins s1 σ H1 x v _ I1 r1 q1) fun _ s2 q=>q
theorem u7 {pos':Pos}(hN:X.N.Nodup)(hi:X.N[i]?=some x)(hx:Loc X.env.scope x)(he:PE X e te)(hs:bI8 e (some (.Name x pos')) pos.line X.env=pure false:=by rfl)(hf:X.fn x=true\/X.env.scope.names.lookup x=some .local:=by first | exact .inl rfl | exact .inr rfl | assumption) :
  PS X (.Assign [.Name x pos'] e pos) (bV5 te (aQ1 i)):=by
 intro pins s σ H D I h
 refine wpAny_Assign_Name (thn (he pins s σ H _ I h) fun v s1 ⟨y,H1,I1,r1,q1⟩=>?_) hs
 exact aw7 I1 hN hi hx r1 (fun s2 I2=>⟨_,H1,I2,q1⟩) hf
def cc2 (i:Nat)(te:TE)(ti:TIp):TS:=fun D σ H=>∃ x,σ[i]?=some (some x)/\te σ H fun y H1=>ti x y H1 fun z H2=>D.nx (σ.set i (some z)) H2
theorem bM9 {op:Operator}{ti:TIp}{pos':Pos}(hN:X.N.Nodup)(hi:X.N[i]?=some x)(hx:Loc X.env.scope x)(he:PE X e te)(ho:PIp X op ti)(hf:X.fn x=true\/X.env.scope.names.lookup x=some .local:=by first | exact .inl rfl | exact .inr rfl | assumption) :
  PS X (.AugAssign (.Name x pos') op e pos) (cc2 i te ti):=by
 intro pins s σ H D I h
 obtain⟨v,e1,h⟩:=h
 obtain⟨m,hn,hl⟩:=I.loc
 have vis:Vis X.env.scope x:=by rcases hx with k | k;exact .inl k;exact .inr (.inl k)
 obtain⟨u,r,l⟩:=hl i x v hi e1 vis
 refine wpAny_AugAssign_Name ?_
 have go:r6 (o7 X.prog X.w) X.A (eval e X.env) (fun w s₂=>r6 (o7 X.prog X.w) X.A (inplaceOp op u w) (fun r s₃=>r6 (o7 X.prog X.w) X.A (storeName X.env x r) (fun _=>SP X pins D .next) X.xe s₃) X.xe s₂) X.xe s:=by
  refine thn (he pins s σ H _ I h) fun w s1 ⟨y,H1,I1,r1,q1⟩=>?_
  refine thn (ho pins s1 σ H1 v y u w _ I1 r r1 q1) fun z s2 ⟨zv,H2,I2,r2,q2⟩=>?_
  exact aw7 I2 hN hi hx r2 (fun s3 I3=>⟨_,H2,I3,q2⟩) hf
 rcases l with⟨hk,hm⟩ | ⟨hk,c,hc,hcell⟩
 ·exact bS8 I.ok.kind hk hn hm go
 ·rcases hk with hk | hk
  ·exact bT7 I.ok.kind hk hc hcell go
  ·rcases hx with k | k
   ·have:X.env.scope.names.lookup x=some .free:=hk
    rw[k]at this;cases this
   ·have:X.env.scope.names.lookup x=some .free:=hk
    rw[k]at this;cases this
def bK7 (c:TT)(tb:TS):TS:=fun D σ H=>∃ W:Nat->St->Hp->Prop,(∃ m,W m σ H)/\∀ m σ H,W m σ H ->
 c σ H fun b H1=>if b=true then ∃ N:St->Hp->Prop,(∀ σ' H',N σ' H'->∃ m',m'<m/\W m' σ' H')/\tb { D with nx:=N,ct:=N,bk:=D.nx } σ H1 else D.nx σ H1
theorem aN5 {c:Expr}{body:List Stmt}{tc:TT}{tb:TS}(hp:PassesOwn (o7 X.prog X.w) X.A X.env X.xe)(hc:PT X c tc)(hb:PSs X body tb):PS X (.While c body [] pos) (bK7 tc tb):=by
 intro pins s σ H D I h
 obtain⟨W,⟨m0,w0⟩,turn⟩:=h
 refine wpAny_While (codeAny_whileLoop (fun n s'=>∃ σ' H',Inv X pins σ' H' s'/\W n σ' H') ?_ m0 ⟨σ,H,I,w0⟩)
 rintro n s1 ⟨σ1,H1,I1,w1⟩
 refine Q0 hp (thn (hc pins s1 σ1 H1 _ I1 (turn n σ1 H1 w1)) fun b s2 ⟨H2,I2,q2⟩=>?_)
 cases b with
 | true =>
  obtain⟨N,hN,q2⟩:=q2
  rw[if_pos rfl]
  refine Q0 hp (thn (hb pins s2 σ1 H2 _ I2 q2) fun f s3 q3=>?_)
  cases f with
  | next =>
   obtain⟨σ3,H3,I3,n3⟩:=q3
   obtain⟨m',hm,w3⟩:=hN σ3 H3 n3
   exact⟨m',hm,σ3,H3,I3,w3⟩
  | cont =>
   obtain⟨σ3,H3,I3,n3⟩:=q3
   obtain⟨m',hm,w3⟩:=hN σ3 H3 n3
   exact⟨m',hm,σ3,H3,I3,w3⟩
  | brk=>exact q3
  | ret v=>exact q3
 | false =>
  rw[if_neg d4]
  exact ac7 ⟨σ1,H2,I2,q2⟩
structure It where
 go:Nat->Hp->Prop
 yld:Nat->Hp->V->Hp->Prop
 stop:Nat->Hp->Prop
def M7 (X:Cx)(pins:List (Addr × Obj))(H:Hp)(b:Addr):Prop:=
 H b=none/\b≠X.env.locals/\b∉X.fs/\(b∈X.ex\/X.s₀.heap.objs.size<=b)/\(∀ x c,X.env.cells.lookup x=some c->c≠b)/\∀ p∈X.pn++pins,p.1≠b
theorem Inv.fpOk {b:Addr}(I:Inv X pins σ H s)(hb:s.heap.objs.size<=b)(hn:H' b=none):M7 X pins H' b:=by
 refine⟨hn,S4 (n6 I.lt hb),I.nofs hb,.inr (p9 I.sz hb),fun x c e z=>?_,fun p hp z=>?_⟩
 ·obtain⟨v,q⟩:=I.cell x c e
  exact absurd (n6 q.lt (by rw[z];exact hb)) (C2 _)
 ·exact absurd (n6 (f9 (I.pin p hp).1) (by rw[z];exact hb)) (C2 _)
structure Turn (P:Program) (w:World) (K:W.Frag) (tg:Expr) (J:It) (fp:List Addr) (it:Addr) (tn:Nat->Heap->Prop):Prop where
 mem:it∈fp
 obj:∀ i h,tn i h->∀ b∈fp,∃ o,h.get? b=some o/\∀ v,o.data≠.cell v
 keep:∀ i h h',tn i h->(∀ b∈fp,∀ o,h.get? b=some o->h'.get? b=some o)->tn i h'
 item:∀ (X:Cx),X.prog=P->X.w=w->X.K=K->X.calm=true->∀ (i:Nat) (pins:List (Addr × Obj)) (s:Shared) (σ:St) (H:Hp) (E:Value->Shared->Prop),Inv X pins σ H s->(∀ b∈fp,M7 X pins H b)->tn i s.heap->J.go i H ->
  r6 (o7 P w) X.A (pyNext (.ref it)) (fun r s1=>∃ u,r=some u /\
   r6 (o7 P w) X.A (bc8 tg (.ref it) u) (fun _ s2=>∃ x H',Inv X pins σ H' s2/\RelV x u/\J.yld i H x H'/\tn (i+1) s2.heap/\∀ b∈fp,H' b=none) E s1) E s
 done:∀ (X:Cx),X.prog=P->X.w=w->X.K=K->X.calm=true->∀ (i:Nat) (pins:List (Addr × Obj)) (s:Shared) (σ:St) (H:Hp) (E:Value->Shared->Prop),Inv X pins σ H s->(∀ b∈fp,M7 X pins H b)->tn i s.heap->J.stop i H ->
  r6 (o7 P w) X.A (pyNext (.ref it)) (fun r s1=>r=none/\Inv X pins σ H s1) E s
 self:∀ (A:Around) (i:Nat) (s:Shared) (Q:Value->Shared->Prop) (E:Value->Shared->Prop),tn i s.heap->Q (.ref it) s->r6 (o7 P w) A (pyIter (.ref it)) Q E s
abbrev TI:=St->Hp->(It->Hp->Prop)->Prop
def PIE (X:Cx)(pins:List (Addr × Obj))(σ:St)(tg:Expr)(R:It->Hp->Prop)(itv:Value)(s2:Shared):Prop:=
 ∃ (it:Addr) (fp:List Addr) (tn:Nat->Heap->Prop) (J:It) (H':Hp),itv=.ref it/\Inv X pins σ H' s2/\Turn X.prog X.w X.K tg J fp it tn/\tn 0 s2.heap/\(∀ b∈fp,M7 X pins H' b)/\R J H'
def PI (X:Cx)(tg iter:Expr)(wi:TI):Prop:=
 ∀ (pins:List (Addr × Obj)) (s:Shared) (σ:St) (H:Hp) (R:It->Hp->Prop),Inv X pins σ H s->wi σ H R ->
  r6 (o7 X.prog X.w) X.A (eval iter X.env) (fun v s1=>r6 (o7 X.prog X.w) X.A (pyIter v) (PIE X pins σ tg R) X.xe s1) X.xe s
theorem aP9 {it:Addr} {o:Obj} {n:String} {vs:Array Value} {Q:Unit->Shared->Prop} (ho:s.heap.get? it=some o) (hc:o.cls=.type n) (hd:o.data=.fields vs)
    (hn:["enumerate","zip","dict_itemiterator","dict_reverseitemiterator","odict_iterator","itertools.zip_longest","itertools.pairwise"].contains n=false) (hQ:Q () s):r6 M A (bc8 tg (.ref it) u) Q E s:=by
  unfold bc8
  cases tg<;>first
    | exact i8 hQ
    | (cases u<;>first
        | exact i8 hQ
        | (refine a7 (wpAny_load ho ?_)
           rw[hc,hd]
           show r6 M A (if (["enumerate","zip","dict_itemiterator","dict_reverseitemiterator","odict_iterator","itertools.zip_longest","itertools.pairwise"].contains n && vs[0]? == some (aj5 _))=true then _ else _) Q E s
           rw[if_neg (by intro h;rw[hn,B9]at h;cases h)]
           exact i8 hQ))
def Itl (K:W.Frag)(a:Addr):It:=
 ⟨fun i H=>∃ xs x,SqL K H a xs/\xs[i]?=some x,fun i H x H'=>H'=H/\∀ xs,SqL K H a xs->xs[i]?=some x,fun i H=>∃ xs,SqL K H a xs/\xs.length<=i⟩
def Itt (K:W.Frag)(a:Addr):It:=
 ⟨fun i H=>∃ xs x,SqT K H a xs/\xs[i]?=some x,fun i H x H'=>H'=H/\∀ xs,SqT K H a xs->xs[i]?=some x,fun i H=>∃ xs,SqT K H a xs/\xs.length<=i⟩
def Itr (lo:Int)(n:Nat):It:=⟨fun i _=>i<n,fun i H x H'=>H'=H/\x=.int (lo+i),fun i _=>n<=i⟩
theorem be1 {K:W.Frag}(a it:Addr):Turn P w K tg (Itl K a) [it] it (fun i h=>h.IsListIter it a i) where
 mem:=by simp
 obj:=fun i h st b hb=>by
  have e:b=it:=by simpa using hb
  subst e
  obtain⟨o,e,c,d⟩:=st
  exact⟨o,e,fun v z=>by rw[d]at z;cases z⟩
 keep:=fun i h h' st k=>st.at fun o e=>k it (by simp) o e
 item:=by
  intro X hP hw hK hc i pins s σ H E I hf st hg
  subst hP hw hK
  obtain⟨xs,x,hq,hx⟩:=hg
  obtain⟨its,rv,p,hz⟩:=I.list hq
  obtain⟨u,hu,ru⟩:=rv.get hx
  obtain⟨f0,f1,f2,f3,f4,f5⟩:=hf it (by simp)
  refine wpAny_pyNext_list_item st p.isList (x:=u) (by simpa using hu) fun h' st' sb=>?_
  have I1:Inv X pins σ H { s with heap:=h' }:=I.turned (t':=s.toks) (fun b o hb e=>(sb.2 b hb).trans e) f0 f1 f3 f4 f5
  obtain⟨o,e,c,d⟩:=id st'
  exact⟨u,rfl,aP9 (s:={ s with heap:=h' }) e c d (by decide) ⟨x,H,I1,ru,⟨rfl,fun ys hy=>by rw[I.list_inj hy hq];exact hx⟩,st',fun b hb=>(hf b hb).1⟩⟩
 done:=by
  intro X hP hw hK hc i pins s σ H E I hf st hg
  subst hP hw hK
  obtain⟨xs,hq,hx⟩:=hg
  obtain⟨its,rv,p,hz⟩:=I.list hq
  obtain⟨f0,f1,f2,f3,f4,f5⟩:=hf it (by simp)
  have hl:=rv.length
  exact wpAny_pyNext_list_end (I.ok.hd hc) st p.isList (by simp;omega) fun h' eb=>⟨rfl,I.turned (t':=s.toks) (fun b o hb e=>eb b o hb e) f0 f1 f3 f4 f5⟩
 self:=fun _ _ _ _ _ st h=>wpAny_pyIter_listiter st h
theorem aT3 {K:W.Frag}(a it:Addr):Turn P w K tg (Itt K a) [it] it (fun i h=>h.IsTupleIter it a i) where
 mem:=by simp
 obj:=fun i h st b hb=>by
  have e:b=it:=by simpa using hb
  subst e
  obtain⟨o,e,c,d⟩:=st
  exact⟨o,e,fun v z=>by rw[d]at z;cases z⟩
 keep:=fun i h h' st k=>st.at fun o e=>k it (by simp) o e
 item:=by
  intro X hP hw hK hc i pins s σ H E I hf st hg
  subst hP hw hK
  obtain⟨xs,x,hq,hx⟩:=hg
  obtain⟨its,rv,p,hz⟩:=I.tuple hq
  obtain⟨u,hu,ru⟩:=rv.get hx
  obtain⟨f0,f1,f2,f3,f4,f5⟩:=hf it (by simp)
  refine wpAny_pyNext_tuple_item st (show s.heap.IsTuple a its.toArray from p) (x:=u) (by simpa using hu) fun h' st' sb=>?_
  have I1:Inv X pins σ H { s with heap:=h' }:=I.turned (t':=s.toks) (fun b o hb e=>(sb.2 b hb).trans e) f0 f1 f3 f4 f5
  obtain⟨o,e,c,d⟩:=id st'
  exact⟨u,rfl,aP9 (s:={ s with heap:=h' }) e c d (by decide) ⟨x,H,I1,ru,⟨rfl,fun ys hy=>by rw[I.tuple_inj hy hq];exact hx⟩,st',fun b hb=>(hf b hb).1⟩⟩
 done:=by
  intro X hP hw hK hc i pins s σ H E I hf st hg
  subst hP hw hK
  obtain⟨xs,hq,hx⟩:=hg
  obtain⟨its,rv,p,hz⟩:=I.tuple hq
  obtain⟨f0,f1,f2,f3,f4,f5⟩:=hf it (by simp)
  have hl:=rv.length
  exact wpAny_pyNext_tuple_end (I.ok.hd hc) st (show s.heap.IsTuple a its.toArray from p) (by simp;omega) fun h' eb=>⟨rfl,I.turned (t':=s.toks) (fun b o hb e=>eb b o hb e) f0 f1 f3 f4 f5⟩
 self:=fun _ _ _ _ _ st h=>wpAny_pyIter_tupleiter st h
theorem aT4 {K:W.Frag}(it:Addr)(lo:Int)(n:Nat):Turn P w K tg (Itr lo n) [it] it (fun i h=>IsRangeIter h it (lo+(i:Nat)*1) ((n:Int) - (i:Nat)) 1) where
 mem:=by simp
 obj:=fun i h st b hb=>by
  have e:b=it:=by simpa using hb
  subst e
  exact⟨_,st,fun v z=>by
   have z':Data.fields _=Data.cell v:=z
   cases z'⟩
 keep:=fun i h h' st k=>k it (by simp) _ st
 item:=by
  intro X hP hw hK hc i pins s σ H E I hf st hg
  subst hP hw hK
  obtain⟨f0,f1,f2,f3,f4,f5⟩:=hf it (by simp)
  have W:=Walks.range (prog:=X.prog) (w:=X.w) (I.ok.hd hc) it lo 1 n
  refine W.item i s _ _ hg st fun v h' tk hv st' kk=>?_
  obtain⟨t,rfl⟩:=hv
  have I1:Inv X pins σ H { s with heap:=h',toks:=tk }:=I.turned (fun b o hb e=>kk b o (by simpa using hb) e) f0 f1 f3 f4 f5
  refine⟨_,rfl,aP9 (s:={ s with heap:=h',toks:=tk }) (n:="range_iterator") st' rfl rfl (by decide) ⟨.int (lo+i),H,I1,⟨t,?_⟩,⟨rfl,rfl⟩,st',fun b hb=>(hf b hb).1⟩⟩
  rw[N4]
 done:=by
  intro X hP hw hK hc i pins s σ H E I hf st hg
  subst hP hw hK
  obtain⟨f0,f1,f2,f3,f4,f5⟩:=hf it (by simp)
  exact wpAny_pyNext_range_end (I.ok.hd hc) st (by have:n<=i:=hg;omega) fun h' eb=>⟨rfl,I.turned (t':=s.toks) (fun b o hb e=>eb b o hb e) f0 f1 f3 f4 f5⟩
 self:=fun _ _ _ _ _ st h=>wpAny_pyIter_rangeiter st h
def bZ9 (K:W.Frag)(tl:TE):TI:=fun σ H R=>tl σ H fun x H1=>∃ a,x=.ref a/\(∃ xs,SqL K H1 a xs)/\R (Itl K a) H1
def cd8 (K:W.Frag)(tl:TE):TI:=fun σ H R=>tl σ H fun x H1=>∃ a,x=.ref a/\(∃ xs,SqT K H1 a xs)/\R (Itt K a) H1
theorem O8 {l:Expr}{tl:TE}(hl:PE X l tl):PI X tg l (bZ9 X.K tl):=by
 intro pins s σ H R I h
 refine thn (hl pins s σ H _ I h) fun v s1 ⟨x,H1,I1,r1,q1⟩=>?_
 obtain⟨a,e,⟨xs,hq⟩,q⟩:=q1
 subst e
 cases r1
 obtain⟨its,rv,p,hz⟩:=I1.list hq
 refine aK8 p.isList ?_
 refine⟨s1.heap.objs.size,[s1.heap.objs.size],_,_,H1,rfl,I1.kept (t':=s1.toks) fun b o e=>a8 _ e,be1 a _,⟨_,j8 _ rfl,rfl,rfl⟩,fun b hb=>?_,q⟩
 have e:b=s1.heap.objs.size:=by simpa using hb
 subst e
 exact I1.fpOk (c6 _) (I1.hok.fresh (c6 _))
theorem aH8 {l:Expr}{tl:TE}(hl:PE X l tl):PI X tg l (cd8 X.K tl):=by
 intro pins s σ H R I h
 refine thn (hl pins s σ H _ I h) fun v s1 ⟨x,H1,I1,r1,q1⟩=>?_
 obtain⟨a,e,⟨xs,hq⟩,q⟩:=q1
 subst e
 cases r1
 obtain⟨its,rv,p,hz⟩:=I1.tuple hq
 refine ag2 (show s1.heap.IsTuple a its.toArray from p) ?_
 refine⟨s1.heap.objs.size,[s1.heap.objs.size],_,_,H1,rfl,I1.kept (t':=s1.toks) fun b o e=>a8 _ e,aT3 a _,⟨_,j8 _ rfl,rfl,rfl⟩,fun b hb=>?_,q⟩
 have e:b=s1.heap.objs.size:=by simpa using hb
 subst e
 exact I1.fpOk (c6 _) (I1.hok.fresh (c6 _))
theorem aN3 {R:It->Hp->Prop}{lo hi:Int}{t u v:Tok}{tk:Nat}(I:Inv X pins σ H s)(h1:-(2 ^ 62)<=lo)(h2:lo<2 ^ 62)(h3:-(2 ^ 62)<=hi)(h4:hi<2 ^ 62)
  (q:R (Itr lo (hi - lo).toNat) H):r6 (o7 X.prog X.w) X.A (pyIter (.ref s.heap.objs.size)) (PIE X pins σ tg R) E { s with heap:=s.heap.push { cls:=.type "range",data:=.fields #[.int lo t,.int hi u,.int 1 v] },toks:=tk }:=by
 refine wpAny_pyIter_range (IsRange.new ..) (small_one h1 h2 h3 h4) ?_
 have I1:Inv X pins σ H { s with heap:=s.heap.push { cls:=.type "range",data:=.fields #[.int lo t,.int hi u,.int 1 v] },toks:=tk }:=I.kept fun b o e=>a8 _ e
 refine⟨(s.heap.push { cls:=.type "range",data:=.fields #[.int lo t,.int hi u,.int 1 v] }).objs.size,[(s.heap.push { cls:=.type "range",data:=.fields #[.int lo t,.int hi u,.int 1 v] }).objs.size],_,_,H,rfl,
  I1.kept (t':=tk) fun b o e=>a8 _ e,aT4 _ lo (hi - lo).toNat,?_,fun b hb=>?_,q⟩
 ·have e1:lo+((0:Nat):Int)*1=lo:=by simp
  have e2:(((hi - lo).toNat:Nat):Int) - ((0:Nat):Int)=Builtin.Range.rangeSize lo hi 1:=by rw[rangeSize_one];split<;>omega
  show IsRangeIter _ _ (lo+((0:Nat):Int)*1) ((((hi - lo).toNat:Nat):Int) - ((0:Nat):Int)) 1
  rw[e1,e2]
  exact j8 _ rfl
 ·have e:b=(s.heap.push { cls:=.type "range",data:=.fields #[.int lo t,.int hi u,.int 1 v] }).objs.size:=by simpa using hb
  subst e
  exact I1.fpOk (c6 _) (I1.hok.fresh (c6 _))
def bZ8 (ta:TA):TI:=fun σ H R=>ta σ H fun vs H1=>∃ j:Int,vs=[.int j] /\ -(2 ^ 62)<=j/\j<2 ^ 62/\R (Itr 0 j.toNat) H1
def bZ7 (ta:TA):TI:=fun σ H R=>ta σ H fun vs H1=>∃ i j:Int,vs=[.int i,.int j]/\(-(2 ^ 62)<=i/\i<2 ^ 62 /\ -(2 ^ 62)<=j/\j<2 ^ 62)/\R (Itr i (j - i).toNat) H1
theorem O0 {a:Expr}{ta:TA}{p:Pos}(hg:Gl X "range")(hm:X.mg "range"=none)(ha:PA X [a] ta)(hs:A4 [a] X.env=[(false,eval a X.env)]:=by rfl):PI X tg (.Call (.Name "range" p) [a] [] pos) (bZ8 ta):=by
 intro pins s σ H R I h
 refine Call_ (Y5 I hg hm boot_range (PyProof.Rows.callWith_type1 (thn (ha pos pins s σ H _ I h) fun us s1 ⟨vs,H1,I1,r1,q1⟩=>?_) hs rfl))
 obtain⟨j,e,q1,q2,q⟩:=q1
 subst e
 cases r1 with
 | cons r rr =>
  cases rr
  obtain⟨t,rfl⟩:=r
  exact call_range_1 (aN3 I1 (by omega) (by omega) q1 q2 (by simpa using q))
theorem aq2 {a b:Expr}{ta:TA}{p:Pos}(hg:Gl X "range")(hm:X.mg "range"=none)(ha:PA X [a,b] ta)(hs:A4 [a,b] X.env=[(false,eval a X.env),(false,eval b X.env)]:=by rfl)(hs2:A4 [b] X.env=[(false,eval b X.env)]:=by rfl) :
  PI X tg (.Call (.Name "range" p) [a,b] [] pos) (bZ7 ta):=by
 intro pins s σ H R I h
 refine Call_ (Y5 I hg hm boot_range (PyProof.Rows.callWith_type1 (thn (ha pos pins s σ H _ I h) fun us s1 ⟨vs,H1,I1,r1,q1⟩=>?_) (by rw[hs,hs2]) (by rw[hs2];rfl)))
 obtain⟨i,j,e,⟨q1,q2,q3,q4⟩,q⟩:=q1
 subst e
 cases r1 with
 | cons r rr =>
  cases rr with
  | cons r' rr =>
   cases rr
   obtain⟨t,rfl⟩:=r
   obtain⟨t',rfl⟩:=r'
   exact call_range_2 (aN3 I1 q1 q2 q3 q4 q)
def cb9 (wi:TI)(g:TG)(tb:TS):TS:=fun D σ H=>wi σ H fun J H1=>∃ W:Nat->Nat->St->Hp->Prop,(∃ m,W 0 m σ H1)/\∀ i m σ H,W i m σ H ->
 (J.stop i H/\D.nx σ H)\/(J.go i H/\∃ N:St->Hp->Prop,(∀ σ' H',N σ' H'->∃ m',m'<m/\W (i+1) m' σ' H')/\∀ x H',J.yld i H x H'->g x σ H' fun σ2 H2=>tb { D with nx:=N,ct:=N,bk:=D.nx } σ2 H2)
def ae8 (fp:List Addr)(h:Heap):List (Addr × Obj):=fp.filterMap fun b=>(h.get? b).map fun o=>(b,o)
theorem L0 {b:Addr}{o:Obj}(hb:b∈fp)(e:h.get? b=some o):(b,o)∈ae8 fp h:=ac3.mpr ⟨b,hb,by rw[e];rfl⟩
theorem bf5 {p:Addr × Obj}(hp:p∈ae8 fp h):p.1∈fp/\h.get? p.1=some p.2:=by
 obtain⟨b,hb,e⟩:=ac3.mp hp
 cases q:h.get? b with
 | none=>rw[q]at e;cases e
 | some o =>
  rw[q]at e
  have e':(b,o)=p:=Option.some.inj e
  subst e'
  exact⟨hb,q⟩
theorem Inv.pinned (I:Inv X pins σ H s)(hf:∀ b∈fp,M7 X pins H b)(ho:∀ b∈fp,∃ o,s.heap.get? b=some o/\∀ v,o.data≠.cell v):Inv X (pins++ae8 fp s.heap) σ H s:=
 I.pins_of fun p hp=>(u6.mp hp).elim (fun z=>I.pin p (j2 _ z)) fun z=>by
  obtain⟨hb,e⟩:=bf5 z
  obtain⟨f0,f1,f2,_⟩:=hf p.1 hb
  obtain⟨o,e',d⟩:=ho p.1 hb
  rw[e]at e';cases e'
  exact⟨e,f0,f1,f2,d⟩
theorem Inv.unpinned {pl:List (Addr × Obj)}(I:Inv X (pins++pl) σ H s):Inv X pins σ H s:=I.pins_of fun p hp=>I.pin p (j2 _ (D6 _ hp))
theorem V5 {iter:Expr}{body:List Stmt}{wi:TI}{g:TG}{tb:TS}(hp:PassesOwn (o7 X.prog X.w) X.A X.env X.xe)(hc:X.calm=true)(hi:PI X tg iter wi)(hg:PG X tg g)(hb:PSs X body tb)
  (hs:∀ x,Q1 iter X.env x=pure x:=by intro _;rfl):PS X (.For tg iter body [] pos) (cb9 wi g tb):=by
 intro pins s σ H D I h
 refine wpAny_For (thn (hi pins s σ H _ I h) fun v s1 h1=>thn h1 fun itv s2 h2=>?_) hs
 obtain⟨it,fp,tn,J,H2,e,I2,T,st2,f2,W,⟨m0,w0⟩,turn⟩:=h2
 subst e
 have stat:∀ {H':Hp},(∀ b∈fp,H' b=none)->∀ b∈fp,M7 X pins H' b:=fun hn b hb=>⟨hn b hb,(f2 b hb).2⟩
 refine codeAny_forLoop_any (fun n s'=>∃ i σ' H',Inv X pins σ' H' s'/\tn i s'.heap/\(∀ b∈fp,H' b=none)/\W i n σ' H') ?_ m0 ⟨0,σ,H2,I2,st2,fun b hb=>(f2 b hb).1,w0⟩
 rintro n s3 ⟨i,σ3,H3,I3,st3,fr3,w3⟩
 rcases turn i n σ3 H3 w3 with⟨stop,qn⟩ | ⟨go,N,hN,step⟩
 ·refine Q0 hp (thn (T.done X rfl rfl rfl hc i pins s3 σ3 H3 X.xe I3 (stat fr3) st3 stop) fun r s4 ⟨hr,I4⟩=>?_)
  subst hr
  exact ac7 ⟨σ3,H3,I4,qn⟩
 ·refine Q0 hp (thn (T.item X rfl rfl rfl hc i pins s3 σ3 H3 X.xe I3 (stat fr3) st3 go) fun r s4 ⟨u,hr,h4⟩=>?_)
  subst hr
  refine Q0 hp (thn h4 fun _ s5 ⟨x,H5,I5,r5,y5,st5,fr5⟩=>?_)
  have I5':=I5.pinned (stat fr5) (T.obj _ _ st5)
  refine Q0 hp (thn (hg _ s5 σ3 H5 x u _ I5' r5 (step x H5 y5)) fun _ s6 ⟨σ6,H6,I6,q6⟩=>?_)
  refine Q0 hp (thn (hb _ s6 σ6 H6 _ I6 q6) fun f s7 q7=>?_)
  have bc9:∀ {σ7:St} {H7:Hp},Inv X (pins++ae8 fp s5.heap) σ7 H7 s7->N σ7 H7->∃ m,m<n/\∃ i σ' H',Inv X pins σ' H' s7/\tn i s7.heap/\(∀ b∈fp,H' b=none)/\W i m σ' H':=fun {σ7 H7} I7 n7=>by
   obtain⟨m',hm,w7⟩:=hN σ7 H7 n7
   refine⟨m',hm,i+1,σ7,H7,I7.unpinned,T.keep _ _ _ st5 fun b hb o e=>(I7.pin (b,o) (j2 _ (j2 _ (L0 hb e)))).1,fun b hb=>?_,w7⟩
   obtain⟨o,e,d⟩:=T.obj _ _ st5 b hb
   exact(I7.pin (b,o) (j2 _ (j2 _ (L0 hb e)))).2.1
  cases f with
  | next=>obtain⟨σ7,H7,I7,n7⟩:=q7;exact bc9 I7 n7
  | cont=>obtain⟨σ7,H7,I7,n7⟩:=q7;exact bc9 I7 n7
  | brk=>obtain⟨σ7,H7,I7,q7⟩:=q7;exact⟨σ7,H7,I7.unpinned,q7⟩
  | ret v=>obtain⟨x7,σ7,H7,I7,r7,q7⟩:=q7;exact⟨x7,σ7,H7,I7.unpinned,r7,q7⟩
theorem br3 {K:W.Frag}{xs:List V}{g:TG}{tb:TS}{D:Ends}(Pv:Nat->St->Hp->Prop)(h0:Pv 0 σ H)(hl:∀ i σ H,i<=xs.length->Pv i σ H->SqL K H a xs)
  (hs:∀ i x σ H,xs[i]?=some x->Pv i σ H->g x σ H fun σ2 H2=>tb { D with nx:=Pv (i+1),ct:=Pv (i+1),bk:=D.nx } σ2 H2)(hd:∀ σ H,Pv xs.length σ H->D.nx σ H) :
  ∃ W:Nat->Nat->St->Hp->Prop,(∃ m,W 0 m σ H)/\∀ i m σ H,W i m σ H ->
   ((Itl K a).stop i H/\D.nx σ H)\/((Itl K a).go i H/\∃ N:St->Hp->Prop,(∀ σ' H',N σ' H'->∃ m',m'<m/\W (i+1) m' σ' H')/\∀ x H',(Itl K a).yld i H x H'->g x σ H' fun σ2 H2=>tb { D with nx:=N,ct:=N,bk:=D.nx } σ2 H2):=by
 refine⟨fun i m σ H=>m=xs.length - i/\i<=xs.length/\Pv i σ H,⟨xs.length,by simp,o6 _,h0⟩,?_⟩
 rintro i m σ H ⟨rfl,hi,p⟩
 have q:=hl i σ H hi p
 by_cases hlt:i<xs.length
 ·refine .inr ⟨⟨xs,xs[i],q,by simp[hlt]⟩,Pv (i+1),fun σ' H' p'=>⟨xs.length - (i+1),by omega,rfl,hlt,p'⟩,fun x H' y=>?_⟩
  obtain⟨e,y⟩:=y
  subst e
  exact hs i x σ _ (y xs q) p
 ·have e:i=xs.length:=by omega
  subst e
  exact .inl ⟨⟨xs,q,c6 _⟩,hd σ H p⟩
theorem bD4 {K:W.Frag}{xs:List V}{g:TG}{tb:TS}{D:Ends}(Pv:Nat->St->Hp->Prop)(h0:Pv 0 σ H)(hl:∀ i σ H,i<=xs.length->Pv i σ H->SqT K H a xs)
  (hs:∀ i x σ H,xs[i]?=some x->Pv i σ H->g x σ H fun σ2 H2=>tb { D with nx:=Pv (i+1),ct:=Pv (i+1),bk:=D.nx } σ2 H2)(hd:∀ σ H,Pv xs.length σ H->D.nx σ H) :
  ∃ W:Nat->Nat->St->Hp->Prop,(∃ m,W 0 m σ H)/\∀ i m σ H,W i m σ H ->
   ((Itt K a).stop i H/\D.nx σ H)\/((Itt K a).go i H/\∃ N:St->Hp->Prop,(∀ σ' H',N σ' H'->∃ m',m'<m/\W (i+1) m' σ' H')/\∀ x H',(Itt K a).yld i H x H'->g x σ H' fun σ2 H2=>tb { D with nx:=N,ct:=N,bk:=D.nx } σ2 H2):=by
 refine⟨fun i m σ H=>m=xs.length - i/\i<=xs.length/\Pv i σ H,⟨xs.length,by simp,o6 _,h0⟩,?_⟩
 rintro i m σ H ⟨rfl,hi,p⟩
 have q:=hl i σ H hi p
 by_cases hlt:i<xs.length
 ·refine .inr ⟨⟨xs,xs[i],q,by simp[hlt]⟩,Pv (i+1),fun σ' H' p'=>⟨xs.length - (i+1),by omega,rfl,hlt,p'⟩,fun x H' y=>?_⟩
  obtain⟨e,y⟩:=y
  subst e
  exact hs i x σ _ (y xs q) p
 ·have e:i=xs.length:=by omega
  subst e
  exact .inl ⟨⟨xs,q,c6 _⟩,hd σ H p⟩
theorem O1 {lo:Int}{g:TG}{tb:TS}{D:Ends}(Pv:Nat->St->Hp->Prop)(h0:Pv 0 σ H)
  (hs:∀ i σ H,i<n->Pv i σ H->g (.int (lo+i)) σ H fun σ2 H2=>tb { D with nx:=Pv (i+1),ct:=Pv (i+1),bk:=D.nx } σ2 H2)(hd:∀ σ H,Pv n σ H->D.nx σ H) :
  ∃ W:Nat->Nat->St->Hp->Prop,(∃ m,W 0 m σ H)/\∀ i m σ H,W i m σ H ->
   ((Itr lo n).stop i H/\D.nx σ H)\/((Itr lo n).go i H/\∃ N:St->Hp->Prop,(∀ σ' H',N σ' H'->∃ m',m'<m/\W (i+1) m' σ' H')/\∀ x H',(Itr lo n).yld i H x H'->g x σ H' fun σ2 H2=>tb { D with nx:=N,ct:=N,bk:=D.nx } σ2 H2):=by
 refine⟨fun i m σ H=>m=n - i/\i<=n/\Pv i σ H,⟨n,by simp,o6 _,h0⟩,?_⟩
 rintro i m σ H ⟨rfl,hi,p⟩
 by_cases hlt:i<n
 ·refine .inr ⟨hlt,Pv (i+1),fun σ' H' p'=>⟨n - (i+1),by omega,rfl,hlt,p'⟩,fun x H' y=>?_⟩
  obtain⟨e,y⟩:=y
  subst e y
  exact hs i σ _ hlt p
 ·have e:i=n:=by omega
  subst e
  exact .inl ⟨c6 _,hd σ H p⟩
abbrev R2:=V->V->Hp->VK->Prop
def OpR (X:Cx)(f:Value->Value->Sem Value)(r:R2):Prop:=
 ∀ (pins:List (Addr × Obj)) (s:Shared) (σ:St) (H:Hp) (x y:V) (v u:Value) (Q:VK),Inv X pins σ H s->RelV x v->RelV y u->r x y H Q ->
  r6 (o7 X.prog X.w) X.A (f v u) (EP X pins σ Q) X.xe s
def UnR (X:Cx)(f:Value->Sem Value)(r:V->Hp->VK->Prop):Prop:=
 ∀ (pins:List (Addr × Obj)) (s:Shared) (σ:St) (H:Hp) (x:V) (v:Value) (Q:VK),Inv X pins σ H s->RelV x v->r x H Q ->
  r6 (o7 X.prog X.w) X.A (f v) (EP X pins σ Q) X.xe s
def R1 (X:Cx)(f:Value)(r:List V->Hp->VK->Prop):Prop:=
 ∀ (pins:List (Addr × Obj)) (s:Shared) (σ:St) (H:Hp) (xs:List V) (us:List Value) (Q:VK),Inv X pins σ H s->A8 xs us->r xs H Q ->
  r6 (o7 X.prog X.w) X.A (call f us) (EP X pins σ Q) X.xe s
def ce5 (X:Cx)(r:V->Hp->(Bool->Hp->Prop)->Prop):Prop:=
 ∀ (pins:List (Addr × Obj)) (s:Shared) (σ:St) (H:Hp) (x:V) (v:Value) (Q:Bool->Hp->Prop),Inv X pins σ H s->RelV x v->r x H Q ->
  r6 (o7 X.prog X.w) X.A (truthy v) (TP X pins σ Q) X.xe s
def tOp (r:R2)(ta tb:TE):TE:=fun σ H Q=>ta σ H fun x H1=>tb σ H1 fun y H2=>r x y H2 Q
def tUn (r:V->Hp->VK->Prop)(ta:TE):TE:=fun σ H Q=>ta σ H fun x H1=>r x H1 Q
def rI (C:Int->Int->Prop)(g:Int->Int->V):R2:=fun x y H Q=>∃ i j,x=.int i/\y=.int j/\C i j/\Q (g i j) H
def rI0 (g:Int->Int->V):R2:=fun x y H Q=>∃ i j,x=.int i/\y=.int j/\Q (g i j) H
def rU (g:Int->V):V->Hp->VK->Prop:=fun x H Q=>∃ i,x=.int i/\Q (g i) H
section
variable {a b c:Expr} {tb tc:TE}
theorem bD8 (ha:PE X a ta)(hb:PE X b tb){R:V->V->Hp->Prop}(I:Inv X pins σ H s)
  (h:ta σ H fun x H1=>tb σ H1 fun y H2=>R x y H2){f:Value->Value->Sem Value}
  (hf:∀ v u s2 x y H2,Inv X pins σ H2 s2->RelV x v->RelV y u->R x y H2->r6 (o7 X.prog X.w) X.A (f v u) Q X.xe s2) :
  r6 (o7 X.prog X.w) X.A (eval a X.env) (fun v s₁=>r6 (o7 X.prog X.w) X.A (eval b X.env) (fun u s₂=>r6 (o7 X.prog X.w) X.A (f v u) Q X.xe s₂) X.xe s₁) X.xe s:=by
 refine thn (ha pins s σ H _ I h) fun v s1 ⟨x,H1,I1,r1,q1⟩=>?_
 refine thn (hb pins s1 σ H1 _ I1 q1) fun u s2 ⟨y,H2,I2,r2,q2⟩=>?_
 exact hf v u s2 x y H2 I2 r1 r2 q2
theorem n8 {op:Operator}{r:R2}(ho:OpR X (ag3 op) r)(ha:PE X a ta)(hb:PE X b tb):PE X (.BinOp a op b pos) (tOp r ta tb):=by
 intro pins s σ H Q I h
 exact wpAny_BinOp (bD8 ha hb I h fun v u s2 x y H2 I2 rx ry q=>ho pins s2 σ H2 x y v u Q I2 rx ry q)
theorem bX6 {op:UnaryOp}{r:V->Hp->VK->Prop}(ho:UnR X (unaryOp op) r)(ha:PE X a ta):PE X (.UnaryOp op a pos) (tUn r ta):=by
 intro pins s σ H Q I h
 exact UnaryOp_ (thn (ha pins s σ H _ I h) fun v s1 ⟨x,H1,I1,r1,q1⟩=>ho pins s1 σ H1 x v Q I1 r1 q1)
theorem opI {f:Value->Value->Sem Value}{C:Int->Int->Prop}{g:Int->Int->Int}
  (rule:∀ (i j:Int) (t u:Tok) (s:Shared) (Q:Value->Shared->Prop) (E:Value->Shared->Prop),C i j->Q (.int (g i j) s.toks) { s with toks:=s.toks+1 }->r6 (o7 X.prog X.w) X.A (f (.int i t) (.int j u)) Q E s) :
  OpR X f (rI C fun i j=>.int (g i j)):=by
 intro pins s σ H x y v u Q I rx ry h
 obtain⟨i,j,rfl,rfl,hc,q⟩:=h
 obtain⟨t,rfl⟩:=rx
 obtain⟨t',rfl⟩:=ry
 exact rule i j t t' s _ _ hc ⟨.int (g i j),H,I.tok _,⟨_,rfl⟩,q⟩
theorem bY0 {f:Value->Value->Sem Value}{g:Int->Int->Int}
  (rule:∀ (i j:Int) (t u:Tok) (s:Shared) (Q:Value->Shared->Prop) (E:Value->Shared->Prop),Q (.int (g i j) s.toks) { s with toks:=s.toks+1 }->r6 (o7 X.prog X.w) X.A (f (.int i t) (.int j u)) Q E s) :
  OpR X f (rI0 fun i j=>.int (g i j)):=by
 intro pins s σ H x y v u Q I rx ry h
 obtain⟨i,j,rfl,rfl,q⟩:=h
 obtain⟨t,rfl⟩:=rx
 obtain⟨t',rfl⟩:=ry
 exact rule i j t t' s _ _ ⟨.int (g i j),H,I.tok _,⟨_,rfl⟩,q⟩
theorem bz9 {f:Value->Value->Sem Value}{g:Int->Int->Bool}
  (rule:∀ (i j:Int) (t u:Tok) (s:Shared) (Q:Value->Shared->Prop) (E:Value->Shared->Prop),Q (.bool (g i j)) s->r6 (o7 X.prog X.w) X.A (f (.int i t) (.int j u)) Q E s) :
  OpR X f (rI0 fun i j=>.bl (g i j)):=by
 intro pins s σ H x y v u Q I rx ry h
 obtain⟨i,j,rfl,rfl,q⟩:=h
 obtain⟨t,rfl⟩:=rx
 obtain⟨t',rfl⟩:=ry
 exact rule i j t t' s _ _ ⟨.bl (g i j),H,I,rfl,q⟩
def ce9 (i j:Int):Prop:=0<j/\j<1073741824
def ce8 (i j:Int):Prop:=0<=j/\j<=1000000/\i.natAbs<2 ^ 64
def bR9 (i j:Int):Prop:=(-(2 ^ 64)<i/\i<2 ^ 64)\/(-(2 ^ 64)<j/\j<2 ^ 64)
theorem bR9.ok {i j:Int}(h:bR9 i j):IntMulOk i j:=by
 rcases h with⟨h1,h2⟩ | ⟨h1,h2⟩
 ·exact .of_left (intBits_le_64 h1 h2)
 ·exact .of_right (intBits_le_64 h1 h2)
theorem O3:OpR X (ag3 .Add) (rI0 fun i j=>.int (i+j)):=bY0 fun _ _ _ _ _ _ _ q=>add_int q
theorem af0:OpR X (ag3 .Sub) (rI0 fun i j=>.int (i - j)):=bY0 fun _ _ _ _ _ _ _ q=>sub_int q
theorem T7:OpR X (ag3 .Mult) (rI bR9 fun i j=>.int (i*j)):=opI fun _ _ _ _ _ _ _ hc q=>mul_int q hc.ok
theorem K9:OpR X (ag3 .FloorDiv) (rI ce9 fun i j=>.int (i / j)):=opI fun i j _ _ _ _ _ hc q=>by
 have h1:(0:Int)<j:=hc.1
 have h2:j<1073741824:=hc.2
 exact floordiv_int (by omega) (by rw[Int.fdiv_eq_ediv_of_nonneg i (by omega)];exact q) (.inl (PyProof.noPylong_small (by omega)))
theorem C9:OpR X (ag3 .Mod) (rI (fun _ j=>0<j) fun i j=>.int (i % j)):=opI fun i j _ _ _ _ _ hc q=>by
 have h1:(0:Int)<j:=hc
 exact mod_int' (by omega) (by rw[Int.fmod_eq_emod_of_nonneg i (by omega)];exact q)
theorem af1:OpR X (ag3 .Pow) (rI ce8 fun i j=>.int (i ^ j.toNat)):=opI fun _ _ _ _ _ _ _ hc q=>pow_int_small hc.1 hc.2.1 hc.2.2 q
theorem unI {f:Value->Sem Value}{g:Int->Int}
  (rule:∀ (i:Int) (t:Tok) (s:Shared) (Q:Value->Shared->Prop) (E:Value->Shared->Prop),Q (.int (g i) s.toks) { s with toks:=s.toks+1 }->r6 (o7 X.prog X.w) X.A (f (.int i t)) Q E s) :
  UnR X f (rU fun i=>.int (g i)):=by
 intro pins s σ H x v Q I rx h
 obtain⟨i,rfl,q⟩:=h
 obtain⟨t,rfl⟩:=rx
 exact rule i t s _ _ ⟨.int (g i),H,I.tok _,⟨_,rfl⟩,q⟩
theorem bK2:UnR X (unaryOp .USub) (rU fun i=>.int (-i)):=unI fun _ _ _ _ _ q=>neg_int q
end
def bW4:V->V->Bool
 | .non,.non=>true | .non,.int _=>true | .int _,.non=>true | .non,.bl _=>true | .bl _,.non=>true | .non,.str _=>true | .str _,.non=>true
 | .int _,.int _=>true | .bl _,.bl _=>true | .str _,.str _=>true | .byt _,.byt _=>true
 | .int _,.str _=>true | .str _,.int _=>true | .bl _,.str _=>true | .str _,.bl _=>true
 | _,_=>false
def rEq:R2:=fun x y H Q=>bW4 x y=true/\Q (.bl (decide (x=y))) H
def rNe:R2:=fun x y H Q=>bW4 x y=true/\Q (.bl (!decide (x=y))) H
theorem bb9 {i j:Int}:decide (V.int i=V.int j)=(i == j):=by
 rw[F3]
 simp
theorem bs4 {i j:Bool}:decide (V.bl i=V.bl j)=(i == j):=by
 rw[F3]
 simp
theorem bb8 {i j:Str}:decide (V.str i=V.str j)=(i == j):=by
 rw[F3]
 simp
theorem bc0 {i j:Array UInt8}:decide (V.byt i=V.byt j)=(i.toList == j.toList):=by
 rw[F3]
 cases i
 cases j
 simp
section
variable {a b c:Expr} {tb tc:TE}
theorem B8 {Q:VK}{k k':Bool}(I:Inv X pins σ H s)(q:Q (.bl k) H)(e:k=k'):EP X pins σ Q (.bool k') s:=by
 subst e
 exact⟨.bl k,H,I,rfl,q⟩
theorem V7:OpR X (B0 .Eq) rEq:=by
 intro pins s σ H x y v u Q I rx ry h
 obtain⟨hs,q⟩:=h
 cases x with
 | non =>
  cases rx
  cases y with
  | non=>cases ry;exact PySem.EqNone.eq_none_none (B8 I q (by simp))
  | bl j=>cases ry;exact PySem.EqNone.eq_none_bool (B8 I q (by simp))
  | int j=>obtain⟨t',rfl⟩:=ry;exact PySem.EqNone.eq_none_int (B8 I q (by simp))
  | str j=>obtain⟨t',rfl⟩:=ry;exact PySem.EqNone.eq_none_str (B8 I q (by simp))
  | _=>exact absurd (show false=true from hs) d4
 | bl i =>
  cases rx
  cases y with
  | non=>cases ry;exact PySem.EqNone.eq_bool_none (B8 I q (by simp))
  | bl j=>cases ry;exact eq_bool (B8 I q bs4)
  | str j=>obtain⟨t',rfl⟩:=ry;exact PySem.EqMixed.eq_bool_str (B8 I q (by simp))
  | _=>exact absurd (show false=true from hs) d4
 | int i =>
  obtain⟨t,rfl⟩:=rx
  cases y with
  | non=>cases ry;exact PySem.EqNone.eq_int_none (B8 I q (by simp))
  | int j=>obtain⟨t',rfl⟩:=ry;exact eq_int (B8 I q bb9)
  | str j=>obtain⟨t',rfl⟩:=ry;exact PySem.EqMixed.eq_int_str (B8 I q (by simp))
  | _=>exact absurd (show false=true from hs) d4
 | str i =>
  obtain⟨t,rfl⟩:=rx
  cases y with
  | non=>cases ry;exact PySem.EqNone.eq_str_none (B8 I q (by simp))
  | bl j=>cases ry;exact PySem.EqMixed.eq_str_bool (B8 I q (by simp))
  | int j=>obtain⟨t',rfl⟩:=ry;exact PySem.EqMixed.eq_str_int (B8 I q (by simp))
  | str j=>obtain⟨t',rfl⟩:=ry;exact eq_str (B8 I q bb8)
  | _=>exact absurd (show false=true from hs) d4
 | byt i =>
  obtain⟨t,rfl⟩:=rx
  cases y with
  | byt j=>obtain⟨t',rfl⟩:=ry;exact PySem.W.eq_bytes (B8 I q bc0)
  | _=>exact absurd (show false=true from hs) d4
 | _=>cases y<;>exact absurd (show false=true from hs) d4
theorem aE2:OpR X (B0 .NotEq) rNe:=by
 intro pins s σ H x y v u Q I rx ry h
 obtain⟨hs,q⟩:=h
 cases x with
 | non =>
  cases rx
  cases y with
  | non=>cases ry;exact PySem.EqNone.ne_none_none (B8 I q (by simp))
  | bl j=>cases ry;exact PySem.EqNone.ne_none_bool (B8 I q (by simp))
  | int j=>obtain⟨t',rfl⟩:=ry;exact PySem.EqNone.ne_none_int (B8 I q (by simp))
  | str j=>obtain⟨t',rfl⟩:=ry;exact PySem.EqNone.ne_none_str (B8 I q (by simp))
  | _=>exact absurd (show false=true from hs) d4
 | bl i =>
  cases rx
  cases y with
  | non=>cases ry;exact PySem.EqNone.ne_bool_none (B8 I q (by simp))
  | bl j=>cases ry;exact ne_bool (B8 I q (congrArg not bs4))
  | str j=>obtain⟨t',rfl⟩:=ry;exact PySem.EqMixed.ne_bool_str (B8 I q (by simp))
  | _=>exact absurd (show false=true from hs) d4
 | int i =>
  obtain⟨t,rfl⟩:=rx
  cases y with
  | non=>cases ry;exact PySem.EqNone.ne_int_none (B8 I q (by simp))
  | int j=>obtain⟨t',rfl⟩:=ry;exact ne_int (B8 I q (congrArg not bb9))
  | str j=>obtain⟨t',rfl⟩:=ry;exact PySem.EqMixed.ne_int_str (B8 I q (by simp))
  | _=>exact absurd (show false=true from hs) d4
 | str i =>
  obtain⟨t,rfl⟩:=rx
  cases y with
  | non=>cases ry;exact PySem.EqNone.ne_str_none (B8 I q (by simp))
  | bl j=>cases ry;exact PySem.EqMixed.ne_str_bool (B8 I q (by simp))
  | int j=>obtain⟨t',rfl⟩:=ry;exact PySem.EqMixed.ne_str_int (B8 I q (by simp))
  | str j=>obtain⟨t',rfl⟩:=ry;exact ne_str (B8 I q (congrArg not bb8))
  | _=>exact absurd (show false=true from hs) d4
 | byt i =>
  obtain⟨t,rfl⟩:=rx
  cases y with
  | byt j=>obtain⟨t',rfl⟩:=ry;exact PySem.W.ne_bytes (B8 I q (congrArg not bc0))
  | _=>exact absurd (show false=true from hs) d4
 | _=>cases y<;>exact absurd (show false=true from hs) d4
theorem af2:OpR X (B0 .Lt) (rI0 fun i j=>.bl (decide (i<j))):=bz9 fun _ _ _ _ _ _ _ q=>lt_int q
theorem af3:OpR X (B0 .LtE) (rI0 fun i j=>.bl (decide (i<=j))):=bz9 fun _ _ _ _ _ _ _ q=>le_int q
theorem bo2:OpR X (B0 .Gt) (rI0 fun i j=>.bl (decide (j<i))):=bz9 fun _ _ _ _ _ _ _ q=>gt_int q
theorem bH6:OpR X (B0 .GtE) (rI0 fun i j=>.bl (decide (j<=i))):=bz9 fun _ _ _ _ _ _ _ q=>ge_int q
theorem bf1:OpR X (B0 .In) (fun x y H Q=>∃ i j,x=.str i/\y=.str j/\Q (.bl (!(Builtin.Str.occurrences j i 0 j.length 1).isEmpty)) H):=by
 intro pins s σ H x y v u Q I rx ry h
 obtain⟨i,j,rfl,rfl,q⟩:=h
 obtain⟨t,rfl⟩:=rx
 obtain⟨t',rfl⟩:=ry
 exact in_str (B8 I q rfl)
theorem bo1:OpR X (B0 .Is) (fun x y H Q=>y=.non/\Q (.bl (decide (x=.non))) H):=by
 intro pins s σ H x y v u Q I rx ry h
 obtain⟨rfl,q⟩:=h
 cases ry
 refine is_none_gen (B8 I q ?_)
 cases x<;>first
  | (cases rx;rfl)
  | (obtain⟨t,rfl⟩:=rx;rfl)
theorem ba1:OpR X (B0 .IsNot) (fun x y H Q=>y=.non/\Q (.bl (!decide (x=.non))) H):=by
 intro pins s σ H x y v u Q I rx ry h
 obtain⟨rfl,q⟩:=h
 cases ry
 refine isnot_none_gen (B8 I q ?_)
 cases x<;>first
  | (cases rx;rfl)
  | (obtain⟨t,rfl⟩:=rx;rfl)
theorem aI2:OpR X (B0 .NotIn) (fun x y H Q=>∃ i j,x=.str i/\y=.str j/\Q (.bl (!(!(Builtin.Str.occurrences j i 0 j.length 1).isEmpty))) H):=by
 intro pins s σ H x y v u Q I rx ry h
 obtain⟨i,j,rfl,rfl,q⟩:=h
 obtain⟨t,rfl⟩:=rx
 obtain⟨t',rfl⟩:=ry
 exact notIn_str (B8 I q rfl)
theorem A1 (b:Expr){op:CmpOp}(h:op≠.In:=by decide)(h2:op≠.NotIn:=by decide):aG1 op b=false:=by
 have e1:(op == CmpOp.In)=false:=by cases op<;>first | rfl | exact absurd rfl h
 have e2:(op == CmpOp.NotIn)=false:=by cases op<;>first | rfl | exact absurd rfl h2
 cases b<;>simp[aG1,e1,e2]
theorem aI1 {op:CmpOp}{r:R2}(ho:OpR X (B0 op) r)(ha:PE X a ta)(hb:PE X b tb)(hm:aG1 op b=false):PE X (.Compare a [op] [b] pos) (tOp r ta tb):=by
 intro pins s σ H Q I h
 exact wpAny_Compare1 (bD8 ha hb I h fun v u s2 x y H2 I2 rx ry q=>ho pins s2 σ H2 x y v u Q I2 rx ry q) hm
def bF8 (t:TE):TT:=fun σ H Q=>t σ H fun x H'=>∃ k,x=.bl k/\Q k H'
theorem p6 {op:CmpOp}{r:R2}(ho:OpR X (B0 op) r)(ha:PE X a ta)(hb:PE X b tb)(hm:aG1 op b=false):PT X (.Compare a [op] [b] pos) (bF8 (tOp r ta tb)):=by
 intro pins s σ H Q I h
 refine wpAny_isTrue_Compare1 (thn (ha pins s σ H _ I h) fun v s1 ⟨x,H1,I1,r1,q1⟩=>thn (hb pins s1 σ H1 _ I1 q1) fun u s2 ⟨y,H2,I2,r2,q2⟩ =>
  thn (ho pins s2 σ H2 x y v u _ I2 r1 r2 q2) fun c s3 ⟨z,H3,I3,r3,k,e,q3⟩=>?_) hm
 subst e
 cases r3
 exact N0 ⟨H3,I3,q3⟩
def bk3 (r r':R2)(ta tb tc:TE):TE:=fun σ H Q=>ta σ H fun x H1=>tb σ H1 fun y H2=>r x y H2 fun z H3=>∃ k,z=.bl k /\
 (if k=true then tc σ H3 fun w' H4=>r' y w' H4 Q else Q (.bl false) H3)
theorem bn7 {op op':CmpOp}{r r':R2}(ho:OpR X (B0 op) r)(ho':OpR X (B0 op') r')(ha:PE X a ta)(hb:PE X b tb)(hc:PE X c tc)
  (hm:lastMarks [op,op'] [b,c]=false:=by with_unfolding_all rfl):PE X (.Compare a [op,op'] [b,c] pos) (bk3 r r' ta tb tc):=by
 intro pins s σ H Q I h
 refine Compare_chain (thn (ha pins s σ H _ I h) fun v s1 ⟨x,H1,I1,r1,q1⟩=>chain_link (thn (hb pins s1 σ H1 _ I1 q1) fun u s2 ⟨y,H2,I2,r2,q2⟩ =>
  thn (ho pins s2 σ H2 x y v u _ I2 r1 r2 q2) fun d s3 ⟨z,H3,I3,r3,k,e,q3⟩=>?_)) hm
 subst e
 cases r3
 refine N0 ?_
 cases k with
 | false=>exact ite_ff ⟨.bl false,H3,I3,rfl,q3⟩
 | true=>exact ite_tt (chain_last (thn (hc pins s3 σ H3 _ I3 q3) fun w' s4 ⟨z',H4,I4,r4,q4⟩=>ho' pins s4 σ H4 y z' u w' Q I4 r2 r4 q4))
theorem ae7 {op op':CmpOp}{r r':R2}(ho:OpR X (B0 op) r)(ho':OpR X (B0 op') r')(ha:PE X a ta)(hb:PE X b tb)(hc:PE X c tc)
  (hm:lastMarks [op,op'] [b,c]=false:=by with_unfolding_all rfl):PT X (.Compare a [op,op'] [b,c] pos) (bF8 (bk3 r r' ta tb tc)):=by
 intro pins s σ H Q I h
 refine isTrue_chain (thn (ha pins s σ H _ I h) fun v s1 ⟨x,H1,I1,r1,q1⟩=>test_link (thn (hb pins s1 σ H1 _ I1 q1) fun u s2 ⟨y,H2,I2,r2,q2⟩ =>
  thn (ho pins s2 σ H2 x y v u _ I2 r1 r2 q2) fun d s3 ⟨z,H3,I3,r3,k,e,q3⟩=>?_)) hm
 subst e
 cases r3
 refine N0 ?_
 cases k with
 | false =>
  obtain⟨k',e',q'⟩:=q3
  cases e'
  exact ite_ff ⟨H3,I3,q'⟩
 | true =>
  refine ite_tt (test_last (thn (hc pins s3 σ H3 _ I3 q3) fun w' s4 ⟨z',H4,I4,r4,q4⟩=>thn (ho' pins s4 σ H4 y z' u w' _ I4 r2 r4 q4) fun d' s5 ⟨z2,H5,I5,r5,k2,e2,q5⟩=>?_))
  subst e2
  cases r5
  exact N0 ⟨H5,I5,q5⟩
def ca9 (K:W.Frag)(x:V)(H:Hp)(k:Bool):Prop:=
 match x with
 | .non=>k=false
 | .bl b=>k=b
 | .int i=>k=(i != 0)
 | .str y=>y.length<=f6/\k=((y.length:Int) != 0)
 | .byt y=>y.size<=f6/\k=((y.size:Int) != 0)
 | .ref p=>(∃ xs,SqL K H p xs/\k=!xs.isEmpty)\/(∃ xs,SqT K H p xs/\k=!xs.isEmpty)\/∃ kvs,H p=some (.dK kvs)/\k=!kvs.isEmpty
 | _=>False
theorem aW0 {κ:Type}{kvs:List (κ × V)}{vs:List (κ × Value)}(r:KV kvs vs):(!vs.isEmpty)=!kvs.isEmpty:=by
 cases r<;>rfl
theorem az8 {xs:List V}{its:List Value}(r:A8 xs its):(!its.toArray.isEmpty)=!xs.isEmpty:=by
 cases r<;>simp
theorem ak9:(f6:Nat)<2 ^ 63:=by rw[r9];decide
theorem bK4:ce5 X (fun x H Q=>∃ k,ca9 X.K x H k/\Q k H):=by
 intro pins s σ H x v Q I rx h
 obtain⟨k,e,q⟩:=h
 have hl:=ak9
 have hs:f6=16777216:=r9
 cases x with
 | non =>
  cases rx
  have e':k=false:=e
  subst e'
  exact truthy_none ⟨H,I,q⟩
 | bl b =>
  cases rx
  have e':k=b:=e
  subst e'
  exact N0 ⟨H,I,q⟩
 | int i =>
  obtain⟨t,rfl⟩:=rx
  have e':k=(i != 0):=e
  subst e'
  exact PySem.P.truthy_int ⟨H,I,q⟩
 | str y =>
  obtain⟨t,rfl⟩:=rx
  obtain⟨hy,e'⟩:y.length<=f6/\k=((y.length:Int) != 0):=e
  subst e'
  exact PySem.P.truthy_str (by omega) ⟨H,I.tok _,q⟩
 | byt y =>
  obtain⟨t,rfl⟩:=rx
  obtain⟨hy,e'⟩:y.size<=f6/\k=((y.size:Int) != 0):=e
  subst e'
  exact PySem.W.truthy_bytes (by omega) ⟨H,I.tok _,q⟩
 | ref p =>
  cases rx
  have e':(∃ xs,SqL X.K H p xs/\k=!xs.isEmpty)\/(∃ xs,SqT X.K H p xs/\k=!xs.isEmpty)\/∃ kvs,H p=some (.dK kvs)/\k=!kvs.isEmpty:=e
  rcases e' with⟨xs,hx,e'⟩ | ⟨xs,hx,e'⟩ | ⟨kvs,hx,e'⟩
  ·subst e'
   obtain⟨its,r,pl,hz⟩:=I.list hx
   have hlen:=r.length
   exact wpAny_truthy_list pl.isList (by simp only[d9];omega) ⟨H,I.tok _,by rw[az8 r];exact q⟩
  ·subst e'
   obtain⟨its,r,pl,hz⟩:=I.tuple hx
   have hlen:=r.length
   exact truthy_tuple pl (by simp only[d9];omega) ⟨H,I.tok _,by rw[az8 r];exact q⟩
  ·subst e'
   obtain⟨hz,hS,vs,r,m⟩:kvs.length<=f6/\(p == sysModules)=false/\∃ vs,KV kvs vs/\s.heap.DictOf (aI5 X.prog X.w) p vs:=I.hok p _ hx
   have hlen:kvs.length=vs.length:=Paired.length r
   exact wpAny_truthy_dict hS m (by omega) ⟨H,I.tok _,by rw[aW0 r];exact q⟩
 | _=>exact(show False from e).elim
theorem aN4 (ha:PE X a ta)(he:∀ whole,isTrue a X.env whole=(do let v <- whole;standAt a.pos;bc7 [v] (truthy v))) :
  PT X a (fun σ H Q=>ta σ H fun x H'=>∃ k,ca9 X.K x H' k/\Q k H'):=by
 intro pins s σ H Q I h
 exact isTrue_plain (thn (ha pins s σ H _ I h) fun v s1 ⟨x,H1,I1,r1,q1⟩=>bK4 pins s1 σ H1 x v Q I1 r1 q1) (he _)
theorem ay4:OpR X (ag3 .Add) (fun x y H Q=>∃ i j,x=.str i/\y=.str j/\i.length+j.length<=f6/\Q (.str (i++j)) H):=by
 intro pins s σ H x y v u Q I rx ry h
 obtain⟨i,j,rfl,rfl,hz,q⟩:=h
 obtain⟨t,rfl⟩:=rx
 obtain⟨t',rfl⟩:=ry
 exact add_str (fun t' tk=>⟨.str (i++j),H,I.tok _,⟨_,rfl⟩,q⟩) hz
def bu0 (b:Expr):Prop:=∀ o i,bT8 b false o i=operate [o,i] (getItem o i)
theorem as7 (ha:PE X a ta)(hb:PE X b tb)(hs:bu0 b) :
  PE X (.Subscript a b pos) (tOp (fun x y H Q=>∃ z i c,x=.str z/\y=.int i/\0<=i/\i<2 ^ 63/\i<z.length/\z.cps[i.toNat]?=some c/\Q (.str ⟨#[c]⟩) H) ta tb):=by
 intro pins s σ H Q I h
 refine Subscript_ (bD8 ha hb I h fun v u s2 x y H2 I2 rx ry q=>?_)
 obtain⟨z,i,c,rfl,rfl,h0,h63,h1,hc,q⟩:=q
 obtain⟨t,rfl⟩:=rx
 obtain⟨t',rfl⟩:=ry
 have e:seqIndex? i z.length=some i.toNat:=PySem.StrLaws.seqIndex_nonneg h0 h1
 exact tail_any (aj6 s2 z t) slot_str_getitem.lookup (getItem_str (c:=c) (by
  have e1:decide (i < -(2 ^ 63:Int))=false:=decide_eq_false (by omega)
  have e2:decide (i≥2 ^ 63)=false:=decide_eq_false (by omega)
  rw[e1,e2]<;>rfl) (by rw[e];exact hc) ⟨.str ⟨#[c]⟩,H2,I2.tok _,⟨_,rfl⟩,q⟩) (hs _ _)
theorem vals1 {x:V}(r:A8 [x] us):∃ u,us=[u]/\RelV x u:=by
 cases r with
 | cons r1 r2=>cases r2;exact⟨_,rfl,r1⟩
theorem vals2 {x y:V}(r:A8 [x,y] us):∃ u w',us=[u,w']/\RelV x u/\RelV y w':=by
 cases r with
 | cons r1 r2 =>
  cases r2 with
  | cons r3 r4=>cases r4;exact⟨_,_,rfl,r1,r3⟩
theorem bh8 (hc:X.calm=true):R1 X (.builtin "max") (fun xs H Q=>∃ i j,xs=[.int i,.int j]/\Q (.int (if j > i then j else i)) H):=by
 intro pins s σ H xs us Q I r h
 obtain⟨i,j,rfl,q⟩:=h
 obtain⟨u,w',rfl,⟨t,rfl⟩,⟨t',rfl⟩⟩:=vals2 r
 refine max_two_ints (I.ok.hd hc) fun h' tk k=>⟨_,H,I.kept k,?_,q⟩
 by_cases hj:j > i
 ·rw[if_pos hj,if_pos hj];exact⟨_,rfl⟩
 ·rw[if_neg hj,if_neg hj];exact⟨_,rfl⟩
theorem ar0 (hc:X.calm=true):R1 X (.builtin "min") (fun xs H Q=>∃ i j,xs=[.int i,.int j]/\Q (.int (if j<i then j else i)) H):=by
 intro pins s σ H xs us Q I r h
 obtain⟨i,j,rfl,q⟩:=h
 obtain⟨u,w',rfl,⟨t,rfl⟩,⟨t',rfl⟩⟩:=vals2 r
 refine min_two_ints (I.ok.hd hc) fun h' tk k=>⟨_,H,I.kept k,?_,q⟩
 by_cases hj:j<i
 ·rw[if_pos hj,if_pos hj];exact⟨_,rfl⟩
 ·rw[if_neg hj,if_neg hj];exact⟨_,rfl⟩
theorem V1:R1 X (.type "str") (fun xs H Q=>∃ i,xs=[.int i]/\i.natAbs.log2<1920/\Q (.str (toString i)) H):=by
 intro pins s σ H xs us Q I r h
 obtain⟨i,rfl,hz,q⟩:=h
 obtain⟨u,rfl,t,rfl⟩:=vals1 r
 exact PySem.P.str_of_int hz ⟨.str _,H,I.tok _,⟨_,rfl⟩,q⟩
def ce6 (K:W.Frag)(x:V)(H:Hp)(n:Nat):Prop:=
 match x with
 | .str y=>y.length<=f6/\n=y.length
 | .byt y=>y.size<=f6/\n=y.size
 | .ref p=>(∃ xs,SqL K H p xs/\n=xs.length)\/∃ xs,SqT K H p xs/\n=xs.length
 | _=>False
theorem aA6:R1 X (.builtin "len") (fun xs H Q=>∃ x n,xs=[x]/\ce6 X.K x H n/\Q (.int n) H):=by
 intro pins s σ H xs us Q I r h
 obtain⟨x,n,rfl,e,q⟩:=h
 obtain⟨u,rfl,rx⟩:=vals1 r
 have hl:=ak9
 have hs:f6=16777216:=r9
 cases x with
 | str y =>
  obtain⟨t,rfl⟩:=rx
  obtain⟨hy,e'⟩:y.length<=f6/\n=y.length:=e
  subst e'
  exact len_str (by omega) ⟨.int _,H,I.tok _,⟨_,rfl⟩,q⟩
 | byt y =>
  obtain⟨t,rfl⟩:=rx
  obtain⟨hy,e'⟩:y.size<=f6/\n=y.size:=e
  subst e'
  exact PySem.W.len_bytes (by omega) ⟨.int _,H,I.tok _,⟨_,rfl⟩,q⟩
 | ref p =>
  cases rx
  have e':(∃ xs,SqL X.K H p xs/\n=xs.length)\/∃ xs,SqT X.K H p xs/\n=xs.length:=e
  rcases e' with⟨xs,hx,e'⟩ | ⟨xs,hx,e'⟩
  ·subst e'
   obtain⟨its,r',pl,hz⟩:=I.list hx
   have hlen:=r'.length
   exact Calls.call_len_list pl.isList (by simp only[d9];omega) ⟨.int xs.length,H,I.tok _,⟨_,by simp only[d9];rw[hlen]⟩,q⟩
  ·subst e'
   obtain⟨its,r',pl,hz⟩:=I.tuple hx
   have hlen:=r'.length
   exact len_tuple pl (by simp only[d9];omega) ⟨.int xs.length,H,I.tok _,⟨_,by simp only[d9];rw[hlen]⟩,q⟩
 | _=>exact(show False from e).elim
end
structure bR8 (h:Heap) (x dx C:Addr) (mA:Str->Option Value):Prop where
 obj:h.get? x=some (PySem.W.instObj C dx)
 ns:h.Ns1 dx mA
 ne:dx≠x
theorem bg0 {dx:Addr}(n:h.Ns1 dx mA):∃ od,h.get? dx=some od/\∀ name,PySem.W.lookIn name od=some (mA name):=by
 obtain⟨o,es,ep,ho,hd,hk,_,hm⟩:=n
 refine⟨o,ho,fun name=>?_⟩
 have e:=hm name
 unfold nsFind findBy at e
 rw[<- Array.find?_toList]at e
 unfold PySem.W.lookIn
 rw[hd]
 dsimp only
 split
 ·rename_i y q
  rw[q]at e
  exact congrArg some e
 ·rename_i q
  rw[q]at e
  have a:es.toList.any (·.refKey)=false:=by
   rw[List.any_eq_false]
   intro y hy
   obtain⟨z,t,hkey⟩:=hk y (ao8.mp hy)
   simp[DictEntry.refKey,hkey]
  have a':¬ es.toList.any (·.refKey)=true:=by rw[a];exact d4
  rw[if_neg a']
  exact congrArg some e
theorem bR8.look {x dx:Addr}(I:bR8 h x dx C mA):∃ od,PySem.W.InstAt h x (PySem.W.instObj C dx) C (some od)/\∀ name,PySem.W.lookIn name od=some (mA name):=
 let ⟨od,ho,hl⟩:=bg0 I.ns
 ⟨od,⟨I.obj,rfl,rfl,ho⟩,hl⟩
section
variable {K:W.Frag} {x dx:Addr} {name:Str}
end
section
variable {dx:Addr} {fs fs':List (Str × V)}
theorem bC9 (hok:HOk P w H h)(e:H a=some (.ins C dx fs)):∃ mA,bR8 h a dx C mA/\(∀ f,bR7 (fs.lookup f) (mA f))/\PySem.Within mA (fs.map (·.1))/\fs.length<=1000/\H dx=some (.own a):=by
 obtain⟨d,z,ne,ob,mA,n,r,q⟩:=(show M9 P w H h a (.ins C dx fs) from hok a _ e)
 exact⟨mA,⟨ob,n,ne⟩,r,q,z,d⟩
end
structure Cls (K:W.Frag) (C:Addr):Prop where
 pg:PySem.W.plainGet K C Str.empty=true
 hd:PySem.W.hasDictIn K C=true
 po:PySem.W.plainOver K C=true
 sa:PySem.W.findIn K (.ref C) "__setattr__"=some (some (.builtin "object.__setattr__"))
theorem Cls.get {K:W.Frag}(c:Cls K C)(f:Str):PySem.W.plainGet K C f=true:=c.pg
structure Con (K:W.Frag) (C:Addr) (f:Str) (v:V) (u:Value):Prop where
 at_:PySem.W.findIn K (.ref C) f=some (some u)
 rel:RelV v u
 get:PySem.W.specialIn K u "__get__"=some none
 cp:PySem.W.copiedNames.contains f=false
structure cf0 (K:W.Frag) (C:Addr) (m:Str) (f:Addr):Prop where
 at_:PySem.W.findIn K (.ref C) m=some (some (.ref f))
 fn:PySem.W.isFn K (.ref f)=true
 kp:j0 K (.ref f)=true
section
variable {dx:Addr} {fs:List (Str × V)} {f:Str} {v:V}
end
section
variable {o value:Expr} {f:Str} {pos' tpos:Pos} {tv:TE}
end
section
variable {c:Value} {b:Bool}
inductive ao0 (K:W.Frag) (H:Hp):V->Value->Prop where
 | non:ao0 K H .non (.type "NoneType")
 | bl (x:Bool):ao0 K H (.bl x) (.type "bool")
 | int (i:Int):ao0 K H (.int i) (.type "int")
 | str (x:Str):ao0 K H (.str x) (.type "str")
 | flt (x:UInt64):ao0 K H (.flt x) (.type "float")
 | lst {a:Addr} {xs:List V} (e:H a=some (.lst xs)):ao0 K H (.ref a) (.type "list")
 | frz {a:Addr} {o:Obj} {xs:List V} (e:H a=some (.frz o (.lst xs))):ao0 K H (.ref a) (.type "list")
 | tup {a:Addr} {xs:List V} (e:H a=some (.tup xs)):ao0 K H (.ref a) (.type "tuple")
 | dK {a:Addr} {kvs:List (Key × V)} (e:H a=some (.dK kvs)):ao0 K H (.ref a) (.type "dict")
 | dT {a:Addr} {kvs:List (List Key × V)} (e:H a=some (.dT kvs)):ao0 K H (.ref a) (.type "dict")
 | ins {a C dx:Addr} {fs:List (Str × V)} (e:H a=some (.ins C dx fs)) (cl:Cls K C) (ha:PySem.W.findIn K (.ref C) "__class__"=some (some (.builtin "object.__class__")))
   (hn:PySem.W.specialIn K (.builtin "object.__class__") "__get__"=some (some (.builtin "getset_descriptor.__get__"))) (htk:PySem.W.takesIn K (.builtin "object.__class__")=some true)
   (hm:PySem.W.mroIn K C (.type "object")=some true):ao0 K H (.ref a) (.ref C)
theorem bg5 {x:V}{t:Value}(I:Inv X pins σ H s)(rx:RelV x u)(ty:ao0 X.K H x t)(e:PySem.W.kitOne X.K t c=some b)(h:∀ tk,Q (.bool b) { s with toks:=tk }) :
  r6 (o7 X.prog X.w) A (call (.builtin "isinstance") [u,c]) Q E s:=by
 cases ty with
 | non=>cases (show u=Value.none from rx);exact PySem.W.kia_one PySem.W.kitx_none I.kIn True.intro e (fun z=>nomatch z) h
 | bl y=>cases (show u=Value.bool y from rx);exact PySem.W.kia_one PySem.W.kitx_bool I.kIn True.intro e (fun z=>nomatch z) h
 | int i=>obtain⟨t,q⟩:=(show ∃ t,u=Value.int i t from rx);cases q;exact PySem.W.kia_one PySem.W.kitx_int I.kIn True.intro e (fun z=>nomatch z) h
 | str y=>obtain⟨t,q⟩:=(show ∃ t,u=Value.str y t from rx);cases q;exact PySem.W.kia_one PySem.W.kitx_str I.kIn True.intro e (fun z=>nomatch z) h
 | flt y=>obtain⟨t,q⟩:=(show ∃ t,u=Value.float y t from rx);cases q;exact PySem.W.kia_one PySem.W.kitx_float I.kIn True.intro e (fun z=>nomatch z) h
 | @lst a xs ea =>
  cases (show u=Value.ref a from rx)
  obtain⟨_,_,n,_,h1⟩:=(show M9 X.prog X.w H s.heap a (.lst xs) from I.hok a _ ea)
  exact PySem.W.kia_one PySem.W.kitx_list I.kIn ⟨_,h1,rfl⟩ e (fun z=>nomatch z) h
 | @frz a ob xs ea =>
  cases (show u=Value.ref a from rx)
  obtain⟨_,_,_,n,_,h1⟩:=(show M9 X.prog X.w H s.heap a (.frz ob (.lst xs)) from I.hok a _ ea)
  exact PySem.W.kia_one PySem.W.kitx_list I.kIn ⟨_,h1,rfl⟩ e (fun z=>nomatch z) h
 | @tup a xs ea =>
  cases (show u=Value.ref a from rx)
  obtain⟨_,_,_,p⟩:=(show M9 X.prog X.w H s.heap a (.tup xs) from I.hok a _ ea)
  obtain⟨o,h1,h2,_⟩:=p
  exact PySem.W.kia_one PySem.W.kitx_tuple I.kIn ⟨o,h1,h2⟩ e (fun z=>nomatch z) h
 | @dK a kvs ea =>
  cases (show u=Value.ref a from rx)
  obtain⟨_,_,vs,_,p⟩:=(show M9 X.prog X.w H s.heap a (.dK kvs) from I.hok a _ ea)
  obtain⟨o,es,ep,h1,h2,_⟩:=p
  exact PySem.W.kia_one PySem.W.kitx_dict I.kIn ⟨o,h1,h2.1⟩ e (fun z=>nomatch z) h
 | @dT a kvs ea =>
  cases (show u=Value.ref a from rx)
  obtain⟨_,_,xs,_,o,es,ep,h1,h2,_⟩:=(show M9 X.prog X.w H s.heap a (.dT kvs) from I.hok a _ ea)
  exact PySem.W.kia_one PySem.W.kitx_dict I.kIn ⟨o,h1,h2.1⟩ e (fun z=>nomatch z) h
 | @ins a C dx fs ea cl ha hn htk hm =>
  cases (show u=Value.ref a from rx)
  obtain⟨mA,O,_⟩:=bC9 I.hok ea
  obtain⟨od,J,_⟩:=O.look
  exact PySem.W.kia_one (PySem.W.kitx_own (cl.get _) cl.hd ha hn htk hm) I.kIn J e (fun z=>nomatch z) h
end
structure W6 (k:Nat) (A:Around):Prop where
 hd:A.handled=none
 dp:A.depth+3*k+5<aB4
 un:A.units+16*k+200<al9
theorem W6.mono {k:Nat}(r:W6 k A)(h:j<=k):W6 j A:=⟨r.hd,by have:=r.dp;omega,by have:=r.un;omega⟩
theorem W6.deeper {k:Nat}(r:W6 (k+1) A)(env:Env):W6 k (A.deeper env):=
 ⟨r.hd,by have:=r.dp;show A.depth+1+3*k+5<_;omega,by have:=r.un;show A.units+3+16*k+200<_;omega⟩
theorem W6.depth {k:Nat}(r:W6 k A):A.depth<aB4:=by have:=r.dp;omega
theorem W6.units {k:Nat}(r:W6 k A):A.units+64<al9:=by have:=r.un;omega
def bx7:TA:=fun _ H Q=>Q [] H
def aY5 (ta:TE)(tr:TA):TA:=fun σ H Q=>ta σ H fun x H1=>tr σ H1 fun xs H2=>Q (x::xs) H2
section
variable {es:List Expr} {t:TA}
theorem c7:PA X [] bx7:=fun _ _ _ _ H Q I h=>Calls.spliced_nil ⟨[],H,I,.nil,h⟩
theorem a6 (ha:PE X e te)(hr:PA X es t)(hs:A4 (e::es) X.env=(false,eval e X.env)::A4 es X.env:=by rfl):PA X (e::es) (aY5 te t):=by
 intro pos pins s σ H Q I h
 rw[hs]
 show r6 _ _ (spliced ((false,eval e X.env)::Y1 pos (A4 es X.env))) _ _ s
 refine Calls.spliced_cons (thn (ha pins s σ H _ I h) fun u s1 ⟨x,H1,I1,r1,q1⟩=>?_)
 exact thn (hr pos pins s1 σ H1 _ I1 q1) fun us s2 ⟨xs,H2,I2,r2,q2⟩=>⟨x::xs,H2,I2,.cons r1 r2,q2⟩
def cb2 (t:TA):TE:=fun σ H Q=>t σ H fun xs H1=>xs.length<=f6/\∀ p,H1 p=none->Q (.ref p) (upd H1 p (.tup xs))
def cb7 (t:TA):TE:=fun σ H Q=>t σ H fun xs H1=>xs.length<=f6/\∀ p,H1 p=none->Q (.ref p) (upd H1 p (.lst xs))
theorem O9 {x1}(h:PA X es t):PE X (.Tuple es x1 pos) (cb2 t):=by
 intro pins s σ H Q I hq
 refine wpAny_Tuple_spliced (thn (h pos pins s σ H _ I hq) fun us s1 ⟨xs,H1,I1,r,z,q⟩=>⟨by rw[<- r.length];exact z,?_⟩)
 have hf:H1 s1.heap.objs.size=none:=I1.hok.fresh (c6 _)
 refine⟨.ref s1.heap.objs.size,upd H1 s1.heap.objs.size (.tup xs),I1.laid (t':=s1.toks) (fun b u e=>a8 _ e) (c6 _) ?_,rfl,q _ hf⟩
 exact⟨z,us,r,⟨_,j8 _ rfl,rfl,_,rfl⟩⟩
theorem Q7 (h:PA X es t):PE X (.List es pos) (cb7 t):=by
 intro pins s σ H Q I hq
 refine wpAny_List_spliced (thn (h pos pins s σ H _ I hq) fun us s1 ⟨xs,H1,I1,r,z,q⟩=>⟨by rw[<- r.length];exact z,?_⟩)
 have hf:H1 s1.heap.objs.size=none:=I1.hok.fresh (c6 _)
 refine⟨.ref s1.heap.objs.size,upd H1 s1.heap.objs.size (.lst xs),I1.laid (t':=s1.toks) (fun b u e=>a8 _ e) (c6 _) ?_,rfl,q _ hf⟩
 exact⟨z,us,0,r,j8 _ rfl⟩
end
abbrev Sp:=List V->Hp->VK->XK->Prop
abbrev CXT:=List Env->Hp->Shared->XK->Value->Shared->Prop
structure bE5 (P:Program) (w:World) (K:W.Frag) (mg:Str->Option Value) (base:Heap) (A:Around) (outer:List Env) (s:Shared) (H:Hp):Prop where
 frames:A.frames=some outer
 mod:Mod K mg base
 bs:∀ b o,base.get? b=some o->s.heap.get? b=some o/\H b=none
 bsz:base.objs.size<=s.heap.objs.size
 funs:s.heap.FunFrames base outer
 frf:∀ b∈frs outer,H b=none
 hok:HOk P w H s.heap
 bare:al8 s.gens
def CE (outer:List Env)(P:Program)(w:World)(H:Hp)(s:Shared)(Q:VK)(u:Value)(s':Shared):Prop:=
 ∃ v H',s'.os=s.os/\al8 s'.gens/\Un (frs outer) [] H H' s.heap s'.heap/\HOk P w H' s'.heap/\RelV v u/\Q v H'
def CR (CX:CXT)(outer:List Env)(P:Program)(w:World)(H:Hp)(s:Shared)(Q:VK)(E:XK)(r:Result)(s':Shared):Prop:=
 match r with
 | .ok (.ret u)=>CE outer P w H s Q u s'
 | .ok _=>False
 | .error e=>CX outer H s E e s'
structure x5 (P:Program) (w:World) (K:W.Frag) (mg:Str->Option Value) (base:Heap) (CX:CXT) (k:Nat) (f:Addr) (fd:FuncData) (ps:List Str) (sp:Sp):Prop where
 len:∀ vs H Q E,sp vs H Q E->vs.length=ps.length
 run:∀ (A:Around) (outer:List Env) (s:Shared) (H:Hp) (args:Args) (us:List Value) (vs:List V) (Q:VK) (E:XK),W6 k A->bE5 P w K mg base A outer s H->bd0 s fd args (ps.zip us)->A8 vs us->sp vs H Q E ->
  aB9 (o7 P w) A (.call (.ref f) args) (CR CX outer P w H s Q E) s
theorem x5.mono {K:W.Frag}{mg:Str->Option Value}{base:Heap}{CX:CXT}{k:Nat}{sp:Sp}(F:x5 P w K mg base CX j f fd ps sp)(h:j<=k) :
  x5 P w K mg base CX k f fd ps sp:=⟨F.len,fun A outer s H args us vs Q E hr=>F.run A outer s H args us vs Q E (hr.mono h)⟩
section
variable {s':Shared}
theorem Inv.env0 (I:Inv X pins σ H s):bE5 X.prog X.w X.K X.mg X.base X.A X.stack s H:=
 ⟨I.ok.frames,I.ok.mod,I.bs,p9 I.ok.bsz I.sz,I.stack,I.stkFree,I.hok,I.bare⟩
theorem Inv.after {Q:VK}(I:Inv X pins σ H s)(h:CE X.stack X.prog X.w H s Q u s'):EP X pins σ Q u s':=by
 obtain⟨v,H',os,bare,un,hok,r,q⟩:=h
 obtain⟨hh,g,d,t,os'⟩:=s'
 obtain rfl:os'=s.os:=os
 exact⟨v,H',I.call (h':=hh) (g':=g) (d':=d) (t':=t) (ch:=[]) un hok bare (fun b z=>absurd z (by simp)),r,q⟩
end
def bV4 (sp:Sp)(dvs:List V)(E:XK)(t:TA):TE:=fun σ H Q=>t σ H fun vs H1=>sp (vs++dvs) H1 Q E
def Binds (K:W.Frag)(fd:FuncData)(ps:List Str)(ds:List Value):Prop:=
 ∀ (s:Shared) (us:List Value),K.In s.heap->(us++ds).length=ps.length->bd0 s fd ⟨us,[]⟩ (ps.zip (us++ds))
theorem Binds.all {K:W.Frag}(h:∀ us:List Value,us.length=ps.length->bv7 fd ⟨us,[]⟩=pure (ps.zip us)):Binds K fd ps []:=fun s us _ hl=>by
 rw[F4]at hl ⊢
 exact .of_eq (h us hl)
def ar2 (CX:CXT)(X:Cx)(E:XK):Prop:=∀ (pins:List (Addr × Obj)) (σ:St) (H:Hp) (s:Shared) (e:Value) (s':Shared),Inv X pins σ H s->CX X.stack H s E e s'->X.xe e s'
section
variable {CX:CXT} {k:Nat} {sp:Sp} {dvs:List V} {ds:List Value} {E:XK} {m:Str} {p apos:Pos} {o:Expr} {es:List Expr} {t:TA}
theorem bM6 {Q:VK}{vs:List V}(F:x5 X.prog X.w X.K X.mg X.base CX k f fd ps sp)(hr:W6 k X.A)(hb:Binds X.K fd ps ds)(hd:A8 dvs ds)(hx:ar2 CX X E)
  (I:Inv X pins σ H s)(r:A8 vs us)(h:sp (vs++dvs) H Q E):r6 (o7 X.prog X.w) X.A (call (.ref f) us) (EP X pins σ Q) X.xe s:=by
 have r2:A8 (vs++dvs) (us++ds):=r.append hd
 have hl:(us++ds).length=ps.length:=by rw[<- r2.length];exact F.len _ _ _ _ h
 refine bu5 (ag4 (F.run X.A X.stack s H ⟨us,[]⟩ (us++ds) (vs++dvs) Q E hr I.env0 (hb s us I.kIn hl) r2 h) fun r s' hq=>?_)
 cases r with
 | error e=>exact hx pins σ H s e s' I hq
 | ok fl =>
  cases fl with
  | ret u=>exact I.after hq
  | next=>exact False.elim hq
  | brk=>exact False.elim hq
  | cont=>exact False.elim hq
theorem u9 (F:x5 X.prog X.w X.K X.mg X.base CX k f fd ps sp)(hr:W6 k X.A)(hg:Gl X x)(hm:X.mg x=some (.ref f))(hk:j0 X.K (.ref f)=true)(hb:Binds X.K fd ps ds)(hd:A8 dvs ds)(hx:ar2 CX X E)
  (ha:PA X (e::es) t)(hdb:(x == ("__debug__":Str))=false:=by decide)(he:A4 (e::es) X.env=(false,eval e X.env)::A4 es X.env:=by rfl)(hpl:(Y1 pos (A4 es X.env)).any (·.1)=false:=by rfl) :
  PE X (.Call (.Name x p) (e::es) [] pos) (bV4 sp dvs E t):=by
 intro pins s σ H Q I h
 refine O7 (an5 I hg hm ?_ hdb)
 refine PySem.W.callWith_K (h₀:=X.base) I.ok.mod.kin hk (thn (ha pos pins s σ H _ I h) fun us s1 ⟨vs,H1,I1,r,q⟩=>⟨I1.kIn,?_⟩) he hpl
 exact bM6 F hr hb hd hx I1 r q
structure Mk (K:W.Frag) (C f:Addr):Prop where
 makes:PySem.W.makesIn K C=true
 init:PySem.W.findIn K (.ref C) "__init__"=some (some (.ref f))
 fn:PySem.W.isFn K (.ref f)=true
 kp:j0 K (.ref C)=true
end
def PK (X:Cx)(kws:List aC0)(t:TA):Prop:=
 ∀ (pos:Pos) (pins:List (Addr × Obj)) (s:Shared) (σ:St) (H:Hp) (Q:List V->Hp->Prop),Inv X pins σ H s->t σ H Q->r6 (o7 X.prog X.w) X.A (evalAll ((bv8 pos (aC1 kws X.env)).map (·.2))) (AP X pins σ Q) X.xe s
section
variable {CX:CXT} {k:Nat} {ks:List Str} {sp:Sp} {E:XK} {m:Str} {p apos kpos:Pos} {o:Expr} {es:List Expr} {kws:List aC0} {t tk:TA} {nm:Option Str}
theorem bn1:PK X [] bx7:=fun _ _ _ _ H Q I h=>wpAny_evalAll_nil ⟨[],H,I,.nil,h⟩
theorem aZ6 (ha:PE X e te)(hr:PK X kws t):PK X (⟨nm,e,kpos⟩::kws) (aY5 te t):=by
 intro pos pins s σ H Q I h
 show r6 _ _ (evalAll ((do let v <- eval e X.env;standAt pos;pure v)::(bv8 pos (aC1 kws X.env)).map (·.2))) _ _ s
 refine wpAny_evalAll_cons (a7 (thn (ha pins s σ H _ I h) fun u s1 ⟨x,H1,I1,r1,q1⟩=>a7 (U2 (i8 ?_))))
 exact thn (hr pos pins s1 σ H1 _ I1 q1) fun us s2 ⟨xs,H2,I2,r2,q2⟩=>⟨x::xs,H2,I2,.cons r1 r2,q2⟩
structure ce7 (K:W.Frag) (fd:FuncData) (ps ks:List Str) (g:List Value->List Value->List Value) (gV:List V->List V->List V):Prop where
 to:∀ (s:Shared) (us ws:List Value),K.In s.heap->(g us ws).length=ps.length->bd0 s fd ⟨us,ks.zip ws⟩ (ps.zip (g us ws))
 rel:∀ {vs:List V} {us:List Value} {zs:List V} {ws:List Value},A8 vs us->A8 zs ws->A8 (gV vs zs) (g us ws)
variable {g:List Value->List Value->List Value}
end
structure t9 (N P:List Str) (sc:Scope):Prop where
 kind:sc.kind=.function
 co:sc.isCoroutine=false
 gen:sc.isGenerator=false
 nd:N.Nodup
 pre:N.take P.length=P
 par:∀ x∈P,sc.names.lookup x=some .local\/sc.names.lookup x=some .cell
 nofree:∀ y∈sc.names,y.2≠.free
theorem t9.mk' {P:List Str}{sc:Scope}(a:sc.kind=.function:=by rfl)(b:sc.isCoroutine=false:=by rfl)(c:sc.isGenerator=false:=by rfl)(d:N.Nodup:=by decide +kernel)(e:N.take P.length=P:=by rfl)(f:∀ x∈P,sc.names.lookup x=some .local\/sc.names.lookup x=some .cell:=by decide +kernel)(g:∀ y∈sc.names,y.2≠.free:=by decide +kernel):t9 N P sc:=⟨a,b,c,d,e,f,g⟩
theorem aF3 {kindOf:Str->Option aG2}:∀ {binds:List (Str × Value)} {m:Str->Option Value},(∀ v,(x,v)∉binds)->bindL kindOf binds m x=m x
 | [],_,_=>rfl
 | (n,v)::r,m,h=>by
  unfold bindL
  rw[aF3 fun w hw=>h w (b7 _ hw)]
  split
  ·have:x≠n:=by rintro rfl;exact h v c5
   simp[this]
  ·rfl
theorem aF5 {kindOf:Str->Option aG2}:∀ {binds:List (Str × Value)} {m:Str->Option Value},(∀ v,(x,v)∉binds)->bindC kindOf binds m x=m x
 | [],_,_=>rfl
 | (n,v)::r,m,h=>by
  unfold bindC
  rw[aF5 fun w hw=>h w (b7 _ hw)]
  split
  ·rfl
  ·have:x≠n:=by rintro rfl;exact h v c5
   simp[this]
theorem aF4 {kindOf:Str->Option aG2}:∀ {P:List Str} {vs:List Value} {i:Nat} {m:Str->Option Value},P.Nodup->P[i]?=some x->vs[i]?=some v->kindOf x=some .local ->
  bindL kindOf (P.zip vs) m x=some v
 | [],_,_,_,_,h,_,_=>by simp at h
 | _::_,[],_,_,_,_,h,_=>by simp at h
 | p::P,w::vs,0,m,nd,h1,h2,hk=>by
  simp at h1 h2;subst h1;subst h2
  show bindL kindOf ((p,w)::P.zip vs) m p=_
  unfold bindL
  rw[aF3 fun v hv=>(F5.mp nd).1 (ao2 hv).1,if_pos hk]
  simp
 | p::P,w::vs,i+1,m,nd,h1,h2,hk=>by
  show bindL kindOf ((p,w)::P.zip vs) m x=_
  unfold bindL
  exact aF4 (i:=i) (F5.mp nd).2 (by simpa using h1) (by simpa using h2) hk
theorem aF6 {kindOf:Str->Option aG2}:∀ {P:List Str} {vs:List Value} {i:Nat} {m:Str->Option Value},P.Nodup->P[i]?=some x->vs[i]?=some v->kindOf x≠some .local ->
  bindC kindOf (P.zip vs) m x=some v
 | [],_,_,_,_,h,_,_=>by simp at h
 | _::_,[],_,_,_,_,h,_=>by simp at h
 | p::P,w::vs,0,m,nd,h1,h2,hk=>by
  simp at h1 h2;subst h1;subst h2
  show bindC kindOf ((p,w)::P.zip vs) m p=_
  unfold bindC
  rw[aF5 fun v hv=>(F5.mp nd).1 (ao2 hv).1,if_neg hk]
  simp
 | p::P,w::vs,i+1,m,nd,h1,h2,hk=>by
  show bindC kindOf ((p,w)::P.zip vs) m x=_
  unfold bindC
  exact aF6 (i:=i) (F5.mp nd).2 (by simpa using h1) (by simpa using h2) hk
def start (N:List Str)(vs:List V):St:=vs.map some++B4 (N.length - vs.length) none
def V0 (CX:CXT)(P:Program)(w:World)(K:W.Frag)(mg:Str->Option Value)(base:Heap)(N:List Str)(qual:Str)(scope:Scope)(f:Addr)(cd:Value)(A:Around)(outer:List Env)(s:Shared)(H:Hp)(E:XK):Cx where
 prog:=P
 w:=w
 K:=K
 mg:=mg
 base:=base
 A:=A.deeper (E1 qual scope s.heap.objs.size f cd)
 N:=N
 s₀:=s
 H₀:=H
 env:=E1 qual scope s.heap.objs.size f cd
 outer:=outer
 stack:=E1 qual scope s.heap.objs.size f cd::outer
 ex:=[]
 calm:=true
 fn:=fun _=>true
 pn:=[]
 xe:=fun e s'=>r6 (o7 P w) (A.deeper (E1 qual scope s.heap.objs.size f cd)) (leaving (E1 qual scope s.heap.objs.size f cd) e) (fun _ s''=>CX outer H s E e s'') (fun e' s''=>CX outer H s E e' s'') s'
theorem aR3 {sc:Scope}(h:sc.names.lookup x=some .cell):∃ c,(cellsFrom n sc.names []).lookup x=some c:=by
 have q:=PySem.W.cellsFrom_some sc.names n [] (.inl h)
 exact A7.mp q
theorem bg7 {CX:CXT}{K:W.Frag}{mg:Str->Option Value}{base:Heap}{cd:Value}{s1:Shared}{E:XK}{vs:List V}
  (S:t9 N ps scope)(hd:A.handled=none)(e0:bE5 P w K mg base A outer s H)(hl:vs.length=ps.length)(r:A8 vs us)
  (x:InCallC s s.heap.objs.size (bindL (E1 qual scope s.heap.objs.size f cd).kindOf (ps.zip us) fun _=>none) (cellsFrom (s.heap.objs.size+1) scope.names []) (bindC (E1 qual scope s.heap.objs.size f cd).kindOf (ps.zip us) fun _=>none) s1) :
  Inv (V0 CX P w K mg base N qual scope f cd A outer s H E) [] (start N vs) H s1:=by
 have hpl:ps.length<=N.length:=by have:=congrArg aa0 S.pre;rw[l6]at this;omega
 obtain⟨h1,tk,rfl,hk⟩:=x.done
 have noA:∀ b:Addr,b∉(V0 CX P w K mg base N qual scope f cd A outer s H E).ex:=fun b z=>absurd (show b∈([]:List Addr) from z) (by simp)
 refine⟨⟨e0.mod,S.kind,rfl,rfl,c6 _,fun y z c h1 h2=>?_,fun y hy=>?_,fun y c _ h=>?_,fun _=>hd,Around.frames_deeper e0.frames,.inr ⟨rfl,rfl⟩,fun b z=>absurd z (noA b),e0.bs,e0.bsz,fun b _ _=>noA b,fun b z=>absurd z (noA b),e0.funs,e0.frf⟩,
  rfl,e0.bare,Un.kept hk,⟨_,x.toInCall.ns,fun i y v h1 h2 h3=>?_⟩,fun y c h=>⟨_,x.cell y c h⟩,e0.hok.fresh (c6 _),fun y c h=>?_,fun p hp=>absurd (show p∈([]:List (Addr × Obj)) from hp) (by simp),e0.hok.kept hk,?_⟩
 ·exact name_of_addr x.apart (PySem.mem_of_lookup h1) (PySem.mem_of_lookup h2)
 ·have hy:scope.names.lookup y=some .cell\/scope.names.lookup y=some .free:=hy
  rcases hy with hy | hy
  ·exact aR3 hy
  ·exact absurd rfl (S.nofree _ (PySem.mem_of_lookup hy))
 ·exact ao7 (x.above y c (PySem.mem_of_lookup h))
 ·have hi:i<vs.length:=by
   unfold start at h2
   by_cases hi:i<vs.length
   ·exact hi
   ·rw[E4 (by simpa using hi)]at h2
    rw[List.getElem?_replicate]at h2
    split at h2<;>cases h2
  have ha:vs[i]?=some v:=by
   unfold start at h2
   rw[ad2 (by simpa using hi),m9]at h2
   cases e:vs[i]? with
   | none=>rw[e]at h2;cases h2
   | some a=>rw[e]at h2;cases h2;rfl
  obtain⟨u,hu,rv⟩:=r.get ha
  have hp:ps[i]?=some y:=by
   rw[<- S.pre,L6 (by omega)];exact h1
  have ndP:ps.Nodup:=by rw[<- S.pre];exact S.nd.sublist (G3 _ _)
  refine⟨u,rv,?_⟩
  rcases S.par y (b8 hp) with k | k
  ·exact .inl ⟨k,aF4 ndP hp hu k⟩
  ·obtain⟨c,e⟩:=aR3 (n:=s.heap.objs.size+1) k
   refine .inr ⟨.inl k,c,e,?_⟩
   have q:=x.cell y c e
   rw[aF6 ndP hp hu (by show scope.names.lookup y≠_;rw[k];decide)]at q
   exact q
 ·exact e0.hok.fresh (ao7 (x.above y c (PySem.mem_of_lookup h)))
 ·unfold start
  show _=N.length
  rw[i9,a5,List.length_replicate]
  omega
theorem br4 {CX:CXT} {K:W.Frag} {mg:Str->Option Value} {base:Heap} {k:Nat} {name:Str} {body:List Stmt} {dV kV doc pm cdv ct oc:Value} {an od:Option Addr}
  {osl:Array (Option Value)} {sp:Sp} (lk:K.lookup f=some ⟨oc,od,.func (k9 name qual params body scope dV kV doc pm an cdv ct),osl⟩) (hcd:j6 K cdv qual=true) (S:t9 N ps scope)
  (len:∀ vs H Q E,sp vs H Q E->vs.length=ps.length)
  (hbody : ∀ (A : Around) (outer : List Env) (s : Shared) (H : Hp) (vs : List V) (Q : VK) (E : XK), W6 k (A.deeper (E1 qual scope s.heap.objs.size f cdv)) -> sp vs H Q E ->
   ∃ t,PSs (V0 CX P w K mg base N qual scope f cdv A outer s H E) body t/\t { nx:=fun _ H'=>Q .non H',rt:=Q } (start N vs) H) :
  x5 P w K mg base CX (k+1) f (k9 name qual params body scope dV kV doc pm an cdv ct) ps sp:=by
 refine⟨len,fun A outer s H args us vs Q E hr e0 hb r hsp=>?_⟩
 have hl:=len _ _ _ _ hsp
 have KX:K.In s.heap:=e0.mod.kin.keeps fun b o e=>(e0.bs b o e).1
 have lim:s.heap.NoLimit:=e0.mod.nolimit.keeps fun b o e=>(e0.bs b o e).1
 have hkind:∀ y∈ps.zip us,scope.names.lookup y.1=some .local\/(scope.names.lookup y.1=some .cell/\((cellsFrom (s.heap.objs.size+1) scope.names []).lookup y.1).isSome=true):=fun⟨n,v⟩ hy=>by
  rcases S.par n (ao2 hy).1 with q | q
  ·exact .inl q
  ·exact .inr ⟨q,PySem.W.cellsFrom_some _ _ _ (.inl q)⟩
 refine codeAny_call_function hr.depth (KX _ _ lk) rfl S.co S.gen rfl (PySem.W.codeRec_of KX hcd) (hb _ _ _ _ ?_)
 refine wpAny_newFunctionEnv_cells S.kind hkind fun env he s1 x=>?_
 subst he
 refine⟨lim.keeps x.toInCall.keep,codeAny_func ?_⟩
 obtain⟨t,ht,hq⟩:=hbody A outer s H vs Q E (hr.deeper _) hsp
 have I:Inv (V0 CX P w K mg base N qual scope f cdv A outer s H E) [] (start N vs) H s1:=bg7 S hr.hd e0 hl r x
 refine B6 (ht [] s1 (start N vs) H _ I hq) (fun fl s' hs=>?_) fun e s' hs=>hs
 have fin:∀ {σ':St} {H':Hp} {v:V} {u:Value},Inv (V0 CX P w K mg base N qual scope f cdv A outer s H E) [] σ' H' s'->RelV v u->Q v H'->CE outer P w H s Q u s':=
  fun {σ' H' v u} J rv q=>⟨v,H',J.os,J.bare,J.base,J.hok,rv,q⟩
 cases fl with
 | ret u =>
  obtain⟨v,σ',H',J,rv,q⟩:=hs
  exact fin J rv q
 | next =>
  obtain⟨σ',H',J,q⟩:=hs
  exact fin (v:=V.non) (u:=Value.none) J rfl q
 | brk =>
  obtain⟨_,_,_,q⟩:=hs
  exact False.elim q
 | cont =>
  obtain⟨_,_,_,q⟩:=hs
  exact False.elim q
section
variable {p:Pos} {es:List Expr} {t:TA} {id T:String} {r:List V->Hp->VK->Prop}
def tCB (r:List V->Hp->VK->Prop)(t:TA):TE:=fun σ H Q=>t σ H fun vs H1=>r vs H1 Q
theorem p7 (hc:R1 X (.builtin id) r)(hg:Gl X x)(hm:X.mg x=none)(hv:K5 x=some (.builtin id))(ha:PA X (e::es) t)(hn:x≠"__name__":=by decide)(hdb:(x == ("__debug__":Str))=false:=by decide)
  (he:A4 (e::es) X.env=(false,eval e X.env)::A4 es X.env:=by rfl)(hpl:(Y1 pos (A4 es X.env)).any (·.1)=false:=by rfl):PE X (.Call (.Name x p) (e::es) [] pos) (tCB r t):=by
 intro pins s σ H Q I h
 refine O7 (Y5 I hg hm hv ?_ hn hdb)
 exact PyProof.Rows.callWith_builtin1 (thn (ha pos pins s σ H _ I h) fun us s1 ⟨vs,H1,I1,r1,q1⟩=>hc pins s1 σ H1 vs us Q I1 r1 q1) he hpl
theorem G5 (hc:R1 X (.type T) r)(hg:Gl X x)(hm:X.mg x=none)(hv:K5 x=some (.type T))(ha:PA X (e::es) t)(hn:x≠"__name__":=by decide)(hdb:(x == ("__debug__":Str))=false:=by decide)
  (he:A4 (e::es) X.env=(false,eval e X.env)::A4 es X.env:=by rfl)(hpl:(Y1 pos (A4 es X.env)).any (·.1)=false:=by rfl):PE X (.Call (.Name x p) (e::es) [] pos) (tCB r t):=by
 intro pins s σ H Q I h
 refine O7 (Y5 I hg hm hv ?_ hn hdb)
 exact PyProof.Rows.callWith_type1 (thn (ha pos pins s σ H _ I h) fun us s1 ⟨vs,H1,I1,r1,q1⟩=>hc pins s1 σ H1 vs us Q I1 r1 q1) he hpl
end
end L2
namespace HT
open PySem PyProof.Rows
def lexLt:List Int->List Int->Bool
 | [],[]=>false
 | [],_::_=>true
 | _::_,[]=>false
 | x::xs,y::ys=>if x=y then lexLt xs ys else decide (x<y)
theorem ab4 (x y:Int)(xs ys:List Int):lexLt (x::xs) (y::ys)=if x=y then lexLt xs ys else decide (x<y):=rfl
theorem aC9:lexLt [] []=false:=rfl
theorem az3 (y:Int)(ys:List Int):lexLt [] (y::ys)=true:=rfl
theorem az4 (x:Int)(xs:List Int):lexLt (x::xs) []=false:=rfl
theorem bs0 (A:Around)(s:Shared)(a:Int)(t:Tok)(c:Int)(u:Tok):∃ e,SeqAt.EqAt A s (.int a t) (.int c u) e/\(e=true↔a=c):=
 ⟨(a == c),SeqAt.EqAt.int_int a t c u,by simp⟩
theorem bm6 (A:Around)(s:Shared)(a:Int)(t:Tok)(c:Int)(u:Tok)(prog:Program)(w:World)(E:Value->Shared->Prop)(Q:Value->Shared->Prop)(h:Q (.bool (decide (a<c))) s) :
  r6 (o7 prog w) A (richCompare .Lt (.int a t) (.int c u)) Q E s:=
 (PyProof.Rows.lt_int h:r6 (o7 prog w) A (B0 .Lt (.int a t) (.int c u)) Q E s)
section
open PySem.SeqAt
open PySem.AutoSeq1 (wpAny_loadPart')
open PySem.MeetsSeq PySem.MeetsSeq2 PySem.MeetsSeq3
theorem aC3 (l b:Addr) (items items2:Array Value) (n n2:Nat) (dd dd2:Option Addr) (sl sl2:Array (Option Value)) (ns ms:List Int) (hi:F1 items.toList ns) (hj:F1 items2.toList ms) :
  Meets (Builtin.«tuple.__lt__» ⟨[.ref l,.ref b],[]⟩)
   (fun _ R s => s.heap.get? l = some { cls := .type "tuple", dict := dd, data := .seq items n, slots := sl } /\ s.heap.get? b = some { cls := .type "tuple", dict := dd2, data := .seq items2 n2, slots := sl2 } /\
    R (.ok (.ret (.bool (lexLt ns ms)))) s):=
 .of_wp fun prog w A R s h=>by
  obtain⟨hp,g,d,tk,os⟩:=s;obtain⟨hl,hb,h⟩:=h
  have f2:=AutoSeq1.sub_tuple_tuple
  have z1:items.size=ns.length:=by rw[<- hi.length];simp
  have z2:items2.size=ms.length:=by rw[<- hj.length];simp
  wp_walk using wpAny_loadPart' hl,wpAny_loadPart' hb,ao6 _ (fun rest b s'=>b.1=none/\s'=⟨hp,g,d,tk,os⟩/\∃ (vs ws:List Value) (ns' ms':List Int),rest=vs.zip ws /\
   F1 vs ns'/\F1 ws ms'/\ns'.length+items2.size=ms'.length+items.size/\R (.ok (.ret (.bool (lexLt ns' ms')))) ⟨hp,g,d,tk,os⟩) _
  case turn =>
   rintro⟨y,x⟩ rest b s' ⟨hb',rfl,vs,ws,ns',ms',hz,hvi,hwi,hlen,hR⟩
   cases hvi with
   | nil=>rw[List.zip_nil_left]at hz;cases hz
   | cons a t hvi' =>
    cases hwi with
    | nil=>rw[List.zip_nil_right]at hz;cases hz
    | cons c u hwi' =>
     rw[T5]at hz
     injection hz with hyx hrest
     injection hyx with hy hx
     subst hy hx
     rw[ab4]at hR
     simp only[k8]at hlen
     obtain⟨e,he,hiff⟩:=bs0 A.in1 ⟨hp,g,d,tk,os⟩ a t c u
     refine a7 (he prog w _ _ ?_)
     cases e with
     | true =>
      rw[if_pos (hiff.mp rfl)]at hR
      wp_walk
      exact⟨rfl,rfl,_,_,_,_,hrest,hvi',hwi',by omega,hR⟩
     | false =>
      rw[if_neg (fun q=>absurd (hiff.mpr q) d4)]at hR
      have hri:=bm6 A.in1 ⟨hp,g,d,tk,os⟩ a t c u prog w
      wp_walk using hri
      exact⟨_,rfl,by simpa using hR⟩
  case fin =>
   rintro⟨b1,b2⟩ s' ⟨hb',rfl,vs,ws,ns',ms',hz,hvi,hwi,hlen,hR⟩
   simp only at hb'
   subst hb'
   have hv:lexLt ns' ms'=decide (items.size<items2.size):=by
    cases hvi with
    | nil =>
     cases hwi with
     | nil =>
      simp only[aa1]at hlen
      rw[aC9]
      exact(decide_eq_false (by omega)).symm
     | cons c u hw =>
      simp only[aa1,k8]at hlen
      rw[az3]
      exact(decide_eq_true (by omega)).symm
    | cons a t hv =>
     cases hwi with
     | nil =>
      simp only[aa1,k8]at hlen
      rw[az4]
      exact(decide_eq_false (by omega)).symm
     | cons c u hw =>
      rw[T5]at hz
      cases hz
   rw[hv]at hR
   wp_walk
   exact⟨_,rfl,by simpa [Builtin.Tuple.tupleCompareSizes] using hR⟩
  case h =>
   exact⟨rfl,rfl,items.toList,items2.toList,ns,ms,rfl,hi,hj,by omega,h⟩
end
theorem aV4 {b:Addr}{items items2:Array Value}{ms:List Int}(hl:IsTup s.heap l items)(hb:IsTup s.heap b items2)(hi:F1 items.toList ns)(hj:F1 items2.toList ms)
  (hu:A.units<al9)(h:Q (.bool (lexLt ns ms)) s):r6 (o7 prog w) A (B0 .Lt (.ref l) (.ref b)) Q E s:=by
 obtain⟨⟨cls,dd,data,sl⟩,ho,hc,n,hd⟩:=id hl
 obtain⟨⟨cls2,dd2,data2,sl2⟩,ho2,hc2,n2,hd2⟩:=id hb
 simp only at hc hd hc2 hd2
 subst hc hd hc2 hd2
 exact richCompare_meets_room (op:=.Lt) ⟨_,ho,rfl⟩ ⟨_,ho2,rfl⟩ PySem.F.slot_tuple_lt PySem.F.entry_tuple_lt (PySem.F.args_tuple_lt_2 _ _) (aC3 l b items items2 n n2 dd dd2 sl sl2 ns ms hi hj)
  ⟨ho,ho2,show Value.bool (lexLt ns ms)≠Value.notImplemented/\Q (.bool (lexLt ns ms)) s from ⟨(fun x=>nomatch x),h⟩⟩ hu
def sIx (n d:Nat):Option Int->Nat
 | none=>d
 | some v=>if v<0 then (v+(n:Int)).toNat else min v.toNat n
theorem aM5 (n d:Nat):sIx n d none=d:=rfl
theorem aZ2 (n d k:Nat):sIx n d (some (k:Int))=min k n:=by
 show (if (k:Int)<0 then ((k:Int)+(n:Int)).toNat else min (k:Int).toNat n)=min k n
 rw[if_neg (by omega),p0]
end HT
namespace L2
open PySem PySem.Spec PyProof.Rows
abbrev TO:=St->Hp->(Option Int->Hp->Prop)->Prop
def PO (X:Cx)(e:Option Expr)(t:TO):Prop:=
 ∀ (pins:List (Addr × Obj)) (s:Shared) (σ:St) (H:Hp) (Q:Option Int->Hp->Prop),Inv X pins σ H s->t σ H Q ->
  r6 (o7 X.prog X.w) X.A (evalPart e X.env) (fun u s'=>∃ o H',Inv X pins σ H' s'/\IsPart u o/\Q o H') X.xe s
def bx6:TO:=fun _ H Q=>Q none H
def bV0 (t:TE):TO:=fun σ H Q=>t σ H fun x H1=>∃ i,x=.int i/\Q (some i) H1
theorem intsAre_of:∀ {us:List Value},A8 (ns.map V.int) us->F1 us ns:=by
 induction ns with
 | nil=>intro us r;rw[List.map_nil]at r;cases r;exact .nil
 | cons n ns ih =>
  intro us r
  rw[n9]at r
  cases r with
  | cons r1 r2 =>
   obtain⟨t,e⟩:=r1
   subst e
   exact .cons n t (ih r2)
section
variable {lo hi:Option Expr} {tl th:TO} {p2:Pos}
theorem Q5:PO X none bx6:=by
 intro pins s σ H Q I h
 rw[evalPart_none]
 exact i8 ⟨none,H,I,.none,h⟩
theorem N9 (h:PE X e te):PO X (some e) (bV0 te):=by
 intro pins s σ H Q I hw
 rw[evalPart_some]
 refine thn (h pins s σ H _ I hw) fun u s1 ⟨x,H1,I1,r1,q1⟩=>?_
 obtain⟨i,rfl,q⟩:=q1
 obtain⟨t,rfl⟩:=r1
 exact⟨some i,H1,I1,.int i t,q⟩
def SlR (X:Cx)(r:V->Option Int->Option Int->Hp->VK->Prop):Prop:=
 ∀ (pins:List (Addr × Obj)) (s:Shared) (σ:St) (H:Hp) (x:V) (v vl vu:Value) (lo hi:Option Int) (sl:Addr) (Q:VK),Inv X pins σ H s->RelV x v->s.heap.IsSliceOf sl vl vu .none->IsPart vl lo->IsPart vu hi->r x lo hi H Q ->
  ∃ T id,typeLookup (.type T) "__getitem__"=pure (some (.builtin id))/\s.TypeIs v T/\r6 (o7 X.prog X.w) X.A (getItem v (.ref sl)) (EP X pins σ Q) X.xe s
def tSl (r:V->Option Int->Option Int->Hp->VK->Prop)(te:TE)(tl th:TO):TE:=fun σ H Q=>te σ H fun x H1=>tl σ H1 fun l H2=>th σ H2 fun u H3=>r x l u H3 Q
theorem L4 {r:V->Option Int->Option Int->Hp->VK->Prop}(hr:SlR X r)(he:PE X e te)(hl:PO X lo tl)(hu:PO X hi th):PE X (.Subscript e (.Slice lo hi none p2) pos) (tSl r te tl th):=by
 intro pins s σ H Q I h
 refine Subscript_ (thn (he pins s σ H _ I h) fun v s1 ⟨x,H1,I1,r1,q1⟩=>?_)
 refine wpAny_Slice (thn (hl pins s1 σ H1 _ I1 q1) fun vl s2 ⟨l,H2,I2,pl,q2⟩=>thn (hu pins s2 σ H2 _ I2 q2) fun vu s3 ⟨u,H3,I3,pu,q3⟩=>?_)
 rw[evalPart_none]
 refine i8 ?_
 have I4:Inv X pins σ H3 { s3 with heap:=s3.heap.push { cls:=.type "slice",data:=.fields #[vl,vu,.none] } }:=I3.kept (t':=s3.toks) fun b ob q=>a8 _ q
 obtain⟨T,id,hT,ht,hg⟩:=hr pins { s3 with heap:=s3.heap.push { cls:=.type "slice",data:=.fields #[vl,vu,.none] } } σ H3 x v vl vu l u s3.heap.objs.size Q I4 r1 (Heap.IsSliceOf.new ..) pl pu q3
 show r6 (o7 X.prog X.w) X.A (subscriptTail e (.Slice lo hi none p2) v (.ref s3.heap.objs.size)) (EP X pins σ Q) X.xe { s3 with heap:=s3.heap.push { cls:=.type "slice",data:=.fields #[vl,vu,.none] } }
 exact tail_any (ops:=[.ref s3.heap.objs.size,v]) ht hT hg (by with_unfolding_all rfl)
def al1 (xs:List V)(lo hi:Option Int):List V:=(xs.drop (HT.sIx xs.length 0 lo)).take (HT.sIx xs.length xs.length hi - HT.sIx xs.length 0 lo)
theorem aQ9 (xs:List V)(lo hi:Option Int):(al1 xs lo hi).length<=xs.length:=by
 unfold al1
 rw[l6,x6]
 omega
def cd3 (K:W.Frag):R2:=fun x y H Q=>∃ a b ns ms,x=.ref a/\y=.ref b/\SqT K H a (ns.map V.int)/\SqT K H b (ms.map V.int)/\Q (.bl (HT.lexLt ns ms)) H
theorem bN7 (hu:X.A.units<al9):OpR X (B0 .Lt) (cd3 X.K):=by
 intro pins s σ H x y v u Q I rx ry h
 obtain⟨a,b,ns,ms,rfl,rfl,ha,hb,q⟩:=h
 cases rx
 cases ry
 obtain⟨its,r1,p1,_⟩:=I.tuple ha
 obtain⟨its2,r2,p2,_⟩:=I.tuple hb
 have i1:F1 its.toArray.toList ns:=intsAre_of r1
 have i2:F1 its2.toArray.toList ms:=intsAre_of r2
 exact HT.aV4 p1 p2 i1 i2 hu ⟨.bl (HT.lexLt ns ms),H,I,rfl,q⟩
end
def ixN (n:Nat)(i:Int):Option Nat:=if 0<=i then (if i<n then some i.toNat else none) else if -(n:Int)<=i then some (i+n).toNat else none
def atI {α:Type}(xs:List α)(i:Int):Option α:=(ixN xs.length i).bind fun j=>xs[j]?
theorem ba8 {i:Int}(h:ixN n i=some j):seqIndex? i n=some j/\j<n /\ -(n:Int)<=i/\i<n:=by
 unfold ixN at h
 by_cases h0:0<=i
 ·rw[if_pos h0]at h
  by_cases h1:i<n
  ·rw[if_pos h1]at h
   have e:i.toNat=j:=Option.some.inj h
   exact⟨by rw[bT9 h0 h1,e],by omega,by omega,h1⟩
  ·rw[if_neg h1]at h;cases h
 ·rw[if_neg h0]at h
  by_cases h1:-(n:Int)<=i
  ·rw[if_pos h1]at h
   have e:(i+n).toNat=j:=Option.some.inj h
   exact⟨by rw[bI9 (by omega) h1,e],by omega,h1,by omega⟩
  ·rw[if_neg h1]at h;cases h
theorem aJ7 {α:Type}{xs:List α}{i:Int}{v:α}(h:atI xs i=some v):∃ j,seqIndex? i xs.length=some j/\xs[j]?=some v/\j<xs.length /\ -(xs.length:Int)<=i/\i<xs.length:=by
 unfold atI at h
 cases e:ixN xs.length i with
 | none=>rw[e]at h;cases h
 | some j =>
  rw[e]at h
  obtain⟨h1,h2,h3,h4⟩:=ba8 e
  exact⟨j,h1,h,h2,h3,h4⟩
theorem t7 {α:Type}{xs:List α}{v:α}(h:xs[j]?=some v):atI xs (j:Int)=some v:=by
 have hj:j<xs.length:=(c4.mp h).1
 have e:ixN xs.length (j:Int)=some j:=by
  unfold ixN
  rw[if_pos (by omega),if_pos (by omega)];simp
 unfold atI;rw[e];exact h
def aw2 (b:Expr):Prop:=∀ o i,bT8 b false o i=operate [o,i] (getItem o i)
def IxR (X:Cx)(r:R2):Prop:=
 ∀ (value slice:Expr) (pins:List (Addr × Obj)) (s:Shared) (σ:St) (H:Hp) (x y:V) (v u:Value) (Q:VK),Inv X pins σ H s->RelV x v->RelV y u->r x y H Q ->
  bT8 slice false v u=operate [v,u] (getItem v u)->r6 (o7 X.prog X.w) X.A (subscriptTail value slice v u) (EP X pins σ Q) X.xe s
def MtR (X:Cx)(id:String)(r:V->List V->Hp->VK->Prop):Prop:=
 ∀ (pins:List (Addr × Obj)) (s:Shared) (σ:St) (H:Hp) (x:V) (xs:List V) (v:Value) (us:List Value) (Q:VK),Inv X pins σ H s->RelV x v->A8 xs us->r x xs H Q ->
  r6 (o7 X.prog X.w) X.A (call (.builtin id) (v::us)) (EP X pins σ Q) X.xe s
section
variable {a b:Expr} {tb:TE}
theorem IxR.or {r r':R2}(h:IxR X r)(h':IxR X r'):IxR X (fun x y H Q=>r x y H Q\/r' x y H Q):=by
 intro value slice pins s σ H x y v u Q I rx ry q hs
 rcases q with q | q
 ·exact h value slice pins s σ H x y v u Q I rx ry q hs
 ·exact h' value slice pins s σ H x y v u Q I rx ry q hs
theorem C6 {r:R2}(hr:IxR X r)(ha:PE X a ta)(hb:PE X b tb)(hs:aw2 b):PE X (.Subscript a b pos) (tOp r ta tb):=by
 intro pins s σ H Q I h
 exact Subscript_ (bD8 ha hb I h fun v u s2 x y H2 I2 rx ry q=>hr a b pins s2 σ H2 x y v u Q I2 rx ry q (hs _ _))
def bX2 (K:W.Frag):R2:=fun x y H Q=>∃ p xs i v,x=.ref p/\y=.int i/\SqL K H p xs/\atI xs i=some v/\Q v H
def bM8 (K:W.Frag):R2:=fun x y H Q=>∃ p xs i v,x=.ref p/\y=.int i/\SqT K H p xs/\atI xs i=some v/\Q v H
def bX1:R2:=fun x y H Q=>∃ z i c,x=.str z/\y=.int i/\z.length<=f6/\atI z.cps.toList i=some c/\Q (.str ⟨#[c]⟩) H
theorem D0:IxR X (bX2 X.K):=by
 intro value slice pins s σ H x y v u Q I rx ry h hs
 obtain⟨p,xs,i,z,rfl,rfl,hq,he,q⟩:=h
 cases rx
 obtain⟨t,rfl⟩:=ry
 obtain⟨its,r,pl,hz⟩:=I.list hq
 obtain⟨j,h1,h2,h3,h4,h5⟩:=aJ7 he
 obtain⟨w,ew,rw'⟩:=r.get h2
 have hl:=r.length
 have hn:=ak9
 have fin:EP X pins σ Q w s:=⟨z,H,I,rw',q⟩
 by_cases h0:0<=i
 ·have hj:i.toNat=j:=by
   rw[bT9 h0 h5]at h1
   exact Option.some.inj h1
  exact item_listR pl.isList h0 (by omega) (by rw[hj];simpa using ew) fin hs
 ·have hj:(i+(its.toArray.size:Int)).toNat=j:=by
   rw[bI9 (by omega) h4]at h1
   rw[d9,<- hl]
   exact Option.some.inj h1
  exact bF3 (x:=w) pl.isList.typeIs slot_list_getitem.lookup
   (wpAny_getItem_list_neg (Q:=fun r s'=>r=w/\EP X pins σ Q r s') pl.isList (by omega) (by rw[d9]<;>omega) (by omega) (by rw[hj];simpa using ew) ⟨rfl,fin⟩) hs
theorem M6:IxR X (bM8 X.K):=by
 intro value slice pins s σ H x y v u Q I rx ry h hs
 obtain⟨p,xs,i,z,rfl,rfl,hq,he,q⟩:=h
 cases rx
 obtain⟨t,rfl⟩:=ry
 obtain⟨its,r,pl,hz⟩:=I.tuple hq
 obtain⟨j,h1,h2,h3,h4,h5⟩:=aJ7 he
 obtain⟨w,ew,rw'⟩:=r.get h2
 have hl:=r.length
 have hn:=ak9
 have fin:EP X pins σ Q w s:=⟨z,H,I,rw',q⟩
 exact bF3 (x:=w) pl.typeIs slot_tuple_getitem.lookup
  (getItem_tuple (j:=j) (Q:=fun r s'=>r=w/\EP X pins σ Q r s') pl (by omega) (by omega) (by rw[d9,<- hl];exact h1) (by simpa using ew) ⟨rfl,fin⟩) hs
theorem bP5:IxR X bX1:=by
 intro value slice pins s σ H x y v u Q I rx ry h hs
 obtain⟨z,i,c,rfl,rfl,hz,he,q⟩:=h
 obtain⟨t,rfl⟩:=rx
 obtain⟨t',rfl⟩:=ry
 obtain⟨j,h1,h2,h3,h4,h5⟩:=aJ7 he
 have hl:z.cps.toList.length=z.length:=by simp[Str.length]
 rw[hl]at h1 h4 h5
 have hn:=ak9
 exact tail_any (aj6 s z t) slot_str_getitem.lookup (getItem_str (c:=c) (by
  have e1:decide (i < -(2 ^ 63:Int))=false:=decide_eq_false (by omega)
  have e2:decide (i≥2 ^ 63)=false:=decide_eq_false (by omega)
  rw[e1,e2,Bool.or_false]) (by rw[h1];simpa using h2) ⟨.str ⟨#[c]⟩,H,I.tok _,⟨_,rfl⟩,q⟩) hs
def rIx (K:W.Frag):R2:=fun x y H Q=>bX2 K x y H Q\/bM8 K x y H Q\/bX1 x y H Q
theorem bq3:IxR X (rIx X.K):=D0.or (M6.or bP5)
theorem aV3 (its:List Value)(n j:Nat)(u:Value):Obj.mapSeq (·.setIfInBounds j u) { cls:=.type "list",data:=.seq its.toArray n }={ cls:=.type "list",data:=.seq (its.set j u).toArray n }:=by
 simp[Obj.mapSeq]
theorem Inv.lst {pins:List (Addr × Obj)}{σ:St}{H:Hp}{s:Shared}{p:Addr}{xs:List V}(I:Inv X pins σ H s)(h:H p=some (.lst xs)) :
  ∃ (its:List Value) (n:Nat),A8 xs its/\s.heap.get? p=some { cls:=.type "list",data:=.seq its.toArray n }/\xs.length<=f6:=by
 obtain⟨z,its,n,r,e⟩:=I.hok p _ h
 exact⟨its,n,r,e,z⟩
theorem Inv.lstUpd {p:Addr}{xs:List V}{its its':List Value}{n':Nat}{f:Obj->Obj}(I:Inv X pins σ H s)(h:H p=some (.lst xs))
  (ho:s.heap.get? p=some { cls:=.type "list",data:=.seq its.toArray n })(hf:f { cls:=.type "list",data:=.seq its.toArray n }={ cls:=.type "list",data:=.seq its'.toArray n' })(r:A8 ys its')(hz:ys.length<=f6)(t:Nat) :
  Inv X pins σ (upd H p (.lst ys)) { s with heap:=s.heap.update p f,toks:=t }:=by
 have e:(s.heap.update p f).get? p=some { cls:=.type "list",data:=.seq its'.toArray n' }:=by
  rw[W0 f ho (by rw[hf]<;>rfl),hf]
 refine I.write (x:=p) (e:=p) (by rw[h];trivial) (.inl rfl) (fun b u hb q=>(C5 _ _ (Ne.symm hb)).trans q) ⟨_,e⟩ ?_
 exact⟨hz,its',n',r,e⟩
def bX0:V->V->V->Hp->(Hp->Prop)->Prop:=fun o i v H Q=>∃ p xs k j,o=.ref p/\i=.int k/\H p=some (.lst xs)/\ixN xs.length k=some j/\Q (upd H p (.lst (xs.set j v)))
theorem set_list:cb0 X bX0:=by
 intro pins s σ H o i v ov iv u Q I ro ri rv h
 obtain⟨p,xs,k,j,rfl,rfl,hp,hj,q⟩:=h
 cases ro
 obtain⟨t,rfl⟩:=ri
 obtain⟨its,n,r,ho,hz⟩:=I.lst hp
 obtain⟨h1,h2,h3,h4⟩:=ba8 hj
 have hl:=r.length
 have hn:=ak9
 have I':Inv X pins σ (upd H p (.lst (xs.set j v))) { s with heap:=s.heap.update p (Obj.mapSeq (·.setIfInBounds j u)) }:=
  I.lstUpd hp ho (aV3 its n j u) (r.set rv j) (by rw[O6];exact hz) s.toks
 by_cases h0:0<=k
 ·have hk:k.toNat=j:=by
   rw[bT9 h0 h4]at h1
   exact Option.some.inj h1
  exact PySem.W.ki_setAt ho h0 (by omega) (by rw[d9,<- hl];exact h4) (by rw[hk];exact⟨_,I',q⟩)
 ·have hk:(k+(its.toArray.size:Int)).toNat=j:=by
   rw[bI9 (by omega) h3]at h1
   rw[d9,<- hl]
   exact Option.some.inj h1
  exact PySem.W.ki_setBack ho (by omega) (by rw[d9,<- hl];exact h3) (by omega) (by rw[hk];exact⟨_,I',q⟩)
theorem aH1 (lo hi:Option Int)(n:Nat):(ac8 lo hi none n).1=((HT.sIx n 0 lo:Nat):Int)/\(ac8 lo hi none n).2.1=((HT.sIx n n hi:Nat):Int)/\(ac8 lo hi none n).2.2=1:=by
 refine⟨?_,?_,rfl⟩
 ·cases lo with
  | none=>simp[ac8,HT.sIx]
  | some i =>
   simp only[ac8,HT.sIx,bI2,show (1:Int) > 0 by decide,if_true]
   by_cases h:i<0
   ·simp only[h,if_true]<;>omega
   ·simp only[h,if_false]<;>omega
 ·cases hi with
  | none=>simp[ac8,HT.sIx]
  | some i =>
   simp only[ac8,HT.sIx,bI2,show (1:Int) > 0 by decide,if_true]
   by_cases h:i<0
   ·simp only[h,if_true]<;>omega
   ·simp only[h,if_false]<;>omega
theorem aC5 (its:List Value)(lo hi:Option Int):slicePick its.toArray lo hi none=((its.drop (HT.sIx its.length 0 lo)).take (HT.sIx its.length its.length hi - HT.sIx its.length 0 lo)).toArray:=by
 obtain⟨h1,h2,h3⟩:=aH1 lo hi its.toArray.size
 unfold slicePick
 rw[h1,h2,h3]
 simp only[sliceRange_one,pick_run,d9]<;>rfl
def cd1 (K:W.Frag):V->Option Int->Option Int->Hp->VK->Prop:=fun x lo hi H Q=>∃ a xs,x=.ref a/\SqL K H a xs/\∀ p,H p=none->Q (.ref p) (upd H p (.lst (al1 xs lo hi)))
theorem Q4:SlR X (cd1 X.K):=by
 intro pins s σ H x v vl vu lo hi sl Q I rx hs pl pu h
 obtain⟨a,xs,rfl,hx,q⟩:=h
 cases rx
 obtain⟨its,r,ht,hz⟩:=I.list hx
 have hlen:=r.length
 refine⟨"list",_,slot_list_getitem.lookup,ht.isList.typeIs,?_⟩
 refine wpAny_getItem_list_slice ht.isList hs pl pu .none (by simp) ?_ (by rw[d9]<;>omega)
 rw[aC5,<- hlen]
 refine⟨.ref s.heap.objs.size,_,I.laid (t':=s.toks) (o:=.lst (al1 xs lo hi)) (fun b ob q=>a8 _ q) (c6 _) ?_,rfl,q _ (I.hok.fresh (c6 _))⟩
 exact⟨p9 (aQ9 xs lo hi) hz,_,0,(r.drop (HT.sIx xs.length 0 lo)).take (HT.sIx xs.length xs.length hi - HT.sIx xs.length 0 lo),j8 _ rfl⟩
def at1:V->Bool
 | .non=>true
 | .bl _=>true
 | .int _=>true
 | .str _=>true
 | _=>false
def eqV:V->V->Bool
 | .non,.non=>true
 | .bl a,.bl b=>a == b
 | .bl a,.int b=>(if a then 1 else 0) == b
 | .int a,.bl b=>a == (if b then 1 else 0)
 | .int a,.int b=>a == b
 | .str a,.str b=>a == b
 | _,_=>false
theorem bQ9 {y x:V}(ry:RelV y u)(rx:RelV x v)(fy:at1 y=true)(fx:at1 x=true):SeqAt.EqAt A s u v (eqV y x):=by
 cases y with
 | non =>
  cases ry
  cases x with
  | non=>cases rx;exact SeqAt.EqAt.same _
  | bl b=>cases rx;exact SeqAt.EqAt.none_bool b
  | int b=>obtain⟨t,rfl⟩:=rx;exact SeqAt.EqAt.none_int b t
  | str b=>obtain⟨t,rfl⟩:=rx;exact SeqAt.EqAt.none_str b t
  | _=>exact absurd (show false=true from fx) d4
 | bl a =>
  cases ry
  cases x with
  | non=>cases rx;exact SeqAt.EqAt.bool_none a
  | bl b=>cases rx;exact SeqAt.EqAt.bool_bool a b
  | int b=>obtain⟨t,rfl⟩:=rx;exact SeqAt.EqAt.bool_int a b t
  | str b=>obtain⟨t,rfl⟩:=rx;exact SeqAt.EqAt.bool_str a b t
  | _=>exact absurd (show false=true from fx) d4
 | int a =>
  obtain⟨t',rfl⟩:=ry
  cases x with
  | non=>cases rx;exact SeqAt.EqAt.int_none a t'
  | bl b=>cases rx;exact SeqAt.EqAt.int_bool a t' b
  | int b=>obtain⟨t,rfl⟩:=rx;exact SeqAt.EqAt.int_int a t' b t
  | str b=>obtain⟨t,rfl⟩:=rx;exact SeqAt.EqAt.int_str a t' b t
  | _=>exact absurd (show false=true from fx) d4
 | str a =>
  obtain⟨t',rfl⟩:=ry
  cases x with
  | non=>cases rx;exact SeqAt.EqAt.str_none a t'
  | bl b=>cases rx;exact SeqAt.EqAt.str_bool a t' b
  | int b=>obtain⟨t,rfl⟩:=rx;exact SeqAt.EqAt.str_int a t' b t
  | str b=>obtain⟨t,rfl⟩:=rx;exact SeqAt.EqAt.str_str a t' b t
  | _=>exact absurd (show false=true from fx) d4
 | _=>exact absurd (show false=true from fy) d4
def eqU (x:V)(u:Value):Bool:=match u with
 | .none=>eqV .non x
 | .bool b=>eqV (.bl b) x
 | .int i _=>eqV (.int i) x
 | .str z _=>eqV (.str z) x
 | _=>false
theorem br9 {x y:V}(r:RelV y u)(f:at1 y=true):eqU x u=eqV y x:=by
 cases y with
 | non=>cases r;rfl
 | bl b=>cases r;rfl
 | int i=>obtain⟨t,rfl⟩:=r;rfl
 | str z=>obtain⟨t,rfl⟩:=r;rfl
 | _=>exact absurd (show false=true from f) d4
theorem an9 {x:V}:∀ {xs:List V} {us:List Value},A8 xs us->xs.all at1=true->us.any (eqU x)=xs.any fun y=>eqV y x
 | _,_,.nil,_=>rfl
 | y::xs,u::us,.cons r t,f=>by
  rw[List.all_cons,m7]at f
  rw[ai4,ai4,br9 r f.1,an9 t f.2]
theorem af4 {x:V}(rx:RelV x v)(fx:at1 x=true):∀ {xs:List V} {us:List Value},A8 xs us->xs.all at1=true->∀ u∈us,SeqAt.EqAt A s u v (eqU x u)
 | _,_,.nil,_=>fun u hu=>by cases hu
 | y::xs,u::us,.cons r t,f=>fun u' hu=>by
  rw[List.all_cons,m7]at f
  rcases d3.mp hu with rfl | hu
  ·rw[br9 r f.1];exact bQ9 r rx f.1 fx
  ·exact af4 rx fx t f.2 u' hu
def inV (x:V)(xs:List V):Bool:=xs.any fun y=>eqV y x
def rIn (K:W.Frag)(neg:Bool):R2:=fun x y H Q=>∃ p xs,y=.ref p/\(SqL K H p xs\/SqT K H p xs)/\at1 x=true/\xs.all at1=true/\Q (.bl (if neg then !inV x xs else inV x xs)) H
theorem bf2:OpR X (B0 .In) (rIn X.K false):=by
 intro pins s σ H x y v u Q I rx ry h
 obtain⟨p,xs,rfl,hq,fx,fs,q⟩:=h
 cases ry
 rcases hq with hq | hq
 ·obtain⟨its,r,pl,hz⟩:=I.list hq
  refine SeqAt.in_listAt (eqU x) pl.isList (fun w hw=>af4 rx fx r fs w (by simpa using hw)) ⟨.bl _,H,I,rfl,?_⟩
  rw[show its.toArray.any (eqU x)=its.any (eqU x) by simp,an9 r fs]
  exact q
 ·obtain⟨its,r,pl,hz⟩:=I.tuple hq
  refine SeqAt.in_tupleAt (eqU x) pl (fun w hw=>af4 rx fx r fs w (by simpa using hw)) ⟨.bl _,H,I,rfl,?_⟩
  rw[show its.toArray.any (eqU x)=its.any (eqU x) by simp,an9 r fs]
  exact q
theorem aI3:OpR X (B0 .NotIn) (rIn X.K true):=by
 intro pins s σ H x y v u Q I rx ry h
 obtain⟨p,xs,rfl,hq,fx,fs,q⟩:=h
 cases ry
 rcases hq with hq | hq
 ·obtain⟨its,r,pl,hz⟩:=I.list hq
  refine SeqAt.notIn_listAt (eqU x) pl.isList (fun w hw=>af4 rx fx r fs w (by simpa using hw)) ⟨.bl _,H,I,rfl,?_⟩
  rw[show its.toArray.any (eqU x)=its.any (eqU x) by simp,an9 r fs]
  exact q
 ·obtain⟨its,r,pl,hz⟩:=I.tuple hq
  refine SeqAt.notIn_tupleAt (eqU x) pl (fun w hw=>af4 rx fx r fs w (by simpa using hw)) ⟨.bl _,H,I,rfl,?_⟩
  rw[show its.toArray.any (eqU x)=its.any (eqU x) by simp,an9 r fs]
  exact q
theorem v9:R1 X (.builtin "len") (fun xs H Q=>∃ p ys,xs=[.ref p]/\(SqL X.K H p ys\/SqT X.K H p ys)/\Q (.int ys.length) H):=by
 intro pins s σ H xs us Q I r h
 obtain⟨p,ys,rfl,hq,q⟩:=h
 obtain⟨u,rfl,rx⟩:=vals1 r
 cases rx
 have hn:=ak9
 rcases hq with hq | hq
 ·obtain⟨its,r',pl,hz⟩:=I.list hq
  have hlen:=r'.length
  exact Calls.call_len_list pl.isList (by simp only[d9]<;>omega) ⟨.int ys.length,H,I.tok _,⟨s.toks+1,by rw[d9,hlen]⟩,q⟩
 ·obtain⟨its,r',pl,hz⟩:=I.tuple hq
  have hlen:=r'.length
  exact len_tuple pl (by simp only[d9]<;>omega) ⟨.int ys.length,H,I.tok _,⟨s.toks+1,by rw[d9,hlen]⟩,q⟩
theorem S9:R1 X (.type "tuple") (fun xs H Q=>∃ p ys,xs=[.ref p]/\((SqL X.K H p ys/\∀ l,H l=none->Q (.ref l) (upd H l (.tup ys)))\/(SqT X.K H p ys/\Q (.ref p) H))):=by
 intro pins s σ H xs us Q I r h
 obtain⟨p,ys,rfl,h⟩:=h
 obtain⟨u,rfl,rx⟩:=vals1 r
 cases rx
 rcases h with⟨hq,q⟩ | ⟨hq,q⟩
 ·obtain⟨its,r',pl,hz⟩:=I.list hq
  have hlen:=r'.length
  refine call_tuple_list pl.isList (fun h' kp=>?_) (by simp only[d9]<;>omega)
  have I1:Inv X pins σ H { s with heap:=h' }:=I.kept (t':=s.toks) kp
  have I2:Inv X pins σ (upd H h'.objs.size (.tup ys)) { s with heap:=h'.push { cls:=.type "tuple",data:=.seq its.toArray } } :=
   I1.laid (t':=s.toks) (fun b o e=>a8 _ e) (c6 _) (show M9 X.prog X.w _ _ _ (.tup ys) from ⟨hz,its,r',IsTup.new _ _⟩)
  exact⟨.ref h'.objs.size,_,I2,rfl,q _ (I1.hok.fresh (c6 _))⟩
 ·obtain⟨its,r',pl,hz⟩:=I.tuple hq
  exact call_tuple_same pl ⟨.ref p,H,I,rfl,q⟩
def tyV (K:W.Frag)(T:String)(x:V)(H:Hp):Prop:=match x with
 | .str _=>T="str"
 | .int _=>T="int"
 | .ref p=>(T="list"/\∃ xs,SqL K H p xs)\/(T="tuple"/\∃ o,K.lookup p=some o/\o.cls=.type "tuple"/\o.dict=none) \/
   (T="dict"/\((∃ kvs,H p=some (.dK kvs))\/∃ kvs,H p=some (.dT kvs)))\/(T="set"/\∃ S n,H p=some (.set S n))
 | _=>False
theorem bK3 {T:String}{x:V}(I:Inv X pins σ H s)(r:RelV x v)(ty:tyV X.K T x H) :
  s.TypeIs v T/\∀ a,v=.ref a->∃ ob,s.heap.get? a=some ob/\ob.dict=none:=by
 cases x with
 | str z =>
  obtain⟨t,rfl⟩:=r
  cases (show T="str" from ty)
  exact⟨aj6 s z t,fun _ e=>nomatch e⟩
 | int i =>
  obtain⟨t,rfl⟩:=r
  cases (show T="int" from ty)
  exact⟨typeIs_int s i t,fun _ e=>nomatch e⟩
 | ref p =>
  cases r
  rcases ty with⟨rfl,xs,hq⟩ | ⟨rfl,o,hk,hc,hd⟩ | ⟨rfl,hk⟩ | ⟨rfl,S,n,hk⟩
  ·obtain⟨its,_,pl,_⟩:=I.list hq
   refine⟨pl.isList.typeIs,fun a e=>?_⟩
   cases e
   obtain⟨o,n,e,c,hd,_⟩:=pl
   exact⟨o,e,hd⟩
  ·refine⟨⟨o,I.kIn p o hk,hc⟩,fun a e=>?_⟩
   cases e
   exact⟨o,I.kIn _ o hk,hd⟩
  ·have z:∃ o,s.heap.get? p=some o/\o.ExactDict:=by
    rcases hk with⟨kvs,hk⟩ | ⟨kvs,hk⟩
    ·obtain⟨_,_,_,_,o,_,_,e,ex,_⟩:=I.hok p _ hk
     exact⟨o,e,ex⟩
    ·obtain⟨_,_,_,_,o,_,_,e,ex,_⟩:=I.hok p _ hk
     exact⟨o,e,ex⟩
   obtain⟨o,e,ex⟩:=z
   refine⟨⟨o,e,ex.1⟩,fun a e2=>?_⟩
   cases e2
   exact⟨o,e,ex.2.1⟩
  ·obtain⟨o,_,_,_,e,ex,_⟩:=I.hok p _ hk
   refine⟨⟨o,e,ex.1⟩,fun a e2=>?_⟩
   cases e2
   exact⟨o,e,ex.2.1⟩
 | _=>exact False.elim ty
def tBM (K:W.Frag)(T:String)(r:V->List V->Hp->VK->Prop)(to:TE)(t:TA):TE:=fun σ H Q=>to σ H fun x H1=>tyV K T x H1/\t σ H1 fun xs H2=>r x xs H2 Q
variable {o:Expr} {es:List Expr} {to:TE} {t:TA} {name:Str} {apos cpos:Pos} {T id:String}
theorem X3 (pa:PlainAttrs T) (slot:Slot T name id) (hty:typeOf (.builtin id)=pure (.type "method_descriptor")) (hm:MtR X id r) (ho:PE X o to) (ha:PA X (e::es) t)
  (hbase:bv9 o name X.env (eval o X.env)=eval o X.env:=by rfl)
  (hfew : ((Y1 cpos (A4 (e :: es) X.env)).all (fun x => !x.1) && (bv8 cpos (aC1 [] X.env)).all (fun x => x.1.isSome)
   && decide ((e::es).length+([]:List aC0).length+(if ([]:List aC0).isEmpty then 0 else 1)<30))=true:=by rfl)
  (hline:(apos.endLine == cpos.line)=true:=by rfl) (hs:A4 (e::es) X.env=(false,eval e X.env)::A4 es X.env:=by rfl) (hplain:(Y1 cpos (A4 es X.env)).any (·.1)=false:=by rfl) :
  PE X (.Call (.Attribute o name apos) (e::es) [] cpos) (tBM X.K T r to t):=by
 intro pins s σ H Q I h
 refine wpAny_Call_method_late hbase hfew hline rfl (thn (ho pins s σ H _ I h) fun v s1 ⟨x,H1,I1,r1,ty,q1⟩=>?_)
 obtain⟨h1,h2⟩:=bK3 I1 r1 ty
 refine⟨T,id,pa,slot,hty,h1,h2,?_⟩
 have hA:=ha cpos pins s1 σ H1 _ I1 q1
 rw[hs]at hA ⊢
 refine Calls.callWith_builtin (by show (false || (Y1 cpos (A4 es X.env)).any (·.1))=false;rw[hplain]<;>rfl) (Calls.evalArgs_plain ?_)
 exact thn hA fun us s2 ⟨vs,H2,I2,r2,q2⟩=>hm pins s2 σ H2 x vs v us Q I2 r1 r2 q2
/- xs.append(e),list.index on a module's tuple .. are MtR facts of 06m -/
end
def MtM (X:Cx)(id:String)(r:V->List V->Hp->VK->Prop):Prop:=
 ∀ (pins:List (Addr × Obj)) (s:Shared) (σ:St) (H:Hp) (x:V) (xs:List V) (v:Value) (us:List Value) (Q:VK),Inv X pins σ H s->RelV x v->A8 xs us->r x xs H Q ->
  r6 (o7 X.prog X.w) X.A (call (.builtin id) (v::us)) (EP X pins σ Q) X.xe s
theorem A8.one:∀ {x:V} {us:List Value},A8 [x] us->∃ u,us=[u]/\RelV x u
 | _,_,.cons r .nil=>⟨_,rfl,r⟩
theorem A8.two:∀ {x y:V} {us:List Value},A8 [x,y] us->∃ u v,us=[u,v]/\RelV x u/\RelV y v
 | _,_,_,.cons r (.cons q .nil)=>⟨_,_,rfl,r,q⟩
theorem A8.rep {xs:List V}(h:A8 xs us):∀ k:Nat,A8 (B4 k xs).flatten (B4 k us).flatten
 | 0=>.nil
 | k+1=>by
  rw[G9,G9,L7,L7]
  exact A8.append h (A8.rep h k)
theorem foldl_rep (its:List Value):∀ (k:Nat) (acc:List Value),
  Z0 (fun x1 x2=>x1++x2) acc.toArray (B4 k its.toArray)=(acc++(B4 k its).flatten).toArray
 | 0,acc=>by simp
 | k+1,acc=>by
  have e:acc.toArray++its.toArray=(acc++its).toArray:=by simp
  have e2:(acc++its)++(B4 k its).flatten=acc++(B4 (k+1) its).flatten:=by
   rw[G9,L7,q8]
  rw[<- e2,<- foldl_rep its k (acc++its),<- e,G9,aa2]
section
variable {b:Addr} {xs zs:List V}
theorem Inv.lset {its its':List Value}{f:Array Value->Array Value}{t':Nat}(I:Inv X pins σ H s)(hH:H l=some (.lst xs))
  (e:s.heap.get? l=some { cls:=.type "list",data:=.seq its.toArray n })(hf:f its.toArray=its'.toArray)(hv:A8 ys its')(hz:ys.length<=f6) :
  Inv X pins σ (upd H l (.lst ys)) { s with heap:=s.heap.update l (Obj.mapSeq f),toks:=t' }:=by
 have q:=PySem.IsL.update e f
 rw[hf]at q
 refine I.write (x:=l) (e:=l) (by rw[hH];exact trivial) (.inl rfl) (fun b' u hb hu=>(C5 s.heap (Obj.mapSeq f) (Ne.symm hb)).trans hu) ⟨_,q⟩ ?_
 exact⟨hz,its',_,hv,q⟩
theorem Inv.lnew {its:List Value}{t':Nat}(I:Inv X pins σ H s)(hv:A8 ys its)(hz:ys.length<=f6) :
  Inv X pins σ (upd H s.heap.objs.size (.lst ys)) { s with heap:=s.heap.push { cls:=.type "list",data:=.seq its.toArray },toks:=t' } :=
 I.laid (fun _ _ q=>a8 _ q) (c6 _) ⟨hz,its,0,hv,j8 _ rfl⟩
theorem Inv.fresh (I:Inv X pins σ H s):H s.heap.objs.size=none:=I.hok.fresh (c6 _)
theorem Inv.lstM (I:Inv X pins σ H s)(hH:H l=some (.lst xs)):xs.length<=f6/\∃ (its:List Value) (n:Nat),A8 xs its/\xs.length=its.length/\s.heap.get? l=some { cls:=.type "list",data:=.seq its.toArray n }:=by
 obtain⟨z,its,n,r,e⟩:=I.hok l _ hH
 exact⟨z,its,n,r,r.length,e⟩
theorem bo7 (h:n<=f6):Builtin.List.listTooLong n=false:=by
 unfold Builtin.List.listTooLong
 exact decide_eq_false (by omega)
end
def bz0:V->List V->Hp->VK->Prop:=fun x vs H Q=>∃ l xs y,x=.ref l/\vs=[y]/\H l=some (.lst xs)/\xs.length<f6/\Q .non (upd H l (.lst (xs++[y])))
theorem P6:MtM X "list.append" bz0:=by
 intro pins s σ H x vs v us Q I rx rv h
 obtain⟨l,xs,y,rfl,rfl,hH,hz,q⟩:=h
 cases rx
 obtain⟨u,rfl,ru⟩:=rv.one
 obtain⟨z,its,n,r,hl,e⟩:=I.lstM hH
 refine ac2 F.slot_list_append ⟨_,e,rfl⟩ F.entry_list_append (F.args_list_append_2 _ _) (PySem.list_append l its.toArray n u (by rw[d9];omega)) ⟨e,?_⟩
 refine⟨.non,_,I.lset (its':=its++[u]) hH e (by simp) (r.append (.cons ru .nil)) ?_,rfl,q⟩
 rw[i9,ao3]
 omega
def cd4:R2:=fun x y H Q=>∃ l b xs zs,x=.ref l/\y=.ref b/\H l=some (.lst xs)/\H b=some (.lst zs)/\xs.length+zs.length<=f6/\∀ p,H p=none->Q (.ref p) (upd H p (.lst (xs++zs)))
theorem aV0:OpR X (ag3 .Add) cd4:=by
 intro pins s σ H x y v u Q I rx ry h
 obtain⟨l,b,xs,zs,rfl,rfl,hH,hB,hz,q⟩:=h
 cases rx
 cases ry
 obtain⟨z,its,n,r,hl,e⟩:=I.lstM hH
 obtain⟨z2,its2,n2,r2,hl2,e2⟩:=I.lstM hB
 refine PySem.P.add_list e e2 ?_ (by rw[d9,d9];omega)
 have ea:its.toArray++its2.toArray=(its++its2).toArray:=by simp
 rw[ea]
 exact⟨.ref _,_,I.lnew (t':=s.toks) (r.append r2) (by rw[i9];omega),rfl,q _ I.fresh⟩
def cd2:R2:=fun x y H Q=>∃ l k xs,x=.ref l/\y=.int k/\H l=some (.lst xs) /\ -(2 ^ 63)<=k/\k<2 ^ 63/\xs.length*k.toNat<=f6 /\
 ∀ p,H p=none->Q (.ref p) (upd H p (.lst (B4 k.toNat xs).flatten))
theorem len_rep {α:Type}(xs:List α)(k:Nat):(B4 k xs).flatten.length=k*xs.length:=by
 induction k with
 | zero=>simp
 | succ k ih=>rw[G9,L7,i9,ih,Nat.succ_mul,Nat.add_comm]
theorem bN6:OpR X (ag3 .Mult) cd2:=by
 intro pins s σ H x y v u Q I rx ry h
 obtain⟨l,k,xs,rfl,rfl,hH,h1,h2,hz,q⟩:=h
 cases rx
 obtain⟨t,rfl⟩:=ry
 obtain⟨z,its,n,r,hl,e⟩:=I.lstM hH
 have hlen:its.toArray.size*k.toNat<=f6:=by rw[d9,<- hl];exact hz
 have hcap:¬ its.toArray.size*k.toNat > (2 ^ 63 - 1) / 8:=by
  have:(f6:Nat)<=(2 ^ 63 - 1) / 8:=by decide
  omega
 have hfit:¬ (!Builtin.List.listFitsIndex k)=true:=by
  rw[fitsIndex_both h1 h2]
  exact d4
 have hlong:¬ Builtin.List.listTooLong (its.toArray.size*k.toNat)=true:=by
  rw[bo7 hlen]
  exact d4
 have hnew:Z0 (fun x1 x2=>x1++x2) #[] (B4 (if its.toArray.isEmpty=true then 0 else k.toNat) its.toArray)=(B4 k.toNat its).flatten.toArray:=by
  have f0:∀ m:Nat,Z0 (fun x1 x2=>x1++x2) #[] (B4 m its.toArray)=(B4 m its).flatten.toArray:=fun m=>by
   have:=foldl_rep its m []
   rw[L8]at this
   exact this
  rw[f0]
  cases its with
  | nil=>simp
  | cons a r'=>rw[if_neg (by simp)]
 refine wpAny_binaryOp_repeat_ref (T:="list") (U:="int") (by decide) ⟨_,e,rfl⟩ (fun s'=>typeIs_int s' k t) noFill_list_mul F.fills_int_mul F.slot_int_rmul repeat_list F.slot_int_index.lookup
  (ac2 F.slot_int_rmul (typeIs_int s k t) F.entry_int_rmul (F.args_int_rmul_2 _ _) (int___rmul___int_list k t l its.toArray n)
   ⟨e,rfl,⟨_,e,rfl⟩,ac2 F.slot_list_mul ⟨_,e,rfl⟩ F.entry_list_mul (F.args_list_mul_2 _ _) (AutoListH.list___mul___list_int_3 l its.toArray n k t hfit hcap hlong) ⟨e,?_⟩⟩)
 rw[hnew]
 exact⟨.ref _,_,I.lnew (t':=s.toks) (r.rep k.toNat) (by rw[len_rep,Nat.mul_comm];exact hz),rfl,q _ I.fresh⟩
end L2
namespace Att
open PySem PySem.W PySem.Calls PyProof.Rows
theorem au1 {P:Params}:∀ (ns:List Int) (vs:List Value),WellAll P h vs (ns.map WData.int)->F1 vs ns:=by
 intro ns
 induction ns with
 | nil =>
  intro vs w
  rw[List.map_nil]at w
  cases w
  exact .nil
 | cons n ns ih =>
  intro vs w
  rw[n9]at w
  cases w with
  | cons a b =>
   cases a
   exact .cons _ _ (ih _ b)
theorem be5 {l:OpenLaw}(hn:l.most=some n){P:Params}{args:List WData}{vals:List Value}
  (hpre:l.row.toRowW.claim.pre args=true)(hwl:WellAll P h vals args) :
  ∃ a vs ns,vals=[Value.ref a]/\args=[WData.list (ns.map WData.int)]/\h.get? a=some { cls:=.type "list",data:=.seq vs.toArray }/\F1 vs ns/\ns.length<=n:=by
 have hsh:WShape.hasAll [] args [.list .int]=true:=(pre_splitW hpre).1
 have hc:l.pre.holds [] { args:=args }=true:=(pre_splitW hpre).2
 obtain⟨d,r,rfl,h1,h2⟩:=hasAllW_cons hsh
 obtain rfl:=hasAllW_nil h2
 obtain⟨xs,rfl,h3⟩:=hasW_list h1
 obtain⟨ns,rfl⟩:=items_int h3
 have hlen:ns.length<=n:=by
  unfold OpenLaw.pre at hc
  have h4:(WTm.not (.lt (.lit (.int (n:Int))) (.len (.arg 0)))).holds [] { args:=[.list (ns.map .int)] }=true:=by
   have h4:=(holds_andW hc).1
   rw[hn]at h4
   exact h4
  have h5:=condW_of h4 (w_not (w_lt w_lit (w_len_list (w_arg rfl))))
  rw[a5]at h5
  refine Nat.le_of_not_lt fun q=>?_
  have q':(n:Int)<((ns.length:Nat):Int):=by omega
  first
   | (rw[decide_eq_true q']at h5;exact absurd h5 (by decide))
   | (simp at h5;omega)
 cases hwl with
 | cons w1 w2 =>
  cases w2
  cases w1 with
  | list ho hall=>exact⟨_,_,ns,rfl,rfl,ho,au1 ns _ hall,hlen⟩
theorem be8 (l:OpenLaw)(args:List WData):l.row.toRowW.claim.post args (.bool true) args=true:=
 postW_of (r:=l.row.toRowW) (X:=(true == true))
  (show WShape.has [] (.bool true) .bool=true by first | rfl | decide | simp[WShape.has,WShape.arms,WShape.armsAll])
  (show (WTm.eq .res (.lit (.bool true))).value [] { args:=args,res:=some (.bool true),after:=args }=some (.bool (true == true)) from w_eq_bool (w_res rfl) w_lit) rfl
theorem attach_call {l:OpenLaw} {q:Program} {loose:List Str} {d:DefRec}
  (hn:l.most=some n) (hdf:d.params.defaults=[])
  (call : ∀ (w : World) (s₀ s₁ : Shared) (mg mb : Str -> Option Value) (fa : Addr) (o : Obj) (pm cd doc : Value) (a : Addr) (vs : List Value) (ns : List Int),
   Ground q loose [] XP w s₀ mg mb s₁.heap->YP w s₁.heap ->
   s₁.heap.get? fa=some o->o.data=.func (docDef d.name d.params d.body d.scope pm cd doc)->s₁.heap.CodeRec cd d.name->mg d.name=some (.ref fa) ->
   s₁.heap.get? a=some { cls:=.type "list",data:=.seq vs.toArray }->F1 vs ns->ns.length<=n->s₁.gens=#[] ->
   aB9 (o7 l.prog w) bd1 (.call (.ref fa) ⟨[.ref a],[]⟩) (fun r s'=>r=.ok (.ret (.bool true))/\OldK s₁.heap s'.heap/\s'.os=s₁.os/\al8 s'.gens) s₁) :
  WalkO q loose XP YP l.row.toRowW d [] (fun f vs=>PySem.call f vs):=by
 intro w s₀ s₁ mg mb G Y fa o pm cd doc dV kV ho hd hcd hD hmg hg args vals as hpre hlay hrd hwl hlo
 obtain rfl:dV=.none:=Dflts.none hD hdf
 obtain rfl:kV=.none:=Dflts.noKw hD
 obtain⟨a,vs,ns,rfl,rfl,hobj,hints,hlen⟩:=be5 hn hpre hwl
 refine enter_call (ag4 (call w s₀ s₁ mg mb fa o pm cd doc a vs ns G Y ho (fd_plain hd) hcd hmg hobj hints hlen hg) fun r s' hq=>?_)
 obtain⟨rfl,h2,h3,h4⟩:=hq
 exact⟨.inl ⟨.bool true,.bool true,[],rfl,fun _=>rfl,.bool true,be8 l _,fun _=>⟨List.Pairwise.nil,fun _ hm=>(nomatch hm)⟩⟩,h2,h3,h4⟩
section
variable {K:Frag}
end
end Att
namespace L2
open PySem PySem.Spec PyProof.Rows
theorem ag8:∀ {vs:List Value} {ns:List Int},F1 vs ns->A8 (ns.map V.int) vs
 | _,_,.nil=>.nil
 | _,_,.cons n t h=>.cons ⟨t,rfl⟩ (ag8 h)
end L2
namespace L2
open PySem PySem.Spec PyProof.Rows
def v7 (s:Stmt):Arguments:=match s with
 | .FunctionDef _ a _ _ _ _ _ _ _ _=>a
 | _=>{ posonlyargs:=[],args:=[],vararg:=none,kwonlyargs:=[],kw_defaults:=[],kwarg:=none,defaults:=[] }
def q0 (s:Stmt):List Stmt:=match s with
 | .FunctionDef _ _ b _ _ _ _ _ _ _=>b
 | _=>[]
def i6 (s:Stmt):Scope:=match s with
 | .FunctionDef _ _ _ _ _ _ sc _ _ _=>sc
 | _=>{ kind:=.function,names:=[],isGenerator:=false,isCoroutine:=false }
abbrev CX0:CXT:=fun _ _ _ _ _ _=>False
abbrev E0:XK:=fun _ _ _=>False
theorem F2:ar2 CX0 X E0:=fun _ _ _ _ _ _ _ h=>h.elim
structure Fun (K:W.Frag) (x qual:Str) (st:Stmt) (f:Addr) (fd:FuncData):Prop where
 ex:∃ (oc:Value) (od:Option Addr) (kV doc pm:Value) (an:Option Addr) (cdv ct:Value) (osl:Array (Option Value)),
  fd=k9 x qual (v7 st) (q0 st) (i6 st) .none kV doc pm an cdv ct/\K.lookup f=some ⟨oc,od,.func fd,osl⟩/\j6 K cdv qual=true
 kp:j0 K (.ref f)=true
section
variable {K:W.Frag} {mg:Str->Option Value} {base:Heap}
theorem Fun.ok {st:Stmt} {k:Nat} {sp:Sp} (F:Fun K x qual st f fd) (S:t9 N ps (i6 st))
  (hbody : ∀ (cdv : Value) (A : Around) (outer : List Env) (s : Shared) (H : Hp) (vs : List V) (Q : VK) (E : XK), W6 k (A.deeper (E1 qual (i6 st) s.heap.objs.size f cdv)) -> sp vs H Q E ->
   ∃ t,PSs (V0 CX0 P w K mg base N qual (i6 st) f cdv A outer s H E).nox (q0 st) t/\t { nx:=fun _ H'=>Q .non H',rt:=Q } (start N vs) H) (len:∀ vs H Q E,sp vs H Q E->vs.length=ps.length:=by intro _ _ _ _ h;repeat first | (obtain⟨rfl,_⟩:=h;rfl) | obtain⟨_,h⟩:=h):x5 P w K mg base CX0 (k+1) f fd ps sp:=by
 obtain⟨oc,od,kV,doc,pm,an,cdv,ct,osl,rfl,lk,hcd⟩:=F.ex
 refine br4 lk hcd S len fun A outer s H vs Q E hr hsp=>?_
 obtain⟨t,h,q⟩:=hbody cdv A outer s H vs Q E hr hsp
 exact⟨t,h.nox,q⟩
theorem Fun.binds {st:Stmt}(F:Fun K x qual st f fd)
  (h:∀ (kV doc pm:Value) (an:Option Addr) (cdv ct:Value) (us:List Value),us.length=ps.length->bv7 (k9 x qual (v7 st) (q0 st) (i6 st) .none kV doc pm an cdv ct) ⟨us,[]⟩=pure (ps.zip us)):Binds K fd ps []:=by
 obtain⟨oc,od,kV,doc,pm,an,cdv,ct,osl,rfl,lk,hcd⟩:=F.ex
 exact .all (h kV doc pm an cdv ct)
theorem B1 {st:Stmt}{oc:Value}{od an:Option Addr}{osl:Array (Option Value)}{kV doc pm cdv ct:Value}(l:K.lookup f=some ⟨oc,od,.func (k9 x qual (v7 st) (q0 st) (i6 st) .none kV doc pm an cdv ct),osl⟩)
  (c:j6 K cdv qual=true)(k:j0 K (.ref f)=true):Fun K x qual st f (k9 x qual (v7 st) (q0 st) (i6 st) .none kV doc pm an cdv ct):=⟨⟨oc,od,kV,doc,pm,an,cdv,ct,osl,rfl,l,c⟩,k⟩
end
theorem pv (i:Nat)(hN:X.N[i]?=some x:=by rfl)(hv:Vis X.env.scope x:=by first | exact Or.inl rfl | exact Or.inr (Or.inl rfl) | exact Or.inr (Or.inr rfl))(hd:(x == ("__debug__":Str))=false:=by decide)
  (hcd:(x == ("__classdict__":Str))=false:=by decide):PE X (.Name x pos) (bU7 i):=bN0 hN hv hd hcd
theorem F0 {A B:Prop}(h:B):if false=true then A else B:=by
 rw[if_neg d4]
 exact h
theorem F8 {A B:Prop}(h:A):if true=true then A else B:=by
 rw[if_pos rfl]
 exact h
theorem af5 {c A B:Prop}[Decidable c](h1:c->A)(h2:¬ c->B):if c then A else B:=by
 by_cases h:c
 ·rw[if_pos h]
  exact h1 h
 ·rw[if_neg h]
  exact h2 h
theorem bq4 {c A B:Prop}[Decidable c](hc:c)(h:B):if (!decide c)=true then A else B:=by
 rw[decide_eq_true hc]
 exact F0 h
def o8 (H H':Hp):Prop:=∀ b o,H b=some o->H' b=some o
theorem o8.refl (H:Hp):o8 H H:=fun _ _ h=>h
theorem o8.trans {H1 H2:Hp}(a:o8 H H1)(b:o8 H1 H2):o8 H H2:=fun c o h=>b c o (a c o h)
theorem o8.free (e:o8 H H')(h:H' l=Option.none):H l=Option.none:=by
 cases q:H l with
 | none=>rfl
 | some o =>
  rw[e l o q]at h
  cases h
theorem o8.seq {K:W.Frag}{xs:List V}(e:o8 H H')(h:SqL K H a xs):SqL K H' a xs:=by
 rcases h with(h | ⟨o,h⟩) | h
 ·exact .inl (.inl (e _ _ h))
 ·exact .inl (.inr ⟨o,e _ _ h⟩)
 ·exact .inr h
end L2
namespace Tim
open PySem PyProof.Rows
def U9:Bool->Keyed->Array Keyed->Nat->Nat->Nat->StateT SortSt Sem (Option Nat):=sortPriv% PySem.Builtin.gallop
def M3:Nat->StateT SortSt Sem Unit:=sortPriv% PySem.Builtin.setMinGallop
def az0:Array Keyed->Array Keyed->StateT SortSt Sem (Array Keyed):=sortPriv% PySem.Builtin.mergeLo
def az1:Array Keyed->Array Keyed->StateT SortSt Sem (Array Keyed):=sortPriv% PySem.Builtin.mergeHi
def ab7 (left:Bool)(key:Keyed)(arr:Array Keyed)(base:Nat)(i:Nat):StateT SortSt Sem (Option Bool):=do
 let x <- ad6 arr (base+i)
 if left then lt' x key else return (<- lt' key x).map (!·)
theorem aW4 (left:Bool)(key:Keyed)(arr:Array Keyed)(base n hint:Nat):U9 left key arr base n hint=(do
 let mut lastofs:=0
 let mut ofs:=1
 let mut lo:=0
 let mut hi:=0
 let some right <- ab7 left key arr base hint | return none
 if right then
  let maxofs:=n - hint
  for _ in [0:n] do
   if ofs≥maxofs then break
   let some more <- ab7 left key arr base (hint+ofs) | return none
   if !more then break
   lastofs:=ofs
   ofs:=2*ofs+1
  lo:=hint+lastofs+1
  hi:=hint+min ofs maxofs
 else
  let maxofs:=hint+1
  for _ in [0:n] do
   if ofs≥maxofs then break
   let some found <- ab7 left key arr base (hint - ofs) | return none
   if found then break
   lastofs:=ofs
   ofs:=2*ofs+1
  lo:=hint+1 - min ofs maxofs
  hi:=hint - lastofs
 for _ in [0:n] do
  if lo≥hi then break
  let m:=lo+(hi - lo) / 2
  let some more <- ab7 left key arr base m | return none
  if more then lo:=m+1 else hi:=m
 return some hi):=rfl
theorem ap5 (g:Nat):M3 g=modify (fun s=>SortSt.mk' (kindOf s) (l5 s) (A5 s) g (K6 s)):=rfl
structure Ord (B:Keyed->Keyed->Bool):Prop where
 irr:∀ x,B x x=false
 tr:∀ x y z,B x y=true->B y z=true->B x z=true
 ng:∀ x y z,B x z=true->B x y=true\/B y z=true
def le (B:Keyed->Keyed->Bool)(x y:Keyed):Prop:=B y x=false
theorem Ord.rf (o:Ord B)(x:Keyed):le B x x:=o.irr x
theorem Ord.of_lt (o:Ord B){x y:Keyed}(h:B x y=true):le B x y:=by
 unfold le
 cases e:B y x with
 | false=>rfl
 | true =>
  have:=o.tr _ _ _ h e
  rw[o.irr]at this
  cases this
theorem Ord.trans (o:Ord B){x y z:Keyed}(h1:le B x y)(h2:le B y z):le B x z:=by
 unfold le at *
 cases e:B z x with
 | false=>rfl
 | true =>
  rcases o.ng _ y _ e with h | h
  ·rw[h2]at h;cases h
  ·rw[h1]at h;cases h
theorem Ord.lt_le (o:Ord B){x y z:Keyed}(h1:B x y=true)(h2:le B y z):B x z=true:=by
 unfold le at h2
 rcases o.ng _ z _ h1 with h | h
 ·exact h
 ·rw[h2]at h;cases h
theorem Ord.le_lt (o:Ord B){x y z:Keyed}(h1:le B x y)(h2:B y z=true):B x z=true:=by
 unfold le at h1
 rcases o.ng _ x _ h2 with h | h
 ·rw[h1]at h;cases h
 ·exact h
section
variable {S:Keyed->Prop}
def Cmp (prog:Program)(w:World)(A:Around)(E:Value->Shared->Prop)(s:Shared)(κ:SortKind)(S:Keyed->Prop)(B:Keyed->Keyed->Bool):Prop:=
 ∀ (x y:Keyed),S x->S y->∀ (Q:Bool->Shared->Prop),Q (B x y) s->r6 (o7 prog w) A (keyLt' κ x.1 y.1) Q (fun _ _=>False) s
theorem aw5 (C:Cmp prog w A E s κ S B){x y:Keyed}{st:SortSt}{Q:Option Bool->SortSt->Prop}(hk:kindOf st=κ)(hx:S x)(hy:S y)(h:Q (some (B x y)) st):wpS (o7 prog w) A E s (lt' x y) Q st:=by
 rw[lt'_eq]
 refine i7 (at6 ?_)
 rw[hk]
 refine i7 (wpS_lift (wpAny_attempt ?_))
 refine B6 (C x y hx hy (fun b s'=>s'=s/\b=B x y) ⟨rfl,rfl⟩) (fun b s' hb=>?_) (fun _ _ f=>f.elim)
 obtain⟨rfl,rfl⟩:=hb
 exact⟨rfl,j9 h⟩
theorem B7 {arr:Array Keyed}{x:Keyed}{st:SortSt}{Q:Keyed->SortSt->Prop}(hi:arr[i]?=some x)(h:Q x st):wpS (o7 prog w) A E s (ad6 arr i) Q st:=by
 rw[elem'_eq,hi]
 exact j9 h
theorem bd7 (C:Cmp prog w A E s κ S B){x y:Keyed}{st:SortSt}{Q:Option Bool->SortSt->Prop}(hk:kindOf st=κ)(hi:(l5 st)[i]?=some x)(hj:(l5 st)[j]?=some y)(hx:S x)(hy:S y)(h:Q (some (B x y)) st) :
  wpS (o7 prog w) A E s (ltAt' i j) Q st:=by
 rw[ltAt'_eq]
 refine i7 (at6 ?_)
 show wpS _ _ _ _ (do let x <- ad6 (l5 st) i;let y <- ad6 (l5 st) j;lt' x y) Q st
 exact i7 (B7 hi (i7 (B7 hj (aw5 C hk hx hy h))))
theorem Z1 {n:String}{st:SortSt}{Q:Unit->SortSt->Prop}(h:Q () st):wpS (o7 prog w) A E s (liftM (rule n):StateT SortSt Sem Unit) Q st:=wpS_lift (bu6 ⟨rfl,h⟩)
def byn (B:Keyed->Keyed->Bool)(left:Bool)(key x:Keyed):Bool:=if left=true then B x key else !B key x
theorem aT0 (C:Cmp prog w A E s κ S B){left:Bool}{key x:Keyed}{arr:Array Keyed}{base:Nat}{st:SortSt}{Q:Option Bool->SortSt->Prop}(hk:kindOf st=κ)(hi:arr[base+i]?=some x)(hx:S x)(hy:S key)
  (h:Q (some (byn B left key x)) st):wpS (o7 prog w) A E s (ab7 left key arr base i) Q st:=by
 unfold ab7
 refine i7 (B7 hi ?_)
 cases left with
 | true=>exact aw5 C hk hx hy h
 | false=>exact i7 (aw5 C hk hy hx (j9 h))
theorem aD4 {st:SortSt} {Q:Option Nat->SortSt->Prop} (P:Nat->Bool) {f:Nat->Option (Option Nat) × Nat × Nat->StateT SortSt Sem (ForInStep (Option (Option Nat) × Nat × Nat))} {k:Option (Option Nat) × Nat × Nat->StateT SortSt Sem (Option Nat)}
  (mono:∀ i j,i<=j->j<n->P j=true->P i=true)
  (hf : ∀ x lo hi (R : ForInStep (Option (Option Nat) × Nat × Nat) -> SortSt -> Prop), hi <= n -> (hi <= lo -> R (.done (none, lo, hi)) st) -> (lo < hi -> P (lo + (hi - lo) / 2) = true -> R (.yield (none, lo + (hi - lo) / 2 + 1, hi)) st) ->
   (lo<hi->P (lo+(hi - lo) / 2)=false->R (.yield (none,lo,lo+(hi - lo) / 2)) st)->wpS (o7 prog w) A E s (f x (none,lo,hi)) R st)
  (hk:∀ lo hi (R:Option Nat->SortSt->Prop),R (some hi) st->wpS (o7 prog w) A E s (k (none,lo,hi)) R st)
  (h:∀ k,k<=n->(∀ i,i<k->P i=true)->(∀ i,k<=i->i<n->P i=false)->Q (some k) st) {lo hi:Nat}
  (h1:lo<=hi) (h2:hi<=n) (h3:∀ i,i<lo->P i=true) (h4:∀ i,hi<=i->i<n->P i=false) :
  wpS (o7 prog w) A E s (forIn [:n] ((none,lo,hi):Option (Option Nat) × Nat × Nat) f >>= k) Q st:=by
 have anti:∀ i j,i<=j->j<n->P i=false->P j=false:=fun i j h1 h2 h3=>by
  cases e:P j with
  | false=>rfl
  | true=>rw[mono i j h1 h2 e]at h3;cases h3
 refine i7 (S5 (C8 (I:=fun x c st'=>st'=st/\∃ lo hi,c=(none,lo,hi)/\lo<=hi/\hi<=n/\hi - lo<=n - x/\(∀ i,i<lo->P i=true)/\(∀ i,hi<=i->i<n->P i=false))
  (Q:=fun c st'=>st'=st/\∃ k,c=(none,k,k)/\k<=n/\(∀ i,i<k->P i=true)/\(∀ i,k<=i->i<n->P i=false)) ?step ?fin ⟨rfl,lo,hi,rfl,h1,h2,by omega,h3,h4⟩) ?post)
 case fin =>
  rintro c st' ⟨rfl,lo,hi,rfl,h1,h2,hm,h3,h4⟩
  have:lo=hi:=by omega
  subst this
  exact⟨rfl,lo,rfl,h2,h3,h4⟩
 case post =>
  rintro c st' ⟨rfl,k,rfl,h2,h3,h4⟩
  exact hk _ _ _ (h k h2 h3 h4)
 case step =>
  rintro x c st' _ hx ⟨rfl,lo,hi,rfl,h1,h2,hm,h3,h4⟩
  refine hf x lo hi _ h2 (fun hge=>?_) (fun hlt e=>?_) (fun hlt e=>?_)
  ·have:lo=hi:=by omega
   subst this
   exact⟨rfl,lo,rfl,h2,h3,h4⟩
  ·exact⟨rfl,_,hi,rfl,by omega,h2,by omega,fun i hi'=>mono i _ (by omega) (by omega) e,h4⟩
  ·exact⟨rfl,lo,_,rfl,by omega,by omega,by omega,h3,fun i h5 h6=>anti _ i h5 h6 e⟩
theorem aG5 {left:Bool} {key:Keyed} {arr:Array Keyed} {base hint:Nat} {st:SortSt} {Q:Option Nat->SortSt->Prop} (P:Nat->Bool)
  (hP:∀ i,i<n->∀ R:Option Bool->SortSt->Prop,R (some (P i)) st->wpS (o7 prog w) A E s (ab7 left key arr base i) R st)
  (mono:∀ i j,i<=j->j<n->P j=true->P i=true) (hh:hint<n)
  (h:∀ k,k<=n->(∀ i,i<k->P i=true)->(∀ i,k<=i->i<n->P i=false)->Q (some k) st) :
  wpS (o7 prog w) A E s (U9 left key arr base n hint) Q st:=by
 have anti:∀ i j,i<=j->j<n->P i=false->P j=false:=fun i j h1 h2 h3=>by
  cases e:P j with
  | false=>rfl
  | true=>rw[mono i j h1 h2 e]at h3;cases h3
 rw[aW4]
 dsimp only
 refine i7 (hP hint hh _ ?_)
 cases e0:P hint with
 | true =>
  dsimp only
  rw[if_pos rfl]
  refine i7 (S5 (C8 (I:=fun x c st'=>st'=st/\∃ l o,c=(none,l,o)/\l<o/\x+1<=o/\hint+l<n/\P (hint+l)=true)
   (Q:=fun c st'=>st'=st/\∃ l o,c=(none,l,o)/\l<o/\hint+l<n/\P (hint+l)=true/\(n - hint<=o\/(hint+o<n/\P (hint+o)=false))) ?step ?fin ⟨rfl,0,1,rfl,by omega,by omega,by omega,e0⟩) ?post)
  case fin =>
   rintro c st' ⟨rfl,l,o,rfl,h1,h2,h3,h4⟩
   exact⟨rfl,l,o,rfl,h1,h3,h4,.inl (by omega)⟩
  case post =>
   rintro c st' ⟨rfl,l,o,rfl,h1,h3,h4,h5⟩
   dsimp only
   refine aD4 P mono
    (fun x lo hi R hn a b c => by
     dsimp only
     by_cases hge:lo≥hi
     ·rw[if_pos hge]
      exact j9 (a hge)
     ·rw[if_neg hge]
      refine i7 (hP _ (by omega) _ ?_)
      cases e:P (lo+(hi - lo) / 2) with
      | true =>
       dsimp only
       rw[if_pos rfl]
       exact j9 (b (by omega) e)
      | false =>
       dsimp only
       rw[if_neg d4]
       exact j9 (c (by omega) e)) (fun lo hi R hR=>j9 hR) h (lo:=hint+l+1) (hi:=hint+min o (n - hint)) (by omega) (by omega) (fun i hi=>mono i _ (by omega) h3 h4) (fun i h6 h7=>?_)
   rcases h5 with h5 | ⟨h5,h8⟩
   ·omega
   ·exact anti _ i (by omega) h7 h8
  case step =>
   rintro x c st' _ hx ⟨rfl,l,o,rfl,h1,h2,h3,h4⟩
   dsimp only
   by_cases hge:o≥n - hint
   ·rw[if_pos hge]
    exact j9 ⟨rfl,l,o,rfl,h1,h3,h4,.inl hge⟩
   ·rw[if_neg hge]
    refine i7 (hP _ (by omega) _ ?_)
    cases e:P (hint+o) with
    | true =>
     dsimp only
     rw[if_neg (by simp)]
     exact j9 ⟨rfl,o,2*o+1,rfl,by omega,by omega,by omega,e⟩
    | false =>
     dsimp only
     rw[if_pos (by simp)]
     exact j9 ⟨rfl,l,o,rfl,h1,h3,h4,.inr ⟨by omega,e⟩⟩
 | false =>
  dsimp only
  rw[if_neg d4]
  refine i7 (S5 (C8 (I:=fun x c st'=>st'=st/\∃ l o,c=(none,l,o)/\l<o/\x+1<=o/\l<=hint/\P (hint - l)=false)
   (Q:=fun c st'=>st'=st/\∃ l o,c=(none,l,o)/\l<o/\l<=hint/\P (hint - l)=false/\(hint+1<=o\/(o<=hint/\P (hint - o)=true))) ?step ?fin ⟨rfl,0,1,rfl,by omega,by omega,by omega,e0⟩) ?post)
  case fin =>
   rintro c st' ⟨rfl,l,o,rfl,h1,h2,h3,h4⟩
   exact⟨rfl,l,o,rfl,h1,h3,h4,.inl (by omega)⟩
  case post =>
   rintro c st' ⟨rfl,l,o,rfl,h1,h3,h4,h5⟩
   dsimp only
   refine aD4 P mono
    (fun x lo hi R hn a b c => by
     dsimp only
     by_cases hge:lo≥hi
     ·rw[if_pos hge]
      exact j9 (a hge)
     ·rw[if_neg hge]
      refine i7 (hP _ (by omega) _ ?_)
      cases e:P (lo+(hi - lo) / 2) with
      | true =>
       dsimp only
       rw[if_pos rfl]
       exact j9 (b (by omega) e)
      | false =>
       dsimp only
       rw[if_neg d4]
       exact j9 (c (by omega) e)) (fun lo hi R hR=>j9 hR) h (lo:=hint+1 - min o (hint+1)) (hi:=hint - l) (by omega) (by omega) (fun i hi=>?_) (fun i h6 h7=>anti _ i h6 h7 h4)
   rcases h5 with h5 | ⟨h5,h8⟩
   ·omega
   ·exact mono i _ (by omega) (by omega) h8
  case step =>
   rintro x c st' _ hx ⟨rfl,l,o,rfl,h1,h2,h3,h4⟩
   dsimp only
   by_cases hge:o≥hint+1
   ·rw[if_pos hge]
    exact j9 ⟨rfl,l,o,rfl,h1,h3,h4,.inl hge⟩
   ·rw[if_neg hge]
    refine i7 (hP _ (by omega) _ ?_)
    cases e:P (hint - o) with
    | true =>
     dsimp only
     rw[if_pos rfl]
     exact j9 ⟨rfl,l,o,rfl,h1,h3,h4,.inr ⟨by omega,e⟩⟩
    | false =>
     dsimp only
     rw[if_neg d4]
     exact j9 ⟨rfl,o,2*o+1,rfl,by omega,by omega,by omega,e⟩
theorem S1 (o:Ord B)(C:Cmp prog w A E s κ S B){left:Bool}{key:Keyed}{arr:Array Keyed}{base hint:Nat}{st:SortSt}{Q:Option Nat->SortSt->Prop}(hk:kindOf st=κ)(hkey:S key)(hb:base+n<=arr.size)
  (hS:∀ (i:Nat) (x:Keyed),i<n->arr[base+i]?=some x->S x)
  (hs:∀ (i j:Nat) (x y:Keyed),i<=j->j<n->arr[base+i]?=some x->arr[base+j]?=some y->le B x y)(hh:hint<n)
  (h:∀ k,k<=n->(∀ (i:Nat) (x:Keyed),i<k->arr[base+i]?=some x->byn B left key x=true)->(∀ (i:Nat) (x:Keyed),k<=i->i<n->arr[base+i]?=some x->byn B left key x=false)->Q (some k) st) :
  wpS (o7 prog w) A E s (U9 left key arr base n hint) Q st:=by
 have ex:∀ i,i<n->∃ x,arr[base+i]?=some x:=fun i hi=>⟨arr[base+i]'(by omega),getElem?_pos arr _ (by omega)⟩
 have ev:∀ (i:Nat) (x:Keyed),arr[base+i]?=some x->((arr[base+i]?).getD key)=x:=fun i x e=>by rw[e];rfl
 refine aG5 (fun i=>byn B left key ((arr[base+i]?).getD key)) (fun i hi R hR=>?_) (fun i j hij hj hp=>?_) hh (fun k hk' h1 h2=>h k hk' (fun i x hi e=>?_) (fun i x h3 h4 e=>?_))
 ·obtain⟨x,e⟩:=ex i hi
  rw[ev i x e]at hR
  exact aT0 C hk e (hS i x hi e) hkey hR
 ·obtain⟨x,e⟩:=ex i (by omega)
  obtain⟨y,e'⟩:=ex j hj
  rw[ev j y e']at hp
  rw[ev i x e]
  have l:=hs i j x y hij hj e e'
  unfold byn at hp ⊢
  cases left with
  | true =>
   simp only[if_true]at hp ⊢
   exact o.le_lt l hp
  | false =>
   simp only[l9,if_false,bS0]at hp ⊢
   exact o.trans l hp
 ·have:=h1 i hi;rw[ev i x e]at this;exact this
 ·have:=h2 i h3 h4;rw[ev i x e]at this;exact this
end
theorem aO6 (a b:Array Keyed):az0 a b=(do
 rule "list.sort.merge-lo"
 let total:=a.size+b.size
 let done (out:Array Keyed) (ia ib:Nat):=out++a.extract ia a.size++b.extract ib b.size
 let lastOfA (out:Array Keyed) (ia ib:Nat):=out++b.extract ib b.size++a.extract ia a.size
 let mut out:Array Keyed:=#[<- ad6 b 0]
 let mut ia:=0
 let mut ib:=1
 if ib == b.size then return done out ia ib
 if ia+1 == a.size then return lastOfA out ia ib
 let mut minGallop:=gallopOf (<- get)
 for _ in [0:total] do
  let mut acount:=0
  let mut bcount:=0
  for _ in [0:total] do
   let some bWins <- lt' (<- ad6 b ib) (<- ad6 a ia) | return done out ia ib
   if bWins then
    out:=out.push (<- ad6 b ib);ib:=ib+1;bcount:=bcount+1;acount:=0
    if ib == b.size then return done out ia ib
    if bcount≥minGallop then break
   else
    out:=out.push (<- ad6 a ia);ia:=ia+1;acount:=acount+1;bcount:=0
    if ia+1 == a.size then return lastOfA out ia ib
    if acount≥minGallop then break
  rule "list.sort.gallop"
  minGallop:=minGallop+1
  for _ in [0:total] do
   if minGallop > 1 then minGallop:=minGallop - 1
   M3 minGallop
   let some k <- U9 false (<- ad6 b ib) a ia (a.size - ia) 0 | return done out ia ib
   acount:=k
   if k > 0 then
    out:=out++a.extract ia (ia+k);ia:=ia+k
    if ia+1 == a.size then return lastOfA out ia ib
    if ia == a.size then return done out ia ib
   out:=out.push (<- ad6 b ib);ib:=ib+1
   if ib == b.size then return done out ia ib
   let some k <- U9 true (<- ad6 a ia) b ib (b.size - ib) 0 | return done out ia ib
   bcount:=k
   if k > 0 then
    out:=out++b.extract ib (ib+k);ib:=ib+k
    if ib == b.size then return done out ia ib
   out:=out.push (<- ad6 a ia);ia:=ia+1
   if ia+1 == a.size then return lastOfA out ia ib
   if acount<7 && bcount<7 then break
  minGallop:=minGallop+1
  M3 minGallop
 ac9 "internal:list.sort.merge-bound"):=rfl
theorem aO7 (a b:Array Keyed):az1 a b=(do
 rule "list.sort.merge-hi"
 let total:=a.size+b.size
 let done (out:Array Keyed) (na nb:Nat):=a.extract 0 na++b.extract 0 nb++out.reverse
 let firstOfB (out:Array Keyed) (na nb:Nat):=b.extract 0 nb++a.extract 0 na++out.reverse
 let mut na:=a.size - 1
 let mut nb:=b.size
 let mut out:Array Keyed:=#[<- ad6 a na]
 if na == 0 then return done out na nb
 if nb == 1 then return firstOfB out na nb
 let mut minGallop:=gallopOf (<- get)
 for _ in [0:total] do
  let mut acount:=0
  let mut bcount:=0
  for _ in [0:total] do
   let some aWins <- lt' (<- ad6 b (nb - 1)) (<- ad6 a (na - 1)) | return done out na nb
   if aWins then
    na:=na - 1;out:=out.push (<- ad6 a na);acount:=acount+1;bcount:=0
    if na == 0 then return done out na nb
    if acount≥minGallop then break
   else
    nb:=nb - 1;out:=out.push (<- ad6 b nb);bcount:=bcount+1;acount:=0
    if nb == 1 then return firstOfB out na nb
    if bcount≥minGallop then break
  rule "list.sort.gallop"
  minGallop:=minGallop+1
  for _ in [0:total] do
   if minGallop > 1 then minGallop:=minGallop - 1
   M3 minGallop
   let some at_ <- U9 false (<- ad6 b (nb - 1)) a 0 na (na - 1) | return done out na nb
   let k:=na - at_
   acount:=k
   if k > 0 then
    out:=out++(a.extract at_ na).reverse;na:=at_
    if na == 0 then return done out na nb
   nb:=nb - 1;out:=out.push (<- ad6 b nb)
   if nb == 1 then return firstOfB out na nb
   let some at_ <- U9 true (<- ad6 a (na - 1)) b 0 nb (nb - 1) | return done out na nb
   let k:=nb - at_
   bcount:=k
   if k > 0 then
    out:=out++(b.extract at_ nb).reverse;nb:=at_
    if nb == 1 then return firstOfB out na nb
    if nb == 0 then return done out na nb
   na:=na - 1;out:=out.push (<- ad6 a na)
   if na == 0 then return done out na nb
   if acount<7 && bcount<7 then break
  minGallop:=minGallop+1
  M3 minGallop
 ac9 "internal:list.sort.merge-bound"):=rfl
structure MI (R:Keyed->Keyed->Prop) (out ra rb all:List Keyed):Prop where
 so:out.Pairwise R
 oa:∀ x∈out,∀ y∈ra,R x y
 ob:∀ x∈out,∀ y∈rb,R x y
 sa:ra.Pairwise R
 sb:rb.Pairwise R
 pm:(out++(ra++rb)).Perm all
theorem MI.blkA {blk all:List Keyed}(m:MI R out (blk++ra) rb all)(h:∀ x∈blk,∀ y∈rb,R x y):MI R (out++blk) ra rb all:=by
 obtain⟨s1,s2,s3⟩:=v8.mp m.sa
 refine⟨v8.mpr ⟨m.so,s1,fun x hx y hy=>m.oa x hx y (D6 _ hy)⟩,fun x hx y hy=>?_,fun x hx y hy=>?_,s2,m.sb,?_⟩
 ·rcases u6.mp hx with hx | hx
  ·exact m.oa x hx y (j2 _ hy)
  ·exact s3 x hx y hy
 ·rcases u6.mp hx with hx | hx
  ·exact m.ob x hx y hy
  ·exact h x hx y hy
 ·have:=m.pm
  simpa [q8] using this
theorem MI.blkB {blk all:List Keyed}(m:MI R out ra (blk++rb) all)(h:∀ x∈blk,∀ y∈ra,R x y):MI R (out++blk) ra rb all:=by
 obtain⟨s1,s2,s3⟩:=v8.mp m.sb
 refine⟨v8.mpr ⟨m.so,s1,fun x hx y hy=>m.ob x hx y (D6 _ hy)⟩,fun x hx y hy=>?_,fun x hx y hy=>?_,m.sa,s2,?_⟩
 ·rcases u6.mp hx with hx | hx
  ·exact m.oa x hx y hy
  ·exact h x hx y hy
 ·rcases u6.mp hx with hx | hx
  ·exact m.ob x hx y (j2 _ hy)
  ·exact s3 x hx y hy
 ·refine List.Perm.trans ?_ m.pm
  rw[q8]
  refine List.Perm.append_left _ ?_
  rw[<- q8,<- q8]
  exact List.Perm.append_right _ ao4
theorem MI.oneA {x:Keyed}{all:List Keyed}(m:MI R out (x::ra) rb all)(h:∀ y∈rb,R x y):MI R (out++[x]) ra rb all:=
 MI.blkA (blk:=[x]) m fun z hz y hy=>by rw[n5.mp hz];exact h y hy
theorem MI.oneB {x:Keyed}{all:List Keyed}(m:MI R out ra (x::rb) all)(h:∀ y∈ra,R x y):MI R (out++[x]) ra rb all:=
 MI.blkB (blk:=[x]) m fun z hz y hy=>by rw[n5.mp hz];exact h y hy
theorem MI.endAB {all:List Keyed}(m:MI R out ra rb all)(h:∀ x∈ra,∀ y∈rb,R x y):(out++(ra++rb)).Pairwise R/\(out++(ra++rb)).Perm all:=by
 refine⟨v8.mpr ⟨m.so,v8.mpr ⟨m.sa,m.sb,h⟩,fun x hx y hy=>?_⟩,m.pm⟩
 rcases u6.mp hy with hy | hy
 ·exact m.oa x hx y hy
 ·exact m.ob x hx y hy
theorem MI.endBA {all:List Keyed}(m:MI R out ra rb all)(h:∀ x∈rb,∀ y∈ra,R x y):(out++(rb++ra)).Pairwise R/\(out++(rb++ra)).Perm all:=by
 refine⟨v8.mpr ⟨m.so,v8.mpr ⟨m.sb,m.sa,h⟩,fun x hx y hy=>?_⟩,List.Perm.trans (List.Perm.append_left _ ao4) m.pm⟩
 rcases u6.mp hy with hy | hy
 ·exact m.ob x hx y hy
 ·exact m.oa x hx y hy
theorem drop_cons {α:Type}{l:List α}{x:α}(h:l[i]?=some x):l.drop i=x::l.drop (i+1):=by
 obtain⟨hi,rfl⟩:=c4.mp h
 exact ad3 hi
theorem al0 {α:Type}(l:List α)(i k:Nat):l.drop i=(l.drop i).take k++l.drop (i+k):=by
 rw[<- aX4]
 exact(A9 k (l.drop i)).symm
theorem E2 {α:Type}{l:List α}{x:α}(h:x∈l.drop i):∃ j,i<=j/\j<l.length/\l[j]?=some x:=by
 obtain⟨k,hk⟩:=m8.mp h
 rw[J8]at hk
 exact⟨i+k,by omega,(c4.mp hk).1,hk⟩
theorem S8 {α:Type}{l:List α}{k:Nat}{x:α}(h:x∈(l.drop i).take k):∃ j,j<k/\l[i+j]?=some x:=by
 obtain⟨j,hj⟩:=m8.mp h
 rw[O2]at hj
 split at hj
 ·rename_i hlt
  rw[J8]at hj
  exact⟨j,hlt,hj⟩
 ·cases hj
theorem aQ5 (a:Array Keyed)(i k:Nat):(a.extract i (i+k)).toList=(a.toList.drop i).take k:=by
 rw[P8,R3,N5]
theorem av8 (a:Array Keyed)(i:Nat):(a.extract i a.size).toList=a.toList.drop i:=by
 rw[P8,R3]
 exact j5 (by simp)
theorem aJ0 (a:Array Keyed)(i:Nat):(a.extract 0 i).toList=a.toList.take i:=by
 rw[P8,R3,aX5,Nat.sub_zero]
structure Sm (st st':SortSt):Prop where
 k:kindOf st'=kindOf st
 a:l5 st'=l5 st
 p:A5 st'=A5 st
 f:K6 st'=K6 st
theorem Sm.rfl' (st:SortSt):Sm st st:=⟨rfl,rfl,rfl,rfl⟩
theorem Sm.mg {st st':SortSt}(h:Sm st st')(g:Nat):Sm st (SortSt.mk' (kindOf st') (l5 st') (A5 st') g (K6 st')):=⟨h.k,h.a,h.p,h.f⟩
section
variable {S:Keyed->Prop}
theorem ag7 {g:Nat}{st:SortSt}{Q:Unit->SortSt->Prop}(h:Q () (SortSt.mk' (kindOf st) (l5 st) (A5 st) g (K6 st))):wpS (o7 prog w) A E s (M3 g) Q st:=by
 rw[ap5]
 exact au6 h
structure LoI (B:Keyed->Keyed->Bool) (a b out:Array Keyed) (ia ib:Nat):Prop where
 m:MI (le B) out.toList (a.toList.drop ia) (b.toList.drop ib) (a.toList++b.toList)
 ha:ia+1<a.size
 hb:ib<b.size
 sz:out.size=ia+ib
def Good (B:Keyed->Keyed->Bool)(a b r:Array Keyed):Prop:=r.toList.Pairwise (le B)/\r.toList.Perm (a.toList++b.toList)
theorem F6 {α σ:Type}{c:Prop}[Decidable c]{X Y:StateT σ Sem α}{Q:α->σ->Prop}{st:σ}(h:c)(k:wpS M A E s X Q st):wpS M A E s (if c then X else Y) Q st:=by
 rw[if_pos h]
 exact k
theorem E9 {α σ:Type}{c:Prop}[Decidable c]{X Y:StateT σ Sem α}{Q:α->σ->Prop}{st:σ}(h:¬ c)(k:wpS M A E s Y Q st):wpS M A E s (if c then X else Y) Q st:=by
 rw[if_neg h]
 exact k
theorem ag6 {α σ:Type}{c:Prop}[Decidable c]{X Y:StateT σ Sem α}{Q:α->σ->Prop}{st:σ}(h:wpS M A E s X Q st)(k:wpS M A E s Y Q st):wpS M A E s (if c then X else Y) Q st:=by
 split
 ·exact h
 ·exact k
theorem aL2 {α σ:Type}{c:Nat->Prop}[∀ m,Decidable (c m)]{X Y:Nat->StateT σ Sem α}{Q:α->σ->Prop}{st:σ}(hX:∀ m,X m=Y (m - 1))(h:∀ m,wpS M A E s (Y m) Q st):∀ m,wpS M A E s (if c m then X m else Y m) Q st:=fun m=>by
 split
 ·rw[hX]
  exact h _
 ·exact h m
theorem am1 {α σ β γ:Type}{u0:β}{v0:γ}{c:β->γ->Prop}[∀ u v,Decidable (c u v)]{X Y:β->γ->StateT σ Sem α}{Q:α->σ->Prop}{st:σ}{R:β->γ->Prop}(J:∀ u v,R u v->wpS M A E s (Y u v) Q st)(h1:c u0 v0->(∀ u v,R u v->wpS M A E s (Y u v) Q st)->wpS M A E s (X u0 v0) Q st)(h2:¬ c u0 v0->R u0 v0):∀ u,u0=u->∀ v,v0=v->wpS M A E s (if c u v then X u v else Y u v) Q st:=by
 rintro _ rfl _ rfl
 by_cases h:c u0 v0
 ·rw[if_pos h]
  exact h1 h J
 ·rw[if_neg h]
  exact J u0 v0 (h2 h)
theorem aL0 (o:Ord B)(C:Cmp prog w A E s κ S B){a b:Array Keyed}{st:SortSt}{Q:Array Keyed->SortSt->Prop}(hk:kindOf st=κ)(hSa:∀ x∈a.toList,S x)(hSb:∀ x∈b.toList,S x)
  (sa:a.toList.Pairwise (le B))(sb:b.toList.Pairwise (le B))(ha:0<a.size)(hb:0<b.size)
  (h0:∀ x y,b[0]?=some x->a[0]?=some y->B x y=true)(hl:∀ x∈b.toList,∀ y,a[a.size - 1]?=some y->B x y=true)
  (h:∀ r st',Sm st st'->Good B a b r->Q r st'):wpS (o7 prog w) A E s (az0 a b) Q st:=by
 have ga:∀ i,i<a.size->∃ x,a[i]?=some x/\a.toList[i]?=some x/\S x:=fun i hi=>by
  refine⟨a[i],getElem?_pos a i hi,by rw[b9];exact getElem?_pos a i hi,hSa _ (by simp)⟩
 have gb:∀ i,i<b.size->∃ x,b[i]?=some x/\b.toList[i]?=some x/\S x:=fun i hi=>by
  refine⟨b[i],getElem?_pos b i hi,by rw[b9];exact getElem?_pos b i hi,hSb _ (by simp)⟩
 have leA:∀ (i j:Nat) (x y:Keyed),i<=j->a.toList[i]?=some x->a.toList[j]?=some y->le B x y:=fun i j x y hij hx hy=>by
  obtain⟨h1,rfl⟩:=c4.mp hx
  obtain⟨h2,rfl⟩:=c4.mp hy
  rcases F9 hij with hlt | rfl
  ·exact o4.mp sa i j h1 h2 hlt
  ·exact o.rf _
 have leB:∀ (i j:Nat) (x y:Keyed),i<=j->b.toList[i]?=some x->b.toList[j]?=some y->le B x y:=fun i j x y hij hx hy=>by
  obtain⟨h1,rfl⟩:=c4.mp hx
  obtain⟨h2,rfl⟩:=c4.mp hy
  rcases F9 hij with hlt | rfl
  ·exact o4.mp sb i j h1 h2 hlt
  ·exact o.rf _
 have tl:∀ (z:Array Keyed) (i:Nat),z[i]?=z.toList[i]?:=fun z i=>(b9 ..).symm
 have goodDone:∀ (out:Array Keyed) (ia ib:Nat),MI (le B) out.toList (a.toList.drop ia) (b.toList.drop ib) (a.toList++b.toList)->ib=b.size->Good B a b (out++a.extract ia a.size++b.extract ib b.size):=fun out ia ib m e=>by
  have en:b.toList.drop ib=[]:=by rw[e];exact E6 (by simp)
  have:=m.endAB (fun x _ y hy=>by rw[en]at hy;cases hy)
  unfold Good
  rw[A3,A3,av8,av8,q8]
  exact this
 have lastA:∀ (ia:Nat) (x:Keyed),ia+1=a.size->x∈a.toList.drop ia->a[a.size - 1]?=some x:=fun ia x e hx=>by
  obtain⟨j,h1,h2,h3⟩:=E2 hx
  have:j=a.size - 1:=by rw[j3]at h2;omega
  rw[<- this,tl]
  exact h3
 have goodLast:∀ (out:Array Keyed) (ia ib:Nat),MI (le B) out.toList (a.toList.drop ia) (b.toList.drop ib) (a.toList++b.toList)->ia+1=a.size->Good B a b (out++b.extract ib b.size++a.extract ia a.size):=fun out ia ib m e=>by
  have:=m.endBA (fun x hx y hy=>o.of_lt (hl x (L1 hx) y (lastA ia y e hy)))
  unfold Good
  rw[A3,A3,av8,av8,q8]
  exact this
 have pushB:∀ (out:Array Keyed) (ia ib:Nat) (x:Keyed),MI (le B) out.toList (a.toList.drop ia) (b.toList.drop ib) (a.toList++b.toList)->b.toList[ib]?=some x->(∀ y∈a.toList.drop ia,le B x y) ->
   MI (le B) (out.push x).toList (a.toList.drop ia) (b.toList.drop (ib+1)) (a.toList++b.toList):=fun out ia ib x m e hx=>by
  rw[drop_cons e]at m
  rw[U1]
  exact m.oneB hx
 have pushA:∀ (out:Array Keyed) (ia ib:Nat) (x:Keyed),MI (le B) out.toList (a.toList.drop ia) (b.toList.drop ib) (a.toList++b.toList)->a.toList[ia]?=some x->(∀ y∈b.toList.drop ib,le B x y) ->
   MI (le B) (out.push x).toList (a.toList.drop (ia+1)) (b.toList.drop ib) (a.toList++b.toList):=fun out ia ib x m e hx=>by
  rw[drop_cons e]at m
  rw[U1]
  exact m.oneA hx
 have blkA:∀ (out:Array Keyed) (ia ib k:Nat),MI (le B) out.toList (a.toList.drop ia) (b.toList.drop ib) (a.toList++b.toList)->(∀ x∈(a.toList.drop ia).take k,∀ y∈b.toList.drop ib,le B x y) ->
   MI (le B) (out++a.extract ia (ia+k)).toList (a.toList.drop (ia+k)) (b.toList.drop ib) (a.toList++b.toList):=fun out ia ib k m hx=>by
  rw[al0 a.toList ia k]at m
  rw[A3,aQ5]
  exact m.blkA hx
 have blkB:∀ (out:Array Keyed) (ia ib k:Nat),MI (le B) out.toList (a.toList.drop ia) (b.toList.drop ib) (a.toList++b.toList)->(∀ x∈(b.toList.drop ib).take k,∀ y∈a.toList.drop ia,le B x y) ->
   MI (le B) (out++b.extract ib (ib+k)).toList (a.toList.drop ia) (b.toList.drop (ib+k)) (a.toList++b.toList):=fun out ia ib k m hx=>by
  rw[al0 b.toList ib k]at m
  rw[A3,aQ5]
  exact m.blkB hx
 rw[aO6]
 refine i7 (Z1 ?_)
 obtain⟨b0,eb0,eb0',Sb0⟩:=gb 0 hb
 obtain⟨a0,ea0,ea0',Sa0⟩:=ga 0 ha
 have lt0:=h0 b0 a0 eb0 ea0
 refine i7 (B7 eb0 ?_)
 have m0:MI (le B) ([]:List Keyed) (a.toList.drop 0) (b.toList.drop 0) (a.toList++b.toList):=⟨List.Pairwise.nil,(fun _ hx=>nomatch hx),(fun _ hx=>nomatch hx),sa,sb,List.Perm.refl _⟩
 have m1:MI (le B) (#[b0]:Array Keyed).toList (a.toList.drop 0) (b.toList.drop 1) (a.toList++b.toList):=pushB #[] 0 0 b0 m0 eb0' fun y hy=>by
  obtain⟨j,h1,h2,h3⟩:=E2 hy
  exact o.of_lt (o.lt_le lt0 (leA 0 j a0 y (o6 _) ea0' h3))
 by_cases e1:1=b.size
 ·refine F6 (by simpa using e1) ?_
  exact j9 (h _ st (Sm.rfl' st) (goodDone _ 0 1 m1 e1))
 refine E9 (by simpa using e1) ?_
 by_cases e2:0+1=a.size
 ·refine F6 (by simpa using e2) ?_
  exact j9 (h _ st (Sm.rfl' st) (goodLast _ 0 1 m1 e2))
 refine E9 (by simpa using e2) ?_
 refine i7 (at6 ?_)
 have I0:LoI B a b #[b0] 0 1:=⟨m1,by omega,by omega,rfl⟩
 refine i7 (S5 (C8
  (I:=fun x c st'=>Sm st st'/\∃ out ia ib mg,c=(none,out,ia,ib,mg)/\LoI B a b out ia ib/\x+1<=out.size)
  (Q:=fun c st'=>Sm st st'/\∃ r out ia ib mg,c=(some r,out,ia,ib,mg)/\Good B a b r) ?step ?fin ⟨Sm.rfl' st,#[b0],0,1,_,rfl,I0,by simp⟩) ?post)
 case fin =>
  rintro c st' ⟨hS,out,ia,ib,mg,rfl,I,hx⟩
  have h1:=I.sz
  have h2:=I.ha
  have h3:=I.hb
  exfalso
  omega
 case post =>
  rintro c st' ⟨hS,r,out,ia,ib,mg,rfl,hg⟩
  exact j9 (h r st' hS hg)
 case step =>
  rintro x c st1 _ hx ⟨hS1,out,ia,ib,mg,rfl,I,hsz⟩
  refine i7 (S5 (C8
   (I:=fun j c st'=>Sm st st'/\∃ out' ia' ib' ac bc,c=(none,out',ia',ib',ac,bc)/\LoI B a b out' ia' ib'/\x+1<=out'.size/\(1<=j->x+2<=out'.size))
   (Q:=fun c st'=>Sm st st'/\((∃ r out' ia' ib' ac bc,c=(some r,out',ia',ib',ac,bc)/\Good B a b r)\/(∃ out' ia' ib' ac bc,c=(none,out',ia',ib',ac,bc)/\LoI B a b out' ia' ib'/\x+2<=out'.size)))
   ?istep ?ifin ⟨hS1,out,ia,ib,0,0,rfl,I,hsz,by omega⟩) ?ipost)
  case ifin =>
   rintro c st' ⟨hS,out',ia',ib',ac,bc,rfl,I',h1,h2⟩
   exact⟨hS,.inr ⟨out',ia',ib',ac,bc,rfl,I',h2 (by omega)⟩⟩
  case istep =>
   rintro j c st' _ hj ⟨hS,out',ia',ib',ac,bc,rfl,I',h1,_⟩
   obtain⟨bx,eb,eb',Sb⟩:=gb ib' I'.hb
   obtain⟨ax,ea,ea',Sa⟩:=ga ia' (by have:=I'.ha;omega)
   refine i7 (B7 eb (i7 (B7 ea (i7 (aw5 C (hS.k.trans hk) Sb Sa ?_)))))
   cases ew:B bx ax with
   | true =>
    refine F6 rfl ?_
    refine i7 (B7 eb ?_)
    have m2:=pushB out' ia' ib' bx I'.m eb' fun y hy=>by
     obtain⟨j,h1,h2,h3⟩:=E2 hy
     exact o.of_lt (o.lt_le ew (leA ia' j ax y h1 ea' h3))
    by_cases e3:ib'+1=b.size
    ·refine F6 (by simpa using e3) ?_
     exact j9 ⟨hS,.inl ⟨_,_,_,_,_,_,rfl,goodDone _ _ _ m2 e3⟩⟩
    refine E9 (by simpa using e3) ?_
    have I2:LoI B a b (out'.push bx) ia' (ib'+1):=⟨m2,I'.ha,by have:=I'.hb;omega,by rw[y6,I'.sz];omega⟩
    have z2:x+2<=(out'.push bx).size:=by rw[y6];omega
    refine ag6 ?_ ?_
    ·exact j9 ⟨hS,.inr ⟨_,_,_,_,_,rfl,I2,z2⟩⟩
    ·exact j9 ⟨hS,_,_,_,_,_,rfl,I2,ai0 z2,fun _=>z2⟩
   | false =>
    refine E9 d4 ?_
    refine i7 (B7 ea ?_)
    have m2:=pushA out' ia' ib' ax I'.m ea' fun y hy=>by
     obtain⟨j,h1,h2,h3⟩:=E2 hy
     exact o.trans ew (leB ib' j bx y h1 eb' h3)
    by_cases e3:ia'+1+1=a.size
    ·refine F6 (by simpa using e3) ?_
     exact j9 ⟨hS,.inl ⟨_,_,_,_,_,_,rfl,goodLast _ _ _ m2 e3⟩⟩
    refine E9 (by simpa using e3) ?_
    have I2:LoI B a b (out'.push ax) (ia'+1) ib':=⟨m2,by have:=I'.ha;omega,I'.hb,by rw[y6,I'.sz];omega⟩
    have z2:x+2<=(out'.push ax).size:=by rw[y6];omega
    refine ag6 ?_ ?_
    ·exact j9 ⟨hS,.inr ⟨_,_,_,_,_,rfl,I2,z2⟩⟩
    ·exact j9 ⟨hS,_,_,_,_,_,rfl,I2,ai0 z2,fun _=>z2⟩
  case ipost =>
   rintro c st2 ⟨hS2,⟨r,out',ia',ib',ac,bc,rfl,hg⟩ | ⟨out',ia',ib',ac,bc,rfl,I',hz⟩⟩
   ·exact j9 ⟨hS2,r,_,_,_,_,rfl,hg⟩
   refine i7 (Z1 ?_)
   refine i7 (S5 (C8
    (I:=fun j c st'=>Sm st st'/\∃ out' ia' ib' mg ac bc,c=(none,out',ia',ib',mg,ac,bc)/\LoI B a b out' ia' ib'/\x+2<=out'.size)
    (Q:=fun c st'=>Sm st st'/\((∃ r out' ia' ib' mg ac bc,c=(some r,out',ia',ib',mg,ac,bc)/\Good B a b r)\/(∃ out' ia' ib' mg ac bc,c=(none,out',ia',ib',mg,ac,bc)/\LoI B a b out' ia' ib'/\x+2<=out'.size)))
    ?gstep ?gfin ⟨hS2,out',ia',ib',_,ac,bc,rfl,I',hz⟩) ?gpost)
   case gfin =>
    rintro c st' ⟨hS,out',ia',ib',mg,ac,bc,rfl,I',h1⟩
    exact⟨hS,.inr ⟨out',ia',ib',mg,ac,bc,rfl,I',h1⟩⟩
   case gpost =>
    rintro c st3 ⟨hS3,⟨r,out',ia',ib',mg,ac,bc,rfl,hg⟩ | ⟨out',ia',ib',mg,ac,bc,rfl,I',hz⟩⟩
    ·exact j9 ⟨hS3,r,_,_,_,_,rfl,hg⟩
    exact i7 (ag7 (j9 ⟨hS3.mg _,_,_,_,_,rfl,I',by omega⟩))
   case gstep =>
    rintro j c st' _ hj ⟨hS,out',ia',ib',mg,ac,bc,rfl,I',hz⟩
    dsimp (config:={ zeta:=false }) only
    obtain⟨bx,eb,eb',Sb⟩:=gb ib' I'.hb
    obtain⟨al,eal,eal',Sal⟩:=ga (a.size - 1) (by omega)
    revert mg
    refine aL2 (fun _=>rfl) fun mg1=>?_
    try dsimp (config:={ zeta:=false }) only
    refine i7 (ag7 (i7 (B7 eb ?_)))
    refine i7 (S1 o C (hS.k.trans hk) Sb (by have:=I'.ha;omega) (fun i y hi e=>hSa y (b8 (by rw[<- tl];exact e))) (fun i j y z hij hj e e'=>leA _ _ y z (S0 hij _) (by rw[<- tl];exact e) (by rw[<- tl];exact e')) (by have:=I'.ha;omega) fun k hkn hlt hge=>?_)
    dsimp (config:={ zeta:=false }) only
    have hS':=hS
    have hlt':∀ y∈(a.toList.drop ia').take k,∀ z∈b.toList.drop ib',le B y z:=fun y hy z hz'=>by
     obtain⟨i,hi,e⟩:=S8 hy
     have q:=hlt i y hi (by rw[tl];exact e)
     obtain⟨j',h1,h2,h3⟩:=E2 hz'
     simp only[byn,l9,if_false,bS0]at q
     exact o.trans q (leB ib' j' bx z h1 eb' h3)
    have m1':=blkA out' ia' ib' k I'.m hlt'
    have hge':∀ y∈a.toList.drop (ia'+k),B bx y=true:=fun y hy=>by
     obtain⟨j',h1,h2,h3⟩:=E2 hy
     have q:=hge (j' - ia') y (by omega) (by rw[j3]at h2;omega) (by rw[show ia'+(j' - ia')=j' by omega,tl];exact h3)
     simpa [byn] using q
    have hka:ia'+k<a.size:=by
     rcases C0 (ia'+k) a.size with q | q
     ·exact q
     ·exfalso
      have h9:=I'.ha
      have q1:=hlt (a.size - 1 - ia') al (by omega) (by rw[show ia'+(a.size - 1 - ia')=a.size - 1 by omega];exact eal)
      have q2:=hl bx (b8 eb') al eal
      simp[byn,q2]at q1
    generalize eo:out'=o
    generalize en:ia'=n
    revert o n
    refine am1 (R:=fun out1 ia1=>MI (le B) out1.toList (a.toList.drop ia1) (b.toList.drop ib') (a.toList++b.toList)/\(∀ y∈a.toList.drop ia1,B bx y=true)/\ia1+1<a.size/\out1.size=ia1+ib'/\x+2<=out1.size) ?_ (fun hk J=>?_) (fun hk=>?_)
    rotate_left
    ·by_cases e4:ia'+k+1=a.size
     ·refine F6 (by simpa using e4) ?_
      exact j9 ⟨hS.mg _,.inl ⟨_,_,_,_,_,_,_,rfl,goodLast _ _ _ m1' e4⟩⟩
     refine E9 (by simpa using e4) (E9 (by simp;omega) ?_)
     exact J (out'++a.extract ia' (ia'+k)) (ia'+k) ⟨m1',hge',by omega,by rw[E8,C4,I'.sz];omega,by rw[E8];omega⟩
    ·have e9:k=0:=by omega
     rw[e9]at hge'
     exact⟨I'.m,hge',I'.ha,I'.sz,hz⟩
    rintro out1 ia1 ⟨m1,hge1,hne1,sz1,z1⟩
    refine i7 (B7 eb ?_)
    have m2:=pushB out1 ia1 ib' bx m1 eb' fun y hy=>o.of_lt (hge1 y hy)
    by_cases e5:ib'+1=b.size
    ·refine F6 (by simpa using e5) ?_
     exact j9 ⟨hS.mg _,.inl ⟨_,_,_,_,_,_,_,rfl,goodDone _ _ _ m2 e5⟩⟩
    refine E9 (by simpa using e5) ?_
    generalize ho:out1.push bx=o2 at m2 ⊢
    have so2:o2.size=out1.size+1:=by rw[<- ho,y6]
    generalize hn:ib'+1=n2 at m2 e5 ⊢
    obtain⟨ax,ea,ea',Sa⟩:=ga ia1 (by omega)
    have hib:=I'.hb
    refine i7 (B7 ea ?_)
    refine i7 (S1 o C (hS.k.trans hk) Sa (by omega) (fun i y hi e=>hSb y (b8 (by rw[<- tl];exact e))) (fun i j y z hij hj e e'=>leB _ _ y z (S0 hij _) (by rw[<- tl];exact e) (by rw[<- tl];exact e')) (by omega) fun k' hkn' hlt2 hge2=>?_)
    dsimp (config:={ zeta:=false }) only
    have hlt2':∀ y∈(b.toList.drop n2).take k',∀ z∈a.toList.drop ia1,le B y z:=fun y hy z hz'=>by
     obtain⟨i,hi,e⟩:=S8 hy
     have q:=hlt2 i y hi (by rw[tl];exact e)
     obtain⟨j',h1,h2,h3⟩:=E2 hz'
     simp only[byn,if_true]at q
     exact o.of_lt (o.lt_le q (leA ia1 j' ax z h1 ea' h3))
    have m3':=blkB o2 ia1 n2 k' m2 hlt2'
    have hge2':∀ y∈b.toList.drop (n2+k'),le B ax y:=fun y hy=>by
     obtain⟨j',h1,h2,h3⟩:=E2 hy
     have q:=hge2 (j' - n2) y (by omega) (by rw[j3]at h2;omega) (by rw[show n2+(j' - n2)=j' by omega,tl];exact h3)
     show B y ax=false
     simpa [byn] using q
    have sz2:o2.size=ia1+n2:=by omega
    generalize eo:o2=o
    generalize en:n2=n
    revert o n
    refine am1 (R:=fun out2 ib2=>MI (le B) out2.toList (a.toList.drop ia1) (b.toList.drop ib2) (a.toList++b.toList)/\(∀ y∈b.toList.drop ib2,le B ax y)/\ib2<b.size/\out2.size=ia1+ib2/\x+2<=out2.size) ?_ (fun hk J=>?_) (fun hk=>?_)
    rotate_left
    ·by_cases e6:n2+k'=b.size
     ·refine F6 (by simpa using e6) ?_
      exact j9 ⟨hS.mg _,.inl ⟨_,_,_,_,_,_,_,rfl,goodDone _ _ _ m3' e6⟩⟩
     refine E9 (by simpa using e6) ?_
     exact J (o2++b.extract n2 (n2+k')) (n2+k') ⟨m3',hge2',by omega,by rw[E8,C4,sz2];omega,by rw[E8];omega⟩
    ·have e8:k'=0:=by omega
     rw[e8]at hge2'
     exact⟨m2,hge2',by omega,sz2,by omega⟩
    rintro out2 ib2 ⟨m3,hge3,hne3,sz3,z3⟩
    refine i7 (B7 ea ?_)
    have m4:=pushA out2 ia1 ib2 ax m3 ea' hge3
    by_cases e7:ia1+1+1=a.size
    ·refine F6 (by simpa using e7) ?_
     exact j9 ⟨hS.mg _,.inl ⟨_,_,_,_,_,_,_,rfl,goodLast _ _ _ m4 e7⟩⟩
    refine E9 (by simpa using e7) ?_
    have I4:LoI B a b (out2.push ax) (ia1+1) ib2:=⟨m4,by omega,hne3,by rw[y6,sz3];omega⟩
    have z4:x+2<=(out2.push ax).size:=by
     rw[y6,sz3]
     have:=I'.sz
     omega
    refine ag6 ?_ ?_
    ·exact j9 ⟨hS.mg _,.inr ⟨_,_,_,_,_,_,rfl,I4,z4⟩⟩
    ·exact j9 ⟨hS.mg _,_,_,_,_,_,_,rfl,I4,z4⟩
end
theorem aL6 {α:Type}{l:List α}{x:α}(h:l[n]?=some x):(l.take (n+1)).reverse=x::(l.take n).reverse:=by
 rw[o5,h,bE7]
 rfl
theorem ad7 {α:Type}(l:List α){k:Nat}(h:k<=n):(l.take n).reverse=((l.drop k).take (n - k)).reverse++(l.take k).reverse:=by
 rw[<- bE7]
 congr 1
 obtain⟨d,rfl⟩:=Nat.le.dest h
 rw[N5,List.take_add]
theorem F7 {α:Type}{l:List α}{x:α}(h:x∈(l.take n).reverse):∃ j,j<n/\j<l.length/\l[j]?=some x:=by
 rw[aK1]at h
 obtain⟨j,hj⟩:=m8.mp h
 rw[O2]at hj
 split at hj
 ·rename_i hlt
  exact⟨j,hlt,(c4.mp hj).1,hj⟩
 ·cases hj
theorem av7 (a:Array Keyed)(i k:Nat):(a.extract i k).toList=(a.toList.drop i).take (k - i):=by
 rw[P8,R3]
section
variable {S:Keyed->Prop}
abbrev HM (B:Keyed->Keyed->Bool)(a b out:Array Keyed)(na nb:Nat):Prop:=MI (fun x y=>le B y x) out.toList (a.toList.take na).reverse (b.toList.take nb).reverse (a.toList++b.toList)
structure HiI (B:Keyed->Keyed->Bool) (a b out:Array Keyed) (na nb:Nat):Prop where
 m:HM B a b out na nb
 ha:0<na
 ha':na<=a.size
 hb:1<nb
 hb':nb<=b.size
 sz:out.size+na+nb=a.size+b.size
theorem aL1 (o:Ord B)(C:Cmp prog w A E s κ S B){a b:Array Keyed}{st:SortSt}{Q:Array Keyed->SortSt->Prop}(hk:kindOf st=κ)(hSa:∀ x∈a.toList,S x)(hSb:∀ x∈b.toList,S x)
  (sa:a.toList.Pairwise (le B))(sb:b.toList.Pairwise (le B))(ha:0<a.size)(hb:0<b.size)
  (h0:∀ x y,b[0]?=some x->a[0]?=some y->B x y=true)(hl:∀ x∈b.toList,∀ y,a[a.size - 1]?=some y->B x y=true)
  (h:∀ r st',Sm st st'->Good B a b r->Q r st'):wpS (o7 prog w) A E s (az1 a b) Q st:=by
 have ga:∀ i,i<a.size->∃ x,a[i]?=some x/\a.toList[i]?=some x/\S x:=fun i hi=>by
  refine⟨a[i],getElem?_pos a i hi,by rw[b9];exact getElem?_pos a i hi,hSa _ (by simp)⟩
 have gb:∀ i,i<b.size->∃ x,b[i]?=some x/\b.toList[i]?=some x/\S x:=fun i hi=>by
  refine⟨b[i],getElem?_pos b i hi,by rw[b9];exact getElem?_pos b i hi,hSb _ (by simp)⟩
 have leA:∀ (i j:Nat) (x y:Keyed),i<=j->a.toList[i]?=some x->a.toList[j]?=some y->le B x y:=fun i j x y hij hx hy=>by
  obtain⟨h1,rfl⟩:=c4.mp hx
  obtain⟨h2,rfl⟩:=c4.mp hy
  rcases F9 hij with hlt | rfl
  ·exact o4.mp sa i j h1 h2 hlt
  ·exact o.rf _
 have leB:∀ (i j:Nat) (x y:Keyed),i<=j->b.toList[i]?=some x->b.toList[j]?=some y->le B x y:=fun i j x y hij hx hy=>by
  obtain⟨h1,rfl⟩:=c4.mp hx
  obtain⟨h2,rfl⟩:=c4.mp hy
  rcases F9 hij with hlt | rfl
  ·exact o4.mp sb i j h1 h2 hlt
  ·exact o.rf _
 have tl:∀ (z:Array Keyed) (i:Nat),z[i]?=z.toList[i]?:=fun z i=>(b9 ..).symm
 have rel:∀ {l:List Keyed},l.Pairwise (fun x y=>le B y x)->l.reverse.Pairwise (le B):=fun {l} hp=>W1.mpr hp
 have goodDone:∀ (out:Array Keyed) (na nb:Nat),HM B a b out na nb->(na=0\/nb=0)->Good B a b (a.extract 0 na++b.extract 0 nb++out.reverse):=fun out na nb m e=>by
  have:=m.endBA (fun x hx y hy=>by
   rcases e with rfl | rfl
   ·simp at hy
   ·simp at hx)
  unfold Good
  rw[A3,A3,aJ0,aJ0,W7]
  have q:(out.toList++((b.toList.take nb).reverse++(a.toList.take na).reverse)).reverse=a.toList.take na++b.toList.take nb++out.toList.reverse:=by simp
  exact⟨by rw[<- q];exact rel this.1,by rw[<- q];exact(V2 _).trans this.2⟩
 obtain⟨b0,eb0,eb0',Sb0⟩:=gb 0 hb
 obtain⟨a0,ea0,ea0',Sa0⟩:=ga 0 ha
 have lt0:=h0 b0 a0 eb0 ea0
 have goodFirst:∀ (out:Array Keyed) (na nb:Nat),HM B a b out na nb->nb=1->Good B a b (b.extract 0 nb++a.extract 0 na++out.reverse):=fun out na nb m e=>by
  have:=m.endAB (fun x hx y hy=>by
   subst e
   obtain⟨i,h1,h2,h3⟩:=F7 hx
   obtain⟨j,h4,h5,h6⟩:=F7 hy
   have:j=0:=by omega
   subst this
   rw[eb0']at h6
   cases h6
   exact o.of_lt (o.lt_le lt0 (leA 0 i a0 x (o6 _) ea0' h3)))
  unfold Good
  rw[A3,A3,aJ0,aJ0,W7]
  have q:(out.toList++((a.toList.take na).reverse++(b.toList.take nb).reverse)).reverse=b.toList.take nb++a.toList.take na++out.toList.reverse:=by simp
  exact⟨by rw[<- q];exact rel this.1,by rw[<- q];exact(V2 _).trans this.2⟩
 have pushA:∀ (out:Array Keyed) (na nb:Nat) (x:Keyed),0<na->HM B a b out na nb->a.toList[na - 1]?=some x->(∀ y∈(b.toList.take nb).reverse,le B y x)->HM B a b (out.push x) (na - 1) nb:=fun out na nb x hn m e hx=>by
  obtain⟨n,rfl⟩:∃ n,na=n+1:=⟨na - 1,by omega⟩
  unfold HM at m ⊢
  rw[ad4]at e ⊢
  rw[aL6 e]at m
  rw[U1]
  exact m.oneA hx
 have pushB:∀ (out:Array Keyed) (na nb:Nat) (x:Keyed),0<nb->HM B a b out na nb->b.toList[nb - 1]?=some x->(∀ y∈(a.toList.take na).reverse,le B y x)->HM B a b (out.push x) na (nb - 1):=fun out na nb x hn m e hx=>by
  obtain⟨n,rfl⟩:∃ n,nb=n+1:=⟨nb - 1,by omega⟩
  unfold HM at m ⊢
  rw[ad4]at e ⊢
  rw[aL6 e]at m
  rw[U1]
  exact m.oneB hx
 have blkA:∀ (out:Array Keyed) (na nb k:Nat),k<=na->HM B a b out na nb->(∀ x∈((a.toList.drop k).take (na - k)).reverse,∀ y∈(b.toList.take nb).reverse,le B y x)->HM B a b (out++(a.extract k na).reverse) k nb:=fun out na nb k hkn m hx=>by
  unfold HM at m ⊢
  rw[ad7 a.toList hkn]at m
  rw[A3,W7,av7]
  exact m.blkA hx
 have blkB:∀ (out:Array Keyed) (na nb k:Nat),k<=nb->HM B a b out na nb->(∀ x∈((b.toList.drop k).take (nb - k)).reverse,∀ y∈(a.toList.take na).reverse,le B y x)->HM B a b (out++(b.extract k nb).reverse) na k:=fun out na nb k hkn m hx=>by
  unfold HM at m ⊢
  rw[ad7 b.toList hkn]at m
  rw[A3,W7,av7]
  exact m.blkB hx
 rw[aO7]
 refine i7 (Z1 ?_)
 obtain⟨al,eal,eal',Sal⟩:=ga (a.size - 1) (by omega)
 refine i7 (B7 eal ?_)
 have m0:HM B a b #[] a.size b.size:=by
  unfold HM
  rw[j5 (by simp),j5 (by simp)]
  refine⟨List.Pairwise.nil,(fun _ hx=>nomatch hx),(fun _ hx=>nomatch hx),W1.mpr sa,W1.mpr sb,?_⟩
  rw[L8]
  exact List.Perm.append (V2 _) (V2 _)
 have m1:HM B a b #[al] (a.size - 1) b.size:=pushA #[] a.size b.size al ha m0 eal' fun y hy=>by
  obtain⟨j,h1,h2,h3⟩:=F7 hy
  exact o.of_lt (hl y (b8 h3) al eal)
 by_cases e1:a.size - 1=0
 ·refine F6 (by simpa using e1) ?_
  exact j9 (h _ st (Sm.rfl' st) (goodDone _ _ _ m1 (.inl e1)))
 refine E9 (by simpa using e1) ?_
 by_cases e2:b.size=1
 ·refine F6 (by simpa using e2) ?_
  exact j9 (h _ st (Sm.rfl' st) (goodFirst _ _ _ m1 e2))
 refine E9 (by simpa using e2) ?_
 refine i7 (at6 ?_)
 have I0:HiI B a b #[al] (a.size - 1) b.size:=⟨m1,by omega,by omega,by omega,by omega,by simp;omega⟩
 refine i7 (S5 (C8
  (I:=fun x c st'=>Sm st st'/\∃ na nb out mg,c=(none,na,nb,out,mg)/\HiI B a b out na nb/\x+1<=out.size)
  (Q:=fun c st'=>Sm st st'/\∃ r na nb out mg,c=(some r,na,nb,out,mg)/\Good B a b r) ?step ?fin ⟨Sm.rfl' st,_,_,#[al],_,rfl,I0,by simp⟩) ?post)
 case fin =>
  rintro c st' ⟨hS,na,nb,out,mg,rfl,I,hx⟩
  have h1:=I.sz
  have h2:=I.ha
  have h3:=I.hb
  exfalso
  omega
 case post =>
  rintro c st' ⟨hS,r,na,nb,out,mg,rfl,hg⟩
  exact j9 (h r st' hS hg)
 case step =>
  rintro x c st1 _ hx ⟨hS1,na,nb,out,mg,rfl,I,hsz⟩
  refine i7 (S5 (C8
   (I:=fun j c st'=>Sm st st'/\∃ na' nb' out' ac bc,c=(none,na',nb',out',ac,bc)/\HiI B a b out' na' nb'/\x+1<=out'.size/\(1<=j->x+2<=out'.size))
   (Q:=fun c st'=>Sm st st'/\((∃ r na' nb' out' ac bc,c=(some r,na',nb',out',ac,bc)/\Good B a b r)\/(∃ na' nb' out' ac bc,c=(none,na',nb',out',ac,bc)/\HiI B a b out' na' nb'/\x+2<=out'.size)))
   ?istep ?ifin ⟨hS1,na,nb,out,0,0,rfl,I,hsz,by omega⟩) ?ipost)
  case ifin =>
   rintro c st' ⟨hS,na',nb',out',ac,bc,rfl,I',h1,h2⟩
   exact⟨hS,.inr ⟨na',nb',out',ac,bc,rfl,I',h2 (by omega)⟩⟩
  case istep =>
   rintro j c st' _ hj ⟨hS,na',nb',out',ac,bc,rfl,I',h1,_⟩
   have i1:=I'.ha
   have i2:=I'.ha'
   have i3:=I'.hb
   have i4:=I'.hb'
   have i5:=I'.sz
   obtain⟨bx,eb,eb',Sb⟩:=gb (nb' - 1) (by omega)
   obtain⟨ax,ea,ea',Sa⟩:=ga (na' - 1) (by omega)
   refine i7 (B7 eb (i7 (B7 ea (i7 (aw5 C (hS.k.trans hk) Sb Sa ?_)))))
   cases ew:B bx ax with
   | true =>
    refine F6 rfl ?_
    refine i7 (B7 ea ?_)
    have m2:=pushA out' na' nb' ax i1 I'.m ea' fun y hy=>by
     obtain⟨j,h1,h2,h3⟩:=F7 hy
     exact o.of_lt (o.le_lt (leB j (nb' - 1) y bx (by omega) h3 eb') ew)
    by_cases e3:na' - 1=0
    ·refine F6 (by simpa using e3) ?_
     exact j9 ⟨hS,.inl ⟨_,_,_,_,_,_,rfl,goodDone _ _ _ m2 (.inl e3)⟩⟩
    refine E9 (by simpa using e3) ?_
    have I2:HiI B a b (out'.push ax) (na' - 1) nb':=⟨m2,by omega,by omega,i3,i4,by rw[y6];omega⟩
    have z2:x+2<=(out'.push ax).size:=by rw[y6];omega
    refine ag6 ?_ ?_
    ·exact j9 ⟨hS,.inr ⟨_,_,_,_,_,rfl,I2,z2⟩⟩
    ·exact j9 ⟨hS,_,_,_,_,_,rfl,I2,ai0 z2,fun _=>z2⟩
   | false =>
    refine E9 d4 ?_
    refine i7 (B7 eb ?_)
    have m2:=pushB out' na' nb' bx (by omega) I'.m eb' fun y hy=>by
     obtain⟨j,h1,h2,h3⟩:=F7 hy
     exact o.trans (leA j (na' - 1) y ax (by omega) h3 ea') ew
    by_cases e3:nb' - 1=1
    ·refine F6 (by simpa using e3) ?_
     exact j9 ⟨hS,.inl ⟨_,_,_,_,_,_,rfl,goodFirst _ _ _ m2 e3⟩⟩
    refine E9 (by simpa using e3) ?_
    have I2:HiI B a b (out'.push bx) na' (nb' - 1):=⟨m2,i1,i2,by omega,by omega,by rw[y6];omega⟩
    have z2:x+2<=(out'.push bx).size:=by rw[y6];omega
    refine ag6 ?_ ?_
    ·exact j9 ⟨hS,.inr ⟨_,_,_,_,_,rfl,I2,z2⟩⟩
    ·exact j9 ⟨hS,_,_,_,_,_,rfl,I2,ai0 z2,fun _=>z2⟩
  case ipost =>
   rintro c st2 ⟨hS2,⟨r,na',nb',out',ac,bc,rfl,hg⟩ | ⟨na',nb',out',ac,bc,rfl,I',hz⟩⟩
   ·exact j9 ⟨hS2,r,_,_,_,_,rfl,hg⟩
   refine i7 (Z1 ?_)
   refine i7 (S5 (C8
    (I:=fun j c st'=>Sm st st'/\∃ na' nb' out' mg ac bc,c=(none,na',nb',out',mg,ac,bc)/\HiI B a b out' na' nb'/\x+2<=out'.size)
    (Q:=fun c st'=>Sm st st'/\((∃ r na' nb' out' mg ac bc,c=(some r,na',nb',out',mg,ac,bc)/\Good B a b r)\/(∃ na' nb' out' mg ac bc,c=(none,na',nb',out',mg,ac,bc)/\HiI B a b out' na' nb'/\x+2<=out'.size)))
    ?gstep ?gfin ⟨hS2,na',nb',out',_,ac,bc,rfl,I',hz⟩) ?gpost)
   case gfin =>
    rintro c st' ⟨hS,na',nb',out',mg,ac,bc,rfl,I',h1⟩
    exact⟨hS,.inr ⟨na',nb',out',mg,ac,bc,rfl,I',h1⟩⟩
   case gpost =>
    rintro c st3 ⟨hS3,⟨r,na',nb',out',mg,ac,bc,rfl,hg⟩ | ⟨na',nb',out',mg,ac,bc,rfl,I',hz⟩⟩
    ·exact j9 ⟨hS3,r,_,_,_,_,rfl,hg⟩
    exact i7 (ag7 (j9 ⟨hS3.mg _,_,_,_,_,rfl,I',by omega⟩))
   case gstep =>
    rintro j c st' _ hj ⟨hS,na',nb',out',mg,ac,bc,rfl,I',hz⟩
    dsimp (config:={ zeta:=false }) only
    have i1:=I'.ha
    have i2:=I'.ha'
    have i3:=I'.hb
    have i4:=I'.hb'
    have i5:=I'.sz
    obtain⟨bx,eb,eb',Sb⟩:=gb (nb' - 1) (by omega)
    revert mg
    refine aL2 (fun _=>rfl) fun mg1=>?_
    try dsimp (config:={ zeta:=false }) only
    refine i7 (ag7 (i7 (B7 eb ?_)))
    refine i7 (S1 o C (hS.k.trans hk) Sb (by omega) (fun i y hi e=>hSa y (b8 (by rw[<- tl];exact e))) (fun i j y z hij hj e e'=>leA _ _ y z (S0 hij _) (by rw[<- tl];exact e) (by rw[<- tl];exact e')) (by omega) fun k hkn hlt hge=>?_)
    dsimp (config:={ zeta:=false }) only
    have hlt':∀ y∈(a.toList.take k).reverse,le B y bx:=fun y hy=>by
     obtain⟨i,h1,h2,h3⟩:=F7 hy
     have q:=hlt i y h1 (by rw[K2,tl];exact h3)
     show B bx y=false
     simpa [byn] using q
    have hge':∀ y∈((a.toList.drop k).take (na' - k)).reverse,∀ z∈(b.toList.take nb').reverse,le B z y:=fun y hy z hz'=>by
     rw[aK1]at hy
     obtain⟨i,h1,h3⟩:=S8 hy
     have q:=hge (k+i) y (by omega) (by omega) (by rw[K2,tl];exact h3)
     obtain⟨j',h4,h5,h6⟩:=F7 hz'
     have q':B bx y=true:=by simpa [byn] using q
     exact o.of_lt (o.le_lt (leB j' (nb' - 1) z bx (by omega) h6 eb') q')
    have m1':=blkA out' na' nb' k hkn I'.m hge'
    generalize hd:na' - k=d
    generalize eo:out'=o
    generalize en:na'=n
    revert o n
    refine am1 (R:=fun out1 na1=>HM B a b out1 na1 nb'/\(∀ y∈(a.toList.take na1).reverse,le B y bx)/\0<na1/\na1<=a.size/\out1.size+na1+nb'=a.size+b.size/\x+2<=out1.size) ?_ (fun hk J=>?_) (fun hk=>?_)
    rotate_left
    ·by_cases e4:k=0
     ·refine F6 (by simpa using e4) ?_
      exact j9 ⟨hS.mg _,.inl ⟨_,_,_,_,_,_,_,rfl,goodDone _ _ _ m1' (.inl e4)⟩⟩
     refine E9 (by simpa using e4) ?_
     exact J (out'++(a.extract k na').reverse) k ⟨m1',hlt',by omega,by omega,by rw[E8,bE8,C4];omega,by rw[E8];omega⟩
    ·have e9:k=na':=by omega
     exact⟨I'.m,by rw[<- e9];exact hlt',i1,i2,i5,hz⟩
    rintro out1 na1 ⟨m1,hge1,hne1,hle1,sz1,z1⟩
    refine i7 (B7 eb ?_)
    have m2:=pushB out1 na1 nb' bx (by omega) m1 eb' hge1
    by_cases e5:nb' - 1=1
    ·refine F6 (by simpa using e5) ?_
     exact j9 ⟨hS.mg _,.inl ⟨_,_,_,_,_,_,_,rfl,goodFirst _ _ _ m2 e5⟩⟩
    refine E9 (by simpa using e5) ?_
    generalize ho:out1.push bx=o2 at m2 ⊢
    have so2:o2.size=out1.size+1:=by rw[<- ho,y6]
    generalize hn:nb' - 1=n2 at m2 e5 ⊢
    obtain⟨ax,ea,ea',Sa⟩:=ga (na1 - 1) (by omega)
    refine i7 (B7 ea ?_)
    refine i7 (S1 o C (hS.k.trans hk) Sa (by omega) (fun i y hi e=>hSb y (b8 (by rw[<- tl];exact e))) (fun i j y z hij hj e e'=>leB _ _ y z (S0 hij _) (by rw[<- tl];exact e) (by rw[<- tl];exact e')) (by omega) fun k' hkn' hlt2 hge2=>?_)
    dsimp (config:={ zeta:=false }) only
    have hlt2':∀ y∈(b.toList.take k').reverse,le B y ax:=fun y hy=>by
     obtain⟨i,h1,h2,h3⟩:=F7 hy
     have q:=hlt2 i y h1 (by rw[K2,tl];exact h3)
     have q':B y ax=true:=by simpa [byn] using q
     exact o.of_lt q'
    have hge2':∀ y∈((b.toList.drop k').take (n2 - k')).reverse,∀ z∈(a.toList.take na1).reverse,le B z y:=fun y hy z hz'=>by
     rw[aK1]at hy
     obtain⟨i,h1,h3⟩:=S8 hy
     have q:=hge2 (k'+i) y (by omega) (by omega) (by rw[K2,tl];exact h3)
     obtain⟨j',h4,h5,h6⟩:=F7 hz'
     have q':B y ax=false:=by simpa [byn] using q
     exact o.trans (leA j' (na1 - 1) z ax (by omega) h6 ea') q'
    have m3':=blkB o2 na1 n2 k' hkn' m2 hge2'
    have sz2:o2.size+na1+n2=a.size+b.size:=by omega
    generalize hd2:n2 - k'=d2
    generalize eo:o2=o
    generalize en:n2=n
    revert o n
    refine am1 (R:=fun out2 nb2=>HM B a b out2 na1 nb2/\(∀ y∈(b.toList.take nb2).reverse,le B y ax)/\1<nb2/\nb2<=b.size/\out2.size+na1+nb2=a.size+b.size/\x+2<=out2.size) ?_ (fun hk J=>?_) (fun hk=>?_)
    rotate_left
    ·by_cases e6:k'=1
     ·refine F6 (by simpa using e6) ?_
      exact j9 ⟨hS.mg _,.inl ⟨_,_,_,_,_,_,_,rfl,goodFirst _ _ _ m3' e6⟩⟩
     refine E9 (by simpa using e6) ?_
     by_cases e7:k'=0
     ·refine F6 (by simpa using e7) ?_
      exact j9 ⟨hS.mg _,.inl ⟨_,_,_,_,_,_,_,rfl,goodDone _ _ _ m3' (.inr e7)⟩⟩
     refine E9 (by simpa using e7) ?_
     exact J (o2++(b.extract k' n2).reverse) k' ⟨m3',hlt2',by omega,by omega,by rw[E8,bE8,C4];omega,by rw[E8];omega⟩
    ·have e8:k'=n2:=by omega
     exact⟨m2,by rw[<- e8];exact hlt2',by omega,by omega,sz2,by omega⟩
    rintro out2 nb2 ⟨m3,hge3,hne3,hle3,sz3,z3⟩
    refine i7 (B7 ea ?_)
    have m4:=pushA out2 na1 nb2 ax hne1 m3 ea' hge3
    by_cases e7:na1 - 1=0
    ·refine F6 (by simpa using e7) ?_
     exact j9 ⟨hS.mg _,.inl ⟨_,_,_,_,_,_,_,rfl,goodDone _ _ _ m4 (.inl e7)⟩⟩
    refine E9 (by simpa using e7) ?_
    have I4:HiI B a b (out2.push ax) (na1 - 1) nb2:=⟨m4,by omega,by omega,hne3,hle3,by rw[y6];omega⟩
    have z4:x+2<=(out2.push ax).size:=by
     rw[y6]
     omega
    refine ag6 ?_ ?_
    ·exact j9 ⟨hS.mg _,.inr ⟨_,_,_,_,_,_,rfl,I4,z4⟩⟩
    ·exact j9 ⟨hS.mg _,_,_,_,_,_,_,rfl,I4,z4⟩
end
def KF {O:aS5}(f:Keyed->O.α)(d:O.α)(xs:Array Keyed)(i:Nat):O.α:=match xs[i]? with
 | some p=>f p
 | none=>d
def Bf {O:aS5}(f:Keyed->O.α)(x y:Keyed):Bool:=O.blt (f x) (f y)
theorem Bf.ord {O:aS5}(f:Keyed->O.α):Ord (Bf f):=⟨fun x=>O.irrefl _,fun x y z=>O.trans _ _ _,fun x y z=>O.negTrans _ _ _⟩
section
variable {O:aS5} {f:Keyed->O.α} {d:O.α}
theorem ag1 {ys:Array Keyed}(h:xs[i]?=ys[j]?):KF f d xs i=KF f d ys j:=by unfold KF;rw[h]
theorem aw3 {x:Keyed}(h:xs[i]?=some x):KF f d xs i=f x:=by unfold KF;rw[h]
theorem aF9 {src dd:Nat}(hs:src<xs.size)(hd:dd<=src)(k:Nat) :
  KF f d (bubble xs src dd) k=if k=src - dd then KF f d xs src else if src - dd<k/\k<=src then KF f d xs (k - 1) else KF f d xs k:=by
 have e:=getElem?_bubble hs dd hd k
 repeat' split at e
 all_goals first
  | (rw[if_pos (by assumption)];exact ag1 e)
  | (rw[if_neg (by assumption),if_pos (by assumption)];exact ag1 e)
  | (rw[if_neg (by assumption),if_neg (by assumption)];exact ag1 e)
theorem ar3 (hj:j<=xs.size)(k:Nat):KF f d (mirror xs i j ((j - i) / 2)) k=if i<=k/\k<j then KF f d xs (i+j - 1 - k) else KF f d xs k:=by
 have e:=bU0 (i:=i) hj k
 split at e
 ·rw[if_pos (by assumption)];exact ag1 e
 ·rw[if_neg (by assumption)];exact ag1 e
theorem L5 (hj:j<=xs.size)(heq:∀ k,i<=k->k<j->KF f d xs k=KF f d xs (j - 1))(k:Nat):KF f d (mirror xs i j ((j - i) / 2)) k=KF f d xs k:=by
 rw[ar3 hj]
 split
 ·rw[heq _ (by omega) (by omega),heq k (by omega) (by omega)]
 ·rfl
end
def Q9 {O:aS5}(f:Keyed->O.α)(d:O.α)(lo:Nat)(xs:Array Keyed)(k:Nat):Prop:=∀ i j,i<=j->j<k->O.kle (KF f d xs (lo+i)) (KF f d xs (lo+j))
def ab9 {O:aS5}(f:Keyed->O.α)(d:O.α)(lo:Nat)(xs:Array Keyed)(k:Nat):Prop:=∀ i j,i<=j->j<k->O.kle (KF f d xs (lo+j)) (KF f d xs (lo+i))
def Pre (lo:Nat)(xs ys:Array Keyed):Prop:=∀ k,k<lo->ys[k]?=xs[k]?
theorem Pre.rf (lo:Nat)(xs:Array Keyed):Pre lo xs xs:=fun _ _=>rfl
theorem Pre.trans {lo:Nat}{ys zs:Array Keyed}(a:Pre lo xs ys)(b:Pre lo ys zs):Pre lo xs zs:=fun k hk=>(b k hk).trans (a k hk)
theorem Pre.mirror {lo:Nat}(hj:j<=xs.size)(hi:lo<=i):Pre lo xs (mirror xs i j ((j - i) / 2)):=fun k hk=>by
 rw[bU0 hj,if_neg (by omega)]
theorem Pre.bubble {lo src dd:Nat}(hs:src<xs.size)(hd:dd<=src)(hl:lo<=src - dd):Pre lo xs (bubble xs src dd):=fun k hk=>by
 rw[getElem?_bubble hs dd hd,if_neg (by omega),if_neg (by omega)]
structure SI (a₀:Array Keyed) (κ:SortKind) (p:Array (Nat × Nat × Nat)) (st:SortSt):Prop where
 perm:(l5 st).Perm a₀
 kind:kindOf st=κ
 failed:K6 st=none
 pend:A5 st=p
section
variable {a₀:Array Keyed} {p:Array (Nat × Nat × Nat)} {O:aS5} {f:Keyed->O.α} {d:O.α}
theorem SI.size {st:SortSt}(h:SI a₀ κ p st):(l5 st).size=a₀.size:=h.perm.size_eq
theorem SI.setArr {st:SortSt}(h:SI a₀ κ p st)(hp:xs.Perm (l5 st)):SI a₀ κ p (setArr st xs):=⟨hp.trans h.perm,h.kind,h.failed,h.pend⟩
theorem SI.at {st:SortSt}(h:SI a₀ κ p st)(hi:i<a₀.size):∃ x,(l5 st)[i]?=some x/\x∈a₀.toList:=by
 have hi':i<(l5 st).size:=by rw[h.size];exact hi
 exact⟨(l5 st)[i],getElem?_pos _ i hi',(J2.mp h.perm).mem_iff.mp (by simp)⟩
abbrev bE6 (prog:Program)(w:World)(A:Around)(E:Value->Shared->Prop)(s:Shared)(κ:SortKind)(a₀:Array Keyed){O:aS5}(f:Keyed->O.α):Prop:=Cmp prog w A E s κ (·∈a₀.toList) (Bf f)
theorem aa7 (C:bE6 prog w A E s κ a₀ f){st:SortSt}{Q:Option Bool->SortSt->Prop}(hB:SI a₀ κ p st)(hi:i<a₀.size)(hj:j<a₀.size)
  (h:Q (some (O.blt (KF f d (l5 st) i) (KF f d (l5 st) j))) st):wpS (o7 prog w) A E s (ltAt' i j) Q st:=by
 obtain⟨x,e1,hx⟩:=hB.at hi
 obtain⟨y,e2,hy⟩:=hB.at hj
 rw[aw3 e1,aw3 e2]at h
 exact bd7 C hB.kind e1 e2 hx hy h
theorem aY1 {st:SortSt} {lo a nrem:Nat} {Q:Option (Option Nat) × Nat->SortSt->Prop} {b:Nat->Option (Option Nat) × Nat->StateT SortSt Sem (ForInStep (Option (Option Nat) × Nat))} (ha:1<=a) (han:a<=nrem)
  (hb : ∀ x n (R : ForInStep (Option (Option Nat) × Nat) -> SortSt -> Prop), 1 <= n -> n < nrem -> (O.klt (KF f d (l5 st) (lo + n)) (KF f d (l5 st) (lo + n - 1)) -> R (.done (none, n)) st) ->
   (O.kle (KF f d (l5 st) (lo+n - 1)) (KF f d (l5 st) (lo+n))->R (.yield (none,n+1)) st)->wpS (o7 prog w) A E s (b x (none,n)) R st)
  (hs:Q9 f d lo (l5 st) a)
  (h:∀ n,a<=n->n<=nrem->Q9 f d lo (l5 st) n->(n=nrem\/O.klt (KF f d (l5 st) (lo+n)) (KF f d (l5 st) (lo+n - 1)))->Q (none,n) st) :
  wpS (o7 prog w) A E s (forIn [a:nrem] (none,a) b) Q st:=by
 refine C8 (I:=fun x c st'=>st'=st/\c=(none,x)/\Q9 f d lo (l5 st) x) ?step ?fin ⟨rfl,rfl,hs⟩
 case fin =>
  rintro c st' ⟨rfl,rfl,hs'⟩
  rw[show max a nrem=nrem by omega]at hs' ⊢
  exact h nrem han (c6 _) hs' (.inl rfl)
 case step =>
  rintro x c st' hax hxn ⟨rfl,rfl,hs'⟩
  refine hb x x _ (by omega) hxn (fun q=>h x hax (by omega) hs' (.inr q)) (fun q=>⟨rfl,rfl,fun i j hij hj=>?_⟩)
  by_cases hjx:j<x
  ·exact hs' i j hij hjx
  ·have hj':j=x:=by omega
   subst hj'
   by_cases hi':i=j
   ·subst hi';exact KeyOrd.kle_refl _
   ·refine KeyOrd.kle_trans (hs' i (j - 1) (by omega) (by omega)) ?_
    rw[show lo+(j - 1)=lo+j - 1 by omega]
    exact q
theorem bj4 {st:SortSt} {lo nrem:Nat} {Q:Option (Option Nat) × Nat × Nat->SortSt->Prop} (hn:lo+nrem<=a₀.size) (h1:1<=n) (hnn:n<=nrem) (hB:SI a₀ κ p st)
  (hb : ∀ y x neq st' (R : ForInStep (Option (Option Nat) × Nat × Nat) -> SortSt -> Prop), SI a₀ κ p st' -> 1 <= x -> x < nrem ->
   (O.klt (KF f d (l5 st') (lo+x)) (KF f d (l5 st') (lo+x - 1))->0<neq->R (.yield (none,x+1,0)) (setArr st' (mirror (l5 st') (lo+x - (neq+1)) (lo+x) ((lo+x - (lo+x - (neq+1))) / 2)))) ->
   (O.klt (KF f d (l5 st') (lo+x)) (KF f d (l5 st') (lo+x - 1))->R (.yield (none,x+1,0)) st') ->
   (R (.done (none,x,neq)) st') ->
   (O.kle (KF f d (l5 st') (lo+x - 1)) (KF f d (l5 st') (lo+x))->O.kle (KF f d (l5 st') (lo+x)) (KF f d (l5 st') (lo+x - 1))->R (.yield (none,x+1,neq+1)) st')->wpS (o7 prog w) A E s (b y (none,x,neq)) R st')
  (hs:ab9 f d lo (l5 st) n)
  (h:∀ m neq st',SI a₀ κ p st'->Pre lo (l5 st) (l5 st')->n<=m->m<=nrem->ab9 f d lo (l5 st') m->neq+1<=m->(∀ i,m - (neq+1)<=i->i<m->KF f d (l5 st') (lo+i)=KF f d (l5 st') (lo+m - 1))->Q (none,m,neq) st') :
  wpS (o7 prog w) A E s (forIn [n:nrem] (none,n,0) b) Q st:=by
 refine C8 (I:=fun x c st'=>∃ neq,c=(none,x,neq)/\SI a₀ κ p st'/\Pre lo (l5 st) (l5 st')/\ab9 f d lo (l5 st') x/\neq+1<=x /\
   (∀ i,x - (neq+1)<=i->i<x->KF f d (l5 st') (lo+i)=KF f d (l5 st') (lo+x - 1))) ?step ?fin ⟨0,rfl,hB,Pre.rf _ _,hs,by omega,fun i h1 h2=>by congr 1;omega⟩
 case fin =>
  rintro c st' ⟨neq,rfl,hB',hp',hs',hq,he⟩
  rw[show max n nrem=nrem by omega]at hs' hq he ⊢
  exact h nrem neq st' hB' hp' hnn (c6 _) hs' hq he
 case step =>
  rintro x c st' hax hxn ⟨neq,rfl,hB',hp',hs',hq,he⟩
  have hsz:lo+x<=(l5 st').size:=by rw[hB'.size];omega
  have step1:O.klt (KF f d (l5 st') (lo+x)) (KF f d (l5 st') (lo+x - 1))->∀ xs:Array Keyed,(∀ k,KF f d xs k=KF f d (l5 st') k)->ab9 f d lo xs (x+1):=by
   intro hless xs hk i j hij hj
   rw[hk,hk]
   by_cases hjx:j<x
   ·exact hs' i j hij hjx
   ·have hj':j=x:=by omega
    subst hj'
    by_cases hi':i=j
    ·subst hi';exact KeyOrd.kle_refl _
    ·refine KeyOrd.kle_trans (KeyOrd.kle_of_klt hless) ?_
     rw[show lo+j - 1=lo+(j - 1) by omega]
     exact hs' i (j - 1) (by omega) (by omega)
  have he':∀ k,lo+x - (neq+1)<=k->k<lo+x->KF f d (l5 st') k=KF f d (l5 st') (lo+x - 1):=fun k h1 h2=>by
   have:=he (k - lo) (by omega) (by omega)
   rw[show lo+(k - lo)=k by omega]at this
   exact this
  refine hb x x neq st' _ hB' (by omega) hxn (fun q hneq=>?_) (fun q=>?_) (h x neq st' hB' hp' hax (by omega) hs' hq he) (fun q q'=>?_)
  ·exact⟨0,rfl,hB'.setArr (bd2 _ _ _ _),hp'.trans (Pre.mirror hsz (by omega)),step1 q _ (L5 hsz he'),by omega,fun i h1 h2=>by congr 1;omega⟩
  ·exact⟨0,rfl,hB',hp',step1 q _ (fun _=>rfl),by omega,fun i h1 h2=>by congr 1;omega⟩
  ·have heqx:KF f d (l5 st') (lo+x)=KF f d (l5 st') (lo+x - 1):=KeyOrd.kle_antisymm q' q
   refine⟨neq+1,rfl,hB',hp',fun i j hij hj=>?_,by omega,fun i h1 h2=>?_⟩
   ·by_cases hjx:j<x
    ·exact hs' i j hij hjx
    ·have hj':j=x:=by omega
     subst hj'
     by_cases hi':i=j
     ·subst hi';exact KeyOrd.kle_refl _
     ·rw[heqx,show lo+j - 1=lo+(j - 1) by omega];exact hs' i (j - 1) (by omega) (by omega)
   ·rw[show lo+(x+1) - 1=lo+x by omega]
    by_cases hix:i=x
    ·subst hix;rfl
    ·rw[heqx];exact he i (by omega) (by omega)
theorem wpS_countRun (C:bE6 prog w A E s κ a₀ f) {st:SortSt} {lo nrem:Nat} {Q:Option Nat->SortSt->Prop} (d:O.α) (hn:lo+nrem<=a₀.size) (h1:1<=nrem) (hB:SI a₀ κ p st)
    (h:∀ m st',SI a₀ κ p st'->Pre lo (l5 st) (l5 st')->1<=m->m<=nrem->Q9 f d lo (l5 st') m->Q (some m) st') :
    wpS (o7 prog w) A E s (countRun' lo nrem) Q st:=by
  rw[countRun'_eq]
  dsimp only
  refine i7 (aY1 (f:=f) (d:=d) (lo:=lo) (c6 1) h1 (fun x n R hn1 hn2 q1 q2=>?_) (fun i j hij hj=>by have:i=j:=(by omega);subst this;exact KeyOrd.kle_refl _) fun n hn1 hn2 hsn hor=>?_)
  · dsimp only
    refine i7 (aa7 (d:=d) C hB (by omega) (by omega) ?_)
    cases e:O.blt (KF f d (l5 st) (lo+n)) (KF f d (l5 st) (lo+n - 1)) with
    | true=>exact j9 (q1 e)
    | false=>exact j9 (q2 e)
  dsimp only
  by_cases hnn:n=nrem
  · rw[if_pos (by simpa using hnn)]
    exact j9 (h n st hB (Pre.rf _ _) hn1 hn2 hsn)
  rw[if_neg (by simpa using hnn)]
  have hlt:=hor.resolve_left hnn
  by_cases hrose:1<n/\O.blt (KF f d (l5 st) lo) (KF f d (l5 st) (lo+n - 1))=true
  · rw[if_pos hrose.1]
    refine i7 (aa7 (d:=d) C hB (by omega) (by omega) ?_)
    rw[hrose.2]
    exact j9 (h n st hB (Pre.rf _ _) hn1 hn2 hsn)
  have hfell:1<n->O.blt (KF f d (l5 st) lo) (KF f d (l5 st) (lo+n - 1))=false:=fun hgt=>by
    cases e:O.blt (KF f d (l5 st) lo) (KF f d (l5 st) (lo+n - 1)) with
    | false=>rfl
    | true=>exact absurd ⟨hgt,e⟩ hrose
  have fall:∃ st2,SI a₀ κ p st2/\Pre lo (l5 st) (l5 st2)/\ab9 f d lo (l5 st2) (n+1)/\(n > 1->st2=setArr st (mirror (l5 st) lo (lo+n) ((lo+n - lo) / 2)))/\(¬ n > 1->st2=st):=by
    by_cases hgt:1<n
    · have hfell:=hfell hgt
      have hsz:lo+n<=(l5 st).size:=by rw[hB.size];omega
      have hall:∀ k,lo<=k->k<lo+n->KF f d (l5 st) k=KF f d (l5 st) (lo+n - 1):=by
        intro k hk0 hk
        have a1:=hsn 0 (k - lo) (by omega) (by omega)
        have a2:=hsn (k - lo) (n - 1) (by omega) (by omega)
        rw[show lo+0=lo by omega,show lo+(k - lo)=k by omega]at a1
        rw[show lo+(k - lo)=k by omega,show lo+(n - 1)=lo+n - 1 by omega]at a2
        exact KeyOrd.kle_antisymm a2 (KeyOrd.kle_trans hfell a1)
      refine⟨_,hB.setArr (bd2 _ _ _ _),Pre.mirror hsz (c6 _),?_,fun _=>rfl,fun e=>by omega⟩
      intro i j hij hj
      show O.kle (KF f d (mirror (l5 st) _ _ _) (lo+j)) (KF f d (mirror (l5 st) _ _ _) (lo+i))
      rw[L5 hsz hall,L5 hsz hall]
      by_cases hjn:j<n
      · rw[hall (lo+i) (by omega) (by omega),hall (lo+j) (by omega) (by omega)];exact KeyOrd.kle_refl _
      · have hj':j=n:=by omega
        subst hj'
        by_cases hi':i=j
        · subst hi';exact KeyOrd.kle_refl _
        · rw[hall (lo+i) (by omega) (by omega)];exact KeyOrd.kle_of_klt hlt
    · have hn1':n=1:=by omega
      subst hn1'
      refine⟨st,hB,Pre.rf _ _,?_,fun q=>by omega,fun _=>rfl⟩
      intro i j hij hj
      by_cases hi':i=j
      · subst hi';exact KeyOrd.kle_refl _
      · have hi0:i=0:=by omega
        have hj1:j=1:=by omega
        subst hi0;subst hj1
        rw[show lo+0=lo+1 - 1 by omega]
        exact KeyOrd.kle_of_klt hlt
  obtain⟨st2,hB2,hp2,hs2,e2,e3⟩:=fall
  by_cases hgt:n > 1
  all_goals first
    | (rw [if_pos hgt]
       refine i7 (aa7 (d:=d) C hB (by omega) (by omega) ?_)
       rw[hfell hgt]
       dsimp only
       rw[if_neg d4]
       refine i7 (aC2 ?_)
       rw[<- e2 hgt])
    | (rw [if_neg hgt]
       have e3:=e3 hgt
       rw[<- e3])
  all_goals
    clear e2 e3
    refine i7 (Z1 ?_)
    refine i7 (bj4 (f:=f) (d:=d) (lo:=lo) hn (by omega) (by omega) hB2 (fun y x neq st' R hB' x1 x2 q1 q2 q3 q4=>?_) hs2 fun m neq st' hB' hp' hm1 hm2 hs' hq he=>?_)
    · dsimp only
      refine i7 (aa7 (d:=d) C hB' (by omega) (by omega) ?_)
      cases e:O.blt (KF f d (l5 st') (lo+x)) (KF f d (l5 st') (lo+x - 1)) with
      | true =>
        dsimp only
        rw[if_pos rfl]
        split
        · rename_i hz
          exact i7 (aC2 (j9 (q1 e hz)))
        · exact j9 (q2 e)
      | false =>
        dsimp only
        rw[if_neg d4]
        refine i7 (aa7 (d:=d) C hB' (by omega) (by omega) ?_)
        cases e':O.blt (KF f d (l5 st') (lo+x - 1)) (KF f d (l5 st') (lo+x)) with
        | true=>exact j9 q3
        | false=>exact j9 (q4 e e')
    · dsimp only
      have hsz:lo+m<=(l5 st').size:=by rw[hB'.size];omega
      have he':∀ k,lo+m - (neq+1)<=k->k<lo+m->KF f d (l5 st') k=KF f d (l5 st') (lo+m - 1):=fun k h1 h2=>by
        have:=he (k - lo) (by omega) (by omega)
        rw[show lo+(k - lo)=k by omega]at this
        exact this
      have tailOk:∀ st3,SI a₀ κ p st3->Pre lo (l5 st) (l5 st3)->ab9 f d lo (l5 st3) m->SI a₀ κ p (setArr st3 (mirror (l5 st3) lo (lo+m) ((lo+m - lo) / 2)))/\Pre lo (l5 st) (mirror (l5 st3) lo (lo+m) ((lo+m - lo) / 2))/\Q9 f d lo (mirror (l5 st3) lo (lo+m) ((lo+m - lo) / 2)) m:=fun st3 hB3 hp3 hs3=>by
        have hsz3:lo+m<=(l5 st3).size:=by rw[hB3.size];omega
        refine⟨hB3.setArr (bd2 _ _ _ _),hp3.trans (Pre.mirror hsz3 (c6 _)),fun i j hij hj=>?_⟩
        rw[ar3 hsz3,ar3 hsz3,if_pos (by omega),if_pos (by omega),show lo+(lo+m) - 1 - (lo+i)=lo+(m - 1 - i) by omega,show lo+(lo+m) - 1 - (lo+j)=lo+(m - 1 - j) by omega]
        exact hs3 _ _ (by omega) (by omega)
      have mm:ab9 f d lo (mirror (l5 st') (lo+m - (neq+1)) (lo+m) ((lo+m - (lo+m - (neq+1))) / 2)) m:=fun i j hij hj=>by
        rw[L5 hsz he',L5 hsz he']
        exact hs' i j hij hj
      by_cases hneq:neq > 0
      all_goals first
        | (rw [if_pos hneq]
           refine i7 (aC2 (i7 (aC2 ?_)))
           obtain⟨hB4,hp4,hs4⟩:=tailOk (setArr st' (mirror (l5 st') (lo+m - (neq+1)) (lo+m) ((lo+m - (lo+m - (neq+1))) / 2))) (hB'.setArr (bd2 _ _ _ _)) ((hp2.trans hp').trans (Pre.mirror hsz (by omega))) mm)
        | (rw [if_neg hneq]
           refine i7 (aC2 ?_)
           obtain⟨hB4,hp4,hs4⟩:=tailOk st' hB' (hp2.trans hp') hs')
      all_goals
        refine i7 (aY1 (f:=f) (d:=d) (lo:=lo) (by omega) hm2 (fun x n R hn1 hn2 q1 q2=>?_) hs4 fun n' hn1' hn2' hsn' _=>j9 (h n' _ hB4 hp4 (by omega) hn2' hsn'))
        dsimp only
        refine i7 (aa7 (d:=d) C hB4 (by omega) (by omega) ?_)
        revert q1 q2
        generalize KF f d (l5 _) (lo+n)=u
        generalize KF f d (l5 _) (lo+n - 1)=v
        intro q1 q2
        cases e:O.blt u v with
        | true=>exact j9 (q1 e)
        | false=>exact j9 (q2 e)
theorem at9 (C:bE6 prog w A E s κ a₀ f) {st:SortSt} {lo ok:Nat} {Q:Bool->SortSt->Prop} (d:O.α) (hn:lo+n<=a₀.size) (hok:ok<=n) (hB:SI a₀ κ p st) (hs:Q9 f d lo (l5 st) ok)
  (h:∀ st',SI a₀ κ p st'->Pre lo (l5 st) (l5 st')->Q9 f d lo (l5 st') n->Q true st'):wpS (o7 prog w) A E s (binarySort' lo n ok) Q st:=by
 rw[binarySort'_eq]
 refine i7 (S5 (C8 (I:=fun k c st'=>c=(none,())/\SI a₀ κ p st'/\Pre lo (l5 st) (l5 st')/\Q9 f d lo (l5 st') (min k n))
  (Q:=fun c st'=>c=(none,())/\SI a₀ κ p st'/\Pre lo (l5 st) (l5 st')/\Q9 f d lo (l5 st') n) ?step ?fin ?init) ?post)
 case post =>
  rintro c st' ⟨rfl,hB',hp',hs'⟩
  exact j9 (h st' hB' hp' hs')
 case init =>
  refine⟨rfl,hB,Pre.rf _ _,fun i j hij hj=>?_⟩
  by_cases h1:ok=0
  ·have:i=j:=by omega
   subst this;exact KeyOrd.kle_refl _
  ·exact hs i j hij (by omega)
 case fin =>
  rintro c st' ⟨hc,hB',hp',hs'⟩
  refine⟨hc,hB',hp',?_⟩
  rwa [show min (max (max ok 1) n) n=n by omega]at hs'
 case step =>
  rintro k c st' hak hkn ⟨rfl,hB',hp',hs'⟩
  rw[show min k n=k by omega]at hs'
  have hk:lo+k<a₀.size:=by omega
  refine i7 (S5 (C8 (I:=fun x c st''=>st''=st'/\∃ l r,c=(none,l,r)/\l<=r/\r<=k/\r - l<=k - x /\
    (∀ i,i<l->O.kle (KF f d (l5 st') (lo+i)) (KF f d (l5 st') (lo+k)))/\(∀ i,r<=i->i<k->O.klt (KF f d (l5 st') (lo+k)) (KF f d (l5 st') (lo+i))))
   (Q := fun c st'' => st'' = st' /\ ∃ l r, c = (none, l, r) /\ l <= k /\
    (∀ i,i<l->O.kle (KF f d (l5 st') (lo+i)) (KF f d (l5 st') (lo+k)))/\(∀ i,l<=i->i<k->O.klt (KF f d (l5 st') (lo+k)) (KF f d (l5 st') (lo+i)))) ?istep ?ifin ?iinit) ?ipost)
  case iinit=>exact⟨rfl,0,k,rfl,by omega,by omega,by omega,fun i hi=>by omega,fun i h1 h2=>by omega⟩
  case ifin =>
   rintro c st'' ⟨rfl,l,r,rfl,hlr,hrk,hm,hlo,hhi⟩
   have:l=r:=by omega
   subst this
   exact⟨rfl,l,l,rfl,hrk,hlo,hhi⟩
  case istep =>
   rintro x c st'' _ hxk ⟨rfl,l,r,rfl,hlr,hrk,hm,hlo,hhi⟩
   dsimp only
   by_cases hge:l≥r
   ·rw[if_pos hge]
    have:l=r:=by omega
    subst this
    exact j9 ⟨rfl,l,l,rfl,hrk,hlo,hhi⟩
   ·rw[if_neg hge]
    refine i7 (aa7 (d:=d) C hB' hk (by omega) ?_)
    cases hless:O.blt (KF f d (l5 st'') (lo+k)) (KF f d (l5 st'') (lo+(l+r) / 2))
    case true =>
     simp only[if_true]
     refine j9 ⟨rfl,l,(l+r) / 2,rfl,by omega,by omega,by omega,hlo,fun i h1 h2=>?_⟩
     exact KeyOrd.klt_of_klt_of_kle hless (hs' _ _ h1 h2)
    case false =>
     simp only[l9,if_false]
     refine j9 ⟨rfl,(l+r) / 2+1,r,rfl,by omega,by omega,by omega,fun i h1=>?_,hhi⟩
     exact KeyOrd.kle_trans (hs' i ((l+r) / 2) (by omega) (by omega)) (show O.kle _ _ from hless)
  case ipost =>
   rintro c st'' ⟨rfl,l,r,rfl,hlk,hlo,hhi⟩
   show wpS _ _ _ _ (do moveDown' (lo+k) (lo+l);pure (ForInStep.yield (none,()))) _ _
   rw[moveDown'_eq]
   have hks:lo+k<(l5 st'').size:=by rw[hB'.size];exact hk
   refine i7 (au6 (j9 ⟨rfl,hB'.setArr (bubble_perm _ _ _),hp'.trans (Pre.bubble hks (by omega) (by omega)),?_⟩))
   rw[show min (k+1) n=k+1 by omega]
   intro i j hij hj
   show O.kle (KF f d (bubble (l5 st'') (lo+k) (lo+k - (lo+l))) (lo+i)) (KF f d (bubble (l5 st'') (lo+k) (lo+k - (lo+l))) (lo+j))
   rw[aF9 hks (by omega),aF9 hks (by omega),show lo+k - (lo+k - (lo+l))=lo+l by omega]
   have e1:∀ t:Nat,0<t->lo+t - 1=lo+(t - 1):=fun t ht=>by omega
   repeat' split
   all_goals first
    | (exfalso;omega)
    | exact KeyOrd.kle_refl _
    | exact hlo _ (by omega)
    | (rw[e1 _ (by omega)];exact KeyOrd.kle_of_klt (hhi _ (by omega) (by omega)))
    | exact KeyOrd.kle_of_klt (hhi _ (by omega) (by omega))
    | exact hs' _ _ (by omega) (by omega)
    | (rw[e1 _ (by omega)];exact hs' _ _ (by omega) (by omega))
    | (rw[e1 _ (by omega),e1 _ (by omega)];exact hs' _ _ (by omega) (by omega))
end
theorem aO8 (i:Nat):mergeAt' i=(do
 let s <- get
 let (some (sa,na,power),some (sb,nb,_)):=((A5 s)[i]?,(A5 s)[i+1]?) | ac9 "internal:list.sort.pending"
 set (bu7 s (((A5 s).setIfInBounds i (sa,na+nb,power)).eraseIdxIfInBounds (i+1)))
 let some k <- U9 false (<- ad6 (l5 s) sb) (l5 s) sa na 0 | return false
 let (sa,na):=(sa+k,na - k)
 if na == 0 then return true
 let some nb <- U9 true (<- ad6 (l5 s) (sa+na - 1)) (l5 s) sb nb (nb - 1) | return false
 if nb == 0 then return true
 let x:=(l5 s).extract sa sb
 let y:=(l5 s).extract sb (sb+nb)
 let merged <- if na<=nb then az0 x y else az1 x y
 modify fun s=>setArr s (merged.toList.zipIdx.foldl (fun a (p,j)=>a.setIfInBounds (sa+j) p) (l5 s))
 return (K6 (<- get)).isNone):=rfl
def shape (ps:List (Nat × Nat × Nat)):List (Nat × Nat):=ps.map fun x=>(x.1,x.2.1)
def an1:Nat->List (List Keyed)->List (Nat × Nat)
 | _,[]=>[]
 | k,r::rs=>(k,r.length)::an1 (k+r.length) rs
theorem X5:∀ (k:Nat) (rs ts:List (List Keyed)),an1 k (rs++ts)=an1 k rs++an1 (k+rs.flatten.length) ts
 | k,[],ts=>by simp[an1]
 | k,r::rs,ts=>by
  rw[bT0]
  show (k,r.length)::an1 (k+r.length) (rs++ts)=(k,r.length)::(an1 (k+r.length) rs++_)
  rw[X5 (k+r.length) rs ts,L7,i9,Nat.add_assoc]
theorem X4:∀ (k:Nat) (rs:List (List Keyed)),(an1 k rs).length=rs.length
 | _,[]=>rfl
 | k,r::rs=>by
  show (an1 (k+r.length) rs).length+1=rs.length+1
  rw[X4]
theorem aL9 {α:Type}{l:List α}(h:i+1<l.length):∃ l1 u v l2,l=l1++u::v::l2/\l1.length=i:=by
 refine⟨l.take i,l[i],l[i+1],l.drop (i+2),?_,by rw[l6];omega⟩
 rw[<- ad3,<- ad3,A9]
theorem aQ4 (b:Nat):∀ (m:List Keyed) (k:Nat) (arr:Array Keyed),b+k+m.length<=arr.size ->
  (Z0 (fun a x=>match x with | (p,j)=>bu9 a (b+j) p) arr (m.zipIdx k)).toList=arr.toList.take (b+k)++(m++arr.toList.drop (b+k+m.length))
 | [],k,arr,h=>by simp
 | x::m,k,arr,h=>by
  rw[k8]at h
  rw[List.zipIdx_cons,aa2,aQ4 b m (k+1) _ (by rw[aX6];omega)]
  dsimp only
  rw[aR9]
  have hl:b+k<arr.toList.length:=by rw[j3];omega
  rw[List.set_eq_take_append_cons_drop,if_pos hl]
  have e1:(aS0 (b+k) arr.toList).length=b+k:=by rw[l6];omega
  have e2:(aS0 (b+k) arr.toList++x::bu1 (b+k+1) arr.toList).take (b+(k+1))=aS0 (b+k) arr.toList++[x]:=by
   rw[bT1,e1,show b+(k+1) - (b+k)=1 by omega,j5 (by rw[e1];omega)]
   rfl
  have e3:(aS0 (b+k) arr.toList++x::bu1 (b+k+1) arr.toList).drop (b+(k+1)+m.length)=arr.toList.drop (b+k+(m.length+1)):=by
   rw[W8,e1,E6 (by rw[e1];omega),L8,show b+(k+1)+m.length - (b+k)=m.length+1 by omega,List.drop_succ_cons,aX4]
   congr 1
   omega
  rw[e2,e3,q8]
  rfl
theorem bw5 {σ:Type}{x:σ}{Q:PUnit->σ->Prop}{st:σ}(h:Q ⟨⟩ x):wpS M A E s (set x:StateT σ Sem PUnit) Q st:=by
 unfold wpS;rw[StateT.run_set];exact i8 ⟨rfl,h⟩
structure SR (a₀:Array Keyed) (κ:SortKind) (B:Keyed->Keyed->Bool) (runs:List (List Keyed)) (suf:List Keyed) (st:SortSt):Prop where
 perm:(l5 st).Perm a₀
 kind:kindOf st=κ
 failed:K6 st=none
 sh:shape (A5 st).toList=an1 0 runs
 ok:∀ r∈runs,r≠[]/\r.Pairwise (le B)
 arr:(l5 st).toList=runs.flatten++suf
section
variable {a₀:Array Keyed}
theorem Z5 {l:List Keyed}(h:l.Pairwise R)(rf:∀ x,R x x){x y:Keyed}(hij:i<=j)(hx:l[i]?=some x)(hy:l[j]?=some y):R x y:=by
 obtain⟨h1,rfl⟩:=c4.mp hx
 obtain⟨h2,rfl⟩:=c4.mp hy
 rcases F9 hij with hlt | rfl
 ·exact o4.mp h i j h1 h2 hlt
 ·exact rf _
theorem ar9 (o:Ord B)(C:Cmp prog w A E s κ (·∈a₀.toList) B){st:SortSt}{runs:List (List Keyed)}{suf:List Keyed}{Q:Bool->SortSt->Prop}(I:SR a₀ κ B runs suf st)(hi:i+1<runs.length)
  (h:∀ runs' st',SR a₀ κ B runs' suf st'->runs'.length+1=runs.length->runs'.flatten.length=runs.flatten.length->Q true st'):wpS (o7 prog w) A E s (mergeAt' i) Q st:=by
 obtain⟨r1,R,R',r2,rfl,hr1⟩:=aL9 hi
 have hpl:(A5 st).toList.length=(r1++R::R'::r2).length:=by
  have:=congrArg aa0 I.sh
  rw[X4]at this
  unfold shape at this
  rw[a5]at this
  exact this
 obtain⟨l1,u,v,l2,hp,hl1⟩:=aL9 (l:=(A5 st).toList) (i:=i) (by rw[hpl];exact hi)
 have hsh:=I.sh
 rw[hp,X5]at hsh
 unfold shape at hsh
 rw[c8]at hsh
 obtain⟨s1,s2⟩:=List.append_inj hsh (by rw[a5,X4,hl1,hr1])
 rw[n9,n9]at s2
 simp only[an1,List.cons.injEq,K2]at s2
 obtain⟨su,sv,s2⟩:=s2
 obtain⟨sa,na,pw⟩:=u
 obtain⟨sb,nb,pw2⟩:=v
 simp only[Prod.mk.injEq]at su sv
 obtain⟨hsa,hna⟩:=su
 obtain⟨hsb,hnb⟩:=sv
 have okR:=I.ok R (by simp)
 have okR':=I.ok R' (by simp)
 have nR:0<R.length:=aa3.mpr okR.1
 have nR':0<R'.length:=aa3.mpr okR'.1
 have g1:(A5 st)[i]?=some (sa,na,pw):=by
  rw[<- b9,hp,E4 (by omega),hl1,bv0]
  rfl
 have g2:(A5 st)[i+1]?=some (sb,nb,pw2):=by
  rw[<- b9,hp,E4 (by omega),hl1,show i+1 - i=1 by omega]
  rfl
 have harr:(l5 st).toList=r1.flatten++(R++(R'++(r2.flatten++suf))):=by
  rw[I.arr]
  simp
 have hsize:(l5 st).size=sa+(na+(nb+(r2.flatten++suf).length)):=by
  rw[<- j3,harr,i9,i9,i9,hsa,hna,hnb]
 have atR:∀ k,k<na->(l5 st)[sa+k]?=R[k]?:=fun k hk=>by
  rw[<- b9,harr,E4 (by omega),hsa,N5,ad2 (by omega)]
 have atR':∀ k,k<nb->(l5 st)[sb+k]?=R'[k]?:=fun k hk=>by
  rw[<- b9,harr,E4 (by omega),E4 (by omega),ad2 (by omega)]
  congr 1
  omega
 have inS:∀ x∈(l5 st).toList,x∈a₀.toList:=fun x hx=>(J2.mp I.perm).mem_iff.mp hx
 have hpend:∀ M:List Keyed,M.length=na+nb->shape (((A5 st).setIfInBounds i (sa,na+nb,pw)).eraseIdxIfInBounds (i+1)).toList=an1 0 (r1++M::r2):=fun M hM=>by
  have e:(((A5 st).setIfInBounds i (sa,na+nb,pw)).eraseIdxIfInBounds (i+1)).toList=l1++(sa,na+nb,pw)::l2:=by
   rw[Array.toList_eraseIdxIfInBounds,aR9,hp]
   subst hl1
   rw[List.set_append_right _ _ (c6 _),bv0,List.set_cons_zero,List.eraseIdx_append_of_length_le (by omega)]
   rw[show l1.length+1 - l1.length=1 by omega]
   rfl
  unfold shape
  rw[e,c8,s1,X5,n9]
  show _++(sa,na+nb)::_=_++(0+r1.flatten.length,M.length)::an1 (0+r1.flatten.length+M.length) r2
  rw[hM,s2,K2,hsa,hna,hnb,Nat.add_assoc]
 have fin:∀ (st':SortSt) (M:List Keyed),kindOf st'=κ->K6 st'=none->A5 st'=((A5 st).setIfInBounds i (sa,na+nb,pw)).eraseIdxIfInBounds (i+1) ->
   (l5 st').toList=r1.flatten++(M++(r2.flatten++suf))->M.Perm (R++R')->M.Pairwise (le B)->Q true st':=fun st' M k1 k2 k3 k4 k5 k6=>by
  have hM:M.length=na+nb:=by rw[k5.length_eq,i9,hna,hnb]
  refine h (r1++M::r2) st' ⟨?_,k1,k2,by rw[k3];exact hpend M hM,fun r hr=>?_,?_⟩ (by simp;omega) (by simp;omega)
  ·refine Array.Perm.trans ?_ I.perm
   rw[J2,k4,harr]
   refine List.Perm.append_left _ ?_
   rw[<- q8 R]
   exact List.Perm.append_right _ k5
  ·rcases u6.mp hr with hr | hr
   ·exact I.ok r (D6 _ hr)
   ·rcases d3.mp hr with rfl | hr
    ·exact⟨by intro e;rw[e]at hM;simp at hM;omega,k6⟩
    ·exact I.ok r (j2 _ (b7 _ (b7 _ hr)))
  ·rw[k4];simp
 have both:(∀ x∈R,∀ y∈R',le B x y)->(R++R').Pairwise (le B):=fun hxy=>v8.mpr ⟨okR.2,okR'.2,hxy⟩
 rw[aO8]
 refine i7 (at6 ?_)
 rw[g1,g2]
 dsimp only
 refine i7 (bw5 ?_)
 obtain⟨y0,ey0⟩:∃ y0,R'[0]?=some y0:=⟨R'[0],g9 nR'⟩
 have ey:(l5 st)[sb]?=some y0:=by
  have:=atR' 0 (by omega)
  rw[aK2]at this
  rw[this,ey0]
 refine i7 (B7 ey ?_)
 have hy0:y0∈a₀.toList:=inS y0 (b8 (by rw[b9];exact ey))
 refine i7 (S1 o C (by exact I.kind) hy0 (by omega) (fun i x hi' e=>inS x (b8 (by rw[b9];exact e)))
  (fun i j x y hij hj e e'=>Z5 okR.2 o.rf hij (by rw[<- atR i (by omega)];exact e) (by rw[<- atR j hj];exact e')) (by omega) fun k hk hlt hge=>?_)
 dsimp only
 have leR:∀ (j:Nat) (x:Keyed),j<k->R[j]?=some x->le B x y0:=fun j x hj e=>by
  have q:=hlt j x hj (by rw[atR j (by omega)];exact e)
  show B y0 x=false
  simpa [byn] using q
 have gtR:∀ (j:Nat) (x:Keyed),k<=j->R[j]?=some x->B y0 x=true:=fun j x hj e=>by
  have hjl:j<R.length:=(c4.mp e).1
  have q:=hge j x hj (by omega) (by rw[atR j (by omega)];exact e)
  simpa [byn] using q
 have leY:∀ y∈R',le B y0 y:=fun y hy=>by
  obtain⟨j,hj⟩:=m8.mp hy
  exact Z5 okR'.2 o.rf (o6 j) ey0 hj
 by_cases e0:na - k=0
 ·rw[if_pos (by simpa using e0)]
  refine j9 (fin _ (R++R') I.kind I.failed rfl ?_ (List.Perm.refl _) (both fun x hx y hy=>?_))
  ·show (l5 st).toList=_
   rw[harr];simp
  ·obtain⟨j,hj⟩:=m8.mp hx
   have hjl:j<R.length:=(c4.mp hj).1
   exact o.trans (leR j x (by omega) hj) (leY y hy)
 rw[if_neg (by simpa using e0)]
 obtain⟨xl,exl⟩:∃ xl,R[na - 1]?=some xl:=⟨R[na - 1]'(by omega),g9 (by omega)⟩
 have ex:(l5 st)[sa+k+(na - k) - 1]?=some xl:=by
  rw[show sa+k+(na - k) - 1=sa+(na - 1) by omega,atR _ (by omega),exl]
 refine i7 (B7 ex ?_)
 have hxl:xl∈a₀.toList:=inS xl (b8 (by rw[b9];exact ex))
 refine i7 (S1 o C (by exact I.kind) hxl (by omega) (fun i x hi' e=>inS x (b8 (by rw[b9];exact e)))
  (fun i j x y hij hj e e'=>Z5 okR'.2 o.rf hij (by rw[<- atR' i (by omega)];exact e) (by rw[<- atR' j hj];exact e')) (by omega) fun k2 hk2 hlt2 hge2=>?_)
 dsimp only
 have ltY:∀ (j:Nat) (x:Keyed),j<k2->R'[j]?=some x->B x xl=true:=fun j x hj e=>by
  have q:=hlt2 j x hj (by rw[atR' j (by omega)];exact e)
  simpa [byn] using q
 have geY:∀ (j:Nat) (x:Keyed),k2<=j->R'[j]?=some x->le B xl x:=fun j x hj e=>by
  have hjl:j<R'.length:=(c4.mp e).1
  have q:=hge2 j x hj (by omega) (by rw[atR' j (by omega)];exact e)
  show B x xl=false
  simpa [byn] using q
 have leX:∀ x∈R,le B x xl:=fun x hx=>by
  obtain⟨j,hj⟩:=m8.mp hx
  have hjl:j<R.length:=(c4.mp hj).1
  exact Z5 okR.2 o.rf (by omega) hj exl
 by_cases e1:k2=0
 ·rw[if_pos (by simpa using e1)]
  refine j9 (fin _ (R++R') I.kind I.failed rfl ?_ (List.Perm.refl _) (both fun x hx y hy=>?_))
  ·show (l5 st).toList=_
   rw[harr];simp
  ·obtain⟨j,hj⟩:=m8.mp hy
   exact o.trans (leX x hx) (geY j y (by omega) hj)
 rw[if_neg (by simpa using e1)]
 have ex1:((l5 st).extract (sa+k) sb).toList=R.drop k:=by
  rw[av7,harr,hsa,W8,E6 (by omega),L8,N5,aK3 (by omega),W9 (by rw[x6];omega)]
  exact j5 (by rw[x6];omega)
 have ey1:((l5 st).extract sb (sb+k2)).toList=R'.take k2:=by
  rw[av7,harr,hsb,<- q8,W8,E6 (by rw[i9];omega),L8,i9,bv0,aX5,N5,W9 (by omega)]
 have sx:((l5 st).extract (sa+k) sb).size=na - k:=by rw[<- j3,ex1,x6];omega
 have sy:((l5 st).extract sb (sb+k2)).size=k2:=by rw[<- j3,ey1,l6];omega
 have pre1:∀ x y,((l5 st).extract sb (sb+k2))[0]?=some x->((l5 st).extract (sa+k) sb)[0]?=some y->B x y=true:=fun x y hx hy=>by
  rw[<- b9,ey1,L6 (by omega),ey0]at hx
  cases hx
  rw[<- b9,ex1,J8]at hy
  exact gtR (k+0) y (by omega) hy
 have pre2:∀ x∈((l5 st).extract sb (sb+k2)).toList,∀ y,((l5 st).extract (sa+k) sb)[((l5 st).extract (sa+k) sb).size - 1]?=some y->B x y=true:=fun x hx y hy=>by
  rw[<- b9,ex1,J8,sx,show k+(na - k - 1)=na - 1 by omega,exl]at hy
  cases hy
  rw[ey1]at hx
  obtain⟨j,hj⟩:=m8.mp hx
  rw[O2]at hj
  split at hj
  ·rename_i hlt'
   exact ltY j x hlt' hj
  ·cases hj
 have sS1:∀ x∈((l5 st).extract (sa+k) sb).toList,x∈a₀.toList:=fun x hx=>by
  rw[ex1]at hx
  refine inS x ?_
  rw[harr]
  exact j2 _ (D6 _ (L1 hx))
 have sS2:∀ x∈((l5 st).extract sb (sb+k2)).toList,x∈a₀.toList:=fun x hx=>by
  rw[ey1]at hx
  refine inS x ?_
  rw[harr]
  exact j2 _ (j2 _ (D6 _ (L3 hx)))
 have so1:((l5 st).extract (sa+k) sb).toList.Pairwise (le B):=by rw[ex1];exact okR.2.sublist (P0 _ _)
 have so2:((l5 st).extract sb (sb+k2)).toList.Pairwise (le B):=by rw[ey1];exact okR'.2.sublist (G3 _ _)
 have done:∀ (r:Array Keyed) (st3:SortSt),Sm (bu7 st (((A5 st).setIfInBounds i (sa,na+nb,pw)).eraseIdxIfInBounds (i+1))) st3->Good B ((l5 st).extract (sa+k) sb) ((l5 st).extract sb (sb+k2)) r ->
   wpS (o7 prog w) A E s (do
    modify fun s=>setArr s (Z0 (fun a x=>match x with | (p,j)=>bu9 a (sa+k+j) p) (l5 s) r.toList.zipIdx)
    let __do_lift <- get
    pure (K6 __do_lift).isNone) Q st3:=fun r st3 hS hg=>by
  refine i7 (au6 (i7 (at6 (j9 ?_))))
  have hf:K6 st3=none:=hS.f.trans I.failed
  show Q (K6 st3).isNone _
  rw[hf]
  obtain⟨g1,g2⟩:=hg
  rw[ex1,ey1]at g2
  have hrl:r.toList.length=na - k+k2:=by rw[g2.length_eq,i9,x6,l6];omega
  refine fin _ (R.take k++(r.toList++R'.drop k2)) (hS.k.trans I.kind) hf hS.p ?_ ?_ ?_
  ·show (Z0 _ (l5 st3) (r.toList.zipIdx 0)).toList=_
   rw[hS.a]
   show (Z0 _ (l5 st) (r.toList.zipIdx 0)).toList=_
   rw[aQ4 (sa+k) r.toList 0 (l5 st) (by omega),harr,aK2,hrl]
   have t1:aS0 (sa+k) (r1.flatten++(R++(R'++(r2.flatten++suf))))=r1.flatten++R.take k:=by
    rw[bT1,j5 (by omega),show sa+k - r1.flatten.length=k by omega,W9 (by omega)]
   have t2:bu1 (sa+k+(na - k+k2)) (r1.flatten++(R++(R'++(r2.flatten++suf))))=R'.drop k2++(r2.flatten++suf):=by
    rw[W8,E6 (by omega),L8,W8,E6 (by omega),L8,aK3 (by omega)]
    congr 2
    omega
   rw[t1,t2]
   simp
  ·have:(R.take k++(r.toList++R'.drop k2)).Perm (R.take k++((R.drop k++R'.take k2)++R'.drop k2)):=List.Perm.append_left _ (List.Perm.append_right _ g2)
   refine this.trans (List.Perm.of_eq ?_)
   rw[q8,A9,<- q8,A9]
  ·have inM:∀ z∈r.toList,z∈R.drop k\/z∈R'.take k2:=fun z hz=>u6.mp (g2.mem_iff.mp hz)
   have tk:∀ {l:List Keyed} {n:Nat} {x:Keyed},x∈l.take n->∃ j,j<n/\l[j]?=some x:=fun {l n x} hx=>by
    obtain⟨j,hj⟩:=m8.mp hx
    rw[O2]at hj
    split at hj
    ·rename_i hlt'
     exact⟨j,hlt',hj⟩
    ·cases hj
   refine v8.mpr ⟨okR.2.sublist (G3 _ _),v8.mpr ⟨g1,okR'.2.sublist (P0 _ _),fun x hx y hy=>?_⟩,fun x hx y hy=>?_⟩
   ·obtain⟨j,h1,h2,h3⟩:=E2 hy
    rcases inM x hx with hx | hx
    ·exact o.trans (leX x (L1 hx)) (geY j y h1 h3)
    ·obtain⟨i',h4,h5⟩:=tk hx
     exact Z5 okR'.2 o.rf (by omega) h5 h3
   ·obtain⟨i',h4,h5⟩:=tk hx
    rcases u6.mp hy with hy | hy
    ·rcases inM y hy with hy | hy
     ·obtain⟨j,h1,h2,h3⟩:=E2 hy
      exact Z5 okR.2 o.rf (by omega) h5 h3
     ·exact o.trans (leR i' x h4 h5) (leY y (L3 hy))
    ·exact o.trans (leR i' x h4 h5) (leY y (L1 hy))
 by_cases e2:na - k<=k2
 ·rw[if_pos e2]
  exact i7 (aL0 o C (by exact I.kind) sS1 sS2 so1 so2 (by omega) (by omega) pre1 pre2 fun r st3 hS hg=>done r st3 hS hg)
 ·rw[if_neg e2]
  exact i7 (aL1 o C (by exact I.kind) sS1 sS2 so1 so2 (by omega) (by omega) pre1 pre2 fun r st3 hS hg=>done r st3 hS hg)
theorem aN6 {runs:List (List Keyed)}{suf:List Keyed}{st:SortSt}(I:SR a₀ κ B runs suf st):(A5 st).size=runs.length:=by
 have:=congrArg aa0 I.sh
 rw[X4]at this
 unfold shape at this
 rw[a5,j3]at this
 exact this
theorem aZ3:∀ (runs:List (List Keyed)),(∀ r∈runs,r≠[]/\r.Pairwise (le B))->runs.length<=runs.flatten.length
 | [],_=>c6 _
 | r::rs,h=>by
  have h1:=aZ3 rs fun r hr=>h r (b7 _ hr)
  have h2:0<r.length:=aa3.mpr (h r c5).1
  rw[k8,L7,i9]
  omega
end
section
variable {a₀:Array Keyed} {O:aS5} {f:Keyed->O.α}
theorem bM5 {d:O.α}{lo:Nat}(hs:Q9 f d lo xs n)(hn:lo+n<=xs.size):((xs.toList.drop lo).take n).Pairwise (le (Bf f))/\((xs.toList.drop lo).take n).length=n:=by
 refine⟨o4.mpr fun i j hi hj hij=>?_,by rw[l6,x6,j3];omega⟩
 have hjn:j<n:=by rw[l6]at hj;omega
 have gi:∀ k,(hk:k<n)->(xs.toList.drop lo)[k]?=some (xs[lo+k]'(by omega)):=fun k hk=>by
  rw[J8,b9]
  exact getElem?_pos xs _ _
 have e1:((xs.toList.drop lo).take n)[i]=xs[lo+i]'(by omega):=by
  have:=gi i (by omega)
  rw[<- L6 (show i<n by omega),g9 hi]at this
  exact Option.some.inj this
 have e2:((xs.toList.drop lo).take n)[j]=xs[lo+j]'(by omega):=by
  have:=gi j hjn
  rw[<- L6 hjn,g9 hj]at this
  exact Option.some.inj this
 rw[e1,e2]
 have:=hs i j (ao7 hij) hjn
 rw[aw3 (getElem?_pos xs (lo+i) (by omega)),aw3 (getElem?_pos xs (lo+j) (by omega))]at this
 exact this
theorem aL7 {lo:Nat}{ys:Array Keyed}(h:Pre lo xs ys)(hz:ys.size=xs.size):ys.toList.take lo=xs.toList.take lo:=by
 apply P1
 intro k
 rw[O2,O2]
 split
 ·rw[b9,b9]
  exact h k (by assumption)
 ·rfl
theorem ar8 (C:bE6 prog w A E s κ a₀ f) {st:SortSt} {Q:Unit->SortSt->Prop} (d:O.α) (hp:(l5 st).Perm a₀) (hk:kindOf st=κ) (hf:K6 st=none) (hpe:A5 st=#[])
    (h:∀ st',(l5 st').Perm a₀->K6 st'=none->(l5 st').toList.Pairwise (le (Bf f))->Q () st'):wpS (o7 prog w) A E s sortRuns' Q st:=by
  have o:Ord (Bf f):=Bf.ord f
  have hsz:(l5 st).size=a₀.size:=hp.size_eq
  rw[sortRuns'_eq]
  refine i7 (at6 ?_)
  dsimp only
  rw[hsz]
  refine i7 (S5 (C8
    (I:=fun x c st'=>∃ runs suf lo,c=(none,lo)/\SR a₀ κ (Bf f) runs suf st'/\lo=runs.flatten.length/\(x<=lo\/lo=a₀.size)/\lo<=a₀.size)
    (Q:=fun c st'=>∃ runs,c=(none,a₀.size)/\SR a₀ κ (Bf f) runs [] st') ?step ?fin
    ⟨[],(l5 st).toList,0,rfl,⟨hp,hk,hf,by rw[hpe];rfl,(fun _ hr=>nomatch hr),by simp⟩,rfl,.inl (c6 _),o6 _⟩) ?post)
  case fin =>
    rintro c st' ⟨runs,suf,lo,rfl,I,h1,h2,h3⟩
    have e:lo=a₀.size:=by omega
    have hl:=congrArg aa0 I.arr
    rw[j3,I.perm.size_eq,i9]at hl
    have:suf=[]:=N7 (by omega)
    subst this
    exact⟨runs,by rw[e],I⟩
  case step =>
    rintro x c st1 _ hx ⟨runs,suf,lo,rfl,I,h1,h2,h3⟩
    dsimp only
    by_cases hge:lo≥a₀.size
    · rw[if_pos hge]
      have e:lo=a₀.size:=by omega
      have hl:=congrArg aa0 I.arr
      rw[j3,I.perm.size_eq,i9]at hl
      have:suf=[]:=N7 (by omega)
      subst this
      exact j9 ⟨runs,by rw[e],I⟩
    rw[if_neg hge]
    refine i7 (wpS_countRun C d (p:=A5 st1) (by omega) (by omega) ⟨I.perm,I.kind,I.failed,rfl⟩ fun n st2 hB2 hp2 hn1 hn2 hs2=>?_)
    dsimp only
    have cont:∀ (n':Nat) (st3:SortSt),SI a₀ κ (A5 st1) st3->Pre lo (l5 st1) (l5 st3)->1<=n'->n'<=a₀.size - lo->Q9 f d lo (l5 st3) n' ->
        ∃ run suf',SR a₀ κ (Bf f) runs (run++suf') st3/\run.length=n'/\run.Pairwise (le (Bf f)):=fun n' st3 hB3 hp3 k1 k2 hs3=>by
      obtain⟨q1,q2⟩:=bM5 hs3 (by rw[hB3.size];omega)
      refine⟨((l5 st3).toList.drop lo).take n',(l5 st3).toList.drop (lo+n'),⟨hB3.perm,hB3.kind,hB3.failed,by rw[hB3.pend];exact I.sh,I.ok,?_⟩,q2,q1⟩
      rw[<- al0]
      refine(A9 lo (l5 st3).toList).symm.trans ?_
      congr 1
      rw[aL7 hp3 (by rw[hB3.size,I.perm.size_eq]),I.arr,h1]
      exact List.take_left
    have more:∀ (rs:List (List Keyed)) (run suf':List Keyed) (n':Nat) (st3:SortSt),SR a₀ κ (Bf f) rs (run++suf') st3->rs.flatten.length=lo->run.length=n'->run.Pairwise (le (Bf f))->1<=n'->n'<=a₀.size - lo ->
        ∃ runs suf lo',((none,lo+n'):Option Unit × Nat)=(none,lo')/\SR a₀ κ (Bf f) runs suf (bu7 st3 ((A5 st3).push (lo,n',0)))/\lo'=runs.flatten.length/\(x+1<=lo'\/lo'=a₀.size)/\lo'<=a₀.size:=fun rs run suf' n' st3 I3 e1 e2 e3 k1 k2=>by
      refine⟨rs++[run],suf',lo+n',rfl,⟨I3.perm,I3.kind,I3.failed,?_,fun r hr=>?_,?_⟩,by simp[e1,e2],by omega,by omega⟩
      · show shape ((A5 st3).push (lo,n',0)).toList=_
        rw[U1,X5,<- I3.sh]
        unfold shape
        rw[c8,K2,e1]
        simp[an1,e2]
      · rcases u6.mp hr with hr | hr
        · exact I3.ok r hr
        · rw[n5.mp hr]
          exact⟨by intro z;rw[z]at e2;simp at e2;omega,e3⟩
      · show (l5 st3).toList=_
        rw[I3.arr]
        simp
    by_cases hlt:n<minRun' a₀.size a₀.size 0
    all_goals first
      | (rw [if_pos hlt]
         refine i7 (Z1 ?_)
         refine i7 (at9 C d (by omega) (by omega) hB2 hs2 fun st3 hB3 hp3 hs3=>?_)
         simp only[P2,l9,if_false]
         obtain⟨run,suf',I3,e2,e3⟩:=cont _ st3 hB3 (hp2.trans hp3) (by omega) (by omega) hs3
         have k1:1<=min (a₀.size - lo) (minRun' a₀.size a₀.size 0):=by omega
         have k2:min (a₀.size - lo) (minRun' a₀.size a₀.size 0)<=a₀.size - lo:=by omega
         revert e2 k1 k2
         generalize min (a₀.size - lo) (minRun' a₀.size a₀.size 0)=n'
         intro e2 k1 k2)
      | (rw [if_neg hlt]
         obtain⟨run,suf',I3,e2,e3⟩:=cont n st2 hB2 hp2 hn1 hn2 hs2
         have k1:1<=n:=hn1
         have k2:n<=a₀.size - lo:=hn2
         revert e2 k1 k2
         generalize n=n'
         intro e2 k1 k2)
    all_goals
      refine i7 (at6 ?_)
      split
      ·
        rename_i s1 n1 pw1 hback
        refine i7 (S5 (C8
          (I:=fun _ c st'=>c=(none,())/\∃ rs,SR a₀ κ (Bf f) rs (run++suf') st'/\rs.flatten.length=lo)
          (Q:=fun c st'=>c=(none,())/\∃ rs,SR a₀ κ (Bf f) rs (run++suf') st'/\rs.flatten.length=lo) ?mstep (fun _ _ q=>q) ⟨rfl,runs,I3,h1.symm⟩) ?mpost)
        case mstep =>
          rintro y c st4 _ _ ⟨rfl,rs,I4,e4⟩
          refine i7 (at6 ?_)
          try dsimp only
          by_cases hz:(A5 st4).size > 1
          · rw[if_pos hz]
            split
            · split
              · exact j9 ⟨rfl,rs,I4,e4⟩
              · refine i7 (ar9 o C I4 (by rw[<- aN6 I4];omega) fun rs' st5 I5 _ e5=>?_)
                simp only[P2,l9,if_false]
                exact j9 ⟨rfl,rs',I5,e5.trans e4⟩
            · exact j9 ⟨rfl,rs,I4,e4⟩
          · rw[if_neg hz]
            exact j9 ⟨rfl,rs,I4,e4⟩
        case mpost =>
          rintro c st4 ⟨rfl,rs,I4,e4⟩
          try dsimp only
          refine i7 (au6 ?_)
          have I5:SR a₀ κ (Bf f) rs (run++suf') (bu7 st4 ((A5 st4).modify ((A5 st4).size - 1) fun x=>match x with | (st,len,snd)=>(st,len,power' a₀.size (2*s1+n1) (2*s1+n1+n1+n') a₀.size))):=by
            refine⟨I4.perm,I4.kind,I4.failed,?_,I4.ok,I4.arr⟩
            rw[<- I4.sh]
            show shape ((A5 st4).modify _ _).toList=_
            rw[Array.toList_modify]
            unfold shape
            apply P1
            intro k
            rw[m9,m9,List.getElem?_modify]
            cases (A5 st4).toList[k]? with
            | none=>rfl
            | some v =>
              obtain⟨v1,v2,v3⟩:=v
              simp only[Option.map_some]
              split<;>rfl
          exact i7 (au6 (j9 (more rs run suf' n' _ I5 e4 e2 e3 k1 k2)))
      · exact i7 (au6 (j9 (more runs run suf' n' _ I3 h1.symm e2 e3 k1 k2)))
  case post =>
    rintro c st1 ⟨runs,rfl,I⟩
    try dsimp only
    refine i7 (S5 (C8
      (I:=fun x c st'=>c=(none,())/\∃ rs,SR a₀ κ (Bf f) rs [] st'/\(rs.length+x<=a₀.size\/rs.length<=1))
      (Q:=fun c st'=>c=(none,())/\∃ rs,SR a₀ κ (Bf f) rs [] st'/\rs.length<=1) ?fstep ?ffin ⟨rfl,runs,I,.inl ?fst⟩) ?fpost)
    case fst =>
      have h1:=aZ3 runs I.ok
      have hl:=congrArg aa0 I.arr
      rw[j3,I.perm.size_eq,F4]at hl
      omega
    case ffin =>
      rintro c st' ⟨rfl,rs,I',q⟩
      exact⟨rfl,rs,I',by omega⟩
    case fstep =>
      rintro x c st2 _ hx ⟨rfl,rs,I2,q⟩
      refine i7 (at6 ?_)
      try dsimp only
      have hpl:=aN6 I2
      by_cases hz:(A5 st2).size<=1
      · rw[if_pos hz]
        exact j9 ⟨rfl,rs,I2,by omega⟩
      rw[if_neg hz]
      refine i7 (ar9 o C I2 ?_ fun rs' st3 I3 e3 _=>?_)
      · (repeat' split)<;>omega
      · simp only[P2,l9,if_false]
        exact j9 ⟨rfl,rs',I3,by omega⟩
    case fpost =>
      rintro c st2 ⟨rfl,rs,I2,q⟩
      refine j9 (h st2 I2.perm I2.failed ?_)
      rw[I2.arr,F4]
      match rs,I2.ok,q with
      | [],_,_=>exact List.Pairwise.nil
      | [r],ok,_=>simpa using (ok r (by simp)).2
end
end Tim
namespace Tim
open PySem PyProof.Rows PySem.W
def J3:List Int->List Int->Bool
 | [],[]=>false
 | [],_::_=>true
 | _::_,[]=>false
 | a::x,b::y=>if a=b then J3 x y else decide (a<b)
theorem an4:∀ x,J3 x x=false
 | []=>rfl
 | a::x=>by unfold J3;rw[if_pos rfl];exact an4 x
theorem an3:∀ x y z,J3 x y=true->J3 y z=true->J3 x z=true
 | [],[],z,h,_=>by cases h
 | [],_::_,[],_,h=>by cases h
 | [],_::_,_::_,_,_=>rfl
 | _::_,[],z,h,_=>by cases h
 | _::_,_::_,[],_,h=>by cases h
 | a::x,b::y,c::z,h1,h2=>by
  unfold J3 at h1 h2 ⊢
  by_cases e1:a=b
  ·subst e1
   rw[if_pos rfl]at h1
   by_cases e2:a=c
   ·rw[if_pos e2]at h2 ⊢
    exact an3 x y z h1 h2
   ·rw[if_neg e2]at h2 ⊢
    exact h2
  ·rw[if_neg e1,decide_eq_true_eq]at h1
   by_cases e2:b=c
   ·subst e2
    rw[if_neg e1,decide_eq_true_eq]
    exact h1
   ·rw[if_neg e2,decide_eq_true_eq]at h2
    rw[if_neg (by omega),decide_eq_true_eq]
    omega
theorem az5:∀ x y,J3 x y=false->J3 y x=false->x=y
 | [],[],_,_=>rfl
 | [],_::_,h,_=>by cases h
 | _::_,[],_,h=>by cases h
 | a::x,b::y,h1,h2=>by
  unfold J3 at h1 h2
  by_cases e:a=b
  ·subst e
   rw[if_pos rfl]at h1 h2
   rw[az5 x y h1 h2]
  ·rw[if_neg e,decide_eq_false_iff_not]at h1
   rw[if_neg (Ne.symm e),decide_eq_false_iff_not]at h2
   omega
theorem bC2 (x y z:List Int)(h:J3 x z=true):J3 x y=true\/J3 y z=true:=by
 cases e1:J3 x y with
 | true=>exact .inl rfl
 | false =>
  cases e2:J3 y x with
  | true=>exact .inr (an3 _ _ _ e2 h)
  | false=>rw[az5 x y e1 e2]at h;exact .inr h
def aV5:aS5:=⟨List Int,J3,an4,an3,bC2,az5⟩
def IsK (prog:Program)(w:World)(h:Heap)(k:List Int)(v:Value):Prop:=∃ a,v=.ref a/\G1 (y7 prog w) h k a
theorem IsK.inj {k':List Int}(x:IsK prog w h k v)(y:IsK prog w h k' v):k=k':=by
 obtain⟨a,rfl,h1⟩:=x
 obtain⟨b,e,h2⟩:=y
 cases e
 exact h1.inj h2
open Classical in
noncomputable def R9 (prog:Program)(w:World)(h:Heap)(v:Value):List Int:=if q:∃ k,IsK prog w h k v then Classical.choose q else []
theorem Q8 (x:IsK prog w h k v):R9 prog w h v=k:=by
 unfold R9
 rw[dif_pos ⟨k,x⟩]
 exact(Classical.choose_spec (⟨k,x⟩:∃ k,IsK prog w h k v)).inj x
theorem IsK.up (x:IsK prog w h k v)(hs:∀ b o,h.get? b=some o->h'.get? b=some o):IsK prog w h' k v:=by
 obtain⟨a,e,o,items,n,h2,h3⟩:=x
 exact⟨a,e,o,items,n,hs a o h2,h3⟩
theorem aE3 {b:Bool}{Q:Bool->Shared->Prop}(hb:b=true):∀ (x y:List Int) (vs us:List Value) (i:Nat) (fin:Bool),ItemsAre (y7 prog w) x vs->ItemsAre (y7 prog w) y us->(x.length<y.length↔fin=true)->Q (J3 x y) s->KatLex prog w A b fin Q (vs.zip us) i s
 | [],[],_,_,i,fin,.nil,.nil,hf,h=>by
  have:fin=false:=by cases fin with | false=>rfl | true=>exact absurd (hf.mpr rfl) (by simp)
  subst this
  exact kat_nil h
 | [],_::_,_,_,i,fin,.nil,.cons _ _,hf,h=>by
  have:fin=true:=hf.mp (by simp)
  subst this
  exact kat_nil h
 | _::_,[],_,_,i,fin,.cons _ _,.nil,hf,h=>by
  have:fin=false:=by cases fin with | false=>rfl | true=>exact absurd (hf.mpr rfl) (by simp)
  subst this
  exact kat_nil h
 | a::x,c::y,_,_,i,fin,.cons h1 t1,.cons h2 t2,hf,h=>by
  obtain⟨t,rfl⟩:=Value.isInt_shape h1
  obtain⟨u,rfl⟩:=Value.isInt_shape h2
  rw[T5]
  refine kat_cons (wpAny_eqBool_int ?_)
  unfold J3 at h
  by_cases e:a=c
  ·subst e
   rw[if_pos rfl]at h
   rw[show (a == a)=true by simp]
   exact kat_yes (aE3 hb x y _ _ (i+1) fin t1 t2 (by rw[<- hf];simp) h)
  ·rw[if_neg e]at h
   rw[show (a == c)=false by simpa using e]
   refine kat_no ?_
   cases hi:(b && i == 0) with
   | true=>exact oneLt_int h
   | false=>exact kat_one _ _ (lt_int h)
theorem aO9 {x y:Value}{k':List Int}{Q:Bool->Shared->Prop}(hx:IsK prog w s.heap k x)(hy:IsK prog w s.heap k' y)(h:Q (J3 k k') s):r6 (o7 prog w) A (keyLt' (bw0 true) x y) Q E s:=by
 obtain⟨a,rfl,o,xs,n,ho,hc,hd,hi⟩:=hx
 obtain⟨b,rfl,o',ys,n',ho',hc',hd',hi'⟩:=hy
 refine kat_lt ho hd ho' hd' (aE3 rfl k k' _ _ 0 _ hi hi' ?_ h)
 have e1:k.length=xs.size:=by have:=hi.length;simpa using this
 have e2:k'.length=ys.size:=by have:=hi'.length;simpa using this
 rw[e1,e2]
 simp
theorem az6 {Q:SortKind->Shared->Prop}(hne:0<vs.length)(hv:∀ v∈vs,∃ i k,IsK prog w s.heap (i::k) v)(h:Q (bw0 true) s):r6 (o7 prog w) A (keyKind' vs.toArray) Q E s:=by
 have ex:∀ l:List Value,(∀ v∈l,∃ i k,IsK prog w s.heap (i::k) v)->∃ fs:List Value,KatTups s.heap l fs/\fs.length=l.length/\∀ v∈fs,∃ i t,v=.int i t:=fun l=>by
  induction l with
  | nil=>intro _;exact⟨[],KatTups.nil,rfl,(fun _ h=>nomatch h)⟩
  | cons v l ih =>
   intro hl
   obtain⟨i,k,a,rfl,o,xs,n,ho,hc,hd,hi⟩:=hl v c5
   obtain⟨fs,f1,f2,f3⟩:=ih fun v hv=>hl v (b7 _ hv)
   obtain⟨f,hf,t,rfl⟩:∃ f,xs[0]?=some f/\∃ t,f=.int i t:=by
    cases e:xs.toList with
    | nil=>rw[e]at hi;cases hi
    | cons f r =>
     rw[e]at hi
     cases hi with
     | cons h1 _ =>
      obtain⟨t,et⟩:=Value.isInt_shape h1
      exact⟨f,by rw[<- b9,e];rfl,t,et⟩
   refine⟨.int i t::fs,KatTups.cons ho hc hd hf f1,by rw[k8,f2,k8],fun v hv=>?_⟩
   rcases d3.mp hv with rfl | hv
   ·exact⟨i,t,rfl⟩
   ·exact f3 v hv
 obtain⟨fs,f1,f2,f3⟩:=ex vs hv
 refine kat_kind (T:=.type "int") f1 (by omega) (fun v hv=>?_) (by decide) ?_
 ·obtain⟨i,t,rfl⟩:=f3 v hv
  exact .now
 ·exact h
theorem be4 {P:PySem.Fin->Shared->Prop}(ho:s.heap.get? a=some (E7 "list" vs.toArray n))(hz:vs.length<=f6)
  (hv:∀ v∈vs,∃ i k,IsK prog w s.heap (i::k) v)(hna:∀ v∈vs,v≠.ref a)
  (h:∀ out:List Value,out.Perm vs->out.Pairwise (fun x y=>J3 (R9 prog w s.heap y) (R9 prog w s.heap x)=false)->P (.done (.ret .none)) { s with heap:=aj7 s.heap a vs out.toArray }) :
  r6 (o7 prog w) A (Builtin.«list.sort» ⟨[.ref a],[]⟩) P E s:=by
 rw[list_sort_plain]
 have ha:a<s.heap.objs.size:=f9 ho
 refine a7 (bJ0 ho rfl ?_)
 refine a7 (aa6 ho rfl ?_ (by rw[d9];exact hz) (o6 _))
 obtain⟨e1,ho1⟩:∃ e1,(s.heap.update a (Obj.mapSeq fun _=>#[])).get? a=some (E7 "list" #[] e1):=⟨_,U3 ho (fun _=>#[])⟩
 refine a7 (bd3 ho1 rfl ?_)
 refine a7 (wpAny_newTuple ?_ (by show vs.length<=_;exact hz))
 refine a7 (Q2 ?_ (o6 _))
 refine D9 ?_
 generalize hH:((s.heap.update a (Obj.mapSeq fun _=>#[])).push (E7 "tuple" vs.toArray 0)).push (E7 "list" #[] 0)=h6
 have ho6:h6.get? a=some (E7 "list" #[] e1):=by rw[<- hH];exact a8 _ (a8 _ ho1)
 have keep:∀ b o,b≠a->s.heap.get? b=some o->h6.get? b=some o:=fun b o hb e=>by
  rw[<- hH]
  exact a8 _ (a8 _ ((C5 s.heap _ (Ne.symm hb)).trans e))
 have up:∀ v∈vs,∀ k,IsK prog w s.heap k v->IsK prog w h6 k v:=fun v hv' k hk=>by
  obtain⟨c,rfl,o,items,n,h2,h3⟩:=hk
  exact⟨c,rfl,o,items,n,keep c o (fun z=>hna _ hv' (by rw[z])) h2,h3⟩
 have fin:∀ st':SortSt,(l5 st').Perm (bU1 vs)->(l5 st').toList.Pairwise (le (Bf (O:=aV5) fun p=>R9 prog w s.heap p.1))->P (.done (.ret .none)) { s with heap:=aj7 s.heap a vs ((l5 st').map (·.2)) }:=fun st' hp hs=>by
  have hl:(l5 st').toList.Perm (vs.zip vs):=by rw[<- pairsOf_toList];exact J2.mp hp
  have hm:((l5 st').map (·.2)).toList=(l5 st').toList.map (·.2):=bS1 ..
  have hz2:(vs.zip vs).map (·.2)=vs:=List.map_snd_zip (c6 _)
  have:=h ((l5 st').toList.map (·.2)) (by have:=hl.map (·.2);rw[hz2]at this;exact this) ?_
  ·rw[show (l5 st').map (·.2)=((l5 st').toList.map (·.2)).toArray by rw[<- hm]]
   exact this
  ·rw[L9]
   refine List.Pairwise.imp_of_mem ?_ hs
   intro x y hx hy hxy
   have ex:=(ag5 (hl.mem_iff.mp hx)).1
   have ey:=(ag5 (hl.mem_iff.mp hy)).1
   rw[<- ex,<- ey]
   exact hxy
 have out:∀ st':SortSt,(l5 st').Perm (bU1 vs)->K6 st'=none->(l5 st').toList.Pairwise (le (Bf (O:=aV5) fun p=>R9 prog w s.heap p.1)) ->
   r6 (o7 prog w) A (do
    let sorted:=(l5 st').map (·.2)
    let touched:=(<- seqEpoch a) != e1
    Builtin.List.listUpdate (.ref a) fun _=>sorted
    if let some e:=K6 st' then rule "list.sort.comparison-raised";throw e
    if touched then rule "list.sort.modified";raiseError "ValueError" "list modified during sort"
    ret .none) P E { s with heap:=h6 }:=fun st' hp hf hs=>by
  dsimp only
  refine a7 (bd3 (s:={ s with heap:=h6 }) ho6 rfl ?_)
  refine a7 (aa6 (s:={ s with heap:=h6 }) ho6 rfl ?_ (o6 _) (by refine p9 (ao9 ((ac4 ..).trans (hp.size_eq.trans (pairsOf_size _)))) ?_;omega))
  rw[hf]
  simp only[bne_self_eq_false,l9,if_false]
  refine i8 ?_
  have:=fin st' hp hs
  unfold aj7 at this
  rw[hH]at this
  exact this
 show r6 (o7 prog w) A _ P E { s with heap:=h6 }
 dsimp only
 by_cases h2:vs.toArray.size<2
 ·rw[if_pos h2,if_pos h2]
  refine a7 (i8 ?_)
  rw[StateT.run_pure]
  refine a7 (i8 ?_)
  refine out (SortSt.mk' general' (vs.toArray.zip vs.toArray) #[] 7 none) (Array.Perm.refl _) rfl ?_
  show (bU1 vs).toList.Pairwise _
  rw[o4]
  intro i j hi hj hij
  rw[j3,pairsOf_size]at hj
  rw[d9]at h2
  omega
 ·rw[if_neg h2,if_neg h2]
  rw[d9]at h2
  refine a7 (az6 (s:={ s with heap:=h6 }) (by omega) (fun v hv'=>?_) ?_)
  ·obtain⟨i,k,hk⟩:=hv v hv'
   exact⟨i,k,up v hv' _ hk⟩
  refine a7 (B6 (ar8 (s:={ s with heap:=h6 }) (a₀:=bU1 vs) (κ:=bw0 true) (O:=aV5) (f:=fun p=>R9 prog w s.heap p.1) (st:=SortSt.mk' (bw0 true) (vs.toArray.zip vs.toArray) #[] 7 none)
   (Q:=fun _ st'=>(l5 st').Perm (bU1 vs)/\K6 st'=none/\(l5 st').toList.Pairwise (le (Bf (O:=aV5) fun p=>R9 prog w s.heap p.1))) ?_ ([]:List Int) (Array.Perm.refl _) rfl rfl rfl fun st' a1 a2 a3=>⟨a1,a2,a3⟩) ?_ fun _ _ e=>e)
  ·intro x y hx hy Q hq
   rw[pairsOf_toList]at hx hy
   obtain⟨i,k,hk⟩:=hv x.1 (ag5 hx).2
   obtain⟨j,k',hk'⟩:=hv y.1 (ag5 hy).2
   refine aO9 (s:={ s with heap:=h6 }) (up _ (ag5 hx).2 _ hk) (up _ (ag5 hy).2 _ hk') ?_
   rw[<- Q8 hk,<- Q8 hk']
   exact hq
  ·rintro⟨⟨⟩,st'⟩ s' ⟨rfl,hp,hf,hs⟩
   exact out st' hp hf hs
theorem aC4 (hl:s.heap.IsList l vs.toArray) (hz:vs.length<=f6) (hv:∀ v∈vs,∃ i k,IsK prog w s.heap (i::k) v)
  (h : ∀ (out : List Value) (h' : Heap) (n : Nat), out.Perm vs -> out.Pairwise (fun x y => J3 (R9 prog w s.heap y) (R9 prog w s.heap x) = false) -> (∀ b o, s.heap.get? b = some o -> h'.get? b = some o) ->
   h'.get? (s.heap.objs.size+1)=some { cls:=.type "list",data:=.seq out.toArray n }->Q (.ref (s.heap.objs.size+1)) { s with heap:=h' }) :
  r6 (o7 prog w) A (call (.builtin "sorted") [.ref l]) Q E s:=by
 refine Calls.call_function_entry bU2 bJ1 bJ2 (args_sorted1 _) ?_
 unfold Builtin.«sorted»
 refine a7 (m:=checkCount "sorted" 1 1 _) (i8 ?_)
 refine a7 (collect_list hl ?_ hz)
 refine a7 (Q2 ?_ hz)
 have hsz:((s.heap.push (E7 "list" #[] 0)).update s.heap.objs.size (Obj.mapSeq (·++vs.toArray))).objs.size=s.heap.objs.size+1:=by
  rw[bT2,bu8]
 generalize hH:((s.heap.push (E7 "list" #[] 0)).update s.heap.objs.size (Obj.mapSeq (·++vs.toArray))).push (E7 "list" vs.toArray 0)=h2
 have hoL:h2.get? (s.heap.objs.size+1)=some (E7 "list" vs.toArray 0):=by
  rw[<- hH,<- hsz];exact j8 _ rfl
 have keep:∀ b o,s.heap.get? b=some o->h2.get? b=some o:=fun b o e=>by
  rw[<- hH]
  refine a8 _ ((C5 _ _ ?_).trans (a8 _ e))
  exact Ne.symm (k7 (f9 e))
 have hsz2:h2.objs.size=s.heap.objs.size+2:=by rw[<- hH,bu8,hsz]
 rw[hsz]
 have up:∀ v k,IsK prog w s.heap k v->IsK prog w h2 k v:=fun v k hk=>hk.up keep
 have kA:∀ v∈vs,R9 prog w h2 v=R9 prog w s.heap v:=fun v hv'=>by
  obtain⟨i,k,hk⟩:=hv v hv'
  rw[Q8 hk,Q8 (up v _ hk)]
 refine a7 (D9 (aS9 bj2 (s:={ s with heap:=h2 }) ⟨_,hoL,rfl⟩ bd4 (be4 (s:={ s with heap:=h2 }) hoL hz (fun v hv'=>?_) (fun v hv' z=>?_) fun out a1 a2=>⟨_,rfl,?_⟩) (args_list_sort _)))
 ·obtain⟨i,k,hk⟩:=hv v hv'
  exact⟨i,k,up v _ hk⟩
 ·obtain⟨i,k,a,rfl,o,items,n,ho,_⟩:=hv v hv'
  cases z
  exact absurd (f9 ho) (Nat.not_lt.mpr (V3 _))
 ·have hlast:∃ n,(aj7 h2 (s.heap.objs.size+1) vs out.toArray).get? (s.heap.objs.size+1)=some (E7 "list" out.toArray n):=by
   unfold aj7
   have g1:=U3 hoL (fun _=>(#[]:Array Value))
   have g2:(((h2.update (s.heap.objs.size+1) (Obj.mapSeq fun _=>#[])).push (E7 "tuple" vs.toArray 0)).push (E7 "list" #[] 0)).get? (s.heap.objs.size+1)=_:=a8 _ (a8 _ g1)
   exact⟨_,U3 g2 (fun _=>out.toArray)⟩
  obtain⟨n,hn⟩:=hlast
  refine i8 ⟨_,rfl,h out _ n a1 ?_ (fun b o e=>?_) hn⟩
  ·refine List.Pairwise.imp_of_mem ?_ a2
   intro x y hx hy hxy
   rw[kA x (a1.mem_iff.mp hx),kA y (a1.mem_iff.mp hy)]at hxy
   exact hxy
  ·have hb:b≠s.heap.objs.size+1:=k7 (C3 (f9 e))
   unfold aj7
   refine(C5 _ _ (Ne.symm hb)).trans (a8 _ (a8 _ ((C5 _ _ (Ne.symm hb)).trans (keep b o e))))
end Tim
namespace Sett
open PySem PySem.SetTable
theorem aW5 {P:Nat->Prop}(h:∃ n,P n):∃ n,P n/\∀ m,m<n->¬ P m:=by
 obtain⟨n,hn⟩:=h
 induction n using Nat.strongRecOn with
 | ind n ih =>
  by_cases q:∃ m,m<n/\P m
  ·obtain⟨m,hm,pm⟩:=q
   exact ih m hm pm
  ·exact⟨n,hn,fun m hm pm=>q ⟨m,hm,pm⟩⟩
def st (m i pt:Nat):Probe:={ j:=i,more:=runEnd m i - i,i:=i,perturb:=pt,dummy:=none }
def it (t:SetTable):Nat->Probe->Probe
 | 0,p=>p
 | n+1,p=>it t n (t.advance p)
theorem aI9 (t:SetTable):∀ (a b:Nat) (p:Probe),it t (a+b) p=it t b (it t a p)
 | 0,b,p=>by rw[K2];rfl
 | a+1,b,p=>by
  rw[show a+1+b=(a+b)+1 by omega]
  exact aI9 t a b (t.advance p)
theorem ah9 (t:SetTable)(n:Nat)(p:Probe):it t (n+1) p=t.advance (it t n p):=aI9 t n 1 p
theorem ap7 (m i:Nat):i<=runEnd m i/\runEnd m i<=i+9:=by unfold runEnd;split<;>omega
theorem aM9 {m:Nat}(h:i<=m):runEnd m i<=m:=by unfold runEnd;split<;>omega
theorem aI7 (t:SetTable)(i pt:Nat):∀ k,k<=runEnd t.mask i - i->it t k (st t.mask i pt)={ j:=i+k,more:=runEnd t.mask i - i - k,i:=i,perturb:=pt,dummy:=none }
 | 0,_=>rfl
 | k+1,h=>by
  rw[ah9,aI7 t i pt k (by omega)]
  unfold advance
  dsimp only
  rw[if_pos (by omega)]
  simp only[Probe.mk.injEq,and_true,true_and]
  omega
theorem aI8 (t:SetTable)(i pt:Nat):it t (runEnd t.mask i - i+1) (st t.mask i pt)=st t.mask (leap t.mask i pt).1 (leap t.mask i pt).2:=by
 rw[ah9,aI7 t i pt _ (c6 _)]
 unfold advance
 dsimp only
 rw[if_neg (by omega)]
 rfl
def rn (m i pt:Nat):Nat->Nat × Nat
 | 0=>(i,pt)
 | r+1=>leap m (rn m i pt r).1 (rn m i pt r).2
theorem bH3 (m i pt:Nat):∀ r,(rn m i pt r).2=pt / 32 ^ r
 | 0=>by simp[rn]
 | r+1=>by
  show (rn m i pt r).2 / 32=_
  rw[bH3 m i pt r,bu2,Nat.pow_succ]
theorem bH4 (m i pt:Nat)(h:i<=m):∀ r,(rn m i pt r).1<=m
 | 0=>h
 | r+1=>ai1 (aG0 _ (ad5 m))
theorem bH9 (t:SetTable)(i pt:Nat):∀ r,∃ n,n<=10*r/\it t n (st t.mask i pt)=st t.mask (rn t.mask i pt r).1 (rn t.mask i pt r).2
 | 0=>⟨0,c6 _,rfl⟩
 | r+1=>by
  obtain⟨n,hn,e⟩:=bH9 t i pt r
  have h9:=ap7 t.mask (rn t.mask i pt r).1
  refine⟨n+(runEnd t.mask (rn t.mask i pt r).1 - (rn t.mask i pt r).1+1),by omega,?_⟩
  rw[aI9,e,aI8]
  rfl
def f5 (m i:Nat):Nat:=(i*5+1) % (m+1)
def orb (m:Nat):Nat->Nat->List Nat
 | 0,_=>[]
 | k+1,i=>i::orb m k (f5 m i)
def Full (m:Nat):Prop:=∀ b,b<=m->∀ a,a<=m->∃ n,n<=m/\Nat.repeat (f5 m) n a=b
def chk (m:Nat):Bool:=(orb m (m+1) 0).foldl (fun acc i=>acc ||| 2 ^ i) 0 == 2 ^ (m+1) - 1
theorem aR6:∀ (l:List Nat) (acc b:Nat),(l.foldl (fun acc i=>acc ||| 2 ^ i) acc).testBit b=true->acc.testBit b=true\/b∈l
 | [],acc,b,h=>.inl h
 | i::l,acc,b,h=>by
  rcases aR6 l _ b h with q | q
  ·rw[Nat.testBit_or,aS1]at q
   rcases q with q | q
   ·exact .inl q
   ·rw[bI3]at q
    exact .inr (by rw[of_decide_eq_true q];exact c5)
  ·exact .inr (b7 _ q)
theorem am8 (f:Nat->Nat)(a:Nat):∀ n k,Nat.repeat f (n+k) a=Nat.repeat f k (Nat.repeat f n a)
 | n,0=>rfl
 | n,k+1=>by
  show f (Nat.repeat f (n+k) a)=f (Nat.repeat f k (Nat.repeat f n a))
  rw[am8 f a n k]
theorem ba0 (m:Nat):∀ k i x,x∈orb m k i->∃ n,n<k/\Nat.repeat (f5 m) n i=x
 | 0,i,x,h=>by cases h
 | k+1,i,x,h=>by
  rcases d3.mp h with rfl | h
  ·exact⟨0,ad5 _,rfl⟩
  ·obtain⟨n,hn,e⟩:=ba0 m k (f5 m i) x h
   refine⟨n+1,by omega,?_⟩
   rw[Nat.add_comm n 1,am8]
   exact e
theorem av4 {m:Nat}(hc:chk m=true)(hz:Nat.repeat (f5 m) (m+1) 0=0):Full m:=by
 intro b hb a ha
 unfold chk at hc
 have hc:=eq_of_beq hc
 have get:∀ x,x<=m->∃ n,n<m+1/\Nat.repeat (f5 m) n 0=x:=fun x hx=>by
  have hb:(2 ^ (m+1) - 1).testBit x=true:=by rw[Nat.testBit_two_pow_sub_one];exact decide_eq_true (by omega)
  rw[<- hc]at hb
  rcases aR6 _ _ _ hb with q | q
  ·simp at q
  ·exact ba0 m (m+1) 0 x q
 obtain⟨p,hp,ep⟩:=get a ha
 obtain⟨q,hq,eq⟩:=get b hb
 by_cases h:p<=q
 ·refine⟨q - p,by omega,?_⟩
  rw[<- ep,<- am8,show p+(q - p)=q by omega,eq]
 ·refine⟨m+1 - p+q,by omega,?_⟩
  rw[<- ep,<- am8,show p+(m+1 - p+q)=(m+1)+q by omega,am8,hz,eq]
def Good (m:Nat):Prop:=m=7\/m=31\/m=127\/m=511
set_option maxRecDepth 100000 in
theorem Good.full {m:Nat}(h:Good m):Full m:=by
 rcases h with rfl | rfl | rfl | rfl
 ·exact av4 (by decide +kernel) (by decide +kernel)
 ·exact av4 (by decide +kernel) (by decide +kernel)
 ·exact av4 (by decide +kernel) (by decide +kernel)
 ·exact av4 (by decide +kernel) (by decide +kernel)
theorem aZ4 (m i pt:Nat)(hp:pt<2 ^ 64):∀ k,(rn m i pt (13+k)).1=Nat.repeat (f5 m) k (rn m i pt 13).1
 | 0=>rfl
 | k+1=>by
  show (leap m (rn m i pt (13+k)).1 (rn m i pt (13+k)).2).1=f5 m (Nat.repeat (f5 m) k (rn m i pt 13).1)
  rw[<- aZ4 m i pt hp k]
  unfold leap f5
  have:(rn m i pt (13+k)).2 / 32=0:=by
   rw[bH3,Nat.pow_add,<- bu2]
   have:pt / 32 ^ 13=0:=Nat.div_eq_of_lt (Nat.lt_trans hp (by decide))
   rw[this]
   simp
  dsimp only
  rw[this,aK2]
theorem aZ5 {m pt b:Nat}(g:Good m)(hi:i<=m)(hp:pt<2 ^ 64)(hb:b<=m):∃ r,r<turns m/\(rn m i pt r).1=b:=by
 obtain⟨n,hn,e⟩:=g.full b hb (rn m i pt 13).1 (bH4 m i pt hi 13)
 exact⟨13+n,by unfold turns;omega,by rw[aZ4 m i pt hp];exact e⟩
theorem bC6 (t:SetTable){pt b:Nat}(g:Good t.mask)(hi:i<=t.mask)(hp:pt<2 ^ 64)(hb:b<=t.mask):∃ n,n<10*turns t.mask/\(it t n (st t.mask i pt)).j=b:=by
 obtain⟨r,hr,e⟩:=aZ5 g hi hp hb
 obtain⟨n,hn,e'⟩:=bH9 t i pt r
 refine⟨n,by omega,?_⟩
 rw[e']
 exact e
theorem aP7 (t:SetTable):∀ (n:Nat) (p:Probe),(it t n p).dummy=p.dummy
 | 0,p=>rfl
 | n+1,p=>by
  show (it t n (t.advance p)).dummy=_
  rw[aP7 t n]
  unfold advance
  split<;>rfl
theorem bc1 (h:Int):bits h<2 ^ 64:=by
 unfold bits
 have h1:=J0 h (show (2 ^ 64:Int)≠0 by decide)
 have h2:=D7 h (show (0:Int)<2 ^ 64 by decide)
 omega
theorem ad9 (t:SetTable)(h:Int):t.probeStart h=st t.mask (bits h % (t.mask+1)) (bits h):=rfl
theorem av2 {t':SetTable}(h:t'.mask=t.mask):∀ (n:Nat) (p:Probe),it t' n p=it t n p
 | 0,p=>rfl
 | n+1,p=>by
  show it t' n (t'.advance p)=it t n (t.advance p)
  have:t'.advance p=t.advance p:=by unfold advance;rw[h]
  rw[this,av2 h n]
def Asc (xs:Array Nat):Prop:=∀ (i j a b:Nat),i<j->xs[i]?=some a->xs[j]?=some b->a<b
theorem aA8 {xs:Array Nat}(asc:Asc xs)(j:Nat):∀ (fuel lo hi:Nat),hi - lo<=fuel->lo<=hi->hi<=xs.size->(∀ i a,i<lo->xs[i]?=some a->a<j)->(∀ i a,hi<=i->xs[i]?=some a->j<=a) ->
  (below.go xs j fuel lo hi)<=xs.size/\(∀ i a,i<below.go xs j fuel lo hi->xs[i]?=some a->a<j)/\(∀ i a,below.go xs j fuel lo hi<=i->xs[i]?=some a->j<=a)
 | 0,lo,hi,h0,h1,h2,h3,h4=>by
  have:lo=hi:=by omega
  subst this
  exact⟨h2,h3,h4⟩
 | fuel+1,lo,hi,h0,h1,h2,h3,h4=>by
  unfold below.go
  by_cases hlt:lo<hi
  ·rw[if_pos hlt]
   dsimp only
   have hm:(lo+hi) / 2<xs.size:=by omega
   have hg:xs.getD ((lo+hi) / 2) j=xs[(lo+hi) / 2]:=by simp[bI4,hm]
   have hq:xs[(lo+hi) / 2]?=some xs[(lo+hi) / 2]:=getElem?_pos xs _ hm
   by_cases hc:xs.getD ((lo+hi) / 2) j<j
   ·rw[if_pos hc]
    refine aA8 asc j fuel _ hi (by omega) (by omega) h2 (fun i a hi' e=>?_) h4
    rw[hg]at hc
    by_cases he:i=(lo+hi) / 2
    ·subst he;rw[hq]at e;cases e;exact hc
    ·have:=asc i _ a _ (by omega) e hq
     omega
   ·rw[if_neg hc]
    refine aA8 asc j fuel lo _ (by omega) (by omega) (by omega) h3 (fun i a hi' e=>?_)
    rw[hg]at hc
    by_cases he:i=(lo+hi) / 2
    ·subst he;rw[hq]at e;cases e;omega
    ·have:=asc _ i _ a (by omega) hq e
     omega
  ·rw[if_neg hlt]
   have:lo=hi:=by omega
   subst this
   exact⟨h2,h3,h4⟩
theorem aA7 {xs:Array Nat}(asc:Asc xs)(j:Nat):below xs j<=xs.size/\(∀ i a,i<below xs j->xs[i]?=some a->a<j)/\(∀ i a,below xs j<=i->xs[i]?=some a->j<=a):=
 aA8 asc j xs.size 0 xs.size (by omega) (by omega) (c6 _) (fun i a h=>by omega) fun i a h e=>by
  have:=(getElem?_eq_some_iff.mp e).1
  omega
theorem below_at {xs:Array Nat}(asc:Asc xs)(h:xs[i]?=some j):below xs j=i:=by
 obtain⟨h1,h2,h3⟩:=aA7 asc j
 rcases V4 (below xs j) i with q | q | q
 ·exfalso
  have hlt:below xs j<xs.size:=Nat.lt_trans q (getElem?_eq_some_iff.mp h).1
  have e:=getElem?_pos xs (below xs j) hlt
  have a1:=h3 (below xs j) _ (c6 _) e
  have a2:=asc _ _ _ _ q e h
  omega
 ·exact q
 ·have:=h2 i j q h
  omega
theorem ap4 (asc:Asc t.place)(h:t.place[i]?=some j):t.slot j=.live i:=by
 unfold slot
 dsimp only
 rw[below_at asc h,h]
 simp
theorem aU2 (hd:t.dummies=#[])(h:∀ i:Nat,t.place[i]?≠some j):t.slot j=.empty:=by
 unfold slot
 dsimp only
 rw[if_neg (by simpa using h _),if_neg (by rw[hd];simp[has])]
theorem aQ0 {hashAt:Nat->Int}{h:Int}:∀ (n fuel:Nat) (p:Probe),n<fuel->(∀ k,k<n->∃ i,t.slot (it t k p).j=.live i/\hashAt i≠h)->t.slot (it t n p).j=.empty ->
  probe.go t hashAt h fuel p=some (.empty (it t n p).j (it t n p).dummy)
 | 0,fuel+1,p,_,_,he=>by
  unfold probe.go
  have he':t.slot p.j=.empty:=he
  rw[he']
  rfl
 | n+1,fuel+1,p,hl,hk,he=>by
  obtain⟨i,e,hne⟩:=hk 0 (ad5 _)
  have e':t.slot p.j=.live i:=e
  unfold probe.go
  rw[e']
  dsimp only
  rw[if_neg (by simpa using hne)]
  exact aQ0 n fuel (t.advance p) (by omega) (fun k hk'=>hk (k+1) (by omega)) he
theorem bb2 {hashAt:Nat->Int}{h:Int}:∀ (n fuel:Nat) (p:Probe),n<fuel->(∀ k,k<n->∃ i,t.slot (it t k p).j=.live i/\hashAt i≠h)->t.slot (it t n p).j=.live i->hashAt i=h ->
  ∃ q,probe.go t hashAt h fuel p=some (.candidate (it t n p).j i q)
 | 0,fuel+1,p,_,_,he,hh=>by
  unfold probe.go
  have he':t.slot p.j=.live i:=he
  rw[he']
  dsimp only
  rw[if_pos (by simpa using hh)]
  exact⟨_,rfl⟩
 | n+1,fuel+1,p,hl,hk,he,hh=>by
  obtain⟨i',e,hne⟩:=hk 0 (ad5 _)
  have e':t.slot p.j=.live i':=e
  unfold probe.go
  rw[e']
  dsimp only
  rw[if_neg (by simpa using hne)]
  exact bb2 n fuel (t.advance p) (by omega) (fun k hk'=>hk (k+1) (by omega)) he hh
abbrev En:=Int × Value
structure Tb (t:SetTable) (es:Array En):Prop where
 dum:t.dummies=#[]
 len:t.place.size=es.size
 asc:Asc t.place
 bnd:∀ (i j:Nat),t.place[i]?=some j->j<=t.mask
 good:Good t.mask
 nf:es.size*5<t.mask*3
 path:∀ (i:Nat) (e:En),es[i]?=some e->∃ n,n<10*turns t.mask/\t.place[i]?=some (it t n (t.probeStart e.1)).j/\∀ k,k<n->∃ i':Nat,t.place[i']?=some (it t k (t.probeStart e.1)).j
theorem bt4 {xs:Array Nat}(asc:Asc xs):∀ (i a:Nat),xs[i]?=some a->i<=a
 | 0,a,_=>o6 _
 | i+1,a,h=>by
  have hi:i+1<xs.size:=(getElem?_eq_some_iff.mp h).1
  have e:=getElem?_pos xs i (by omega)
  have h1:=bt4 asc i _ e
  have h2:=asc i (i+1) _ a (by omega) e h
  omega
theorem bh0 {xs:Array Nat}(asc:Asc xs){m:Nat}(h:xs.size<=m):∃ b,b<=m/\∀ i:Nat,xs[i]?≠some b:=by
 by_cases q:∃ i,i<xs.size/\xs[i]?≠some i
 ·obtain⟨i,⟨hi,hne⟩,hmin⟩:=aW5 q
  refine⟨i,by omega,fun k e=>?_⟩
  have hk:=bt4 asc k i e
  rcases F9 hk with hlt | rfl
  ·have ek:xs[k]?=some k:=Classical.byContradiction fun z=>hmin k hlt ⟨by omega,z⟩
   rw[ek]at e
   cases e
   omega
  ·exact hne e
 ·refine⟨xs.size,h,fun k e=>?_⟩
  have hk:k<xs.size:=(getElem?_eq_some_iff.mp e).1
  have ek:xs[k]?=some k:=Classical.byContradiction fun z=>q ⟨k,hk,z⟩
  rw[ek]at e
  cases e
  omega
theorem Tb.small {es:Array En}(T:Tb t es):es.size<=t.mask:=by
 have:=T.nf
 omega
theorem Tb.fits {es:Array En}(T:Tb t es):t.fits es.size=true:=by
 unfold SetTable.fits fill
 rw[T.dum,T.len]
 have:=T.small
 simp
 exact this
theorem Tb.odd {es:Array En}(T:Tb t es):t.gaveWay=false:=by
 unfold gaveWay
 rcases T.good with e | e | e | e<;>rw[e]<;>rfl
def hashOf (es:Array En)(i:Nat):Int:=(es[i]?.map (·.1)).getD 0
theorem X7 {es:Array En}{e:En}(h:es[i]?=some e):hashOf es i=e.1:=by unfold hashOf;rw[h];rfl
theorem ad8 (t:SetTable)(h:Int):bits h % (t.mask+1)<=t.mask:=ai1 (aG0 _ (ad5 _))
theorem Tb.absent {es:Array En}(T:Tb t es){h:Int}(hh:∀ e∈es.toList,e.1≠h):∃ n,n<10*turns t.mask/\(∀ i:Nat,t.place[i]?≠some (it t n (t.probeStart h)).j)/\(it t n (t.probeStart h)).j<=t.mask /\
  (∀ k,k<n->∃ i':Nat,t.place[i']?=some (it t k (t.probeStart h)).j)/\t.probe (hashOf es) h (t.probeStart h)=some (.empty (it t n (t.probeStart h)).j none):=by
 obtain⟨b,hb,hfree⟩:=bh0 T.asc (m:=t.mask) (by rw[T.len];exact T.small)
 obtain⟨n0,hn0,e0⟩:=bC6 t T.good (ad8 t h) (bc1 h) hb
 rw[<- ad9]at e0
 obtain⟨n,⟨hfr,hn,hle⟩,hmin⟩:=aW5 (P:=fun n=>(∀ i:Nat,t.place[i]?≠some (it t n (t.probeStart h)).j)/\n<=n0/\(it t n (t.probeStart h)).j<=t.mask) ⟨n0,by rw[e0];exact hfree,c6 _,by rw[e0];exact hb⟩
 have hocc:∀ k,k<n->∃ i':Nat,t.place[i']?=some (it t k (t.probeStart h)).j:=fun k hk=>Classical.byContradiction fun z=>by
  have hk':∀ i:Nat,t.place[i]?≠some (it t k (t.probeStart h)).j:=fun i e=>z ⟨i,e⟩
  by_cases hkm:(it t k (t.probeStart h)).j<=t.mask
  ·exact hmin k hk ⟨hk',by omega,hkm⟩
  ·-- every place on the way is a slot
   exact hkm (by
    clear z hk' hkm hmin hfr hle hn hk
    rw[ad9]
    induction k with
    | zero=>exact ad8 t h
    | succ k ih =>
     have key:∀ k,∃ r c,c<=runEnd t.mask (rn t.mask (bits h % (t.mask+1)) (bits h) r).1 - (rn t.mask (bits h % (t.mask+1)) (bits h) r).1 /\
       it t k (st t.mask (bits h % (t.mask+1)) (bits h))=it t c (st t.mask (rn t.mask (bits h % (t.mask+1)) (bits h) r).1 (rn t.mask (bits h % (t.mask+1)) (bits h) r).2):=fun k=>by
      induction k with
      | zero=>exact⟨0,0,o6 _,rfl⟩
      | succ k ih =>
       obtain⟨r,c,hc,e⟩:=ih
       rcases F9 hc with hlt | heq
       ·exact⟨r,c+1,hlt,by rw[ah9,e,<- ah9]⟩
       ·refine⟨r+1,0,o6 _,?_⟩
        rw[ah9,e,<- ah9,heq,aI8]
        rfl
     obtain⟨r,c,hc,e⟩:=key (k+1)
     rw[e,aI7 t _ _ c hc]
     have h1:=bH4 t.mask (bits h % (t.mask+1)) (bits h) (ad8 t h) r
     have h2:=aM9 h1
     have h3:=ap7 t.mask (rn t.mask (bits h % (t.mask+1)) (bits h) r).1
     show (rn t.mask (bits h % (t.mask+1)) (bits h) r).1+c<=t.mask
     omega)
 refine⟨n,by omega,hfr,hle,hocc,?_⟩
 unfold probe
 have:=aQ0 (hashAt:=hashOf es) (h:=h) n (10*turns t.mask) (t.probeStart h) (by omega) (fun k hk=>?_) (aU2 T.dum hfr)
 ·rw[this,aP7]
  rfl
 ·obtain⟨i',e⟩:=hocc k hk
  refine⟨i',ap4 T.asc e,?_⟩
  have hi:i'<es.size:=by rw[<- T.len];exact(getElem?_eq_some_iff.mp e).1
  have e2:=getElem?_pos es i' hi
  rw[X7 e2]
  exact hh _ (by simp)
theorem Tb.present {es:Array En}(T:Tb t es){e:En}(he:es[i]?=some e)(hu:∀ (k:Nat) (e':En),es[k]?=some e'->e'.1=e.1->k=i):∃ j q,t.probe (hashOf es) e.1 (t.probeStart e.1)=some (.candidate j i q):=by
 obtain⟨n,hn,hp,hocc⟩:=T.path i e he
 unfold probe
 obtain⟨m,⟨hm,i1,hi1,hs1⟩,hmin⟩:=aW5 (P:=fun m=>m<=n/\∃ i1:Nat,t.place[i1]?=some (it t m (t.probeStart e.1)).j/\hashOf es i1=e.1) ⟨n,c6 _,i,hp,X7 he⟩
 have hi2:i1<es.size:=by rw[<- T.len];exact(getElem?_eq_some_iff.mp hi1).1
 have e2:=getElem?_pos es i1 hi2
 rw[X7 e2]at hs1
 have hii:i1=i:=hu i1 _ e2 hs1
 subst hii
 obtain⟨q,hq⟩:=bb2 (hashAt:=hashOf es) (h:=e.1) (i:=i1) m (10*turns t.mask) (t.probeStart e.1) (by omega) (fun k hk=>by
  obtain⟨i',e3⟩:=hocc k (by omega)
  exact⟨i',ap4 T.asc e3,fun z=>hmin k hk ⟨by omega,i',e3,z⟩⟩) (ap4 T.asc hi1) (X7 he)
 exact⟨_,q,hq⟩
theorem get_ins {α:Type}{xs:Array α}{x:α}(hp:p<=xs.size)(i:Nat):(insertAt xs p x)[i]?=if i<p then xs[i]? else if i=p then some x else xs[i - 1]?:=by
 unfold insertAt
 have e0:((xs.extract 0 p).push x).size=p+1:=by rw[y6,C4];omega
 by_cases h1:i<p
 ·rw[if_pos h1,aS2 (by omega),Array.getElem?_push_lt (by rw[C4];omega)]
  rw[Array.getElem_extract]
  simp only[K2]
  exact(getElem?_pos xs i (by omega)).symm
 ·rw[if_neg h1]
  by_cases h2:i=p
  ·subst h2
   rw[if_pos rfl,aS2 (by omega)]
   have e1:(xs.extract 0 i).size=i:=by rw[C4];omega
   rw[Array.getElem?_push,e1,if_pos rfl]
  ·rw[if_neg h2,Array.getElem?_append_right (by omega),e0,Array.getElem?_extract]
   split
   ·congr 1;omega
   ·rw[getElem?_neg]
    omega
theorem am4 {α:Type}{xs:Array α}{x:α}(hp:p<=xs.size):(insertAt xs p x).size=xs.size+1:=by
 unfold insertAt
 rw[E8,y6,C4,C4]
 omega
theorem bC0 {α:Type}{xs:Array α}{x:α}(hp:p<=xs.size)(y:α):y∈(insertAt xs p x).toList↔y=x\/y∈xs.toList:=by
 constructor
 ·intro h
  obtain⟨i,hi⟩:=m8.mp h
  rw[b9,get_ins hp]at hi
  split at hi
  ·exact .inr (b8 (by rw[b9];exact hi))
  ·split at hi
   ·cases hi;exact .inl rfl
   ·exact .inr (b8 (by rw[b9];exact hi))
 ·rintro(rfl | h)
  ·exact b8 (i:=p) (by rw[b9,get_ins hp,if_neg (C2 _),if_pos rfl])
  ·obtain⟨i,hi⟩:=m8.mp h
   rw[b9]at hi
   have hi':i<xs.size:=(getElem?_eq_some_iff.mp hi).1
   by_cases q:i<p
   ·exact b8 (i:=i) (by rw[b9,get_ins hp,if_pos q];exact hi)
   ·exact b8 (i:=i+1) (by rw[b9,get_ins hp,if_neg (by omega),if_neg (by omega)];simpa using hi)
structure Tb' (t:SetTable) (es:Array En):Prop where
 dum:t.dummies=#[]
 len:t.place.size=es.size
 asc:Asc t.place
 bnd:∀ (i j:Nat),t.place[i]?=some j->j<=t.mask
 good:Good t.mask
 fil:es.size<=t.mask
 path:∀ (i:Nat) (e:En),es[i]?=some e->∃ n,n<10*turns t.mask/\t.place[i]?=some (it t n (t.probeStart e.1)).j/\∀ k,k<n->∃ i':Nat,t.place[i']?=some (it t k (t.probeStart e.1)).j
theorem Tb'.full {es:Array En}(T:Tb' t es)(h:es.size*5<t.mask*3):Tb t es:=⟨T.dum,T.len,T.asc,T.bnd,T.good,h,T.path⟩
theorem Tb'.fits {es:Array En}(T:Tb' t es):t.fits es.size=true:=by
 unfold SetTable.fits fill
 rw[T.dum,T.len]
 have:=T.fil
 simp
 exact this
theorem Tb'.plain {es:Array En}(T:Tb' t es)(b:Bool):Tb' { t with plain:=b } es:=by
 have e:∀ n (p:Probe),it { t with plain:=b } n p=it t n p:=fun n p=>av2 (t:=t) (t':={ t with plain:=b }) rfl n p
 refine⟨T.dum,T.len,T.asc,T.bnd,T.good,T.fil,fun i x hx=>?_⟩
 obtain⟨n,h1,h2,h3⟩:=T.path i x hx
 exact⟨n,h1,by rw[e];exact h2,fun k hk=>by rw[e];exact h3 k hk⟩
theorem Tb.put {es:Array En}(T:Tb t es){h:Int}{x:Value}(hn:n<10*turns t.mask)(hfr:∀ i:Nat,t.place[i]?≠some (it t n (t.probeStart h)).j)(hle:(it t n (t.probeStart h)).j<=t.mask)
  (hocc:∀ k,k<n->∃ i':Nat,t.place[i']?=some (it t k (t.probeStart h)).j) :
  (t.put (it t n (t.probeStart h)).j).2<=es.size/\Tb' (t.put (it t n (t.probeStart h)).j).1 (insertAt es (t.put (it t n (t.probeStart h)).j).2 (h,x)):=by
 generalize hj:(it t n (t.probeStart h)).j=j at *
 obtain⟨b1,b2,b3⟩:=aA7 T.asc j
 have hp:(t.put j).2=below t.place j:=rfl
 have hd:has t.dummies j=false:=by rw[T.dum];simp[has]
 have ht:(t.put j).1={ t with place:=insertAt t.place (below t.place j) j }:=by
  unfold SetTable.put
  dsimp only
  rw[if_neg (by rw[hd];exact d4)]
 have hm:(t.put j).1.mask=t.mask:=by rw[ht]
 have hpl:(t.put j).1.place=insertAt t.place (below t.place j) j:=by rw[ht]
 have hsz:=T.nf
 have old:∀ (i a:Nat),t.place[i]?=some a->∃ i':Nat,(insertAt t.place (below t.place j) j)[i']?=some a:=fun i a e=>by
  by_cases q:i<below t.place j
  ·exact⟨i,by rw[get_ins b1,if_pos q];exact e⟩
  ·exact⟨i+1,by rw[get_ins b1,if_neg (by omega),if_neg (by omega)];simpa using e⟩
 have hit:∀ k (p:Probe),it (t.put j).1 k p=it t k p:=fun k p=>av2 hm k p
 have hst:∀ z:Int,(t.put j).1.probeStart z=t.probeStart z:=fun z=>by rw[ad9,ad9,hm]
 refine⟨by rw[hp,<- T.len];exact b1,?_⟩
 rw[hp]
 refine⟨by rw[ht];exact T.dum,by rw[hpl,am4 b1,am4 (by rw[<- T.len];exact b1),T.len],?_,?_,by rw[hm];exact T.good,?_,?_⟩
 ·rw[hpl]
  intro i k a c hik ea ec
  rw[get_ins b1]at ea ec
  split at ea
  ·rename_i hi
   split at ec
   ·exact T.asc i k a c hik ea ec
   ·split at ec
    ·cases ec;exact b2 i a hi ea
    ·exact T.asc i (k - 1) a c (by omega) ea ec
  ·split at ea
   ·rename_i hi1 hi2
    cases ea
    rw[if_neg (by omega),if_neg (by omega)]at ec
    have h1:=b3 (k - 1) c (by omega) ec
    rcases F9 h1 with h2 | h2
    ·exact h2
    ·subst h2;exact absurd ec (hfr (k - 1))
   ·rw[if_neg (by omega),if_neg (by omega)]at ec
    exact T.asc (i - 1) (k - 1) a c (by omega) ea ec
 ·rw[hpl,hm]
  intro i a ea
  rw[get_ins b1]at ea
  split at ea
  ·exact T.bnd i a ea
  ·split at ea
   ·cases ea;exact hle
   ·exact T.bnd _ a ea
 ·rw[hm,am4 (by rw[<- T.len];exact b1)]
  have:=T.good
  unfold Good at this
  omega
 ·intro i e he
  rw[hpl,hm]
  have b1':below t.place j<=es.size:=by rw[<- T.len];exact b1
  rw[get_ins b1']at he
  have lift:∀ (i0:Nat) (i':Nat),es[i0]?=some e->(∀ a,t.place[i0]?=some a->(insertAt t.place (below t.place j) j)[i']?=some a) ->
    ∃ n,n<10*turns t.mask/\(insertAt t.place (below t.place j) j)[i']?=some (it (t.put j).1 n ((t.put j).1.probeStart e.1)).j/\∀ k,k<n->∃ i':Nat,(insertAt t.place (below t.place j) j)[i']?=some (it (t.put j).1 k ((t.put j).1.probeStart e.1)).j:=fun i0 i' h0 h1=>by
   obtain⟨n',q1,q2,q3⟩:=T.path i0 e h0
   refine⟨n',q1,?_,fun k hk=>?_⟩
   ·rw[hit,hst];exact h1 _ q2
   ·obtain⟨i2,e2⟩:=q3 k hk
    rw[hit,hst]
    exact old i2 _ e2
  split at he
  ·rename_i hi
   exact lift i i he fun a ea=>by rw[get_ins b1,if_pos hi];exact ea
  ·split at he
   ·rename_i hi1 hi2
    cases he
    refine⟨n,hn,?_,fun k hk=>?_⟩
    ·rw[hit,hst,hj,get_ins b1,if_neg hi1,if_pos hi2]
    ·obtain⟨i2,e2⟩:=hocc k hk
     rw[hit,hst]
     exact old i2 _ e2
   ·rename_i hi1 hi2
    exact lift (i - 1) i he fun a ea=>by rw[get_ins b1,if_neg hi1,if_neg hi2];exact ea
end Sett
variable {es:Array Sett.En}
namespace Sett
open PySem PySem.SetTable
theorem aH7:∀ (k n:Nat) (g:Nat->Nat),(∀ i,i<n->g i<k)->(∀ i j,i<n->j<n->g i=g j->i=j)->n<=k
 | 0,n,g,h,_=>by
  rcases Nat.eq_zero_or_pos n with e | e
  ·omega
  ·exact absurd (h 0 e) (aS6 _)
 | k+1,0,g,_,_=>o6 _
 | k+1,n+1,g,h,inj=>by
  by_cases q:∃ i0,i0<n+1/\g i0=k
  ·obtain⟨i0,h0,e0⟩:=q
   have:=aH7 k n (fun i=>if i=i0 then g n else g i) (fun i hi=>?_) (fun i j hi hj e=>?_)
   ·omega
   ·try dsimp only
    split
    ·rename_i hii
     have h1:=h n (by omega)
     have h2:g n≠k:=fun z=>by have:=inj n i0 (by omega) h0 (by rw[z,e0]);omega
     omega
    ·have h1:=h i (by omega)
     have h2:g i≠k:=fun z=>by have:=inj i i0 (by omega) h0 (by rw[z,e0]);omega
     omega
   ·try dsimp only at e
    split at e
    ·split at e
     ·omega
     ·have:=inj n j (by omega) (by omega) e;omega
    ·split at e
     ·have:=inj i n (by omega) (by omega) e;omega
     ·exact inj i j (by omega) (by omega) e
  ·have:=aH7 k (n+1) g (fun i hi=>?_) inj
   ·omega
   ·have h1:=h i hi
    have h2:g i≠k:=fun z=>q ⟨i,hi,z⟩
    omega
structure LI (t:SetTable) (hs:Array Int) (owner:Array (Option Nat)) (k:Nat):Prop where
 size:owner.size=t.mask+1
 lt:∀ (j i:Nat),owner[j]?=some (some i)->i<k
 inj:∀ (j j' i:Nat),owner[j]?=some (some i)->owner[j']?=some (some i)->j=j'
 has:∀ (i:Nat) (h:Int),i<k->hs[i]?=some h->∃ n,n<10*turns t.mask/\owner[(it t n (t.probeStart h)).j]?=some (some i)/\∀ c,c<n->∃ i':Nat,owner[(it t c (t.probeStart h)).j]?=some (some i')
theorem LI.free {hs:Array Int}{owner:Array (Option Nat)}{k:Nat}(L:LI t hs owner k)(hk:k<=t.mask):∃ b,b<=t.mask/\owner[b]?=some none:=by
 apply Classical.byContradiction
 intro z
 have all:∀ b,b<=t.mask->∃ i,owner[b]?=some (some i):=fun b hb=>by
  have e:=getElem?_pos owner b (by rw[L.size];omega)
  cases q:owner[b]'(by rw[L.size];omega) with
  | none=>rw[q]at e;exact absurd ⟨b,hb,e⟩ z
  | some i=>rw[q]at e;exact⟨i,e⟩
 have:=aH7 k (t.mask+1) (fun b=>match owner[b]? with | some (some i)=>i | _=>0) (fun b hb=>?_) (fun b b' hb hb' e=>?_)
 ·omega
 ·obtain⟨i,e⟩:=all b (by omega)
  try dsimp only
  rw[e]
  exact L.lt b i e
 ·obtain⟨i,e1⟩:=all b (by omega)
  obtain⟨i',e2⟩:=all b' (by omega)
  try dsimp only at e
  rw[e1,e2]at e
  dsimp only at e
  subst e
  exact L.inj b b' i e1 e2
theorem aE9 (t:SetTable)(owner:Array (Option Nat))(hz:owner.size=t.mask+1):∀ (fuel i pt:Nat),i<=t.mask->(∃ r,r<fuel/\∃ b,b=(rn t.mask i pt r).1/\owner[b]?=some none) ->
  ∃ n,n<10*fuel/\layClean.free t.mask owner fuel i pt=some (it t n (st t.mask i pt)).j/\owner[(it t n (st t.mask i pt)).j]?=some none/\∀ c,c<n->∃ i':Nat,owner[(it t c (st t.mask i pt)).j]?=some (some i')
 | 0,i,pt,_,⟨r,hr,_⟩=>absurd hr (aS6 _)
 | fuel+1,i,pt,hi,⟨r,hr,b,hb,hbo⟩=>by
  have h9:=ap7 t.mask i
  have hm:=aM9 hi
  unfold layClean.free
  have slotOf:∀ k,k<=runEnd t.mask i - i->(it t k (st t.mask i pt)).j=i+k:=fun k hk=>by rw[aI7 t i pt k hk]
  have getS:∀ k,k<=runEnd t.mask i - i->(owner.getD (i+k) (some 0)).isNone=false->∃ i':Nat,owner[i+k]?=some (some i'):=fun k hk e=>by
   have hlt:i+k<owner.size:=by omega
   have e1:=getElem?_pos owner (i+k) hlt
   have e2:owner.getD (i+k) (some 0)=owner[i+k]:=by simp[bI4,hlt]
   rw[e2]at e
   cases q:owner[i+k] with
   | none=>rw[q]at e;cases e
   | some i'=>rw[q]at e1;exact⟨i',e1⟩
  cases hf:(x8 (runEnd t.mask i+1 - i)).find? (fun k=>(owner.getD (i+k) (some 0)).isNone) with
  | some k =>
   dsimp only
   rw[List.find?_eq_some_iff_getElem]at hf
   obtain⟨hp,k',hk',ek,hbef⟩:=hf
   rw[G4]at hk'
   rw[ac5]at ek
   subst ek
   refine⟨k',by omega,by rw[slotOf k' (by omega)],?_,fun c hc=>?_⟩
   ·rw[slotOf k' (by omega)]
    have hlt:i+k'<owner.size:=by omega
    have e2:owner.getD (i+k') (some 0)=owner[i+k']:=by simp[bI4,hlt]
    rw[e2]at hp
    rw[getElem?_pos owner _ hlt]
    cases q:owner[i+k'] with
    | none=>rfl
    | some z=>rw[q]at hp;cases hp
   ·rw[slotOf c (by omega)]
    have:=hbef c hc
    rw[ac5]at this
    exact getS c (by omega) (by simpa using this)
  | none =>
   dsimp only
   rw[List.find?_eq_none]at hf
   have all:∀ c,c<=runEnd t.mask i - i->∃ i':Nat,owner[i+c]?=some (some i'):=fun c hc=>getS c hc (by simpa only [bT3] using hf c (y9.mpr (by omega)))
   have hr0:r≠0:=fun z=>by
    subst z
    obtain⟨i',e⟩:=all 0 (o6 _)
    have hb':b=i:=hb
    rw[hb']at hbo
    rw[aK2,hbo]at e
    cases e
   obtain⟨r',rfl⟩:∃ r',r=r'+1:=⟨r - 1,by omega⟩
   have shift:∀ r,rn t.mask (leap t.mask i pt).1 (leap t.mask i pt).2 r=rn t.mask i pt (r+1):=fun r=>by
    induction r with
    | zero=>rfl
    | succ r ih =>
     show leap t.mask _ _=leap t.mask _ _
     rw[ih]
   obtain⟨n,hn,e1,e2,e3⟩:=aE9 t owner hz fuel (leap t.mask i pt).1 (leap t.mask i pt).2 (ai1 (aG0 _ (ad5 _))) ⟨r',by omega,b,by rw[hb,shift],hbo⟩
   have sh:∀ c,it t (runEnd t.mask i - i+1+c) (st t.mask i pt)=it t c (st t.mask (leap t.mask i pt).1 (leap t.mask i pt).2):=fun c=>by rw[aI9,aI8]
   refine⟨runEnd t.mask i - i+1+n,by omega,by rw[sh];exact e1,by rw[sh];exact e2,fun c hc=>?_⟩
   by_cases q:c<=runEnd t.mask i - i
   ·rw[slotOf c q]
    exact all c q
   ·have:=e3 (c - (runEnd t.mask i - i+1)) (by omega)
    rw[<- sh,show runEnd t.mask i - i+1+(c - (runEnd t.mask i - i+1))=c by omega]at this
    exact this
theorem aP2 (t:SetTable)(g:Good t.mask)(hs:Array Int)(hsz:hs.size<=t.mask):∀ (l:List Int) (k:Nat) (owner:Array (Option Nat)),LI t hs owner k->hs.toList.drop k=l ->
  ∃ owner',(l.foldl (fun acc h=>do
   let (owner,k) <- acc
   let j <- layClean.free t.mask owner (turns t.mask) (bits h % (t.mask+1)) (bits h)
   pure (owner.setIfInBounds j (some k),k+1)) (some (owner,k)))=some (owner',k+l.length)/\LI t hs owner' (k+l.length)
 | [],k,owner,L,_=>⟨owner,rfl,L⟩
 | h::l,k,owner,L,hd=>by
  have hk:k<hs.size:=by
   apply Classical.byContradiction
   intro z
   rw[E6 (by rw[j3];omega)]at hd
   cases hd
  have hget:hs[k]?=some h:=by
   rw[<- b9]
   have:=congrArg (fun l=>l[0]?) hd
   simpa using this
  obtain⟨b,hb,hbo⟩:=L.free (by omega)
  obtain⟨r,hr,er⟩:=aZ5 g (ad8 t h) (bc1 h) hb
  obtain⟨n,hn,e1,e2,e3⟩:=aE9 t owner L.size (turns t.mask) (bits h % (t.mask+1)) (bits h) (ad8 t h) ⟨r,hr,b,er.symm,hbo⟩
  rw[<- ad9]at e1 e2 e3
  have hjs:(it t n (t.probeStart h)).j<owner.size:=(getElem?_eq_some_iff.mp e2).1
  have gs:∀ x,(owner.setIfInBounds (it t n (t.probeStart h)).j (some k))[x]?=if (it t n (t.probeStart h)).j=x then some (some k) else owner[x]?:=fun x=>by
   rw[Array.getElem?_setIfInBounds]
   split
   ·rename_i hx;subst hx;simp[hjs]
   ·rfl
  have occ:∀ (x i:Nat),owner[x]?=some (some i)->∃ i':Nat,(owner.setIfInBounds (it t n (t.probeStart h)).j (some k))[x]?=some (some i'):=fun x i e=>by
   rw[gs];split
   ·exact⟨k,rfl⟩
   ·exact⟨i,e⟩
  have L':LI t hs (owner.setIfInBounds (it t n (t.probeStart h)).j (some k)) (k+1):=by
   refine⟨by rw[aX6];exact L.size,fun j i e=>?_,fun j j' i ea ec=>?_,fun i h' hi hh=>?_⟩
   ·rw[gs]at e
    split at e
    ·cases e;omega
    ·have:=L.lt j i e;omega
   ·rw[gs]at ea ec
    split at ea
    ·rename_i q1
     cases ea
     split at ec
     ·rename_i q2;rw[<- q1,<- q2]
     ·have:=L.lt j' k ec;omega
    ·split at ec
     ·cases ec
      have:=L.lt j k ea;omega
     ·exact L.inj j j' i ea ec
   ·by_cases q:i=k
    ·subst q
     rw[hget]at hh
     cases hh
     refine⟨n,hn,by rw[gs,if_pos rfl],fun c hc=>?_⟩
     obtain⟨i',e⟩:=e3 c hc
     exact occ _ i' e
    ·obtain⟨n',q1,q2,q3⟩:=L.has i h' (by omega) hh
     refine⟨n',q1,?_,fun c hc=>?_⟩
     ·rw[gs]
      split
      ·rename_i q4
       rw[q4]at e2
       rw[e2]at q2
       cases q2
      ·exact q2
     ·obtain⟨i',e⟩:=q3 c hc
      exact occ _ i' e
  obtain⟨owner',f1,f2⟩:=aP2 t g hs hsz l (k+1) _ L' (by
   have e5:hs.toList.drop (k+1)=(hs.toList.drop k).drop 1:=by rw[aX4]
   rw[e5,hd]
   rfl)
  refine⟨owner',?_,?_⟩
  ·rw[aa2]
   have:(do
     let (owner,k) <- some (owner,k)
     let j <- layClean.free t.mask owner (turns t.mask) (bits h % (t.mask+1)) (bits h)
     pure (owner.setIfInBounds j (some k),k+1))=some (owner.setIfInBounds (it t n (t.probeStart h)).j (some k),k+1):=by
    show (layClean.free t.mask owner (turns t.mask) (bits h % (t.mask+1)) (bits h) >>= fun j=>pure (owner.setIfInBounds j (some k),k+1))=_
    rw[e1]
    rfl
   rw[this,f1,k8]
   congr 2
   omega
  ·rw[k8,show k+(l.length+1)=k+1+l.length by omega]
   exact f2
theorem bp4 {M finger moves:Nat}{led plain:Bool}(g:Good M)(hsz:es.size*5<M*3) :
  ∃ t2 order,laid M finger moves led plain (es.map (·.1))=some (t2,order)/\Tb t2 (order.filterMap (es[·]?))/\(order.filterMap (es[·]?)).toList.Perm es.toList/\order.toList.Perm (x8 es.size)/\t2.led=led/\t2.plain=plain:=by
 let t:SetTable:={ mask:=M,place:=#[],dummies:=#[],finger:=finger,led:=led,moves:=moves,plain:=plain }
 have ht:t.mask=M:=rfl
 have h0:LI t (es.map (·.1)) (Array.replicate (M+1) none) 0:=by
  refine⟨by simp[ht],fun j i e=>?_,fun j j' i e=>?_,fun i h hi=>by omega⟩
  ·rw[aX7]at e;split at e<;>cases e
  ·rw[aX7]at e;split at e<;>cases e
 obtain⟨owner,f1,L⟩:=aP2 t g (es.map (·.1)) (by rw[ac4,ht];omega) (es.map (·.1)).toList 0 _ h0 rfl
 rw[K2,j3,ac4]at f1 L
 have hlay:layClean M (es.map (·.1))=some owner:=by
  unfold layClean
  rw[<- Array.foldl_toList]
  have:(Z0 _ _ (es.map (·.1)).toList)=some (owner,es.size):=f1
  rw[this]
  rfl
 let live:List (Nat × Nat):=(x8 (M+1)).filterMap fun j=>(owner.getD j none).map (j,·)
 have hlive:∀ p:Nat × Nat,p∈live↔owner[p.1]?=some (some p.2):=fun p=>by
  obtain⟨j,i⟩:=p
  have hg:∀ j,owner.getD j none=(owner[j]?).getD none:=fun j=>by simp
  show (j,i)∈List.filterMap _ _↔_
  rw[ac3]
  constructor
  ·rintro⟨j',hj',e⟩
   rw[hg]at e
   cases q:owner[j']? with
   | none=>rw[q]at e;cases e
   | some z =>
    rw[q]at e
    cases z with
    | none=>cases e
    | some i' =>
     have e':(j',i')=(j,i):=Option.some.inj e
     cases e'
     exact q
  ·intro e
   have hj:j<owner.size:=(getElem?_eq_some_iff.mp e).1
   refine⟨j,y9.mpr (by rw[L.size,ht]at hj;exact hj),?_⟩
   rw[hg,e]
   rfl
 have hpw:live.Pairwise (fun a b=>a.1<b.1):=by
  show (List.filterMap _ _).Pairwise _
  rw[List.pairwise_filterMap]
  refine List.Pairwise.imp ?_ bi9
  intro a b hab p hp q hq
  cases h1:owner.getD a none with
  | none=>rw[h1]at hp;cases hp
  | some i =>
   cases h2:owner.getD b none with
   | none=>rw[h2]at hq;cases hq
   | some i' =>
    rw[h1]at hp
    rw[h2]at hq
    have e1:(a,i)=p:=Option.some.inj hp
    have e2:(b,i')=q:=Option.some.inj hq
    subst e1 e2
    exact hab
 have hnd:(live.map (·.2)).Nodup:=by
  unfold List.Nodup
  rw[L9]
  refine List.Pairwise.imp_of_mem ?_ hpw
  intro a b ha hb hab e
  have h1:=(hlive a).mp ha
  have h2:=(hlive b).mp hb
  rw[<- e]at h2
  have:=L.inj _ _ _ h1 h2
  omega
 have hord:(live.map (·.2)).Perm (x8 es.size):=by
  refine(List.perm_ext_iff_of_nodup hnd List.nodup_range).mpr fun i=>?_
  rw[y9,m5]
  constructor
  ·rintro⟨p,hp,rfl⟩
   exact L.lt _ _ ((hlive p).mp hp)
  ·intro hi
   obtain⟨n,_,q,_⟩:=L.has i ((es.map (·.1))[i]'(by rw[ac4];exact hi)) hi (getElem?_pos _ _ _)
   exact⟨(_,i),(hlive _).mpr q,rfl⟩
 have hlen:live.length=es.size:=by have:=hord.length_eq;simpa using this
 have hes:∀ i,i∈live.map (·.2)->∃ e,es[i]?=some e:=fun i hi=>by
  have:=hord.mem_iff.mp hi
  rw[y9]at this
  exact⟨es[i],getElem?_pos es i this⟩
 have fm:∀ (l:List Nat),(∀ i∈l,∃ e,es[i]?=some e)->(l.filterMap (es[·]?)).length=l.length/\∀ (p:Nat),(l.filterMap (es[·]?))[p]?=(l[p]?).bind (es[·]?):=fun l=>by
  induction l with
  | nil=>intro _;exact⟨rfl,fun p=>rfl⟩
  | cons a l ih =>
   intro h
   obtain⟨e,he⟩:=h a c5
   obtain⟨i1,i2⟩:=ih fun i hi=>h i (b7 _ hi)
   rw[List.filterMap_cons_some he]
   refine⟨by rw[k8,i1,k8],fun p=>?_⟩
   cases p with
   | zero=>simp[he]
   | succ p=>simpa using i2 p
 obtain⟨fl,fg⟩:=fm _ hes
 have hperm:((live.map (·.2)).filterMap (es[·]?)).Perm es.toList:=by
  refine(hord.filterMap _).trans (List.Perm.of_eq ?_)
  apply P1
  intro p
  obtain⟨_,g2⟩:=fm (x8 es.size) fun i hi=>⟨es[i]'(y9.mp hi),getElem?_pos es i (y9.mp hi)⟩
  rw[g2,show es.toList[p]?=es[p]? from b9 ..]
  by_cases hp:p<es.size
  ·rw[R6 hp];rfl
  ·rw[o9 (by simp;omega),getElem?_neg es p hp];rfl
 let t2:SetTable:={ mask:=M,place:=(live.map (·.1)).toArray,dummies:=#[],finger:=finger,led:=led,moves:=moves,plain:=plain }
 have hes':((live.map (·.2)).toArray.filterMap (es[·]?)).toList=(live.map (·.2)).filterMap (es[·]?):=by simp
 have getE:∀ (p:Nat) (e:En),((live.map (·.2)).toArray.filterMap (es[·]?))[p]?=some e->∃ j i:Nat,live[p]?=some (j,i)/\es[i]?=some e:=fun p e h=>by
  rw[<- b9,hes',fg,m9]at h
  cases q:live[p]? with
  | none=>rw[q]at h;cases h
  | some ji=>rw[q]at h;exact⟨ji.1,ji.2,rfl,h⟩
 have getP:∀ (p:Nat) (j:Nat),t2.place[p]?=some j↔∃ i,live[p]?=some (j,i):=fun p j=>by
  show (live.map (·.1)).toArray[p]?=some j↔_
  rw[List.getElem?_toArray,m9]
  cases q:live[p]? with
  | none=>simp
  | some ji =>
   obtain⟨a,b⟩:=ji
   simp
 have itE:∀ n (p:Probe),it t2 n p=it t n p:=fun n p=>av2 (t:=t) (t':=t2) rfl n p
 refine⟨t2,(live.map (·.2)).toArray,?_,?_,(by rw[hes'];exact hperm),hord,rfl,rfl⟩
 ·unfold laid
  rw[hlay]
  rfl
 ·refine⟨rfl,?_,?_,?_,g,?_,?_⟩
  ·show (live.map (·.1)).toArray.size=_
   rw[d9,a5,<- j3,hes',fl,a5]
  ·intro i j a b hij ea eb
   obtain⟨_,ea⟩:=(getP i a).mp ea
   obtain⟨_,eb⟩:=(getP j b).mp eb
   obtain⟨h1,e1⟩:=c4.mp ea
   obtain⟨h2,e2⟩:=c4.mp eb
   have:=o4.mp hpw i j h1 h2 hij
   rw[e1,e2]at this
   exact this
  ·intro i j e
   obtain⟨i',e⟩:=(getP i j).mp e
   have:=(hlive _).mp (b8 e)
   have hj:j<owner.size:=(getElem?_eq_some_iff.mp this).1
   rw[L.size]at hj
   show j<=M
   exact ai1 hj
  ·rw[<- j3,hes',fl,a5,hlen]
   exact hsz
  ·intro p e he
   obtain⟨j,i,hl,hi⟩:=getE p e he
   have ho:=(hlive _).mp (b8 hl)
   have hi':i<es.size:=(getElem?_eq_some_iff.mp hi).1
   obtain⟨n,q1,q2,q3⟩:=L.has i e.1 hi' (by rw[Array.getElem?_map,hi];rfl)
   have ej:=L.inj _ _ _ ho q2
   refine⟨n,q1,?_,fun c hc=>?_⟩
   ·rw[itE]
    exact(getP p _).mpr ⟨i,by rw[hl];congr 2⟩
   ·obtain⟨i',e'⟩:=q3 c hc
    obtain⟨p',hp'⟩:=m8.mp ((hlive (_,i')).mpr e')
    exact⟨p',by rw[itE];exact(getP p' _).mpr ⟨i',hp'⟩⟩
theorem bC4 {M finger moves:Nat}{led plain:Bool}(g:Good M)(hsz:es.size*5<M*3) :
  ∃ t2 order,laid M finger moves led plain (es.map (·.1))=some (t2,order)/\Tb t2 (order.filterMap (es[·]?))/\(order.filterMap (es[·]?)).toList.Perm es.toList:=
 let ⟨a,b,c,d,e,_⟩:=bp4 (finger:=finger) (moves:=moves) (led:=led) (plain:=plain) g hsz;⟨a,b,c,d,e⟩
end Sett
namespace Sett
open PySem PySem.SetTable PyProof.Rows
def ah5:List Nat->Nat->Bool
 | [],_=>true
 | x::l,acc=>!acc.testBit x && ah5 l (acc ||| 2 ^ x)
theorem an2:∀ (l:List Nat) (acc:Nat),ah5 l acc=true->l.Nodup/\∀ x∈l,acc.testBit x=false
 | [],_,_=>⟨List.nodup_nil,(fun _ h=>nomatch h)⟩
 | x::l,acc,h=>by
  unfold ah5 at h
  rw[m7]at h
  obtain⟨h1,h2⟩:=h
  obtain⟨n,m⟩:=an2 l _ h2
  have m':∀ y∈l,acc.testBit y=false/\x≠y:=fun y hy=>by
   have:=m y hy
   rw[Nat.testBit_or,bv1,bI3]at this
   exact⟨this.1,of_decide_eq_false this.2⟩
  refine⟨F5.mpr ⟨fun hx=>(m' x hx).2 rfl,n⟩,fun y hy=>?_⟩
  rcases d3.mp hy with rfl | hy
  ·simpa using h1
  ·exact(m' y hy).1
def hp (n:Nat):Nat:=bits (reduceHash (Builtin.Tuple.tupleHashOf [hashInt ((n / 24:Nat):Int),hashInt ((n % 24:Nat):Int)])) % 3708
set_option maxRecDepth 100000 in
theorem bQ3:ah5 ((x8 576).map hp) 0=true:=by decide +kernel
theorem bQ2 {a b:Nat}(ha:a<576)(hb:b<576)(h:hp a=hp b):a=b:=by
 have:=(an2 _ _ bQ3).1
 unfold List.Nodup at this
 rw[L9]at this
 rw[o4]at this
 rcases V4 a b with q | q | q
 ·have:=this a b (by simpa using ha) (by simpa using hb) q
  simp only[ac5]at this
  exact absurd h this
 ·exact q
 ·have:=this b a (by simpa using hb) (by simpa using ha) q
  simp only[ac5]at this
  exact absurd h.symm this
def at5 (ks:List Int):Prop:=∃ i j:Nat,i<24/\j<24/\ks=[(i:Int),(j:Int)]
theorem aP8 {k':List Int}(h1:at5 k)(h2:at5 k')(e:p5 (y7 prog w) k=p5 (y7 prog w) k'):k=k':=by
 obtain⟨i,j,hi,hj,rfl⟩:=h1
 obtain⟨i',j',hi',hj',rfl⟩:=h2
 have e2:hp (24*i+j)=hp (24*i'+j'):=by
  unfold hp
  rw[show (24*i+j) / 24=i by omega,show (24*i+j) % 24=j by omega,show (24*i'+j') / 24=i' by omega,show (24*i'+j') % 24=j' by omega]
  exact congrArg (fun z=>bits z % 3708) e
 have:=bQ2 (by omega) (by omega) e2
 have h3:i=i':=by omega
 have h4:j=j':=by omega
 rw[h3,h4]
def ai3 (prog:Program)(w:World)(h:Heap)(k:List Int)(e:En):Prop:=∃ a,e.2=.ref a/\G1 (y7 prog w) h k a/\e.1=p5 (y7 prog w) k
def au2 (prog:Program)(w:World)(hk h:Heap)(S:Addr)(ks:List (List Int)):Prop:=
 ∃ o es ep t,h.get? S=some o/\o.ExactSet/\o.data=.set es ep t/\Tb t es/\es.size=ks.length/\ks.Nodup/\(∀ k∈ks,at5 k)/\(∀ k∈ks,∃ e∈es.toList,ai3 prog w hk k e)/\∀ e∈es.toList,∃ k∈ks,ai3 prog w hk k e
theorem bp8 (x:G1 (y7 prog w) h k a)(hs:∀ b o,h.get? b=some o->h'.get? b=some o):G1 (y7 prog w) h' k a:=by
 obtain⟨o,items,n,h2,h3⟩:=x
 exact⟨o,items,n,hs a o h2,h3⟩
theorem ai3.up {e:En}(x:ai3 prog w h k e)(hs:∀ b o,h.get? b=some o->h'.get? b=some o):ai3 prog w h' k e:=by
 obtain⟨a,h1,h2,h6⟩:=x
 exact⟨a,h1,bp8 h2 hs,h6⟩
theorem ai3.inj {k':List Int}{e:En}(x:ai3 prog w h k e)(y:ai3 prog w h k' e):k=k':=by
 obtain⟨a,h1,h2,_⟩:=x
 obtain⟨b,h3,h4,_⟩:=y
 rw[h1]at h3
 cases h3
 exact h2.inj h4
theorem aW9 (x:Addr)(es:Array En):byScan (.ref x) es=false:=by
 unfold byScan Value.scannable
 rfl
theorem aq5 {x:Addr}{Q:Bool->Shared->Prop}(hx:G1 (y7 prog w) s.heap k x)(h:Q true s):r6 (o7 prog w) A (bd5 8 (.ref x)) Q E s:=by
 have hT:=hx.typeIs
 obtain⟨o,items,n,ho,hc,hd,hi⟩:=hx
 unfold bd5
 refine a7 (wpAny_specialOf hT F.slot_tuple_hash.lookup ?_)
 dsimp only
 refine a7 (aB5 ho hd ?_)
 show r6 _ _ (forIn items _ _ >>= _) _ _ s
 rw[<- ac0]
 have hv:∀ v∈items.toList,∃ i t,v=.int i t:=fun v hv=>by
  clear ho hd
  generalize items.toList=l at hi hv
  induction hi with
  | nil=>cases hv
  | cons h1 _ ih =>
   rcases d3.mp hv with rfl | hv
   ·obtain⟨t,e⟩:=Value.isInt_shape h1
    exact⟨_,t,e⟩
   ·exact ih hv
 refine a7 (ao6 _ (fun rest r s'=>r.1=none/\s'=s/\∀ v∈rest,∃ i t,v=.int i t) _ ?_ ?_ _ _ ⟨rfl,rfl,hv⟩)
 ·rintro v rest r s' ⟨hr,rfl,hall⟩
  obtain⟨i,t,rfl⟩:=hall v c5
  have e:bd5 7 (.int i t)=pure true:=by unfold bd5;rfl
  rw[e]
  refine a7 (i8 ?_)
  simp only[P2,l9,if_false]
  exact i8 ⟨rfl,rfl,fun u hu'=>hall u (b7 _ hu')⟩
 ·rintro⟨r1,r2⟩ s' ⟨hr,rfl,_⟩
  simp only at hr
  subst hr
  exact i8 h
theorem aC6 {S x:Addr}{o:Obj}{ep:Nat}{h:Int}{Q:SetFound->Shared->Prop}(ho:s.heap.get? S=some o)(hd:o.data=.set es ep t)(T:Tb t es)(hh:∀ e∈es.toList,e.1≠h)
  (hq:∀ n,n<10*turns t.mask->(∀ i:Nat,t.place[i]?≠some (it t n (t.probeStart h)).j)->(it t n (t.probeStart h)).j<=t.mask->(∀ k,k<n->∃ i':Nat,t.place[i']?=some (it t k (t.probeStart h)).j)->Q (.free (it t n (t.probeStart h)).j false) s) :
  r6 (o7 prog w) A (bJ3 S (.ref x) h true) Q E s:=by
 obtain⟨n,h1,h2,h3,h4,h5⟩:=T.absent hh
 unfold bJ3 aG3
 refine a7 (Q3 ho hd T.fits ?_)
 dsimp only
 rw[T.odd]
 simp only[l9,if_false]
 split
 ·rename_i met hm
  have e:=hm.symm.trans h5
  cases e
  exact i8 (hq n h1 h2 h3 h4)
 ·rename_i hm
  exact absurd h5 (fun z=>hm _ z)
theorem aR2 {x:Addr}{Q:Bool->Shared->Prop}(hx:G1 (y7 prog w) s.heap k x)(h:Q false s):r6 (o7 prog w) A (aj8 8 (.ref x)) Q E s:=by
 have hT:=hx.typeIs
 obtain⟨o,items,n,ho,hc,hd,hi⟩:=hx
 unfold aj8
 refine a7 (wpAny_typeOf hT ?_)
 dsimp only
 rw[if_pos (by decide)]
 refine a7 (i8 ?_)
 simp only[P2,l9,if_false]
 refine a7 (aB5 ho hd ?_)
 dsimp only
 rw[<- ac0]
 have hv:∀ v∈items.toList,∃ i t,v=.int i t:=fun v hv=>by
  clear ho hd
  generalize items.toList=l at hi hv
  induction hi with
  | nil=>cases hv
  | cons h1 _ ih =>
   rcases d3.mp hv with rfl | hv
   ·obtain⟨t,e⟩:=Value.isInt_shape h1
    exact⟨_,t,e⟩
   ·exact ih hv
 refine a7 (ao6 _ (fun rest r s'=>r.1=none/\s'=s/\∀ v∈rest,∃ i t,v=.int i t) _ ?_ ?_ _ _ ⟨rfl,rfl,hv⟩)
 ·rintro v rest r s' ⟨hr,rfl,hall⟩
  obtain⟨i,t,rfl⟩:=hall v c5
  have e:aj8 7 (.int i t)=pure false:=by unfold aj8;rfl
  rw[e]
  refine a7 (i8 ?_)
  simp only[l9,if_false]
  exact i8 ⟨rfl,rfl,fun u hu'=>hall u (b7 _ hu')⟩
 ·rintro⟨r1,r2⟩ s' ⟨hr,rfl,_⟩
  simp only at hr
  subst hr
  exact i8 h
theorem bK1 {x:Addr}{l:List Value}{Q:Bool->Shared->Prop}(hx:G1 (y7 prog w) s.heap k x)(hl:∀ v∈l,∃ a k',v=.ref a/\G1 (y7 prog w) s.heap k' a)(h:Q false s) :
  r6 (o7 prog w) A (searchCouldBeSeen (.ref x) l) Q E s:=by
 unfold searchCouldBeSeen
 refine a7 (ao6 _ (fun rest r s'=>r.1=none/\s'=s/\∀ v∈rest,∃ a k',v=.ref a/\G1 (y7 prog w) s.heap k' a) _ ?_ ?_ _ _ ⟨rfl,rfl,hl⟩)
 ·rintro v rest r s' ⟨hr,rfl,hall⟩
  obtain⟨a,k',rfl,ha⟩:=hall v c5
  have hrest:∀ v∈rest,∃ a k',v=.ref a/\G1 (y7 prog w) s'.heap k' a:=fun u hu'=>hall u (b7 _ hu')
  dsimp only
  split
  ·exact i8 ⟨rfl,rfl,hrest⟩
  ·refine a7 (bJ4 hx ?_)
   simp only[P2,l9,if_false]
   refine a7 (bJ4 ha ?_)
   simp only[P2,l9,if_false]
   refine a7 (aR2 hx ?_)
   simp only[l9,if_false]
   refine a7 (aR2 ha ?_)
   simp only[l9,if_false]
   exact i8 ⟨rfl,rfl,hrest⟩
 ·rintro⟨r1,r2⟩ s' ⟨hr,rfl,_⟩
  simp only at hr
  subst hr
  exact i8 h
theorem aw9 {S x:Addr}{o:Obj}{ep:Nat}{e:En}{Q:SetFound->Shared->Prop}(hu:A.units<al9)(ho:s.heap.get? S=some o)(hd:o.data=.set es ep t)(T:Tb t es)
  (hx:G1 (y7 prog w) s.heap k x)(he:es[i]?=some e)(hk:ai3 prog w s.heap k e)(hall:∀ e∈es.toList,∃ k,ai3 prog w s.heap k e)(huq:∀ (c:Nat) (e':En),es[c]?=some e'->e'.1=e.1->c=i)
  (hq:Q (.there none) s):r6 (o7 prog w) A (bJ3 S (.ref x) (p5 (y7 prog w) k) true) Q E s:=by
 obtain⟨y,hy1,hy2,hy3⟩:=hk
 obtain⟨j,q,hp⟩:=T.present he huq
 rw[hy3]at hp
 unfold bJ3 aG3
 refine a7 (Q3 ho hd T.fits ?_)
 dsimp only
 rw[T.odd]
 simp only[l9,if_false]
 have fin:r6 (o7 prog w) A (do
   let some (_,y):=es[i]? | ac9 "internal:set-entry"
   let equal <- bc7 [y] (eqBool y (.ref x))
   let (es',_,t') <- setState S
   if true && equal then return .there none
   let some same:=t'.sameMemory t.moves t.mask | ac9 "set.changed-during-lookup:is-the-new-block-at-the-old-address"
   let still <- match (if same then t'.slot j else .empty) with
    | .live i'=>match es'[i']? with
     | some (_,y')=>do pure (if <- isSame y' y then some i' else none)
     | none=>pure none
    | _=>pure none
   match still with
   | none=>rule "set.search.anew";aG3 S (.ref x) (p5 (y7 prog w) k) true 99999 none
   | some i'=>if equal then return .there (some i') else aG3 S (.ref x) (p5 (y7 prog w) k) true 99999 (some q)) Q E s:=by
  rw[he]
  obtain⟨e1,e2⟩:=e
  have hy1:e2=.ref y:=hy1
  subst hy1
  dsimp only
  refine a7 (D9 (wpAny_eqBool_tuple hu hy2 hx ?_))
  refine a7 (Q3 ho hd T.fits ?_)
  dsimp only
  rw[decide_eq_true rfl]
  simp only[Bool.and_self,if_true]
  exact i8 hq
 split
 ·rename_i met hm
  have e9:=hm.symm.trans hp
  cases e9
  dsimp only
  cases hled:t.led with
  | true =>
   simp only[P2,l9,if_false]
   exact fin
  | false =>
   simp only[aX8,if_true]
   refine a7 (bK1 hx (fun v hv=>?_) ?_)
   ·rw[m5]at hv
    obtain⟨e',he',rfl⟩:=hv
    have he'':e'∈es.toList:=by
     have:=Array.mem_filter.mp (ao8.mp he')
     exact ao8.mpr this.1
    obtain⟨k',a,h1,h2,_⟩:=hall e' he''
    exact⟨a,k',h1,h2⟩
   ·simp only[l9,if_false]
    exact fin
 ·rename_i hm
  exact absurd hp (fun z=>hm _ z)
theorem thr {m:Nat}(g:Good m)(h1:n*5<m*3)(h2:m*3<=(n+1)*5)(h3:n<300):(m=7/\n+1=5)\/(m=31/\n+1=19)\/(m=127/\n+1=77):=by
 rcases g with rfl | rfl | rfl | rfl<;>omega
theorem aW2 {m:Nat}(g:Good m)(h1:n*5<m*3)(h2:m*3<=(n+1)*5)(h3:n<300):Good (sizeAbove (grown (n+1)) - 1)/\(n+1)*5<(sizeAbove (grown (n+1)) - 1)*3/\sizeAbove (grown (n+1))<=4096:=by
 rcases thr g h1 h2 h3 with⟨_,e⟩ | ⟨_,e⟩ | ⟨_,e⟩<;>rw[e]<;>refine⟨?_,by decide +kernel,by decide +kernel⟩
 ·exact .inr (.inl (by decide +kernel))
 ·exact .inr (.inr (.inl (by decide +kernel)))
 ·exact .inr (.inr (.inr (by decide +kernel)))
theorem bx0 (T:Tb' t es):t.tooFull=decide (t.mask*3<=es.size*5):=by
 unfold tooFull PySem.SetTable.fill
 rw[T.dum,T.len]
 rfl
theorem stored {S:Addr}{o:Obj}{es':Array En}{ep:Nat}{t':SetTable}(ho:h.get? S=some o)(hd:o.data=.set es ep t) :
  (h.update S (Obj.putSet es' t')).get? S=some { o with data:=.set es' (ep+1) t' }:=by
 have:=W0 (Obj.putSet es' t') ho (by rw[putSet_of es' t' hd];rfl)
 rw[putSet_of es' t' hd]at this
 exact this
theorem aM2 {S x:Addr}{Q:Bool->Shared->Prop}{hp:Heap}(hup:∀ b o,hp.get? b=some o->s.heap.get? b=some o)(hu:A.units<al9)(hS:au2 prog w hp s.heap S ks)(hx0:G1 (y7 prog w) hp k x)(hk:at5 k)(hn:ks.length<300)
  (hq:∀ (b:Bool) (h':Heap) (tk:Nat),s.toks<=tk->Heap.SameBut S s.heap h'->au2 prog w hp h' S (if k∈ks then ks else k::ks)->Q b { s with heap:=h',toks:=tk }) :
  r6 (o7 prog w) A (setAdd S (.ref x)) Q E s:=by
 have hx:=bp8 hx0 hup
 unfold setAdd
 refine D9 (a7 (wpAny_pyHash_tuple hu hx ?_))
 obtain⟨o,es,ep,t,ho,hex,hd,T,hsz,hnd,hok,hto,hfrom⟩:=hS
 unfold setAddHashed
 refine D9 ?_
 unfold setAddHashedIn
 refine a7 (Q3 (s:={ s with toks:=s.toks+(k.length+1) }) ho hd T.fits ?_)
 dsimp only
 rw[aW9]
 simp only[l9,if_false]
 by_cases hmem:k∈ks
 ·-- it is there
  obtain⟨e,he,hek⟩:=hto k hmem
  obtain⟨i,hi⟩:=m8.mp he
  rw[b9]at hi
  have huq:∀ (c:Nat) (e':En),es[c]?=some e'->e'.1=e.1->c=i:=fun c e' hc hh=>by
   apply Classical.byContradiction
   intro hci
   have hkey:∀ (c:Nat),c<es.size->∃ kk,kk∈ks/\∃ e,es[c]?=some e/\ai3 prog w hp kk e:=fun c hc=>by
    have e:=getElem?_pos es c hc
    obtain⟨kk,h1,h2⟩:=hfrom es[c] (by simp)
    exact⟨kk,h1,_,e,h2⟩
   have e'k:ai3 prog w hp k e':=by
    obtain⟨kk,h1,h2⟩:=hfrom e' (b8 (by rw[b9];exact hc))
    have h3:=h2
    obtain⟨_,_,_,h4⟩:=h2
    have h5:=hek
    obtain⟨_,_,_,h6⟩:=h5
    have:kk=k:=aP8 (prog:=prog) (w:=w) (hok kk h1) hk (by rw[<- h4,hh,h6])
    rw[<- this]
    exact h3
   have hch:∀ n,n<ks.length->∃ c,c<es.size/\∃ e,es[c]?=some e/\∃ kk,ks[n]?=some kk/\ai3 prog w hp kk e:=fun n hn'=>by
    obtain⟨e,he,hek⟩:=hto ks[n] (R4 hn')
    obtain⟨c,hc⟩:=m8.mp he
    rw[b9]at hc
    exact⟨c,(getElem?_eq_some_iff.mp hc).1,e,hc,ks[n],g9 hn',hek⟩
   have:=aH7 (es.size - 1) ks.length (fun n=>if hn':n<ks.length then (let c0:=Classical.choose (hch n hn');let c1:=if c0=c then i else c0;if c1<c then c1 else c1 - 1) else 0) ?_ ?_
   ·have hc':=(getElem?_eq_some_iff.mp hc).1
    omega
   ·intro n hn'
    dsimp only
    rw[dif_pos hn']
    have hp:=Classical.choose_spec (hch n hn')
    generalize Classical.choose (hch n hn')=c0 at hp
    obtain⟨p1,_⟩:=hp
    have hc':=(getElem?_eq_some_iff.mp hc).1
    have hi':=(getElem?_eq_some_iff.mp hi).1
    split<;>split<;>omega
   ·intro n n' hn1 hn2 eqn
    dsimp only at eqn
    rw[dif_pos hn1,dif_pos hn2]at eqn
    have hp:=Classical.choose_spec (hch n hn1)
    have hp':=Classical.choose_spec (hch n' hn2)
    generalize Classical.choose (hch n hn1)=c0 at hp eqn
    generalize Classical.choose (hch n' hn2)=c0' at hp' eqn
    obtain⟨p1,e1,p2,kk,p3,p4⟩:=hp
    obtain⟨p1',e1',p2',kk',p3',p4'⟩:=hp'
    have same:kk=kk':=by
     have r1:ai3 prog w hp kk (if c0=c then e else e1):=by
      split
      ·rename_i hcc
       subst hcc
       rw[hc]at p2
       cases p2
       have:=p4.inj e'k
       rw[this]
       exact hek
      ·exact p4
     have r2:ai3 prog w hp kk' (if c0'=c then e else e1'):=by
      split
      ·rename_i hcc
       subst hcc
       rw[hc]at p2'
       cases p2'
       have:=p4'.inj e'k
       rw[this]
       exact hek
      ·exact p4'
     have g1:es[if c0=c then i else c0]?=some (if c0=c then e else e1):=by split<;>assumption
     have g2:es[if c0'=c then i else c0']?=some (if c0'=c then e else e1'):=by split<;>assumption
     have ne1:(if c0=c then i else c0)≠c:=by split<;>omega
     have ne2:(if c0'=c then i else c0')≠c:=by split<;>omega
     have eqc:(if c0=c then i else c0)=(if c0'=c then i else c0'):=by
      generalize (if c0=c then i else c0)=u at eqn ne1
      generalize (if c0'=c then i else c0')=v at eqn ne2
      split at eqn<;>split at eqn<;>omega
     rw[eqc,g2]at g1
     rw[<- Option.some.inj g1]at r1
     exact r1.inj r2
    subst same
    obtain⟨q1,q2⟩:=c4.mp p3
    obtain⟨q3,q4⟩:=c4.mp p3'
    rcases V4 n n' with z | z | z
    ·exact absurd (q2.trans q4.symm) (o4.mp hnd n n' q1 q3 z)
    ·exact z
    ·exact absurd (q4.trans q2.symm) (o4.mp hnd n' n q3 q1 z)
  refine a7 (aw9 (s:={ s with toks:=s.toks+(k.length+1) }) hu ho hd T hx hi (hek.up hup) (fun e he=>?_) huq ?_)
  ·obtain⟨kk,_,h2⟩:=hfrom e he
   exact⟨kk,h2.up hup⟩
  ·refine i8 ?_
   have:=hq false s.heap (s.toks+(k.length+1)) (al6 _ _) (Heap.SameBut.refl S s.heap)
   rw[if_pos hmem]at this
   exact this ⟨o,es,ep,t,ho,hex,hd,T,hsz,hnd,hok,hto,hfrom⟩
 ·-- it is new
  have hh:∀ e∈es.toList,e.1≠p5 (y7 prog w) k:=fun e he z=>by
   obtain⟨kk,h1,h2⟩:=hfrom e he
   obtain⟨_,_,_,h4⟩:=h2
   have:kk=k:=aP8 (prog:=prog) (w:=w) (hok kk h1) hk (by rw[<- h4,z])
   exact hmem (this ▸ h1)
  refine a7 (aC6 (s:={ s with toks:=s.toks+(k.length+1) }) ho hd T hh fun n hn1 hfr hle hocc=>?_)
  dsimp only
  refine a7 (Q3 (s:={ s with toks:=s.toks+(k.length+1) }) ho hd T.fits ?_)
  dsimp only
  obtain⟨hp1,T1⟩:=T.put (h:=p5 (y7 prog w) k) (x:=Value.ref x) hn1 hfr hle hocc
  generalize hpt:t.put (it t n (t.probeStart (p5 (y7 prog w) k))).j=tp at hp1 T1 ⊢
  have hled:tp.1.mask=t.mask:=by
   rw[<- hpt]
   unfold SetTable.put
   rfl
  obtain⟨t1,p⟩:=tp
  dsimp only at hp1 T1 hled ⊢
  have hsz1:(insertAt es p (p5 (y7 prog w) k,Value.ref x)).size=es.size+1:=am4 hp1
  have fits1:(insertAt es p (p5 (y7 prog w) k,Value.ref x)).size<=f6:=by rw[hsz1,hsz,r9];omega
  have made:∀ (h':Heap) (o':Obj) (es':Array En) (ep':Nat) (t':SetTable),Heap.SameBut S s.heap h'->h'.get? S=some o'->o'.ExactSet->o'.data=.set es' ep' t'->Tb t' es' ->
    es'.toList.Perm (insertAt es p (p5 (y7 prog w) k,Value.ref x)).toList->au2 prog w hp h' S (k::ks):=fun h' o' es' ep' t' hsb ho' hex' hd' T' hpm=>by
   have hmemE:∀ e,e∈es'.toList↔e=(p5 (y7 prog w) k,Value.ref x)\/e∈es.toList:=fun e=>by rw[hpm.mem_iff];exact bC0 hp1 e
   have hnew:ai3 prog w hp k (p5 (y7 prog w) k,Value.ref x):=⟨x,rfl,hx0,rfl⟩
   refine⟨o',es',ep',t',ho',hex',hd',T',?_,F5.mpr ⟨hmem,hnd⟩,fun kk hkk=>?_,fun kk hkk=>?_,fun e he=>?_⟩
   ·have:=hpm.length_eq
    rw[j3,j3,hsz1,hsz]at this
    rw[this,k8]
   ·rcases d3.mp hkk with rfl | hkk
    ·exact hk
    ·exact hok kk hkk
   ·rcases d3.mp hkk with rfl | hkk
    ·exact⟨_,(hmemE _).mpr (.inl rfl),hnew⟩
    ·obtain⟨e,he,hek⟩:=hto kk hkk
     exact⟨e,(hmemE e).mpr (.inr he),hek⟩
   ·rcases(hmemE e).mp he with rfl | he
    ·exact⟨k,c5,hnew⟩
    ·obtain⟨kk,h1,h2⟩:=hfrom e he
     exact⟨kk,b7 _ h1,h2⟩
  have rest:∀ b:Bool,r6 (o7 prog w) A (do
    storeSet S (insertAt es p (p5 (y7 prog w) k,Value.ref x)) (if b=true then t1 else { t1 with plain:=false })
    if (!false && (if b=true then t1 else { t1 with plain:=false }).tooFull)=true then do
     setRelay S (grown (es.size+1))
     pure true
    else pure true) Q E { s with toks:=s.toks+(k.length+1) }:=fun b=>by
   have T2:Tb' (if b=true then t1 else { t1 with plain:=false }) (insertAt es p (p5 (y7 prog w) k,Value.ref x)):=by
    split
    ·exact T1
    ·exact T1.plain false
   have hm2:(if b=true then t1 else { t1 with plain:=false }).mask=t.mask:=by split<;>exact hled
   generalize (if b=true then t1 else { t1 with plain:=false })=t2 at T2 hm2
   refine a7 (wpAny_storeSet_of (s:={ s with toks:=s.toks+(k.length+1) }) ho hd ?_ fits1)
   have ho1:=stored (es':=insertAt es p (p5 (y7 prog w) k,Value.ref x)) (t':=t2) ho hd
   have hsb1:=Heap.SameBut.update s.heap S (Obj.putSet (insertAt es p (p5 (y7 prog w) k,Value.ref x)) t2)
   rw[bx0 T2]
   simp only[aX8,P3,decide_eq_true_eq]
   by_cases hful:t2.mask*3<=(insertAt es p (p5 (y7 prog w) k,Value.ref x)).size*5
   ·rw[if_pos hful]
    rw[hsz1,hm2]at hful
    obtain⟨g1,g2,g3⟩:=aW2 T.good T.nf hful (by rw[hsz];exact hn)
    unfold setRelay
    refine a7 (a7 (Q3 (s:={ s with heap:=s.heap.update S (Obj.putSet (insertAt es p (p5 (y7 prog w) k,Value.ref x)) t2),toks:=s.toks+(k.length+1) }) ho1 rfl T2.fits ?_))
    dsimp only
    rw[if_neg (by rw[r9];omega)]
    obtain⟨t3,order,hl3,T3,hpm3⟩:=bC4 (M:=sizeAbove (grown (es.size+1)) - 1) (finger:=t2.finger) (moves:=t2.movedTo (sizeAbove (grown (es.size+1)) - 1)) (led:=t2.led) (plain:=t2.plain) (es:=insertAt es p (p5 (y7 prog w) k,Value.ref x)) g1 (by rw[hsz1];exact g2)
    have hrel:t2.relaid ((insertAt es p (p5 (y7 prog w) k,Value.ref x)).map (·.1)) (grown (es.size+1))=some (t3,order):=by
     unfold relaid
     exact hl3
    rw[hrel]
    have hsz3:(order.filterMap ((insertAt es p (p5 (y7 prog w) k,Value.ref x))[·]?)).size=(insertAt es p (p5 (y7 prog w) k,Value.ref x)).size:=by
     rw[<- j3,hpm3.length_eq,j3]
    refine a7 ?_
    show r6 _ _ (if ((order.filterMap ((insertAt es p (p5 (y7 prog w) k,Value.ref x))[·]?)).size != (insertAt es p (p5 (y7 prog w) k,Value.ref x)).size)=true then _ else _) _ _ _
    rw[if_neg (by rw[hsz3];simp)]
    first | refine i8 ?_ | refine a7 (i8 (i8 ?_))
    dsimp only
    refine wpAny_storeSet_of (s:={ s with heap:=s.heap.update S (Obj.putSet (insertAt es p (p5 (y7 prog w) k,Value.ref x)) t2),toks:=s.toks+(k.length+1) }) ho1 rfl ?_ (by rw[hsz3];exact fits1)
    refine i8 ?_
    have ho2:=stored (es':=order.filterMap ((insertAt es p (p5 (y7 prog w) k,Value.ref x))[·]?)) (t':=t3) ho1 rfl
    have hsb2:=hsb1.trans (Heap.SameBut.update _ S (Obj.putSet (order.filterMap ((insertAt es p (p5 (y7 prog w) k,Value.ref x))[·]?)) t3))
    have:=hq true _ (s.toks+(k.length+1)) (al6 _ _) hsb2
    rw[if_neg hmem]at this
    exact this (made _ _ _ _ _ hsb2 ho2 hex rfl T3 hpm3)
   ·rw[if_neg hful]
    refine i8 ?_
    have:=hq true _ (s.toks+(k.length+1)) (al6 _ _) hsb1
    rw[if_neg hmem]at this
    exact this (made _ _ _ _ _ hsb1 ho1 hex rfl (T2.full (by omega)) (List.Perm.refl _))
  cases hpl:t1.plain with
  | true =>
   rw[if_pos rfl]
   refine a7 (aq5 (s:={ s with toks:=s.toks+(k.length+1) }) hx ?_)
   exact rest true
  | false =>
   rw[if_neg d4]
   refine a7 (i8 ?_)
   exact rest true
def U8 (ks:List (List Int))(k:List Int):List (List Int):=if k∈ks then ks else k::ks
theorem bq7 (ks:List (List Int))(k:List Int):(U8 ks k).length<=ks.length+1:=by unfold U8;split<;>simp
theorem av5:∀ (l ks:List (List Int)),(l.foldl U8 ks).length<=ks.length+l.length
 | [],ks=>by simp
 | k::l,ks=>by
  rw[aa2]
  have h1:=av5 l (U8 ks k)
  have h2:=bq7 ks k
  rw[k8]
  omega
theorem aq6:∀ (l ks:List (List Int)),(l.foldl U8 ks).length=ks.length+l.length↔l.Nodup/\∀ x∈l,x∉ks
 | [],ks=>by simp
 | k::l,ks=>by
  rw[aa2,k8,F5]
  by_cases h:k∈ks
  ·have e:U8 ks k=ks:=by unfold U8;rw[if_pos h]
   rw[e]
   have:=av5 l ks
   constructor
   ·intro q;omega
   ·rintro⟨_,q⟩
    exact absurd h (q k c5)
  ·have e:U8 ks k=k::ks:=by unfold U8;rw[if_neg h]
   rw[e]
   have:=aq6 l (k::ks)
   rw[k8]at this
   constructor
   ·intro q
    obtain⟨q1,q2⟩:=this.mp (by omega)
    refine⟨⟨fun hk=>q2 k hk c5,q1⟩,fun x hx=>?_⟩
    rcases d3.mp hx with rfl | hx
    ·exact h
    ·exact fun z=>q2 x hx (b7 _ z)
   ·rintro⟨⟨q1,q2⟩,q3⟩
    have:=this.mpr ⟨q2,fun x hx z=>by
     rcases d3.mp z with rfl | z
     ·exact q1 hx
     ·exact q3 x (b7 _ hx) z⟩
    omega
theorem aL4 {R:Result->Shared->Prop}{I:Addr}{wr:List Addr}{G:Array bv6->Array bv6->Prop}{P:Nat->Value->Prop}{St:Nat->Shared->Prop}
  (W:WalksS prog w A.in1 I fp wr G n P St)(hu:A.in1.units<al9)(S:Addr)(hSf:S∉fp)(hp:Heap)(hS0:hp.get? S=none)(hw0:∀ b∈wr,hp.get? b=none)(keys:List (List Int))(hn:keys.length=n)(hb:n<300)
  (hkey:∀ i v,P i v->∃ x k,v=.ref x/\keys[i]?=some k/\at5 k/\G1 (y7 prog w) hp k x) :
  ∀ (c i:Nat) (s:Shared),n - i=c->i<=n->St i s->(∀ b o,hp.get? b=some o->s.heap.get? b=some o)->au2 prog w hp s.heap S ((keys.take i).foldl U8 []) ->
   (∀ s',Moved (S::wr) G s s'->au2 prog w hp s'.heap S (keys.foldl U8 [])->R (.ok (.ret .none)) s') ->
   aB9 (o7 prog w) A (.builtin "set.update.loop" ⟨[.ref S,.ref I],[]⟩) R s:=by
 have hSw:S∉wr:=fun h=>hSf (W.sub _ h)
 have hsub:∀ b∈wr,b∈S::wr:=fun b hb=>b7 _ hb
 have nw:∀ b o,hp.get? b=some o->b∉wr:=fun b o e hm=>by rw[hw0 b hm]at e;cases e
 have nS:∀ b o,hp.get? b=some o->b≠S:=fun b o e hm=>by rw[hm,hS0]at e;cases e
 have setKept:∀ {s s':Shared} {ks:List (List Int)},au2 prog w hp s.heap S ks->(∀ b o,b∉wr->s.heap.get? b=some o->s'.heap.get? b=some o)->au2 prog w hp s'.heap S ks:=fun {s s' ks} hS hk=>by
  obtain⟨o,es,ep,t,ho,rest⟩:=hS
  exact⟨o,es,ep,t,hk S o hSw ho,rest⟩
 intro c
 induction c with
 | zero =>
  intro i s hk hi hst hup hS hR
  have hin:i=n:=by omega
  subst hin
  refine ad0 PyProof.Rows.F.entry_set_update_loop ?_
  rw[Around.under_plainId PyProof.Rows.F.plain_set_update_loop _]
  show r6 _ A.in1 (pyNext (.ref I) >>= _) _ _ s
  refine a7 (W.done s _ _ hst fun s' hm=>?_)
  show r6 _ A.in1 (ret Value.none) _ _ s'
  refine i8 (hR s' (hm.mono hsub) ?_)
  have:=setKept hS hm.heap
  rw[j5 (by omega)]at this
  exact this
 | succ c ih =>
  intro i s hk hi hst hup hS hR
  have hlt:i<n:=by omega
  refine ad0 PyProof.Rows.F.entry_set_update_loop ?_
  rw[Around.under_plainId PyProof.Rows.F.plain_set_update_loop _]
  show r6 _ A.in1 (pyNext (.ref I) >>= _) _ _ s
  refine a7 (W.item i s _ _ hlt hst fun v s' hP hst' hm=>?_)
  obtain⟨x,k,rfl,hki,hok,hx⟩:=hkey i v hP
  have hup':∀ b o,hp.get? b=some o->s'.heap.get? b=some o:=fun b o e=>hm.heap b o (nw b o e) (hup b o e)
  have hS':=setKept (s':=s') hS hm.heap
  show r6 _ A.in1 (bc7 [Value.ref x] (setAdd S (.ref x)) >>= _) _ _ s'
  refine a7 (D9 ?_)
  have hlen:((keys.take i).foldl U8 []).length<300:=by
   have:=av5 (keys.take i) []
   rw[l6]at this
   simp only[aa1]at this
   omega
  refine aM2 hup' hu hS' hx hok hlen fun b h' tk htk hsb hS2=>?_
  have hS3:au2 prog w hp h' S ((keys.take (i+1)).foldl U8 []):=by
   rw[o5,hki,List.foldl_append]
   exact hS2
  refine i8 ⟨plainId_quiet PyProof.Rows.F.plain_set_update_loop _,ih (i+1) _ (by omega) hlt (W.frame _ s' _ _ hst' htk fun b hb o e=>?_) (fun b o e=>?_) hS3 fun s'' hm'' hS''=>?_⟩
  ·rw[hsb.2 b (fun h:b=S=>hSf (h ▸ hb))];exact e
  ·show h'.get? b=some o
   rw[hsb.2 b (nS b o e)]
   exact hup' b o e
  ·refine hR s'' (Moved.trans W.gtrans ((hm.mono hsub).then_heap htk fun b o hb e=>?_) hm'') hS''
   rw[hsb.2 b (fun h:b=S=>hb (h ▸ c5))];exact e
set_option maxRecDepth 100000 in
set_option maxHeartbeats 3200000 in
theorem aM1 {items:Array Value}{keys:List (List Int)}(hh:A.handled=none)(hu:A.units+8<al9)(hl:s.heap.IsList l items)(hn:keys.length=items.size)(hb:items.size<300)
  (hkey:∀ (i:Nat) (v:Value),items[i]?=some v->∃ x k,v=.ref x/\keys[i]?=some k/\at5 k/\G1 (y7 prog w) s.heap k x)
  (h:∀ (h':Heap) (tk:Nat),au2 prog w s.heap h' s.heap.objs.size (keys.foldl U8 [])->(∀ b o,s.heap.get? b=some o->h'.get? b=some o)->Q (.ref s.heap.objs.size) { s with heap:=h',toks:=tk }) :
  r6 (o7 prog w) A (call (.type "set") [.ref l]) Q E s:=by
 obtain⟨c,tl,hmro⟩:=F.called_set.mro
 have hmade:=F.called_set.made
 have hsub:=F.called_set.sub
 refine bu5 (codeAny_of_tree ?_)
 show r6 _ _ (callAny (.type "set") _) _ _ _
 refine i8 ⟨Code.quiet_builtin _ (by decide +kernel),ad0 F.entry_type_call ?_⟩
 rw[Around.under_plain (weight_type_call_type "set" [.ref l] []) rfl]
 have h1:=F.called_set.notType
 have h2:=F.called_set.canCreate
 have hct:=F.typeCall_set_1 (.ref l)
 repeat (any_goals (first | assumption | wp_step))
 refine ag4 (code_set_new_1 (.ref l) (E:=E) (Q₁:=fun obj s₁=>∃ led:Bool,obj=.ref s.heap.objs.size/\s₁={ s with heap:=s.heap.push { cls:=.type "set",dict:=none,data:=.set #[] 0 (.fresh 0 0 led) } }) fun led=>⟨led,rfl,rfl⟩) fun r s₁ hr=>?_
 cases r with
 | error e=>exact hr
 | ok fl =>
  cases fl with
  | ret obj =>
   obtain⟨led,rfl,rfl⟩:=hr
   have hS:(s.heap.push { cls:=.type "set",dict:=none,data:=.set #[] 0 (.fresh 0 0 led) }).get? s.heap.objs.size=some { cls:=.type "set",dict:=none,data:=.set #[] 0 (.fresh 0 0 led) }:=j8 _ rfl
   have hT:Shared.TypeIs { s with heap:=s.heap.push { cls:=.type "set",dict:=none,data:=.set #[] 0 (.fresh 0 0 led) } } (.ref s.heap.objs.size) "set":=⟨_,hS,rfl⟩
   have hli:=F.called_set.init.lookup
   have hbi:=F.called_set.init.bind (.ref s.heap.objs.size)
   repeat (any_goals (first | assumption | wp_step))
   refine ag4 (codeAny_call_builtin (R:=wants (fun r s₂=>r=.none/\∃ h' tk,s₂={ s with heap:=h',toks:=tk }/\au2 prog w s.heap h' s.heap.objs.size (keys.foldl U8 [])/\(∀ b o,s.heap.get? b=some o->h'.get? b=some o)) E) F.called_set.init.plain F.entry_set_init (check_set_init_1 hT ?_)) fun r₂ s₂ hr₂=>?_
   ·obtain⟨ol,hol,hcl,nl,hdl⟩:=hl
    obtain⟨ocls,odict,odata,oslots⟩:=ol
    simp only at hcl hdl
    subst hcl;subst hdl
    have hol':(s.heap.push { cls:=.type "set",dict:=none,data:=.set #[] 0 (.fresh 0 0 led) }).get? l=some { cls:=.type "list",dict:=odict,data:=.seq items nl,slots:=oslots }:=a8 _ hol
    have hsls:=F.sub_list_set
    have hslf:=F.sub_list_frozenset
    have hne:(Value.type "list" == Value.type "dict")=false:=by decide
    have hl1:(s.heap.push { cls:=.type "set",dict:=none,data:=.set #[] 0 (.fresh 0 0 led) }).IsList l items:=⟨_,hol',rfl,nl,rfl⟩
    unfold Builtin.«set.__init__» noKeywords Builtin.Frozenset.updateFrom
    generalize hPI:pyIter=PI
    wp_walk
    subst hPI
    refine aK8 hl1 ?_
    refine a7 (wpAny_runValue ?_)
    have hlS:l<s.heap.objs.size:=f9 hol
    have hh3:A.in1.in1.in1.handled=none:=by simp[hh]
    have hneI:l≠(s.heap.push { cls:=.type "set",dict:=none,data:=.set #[] 0 (.fresh 0 0 led) }).objs.size:=by
     rw[K3];exact k7 (C3 hlS)
    have hSf:s.heap.objs.size∉[(s.heap.push { cls:=.type "set",dict:=none,data:=.set #[] 0 (.fresh 0 0 led) }).objs.size,l]:=by
     rw[K3];simp only[d3,n5,N8,or_false,not_or]
     exact⟨k7 (Nat.lt_succ_self _),S4 hlS⟩
    refine aL4 ((Walks.list hh3 _ l hneI items).toS) ?hu s.heap.objs.size hSf s.heap ?hn ?hw keys hn hb hkey (items.size - 0) 0 _ (by omega) (o6 _)
     ⟨⟨_,j8 _ rfl,rfl,rfl⟩,(hl1.push _)⟩ (fun b o e=>a8 _ (a8 _ e)) ?hS0 ?hR
    case hu=>show A.units+1+1+1<al9;omega
    case hn=>exact ar6 (c6 _)
    case hw =>
     intro b hb
     have e:b=(s.heap.push { cls:=.type "set",dict:=none,data:=.set #[] 0 (.fresh 0 0 led) }).objs.size:=by simpa using hb
     rw[e]
     exact ar6 (by rw[K3];exact V3 _)
    case hS0 =>
     have hget:((s.heap.push { cls:=.type "set",dict:=none,data:=.set #[] 0 (.fresh 0 0 led) }).push { cls:=.type "list_iterator",data:=.fields #[.ref l,.int 0 0] }).get? s.heap.objs.size
       = some { cls:=.type "set",dict:=none,data:=.set #[] 0 (.fresh 0 0 led) }:=a8 _ hS
     refine⟨_,_,_,_,hget,⟨rfl,rfl,rfl⟩,rfl,⟨rfl,rfl,?_,?_,.inl rfl,by show 0*5<7*3;decide,?_⟩,rfl,List.nodup_nil,(fun _ h=>nomatch h),(fun _ h=>nomatch h),(fun _ h=>nomatch h)⟩
     ·intro i j a b hij ea
      simp[SetTable.fresh]at ea
     ·intro i j ea
      simp[SetTable.fresh]at ea
     ·intro i e ea
      simp at ea
    case hR =>
     intro s' hm hS'
     obtain⟨h',g',d',tk',os'⟩:=s'
     have eg:g'=s.gens:=hm.gens
     have ed:d'=s.drawn:=hm.drawn
     have eo:os'=s.os:=hm.os
     subst eg;subst ed;subst eo
     show r6 _ _ _ _ _ _
     refine i8 ?_
     show r6 _ _ (ret Value.none) _ _ _
     refine i8 ⟨rfl,h',tk',rfl,hS',fun b o e=>?_⟩
     have hlt:=f9 e
     have hb1:b≠s.heap.objs.size:=k7 hlt
     have hb2:b≠(s.heap.push { cls:=.type "set",dict:=none,data:=.set #[] 0 (.fresh 0 0 led) }).objs.size:=by
      rw[K3];exact k7 (C3 hlt)
     exact hm.heap b o (by simp only[d3,n5,N8,or_false,not_or];exact⟨hb1,hb2⟩) (a8 _ (a8 _ e))
   ·cases r₂ with
    | error e=>exact hr₂
    | ok fl₂ =>
     cases fl₂ with
     | ret r =>
      obtain⟨rfl,h',tk,rfl,hS',hk'⟩:=hr₂
      repeat (any_goals (first | assumption | wp_step))
      exact h _ _ hS' hk'
     | _=>exact hr₂.elim
  | _=>exact hr.elim
theorem aV6 {S:Addr}{hp:Heap}(hS:au2 prog w hp s.heap S ks)(hn:ks.length<300)(h:∀ t tk,Q (.int ks.length t) { s with toks:=tk }) :
  r6 (o7 prog w) A (call (.builtin "len") [.ref S]) Q E s:=by
 obtain⟨o,es,ep,t,ho,hex,hd,T,hsz,_⟩:=hS
 refine call_len_set ho hex hd T.fits (by omega) ?_
 rw[hsz]
 exact h _ _
end Sett
namespace L2
open PySem PySem.Spec PyProof.Rows
def B3 (K:W.Frag)(H:Hp)(ys:List V)(ks:List (List Int)):Prop:=Y0 (fun y k=>∃ a,y=V.ref a/\SqT K H a (k.map V.int)) ys ks
theorem B3.len {K:W.Frag}(t:B3 K H ys ks):ys.length=ks.length:=Paired.length t
theorem B3.get {K:W.Frag}:∀ {ys:List V} {ks:List (List Int)} {i:Nat} {y:V},B3 K H ys ks->ys[i]?=some y->∃ a k,y=V.ref a/\ks[i]?=some k/\SqT K H a (k.map V.int)
 | _,_,_,_,.nil,e=>by simp at e
 | _,_,0,_,.cons r _,e=>by
  simp at e
  subst e
  obtain⟨a,h1,h2⟩:=r
  exact⟨a,_,h1,rfl,h2⟩
 | _,_,i+1,y,.cons _ t,e=>by
  obtain⟨a,k,h1,h2,h3⟩:=B3.get (i:=i) (y:=y) t (by simpa using e)
  exact⟨a,k,h1,by simpa using h2,h3⟩
theorem B3.same {K:W.Frag}(hs:∀ b o,H b=some o->H' b=some o):∀ {ys:List V} {ks:List (List Int)},B3 K H ys ks->B3 K H' ys ks
 | _,_,.nil=>.nil
 | _,_,.cons r t=>by
  obtain⟨a,h1,h2⟩:=r
  refine .cons ⟨a,h1,?_⟩ (B3.same hs t)
  rcases h2 with(h | ⟨o,h⟩) | h
  ·exact .inl (.inl (hs _ _ h))
  ·exact .inl (.inr ⟨o,hs _ _ h⟩)
  ·exact .inr h
theorem B3.append {K:W.Frag}:∀ {ys zs:List V} {ks ls:List (List Int)},B3 K H ys ks->B3 K H zs ls->B3 K H (ys++zs) (ks++ls)
 | _,_,_,_,.nil,s=>s
 | _,_,_,_,.cons r t,s=>.cons r (B3.append t s)
theorem aP6:∀ {k:List Int} {its:List Value},A8 (k.map V.int) its->ItemsAre (y7 prog w) k its
 | [],_,.nil=>.nil
 | i::k,_,.cons r t=>by
  obtain⟨tk,rfl⟩:=r
  exact .cons (by simp[y7,Value.isInt]) (aP6 t)
theorem bw9 (I:Inv X pins σ H s)(h:SqT X.K H a (k.map V.int)):G1 (y7 X.prog X.w) s.heap k a:=by
 obtain⟨its,r,⟨o,ho,hc,n,hd⟩,_⟩:=I.tuple h
 exact⟨o,its.toArray,n,ho,hc,hd,by simpa using aP6 r⟩
theorem Z2 (I:Inv X pins σ H s):∀ {ys:List V} {ks:List (List Int)} {us:List Value},B3 X.K H ys ks->A8 ys us->Y0 (fun u k=>∃ a,u=Value.ref a/\G1 (y7 X.prog X.w) s.heap k a) us ks
 | _,_,_,.nil,.nil=>.nil
 | _,_,_,.cons r t,.cons q v=>by
  obtain⟨a,rfl,h⟩:=r
  cases q
  exact .cons ⟨a,rfl,bw9 I h⟩ (Z2 I t v)
theorem ab3 {α β:Type}{R:α->β->Prop}:∀ {l:List α} {m:List β} {i:Nat} {x:α},Y0 R l m->l[i]?=some x->∃ y,m[i]?=some y/\R x y
 | _,_,_,_,.nil,e=>by simp at e
 | _,_,0,_,.cons r _,e=>by simp at e;subst e;exact⟨_,rfl,r⟩
 | _,_,i+1,x,.cons _ t,e=>by
  obtain⟨y,h1,h2⟩:=ab3 (i:=i) (x:=x) t (by simpa using e)
  exact⟨y,by simpa using h1,h2⟩
theorem as8 {α β:Type}{R:α->β->Prop}{l l':List α}(p:l'.Perm l):∀ {m:List β},Y0 R l m->∃ m',m'.Perm m/\Y0 R l' m':=by
 induction p with
 | nil=>intro m h;exact⟨m,List.Perm.refl _,h⟩
 | cons x _ ih =>
  intro m h
  cases h with
  | cons r t =>
   obtain⟨m',p',h'⟩:=ih t
   exact⟨_::m',p'.cons _,.cons r h'⟩
 | swap x y l =>
  intro m h
  cases h with
  | cons r t =>
   cases t with
   | cons r' t'=>exact⟨_::_::_,List.Perm.swap _ _ _,.cons r' (.cons r t')⟩
 | trans _ _ ih1 ih2 =>
  intro m h
  obtain⟨m1,p1,h1⟩:=ih2 h
  obtain⟨m2,p2,h2⟩:=ih1 h1
  exact⟨m2,p2.trans p1,h2⟩
theorem ae9 {α β:Type}{R:α->β->Prop}:∀ {l:List α} {m:List β},Y0 R l m->Y0 (fun b a=>R a b) m l
 | _,_,.nil=>.nil
 | _,_,.cons r t=>.cons r (ae9 t)
theorem ay1 {α β:Type}{R S:α->β->Prop}(f:∀ a b,R a b->S a b):∀ {l:List α} {m:List β},Y0 R l m->Y0 S l m
 | _,_,.nil=>.nil
 | _,_,.cons r t=>.cons (f _ _ r) (ay1 f t)
theorem at3:R1 X (.builtin "sorted") (fun xs H Q=>∃ p ys ks,xs=[.ref p]/\SqL X.K H p ys/\B3 X.K H ys ks/\(∀ k∈ks,k≠[]) /\
  ∀ l zs ks',H l=none->ks'.Perm ks->ks'.Pairwise (fun a b=>Tim.J3 b a=false)->B3 X.K (upd H l (.lst zs)) zs ks'->Q (.ref l) (upd H l (.lst zs))):=by
 intro pins s σ H xs us Q I r h
 obtain⟨p,ys,ks,rfl,hq,ht,hne,q⟩:=h
 obtain⟨u,rfl,rx⟩:=vals1 r
 cases rx
 obtain⟨its,r',pl,hz⟩:=I.list hq
 have hlen:=r'.length
 have hk:=Z2 I ht r'
 have hv:∀ v∈its,∃ i k,Tim.IsK X.prog X.w s.heap (i::k) v:=fun v hv=>by
  obtain⟨j,hj⟩:=m8.mp hv
  obtain⟨k,h1,a,rfl,h2⟩:=ab3 hk hj
  cases k with
  | nil=>exact absurd rfl (hne [] (b8 h1))
  | cons i k=>exact⟨i,k,a,rfl,h2⟩
 refine Tim.aC4 pl.isList (by omega) hv fun out h' n hp hs kp e=>?_
 obtain⟨zs,pz,rz⟩:=as8 hp (ae9 r')
 have rz':A8 zs out:=ae9 rz
 have hzl:zs.length<=f6:=by rw[pz.length_eq];exact hz
 have hfr:H (s.heap.objs.size+1)=none:=I.hok.fresh (V3 _)
 have keepS:∀ b o,H b=some o->upd H (s.heap.objs.size+1) (.lst zs) b=some o:=fun b o e=>by rw[t8 (u5 e hfr)];exact e
 refine⟨.ref (s.heap.objs.size+1),upd H (s.heap.objs.size+1) (.lst zs),I.laid (t':=s.toks) kp (V3 _) (show M9 X.prog X.w _ h' _ (.lst zs) from ⟨hzl,out,n,rz',e⟩),rfl,?_⟩
 obtain⟨ks',pk,hk'⟩:=as8 pz (show Y0 (fun y k=>∃ a,y=V.ref a/\SqT X.K H a (k.map V.int)) ys ks from ht)
 refine q _ zs ks' hfr pk ?_ (B3.same keepS hk')
 have hko:=Z2 I (show B3 X.K H zs ks' from hk') rz'
 have eq:ks'=out.map (Tim.R9 X.prog X.w s.heap):=by
  clear hs hp rz rz' hk' pk e
  induction hko with
  | nil=>rfl
  | cons r t ih =>
   obtain⟨a,rfl,hka⟩:=r
   rw[n9,Tim.Q8 ⟨a,rfl,hka⟩,<- ih]
 rw[eq,L9]
 exact hs
def aX1 (P:Program)(w:World)(S:Addr)(n:Nat):HO:=.ext fun h=>∃ hk ks,ks.length=n/\n<300/\Sett.au2 P w hk h S ks
theorem aR4 (hc:X.calm=true)(hu:X.A.units+8<al9):R1 X (.type "set") (fun xs H Q=>∃ p ys ks,xs=[.ref p]/\SqL X.K H p ys/\B3 X.K H ys ks/\(∀ k∈ks,Sett.at5 k)/\ks.length<300 /\
  ∀ S,H S=none->Q (.ref S) (upd H S (aX1 X.prog X.w S (ks.foldl Sett.U8 []).length))):=by
 intro pins s σ H xs us Q I r h
 obtain⟨p,ys,ks,rfl,hq,ht,hok,hb,q⟩:=h
 obtain⟨u,rfl,rx⟩:=vals1 r
 cases rx
 obtain⟨its,r',pl,hz⟩:=I.list hq
 have hlen:=r'.length
 have hk:=Z2 I ht r'
 have hkl:=ht.len
 refine Sett.aM1 (keys:=ks) (I.ok.hd hc) hu pl.isList (by simp;omega) (by simp;omega) (fun i v hv=>?_) fun h' tk hS kp=>?_
 ·obtain⟨k,h1,a,rfl,h2⟩:=ab3 hk (by simpa using hv)
  exact⟨a,k,rfl,h1,hok k (b8 h1),h2⟩
 ·have hle:=Sett.av5 ks []
  simp only[aa1]at hle
  refine⟨.ref s.heap.objs.size,_,I.laid (o:=aX1 X.prog X.w s.heap.objs.size (ks.foldl Sett.U8 []).length) (t':=tk) kp (c6 _) ?_,rfl,q _ (I.hok.fresh (c6 _))⟩
  refine⟨⟨s.heap,ks.foldl Sett.U8 [],rfl,by omega,hS⟩,?_,fun h1 h2 ⟨hk1,ks1,e1,e2,hS1⟩ hkeep=>⟨hk1,ks1,e1,e2,?_⟩⟩
  ·obtain⟨o,_,_,_,ho,_⟩:=hS
   exact⟨o,ho⟩
  ·obtain⟨o,es,ep,t,ho,rest⟩:=hS1
   exact⟨o,es,ep,t,hkeep o ho,rest⟩
theorem call_len_set:R1 X (.builtin "len") (fun xs H Q=>∃ S n,xs=[.ref S]/\H S=some (aX1 X.prog X.w S n)/\Q (.int n) H):=by
 intro pins s σ H xs us Q I r h
 obtain⟨S,n,rfl,hS,q⟩:=h
 obtain⟨u,rfl,rx⟩:=vals1 r
 cases rx
 obtain⟨⟨hk,ks,e1,e2,hS1⟩,_⟩:=I.hok S _ hS
 refine Sett.aV6 hS1 (by omega) fun t tk=>?_
 exact⟨.int n,H,I.tok _,⟨t,by rw[e1]⟩,q⟩
def A0 (X:Cx)(scope:Scope)(cl:List (Str × Addr))(N':List Str)(s₃:Shared)(H₃:Hp)(fp:List Addr)(xe':Value->Shared->Prop):Cx:=
 { X with N:=N',s₀:=s₃,H₀:=H₃,env:=K7 scope cl s₃.heap.objs.size X.env,outer:=X.stack,ex:=fp,fn:=fun _=>false,pn:=[],xe:=xe' }
def ar5 (env:Env):List (Str × Addr)->Prop
 | []=>True
 | (x,c)::r=>env.cells.lookup x=some c/\ar5 env r
theorem ar5.get {env:Env}:∀ {cl:List (Str × Addr)} {x:Str} {c:Addr},ar5 env cl->cl.lookup x=some c->env.cells.lookup x=some c
 | [],_,_,_,h=>by cases h
 | (y,d)::r,x,c,⟨h1,h2⟩,h=>by
  rw[bT4]at h
  cases e:x == y with
  | true =>
   rw[e]at h
   cases h
   rw[eq_of_beq e]
   exact h1
  | false =>
   rw[e]at h
   exact ar5.get h2 h
def al5 (names:List (Str × aG2))(cl:List (Str × Addr)):Bool:=names.all fun y=>y.2 != .cell && (y.2 != .free || (cl.lookup y.1).isSome)
theorem V8 {env:Env}:∀ {names:List (Str × aG2)} {x:Str} {k:aG2},(names.map fun(n,k)=>if (k == NameKind.free && env.scope.kind == .function && env.kindOf n == some .cell) then (n,NameKind.cell) else (n,k)).lookup x=some k ->
  ∃ k',(x,k')∈names/\(k'=k\/(k'=.free/\k=.cell))
 | [],_,_,h=>by cases h
 | (n,k0)::r,x,k,h=>by
  rw[n9]at h
  have hn:∀ k1,(List.lookup x ((n,k1)::r.map fun(n,k)=>if (k == NameKind.free && env.scope.kind == .function && env.kindOf n == some .cell) then (n,NameKind.cell) else (n,k)))=some k->(x=n/\k1=k)\/∃ k',(x,k')∈r/\(k'=k\/(k'=.free/\k=.cell)):=fun k1 h=>by
   rw[bT4]at h
   cases e:x == n with
   | true=>rw[e]at h;cases h;exact .inl ⟨eq_of_beq e,rfl⟩
   | false=>rw[e]at h;exact .inr (V8 h)
  dsimp only at h
  by_cases hc:(k0 == NameKind.free && env.scope.kind == .function && env.kindOf n == some .cell)=true
  ·rw[if_pos hc]at h
   rcases hn _ h with⟨rfl,rfl⟩ | ⟨k',h1,h2⟩
   ·simp only[m7]at hc
    have e0:k0=.free:=eq_of_beq hc.1.1
    exact⟨k0,c5,.inr ⟨e0,rfl⟩⟩
   ·exact⟨k',b7 _ h1,h2⟩
  ·rw[if_neg hc]at h
   rcases hn _ h with⟨rfl,rfl⟩ | ⟨k',h1,h2⟩
   ·exact⟨k0,c5,.inl rfl⟩
   ·exact⟨k',b7 _ h1,h2⟩
def Y7 (lk:List (Option Nat))(σ:St):St:=lk.map fun o=>o.bind fun j=>(σ[j]?).join
def aX3 (X:Cx)(N':List Str)(lk:List (Option Nat))(scope:Scope)(cl:List (Str × Addr)):Prop:=
 lk.length=N'.length/\∀ (i j:Nat) (x:Str),N'[i]?=some x->lk[i]?=some (some j)->X.N[j]?=some x/\(X.env.scope.names.lookup x=some .cell\/X.env.scope.names.lookup x=some .free)/\(cl.lookup x).isSome=true /\
  ((K7 scope cl 0 X.env).kindOf x=some .cell\/(K7 scope cl 0 X.env).kindOf x=some .free)
theorem al2 {H3:Hp}{s3:Shared}{h1:Heap}{tk:Nat}{xe':Value->Shared->Prop}{m0:Str->Option Value}
  (I:Inv X pins σ H3 s3)(hf:∀ b∈fp,M7 X pins H3 b)(hkind:scope.kind=.function)(hcl:ar5 X.env cl)(hfr:al5 scope.names cl=true)(hlk:aX3 X N' lk scope cl)
  (hn:h1.Ns s3.heap.objs.size m0)(hk:∀ b u,s3.heap.get? b=some u->h1.get? b=some u)(hfs:∀ b∈fp,b<s3.heap.objs.size):Inv (A0 X scope cl N' s3 H3 fp xe') [] (Y7 lk σ) H3 { s3 with heap:=h1,toks:=tk }:=by
 have hC:H3 s3.heap.objs.size=none:=I.hok.fresh (c6 _)
 have hmem:∀ y∈scope.names,y.2≠.cell/\(y.2=.free->(cl.lookup y.1).isSome=true):=fun y hy=>by
  unfold al5 at hfr
  rw[x9]at hfr
  have:=hfr y hy
  rw[m7]at this
  refine⟨by simpa using this.1,fun e=>?_⟩
  have h2:=this.2
  rw[e]at h2
  simpa using h2
 have hcell:∀ x c,cl.lookup x=some c->X.env.cells.lookup x=some c:=fun x c e=>hcl.get e
 have clt:∀ x c,cl.lookup x=some c->c<s3.heap.objs.size:=fun x c e=>by
  obtain⟨v,q⟩:=I.cell x c (hcell x c e)
  exact q.lt
 refine⟨⟨I.ok.mod,hkind,I.ok.glob,I.ok.blt,c6 _,fun x y c e1 e2=>I.ok.inj x y c (hcell x c e1) (hcell y c e2),fun x hx=>?_,(fun x c e=>by cases e),I.ok.hd,I.ok.frames,.inl rfl,fun b hb=>?_,fun b o e=>I.bs b o e,p9 I.ok.bsz I.sz,fun b o e hb=>?_,fun b hb z=>?_,I.stack,I.stkFree⟩,
  rfl,I.bare,Un.kept hk,⟨m0,hn,fun i x v e1 e2 e3=>?_⟩,fun x c e=>?_,hC,fun x c e=>?_,(fun p hp=>nomatch hp),I.hok.kept hk,?_⟩
 ·have hx':(relabel scope X.env).names.lookup x=some .cell\/(relabel scope X.env).names.lookup x=some .free:=hx
  have:∃ k',(x,k')∈scope.names/\k'=.free:=by
   rcases hx' with h | h
   ·obtain⟨k',h1,h2⟩:=V8 h
    rcases h2 with h2 | h2
    ·exact absurd h2 (hmem _ h1).1
    ·exact⟨k',h1,h2.1⟩
   ·obtain⟨k',h1,h2⟩:=V8 h
    rcases h2 with h2 | h2
    ·exact⟨k',h1,h2⟩
    ·exact⟨k',h1,h2.1⟩
  obtain⟨k',h1,h2⟩:=this
  exact A7.mp ((hmem _ h1).2 h2)
 ·obtain⟨f0,f1,f2,f3,f4,f5⟩:=hf b hb
  exact⟨k7 (hfs b hb),fun x c e=>f4 x c (hcell x c e)⟩
 ·obtain⟨f0,f1,f2,f3,f4,f5⟩:=hf b hb
  rcases f3 with f3 | f3
  ·exact I.ok.noex b o e f3
  ·exact absurd (n6 (f9 e) (p9 I.ok.bsz f3)) (C2 _)
 ·obtain⟨f0,f1,f2,f3,f4,f5⟩:=hf b hb
  rcases d3.mp (I.stkSub b z) with e | e
  ·exact f1 e
  ·exact f2 e
 ·-- a captured name
  have e2':(Y7 lk σ)[i]?=some (some v):=e2
  unfold Y7 at e2'
  rw[m9]at e2'
  cases hq:lk[i]? with
  | none=>rw[hq]at e2';cases e2'
  | some o =>
   rw[hq]at e2'
   have e2'':(o.bind fun j=>(σ[j]?).join)=some v:=Option.some.inj e2'
   cases o with
   | none=>cases e2''
   | some j =>
    obtain⟨q1,q2,q3,q4⟩:=hlk.2 i j x e1 hq
    have hσ:σ[j]?=some (some v):=by
     have z:(σ[j]?).join=some v:=e2''
     cases hh:σ[j]? with
     | none=>rw[hh]at z;cases z
     | some o=>rw[hh]at z;rw[show o=some v from z]
    obtain⟨m,hnX,hl⟩:=I.loc
    obtain⟨u,r,lo⟩:=hl j x v q1 hσ (q2.elim (fun a=>.inr (.inl a)) (fun a=>.inr (.inr a)))
    refine⟨u,r,.inr ?_⟩
    obtain⟨c,hc⟩:=A7.mp q3
    refine⟨q4,c,hc,?_⟩
    have hcX:=hcell x c hc
    rcases lo with⟨k,_⟩ | ⟨_,c',hc',z⟩
    ·have k':X.env.scope.names.lookup x=some .local:=k
     rw[k']at q2
     rcases q2 with q2 | q2<;>cases q2
    ·rw[hcX]at hc'
     cases hc'
     obtain⟨o,ho,hd⟩:=z
     exact⟨o,hk c o ho,hd⟩
 ·obtain⟨v,o,ho,hd⟩:=I.cell x c (hcell x c e)
  exact⟨v,o,hk c o ho,hd⟩
 ·exact I.freeC x c (hcell x c e)
 ·show (Y7 lk σ).length=N'.length
  unfold Y7
  rw[a5]
  exact hlk.1
def PTs (X:Cx)(ifs:List Expr)(t:TT):Prop:=
 ∀ (pins:List (Addr × Obj)) (s:Shared) (σ:St) (H:Hp) (Q:Bool->Hp->Prop),Inv X pins σ H s->t σ H Q->r6 (o7 X.prog X.w) X.A (forIn ifs true fun c r=>if r=true then do let ok <- isTrue c X.env (eval c X.env);pure (ForInStep.yield ok) else pure (ForInStep.yield r)) (TP X pins σ Q) X.xe s
def bF7:TT:=fun _ H Q=>Q true H
theorem M8:PTs X [] bF7:=fun pins s σ H Q I h=>wpAny_tests_nil ⟨H,I,h⟩
theorem ah1 {c:Expr}{t:TT}(h:PT X c t):PTs X [c] t:=fun pins s σ H Q I q=>wpAny_tests_one (h pins s σ H Q I q)
def aL8 (wi:TI)(lk:List (Option Nat))(g:TG)(tt:TT)(te:TE):TE:=fun σ H Q=>wi σ H fun J H1=>∀ D,H1 D=none->∃ W:Nat->Nat->List V->St->Hp->Prop,(∃ m,W 0 m [] (Y7 lk σ) (upd H1 D (.lst [])))/\∀ i m xs σ' H',W i m xs σ' H' ->
 H' D=some (.lst xs)/\((J.stop i H'/\Q (.ref D) H')\/(J.go i H'/\xs.length<f6/\∀ x H'',J.yld i H' x H''->g x σ' H'' fun σ2 H2=>tt σ2 H2 fun b H3 =>
  if b=true then te σ2 H3 fun v H4=>H4 D=some (.lst xs)/\∃ m',m'<m/\W (i+1) m' (xs++[v]) σ2 (upd H4 D (.lst (xs++[v]))) else ∃ m',m'<m/\W (i+1) m' xs σ2 H3))
theorem K8 {elt iter:Expr}{wi:TI}{g:TG}{tt:TT}(hc:X.calm=true)(hi:PI X tg iter wi)(hclos:aj9 scope X.env=pure cl)(hkind:scope.kind=.function)
  (hnames:∀ y∈scope.names,y.2=.local->scope.names.lookup y.1=some .local)(hcl:ar5 X.env cl)(hfr:al5 scope.names cl=true)(hlk:aX3 X N' lk scope cl)
  (hg:∀ s3 H3 fp,PG (A0 X scope cl N' s3 H3 fp fun _ _=>False) tg g)(ht:∀ s3 H3 fp,PTs (A0 X scope cl N' s3 H3 fp fun _ _=>False) ifs tt)(he:∀ s3 H3 fp,PE (A0 X scope cl N' s3 H3 fp fun _ _=>False) elt te)
  (hs:∀ x,Q1 iter X.env x=pure x:=by intro _;rfl):PE X (.ListComp elt [⟨tg,iter,ifs,0⟩] scope pos) (aL8 wi lk g tt te):=by
 intro pins s σ H Q I h
 rw[eval_ListComp]
 have hcellN:∀ y∈scope.names,y.2≠.cell:=fun y hy=>by
  unfold al5 at hfr
  rw[x9]at hfr
  have:=hfr y hy
  rw[m7]at this
  simpa using this.1
 refine ak0 (use:=none) rfl hs hclos hkind hnames (thn (hi pins s σ H _ I h) fun v s1 h1=>thn h1 fun itv s2 h2=>?_)
 obtain⟨it,fp,tn,J,H2,e,I2,T,st2,f2,q⟩:=h2
 subst e
 refine Q2 ?_ (o6 _)
 have hD:H2 s2.heap.objs.size=none:=I2.hok.fresh (c6 _)
 have I3:=I2.lnew (ys:=[]) (its:=[]) (t':=s2.toks) .nil (o6 _)
 obtain⟨W,⟨m0,w0⟩,turn⟩:=q s2.heap.objs.size hD
 have fpl:∀ b∈fp,b<s2.heap.objs.size:=fun b hb=>by
  obtain⟨o,ho,_⟩:=T.obj 0 s2.heap st2 b hb
  exact f9 ho
 refine aa4 hcellN (by intro y hy;cases hy) (fun h1 hns1 hsb1=>?_) hkind
 dsimp only at hns1 hsb1 ⊢
 have e3:s2.heap.push { cls:=.type "list",dict:=none,data:=.seq ([]:List Value).toArray }=s2.heap.push { cls:=.type "list",data:=.seq ([]:List Value).toArray }:=rfl
 generalize hh3:s2.heap.push { cls:=.type "list",dict:=none,data:=.seq ([]:List Value).toArray }=h3 at *
 have I3':Inv X pins σ (upd H2 s2.heap.objs.size (.lst [])) { s2 with heap:=h3,toks:=s2.toks }:=I3
 have size3:h3.objs.size=s2.heap.objs.size+1:=by rw[<- hh3,K3]
 have f3:∀ b∈fp,M7 X pins (upd H2 s2.heap.objs.size (.lst [])) b:=fun b hb=>by
  obtain⟨f0,fr⟩:=f2 b hb
  exact⟨by rw[t8 (k7 (fpl b hb))];exact f0,fr⟩
 have up:∀ b u,h3.get? b=some u->h1.get? b=some u:=fun b u eb=>by
  rw[hsb1.2 b (k7 (f9 eb))]
  exact a8 _ eb
 have I4:Inv (A0 X scope cl N' { s2 with heap:=h3,toks:=s2.toks } (upd H2 s2.heap.objs.size (.lst [])) fp fun _ _=>False) [] (Y7 lk σ) (upd H2 s2.heap.objs.size (.lst [])) { s2 with heap:=h1,toks:=s2.toks+([]:List (Str × Value)).length }:=
  al2 (s3:={ s2 with heap:=h3,toks:=s2.toks }) I3' f3 hkind hcl hfr hlk hns1 up fun b hb=>by show b<h3.objs.size;rw[size3];exact C3 (fpl b hb)
 have st4:tn 0 h1:=T.keep 0 s2.heap h1 st2 fun b hb o eb=>up b o (by rw[<- hh3];exact a8 _ eb)
 have hCs:h3.objs.size=(K7 scope cl h3.objs.size X.env).locals:=rfl
 have stat:∀ {H':Hp},(∀ b∈fp,H' b=none)->∀ b∈fp,M7 (A0 X scope cl N' { s2 with heap:=h3,toks:=s2.toks } (upd H2 s2.heap.objs.size (.lst [])) fp fun _ _=>False) [] H' b:=fun {H'} hn b hb=>by
  obtain⟨f0,f1,f2',f3',f4,f5⟩:=f3 b hb
  refine⟨hn b hb,?_,fun z=>?_,.inl hb,fun x c ex=>f4 x c (hcl.get ex),fun p hp=>nomatch hp⟩
  ·show b≠h3.objs.size
   rw[size3]
   exact k7 (C3 (fpl b hb))
  ·rcases d3.mp (I3'.stkSub b z) with q | q
   ·exact f1 q
   ·exact f2' q
 have fin:∀ (s':Shared) (σ':St) (H':Hp),Inv (A0 X scope cl N' { s2 with heap:=h3,toks:=s2.toks } (upd H2 s2.heap.objs.size (.lst [])) fp fun _ _=>False) [] σ' H' s'->Q (.ref s2.heap.objs.size) H' ->
   am0 (o7 X.prog X.w) X.A X.xe none (EP X pins σ Q) (.ref s2.heap.objs.size) h3.objs.size (.ok .next) s':=fun s' σ' H' I' q'=>by
  obtain⟨m,hm,_⟩:=id I'.loc
  have I5:Inv X pins σ H' s':=I3'.call' (ch:=fp) I'.os I'.base I'.hok I'.bare fun b hb=>by
   obtain⟨f0,f1,f2',f3',f4,f5⟩:=f3 b hb
   exact⟨f3',f1,f4,f5⟩
  refine⟨m,hm,fun h' hsb=>?_⟩
  refine⟨.ref s2.heap.objs.size,H',?_,rfl,q'⟩
  have hfc:H' h3.objs.size=none:=I'.free
  have hcl1:∀ b o,h3.get? b=some o->b≠h3.objs.size:=fun b o eb=>k7 (f9 eb)
  obtain⟨h0',g0,d0,t0,o0⟩:=s'
  refine I5.turned (t':=t0) (it:=h3.objs.size) (fun b o hb eb=>(hsb.2 b hb).trans eb) hfc ?_ (.inr I3'.sz) (fun x c ex z=>?_) (fun p hp z=>?_)
  ·exact S4 I3'.lt
  ·obtain⟨v',q2⟩:=I3'.cell x c ex
   exact absurd q2.lt (by rw[z];exact C2 _)
  ·exact absurd (f9 (I3'.pin p hp).1) (by rw[z];exact C2 _)
 have loop:∀ s5:Shared,s5={ s2 with heap:=h1,toks:=s2.toks+([]:List (Str × Value)).length } ->
   aB9 (o7 X.prog X.w) X.A (.compLoop (.ListComp elt [⟨tg,iter,ifs,0⟩] scope pos) 0 (.ref it) (.ref s2.heap.objs.size) (K7 scope cl h3.objs.size X.env)) (am0 (o7 X.prog X.w) X.A X.xe none (EP X pins σ Q) (.ref s2.heap.objs.size) h3.objs.size) s5:=by
  rintro s5 rfl
  refine bJ5 rfl (fun n s'=>∃ i xs σ' H',Inv (A0 X scope cl N' { s2 with heap:=h3,toks:=s2.toks } (upd H2 s2.heap.objs.size (.lst [])) fp fun _ _=>False) [] σ' H' s'/\tn i s'.heap/\(∀ b∈fp,H' b=none)/\W i n xs σ' H')
   (fun n s6 hI=>?_) m0 ⟨0,[],Y7 lk σ,_,I4,st4,fun b hb=>(f3 b hb).1,w0⟩
  obtain⟨i,xs,σ6,H6,I6,st6,fr6,w6⟩:=hI
  show r6 _ X.A ((compTurn (.ListComp elt [⟨tg,iter,ifs,0⟩] scope pos) 0 (.ref it) (.ref s2.heap.objs.size) (K7 scope cl h3.objs.size X.env)).onRaise (fun x=>do at7 x (K7 scope cl h3.objs.size X.env);bd6 x)) _ _ s6
  refine bU3 ?_
  rw[bw1]
  refine a7 (U2 (a7 ?_))
  obtain⟨hD6,hw⟩:=turn i n xs σ6 H6 w6
  rcases hw with⟨stop,qn⟩ | ⟨go,hlen,step⟩
  ·refine thn (T.done (A0 X scope cl N' { s2 with heap:=h3,toks:=s2.toks } (upd H2 s2.heap.objs.size (.lst [])) fp fun _ _=>False) rfl rfl rfl hc i [] s6 σ6 H6 _ I6 (stat fr6) st6 stop) fun r s7 ⟨hr,I7⟩=>?_
   subst hr
   exact i8 (fin s7 σ6 H6 I7 qn)
  ·refine thn (T.item (A0 X scope cl N' { s2 with heap:=h3,toks:=s2.toks } (upd H2 s2.heap.objs.size (.lst [])) fp fun _ _=>False) rfl rfl rfl hc i [] s6 σ6 H6 _ I6 (stat fr6) st6 go) fun r s7 ⟨u,hr,h7⟩=>?_
   subst hr
   refine a7 (thn h7 fun _ s8 ⟨x,H8,I8,r8,y8,st8,fr8⟩=>?_)
   have I8':=I8.pinned (stat fr8) (T.obj _ _ st8)
   refine a7 (B6 (hg _ _ _ _ s8 σ6 H8 x u _ I8' r8 (step x H8 y8)) (fun _ s9 ⟨σ9,H9,I9,q9⟩=>?_) (fun _ _ z=>False.elim z))
   refine a7 (B6 (ht _ _ _ _ s9 σ9 H9 _ I9 q9) (fun ok s10 ⟨H10,I10,q10⟩=>?_) (fun _ _ z=>False.elim z))
   have bc9:∀ {σ':St} {H':Hp} {ys:List V} {s':Shared},Inv (A0 X scope cl N' { s2 with heap:=h3,toks:=s2.toks } (upd H2 s2.heap.objs.size (.lst [])) fp fun _ _=>False) ([]++ae8 fp s8.heap) σ' H' s'->(∃ m',m'<n/\W (i+1) m' ys σ' H') ->
     ∃ m',m'<n/\∃ i xs σ' H',Inv (A0 X scope cl N' { s2 with heap:=h3,toks:=s2.toks } (upd H2 s2.heap.objs.size (.lst [])) fp fun _ _=>False) [] σ' H' s'/\tn i s'.heap/\(∀ b∈fp,H' b=none)/\W i m' xs σ' H':=fun {σ' H' ys s'} I' ⟨m',hm,w'⟩=>by
    refine⟨m',hm,i+1,ys,σ',H',I'.unpinned,T.keep _ _ _ st8 fun b hb o eb=>(I'.pin (b,o) (j2 _ (j2 _ (L0 hb eb)))).1,fun b hb=>?_,w'⟩
    obtain⟨o,eb,_⟩:=T.obj _ _ st8 b hb
    exact(I'.pin (b,o) (j2 _ (j2 _ (L0 hb eb)))).2.1
   cases ok with
   | false =>
    have q10':∃ m',m'<n/\W (i+1) m' xs σ9 H10:=by simpa using q10
    exact i8 ⟨rfl,bc9 I10 q10'⟩
   | true =>
    rw[if_pos rfl]at q10
    refine a7 (a7 (B6 (he _ _ _ _ s10 σ9 H10 _ I10 q10) (fun y s11 ⟨v11,H11,I11,r11,hD11,q11⟩=>?_) (fun _ _ z=>False.elim z)))
    refine a7 (B6 (P6 (X:=A0 X scope cl N' { s2 with heap:=h3,toks:=s2.toks } (upd H2 s2.heap.objs.size (.lst [])) fp fun _ _=>False) _ s11 σ9 H11 (.ref s2.heap.objs.size) [v11] (.ref s2.heap.objs.size) [y] (fun _ H'=>∃ m',m'<n/\W (i+1) m' (xs++[v11]) σ9 H') I11 rfl (.cons r11 .nil) ⟨s2.heap.objs.size,xs,v11,rfl,rfl,hD11,hlen,q11⟩) (fun _ s12 ⟨_,H12,I12,_,q12⟩=>?_) (fun _ _ z=>False.elim z))
    exact i8 (i8 ⟨rfl,bc9 I12 q12⟩)
 exact ap2 (loop _ rfl) (T.self X.A 0 _ _ _ st4 (loop _ rfl))
def Itn (K:W.Frag)(a:Addr):It:=
 ⟨fun i H=>∃ xs x,SqL K H a xs/\xs[i]?=some x,fun i H x H'=>∃ t v,H t=none/\x=.ref t/\(∀ xs,SqL K H a xs->xs[i]?=some v)/\H'=upd H t (.tup [.int i,v]),fun i H=>∃ xs,SqL K H a xs/\xs.length<=i⟩
def ca0 (K:W.Frag)(ta:TA):TI:=fun σ H R=>ta σ H fun vs H1=>∃ a,vs=[.ref a]/\(∃ xs,SqL K H1 a xs)/\R (Itn K a) H1
theorem be2 {K:W.Frag}{elts:List Expr}{x1:Nat}(a it e:Addr)(hne:e≠it):Turn P w K (.Tuple elts x1 pos) (Itn K a) [e,it] e (fun i h=>(∃ old,IsEnum h e it (i:Int) old)/\h.IsListIter it a i) where
 mem:=by simp
 obj:=fun i h st b hb=>by
  obtain⟨⟨old,he⟩,o,ho,hc,hd⟩:=st
  rcases d3.mp hb with rfl | hb
  ·exact⟨_,he,fun v z=>by cases z⟩
  ·have eb:b=it:=by simpa using hb
   subst eb
   exact⟨o,ho,fun v z=>by rw[hd]at z;cases z⟩
 keep:=fun i h h' st k=>by
  obtain⟨⟨old,he⟩,hit⟩:=st
  exact⟨⟨old,k e (by simp) _ he⟩,hit.at fun o q=>k it (by simp) o q⟩
 item:=by
  intro X hP hw hK hc i pins s σ H E I hf st hg
  subst hP hw hK
  obtain⟨xs,x,hq,hx⟩:=hg
  obtain⟨⟨old,he⟩,hit⟩:=st
  obtain⟨its,rv,p,hz⟩:=I.list hq
  obtain⟨u,hu,ru⟩:=rv.get hx
  obtain⟨f0,f1,f2,f3,f4,f5⟩:=hf e (by simp)
  obtain⟨g0,g1,g2,g3,g4,g5⟩:=hf it (by simp)
  refine wpAny_pyNext_enum_item he hit p.isList (x:=u) (by simpa using hu) hne fun h1 heo hit1 ht1 hz1 hk1=>?_
  refine⟨_,rfl,?_⟩
  refine bi7 heo fun h2 he2 hs2=>?_
  have hlt:e<s.heap.objs.size:=f9 he
  have hs2':Heap.SameBut e h1 h2:=hs2
  have ht2:h2.get? s.heap.objs.size=some { cls:=.type "tuple",data:=.seq #[.int i s.toks,u] }:=(hs2'.2 _ (S4 hlt)).trans ht1
  have kp:∀ b o,b≠e->b≠it->s.heap.get? b=some o->h2.get? b=some o:=fun b o h1' h2' q=>(hs2'.2 b h1').trans (hk1 b o h1' h2' q)
  have hT:H s.heap.objs.size=none:=I.hok.fresh (c6 _)
  have nH:∀ b,H b≠none->b≠e/\b≠it:=fun b hb=>⟨fun z=>hb (z ▸ f0),fun z=>hb (z ▸ g0)⟩
  have keepH:∀ b o,H b=some o->upd H s.heap.objs.size (.tup [.int i,x]) b=some o:=fun b o q=>by rw[t8 (u5 q hT)];exact q
  have hok2:HOk X.prog X.w (upd H s.heap.objs.size (.tup [.int i,x])) h2:=fun b o eb=>by
   by_cases hb:b=s.heap.objs.size
   ·subst hb
    rw[a9]at eb
    cases eb
    exact⟨by show 2<=f6;decide,[.int i s.toks,u],.cons ⟨_,rfl⟩ (.cons ru .nil),⟨_,ht2,rfl,_,rfl⟩⟩
   ·rw[t8 hb]at eb
    refine(I.hok b o eb).stay (fun c v hcc q=>kp c v ?_ ?_ q) (fun c q=>keepH c _ q) fun c ys q=>keepH c _ q
    ·rcases hcc with z | z
     ·exact(nH c (by rw[z,eb];simp)).1
     ·exact(nH c (by rw[z];simp)).1
    ·rcases hcc with z | z
     ·exact(nH c (by rw[z,eb];simp)).2
     ·exact(nH c (by rw[z];simp)).2
  have I2:Inv X pins σ (upd H s.heap.objs.size (.tup [.int i,x])) { s with heap:=h2,toks:=s.toks+1 }:=by
   refine I.step (g':=s.gens) (d':=s.drawn) (t':=s.toks+1) (ch:=[e,it]) (fun b hb=>?_) (fun b o _ _ hcc q _=>kp b o (fun z=>hcc (by simp[z])) (fun z=>hcc (by simp[z])) q) (fun b o _ _ hcc q _=>⟨o.slots,kp b o (fun z=>hcc (by simp[z])) (fun z=>hcc (by simp[z])) q⟩) (fun b o _ q n=>?_)
    (fun b o hcc q=>⟨o,kp b o (fun z=>hcc (by simp[z])) (fun z=>hcc (by simp[z])) q⟩) (fun b ys q=>keepH b _ q) (fun b o v q=>keepH b _ q) (fun b ps q=>⟨#[],by rw[keepH b _ q];simp⟩) (fun m hm=>?_) hok2 I.bare
   ·rcases d3.mp hb with rfl | hb
    ·exact⟨f3,f1,f4,f5⟩
    ·have eb:b=it:=by simpa using hb
     subst eb
     exact⟨g3,g1,g4,g5⟩
   ·rw[t8 (k7 (f9 q))]
    exact n
   ·obtain⟨o,es,ep,ho,r⟩:=hm
    exact⟨o,es,ep,kp _ o (Ne.symm f1) (Ne.symm g1) ho,r⟩
  have hilt:it<s.heap.objs.size:=by
   obtain⟨o,ho,_⟩:=id hit
   exact f9 ho
  refine⟨.ref s.heap.objs.size,_,I2,rfl,⟨s.heap.objs.size,x,hT,rfl,fun ys hy=>by rw[I.list_inj hy hq];exact hx,rfl⟩,⟨⟨u,?_⟩,?_⟩,fun b hb=>?_⟩
  ·have:=he2
   rw[show ((i:Int)+1)=(((i+1:Nat):Int)) by simp]at this
   exact this
  ·exact hit1.at fun o q=>(hs2'.2 it (Ne.symm hne)).trans q
  ·rcases d3.mp hb with rfl | hb
   ·rw[t8 (k7 hlt)];exact f0
   ·have eb:b=it:=by simpa using hb
    subst eb
    rw[t8 (k7 hilt)]
    exact g0
 done:=by
  intro X hP hw hK hc i pins s σ H E I hf st hg
  subst hP hw hK
  obtain⟨xs,hq,hx⟩:=hg
  obtain⟨⟨old,he⟩,hit⟩:=st
  obtain⟨its,rv,p,hz⟩:=I.list hq
  obtain⟨g0,g1,g2,g3,g4,g5⟩:=hf it (by simp)
  have hl:=rv.length
  exact wpAny_pyNext_enum_end (I.ok.hd hc) he hit p.isList (by simp;omega) fun h' eb=>⟨rfl,I.turned (t':=s.toks) (fun b o hb q=>eb b o hb q) g0 g1 g3 g4 g5⟩
 self:=fun _ _ _ _ _ st h=>by
  obtain⟨⟨old,he⟩,_⟩:=st
  exact ak1 he h
theorem bz3 {a:Expr}{ta:TA}{elts:List Expr}{x1:Nat}{tpos p:Pos}(hg:Gl X "enumerate")(hm:X.mg "enumerate"=none)(ha:PA X [a] ta)(hv:K5 "enumerate"=some (.type "enumerate"):=by rfl)(hs:A4 [a] X.env=[(false,eval a X.env)]:=by rfl) :
  PI X (.Tuple elts x1 tpos) (.Call (.Name "enumerate" p) [a] [] pos) (ca0 X.K ta):=by
 intro pins s σ H R I h
 refine Call_ (Y5 I hg hm hv (PyProof.Rows.callWith_type1 (thn (ha pos pins s σ H _ I h) fun us s1 ⟨vs,H1,I1,r1,q1⟩=>?_) hs rfl))
 obtain⟨b,e,⟨xs,hq⟩,q⟩:=q1
 subst e
 obtain⟨u,rfl,rx⟩:=vals1 r1
 cases rx
 obtain⟨its,rv,pl,hz⟩:=I1.list hq
 refine call_enumerate_list pl.isList fun h' he hit hsz kp=>?_
 refine ak1 he ?_
 have hne:s1.heap.objs.size+1≠s1.heap.objs.size:=Nat.succ_ne_self _
 refine⟨s1.heap.objs.size+1,[s1.heap.objs.size+1,s1.heap.objs.size],_,_,H1,rfl,I1.kept (t':=s1.toks) kp,be2 b s1.heap.objs.size (s1.heap.objs.size+1) hne,⟨⟨_,he⟩,hit⟩,fun c hc=>?_,q⟩
 rcases d3.mp hc with rfl | hc
 ·exact I1.fpOk (V3 _) (I1.hok.fresh (V3 _))
 ·have e:c=s1.heap.objs.size:=by simpa using hc
  subst e
  exact I1.fpOk (c6 _) (I1.hok.fresh (c6 _))
theorem J7 {K:W.Frag}{D:Addr}{g:TG}{tt:TT}{σ0:St}{H0:Hp}(Pv:Nat->List V->St->Hp->Prop)(h0:Pv 0 [] σ0 H0)(hz:ys.length<=f6)(hl:∀ i xs σ H,i<=ys.length->Pv i xs σ H->SqL K H a ys/\H D=some (.lst xs)/\xs.length<=i)
  (hs:∀ i xs x σ H (N:List V->St->Hp->Prop),(∀ xs' σ' H',Pv (i+1) xs' σ' H'->N xs' σ' H')->ys[i]?=some x->Pv i xs σ H->g x σ H fun σ2 H2=>tt σ2 H2 fun b H3=>if b=true then te σ2 H3 fun v H4=>H4 D=some (.lst xs)/\N (xs++[v]) σ2 (upd H4 D (.lst (xs++[v]))) else N xs σ2 H3)
  (hd:∀ xs σ H,Pv ys.length xs σ H->Qd H) :
  ∃ W:Nat->Nat->List V->St->Hp->Prop,(∃ m,W 0 m [] σ0 H0)/\∀ i m xs σ' H',W i m xs σ' H'->H' D=some (.lst xs)/\(((Itl K a).stop i H'/\Qd H')\/((Itl K a).go i H'/\xs.length<f6/\∀ x H'',(Itl K a).yld i H' x H''->g x σ' H'' fun σ2 H2=>tt σ2 H2 fun b H3 =>
   if b=true then te σ2 H3 fun v H4=>H4 D=some (.lst xs)/\∃ m',m'<m/\W (i+1) m' (xs++[v]) σ2 (upd H4 D (.lst (xs++[v]))) else ∃ m',m'<m/\W (i+1) m' xs σ2 H3)):=by
 refine⟨fun i m xs σ H=>m=ys.length - i/\i<=ys.length/\Pv i xs σ H,⟨ys.length,by simp,o6 _,h0⟩,?_⟩
 rintro i m xs σ H ⟨rfl,hi,p⟩
 obtain⟨q,hD,hx⟩:=hl i xs σ H hi p
 refine⟨hD,?_⟩
 by_cases hlt:i<ys.length
 ·refine .inr ⟨⟨ys,ys[i],q,by simp[hlt]⟩,by omega,fun x H'' y=>?_⟩
  obtain⟨e,y⟩:=y
  subst e
  exact hs i xs x σ _ (fun zs σ' H'=>∃ m',m'<ys.length - i/\m'=ys.length - (i+1)/\i+1<=ys.length/\Pv (i+1) zs σ' H') (fun zs σ' H' r=>⟨_,by omega,rfl,hlt,r⟩) (y ys q) p
 ·have e:i=ys.length:=by omega
  subst e
  exact .inl ⟨⟨ys,q,c6 _⟩,hd xs σ H p⟩
theorem aA2 {K:W.Frag}{D:Addr}{g:TG}{tt:TT}{σ0:St}{H0:Hp}(Pv:Nat->List V->St->Hp->Prop)(h0:Pv 0 [] σ0 H0)(hz:ys.length<=f6)(hl:∀ i xs σ H,i<=ys.length->Pv i xs σ H->SqT K H a ys/\H D=some (.lst xs)/\xs.length<=i)
  (hs:∀ i xs x σ H (N:List V->St->Hp->Prop),(∀ xs' σ' H',Pv (i+1) xs' σ' H'->N xs' σ' H')->ys[i]?=some x->Pv i xs σ H->g x σ H fun σ2 H2=>tt σ2 H2 fun b H3=>if b=true then te σ2 H3 fun v H4=>H4 D=some (.lst xs)/\N (xs++[v]) σ2 (upd H4 D (.lst (xs++[v]))) else N xs σ2 H3)
  (hd:∀ xs σ H,Pv ys.length xs σ H->Qd H) :
  ∃ W:Nat->Nat->List V->St->Hp->Prop,(∃ m,W 0 m [] σ0 H0)/\∀ i m xs σ' H',W i m xs σ' H'->H' D=some (.lst xs)/\(((Itt K a).stop i H'/\Qd H')\/((Itt K a).go i H'/\xs.length<f6/\∀ x H'',(Itt K a).yld i H' x H''->g x σ' H'' fun σ2 H2=>tt σ2 H2 fun b H3 =>
   if b=true then te σ2 H3 fun v H4=>H4 D=some (.lst xs)/\∃ m',m'<m/\W (i+1) m' (xs++[v]) σ2 (upd H4 D (.lst (xs++[v]))) else ∃ m',m'<m/\W (i+1) m' xs σ2 H3)):=by
 refine⟨fun i m xs σ H=>m=ys.length - i/\i<=ys.length/\Pv i xs σ H,⟨ys.length,by simp,o6 _,h0⟩,?_⟩
 rintro i m xs σ H ⟨rfl,hi,p⟩
 obtain⟨q,hD,hx⟩:=hl i xs σ H hi p
 refine⟨hD,?_⟩
 by_cases hlt:i<ys.length
 ·refine .inr ⟨⟨ys,ys[i],q,by simp[hlt]⟩,by omega,fun x H'' y=>?_⟩
  obtain⟨e,y⟩:=y
  subst e
  exact hs i xs x σ _ (fun zs σ' H'=>∃ m',m'<ys.length - i/\m'=ys.length - (i+1)/\i+1<=ys.length/\Pv (i+1) zs σ' H') (fun zs σ' H' r=>⟨_,by omega,rfl,hlt,r⟩) (y ys q) p
 ·have e:i=ys.length:=by omega
  subst e
  exact .inl ⟨⟨ys,q,c6 _⟩,hd xs σ H p⟩
mutual
def Dt (K:W.Frag)(H:Hp):ad1->V->Prop
 | .none,v=>v=.non
 | .bool b,v=>v=.bl b
 | .int i,v=>v=.int i
 | .str x,v=>v=.str x
 | .list ds,v=>∃ a xs,v=.ref a/\SqL K H a xs/\C1 K H ds xs
 | .tuple ds,v=>∃ a xs,v=.ref a/\SqT K H a xs/\C1 K H ds xs
 | .dict _,_=>False
def C1 (K:W.Frag)(H:Hp):List ad1->List V->Prop
 | [],xs=>xs=[]
 | d::ds,xs=>∃ y ys,xs=y::ys/\Dt K H d y/\C1 K H ds ys
end
mutual
theorem Dt.reads (I:Inv X pins σ H s):∀ (d:ad1) (v:V) (u:Value),Dt X.K H d v->RelV v u->∃ as,Reads s.heap u d as
 | .none,v,u,h,r=>by unfold Dt at h;subst h;cases r;exact⟨_,.none⟩
 | .bool b,v,u,h,r=>by unfold Dt at h;subst h;cases r;exact⟨_,.bool b⟩
 | .int i,v,u,h,r=>by unfold Dt at h;subst h;obtain⟨t,rfl⟩:=r;exact⟨_,.int i t⟩
 | .str x,v,u,h,r=>by unfold Dt at h;subst h;obtain⟨t,rfl⟩:=r;exact⟨_,.str x t⟩
 | .list ds,v,u,h,r=>by
  unfold Dt at h
  obtain⟨a,xs,rfl,hq,hd⟩:=h
  cases r
  obtain⟨its,rv,⟨o,n,ho,hc,_,hdd⟩,_⟩:=I.list hq
  obtain⟨as,ra⟩:=C1.reads I ds xs its hd rv
  exact⟨_,.list ho hc hdd (by simpa using ra)⟩
 | .tuple ds,v,u,h,r=>by
  unfold Dt at h
  obtain⟨a,xs,rfl,hq,hd⟩:=h
  cases r
  obtain⟨its,rv,⟨o,ho,hc,n,hdd⟩,_⟩:=I.tuple hq
  obtain⟨as,ra⟩:=C1.reads I ds xs its hd rv
  exact⟨_,.tuple ho hc hdd (by simpa using ra)⟩
 | .dict _,v,u,h,r=>by unfold Dt at h;exact h.elim
theorem C1.reads (I:Inv X pins σ H s):∀ (ds:List ad1) (xs:List V) (us:List Value),C1 X.K H ds xs->A8 xs us->∃ as,bw2 s.heap us ds as
 | [],xs,us,h,r=>by unfold C1 at h;subst h;cases r;exact⟨_,.nil⟩
 | d::ds,xs,us,h,r=>by
  unfold C1 at h
  obtain⟨y,ys,rfl,h1,h2⟩:=h
  cases r with
  | cons q t =>
   obtain⟨as,ra⟩:=Dt.reads I d y _ h1 q
   obtain⟨bs,rb⟩:=C1.reads I ds ys _ h2 t
   exact⟨_,.cons ra rb⟩
end
mutual
theorem Dt.same {K:W.Frag}(hs:∀ b o,H b=some o->H' b=some o):∀ (d:ad1) (v:V),Dt K H d v->Dt K H' d v
 | .none,v,h=>by unfold Dt at h ⊢;exact h
 | .bool b,v,h=>by unfold Dt at h ⊢;exact h
 | .int i,v,h=>by unfold Dt at h ⊢;exact h
 | .str x,v,h=>by unfold Dt at h ⊢;exact h
 | .list ds,v,h=>by
  unfold Dt at h ⊢
  obtain⟨a,xs,rfl,hq,hd⟩:=h
  refine⟨a,xs,rfl,?_,C1.same hs ds xs hd⟩
  rcases hq with(h | ⟨o,h⟩) | h
  ·exact .inl (.inl (hs _ _ h))
  ·exact .inl (.inr ⟨o,hs _ _ h⟩)
  ·exact .inr h
 | .tuple ds,v,h=>by
  unfold Dt at h ⊢
  obtain⟨a,xs,rfl,hq,hd⟩:=h
  refine⟨a,xs,rfl,?_,C1.same hs ds xs hd⟩
  rcases hq with(h | ⟨o,h⟩) | h
  ·exact .inl (.inl (hs _ _ h))
  ·exact .inl (.inr ⟨o,hs _ _ h⟩)
  ·exact .inr h
 | .dict _,v,h=>by unfold Dt at h;exact h.elim
theorem C1.same {K:W.Frag}(hs:∀ b o,H b=some o->H' b=some o):∀ (ds:List ad1) (xs:List V),C1 K H ds xs->C1 K H' ds xs
 | [],xs,h=>by unfold C1 at h ⊢;exact h
 | d::ds,xs,h=>by
  unfold C1 at h ⊢
  obtain⟨y,ys,rfl,h1,h2⟩:=h
  exact⟨y,ys,rfl,Dt.same hs d y h1,C1.same hs ds ys h2⟩
end
theorem C1.ints {K:W.Frag}:∀ (k:List Int),C1 K H (k.map PyData.int) (k.map V.int)
 | []=>by unfold C1;rfl
 | i::k=>by
  rw[n9,n9]
  unfold C1
  exact⟨_,_,rfl,by unfold Dt;rfl,C1.ints k⟩
theorem lay_ints:∀ k:List Int,PyData.canLayAll0 (k.map .int)=true
 | []=>by simp[PyData.canLayAll0]
 | i::k=>by rw[n9];simp[PyData.canLayAll0,PyData.canLay0,lay_ints k]
theorem aQ7:∀ k k':List Int,PyData.eqvAll (k.map .int) (k'.map .int)=decide (k=k')
 | [],[]=>by simp[PyData.eqvAll]
 | [],_::_=>by simp[PyData.eqvAll]
 | _::_,[]=>by simp[PyData.eqvAll]
 | i::k,j::k'=>by
  rw[n9,n9]
  simp only[PyData.eqvAll,PyData.eqv,aQ7 k k']
  by_cases h:i=j
  ·subst h;simp
  ·simp[h]
theorem aQ8:∀ k:List Int,PyData.depthAll (k.map .int)<=1
 | []=>by simp[PyData.depthAll]
 | i::k=>by
  have:=aQ8 k
  rw[n9]
  simp only[PyData.depthAll,PyData.depth]
  omega
def bX4 (K:W.Frag)(A:Around)(neg:Bool):R2:=fun x y H Q=>∃ dx dy,Dt K H dx x/\Dt K H dy y/\dx.canLay0=true/\dy.canLay0=true/\A.units+min dx.depth dy.depth<al9/\Q (.bl (if neg then !PyData.eqv dx dy else PyData.eqv dx dy)) H
theorem bo0:OpR X (B0 .NotEq) (bX4 X.K X.A true):=by
 intro pins s σ H x y v u Q I rx ry h
 obtain⟨dx,dy,h1,h2,h3,h4,h5,q⟩:=h
 obtain⟨as,ra⟩:=h1.reads I dx x v rx
 obtain⟨bs,rb⟩:=h2.reads I dy y u ry
 exact SeqAt.compareNe_reads ra rb h3 h4 h5 ⟨.bl _,H,I,rfl,q⟩
def be7 (K:W.Frag)(A:Around)(neg:Bool):R2:=fun x y H Q=>∃ p xs dx ds,y=.ref p/\(SqL K H p xs\/SqT K H p xs)/\Dt K H dx x/\C1 K H ds xs/\dx.canLay0=true/\PyData.canLayAll0 ds=true/\A.units+1+dx.depth<al9 /\
 Q (.bl (if neg then !ds.any (fun d=>PyData.eqv d dx) else ds.any (fun d=>PyData.eqv d dx))) H
open Classical in
noncomputable def aJ2 (h:Heap)(dx:ad1)(v:Value):Bool:=if q:∃ d as,d.canLay0=true/\Reads h v d as then PyData.eqv (Classical.choose q) dx else false
theorem aJ1 {dx d:ad1}{as:List Addr}(hl:d.canLay0=true)(r:Reads h v d as):aJ2 h dx v=PyData.eqv d dx:=by
 unfold aJ2
 have q:∃ d as,d.canLay0=true/\Reads h v d as:=⟨d,as,hl,r⟩
 rw[dif_pos q]
 obtain⟨as',h1,h2⟩:=Classical.choose_spec q
 rw[SeqAt.Reads.unique _ _ _ _ _ h1 h2 r]
theorem aA9 {dx:ad1}:∀ {ds:List ad1} {us:List Value} {as:List Addr},PyData.canLayAll0 ds=true->bw2 h us ds as->us.any (aJ2 h dx)=ds.any (fun d=>PyData.eqv d dx)
 | _,_,_,_,.nil=>rfl
 | d::ds,u::us,_,hl,.cons r t=>by
  have hl':d.canLay0=true/\PyData.canLayAll0 ds=true:=by simpa [PyData.canLayAll0] using hl
  rw[ai4,ai4,aJ1 hl'.1 r,aA9 hl'.2 t]
theorem aq4:∀ {ds:List ad1} {us:List Value} {as:List Addr} {u:Value},PyData.canLayAll0 ds=true->bw2 h us ds as->u∈us->∃ d as,d.canLay0=true/\Reads h u d as
 | _,_,_,_,_,.nil,hu=>by cases hu
 | d::ds,_::us,_,u,hl,.cons r t,hu=>by
  have hl':d.canLay0=true/\PyData.canLayAll0 ds=true:=by simpa [PyData.canLayAll0] using hl
  rcases d3.mp hu with rfl | hu
  ·exact⟨d,_,hl'.1,r⟩
  ·exact aq4 hl'.2 t hu
theorem bN8:OpR X (B0 .In) (be7 X.K X.A false):=by
 intro pins s σ H x y v u Q I rx ry h
 obtain⟨p,xs,dx,ds,rfl,hq,h1,h2,h3,h4,h5,q⟩:=h
 cases ry
 obtain⟨bs,rb⟩:=h1.reads I dx x v rx
 have he:∀ (its:List Value) (as:List Addr),bw2 s.heap its ds as->∀ y,y∈its.toArray->SeqAt.EqAt X.A.in1 s y v (aJ2 s.heap dx y):=fun its as ra y hy=>by
  obtain⟨d,cs,hl,rd⟩:=aq4 h4 ra (by simpa using hy)
  rw[aJ1 hl rd]
  refine SeqAt.eqAt_reads d dx X.A.in1 s y v cs bs rd rb hl h3 ?_
  show X.A.units+1+min d.depth dx.depth<al9
  omega
 rcases hq with hq | hq
 ·obtain⟨its,rv,pl,hz⟩:=I.list hq
  obtain⟨as,ra⟩:=h2.reads I ds xs its rv
  refine SeqAt.in_listAt (aJ2 s.heap dx) pl.isList (he its as ra) ⟨.bl _,H,I,rfl,?_⟩
  rw[aj3,aA9 h4 ra]
  exact q
 ·obtain⟨its,rv,pl,hz⟩:=I.tuple hq
  obtain⟨as,ra⟩:=h2.reads I ds xs its rv
  refine SeqAt.in_tupleAt (aJ2 s.heap dx) pl (he its as ra) ⟨.bl _,H,I,rfl,?_⟩
  rw[aj3,aA9 h4 ra]
  exact q
theorem bf0:OpR X (B0 .NotIn) (be7 X.K X.A true):=by
 intro pins s σ H x y v u Q I rx ry h
 obtain⟨p,xs,dx,ds,rfl,hq,h1,h2,h3,h4,h5,q⟩:=h
 cases ry
 obtain⟨bs,rb⟩:=h1.reads I dx x v rx
 have he:∀ (its:List Value) (as:List Addr),bw2 s.heap its ds as->∀ y,y∈its.toArray->SeqAt.EqAt X.A.in1 s y v (aJ2 s.heap dx y):=fun its as ra y hy=>by
  obtain⟨d,cs,hl,rd⟩:=aq4 h4 ra (by simpa using hy)
  rw[aJ1 hl rd]
  refine SeqAt.eqAt_reads d dx X.A.in1 s y v cs bs rd rb hl h3 ?_
  show X.A.units+1+min d.depth dx.depth<al9
  omega
 rcases hq with hq | hq
 ·obtain⟨its,rv,pl,hz⟩:=I.list hq
  obtain⟨as,ra⟩:=h2.reads I ds xs its rv
  refine SeqAt.notIn_listAt (aJ2 s.heap dx) pl.isList (he its as ra) ⟨.bl _,H,I,rfl,?_⟩
  rw[aj3,aA9 h4 ra]
  exact q
 ·obtain⟨its,rv,pl,hz⟩:=I.tuple hq
  obtain⟨as,ra⟩:=h2.reads I ds xs its rv
  refine SeqAt.notIn_tupleAt (aJ2 s.heap dx) pl (he its as ra) ⟨.bl _,H,I,rfl,?_⟩
  rw[aj3,aA9 h4 ra]
  exact q
theorem aR5:R1 X (.builtin "isinstance") (fun xs H Q=>∃ x c t b,xs=[x,.ty c]/\ao0 X.K H x t/\PySem.W.kitOne X.K t (.type c)=some b/\Q (.bl b) H):=by
 intro pins s σ H xs us Q I r h
 obtain⟨x,c,t,b,rfl,ty,e,q⟩:=h
 obtain⟨u,v,rfl,ru,rv⟩:=r.two
 cases (show v=Value.type c from rv)
 exact bg5 I ru ty e fun tk=>⟨.bl b,H,I.tok _,rfl,q⟩
end L2
namespace L2
open PySem PySem.Spec PyProof.Rows
theorem Z7 (hc:X.calm=true):R1 X (.builtin "sum") (fun xs H Q=>∃ (p:Addr) (ns:List Int),xs=[.ref p]/\SqL X.K H p (ns.map V.int)/\Q (.int ns.sum) H):=by
 intro pins s σ H xs us Q I r h
 obtain⟨p,ns,rfl,hq,q⟩:=h
 obtain⟨u,rfl,rx⟩:=vals1 r
 cases rx
 obtain⟨its,r',pl,hz⟩:=I.list hq
 have hi:F1 its ns:=intsAre_of r'
 obtain⟨ys,e⟩:=hi.allInts.items
 refine sum_intListG (xs:=ys) (I.ok.hd hc) (by rw[<- e];exact pl.isList) fun h' tk t' hk=>⟨.int ns.sum,H,I.kept (t':=tk) hk,⟨t',?_⟩,q⟩
 have e2:numsOf (intItems ys).toList=ns:=by rw[<- e];exact hi.numsOf
 rw[nums_intItems]at e2
 rw[preSum_eq,j5 (by simp),e2]
def LkL (X:Cx)(scope:Scope)(cl:List (Str × Addr)):List Str->List (Option Nat)->Prop
 | [],[]=>True
 | _::N,none::lk=>LkL X scope cl N lk
 | x::N,some j::lk=>(X.N[j]?=some x/\(X.env.scope.names.lookup x=some .cell\/X.env.scope.names.lookup x=some .free)/\(cl.lookup x).isSome=true /\
  ((K7 scope cl 0 X.env).kindOf x=some .cell\/(K7 scope cl 0 X.env).kindOf x=some .free))/\LkL X scope cl N lk
 | _,_=>False
theorem LkL.len:∀ {N:List Str} {lk:List (Option Nat)},LkL X scope cl N lk->lk.length=N.length
 | [],[],_=>rfl
 | _::N,none::lk,h=>congrArg (·+1) (LkL.len (N:=N) (lk:=lk) h)
 | _::N,some _::lk,h=>congrArg (·+1) (LkL.len (N:=N) (lk:=lk) h.2)
 | [],_::_,h=>h.elim
 | _::_,[],h=>h.elim
theorem LkL.get:∀ {N:List Str} {lk:List (Option Nat)},LkL X scope cl N lk->∀ (i j:Nat) (x:Str),N[i]?=some x->lk[i]?=some (some j) ->
  X.N[j]?=some x/\(X.env.scope.names.lookup x=some .cell\/X.env.scope.names.lookup x=some .free)/\(cl.lookup x).isSome=true/\((K7 scope cl 0 X.env).kindOf x=some .cell\/(K7 scope cl 0 X.env).kindOf x=some .free)
 | [],[],_,i,j,x,h1,_=>by simp at h1
 | _::N,none::lk,h,0,j,x,h1,h2=>by simp at h2
 | _::N,none::lk,h,i+1,j,x,h1,h2=>LkL.get (N:=N) (lk:=lk) h i j x (by simpa using h1) (by simpa using h2)
 | y::N,some k::lk,h,0,j,x,h1,h2=>by
  simp at h1 h2
  subst h1 h2
  exact h.1
 | _::N,some _::lk,h,i+1,j,x,h1,h2=>LkL.get (N:=N) (lk:=lk) h.2 i j x (by simpa using h1) (by simpa using h2)
 | [],_::_,h,_,_,_,_,_=>h.elim
 | _::_,[],h,_,_,_,_,_=>h.elim
theorem LkL.ok (h:LkL X scope cl N lk):aX3 X N lk scope cl:=⟨h.len,h.get⟩
theorem G7 {A B:Hp->Prop}(h:A H):bF7 σ H (fun b H3=>if b=true then A H3 else B H3):=by
 show if true=true then A H else B H
 exact F8 h
theorem B2 {v:V}{Q:St->Hp->Prop}(h:Q (σ.set i (some v)) H):aQ1 i v σ H Q:=h
theorem SqT.updL {K:W.Frag}{xs:List V}{zs:List V}(h:SqT K H a ys)(hl:H l=some (.lst xs)):SqT K (upd H l (.lst zs)) a ys:=by
 rcases h with(h | ⟨o,h⟩) | h
 ·exact .inl (.inl (by rw[t8 (bH7 h hl (by intro z;cases z))];exact h))
 ·exact .inl (.inr ⟨o,by rw[t8 (bH7 h hl (by intro z;cases z))];exact h⟩)
 ·exact .inr h
theorem B3.updL {K:W.Frag}{xs zs:List V}(hl:H l=some (.lst xs)):∀ {ys:List V} {ks:List (List Int)},B3 K H ys ks->B3 K (upd H l (.lst zs)) ys ks
 | _,_,.nil=>.nil
 | _,_,.cons r t=>by
  obtain⟨a,h1,h2⟩:=r
  exact .cons ⟨a,h1,h2.updL hl⟩ (B3.updL hl t)
theorem B3.one {K:W.Frag}(h:SqT K H a (k.map V.int)):B3 K H [.ref a] [k]:=.cons ⟨a,rfl,h⟩ .nil
theorem o8.seqT {K:W.Frag}{xs:List V}(e:o8 H H')(h:SqT K H a xs):SqT K H' a xs:=by
 rcases h with(h | ⟨o,h⟩) | h
 ·exact .inl (.inl (e _ _ h))
 ·exact .inl (.inr ⟨o,e _ _ h⟩)
 ·exact .inr h
theorem o8.tups {K:W.Frag}(e:o8 H H')(h:B3 K H ys ks):B3 K H' ys ks:=B3.same e h
theorem o8.upd {o:HO}(e:o8 H H')(h:H l=none):o8 H (upd H' l o):=fun b u q=>by
 rw[t8 (u5 q h)]
 exact e b u q
end L2
namespace L2
open PySem
theorem aq8 (xs:List V)(k:Nat):al1 xs (some (k:Int)) none=xs.drop k:=by
 unfold al1
 rw[HT.aZ2,HT.aM5]
 rcases Nat.le_total k xs.length with h | h
 ·rw[Nat.min_eq_left h]
  exact j5 (by rw[x6];omega)
 ·rw[Nat.min_eq_right h,bj0 h,bj0 (c6 _)]
  simp
theorem bD7 (xs:List V)(k:Nat):al1 xs none (some (k:Int))=xs.take k:=by
 unfold al1
 rw[HT.aZ2,HT.aM5,aX5,Nat.sub_zero]
 rcases Nat.le_total k xs.length with h | h
 ·rw[Nat.min_eq_left h]
 ·rw[Nat.min_eq_right h,j5 h,j5 (c6 _)]
theorem aJ6 (K:W.Frag)(hK:X.K=K):R1 X (.builtin "isinstance") (fun xs H Q=>∃ x c t b,xs=[x,.ty c]/\ao0 K H x t/\PySem.W.kitOne K t (.type c)=some b/\Q (.bl b) H):=by
 subst hK
 exact aR5
theorem aT2 {u d:Nat}(h:u+64<al9)(hd:d<=60):u+1+d<al9:=by omega
theorem bF6 {u d:Nat}(h:u+64<al9)(hd:d<=64):u+d<al9:=by omega
theorem Dt.mkInt {K:W.Frag}{i:Int}:Dt K H (.int i) (.int i):=by unfold Dt;rfl
theorem Dt.mkL {K:W.Frag}{xs:List V}{ds:List ad1}(h:SqL K H a xs)(d:C1 K H ds xs):Dt K H (.list ds) (.ref a):=by unfold Dt;exact⟨a,xs,rfl,h,d⟩
theorem Dt.mkT {K:W.Frag}{xs:List V}{ds:List ad1}(h:SqT K H a xs)(d:C1 K H ds xs):Dt K H (.tuple ds) (.ref a):=by unfold Dt;exact⟨a,xs,rfl,h,d⟩
theorem C1.mkN {K:W.Frag}:C1 K H [] []:=by unfold C1;rfl
theorem C1.mkC {K:W.Frag}{d:ad1}{x:V}{ds:List ad1}{xs:List V}(h:Dt K H d x)(t:C1 K H ds xs):C1 K H (d::ds) (x::xs):=by unfold C1;exact⟨x,xs,rfl,h,t⟩
theorem C7 {z:Int}{Q:St->Hp->Prop}(h:∀ c:Int,c=z->aQ1 i (.int c) σ H Q):aQ1 i (.int z) σ H Q:=h z rfl
theorem int_at {x:V}(h:(ns.map V.int)[i]?=some x):∃ z:Int,x=V.int z:=by
 rw[m9]at h
 cases e:ns[i]? with
 | none=>rw[e]at h;cases h
 | some z=>rw[e]at h;exact⟨z,(Option.some.inj h).symm⟩
theorem bh2 (ns:List Int)(lo hi:Option Int):∃ ms:List Int,al1 (ns.map V.int) lo hi=ms.map V.int/\ms.length<=ns.length:=by
 unfold al1
 rw[<- aB1,<- aB2]
 exact⟨_,rfl,by rw[l6,x6];omega⟩
theorem ah8 (h:j<n):ixN n (j:Int)=some j:=by
 unfold ixN
 rw[if_pos (by omega),if_pos (by omega)]
 simp
theorem bp1 (k:List Int):(PyData.list (k.map .int)).canLay0=true:=by simp[PyData.canLay0,lay_ints]
theorem bR0 (k:List Int):(PyData.list (k.map .int)).depth<=2:=by
 have:=aQ8 k
 simp only[PyData.depth]
 omega
theorem bQ8 (a b:List Int):PyData.eqv (.list (a.map .int)) (.list (b.map .int))=decide (a=b):=by
 simp only[PyData.eqv]
 exact aQ7 a b
theorem Dt.mkLi {K:W.Frag}(h:SqL K H a (k.map V.int)):Dt K H (.list (k.map .int)) (.ref a):=Dt.mkL h (C1.ints k)
end L2
namespace Web
open PySem L2
def ai2 (i m:Nat):List (List Int):=(x8 m).map fun(d:Nat)=>([(i:Int),(i:Int)+1+(d:Int)]:List Int)
def V6 (n:Nat):List (List Int):=(x8 n).flatMap fun i=>ai2 i (n - (i+1))
def Up (n:Nat)(k:List Int):Prop:=∃ i j:Nat,i<j/\j<n/\k=[(i:Int),(j:Int)]
theorem bf9 (h:k∈V6 n):Up n k:=by
 unfold V6 at h
 obtain⟨i,hi,hk⟩:=bT5.mp h
 unfold ai2 at hk
 obtain⟨d,hd,rfl⟩:=m5.mp hk
 rw[y9]at hi hd
 exact⟨i,i+1+d,by omega,by omega,by simp⟩
def Asc (ks:List (List Int)):Prop:=ks.Pairwise fun a b=>Tim.J3 a b=true
theorem aE4:∀ n:Nat,n<=24->(V6 n).length<=276:=by decide +kernel
theorem ay0 (n i:Nat):((x8 (i+1)).flatMap fun j=>ai2 j (n - (j+1)))=((x8 i).flatMap fun j=>ai2 j (n - (j+1)))++ai2 i (n - (i+1)):=by
 rw[M0,bE9]
 simp
theorem be6 (i m:Nat):ai2 i (m+1)=ai2 i m++[[(i:Int),(i:Int)+1+(m:Int)]]:=by
 unfold ai2
 rw[M0,c8]
 rfl
theorem bp0 (n:Nat):∀ i:Nat,i<=n->((x8 i).flatMap fun j=>ai2 j (n - (j+1))).length<=(V6 n).length:=by
 intro i hi
 unfold V6
 obtain⟨d,rfl⟩:=Nat.exists_eq_add_of_le hi
 rw[List.range_add,bE9,i9]
 omega
theorem bi2 (h:Asc ks):ks.Nodup:=by
 refine List.Pairwise.imp ?_ h
 intro a b hab e
 subst e
 rw[Tim.an4]at hab
 cases hab
def up:List Int->List Int
 | [a,b]=>[if b<a then b else a,if b > a then b else a]
 | k=>k
theorem Up.key (h:Up n k)(hn:n<=24):Sett.at5 k:=by
 obtain⟨i,j,h1,h2,rfl⟩:=h
 exact⟨i,j,by omega,by omega,rfl⟩
theorem Up.len (h:Up n k):k.length=2:=by
 obtain⟨i,j,h1,h2,rfl⟩:=h
 rfl
def aj2 (n:Nat)(k:List Int):Prop:=∃ i j:Nat,i<n/\j<n/\i≠j/\k=[(i:Int),(j:Int)]
theorem aj2.up (h:aj2 n k):Up n (up k):=by
 obtain⟨i,j,h1,h2,h3,rfl⟩:=h
 show Up n [if (j:Int)<i then (j:Int) else i,if (j:Int) > i then (j:Int) else i]
 by_cases h:i<j
 ·rw[if_neg (by omega),if_pos (by omega)]
  exact⟨i,j,h,h2,rfl⟩
 ·rw[if_pos (by omega),if_neg (by omega)]
  exact⟨j,i,by omega,h1,rfl⟩
theorem Up.ends (h:Up n k):aj2 n k:=by
 obtain⟨i,j,h1,h2,rfl⟩:=h
 exact⟨i,j,by omega,h2,by omega,rfl⟩
end Web
namespace L2
open PySem
def W6.around {k:Nat}{A:Around}(_:W6 k A):Around:=A
theorem ba2 (K:W.Frag)(A:Around)(hK:X.K=K)(hA:X.A=A):OpR X (B0 .In) (be7 K A false):=by subst hK hA;exact bN8
theorem aU8 (K:W.Frag)(A:Around)(hK:X.K=K)(hA:X.A=A):OpR X (B0 .NotIn) (be7 K A true):=by subst hK hA;exact bf0
end L2
namespace L2
open PySem PySem.Spec PyProof.Rows
section
variable {o:Expr} {es:List Expr} {to:TE} {t:TA} {name:Str} {apos cpos:Pos} {T id:String}
theorem bN4 (K:W.Frag)(hK:X.K=K){te:TE}(h:PE X e (tBM X.K T r to t)):PE X e (tBM K T r to t):=by subst hK;exact h
theorem aA1 (p:Int):∀ k:List Int,(k.map PyData.int).any (fun d=>PyData.eqv d (.int p))=decide (p∈k)
 | []=>by simp
 | i::k=>by
  rw[n9,ai4,aA1 p k]
  by_cases h:i=p
  ·subst h;simp[PyData.eqv]
  ·have h':p≠i:=fun e=>h e.symm
   simp[PyData.eqv,h,h']
end
theorem ba9:∀ {vs:List Value} {n i:Nat},vs.length=n->(∀ j v,vs[j]?=some v->∃ t,v=Value.int (((i+j:Nat):Int)) t)->F1 vs ((ai5 i n).map fun k:Nat=>(k:Int))
 | [],n,i,e,_=>by subst e;exact .nil
 | v::vs,0,i,e,_=>by cases e
 | v::vs,n+1,i,e,h=>by
  obtain⟨t,rfl⟩:=h 0 v rfl
  rw[List.range'_succ,n9]
  refine .cons _ t (ba9 (by simpa using e) fun j v hv=>?_)
  obtain⟨t',e'⟩:=h (j+1) v (by simpa using hv)
  exact⟨t',by rw[e'];congr 2;omega⟩
theorem aR1 {r:Addr}{t u v:Tok}{Q:List Value->Shared->Prop}(hh:A.handled=none)(hr:IsRange s.heap r 0 n 1 t u v)(hn:n<=1000)
  (h:∀ h' tk vs,(∀ b o,s.heap.get? b=some o->h'.get? b=some o)->F1 vs ((ai5 0 n).map fun k:Nat=>(k:Int))->Q vs { s with heap:=h',toks:=tk }) :
  r6 (o7 prog w) A (collect (.ref r)) Q E s:=by
 unfold collect
 refine a7 (wpAny_runValue (ad0 F.entry_proto_collect ?_))
 rw[Around.under_plainId F.plain_proto_collect _]
 show r6 _ A.in1 (bU4 [] >>= fun l=>bc9 (.builtin "list.__iadd__" ⟨[l,.ref r],[]⟩)) _ _ s
 refine a7 (aK9 ?_)
 refine i8 ⟨plainId_quiet F.plain_list_iadd _,ad0 F.entry_list_iadd ?_⟩
 rw[Around.under_plainId F.plain_list_iadd _]
 show r6 _ A.in1 (Builtin.List.listExtendWith (.ref s.heap.objs.size) (.ref r) (.ref s.heap.objs.size)) _ _ _
 have hS:(s.heap.push { cls:=.type "list",data:=.seq ([]:List Value).toArray }).get? s.heap.objs.size=some { cls:=.type "list",data:=.seq #[] }:=j8 _ rfl
 have hrs:Builtin.Range.rangeSize 0 n 1=(n:Int):=by rw[rangeSize_one];split<;>omega
 refine wpAny_extend_range (R:=fun rr s'=>match rr with
  | .ok (.ret v)=>r6 (o7 prog w) A (match v with
   | .ref a=>(do
    let o <- load a
    match o.data with
    | .seq xs _=>pure xs.toList
    | _=>ac9 "internal:collect")
   | _=>ac9 "internal:collect") Q E s'
  | .ok _=>False
  | .error e=>E e s') (s:={ s with heap:=s.heap.push { cls:=.type "list",data:=.seq ([]:List Value).toArray } }) (n:=n) hh (a8 _ hr) (small_one (by omega) (by omega) (by omega) (by omega)) hrs (by omega) s.heap.objs.size _ 0 hS fun h' tk acc' c' hk hS' hacc=>?_
 show r6 _ A (load s.heap.objs.size >>= _) _ _ _
 refine a7 (wpAny_load hS' ?_)
 refine i8 (h h' tk _ (fun b o e=>hk b o (k7 (f9 e)) (a8 _ e)) (ba9 (by rw[j3];exact hacc.1) fun j v hj=>?_))
 obtain⟨t',e⟩:=hacc.2 j v (by rw[<- b9];exact hj)
 exact⟨t',by rw[e];congr 1;omega⟩
theorem M7.to {b:Addr}(f:M7 X pins H b)(h:H' b=none):M7 X pins H' b:=⟨h,f.2⟩
theorem Inv.turn {t':Nat}{it:Addr}(I:Inv X pins σ H s)(f:M7 X pins H it)(k:∀ b o,b≠it->s.heap.get? b=some o->h'.get? b=some o):Inv X pins σ H { s with heap:=h',toks:=t' }:=
 I.turned k f.1 f.2.1 f.2.2.2.1 f.2.2.2.2.1 f.2.2.2.2.2
theorem Inv.take {t':Nat}{o:HO}(I:Inv X pins σ H s)(f:M7 X pins H a)(k:∀ b u,b≠a->s.heap.get? b=some u->h'.get? b=some u)(new:M9 X.prog X.w (upd H a o) h' a o):Inv X pins σ (upd H a o) { s with heap:=h',toks:=t' }:=by
 have hn:=f.1
 have ne:∀ b u,H b=some u->b≠a:=fun b u e=>u5 e hn
 have kp:∀ b u,H b=some u->upd H a o b=some u:=fun b u e=>by rw[t8 (ne b u e)];exact e
 refine I.step (g':=s.gens) (d':=s.drawn) (ch:=[a]) (fun b hb=>?_) (fun b u _ _ hc e _=>k b u (fun z=>hc (by simp[z])) e) (fun b u _ _ hc e _=>⟨u.slots,k b u (fun z=>hc (by simp[z])) e⟩) (fun b u hc _ n=>by rw[t8 (fun z=>hc (by simp[z]))];exact n)
  (fun b u hc e=>⟨u,k b u (fun z=>hc (by simp[z])) e⟩) (fun b xs e=>kp b _ e) (fun b u xs e=>kp b _ e) (fun b ps e=>⟨#[],by rw[kp b _ e];simp⟩) (fun m hm=>?_) (fun b u e=>?_) I.bare
 ·have e:b=a:=by simpa using hb
  subst e
  exact⟨f.2.2.2.1,f.2.1,f.2.2.2.2.1,f.2.2.2.2.2⟩
 ·obtain⟨o',es,ep,ho,r⟩:=hm
  exact⟨o',es,ep,k _ o' (Ne.symm f.2.1) ho,r⟩
 ·by_cases hb:b=a
  ·subst hb
   rw[a9]at e
   cases e
   exact new
  ·rw[t8 hb]at e
   refine(I.hok b u e).stay (fun c v hc q=>k c v ?_ q) (fun c q=>?_) fun c xs q=>?_
   ·rcases hc with z | z
    ·rw[z];exact hb
    ·exact ne c _ z
   ·exact kp _ _ q
   ·exact kp _ _ q
abbrev aJ9 (X:Cx)(A:Around)(σ:St)(H:Hp)(f:Value)(key:Int->List Int)(z:Int):Prop:=∀ (t:Tok) (pins':List (Addr × Obj)) (s':Shared) (H':Hp),Inv X pins' σ H' s'->o8 H H' ->
 r6 (o7 X.prog X.w) A (call f [.int z t]) (fun u s''=>∃ k H'',u=.ref k/\H'' k=some (.tup ((key z).map V.int))/\Inv X pins' σ H'' s''/\o8 H' H'') (fun _ _=>False) s'
abbrev aK0 (X:Cx)(pins:List (Addr × Obj))(σ:St)(H:Hp)(a:Addr)(zs:List Int)(key:Int->List Int)(P:PySem.Fin->Shared->Prop):Prop:=∀ (H':Hp) (s':Shared) (out:List Value) (zs':List Int) (c:Nat),Inv X pins σ H' s'->o8 H H'->M7 X pins H' a ->
 s'.heap.get? a=some (E7 "list" out.toArray c)->F1 out zs'->zs'.Perm zs->zs'.Pairwise (fun x y=>Tim.J3 (key y) (key x)=false)->P (.done (.ret .none)) s'
theorem az7 {key:Int->List Int}:∀ {ks vs:List Value} {zs:List Int},Y0 (fun u k=>Tim.IsK prog w h k u) ks (zs.map key)->F1 vs zs ->
  (∀ p∈ks.zip vs,Tim.IsK prog w h (key (numOf p.2)) p.1)/\(ks.zip vs).map (fun p=>numOf p.2)=zs
 | _,_,[],.nil,.nil=>⟨fun p h=>(nomatch h),rfl⟩
 | _,_,z::zs,.cons r t,.cons _ t' q=>by
  obtain⟨h1,h2⟩:=az7 t q
  refine⟨fun p hp=>?_,by rw[T5,n9,h2];rfl⟩
  rw[T5]at hp
  rcases d3.mp hp with rfl | hp
  ·exact r
  ·exact h1 p hp
theorem aE7:∀ {vs:List Value} {zs:List Int},F1 vs zs->∀ v∈vs,∃ t,v=.int (numOf v) t
 | _,_,.nil,v,h=>by cases h
 | _,_,.cons z t q,v,h=>by
  rcases d3.mp h with rfl | h
  ·exact⟨t,rfl⟩
  ·exact aE7 q v h
theorem bb0:∀ {vs:List Value},(∀ v∈vs,∃ t,v=.int (numOf v) t)->F1 vs (vs.map numOf)
 | [],_=>.nil
 | v::vs,h=>by
  obtain⟨t,e⟩:=h v c5
  rw[n9]
  rw[e]
  exact .cons _ t (bb0 fun v hv=>h v (b7 _ hv))
set_option maxHeartbeats 2000000 in
theorem aP3 {kS:Addr}{keys:Array Value}{e e1:Nat}{key:Int->List Int}{P:PySem.Fin->Shared->Prop}{st:SortSt}{H0:Hp}(I:Inv X pins σ H s)(hS:o8 H0 H)(hk:s.heap.get? kS=some (E7 "list" keys e))(ha:s.heap.get? a=some (E7 "list" #[] e1))
  (fk:M7 X pins H kS)(fa:M7 X pins H a)(hka:kS≠a)(hz:vs.length<=1000)(hkl:keys.size=vs.length)(hi:F1 vs zs)
  (hK:Y0 (fun u k=>Tim.IsK X.prog X.w s.heap k u) keys.toList (zs.map key))(hp:(l5 st).Perm (keys.zip vs.toArray))(hf:K6 st=none)
  (hs:(l5 st).toList.Pairwise (Tim.le (Tim.Bf (O:=Tim.aV5) fun p=>Tim.R9 X.prog X.w s.heap p.1)))(h:aK0 X pins σ H0 a zs key P) :
  r6 (o7 X.prog X.w) A (ksk_tail a false e1 (.ref kS) st) P E s:=by
 obtain⟨k1,k2⟩:=az7 hK hi
 have hl:(l5 st).toList.Perm (keys.toList.zip vs):=by rw[<- ksk_zip];exact J2.mp hp
 have hsz2:(l5 st).size=vs.length:=by rw[hp.size_eq,Array.size_zip,hkl,d9,Nat.min_self]
 have s1:=Heap.SameBut.update s.heap kS (Obj.mapSeq fun _=>(#[]:Array Value))
 have na1:(s.heap.update kS (Obj.mapSeq fun _=>(#[]:Array Value))).get? a=some (E7 "list" #[] e1):=(s1.2 a hka.symm).trans ha
 have hout:((l5 st).map (·.2)).size=vs.length:=by rw[ac4];exact hsz2
 have hmem:∀ v∈(l5 st).toList.map (·.2),∃ t,v=.int (numOf v) t:=fun v hv=>by
  obtain⟨p,hp',rfl⟩:=m5.mp hv
  exact aE7 hi _ (ao2 (hl.mem_iff.mp hp')).2
 unfold ksk_tail
 dsimp only
 refine a7 (aa6 hk rfl ?_ (by rw[hkl,r9];omega) (o6 _))
 refine a7 (wpAny_letGo ?_)
 refine a7 (bd3 na1 rfl ?_)
 refine a7 (aa6 na1 rfl ?_ (o6 _) (p9 (ao9 hout) (by rw[r9];omega)))
 rw[hf]
 simp only[bne_self_eq_false,l9,if_false]
 have I1:Inv X pins σ H { s with heap:=s.heap.update kS (Obj.mapSeq fun _=>(#[]:Array Value)),toks:=s.toks }:=I.turn fk fun b o hb q=>(s1.2 b hb).trans q
 have s2:=Heap.SameBut.update (s.heap.update kS (Obj.mapSeq fun _=>(#[]:Array Value))) a (Obj.mapSeq fun _=>(l5 st).map (·.2))
 have I2:Inv X pins σ H { s with heap:=(s.heap.update kS (Obj.mapSeq fun _=>(#[]:Array Value))).update a (Obj.mapSeq fun _=>(l5 st).map (·.2)),toks:=s.toks }:=
  I1.turn (t':=s.toks) fa fun b o hb q=>(s2.2 b hb).trans q
 obtain⟨c2,hc2⟩:∃ c2,((s.heap.update kS (Obj.mapSeq fun _=>(#[]:Array Value))).update a (Obj.mapSeq fun _=>(l5 st).map (·.2))).get? a=some (E7 "list" ((l5 st).map (·.2)) c2):=⟨_,U3 na1 fun _=>(l5 st).map (·.2)⟩
 have eo:((l5 st).toList.map (·.2)).toArray=(l5 st).map (·.2):=by rw[<- bS1,ap0]
 refine i8 (h H _ ((l5 st).toList.map (·.2)) (((l5 st).toList.map (·.2)).map numOf) c2 I2 hS fa (by rw[eo];exact hc2) (bb0 hmem) ?_ ?_)
 ·have:=hl.map fun p=>numOf p.2
  rw[k2]at this
  rw[W2]
  exact this
 ·rw[W2,L9]
  refine List.Pairwise.imp_of_mem ?_ hs
  intro x y hx hy hxy
  have ex:=Tim.Q8 (k1 x (hl.mem_iff.mp hx))
  have ey:=Tim.Q8 (k1 y (hl.mem_iff.mp hy))
  have hxy':Tim.J3 (Tim.R9 X.prog X.w s.heap y.1) (Tim.R9 X.prog X.w s.heap x.1)=false:=hxy
  rw[ex,ey]at hxy'
  exact hxy'
theorem bC5 {kS:Addr}{keys:Array Value}{e e1:Nat}{key:Int->List Int}{P:PySem.Fin->Shared->Prop}{H0:Hp}(I:Inv X pins σ H s)(hS:o8 H0 H)(hk:s.heap.get? kS=some (E7 "list" keys e))(ha:s.heap.get? a=some (E7 "list" #[] e1))
  (fk:M7 X pins H kS)(fa:M7 X pins H a)(hka:kS≠a)(hz:vs.length<=1000)(hkl:keys.size=vs.length)(hi:F1 vs zs)
  (hK:Y0 (fun u k=>Tim.IsK X.prog X.w s.heap k u) keys.toList (zs.map key))(hne:∀ z,∃ i k,key z=i::k)(h:aK0 X pins σ H0 a zs key P) :
  r6 (o7 X.prog X.w) A (ksk_end a false vs.toArray e1 (.ref kS) keys) P E s:=by
 obtain⟨k1,k2⟩:=az7 hK hi
 have hzt:=ksk_zip keys vs
 unfold ksk_end
 dsimp only
 simp only[l9,if_false]
 by_cases h2:vs.toArray.size<2
 ·rw[if_pos h2,if_pos h2]
  refine a7 (i8 ?_)
  rw[StateT.run_pure]
  refine a7 (i8 ?_)
  refine aP3 (st:=SortSt.mk' general' (keys.zip vs.toArray) #[] 7 none) I hS hk ha fk fa hka hz hkl hi hK (Array.Perm.refl _) rfl ?_ h
  show (keys.zip vs.toArray).toList.Pairwise _
  rw[o4]
  intro i j hi hj hij
  rw[j3,Array.size_zip,hkl]at hj
  rw[d9]at h2 hj
  omega
 ·rw[if_neg h2,if_neg h2]
  rw[d9]at h2
  have hmemK:∀ v∈keys.toList,∃ i k,Tim.IsK X.prog X.w s.heap (i::k) v:=fun v hv=>by
   obtain⟨j,hj⟩:=m8.mp hv
   obtain⟨k,q1,q2⟩:=ab3 hK hj
   obtain⟨z,_,rfl⟩:=m5.mp (b8 q1)
   obtain⟨i,k',ek⟩:=hne z
   rw[ek]at q2
   exact⟨i,k',q2⟩
  have kk:keyKind' keys=keyKind' keys.toList.toArray:=by rw[ap0]
  rw[kk]
  refine a7 (Tim.az6 (vs:=keys.toList) (by rw[j3,hkl];omega) hmemK ?_)
  refine a7 (B6 (Tim.ar8 (a₀:=keys.zip vs.toArray) (κ:=bw0 true) (O:=Tim.aV5) (f:=fun p=>Tim.R9 X.prog X.w s.heap p.1) (st:=SortSt.mk' (bw0 true) (keys.zip vs.toArray) #[] 7 none)
   (Q:=fun _ st'=>(l5 st').Perm (keys.zip vs.toArray)/\K6 st'=none/\(l5 st').toList.Pairwise (Tim.le (Tim.Bf (O:=Tim.aV5) fun p=>Tim.R9 X.prog X.w s.heap p.1))) ?_ ([]:List Int) (Array.Perm.refl _) rfl rfl rfl fun st' a1 a2 a3=>⟨a1,a2,a3⟩) ?_ fun _ _ e=>e)
  ·intro x y hx hy Q hq
   rw[hzt]at hx hy
   refine Tim.aO9 (k1 x hx) (k1 y hy) ?_
   rw[<- Tim.Q8 (k1 x hx),<- Tim.Q8 (k1 y hy)]
   exact hq
  ·rintro⟨⟨⟩,st'⟩ s' ⟨rfl,hp,hf,hs⟩
   exact aP3 I hS hk ha fk fa hka hz hkl hi hK hp hf hs h
theorem bq8:∀ {vs:List Value} {zs:List Int} {j:Nat} {x:Value},F1 vs zs->vs[j]?=some x->∃ z t,zs[j]?=some z/\x=.int z t
 | _,_,_,_,.nil,h=>by simp at h
 | _,_,0,_,.cons n t q,h=>by simp at h;exact⟨n,t,rfl,h.symm⟩
 | _,_,j+1,_,.cons n t q,h=>by
  obtain⟨z,t',h1,h2⟩:=bq8 q (by simpa using h)
  exact⟨z,t',by simpa using h1,h2⟩
theorem br2 {s':Shared}{b:Addr}{o:Obj}(I:Inv X (pins++ae8 fp h) σ H' s')(hb:b∈fp)(e:h.get? b=some o):s'.heap.get? b=some o/\H' b=none:=
 let p:=I.pin (b,o) (j2 _ (j2 _ (L0 hb e)))
 ⟨p.1,p.2.1⟩
theorem bq0 {kS:Addr}{f:Value}{e1:Nat}{key:Int->List Int}{P:PySem.Fin->Shared->Prop}(I:Inv X pins σ H s)(hk:s.heap.get? kS=some (E7 "list" #[] 0))(ha:s.heap.get? a=some (E7 "list" #[] e1))
  (fk:M7 X pins H kS)(fa:M7 X pins H a)(hka:kS≠a)(hz:vs.length<=1000)(hi:F1 vs zs)(hne:∀ z,∃ i k,key z=i::k)(turn:∀ z∈zs,aJ9 X A σ H f key z)(h:aK0 X pins σ H a zs key P) :
  r6 (o7 X.prog X.w) A (ksk_rest a f false vs.toArray e1 (.ref kS)) P E s:=by
 have hlen:=hi.length
 unfold ksk_rest
 refine a7 (bu6 ?_)
 first
  | rw[List.forIn_toArray]
  | (rw[<- ac0];simp only[bF0])
  | rw[<- ac0]
 refine a7 (ksk_fold (fun i s'=>∃ (kA:Array Value) (e:Nat) (H':Hp) (ys:List V),Inv X pins σ H' s'/\o8 H H'/\s'.heap.get? kS=some (E7 "list" kA e)/\s'.heap.get? a=some (E7 "list" #[] e1)/\M7 X pins H' kS/\M7 X pins H' a /\
   A8 ys kA.toList/\B3 X.K H' ys ((zs.take i).map key)) vs 0 s ⟨#[],0,H,[],I,o8.refl H,hk,ha,fk,fa,.nil,.nil⟩ ?step ?done)
 case step =>
  rintro j x s' hx ⟨kA,e,H',ys,I',hS,hk',ha',fk',fa',hv,ht⟩
  simp only[K2]at ht ⊢
  have hj:j<vs.length:=(c4.mp hx).1
  obtain⟨z,t,hzj,rfl⟩:=bq8 hi hx
  have hzA:kA.size<=vs.length:=by
   have h1:ys.length=kA.size:=by rw[<- j3];exact hv.length
   have h2:=ht.len
   rw[a5,l6]at h2
   omega
  have Ip:=I'.pinned (fp:=[kS,a]) (fun b hb=>by
   rcases d3.mp hb with rfl | hb
   ·exact fk'
   ·rw[n5.mp hb];exact fa') (fun b hb=>by
   rcases d3.mp hb with rfl | hb
   ·exact⟨_,hk',fun v q=>by cases q⟩
   ·rw[n5.mp hb];exact⟨_,ha',fun v q=>by cases q⟩)
  refine a7 (wpAny_attempt (B6 (turn z (b8 hzj) t _ s' H' Ip hS) (fun v s'' he=>?_) fun _ _ hF=>hF.elim))
  obtain⟨k,H'',rfl,hk'',I'',hS'⟩:=he
  obtain⟨nk,fk0⟩:=br2 I'' c5 hk'
  obtain⟨na,fa0⟩:=br2 I'' (b7 _ c5) ha'
  have Iu:=I''.unpinned
  have fk'':M7 X pins H'' kS:=fk'.to fk0
  have fa'':M7 X pins H'' a:=fa'.to fa0
  have s1:=Heap.SameBut.update s''.heap kS (Obj.mapSeq (·.push (.ref k)))
  obtain⟨c2,hc2⟩:∃ c2,(s''.heap.update kS (Obj.mapSeq (·.push (Value.ref k)))).get? kS=some (E7 "list" (kA.push (.ref k)) c2):=⟨_,U3 nk (·.push (.ref k))⟩
  have ea:(kA.push (Value.ref k)).toList=kA.toList++[Value.ref k]:=by simp
  have ek:zs.take (j+1)=zs.take j++[z]:=by rw[o5,hzj];simp
  refine a7 (aa6 nk rfl ?_ (by rw[r9];omega) (p9 (ao9 (y6 ..)) (by rw[r9];omega)))
  refine i8 ⟨rfl,kA.push (.ref k),c2,H'',ys++[.ref k],?_,hS.trans hS',hc2,(s1.2 a hka.symm).trans na,fk'',fa'',?_,?_⟩
  ·exact Iu.turn (t':=s''.toks) fk'' fun b o hb q=>(s1.2 b hb).trans q
  ·rw[ea]
   exact hv.append (.cons rfl .nil)
  ·rw[ek,c8]
   exact B3.append (B3.same hS' ht) (.cons ⟨k,rfl,.of hk''⟩ .nil)
 case done =>
  rintro s' ⟨kA,e,H',ys,I',hS,hk',ha',fk',fa',hv,ht⟩
  have e3:zs.take (0+vs.length)=zs:=j5 (by omega)
  rw[e3]at ht
  refine a7 (bJ0 hk' rfl ?_)
  have h1:ys.length=kA.size:=by rw[<- j3];exact hv.length
  have h2:=ht.len
  rw[a5]at h2
  have hK:=Z2 I' ht hv
  exact bC5 I' hS hk' ha' fk' fa' hka hz (by omega) hi (ay1 (fun u k q=>q) hK) hne h
theorem bp9 {f:Value}{key:Int->List Int}{P:PySem.Fin->Shared->Prop}(I:Inv X pins σ H s)(ha:s.heap.get? a=some (E7 "list" vs.toArray n))
  (fa:M7 X pins H a)(hz:vs.length<=1000)(hi:F1 vs zs)(hne:∀ z,∃ i k,key z=i::k)(turn:∀ z∈zs,aJ9 X A σ H f key z)(h:aK0 X pins σ H a zs key P) :
  r6 (o7 X.prog X.w) A (ksk_tree a f false) P E s:=by
 have hlt:a<s.heap.objs.size:=f9 ha
 have s1:=Heap.SameBut.update s.heap a (Obj.mapSeq fun _=>(#[]:Array Value))
 obtain⟨e1,ho1⟩:∃ e1,(s.heap.update a (Obj.mapSeq fun _=>(#[]:Array Value))).get? a=some (E7 "list" #[] e1):=⟨_,U3 ha fun _=>#[]⟩
 have I1:Inv X pins σ H { s with heap:=s.heap.update a (Obj.mapSeq fun _=>(#[]:Array Value)),toks:=s.toks }:=I.turn fa fun b o hb q=>(s1.2 b hb).trans q
 unfold ksk_tree
 refine a7 (bJ0 ha rfl ?_)
 refine a7 (aa6 ha rfl ?_ (by rw[d9,r9];omega) (o6 _))
 refine a7 (bd3 ho1 rfl ?_)
 refine a7 (wpAny_newTuple ?_ (by show vs.length<=_;rw[r9];omega))
 refine a7 (Q2 ?_ (o6 _))
 refine D9 ?_
 generalize hh2:(s.heap.update a (Obj.mapSeq fun _=>(#[]:Array Value))).push (E7 "tuple" vs.toArray 0)=h2
 have hsz:h2.objs.size=s.heap.objs.size+1:=by rw[<- hh2,bu8,bT2]
 have I2:Inv X pins σ H { s with heap:=h2,toks:=s.toks }:=I1.kept (t':=s.toks) fun b o q=>by rw[<- hh2];exact a8 _ q
 have I3:Inv X pins σ H { s with heap:=h2.push (E7 "list" #[] 0),toks:=s.toks }:=I2.kept (t':=s.toks) fun b o q=>a8 _ q
 have fk:M7 X pins H h2.objs.size:=I2.fpOk (c6 _) (I2.hok.fresh (c6 _))
 refine bq0 (s:={ s with heap:=h2.push (E7 "list" #[] 0),toks:=s.toks }) (kS:=h2.objs.size) (e1:=e1) I3 (j8 _ rfl) ?_ fk fa (by rw[hsz];exact S4 (C3 hlt)) hz hi hne turn h
 refine a8 _ ?_
 rw[<- hh2]
 exact a8 _ ho1
theorem aU0 {r q:Addr}{key:Int->List Int}(I:Inv X pins σ H s)(hh:A.handled=none)(hr:∃ t u v,IsRange s.heap r 0 n 1 t u v)(hn:n<=1000)(hne:∀ z,∃ i k,key z=i::k)
  (turn:∀ z∈(ai5 0 n).map (fun k:Nat=>(k:Int)),aJ9 X A.in1.in1 σ H (.ref q) key z)
  (h:∀ (H':Hp) (s':Shared) (D:Addr) (zs:List Int),o8 H H'->H' D=none->zs.Perm ((ai5 0 n).map fun k:Nat=>(k:Int))->zs.Pairwise (fun x y=>Tim.J3 (key y) (key x)=false)->Inv X pins σ (upd H' D (.lst (zs.map V.int))) s'->Q (.ref D) s') :
  r6 (o7 X.prog X.w) A (call (.builtin "sorted") [.ref r] [(Str.ofString "key",.ref q)]) Q E s:=by
 obtain⟨t,u,v,hr⟩:=hr
 refine bF4 bU2 bJ1 bJ2 (ksk_s1 _ _) ?_
 unfold Builtin.«sorted»
 refine a7 (m:=checkCount "sorted" 1 1 _) (i8 ?_)
 refine a7 (aR1 (A:=A.in1) hh hr hn fun h1 tk vs kp hi=>?_)
 have hlen:=hi.length
 rw[a5,aB3]at hlen
 have I1:Inv X pins σ H { s with heap:=h1,toks:=tk }:=I.kept kp
 refine a7 (Q2 ?_ (by rw[r9];omega))
 have fD:M7 X pins H h1.objs.size:=I1.fpOk (c6 _) (I1.hok.fresh (c6 _))
 have I2:Inv X pins σ H { s with heap:=h1.push (E7 "list" vs.toArray 0),toks:=tk }:=I1.kept (t':=tk) fun b o q=>a8 _ q
 have hoL:(h1.push (E7 "list" vs.toArray 0)).get? h1.objs.size=some (E7 "list" vs.toArray 0):=j8 _ rfl
 refine a7 (D9 (bU5 bj2 (s:={ s with heap:=h1.push (E7 "list" vs.toArray 0),toks:=tk }) ⟨_,hoL,rfl⟩ bd4 ?body (ksk_l1 _ _)))
 show r6 (o7 X.prog X.w) A.in1.in1 (Builtin.«list.sort» ⟨[.ref h1.objs.size],[(Str.ofString "key",.ref q)]⟩) _ _ _
 rw[ksk_t1]
 refine bp9 I2 hoL fD (by omega) hi hne turn fun H' s' out zs' c I' hS fa' hout hi' hp hs=>⟨_,rfl,?_⟩
 have hl2:zs'.length<=1000:=by rw[hp.length_eq,a5,aB3];exact hn
 refine i8 ⟨_,rfl,h H' s' h1.objs.size zs' hS fa'.1 hp hs ?_⟩
 have:=I'.take (t':=s'.toks) (h':=s'.heap) (o:=.lst (zs'.map V.int)) fa' (fun b u _ q=>q) ⟨by rw[a5,r9];omega,out,c,ag8 hi',hout⟩
 exact this
abbrev aV8 (qual:Str)(scope:Scope)(cl:List (Str × Addr))(f:Addr)(cv:Value)(s:Shared):Env:=PySem.W.envX qual scope s.heap.objs.size f cv cl
def bp3 (X:Cx)(A:Around)(qual:Str)(scope:Scope)(cl:List (Str × Addr))(N':List Str)(f:Addr)(cv:Value)(s:Shared)(H:Hp):Cx:=
 { X with A:=A.deeper (aV8 qual scope cl f cv s),N:=N',s₀:=s,H₀:=H,env:=aV8 qual scope cl f cv s,outer:=X.stack,stack:=List.cons (aV8 qual scope cl f cv s) X.stack,ex:=[],fn:=fun _=>false,calm:=true,pn:=[],xe:=fun _ _=>False }
def aF7 (X:Cx)(N':List Str)(lk:List (Option Nat))(scope:Scope)(cl:List (Str × Addr)):Prop:=
 lk.length=N'.length/\∀ (i j:Nat) (x:Str),N'[i]?=some x->lk[i]?=some (some j)->X.N[j]?=some x/\(X.env.scope.names.lookup x=some .cell\/X.env.scope.names.lookup x=some .free)/\(cl.lookup x).isSome=true /\
  (scope.names.lookup x=some .cell\/scope.names.lookup x=some .free)
theorem bg3 {h1:Heap}{tk:Nat}{p:Str}{cv:Value}{v:V}(I:Inv X pins σ H s)(hA:A.frames=some X.stack)(hh:A.handled=none)(hkind:scope.kind=.function)(hcl:ar5 X.env cl)(hfr:al5 scope.names cl=true)(hlk:aF7 X N' lk scope cl)
  (hp:scope.names.lookup p=some .local)(rv:RelV v u)(hn:h1.Ns s.heap.objs.size (fun y=>[(p,u)].reverse.lookup y))(hk:∀ b o,s.heap.get? b=some o->h1.get? b=some o) :
  Inv (bp3 X A qual scope cl (p::N') f cv s H) [] (some v::Y7 lk σ) H { s with heap:=h1,toks:=tk }:=by
 have hC:H s.heap.objs.size=none:=I.hok.fresh (c6 _)
 have hmem:∀ y∈scope.names,y.2≠.cell/\(y.2=.free->(cl.lookup y.1).isSome=true):=fun y hy=>by
  unfold al5 at hfr
  rw[x9]at hfr
  have:=hfr y hy
  rw[m7]at this
  refine⟨by simpa using this.1,fun e=>?_⟩
  have h2:=this.2
  rw[e]at h2
  simpa using h2
 have hcell:∀ x c,cl.lookup x=some c->X.env.cells.lookup x=some c:=fun x c e=>hcl.get e
 have noE:∀ b:Addr,b∉([]:List Addr):=fun b z=>nomatch z
 refine⟨⟨I.ok.mod,hkind,rfl,rfl,c6 _,fun x y c e1 e2=>I.ok.inj x y c (hcell x c e1) (hcell y c e2),fun x hx=>?_,(fun x c e=>by cases e),fun _=>hh,Around.frames_deeper hA,.inr ⟨rfl,rfl⟩,fun b z=>absurd z (noE b),fun b o e=>I.bs b o e,p9 I.ok.bsz I.sz,fun b _ _=>noE b,fun b z=>absurd z (noE b),I.stack,I.stkFree⟩,
  rfl,I.bare,Un.kept hk,⟨_,hn,fun i x w e1 e2 e3=>?_⟩,fun x c e=>?_,hC,fun x c e=>I.freeC x c (hcell x c e),(fun q hq=>nomatch hq),I.hok.kept hk,?_⟩
 ·have hx':scope.names.lookup x=some .cell\/scope.names.lookup x=some .free:=hx
  rcases hx' with h | h
  ·exact absurd rfl (hmem _ (PySem.mem_of_lookup h)).1
  ·exact A7.mp ((hmem _ (PySem.mem_of_lookup h)).2 rfl)
 ·cases i with
  | zero =>
   have e1':p=x:=by simpa using (show (p::N')[0]?=some x from e1)
   have e2':v=w:=by simpa using (show (some v::Y7 lk σ)[0]?=some (some w) from e2)
   subst e1' e2'
   refine⟨u,rv,.inl ⟨hp,?_⟩⟩
   show [(p,u)].reverse.lookup p=some u
   simp[List.lookup]
  | succ i =>
   have e1':N'[i]?=some x:=by simpa using (show (p::N')[i+1]?=some x from e1)
   have e2':(Y7 lk σ)[i]?=some (some w):=by simpa using (show (some v::Y7 lk σ)[i+1]?=some (some w) from e2)
   unfold Y7 at e2'
   rw[m9]at e2'
   cases hq:lk[i]? with
   | none=>rw[hq]at e2';cases e2'
   | some o =>
    rw[hq]at e2'
    have e2'':(o.bind fun j=>(σ[j]?).join)=some w:=Option.some.inj e2'
    cases o with
    | none=>cases e2''
    | some j =>
     obtain⟨q1,q2,q3,q4⟩:=hlk.2 i j x e1' hq
     have hσ:σ[j]?=some (some w):=by
      have z:(σ[j]?).join=some w:=e2''
      cases hh:σ[j]? with
      | none=>rw[hh]at z;cases z
      | some o=>rw[hh]at z;rw[show o=some w from z]
     obtain⟨m,hnX,hl⟩:=I.loc
     obtain⟨u',r,lo⟩:=hl j x w q1 hσ (q2.elim (fun a=>.inr (.inl a)) (fun a=>.inr (.inr a)))
     refine⟨u',r,.inr ?_⟩
     obtain⟨c,hc⟩:=A7.mp q3
     refine⟨q4,c,hc,?_⟩
     have hcX:=hcell x c hc
     rcases lo with⟨k,_⟩ | ⟨_,c',hc',z⟩
     ·have k':X.env.scope.names.lookup x=some .local:=k
      rw[k']at q2
      rcases q2 with q2 | q2<;>cases q2
     ·rw[hcX]at hc'
      cases hc'
      obtain⟨o,ho,hd⟩:=z
      exact⟨o,hk c o ho,hd⟩
 ·obtain⟨w,o,ho,hd⟩:=I.cell x c (hcell x c e)
  exact⟨w,o,hk c o ho,hd⟩
 ·show (some v::Y7 lk σ).length=(p::N').length
  unfold Y7
  rw[k8,a5,k8,hlk.1]
theorem bp2 {name p:Str}{body:Expr}{c':Addr}{pm ctv:Value}{v:V}{Q:VK}(I:Inv X pins σ H s)(hA:A.frames=some X.stack)(hh:A.handled=none)(hroom:A.depth<aB4)
  (ho:s.heap.get? f=some (PySem.W.kla_obj name qual params body scope cl pm c' ctv))(hcd:s.heap.CodeRec (.ref c') qual)(hbind:bv7 (PySem.W.kla_fn name qual params body scope cl pm (.ref c') ctv) ⟨[u],[]⟩=pure [(p,u)])
  (hkind:scope.kind=.function)(hco:scope.isCoroutine=false)(hgen:scope.isGenerator=false)(hcl:ar5 X.env cl)(hfr:al5 scope.names cl=true)(hlk:aF7 X N' lk scope cl)(hp:scope.names.lookup p=some .local)(rv:RelV v u)
  (he:PE (bp3 X A qual scope cl (p::N') f (.ref c') s H) body te)(ht:te (some v::Y7 lk σ) H Q) :
  r6 (o7 X.prog X.w) A (call (.ref f) [u]) (fun u' s'=>∃ v' H',Inv X pins σ H' s'/\RelV v' u'/\Q v' H') (fun _ _=>False) s:=by
 have hcellN:∀ y∈scope.names,y.2≠.cell:=fun y hy=>by
  unfold al5 at hfr
  rw[x9]at hfr
  have:=hfr y hy
  rw[m7]at this
  simpa using this.1
 refine bu5 (PySem.W.kla_callFunE hroom ho rfl hco hgen rfl hcd ?_)
 show r6 _ _ (bv7 (PySem.W.kla_fn name qual params body scope cl pm (.ref c') ctv) ⟨[u],[]⟩) _ _ s
 rw[hbind]
 refine i8 (aa4 hcellN (fun y hy=>by rw[n5.mp hy];exact hp) (fun h1 hns hsb=>?_) hkind)
 have hk₁:∀ b o,s.heap.get? b=some o->h1.get? b=some o:=fun b o e=>hsb.extBut b o (k7 (f9 e)) (a8 _ e)
 refine⟨I.nolimit.keeps hk₁,?_⟩
 show aB9 _ _ (.expr body (PySem.W.envX qual scope s.heap.objs.size f (.ref c') cl)) _ _
 have I1:=bg3 (tk:=s.toks+[(p,u)].length) (qual:=qual) (f:=f) (cv:=.ref c') I hA hh hkind hcl hfr hlk hp rv hns hk₁
 refine PySem.W.kla_codeExpr (B6 (he [] _ _ H Q I1 ht) (fun u' s' hq=>?_) fun _ _ z=>False.elim z)
 obtain⟨v',H',J,r',q⟩:=hq
 exact⟨v',H',I.call' (ch:=[]) J.os J.base J.hok J.bare (fun b z=>nomatch z),r',q⟩
def aR8 (c:Addr)(qual:Str):HO:=.ext fun h=>h.CodeRec (.ref c) qual
def bi5 (f:Addr)(o:Obj):HO:=.ext fun h=>h.get? f=some o
def aj1 (P:Addr)(pos:Pos)(qual:Str)(H:Hp):Prop:=∃ ps,H P=some (.tbl ps)/\TriplesOk ps.toList/\(bJ6 pos ps.toList=none\/∃ c',bJ6 pos ps.toList=some (.ref c')/\H c'=some (aR8 c' qual))
def O4 (P:Addr)(H H':Hp):Prop:=∀ b o,b≠P->H b=some o->H' b=some o
theorem O4.refl (P:Addr)(H:Hp):O4 P H H:=fun _ _ _ h=>h
theorem O4.trans {P:Addr}{H1 H2:Hp}(a:O4 P H H1)(b:O4 P H1 H2):O4 P H H2:=fun c o n h=>b c o n (a c o n h)
theorem o8.grow (P:Addr)(h:o8 H H'):O4 P H H':=fun b o _ q=>h b o q
theorem aj1.same {P:Addr}(t:aj1 P pos qual H)(h:o8 H H'):aj1 P pos qual H':=by
 obtain⟨ps,h1,h2,h3⟩:=t
 refine⟨ps,h _ _ h1,h2,?_⟩
 rcases h3 with h3 | ⟨c',h3,h4⟩
 ·exact .inl h3
 ·exact .inr ⟨c',h3,h _ _ h4⟩
structure au4 (base:Heap) (mg:Str->Option Value) (c P:Addr):Prop where
 hd:PySem.W.CodeHd base c P
 blt:base.BuiltinsAt mg P
 ne:d5≠P
theorem bi4 {c:Value}{l:List Value}(h:TriplesOk l)(hn:bJ6 pos l=none):bJ6 pos (l++[aj5 pos.line,aj5 pos.col,c])=some c:=codeAmong_snoc l h hn
def bV2 (P:Addr)(pos:Pos)(qual:Str)(params:Arguments)(body:Expr)(scope:Scope)(cl:List (Str × Addr))(pm:Value):TE:=fun σ H Q=>aj1 P pos qual H/\∀ f c' ctv H',O4 P H H'->aj1 P pos qual H'->H f=none ->
 H' f=some (bi5 f (PySem.W.kla_obj "<lambda>" qual params body scope cl pm c' ctv))->H' c'=some (aR8 c' qual)->Q (.ref f) H'
theorem bN2 {body:Expr}{c P:Addr}(B:au4 X.base X.mg c P)(hcode:X.env.code=.ref c)(hcl:aj9 scope X.env=pure cl)(hdef:defaultsOf params X.env=([],[])) :
  PE X (.Lambda params body scope pos) (bV2 P pos (X.env.qual++"<lambda>") params body scope cl ((X.mg "__name__").getD .none)):=by
 intro pins s σ H Q I h
 obtain⟨⟨ps,hP,ht,hin⟩,q⟩:=h
 have hPh:s.heap.get? P=some (PySem.W.tabObj ps):=I.hok P _ hP
 have C:=B.hd.keeps I.bk
 have hb:s.heap.BuiltinsAt X.mg P:=by
  obtain⟨bm,ob,b1,b2,b3,b4,b5,b6⟩:=B.blt
  exact⟨bm,ob,b1,b2,b3,b4,I.bk _ _ b5,b6⟩
 refine PySem.W.kla_eval hdef ?_
 rcases hin with hnf | ⟨c',hf,hc'⟩
 ·refine PySem.W.kla_makeFunction hcl I.ok.glob (I.mod.glob.keeps I.bk) hcode C hPh ht hnf B.ne hb fun c' ctv h' tk hx hge hlt hrec htb=>?_
  have hPlt:P<s.heap.objs.size:=f9 hPh
  have hsz:s.heap.objs.size<=h'.objs.size:=p9 hge (ao7 hlt)
  have cP:P≠c':=k7 (n6 hPlt hge)
  have fP:P≠h'.objs.size:=k7 (n6 hPlt hsz)
  have fc:c'≠h'.objs.size:=k7 hlt
  have hcn:H c'=none:=I.hok.fresh hge
  have hfn:H h'.objs.size=none:=I.hok.fresh hsz
  have hfr:(PySem.W.kla_obj "<lambda>" (X.env.qual++"<lambda>") params body scope cl ((X.mg "__name__").getD .none) c' ctv).isFreed=false:=rfl
  generalize hobj:PySem.W.kla_obj "<lambda>" (X.env.qual++"<lambda>") params body scope cl ((X.mg "__name__").getD .none) c' ctv=ob at *
  generalize hps:ps++#[aj5 pos.line,aj5 pos.col,.ref c']=ps' at *
  have hps2:ps'.toList=ps.toList++[aj5 pos.line,aj5 pos.col,.ref c']:=by rw[<- hps];simp
  generalize hH1:upd (upd (upd H P (.tbl ps')) c' (aR8 c' (X.env.qual++"<lambda>"))) h'.objs.size (bi5 h'.objs.size ob)=H1
  have v1:H1 h'.objs.size=some (bi5 h'.objs.size ob):=by rw[<- hH1];exact a9
  have v2:H1 c'=some (aR8 c' (X.env.qual++"<lambda>")):=by rw[<- hH1,t8 fc];exact a9
  have v3:H1 P=some (.tbl ps'):=by rw[<- hH1,t8 fP,t8 cP];exact a9
  have v4:∀ b,b≠P->b≠c'->b≠h'.objs.size->H1 b=H b:=fun b n1 n2 n3=>by rw[<- hH1,t8 n3,t8 n2,t8 n1]
  have v5:∀ b u,b≠P->H b=some u->H1 b=some u:=fun b u n e=>by rw[v4 b n (u5 e hcn) (u5 e hfn)];exact e
  have k1:∀ b o,b≠P->s.heap.get? b=some o->(h'.push ob).get? b=some o:=fun b o n e=>a8 _ (hx b o n e)
  have neP:∀ b,H b=none->b≠P:=fun b n z=>by rw[z,hP]at n;cases n
  have hPn:(h'.push ob).get? P=some (PySem.W.tabObj ps'):=a8 _ htb
  have un:Un X.fs [] H H1 s.heap (h'.push ob):=by
   refine⟨fun b o e n _ _=>k1 b o (neP b n) e,fun b o e n _ _=>⟨o.slots,k1 b o (neP b n) e⟩,fun b o e n _=>?_,fun b o e _=>?_,fun b xs e=>v5 b _ (fun z=>by rw[z,hP]at e;cases e) e,fun b o u e=>v5 b _ (fun z=>by rw[z,hP]at e;cases e) e,fun b qs e=>?_⟩
   ·rw[v4 b (neP b n) (k7 (n6 (f9 e) hge)) (k7 (n6 (f9 e) hsz))]
    exact n
   ·by_cases hb:b=P
    ·rw[hb];exact⟨_,hPn⟩
    ·exact⟨o,k1 b o hb e⟩
   ·by_cases hb:b=P
    ·rw[hb,hP]at e
     cases e
     rw[hb]
     exact⟨#[aj5 pos.line,aj5 pos.col,.ref c'],by rw[v3,<- hps]⟩
    ·exact⟨#[],by rw[v5 b _ hb e];simp⟩
  have hok:HOk X.prog X.w H1 (h'.push ob):=by
   intro b u e
   by_cases hb1:b=h'.objs.size
   ·subst hb1
    rw[v1]at e
    cases e
    exact⟨j8 _ hfr,⟨_,j8 _ hfr⟩,fun h1 h2 q z=>z _ q⟩
   ·by_cases hb2:b=c'
    ·subst hb2
     rw[v2]at e
     cases e
     obtain⟨c2,oc,vs,tq,e1,e2,e3,e4⟩:=hrec
     cases e1
     exact⟨⟨_,oc,vs,tq,rfl,a8 _ e2,e3,e4⟩,⟨oc,a8 _ e2⟩,fun h1 h2 ⟨c3,o3,vs3,t3,q1,q2,q3,q4⟩ z=>by cases q1;exact⟨_,o3,vs3,t3,rfl,z _ q2,q3,q4⟩⟩
    ·by_cases hb3:b=P
     ·subst hb3
      rw[v3]at e
      cases e
      exact hPn
     ·rw[v4 b hb3 hb2 hb1]at e
      refine(I.hok b u e).stay (fun d v hd z=>k1 d v ?_ z) (fun d z=>v5 _ _ ?_ z) fun d xs z=>v5 _ _ ?_ z
      ·rcases hd with hd | hd
       ·rw[hd];exact hb3
       ·intro zz;rw[zz,hP]at hd;cases hd
      ·intro zz;rw[zz,hP]at z;cases z
      ·intro zz;rw[zz,hP]at z;cases z
  have I1:Inv X pins σ H1 { s with heap:=h'.push ob,toks:=tk }:=I.un un hok
  refine⟨.ref h'.objs.size,H1,I1,rfl,q _ c' ctv H1 (fun b o n e=>v5 b o n e) ⟨ps',v3,?_,.inr ⟨c',?_,v2⟩⟩ hfn ?_ v2⟩
  ·rw[hps2];exact TriplesOk_snoc _ _ _ _ ht
  ·rw[hps2];exact bi4 ht hnf
  ·rw[hobj];exact v1
 ·refine PySem.W.kla_makeFunctionHit hcl I.ok.glob (I.mod.glob.keeps I.bk) hcode C hPh ht hf hb fun ctv h' tk hk hsz=>?_
  have hfn:H h'.objs.size=none:=I.hok.fresh hsz
  have hfr:(PySem.W.kla_obj "<lambda>" (X.env.qual++"<lambda>") params body scope cl ((X.mg "__name__").getD .none) c' ctv).isFreed=false:=rfl
  generalize hobj:PySem.W.kla_obj "<lambda>" (X.env.qual++"<lambda>") params body scope cl ((X.mg "__name__").getD .none) c' ctv=ob at *
  have I1:Inv X pins σ (upd H h'.objs.size (bi5 h'.objs.size ob)) { s with heap:=h'.push ob,toks:=tk }:=I.laid (fun b o e=>a8 _ (hk b o e)) hsz ⟨j8 _ hfr,⟨_,j8 _ hfr⟩,fun h1 h2 q z=>z _ q⟩
  have sm:o8 H (upd H h'.objs.size (bi5 h'.objs.size ob)):=fun b o e=>by rw[t8 (u5 e hfn)];exact e
  refine⟨.ref h'.objs.size,_,by rw[<- hobj]at I1;rw[<- hobj];exact I1,rfl,q _ c' ctv _ (sm.grow P) (aj1.same ⟨ps,hP,ht,.inr ⟨c',hf,hc'⟩⟩ sm) hfn (by rw[hobj];exact a9) (sm _ _ hc')⟩
def bU9 (ta:TA):TE:=fun σ H Q=>ta σ H fun vs H1=>∃ n:Nat,vs=[.int n]/\n<=1000/\∀ r,H1 r=none->Q (.ref r) (upd H1 r (.rng 0 n))
def bK9 (P:Addr)(lpos:Pos)(qual:Str)(lk:List (Option Nat))(te:TE)(tr:TA):TE:=fun σ H Q=>tr σ H fun vs H1=>∃ (r:Addr) (n:Nat) (key:Int->List Int),vs=[.ref r]/\H1 r=some (.rng 0 n)/\n<=1000/\(∀ z,∃ i k,key z=i::k)/\aj1 P lpos qual H1 /\
 ∀ H2,O4 P H1 H2->aj1 P lpos qual H2->(∀ (H3:Hp) (z:Nat),o8 H2 H3->z<n->te (some (.int z)::Y7 lk σ) H3 fun v H4=>∃ k,v=.ref k/\H4 k=some (.tup ((key z).map V.int))/\o8 H3 H4) /\
  ∀ (H':Hp) (D:Addr) (zs:List Int),o8 H2 H'->H' D=none->zs.Perm ((ai5 0 n).map fun k:Nat=>(k:Int))->zs.Pairwise (fun x y=>Tim.J3 (key y) (key x)=false)->Q (.ref D) (upd H' D (.lst (zs.map V.int)))
theorem bz4 {a:Expr}{ta:TA}{p:Pos}(hg:Gl X "range")(hm:X.mg "range"=none)(ha:PA X [a] ta)(hs:A4 [a] X.env=[(false,eval a X.env)]:=by rfl):PE X (.Call (.Name "range" p) [a] [] pos) (bU9 ta):=by
 intro pins s σ H Q I h
 refine Call_ (Y5 I hg hm boot_range (PyProof.Rows.callWith_type1 (thn (ha pos pins s σ H _ I h) fun us s1 ⟨vs,H1,I1,r1,q1⟩=>?_) hs rfl))
 obtain⟨n,e,hn,q⟩:=q1
 subst e
 cases r1 with
 | cons r rr =>
  cases rr
  obtain⟨t,rfl⟩:=r
  refine call_range_1 ?_
  have hf:H1 s1.heap.objs.size=none:=I1.hok.fresh (c6 _)
  exact⟨.ref s1.heap.objs.size,upd H1 s1.heap.objs.size (.rng 0 n),I1.laid (fun b o e=>a8 _ e) (c6 _) ⟨_,_,_,j8 _ rfl⟩,rfl,q _ hf⟩
theorem bn6 {body:Expr}{p:Str}{np lpos kpos:Pos}{c P:Addr}{tr:TA}(hc:X.calm=true)(hd:X.A.depth<aB4)(hg:Gl X "sorted")(hm:X.mg "sorted"=none)(ha:PA X [e] tr)
  (B:au4 X.base X.mg c P)(hcode:X.env.code=.ref c)(hcl:aj9 scope X.env=pure cl)(hdef:defaultsOf params X.env=([],[]))(hkind:scope.kind=.function)(hco:scope.isCoroutine=false)(hgen:scope.isGenerator=false)(hclo:ar5 X.env cl)(hfr:al5 scope.names cl=true)(hlk:aF7 X N' lk scope cl)
  (hp:scope.names.lookup p=some .local)(hbind:∀ (pm ctv u:Value) (c':Addr),bv7 (PySem.W.kla_fn "<lambda>" (X.env.qual++"<lambda>") params body scope cl pm (.ref c') ctv) ⟨[u],[]⟩=pure [(p,u)])
  (he:∀ f c' s3 H3,PE (bp3 X X.A.in1.in1 (X.env.qual++"<lambda>") scope cl (p::N') f (.ref c') s3 H3) body te)
  (hs:Y1 pos (A4 [e] X.env)=(false,eval e X.env)::Y1 pos (A4 [] X.env):=by rfl)
  (hpl:(Y1 pos (A4 [e] X.env)).any (·.1)=false:=by rfl) :
  PE X (.Call (.Name "sorted" np) [e] [⟨some "key",.Lambda params body scope lpos,kpos⟩] pos) (bK9 P lpos (X.env.qual++"<lambda>") lk te tr):=by
 intro pins s σ H Q I h
 refine O7 (Y5 I hg hm (show K5 "sorted"=some (.builtin "sorted") from rfl) ?_ (by decide) (by decide))
 refine callWith_kw (thn (ha pos pins s σ H _ I h) fun us s1 ⟨vs,H1,I1,r1,q1⟩=>?_) hs hpl rfl rfl
 obtain⟨r,n,key,rfl,hr,hn,hne,tb,q⟩:=q1
 have hk:PK X [⟨some "key",.Lambda params body scope lpos,kpos⟩] (aY5 (bV2 P lpos (X.env.qual++"<lambda>") params body scope cl ((X.mg "__name__").getD .none)) bx7):=aZ6 (bN2 B hcode hcl hdef) bn1
 refine thn (hk pos pins s1 σ H1 (fun zs H2=>∃ f c' ctv,zs=[.ref f]/\O4 P H1 H2/\aj1 P lpos (X.env.qual++"<lambda>") H2/\H2 f=some (bi5 f (PySem.W.kla_obj "<lambda>" (X.env.qual++"<lambda>") params body scope cl ((X.mg "__name__").getD .none) c' ctv))/\H2 c'=some (aR8 c' (X.env.qual++"<lambda>"))) I1
  ⟨tb,fun f c' ctv H2 g1 g2 g3 g4 g5=>⟨f,c',ctv,rfl,g1,g2,g4,g5⟩⟩) fun ws s2 ⟨zs,H2,I2,r2,f,c',ctv,ez,g1,g2,g4,g5⟩=>?_
 subst ez
 obtain⟨w,rfl,rw⟩:=vals1 r2
 obtain⟨u,rfl,ru⟩:=vals1 r1
 cases rw
 cases ru
 obtain⟨wish,fin⟩:=q H2 g1 g2
 have rP:r≠P:=fun z=>by
  obtain⟨ps,hP,_⟩:=tb
  rw[z,hP]at hr
  cases hr
 have hr2:H2 r=some (.rng 0 n):=g1 r _ rP hr
 obtain⟨t1,t2,t3,hro⟩:=I2.hok r _ hr2
 have hh:X.A.handled=none:=I.ok.hd hc
 refine aU0 (n:=n) (key:=key) I2 hh ⟨t1,t2,t3,hro⟩ hn hne (fun z hz=>?_) fun H' s' D zs' a1 a2 a3 a4 I'=>⟨.ref D,_,I',rfl,fin H' D zs' a1 a2 a3 a4⟩
 obtain⟨k,hk',rfl⟩:=m5.mp hz
 have hkn:k<n:=by
  have:=aD3.mp hk'
  omega
 intro t pins' s3 H3 I3 sm
 have ho:s3.heap.get? f=some (PySem.W.kla_obj "<lambda>" (X.env.qual++"<lambda>") params body scope cl ((X.mg "__name__").getD .none) c' ctv):=(I3.hok f _ (sm _ _ g4)).1
 have hcd:s3.heap.CodeRec (.ref c') (X.env.qual++"<lambda>"):=(I3.hok c' _ (sm _ _ g5)).1
 refine B6 (bp2 (A:=X.A.in1.in1) (v:=.int k) (u:=.int k t) I3 I3.ok.frames hh hd ho hcd (hbind _ _ _ _) hkind hco hgen hclo hfr hlk hp ⟨t,rfl⟩ (he f c' s3 H3) (wish H3 k sm hkn)) (fun u' s' hq=>?_) fun _ _ z=>z
 obtain⟨v',H',J,r',kk,rfl,hkk,sm'⟩:=hq
 cases r'
 exact⟨kk,H',rfl,hkk,J,sm'⟩
theorem M9.there {o:HO}(x:M9 P w H h a o):∃ ob,h.get? a=some ob:=by
 cases o with
 | lst xs=>obtain⟨_,_,_,_,e⟩:=x;exact⟨_,e⟩
 | tup xs=>obtain⟨_,_,_,ob,e,_⟩:=x;exact⟨_,e⟩
 | dK kvs=>obtain⟨_,_,_,_,o,_,_,e,_⟩:=x;exact⟨_,e⟩
 | dT kvs=>obtain⟨_,_,_,_,o,_,_,e,_⟩:=x;exact⟨_,e⟩
 | set S n=>obtain⟨o,_,_,_,e,_⟩:=x;exact⟨_,e⟩
 | ins C dx fs=>obtain⟨_,_,_,e,_⟩:=x;exact⟨_,e⟩
 | own y=>obtain⟨ob,e⟩:=x;exact⟨ob,e⟩
 | xd fs=>obtain⟨_,⟨_,_,_,e,_⟩,_⟩:=x;exact⟨_,e⟩
 | rng lo hi=>obtain⟨_,_,_,e⟩:=x;exact⟨_,e⟩
 | frz ob u=>obtain⟨e,_⟩:=x;exact⟨_,e⟩
 | tbl ps=>exact⟨_,(show h.get? a=some _ from x)⟩
 | met f y=>exact⟨_,(show h.get? a=some _ from x)⟩
 | ext φ=>obtain⟨_,⟨ob,e⟩,_⟩:=x;exact⟨ob,e⟩
theorem HOk.stays (ok:HOk P w H h) (k:∀ b o,h.get? b=some o->H b≠none->h'.get? b=some o):HOk P w H h':=fun a o e =>
 (ok a o e).stay (fun b u hb q => k b u q (by
  rcases hb with z | z
  ·rw[z,e];simp
  ·rw[z];simp)) (fun _ q=>q) fun _ _ q=>q
def cb1 (outer:List Env)(x:Addr)(cls:Value)(h0:Heap)(H':Hp)(h':Heap):Prop:=
 ∃ (B:Heap) (a0:Value),Heap.FlyingW B outer x cls a0 h'/\∀ b o,h'.get? b=some o->(H' b≠none\/h0.get? b≠none)->b∉frs outer->B.get? b=some o
def CXE (P:Program)(w:World):CXT:=fun outer H s E e s' =>
 ∃ (x:Addr) (cls:Value) (H':Hp),e=.ref x/\s'.os=s.os/\al8 s'.gens/\Un (frs outer) [] H H' s.heap s'.heap/\HOk P w H' s'.heap/\s.heap.get? x=none/\H' x=none/\cb1 outer x cls s.heap H' s'.heap/\E cls none H'
theorem Un.onto {fs:List Addr}{h'':Heap}(u:Un fs [] H H' h h')(stay:∀ b o,h'.get? b=some o->h.get? b≠none->b∉fs->h''.get? b=some o)
  (slots:∀ b o,h'.get? b=some o->h.get? b≠none->b∈fs->∃ sl,h''.get? b=some { o with slots:=sl }):Un fs [] H H' h h'' where
 keep:=fun b o e n hb hx=>stay b o (u.keep b o e n hb hx) (by rw[e];simp) hb
 slot:=fun b o e n hb hx=>by
  obtain⟨sl,e1⟩:=u.slot b o e n hb hx
  obtain⟨sl2,e2⟩:=slots b _ e1 (by rw[e];simp) hb
  exact⟨sl2,e2⟩
 free:=u.free
 there:=fun b o e hx=>by
  obtain⟨o',e1⟩:=u.there b o e hx
  by_cases hb:b∈fs
  ·obtain⟨sl,e2⟩:=slots b o' e1 (by rw[e];simp) hb
   exact⟨_,e2⟩
  ·exact⟨o',stay b o' e1 (by rw[e];simp) hb⟩
 tups:=u.tups
 frzs:=u.frzs
 tbls:=u.tbls
theorem G0 {α:Type}{o:Option α}(h:o≠none):∃ x,o=some x:=by
 cases o with
 | none=>exact absurd rfl h
 | some x=>exact⟨x,rfl⟩
theorem aA0 {env:Env}{L:Addr}(h:env.frame=some L):frs (env::outer)=L::frs outer:=by
 unfold frs
 rw[N2,h]
section
variable {K:W.Frag} {mg:Str->Option Value} {base:Heap} {cd:Value} {E:XK} {H1:Hp} {s1:Shared}
theorem bw4 {e:Addr}{cls:Value}{h2:Heap}(I:Inv (V0 (CXE P w) P w K mg base N qual scope f cd A outer s H E) pins σ H1 s1)(hx:Heap.MadeExcOf s1.heap h2 e cls vs)(hE:E cls none H1) :
  (V0 (CXE P w) P w K mg base N qual scope f cd A outer s H E).xe (.ref e) { s1 with heap:=h2 }:=by
 have hst:=I.stack
 have hfr:=I.ok.frames
 have hlt:=I.lt
 have hL:=I.free
 have hab:=I.ok.above
 have hbs:Un (frs outer) [] H H1 s.heap s1.heap:=I.base
 change s1.heap.FunFrames base (E1 qual scope s.heap.objs.size f cd::outer) at hst
 change (A.deeper (E1 qual scope s.heap.objs.size f cd)).frames=some (E1 qual scope s.heap.objs.size f cd::outer) at hfr
 change H1 s.heap.objs.size=none at hL
 have hff:frs (E1 qual scope s.heap.objs.size f cd::outer)=s.heap.objs.size::frs outer:=aA0 rfl
 have hin:∀ env∈(E1 qual scope s.heap.objs.size f cd::outer),∀ b,env.frame=some b->b∈frs (E1 qual scope s.heap.objs.size f cd::outer):=fun env he b hb=>ac3.mpr ⟨env,he,hb⟩
 have old:∀ b,(H1 b≠none\/s.heap.get? b≠none)->b∉frs outer->∃ o,s1.heap.get? b=some o/\b∉frs (E1 qual scope s.heap.objs.size f cd::outer):=fun b hb hno=>by
  have hne:b≠s.heap.objs.size:=by
   rcases hb with z | z
   ·intro q;rw[q]at z;exact z hL
   ·obtain⟨o,z⟩:=G0 z
    exact k7 (f9 z)
  have hex:∃ o,s1.heap.get? b=some o:=by
   rcases hb with z | z
   ·obtain⟨o,z⟩:=G0 z
    exact(I.hok b o z).there
   ·obtain⟨o,z⟩:=G0 z
    exact hbs.there b o z (by simp)
  obtain⟨o,ho⟩:=hex
  refine⟨o,ho,?_⟩
  rw[hff]
  intro hm
  rcases d3.mp hm with q | q
  ·exact hne q
  ·exact hno q
 have eNew:s.heap.get? e=none:=by
  cases q:s.heap.get? e with
  | none=>rfl
  | some o =>
   obtain⟨o',z⟩:=hbs.there e o q (by simp)
   rw[hx.new]at z
   cases z
 have eFree:H1 e=none:=by
  cases q:H1 e with
  | none=>rfl
  | some o =>
   obtain⟨o',z⟩:=(I.hok e o q).there
   rw[hx.new]at z
   cases z
 refine wpAny_leaves_madeW (base:=PySem.W.hideAll s1.heap (frs (E1 qual scope s.heap.objs.size f cd::outer))) hfr rfl (fun b o q=>PySem.W.of_hideAll _ q) (PySem.W.funFrames_hide hst hin) hx fun h' t x1 x2 x3 x4=>?_
 have stay:∀ b o,s1.heap.get? b=some o->(H1 b≠none\/s.heap.get? b≠none)->b∉frs outer->h'.get? b=some o:=fun b o ho hb hno=>by
  obtain⟨o',ho',hm⟩:=old b hb hno
  rw[ho]at ho'
  cases ho'
  exact x1.1 b o (PySem.W.hideAll_get _ ho hm)
 have frNone:∀ b∈frs outer,H1 b=none:=fun b hb=>I.stkFree b (by
  show b∈frs (E1 qual scope s.heap.objs.size f cd::outer)
  rw[hff]
  exact b7 _ hb)
 refine⟨e,cls,H1,rfl,I.os,I.bare,hbs.onto (fun b o ho hh hno=>stay b o ho (.inr hh) hno) (fun b o ho hh hm=>?_),I.hok.stays fun b o ho hh=>stay b o ho (.inl hh) fun hm=>hh (frNone b hm),eNew,eFree,⟨_,_,x1,fun b o ho hb hno=>?_⟩,hE⟩
 ·obtain⟨_,o',ho',hd⟩:=hst.mem (b:=b) (by
   show b∈frs (E1 qual scope s.heap.objs.size f cd::outer)
   rw[hff]
   exact b7 _ hm)
  rw[ho]at ho'
  cases ho'
  exact x4 b o (hx.keeps b o ho) hd
 ·obtain⟨o',ho',hm⟩:=old b hb hno
  have:=stay b o' ho' hb hno
  rw[ho]at this
  cases this
  exact PySem.W.hideAll_get _ ho' hm
theorem aN8:ar2 (CXE P w) (V0 (CXE P w) P w K mg base N qual scope f cd A outer s H E) E:=by
 intro pins σ H1 s1 e s2 I hc
 obtain⟨x,cls,H2,rfl,hos,hb2,u,hok,new,hxn,⟨B,a0,fl,st⟩,hE⟩:=hc
 have hst:=I.stack
 have hfr:=I.ok.frames
 have hL:=I.free
 have hbs:Un (frs outer) [] H H1 s.heap s1.heap:=I.base
 change s1.heap.FunFrames base (E1 qual scope s.heap.objs.size f cd::outer) at hst
 change (A.deeper (E1 qual scope s.heap.objs.size f cd)).frames=some (E1 qual scope s.heap.objs.size f cd::outer) at hfr
 change H1 s.heap.objs.size=none at hL
 change Un (frs (E1 qual scope s.heap.objs.size f cd::outer)) [] H1 H2 s1.heap s2.heap at u
 change Heap.FlyingW B (E1 qual scope s.heap.objs.size f cd::outer) x cls a0 s2.heap at fl
 have hff:frs (E1 qual scope s.heap.objs.size f cd::outer)=s.heap.objs.size::frs outer:=aA0 rfl
 have st':∀ b o,s2.heap.get? b=some o->(H2 b≠none\/s1.heap.get? b≠none)->b∉frs (E1 qual scope s.heap.objs.size f cd::outer)->B.get? b=some o:=st
 rw[hff]at u st'
 have hLo:∃ o,s1.heap.get? s.heap.objs.size=some o:=by
  obtain⟨m,⟨o,_,_,ho,_⟩,_⟩:=I.loc
  exact⟨o,ho⟩
 have hL2:H2 s.heap.objs.size=none:=by
  obtain⟨o,ho⟩:=hLo
  exact u.free _ o ho hL (by simp)
 have old:∀ b,(H2 b≠none\/s.heap.get? b≠none)->b∉frs outer->∃ o,s2.heap.get? b=some o/\B.get? b=some o:=fun b hb hno=>by
  have hne:b≠s.heap.objs.size:=by
   rcases hb with z | z
   ·intro q;rw[q]at z;exact z hL2
   ·obtain⟨o,z⟩:=G0 z
    exact k7 (f9 z)
  have hm:b∉s.heap.objs.size::frs outer:=fun hm=>by
   rcases d3.mp hm with q | q
   ·exact hne q
   ·exact hno q
  rcases hb with z | z
  ·obtain⟨o,z'⟩:=G0 z
   obtain⟨o',ho⟩:=(hok b o z').there
   exact⟨o',ho,st' b o' ho (.inl z) hm⟩
  ·obtain⟨o,z⟩:=G0 z
   obtain⟨o1,h1⟩:=hbs.there b o z (by simp)
   obtain⟨o2,h2⟩:=u.there b o1 h1 (by simp)
   exact⟨o2,h2,st' b o2 h2 (.inr (by rw[h1];simp)) hm⟩
 have u2:Un (frs outer) [] H H2 s.heap s2.heap:=by
  refine⟨fun b o e n hb hx=>?_,fun b o e n hb hx=>?_,fun b o e n hx=>?_,fun b o e hx=>?_,fun b xs e=>u.tups b xs (hbs.tups b xs e),fun b o v e=>u.frzs b o v (hbs.frzs b o v e),fun b ps e=>?_⟩
  ·refine u.keep b o (hbs.keep b o e n hb hx) (hbs.free b o e n hx) (fun hm=>?_) hx
   rcases d3.mp hm with q | q
   ·exact k7 (f9 e) q
   ·exact hb q
  ·obtain⟨sl,e1⟩:=hbs.slot b o e n hb hx
   obtain⟨sl2,e2⟩:=u.slot b _ e1 (hbs.free b o e n hx) (b7 _ hb) hx
   exact⟨sl2,e2⟩
  ·obtain⟨o',e1⟩:=hbs.there b o e hx
   exact u.free b o' e1 (hbs.free b o e n hx) hx
  ·obtain⟨o',e1⟩:=hbs.there b o e hx
   exact u.there b o' e1 hx
  ·obtain⟨m1,e1⟩:=hbs.tbls b ps e
   obtain⟨m2,e2⟩:=u.tbls b _ e1
   exact⟨m1++m2,by rw[e2,aw4]⟩
 have frNone:∀ b∈frs outer,H2 b=none:=fun b hb=>by
  have h1:=I.stkFree b (by
   show b∈frs (E1 qual scope s.heap.objs.size f cd::outer)
   rw[hff]
   exact b7 _ hb)
  obtain⟨_,o,ho,_⟩:=hst.mem (b:=b) (by
   show b∈frs (E1 qual scope s.heap.objs.size f cd::outer)
   rw[hff]
   exact b7 _ hb)
  exact u.free b o ho h1 (by simp)
 refine wpAny_leaves_onW hfr rfl fl fun h' x1 x2=>?_
 have stay:∀ b o,s2.heap.get? b=some o->(H2 b≠none\/s.heap.get? b≠none)->b∉frs outer->h'.get? b=some o:=fun b o ho hb hno=>by
  obtain⟨o',ho',hB⟩:=old b hb hno
  rw[ho]at ho'
  cases ho'
  exact x1.1 b o hB
 refine⟨x,cls,H2,rfl,hos.trans I.os,hb2,u2.onto (fun b o ho hh hno=>stay b o ho (.inr hh) hno) (fun b o ho hh hm=>?_),hok.stays fun b o ho hh=>stay b o ho (.inl hh) fun hm=>hh (frNone b hm),?_,hxn,⟨B,a0,x1,fun b o ho hb hno=>?_⟩,hE⟩
 ·obtain⟨_,o',ho',hd⟩:=fl.2.2.1.mem (b:=b) (by
   show b∈frs (E1 qual scope s.heap.objs.size f cd::outer)
   rw[hff]
   exact b7 _ hm)
  rw[ho]at ho'
  cases ho'
  exact x2 b o ho hd
 ·cases q:s.heap.get? x with
  | none=>rfl
  | some o =>
   obtain⟨o',z⟩:=hbs.there x o q (by simp)
   rw[new]at z
   cases z
 ·obtain⟨o',ho',hB⟩:=old b hb hno
  have:=stay b o' ho' hb hno
  rw[ho]at this
  cases this
  exact hB
end
theorem Fun.okX {K:W.Frag} {mg:Str->Option Value} {base:Heap} {st:Stmt} {k:Nat} {sp:Sp} (F:Fun K x qual st f fd) (S:t9 N ps (i6 st))
  (hbody : ∀ (cdv : Value) (A : Around) (outer : List Env) (s : Shared) (H : Hp) (vs : List V) (Q : VK) (E : XK), W6 k (A.deeper (E1 qual (i6 st) s.heap.objs.size f cdv)) -> sp vs H Q E ->
   ∃ t,PSs (V0 (CXE P w) P w K mg base N qual (i6 st) f cdv A outer s H E) (q0 st) t/\t { nx:=fun _ H'=>Q .non H',rt:=Q } (start N vs) H) (len:∀ vs H Q E,sp vs H Q E->vs.length=ps.length:=by intro _ _ _ _ h;repeat first | (obtain⟨rfl,_⟩:=h;rfl) | obtain⟨_,h⟩:=h):x5 P w K mg base (CXE P w) (k+1) f fd ps sp:=by
 obtain⟨oc,od,kV,doc,pm,an,cdv,ct,osl,rfl,lk,hcd⟩:=F.ex
 exact br4 lk hcd S len fun A outer s H vs Q E hr hsp=>hbody cdv A outer s H vs Q E hr hsp
theorem bn0 {K:W.Frag}{mg:Str->Option Value}{base:Heap}{cd:Value}{E:XK} :
  PassesOwn (o7 P w) (V0 (CXE P w) P w K mg base N qual scope f cd A outer s H E).A (V0 (CXE P w) P w K mg base N qual scope f cd A outer s H E).env (V0 (CXE P w) P w K mg base N qual scope f cd A outer s H E).xe:=PassesOwn.leaving
structure ar4 (K:W.Frag) (C:Addr):Prop where
 q:PySem.W.excIn K C [.type "ValueError",.type "Exception",.type "BaseException",.type "object"] "ValueError.__new__"=true
abbrev bmV:List Value:=[.type "ValueError",.type "Exception",.type "BaseException",.type "object"]
theorem bQ7 {K:W.Frag}(KI:K.In h)(c:ar4 K C):∃ bm N nm q bs hd sn sub ab col dd k0 k1 k2 k3 k5 mN,h.get? C=some (excClassObj nm q C N bs bm hd sn sub ab col dd k0 k1 k2 k3 k5 "ValueError.__new__") /\
  h.Ns N mN/\mN "__init__"=none/\OwnTail h bmV bm:=by
 have z:=c.q
 revert z
 unfold PySem.W.excIn
 split
 ·rename_i d1 c1 s1 hl
  split
  ·rename_i D bm y0 y1 y2 y3 nn y5 e1 e2
   intro z
   rw[m7,m7,m7,m7,m7]at z
   obtain⟨⟨⟨⟨⟨z1,z2⟩,z3⟩,z4⟩,z5⟩,z6⟩:=z
   have z1':D=C:=beq_iff_eq.mp z1
   have z2':nn="ValueError.__new__":=beq_iff_eq.mp z2
   have z6':=beq_iff_eq.mp z6
   subst z1' z2'
   obtain⟨w1,w2,w3,w4,w5,w6,w7,w8,w9,w10,w11⟩:=c1
   dsimp only at e1 z3 z5 z6'
   subst e1
   have z3':w11=false:=by simpa using z3
   subst z3'
   have e3:s1=#[y0,y1,y2,y3,some (.builtin "ValueError.__new__"),y5]:=by
    obtain⟨l1⟩:=s1
    exact congrArg Array.mk e2
   subst e3
   exact⟨bm,w4,w1,w5,w2,w6,w7,w8,w9,w10,d1,y0,y1,y2,y3,y5,_,KI _ _ hl,.of_isNs (PySem.W.isNs_of_in KI z5),PySem.W.nsMap_none_of_in KI z5 z6',PySem.W.tail_of_in KI z4⟩
  ·intro z;cases z
 ·intro z;cases z
section
variable {K:W.Frag} {mg:Str->Option Value} {base:Heap} {cd:Value} {E:XK}
def bL0 (E:XK)(C:Addr):TS:=fun _ _ H=>E (.ref C) none H
theorem ax9 {txt:Str}{np cp ep:Pos}(hg:Gl (V0 (CXE P w) P w K mg base N qual scope f cd A outer s H E) x)(hm:mg x=some (.ref C))(c:ar4 K C)(hd:(x == ("__debug__":Str))=false:=by decide) :
  PS (V0 (CXE P w) P w K mg base N qual scope f cd A outer s H E) (.Raise (some (.Call (.Name x np) [.Constant (.str txt) j cp] [] ep)) none pos) (bL0 E C):=by
 intro pins s1 σ H1 D I hE
 have hh:(V0 (CXE P w) P w K mg base N qual scope f cd A outer s H E).A.handled=none:=I.ok.hd rfl
 obtain⟨bm,N',nm,q,bs,hdc,sn,sub,ab,col,dd,k0,k1,k2,k3,k5,mN,hC,hN,hni,T⟩:=bQ7 I.kIn c
 refine wpAny_Raise_call_subT (C:=C) (nm:=nm) (q:=q) (N:=N') (bs:=bs) (bm:=bm) (hdct:=hdc) (sn:=sn) (sub:=sub) (ab:=ab) (col:=col) (dd:=dd) (k0:=k0) (k1:=k1) (k2:=k2) (k3:=k3) (k5:=k5)
  PySem.F.excBase_ValueError (mN:=mN) (T.hasType (by decide +kernel)) hh rfl hni (an5 I hg hm ⟨rfl,?_⟩ hd)
 refine Calls.evalArgs_plain ?_
 refine PyProof.Rows.spliced_more (Calls.Constant_str ?_)
 refine PyProof.Rows.spliced_none ⟨rfl,by show 1<=f6;decide,hC,hN,T,fun h' e hx=>?_⟩
 exact bw4 (I.tok _) hx hE
end
def aY3 (X:Cx)(pins:List (Addr × Obj))(E:St->XK):Cx:={ X with pn:=X.pn++pins,xe:=fun e s'=>∃ σ H s,Inv X pins σ H s/\CXE X.prog X.w X.stack H s (E σ) e s' }
def bQ4 (X:Cx)(v:Value):Cx:={ X with A:=X.A.mark (some v),calm:=false,xe:=fun _ _=>False }
section
variable {pins':List (Addr × Obj)} {E:St->XK}
theorem Inv.toTry (I:Inv X pins σ H s):Inv (aY3 X pins E) [] σ H s:=
  ⟨⟨I.ok.mod, I.ok.kind, I.ok.glob, I.ok.blt, I.ok.above, I.ok.inj, I.ok.has, I.ok.cab, I.ok.hd, I.ok.frames, I.ok.stk, I.ok.exf, I.ok.bs, I.ok.bsz, I.ok.noex, I.ok.exfs, I.ok.funs, I.ok.frf⟩,
    I.os,I.bare,I.base,I.loc,I.cell,I.free,I.freeC,fun p hp=>I.pin p (by
      rcases u6.mp hp with z | z
      · exact z
      · cases z),I.hok,I.len⟩
theorem Inv.ofTry (I:Inv (aY3 X pins E) pins' σ H s):Inv X pins σ H s:=
  ⟨⟨I.ok.mod, I.ok.kind, I.ok.glob, I.ok.blt, I.ok.above, I.ok.inj, I.ok.has, I.ok.cab, I.ok.hd, I.ok.frames, I.ok.stk, I.ok.exf, I.ok.bs, I.ok.bsz, I.ok.noex, I.ok.exfs, I.ok.funs, I.ok.frf⟩,
    I.os,I.bare,I.base,I.loc,I.cell,I.free,I.freeC,fun p hp=>I.pin p (D6 _ hp),I.hok,I.len⟩
theorem Inv.toHd (I:Inv X pins σ H s) (v:Value):Inv (bQ4 X v) pins σ H s:=
  ⟨⟨I.ok.mod, I.ok.kind, I.ok.glob, I.ok.blt, I.ok.above, I.ok.inj, I.ok.has, I.ok.cab, (fun z => by cases z), I.ok.frames, I.ok.stk, I.ok.exf, I.ok.bs, I.ok.bsz, I.ok.noex, I.ok.exfs, I.ok.funs, I.ok.frf⟩,
    I.os,I.bare,I.base,I.loc,I.cell,I.free,I.freeC,I.pin,I.hok,I.len⟩
theorem Inv.ofHd (I:Inv (bQ4 X v) pins σ H s) (hd:X.calm=true->X.A.handled=none):Inv X pins σ H s:=
  ⟨⟨I.ok.mod, I.ok.kind, I.ok.glob, I.ok.blt, I.ok.above, I.ok.inj, I.ok.has, I.ok.cab, hd, I.ok.frames, I.ok.stk, I.ok.exf, I.ok.bs, I.ok.bsz, I.ok.noex, I.ok.exfs, I.ok.funs, I.ok.frf⟩,
    I.os,I.bare,I.base,I.loc,I.cell,I.free,I.freeC,I.pin,I.hok,I.len⟩
end
def bc5 (CX:CXT)(X:Cx)(E:St->XK):Prop:=∀ (pins:List (Addr × Obj)) (σ:St) (H:Hp) (s:Shared) (e:Value) (s':Shared),Inv X pins σ H s->CX X.stack H s (E σ) e s'->X.xe e s'
theorem aZ8 {E:St->XK}:bc5 (CXE X.prog X.w) (aY3 X pins E) E:=fun _ σ H s _ _ I h=>⟨σ,H,s,I.ofTry,h⟩
def bL2 (sp:Sp)(E:St->XK)(t:TA):TE:=fun σ H Q=>t σ H fun vs H1=>sp (vs++[]) H1 Q (E σ)
section
variable {CX:CXT} {k:Nat} {sp:Sp} {E:St->XK} {p:Pos} {es:List Expr} {t:TA}
theorem aN7 (F:x5 X.prog X.w X.K X.mg X.base CX k f fd ps sp)(hr:W6 k X.A)(hg:Gl X x)(hm:X.mg x=some (.ref f))(hk:j0 X.K (.ref f)=true)(hb:Binds X.K fd ps [])(hx:bc5 CX X E)
  (ha:PA X (e::es) t)(hdb:(x == ("__debug__":Str))=false:=by decide)(he:A4 (e::es) X.env=(false,eval e X.env)::A4 es X.env:=by rfl)(hpl:(Y1 pos (A4 es X.env)).any (·.1)=false:=by rfl) :
  PE X (.Call (.Name x p) (e::es) [] pos) (bL2 sp E t):=by
 intro pins s σ H Q I h
 refine O7 (an5 I hg hm ?_ hdb)
 refine PySem.W.callWith_K (h₀:=X.base) I.ok.mod.kin hk (thn (ha pos pins s σ H _ I h) fun us s1 ⟨vs,H1,I1,r,q⟩=>⟨I1.kIn,?_⟩) he hpl
 have r2:A8 (vs++[]) (us++[]):=r.append .nil
 have hl:(us++[]).length=ps.length:=by rw[<- r2.length];exact F.len _ _ _ _ q
 refine bu5 (ag4 (F.run X.A X.stack s1 H1 ⟨us,[]⟩ (us++[]) (vs++[]) Q (E σ) hr I1.env0 (hb s1 us I1.kIn hl) r2 q) fun r s' hq=>?_)
 cases r with
 | error e=>exact hx pins σ H1 s1 e s' I1 hq
 | ok fl =>
  cases fl with
  | ret u=>exact I1.after hq
  | next=>exact False.elim hq
  | brk=>exact False.elim hq
  | cont=>exact False.elim hq
end
end L2
set_option maxRecDepth 100000
namespace L2
open PySem PySem.Spec PyProof.Rows PySem.W
structure cf1 (K:W.Frag) (C:Addr):Prop where
 ga:findIn K (.ref C) "__getattribute__"=some (some (.builtin "BaseException.__getattribute__"))
 na:findIn K (.ref C) "__getattr__"=some none
 cl:findIn K (.ref C) "__class__"=some (some (.builtin "object.__class__"))
 sb:subIn K (.ref C) (.type "BaseException")=some true
 so:subIn K (.ref C) (.type "object")=some true
 cs:(clsIn K C).isSome=true
section
variable {g:Array bv6} {d:Drawn} {t:Nat} {os:OsState} {o:Obj} {K:W.Frag}
end
end L2
namespace L2
open PySem PySem.Spec PyProof.Rows
theorem Fun.okXC {K:W.Frag} {mg:Str->Option Value} {base:Heap} {st:Stmt} {c:Addr} {k:Nat} {sp:Sp} (F:Fun K x qual st f fd) (hc:fd.code=.ref c) (S:t9 N ps (i6 st))
  (hbody : ∀ (A : Around) (outer : List Env) (s : Shared) (H : Hp) (vs : List V) (Q : VK) (E : XK), W6 k (A.deeper (E1 qual (i6 st) s.heap.objs.size f (.ref c))) -> sp vs H Q E ->
   ∃ t,PSs (V0 (CXE P w) P w K mg base N qual (i6 st) f (.ref c) A outer s H E) (q0 st) t/\t { nx:=fun _ H'=>Q .non H',rt:=Q } (start N vs) H) (len:∀ vs H Q E,sp vs H Q E->vs.length=ps.length:=by intro _ _ _ _ h;repeat first | (obtain⟨rfl,_⟩:=h;rfl) | obtain⟨_,h⟩:=h):x5 P w K mg base (CXE P w) (k+1) f fd ps sp:=by
 obtain⟨oc,od,kV,doc,pm,an,cdv,ct,osl,rfl,lk,hcd⟩:=F.ex
 have hc':cdv=.ref c:=hc
 subst hc'
 exact br4 lk hcd S len fun A outer s H vs Q E hr hsp=>hbody A outer s H vs Q E hr hsp
theorem bk2 {K:W.Frag}{c P:Addr}{oc:Value}{od:Option Addr}{sl:Array (Option Value)}(ht:PySem.W.tabIn K x=some (c,P))(hn:d8 K d5 x=some (some (.ref f)))(hl:K.lookup f=some ⟨oc,od,.func fd,sl⟩):fd.code=.ref c:=by
 unfold PySem.W.tabIn at ht
 rw[hn]at ht
 dsimp only at ht
 rw[hl]at ht
 dsimp only at ht
 split at ht
 ·rename_i c₂ hc
  split at ht
  ·split at ht
   ·cases ht;exact hc
   ·cases ht
  ·cases ht
 ·cases ht
theorem bg2 {K:W.Frag}{mg mb:Str->Option Value}{CX:CXT}{k:Nat}{fa:Addr}{sp:Sp}{s₁:Shared}{ts:List (Addr × Addr)}(hT:PySem.W.TabsAt ts s₁.heap)(hK0:PySem.W.noTabs K=true)
  (hbm:∃ bm ob,mg "__builtins__"=some (.ref bm)/\bm≠aK6/\s₁.heap.get? bm=some ob/\ob.cls=.type "module"/\ob.dict=some aK6/\ob.data=.plain)
  (KX:K.In s₁.heap)(hns:s₁.heap.Ns d5 mg)(hb:s₁.heap.Ns aK6 mb)(hbb:∀ x:Str,x≠"__name__"->mb x=K5 x)(hlim:s₁.heap.NoLimit)(hg:s₁.gens=#[])
  (ha:s₁.heap.get? a=some { cls:=.type "list",data:=.seq vs.toArray })(hi:F1 vs ns)(hl:ns.length<=f6)(hr:W6 k bd1)
  (F:∀ base:Heap,K.In base->base.Ns d5 mg->(∀ q∈ts,au4 base mg q.1 q.2)->x5 P w K mg base CX k fa fd [x] sp)(hbind:∀ (s:Shared) (u:Value),bd0 s fd ⟨[u],[]⟩ [(x,u)])
  (hsp:∀ H:Hp,(∀ q∈ts,H q.2=some (.tbl #[]))->SqL K H a (ns.map V.int)->sp [.ref a] H (fun v _=>v=.bl true) fun _ _ _=>False)
  (hCX:∀ H e s',CX [] H s₁ (fun _ _ _=>False) e s'->False) :
  aB9 (o7 P w) bd1 (.call (.ref fa) ⟨[.ref a],[]⟩) (fun r s'=>r=.ok (.ret (.bool true))/\OldK s₁.heap s'.heap/\s'.os=s₁.os/\al8 s'.gens) s₁:=by
 have rv:=ag8 hi
 have lenV:=hi.length
 have tabO:∀ b,b∈ts.map (·.2)->s₁.heap.get? b=some (PySem.W.tabObj #[]):=fun b hb=>by
  obtain⟨q,hq,rfl⟩:=m5.mp hb
  exact(hT q hq).2
 have aT:a∉ts.map (·.2):=fun z=>by
  have e:=tabO a z
  rw[ha]at e
  cases e
 have core:∀ H:Hp,(∀ b,b∈ts.map (·.2)->H b=some (.tbl #[]))->(∀ b,b∉ts.map (·.2)->H b=none\/∃ o xs,H b=some (.frz o (.lst xs)))->SqL K H a (ns.map V.int)->HOk P w H s₁.heap->(∀ b,H b≠none->b=a\/b∈ts.map (·.2))->(H a≠none->K.lookup a=none) ->
   aB9 (o7 P w) bd1 (.call (.ref fa) ⟨[.ref a],[]⟩) (fun r s'=>r=.ok (.ret (.bool true))/\OldK s₁.heap s'.heap/\s'.os=s₁.os/\al8 s'.gens) s₁:=by
  intro H hHt hO hS hok hA hK
  have base_of:∀ {b:Addr} {o:Obj},s₁.heap.get? b=some o->H b=none->(aD0 s₁.heap H).get? b=some o:=fun e n=>bq9 e n
  have free_of:∀ {b:Addr} {o:Obj},s₁.heap.get? b=some o->(∀ xs n,o≠{ cls:=.type "list",data:=.seq xs n })->o≠PySem.W.tabObj #[]->H b=none:=fun {b o} e n1 n2=>by
   cases q:H b with
   | none=>rfl
   | some u =>
    rcases hA b (by rw[q];simp) with e' | e'
    ·subst e'
     rw[ha]at e;cases e
     exact absurd rfl (n1 _ _)
    ·rw[tabO b e']at e;cases e
     exact absurd rfl n2
  have noA:∀ {b:Addr} {o:Obj} {es:Array DictEntry} {ep:Nat},s₁.heap.get? b=some o->o.data=.dict es ep->H b=none:=fun {b o es ep} e d=>free_of e (fun xs n z=>by subst z;cases d) (fun z=>by subst z;cases d)
  have nsK:∀ {b:Addr} {m:Str->Option Value},s₁.heap.Ns b m->(aD0 s₁.heap H).Ns b m:=fun {b m} ⟨o,es,ep,e,d,r⟩=>⟨o,es,ep,base_of e (noA e d),d,r⟩
  have hKb:K.In (aD0 s₁.heap H):=fun b o e=>base_of (KX b o e) (by
   cases q:H b with
   | none=>rfl
   | some u =>
    rcases hA b (by rw[q];simp) with e' | e'
    ·subst e'
     rw[hK (by rw[q];simp)]at e;cases e
    ·have e1:=KX b o e
     rw[tabO b e']at e1
     cases e1
     have h2:=x9.mp hK0 _ (PySem.W.mem_of_lookupK e)
     exact absurd (show false=true from h2) d4)
  have hM:Mod K mg (aD0 s₁.heap H):=⟨hKb,nsK hns,⟨mb,nsK hb,hbb⟩,let ⟨mc,h1,h2⟩:=hlim;⟨mc,nsK h1,h2⟩⟩
  have hLB:∀ q∈ts,au4 (aD0 s₁.heap H) mg q.1 q.2:=fun q hq=>by
   obtain⟨C,eP⟩:=hT q hq
   refine⟨?_,?_,?_⟩
   ·obtain⟨o,vs,file,tf,flags,tg,inF,text,tt,e1,r1,r2⟩:=C
    exact⟨o,vs,file,tf,flags,tg,inF,text,tt,base_of e1 (free_of e1 (fun xs n z=>by subst z;exact absurd (show Value.type "list"=Value.type "code" from r1) (by decide)) (fun z=>by subst z;cases r1)),r1,r2⟩
   ·obtain⟨bm,ob,b1,b2,b3,b4,b5,b6⟩:=hbm
    refine⟨bm,ob,b1,b2,fun z=>?_,fun z=>?_,base_of b3 (free_of b3 (fun xs n z=>by subst z;exact absurd (show Value.type "list"=Value.type "module" from b4) (by decide)) (fun z=>by subst z;cases b4)),b4,b5,b6⟩
    ·obtain⟨o,es,ep,e,d,_⟩:=hns
     rw[z,e]at b3;cases b3;rw[d]at b6;cases b6
    ·rw[z,eP]at b3;cases b3;cases b4
   ·intro z
    obtain⟨o,es,ep,e,d,_⟩:=hns
    rw[z,eP]at e;cases e;cases d
  have e0:bE5 P w K mg (aD0 s₁.heap H) bd1 [] s₁ H:=⟨rfl,hM,fun b o e=>bB6 e,ao9 (bg8 _ _),trivial,fun b hb=>absurd (show b∈([]:List Addr) from hb) (by simp),hok,.of_eq hg⟩
  refine ag4 ((F _ hKb (nsK hns) hLB).run bd1 [] s₁ H ⟨[.ref a],[]⟩ [.ref a] [.ref a] _ _ hr e0 (hbind s₁ (.ref a)) (.cons rfl .nil) (hsp H (fun q hq=>hHt _ (List.mem_map_of_mem hq)) hS)) fun r s' h=>?_
  cases r with
  | error e=>exact(hCX H e s' h).elim
  | ok fl =>
   cases fl with
   | next=>exact False.elim h
   | brk=>exact False.elim h
   | cont=>exact False.elim h
   | ret u =>
    obtain⟨v,H',os,bare,un,hok',r',q⟩:=h
    have q':v=.bl true:=q
    subst q'
    obtain rfl:u=Value.bool true:=r'
    have keep:∀ b o,b∉ts.map (·.2)->s₁.heap.get? b=some o->s'.heap.get? b=some o:=fun b o hb e=>by
     rcases hO b hb with z | ⟨ob,xs,z⟩
     ·exact un.keep b o e z (by intro z;exact absurd (show b∈([]:List Addr) from z) (by simp)) (by simp)
     ·have z2:=un.frzs b ob _ z
      obtain⟨e1,_⟩:=hok b _ z
      obtain⟨e2,_⟩:=hok' b _ z2
      rw[e]at e1;cases e1
      exact e2
    have grown:∀ b o,b∈ts.map (·.2)->s₁.heap.get? b=some o->isCodeTable s₁.heap b/\o=PySem.W.tabObj #[]/\∃ ps,s'.heap.get? b=some (PySem.W.tabObj ps):=fun b o hb e=>by
     obtain⟨ps,hp⟩:=un.tbls b #[] (hHt b hb)
     have e2:=tabO b hb
     rw[e]at e2
     obtain⟨q,hq,eq⟩:=m5.mp hb
     have e3:s'.heap.get? b=some (PySem.W.tabObj (#[]++ps)):=hok' b _ hp
     refine⟨?_,Option.some.inj e2,_,e3⟩
     rw[<- eq]
     exact((hT q hq).1.tab (hT q hq).2).isCodeTable
    refine⟨rfl,⟨fun b o e=>?_,fun b o e=>?_⟩,os,bare⟩
    ·by_cases hb:b∈ts.map (·.2)
     ·obtain⟨ht,rfl,ps,hP⟩:=grown b o hb e
      exact .inr (.inl ⟨ht,rfl,#[],ps,rfl,by rw[Array.empty_append];exact hP⟩)
     ·exact .inl (keep b o hb e)
    ·by_cases hb:b∈ts.map (·.2)
     ·obtain⟨_,_,ps,hP⟩:=grown b o hb e
      exact⟨_,hP⟩
     ·exact⟨o,keep b o hb e⟩
 cases hk:K.lookup a with
 | some o =>
  have e:=KX a o hk
  rw[ha]at e
  cases e
  refine core (fun b=>if b∈ts.map (·.2) then some (.tbl #[]) else none) (fun b hb=>if_pos hb) (fun b hb=>.inl (if_neg hb)) (.inr ⟨_,vs.toArray,_,hk,rfl,rfl,rfl,by rw[d9,lenV];exact hl,by simpa using rv⟩) (fun b u z=>?_) (fun b z=>?_) fun z=>absurd (if_neg aT) z
  ·by_cases hb:b∈ts.map (·.2)
   ·have z':=(if_pos hb).symm.trans z
    cases z'
    exact tabO b hb
   ·have z':=(if_neg hb).symm.trans z
    cases z'
  ·by_cases hb:b∈ts.map (·.2)
   ·exact .inr hb
   ·exact absurd (if_neg hb) z
 | none =>
  have e1:∀ b,b∈ts.map (·.2)->(if b∈ts.map (·.2) then some (HO.tbl #[]) else if b=a then some (.frz { cls:=.type "list",data:=.seq vs.toArray } (.lst (ns.map V.int))) else none)=some (HO.tbl #[]):=fun b hb=>if_pos hb
  have e2:∀ b,b∉ts.map (·.2)->(if b∈ts.map (·.2) then some (HO.tbl #[]) else if b=a then some (.frz { cls:=.type "list",data:=.seq vs.toArray } (.lst (ns.map V.int))) else none)=(if b=a then some (.frz { cls:=.type "list",data:=.seq vs.toArray } (.lst (ns.map V.int))) else none):=fun b hb=>if_neg hb
  refine core (fun b=>if b∈ts.map (·.2) then some (HO.tbl #[]) else if b=a then some (.frz { cls:=.type "list",data:=.seq vs.toArray } (.lst (ns.map V.int))) else none) e1 (fun b hb=>?_) (.inl (.inr ⟨{ cls:=.type "list",data:=.seq vs.toArray },(e2 a aT).trans (if_pos rfl)⟩)) (fun b u z=>?_) (fun b z=>?_) fun _=>hk
  ·rw[e2 b hb]
   by_cases hba:b=a
   ·exact .inr ⟨_,_,if_pos hba⟩
   ·exact .inl (if_neg hba)
  ·by_cases hb:b∈ts.map (·.2)
   ·have z':=(e1 b hb).symm.trans z
    cases z'
    exact tabO b hb
   ·have z1:=(e2 b hb).symm.trans z
    by_cases hba:b=a
    ·have z':=(if_pos hba).symm.trans z1
     cases z'
     subst hba
     exact⟨ha,by rw[a5];exact hl,vs,_,rv,ha⟩
    ·have z':=(if_neg hba).symm.trans z1
     cases z'
  ·by_cases hb:b∈ts.map (·.2)
   ·exact .inr hb
   ·by_cases hba:b=a
    ·exact .inl hba
    ·exact absurd ((e2 b hb).trans (if_neg hba)) z
theorem walk_ofT {l:PySem.W.OpenLaw} {k:Nat} {q:Program} {loose:List Str} {d:DefRec} {K:Params->PySem.W.Frag} {CX:World->CXT} {sp:World->List (Addr × Addr)->Sp} {ts:World->List (Addr × Addr)}
  (hn:l.most=some n) (hn2:n<=f6) (hdf:d.params.defaults=[]) (hr:W6 k bd1)
  (hY:∀ (w:World) (h:Heap),YP w h->(K w.params).In h) (hK0:∀ w:World,PySem.W.noTabs (K w.params)=true)
  (hts:∀ (w:World) (loose:List Str) (mean:ExcName->Option Value) (mg mb:Str->Option Value) (h:Heap),Top q loose mean mg mb h->(K w.params).In h->PySem.W.TabsAt (ts w) h)
  (F : ∀ (w : World) (mg : Str -> Option Value) (fa : Addr) (h : Heap), (K w.params).In h -> h.Ns d5 mg -> mg d.name = some (.ref fa) ->
   ∃ fd:FuncData,(∀ (s:Shared) (u:Value),bd0 s fd ⟨[u],[]⟩ [(x,u)]) /\
    ∀ base:Heap,(K w.params).In base->base.Ns d5 mg->(∀ q∈ts w,au4 base mg q.1 q.2)->x5 l.prog w (K w.params) mg base (CX w) k fa fd [x] (sp w (ts w)))
  (hsp:∀ (w:World) (H:Hp) (a:Addr) (ns:List Int),ns.length<=n->(∀ q∈ts w,H q.2=some (.tbl #[]))->SqL (K w.params) H a (ns.map V.int)->sp w (ts w) [.ref a] H (fun v _=>v=.bl true) fun _ _ _=>False)
  (hCX:∀ (w:World) (H:Hp) (s:Shared) (e:Value) (s':Shared),CX w [] H s (fun _ _ _=>False) e s'->False) :
  PySem.W.WalkO q loose XP YP l.row.toRowW d [] (fun f vs=>PySem.call f vs):=by
 refine Att.attach_call hn hdf fun w s₀ s₁ mg mb fa o pm cd doc a vs ns G Y ho hd hcd hmg hobj hints hlen hg=>?_
 have KX:=hY w _ Y
 obtain⟨fd,hb,hF⟩:=F w mg fa _ KX G.T.g hmg
 exact bg2 (hts w _ _ _ _ _ G.T KX) (hK0 w) G.T.bmain KX G.T.g G.T.b G.T.builtins G.T.nolimit hg hobj hints (p9 hlen hn2) hr hF hb (fun H hO hS=>hsp w H a ns hlen hO hS) fun H e s'=>hCX w H s₁ e s'
theorem bt1 {items:Array Value}{x:Int}{t:Tok}(e:s.heap.get? l=some { cls:=.type "list",data:=.seq items n })(hsz:items.size<=f6)(h0:-(2 ^ 63)<=x)(h1:x<2 ^ 63)
  (h:Q .none { s with heap:=s.heap.update l (Obj.mapSeq fun xs=>have k:=if x<0 then (x+(xs.size:Int)).toNat else min x.toNat xs.size;(xs.extract 0 k).push u++xs.extract k),toks:=s.toks }) :
  r6 (o7 prog w) A (call (.builtin "list.insert") [.ref l,.int x t,u]) Q E s :=
 ac2 F.slot_list_insert ⟨_,e,rfl⟩ F.entry_list_insert (F.args_list_insert_3 _ _ _) (PySem.AutoSeq1.list_insert_list_int_val_1 l items n x t u (by rw[show Builtin.List.listFitsIndex x=true from fitsIndex_both h0 h1];decide) hsz) ⟨e,h⟩
def by9:V->List V->Hp->VK->Prop:=fun x vs H Q=>∃ l xs y,∃ i:Nat,x=.ref l/\vs=[.int i,y]/\H l=some (.lst xs)/\i<=xs.length/\xs.length<1000/\Q .non (upd H l (.lst (xs.take i++[y]++xs.drop i)))
theorem bf8:MtM X "list.insert" by9:=by
 intro pins s σ H x vs v us Q I rx rv h
 obtain⟨l,xs,y,i,rfl,rfl,hH,hi,hz0,q⟩:=h
 cases rx
 cases rv with
 | cons r1 rr =>
  cases rr with
  | cons ru rr =>
   cases rr
   obtain⟨t,rfl⟩:=r1
   rename_i u
   obtain⟨z,its,n,r,hl,e⟩:=I.lstM hH
   have hsl:1000<f6:=by decide
   have hsz:its.toArray.size<=f6:=by rw[d9];omega
   refine bt1 (x:=(i:Int)) e hsz (Int.le_trans (show (-(2 ^ 63):Int)<=0 by decide) (bS2 i)) (Int.lt_trans (show (i:Int)<1000 by omega) (by decide)) ?_
   refine⟨.non,_,I.lset (its':=its.take i++[u]++its.drop i) hH e ?_ ((r.take i).append (.cons ru .nil) |>.append (r.drop i)) ?_,rfl,q⟩
   ·have hk:(if (i:Int)<0 then ((i:Int)+(its.toArray.size:Int)).toNat else min (i:Int).toNat its.toArray.size)=i:=by
     rw[if_neg (by omega),d9,p0]
     omega
    show ((its.toArray.extract 0 (if (i:Int)<0 then ((i:Int)+(its.toArray.size:Int)).toNat else min (i:Int).toNat its.toArray.size)).push u++its.toArray.extract (if (i:Int)<0 then ((i:Int)+(its.toArray.size:Int)).toNat else min (i:Int).toNat its.toArray.size))=_
    rw[hk]
    apply bS3.mp
    simp
    exact j5 (by rw[x6];omega)
   ·rw[i9,i9,l6,x6,ao3]
    omega
def bf3 (ns:List Int)(z:Int):List Int:=[-(ns.getD z.toNat 0),z]
theorem bA1 (ns:List Int)(z:Int):∃ i k,bf3 ns z=i::k:=⟨_,_,rfl⟩
def ole (ns:List Int)(x y:Int):Prop:=Tim.J3 (bf3 ns y) (bf3 ns x)=false
theorem U6 {x y:Int}:ole ns x y↔(ns.getD y.toNat 0<ns.getD x.toNat 0\/(ns.getD x.toNat 0=ns.getD y.toNat 0/\x<=y)):=by
 unfold ole bf3 Tim.J3
 by_cases h:-(ns.getD y.toNat 0) = -(ns.getD x.toNat 0)
 ·rw[if_pos h]
  unfold Tim.J3
  by_cases h2:y=x
  ·rw[if_pos h2]
   simp only[Tim.J3,true_iff]
   exact .inr ⟨by omega,by omega⟩
  ·rw[if_neg h2,decide_eq_false_iff_not]
   constructor
   ·intro h3;exact .inr ⟨by omega,by omega⟩
   ·intro h3 h4;omega
 ·rw[if_neg h,decide_eq_false_iff_not]
  constructor
  ·intro h3;exact .inl (by omega)
  ·intro h3 h4;omega
theorem aO0 {x y:Int}(h1:ole ns x y)(h2:ole ns y x):x=y:=by
 rw[U6]at h1 h2
 omega
theorem ay5 {zs' l:List Int}(p1:zs.Perm l)(p2:zs'.Perm l)(s1:zs.Pairwise (ole ns))(s2:zs'.Pairwise (ole ns)):zs=zs':=
 (p1.trans p2.symm).eq_of_pairwise (fun x y _ _ h1 h2=>aO0 h1 h2) s1 s2
theorem bA0 {at_:Nat}(hs:zs.Pairwise (ole ns))(hlt:∀ x∈zs,0<=x/\x<i)(hl:at_<=zs.length)(hge:∀ j x,j<at_->zs[j]?=some x->ns.getD i 0<=ns.getD x.toNat 0)
  (hstop:∀ x,zs[at_]?=some x->ns.getD x.toNat 0<ns.getD i 0):(zs.take at_++[(i:Int)]++zs.drop at_).Pairwise (ole ns):=by
 rw[q8,v8]
 have hi:(i:Int).toNat=i:=p0 i
 have hdrop:∀ y∈zs.drop at_,ns.getD y.toNat 0<ns.getD i 0:=fun y hy=>by
  cases e:zs.drop at_ with
  | nil=>rw[e]at hy;cases hy
  | cons x r =>
   have hx:zs[at_]?=some x:=by
    have:=J8 (xs:=zs) (i:=at_) (j:=0)
    rw[e]at this
    simpa using this.symm
   have h1:=hstop x hx
   rw[e]at hy
   rcases d3.mp hy with rfl | hy
   ·exact h1
   ·have hp:(zs.drop at_).Pairwise (ole ns):=hs.sublist (P0 _ _)
    rw[e]at hp
    have:=U6.mp ((D3.mp hp).1 y hy)
    omega
 refine⟨hs.sublist (G3 _ _),?_,fun x hx y hy=>?_⟩
 ·rw[bu3,D3]
  refine⟨fun y hy=>?_,hs.sublist (P0 _ _)⟩
  rw[U6,hi]
  exact .inl (hdrop y hy)
 ·obtain⟨j,hj⟩:=m8.mp hx
  have hj2:j<at_:=by
   have:=(c4.mp hj).1
   rw[l6]at this
   omega
  have hj3:zs[j]?=some x:=by rw[L6 hj2]at hj;exact hj
  have h1:=hge j x hj2 hj3
  have h2:=hlt x (b8 hj3)
  rw[bu3]at hy
  rcases d3.mp hy with rfl | hy
  ·rw[U6,hi]
   omega
  ·have h3:=hdrop y hy
   rw[U6]
   omega
theorem bq6 {l:List Int}{at_:Nat}{i:Int}(p:zs.Perm l):(zs.take at_++[i]++zs.drop at_).Perm (l++[i]):=by
 have h1:(zs.take at_++[i]++zs.drop at_).Perm (zs.take at_++zs.drop at_++[i]):=by
  rw[q8,q8]
  exact(ao4).append_left _
 rw[A9]at h1
 exact h1.trans (p.append_right _)
end L2
namespace Web
open PySem L2
def V9 (ks:List (List Int))(p:Nat):Nat:=ks.countP fun k=>decide ((p:Int)∈k)
def tal (n:Nat)(ks:List (List Int)):List Int:=(x8 n).map fun p=>(V9 ks p:Int)
theorem X0 (n:Nat)(ks:List (List Int)):(tal n ks).length=n:=by simp[tal]
theorem ag9 (h:p<n):(tal n ks)[p]?=some (V9 ks p:Int):=by
 unfold tal
 rw[m9,R6 h]
 rfl
theorem bh4 {ls:List (List Int)}(h:ks.Perm ls)(p:Nat):V9 ks p=V9 ls p:=h.countP_eq _
theorem bk1 {ls:List (List Int)}(h:ks.Perm ls)(n:Nat):tal n ks=tal n ls:=by
 unfold tal
 exact R7 fun p _=>by rw[bh4 h]
theorem aA5 (ks ls:List (List Int))(p:Nat):V9 (ks++ls) p=V9 ks p+V9 ls p:=List.countP_append
theorem bs8 (i j p:Nat):V9 [[(i:Int),(j:Int)]] p=if p=i\/p=j then 1 else 0:=by
 unfold V9
 rw[List.countP_singleton]
 by_cases h:p=i\/p=j
 ·rw[if_pos h,if_pos]
  simp only[decide_eq_true_eq,d3,N8,or_false]
  omega
 ·rw[if_neg h,if_neg]
  simp only[decide_eq_true_eq,d3,N8,or_false]
  omega
theorem bx5 (n:Nat):tal n []=B4 n 0:=by
 unfold tal V9
 rw[List.eq_replicate_iff]
 simp
theorem bx4 (hi:i<n)(hj:j<n)(h:i≠j)(ks:List (List Int))(z1 z2:Int)(e1:z1=V9 ks i)(e2:z2=V9 ks j) :
  ((tal n ks).set i (z1+1)).set j (z2+1)=tal n (ks++[[(i:Int),(j:Int)]]):=by
 subst e1 e2
 refine P1 fun p=>?_
 by_cases hp:p<n
 ·rw[ag9 hp,aA5,bs8,bS4,bS4,O6,X0,ag9 hp]
  by_cases q1:j=p
  ·subst q1
   rw[if_pos rfl,if_pos hj,if_pos (.inr rfl)]
   simp
  ·rw[if_neg q1]
   by_cases q2:i=p
   ·subst q2
    rw[if_pos rfl,if_pos hi,if_pos (.inl rfl)]
    simp
   ·rw[if_neg q2,if_neg (by omega)]
    simp
 ·rw[o9 (by simp[X0];omega),o9 (by rw[X0];omega)]
end Web
namespace HT
open PySem PyProof.Rows
end HT
namespace L2
open PySem PySem.Spec PyProof.Rows
section
variable {st:Expr} {ts:TE} {p2:Pos}
def cc1 (t u:TS):TS:=fun D σ H=>∃ Mid:St->Hp->Prop,t { D with nx:=Mid } σ H/\∀ σ' H',Mid σ' H'->u D σ' H'
theorem ah2 {stm:Stmt}{rest:List Stmt}{t u:TS}(h1:PS X stm t)(h2:PSs X rest u):PSs X (stm::rest) (cc1 t u):=by
 intro pins s σ H D I ⟨Mid,h,k⟩
 refine aS8 (thn (h1 pins s σ H { D with nx:=Mid } I h) fun f s1 q=>?_)
 cases f with
 | next =>
  obtain⟨σ',H',I',q⟩:=q
  exact h2 pins s1 σ' H' D I' (k _ _ q)
 | ret v=>exact q
 | brk=>exact q
 | cont=>exact q
end
theorem by0 (I:Inv X pins σ H s){p:Addr}(hq:SqL X.K H p (ns.map V.int)\/SqT X.K H p (ns.map V.int)):∃ (vs:List Value) (T:String) (o:Obj) (c:Nat),(T="list"\/T="tuple")/\s.heap.get? p=some o/\o.cls=.type T/\o.data=.seq vs.toArray c/\F1 vs ns:=by
 rcases hq with hq | hq
 ·obtain⟨its,r',pl,hz⟩:=I.list hq
  obtain⟨o,ho,hc,n,hd⟩:=pl.isList
  exact⟨its,"list",o,n,.inl rfl,ho,hc,hd,intsAre_of r'⟩
 ·obtain⟨its,r',pl,hz⟩:=I.tuple hq
  obtain⟨o,ho,hc,n,hd⟩:=pl
  exact⟨its,"tuple",o,n,.inr rfl,ho,hc,hd,intsAre_of r'⟩
theorem aU1 (I:Inv X pins σ H s){h1:Heap}{out:Array Value}(kp:∀ b o',s.heap.get? b=some o'->h1.get? b=some o')(hi:F1 out.toList zs)(hz:zs.length<=1000) :
  H h1.objs.size=none/\Inv X pins σ (upd H h1.objs.size (.lst (zs.map V.int))) { s with heap:=aj7 (h1.push (E7 "list" vs.toArray 0)) h1.objs.size vs out }:=by
 have I1:Inv X pins σ H { s with heap:=h1,toks:=s.toks }:=I.kept kp
 refine⟨I1.hok.fresh (c6 _),?_⟩
 have hoL:(h1.push (E7 "list" vs.toArray 0)).get? h1.objs.size=some (E7 "list" vs.toArray 0):=j8 _ rfl
 obtain⟨e,he⟩:=sortedHeap_at (out:=out) hoL
 refine I1.laid (t':=s.toks) (fun b o q=>?_) (c6 _) ⟨by rw[a5,r9];omega,out.toList,e,ag8 hi,by rw[ap0];exact he⟩
 have hb:b<h1.objs.size:=f9 q
 rw[sortedHeap_old (k7 hb) (by rw[bu8];exact C3 hb)]
 exact a8 _ q
theorem aw8 {p:Addr}{b:Bool}(I:Inv X pins σ H s)(hq:SqL X.K H p (ns.map V.int)\/SqT X.K H p (ns.map V.int))(h64:ns.length<64)
  (h:∀ (s':Shared) (D:Addr) (zs:List Int),H D=none->zs.Perm ns->Ordered b zs->Inv X pins σ (upd H D (.lst (zs.map V.int))) s'->Q (.ref D) s') :
  r6 (o7 X.prog X.w) A (call (.builtin "sorted") [.ref p] [(Str.ofString "reverse",.bool b)]) Q E s:=by
 obtain⟨vs,T,o,c,hT,ho,hc,hd,hI⟩:=by0 I hq
 have hlen:=hI.length
 refine bF4 bU2 bJ1 bJ2 (args_sorted_rev _ _) ?_
 unfold Builtin.«sorted»
 refine a7 (m:=checkCount "sorted" 1 1 _) (i8 ?_)
 refine a7 (wpAny_collect_seq p hT ho hc hd (fun h1 kp=>?_) (by rw[d9,r9];omega))
 rw[bF0]
 refine a7 (Q2 ?_ (by rw[r9];omega))
 have hoL:(h1.push (E7 "list" vs.toArray 0)).get? h1.objs.size=some (E7 "list" vs.toArray 0):=j8 _ rfl
 refine a7 (D9 (bU5 bj2 (s:={ s with heap:=h1.push (E7 "list" vs.toArray 0) }) ⟨_,hoL,rfl⟩ bd4 (list_sort_tree_rev (s:={ s with heap:=h1.push (E7 "list" vs.toArray 0) }) hoL hI (by omega) fun out ns' a1 a2 a3=>⟨_,rfl,?_⟩) (args_list_sort_rev _ _)))
 obtain⟨e1,e2⟩:=aU1 (vs:=vs) I kp a1 (by rw[a2.length_eq];omega)
 exact i8 ⟨_,rfl,h _ _ ns' e1 a2 a3 e2⟩
def bK8 (K:W.Frag)(tr:TA):TE:=fun σ H Q=>tr σ H fun vs H1=>∃ (p:Addr) (ns:List Int),vs=[.ref p]/\(SqL K H1 p (ns.map V.int)\/SqT K H1 p (ns.map V.int))/\ns.length<64 /\
 ∀ (l:Addr) (zs:List Int),H1 l=none->zs.Perm ns->zs.Pairwise (·≥·)->Q (.ref l) (upd H1 l (.lst (zs.map V.int)))
theorem bn5 {np bpos kpos:Pos}{tr:TA}(K:W.Frag)(hK:X.K=K)(hg:Gl X "sorted")(hm:X.mg "sorted"=none)(ha:PA X [e] tr)
  (hs:Y1 pos (A4 [e] X.env)=(false,eval e X.env)::Y1 pos (A4 [] X.env):=by rfl)
  (hpl:(Y1 pos (A4 [e] X.env)).any (·.1)=false:=by rfl) :
  PE X (.Call (.Name "sorted" np) [e] [⟨some "reverse",.Constant (.bool true) j bpos,kpos⟩] pos) (bK8 K tr):=by
 subst hK
 intro pins s σ H Q I h
 refine O7 (Y5 I hg hm (show K5 "sorted"=some (.builtin "sorted") from rfl) ?_ (by decide) (by decide))
 refine callWith_kw (thn (ha pos pins s σ H _ I h) fun us s1 ⟨vs,H1,I1,r1,q1⟩=>?_) hs hpl rfl rfl
 obtain⟨p,ns,rfl,hq,h64,q⟩:=q1
 have hk:PK X [⟨some "reverse",.Constant (.bool true) j bpos,kpos⟩] (aY5 (tC (.bl true)) bx7):=aZ6 bn8 bn1
 refine thn (hk pos pins s1 σ H1 (fun zs H2=>zs=[.bl true]/\H2=H1) I1 ⟨rfl,rfl⟩) fun ws s2 ⟨zs,H2,I2,r2,ez,eH⟩=>?_
 subst ez eH
 obtain⟨w,rfl,rw⟩:=vals1 r2
 obtain⟨u,rfl,ru⟩:=vals1 r1
 cases rw
 cases ru
 exact aw8 (b:=true) I2 hq h64 fun s' D zs a1 a2 a3 I'=>⟨.ref D,_,I',rfl,q D zs a1 a2 a3⟩
theorem au0 {ip tp:Addr}{ys:Array Value}{x:Value}(hi:s.heap.IsTupleIter ip tp i)(ht:s.heap.IsTuple tp ys)(hx:ys[i]?=some x)
  (q:∀ h',h'.IsTupleIter ip tp (i+1)->Heap.SameBut ip s.heap h'->Q x { s with heap:=h' }):r6 (o7 prog w) A (Builtin.SmallTypes.nextOf (.ref ip)) Q E s:=by
 obtain⟨u,hu,cu,du⟩:=id hi
 obtain⟨v,hv,_,nv,dv⟩:=ht
 unfold Builtin.SmallTypes.nextOf
 refine a7 (bw3 (name:=Str.ofString "__next__") hi.typeIs F.slot_tuple_iterator_next (aS9 F.slot_tuple_iterator_next hi.typeIs F.entry_tuple_iterator_next ?_ (F.args_tuple_iterator_next_1 _)))
 show r6 _ _ (field (.ref ip) 0 >>= _) _ _ s;refine a7 (W3 hu du (x:=.ref tp) rfl ?_)
 show r6 _ _ (if (Value.ref tp == Value.none)=true then _ else _) _ _ s;rw[if_neg (show ¬ ((Value.ref tp == Value.none)=true) from d4)]
 show r6 _ _ (field (.ref ip) 1 >>= _) _ _ s;refine a7 (W3 hu du (x:=.int i 0) rfl ?_)
 show r6 _ _ (seqItems? (.ref tp) >>= _) _ _ s;refine a7 (aB5 hv dv ?_)
 simp only[p0,hx]
 refine a7 (aB6 hu du (by simp) (i8 ⟨x,rfl,i8 (q _ ?_ (Heap.SameBut.update ..))⟩))
 exact⟨_,W0 _ hu (Obj.isFreed_of_fields (Obj.data_mapFields du _)),(Obj.cls_mapFields ..).trans cu,by rw[Obj.data_mapFields du];simp[aj5]⟩
theorem ay8 {ip tp:Addr}{ys:Array Value}(hh:A.handled=none)(hi:s.heap.IsTupleIter ip tp i)(ht:s.heap.IsTuple tp ys)(hx:ys[i]?=none)
  (q:∀ h' e,Heap.ExtBut ip s.heap h'->(∃ o,h'.get? e=some o/\o.cls=.type "StopIteration")->E (.ref e) { s with heap:=h' }):r6 (o7 prog w) A (Builtin.SmallTypes.nextOf (.ref ip)) Q E s:=by
 obtain⟨u,hu,cu,du⟩:=id hi
 obtain⟨v,hv,_,nv,dv⟩:=ht
 unfold Builtin.SmallTypes.nextOf
 refine a7 (bw3 (name:=Str.ofString "__next__") hi.typeIs F.slot_tuple_iterator_next (aS9 F.slot_tuple_iterator_next hi.typeIs F.entry_tuple_iterator_next ?_ (F.args_tuple_iterator_next_1 _)))
 show r6 _ _ (field (.ref ip) 0 >>= _) _ _ s;refine a7 (W3 hu du (x:=.ref tp) rfl ?_)
 show r6 _ _ (if (Value.ref tp == Value.none)=true then _ else _) _ _ s;rw[if_neg (show ¬ ((Value.ref tp == Value.none)=true) from d4)]
 show r6 _ _ (field (.ref ip) 1 >>= _) _ _ s;refine a7 (W3 hu du (x:=.int i 0) rfl ?_)
 show r6 _ _ (seqItems? (.ref tp) >>= _) _ _ s;refine a7 (aB5 hv dv ?_)
 simp only[p0,hx]
 refine a7 (bu6 (a7 (aB6 hu du (by simp) ?_)))
 show r6 _ _ (newExc (.type "StopIteration") [] >>= _) _ _ _;refine a7 ?_;simp only[newExc,newTuple]
 refine a7 (aK9 ?_ (by size_fits));refine a7 (m:=firstArgMember _ _) (bU6 (a:=Value.none) (by first | rfl | (simp only[firstArgMember];rfl)) ?_)
 refine aK9 ?_ (by size_fits);simp only[raiseNew]
 refine a7 (wpAny_handled ?_);first | rw[show A.in1.handled=none from hh] | rw[hh]
 refine a7 (i8 (wpAny_throw ?_));exact q _ _ (((Heap.SameBut.update ..).extBut.push _).push _) ⟨_,j8 _ rfl,rfl⟩
theorem aF0 (hh:A.handled=none)(ip tp:Addr)(hne:tp≠ip)(ys:Array Value):Draws prog w A ip [ip,tp] ys.size (fun i v=>ys[i]?=some v) (fun i h=>h.IsTupleIter ip tp i/\h.IsTuple tp ys) where
 live:=fun _ _ z=>let ⟨o,ho,_⟩:=z.1;⟨o,ho⟩
 frame:=fun _ _ _ z k=>⟨z.1.at fun o e=>k ip (by simp) o e,z.2.at fun o e=>k tp (by simp) o e⟩
 item:=fun i s Q E hi z q=>au0 z.1 z.2 (x:=ys[i]) (by simp[hi]) fun h' a b=>q _ h' s.toks (by simp[hi]) ⟨a,z.2.extBut b.extBut hne⟩ b
 done:=fun s Q E z q=>ay8 hh z.1 z.2 (by simp) q
open AutoSeq1 (wpAny_loadPart') in
set_option maxRecDepth 100000 in
theorem az2 (tp:Addr)(ys:Array Value)(n:Nat)(dd:Option Addr)(ss:Array (Option Value)) :
  Meets (Builtin.«enumerate.__new__» ⟨[.type "enumerate",.ref tp],[]⟩) (fun _ R s=>s.heap.get? tp=some { cls:=.type "tuple",dict:=dd,data:=.seq ys n,slots:=ss } /\
   R (.ok (.ret (.ref (s.heap.push { cls:=.type "tuple_iterator",data:=.fields #[.ref tp,.int 0 0] }).objs.size)))
    { s with heap:=(s.heap.push { cls:=.type "tuple_iterator",data:=.fields #[.ref tp,.int 0 0] }).push { cls:=.type "enumerate",data:=.fields #[.none,.bool false,.ref s.heap.objs.size,aj5 0,.none,.none] } }) :=
 .of_wp fun prog w A R s h=>by
  obtain⟨hp,g,d,tk,os⟩:=s;obtain⟨hl,h⟩:=h
  have hsub:=sub_enumerate
  have hT:Heap.IsTuple (Shared.heap ⟨hp,g,d,tk,os⟩) tp ys:=⟨_,hl,rfl,n,rfl⟩
  wp_walk using wpAny_loadPart' hl
  refine wpAny_stack_any fun st=>i8 ?_
  split
  ·rename_i c _ _ _ _ _
   cases (c == Value.type "enumerate")
   ·wp_walk using wpAny_loadPart' hl,ag2 hT;exact⟨_,rfl,h⟩
   ·wp_walk using wpAny_loadPart' hl,ag2 hT;exact⟨_,rfl,h⟩
  ·wp_walk using wpAny_loadPart' hl,ag2 hT;exact⟨_,rfl,h⟩
theorem aD2 {tp:Addr}{ys:Array Value}(hT:s.heap.IsTuple tp ys)
  (q:∀ h',IsEnum h' (s.heap.objs.size+1) s.heap.objs.size 0 .none->h'.IsTupleIter s.heap.objs.size tp 0->h'.objs.size=s.heap.objs.size+2->(∀ b o,s.heap.get? b=some o->h'.get? b=some o)->Q (.ref (s.heap.objs.size+1)) { s with heap:=h' }) :
  r6 (o7 prog w) A (call (.type "enumerate") [.ref tp]) Q E s:=by
 obtain⟨⟨c,dd,dt,ss⟩,hl,hc,n,hd⟩:=hT
 replace hc:c=.type "tuple":=hc
 replace hd:dt=.seq ys n:=hd
 subst hc hd
 refine callType_new F.called_enumerate (by decide) (F.typeCall_enumerate_1 _) (F.newCall_enumerate_1 _) (fun obj=>F.args_object_init_2 obj _) F.entry_enumerate_new (az2 tp ys n dd ss) ⟨hl,?_⟩
 have hz:(s.heap.push { cls:=.type "tuple_iterator",data:=.fields #[.ref tp,.int 0 0] }).objs.size=s.heap.objs.size+1:=K3 ..
 show _/\_
 rw[hz]
 have he:IsEnum ((s.heap.push { cls:=.type "tuple_iterator",data:=.fields #[.ref tp,.int 0 0] }).push { cls:=.type "enumerate",data:=.fields #[.none,.bool false,.ref s.heap.objs.size,aj5 0,.none,.none] }) (s.heap.objs.size+1) s.heap.objs.size 0 .none:=by
  have:=j8 (s.heap.push { cls:=.type "tuple_iterator",data:=.fields #[.ref tp,.int 0 0] }) (o:={ cls:=.type "enumerate",data:=.fields #[.none,.bool false,.ref s.heap.objs.size,aj5 0,.none,.none] }) rfl
  rw[hz]at this;exact this
 exact⟨⟨_,he,rfl⟩,q _ he ⟨_,a8 _ (j8 _ rfl),rfl,rfl⟩ (by rw[K3,hz]) fun b o x=>a8 _ (a8 _ x)⟩
def Itm (K:W.Frag)(a:Addr):It:=
 ⟨fun i H=>∃ xs x,SqT K H a xs/\xs[i]?=some x,fun i H x H'=>∃ t v,H t=none/\x=.ref t/\(∀ xs,SqT K H a xs->xs[i]?=some v)/\H'=upd H t (.tup [.int i,v]),fun i H=>∃ xs,SqT K H a xs/\xs.length=i⟩
def bQ1 (K:W.Frag)(ta:TA):TI:=fun σ H R=>ta σ H fun vs H1=>∃ a,vs=[.ref a]/\(∃ xs,SqT K H1 a xs)/\R (Itm K a) H1
theorem aT5 {K:W.Frag}{elts:List Expr}{x1:Nat}(a ip e:Addr)(hne:e≠ip):Turn P w K (.Tuple elts x1 pos) (Itm K a) [e,ip] e (fun i h=>(∃ old,IsEnum h e ip (i:Int) old)/\h.IsTupleIter ip a i) where
 mem:=by simp
 obj:=fun i h st b hb=>by
  obtain⟨⟨old,he⟩,o,ho,hc,hd⟩:=st
  rcases d3.mp hb with rfl | hb
  ·exact⟨_,he,fun v z=>by cases z⟩
  ·obtain rfl:b=ip:=by simpa using hb
   exact⟨o,ho,fun v z=>by rw[hd]at z;cases z⟩
 keep:=fun i h h' st k=>⟨let ⟨old,he⟩:=st.1;⟨old,k e (by simp) _ he⟩,st.2.at fun o q=>k ip (by simp) o q⟩
 item:=by
  intro X hP hw hK hc i pins s σ H E I hf st hg
  subst hP hw hK
  obtain⟨xs,x,hq,hx⟩:=hg
  obtain⟨⟨old,he⟩,hit⟩:=st
  obtain⟨its,rv,p,hz⟩:=I.tuple hq
  obtain⟨u,hu,ru⟩:=rv.get hx
  obtain⟨f0,f1,f2,f3,f4,f5⟩:=hf e (by simp)
  obtain⟨g0,g1,g2,g3,g4,g5⟩:=hf ip (by simp)
  have pT:s.heap.IsTuple a its.toArray:=p
  have nai:a≠ip:=fun z=>by
   obtain⟨o1,h1,c1,_⟩:=id pT
   obtain⟨o2,h2,c2,_⟩:=id hit
   rw[z,h2]at h1;cases h1;rw[c2]at c1;injection c1 with c1;exact absurd c1 (by decide)
  have nae:a≠e:=fun z=>by
   obtain⟨o1,h1,c1,_⟩:=id pT
   rw[z,show s.heap.get? e=_ from he]at h1;cases h1;injection c1 with c1;exact absurd c1 (by decide)
  have ui:its.toArray[i]?=some u:=by simpa using hu
  have hlt':i<its.toArray.size:=by
   rcases C0 i its.toArray.size with h | h
   ·exact h
   ·rw[Array.getElem?_eq_none h]at ui;cases ui
  refine wpAny_pyNext_enum_itemD (aF0 (A:=X.A.in1) (I.ok.hd hc) ip a nai its.toArray) he ⟨hit,pT⟩ hlt' hne (by simp[hne,Ne.symm nae]) fun v h1 tk hv heo st1 ht1 hz1 hk1=>?_
  have ev:v=u:=by have:=hv.symm.trans ui;cases this;rfl
  subst ev
  have hit1:=st1.1
  refine⟨_,rfl,?_⟩
  refine bi7 heo fun h2 he2 hs2=>?_
  have hlt:e<s.heap.objs.size:=f9 he
  have hs2':Heap.SameBut e h1 h2:=hs2
  have ht2:h2.get? s.heap.objs.size=some { cls:=.type "tuple",data:=.seq #[.int i tk,v] }:=(hs2'.2 _ (S4 hlt)).trans ht1
  have kp:∀ b o,b≠e->b≠ip->s.heap.get? b=some o->h2.get? b=some o:=fun b o h1' h2' q=>(hs2'.2 b h1').trans (hk1 b o h1' h2' q)
  have hT:H s.heap.objs.size=none:=I.hok.fresh (c6 _)
  have nH:∀ b,H b≠none->b≠e/\b≠ip:=fun b hb=>⟨fun z=>hb (z ▸ f0),fun z=>hb (z ▸ g0)⟩
  have keepH:∀ b o,H b=some o->upd H s.heap.objs.size (.tup [.int i,x]) b=some o:=fun b o q=>by rw[t8 (u5 q hT)];exact q
  have hok2:HOk X.prog X.w (upd H s.heap.objs.size (.tup [.int i,x])) h2:=fun b o eb=>by
   by_cases hb:b=s.heap.objs.size
   ·subst hb
    rw[a9]at eb
    cases eb
    exact⟨by show 2<=f6;decide,[.int i tk,v],.cons ⟨_,rfl⟩ (.cons ru .nil),⟨_,ht2,rfl,_,rfl⟩⟩
   ·rw[t8 hb]at eb
    refine(I.hok b o eb).stay (fun c v hcc q=>kp c v ?_ ?_ q) (fun c q=>keepH c _ q) fun c ys q=>keepH c _ q
    ·rcases hcc with z | z
     ·exact(nH c (by rw[z,eb];simp)).1
     ·exact(nH c (by rw[z];simp)).1
    ·rcases hcc with z | z
     ·exact(nH c (by rw[z,eb];simp)).2
     ·exact(nH c (by rw[z];simp)).2
  have I2:Inv X pins σ (upd H s.heap.objs.size (.tup [.int i,x])) { s with heap:=h2,toks:=tk+1 }:=by
   refine I.step (g':=s.gens) (d':=s.drawn) (t':=tk+1) (ch:=[e,ip]) (fun b hb=>?_) (fun b o _ _ hcc q _=>kp b o (fun z=>hcc (by simp[z])) (fun z=>hcc (by simp[z])) q) (fun b o _ _ hcc q _=>⟨o.slots,kp b o (fun z=>hcc (by simp[z])) (fun z=>hcc (by simp[z])) q⟩) (fun b o _ q n=>?_)
    (fun b o hcc q=>⟨o,kp b o (fun z=>hcc (by simp[z])) (fun z=>hcc (by simp[z])) q⟩) (fun b ys q=>keepH b _ q) (fun b o v q=>keepH b _ q) (fun b ps q=>⟨#[],by rw[keepH b _ q];simp⟩) (fun m hm=>?_) hok2 I.bare
   ·rcases d3.mp hb with rfl | hb
    ·exact⟨f3,f1,f4,f5⟩
    ·obtain rfl:b=ip:=by simpa using hb
     exact⟨g3,g1,g4,g5⟩
   ·rw[t8 (k7 (f9 q))]
    exact n
   ·obtain⟨o,es,ep,ho,r⟩:=hm
    exact⟨o,es,ep,kp _ o (Ne.symm f1) (Ne.symm g1) ho,r⟩
  have hilt:ip<s.heap.objs.size:=by
   obtain⟨o,ho,_⟩:=id hit
   exact f9 ho
  refine⟨.ref s.heap.objs.size,_,I2,rfl,⟨s.heap.objs.size,x,hT,rfl,fun ys hy=>by rw[I.tuple_inj hy hq];exact hx,rfl⟩,⟨⟨v,?_⟩,?_⟩,fun b hb=>?_⟩
  ·have:=he2
   rw[show ((i:Int)+1)=(((i+1:Nat):Int)) by simp]at this
   exact this
  ·exact hit1.at fun o q=>(hs2'.2 ip (Ne.symm hne)).trans q
  ·rcases d3.mp hb with rfl | hb
   ·rw[t8 (k7 hlt)];exact f0
   ·obtain rfl:b=ip:=by simpa using hb
    rw[t8 (k7 hilt)]
    exact g0
 done:=by
  intro X hP hw hK hc i pins s σ H E I hf st hg
  subst hP hw hK
  obtain⟨xs,hq,hx⟩:=hg
  obtain⟨⟨old,he⟩,hit⟩:=st
  obtain⟨its,rv,p,hz⟩:=I.tuple hq
  obtain⟨g0,g1,g2,g3,g4,g5⟩:=hf ip (by simp)
  have hl:=rv.length
  have pT:s.heap.IsTuple a its.toArray:=p
  have nai:a≠ip:=fun z=>by
   obtain⟨o1,h1,c1,_⟩:=id pT
   obtain⟨o2,h2,c2,_⟩:=id hit
   rw[z,h2]at h1;cases h1;rw[c2]at c1;injection c1 with c1;exact absurd c1 (by decide)
  have ei:i=its.toArray.size:=by rw[d9];omega
  refine wpAny_pyNext_enum_endD (aF0 (A:=X.A.in1) (I.ok.hd hc) ip a nai its.toArray) he ⟨by rw[<- ei];exact hit,pT⟩ fun h' eb=>⟨rfl,I.turned (t':=s.toks) (fun b o hb q=>eb b o hb q) g0 g1 g3 g4 g5⟩
 self:=fun _ _ _ _ _ st h=>let ⟨⟨old,he⟩,_⟩:=st;ak1 he h
theorem bn3 {a:Expr}{ta:TA}{elts:List Expr}{x1:Nat}{tpos p:Pos}(hg:Gl X "enumerate")(hm:X.mg "enumerate"=none)(ha:PA X [a] ta)(hv:K5 "enumerate"=some (.type "enumerate"):=by rfl)(hs:A4 [a] X.env=[(false,eval a X.env)]:=by rfl) :
  PI X (.Tuple elts x1 tpos) (.Call (.Name "enumerate" p) [a] [] pos) (bQ1 X.K ta):=by
 intro pins s σ H R I h
 refine Call_ (Y5 I hg hm hv (PyProof.Rows.callWith_type1 (thn (ha pos pins s σ H _ I h) fun us s1 ⟨vs,H1,I1,r1,q1⟩=>?_) hs rfl))
 obtain⟨b,e,⟨xs,hq⟩,q⟩:=q1
 subst e
 obtain⟨u,rfl,rx⟩:=vals1 r1
 cases rx
 obtain⟨its,rv,pl,hz⟩:=I1.tuple hq
 refine aD2 (show s1.heap.IsTuple b its.toArray from pl) fun h' he hit hsz kp=>?_
 refine ak1 he ?_
 have hne:s1.heap.objs.size+1≠s1.heap.objs.size:=Nat.succ_ne_self _
 refine⟨s1.heap.objs.size+1,[s1.heap.objs.size+1,s1.heap.objs.size],_,_,H1,rfl,I1.kept (t':=s1.toks) kp,aT5 b s1.heap.objs.size (s1.heap.objs.size+1) hne,⟨⟨_,he⟩,hit⟩,fun c hc=>?_,q⟩
 rcases d3.mp hc with rfl | hc
 ·exact I1.fpOk (V3 _) (I1.hok.fresh (V3 _))
 ·obtain rfl:c=s1.heap.objs.size:=by simpa using hc
  exact I1.fpOk (c6 _) (I1.hok.fresh (c6 _))
theorem bh5 (hc:X.calm=true):R1 X (.builtin "sum") (fun xs H Q=>∃ (p:Addr) (ns:List Int),xs=[.ref p]/\SqT X.K H p (ns.map V.int)/\Q (.int ns.sum) H):=by
 intro pins s σ H xs us Q I r h
 obtain⟨p,ns,rfl,hq,q⟩:=h
 obtain⟨u,rfl,rx⟩:=vals1 r
 cases rx
 obtain⟨its,r',pl,hz⟩:=I.tuple hq
 have hi:F1 its ns:=intsAre_of r'
 obtain⟨ys,e⟩:=hi.allInts.items
 refine PySem.W.ktm_sumG (xs:=ys) (I.ok.hd hc) (by rw[<- e];exact pl) fun h' tk t' hk=>⟨.int ns.sum,H,I.kept (t':=tk) hk,⟨t',?_⟩,q⟩
 have e2:numsOf (intItems ys).toList=ns:=by rw[<- e];exact hi.numsOf
 rw[nums_intItems]at e2
 rw[preSum_eq,j5 (by simp),e2]
end L2
namespace L2
open PySem PySem.Spec PyProof.Rows
section
variable {Er:Value->Shared->Prop}
theorem aV7 {B:Heap}{env:Env}{L e:Addr}{cls a0 fl:Value}{Q:Unit->Shared->Prop}(hfr:A.frames=some (env::outer))(hf:env.frame=some L)(h1:B.StaysIn s.heap)(h2:B.get? e=none)(h3:s.heap.FunFrames B (env::outer))(h4:s.heap.TracedAtW B e cls a0 fl)
  (hQ:∀ h',Heap.FlyingW B outer e cls a0 h'->s.heap.UpToSlots h'->Q () { s with heap:=h' }):r6 M A (leaving env (.ref e)) Q Er s:=by
 by_cases hfl:fl=aj5 L
 ·subst hfl
  unfold leaving
  refine a7 (wpAny_noteFrame_againW hf h4 (wpAny_landsW (L:=L) ⟨h1,h2,h3,h4⟩ fun h' x1 x2=>hQ h' ⟨x1.1,x1.2.1,x1.2.2.1.2.2,x1.2.2.2⟩ x2))
 ·obtain⟨oe,vs,T,oT,ts,he,⟨hcl,h0⟩,hd,e1,nT,Te,hT,dT,e3⟩:=h4
  subst hcl
  have oth:∀ b,b≠T->(s.heap.update T (Obj.mapFields (·.setIfInBounds 3 Value.none))).get? b=s.heap.get? b:=fun b z=>C5 _ _ (Ne.symm z)
  have noT:∀ b o,s.heap.get? b=some o->(∀ vs,o.data≠.fields vs)->b≠T:=fun b o q n z=>by
   rw[z,hT]at q
   cases q
   exact n ts dT
  unfold leaving at7
  rw[hf]
  refine a7 (a7 (W3 he hd e1 ?_))
  rw[if_pos (by simp:(Value.ref T != Value.none)=true)]
  refine a7 (W3 hT dT e3 ?_)
  rw[if_neg (by simpa using hfl)]
  refine a7 (aB6 hT dT (aa5.mp e3).1 ?_)
  refine wpAny_newEntryW hfr (h3.of_keeps fun b o q n=>⟨o,by rw[oth b (noT b o q n)];exact q,rfl⟩) hf (by rw[oth e (Ne.symm Te)];exact he) (fun b o q=>?_) h2 hd (aa5.mp e1).1 h0 fun h' y=>?_
  ·rw[oth b (fun z=>by rw[z,nT]at q;cases q)]
   exact h1 b o q
  ·obtain⟨y1,y2,y3,y4⟩:=y
   exact hQ h' ⟨y1,h2,y2.2.2,y3⟩ fun b o q n=>y4 b o (by show (s.heap.update T _).get? b=_;rw[oth b (noT b o q n)];exact q) n
end
theorem as9 {B B':Heap}:∀ {l:List Env},(∀ b∈frs l,B.get? b=none->B'.get? b=none)->(∀ b∈frs l,∀ o,h.get? b=some o->(∀ vs,o.data≠.fields vs)->∃ o',h'.get? b=some o'/\∀ vs,o'.data≠.fields vs)->h.FunFrames B l->h'.FunFrames B' l
 | [],_,_,_=>trivial
 | env::r,k1,k2,⟨hk,⟨L,o,hf,hn,ho,hd⟩,hr⟩=>by
  have hL:L∈frs (env::r):=by unfold frs;rw[N2,hf];exact c5
  obtain⟨o',ho',hd'⟩:=k2 L hL o ho hd
  have up:∀ b∈frs r,b∈frs (env::r):=fun b hb=>by unfold frs;rw[N2,hf];exact b7 _ hb
  exact⟨hk,⟨L,o',hf,k1 L hL hn,ho',hd'⟩,as9 (fun b hb=>k1 b (up b hb)) (fun b hb=>k2 b (up b hb)) hr⟩
def CXA (P:Program)(w:World)(stack:List Env)(H:Hp)(s:Shared)(E:XK)(e:Value)(s':Shared):Prop:=
 ∃ x cls H2 fl,e=.ref x/\s'.os=s.os/\al8 s'.gens/\Un (frs stack) [] H H2 s.heap s'.heap/\HOk P w H2 s'.heap/\s.heap.get? x=none/\H2 x=none /\
  (∃ B a0,(B.StaysIn s'.heap/\B.get? x=none/\s'.heap.FunFrames B stack/\s'.heap.TracedAtW B x cls a0 fl)/\∀ b o,s'.heap.get? b=some o->(H2 b≠none\/s.heap.get? b≠none)->b∉frs stack->B.get? b=some o)/\E cls none H2
section
variable {K:W.Frag} {mg:Str->Option Value} {base:Heap} {cd:Value} {E:XK} {H1:Hp} {s1:Shared}
theorem bX9 {e:Value}{s2:Shared}(I:Inv (V0 (CXE P w) P w K mg base N qual scope f cd A outer s H E) pins σ H1 s1)(hc:CXA P w (V0 (CXE P w) P w K mg base N qual scope f cd A outer s H E).stack H1 s1 E e s2):(V0 (CXE P w) P w K mg base N qual scope f cd A outer s H E).xe e s2:=by
 obtain⟨x,cls,H2,fly,rfl,hos,hb2,u,hok,new,hxn,⟨B,a0,⟨k1,k2,k3,k4⟩,st⟩,hE⟩:=hc
 have hst:=I.stack
 have hfr:=I.ok.frames
 have hL:=I.free
 have hbs:Un (frs outer) [] H H1 s.heap s1.heap:=I.base
 change s1.heap.FunFrames base (E1 qual scope s.heap.objs.size f cd::outer) at hst
 change (A.deeper (E1 qual scope s.heap.objs.size f cd)).frames=some (E1 qual scope s.heap.objs.size f cd::outer) at hfr
 change H1 s.heap.objs.size=none at hL
 change Un (frs (E1 qual scope s.heap.objs.size f cd::outer)) [] H1 H2 s1.heap s2.heap at u
 change s2.heap.FunFrames B (E1 qual scope s.heap.objs.size f cd::outer) at k3
 have hff:frs (E1 qual scope s.heap.objs.size f cd::outer)=s.heap.objs.size::frs outer:=aA0 rfl
 have st':∀ b o,s2.heap.get? b=some o->(H2 b≠none\/s1.heap.get? b≠none)->b∉frs (E1 qual scope s.heap.objs.size f cd::outer)->B.get? b=some o:=st
 rw[hff]at u st'
 have hLo:∃ o,s1.heap.get? s.heap.objs.size=some o:=by
  obtain⟨m,⟨o,_,_,ho,_⟩,_⟩:=I.loc
  exact⟨o,ho⟩
 have hL2:H2 s.heap.objs.size=none:=by
  obtain⟨o,ho⟩:=hLo
  exact u.free _ o ho hL (by simp)
 have old:∀ b,(H2 b≠none\/s.heap.get? b≠none)->b∉frs outer->∃ o,s2.heap.get? b=some o/\B.get? b=some o:=fun b hb hno=>by
  have hne:b≠s.heap.objs.size:=by
   rcases hb with z | z
   ·intro q;rw[q]at z;exact z hL2
   ·obtain⟨o,z⟩:=G0 z
    exact k7 (f9 z)
  have hm:b∉s.heap.objs.size::frs outer:=fun hm=>by
   rcases d3.mp hm with q | q
   ·exact hne q
   ·exact hno q
  rcases hb with z | z
  ·obtain⟨o,z'⟩:=G0 z
   obtain⟨o',ho⟩:=(hok b o z').there
   exact⟨o',ho,st' b o' ho (.inl z) hm⟩
  ·obtain⟨o,z⟩:=G0 z
   obtain⟨o1,h1⟩:=hbs.there b o z (by simp)
   obtain⟨o2,h2⟩:=u.there b o1 h1 (by simp)
   exact⟨o2,h2,st' b o2 h2 (.inr (by rw[h1];simp)) hm⟩
 have u2:Un (frs outer) [] H H2 s.heap s2.heap:=by
  refine⟨fun b o e n hb hx=>?_,fun b o e n hb hx=>?_,fun b o e n hx=>?_,fun b o e hx=>?_,fun b xs e=>u.tups b xs (hbs.tups b xs e),fun b o v e=>u.frzs b o v (hbs.frzs b o v e),fun b ps e=>?_⟩
  ·refine u.keep b o (hbs.keep b o e n hb hx) (hbs.free b o e n hx) (fun hm=>?_) hx
   rcases d3.mp hm with q | q
   ·exact k7 (f9 e) q
   ·exact hb q
  ·obtain⟨sl,e1⟩:=hbs.slot b o e n hb hx
   obtain⟨sl2,e2⟩:=u.slot b _ e1 (hbs.free b o e n hx) (b7 _ hb) hx
   exact⟨sl2,e2⟩
  ·obtain⟨o',e1⟩:=hbs.there b o e hx
   exact u.free b o' e1 (hbs.free b o e n hx) hx
  ·obtain⟨o',e1⟩:=hbs.there b o e hx
   exact u.there b o' e1 hx
  ·obtain⟨m1,e1⟩:=hbs.tbls b ps e
   obtain⟨m2,e2⟩:=u.tbls b _ e1
   exact⟨m1++m2,by rw[e2,aw4]⟩
 have frNone:∀ b∈frs outer,H2 b=none:=fun b hb=>by
  have h1:=I.stkFree b (by
   show b∈frs (E1 qual scope s.heap.objs.size f cd::outer)
   rw[hff]
   exact b7 _ hb)
  obtain⟨_,o,ho,_⟩:=hst.mem (b:=b) (by
   show b∈frs (E1 qual scope s.heap.objs.size f cd::outer)
   rw[hff]
   exact b7 _ hb)
  exact u.free b o ho h1 (by simp)
 refine aV7 hfr rfl k1 k2 k3 k4 fun h' x1 x2=>?_
 have stay:∀ b o,s2.heap.get? b=some o->(H2 b≠none\/s.heap.get? b≠none)->b∉frs outer->h'.get? b=some o:=fun b o ho hb hno=>by
  obtain⟨o',ho',hB⟩:=old b hb hno
  rw[ho]at ho'
  cases ho'
  exact x1.1 b o hB
 refine⟨x,cls,H2,rfl,hos.trans I.os,hb2,u2.onto (fun b o ho hh hno=>stay b o ho (.inr hh) hno) (fun b o ho hh hm=>?_),hok.stays fun b o ho hh=>stay b o ho (.inl hh) fun hm=>hh (frNone b hm),?_,hxn,⟨B,a0,x1,fun b o ho hb hno=>?_⟩,hE⟩
 ·obtain⟨_,o',ho',hd⟩:=k3.mem (b:=b) (by
   show b∈frs (E1 qual scope s.heap.objs.size f cd::outer)
   rw[hff]
   exact b7 _ hm)
  rw[ho]at ho'
  cases ho'
  exact x2 b o ho hd
 ·cases q:s.heap.get? x with
  | none=>rfl
  | some o =>
   obtain⟨o',z⟩:=hbs.there x o q (by simp)
   rw[new]at z
   cases z
 ·obtain⟨o',ho',hB⟩:=old b hb hno
  have:=stay b o' ho' hb hno
  rw[ho]at this
  cases this
  exact hB
end
theorem bf6 {e:Value}{env env':Env}(h:env.frame=env'.frame):at7 e env=at7 e env':=by
 unfold at7 PySem.frameOf
 rw[h]
def XeC (X:Cx)(E:XK)(pins:List (Addr × Obj))(σ:St)(C:Addr)(e:Value)(s':Shared):Prop:=
 ∃ s1 H1 m,Inv X pins σ H1 s1/\M7 X pins H1 C/\s1.heap.Ns C m/\CXE X.prog X.w X.stack H1 s1 E e s'
section
variable {K:W.Frag} {mg:Str->Option Value} {base:Heap} {cd:Value} {E:XK}
theorem an7 (eX:X=V0 (CXE P w) P w K mg base N qual scope f cd A outer s H E){cenv:Env}(hcf:cenv.frame=X.env.frame){e:Value}{s':Shared}{acc:Value}(h:XeC X E pins σ C e s') :
  notedBy (o7 X.prog X.w) X.A cenv (fun x s''=>am0 (o7 X.prog X.w) X.A X.xe none Q acc C (.error x) s'') e s':=by
 obtain⟨s1,H1,m,I1,fC,hn,x,cls,H2,rfl,hos,hb2,u,hok,new,hxn,⟨B,a0,fl,st⟩,hE⟩:=h
 have hstk:X.stack=X.env::X.outer:=by rw[eX];rfl
 have hf:X.env.frame=some X.env.locals:=by rw[eX];rfl
 have hfr:X.A.frames=some (X.env::X.outer):=by rw[<- hstk];exact I1.ok.frames
 rw[hstk]at fl
 have nC:C∉frs X.stack:=fun z=>by
  rcases d3.mp (I1.stkSub C z) with q | q
  ·exact fC.2.1 q
  ·exact fC.2.2.1 q
 obtain⟨oC,es,ep,hC,dC,rC⟩:=hn
 have hC':s'.heap.get? C=some oC:=u.keep C oC hC fC.1 nC (by simp)
 have hC2:H2 C=none:=u.free C oC hC fC.1 (by simp)
 have frN:∀ b∈frs X.stack,H2 b=none:=fun b hb=>by
  obtain⟨_,o,ho,_⟩:=I1.stack.mem hb
  exact u.free b o ho (I1.stkFree b hb) (by simp)
 unfold notedBy
 rw[bf6 hcf]
 refine wpAny_looks_onW hfr hf fl fun h4 held up=>?_
 obtain⟨k1,k2,k3,oe,vs,T,oT,ts,he,hcl,hd,e1,nT,Te,hT,dT,e3⟩:=held
 have hsz3:3<ts.size:=(aa5.mp e3).1
 have hn4:h4.Ns C m:=up.ns ⟨oC,es,ep,hC',dC,rC⟩
 obtain⟨oC4,es4,ep4,hC4,dC4,_⟩:=id hn4
 have xC:x≠C:=fun z=>by
  rw[z,hC4]at he
  cases he
  rw[dC4]at hd
  cases hd
 have TC:T≠C:=fun z=>by
  rw[z,hC4]at hT
  cases hT
  rw[dC4]at dT
  cases dT
 refine⟨m,hn4,fun h5 hsb cenv' _=>?_⟩
 have g5:∀ b,b≠C->h5.get? b=h4.get? b:=fun b hb=>hsb.2 b hb
 have he5:=(g5 x xC).trans he
 have hT5:=(g5 T TC).trans hT
 unfold PySem.passOn
 refine a7 (W3 he5 hd e1 ?_)
 rw[if_neg (by simp:¬ ((Value.ref T == Value.none)=true))]
 refine a7 ?_
 unfold setFlight
 refine a7 (W3 he5 hd e1 ?_)
 rw[if_pos (by simp:(Value.ref T != Value.none)=true)]
 refine aB6 hT5 dT hsz3 (wpAny_throw ?_)
 generalize hfv:(cenv'.frame.elim Value.none fun f=>aj5 f)=fv
 have oth:∀ b,b≠T->(h5.update T (Obj.mapFields (·.setIfInBounds 3 fv))).get? b=h5.get? b:=fun b z=>C5 _ _ (Ne.symm z)
 have inB:∀ b o,B.get? b=some o->b≠C->(h5.update T (Obj.mapFields (·.setIfInBounds 3 fv))).get? b=some o:=fun b o q z=>by
  rw[oth b (fun z'=>by rw[z',nT]at q;cases q),g5 b z]
  exact k1 b o q
 have frO:∀ b∈frs X.stack,∀ o,s'.heap.get? b=some o->∃ sl,(h5.update T (Obj.mapFields (·.setIfInBounds 3 fv))).get? b=some { o with slots:=sl }:=fun b hb o q=>by
  obtain⟨_,o',q',nf⟩:=fl.2.2.1.mem (b:=b) (by rw[hstk]at hb;exact hb)
  rw[q]at q'
  cases q'
  obtain⟨sl,q4⟩:=up b o q nf
  refine⟨sl,?_⟩
  rw[oth b (fun z=>by rw[z,hT]at q4;cases q4;exact nf _ dT),g5 b (fun z=>nC (by rw[<- z];exact hb))]
  exact q4
 generalize hh6:h5.update T (Obj.mapFields (·.setIfInBounds 3 fv))=h6 at oth inB frO
 have I1':Inv X pins σ H1 { s1 with heap:=PySem.W.hideAll s1.heap [C],toks:=s1.toks }:=I1.turn fC fun b o hb q=>PySem.W.hideAll_get _ q (by simpa using hb)
 have nh:∀ {g:Heap} {b:Addr} {o:Obj},(PySem.W.hideAll g [C]).get? b=some o->b≠C:=fun {g b o} q z=>by
  rw[z,PySem.W.hideAll_none _ (n5.mpr rfl)]at q
  cases q
 subst eX
 refine bX9 (s1:={ s1 with heap:=PySem.W.hideAll s1.heap [C],toks:=s1.toks }) I1' ⟨x,cls,H2,fv,rfl,hos,hb2,?_,?_,?_,hxn,⟨PySem.W.hideAll B [C],a0,⟨?_,?_,?_,?_⟩,?_⟩,hE⟩
 ·refine⟨fun b o q n hb hx=>?_,fun b o q n hb hx=>?_,fun b o q n hx=>u.free b o (PySem.W.of_hideAll _ q) n hx,fun b o q hx=>?_,u.tups,u.frzs,u.tbls⟩
  ·have q1:=PySem.W.of_hideAll _ q
   exact inB b o (st b o (u.keep b o q1 n hb hx) (.inr (by rw[q1];simp)) hb) (nh q)
  ·obtain⟨sl,q1⟩:=u.slot b o (PySem.W.of_hideAll _ q) n hb hx
   obtain⟨sl',q2⟩:=frO b hb _ q1
   exact⟨sl',q2⟩
  ·have q1:=PySem.W.of_hideAll _ q
   obtain⟨o',q2⟩:=u.there b o q1 hx
   by_cases hb:b∈frs (V0 (CXE P w) P w K mg base N qual scope f cd A outer s H E).stack
   ·obtain⟨sl,q3⟩:=frO b hb _ q2
    exact⟨_,q3⟩
   ·exact⟨o',inB b o' (st b o' q2 (.inr (by rw[q1];simp)) hb) (nh q)⟩
 ·refine hok.stays fun b o q hh=>inB b o (st b o q (.inl hh) fun z=>hh (frN b z)) fun z=>hh (by rw[z];exact hC2)
 ·cases q:(PySem.W.hideAll s1.heap [C]).get? x with
  | none=>rfl
  | some o =>
   rw[PySem.W.of_hideAll _ q]at new
   cases new
 ·exact fun b o q=>inB b o (PySem.W.of_hideAll _ q) (nh q)
 ·cases q:(PySem.W.hideAll B [C]).get? x with
  | none=>rfl
  | some o =>
   rw[PySem.W.of_hideAll _ q]at k2
   cases k2
 ·refine as9 (fun b hb n=>?_) (fun b hb o q nf=>?_) fl.2.2.1
  ·cases q:(PySem.W.hideAll B [C]).get? b with
   | none=>rfl
   | some o =>
    rw[PySem.W.of_hideAll _ q]at n
    cases n
  ·obtain⟨sl,q2⟩:=frO b hb o q
   exact⟨_,q2,nf⟩
 ·refine⟨oe,vs,T,_,_,(oth x (Ne.symm Te)).trans he5,hcl,hd,e1,?_,Te,by rw[<- hh6];exact W0 _ hT5 (Obj.isFreed_of_fields (Obj.data_mapFields dT _)),Obj.data_mapFields dT _,by simp[hsz3]⟩
  cases q:(PySem.W.hideAll B [C]).get? T with
  | none=>rfl
  | some o =>
   rw[PySem.W.of_hideAll _ q]at nT
   cases nT
 ·intro b o q hh hb
  have bC:b≠C:=fun z=>by
   rcases hh with z' | z'
   ·exact z' (by rw[z];exact hC2)
   ·exact z' (by rw[z];exact PySem.W.hideAll_none _ (n5.mpr rfl))
  have hin:∃ o',s'.heap.get? b=some o'/\B.get? b=some o':=by
   rcases hh with z' | z'
   ·obtain⟨ho,q'⟩:=G0 z'
    obtain⟨o',q2⟩:=(hok b ho q').there
    exact⟨o',q2,st b o' q2 (.inl z') hb⟩
   ·obtain⟨o1,q'⟩:=G0 z'
    have q1:=PySem.W.of_hideAll _ q'
    obtain⟨o',q2⟩:=u.there b o1 q1 (by simp)
    exact⟨o',q2,st b o' q2 (.inr (by rw[q1];simp)) hb⟩
  obtain⟨o',q2,qB⟩:=hin
  have:=inB b o' qB bC
  have q':h6.get? b=some o:=q
  rw[this]at q'
  cases q'
  exact PySem.W.hideAll_get _ qB (by simpa using bC)
end
theorem bX8 {E:XK}{s3:Shared}{H3:Hp}(I3:Inv X pins σ H3 s3)(f3:∀ b∈fp,M7 X pins H3 b) :
  ar2 (CXE X.prog X.w) (A0 X scope cl N' s3 H3 fp (XeC X E pins σ s3.heap.objs.size)) E:=by
 intro pins' σ' H1 s1 e s' I' hc
 obtain⟨m,hm,_⟩:=I'.loc
 refine⟨s1,H1,m,I3.call' (ch:=fp) I'.os I'.base I'.hok I'.bare fun b hb=>?_,I3.fpOk (c6 _) I'.free,hm,hc⟩
 obtain⟨f0,f1,f2',f3',f4,f5⟩:=f3 b hb
 exact⟨f3',f1,f4,f5⟩
section
variable {K:W.Frag} {mg:Str->Option Value} {base:Heap} {scope0:Scope} {cd:Value} {s0:Shared} {H0:Hp} {E:XK}
end
def bU8 (K:W.Frag)(CT:Addr)(tb:(St->XK)->TS)(th:TS):TS:=fun D σ H=>∃ E:St->XK,tb E D σ H/\∀ σ' cls H',E σ' cls none H'->PySem.W.exmOne K cls (.ref CT)=some true/\th D σ' H'
theorem bz2 {body suite:List Stmt}{b0:Stmt}{tn:Str}{np hpos:Pos}{CT:Addr}{tb:(St->XK)->TS}{th:TS}
  (hg:Gl X tn)(hm:X.mg tn=some (.ref CT))(hst:X.stack=X.env::X.outer)(hfr:X.env.frame=some X.env.locals)(hbody:∀ pins E,PSs (aY3 X pins E) body (tb E))(hh:∀ v,PSs (bQ4 X v) (b0::suite) th)
  (hd:(tn == ("__debug__":Str))=false:=by decide) :
  PS X (.Try body [.ExceptHandler (some (.Name tn np)) none (b0::suite) hpos] [] [] pos) (bU8 X.K CT tb th):=by
 intro pins s σ H D I hw
 obtain⟨E,hb,hcatch⟩:=hw
 refine wpAny_Try_except (B6 (hbody pins E [] s σ H D I.toTry hb) (fun fl s1 q=>?_) fun e s1 hx=>?_)
 ·cases fl with
  | next =>
   obtain⟨σ',H',I',q⟩:=q
   exact ac7 ⟨σ',H',I'.ofTry,q⟩
  | brk=>obtain⟨σ',H',I',q⟩:=q;exact⟨σ',H',I'.ofTry,q⟩
  | cont=>obtain⟨σ',H',I',q⟩:=q;exact⟨σ',H',I'.ofTry,q⟩
  | ret u=>obtain⟨v,σ',H',I',r,q⟩:=q;exact⟨v,σ',H',I'.ofTry,r,q⟩
 ·obtain⟨σ1,H1,s0,I1,x,cls,H2,rfl,hos,hbare,u,hok,new,hxn,⟨B,a0,fl,st⟩,hE⟩:=hx
  obtain⟨hmat,hth⟩:=hcatch σ1 cls H2 hE
  have hfl:Heap.FlyingW B (X.env::X.outer) x cls a0 s1.heap:=by rw[hst]at fl;exact fl
  have frNone:∀ b∈frs X.stack,H2 b=none:=fun b hb=>by
   obtain⟨_,o,ho,_⟩:=I1.stack.mem hb
   exact u.free b o ho (I1.stkFree b hb) (by simp)
  have step:∀ h',B.StaysIn h'->s1.heap.UpToSlots h'->Un (frs X.stack) [] H1 H2 s0.heap h'/\HOk X.prog X.w H2 h':=fun h' hB hu=>by
   refine⟨u.onto (fun b o ho hh hno=>hB b o (st b o ho (.inr hh) hno)) fun b o ho hh hm'=>?_,hok.stays fun b o ho hh=>hB b o (st b o ho (.inl hh) fun hm'=>hh (frNone b hm'))⟩
   obtain⟨_,o',ho',hdd⟩:=hfl.2.2.1.mem (b:=b) (by rw[hst]at hm';exact hm')
   rw[ho]at ho'
   cases ho'
   exact hu b o ho hdd
  have inv:∀ h',B.StaysIn h'->s1.heap.UpToSlots h'->Inv X pins σ1 H2 { s1 with heap:=h' }:=fun h' hB hu=>by
   obtain⟨un,ok⟩:=step h' hB hu
   exact I1.call' (s':={ s1 with heap:=h' }) (ch:=[]) hos un ok hbare fun b hb=>by cases hb
  have hfrm:X.A.frames=some (X.env::X.outer):=by rw[<- hst];exact I1.ok.frames
  refine wpAny_looks_onW hfrm hfr hfl fun h4 held4 up4=>?_
  refine wpAny_landsW held4 fun h5 fl5 up5=>?_
  have up15:=up4.trans up5
  have I5:=inv h5 fl5.1 up15
  refine wpAny_handleBy_cons (codeAny_handlers_test ?_) (by intro q;cases q)
  refine an5 (I5.toHd (.ref x)) hg hm ?_ hd
  have LT:PySem.W.Looks (o7 X.prog X.w) h5 (typeOf (.ref x)) cls:=by
   obtain⟨ob,hob,hc⟩:=fl5.there
   subst hc
   exact(PySem.W.Looks.ld hob).andThen .now
  refine(PySem.W.exm_one (M:=o7 X.prog X.w) I5.kIn LT hmat).here ?_
  refine codeAny_handlers_suite ?_
  refine lands_againW fl5 fun h6 fl6 up6=>?_
  have up16:=up15.trans up6
  have I7:=inv h6 fl6.1 up16
  refine B6 (hh (.ref x) pins { s1 with heap:=h6 } σ1 H2 D (I7.toHd _) hth) (fun fl' s9 q=>?_) (fun _ _ z=>False.elim z)
  have hdX:=I.ok.hd
  cases fl' with
  | next =>
   obtain⟨σ',H',I',q⟩:=q
   exact⟨σ',H',I'.ofHd hdX,q⟩
  | brk =>
   obtain⟨σ',H',I',q⟩:=q
   exact⟨σ',H',I'.ofHd hdX,q⟩
  | cont =>
   obtain⟨σ',H',I',q⟩:=q
   exact⟨σ',H',I'.ofHd hdX,q⟩
  | ret u' =>
   obtain⟨v,σ',H',I',r,q⟩:=q
   exact⟨v,σ',H',I'.ofHd hdX,r,q⟩
theorem bh3 {elt iter:Expr} {ipos:Pos} {wi:TI} {g:TG} {tt:TT} {R:Value->Shared->Prop} {Q:VK}
  (hc:X.calm=true) (hi:PI X tg iter wi) (hclos:aj9 scope X.env=pure cl) (hkind:scope.kind=.function)
  (hnames:∀ y∈scope.names,y.2=.local->scope.names.lookup y.1=some .local) (hcl:ar5 X.env cl) (hfr:al5 scope.names cl=true) (hlk:aX3 X N' lk scope cl)
  (hg:∀ s3 H3 fp,PG (A0 X scope cl N' s3 H3 fp fun _ _=>False) tg g) (ht:∀ s3 H3 fp,PTs (A0 X scope cl N' s3 H3 fp fun _ _=>False) ifs tt) (he:∀ s3 H3 fp,PE (A0 X scope cl N' s3 H3 fp fun _ _=>False) elt te)
  (hs:∀ x,Q1 iter X.env x=pure x) (I:Inv X pins σ H s) (h:aL8 wi lk g tt te σ H Q)
  (hend : ∀ (C D : Addr) (s' : Shared) (H' : Hp), Inv X pins σ H' s' -> Q (.ref D) H' -> H' C = none -> C ≠ X.env.locals -> X.s₀.heap.objs.size <= C -> (∀ x c, X.env.cells.lookup x = some c -> c ≠ C) -> (∀ p ∈ X.pn ++ pins, p.1 ≠ C) -> (∃ m, s'.heap.Ns C m) ->
   am0 (o7 X.prog X.w) X.A X.xe use R (.ref D) C (.ok .next) s') :
  r6 (o7 X.prog X.w) X.A (aG4 (.ListComp elt [⟨tg,iter,ifs,0⟩] scope pos) scope X.env ipos (bU4 []) false (eval iter X.env) use) R X.xe s:=by
 have hcellN:∀ y∈scope.names,y.2≠.cell:=fun y hy=>by
  unfold al5 at hfr
  rw[x9]at hfr
  have:=hfr y hy
  rw[m7]at this
  simpa using this.1
 refine ak0 (use:=use) rfl hs hclos hkind hnames (thn (hi pins s σ H _ I h) fun v s1 h1=>thn h1 fun itv s2 h2=>?_)
 obtain⟨it,fp,tn,J,H2,e,I2,T,st2,f2,q⟩:=h2
 subst e
 refine Q2 ?_ (o6 _)
 have hD:H2 s2.heap.objs.size=none:=I2.hok.fresh (c6 _)
 have I3:=I2.lnew (ys:=[]) (its:=[]) (t':=s2.toks) .nil (o6 _)
 obtain⟨W,⟨m0,w0⟩,turn⟩:=q s2.heap.objs.size hD
 have fpl:∀ b∈fp,b<s2.heap.objs.size:=fun b hb=>by
  obtain⟨o,ho,_⟩:=T.obj 0 s2.heap st2 b hb
  exact f9 ho
 refine aa4 hcellN (by intro y hy;cases hy) (fun h1 hns1 hsb1=>?_) hkind
 dsimp only at hns1 hsb1 ⊢
 have e3:s2.heap.push { cls:=.type "list",dict:=none,data:=.seq ([]:List Value).toArray }=s2.heap.push { cls:=.type "list",data:=.seq ([]:List Value).toArray }:=rfl
 generalize hh3:s2.heap.push { cls:=.type "list",dict:=none,data:=.seq ([]:List Value).toArray }=h3 at *
 have I3':Inv X pins σ (upd H2 s2.heap.objs.size (.lst [])) { s2 with heap:=h3,toks:=s2.toks }:=I3
 have size3:h3.objs.size=s2.heap.objs.size+1:=by rw[<- hh3,K3]
 have f3:∀ b∈fp,M7 X pins (upd H2 s2.heap.objs.size (.lst [])) b:=fun b hb=>by
  obtain⟨f0,fr⟩:=f2 b hb
  exact⟨by rw[t8 (k7 (fpl b hb))];exact f0,fr⟩
 have up:∀ b u,h3.get? b=some u->h1.get? b=some u:=fun b u eb=>by
  rw[hsb1.2 b (k7 (f9 eb))]
  exact a8 _ eb
 have I4:Inv (A0 X scope cl N' { s2 with heap:=h3,toks:=s2.toks } (upd H2 s2.heap.objs.size (.lst [])) fp fun _ _=>False) [] (Y7 lk σ) (upd H2 s2.heap.objs.size (.lst [])) { s2 with heap:=h1,toks:=s2.toks+([]:List (Str × Value)).length }:=
  al2 (s3:={ s2 with heap:=h3,toks:=s2.toks }) I3' f3 hkind hcl hfr hlk hns1 up fun b hb=>by show b<h3.objs.size;rw[size3];exact C3 (fpl b hb)
 have st4:tn 0 h1:=T.keep 0 s2.heap h1 st2 fun b hb o eb=>up b o (by rw[<- hh3];exact a8 _ eb)
 have hCs:h3.objs.size=(K7 scope cl h3.objs.size X.env).locals:=rfl
 have stat:∀ {H':Hp},(∀ b∈fp,H' b=none)->∀ b∈fp,M7 (A0 X scope cl N' { s2 with heap:=h3,toks:=s2.toks } (upd H2 s2.heap.objs.size (.lst [])) fp fun _ _=>False) [] H' b:=fun {H'} hn b hb=>by
  obtain⟨f0,f1,f2',f3',f4,f5⟩:=f3 b hb
  refine⟨hn b hb,?_,fun z=>?_,.inl hb,fun x c ex=>f4 x c (hcl.get ex),fun p hp=>nomatch hp⟩
  ·show b≠h3.objs.size
   rw[size3]
   exact k7 (C3 (fpl b hb))
  ·rcases d3.mp (I3'.stkSub b z) with q | q
   ·exact f1 q
   ·exact f2' q
 have fin:∀ (s':Shared) (σ':St) (H':Hp),Inv (A0 X scope cl N' { s2 with heap:=h3,toks:=s2.toks } (upd H2 s2.heap.objs.size (.lst [])) fp fun _ _=>False) [] σ' H' s'->Q (.ref s2.heap.objs.size) H' ->
   am0 (o7 X.prog X.w) X.A X.xe use R (.ref s2.heap.objs.size) h3.objs.size (.ok .next) s':=fun s' σ' H' I' q'=>by
  obtain⟨m,hm,_⟩:=id I'.loc
  have I5:Inv X pins σ H' s':=I3'.call' (ch:=fp) I'.os I'.base I'.hok I'.bare fun b hb=>by
   obtain⟨f0,f1,f2',f3',f4,f5⟩:=f3 b hb
   exact⟨f3',f1,f4,f5⟩
  exact hend h3.objs.size s2.heap.objs.size s' H' I5 q' I'.free (S4 I3'.lt) I3'.sz (fun x c ex z=>by
   obtain⟨v',q2⟩:=I3'.cell x c ex
   exact absurd q2.lt (by rw[z];exact C2 _)) (fun p hp z=>absurd (f9 (I3'.pin p hp).1) (by rw[z];exact C2 _)) ⟨m,hm⟩
 have loop:∀ s5:Shared,s5={ s2 with heap:=h1,toks:=s2.toks+([]:List (Str × Value)).length } ->
   aB9 (o7 X.prog X.w) X.A (.compLoop (.ListComp elt [⟨tg,iter,ifs,0⟩] scope pos) 0 (.ref it) (.ref s2.heap.objs.size) (K7 scope cl h3.objs.size X.env)) (am0 (o7 X.prog X.w) X.A X.xe use R (.ref s2.heap.objs.size) h3.objs.size) s5:=by
  rintro s5 rfl
  refine bJ5 rfl (fun n s'=>∃ i xs σ' H',Inv (A0 X scope cl N' { s2 with heap:=h3,toks:=s2.toks } (upd H2 s2.heap.objs.size (.lst [])) fp fun _ _=>False) [] σ' H' s'/\tn i s'.heap/\(∀ b∈fp,H' b=none)/\W i n xs σ' H')
   (fun n s6 hI=>?_) m0 ⟨0,[],Y7 lk σ,_,I4,st4,fun b hb=>(f3 b hb).1,w0⟩
  obtain⟨i,xs,σ6,H6,I6,st6,fr6,w6⟩:=hI
  show r6 _ X.A ((compTurn (.ListComp elt [⟨tg,iter,ifs,0⟩] scope pos) 0 (.ref it) (.ref s2.heap.objs.size) (K7 scope cl h3.objs.size X.env)).onRaise (fun x=>do at7 x (K7 scope cl h3.objs.size X.env);bd6 x)) _ _ s6
  refine bU3 ?_
  rw[bw1]
  refine a7 (U2 (a7 ?_))
  obtain⟨hD6,hw⟩:=turn i n xs σ6 H6 w6
  rcases hw with⟨stop,qn⟩ | ⟨go,hlen,step⟩
  ·refine thn (T.done (A0 X scope cl N' { s2 with heap:=h3,toks:=s2.toks } (upd H2 s2.heap.objs.size (.lst [])) fp fun _ _=>False) rfl rfl rfl hc i [] s6 σ6 H6 _ I6 (stat fr6) st6 stop) fun r s7 ⟨hr,I7⟩=>?_
   subst hr
   exact i8 (fin s7 σ6 H6 I7 qn)
  ·refine thn (T.item (A0 X scope cl N' { s2 with heap:=h3,toks:=s2.toks } (upd H2 s2.heap.objs.size (.lst [])) fp fun _ _=>False) rfl rfl rfl hc i [] s6 σ6 H6 _ I6 (stat fr6) st6 go) fun r s7 ⟨u,hr,h7⟩=>?_
   subst hr
   refine a7 (thn h7 fun _ s8 ⟨x,H8,I8,r8,y8,st8,fr8⟩=>?_)
   have I8':=I8.pinned (stat fr8) (T.obj _ _ st8)
   refine a7 (B6 (hg _ _ _ _ s8 σ6 H8 x u _ I8' r8 (step x H8 y8)) (fun _ s9 ⟨σ9,H9,I9,q9⟩=>?_) (fun _ _ z=>False.elim z))
   refine a7 (B6 (ht _ _ _ _ s9 σ9 H9 _ I9 q9) (fun ok s10 ⟨H10,I10,q10⟩=>?_) (fun _ _ z=>False.elim z))
   have bc9:∀ {σ':St} {H':Hp} {ys:List V} {s':Shared},Inv (A0 X scope cl N' { s2 with heap:=h3,toks:=s2.toks } (upd H2 s2.heap.objs.size (.lst [])) fp fun _ _=>False) ([]++ae8 fp s8.heap) σ' H' s'->(∃ m',m'<n/\W (i+1) m' ys σ' H') ->
     ∃ m',m'<n/\∃ i xs σ' H',Inv (A0 X scope cl N' { s2 with heap:=h3,toks:=s2.toks } (upd H2 s2.heap.objs.size (.lst [])) fp fun _ _=>False) [] σ' H' s'/\tn i s'.heap/\(∀ b∈fp,H' b=none)/\W i m' xs σ' H':=fun {σ' H' ys s'} I' ⟨m',hm,w'⟩=>by
    refine⟨m',hm,i+1,ys,σ',H',I'.unpinned,T.keep _ _ _ st8 fun b hb o eb=>(I'.pin (b,o) (j2 _ (j2 _ (L0 hb eb)))).1,fun b hb=>?_,w'⟩
    obtain⟨o,eb,_⟩:=T.obj _ _ st8 b hb
    exact(I'.pin (b,o) (j2 _ (j2 _ (L0 hb eb)))).2.1
   cases ok with
   | false =>
    have q10':∃ m',m'<n/\W (i+1) m' xs σ9 H10:=by simpa using q10
    exact i8 ⟨rfl,bc9 I10 q10'⟩
   | true =>
    rw[if_pos rfl]at q10
    refine a7 (a7 (B6 (he _ _ _ _ s10 σ9 H10 _ I10 q10) (fun y s11 ⟨v11,H11,I11,r11,hD11,q11⟩=>?_) (fun _ _ z=>False.elim z)))
    refine a7 (B6 (P6 (X:=A0 X scope cl N' { s2 with heap:=h3,toks:=s2.toks } (upd H2 s2.heap.objs.size (.lst [])) fp fun _ _=>False) _ s11 σ9 H11 (.ref s2.heap.objs.size) [v11] (.ref s2.heap.objs.size) [y] (fun _ H'=>∃ m',m'<n/\W (i+1) m' (xs++[v11]) σ9 H') I11 rfl (.cons r11 .nil) ⟨s2.heap.objs.size,xs,v11,rfl,rfl,hD11,hlen,q11⟩) (fun _ s12 ⟨_,H12,I12,_,q12⟩=>?_) (fun _ _ z=>False.elim z))
    exact i8 (i8 ⟨rfl,bc9 I12 q12⟩)
 exact ap2 (loop _ rfl) (T.self X.A 0 _ _ _ st4 (loop _ rfl))
def bF9 (i:Nat)(t:TE):TS:=fun D σ H=>t σ H fun v H1=>D.nx (σ.set i (some v)) H1
theorem au9 {y:Str}{py:Pos}{elt iter:Expr}{spos:Pos}{wi:TI}{g:TG}{tt:TT}
  (hN:X.N.Nodup)(hy:X.N[i]?=some y)(hyl:X.env.scope.names.lookup y=some .local)
  (hsw:bI8 (.ListComp elt [⟨tg,iter,ifs,0⟩] scope pos) (some (.Name y py)) spos.line X.env=pure true)
  (hc:X.calm=true)(hi:PI X tg iter wi)(hclos:aj9 scope X.env=pure cl)(hkind:scope.kind=.function)
  (hnames:∀ y∈scope.names,y.2=.local->scope.names.lookup y.1=some .local)(hcl:ar5 X.env cl)(hfr:al5 scope.names cl=true)(hlk:aX3 X N' lk scope cl)
  (hg:∀ s3 H3 fp,PG (A0 X scope cl N' s3 H3 fp fun _ _=>False) tg g)(ht:∀ s3 H3 fp,PTs (A0 X scope cl N' s3 H3 fp fun _ _=>False) ifs tt)(he:∀ s3 H3 fp,PE (A0 X scope cl N' s3 H3 fp fun _ _=>False) elt te)
  (hs:∀ x,Q1 iter X.env x=pure x:=by intro _;rfl):PS X (.Assign [.Name y py] (.ListComp elt [⟨tg,iter,ifs,0⟩] scope pos) spos) (bF9 i (aL8 wi lk g tt te)):=by
 intro pins s σ H D I h
 rw[bJ7 _ _ _ _ hsw]
 refine a7 (U2 (a7 ?_))
 show r6 _ X.A (do let _ <- aG4 (.ListComp elt [⟨tg,iter,ifs,0⟩] scope pos) scope X.env _ (bU4 []) false (eval iter X.env) (some (aS4 (.Name y py) X.env))) _ _ s
 refine a7 (thn (bh3 (use:=some (aS4 (.Name y py) X.env)) (R:=fun _ s'=>SP X pins D .next s') hc hi hclos hkind hnames hcl hfr hlk hg ht he hs I h
  fun C Dd s' H' I' q' hC hCL hCs hCc hCp ⟨m,hm⟩=>?_) fun _ s' hq=>i8 (i8 hq))
 show r6 _ X.A (aS4 (.Name y py) X.env (.ref Dd)) _ _ s'
 refine aK7 (ap3 (v:=.ref Dd) I' hN hy (.inl hyl) rfl (fun s2 I2 ⟨a,hsb,ha⟩=>?_) (.inr hyl))
 have hCa:C≠a:=by
  rcases ha with z | z
  ·rw[z];exact hCL
  ·exact(hCc y a z).symm
 refine⟨m,hm.sameBut hsb hCa,fun h' hs'=>?_⟩
 obtain⟨h0,g0,d0,t0,o0⟩:=s2
 exact⟨_,H',I2.turned (t':=t0) (it:=C) (fun b o hb eb=>(hs'.2 b hb).trans eb) hC hCL (.inr hCs) hCc hCp,q'⟩
end L2
namespace Grf
def S:Nat->(Nat->Int)->Int
 | 0,_=>0
 | n+1,f=>S n f+f n
theorem B5 {f g:Nat->Int}:∀ {n:Nat},(∀ i,i<n->f i=g i)->S n f=S n g
 | 0,_=>rfl
 | n+1,h=>by
  show S n f+f n=S n g+g n
  rw[B5 fun i hi=>h i (by omega),h n (by omega)]
theorem au3 {f g:Nat->Int}:∀ {n:Nat},(∀ i,i<n->f i<=g i)->S n f<=S n g
 | 0,_=>K4 _
 | n+1,h=>by
  have h1:=au3 (n:=n) fun i hi=>h i (by omega)
  have h2:=h n (by omega)
  show S n f+f n<=S n g+g n
  omega
theorem Z9 (f g:Nat->Int):∀ n:Nat,S n (fun i=>f i+g i)=S n f+S n g
 | 0=>rfl
 | n+1=>by
  show S n (fun i=>f i+g i)+(f n+g n)=S n f+f n+(S n g+g n)
  rw[Z9 f g n]
  omega
theorem U0 (f g:Nat->Int):∀ n:Nat,S n (fun i=>f i - g i)=S n f - S n g
 | 0=>rfl
 | n+1=>by
  show S n (fun i=>f i - g i)+(f n - g n)=S n f+f n - (S n g+g n)
  rw[U0 f g n]
  omega
theorem R0:∀ n:Nat,S n (fun _=>0)=0
 | 0=>rfl
 | n+1=>by
  show S n (fun _=>0)+0=0
  rw[R0 n];rfl
theorem ab8 (c:Int):∀ n:Nat,S n (fun _=>c)=(n:Int)*c
 | 0=>by simp[S]
 | n+1=>by
  show S n (fun _=>c)+c=((n+1:Nat):Int)*c
  rw[ab8 c n,show ((n+1:Nat):Int)=(n:Int)+1 by omega,Int.add_mul,bI5]
theorem at4 (c:Int)(f:Nat->Int):∀ n:Nat,S n (fun i=>c*f i)=c*S n f
 | 0=>by simp[S]
 | n+1=>by
  show S n (fun i=>c*f i)+c*f n=c*(S n f+f n)
  rw[at4 c f n,Int.mul_add]
theorem Z8 {f:Nat->Int}(h:∀ i,i<n->0<=f i):0<=S n f:=by
 have:=au3 (f:=fun _=>0) (g:=f) (n:=n) h
 rw[R0]at this
 exact this
theorem bt7 (f:Nat->Nat->Int)(m:Nat):∀ n:Nat,S n (fun i=>S m (fun j=>f i j))=S m (fun j=>S n (fun i=>f i j))
 | 0=>(R0 m).symm
 | n+1=>by
  show S n (fun i=>S m (fun j=>f i j))+S m (fun j=>f n j)=S m (fun j=>S n (fun i=>f i j)+f n j)
  rw[bt7 f m n,<- Z9]
theorem ao1 (c:Int)(h:j<n):S n (fun i=>if i=j then c else 0)=c:=by
 induction n with
 | zero=>omega
 | succ n ih =>
  show S n (fun i=>if i=j then c else 0)+(if n=j then c else 0)=c
  by_cases e:n=j
  ·rw[if_pos e,B5 (g:=fun _=>0) fun i hi=>if_neg (by omega),R0];omega
  ·rw[if_neg e,ih (by omega)];omega
theorem Y9 {f g:Nat->Int}(h:j<n)(hf:∀ i,i<n->i≠j->f i=g i):S n f=S n g+(f j - g j):=by
 have:S n f=S n (fun i=>g i+(if i=j then f j - g j else 0)):=B5 fun i hi=>by
  by_cases e:i=j
  ·rw[if_pos e,e];omega
  ·rw[if_neg e,hf i hi e];omega
 rw[this,Z9,ao1 _ h]
theorem aJ8 {f:Nat->Int}(h:j<n)(hf:∀ i,i<n->0<=f i):f j<=S n f:=by
 have h1:=Y9 (f:=f) (g:=fun i=>if i=j then 0 else f i) h (fun i _ e=>by rw[if_neg e])
 have h2:0<=S n (fun i=>if i=j then 0 else f i):=Z8 fun i hi=>by
  by_cases e:i=j
  ·rw[if_pos e];exact K4 _
  ·rw[if_neg e];exact hf i hi
 rw[if_pos rfl]at h1
 omega
theorem bE3 {f g:Nat->Int}(h:S n f<S n g):∃ i,i<n/\f i<g i:=by
 induction n with
 | zero=>exact absurd h (aB7 _)
 | succ n ih =>
  by_cases e:f n<g n
  ·exact⟨n,by omega,e⟩
  ·have h':S n f+f n<S n g+g n:=h
   obtain⟨i,hi,h2⟩:=ih (by omega)
   exact⟨i,by omega,h2⟩
def b2 (b:Bool):Int:=if b then 1 else 0
theorem Y8:b2 true=1:=rfl
theorem R5:b2 false=0:=rfl
theorem G6 (b:Bool):0<=b2 b:=by cases b<;>decide
theorem bc2 (b:Bool):b2 b<=1:=by cases b<;>decide
structure Gph (g:Nat->Nat->Bool):Prop where
 sym:∀ i j,g i j=g j i
 irr:∀ i,g i i=false
def deg (n:Nat)(g:Nat->Nat->Bool)(i:Nat):Int:=S n fun j=>b2 (g i j)
def S2 (g:Nat->Nat->Bool)(a b:Nat)(v:Bool):Nat->Nat->Bool:=fun i j=>if (i=a/\j=b)\/(i=b/\j=a) then v else g i j
theorem N6 {a b:Nat}{v:Bool}(h:Gph g)(hab:a≠b):Gph (S2 g a b v) where
 sym:=fun i j=>by
  unfold S2
  by_cases e:(i=a/\j=b)\/(i=b/\j=a)
  ·rw[if_pos e,if_pos (by omega)]
  ·rw[if_neg e,if_neg (by omega)];exact h.sym i j
 irr:=fun i=>by
  unfold S2
  rw[if_neg (by omega)];exact h.irr i
theorem J4 {a b:Nat}{v:Bool}(e:¬ ((i=a/\j=b)\/(i=b/\j=a))):S2 g a b v i j=g i j:=if_neg e
theorem aH3 {a b:Nat}{v:Bool}:S2 g a b v a b=v:=if_pos (.inl ⟨rfl,rfl⟩)
theorem T4 {a b:Nat}{v:Bool}(h:Gph g)(hab:a≠b)(ha:a<n)(hb:b<n)(i:Nat):deg n (S2 g a b v) i=deg n g i+(if i=a\/i=b then b2 v - b2 (g a b) else 0):=by
 unfold deg
 by_cases e1:i=a
 ·subst e1
  rw[if_pos (.inl rfl),Y9 (g:=fun j=>b2 (g i j)) hb (fun j _ hj=>by show b2 _=_;rw[J4 (by omega)])]
  show _+(b2 (S2 g i b v i b) - _)=_
  rw[aH3]
 ·by_cases e2:i=b
  ·subst e2
   rw[if_pos (.inr rfl),Y9 (g:=fun j=>b2 (g i j)) ha (fun j _ hj=>by show b2 _=_;rw[J4 (by omega)])]
   show _+(b2 (S2 g a i v i a) - _)=_
   have:S2 g a i v i a=v:=if_pos (.inr ⟨rfl,rfl⟩)
   rw[this,h.sym i a]
  ·rw[if_neg (by omega),B5 (g:=fun j=>b2 (g i j)) fun j _=>by show b2 _=_;rw[J4 (by omega)]]
   omega
end Grf
namespace Grf
theorem av9 {x y:Nat}(h:Gph g)(hy:y<n)(hxy:x≠y):S n (fun z=>if z=x\/z=y then 0 else b2 (g x z))=deg n g x - b2 (g x y):=by
 unfold deg
 rw[Y9 (f:=fun z=>if z=x\/z=y then 0 else b2 (g x z)) (g:=fun z=>b2 (g x z)) hy (fun i _ hi=>?_)]
 ·show _+((if y=x\/y=y then (0:Int) else _) - _)=_
  rw[if_pos (.inr rfl)];omega
 ·show (if i=x\/i=y then (0:Int) else _)=_
  by_cases e:i=x
  ·rw[if_pos (.inl e),e,h.irr];rfl
  ·rw[if_neg (by omega)]
theorem ca4 {x y:Nat}(h:Gph g)(hx:x<n)(hy:y<n)(hxy:x≠y)(hd:deg n g y<deg n g x):∃ z,z<n/\z≠x/\z≠y/\g x z=true/\g y z=false:=by
 have h1:=av9 h hy hxy
 have h2:=av9 h hx (Ne.symm hxy)
 have h3:S n (fun z=>if z=y\/z=x then 0 else b2 (g y z))<S n (fun z=>if z=x\/z=y then 0 else b2 (g x z)):=by
  rw[h1,h2,h.sym y x];omega
 obtain⟨z,hz,hlt⟩:=bE3 h3
 by_cases e:z=x\/z=y
 ·rw[if_pos (show z=y\/z=x by omega),if_pos e]at hlt
  exact absurd hlt (aB7 _)
 ·rw[if_neg (show ¬ (z=y\/z=x) by omega),if_neg e]at hlt
  refine⟨z,hz,by omega,by omega,?_⟩
  cases h4:g x z<;>cases h5:g y z<;>rw[h4,h5]at hlt<;>simp_all [b2]
theorem find3 {x y v:Nat}(h:Gph g)(hx:x<n)(hy:y<n)(hv:v<n)(hxy:x≠y)(hxv:x≠v)(hyv:y≠v)(hd:deg n g y<=deg n g x)(h1:g y v=true)(h2:g x v=false) :
  ∃ z,z<n/\z≠x/\z≠y/\z≠v/\g x z=true/\g y z=false:=by
 have e1:=av9 h hy hxy
 have e2:=av9 h hx (Ne.symm hxy)
 have f1:=Y9 (f:=fun z=>if z=v then 0 else (if z=x\/z=y then 0 else b2 (g x z))) (g:=fun z=>if z=x\/z=y then 0 else b2 (g x z)) hv (fun i _ hi=>by show (if i=v then (0:Int) else _)=_;rw[if_neg hi])
 have f2:=Y9 (f:=fun z=>if z=v then 0 else (if z=y\/z=x then 0 else b2 (g y z))) (g:=fun z=>if z=y\/z=x then 0 else b2 (g y z)) hv (fun i _ hi=>by show (if i=v then (0:Int) else _)=_;rw[if_neg hi])
 have g1:(if v=v then (0:Int) else (if v=x\/v=y then 0 else b2 (g x v))) - (if v=x\/v=y then 0 else b2 (g x v))=0:=by
  rw[if_pos rfl,if_neg (by omega),h2];rfl
 have g2:(if v=v then (0:Int) else (if v=y\/v=x then 0 else b2 (g y v))) - (if v=y\/v=x then 0 else b2 (g y v)) = -1:=by
  rw[if_pos rfl,if_neg (by omega),h1];rfl
 rw[g1,e1]at f1
 rw[g2,e2,h.sym y x]at f2
 have h3:S n (fun z=>if z=v then 0 else (if z=y\/z=x then 0 else b2 (g y z)))<S n (fun z=>if z=v then 0 else (if z=x\/z=y then 0 else b2 (g x z))):=by
  rw[f1,f2];omega
 obtain⟨z,hz,hlt⟩:=bE3 h3
 by_cases ev:z=v
 ·rw[if_pos ev,if_pos ev]at hlt
  exact absurd hlt (aB7 _)
 ·rw[if_neg ev,if_neg ev]at hlt
  by_cases e:z=x\/z=y
  ·rw[if_pos (show z=y\/z=x by omega),if_pos e]at hlt
   exact absurd hlt (aB7 _)
  ·rw[if_neg (show ¬ (z=y\/z=x) by omega),if_neg e]at hlt
   refine⟨z,hz,by omega,by omega,ev,?_⟩
   cases h4:g x z<;>cases h5:g y z<;>rw[h4,h5]at hlt<;>simp_all [b2]
def aD1 (g:Nat->Nat->Bool)(a b c d:Nat):Nat->Nat->Bool:=S2 (S2 (S2 (S2 g a b false) c d false) a d true) c b true
structure Ex (g:Nat->Nat->Bool) (a b c d:Nat):Prop where
 ab:a≠b
 ac:a≠c
 ad:a≠d
 bc:b≠c
 bd:b≠d
 cd:c≠d
 t1:g a b=true
 t2:g c d=true
 n1:g a d=false
 n2:g c b=false
theorem br7 {a b c d:Nat}(h:Gph g)(x:Ex g a b c d):Gph (aD1 g a b c d):=
 N6 (N6 (N6 (N6 h x.ab) x.cd) x.ad) (Ne.symm x.bc)
theorem br8 {a b c d:Nat}(h:Gph g)(x:Ex g a b c d)(ha:a<n)(hb:b<n)(hc:c<n)(hd:d<n)(i:Nat):deg n (aD1 g a b c d) i=deg n g i:=by
 obtain⟨ab,ac,ad,bc,bd,cd,t1,t2,n1,n2⟩:=x
 unfold aD1
 have h1:=N6 (v:=false) h ab
 have h2:=N6 (v:=false) h1 cd
 have h3:=N6 (v:=true) h2 ad
 rw[T4 h3 (Ne.symm bc) hc hb,T4 h2 ad ha hd,T4 h1 cd hc hd,T4 h ab ha hb]
 have v1:S2 g a b false c d=true:=by rw[J4 (by omega)];exact t2
 have v2:S2 (S2 g a b false) c d false a d=false:=by rw[J4 (by omega),J4 (by omega)];exact n1
 have v3:S2 (S2 (S2 g a b false) c d false) a d true c b=false:=by rw[J4 (by omega),J4 (by omega),J4 (by omega)];exact n2
 rw[t1,v1,v2,v3,Y8,R5]
 by_cases ea:i=a
 ·subst ea
  rw[if_pos (.inl rfl),if_neg (by omega),if_pos (.inl rfl),if_neg (by omega)];omega
 ·by_cases eb:i=b
  ·subst eb
   rw[if_pos (.inr rfl),if_neg (by omega),if_neg (by omega),if_pos (.inr rfl)];omega
  ·by_cases ec:i=c
   ·subst ec
    rw[if_neg (by omega),if_pos (.inl rfl),if_neg (by omega),if_pos (.inl rfl)];omega
   ·by_cases ed:i=d
    ·subst ed
     rw[if_neg (by omega),if_pos (.inr rfl),if_pos (.inr rfl),if_neg (by omega)];omega
    ·rw[if_neg (by omega),if_neg (by omega),if_neg (by omega),if_neg (by omega)];omega
theorem aQ6 {a b c d:Nat}(x:Ex g a b c d)(j:Nat):aD1 g a b c d a j=if j=b then false else if j=d then true else g a j:=by
 obtain⟨ab,ac,ad,bc,bd,cd,t1,t2,n1,n2⟩:=x
 unfold aD1
 rw[J4 (by omega)]
 by_cases e:j=d
 ·subst e
  rw[aH3,if_neg (by omega),if_pos rfl]
 ·rw[J4 (by omega),J4 (by omega),if_neg e]
  by_cases e2:j=b
  ·subst e2
   rw[aH3,if_pos rfl]
  ·rw[J4 (by omega),if_neg e2]
theorem ca1 {v:Nat}{N:Nat->Bool}(hv:v<n)(hNv:N v=false):∀ (m:Nat) (g:Nat->Nat->Bool),Gph g->S n (fun j=>b2 (N j))=deg n g v ->
  (∀ x y,x<n->y<n->N x=true->N y=false->y≠v->deg n g y<=deg n g x)->S n (fun j=>b2 (N j && !g v j))=(m:Int) ->
  ∃ g',Gph g'/\(∀ i,i<n->deg n g' i=deg n g i)/\∀ j,j<n->g' v j=N j:=by
 intro m
 induction m with
 | zero =>
  intro g h hs hd hm
  refine⟨g,h,fun _ _=>rfl,fun j hj=>?_⟩
  have all:∀ j,j<n->N j=true->g v j=true:=fun j hj hN=>by
   have:=aJ8 (f:=fun j=>b2 (N j && !g v j)) hj (fun i _=>G6 _)
   rw[hm]at this
   cases hg:g v j with
   | true=>rfl
   | false =>
    have e:b2 (N j && !g v j)=1:=by rw[hN,hg];rfl
    have t:b2 (N j && !g v j)<=0:=this
    omega
  have dif:S n (fun j=>b2 (g v j) - b2 (N j))=0:=by rw[U0];unfold deg at hs;omega
  have pos:∀ i,i<n->0<=b2 (g v i) - b2 (N i):=fun i hi=>by
   cases hN:N i with
   | true=>rw[all i hi hN];decide
   | false=>have:=G6 (g v i);rw[R5];omega
  have:=aJ8 (f:=fun j=>b2 (g v j) - b2 (N j)) hj pos
  rw[dif]at this
  have p:=pos j hj
  cases hN:N j with
  | true=>exact all j hj hN
  | false =>
   cases hg:g v j with
   | false=>rfl
   | true =>
    have t:b2 (g v j) - b2 (N j)<=0:=this
    rw[hN,hg,Y8,R5]at t
    omega
 | succ m ih =>
  intro g h hs hd hm
  obtain⟨x,hx,hlt⟩:∃ x,x<n/\(fun _=>(0:Int)) x<b2 (N x && !g v x):=bE3 (f:=fun _=>0) (g:=fun j=>b2 (N j && !g v j)) (by rw[R0,hm];omega)
  have hNx:N x=true/\g v x=false:=by
   cases h1:N x<;>cases h2:g v x<;>rw[h1,h2]at hlt<;>simp_all [b2]
  obtain⟨y,hy,hlt2⟩:∃ y,y<n/\b2 (N y)<b2 (g v y):=by
   by_cases hc:∃ y,y<n/\b2 (N y)<b2 (g v y)
   ·exact hc
   ·have pos:∀ i,i<n->0<=b2 (N i) - b2 (g v i):=fun i hi=>by
     have:¬ b2 (N i)<b2 (g v i):=fun z=>hc ⟨i,hi,z⟩
     omega
    have t:=aJ8 (f:=fun j=>b2 (N j) - b2 (g v j)) hx pos
    have e:S n (fun j=>b2 (N j) - b2 (g v j))=0:=by rw[U0];unfold deg at hs;omega
    rw[e,show b2 (N x) - b2 (g v x)=1 by rw[hNx.1,hNx.2];rfl]at t
    omega
  have hNy:N y=false/\g v y=true:=by
   cases h1:N y<;>cases h2:g v y<;>rw[h1,h2]at hlt2<;>simp_all [b2]
  have xv:x≠v:=fun e=>by rw[e,hNv]at hNx;exact absurd hNx.1 (by decide)
  have yv:y≠v:=fun e=>by rw[e,h.irr]at hNy;exact absurd hNy.2 (by decide)
  have xy:x≠y:=fun e=>by rw[e,hNy.1]at hNx;exact absurd hNx.1 (by decide)
  obtain⟨z,hz,zx,zy,zv,h1,h2⟩:=find3 h hx hy hv xy xv yv (hd x y hx hy hNx.1 hNy.1 yv) (by rw[h.sym];exact hNy.2) (by rw[h.sym];exact hNx.2)
  have ex:Ex g v y z x:=⟨Ne.symm yv,Ne.symm zv,Ne.symm xv,Ne.symm zy,Ne.symm xy,zx,hNy.2,by rw[h.sym];exact h1,hNx.2,by rw[h.sym];exact h2⟩
  have dg:=br8 h ex hv hy hz hx
  obtain⟨g',k1,k2,k3⟩:=ih (aD1 g v y z x) (br7 h ex) (by rw[dg];exact hs) (fun a b ha hb n1 n2 n3=>by rw[dg,dg];exact hd a b ha hb n1 n2 n3) (by
   have:=Y9 (f:=fun j=>b2 (N j && !aD1 g v y z x v j)) (g:=fun j=>b2 (N j && !g v j)) hx (fun j _ hj=>by
    show b2 (N j && !aD1 g v y z x v j)=_
    rw[aQ6 ex]
    by_cases e:j=y
    ·rw[if_pos e,e,hNy.1];rfl
    ·rw[if_neg e,if_neg hj])
   rw[this,hm]
   have e1:aD1 g v y z x v x=true:=by rw[aQ6 ex,if_neg xy,if_pos rfl]
   show _+(b2 (N x && !aD1 g v y z x v x) - b2 (N x && !g v x))=_
   rw[e1,hNx.1,hNx.2]
   show ((m+1:Nat):Int)+(0 - 1)=_
   omega)
  exact⟨g',k1,fun i hi=>by rw[k2 i hi,dg],k3⟩
end Grf
namespace Grf
def cnt (n:Nat)(a:Nat->Bool):Int:=S n fun i=>b2 (a i)
def sm (n:Nat)(a:Nat->Bool)(d:Nat->Int):Int:=S n fun i=>if a i=true then d i else 0
def put (a:Nat->Bool)(j:Nat)(v:Bool):Nat->Bool:=fun i=>if i=j then v else a i
theorem ap9 {a:Nat->Bool}{v:Bool}:put a j v j=v:=if_pos rfl
theorem Y4 {a:Nat->Bool}{v:Bool}(h:i≠j):put a j v i=a i:=if_neg h
theorem ab5 {a:Nat->Bool}{v:Bool}(h:j<n):cnt n (put a j v)=cnt n a+(b2 v - b2 (a j)):=by
 unfold cnt
 rw[Y9 (g:=fun i=>b2 (a i)) h (fun i _ hi=>by show b2 (put a j v i)=_;rw[Y4 hi])]
 show _+(b2 (put a j v j) - _)=_
 rw[ap9]
theorem ak5 {a:Nat->Bool}{v:Bool}(h:j<n):sm n (put a j v) d=sm n a d+((if v=true then d j else 0) - (if a j=true then d j else 0)):=by
 unfold sm
 rw[Y9 (g:=fun i=>if a i=true then d i else 0) h (fun i _ hi=>by show (if put a j v i=true then d i else 0)=_;rw[Y4 hi])]
 show _+((if put a j v j=true then d j else 0) - _)=_
 rw[ap9]
theorem ab6 (n:Nat)(a:Nat->Bool):0<=cnt n a:=Z8 fun i _=>G6 _
theorem aJ3 {a b:Nat->Bool}(h:∀ i,a i=true->b i=false):cnt n a+cnt n b<=n:=by
 unfold cnt
 rw[<- Z9]
 have:=au3 (f:=fun i=>b2 (a i)+b2 (b i)) (g:=fun _=>1) (n:=n) (fun i _=>by
  show b2 (a i)+b2 (b i)<=1
  cases ha:a i with
  | true=>rw[h i ha];decide
  | false=>have:=bc2 (b i);rw[R5];omega)
 rw[ab8]at this
 omega
theorem aJ4 {a b:Nat->Bool}(h:∀ i,a i=true->b i=false)(hj:j<n)(ha:a j=false)(hb:b j=false):cnt n a+cnt n b+1<=n:=by
 have:=aJ3 (n:=n) (a:=put a j true) (b:=b) (fun i hi=>by
  by_cases e:i=j
  ·rw[e];exact hb
  ·rw[Y4 e]at hi;exact h i hi)
 rw[ab5 hj,ha,Y8,R5]at this
 omega
theorem bs6 {a:Nat->Bool}(h:∀ i,i<n->a i=false):cnt n a=0:=by
 unfold cnt
 rw[B5 (g:=fun _=>0) fun i hi=>by rw[h i hi];rfl]
 exact R0 n
theorem au7 {a:Nat->Bool}(h:∀ i,i<n->a i=false):sm n a d=0:=by
 unfold sm
 rw[B5 (g:=fun _=>0) fun i hi=>by rw[h i hi];rfl]
 exact R0 n
theorem bm0 {a:Nat->Bool}(hd:∀ i,i<n->0<=d i)(hj:j<n)(ha:a j=true):d j<=sm n a d:=by
 have:=aJ8 (f:=fun i=>if a i=true then d i else 0) hj (fun i hi=>by
  cases a i with
  | true=>exact hd i hi
  | false=>exact K4 _)
 have e:(if a j=true then d j else 0)=d j:=if_pos ha
 unfold sm
 show d j<=_
 rw[<- e]
 exact this
theorem aD7 {a:Nat->Bool}(hd:∀ i,i<n->0<=d i):0<=sm n a d:=Z8 fun i hi=>by
 cases a i with
 | true=>exact hd i hi
 | false=>exact K4 _
theorem bL8 {a:Nat->Bool}(hd:∀ i,i<n->0<=d i)(hi:i<n)(hj:j<n)(hij:i≠j)(h1:a i=true)(h2:a j=true):d i+d j<=sm n a d:=by
 have e:=ak5 (d:=d) (a:=a) (v:=false) hi
 rw[h1,if_pos rfl,if_neg (by decide)]at e
 have:=bm0 (a:=put a i false) hd hj (by rw[Y4 (Ne.symm hij)];exact h2)
 omega
theorem bW2 {a:Nat->Bool}{m:Int}(h:∀ i,i<n->a i=true->d i<=m):sm n a d<=cnt n a*m:=by
 have e:cnt n a*m=S n (fun i=>m*b2 (a i)):=by rw[at4,bv2];rfl
 rw[e]
 refine au3 fun i hi=>?_
 cases ha:a i with
 | true=>rw[if_pos rfl,Y8,N4];exact h i hi ha
 | false=>rw[if_neg (by decide),R5,ap1];exact K4 _
theorem bW3 {a:Nat->Bool}{m:Int}(h:∀ i,i<n->a i=true->d i=m):sm n a d=cnt n a*m:=by
 have e:cnt n a*m=S n (fun i=>m*b2 (a i)):=by rw[at4,bv2];rfl
 rw[e]
 refine B5 fun i hi=>?_
 cases ha:a i with
 | true=>rw[if_pos rfl,Y8,N4];exact h i hi ha
 | false=>rw[if_neg (by decide),R5,ap1]
theorem aw0 {a:Nat->Bool}(h:cnt n a≠0):∃ i,i<n/\a i=true:=by
 by_cases hc:∃ i,i<n/\a i=true
 ·exact hc
 ·exact absurd (bs6 fun i hi=>by
   cases ha:a i with
   | false=>rfl
   | true=>exact absurd ⟨i,hi,ha⟩ hc) h
theorem cover {a b:Nat->Bool}(h:∀ i,a i=true->b i=false)(hc:cnt n a+cnt n b=n):sm n a d+sm n b d=S n d:=by
 unfold sm
 rw[<- Z9]
 refine B5 fun i hi=>?_
 cases ha:a i with
 | true=>rw[h i ha,if_pos rfl,if_neg (by decide)];omega
 | false =>
  cases hb:b i with
  | true=>rw[if_neg (by decide),if_pos rfl];omega
  | false=>have:=aJ4 h hi ha hb;omega
def aF8 (n:Nat)(d:Nat->Int):Prop:=∀ a b:Nat->Bool,(∀ i,a i=true->b i=false)->sm n a d<=cnt n a*((n:Int) - 1 - cnt n b)+sm n b d
theorem bD5 (k:Int):∃ q,k*(k - 1)=2*q:=by
 rcases Int.emod_two_eq k with h | h
 ·exact⟨(k / 2)*(k - 1),by
   have:k=2*(k / 2):=by omega
   rw[<- Int.mul_assoc,<- this]⟩
 ·exact⟨k*((k - 1) / 2),by
   have:k - 1=2*((k - 1) / 2):=by omega
   rw[Int.mul_left_comm,<- this]⟩
theorem bs1 {a b:Nat->Bool}(h:∀ i,a i=true->b i=false)(x y:Nat):∀ i,put a x false i=true->put b y false i=false:=fun i hi=>by
 by_cases e:i=x
 ·rw[e,ap9]at hi;cases hi
 ·rw[Y4 e]at hi
  by_cases e2:i=y
  ·rw[e2,ap9]
  ·rw[Y4 e2];exact h i hi
theorem bp7 {t u:Nat}(K:aF8 n d)(hd:∀ i,i<n->0<=d i)(ev:∃ q,S n d=2*q)(ht:t<n)(hu:u<n)(htu:t≠u)(hup:0<d u)(hmax:∀ i,i<n->d i<=d t)(hmin:∀ i,i<n->0<d i->d u<=d i) :
  aF8 n (fun i=>d i - (if i=t then 1 else 0) - (if i=u then 1 else 0)):=by
 intro a b hab
 have hdt:d u<=d t:=hmax u hu
 have lower:∀ c:Nat->Bool,sm n c (fun i=>d i - (if i=t then 1 else 0) - (if i=u then 1 else 0))=sm n c d - b2 (c t) - b2 (c u):=fun c=>by
  have e:sm n c (fun i=>d i - (if i=t then 1 else 0) - (if i=u then 1 else 0))=S n (fun i=>(if c i=true then d i else 0) - (if i=t then b2 (c t) else 0) - (if i=u then b2 (c u) else 0)):=B5 fun i hi=>by
   show (if c i=true then (d i - (if i=t then 1 else 0) - (if i=u then 1 else 0)) else 0)=_
   by_cases e1:i=t
   ·subst e1
    rw[if_pos rfl,if_pos rfl,if_neg htu,if_neg htu]
    cases c i with
    | true=>rfl
    | false=>rfl
   ·rw[if_neg e1,if_neg e1]
    by_cases e2:i=u
    ·subst e2
     rw[if_pos rfl,if_pos rfl]
     cases c i with
     | true=>rfl
     | false=>rfl
    ·rw[if_neg e2,if_neg e2]
     cases c i with
     | true=>rw[if_pos rfl,if_pos rfl]
     | false=>rw[if_neg (by decide),if_neg (by decide)];omega
  rw[e,U0,U0,ao1 _ ht,ao1 _ hu]
  rfl
 rw[lower a,lower b]
 have K0:=K a b hab
 have ka:=ab6 n a
 have kb:=ab6 n b
 have kr:=aJ3 (n:=n) hab
 have sb:=aD7 (a:=b) hd
 have ba:=fun x=>G6 (a x)
 have ab:=fun x=>bc2 (a x)
 generalize hk:cnt n a=k at *
 generalize hl:cnt n b=l at *
 have pq:k*((n:Int) - 1 - l)=k*(n:Int) - k - k*l:=by rw[Int.mul_sub,Int.mul_sub,N4]
 have rem:∀ s,s<n->a s=true->b t=true->sm n a d+((n:Int) - k - l)+d t - d s<=k*((n:Int) - 1 - l)+sm n b d:=fun s hs has hbt=>by
  have:=K (put a s false) (put b t false) (bs1 hab s t)
  rw[ak5 hs,ak5 ht,ab5 hs,ab5 ht,has,hbt,hk,hl]at this
  simp only[if_true,Y8,R5,l9,if_false]at this
  have e:(k+(0 - 1))*((n:Int) - 1 - (l+(0 - 1)))=k*((n:Int) - 1 - l)+k - (n:Int)+l:=by grind
  rw[e]at this
  omega
 have mov:b t=true->a t=false->sm n a d+d t<=(k+1)*((n:Int) - l)+sm n b d - d t:=fun hbt hat=>by
  have dj:∀ i,put a t true i=true->put b t false i=false:=fun i hi=>by
   by_cases e:i=t
   ·rw[e,ap9]
   ·rw[Y4 e]at hi;rw[Y4 e];exact hab i hi
  have:=K (put a t true) (put b t false) dj
  rw[ak5 ht,ak5 ht,ab5 ht,ab5 ht,hat,hbt,hk,hl]at this
  simp only[if_true,Y8,R5,l9,if_false]at this
  have e:(k+(1 - 0))*((n:Int) - 1 - (l+(0 - 1)))=(k+1)*((n:Int) - l):=by grind
  rw[e]at this
  omega
 have nota:∀ i,b i=true->a i=false:=fun i hi=>by
  cases h:a i with
  | false=>rfl
  | true=>rw[hab i h]at hi;cases hi
 have empty:k=0->sm n a d=0:=fun hk0=>au7 fun i hi=>by
  cases h:a i with
  | false=>rfl
  | true =>
   have:=aJ8 (f:=fun i=>b2 (a i)) hi (fun i _=>G6 _)
   have e:b2 (a i)=1:=by rw[h];rfl
   unfold cnt at hk
   have t:b2 (a i)<=S n (fun i=>b2 (a i)):=this
   omega
 cases hbt:b t with
 | false =>
  cases hbu:b u with
  | false=>have h1:=ba t;have h2:=ba u;rw[R5];omega
  | true =>
   rw[Y8,R5]
   cases hat:a t with
   | true=>have h2:=ba u;rw[Y8];omega
   | false =>
    rw[nota u hbu,R5]
    have dub:=bm0 hd hu hbu
    have out:=aJ4 hab ht hat hbt
    rw[hk,hl]at out
    by_cases c1:k+1<=d u
    ·have:=K a (put b u false) (fun i hi=>by
      by_cases e:i=u
      ·rw[e,ap9]
      ·rw[Y4 e];exact hab i hi)
     rw[ak5 hu,ab5 hu,hbu,hk,hl]at this
     simp only[if_true,Y8,R5,l9,if_false]at this
     have e:k*((n:Int) - 1 - (l+(0 - 1)))=k*((n:Int) - 1 - l)+k:=by grind
     rw[e]at this
     omega
    ·by_cases c2:(n:Int) - l<=d t
     ·have:=K (put a t true) b (fun i hi=>by
       by_cases e:i=t
       ·rw[e];exact hbt
       ·rw[Y4 e]at hi;exact hab i hi)
      rw[ak5 ht,ab5 ht,hat,hk,hl]at this
      simp only[if_true,Y8,R5,l9,if_false]at this
      have e:(k+(1 - 0))*((n:Int) - 1 - l)=k*((n:Int) - 1 - l)+((n:Int) - 1 - l):=by grind
      rw[e]at this
      omega
     ·have h1:=bW2 (a:=a) (d:=d) (m:=(n:Int) - 1 - l) (n:=n) (fun i hi _=>by have:=hmax i hi;omega)
      rw[hk]at h1
      omega
 | true =>
  have hat:=nota t hbt
  rw[hat,Y8,R5]
  cases hbu:b u with
  | false =>
   rw[R5]
   cases hau:a u with
   | true=>rw[Y8];omega
   | false =>
    rw[R5]
    have out:=aJ4 hab hu hau hbu
    rw[hk,hl]at out
    by_cases k0:k=0
    ·have h1:=empty k0
     have h2:=bm0 hd ht hbt
     rw[h1,k0,bv3]
     omega
    ·obtain⟨s,hs,has⟩:=aw0 (n:=n) (a:=a) (by rw[hk];exact k0)
     have h1:=rem s hs has hbt
     have h2:=hmax s hs
     omega
  | true =>
   rw[nota u hbu,Y8,R5]
   have two:=bL8 hd ht hu htu hbt hbu
   by_cases k0:k=0
   ·have h1:=empty k0
    rw[h1,k0,bv3]
    omega
   ·-- slack even where there is no place besides
    have par:(n:Int) - k - l=0->sm n a d<k*((n:Int) - 1 - l)+sm n b d->sm n a d+2<=k*((n:Int) - 1 - l)+sm n b d:=fun r0 hlt=>by
     obtain⟨q,hq⟩:=ev
     have cv:=cover (d:=d) hab (by rw[hk,hl];omega)
     obtain⟨q2,hq2⟩:=bD5 k
     have e:k*((n:Int) - 1 - l)=k*(k - 1):=by rw[show (n:Int) - 1 - l=k - 1 by omega]
     rw[e]at hlt ⊢
     omega
    by_cases hex:∃ s,s<n/\a s=true/\d s<d t
    ·obtain⟨s,hs,has,hlt⟩:=hex
     have h1:=rem s hs has hbt
     by_cases r0:(n:Int) - k - l=0
     ·have:=par r0 (by omega);omega
     ·omega
    ·have all:∀ i,i<n->a i=true->d i=d t:=fun i hi hai=>by
      have h1:=hmax i hi
      have h2:¬ d i<d t:=fun z=>hex ⟨i,hi,hai,z⟩
      omega
     obtain⟨s,hs,has⟩:=aw0 (n:=n) (a:=a) (by rw[hk];exact k0)
     have h1:=rem s hs has hbt
     have h2:=all s hs has
     have mv:=mov hbt hat
     have sa:=bW3 (a:=a) (d:=d) (n:=n) all
     rw[hk]at sa
     generalize d t=m at *
     by_cases r2:2<=(n:Int) - k - l
     ·omega
     ·by_cases r1:(n:Int) - k - l=1
      ·have e1:(n:Int) - 1 - l=k:=by omega
       have e2:(n:Int) - l=k+1:=by omega
       rw[e1]
       rw[e2,sa]at mv
       rw[sa]
       have x1:(k+1)*(k+1)=k*k+2*k+1:=by grind
       rw[x1]at mv
       by_cases c1:m<=k
       ·have:=aK5 c1 ka
        omega
       ·by_cases c2:m=k+1
        ·rw[c2,Int.mul_add,N4];omega
        ·omega
      ·have r0:(n:Int) - k - l=0:=by omega
       have e1:(n:Int) - 1 - l=k - 1:=by omega
       have e2:(n:Int) - l=k:=by omega
       have pr:=par r0
       rw[e1]at pr ⊢
       rw[e2,sa]at mv
       rw[sa]at pr ⊢
       have x1:(k+1)*k=k*k+k:=by grind
       have x2:k*(k - 1)=k*k - k:=by grind
       rw[x1]at mv
       rw[x2]at pr ⊢
       by_cases c1:m<=k - 1
       ·have:=aK5 c1 ka
        rw[x2]at this
        omega
       ·by_cases c2:m=k
        ·subst c2
         have:=pr (by omega)
         omega
        ·omega
end Grf
namespace Grf
theorem aX0 {p:Nat->Prop}{f:Nat->Int}:∀ {n:Nat},(∃ i,i<n/\p i)->∃ u,u<n/\p u/\∀ i,i<n->p i->f u<=f i:=by
 intro n
 induction n with
 | zero=>rintro⟨i,h,_⟩;omega
 | succ n ih =>
  rintro⟨i,hi,pi⟩
  by_cases h:∃ i,i<n/\p i
  ·obtain⟨u,hu,pu,hm⟩:=ih h
   by_cases c:p n/\f n<f u
   ·refine⟨n,by omega,c.1,fun j hj pj=>?_⟩
    by_cases e:j=n
    ·rw[e];exact K4 _
    ·have:=hm j (by omega) pj;have:=c.2;omega
   ·refine⟨u,by omega,pu,fun j hj pj=>?_⟩
    by_cases e:j=n
    ·subst e
     have:¬ f j<f u:=fun z=>c ⟨pj,z⟩
     omega
    ·exact hm j (by omega) pj
  ·have e:i=n:=by
    by_cases e:i=n
    ·exact e
    ·exact absurd ⟨i,by omega,pi⟩ h
   subst e
   refine⟨i,by omega,pi,fun j hj pj=>?_⟩
   by_cases e:j=i
   ·rw[e];exact K4 _
   ·exact absurd ⟨j,by omega,pj⟩ h
theorem bR3 {p:Nat->Prop}{f:Nat->Int}(h:∃ i,i<n/\p i):∃ u,u<n/\p u/\∀ i,i<n->p i->f i<=f u:=by
 obtain⟨u,h1,h2,h3⟩:=aX0 (f:=fun i=>-f i) h
 exact⟨u,h1,h2,fun i hi pi=>by have:=h3 i hi pi;omega⟩
theorem br0:∀ (m n:Nat) (d:Nat->Int),(∀ i,i<n->0<=d i)->aF8 n d->S n d=2*(m:Int)->∃ g,Gph g/\∀ i,i<n->deg n g i=d i:=by
 intro m
 induction m with
 | zero =>
  intro n d hd K hs
  refine⟨fun _ _=>false,⟨fun _ _=>rfl,fun _=>rfl⟩,fun i hi=>?_⟩
  have h1:=aJ8 hi hd
  have h2:=hd i hi
  have h3:deg n (fun _ _=>false) i=0:=R0 n
  rw[h3]
  have:S n d=0:=by rw[hs];rfl
  omega
 | succ m ih =>
  intro n d hd K hs
  have hpos:∃ i,i<n/\0<d i:=by
   have:=bE3 (f:=fun _=>0) (g:=d) (n:=n) (by rw[R0,hs];omega)
   exact this
  obtain⟨t,ht,htp,hmax0⟩:=bR3 (p:=fun i=>0<d i) (f:=d) hpos
  have hmax:∀ i,i<n->d i<=d t:=fun i hi=>by
   by_cases c:0<d i
   ·exact hmax0 i hi c
   ·omega
  have cb:cnt n (fun i=>decide (i≠t/\d i<=0))+cnt n (fun i=>decide (i≠t/\0<d i))+1=n:=by
   unfold cnt
   have e:=ao1 (n:=n) (j:=t) 1 ht
   rw[<- Z9]
   have:S n (fun i=>(b2 (decide (i≠t/\d i<=0))+b2 (decide (i≠t/\0<d i)))+(if i=t then 1 else 0))=(n:Int)*1:=by
    rw[<- ab8]
    refine B5 fun i hi=>?_
    by_cases e1:i=t
    ·subst e1;simp[b2]
    ·by_cases c:0<d i
     ·have c':¬ d i<=0:=by omega
      simp[b2,e1,c,c']
     ·have c':d i<=0:=by omega
      simp[b2,e1,c,c']
   rw[Z9,e]at this
   show S n (fun i=>b2 (decide (i≠t/\d i<=0))+b2 (decide (i≠t/\0<d i)))+1=_
   omega
  have ca:cnt n (fun i=>decide (i=t))=1:=by
   unfold cnt
   rw[B5 (g:=fun i=>if i=t then 1 else 0) fun i _=>by by_cases e:i=t<;>simp[b2,e]]
   exact ao1 1 ht
  have sa:sm n (fun i=>decide (i=t)) d=d t:=by
   unfold sm
   rw[B5 (g:=fun i=>if i=t then d t else 0) fun i _=>by by_cases e:i=t<;>simp[e]]
   exact ao1 _ ht
  have sb:sm n (fun i=>decide (i≠t/\d i<=0)) d=0:=by
   unfold sm
   rw[B5 (g:=fun _=>0) fun i hi=>by
    by_cases e:i≠t/\d i<=0
    ·have:=hd i hi
     rw[if_pos (decide_eq_true e)]
     have:=e.2
     omega
    ·rw[if_neg (show ¬ decide (i≠t/\d i<=0)=true by rw[decide_eq_false e];decide)]]
   exact R0 n
  have kt:=K (fun i=>decide (i=t)) (fun i=>decide (i≠t/\d i<=0)) (fun i hi=>by
   have:i=t:=of_decide_eq_true hi
   exact decide_eq_false fun z=>z.1 this)
  rw[ca,sa,sb,bI5]at kt
  have hoth:∃ i,i<n/\(i≠t/\0<d i):=by
   obtain⟨i,hi,h⟩:=aw0 (n:=n) (a:=fun i=>decide (i≠t/\0<d i)) (by omega)
   exact⟨i,hi,of_decide_eq_true h⟩
  obtain⟨u,hu,⟨hut,hup⟩,hmin0⟩:=aX0 (p:=fun i=>i≠t/\0<d i) (f:=d) hoth
  have hmin:∀ i,i<n->0<d i->d u<=d i:=fun i hi hp=>by
   by_cases e:i=t
   ·rw[e];exact hmax u hu
   ·exact hmin0 i hi ⟨e,hp⟩
  have htu:t≠u:=Ne.symm hut
  have K':=bp7 K hd ⟨_,hs⟩ ht hu htu hup hmax hmin
  obtain⟨g,hg,dg⟩:=ih n _ (fun i hi=>by
   show 0<=d i - (if i=t then 1 else 0) - (if i=u then 1 else 0)
   by_cases e1:i=t
   ·subst e1;rw[if_pos rfl,if_neg htu];omega
   ·by_cases e2:i=u
    ·subst e2;rw[if_neg e1,if_pos rfl];omega
    ·rw[if_neg e1,if_neg e2];have:=hd i hi;omega) K' (by
   rw[U0,U0,ao1 _ ht,ao1 _ hu,hs];omega)
  cases hgu:g t u with
  | false =>
   refine⟨S2 g t u true,N6 hg htu,fun i hi=>?_⟩
   rw[T4 hg htu ht hu,dg i hi,hgu,Y8,R5]
   show d i - (if i=t then 1 else 0) - (if i=u then 1 else 0)+_=_
   by_cases e1:i=t
   ·subst e1;rw[if_pos rfl,if_neg htu,if_pos (.inl rfl)];omega
   ·by_cases e2:i=u
    ·subst e2;rw[if_neg e1,if_pos rfl,if_pos (.inr rfl)];omega
    ·rw[if_neg e1,if_neg e2,if_neg (by omega)];omega
  | true =>
   obtain⟨s,hs1,hst,hsp,hgs⟩:∃ s,s<n/\s≠t/\0<d s/\g t s=false:=by
    by_cases hc:∃ s,s<n/\s≠t/\0<d s/\g t s=false
    ·exact hc
    ·have le:cnt n (fun i=>decide (i≠t/\0<d i))<=deg n g t:=au3 fun i hi=>by
      show b2 (decide (i≠t/\0<d i))<=b2 (g t i)
      by_cases e:i≠t/\0<d i
      ·have:g t i=true:=by
        cases h:g t i with
        | true=>rfl
        | false=>exact absurd ⟨i,hi,e.1,e.2,h⟩ hc
       rw[this,decide_eq_true e];exact K4 _
      ·rw[decide_eq_false e];exact G6 _
     have dt:=dg t ht
     have dt':deg n g t=d t - 1 - 0:=by
      rw[dt]
      show d t - (if t=t then 1 else 0) - (if t=u then 1 else 0)=_
      rw[if_pos rfl,if_neg htu]
     omega
   have su:s≠u:=fun e=>by rw[e,hgu]at hgs;cases hgs
   have ds:deg n g s=d s:=by
    rw[dg s hs1]
    show d s - (if s=t then 1 else 0) - (if s=u then 1 else 0)=_
    rw[if_neg hst,if_neg su];omega
   have du:deg n g u=d u - 1:=by
    rw[dg u hu]
    show d u - (if u=t then 1 else 0) - (if u=u then 1 else 0)=_
    rw[if_neg hut,if_pos rfl];omega
   obtain⟨z,hz,zs,zu,h1,h2⟩:=ca4 hg hs1 hu su (by have:=hmin s hs1 hsp;omega)
   have zt:z≠t:=fun e=>by rw[e,hg.sym,hgs]at h1;cases h1
   have g1:=N6 (v:=false) hg (Ne.symm zs)
   have g2:=N6 (v:=true) g1 (Ne.symm hst)
   refine⟨S2 (S2 (S2 g s z false) t s true) u z true,N6 g2 (Ne.symm zu),fun i hi=>?_⟩
   rw[T4 g2 (Ne.symm zu) hu hz,T4 g1 (Ne.symm hst) ht hs1,T4 hg (Ne.symm zs) hs1 hz,dg i hi]
   have v1:S2 g s z false t s=false:=by rw[J4 (by omega)];exact hgs
   have v2:S2 (S2 g s z false) t s true u z=false:=by rw[J4 (by omega),J4 (by omega)];exact h2
   rw[h1,v1,v2,Y8,R5]
   show d i - (if i=t then 1 else 0) - (if i=u then 1 else 0)+_+_+_=_
   by_cases e1:i=t
   ·subst e1;rw[if_pos rfl,if_neg htu,if_neg (by omega),if_pos (.inl rfl),if_neg (by omega)];omega
   ·by_cases e2:i=u
    ·subst e2;rw[if_neg e1,if_pos rfl,if_neg (by omega),if_neg (by omega),if_pos (.inl rfl)];omega
    ·rw[if_neg e1,if_neg e2]
     by_cases e3:i=s
     ·subst e3;rw[if_pos (.inl rfl),if_pos (.inr rfl),if_neg (by omega)];omega
     ·by_cases e4:i=z
      ·subst e4;rw[if_pos (.inr rfl),if_neg (by omega),if_pos (.inr rfl)];omega
      ·rw[if_neg (by omega),if_neg (by omega),if_neg (by omega)];omega
theorem bp6 (hg:Gph g)(dg:∀ i,i<n->deg n g i=d i):aF8 n d:=by
 intro a b hab
 have e1:sm n a d=S n (fun i=>S n (fun j=>if a i=true then (if b j=true then b2 (g i j) else 0) else 0))+S n (fun i=>S n (fun j=>if a i=true then (if b j=true then 0 else b2 (g i j)) else 0)):=by
  rw[<- Z9]
  refine B5 fun i hi=>?_
  rw[<- Z9]
  cases a i with
  | true =>
   rw[if_pos rfl,<- dg i hi]
   refine B5 fun j _=>?_
   cases b j with
   | true=>simp
   | false=>simp
  | false =>
   rw[if_neg (by decide),B5 (g:=fun _=>0) fun j _=>by simp,R0]
 have e2:S n (fun i=>S n (fun j=>if a i=true then (if b j=true then b2 (g i j) else 0) else 0))<=sm n b d:=by
  rw[bt7]
  refine au3 fun j hj=>?_
  cases hb:b j with
  | true =>
   rw[if_pos rfl,<- dg j hj]
   refine au3 fun i _=>?_
   show (if a i=true then (if true=true then b2 (g i j) else 0) else 0)<=b2 (g j i)
   rw[if_pos rfl,hg.sym j i]
   cases a i with
   | true=>rw[if_pos rfl];exact K4 _
   | false=>rw[if_neg (by decide)];exact G6 _
  | false =>
   rw[if_neg (by decide)]
   have:S n (fun i=>if a i=true then (if false=true then b2 (g i j) else 0) else 0)=0:=by
    rw[B5 (g:=fun _=>0) fun i _=>by simp]
    exact R0 n
   rw[this]
   exact K4 _
 have e3:S n (fun i=>S n (fun j=>if a i=true then (if b j=true then 0 else b2 (g i j)) else 0))<=cnt n a*((n:Int) - 1 - cnt n b):=by
  have:cnt n a*((n:Int) - 1 - cnt n b)=S n (fun i=>((n:Int) - 1 - cnt n b)*b2 (a i)):=by rw[at4,bv2];rfl
  rw[this]
  refine au3 fun i hi=>?_
  cases ha:a i with
  | true =>
   rw[Y8,N4]
   have hbi:=hab i ha
   have t:S n (fun j=>if true=true then (if b j=true then 0 else b2 (g i j)) else 0)<=S n (fun j=>(1 - b2 (b j)) - (if j=i then 1 else 0)):=au3 fun j hj=>by
    show (if true=true then (if b j=true then 0 else b2 (g i j)) else 0)<=_
    rw[if_pos rfl]
    by_cases e:j=i
    ·subst e
     rw[hbi,if_neg (by decide),hg.irr,if_pos rfl];decide
    ·rw[if_neg e]
     cases b j with
     | true=>rw[if_pos rfl];decide
     | false=>rw[if_neg (by decide)];have:=bc2 (g i j);rw[R5];omega
   rw[U0,U0,ao1 _ hi,ab8,N4]at t
   unfold cnt
   omega
  | false =>
   rw[R5,ap1,B5 (g:=fun _=>0) fun j _=>by simp,R0]
   exact K4 _
 omega
end Grf
namespace Grf
def mnf (r x:Int):Int:=if r<x then r else x
theorem bB9 (r x:Int):mnf r x<=x:=by unfold mnf;split<;>omega
theorem bB8 (r x:Int):mnf r x<=r:=by unfold mnf;split<;>omega
theorem bo9 {r x y:Int}(h:x<=y):mnf r x<=mnf r y:=by unfold mnf;split<;>split<;>omega
def roomF (n:Nat)(d:Nat->Int)(A:Nat->Bool):Int:=cnt n A*(cnt n A - 1)+S n (fun i=>if A i=true then 0 else mnf (cnt n A) (d i)) - sm n A d
def Top (n:Nat)(d:Nat->Int)(A:Nat->Bool):Prop:=∀ i j,i<n->j<n->A i=true->A j=false->d j<=d i
theorem bj7 {A a:Nat->Bool}{φ:Int->Int}(hφ:∀ x y,x<=y->φ x<=φ y)(ht:Top n d A)(hc:cnt n a=cnt n A):sm n a (fun i=>φ (d i))<=sm n A (fun i=>φ (d i)):=by
 by_cases h0:cnt n A=0
 ·have za:∀ i,i<n->a i=false:=fun i hi=>by
   cases h:a i with
   | false=>rfl
   | true =>
    have:=aJ8 (f:=fun i=>b2 (a i)) hi (fun i _=>G6 _)
    have e:b2 (a i)=1:=by rw[h];rfl
    have t:b2 (a i)<=cnt n a:=this
    omega
  have zA:∀ i,i<n->A i=false:=fun i hi=>by
   cases h:A i with
   | false=>rfl
   | true =>
    have:=aJ8 (f:=fun i=>b2 (A i)) hi (fun i _=>G6 _)
    have e:b2 (A i)=1:=by rw[h];rfl
    have t:b2 (A i)<=cnt n A:=this
    omega
  rw[au7 za,au7 zA]
  exact K4 _
 ·obtain⟨m,hm,hAm,hmin⟩:=aX0 (p:=fun i=>A i=true) (f:=d) (aw0 h0)
  have key:S n (fun i=>(if a i=true then φ (d i) else 0) - (if A i=true then φ (d i) else 0))<=S n (fun i=>φ (d m)*b2 (a i) - φ (d m)*b2 (A i)):=au3 fun i hi=>by
   cases ha:a i with
   | true =>
    cases hA:A i with
    | true=>rw[if_pos rfl];omega
    | false =>
     rw[if_pos rfl,if_neg (by decide),Y8,R5,N4,ap1]
     have:=hφ _ _ (ht m i hm hi hAm hA)
     omega
   | false =>
    cases hA:A i with
    | true =>
     rw[if_pos rfl,if_neg (by decide),Y8,R5,N4,ap1]
     have:=hφ _ _ (hmin i hi hA)
     omega
    | false=>rw[if_neg (by decide)];omega
  rw[U0,U0,at4,at4]at key
  have e:φ (d m)*S n (fun i=>b2 (a i))=φ (d m)*S n (fun i=>b2 (A i)):=by
   show φ (d m)*cnt n a=φ (d m)*cnt n A
   rw[hc]
  show S n (fun i=>if a i=true then φ (d i) else 0)<=S n (fun i=>if A i=true then φ (d i) else 0)
  omega
theorem aV9 (hd:∀ i,i<n->0<=d i)(h:∀ r:Nat,1<=r->r<=n->∃ A,cnt n A=r/\Top n d A/\0<=roomF n d A):aF8 n d:=by
 intro a b hab
 have k0:=ab6 n a
 have kr:=aJ3 (n:=n) hab
 have kb:=ab6 n b
 by_cases hz:cnt n a=0
 ·have za:∀ i,i<n->a i=false:=fun i hi=>by
   cases h:a i with
   | false=>rfl
   | true =>
    have:=aJ8 (f:=fun i=>b2 (a i)) hi (fun i _=>G6 _)
    have e:b2 (a i)=1:=by rw[h];rfl
    have t:b2 (a i)<=cnt n a:=this
    omega
  have:=aD7 (a:=b) hd
  rw[au7 za,hz,bv3]
  omega
 ·obtain⟨A,hc,ht,r1⟩:=h (cnt n a).toNat (by omega) (by omega)
  have hcA:cnt n A=cnt n a:=by omega
  have r2:=bj7 (φ:=fun x=>x+mnf (cnt n a) x) (fun x y hxy=>by have:=bo9 (r:=cnt n a) hxy;omega) ht hcA.symm
  have sp:∀ c:Nat->Bool,sm n c (fun i=>d i+mnf (cnt n a) (d i))=sm n c d+S n (fun i=>mnf (cnt n a) (d i)) - S n (fun i=>if c i=true then 0 else mnf (cnt n a) (d i)):=fun c=>by
   unfold sm
   rw[<- Z9,<- U0]
   refine B5 fun i _=>?_
   show (if c i=true then d i+mnf (cnt n a) (d i) else 0)=(if c i=true then d i else 0)+mnf (cnt n a) (d i) - (if c i=true then 0 else mnf (cnt n a) (d i))
   cases c i with
   | true=>rw[if_pos rfl,if_pos rfl,if_pos rfl];omega
   | false=>rw[if_neg (by decide),if_neg (by decide),if_neg (by decide)];omega
  rw[sp a,sp A]at r2
  unfold roomF at r1
  rw[hcA]at r1
  have low:S n (fun i=>if a i=true then 0 else mnf (cnt n a) (d i))<=sm n b d+cnt n a*((n:Int) - cnt n a - cnt n b):=by
   have e:cnt n a*((n:Int) - cnt n a - cnt n b)=S n (fun i=>cnt n a*(1 - b2 (a i) - b2 (b i))):=by
    rw[at4,U0,U0,ab8,N4];rfl
   rw[e]
   unfold sm
   rw[<- Z9]
   refine au3 fun i hi=>?_
   cases ha:a i with
   | true =>
    have hb:=hab i ha
    rw[if_pos rfl,hb,if_neg (by decide),Y8,R5]
    simp
   | false =>
    rw[if_neg (by decide),R5]
    cases b i with
    | true =>
     rw[if_pos rfl,Y8]
     have:=bB9 (cnt n a) (d i)
     simp
     exact this
    | false =>
     rw[if_neg (by decide),R5]
     have:=bB8 (cnt n a) (d i)
     simp
     exact this
  have x:cnt n a*((n:Int) - 1 - cnt n b)=cnt n a*(cnt n a - 1)+cnt n a*((n:Int) - cnt n a - cnt n b):=by grind
  rw[x]
  omega
theorem aU6 (K:aF8 n d)(A:Nat->Bool):0<=roomF n d A:=by
 have k:=K A (fun i=>!A i && decide (d i<cnt n A)) (fun i hi=>by simp[hi])
 have e:S n (fun i=>if A i=true then 0 else mnf (cnt n A) (d i))=sm n (fun i=>!A i && decide (d i<cnt n A)) d+cnt n A*((n:Int) - cnt n A - cnt n (fun i=>!A i && decide (d i<cnt n A))):=by
  have e1:cnt n A*((n:Int) - cnt n A - cnt n (fun i=>!A i && decide (d i<cnt n A)))=S n (fun i=>cnt n A*(1 - b2 (A i) - b2 (!A i && decide (d i<cnt n A)))):=by
   rw[at4,U0,U0,ab8,N4];rfl
  rw[e1]
  unfold sm
  rw[<- Z9]
  refine B5 fun i hi=>?_
  show (if A i=true then 0 else mnf (cnt n A) (d i))=(if (!A i && decide (d i<cnt n A))=true then d i else 0)+cnt n A*(1 - b2 (A i) - b2 (!A i && decide (d i<cnt n A)))
  cases hA:A i with
  | true=>simp[b2]
  | false =>
   generalize cnt n A=r
   by_cases c:d i<r
   ·rw[decide_eq_true c]
    simp[b2,mnf]
    omega
   ·rw[decide_eq_false c]
    simp[b2,mnf]
    omega
 unfold roomF
 rw[e]
 have x:cnt n A*((n:Int) - 1 - cnt n (fun i=>!A i && decide (d i<cnt n A)))=cnt n A*(cnt n A - 1)+cnt n A*((n:Int) - cnt n A - cnt n (fun i=>!A i && decide (d i<cnt n A))):=by grind
 rw[x]at k
 omega
theorem bs3 (hg:Gph g):∀ n:Nat,∃ q,S n (deg n g)=2*q:=by
 intro n
 induction n with
 | zero=>exact⟨0,rfl⟩
 | succ n ih =>
  obtain⟨q,hq⟩:=ih
  refine⟨q+S n (fun i=>b2 (g i n)),?_⟩
  show S n (deg (n+1) g)+deg (n+1) g n=_
  have e1:S n (deg (n+1) g)=S n (deg n g)+S n (fun i=>b2 (g i n)):=by rw[<- Z9];rfl
  have e2:deg (n+1) g n=S n (fun i=>b2 (g i n)):=by
   show S n (fun j=>b2 (g n j))+b2 (g n n)=_
   rw[hg.irr,R5,B5 (g:=fun i=>b2 (g i n)) fun i _=>by rw[hg.sym]]
   omega
  rw[e1,e2,hq]
  omega
end Grf
namespace Web
def mn (r x:Int):Int:=if r<x then r else x
theorem aG8:∀ a b:List Int,(a++b).sum=a.sum+b.sum
 | [],b=>by simp
 | x::a,b=>by rw[bT0,P4,P4,aG8 a b,Int.add_assoc]
theorem am3:∀ a:List Int,a.reverse.sum=a.sum
 | []=>rfl
 | x::a=>by rw[List.reverse_cons,aG8,am3 a,P4,P4,List.sum_nil];omega
def up2 (ns:List Int):List Int:=PySem.W.sortI ns
theorem am2 (ns:List Int):(up2 ns).length=ns.length:=(PySem.W.sortI_perm ns).length_eq
theorem bb5 (hp:zs.Perm ns)(hs:zs.Pairwise (·≥·)):zs=(up2 ns).reverse:=by
 have h:zs.reverse=up2 ns:=PySem.W.eq_sortI ((V2 zs).trans hp) (by rw[W1];exact hs)
 rw[<- h,List.reverse_reverse]
def part (m:Nat)(r:Int)(g:List Int):Int:=((g.take m).map (mn r)).sum - (g.drop m).sum
def ae5 (ns:List Int)(r:Nat):Int:=(r:Int)*((r:Int) - 1)+part (ns.length - r) r (up2 ns)
theorem ax6 {r:Nat}(e:zs=(up2 ns).reverse):(r:Int)*((r:Int) - 1)+((zs.drop r).map (mn r)).sum - (zs.take r).sum=ae5 ns r:=by
 unfold ae5 part
 rw[e,bS5,bS6,bT6,am3,am3,am2]
 omega
end Web
namespace Web
inductive Wl where
 | below (p:Nat) | odd | wall (r:Nat) | free
 deriving DecidableEq
def AllP (ns:List Int):Prop:=∀ (j:Nat) (x:Int),ns[j]?=some x->0<=x
def aB0 (ns:List Int):Wl->Prop
 | .below p=>(∃ x,ns[p]?=some x/\x<0)/\∀ (j:Nat) (x:Int),j<p->ns[j]?=some x->0<=x
 | .odd=>AllP ns/\ns.sum % 2=1
 | .wall r=>AllP ns/\¬ ns.sum % 2=1/\1<=r/\r<=ns.length/\ae5 ns r<0/\∀ k,1<=k->k<r->0<=ae5 ns k
 | .free=>AllP ns/\¬ ns.sum % 2=1/\∀ k,1<=k->k<=ns.length->0<=ae5 ns k
theorem aG6 {w u:Wl}(h:aB0 ns w)(g:aB0 ns u):w=u:=by
 cases w with
 | below p =>
  obtain⟨⟨x,hx,hx0⟩,hp⟩:=h
  have no:¬ AllP ns:=fun a=>by have:=a p x hx;omega
  cases u with
  | below q =>
   obtain⟨⟨y,hy,hy0⟩,hq⟩:=g
   rcases V4 p q with l | l | l
   ·have:=hq p x l hx;omega
   ·rw[l]
   ·have:=hp q y l hy;omega
  | odd=>exact absurd g.1 no
  | wall r=>exact absurd g.1 no
  | free=>exact absurd g.1 no
 | odd =>
  cases u with
  | below q =>
   obtain⟨⟨y,hy,hy0⟩,hq⟩:=g
   have:=h.1 q y hy;omega
  | odd=>rfl
  | wall r=>exact absurd h.2 g.2.1
  | free=>exact absurd h.2 g.2.1
 | wall r =>
  obtain⟨a,b,r1,r2,r3,r4⟩:=h
  cases u with
  | below q =>
   obtain⟨⟨y,hy,hy0⟩,hq⟩:=g
   have:=a q y hy;omega
  | odd=>exact absurd g.2 b
  | wall s =>
   obtain⟨_,_,s1,s2,s3,s4⟩:=g
   rcases V4 r s with l | l | l
   ·have:=s4 r r1 l;omega
   ·rw[l]
   ·have:=r4 s s1 l;omega
  | free=>have:=g.2.2 r r1 r2;omega
 | free =>
  cases u with
  | below q =>
   obtain⟨⟨y,hy,hy0⟩,hq⟩:=g
   have:=h.1 q y hy;omega
  | odd=>exact absurd g.2 h.2.1
  | wall s =>
   obtain⟨_,_,s1,s2,s3,s4⟩:=g
   have:=h.2.2 s s1 s2;omega
  | free=>rfl
end Web
namespace Web
open L2
def rng (n:Nat):List Int:=(ai5 0 n).map fun k:Nat=>(k:Int)
theorem S6 {x:Int}:x∈rng n↔0<=x/\x<n:=by
 unfold rng
 constructor
 ·intro h
  obtain⟨k,hk,rfl⟩:=m5.mp h
  have:=aD3.mp hk
  omega
 ·intro h
  exact m5.mpr ⟨x.toNat,aD3.mpr ⟨by omega,by omega⟩,by omega⟩
theorem S7 (n:Nat):(rng n).length=n:=by unfold rng;rw[a5,aB3]
theorem Z3 (n:Nat):(rng n).Nodup:=by
 unfold rng
 refine List.Pairwise.map _ (fun a b h=>?_) (List.nodup_range' (step:=1) (by decide))
 intro e
 exact h (by omega)
def rest (zs:List Int)(p:Int):List Int:=zs.filter fun x=>decide (x≠p)
theorem ax7 {p x:Int}:x∈rest zs p↔x∈zs/\x≠p:=by unfold rest;rw[O5,decide_eq_true_iff]
theorem aN2 {p:Int}(hp:zs.Perm (rng n))(h0:0<=p)(h1:p<n):(rest zs p).length=n - 1:=by
 have nd:zs.Nodup:=hp.nodup_iff.mpr (Z3 n)
 have hm:p∈zs:=hp.mem_iff.mpr (S6.mpr ⟨h0,h1⟩)
 have e:rest zs p=zs.erase p:=by
  unfold rest
  rw[nd.erase_eq_filter]
  congr 1
  funext x
  by_cases h:x=p<;>simp[h]
 rw[e,bc6 hm,hp.length_eq,S7]
def X6 (ns es:List Int)(i:Nat):Int:=if (i:Int)∈es then ns.getD i 0 - 1 else ns.getD i 0
def R8 (ns:List Int)(p:Nat)(es:List Int):List Int:=((x8 ns.length).filter fun i=>decide (i≠p)).map (X6 ns es)
open Grf (S b2 Gph deg cnt sm Top roomF)
theorem bc4 (f:Nat->Int):∀ n:Nat,S n f=((x8 n).map f).sum
 | 0=>rfl
 | n+1=>by
  rw[M0,c8,aG8,<- bc4 f n]
  show S n f+f n=_+(f n+0)
  omega
theorem map_getD (φ:Int->Int)(xs:List Int):(x8 xs.length).map (fun i=>φ (xs.getD i 0))=xs.map φ:=by
 refine P1 fun i=>?_
 rw[m9,m9]
 rcases C0 i xs.length with h | h
 ·rw[R6 h,g9 h]
  show some (φ (xs.getD i 0))=some (φ xs[i])
  rw[m6,g9 h]
  rfl
 ·rw[o9 h,o9 (by rw[G4];exact h)]
  rfl
theorem bR6 (φ:Int->Int)(xs:List Int):S xs.length (fun i=>φ (xs.getD i 0))=(xs.map φ).sum:=by rw[bc4,map_getD]
theorem bt8 (xs:List Int):S xs.length (fun i=>xs.getD i 0)=xs.sum:=by
 have:=bR6 (fun x=>x) xs
 rw[List.map_id']at this
 exact this
theorem bt9 {f:Nat->Int}:∀ {L:List Int},L.Nodup->(∀ z∈L,0<=z/\z<n)->S n (fun i=>if (i:Int)∈L then f i else 0)=(L.map fun z=>f z.toNat).sum
 | [],_,_=>by
  rw[Grf.B5 (g:=fun _=>0) fun i _=>by simp]
  exact Grf.R0 n
 | z::L,nd,h=>by
  obtain⟨h1,h2⟩:=F5.mp nd
  obtain⟨z0,z1⟩:=h z c5
  rw[n9,P4,<- bt9 h2 fun y hy=>h y (b7 _ hy)]
  rw[Grf.Y9 (j:=z.toNat) (f:=fun i=>if (i:Int)∈z::L then f i else 0) (g:=fun i=>if (i:Int)∈L then f i else 0) (by omega) (fun i _ hi=>by
   show (if (i:Int)∈z::L then f i else 0)=if (i:Int)∈L then f i else 0
   by_cases e:(i:Int)∈L
   ·rw[if_pos e,if_pos (b7 _ e)]
   ·rw[if_neg e,if_neg (fun c=>by
     rcases d3.mp c with c | c
     ·exact hi (by omega)
     ·exact e c)])]
  show _+((if ((z.toNat:Nat):Int)∈z::L then f z.toNat else 0) - (if ((z.toNat:Nat):Int)∈L then f z.toNat else 0))=_
  have ez:((z.toNat:Nat):Int)=z:=by omega
  rw[ez,if_pos c5,if_neg h1]
  omega
theorem by7 (ns:List Int):(rng ns.length).map (fun z=>ns.getD z.toNat 0)=ns:=by
 unfold rng
 rw[W2,<- bv4]
 have:=map_getD (fun x=>x) ns
 rw[List.map_id']at this
 exact this
theorem ay2 (hp:zs.Perm (rng ns.length))(hs:zs.Pairwise (ole ns)):zs.map (fun z=>ns.getD z.toNat 0)=(up2 ns).reverse:=by
 refine bb5 ?_ ?_
 ·have:=hp.map (fun z:Int=>ns.getD z.toNat 0)
  rw[by7]at this
  exact this
 ·refine List.Pairwise.map _ (fun a b h=>?_) hs
  have:=U6.mp h
  show ns.getD b.toNat 0<=ns.getD a.toNat 0
  omega
theorem aE0 (hp:zs.Perm (rng ns.length))(hs:zs.Pairwise (ole ns)){r:Nat}(hr:r<=ns.length) :
  cnt ns.length (fun i=>decide ((i:Int)∈zs.take r))=r/\Top ns.length (fun i=>ns.getD i 0) (fun i=>decide ((i:Int)∈zs.take r))/\roomF ns.length (fun i=>ns.getD i 0) (fun i=>decide ((i:Int)∈zs.take r))=ae5 ns r:=by
 have nd:zs.Nodup:=hp.nodup_iff.mpr (Z3 _)
 have hzl:zs.length=ns.length:=by rw[hp.length_eq,S7]
 have hin:∀ z∈zs,0<=z/\z<(ns.length:Int):=fun z hz=>S6.mp (hp.mem_iff.mp hz)
 have ndA:(zs.take r).Nodup:=nd.sublist (G3 r zs)
 have ndB:(zs.drop r).Nodup:=nd.sublist (P0 r zs)
 have inA:∀ z∈zs.take r,0<=z/\z<(ns.length:Int):=fun z hz=>hin z (L3 hz)
 have inB:∀ z∈zs.drop r,0<=z/\z<(ns.length:Int):=fun z hz=>hin z (L1 hz)
 have app:=nd
 rw[<- A9 r zs]at app
 have cross:=(bS7.mp app).2.2
 have mem_or:∀ i:Nat,i<ns.length->(i:Int)∈zs.take r\/(i:Int)∈zs.drop r:=fun i hi=>by
  have:(i:Int)∈zs:=hp.mem_iff.mpr (S6.mpr ⟨by omega,by omega⟩)
  rw[<- A9 r zs]at this
  exact u6.mp this
 have hc:cnt ns.length (fun i=>decide ((i:Int)∈zs.take r))=r:=by
  have:=bt9 (n:=ns.length) (f:=fun _=>1) ndA inA
  have e:cnt ns.length (fun i=>decide ((i:Int)∈zs.take r))=S ns.length (fun i=>if (i:Int)∈zs.take r then 1 else 0):=Grf.B5 fun i _=>by
   by_cases c:(i:Int)∈zs.take r
   ·rw[if_pos c];simp[b2,c]
   ·rw[if_neg c];simp[b2,c]
  rw[e,this]
  have l:(zs.take r).length=r:=by rw[l6];omega
  have:∀ L:List Int,(L.map fun _=>(1:Int)).sum=L.length:=fun L=>by
   induction L with
   | nil=>rfl
   | cons a L ih=>rw[n9,P4,ih,k8];omega
  rw[this,l]
 refine⟨hc,fun i j hi hj h1 h2=>?_,?_⟩
 ·have a1:(i:Int)∈zs.take r:=of_decide_eq_true h1
  have a2:(j:Int)∈zs.drop r:=(mem_or j hj).resolve_left (of_decide_eq_false h2)
  have pw:=hs
  rw[<- A9 r zs]at pw
  have:=U6.mp ((v8.mp pw).2.2 _ a1 _ a2)
  rw[p0,p0]at this
  show ns.getD j 0<=ns.getD i 0
  omega
 ·have of:=ay2 hp hs
  have rm:=ax6 (ns:=ns) (r:=r) of
  unfold roomF
  rw[hc,<- rm,<- aB1,<- aB2,W2]
  have s1:sm ns.length (fun i=>decide ((i:Int)∈zs.take r)) (fun i=>ns.getD i 0)=((zs.take r).map fun z=>ns.getD z.toNat 0).sum:=by
   rw[<- bt9 (n:=ns.length) (f:=fun i=>ns.getD i 0) ndA inA]
   refine Grf.B5 fun i _=>?_
   show (if decide ((i:Int)∈zs.take r)=true then ns.getD i 0 else 0)=_
   by_cases c:(i:Int)∈zs.take r
   ·rw[if_pos c,decide_eq_true c,if_pos rfl]
   ·rw[if_neg c,decide_eq_false c,if_neg (by decide)]
  have s2:S ns.length (fun i=>if decide ((i:Int)∈zs.take r)=true then 0 else Grf.mnf r (ns.getD i 0))=((zs.drop r).map (mn r ∘ fun z=>ns.getD z.toNat 0)).sum:=by
   have:=bt9 (n:=ns.length) (f:=fun i=>mn r (ns.getD i 0)) ndB inB
   show _=((zs.drop r).map fun z=>mn r (ns.getD z.toNat 0)).sum
   rw[<- this]
   refine Grf.B5 fun i hi=>?_
   by_cases c:(i:Int)∈zs.take r
   ·rw[decide_eq_true c,if_pos rfl,if_neg (fun z=>cross _ c _ z rfl)]
   ·rw[decide_eq_false c,if_neg (by decide),if_pos ((mem_or i hi).resolve_left c)]
    rfl
  rw[s1,s2]
theorem ay3 (ns:List Int):∃ zs:List Int,zs.Perm (rng ns.length)/\zs.Pairwise (ole ns):=by
 let le:Int->Int->Bool:=fun x y=>decide (ns.getD y.toNat 0<ns.getD x.toNat 0\/(ns.getD x.toNat 0=ns.getD y.toNat 0/\x<=y))
 refine⟨(rng ns.length).mergeSort le,List.mergeSort_perm _ _,?_⟩
 have:=List.pairwise_mergeSort (le:=le) (fun a b c h1 h2=>?_) (fun a b=>?_) (rng ns.length)
 ·exact this.imp fun h=>U6.mpr (of_decide_eq_true h)
 ·have g1:=of_decide_eq_true h1
  have g2:=of_decide_eq_true h2
  exact decide_eq_true (by omega)
 ·rw[aS1]
  by_cases h:ns.getD b.toNat 0<ns.getD a.toNat 0\/(ns.getD a.toNat 0=ns.getD b.toNat 0/\a<=b)
  ·exact .inl (decide_eq_true h)
  ·exact .inr (decide_eq_true (by omega))
def Gr (ns:List Int):Prop:=∃ g,Gph g/\∀ i,i<ns.length->deg ns.length g i=ns.getD i 0
theorem af9 (h:AllP ns)(hi:i<ns.length):0<=ns.getD i 0:=by
 rw[m6,g9 hi]
 exact h i _ (g9 hi)
theorem bD3 (h:aB0 ns .free):Gr ns:=by
 obtain⟨h1,h2,h3⟩:=h
 obtain⟨zs,hp,hs⟩:=ay3 ns
 have hd:∀ i,i<ns.length->0<=ns.getD i 0:=fun i hi=>af9 h1 hi
 have K:=Grf.aV9 (d:=fun i=>ns.getD i 0) hd fun r r1 r2=>by
  obtain⟨a1,a2,a3⟩:=aE0 hp hs r2
  exact⟨_,a1,a2,by rw[a3];exact h3 r r1 r2⟩
 have s0:0<=ns.sum:=by rw[<- bt8];exact Grf.Z8 hd
 obtain⟨g,hg,dg⟩:=Grf.br0 (ns.sum / 2).toNat ns.length (fun i=>ns.getD i 0) hd K (by rw[bt8];omega)
 exact⟨g,hg,dg⟩
theorem az9 (h:Gr ns):AllP ns:=by
 obtain⟨g,hg,dg⟩:=h
 intro j x hx
 have hj:j<ns.length:=by
  rcases C0 j ns.length with h | h
  ·exact h
  ·rw[o9 h]at hx;cases hx
 have:=dg j hj
 rw[m6,hx]at this
 have e:deg ns.length g j=x:=this
 rw[<- e]
 exact Grf.Z8 fun i _=>Grf.G6 _
theorem bD2 (h:Gr ns):aB0 ns .free:=by
 have pos:=az9 h
 obtain⟨g,hg,dg⟩:=h
 refine⟨pos,?_,fun k k1 k2=>?_⟩
 ·obtain⟨q,hq⟩:=Grf.bs3 hg ns.length
  rw[Grf.B5 (g:=fun i=>ns.getD i 0) fun i hi=>dg i hi,bt8]at hq
  omega
 ·obtain⟨zs,hp,hs⟩:=ay3 ns
  obtain⟨_,_,a3⟩:=aE0 hp hs k2
  rw[<- a3]
  exact Grf.aU6 (Grf.bp6 hg dg) _
end Web
namespace Web
open L2
open Grf (S b2 Gph deg S2)
theorem bz7 (h1:i<j)(h2:j<n):[(i:Int),(j:Int)]∈V6 n:=by
 unfold V6
 refine bT5.mpr ⟨i,y9.mpr (by omega),?_⟩
 unfold ai2
 exact m5.mpr ⟨j - (i+1),y9.mpr (by omega),by
  rw[show ((j - (i+1):Nat):Int)=(j:Int) - ((i:Int)+1) by omega]
  rw[show (i:Int)+1+((j:Int) - ((i:Int)+1))=(j:Int) by omega]⟩
end Web
namespace Web
open L2
open Grf (S b2 Gph deg cnt sm Top roomF)
def sk (p i:Nat):Nat:=if i<p then i else i+1
theorem bG8 (p i:Nat):sk p i≠p:=by unfold sk;split<;>omega
theorem bG9 (h:i<n - 1)(hp:p<n):sk p i<n:=by unfold sk;split<;>omega
theorem aX2 (f:Nat->Int):∀ {n:Nat},p<n->S n f=S (n - 1) (fun j=>f (sk p j))+f p
 | n+1,h=>by
  show S n f+f n=S n (fun j=>f (sk p j))+f p
  by_cases e:p=n
  ·subst e
   rw[Grf.B5 (g:=fun j=>f (sk p j)) fun i hi=>by show f i=f (sk p i);unfold sk;rw[if_pos hi]]
  ·have hp:p<n:=by omega
   rw[aX2 f hp]
   obtain⟨m,rfl⟩:∃ m,n=m+1:=⟨n - 1,by omega⟩
   have e1:sk p m=m+1:=by unfold sk;rw[if_neg (by omega)]
   show S m (fun j=>f (sk p j))+f p+f (m+1)=S m (fun j=>f (sk p j))+f (sk p m)+f p
   rw[e1]
   omega
theorem X8:∀ {n:Nat},p<n->(x8 n).filter (fun i=>decide (i≠p))=(x8 (n - 1)).map (sk p)
 | n+1,h=>by
  rw[M0,J9,ad4]
  by_cases e:p=n
  ·subst e
   have e1:[p].filter (fun i=>decide (i≠p))=[]:=by simp
   rw[e1,F4,List.filter_eq_self.mpr fun a ha=>decide_eq_true (by have:=y9.mp ha;omega)]
   conv=>lhs;rw[<- List.map_id (x8 p)]
   exact R7 fun a ha=>by
    show a=sk p a
    unfold sk;rw[if_pos (y9.mp ha)]
  ·have hp:p<n:=by omega
   have e1:[n].filter (fun i=>decide (i≠p))=[n]:=by
    rw[List.filter_cons,if_pos (decide_eq_true (Ne.symm e))];rfl
   rw[e1,X8 hp]
   obtain⟨m,rfl⟩:∃ m,n=m+1:=⟨n - 1,by omega⟩
   have e2:sk p m=m+1:=by unfold sk;rw[if_neg (by omega)]
   rw[ad4,M0 (n:=m),c8,List.map_singleton,e2]
theorem aP1 {es:List Int}(h:p<ns.length):R8 ns p es=(x8 (ns.length - 1)).map fun i=>X6 ns es (sk p i):=by
 unfold R8
 rw[X8 h,W2]
 rfl
theorem ah6 {es:List Int}(h:p<ns.length):(R8 ns p es).length=ns.length - 1:=by rw[aP1 h,a5,G4]
theorem aE5 {es:List Int}(h:p<ns.length)(hi:i<ns.length - 1):(R8 ns p es).getD i 0=X6 ns es (sk p i):=by
 rw[aP1 h,m6,m9,R6 hi]
 rfl
theorem bb1 (h:Gr ns)(hi:i<ns.length):ns.getD i 0<ns.length:=by
 obtain⟨g,hg,hd⟩:=h
 rw[<- hd i hi]
 unfold deg
 rw[aX2 (p:=i) _ hi,hg.irr]
 have h1:S (ns.length - 1) (fun j=>b2 (g i (sk i j)))<=S (ns.length - 1) (fun _=>1):=Grf.au3 fun j _=>Grf.bc2 _
 rw[Grf.ab8]at h1
 have:b2 false=0:=rfl
 omega
theorem bD1 {es:List Int} (h:Gr ns) (hp:p<ns.length) (nd:es.Nodup) (he:∀ z∈es,0<=z/\z<ns.length/\z≠p) (hl:(es.length:Int)=ns.getD p 0)
  (ht:∀ x∈es,∀ y:Nat,y<ns.length->(y:Int)∉es->y≠p->ns.getD y 0<=ns.getD x.toNat 0):Gr (R8 ns p es):=by
 obtain⟨g,hg,hd⟩:=h
 have hs:S ns.length (fun j=>b2 (decide ((j:Int)∈es)))=(es.length:Int):=by
  rw[Grf.B5 (g:=fun i=>if (i:Int)∈es then 1 else 0) fun i _=>by
   by_cases e:(i:Int)∈es
   ·rw[decide_eq_true e,if_pos e];rfl
   ·rw[decide_eq_false e,if_neg e];rfl]
  rw[bt9 (f:=fun _=>1) nd fun z hz=>⟨(he z hz).1,(he z hz).2.1⟩]
  clear he hl ht nd
  induction es with
  | nil=>rfl
  | cons a es ih=>rw[n9,P4,ih,k8];omega
 have hNp:decide ((p:Int)∈es)=false:=decide_eq_false fun m=>(he _ m).2.2 rfl
 have hm:0<=S ns.length (fun j=>b2 (decide ((j:Int)∈es) && !g p j)):=Grf.Z8 fun i _=>Grf.G6 _
 obtain⟨g',k1,k2,k3⟩:=Grf.ca1 (N:=fun j=>decide ((j:Int)∈es)) hp hNp (S ns.length (fun j=>b2 (decide ((j:Int)∈es) && !g p j))).toNat g hg (by rw[hs,hl,hd p hp])
  (fun x y hx hy hNx hNy hyp => by
   rw[hd x hx,hd y hy]
   have:=ht x (of_decide_eq_true hNx) y hy (of_decide_eq_false hNy) hyp
   rw[p0]at this
   exact this) (by omega)
 refine⟨fun i j=>g' (sk p i) (sk p j),⟨fun i j=>k1.sym _ _,fun i=>k1.irr _⟩,fun i hi=>?_⟩
 rw[ah6 hp]at hi ⊢
 rw[aE5 hp hi]
 have hsk:=bG9 (p:=p) hi hp
 have e1:=k2 _ hsk
 rw[hd _ hsk]at e1
 have e2:deg ns.length g' (sk p i)=S (ns.length - 1) (fun j=>b2 (g' (sk p i) (sk p j)))+b2 (g' (sk p i) p):=aX2 (p:=p) _ hp
 rw[e2,k1.sym (sk p i) p,k3 _ hsk]at e1
 show S (ns.length - 1) (fun j=>b2 (g' (sk p i) (sk p j)))=_
 generalize S (ns.length - 1) (fun j=>b2 (g' (sk p i) (sk p j)))=q at e1
 unfold X6
 by_cases e:((sk p i:Nat):Int)∈es
 ·rw[decide_eq_true e]at e1
  rw[if_pos e]
  have:b2 true=1:=rfl
  omega
 ·rw[decide_eq_false e]at e1
  rw[if_neg e]
  have:b2 false=0:=rfl
  omega
theorem br1 (h:Gr ns)(hp:p<ns.length)(hz:zs.Perm (rng ns.length))(hs:zs.Pairwise (ole ns)):Gr (R8 ns p ((rest zs p).take (ns.getD p 0).toNat)):=by
 have nz:(rest zs p).Nodup:=(hz.nodup_iff.mpr (Z3 ns.length)).filter _
 have srt:(rest zs p).Pairwise (ole ns):=hs.filter _
 have h1:=bb1 h hp
 have h0:=af9 (az9 h) hp
 have hl:=aN2 hz (p:=p) (by omega) (by omega)
 refine bD1 h hp (nz.sublist (G3 _ _)) (fun z m=>?_) ?_ (fun x hx y hy hny hyp=>?_)
 ·obtain⟨m1,m2⟩:=ax7.mp (L3 m)
  obtain⟨c0,c1⟩:=S6.mp (hz.mem_iff.mp m1)
  exact⟨c0,c1,m2⟩
 ·rw[l6]
  omega
 ·have hyr:(y:Int)∈rest zs p:=ax7.mpr ⟨hz.mem_iff.mpr (S6.mpr ⟨by omega,by omega⟩),by omega⟩
  have e:=A9 (ns.getD p 0).toNat (rest zs p)
  rw[<- e]at hyr srt
  rcases u6.mp hyr with m | m
  ·exact absurd m hny
  ·have:=(v8.mp srt).2.2 x hx y m
   rcases U6.mp this with t | t
   ·rw[p0]at t;omega
   ·rw[p0]at t;omega
end Web
namespace Web
open L2
theorem up_eq {a b c d:Int}(h:up [a,b]=up [c,d]):(a=c/\b=d)\/(a=d/\b=c):=by
 unfold up at h
 injection h with h1 h2
 injection h2 with h2 _
 split at h1<;>split at h1<;>split at h2<;>split at h2<;>omega
def star (a:Int)(bs:List Int):List (List Int):=bs.map fun b=>[a,b]
theorem aA4 {a:Int}{q:Nat}:∀ {bs:List Int},a∉bs->V9 (star a bs) q=if (q:Int)=a then bs.length else bs.count (q:Int)
 | [],_=>by
  split<;>rfl
 | b::bs,h=>by
  have hb:a≠b:=fun e=>h (e ▸ c5)
  have hbs:a∉bs:=fun m=>h (b7 _ m)
  have ih:=aA4 (q:=q) hbs
  unfold star V9 at ih ⊢
  rw[n9,aK4,ih,List.count_cons,k8]
  by_cases e:(q:Int)=a
  ·rw[if_pos e,if_pos e,if_pos (decide_eq_true (by rw[e];exact c5))]
  ·rw[if_neg e,if_neg e]
   by_cases e2:(q:Int)=b
   ·rw[if_pos (decide_eq_true (by rw[e2];exact b7 _ c5)),if_pos (by rw[e2];exact beq_self_eq_true b)]
   ·rw[if_neg (by
     intro z
     have:=of_decide_eq_true z
     rcases d3.mp this with t | t
     ·exact e t
     ·exact e2 (n5.mp t)),if_neg (by rw[beq_iff_eq];exact fun z=>e2 z.symm)]
theorem aq9 {q:Int}:∀ {bs:List Int},bs.Nodup->bs.count q=if q∈bs then 1 else 0
 | [],_=>by rw[if_neg (by simp)];rfl
 | b::bs,nd=>by
  obtain⟨h1,h2⟩:=F5.mp nd
  rw[List.count_cons,aq9 h2]
  by_cases e:b=q
  ·subst e
   rw[if_neg h1,if_pos c5,if_pos (beq_self_eq_true b)]
  ·rw[show (b == q)=false from beq_eq_false_iff_ne.mpr e]
   by_cases m:q∈bs
   ·rw[if_pos m,if_pos (b7 _ m)];rfl
   ·have m2:¬ q∈b::bs:=fun z=>by
     rcases d3.mp z with t | t
     ·exact e t.symm
     ·exact m t
    rw[if_neg m,if_neg m2];rfl
structure ag0 (ns ps left:List Int) (ks:List (List Int)):Prop where
 len:left.length=ps.length
 nd:ps.Nodup
 inn:∀ q∈ps,0<=q/\q<ns.length
 ends:∀ k∈ks,aj2 ns.length k
 nodup:(ks.map up).Nodup
 out:∀ a b:Int,[a,b]∈ks->¬ (a∈ps/\b∈ps)
 cnt:∀ i q:Nat,ps[i]?=some (q:Int)->(V9 ks q:Int)+left.getD i 0=ns.getD q 0
 done:∀ q:Nat,q<ns.length->(q:Int)∉ps->(V9 ks q:Int)=ns.getD q 0
theorem aO5 {ps:List Int}(nd:ps.Nodup){a:Int}(h1:ps[i]?=some a)(h2:ps[j]?=some a):i=j:=by
 have hi:i<ps.length:=by
  rcases C0 i ps.length with h | h
  ·exact h
  ·rw[o9 h]at h1;cases h1
 exact(List.getElem?_inj hi nd).mp (h1.trans h2.symm)
theorem bb3 {ps:List Int}{a:Int}(h:ps[i]?=some a):ps.getD i 0=a:=by rw[m6,h];rfl
theorem aW3 {ps:List Int}(h:i<ps.length):ps[i]?=some (ps.getD i 0):=by
 rw[m6,g9 h];rfl
theorem ag0.step {ps left ps' es:List Int}{a:Int}(h:ag0 ns ps left ks)(hj:ps[j]?=some a)(sub:ps'.Sublist ps)(hl:ps'.length=ps.length - 1)(hix:∀ i,i<ps.length - 1->ps'[i]?=ps[sk j i]?)
  (ne:es.Nodup)(he:∀ z∈es,0<=z/\z<ps.length/\z≠j)(hn:(es.length:Int)=left.getD j 0) :
  ag0 ns ps' (R8 left j es) (ks++star a (es.map fun z=>ps.getD z.toNat 0)):=by
 have hjl:j<ps.length:=by
  rcases C0 j ps.length with h | h
  ·exact h
  ·rw[o9 h]at hj;cases hj
 have hjl':j<left.length:=by rw[h.len];exact hjl
 have haps:a∈ps:=b8 hj
 have bget:∀ z∈es,ps[z.toNat]?=some (ps.getD z.toNat 0):=fun z hz=>aW3 (by have:=he z hz;omega)
 have bmem:∀ b∈es.map (fun z=>ps.getD z.toNat 0),b∈ps:=fun b hb=>by
  obtain⟨z,hz,rfl⟩:=m5.mp hb
  exact b8 (bget z hz)
 have anb:a∉es.map (fun z=>ps.getD z.toNat 0):=fun m=>by
  obtain⟨z,hz,e⟩:=m5.mp m
  have h1:=bget z hz
  rw[e]at h1
  have:=aO5 h.nd h1 hj
  have:=he z hz
  omega
 have ndb:(es.map (fun z=>ps.getD z.toNat 0)).Nodup:=by
  refine P9.mpr ?_
  rw[L9]
  refine List.Pairwise.imp_of_mem ?_ (P9.mp ne)
  intro x y hx hy hxy e
  have h1:=bget x hx
  rw[e]at h1
  have:=aO5 h.nd h1 (bget y hy)
  have:=he x hx
  have:=he y hy
  exact hxy (by omega)
 have ap:a∉ps':=fun m=>by
  obtain⟨i,hi⟩:=m8.mp m
  have hil:i<ps.length - 1:=by
   rcases C0 i ps'.length with h | h
   ·omega
   ·rw[o9 h]at hi;cases hi
  rw[hix i hil]at hi
  exact bG8 j i (aO5 h.nd hi hj)
 have bin:∀ (i q:Nat),ps[i]?=some (q:Int)->((q:Int)∈es.map (fun z=>ps.getD z.toNat 0)↔(i:Int)∈es):=fun i q hi=>by
  constructor
  ·intro m
   obtain⟨z,hz,e⟩:=m5.mp m
   have h1:=bget z hz
   rw[e]at h1
   have:=aO5 h.nd h1 hi
   have:=he z hz
   rwa [show (i:Int)=z by omega]
  ·intro m
   refine m5.mpr ⟨i,m,?_⟩
   rw[p0]
   exact bb3 hi
 refine⟨by rw[ah6 hjl',hl,h.len],h.nd.sublist sub,fun q hq=>h.inn q (sub.subset hq),fun k hk=>?_,?_,fun c d hk=>?_,fun i q hi=>?_,fun q hq hnq=>?_⟩
 ·rcases u6.mp hk with hk | hk
  ·exact h.ends k hk
  ·obtain⟨b,hb,rfl⟩:=m5.mp hk
   have h1:=h.inn a haps
   have h2:=h.inn b (bmem b hb)
   have h3:a≠b:=fun e=>anb (e ▸ hb)
   exact⟨a.toNat,b.toNat,by omega,by omega,by omega,by rw[bI6 h1.1,bI6 h2.1]⟩
 ·rw[c8,bS7]
  refine⟨h.nodup,?_,fun x hx y hy e=>?_⟩
  ·unfold star
   rw[W2]
   refine P9.mpr ?_
   rw[L9]
   refine List.Pairwise.imp_of_mem ?_ (P9.mp ndb)
   intro x y hx hy hxy e
   rcases up_eq e with t | t
   ·exact hxy t.2
   ·exact anb (t.1 ▸ hy)
  ·obtain⟨k,hk,rfl⟩:=m5.mp hx
   obtain⟨k2,hk2,rfl⟩:=m5.mp hy
   obtain⟨b,hb,rfl⟩:=m5.mp hk2
   obtain⟨u,v,_,_,_,rfl⟩:=h.ends k hk
   refine h.out _ _ hk ?_
   rcases up_eq e with t | t
   ·rw[t.1,t.2];exact⟨haps,bmem b hb⟩
   ·rw[t.1,t.2];exact⟨bmem b hb,haps⟩
 ·rcases u6.mp hk with hk | hk
  ·exact fun z=>h.out c d hk ⟨sub.subset z.1,sub.subset z.2⟩
  ·obtain⟨b,hb,e⟩:=m5.mp hk
   injection e with e1 _
   intro z
   exact ap (e1 ▸ z.1)
 ·have hil:i<ps.length - 1:=by
   rcases C0 i ps'.length with h | h
   ·omega
   ·rw[o9 h]at hi;cases hi
  rw[hix i hil]at hi
  have hc:=h.cnt _ q hi
  have hqa:¬ (q:Int)=a:=fun e=>by
   rw[e]at hi
   exact bG8 j i (aO5 h.nd hi hj)
  rw[aE5 hjl' (by rw[h.len];exact hil),aA5,aA4 anb,if_neg hqa,aq9 ndb]
  unfold X6
  by_cases m:((sk j i:Nat):Int)∈es
  ·rw[if_pos ((bin _ q hi).mpr m),if_pos m];omega
  ·rw[if_neg (fun z=>m ((bin _ q hi).mp z)),if_neg m];omega
 ·rw[aA5,aA4 anb]
  by_cases e:(q:Int)=a
  ·have hc:=h.cnt j q (by rw[e];exact hj)
   rw[if_pos e,a5]
   omega
  ·rw[if_neg e,aq9 ndb]
   have hq':(q:Int)∉ps:=fun m=>by
    obtain⟨m',hm'⟩:=m8.mp m
    have hml:m'<ps.length:=by
     rcases C0 m' ps.length with h | h
     ·exact h
     ·rw[o9 h]at hm';cases hm'
    have hmj:m'≠j:=fun z=>by rw[z,hj]at hm';injection hm' with hm';exact e hm'.symm
    obtain⟨i,hi,hik⟩:∃ i,i<ps.length - 1/\sk j i=m':=by
     rcases C0 m' j with t | t
     ·exact⟨m',by omega,by unfold sk;rw[if_pos t]⟩
     ·exact⟨m' - 1,by omega,by unfold sk;rw[if_neg (by omega)];omega⟩
    have:=hix i hi
    rw[hik,hm']at this
    exact hnq (b8 this)
   rw[if_neg (fun m=>hq' (bmem _ m)),h.done q hq hq' |>.symm]
   omega
theorem ag0.last {left:List Int}(h:ag0 ns [] left ks):tal ns.length ks=ns:=by
 apply P1
 intro i
 rcases C0 i ns.length with hi | hi
 ·rw[ag9 hi,h.done i hi (by simp),aW3 hi]
 ·rw[o9 (by rw[X0];exact hi),o9 hi]
theorem aH6 (h:i<n):(rng n)[i]?=some (i:Int):=by
 unfold rng
 rw[m9,List.getElem?_range' h]
 simp
theorem ag0.first (ns:List Int):ag0 ns (rng ns.length) ns [] where
 len:=(S7 _).symm
 nd:=Z3 _
 inn:=fun q hq=>S6.mp hq
 ends:=fun k hk=>absurd hk (by simp)
 nodup:=by simp
 out:=fun a b hk=>absurd hk (by simp)
 cnt:=fun i q hi=>by
  have hil:i<ns.length:=by
   rcases C0 i (rng ns.length).length with h | h
   ·rw[S7]at h;exact h
   ·rw[o9 h]at hi;cases hi
  rw[aH6 hil]at hi
  injection hi with hi
  rw[show q=i by omega]
  show (0:Int)+_=_
  omega
 done:=fun q hq hn=>absurd (S6.mpr ⟨by omega,by omega⟩) hn
theorem ay5:∀ {xs ys:List Int},xs.Perm ys->xs.Pairwise (ole ns)->ys.Pairwise (ole ns)->xs=ys
 | [],ys,p,_,_=>p.symm.eq_nil.symm
 | x::xs,[],p,_,_=>by
  have:=p.length_eq
  simp at this
 | x::xs,y::ys,p,h,q=>by
  have hxy:x=y:=by
   have h1:x∈y::ys:=p.mem_iff.mp c5
   have h2:y∈x::xs:=p.mem_iff.mpr c5
   rcases d3.mp h1 with e | e
   ·exact e
   ·rcases d3.mp h2 with e2 | e2
    ·exact e2.symm
    ·exact aO0 ((D3.mp h).1 y e2) ((D3.mp q).1 x e)
  subst hxy
  rw[ay5 ((List.perm_cons x).mp p) (D3.mp h).2 (D3.mp q).2]
theorem aO3:∀ {l m:List (List Int)},l.Nodup->(∀ x∈l,x∈m)->l.length<=m.length
 | [],m,_,_=>o6 _
 | x::l,m,nd,h=>by
  have h1:=F5.mp nd
  have hm:=h x c5
  have h2:∀ y∈l,y∈m.erase x:=fun y hy=>by
   have hne:y≠x:=fun e=>h1.1 (e ▸ hy)
   exact(List.mem_erase_of_ne hne).mpr (h y (b7 _ hy))
  have h3:=aO3 h1.2 h2
  rw[bc6 hm]at h3
  have h4:0<m.length:=List.length_pos_of_mem hm
  simp only[k8]
  omega
theorem aG7 (hn:n<=24)(nd:ks.Nodup)(h:∀ k∈ks,Up n k):ks.length<=276:=
 p9 (aO3 nd fun k hk=>by
  obtain⟨i,j,h1,h2,rfl⟩:=h k hk
  exact bz7 h1 h2) (aE4 n hn)
theorem ag0.len_le {ps left:List Int}(h:ag0 ns ps left ks)(hn:ns.length<=24):ks.length<=276:=by
 have:=aG7 hn h.nodup fun k hk=>by
  obtain⟨k',hk',rfl⟩:=m5.mp hk
  exact(h.ends k' hk').up
 rw[a5]at this
 exact this
theorem bs7 {q:Nat}:∀ {ks:List (List Int)},(∀ k∈ks,aj2 n k)->V9 (ks.map up) q=V9 ks q
 | [],_=>rfl
 | k::ks,h=>by
  have ih:=bs7 (q:=q) fun k hk=>h k (b7 _ hk)
  unfold V9 at ih ⊢
  rw[n9,aK4,aK4,ih]
  congr 1
  obtain⟨i,j,_,_,_,rfl⟩:=h k c5
  have e:((q:Int)∈up [(i:Int),(j:Int)])↔(q:Int)∈[(i:Int),(j:Int)]:=by
   unfold up
   simp only[d3,N8,or_false]
   split<;>split<;>omega
  by_cases z:(q:Int)∈[(i:Int),(j:Int)]
  ·rw[decide_eq_true z,decide_eq_true (e.mpr z)]
  ·rw[decide_eq_false z,decide_eq_false (fun t=>z (e.mp t))]
theorem bK5 (h:∀ k∈ks,aj2 n k):tal n (ks.map up)=tal n ks:=by
 unfold tal
 refine R7 fun p _=>?_
 rw[bs7 h]
noncomputable def bz8 (ns:List Int):List Int:=Classical.choose (ay3 ns)
theorem Z6 (ns:List Int):(bz8 ns).Perm (rng ns.length):=(Classical.choose_spec (ay3 ns)).1
theorem aE1 (ns:List Int):(bz8 ns).Pairwise (ole ns):=(Classical.choose_spec (ay3 ns)).2
theorem aZ9 (hp:zs.Perm (rng ns.length))(hs:zs.Pairwise (ole ns)):zs=bz8 ns:=ay5 (hp.trans (Z6 ns).symm) hs (aE1 ns)
noncomputable def chF (ns:List Int)(p:Nat):List Int:=(rest (bz8 ns) p).take (ns.getD p 0).toNat
theorem bs9 (ns:List Int)(p:Nat):(chF ns p).Nodup:=(((Z6 ns).nodup_iff.mpr (Z3 ns.length)).filter _).sublist (G3 _ _)
theorem aW8 {z:Int}(h:z∈chF ns p):0<=z/\z<ns.length/\z≠p:=by
 obtain⟨m1,m2⟩:=ax7.mp (L3 h)
 obtain⟨c0,c1⟩:=S6.mp ((Z6 ns).mem_iff.mp m1)
 exact⟨c0,c1,m2⟩
theorem aJ5 (h:Gr ns)(hp:p<ns.length):((chF ns p).length:Int)=ns.getD p 0:=by
 have h1:=bb1 h hp
 have h0:=af9 (az9 h) hp
 have hl:=aN2 (Z6 ns) (p:=(p:Int)) (by omega) (by omega)
 unfold chF
 rw[l6]
 omega
theorem bt0 (h:Gr ns)(hp:p<ns.length):Gr (R8 ns p (chF ns p)):=br1 h hp (Z6 ns) (aE1 ns)
noncomputable def bp5:Nat->List Int->List Int->List (List Int)
 | 0,_,_=>[]
 | m+1,left,ps=>star (ps.getD 0 0) ((chF left 0).map fun z=>ps.getD z.toNat 0)++bp5 m (R8 left 0 (chF left 0)) (ps.drop 1)
theorem ag0.go {ps left:List Int}(h:ag0 ns ps left ks)(hg:Gr left)(h0:0<left.length) :
  ag0 ns (ps.drop 1) (R8 left 0 (chF left 0)) (ks++star (ps.getD 0 0) ((chF left 0).map fun z=>ps.getD z.toNat 0)):=by
 have hl:=h.len
 refine h.step (aW3 (by omega)) (P0 1 ps) (by rw[x6]) (fun i hi=>?_) (bs9 left 0) (fun z hz=>?_) (aJ5 hg h0)
 ·rw[J8]
  congr 1
  unfold sk
  rw[if_neg (by omega)]
  omega
 ·have:=aW8 hz
  omega
def J6 (n p:Nat):List Int:=((x8 n).filter fun i=>decide (i≠p)).map fun i:Nat=>(i:Int)
theorem ag0.start {es:List Int}(hp:p<ns.length)(ne:es.Nodup)(he:∀ z∈es,0<=z/\z<ns.length/\z≠p)(hn:(es.length:Int)=ns.getD p 0):ag0 ns (J6 ns.length p) (R8 ns p es) (star p es):=by
 have:=(ag0.first ns).step (j:=p) (a:=(p:Int)) (ps':=J6 ns.length p) (es:=es) (aH6 hp) ?_ ?_ ?_ ne (fun z hz=>by rw[S7];exact he z hz) hn
 ·have e:es.map (fun z=>(rng ns.length).getD z.toNat 0)=es:=by
   conv=>rhs;rw[<- List.map_id es]
   refine R7 fun z hz=>?_
   have:=he z hz
   rw[bb3 (aH6 (n:=ns.length) (i:=z.toNat) (by omega))]
   show ((z.toNat:Nat):Int)=z
   omega
  rw[e,L8]at this
  exact this
 ·unfold J6 rng
  rw[<- bv4]
  exact List.Sublist.map _ List.filter_sublist
 ·unfold J6
  rw[X8 hp,a5,a5,G4,S7]
 ·intro i hi
  rw[S7]at hi
  unfold J6
  rw[X8 hp,m9,m9,R6 hi,aH6 (bG9 hi hp)]
  rfl
end Web
namespace Web
def ai9 (ns:List Int)(M r:Nat):Int:=(M:Int)*(r:Int)*((r:Int) - 1)+part (ns.length - r) ((M:Int)*(r:Int)) (up2 ns)
theorem ap8 (ns:List Int)(r:Nat):ai9 ns 1 r=ae5 ns r:=by
 unfold ai9 ae5
 rw[Int.natCast_one,bI5]
theorem aN1 {M r:Nat}(e:zs=(up2 ns).reverse):(M:Int)*(r:Int)*((r:Int) - 1)+((zs.drop r).map (mn ((M:Int)*(r:Int)))).sum - (zs.take r).sum=ai9 ns M r:=by
 unfold ai9 part
 rw[e,bS5,bS6,bT6,am3,am3,am2]
 omega
end Web
namespace Web
def ar1 (ns:List Int)(i:Nat):List Nat:=(x8 i).filter fun j=>decide (ns.getD j 0<0)
def ca6 (ns:List Int):List Int:=(ar1 ns ns.length).map Int.ofNat
theorem bi1 (ns:List Int)(i:Nat):ar1 ns (i+1)=ar1 ns i++(if ns.getD i 0<0 then [i] else []):=by
 unfold ar1
 rw[M0,J9]
 congr 1
 by_cases h:ns.getD i 0<0
 ·rw[if_pos h,ai6 (by simpa using h),ao5]
 ·rw[if_neg h,ai7 (by simpa using h),ao5]
theorem bt3 (ns:List Int)(i:Nat):(ar1 ns i).length<=i:=by
 unfold ar1
 exact p9 (K1 ..) (by rw[G4];exact c6 _)
theorem an8 {x:Int}(h:ns[j]?=some x):ns.getD j 0=x:=by rw[m6,h];rfl
theorem bD9 (h:ar1 ns ns.length=[]):∀ (j:Nat) (x:Int),ns[j]?=some x->0<=x:=fun j x e=>by
 have hj:j<ns.length:=by
  rcases C0 j ns.length with l | l
  ·exact l
  ·rw[o9 l]at e;cases e
 have:=al7.mp h j (y9.mpr hj)
 rw[an8 e]at this
 have h2:¬ x<0:=fun q=>this (decide_eq_true q)
 omega
theorem bt2 {t:List Nat}(h:ar1 ns ns.length=p::t):(∃ x,ns[p]?=some x/\x<0)/\∀ (j:Nat) (x:Int),j<p->ns[j]?=some x->0<=x:=by
 have hm:p∈ar1 ns ns.length:=by rw[h];exact c5
 have hp:=O5.mp hm
 have hl:=y9.mp hp.1
 have h0:=of_decide_eq_true hp.2
 refine⟨⟨_,g9 hl,by rw[an8 (g9 hl)]at h0;exact h0⟩,fun j x hj e=>?_⟩
 rcases Int.lt_or_le x 0 with q | q
 ·have hjm:j∈ar1 ns ns.length:=O5.mpr ⟨y9.mpr (by omega),by rw[an8 e];exact decide_eq_true q⟩
  have hs:(ar1 ns ns.length).Pairwise (·<·):=List.Pairwise.filter _ bi9
  rw[h]at hs hjm
  rcases d3.mp hjm with r | r
  ·omega
  ·have:=(D3.mp hs).1 j r
   omega
 ·exact q
def bI0 (ns:List Int)(M:Nat):Wl->Prop
 | .below p=>(∃ x,ns[p]?=some x/\x<0)/\∀ (j:Nat) (x:Int),j<p->ns[j]?=some x->0<=x
 | .odd=>AllP ns/\ns.sum % 2=1
 | .wall r=>AllP ns/\¬ ns.sum % 2=1/\1<=r/\r<=ns.length/\ai9 ns M r<0/\∀ k,1<=k->k<r->0<=ai9 ns M k
 | .free=>AllP ns/\¬ ns.sum % 2=1/\∀ k,1<=k->k<=ns.length->0<=ai9 ns M k
theorem bw6 {x:Wl}(h:bI0 ns 1 x):aB0 ns x:=by
 cases x with
 | below p=>exact h
 | odd=>exact h
 | wall r=>exact⟨h.1,h.2.1,h.2.2.1,h.2.2.2.1,by rw[<- ap8];exact h.2.2.2.2.1,fun k k1 k2=>by rw[<- ap8];exact h.2.2.2.2.2 k k1 k2⟩
 | free=>exact⟨h.1,h.2.1,fun k k1 k2=>by rw[<- ap8];exact h.2.2 k k1 k2⟩
end Web
namespace L2
open PySem PySem.Spec PyProof.Rows
theorem bX5 {it:Expr}{w1 w2:TI}(h1:PI X tg it w1)(h2:PI X tg it w2):PI X tg it (fun σ H R=>w1 σ H R\/w2 σ H R):=
 fun pins s σ H R I h=>h.elim (h1 pins s σ H R I) (h2 pins s σ H R I)
theorem bh6 (hc:X.calm=true):R1 X (.builtin "sum") (fun xs H Q=>∃ (p:Addr) (ns:List Int),xs=[.ref p]/\(SqL X.K H p (ns.map V.int)\/SqT X.K H p (ns.map V.int))/\Q (.int ns.sum) H) :=
 fun pins s σ H xs us Q I r ⟨p,ns,e,hq,q⟩=>hq.elim (fun h=>Z7 hc pins s σ H xs us Q I r ⟨p,ns,e,h,q⟩) fun h=>bh5 hc pins s σ H xs us Q I r ⟨p,ns,e,h,q⟩
theorem aA3 {D:Addr}{J:It}{S:Hp->Prop}{g:TG}{tt:TT}{σ0:St}{H0:Hp}
  (hst:∀ i H,S H->ys.length=i->J.stop i H)(hgo:∀ i H,S H->i<ys.length->J.go i H)(hy:∀ i H x H'',S H->J.yld i H x H''->∃ (t:Addr) (v:V),H t=none/\x=.ref t/\ys[i]?=some v/\H''=upd H t (.tup [.int i,v]))
  (Pv:Nat->List V->St->Hp->Prop)(h0:Pv 0 [] σ0 H0)(hz:ys.length<=f6)(hl:∀ i xs σ H,i<=ys.length->Pv i xs σ H->S H/\H D=some (.lst xs)/\xs.length<=i)
  (hs:∀ i xs x t σ H (N:List V->St->Hp->Prop),(∀ xs' σ' H',Pv (i+1) xs' σ' H'->N xs' σ' H')->ys[i]?=some x->Pv i xs σ H->H t=none->g (.ref t) σ (upd H t (.tup [.int i,x])) fun σ2 H2=>tt σ2 H2 fun b H3=>if b=true then te σ2 H3 fun v H4=>H4 D=some (.lst xs)/\N (xs++[v]) σ2 (upd H4 D (.lst (xs++[v]))) else N xs σ2 H3)
  (hd:∀ xs σ H,Pv ys.length xs σ H->Qd H) :
  ∃ W:Nat->Nat->List V->St->Hp->Prop,(∃ m,W 0 m [] σ0 H0)/\∀ i m xs σ' H',W i m xs σ' H'->H' D=some (.lst xs)/\((J.stop i H'/\Qd H')\/(J.go i H'/\xs.length<f6/\∀ x H'',J.yld i H' x H''->g x σ' H'' fun σ2 H2=>tt σ2 H2 fun b H3 =>
   if b=true then te σ2 H3 fun v H4=>H4 D=some (.lst xs)/\∃ m',m'<m/\W (i+1) m' (xs++[v]) σ2 (upd H4 D (.lst (xs++[v]))) else ∃ m',m'<m/\W (i+1) m' xs σ2 H3)):=by
 refine⟨fun i m xs σ H=>m=ys.length - i/\i<=ys.length/\Pv i xs σ H,⟨ys.length,by simp,o6 _,h0⟩,?_⟩
 rintro i m xs σ H ⟨rfl,hi,p⟩
 obtain⟨q,hD,hx⟩:=hl i xs σ H hi p
 refine⟨hD,?_⟩
 by_cases hlt:i<ys.length
 ·refine .inr ⟨hgo i H q hlt,by omega,fun x H'' y=>?_⟩
  obtain⟨t,v,ht,e,hv,e'⟩:=hy i H x H'' q y
  subst e e'
  exact hs i xs v t σ _ (fun zs σ' H'=>∃ m',m'<ys.length - i/\m'=ys.length - (i+1)/\i+1<=ys.length/\Pv (i+1) zs σ' H') (fun zs σ' H' r=>⟨_,by omega,rfl,hlt,r⟩) hv p ht
 ·have e:i=ys.length:=by omega
  subst e
  exact .inl ⟨hst _ H q rfl,hd xs σ H p⟩
theorem bP6 {K:W.Frag}(i:Nat)(H:Hp)(q:SqL K H a ys)(h:ys.length=i):(Itn K a).stop i H:=⟨ys,q,ao9 h⟩
theorem bP7 {K:W.Frag}(i:Nat)(H:Hp)(q:SqL K H a ys)(h:i<ys.length):(Itn K a).go i H:=⟨ys,ys[i],q,by simp[h]⟩
theorem bZ4 {K:W.Frag}(i:Nat)(H:Hp)(x:V)(H'':Hp)(q:SqL K H a ys)(y:(Itn K a).yld i H x H''):∃ (t:Addr) (v:V),H t=none/\x=.ref t/\ys[i]?=some v/\H''=upd H t (.tup [.int i,v]):=by
 obtain⟨t,v,ht,e,hv,e'⟩:=y
 exact⟨t,v,ht,e,hv ys q,e'⟩
theorem bP8 {K:W.Frag}(i:Nat)(H:Hp)(q:SqT K H a ys)(h:ys.length=i):(Itm K a).stop i H:=⟨ys,q,h⟩
theorem bP9 {K:W.Frag}(i:Nat)(H:Hp)(q:SqT K H a ys)(h:i<ys.length):(Itm K a).go i H:=⟨ys,ys[i],q,by simp[h]⟩
theorem bZ5 {K:W.Frag}(i:Nat)(H:Hp)(x:V)(H'':Hp)(q:SqT K H a ys)(y:(Itm K a).yld i H x H''):∃ (t:Addr) (v:V),H t=none/\x=.ref t/\ys[i]?=some v/\H''=upd H t (.tup [.int i,v]):=by
 obtain⟨t,v,ht,e,hv,e'⟩:=y
 exact⟨t,v,ht,e,hv ys q,e'⟩
theorem aW6 {K:W.Frag} {g:TG} {tt:TT} {Qd:Addr->Hp->Prop} {σ0:St} (hS:SqL K H a ys\/SqT K H a ys) (hz:ys.length<=f6)
  (Pv:Addr->Nat->List V->St->Hp->Prop) (h0:∀ D,H D=none->Pv D 0 [] σ0 (upd H D (.lst []))) (hl:∀ D i xs σ H',H D=none->i<=ys.length->Pv D i xs σ H'->o8 H H'/\H' D=some (.lst xs)/\xs.length<=i)
  (hs:∀ D i xs x t σ H' (N:List V->St->Hp->Prop),H D=none->(∀ xs' σ' H'',Pv D (i+1) xs' σ' H''->N xs' σ' H'')->ys[i]?=some x->Pv D i xs σ H'->H' t=none->g (.ref t) σ (upd H' t (.tup [.int i,x])) fun σ2 H2=>tt σ2 H2 fun b H3=>if b=true then te σ2 H3 fun v H4=>H4 D=some (.lst xs)/\N (xs++[v]) σ2 (upd H4 D (.lst (xs++[v]))) else N xs σ2 H3)
  (hd:∀ D xs σ H',H D=none->Pv D ys.length xs σ H'->Qd D H') :
  (∃ b, [V.ref a] = [V.ref b] /\ (∃ xs, SqL K H b xs) /\ ∀ D, H D = none -> ∃ W : Nat -> Nat -> List V -> St -> Hp -> Prop, (∃ m, W 0 m [] σ0 (upd H D (.lst []))) /\ ∀ i m xs σ' H', W i m xs σ' H' -> H' D = some (.lst xs) /\ (((Itn K b).stop i H' /\ Qd D H') \/ ((Itn K b).go i H' /\ xs.length < f6 /\ ∀ x H'', (Itn K b).yld i H' x H'' -> g x σ' H'' fun σ2 H2 => tt σ2 H2 fun b H3 =>
   if b=true then te σ2 H3 fun v H4=>H4 D=some (.lst xs)/\∃ m',m'<m/\W (i+1) m' (xs++[v]) σ2 (upd H4 D (.lst (xs++[v]))) else ∃ m',m'<m/\W (i+1) m' xs σ2 H3))) \/
  (∃ b, [V.ref a] = [V.ref b] /\ (∃ xs, SqT K H b xs) /\ ∀ D, H D = none -> ∃ W : Nat -> Nat -> List V -> St -> Hp -> Prop, (∃ m, W 0 m [] σ0 (upd H D (.lst []))) /\ ∀ i m xs σ' H', W i m xs σ' H' -> H' D = some (.lst xs) /\ (((Itm K b).stop i H' /\ Qd D H') \/ ((Itm K b).go i H' /\ xs.length < f6 /\ ∀ x H'', (Itm K b).yld i H' x H'' -> g x σ' H'' fun σ2 H2 => tt σ2 H2 fun b H3 =>
   if b=true then te σ2 H3 fun v H4=>H4 D=some (.lst xs)/\∃ m',m'<m/\W (i+1) m' (xs++[v]) σ2 (upd H4 D (.lst (xs++[v]))) else ∃ m',m'<m/\W (i+1) m' xs σ2 H3))):=by
 rcases hS with hS | hS
 ·exact .inl ⟨a,rfl,⟨_,hS⟩,fun D hD=>aA3 (S:=fun H'=>SqL K H' a ys) bP6 bP7 bZ4 (Pv D) (h0 D hD) hz (fun i xs σ H' hi p=>let ⟨s,g,l⟩:=hl D i xs σ H' hD hi p;⟨s.seq hS,g,l⟩) (fun i xs x t σ H' N kN hx p ht=>hs D i xs x t σ H' N hD kN hx p ht) (fun xs σ H' p=>hd D xs σ H' hD p)⟩
 ·exact .inr ⟨a,rfl,⟨_,hS⟩,fun D hD=>aA3 (S:=fun H'=>SqT K H' a ys) bP8 bP9 bZ5 (Pv D) (h0 D hD) hz (fun i xs σ H' hi p=>let ⟨s,g,l⟩:=hl D i xs σ H' hD hi p;⟨s.seqT hS,g,l⟩) (fun i xs x t σ H' N kN hx p ht=>hs D i xs x t σ H' N hD kN hx p ht) (fun xs σ H' p=>hd D xs σ H' hD p)⟩
theorem aZ7 (K:W.Frag)(hK:X.K=K){es:List Expr}{k:Nat}{t:TGs}(hc:X.calm=true)(h:PGs X es t)
  (hn:(ac1 es X.env).length=n:=by rfl)(hst:(ac1 es X.env).findIdx? (·.1)=none:=by rfl):PG X (.Tuple es k pos) (ca2 K n t):=by
 subst hK
 exact bn4 hc h hn hst
theorem al3 {lo:Int}{D:Addr}{g:TG}{tt:TT}{σ0:St}{H0:Hp}(Pv:Nat->List V->St->Hp->Prop)(h0:Pv 0 [] σ0 H0)(hz:n<=f6)(hl:∀ i xs σ H,i<=n->Pv i xs σ H->H D=some (.lst xs)/\xs.length<=i)
  (hs:∀ i xs σ H (N:List V->St->Hp->Prop),(∀ xs' σ' H',Pv (i+1) xs' σ' H'->N xs' σ' H')->i<n->Pv i xs σ H->g (.int (lo+i)) σ H fun σ2 H2=>tt σ2 H2 fun b H3=>if b=true then te σ2 H3 fun v H4=>H4 D=some (.lst xs)/\N (xs++[v]) σ2 (upd H4 D (.lst (xs++[v]))) else N xs σ2 H3)
  (hd:∀ xs σ H,Pv n xs σ H->Qd H) :
  ∃ W:Nat->Nat->List V->St->Hp->Prop,(∃ m,W 0 m [] σ0 H0)/\∀ i m xs σ' H',W i m xs σ' H'->H' D=some (.lst xs)/\(((Itr lo n).stop i H'/\Qd H')\/((Itr lo n).go i H'/\xs.length<f6/\∀ x H'',(Itr lo n).yld i H' x H''->g x σ' H'' fun σ2 H2=>tt σ2 H2 fun b H3 =>
   if b=true then te σ2 H3 fun v H4=>H4 D=some (.lst xs)/\∃ m',m'<m/\W (i+1) m' (xs++[v]) σ2 (upd H4 D (.lst (xs++[v]))) else ∃ m',m'<m/\W (i+1) m' xs σ2 H3)):=by
 refine⟨fun i m xs σ H=>m=n - i/\i<=n/\Pv i xs σ H,⟨n,by simp,o6 _,h0⟩,?_⟩
 rintro i m xs σ H ⟨rfl,hi,p⟩
 obtain⟨hD,hx⟩:=hl i xs σ H hi p
 refine⟨hD,?_⟩
 by_cases hlt:i<n
 ·refine .inr ⟨hlt,by omega,fun x H'' y=>?_⟩
  obtain⟨e,y⟩:=y
  subst e y
  exact hs i xs σ _ (fun zs σ' H'=>∃ m',m'<n - i/\m'=n - (i+1)/\i+1<=n/\Pv (i+1) zs σ' H') (fun zs σ' H' r=>⟨_,by omega,rfl,hlt,r⟩) hlt p
 ·obtain rfl:i=n:=by omega
  exact .inl ⟨c6 _,hd xs σ H p⟩
end L2
namespace L2
open PySem PySem.Spec PyProof.Rows PySem.SeqAt
theorem aY2:∀ {bs:List Bool} {its:List Value},A8 (bs.map V.bl) its->its=bs.map Value.bool
 | [],_,.nil=>rfl
 | b::bs,_,.cons r t=>by rw[aY2 t,show _=Value.bool b from r];rfl
theorem aI0 {a b:Expr}{tb:TE}(K:W.Frag)(hK:X.K=K)(ha:PE X a ta)(hb:PE X b tb)(hs:aw2 b):PE X (.Subscript a b pos) (tOp (bM8 K) ta tb):=by
 cases hK
 exact C6 M6 ha hb hs
theorem X2 {a b:Expr}{tb:TE}(K:W.Frag)(hK:X.K=K)(ha:PE X a ta)(hb:PE X b tb)(hs:aw2 b):PE X (.Subscript a b pos) (tOp (rIx K) ta tb):=by
 cases hK
 exact C6 bq3 ha hb hs
end L2
namespace L2
open PySem PySem.Spec PyProof.Rows
def bX3:R2:=fun x y H Q=>∃ l b xs zs,x=.ref l/\y=.ref b/\H l=some (.lst xs)/\H b=some (.lst zs)/\xs.length+zs.length<=1000/\Q (.ref l) (upd H l (.lst (xs++zs)))
theorem aW1:fillsInplaceSlot (.type "list") "add" true=pure false:=by
 unfold fillsInplaceSlot
 show (typeLookup (.type "list") (dunderI "add") >>= fun fi=>pure (fi.isSome && !isSeqSlot fi))=pure false
 rw[F.slot_list_iadd.lookup]
 rw[pure_bind]
 congr 1
theorem bg6:seqSlot? (.type "list") (dunderI "add")=pure (some (.builtin "list.__iadd__")):=by
 unfold seqSlot?
 rw[F.slot_list_iadd.lookup]
 rfl
theorem bQ0:PIp X .Add bX3:=by
 intro pins s σ H x y v u Q I rx ry h
 obtain⟨l,b,xs,zs,rfl,rfl,hH,hB,hz,q⟩:=h
 cases rx
 cases ry
 obtain⟨z,its,n,r,hl,e⟩:=I.lstM hH
 obtain⟨z2,its2,n2,r2,hl2,e2⟩:=I.lstM hB
 have hln:=r.length
 have hln2:=r2.length
 unfold inplaceOp
 refine D9 ?_
 refine a7 (wpAny_typeOf (T:="list") ⟨_,e,rfl⟩ (a7 (bU6 aW1 ?_)))
 show r6 _ _ (if false=true then _ else _) _ _ s
 rw[if_neg d4]
 refine a7 (wpAny_binaryOp1_none (a:=.ref l) (b:=.ref b) (s:=s) (nm:="add") (T:="list") ⟨_,e,rfl⟩ ⟨_,e2,rfl⟩ noFill_list_add ?_)
 refine a7 (bU6 bg6 ?_)
 refine a7 (bu6 ?_)
 have hd:¬(!its.toArray.isEmpty && Builtin.List.listTooLong (its.toArray.size+its2.toArray.size))=true:=extend_door (by rw[d9,d9,r9];omega)
 refine ac2 F.slot_list_iadd ⟨_,e,rfl⟩ F.entry_list_iadd (F.args_list_iadd_2 _ _) (PySem.AutoSeq1.list___iadd___list_list_0 l its.toArray n b its2.toArray n2 hd (by rw[d9,r9];omega) (by rw[d9,d9,r9];omega)) ⟨e,e2,?_⟩
 refine⟨.ref l,_,I.lset (its':=its++its2) hH e ?_ (r.append r2) ?_,rfl,q⟩
 ·show its.toArray++its2.toArray=_
  simp
 ·rw[i9,r9];omega
end L2
namespace Web
open PySem L2
def top (i:Nat):Stmt:=PySem.Challenge.pw_tallyweb_k62_web_answers.main.body.getD i (.Pass ⟨0,0,0,0⟩)
abbrev ax3:Stmt:=top 11
abbrev sUp:Stmt:=top 13
abbrev am5:Stmt:=top 14
abbrev ap6:Stmt:=top 18
abbrev ax1:Stmt:=top 19
abbrev ai8:Stmt:=top 22
abbrev Y3:Stmt:=top 23
abbrev Y2:Stmt:=top 26
abbrev aa8:Stmt:=top 27
abbrev as1:Stmt:=top 28
abbrev aa9:Stmt:=top 31
abbrev am6:Stmt:=top 32
abbrev as5:Stmt:=top 33
abbrev aM8:Stmt:=top 34
abbrev aC7:Stmt:=top 76
abbrev as3:Stmt:=top 77
abbrev aM3:Stmt:=top 79
abbrev aM6:Stmt:=top 61
abbrev sNW:Stmt:=top 62
abbrev as0:Stmt:=top 63
abbrev as4:Stmt:=top 64
abbrev ae4:Stmt:=top 69
abbrev as2:Stmt:=top 70
abbrev ae2:Stmt:=top 72
abbrev ab1:Stmt:=top 73
abbrev ax4:Stmt:=top 75
abbrev U5:Stmt:=top 78
abbrev aM7:Stmt:=top 80
abbrev aM4:Stmt:=top 81
abbrev ae1:Stmt:=top 82
abbrev am7:Stmt:=top 83
abbrev ae3:Stmt:=top 84
abbrev ak7:Stmt:=top 85
abbrev ax2:Stmt:=top 86
abbrev ab0:Stmt:=top 87
abbrev ax5:Stmt:=top 88
abbrev aH5:Stmt:=top 89
structure Bn (mg:Str->Option Value):Prop where
 len:mg "len"=none
 range:mg "range"=none
 enum:mg "enumerate"=none
 list:mg "list"=none
 tuple:mg "tuple"=none
 sorted:mg "sorted"=none
 set:mg "set"=none
 isin:mg "isinstance"=none
 int:mg "int"=none
 bool:mg "bool"=none
 min:mg "min"=none
 max:mg "max"=none
 sum:mg "sum"=none
 str:mg "str"=none
 ve:mg "ValueError"=none
 rev:mg "reversed"=none
 all:mg "all"=none
theorem M5:5000<=f6:=by decide
theorem d6 {o:HO}(h:H l=none):o8 H (upd H l o):=fun b u e=>by
 rw[t8 (u5 e h)]
 exact e
section
variable {K:W.Frag} {mg:Str->Option Value} {base:Heap}
def bG4:Sp:=fun vs H Q _=>∃ a b:Int,vs=[.int a,.int b]/\Q (.bl (decide (0<=b) && decide (b<a))) H
theorem bW6:t9 ["places","number"] ["places","number"] (i6 ax3):=.mk'
theorem bO3 (F:Fun K "is_place" "is_place" ax3 f fd):x5 P w K mg base CX0 1 f fd ["places","number"] bG4:=by
 refine F.ok bW6 (fun cdv A outer s H vs Q E hr h=>?_)
 obtain⟨a,b,rfl,k⟩:=h
 refine⟨_,j7 (u4 (bn7 af3 af2 c9 (pv 1) (pv 0))),?_⟩
 refine⟨_,rfl,_,_,rfl,rfl,_,rfl,?_⟩
 cases e:decide ((0:Int)<=b) with
 | true =>
  refine F8 ⟨_,rfl,_,_,rfl,rfl,?_⟩
  rw[e,P3]at k
  exact k
 | false =>
  refine F0 ?_
  rw[e,B9]at k
  exact k
def bV7 (K:W.Frag):Sp:=fun vs H Q _=>∃ (n:Nat) (a:Addr) (k:List Int),vs=[.int n,.ref a]/\SqT K H a (k.map V.int)/\aj2 n k /\
 ∀ p,H p=none->Q (.ref p) (upd H p (.tup ((up k).map V.int)))
theorem cc6:t9 ["places","tie"] ["places","tie"] (i6 sUp):=.mk'
theorem bY4 {fI:Addr} (F:Fun K "turned_up" "turned_up" sUp f fd) (B:Bn mg) (FI:Fun K "is_place" "is_place" ax3 fI fdI) (bI:Binds K fdI ["places","number"] []) (mI:mg "is_place"=some (.ref fI)) :
  x5 P w K mg base CX0 2 f fd ["places","tie"] (bV7 K):=by
 have GI:x5 P w K mg base CX0 1 fI fdI ["places","number"] bG4:=bO3 FI
 refine F.ok cc6 (fun cdv A outer s H vs Q E hr h=>?_)
 obtain⟨n,a,k,rfl,hS,⟨i,j,h1,h2,h3,rfl⟩,q⟩:=h
 refine⟨_,d7 (E5 (PW.pt (as6 (T6 (aq0 (u9 GI hr rfl mI FI.kp bI .nil F2 (a6 (pv 0) (a6 (C6 M6 (pv 1) c9 (fun _ _=>rfl)) c7)))))
    (ae6 (T6 (aq0 (u9 GI hr rfl mI FI.kp bI .nil F2 (a6 (pv 0) (a6 (C6 M6 (pv 1) c9 (fun _ _=>rfl)) c7)))))))) M4 A6)
  (d7 (E5 (p6 V7 (C6 M6 (pv 1) c9 (fun _ _=>rfl)) (C6 M6 (pv 1) c9 (fun _ _=>rfl)) (A1 _)) M4 A6)
  (j7 (u4 (O9 (a6 (p7 (ar0 rfl) (by rfl) B.min (by rfl) (a6 (C6 M6 (pv 1) c9 (fun _ _ => rfl)) (a6 (C6 M6 (pv 1) c9 (fun _ _ => rfl)) c7)))
   (a6 (p7 (bh8 rfl) (by rfl) B.max (by rfl) (a6 (C6 M6 (pv 1) c9 (fun _ _=>rfl)) (a6 (C6 M6 (pv 1) c9 (fun _ _=>rfl)) c7))) c7)))))),?_⟩
 have a0:atI (([(i:Int),(j:Int)]:List Int).map V.int) 0=some (.int i):=t7 (j:=0) rfl
 have a1:atI (([(i:Int),(j:Int)]:List Int).map V.int) 1=some (.int j):=t7 (j:=1) rfl
 refine⟨_,rfl,_,rfl,a,_,_,_,rfl,rfl,hS,a0,_,_,rfl,?_⟩
 rw[decide_eq_true (show (0:Int)<=i by omega),decide_eq_true (show (i:Int)<n by omega)]
 refine⟨_,rfl,F0 ?_⟩
 refine⟨_,rfl,_,rfl,a,_,_,_,rfl,rfl,hS,a1,_,_,rfl,?_⟩
 rw[decide_eq_true (show (0:Int)<=j by omega),decide_eq_true (show (j:Int)<n by omega)]
 refine⟨_,rfl,F0 ?_⟩
 refine⟨_,rfl,a,_,_,_,rfl,rfl,hS,a0,_,rfl,a,_,_,_,rfl,rfl,hS,a1,rfl,_,rfl,?_⟩
 rw[decide_eq_false (show ¬ V.int (i:Int)=V.int (j:Int) by intro z;injection z;omega)]
 refine F0 ?_
 refine⟨_,rfl,a,_,_,_,rfl,rfl,hS,a0,_,rfl,a,_,_,_,rfl,rfl,hS,a1,_,_,rfl,?_⟩
 refine⟨_,rfl,a,_,_,_,rfl,rfl,hS,a0,_,rfl,a,_,_,_,rfl,rfl,hS,a1,_,_,rfl,(by show 2<=f6;decide),fun p hp=>?_⟩
 exact q p hp
def af6 (ns:List Int):Prop:=1<=ns.length/\ns.length<=24
def Sq (K:W.Frag)(H:Hp)(a:Addr)(ns:List Int):Prop:=SqL K H a (ns.map V.int)\/SqT K H a (ns.map V.int)
theorem Sq.same (h:Sq K H a ns)(s:o8 H H'):Sq K H' a ns:=h.elim (fun h=>.inl (s.seq h)) fun h=>.inr (s.seqT h)
def bl6 (K:W.Frag)(CB:Addr):Sp:=fun vs H Q E=>∃ (a:Addr) (ns:List Int),vs=[.ref a]/\Sq K H a ns/\(af6 ns->Q .non H)/\(¬ af6 ns->E (.ref CB) none H)
theorem bW8:t9 ["tally"] ["tally"] (i6 ap6):=.mk'
theorem bo4 {CB:Addr}{tk:Tok}(F:Fun K "check_tally" "check_tally" ap6 f fd)(B:Bn mg)(mM:mg "MOST_PLACES"=some (.int 24 tk))(mB:mg "BadTally"=some (.ref CB))(cB:ar4 K CB):x5 P w K mg base (CXE P w) 1 f fd ["tally"] (bl6 K CB):=by
 refine F.okX bW8 (fun cdv A outer s H vs Q E hr h=>?_)
 obtain⟨a,ns,rfl,hS,h1,h2⟩:=h
 refine⟨_,j7 (E5 (T6 (ae7 af3 af3 c9 (p7 v9 (by rfl) B.len PySem.boot_len (a6 (pv 0) c7)) (ab2 (v:=.int 24) (by rfl) mM ⟨tk,rfl⟩))) (j7 (ax9 (by rfl) mB cB)) A6),?_⟩
 refine⟨_,rfl,a,_,rfl,hS,_,_,rfl,rfl,_,rfl,?_⟩
 rw[a5]
 by_cases hp:(1:Int)<=(ns.length:Int)
 ·rw[decide_eq_true hp]
  refine F8 ⟨_,_,rfl,rfl,_,rfl,?_⟩
  by_cases hp':(ns.length:Int)<=24
  ·rw[decide_eq_true hp']
   exact F0 (h1 ⟨by omega,by omega⟩)
  ·rw[decide_eq_false hp']
   exact F8 (h2 fun z=>hp' (by have:=z.2;omega))
 ·rw[decide_eq_false hp]
  exact F0 ⟨_,rfl,F8 (h2 fun z=>hp (by have:=z.1;omega))⟩
end
section
variable {K:W.Frag} {mg:Str->Option Value} {base:Heap}
def bl1 (K:W.Frag):Sp:=fun vs H Q _=>∃ (n:Nat) (a:Addr) (ys:List V) (hs:List (List Int)),vs=[.int n,.ref a]/\1<=n/\n<=24/\(SqL K H a ys\/SqT K H a ys)/\B3 K H ys hs/\(∀ k∈hs,aj2 n k)/\(hs.map up).Nodup/\hs.length<300 /\
 ∀ p t zs ks H',o8 H H'->H p=none->H t=none->H' p=some (.tup [.int n,.ref t])->H' t=some (.tup zs)->B3 K H' zs ks->ks.Perm (hs.map up)->ks.Pairwise (fun a b=>Tim.J3 b a=false)->Q (.ref p) H'
theorem aU4:t9 ["places","ties","ascending"] ["places","ties"] (i6 am5):=.mk'
theorem bA6 {fI fU:Addr} {fdU:FuncData} {tk:Tok} (F:Fun K "made" "made" am5 f fd) (B:Bn mg) (FI:Fun K "is_place" "is_place" ax3 fI fdI) (bI:Binds K fdI ["places","number"] []) (mI:mg "is_place"=some (.ref fI))
  (FU:Fun K "turned_up" "turned_up" sUp fU fdU) (bU:Binds K fdU ["places","tie"] []) (mU:mg "turned_up"=some (.ref fU)) (mM:mg "MOST_PLACES"=some (.int 24 tk)) :
  x5 P w K mg base CX0 3 f fd ["places","ties"] (bl1 K):=by
 have GU:x5 P w K mg base CX0 2 fU fdU ["places","tie"] (bV7 K):=bY4 FU B FI bI mI
 refine F.ok aU4 (fun cdv A outer s H vs Q E hr h=>?_)
 obtain⟨n,a,ys,hs,rfl,n1,n2,hS,hT,hE,hN,hL,q⟩:=h
 have hu8:=aB8 (S0 (by decide:8<=64) _) hr.units
 have hyl:=hT.len
 have nd2:(["tie","places"]:List Str).Nodup:=by decide +kernel
 have step:∀ (D:Addr),H D=none->∀ (i:Nat) (xs:List V) (H':Hp) (x:V) (N:List V->Hp->Prop),o8 H H'->H' D=some (.lst xs)->B3 K H' xs ((hs.take i).map up)->ys[i]?=some x ->
   (∀ xs' H'',o8 H H''->H'' D=some (.lst xs')->B3 K H'' xs' ((hs.take (i+1)).map up)->N xs' H'') ->
   ∃ (m:Nat) (b:Addr) (k:List Int),[V.int n,x]=[.int m,.ref b]/\SqT K H' b (k.map V.int)/\aj2 m k/\∀ p,H' p=none->(upd H' p (.tup ((up k).map V.int))) D=some (.lst xs)/\N (xs++[.ref p]) (upd (upd H' p (.tup ((up k).map V.int))) D (.lst (xs++[.ref p]))):=by
  intro D hD i xs H' x N s1 hd ht hx k
  obtain⟨b,kk,rfl,hk,hq⟩:=hT.get hx
  refine⟨n,b,kk,rfl,s1.seqT hq,hE kk (b8 hk),fun p hp=>?_⟩
  have npd:D≠p:=u5 hd hp
  have hd':(upd H' p (.tup ((up kk).map V.int))) D=some (.lst xs):=by rw[t8 npd];exact hd
  refine⟨hd',k _ _ ((s1.trans (d6 hp)).upd hD) a9 ?_⟩
  have e:(hs.take (i+1)).map up=(hs.take i).map up++[up kk]:=by
   rw[o5,hk,c8]
   rfl
  rw[e]
  refine B3.updL hd' (B3.append (o8.tups (d6 hp) ht) (B3.one (SqT.of a9)))
 rcases hS with hS | hS
 ·refine⟨_,d7 (E5 (T6 (ae7 af3 af3 c9 (pv 0) (ab2 (v:=.int 24) rfl mM ⟨_,rfl⟩))) M4 A6)
   (d7 (u7 (i := 2) aU4.nd rfl (Or.inl rfl) (p7 at3 (by rfl) B.sorted (by rfl) (a6
    (K8 (N' := ["tie", "places"]) (lk := [none, some 0]) rfl (O8 (pv 1)) (by rfl) rfl (by decide +kernel) (by exact ⟨rfl, trivial⟩) (by rfl) (by exact LkL.ok ⟨⟨rfl, Or.inl rfl, rfl, Or.inl rfl⟩, trivial⟩)
     (fun _ _ _=>A2 (i:=0) nd2 rfl (Or.inl rfl)) (fun _ _ _=>M8) (fun _ _ _=>u9 GU hr (by rfl) mU FU.kp bU .nil F2 (a6 (pv 1) (a6 (pv 0) c7)))) c7)))
   (d7 (E5 (p6 af2 (p7 call_len_set (by rfl) B.len PySem.boot_len (a6 (G5 (aR4 rfl hu8) (by rfl) B.set (by rfl) (a6 (pv 2) c7)) c7)) (p7 v9 (by rfl) B.len PySem.boot_len (a6 (pv 2) c7)) (A1 _)) M4 A6)
   (j7 (u4 (O9 (a6 (pv 0) (a6 (G5 S9 (by rfl) B.tuple (by rfl) (a6 (pv 2) c7)) c7))))))),?_⟩
  refine⟨_,rfl,_,_,rfl,rfl,_,rfl,?_⟩
  rw[decide_eq_true (show (1:Int)<=n by omega)]
  refine F8 ⟨_,_,rfl,rfl,_,rfl,?_⟩
  rw[decide_eq_true (show (n:Int)<=24 by omega)]
  refine F0 ?_
  refine⟨_,rfl,a,rfl,⟨_,hS⟩,fun D hD=>J7 (K:=K) (a:=a) (D:=D) (ys:=ys) (fun i xs σ' H'=>∃ v,σ'=[v,some (.int n)]/\o8 H H'/\H' D=some (.lst xs)/\B3 K H' xs ((hs.take i).map up)) ⟨none,rfl,d6 hD,a9,.nil⟩ (by have:=M5;omega)
   (fun i xs σ' H' hi ⟨_,_,s1,h1,h2⟩=>⟨s1.seq hS,h1,by have:=h2.len;simp at this;omega⟩) ?_ ?_⟩
  ·rintro i xs x σ' H' N kN hx ⟨v,rfl,s1,h1,h2⟩
   refine B2 ?_
   refine G7 ?_
   refine⟨_,rfl,_,rfl,?_⟩
   exact step D hD i xs H' x (fun xs' H''=>N xs' _ H'') s1 h1 h2 hx fun xs' H'' a1 a2 a3=>kN _ _ _ ⟨_,rfl,a1,a2,a3⟩
  ·rintro xs σ' H1 ⟨v,rfl,s1,h1,h2⟩
   rw[j5 (by omega)]at h2
   have hup:∀ k∈hs.map up,Up n k:=fun k hk=>by
    obtain⟨k0,h0,rfl⟩:=m5.mp hk
    exact(hE k0 h0).up
   refine⟨D,xs,_,rfl,SqL.of h1,h2,(fun k hk z=>by have:=(hup k hk).len;rw[z]at this;cases this),fun l zs ks hl pk hs1 ht1=>?_⟩
   have hkl:ks.length=hs.length:=by rw[pk.length_eq,a5]
   have hzl:=ht1.len
   have s2:o8 H (upd H1 l (.lst zs)):=s1.trans (d6 hl)
   refine⟨_,rfl,l,zs,ks,rfl,SqL.of a9,ht1,(fun k hk=>(hup k (pk.mem_iff.mp hk)).key n2),by omega,fun S hSn=>?_⟩
   have hlS:l≠S:=u5 a9 hSn
   have s3:=s2.trans (d6 (o:=aX1 P w S (ks.foldl Sett.U8 []).length) hSn)
   have l3:(upd (upd H1 l (.lst zs)) S (aX1 P w S (ks.foldl Sett.U8 []).length)) l=some (.lst zs):=by rw[t8 hlS,a9]
   refine⟨S,_,rfl,a9,_,rfl,l,zs,rfl,.inl (SqL.of l3),_,_,rfl,rfl,_,rfl,?_⟩
   have hfold:(ks.foldl Sett.U8 []).length=zs.length:=by
    have:=(Sett.aq6 ks []).mpr ⟨(pk.nodup_iff).mpr hN,fun x _=>by simp⟩
    simp at this
    omega
   rw[hfold,decide_eq_false (by omega)]
   refine F0 ?_
   refine⟨_,rfl,_,rfl,l,zs,rfl,.inl ⟨SqL.of (by rw[hfold]at l3;exact l3),fun t ht=>⟨(by show 2<=f6;decide),fun p hp=>?_⟩⟩⟩
   rw[hfold]at s3
   have s4:=(s3.trans (d6 (o:=.tup zs) ht)).trans (d6 (o:=.tup [.int n,.ref t]) hp)
   refine q p t zs ks _ s4 ((s3.trans (d6 ht)).free hp) (s3.free ht) a9 ?_ ?_ pk hs1
   ·rw[t8 (u5 a9 hp),a9]
   ·exact o8.tups (((d6 hSn).trans (d6 ht)).trans (d6 hp)) ht1
 ·refine⟨_,d7 (E5 (T6 (ae7 af3 af3 c9 (pv 0) (ab2 (v:=.int 24) rfl mM ⟨_,rfl⟩))) M4 A6)
   (d7 (u7 (i := 2) aU4.nd rfl (Or.inl rfl) (p7 at3 (by rfl) B.sorted (by rfl) (a6
    (K8 (N' := ["tie", "places"]) (lk := [none, some 0]) rfl (aH8 (pv 1)) (by rfl) rfl (by decide +kernel) (by exact ⟨rfl, trivial⟩) (by rfl) (by exact LkL.ok ⟨⟨rfl, Or.inl rfl, rfl, Or.inl rfl⟩, trivial⟩)
     (fun _ _ _=>A2 (i:=0) nd2 rfl (Or.inl rfl)) (fun _ _ _=>M8) (fun _ _ _=>u9 GU hr (by rfl) mU FU.kp bU .nil F2 (a6 (pv 1) (a6 (pv 0) c7)))) c7)))
   (d7 (E5 (p6 af2 (p7 call_len_set (by rfl) B.len PySem.boot_len (a6 (G5 (aR4 rfl hu8) (by rfl) B.set (by rfl) (a6 (pv 2) c7)) c7)) (p7 v9 (by rfl) B.len PySem.boot_len (a6 (pv 2) c7)) (A1 _)) M4 A6)
   (j7 (u4 (O9 (a6 (pv 0) (a6 (G5 S9 (by rfl) B.tuple (by rfl) (a6 (pv 2) c7)) c7))))))),?_⟩
  refine⟨_,rfl,_,_,rfl,rfl,_,rfl,?_⟩
  rw[decide_eq_true (show (1:Int)<=n by omega)]
  refine F8 ⟨_,_,rfl,rfl,_,rfl,?_⟩
  rw[decide_eq_true (show (n:Int)<=24 by omega)]
  refine F0 ?_
  refine⟨_,rfl,a,rfl,⟨_,hS⟩,fun D hD=>aA2 (K:=K) (a:=a) (D:=D) (ys:=ys) (fun i xs σ' H'=>∃ v,σ'=[v,some (.int n)]/\o8 H H'/\H' D=some (.lst xs)/\B3 K H' xs ((hs.take i).map up)) ⟨none,rfl,d6 hD,a9,.nil⟩ (by have:=M5;omega)
   (fun i xs σ' H' hi ⟨_,_,s1,h1,h2⟩=>⟨s1.seqT hS,h1,by have:=h2.len;simp at this;omega⟩) ?_ ?_⟩
  ·rintro i xs x σ' H' N kN hx ⟨v,rfl,s1,h1,h2⟩
   refine B2 ?_
   refine G7 ?_
   refine⟨_,rfl,_,rfl,?_⟩
   exact step D hD i xs H' x (fun xs' H''=>N xs' _ H'') s1 h1 h2 hx fun xs' H'' a1 a2 a3=>kN _ _ _ ⟨_,rfl,a1,a2,a3⟩
  ·rintro xs σ' H1 ⟨v,rfl,s1,h1,h2⟩
   rw[j5 (by omega)]at h2
   have hup:∀ k∈hs.map up,Up n k:=fun k hk=>by
    obtain⟨k0,h0,rfl⟩:=m5.mp hk
    exact(hE k0 h0).up
   refine⟨D,xs,_,rfl,SqL.of h1,h2,(fun k hk z=>by have:=(hup k hk).len;rw[z]at this;cases this),fun l zs ks hl pk hs1 ht1=>?_⟩
   have hkl:ks.length=hs.length:=by rw[pk.length_eq,a5]
   have hzl:=ht1.len
   have s2:o8 H (upd H1 l (.lst zs)):=s1.trans (d6 hl)
   refine⟨_,rfl,l,zs,ks,rfl,SqL.of a9,ht1,(fun k hk=>(hup k (pk.mem_iff.mp hk)).key n2),by omega,fun S hSn=>?_⟩
   have hlS:l≠S:=u5 a9 hSn
   have s3:=s2.trans (d6 (o:=aX1 P w S (ks.foldl Sett.U8 []).length) hSn)
   have l3:(upd (upd H1 l (.lst zs)) S (aX1 P w S (ks.foldl Sett.U8 []).length)) l=some (.lst zs):=by rw[t8 hlS,a9]
   refine⟨S,_,rfl,a9,_,rfl,l,zs,rfl,.inl (SqL.of l3),_,_,rfl,rfl,_,rfl,?_⟩
   have hfold:(ks.foldl Sett.U8 []).length=zs.length:=by
    have:=(Sett.aq6 ks []).mpr ⟨(pk.nodup_iff).mpr hN,fun x _=>by simp⟩
    simp at this
    omega
   rw[hfold,decide_eq_false (by omega)]
   refine F0 ?_
   refine⟨_,rfl,_,rfl,l,zs,rfl,.inl ⟨SqL.of (by rw[hfold]at l3;exact l3),fun t ht=>⟨(by show 2<=f6;decide),fun p hp=>?_⟩⟩⟩
   rw[hfold]at s3
   have s4:=(s3.trans (d6 (o:=.tup zs) ht)).trans (d6 (o:=.tup [.int n,.ref t]) hp)
   refine q p t zs ks _ s4 ((s3.trans (d6 ht)).free hp) (s3.free ht) a9 ?_ ?_ pk hs1
   ·rw[t8 (u5 a9 hp),a9]
   ·exact o8.tups (((d6 hSn).trans (d6 ht)).trans (d6 hp)) ht1
end
def bZ3 (st:Stmt):Pos:=match (q0 st).getD 1 (.Pass ⟨0,0,0,0⟩) with
 | .Return (some (.Call _ _ [⟨_,.Lambda _ _ _ p,_⟩] _)) _=>p
 | _=>⟨0,0,0,0⟩
def cd6:Str:=(("order_of":Str)++(".<locals>.":Str))++("<lambda>":Str)
abbrev Tb (P:Addr)(H:Hp):Prop:=aj1 P (bZ3 ax1) cd6 H
theorem O4.sqL {K:W.Frag}{P:Addr}{xs:List V}(g:O4 P H H')(t:Tb P H)(h:SqL K H a xs):SqL K H' a xs:=by
 obtain⟨ps,hP,_⟩:=t
 rcases h with(h | ⟨o,h⟩) | h
 ·exact .inl (.inl (g a _ (fun z=>by rw[z,hP]at h;cases h) h))
 ·exact .inl (.inr ⟨o,g a _ (fun z=>by rw[z,hP]at h;cases h) h⟩)
 ·exact .inr h
theorem O4.sqT {K:W.Frag}{P:Addr}{xs:List V}(g:O4 P H H')(t:Tb P H)(h:SqT K H a xs):SqT K H' a xs:=by
 obtain⟨ps,hP,_⟩:=t
 rcases h with(h | ⟨o,h⟩) | h
 ·exact .inl (.inl (g a _ (fun z=>by rw[z,hP]at h;cases h) h))
 ·exact .inl (.inr ⟨o,g a _ (fun z=>by rw[z,hP]at h;cases h) h⟩)
 ·exact .inr h
theorem Sq.grow {K:W.Frag}{P:Addr}(h:Sq K H a ns)(g:O4 P H H')(t:Tb P H):Sq K H' a ns:=h.elim (fun h=>.inl (O4.sqL g t h)) fun h=>.inr (O4.sqT g t h)
theorem aF7.one (h:X.N[j]?=some x/\(X.env.scope.names.lookup x=some .cell\/X.env.scope.names.lookup x=some .free)/\(cl.lookup x).isSome=true/\(scope.names.lookup x=some .cell\/scope.names.lookup x=some .free)) :
  aF7 X [x] [some j] scope cl:=⟨rfl,fun i j' y e1 e2=>by
 cases i with
 | zero =>
  have e1':x=y:=by simpa using e1
  have e2':j=j':=by simpa using e2
  subst e1' e2'
  exact h
 | succ i=>simp at e1⟩
theorem bN3 {a b:Expr}{tb:TE}(K:W.Frag)(hK:X.K=K)(ha:PE X a ta)(hb:PE X b tb)(hs:aw2 b):PE X (.Subscript a b pos) (tOp (rIx K) ta tb):=by
 cases hK
 exact C6 bq3 ha hb hs
section
variable {K:W.Frag} {mg:Str->Option Value} {base:Heap}
def bG2 (K:W.Frag)(CB PT:Addr):Sp:=fun vs H Q E=>∃ (a:Addr) (ns:List Int),vs=[.ref a]/\Sq K H a ns /\
 (af6 ns->Tb PT H/\∀ (zs:List Int) (D:Addr) (H':Hp),O4 PT H H'->Tb PT H'->H' D=some (.lst (zs.map V.int))->zs.Perm (rng ns.length)->zs.Pairwise (ole ns)->Q (.ref D) H')/\(¬ af6 ns->E (.ref CB) none H)
theorem bW5:t9 ["tally"] ["tally"] (i6 ax1):=.mk'
theorem bO0 {CB c PT:Addr} {tk:Tok} (F:Fun K "order_of" "order_of" ax1 f fd) (hc:fd.code=.ref c) (LB:au4 base mg c PT) (B:Bn mg) (FT:Fun K "check_tally" "check_tally" ap6 fT fdT) (bT:Binds K fdT ["tally"] []) (mT:mg "check_tally"=some (.ref fT))
  (mM:mg "MOST_PLACES"=some (.int 24 tk)) (mB:mg "BadTally"=some (.ref CB)) (cB:ar4 K CB):x5 P w K mg base (CXE P w) 2 f fd ["tally"] (bG2 K CB PT):=by
 have GT:x5 P w K mg base (CXE P w) 1 fT fdT ["tally"] (bl6 K CB):=bo4 FT B mM mB cB
 refine F.okXC hc bW5 (fun A outer s H vs Q E hr h=>?_)
 obtain⟨a,ns,rfl,hS,h1,h2⟩:=h
 have hsl:=M5
 refine⟨_,d7 (X1 (u9 GT hr (by rfl) mT FT.kp bT .nil aN8 (a6 (pv 0) c7)))
  (j7 (u4 (bn6 (p := "place") (N' := ["tally"]) (lk := [some 0]) rfl hr.depth (by rfl) B.sorted (a6 (bz4 (by rfl) B.range (a6 (p7 v9 (by rfl) B.len PySem.boot_len (a6 (pv 0) c7)) c7)) c7)
   LB rfl (by rfl) (by rfl) rfl rfl rfl (by exact⟨rfl,trivial⟩) (by rfl) (by exact aF7.one ⟨rfl,Or.inl rfl,rfl,Or.inr rfl⟩) rfl (fun _ _ _ _=>rfl)
   (fun _ _ _ _=>O9 (a6 (bX6 bK2 (bN3 K rfl (pv 1) (pv 0) (fun _ _=>rfl))) (a6 (pv 0) c7)))))),?_⟩
 refine⟨_,rfl,a,ns,rfl,hS,fun ht=>?_,h2⟩
 obtain⟨tb,q⟩:=h1 ht
 refine⟨_,rfl,a,_,rfl,hS,(ns.map V.int).length,rfl,by rw[a5];have:=ht.2;omega,fun r hr0=>?_⟩
 have s0:=d6 (o:=.rng 0 ((ns.map V.int).length:Int)) hr0
 have tb1:Tb PT (upd H r (.rng 0 ((ns.map V.int).length:Int))):=tb.same s0
 refine⟨r,(ns.map V.int).length,bf3 ns,rfl,a9,by rw[a5];have:=ht.2;omega,bA1 ns,tb1,fun H2 g2 tb2=>⟨fun H3 z sm hz=>?_,fun H' D zs sm hD hp hs=>?_⟩⟩
 ·have hS3:Sq K H3 a ns:=((hS.same s0).grow g2 tb1).same sm
  rw[a5]at hz
  have hat:atI (ns.map V.int) (z:Int)=some (.int (ns.getD z 0)):=t7 (j:=z) (by simp[hz])
  have fin:∀ k,H3 k=none->(∃ k',(V.ref k:V)=.ref k'/\(upd H3 k (.tup [.int (-(ns.getD z 0)),.int z])) k'=some (.tup ((bf3 ns z).map V.int))/\o8 H3 (upd H3 k (.tup [.int (-(ns.getD z 0)),.int z]))):=fun k hk=>⟨k,rfl,a9,d6 hk⟩
  rcases hS3 with h3 | h3
  ·exact⟨_,rfl,_,rfl,.inl ⟨a,_,_,_,rfl,rfl,h3,hat,_,rfl,_,rfl,(by show 2<=f6;decide),fin⟩⟩
  ·exact⟨_,rfl,_,rfl,.inr (.inl ⟨a,_,_,_,rfl,rfl,h3,hat,_,rfl,_,rfl,(by show 2<=f6;decide),fin⟩)⟩
 ·have sD:=d6 (o:=.lst (zs.map V.int)) hD
  rw[a5]at hp
  exact q zs D _ (((s0.grow PT).trans g2).trans ((sm.trans sD).grow PT)) (tb2.same (sm.trans sD)) a9 hp hs
end
theorem Y6 (ns:List Int)(k:Nat):al1 (ns.map V.int) (some (k:Int)) none=(ns.drop k).map V.int:=by rw[aq8,aB1]
theorem af8 (ns:List Int)(k:Nat):al1 (ns.map V.int) none (some (k:Int))=(ns.take k).map V.int:=by rw[bD7,aB2]
theorem U7 {x:V}(h:(ns.map V.int)[i]?=some x):∃ z:Int,ns[i]?=some z/\x=V.int z:=by
 rw[m9]at h
 cases e:ns[i]? with
 | none=>rw[e]at h;cases h
 | some z=>rw[e]at h;cases h;exact⟨z,rfl,rfl⟩
theorem al4 (h:j<ns.length):atI (ns.map V.int) (j:Int)=some (.int (ns.getD j 0)):=t7 (j:=j) (by simp[h])
theorem aP5 {K:W.Frag}{Q:VK}(h:Sq K H a ns)(hj:j<ns.length)(q:Q (.int (ns.getD j 0)) H):rIx K (.ref a) (.int j) H Q:=
 h.elim (fun h=>.inl ⟨a,_,_,_,rfl,rfl,h,al4 hj,q⟩) fun h=>.inr (.inl ⟨a,_,_,_,rfl,rfl,h,al4 hj,q⟩)
theorem bn9:ar2 (CXE P w) X E0:=fun _ _ _ _ _ _ _ h=>by
 obtain⟨_,_,_,_,_,_,_,_,_,_,_,hE⟩:=h
 exact hE.elim
theorem ba7 (z:Int):(PyData.int z).canLay0=true:=by simp[PyData.canLay0]
theorem bb7 (z:Int):(PyData.int z).depth<=8:=by simp[PyData.depth]
theorem bD0 {K:W.Frag}{Q:VK}{es:List Int}{z:Int}(hun:A.units+64<al9)(hl:SqL K H l (es.map V.int))(q:Q (.bl (decide (z∈es))) H):be7 K A false (.int z) (.ref l) H Q:=by
 refine⟨l,_,.int z,es.map .int,rfl,.inl hl,Dt.mkInt,C1.ints es,ba7 z,lay_ints es,aT2 hun (p9 (bb7 z) (by decide)),?_⟩
 rw[aA1,if_neg d4]
 exact q
theorem aV2 {K:W.Frag}{Q:VK}{es:List Int}{z:Int}(hun:A.units+64<al9)(hl:SqL K H l (es.map V.int))(q:Q (.bl (!decide (z∈es))) H):be7 K A true (.int z) (.ref l) H Q:=by
 refine⟨l,_,.int z,es.map .int,rfl,.inl hl,Dt.mkInt,C1.ints es,ba7 z,lay_ints es,aT2 hun (p9 (bb7 z) (by decide)),?_⟩
 rw[aA1,if_pos rfl]
 exact q
def T9 (ps zs:List Int):List Int:=zs.filter fun x=>!decide (x∈ps)
theorem aD9 (p:Int)(zs:List Int):T9 [p] zs=rest zs p:=by
 unfold T9 rest
 congr 1
 funext x
 by_cases h:x=p<;>simp[h]
theorem bg9 {PT:Addr}(g:O4 PT H H')(t:Tb PT H')(h:H' l=none):H l=none:=by
 cases e:H l with
 | none=>rfl
 | some o =>
  by_cases z:l=PT
  ·obtain⟨ps,hP,_⟩:=t
   rw[z,hP]at h
   cases h
  ·rw[g l o z e]at h
   cases h
section
variable {K:W.Frag} {mg:Str->Option Value} {base:Heap}
def aH0 (K:W.Frag)(PT:Addr):Sp:=fun vs H Q _=>∃ (a pa:Addr) (ns ps:List Int) (k:Nat),vs=[.ref a,.int k,.ref pa]/\Sq K H a ns/\af6 ns/\SqL K H pa (ps.map V.int)/\Tb PT H /\
 ∀ (zs:List Int) (D:Addr) (H':Hp),O4 PT H H'->Tb PT H'->H D=none->zs.Perm (rng ns.length)->zs.Pairwise (ole ns)->H' D=some (.lst (((T9 ps zs).take k).map V.int))->Q (.ref D) H'
theorem by3:t9 ["tally","many","passed_over"] ["tally","many","passed_over"] (i6 aa9):=.mk'
theorem aO1 {fO CB c PT:Addr} {tk:Tok} (F:Fun K "first_of_order" "first_of_order" aa9 f fd) (B:Bn mg) (FO:Fun K "order_of" "order_of" ax1 fO fdO) (bO:Binds K fdO ["tally"] []) (mO:mg "order_of"=some (.ref fO)) (hc:fdO.code=.ref c) (LB:au4 base mg c PT)
  (FT:Fun K "check_tally" "check_tally" ap6 fT fdT) (bT:Binds K fdT ["tally"] []) (mT:mg "check_tally"=some (.ref fT)) (mM:mg "MOST_PLACES"=some (.int 24 tk)) (mB:mg "BadTally"=some (.ref CB)) (cB:ar4 K CB):x5 P w K mg base (CXE P w) 3 f fd ["tally","many","passed_over"] (aH0 K PT):=by
 have GO:x5 P w K mg base (CXE P w) 2 fO fdO ["tally"] (bG2 K CB PT):=bO0 FO hc LB B FT bT mT mM mB cB
 refine F.okX by3 (fun cdv A outer s H vs Q E hr h=>?_)
 obtain⟨a,pa,ns,ps,k,rfl,hS,ht,hpa,tb,q⟩:=h
 have hsl:=M5
 have hun:=hr.units
 have t2:=ht.2
 have nd2:(["place","passed_over"]:List Str).Nodup:=by decide +kernel
 refine⟨_,j7 (u4 (L4 Q4 (K8 (N':=["place","passed_over"]) (lk:=[none,some 2]) rfl (O8 (u9 GO hr (by rfl) mO FO.kp bO .nil (bn9 (P:=P) (w:=w)) (a6 (pv 0) c7))) (by rfl) rfl (by decide +kernel) (by exact⟨rfl,trivial⟩) (by rfl) (by exact LkL.ok ⟨⟨rfl,Or.inl rfl,rfl,Or.inl rfl⟩,trivial⟩)
  (fun _ _ _=>A2 (i:=0) nd2 rfl (Or.inl rfl)) (fun _ _ _=>ah1 (p6 (aU8 K hr.around rfl rfl) (pv 0) (pv 1) (by rfl))) (fun _ _ _=>pv 0)) Q5 (N9 (pv 1)))),?_⟩
 refine⟨_,rfl,a,ns,rfl,hS,fun _=>⟨tb,fun zs D1 H1 g1 tb1 gD hp hs=>⟨D1,rfl,⟨_,SqL.of gD⟩,fun D hD=>?_⟩⟩,fun h=>absurd ht h⟩
 have hzl:zs.length=ns.length:=by rw[hp.length_eq,S7]
 have hpa1:=O4.sqL g1 tb hpa
 refine J7 (K:=K) (a:=D1) (D:=D) (ys:=zs.map V.int) (fun i xs σ' H'=>(∃ v,σ'=[v,some (.ref pa)])/\o8 H1 H'/\H' D=some (.lst xs)/\xs=(T9 ps (zs.take i)).map V.int) ⟨⟨none,rfl⟩,d6 hD,a9,rfl⟩ (by rw[a5];omega)
  (fun i xs σ' H' hi ⟨_, s6, h6, e6⟩ => ⟨SqL.of (s6 _ _ gD), h6, by
   rw[e6,a5]
   have:=K1 (fun x=>!decide (x∈ps)) (zs.take i)
   rw[l6]at this
   unfold T9
   omega⟩) ?_ ?_
 ·rintro i xs x σ' H' N kN hx ⟨⟨v,rfl⟩,s6,h6,rfl⟩
  obtain⟨z,hz,rfl⟩:=U7 hx
  refine B2 ?_
  refine⟨_,rfl,_,rfl,aV2 hun (s6.seq hpa1) ⟨_,rfl,?_⟩⟩
  have et:T9 ps (zs.take (i+1))=T9 ps (zs.take i)++T9 ps [z]:=by
   unfold T9
   rw[o5,hz,bv5,J9]
  by_cases hm:z∈ps
  ·rw[decide_eq_true hm]
   refine F0 ?_
   refine kN _ _ _ ⟨⟨_,rfl⟩,s6,h6,?_⟩
   have e0:T9 ps [z]=[]:=by unfold T9;rw[ai7 (by rw[decide_eq_true hm];decide)];rfl
   rw[et,e0,F4]
  ·rw[decide_eq_false hm]
   refine F8 ?_
   refine⟨_,rfl,h6,kN _ _ _ ⟨⟨_,rfl⟩,s6.upd hD,a9,?_⟩⟩
   have e0:T9 ps [z]=[z]:=by unfold T9;rw[ai6 (by rw[decide_eq_false hm];decide)];rfl
   rw[et,e0,c8]
   rfl
 ·rintro xs σ' H3 ⟨⟨v,rfl⟩,s6,h6,rfl⟩
  rw[j5 (by rw[a5];exact c6 _)]at h6
  refine⟨_,rfl,_,rfl,D,_,rfl,SqL.of h6,fun l hl=>?_⟩
  rw[af8]
  have s7:=s6.trans (d6 (o:=.lst (((T9 ps zs).take k).map V.int)) hl)
  exact q zs l _ (g1.trans (s7.grow PT)) (tb1.same s7) (bg9 (g1.trans (s6.grow PT)) (tb1.same s6) hl) hp hs a9
def bl2 (K:W.Frag):Sp:=fun vs H Q _=>∃ (a ea:Addr) (ns es:List Int) (p:Nat),vs=[.ref a,.int p,.ref ea]/\Sq K H a ns/\ns.length<=24/\SqL K H ea (es.map V.int) /\
 ∀ (l:Addr) (H':Hp),o8 H H'->H l=none->H' l=some (.lst ((R8 ns p es).map V.int))->Q (.ref l) H'
theorem bm1:t9 ["tally","place","ends","others"] ["tally","place","ends"] (i6 am6):=.mk'
theorem bq1 {z:Int}(h:z∈J6 n p):∃ j:Nat,z=(j:Int)/\j<n:=by
 obtain⟨j,hj,rfl⟩:=m5.mp h
 exact⟨j,rfl,y9.mp (O5.mp hj).1⟩
theorem bg4 (ns es:List Int)(p:Nat):(J6 ns.length p).map (fun z=>X6 ns es z.toNat)=R8 ns p es:=by
 unfold J6 R8
 rw[W2]
 refine R7 fun j _=>?_
 show X6 ns es (j:Int).toNat=_
 rw[p0]
set_option maxHeartbeats 1000000 in
theorem bA9 (F:Fun K "left_of_others" "left_of_others" am6 f fd) (B:Bn mg):x5 P w K mg base CX0 1 f fd ["tally","place","ends"] (bl2 K):=by
 refine F.ok bm1 (fun cdv A outer s H vs Q E hr h=>?_)
 obtain⟨a,ea,ns,es,p,rfl,hS,hn,hea,q⟩:=h
 have hsl:=M5
 have hun:=hr.units
 have nd2:(["one","place"]:List Str).Nodup:=by decide +kernel
 have nd3:(["one","tally","ends"]:List Str).Nodup:=by decide +kernel
 refine⟨_,d7 (au9 (i:=3) bm1.nd rfl rfl (by rfl) (N':=["one","place"]) (lk:=[none,some 1]) rfl (O0 rfl B.range (a6 (p7 v9 (by rfl) B.len PySem.boot_len (a6 (pv 0) c7)) c7)) (by rfl) rfl (by decide +kernel) (by exact⟨rfl,trivial⟩) (by rfl) (by exact LkL.ok ⟨⟨rfl,Or.inl rfl,rfl,Or.inl rfl⟩,trivial⟩)
    (fun _ _ _=>A2 (i:=0) nd2 rfl (Or.inl rfl)) (fun _ _ _=>ah1 (p6 aE2 (pv 0) (pv 1) (A1 _))) (fun _ _ _=>pv 0))
  (j7 (u4 (K8 (N':=["one","tally","ends"]) (lk:=[none,some 0,some 2]) rfl (O8 (pv 3)) (by rfl) rfl (by decide +kernel) (by exact⟨rfl,rfl,trivial⟩) (by rfl) (by exact LkL.ok ⟨⟨rfl,Or.inl rfl,rfl,Or.inl rfl⟩,⟨rfl,Or.inl rfl,rfl,Or.inl rfl⟩,trivial⟩)
    (fun _ _ _=>A2 (i:=0) nd3 rfl (Or.inl rfl)) (fun _ _ _=>M8) (fun _ _ _=>an0 (p6 (ba2 K hr.around rfl rfl) (pv 0) (pv 2) (by rfl)) (n8 af0 (X2 K rfl (pv 1) (pv 0) (fun _ _=>rfl)) c9) (X2 K rfl (pv 1) (pv 0) (fun _ _=>rfl)))))),?_⟩
 refine⟨_,rfl,a,_,rfl,hS,(ns.length:Int),congrArg (fun z:Nat=>[V.int (z:Int)]) (a5 ..),by omega,by omega,fun D hD=>?_⟩
 rw[p0]
 refine al3 (lo:=0) (n:=ns.length) (D:=D) (fun i xs σ' H'=>(∃ v,σ'=[v,some (.int p)])/\o8 H H'/\H' D=some (.lst xs)/\xs=(J6 i p).map V.int) ⟨⟨none,rfl⟩,d6 hD,a9,rfl⟩ (by omega)
  (fun i xs σ' H' hi ⟨_, s6, h6, e6⟩ => ⟨h6, by
   rw[e6,a5]
   unfold J6
   rw[a5]
   have:=K1 (fun j=>decide (j≠p)) (x8 i)
   rw[G4]at this
   exact this⟩) ?_ ?_
 ·rintro i xs σ' H' N kN hi ⟨⟨v,rfl⟩,s6,h6,rfl⟩
  have e0:((0:Int)+(i:Int))=(i:Int):=by omega
  rw[e0]
  refine B2 ?_
  refine⟨_,rfl,_,rfl,rfl,_,rfl,?_⟩
  have et:J6 (i+1) p=J6 i p++(if i=p then [] else [(i:Int)]):=by
   unfold J6
   rw[M0,J9,c8]
   congr 1
   by_cases h:i=p<;>simp[h]
  by_cases hm:i=p
  ·refine bq4 (by rw[hm]) ?_
   refine kN _ _ _ ⟨⟨_,rfl⟩,s6,h6,?_⟩
   rw[et,if_pos hm,F4]
  ·rw[decide_eq_false (show ¬ (V.int (i:Int)=V.int (p:Int)) from fun z=>hm (by injection z;omega))]
   refine F8 ?_
   refine⟨_,rfl,h6,kN _ _ _ ⟨⟨_,rfl⟩,s6.upd hD,a9,?_⟩⟩
   rw[et,if_neg hm,c8]
   rfl
 ·rintro xs σ' H3 ⟨⟨v,rfl⟩,s6,h6,rfl⟩
  have hkl:(J6 ns.length p).length<=24:=by
   unfold J6
   rw[a5]
   have:=K1 (fun j=>decide (j≠p)) (x8 ns.length)
   rw[G4]at this
   omega
  refine⟨_,rfl,D,rfl,⟨_,SqL.of h6⟩,fun D2 hD2=>?_⟩
  have hS3:=hS.same s6
  have hea3:=s6.seq hea
  refine J7 (K:=K) (a:=D) (D:=D2) (ys:=(J6 ns.length p).map V.int) (fun i xs σ' H'=>(∃ v,σ'=[v,some (.ref a),some (.ref ea)])/\o8 H3 H'/\H' D2=some (.lst xs)/\xs=(((J6 ns.length p).take i).map fun z=>X6 ns es z.toNat).map V.int) ⟨⟨none,rfl⟩,d6 hD2,a9,rfl⟩ (by rw[a5];omega)
   (fun i xs σ' H' hi ⟨_,s8,h8,e8⟩=>⟨SqL.of (s8 _ _ h6),h8,by rw[e8,a5,a5,l6];omega⟩) ?_ ?_
  ·rintro i xs x σ' H' N kN hx ⟨⟨v,rfl⟩,s8,h8,rfl⟩
   obtain⟨z,hz,rfl⟩:=U7 hx
   obtain⟨j,rfl,hj⟩:=bq1 (b8 hz)
   refine B2 (G7 ?_)
   have fin:∀ y:Int,y=X6 ns es j->(H' D2=some (.lst ((((J6 ns.length p).take i).map fun z=>X6 ns es z.toNat).map V.int))/\N ((((J6 ns.length p).take i).map fun z=>X6 ns es z.toNat).map V.int++[.int y]) [some (.int j),some (.ref a),some (.ref ea)] (upd H' D2 (.lst ((((J6 ns.length p).take i).map fun z=>X6 ns es z.toNat).map V.int++[.int y])))):=fun y ey=>by
    refine⟨h8,kN _ _ _ ⟨⟨_,rfl⟩,s8.upd hD2,a9,?_⟩⟩
    rw[o5,hz,c8,c8,ey]
    rfl
   refine⟨_,rfl,_,rfl,bD0 hun (s8.seq hea3) ⟨_,rfl,?_⟩⟩
   by_cases hm:(j:Int)∈es
   ·rw[decide_eq_true hm]
    refine F8 ⟨_,rfl,_,rfl,aP5 (hS3.same s8) hj ⟨_,_,rfl,rfl,fin _ ?_⟩⟩
    unfold X6
    rw[if_pos hm]
   ·rw[decide_eq_false hm]
    refine F0 ⟨_,rfl,_,rfl,aP5 (hS3.same s8) hj (fin _ ?_)⟩
    unfold X6
    rw[if_neg hm]
  ·rintro xs σ' H4 ⟨⟨v,rfl⟩,s8,h8,rfl⟩
   rw[j5 (by rw[a5];exact c6 _),bg4]at h8
   exact q D2 H4 (s6.trans s8) (s6.free hD2) h8
end
theorem rep0 (n:Nat):(B4 n [V.int 0]).flatten=(tal n []).map V.int:=by
 rw[bx5,List.map_replicate]
 induction n with
 | zero=>rfl
 | succ n ih=>rw[G9,L7,ih,G9];rfl
theorem ba5 (c:Int)(h:0<n):∃ j:Nat,c % (n:Int)=(j:Int)/\j<n:=by
 have h1:=J0 c (show (n:Int)≠0 by omega)
 have h2:=D7 c (show (0:Int)<(n:Int) by omega)
 exact⟨(c % (n:Int)).toNat,by omega,by omega⟩
section
variable {K:W.Frag} {mg:Str->Option Value} {base:Heap}
end
section
variable {K:W.Frag} {mg:Str->Option Value} {base:Heap}
def bl5 (K:W.Frag):Sp:=fun vs H Q _=>∃ (a:Addr) (ns:List Int),vs=[.ref a]/\Sq K H a ns/\ns.length<64/\∀ (l:Addr) (H':Hp),o8 H H'->H l=none->H' l=some (.lst ((up2 ns).reverse.map V.int))->Q (.ref l) H'
theorem bM3:t9 ["tally"] ["tally"] (i6 ai8):=.mk'
theorem bB1 (F:Fun K "falling" "falling" ai8 f fd)(B:Bn mg):x5 P w K mg base CX0 1 f fd ["tally"] (bl5 K):=by
 refine F.ok bM3 (fun cdv A outer s H vs Q E hr h=>?_)
 obtain⟨a,ns,rfl,hS,h64,q⟩:=h
 refine⟨_,j7 (u4 (bn5 K rfl (by rfl) B.sorted (a6 (pv 0) c7))),?_⟩
 refine⟨_,rfl,a,ns,rfl,hS,h64,fun l zs hl hp hs=>?_⟩
 rw[bb5 hp hs]
 exact q l _ (d6 hl) hl a9
def aY9 (K:W.Frag):Sp:=fun vs H Q _=>∃ (a:Addr) (ns:List Int) (M r:Nat),vs=[.ref a,.int M,.int r]/\SqL K H a ((up2 ns).reverse.map V.int)/\M<=1000000/\r<=100/\ns.length<64/\∀ (H':Hp),o8 H H'->Q (.int (ai9 ns M r)) H'
theorem aZ1:t9 ["numbers","most","r","from_others"] ["numbers","most","r"] (i6 Y3):=.mk'
theorem bo6 (F:Fun K "room_among" "room_among" Y3 f fd) (B:Bn mg):x5 P w K mg base CX0 1 f fd ["numbers","most","r"] (aY9 K):=by
 refine F.ok aZ1 (fun cdv A outer s H vs Q E hr h=>?_)
 obtain⟨a,ns,M,r,rfl,hS,hM,hr1,h64,q⟩:=h
 have hsl:=M5
 have nd2:(["number","most","r"]:List Str).Nodup:=by decide +kernel
 have hlen:(up2 ns).reverse.length=ns.length:=by rw[au5,am2]
 generalize hz:(up2 ns).reverse=zs at hS hlen
 refine⟨_,d7 (u7 (i:=3) aZ1.nd rfl (Or.inl rfl) (p7 (Z7 rfl) (by rfl) B.sum (by rfl) (a6
   (K8 (N' := ["number", "most", "r"]) (lk := [none, some 1, some 2]) rfl (O8 (L4 Q4 (pv 0) (N9 (pv 2)) Q5)) (by rfl) rfl (by decide +kernel) (by exact ⟨rfl, rfl, trivial⟩) (by rfl) (by exact LkL.ok ⟨⟨rfl, Or.inl rfl, rfl, Or.inl rfl⟩, ⟨rfl, Or.inl rfl, rfl, Or.inl rfl⟩, trivial⟩)
    (fun _ _ _=>A2 (i:=0) nd2 rfl (Or.inl rfl)) (fun _ _ _=>M8) (fun _ _ _=>p7 (ar0 rfl) (by rfl) B.min (by rfl) (a6 (pv 0) (a6 (n8 T7 (pv 1) (pv 2)) c7)))) c7)))
  (j7 (u4 (n8 af0 (n8 O3 (n8 T7 (n8 T7 (pv 1) (pv 2)) (n8 af0 (pv 2) c9)) (pv 3)) (p7 (Z7 rfl) (by rfl) B.sum (by rfl) (a6 (L4 Q4 (pv 0) Q5 (N9 (pv 2))) c7))))),?_⟩
 refine⟨_,rfl,_,rfl,_,rfl,a,_,rfl,hS,fun c hc=>?_⟩
 rw[Y6]
 have s1:=d6 (o:=.lst ((zs.drop r).map V.int)) hc
 refine⟨c,rfl,⟨_,SqL.of a9⟩,fun D hD=>J7 (K:=K) (a:=c) (D:=D) (ys:=(zs.drop r).map V.int) (fun i xs σ' H'=>∃ v,σ'=[v,some (.int M),some (.int r)]/\o8 H H'/\H' c=some (.lst ((zs.drop r).map V.int))/\xs=(((zs.drop r).take i).map (mn ((M:Int)*(r:Int)))).map V.int/\H' D=some (.lst xs))
   ⟨none,rfl,s1.trans (d6 hD),d6 hD _ _ a9,by simp,a9⟩ (by rw[a5,x6];omega) (fun i xs σ' H' hi ⟨_,_,s3,g3,e3,h3⟩=>⟨SqL.of g3,h3,by rw[e3,a5,a5,l6,x6];omega⟩) ?_ ?_⟩
 ·rintro i xs x σ' H' N kN hx ⟨v,rfl,s3,g3,rfl,h3⟩
  obtain⟨z,hz',rfl⟩:=U7 hx
  refine B2 (G7 ?_)
  refine⟨_,rfl,_,rfl,_,rfl,_,_,rfl,rfl,.inl ⟨by omega,by omega⟩,_,_,rfl,?_⟩
  refine⟨h3,kN _ _ _ ⟨_,rfl,s3.upd (s1.free hD),?_,?_,a9⟩⟩
  ·rw[t8 (u5 a9 hD)];exact g3
  ·rw[o5,hz',c8,c8];rfl
 ·rintro xs σ' H3 ⟨v,rfl,s3,g3,rfl,h3⟩
  rw[j5 (by rw[a5];exact c6 _)]at h3
  refine⟨D,_,rfl,SqL.of h3,?_⟩
  refine⟨_,rfl,_,rfl,_,_,rfl,rfl,.inl ⟨by omega,by omega⟩,_,rfl,_,_,rfl,rfl,_,_,rfl,rfl,.inr ⟨by omega,by omega⟩,_,rfl,_,_,rfl,rfl,?_⟩
  refine⟨_,rfl,_,rfl,_,rfl,a,_,rfl,s3.seq hS,fun c2 hc2=>?_⟩
  rw[af8]
  refine⟨c2,_,rfl,SqL.of a9,_,_,rfl,rfl,?_⟩
  have fin:=q _ (s3.trans (d6 (o:=.lst ((zs.take r).map V.int)) hc2))
  rw[<- aN1 (M:=M) (r:=r) hz.symm]at fin
  exact fin
end
def wlT:Wl->List V
 | .below p=>[.str "below",.int p]
 | .odd=>[.str "odd"]
 | .wall r=>[.str "wall",.int r]
 | .free=>[]
def ca7 (H:Hp)(v:V)(x:Wl):Prop:=(x=.free/\v=.non)\/(x≠.free/\∃ a,v=.ref a/\H a=some (.tup (wlT x)))
theorem bC8 {a b:Int}(h:decide (V.int a=V.int b)=true):a=b:=by
 have:=of_decide_eq_true h
 injection this
theorem bq5 {a b:Int}(h:¬ decide (V.int a=V.int b)=true):¬ a=b:=fun e=>h (by rw[e];exact decide_eq_true rfl)
section
variable {K:W.Frag} {mg:Str->Option Value} {base:Heap}
def aY8 (K:W.Frag):Sp:=fun vs H Q _=>∃ (a:Addr) (ns:List Int),vs=[.ref a]/\Sq K H a ns/\ns.length<=100/\∀ (l:Addr) (H':Hp),o8 H H'->H l=none->H' l=some (.lst ((ca6 ns).map V.int))->Q (.ref l) H'
theorem by5:t9 ["numbers"] ["numbers"] (i6 Y2):=.mk'
theorem bo5 (F:Fun K "places_below" "places_below" Y2 f fd)(B:Bn mg):x5 P w K mg base CX0 1 f fd ["numbers"] (aY8 K):=by
 refine F.ok by5 (fun cdv A outer s H vs Q E hr h=>?_)
 obtain⟨a,ns,rfl,hS,hn,q⟩:=h
 have hsl:=M5
 have nd2:(["place","number"]:List Str).Nodup:=by decide +kernel
 refine⟨_,j7 (u4 (K8 (N':=["place","number"]) (lk:=[none,none]) rfl (bX5 (bz3 (by rfl) B.enum (a6 (pv 0) c7)) (bn3 (by rfl) B.enum (a6 (pv 0) c7))) (by rfl) rfl (by decide +kernel) (by exact trivial) (by rfl) (by exact LkL.ok trivial)
    (fun _ _ _=>aZ7 (n:=2) K rfl rfl (Z4 (A2 (i:=0) nd2 rfl (Or.inl rfl)) (Z4 (A2 (i:=1) nd2 rfl (Or.inl rfl)) aH9))) (fun _ _ _=>ah1 (p6 af2 (pv 1) c9 (A1 _))) (fun _ _ _=>pv 0))),?_⟩
 refine Or.imp (fun h=>⟨_,rfl,h⟩) (fun h=>⟨_,rfl,h⟩) (aW6 (K:=K) (a:=a) (ys:=ns.map V.int) hS (by rw[a5];omega)
  (fun D i xs σ' H'=>(∃ v u,σ'=[v,u])/\o8 H H'/\H' D=some (.lst xs)/\xs=((ar1 ns i).map Int.ofNat).map V.int) (fun D hD=>⟨⟨none,none,rfl⟩,d6 hD,a9,rfl⟩)
  (fun D i xs σ' H' hD hi ⟨_,s1,h1,e1⟩=>⟨s1,h1,by rw[e1,a5,a5];exact bt3 ns i⟩) ?_ ?_)
 ·rintro D i xs x t σ' H' N hD kN hx ⟨⟨v,u,rfl⟩,s1,h1,rfl⟩ ht
  obtain⟨z,hz,rfl⟩:=U7 hx
  have s2:=d6 (o:=.tup [.int i,.int z]) ht
  refine⟨t,_,rfl,SqT.of a9,rfl,_,_,rfl,_,_,rfl,rfl,?_⟩
  refine⟨_,rfl,_,_,rfl,rfl,_,rfl,?_⟩
  have e3:=bi1 ns i
  rw[an8 hz]at e3
  by_cases hb:z<0
  ·rw[decide_eq_true hb]
   refine F8 ⟨_,rfl,s2 _ _ h1,kN _ _ _ ⟨⟨_,_,rfl⟩,(s1.trans s2).upd hD,a9,?_⟩⟩
   rw[e3,if_pos hb,c8,c8]
   rfl
  ·rw[decide_eq_false hb]
   refine F0 (kN _ _ _ ⟨⟨_,_,rfl⟩,s1.trans s2,s2 _ _ h1,?_⟩)
   rw[e3,if_neg hb,F4]
 ·rintro D xs σ' H' hD ⟨⟨v,u,rfl⟩,s1,h1,rfl⟩
  rw[a5]at h1
  exact q D H' s1 hD h1
def aY6 (K:W.Frag)(CB:Addr):Sp:=fun vs H Q E=>∃ (a:Addr) (ns:List Int) (M:Nat),vs=[.ref a,.int M]/\Sq K H a ns/\M<=1000000/\(af6 ns->∀ (v:V) (x:Wl) (H':Hp),o8 H H'->bI0 ns M x->ca7 H' v x->Q v H')/\(¬ af6 ns->E (.ref CB) none H)
theorem au8:t9 ["tally","most","below","numbers","r"] ["tally","most"] (i6 aa8):=.mk'
set_option maxHeartbeats 1000000 in
theorem bo3 {fF fA fβ CB:Addr} {fdF fdβ:FuncData} {tk:Tok} (F:Fun K "wall_with" "wall_with" aa8 f fd) (B:Bn mg) (FT:Fun K "check_tally" "check_tally" ap6 fT fdT) (bT:Binds K fdT ["tally"] []) (mT:mg "check_tally"=some (.ref fT))
  (FF:Fun K "falling" "falling" ai8 fF fdF) (bF:Binds K fdF ["tally"] []) (mF:mg "falling"=some (.ref fF)) (FA:Fun K "room_among" "room_among" Y3 fA fdA) (bA:Binds K fdA ["numbers","most","r"] []) (mA:mg "room_among"=some (.ref fA))
  (Fβ:Fun K "places_below" "places_below" Y2 fβ fdβ) (bβ:Binds K fdβ ["numbers"] []) (mβ:mg "places_below"=some (.ref fβ))
  (mM:mg "MOST_PLACES"=some (.int 24 tk)) (mB:mg "BadTally"=some (.ref CB)) (cB:ar4 K CB):x5 P w K mg base (CXE P w) 2 f fd ["tally","most"] (aY6 K CB):=by
 have GT:x5 P w K mg base (CXE P w) 1 fT fdT ["tally"] (bl6 K CB):=bo4 FT B mM mB cB
 have GF:x5 P w K mg base CX0 1 fF fdF ["tally"] (bl5 K):=bB1 FF B
 have GA:x5 P w K mg base CX0 1 fA fdA ["numbers","most","r"] (aY9 K):=bo6 FA B
 have GL:x5 P w K mg base CX0 1 fβ fdβ ["numbers"] (aY8 K):=bo5 Fβ B
 refine F.okX au8 (fun cdv A outer s H vs Q E hr h=>?_)
 obtain⟨a,ns,M,rfl,hS,hM,h1,h2⟩:=h
 have hsl:=M5
 refine⟨_,d7 (X1 (u9 GT hr (by rfl) mT FT.kp bT .nil aN8 (a6 (pv 0) c7)))
   (d7 (u7 (i:=2) au8.nd rfl (Or.inl rfl) (u9 GL hr (by rfl) mβ Fβ.kp bβ .nil F2 (a6 (pv 0) c7)))
   (d7 (E5 (aN4 (pv 2) (fun _=>rfl)) (j7 (u4 (O9 (a6 D8 (a6 (C6 D0 (pv 2) c9 (fun _ _=>rfl)) c7))))) A6)
   (d7 (E5 (p6 V7 (n8 C9 (p7 (bh6 rfl) (by rfl) B.sum (by rfl) (a6 (pv 0) c7)) c9) c9 (A1 _)) (j7 (u4 (O9 (a6 D8 c7)))) A6)
   (d7 (u7 (i:=3) au8.nd rfl (Or.inl rfl) (u9 GF hr (by rfl) mF FF.kp bF .nil F2 (a6 (pv 0) c7)))
   (d7 (V5 bn0 rfl (aq2 rfl B.range (a6 c9 (a6 (n8 O3 (p7 v9 (by rfl) B.len PySem.boot_len (a6 (pv 3) c7)) c9) c7))) (A2 (i := 4) au8.nd rfl (Or.inl rfl))
    (j7 (E5 (p6 af2 (u9 GA hr (by rfl) mA FA.kp bA .nil F2 (a6 (pv 3) (a6 (pv 1) (a6 (pv 4) c7)))) c9 (A1 _)) (j7 (u4 (O9 (a6 D8 (a6 (pv 4) c7))))) A6)))
   (j7 (u4 Q6))))))),?_⟩
 refine⟨_,rfl,a,ns,rfl,hS,fun ht=>?_,h2⟩
 have t2:=ht.2
 refine⟨_,rfl,a,ns,rfl,hS,by omega,fun bl H1 s1 hbl g1=>?_⟩
 refine⟨_,rfl,_,.inl ⟨_,SqL.of g1,rfl⟩,?_⟩
 unfold ca6 at g1 ⊢
 cases hb:ar1 ns ns.length with
 | cons p ps =>
  rw[hb]at g1
  refine F8 ⟨_,rfl,bl,_,_,_,rfl,rfl,SqL.of g1,t7 (j:=0) rfl,(by show 2<=f6;decide),fun q hq=>?_⟩
  exact h1 ht _ (.below p) _ (s1.trans (d6 hq)) (bt2 hb) (.inr ⟨by simp,q,rfl,a9⟩)
 | nil =>
  have hall:AllP ns:=bD9 hb
  refine F0 ?_
  refine⟨_,rfl,a,ns,rfl,hS.same s1,_,_,rfl,rfl,(by show (0:Int)<2;decide),rfl,_,rfl,?_⟩
  refine af5 (fun h=>?_) (fun h=>?_)
  ·exact⟨(by show 1<=f6;decide),fun p hp=>h1 ht _ .odd _ (s1.trans (d6 hp)) ⟨hall,bC8 h⟩ (.inr ⟨by simp,p,rfl,a9⟩)⟩
  ·have hev:=bq5 h
   refine⟨_,rfl,a,ns,rfl,hS.same s1,by omega,fun l H2 s2 hl g2=>?_⟩
   refine⟨_,rfl,l,_,rfl,.inl (SqL.of g2),_,_,rfl,rfl,1,((ns.length:Int)+1),by rw[a5,au5,am2],⟨by omega,by omega,by omega,by omega⟩,?_⟩
   rw[show ((ns.length:Int)+1 - 1).toNat=ns.length by omega]
   refine O1 (lo:=1) (n:=ns.length) (fun i σ H3=>∃ e4,σ=[some (.ref a),some (.int M),some (.ref bl),some (.ref l),e4]/\o8 H2 H3/\∀ k,1<=k->k<i+1->0<=ai9 ns M k) ⟨none,rfl,o8.refl H2,fun k k1 k2=>by omega⟩ ?_ ?_
   ·rintro i σ H3 hi ⟨e4,rfl,s3,hrm⟩
    have e0:((1:Int)+(i:Int))=((i+1:Nat):Int):=by omega
    rw[e0]
    refine B2 ?_
    refine⟨_,rfl,_,rfl,_,rfl,l,ns,M,i+1,rfl,SqL.of (s3 _ _ g2),hM,by omega,by omega,fun H4 s4=>⟨_,_,rfl,rfl,_,rfl,?_⟩⟩
    refine af5 (fun h=>?_) (fun h=>?_)
    ·refine⟨_,rfl,(by show 2<=f6;decide),fun p hp=>?_⟩
     exact h1 ht _ (.wall (i+1)) _ ((((s1.trans s2).trans s3).trans s4).trans (d6 hp)) ⟨hall,hev,by omega,by omega,of_decide_eq_true h,hrm⟩ (.inr ⟨by simp,p,rfl,a9⟩)
    ·have h':¬ ai9 ns M (i+1)<0:=fun q=>h (decide_eq_true q)
     refine⟨_,rfl,s3.trans s4,fun k k1 k2=>?_⟩
     rcases C0 k (i+1) with l1 | l1
     ·exact hrm k k1 l1
     ·rw[show k=i+1 by omega];omega
   ·rintro σ H3 ⟨e4,rfl,s3,hrm⟩
    exact h1 ht _ .free _ ((s1.trans s2).trans s3) ⟨hall,hev,fun k k1 k2=>hrm k k1 (by omega)⟩ (.inl ⟨rfl,rfl⟩)
def bk7 (K:W.Frag)(CB:Addr):Sp:=fun vs H Q E=>∃ (a:Addr) (ns:List Int),vs=[.ref a]/\Sq K H a ns/\(af6 ns->∀ (v:V) (x:Wl) (H':Hp),o8 H H'->aB0 ns x->ca7 H' v x->Q v H')/\(¬ af6 ns->E (.ref CB) none H)
theorem bM0:t9 ["tally"] ["tally"] (i6 as1):=.mk'
theorem bA2 {fω fF fA fβ CB:Addr}{fdω fdF fdβ:FuncData}{tk:Tok}(F:Fun K "wall_of" "wall_of" as1 f fd)(B:Bn mg)(FT:Fun K "check_tally" "check_tally" ap6 fT fdT)(bT:Binds K fdT ["tally"] [])(mT:mg "check_tally"=some (.ref fT))
  (FF:Fun K "falling" "falling" ai8 fF fdF)(bF:Binds K fdF ["tally"] [])(mF:mg "falling"=some (.ref fF))(FA:Fun K "room_among" "room_among" Y3 fA fdA)(bA:Binds K fdA ["numbers","most","r"] [])(mA:mg "room_among"=some (.ref fA))
  (Fβ:Fun K "places_below" "places_below" Y2 fβ fdβ)(bβ:Binds K fdβ ["numbers"] [])(mβ:mg "places_below"=some (.ref fβ))(Fω:Fun K "wall_with" "wall_with" aa8 fω fdω)(bω:Binds K fdω ["tally","most"] [])(mω:mg "wall_with"=some (.ref fω))
  (mM:mg "MOST_PLACES"=some (.int 24 tk))(mB:mg "BadTally"=some (.ref CB))(cB:ar4 K CB):x5 P w K mg base (CXE P w) 3 f fd ["tally"] (bk7 K CB):=by
 have GW:x5 P w K mg base (CXE P w) 2 fω fdω ["tally","most"] (aY6 K CB):=bo3 Fω B FT bT mT FF bF mF FA bA mA Fβ bβ mβ mM mB cB
 refine F.okX bM0 (fun cdv A outer s H vs Q E hr h=>?_)
 obtain⟨a,ns,rfl,hS,h1,h2⟩:=h
 refine⟨_,j7 (u4 (u9 GW hr (by rfl) mω Fω.kp bω .nil aN8 (a6 (pv 0) (a6 c9 c7)))),?_⟩
 exact⟨_,rfl,a,ns,1,rfl,hS,by decide,fun ht v x H' s' hx hv=>h1 ht v x H' s' (bw6 hx) hv,h2⟩
end
theorem af7 {PT:Addr}{xs:List V}(g:O4 PT H H')(t:Tb PT H)(h:H l=some (.lst xs)):H' l=some (.lst xs):=by
 obtain⟨ps,hP,_⟩:=t
 exact g l _ (fun z=>by rw[z,hP]at h;cases h) h
theorem aE8 {K:W.Frag}{PT:Addr}(g:O4 PT H H')(t:Tb PT H):∀ {zs:List V} {ks:List (List Int)},B3 K H zs ks->B3 K H' zs ks
 | _,_,.nil=>.nil
 | _,_,.cons ⟨a,e,h⟩ r=>.cons ⟨a,e,O4.sqT g t h⟩ (aE8 g t r)
section
variable {K:W.Frag} {mg:Str->Option Value} {base:Heap}
noncomputable def aQ2 (ns:List Int)(p:Nat)(es:List Int):List (List Int):=star p es++bp5 (ns.length - 1) (R8 ns p es) (J6 ns.length p)
def bl3 (K:W.Frag)(PT:Addr):Sp:=fun vs H Q _=>∃ (a ea:Addr) (ns es:List Int) (p:Nat),vs=[.ref a,.int p,.ref ea]/\Sq K H a ns/\af6 ns/\p<ns.length/\SqL K H ea (es.map V.int)/\es.Nodup/\es.length<=24/\(∀ z∈es,0<=z/\z<ns.length/\z≠p)/\(es.length:Int)=ns.getD p 0/\Gr (R8 ns p es)/\Tb PT H /\
 ∀ (r t:Addr) (zs:List V) (ks:List (List Int)) (H':Hp),O4 PT H H'->Tb PT H'->H' r=some (.tup [.int ns.length,.ref t])->H' t=some (.tup zs)->B3 K H' zs ks->ks.Perm ((aQ2 ns p es).map up)->ks.Pairwise (fun a b=>Tim.J3 b a=false)->tal ns.length ks=ns->(∀ k∈ks,Up ns.length k)->ks.Nodup->Q (.ref r) H'
theorem ae0:t9 ["tally","place","ends","ties","places","left","chosen"] ["tally","place","ends"] (i6 as5):=.mk'
set_option maxHeartbeats 2000000 in
theorem bB0 {fI fU fV fO fF fL CB c PT:Addr} {fdU fdV fdF fdL:FuncData} {tk:Tok} (F:Fun K "laid_around" "laid_around" as5 f fd) (B:Bn mg) (FI:Fun K "is_place" "is_place" ax3 fI fdI) (bI:Binds K fdI ["places","number"] []) (mI:mg "is_place"=some (.ref fI))
    (FU:Fun K "turned_up" "turned_up" sUp fU fdU) (bU:Binds K fdU ["places","tie"] []) (mU:mg "turned_up"=some (.ref fU)) (FV:Fun K "made" "made" am5 fV fdV) (bV:Binds K fdV ["places","ties"] []) (mV:mg "made"=some (.ref fV))
    (FO:Fun K "order_of" "order_of" ax1 fO fdO) (bO:Binds K fdO ["tally"] []) (mO:mg "order_of"=some (.ref fO)) (hc:fdO.code=.ref c) (LB:au4 base mg c PT)
    (FT:Fun K "check_tally" "check_tally" ap6 fT fdT) (bT:Binds K fdT ["tally"] []) (mT:mg "check_tally"=some (.ref fT)) (FF:Fun K "first_of_order" "first_of_order" aa9 fF fdF) (bF:Binds K fdF ["tally","many","passed_over"] []) (mF:mg "first_of_order"=some (.ref fF))
    (FL:Fun K "left_of_others" "left_of_others" am6 fL fdL) (bL:Binds K fdL ["tally","place","ends"] []) (mL:mg "left_of_others"=some (.ref fL))
    (mM:mg "MOST_PLACES"=some (.int 24 tk)) (mB:mg "BadTally"=some (.ref CB)) (cB:ar4 K CB):x5 P w K mg base CX0 4 f fd ["tally","place","ends"] (bl3 K PT):=by
  have GF:x5 P w K mg base (CXE P w) 3 fF fdF ["tally","many","passed_over"] (aH0 K PT):=aO1 FF B FO bO mO hc LB FT bT mT mM mB cB
  have GL:x5 P w K mg base CX0 3 fL fdL ["tally","place","ends"] (bl2 K):=(bA9 FL B).mono (by decide)
  have GV:x5 P w K mg base CX0 3 fV fdV ["places","ties"] (bl1 K):=bA6 FV B FI bI mI FU bU mU mM
  refine F.ok ae0 (fun cdv A outer s H vs Q E hr h=>?_)
  obtain⟨a,ea,ns,es,p,rfl,hS,ht,hp,hea,ne,hel,he,hn,hg,tb,q⟩:=h
  have hsl:=M5
  have t2:=ht.2
  have nd1:(["end","place"]:List Str).Nodup:=by decide +kernel
  have nd2:(["one","place"]:List Str).Nodup:=by decide +kernel
  have nd3:(["one","places"]:List Str).Nodup:=by decide +kernel
  refine⟨_,d7 (au9 (i:=3) ae0.nd rfl rfl (by rfl) (N':=["end","place"]) (lk:=[none,some 1]) rfl (O8 (pv 2)) (by rfl) rfl (by decide +kernel) (by exact⟨rfl,trivial⟩) (by rfl) (by exact LkL.ok ⟨⟨rfl,Or.inl rfl,rfl,Or.inl rfl⟩,trivial⟩)
        (fun _ _ _=>A2 (i:=0) nd1 rfl (Or.inl rfl)) (fun _ _ _=>M8) (fun _ _ _=>O9 (a6 (pv 1) (a6 (pv 0) c7))))
    (d7 (u7 (i:=4) ae0.nd rfl (Or.inr rfl) (K8 (N':=["one","place"]) (lk:=[none,some 1]) rfl (O0 rfl B.range (a6 (p7 v9 (by rfl) B.len PySem.boot_len (a6 (pv 0) c7)) c7)) (by rfl) rfl (by decide +kernel) (by exact⟨rfl,trivial⟩) (by rfl) (by exact LkL.ok ⟨⟨rfl,Or.inl rfl,rfl,Or.inl rfl⟩,trivial⟩)
        (fun _ _ _=>A2 (i:=0) nd2 rfl (Or.inl rfl)) (fun _ _ _=>ah1 (p6 aE2 (pv 0) (pv 1) (A1 _))) (fun _ _ _=>pv 0)))
    (d7 (u7 (i:=5) ae0.nd rfl (Or.inl rfl) (u9 GL hr (by rfl) mL FL.kp bL .nil F2 (a6 (pv 0) (a6 (pv 1) (a6 (pv 2) c7)))))
    (d7 (aN5 PassesOwn.never (aN4 (pv 5) (fun _=>rfl))
      (d7 (u7 (i:=6) ae0.nd rfl (Or.inl rfl) (u9 GF hr (by rfl) mF FF.kp bF .nil (bn9 (P:=P) (w:=w)) (a6 (pv 5) (a6 (C6 D0 (pv 5) c9 (fun _ _=>rfl)) (a6 (Q7 (a6 c9 c7)) c7)))))
      (d7 (bM9 (i:=3) ae0.nd rfl (Or.inl rfl) (K8 (N':=["one","places"]) (lk:=[none,some 4]) rfl (O8 (pv 6)) (by rfl) rfl (by decide +kernel) (by exact⟨rfl,trivial⟩) (by rfl) (by exact LkL.ok ⟨⟨rfl,Or.inl rfl,rfl,Or.inl rfl⟩,trivial⟩)
          (fun _ _ _=>A2 (i:=0) nd3 rfl (Or.inl rfl)) (fun _ _ _=>M8) (fun _ _ _=>O9 (a6 (X2 K rfl (pv 1) c9 (fun _ _=>rfl)) (a6 (X2 K rfl (pv 1) (pv 0) (fun _ _=>rfl)) c7)))) bQ0)
      (d7 (u7 (i:=5) ae0.nd rfl (Or.inl rfl) (u9 GL hr (by rfl) mL FL.kp bL .nil F2 (a6 (pv 5) (a6 c9 (a6 (pv 6) c7)))))
      (j7 (u7 (i:=4) ae0.nd rfl (Or.inr rfl) (L4 Q4 (pv 4) (N9 c9) Q5)))))))
    (j7 (u4 (u9 GV hr (by rfl) mV FV.kp bV .nil F2 (a6 (p7 v9 (by rfl) B.len PySem.boot_len (a6 (pv 0) c7)) (a6 (pv 3) c7)))))))),?_⟩
  have hun:=hr.units
  refine⟨_,rfl,ea,rfl,⟨_,hea⟩,fun D hD=>J7 (K:=K) (a:=ea) (D:=D) (ys:=es.map V.int) (fun i xs σ' H'=>(∃ v,σ'=[v,some (.int p)])/\o8 H H'/\H' D=some (.lst xs)/\B3 K H' xs (star p (es.take i)))
    ⟨⟨none, rfl⟩, d6 hD, a9, .nil⟩ (by rw [a5]; omega) (fun i xs σ' H' hi ⟨_, s6, h6, t6⟩ => ⟨s6.seq hea, h6, by
      have h7:=t6.len
      unfold star at h7
      rw[a5,l6]at h7
      omega⟩) ?_ ?_⟩
  · rintro i xs x σ' H' N kN hx ⟨⟨v,rfl⟩,s6,h6,t6⟩
    obtain⟨z,hz,rfl⟩:=U7 hx
    refine B2 (G7 ?_)
    refine⟨_,rfl,_,rfl,(by show 2<=f6;decide),fun t ft=>?_⟩
    have st:=d6 (o:=.tup [.int (p:Int),.int z]) ft
    have h6':=st _ _ h6
    refine⟨h6',kN _ _ _ ⟨⟨_,rfl⟩,(s6.trans st).upd hD,a9,?_⟩⟩
    have et:star p (es.take (i+1))=star p (es.take i)++[[(p:Int),z]]:=by
      unfold star
      rw[o5,hz,c8]
      rfl
    rw[et]
    refine B3.updL h6' (B3.append (st.tups t6) (B3.one (SqT.of ?_)))
    exact a9
  · rintro xs σ' H1 ⟨⟨v,rfl⟩,s1,h1,t1⟩
    rw[j5 (by rw[a5];exact c6 _)]at t1
    have hS1:=hS.same s1
    refine⟨_,rfl,a,_,rfl,hS1,(ns.length:Int),congrArg (fun z:Nat=>[V.int (z:Int)]) (a5 ..),by omega,by omega,fun D2 hD2=>?_⟩
    rw[p0]
    refine al3 (lo:=0) (n:=ns.length) (D:=D2) (fun i xs σ' H'=>(∃ v,σ'=[v,some (.int p)])/\o8 H1 H'/\H' D2=some (.lst xs)/\xs=(J6 i p).map V.int) ⟨⟨none,rfl⟩,d6 hD2,a9,rfl⟩ (by omega)
      (fun i xs σ' H' hi ⟨_,s6,h6,e6⟩=>⟨h6,by
        rw[e6,a5]
        unfold J6
        rw[a5]
        have:=K1 (fun j=>decide (j≠p)) (x8 i)
        rw[G4]at this
        exact this⟩) ?_ ?_
    · rintro i xs σ' H' N kN hi ⟨⟨v,rfl⟩,s6,h6,rfl⟩
      have e0:((0:Int)+(i:Int))=(i:Int):=by omega
      rw[e0]
      refine B2 ?_
      refine⟨_,rfl,_,rfl,rfl,_,rfl,?_⟩
      have et:J6 (i+1) p=J6 i p++(if i=p then [] else [(i:Int)]):=by
        unfold J6
        rw[M0,J9,c8]
        congr 1
        by_cases h:i=p<;>simp[h]
      by_cases hm:i=p
      · refine bq4 (by rw[hm]) ?_
        refine kN _ _ _ ⟨⟨_,rfl⟩,s6,h6,?_⟩
        rw[et,if_pos hm,F4]
      · rw[decide_eq_false (show ¬ (V.int (i:Int)=V.int (p:Int)) from fun z=>hm (by injection z;omega))]
        refine F8 ?_
        refine⟨_,rfl,h6,kN _ _ _ ⟨⟨_,rfl⟩,s6.upd hD2,a9,?_⟩⟩
        rw[et,if_neg hm,c8]
        rfl
    · rintro xs2 σ' H2 ⟨⟨v2,rfl⟩,s2,h2,rfl⟩
      have s12:=s1.trans s2
      refine⟨_,rfl,_,rfl,_,rfl,a,ea,ns,es,p,rfl,hS.same s12,t2,s12.seq hea,fun l3 H3 s3 f3 g3=>?_⟩
      have s23:=s2.trans s3
      refine⟨fun m σ Ha=>∃ (ks:List (List Int)) (ps left:List Int) (zs:List V) (pa la:Addr) (e6:Option V),σ=[some (.ref a),some (.int p),some (.ref ea),some (.ref D),some (.ref pa),some (.ref la),e6]/\left.length=m/\m<24/\ag0 ns ps left ks/\Gr left/\ks++bp5 m left ps=aQ2 ns p es/\Ha D=some (.lst zs)/\B3 K Ha zs ks /\
          Ha pa=some (.lst (ps.map V.int))/\pa≠D/\Ha la=some (.lst (left.map V.int))/\la≠D/\O4 PT H Ha/\Tb PT Ha,
        ⟨ns.length - 1,star p es,J6 ns.length p,R8 ns p es,xs,D2,l3,none,rfl,ah6 hp,by omega,ag0.start hp ne he hn,hg,rfl,s23 _ _ h1,s23.tups t1,s3 _ _ h2,(u5 h1 hD2).symm,g3,(u5 (s2 _ _ h1) f3).symm,(s12.trans s3).grow PT,tb.same (s12.trans s3)⟩,?_⟩
      rintro m σ Ha ⟨ks,ps,left,zs,pa,la,e6,rfl,hm,hm2,hI,hG,hF,gD,tD,gp,np,gl,nl,gr,tbA⟩
      have hpl:=hI.len
      refine⟨_,rfl,!(left.map V.int).isEmpty,.inl ⟨_,SqL.of gl,rfl⟩,?_⟩
      cases m with
      | zero =>
        obtain rfl:left=[]:=bi6.mp hm
        obtain rfl:ps=[]:=bi6.mp hpl.symm
        have hF:ks=aQ2 ns p es:=by
          have:ks++[]=aQ2 ns p es:=hF
          rw[F4]at this
          exact this
        have hle:=hI.len_le t2
        refine F0 ?_
        refine⟨_,rfl,a,_,rfl,hS.grow gr tb,_,rfl,ns.length,D,zs,ks,by rw[a5];rfl,ht.1,t2,.inl (SqL.of gD),tD,hI.ends,hI.nodup,by omega,fun r t zs2 ks2 H' s' _ _ k1 k2 tt pm so=>?_⟩
        refine q r t zs2 ks2 H' (gr.trans (s'.grow PT)) (tbA.same s') k1 k2 tt (by rw[<- hF];exact pm) so ?_ (fun k hk=>?_) (pm.nodup_iff.mpr hI.nodup)
        · rw[bk1 pm,bK5 hI.ends]
          exact hI.last
        · obtain⟨k',hk',rfl⟩:=m5.mp (pm.mem_iff.mp hk)
          exact(hI.ends k' hk').up
      | succ m =>
        have h0:0<left.length:=by omega
        have hnn:=af9 (az9 hG) h0
        obtain⟨k,hk⟩:∃ k:Nat,left.getD 0 0=(k:Int):=⟨(left.getD 0 0).toNat,by omega⟩
        have at0:atI (left.map V.int) 0=some (.int (k:Int)):=by
          rw[<- hk]
          exact al4 (j:=0) h0
        have hne:(left.map V.int).isEmpty=false:=by
          cases left with
          | nil=>exact absurd h0 (C2 _)
          | cons _ _=>rfl
        rw[hne]
        refine F8 ⟨_,fun σ' H' h=>⟨m,Nat.lt_succ_self m,h⟩,?_⟩
        refine⟨_,rfl,_,rfl,la,_,_,_,rfl,rfl,SqL.of gl,at0,(by show 1<=f6;decide),fun lz fz=>?_⟩
        have sz:=d6 (o:=.lst [.int 0]) fz
        refine⟨la,lz,left,[0],k,rfl,.inl (SqL.of (sz _ _ gl)),⟨by omega,by omega⟩,SqL.of a9,tbA.same sz,fun os D4 Hc gc tbC f4 hp4 hs4 g4=>?_⟩
        have ech:(T9 [0] os).take k=chF left 0:=by
          rw[aD9,aZ9 hp4 hs4]
          unfold chF
          rw[hk,p0]
          rfl
        rw[ech]at g4
        have tbz:=tbA.same sz
        have gDc:=af7 gc tbz (sz _ _ gD)
        have gpc:=af7 gc tbz (sz _ _ gp)
        have glc:=af7 gc tbz (sz _ _ gl)
        have tDc:=aE8 gc tbz (sz.tups tD)
        have grc:=gr.trans ((sz.grow PT).trans gc)
        have n4:D4≠D:=(u5 (sz _ _ gD) f4).symm
        have hcl:(chF left 0).length<=24:=by
          have h1:=aJ5 hG h0
          have h2:=bb1 hG h0
          omega
        have hgo:=hI.go hG h0
        have hle:=hgo.len_le t2
        generalize upd Ha lz (.lst [.int 0])=Hz at gc f4
        refine⟨_,rfl,_,rfl,D4,rfl,⟨_,SqL.of g4⟩,fun D5 hD5=>J7 (K:=K) (a:=D4) (D:=D5) (ys:=(chF left 0).map V.int) (fun i xs σ' H'=>(∃ v,σ'=[v,some (.ref pa)])/\o8 Hc H'/\H' D5=some (.lst xs)/\B3 K H' xs (star (ps.getD 0 0) (((chF left 0).take i).map fun z=>ps.getD z.toNat 0)))
          ⟨⟨none, rfl⟩, d6 hD5, a9, .nil⟩ (by rw [a5]; omega) (fun i xs σ' H' hi ⟨_, s6, h6, t6⟩ => ⟨SqL.of (s6 _ _ g4), h6, by
            have h7:=t6.len
            unfold star at h7
            rw[a5,a5,l6]at h7
            omega⟩) ?_ ?_⟩
        · rintro i xs x σ' H' N kN hx ⟨⟨v,rfl⟩,s6,h6,t6⟩
          obtain⟨z,hz,rfl⟩:=U7 hx
          have hz2:=aW8 (b8 hz)
          obtain⟨j,rfl⟩:∃ j:Nat,z=(j:Int):=⟨z.toNat,by omega⟩
          refine B2 (G7 ?_)
          have hpa6:Sq K H' pa ps:=.inl (SqL.of (s6 _ _ gpc))
          refine⟨_,rfl,aP5 (j:=0) hpa6 (by omega) ⟨_,rfl,_,rfl,aP5 hpa6 (j:=j) (by omega) ⟨(by show 2<=f6;decide),fun t ft=>?_⟩⟩⟩
          have st:=d6 (o:=.tup [.int (ps.getD 0 0),.int (ps.getD j 0)]) ft
          have h6':=st _ _ h6
          refine⟨h6',kN _ _ _ ⟨⟨_,rfl⟩,(s6.trans st).upd hD5,a9,?_⟩⟩
          have et:star (ps.getD 0 0) (((chF left 0).take (i+1)).map fun z=>ps.getD z.toNat 0)=star (ps.getD 0 0) (((chF left 0).take i).map fun z=>ps.getD z.toNat 0)++[[ps.getD 0 0,ps.getD j 0]]:=by
            unfold star
            rw[o5,hz,c8,c8]
            rfl
          rw[et]
          refine B3.updL h6' (B3.append (st.tups t6) (B3.one (SqT.of ?_)))
          exact a9
        · rintro xs5 σ' H5 ⟨⟨v5,rfl⟩,s5,h5,t5⟩
          rw[j5 (by rw[a5];exact c6 _)]at t5
          have gD5:=s5 _ _ gDc
          have hl5:=t5.len
          have hlD:=tDc.len
          rw[i9]at hle
          refine⟨D,D5,zs,xs5,rfl,rfl,gD5,h5,by omega,?_⟩
          have fD:H D=none:=hD
          have gu:O4 PT H (upd H5 D (.lst (zs++xs5))):=by
            intro b o nb hb
            rw[t8 (u5 hb fD)]
            exact(grc.trans (s5.grow PT)) b o nb hb
          have tb6:Tb PT (upd H5 D (.lst (zs++xs5))):=by
            obtain⟨ps',hP,hx⟩:=tbC.same s5
            refine⟨ps',?_,hx.1,hx.2.imp id fun⟨c',e,h⟩=>⟨c',e,by rw[t8 (fun z=>by rw[z,gD5]at h;cases h)];exact h⟩⟩
            rw[t8 (fun z=>by rw[z,gD5]at hP;cases hP)]
            exact hP
          have gl6:(upd H5 D (.lst (zs++xs5))) la=some (.lst (left.map V.int)):=by rw[t8 nl];exact s5 _ _ glc
          have gp6:(upd H5 D (.lst (zs++xs5))) pa=some (.lst (ps.map V.int)):=by rw[t8 np];exact s5 _ _ gpc
          have g46:(upd H5 D (.lst (zs++xs5))) D4=some (.lst ((chF left 0).map V.int)):=by rw[t8 n4];exact s5 _ _ g4
          have gD6:(upd H5 D (.lst (zs++xs5))) D=some (.lst (zs++xs5)):=a9
          have t6:B3 K (upd H5 D (.lst (zs++xs5))) (zs++xs5) (ks++star (ps.getD 0 0) ((chF left 0).map fun z=>ps.getD z.toNat 0)):=B3.updL gD5 (B3.append (s5.tups tDc) t5)
          generalize upd H5 D (.lst (zs++xs5))=H6 at gu tb6 gl6 gp6 g46 gD6 t6 ⊢
          refine⟨_,rfl,_,rfl,la,D4,left,chF left 0,0,rfl,.inl (SqL.of gl6),by omega,SqL.of g46,fun l7 H7 s7 f7 g7=>?_⟩
          refine⟨_,rfl,_,rfl,pa,ps.map V.int,rfl,SqL.of (s7 _ _ gp6),fun l8 f8=>?_⟩
          have ec:al1 (ps.map V.int) (some 1) none=(ps.drop 1).map V.int:=Y6 ps 1
          rw[ec]
          have s8:=d6 (o:=.lst ((ps.drop 1).map V.int)) f8
          have s78:=s7.trans s8
          refine⟨_,ps.drop 1,R8 left 0 (chF left 0),zs++xs5,l8,l7,_,rfl,by rw[ah6 h0];omega,by omega,hgo,bt0 hG h0,?_,s78 _ _ gD6,s78.tups t6,a9,(u5 (s7 _ _ gD6) f8).symm,s8 _ _ g7,(u5 gD6 f7).symm,gu.trans (s78.grow PT),tb6.same s78⟩
          rw[q8]
          exact hF
end
structure ca8 (K:W.Frag) (H:Hp) (b:Addr) (ns:List Int) (ks:List (List Int)):Prop where
 at_:∃ t zs,H b=some (.tup [.int ns.length,.ref t])/\H t=some (.tup zs)/\B3 K H zs ks
 prm:ks.Perm ((aQ2 ns 0 (chF ns 0)).map up)
 srt:ks.Pairwise (fun a b=>Tim.J3 b a=false)
 tal_:tal ns.length ks=ns
 ups:∀ k∈ks,Up ns.length k
 nd:ks.Nodup
def bI1 (K:W.Frag)(H:Hp)(r:Addr)(ns:List Int):Prop:=
 (∃ (x:Wl) (b:Addr),x≠.free/\aB0 ns x/\H r=some (.tup [.str "wall",.ref b])/\H b=some (.tup (wlT x))) \/
 (Gr ns/\∃ (b:Addr) (ks:List (List Int)),H r=some (.tup [.str "web",.ref b])/\ca8 K H b ns ks)
section
variable {K:W.Frag} {mg:Str->Option Value} {base:Heap}
def bl8 (K:W.Frag)(CB PT:Addr):Sp:=fun vs H Q E=>∃ (a:Addr) (ns:List Int),vs=[.ref a]/\Sq K H a ns/\(af6 ns->Tb PT H/\∀ (r:Addr) (H':Hp),O4 PT H H'->Tb PT H'->bI1 K H' r ns->Q (.ref r) H')/\(¬ af6 ns->E (.ref CB) none H)
theorem bm2:t9 ["tally","wall"] ["tally"] (i6 aM8):=.mk'
set_option maxHeartbeats 2000000 in
theorem bO7 {fI fU fV fO fF fL fY fW fG fA fβ fω CB c PT:Addr}{fdU fdV fdF fdL fdY fdW fdG fdβ fdω:FuncData}{tk:Tok}(F:Fun K "answered" "answered" aM8 f fd)(B:Bn mg)(FI:Fun K "is_place" "is_place" ax3 fI fdI)(bI:Binds K fdI ["places","number"] [])(mI:mg "is_place"=some (.ref fI))
  (FU:Fun K "turned_up" "turned_up" sUp fU fdU)(bU:Binds K fdU ["places","tie"] [])(mU:mg "turned_up"=some (.ref fU))(FV:Fun K "made" "made" am5 fV fdV)(bV:Binds K fdV ["places","ties"] [])(mV:mg "made"=some (.ref fV))
  (FO:Fun K "order_of" "order_of" ax1 fO fdO)(bO:Binds K fdO ["tally"] [])(mO:mg "order_of"=some (.ref fO))(hc:fdO.code=.ref c)(LB:au4 base mg c PT)
  (FT:Fun K "check_tally" "check_tally" ap6 fT fdT)(bT:Binds K fdT ["tally"] [])(mT:mg "check_tally"=some (.ref fT))(FF:Fun K "first_of_order" "first_of_order" aa9 fF fdF)(bF:Binds K fdF ["tally","many","passed_over"] [])(mF:mg "first_of_order"=some (.ref fF))
  (FL:Fun K "left_of_others" "left_of_others" am6 fL fdL)(bL:Binds K fdL ["tally","place","ends"] [])(mL:mg "left_of_others"=some (.ref fL))(FY:Fun K "laid_around" "laid_around" as5 fY fdY)(bY:Binds K fdY ["tally","place","ends"] [])(mY:mg "laid_around"=some (.ref fY))
  (FW:Fun K "wall_of" "wall_of" as1 fW fdW)(bW:Binds K fdW ["tally"] [])(mW:mg "wall_of"=some (.ref fW))(FG:Fun K "falling" "falling" ai8 fG fdG)(bG:Binds K fdG ["tally"] [])(mG:mg "falling"=some (.ref fG))
  (FA:Fun K "room_among" "room_among" Y3 fA fdA)(bA:Binds K fdA ["numbers","most","r"] [])(mA:mg "room_among"=some (.ref fA))(Fβ:Fun K "places_below" "places_below" Y2 fβ fdβ)(bβ:Binds K fdβ ["numbers"] [])(mβ:mg "places_below"=some (.ref fβ))(Fω:Fun K "wall_with" "wall_with" aa8 fω fdω)(bω:Binds K fdω ["tally","most"] [])(mω:mg "wall_with"=some (.ref fω))
  (mM:mg "MOST_PLACES"=some (.int 24 tk))(mB:mg "BadTally"=some (.ref CB))(cB:ar4 K CB):x5 P w K mg base (CXE P w) 5 f fd ["tally"] (bl8 K CB PT):=by
 have GF:x5 P w K mg base (CXE P w) 4 fF fdF ["tally","many","passed_over"] (aH0 K PT):=(aO1 FF B FO bO mO hc LB FT bT mT mM mB cB).mono (by decide)
 have GY:x5 P w K mg base CX0 4 fY fdY ["tally","place","ends"] (bl3 K PT):=bB0 FY B FI bI mI FU bU mU FV bV mV FO bO mO hc LB FT bT mT FF bF mF FL bL mL mM mB cB
 have GW:x5 P w K mg base (CXE P w) 4 fW fdW ["tally"] (bk7 K CB):=(bA2 FW B FT bT mT FG bG mG FA bA mA Fβ bβ mβ Fω bω mω mM mB cB).mono (by decide)
 refine F.okX bm2 (fun cdv A outer s H vs Q E hr h=>?_)
 obtain⟨a,ns,rfl,hS,h1,h2⟩:=h
 have hsl:=M5
 refine⟨_,d7 (u7 (i:=1) bm2.nd rfl (Or.inl rfl) (u9 GW hr (by rfl) mW FW.kp bW .nil aN8 (a6 (pv 0) c7)))
  (d7 (E5 (p6 ba1 (pv 1) Q6 (A1 _)) (j7 (u4 (O9 (a6 D8 (a6 (pv 1) c7))))) A6)
  (j7 (u4 (O9 (a6 D8 (a6 (u9 GY hr (by rfl) mY FY.kp bY .nil F2 (a6 (pv 0) (a6 c9 (a6 (u9 GF hr (by rfl) mF FF.kp bF .nil (bn9 (P:=P) (w:=w)) (a6 (pv 0) (a6 (X2 K rfl (pv 0) c9 (fun _ _=>rfl)) (a6 (Q7 (a6 c9 c7)) c7)))) c7)))) c7)))))),?_⟩
 refine⟨_,rfl,a,ns,rfl,hS,fun ht v x H1 s1 hw hv=>?_,h2⟩
 obtain⟨tb,q⟩:=h1 ht
 have t2:=ht.2
 refine⟨_,rfl,rfl,_,rfl,?_⟩
 obtain⟨rfl,rfl⟩ | ⟨hx,b,rfl,gb⟩:=hv
 ·have hG:=bD3 hw
  refine F0 ?_
  have h0:0<ns.length:=ht.1
  have hnn:=af9 (az9 hG) h0
  obtain⟨k,hk⟩:∃ k:Nat,ns.getD 0 0=(k:Int):=⟨(ns.getD 0 0).toNat,by omega⟩
  have hS1:=hS.same s1
  have tb1:=tb.same s1
  refine⟨_,rfl,_,rfl,_,rfl,aP5 (j:=0) hS1 h0 ?_⟩
  rw[hk]
  refine⟨(by show 1<=f6;decide),fun lz fz=>?_⟩
  have sz:=d6 (o:=.lst [.int 0]) fz
  refine⟨a,lz,ns,[0],k,rfl,hS1.same sz,ht,SqL.of a9,tb1.same sz,fun os D4 Hc gc tbC f4 hp4 hs4 g4=>?_⟩
  have ech:(T9 [0] os).take k=chF ns 0:=by
   rw[aD9,aZ9 hp4 hs4]
   unfold chF
   rw[hk,p0]
   rfl
  rw[ech]at g4
  have hcl:=aJ5 hG h0
  have hlt:=bb1 hG h0
  refine⟨a,D4,ns,chF ns 0,0,rfl,(hS1.same sz).grow gc (tb1.same sz),ht,h0,SqL.of g4,bs9 ns 0,by omega,fun z hz=>aW8 hz,hcl,bt0 hG h0,tbC,fun r t zs ks H5 g5 tb5 k1 k2 tt pm so tl ups nd=>?_⟩
  refine⟨(by show 2<=f6;decide),fun p fp=>?_⟩
  have sp:=d6 (o:=.tup [.str "web",.ref r]) fp
  exact q p _ ((((s1.trans sz).grow PT).trans (gc.trans g5)).trans (sp.grow PT)) (tb5.same sp) (.inr ⟨hG,r,ks,a9,⟨⟨t,zs,sp _ _ k1,sp _ _ k2,sp.tups tt⟩,pm,so,tl,ups,nd⟩⟩)
 ·refine F8 ⟨_,rfl,(by show 2<=f6;decide),fun p fp=>?_⟩
  have sp:=d6 (o:=.tup [.str "wall",.ref b]) fp
  exact q p _ ((s1.trans sp).grow PT) (tb.same (s1.trans sp)) (.inl ⟨x,b,hx,hw,a9,sp _ _ gb⟩)
end
end Web
namespace L2
open PySem PySem.Spec PyProof.Rows
def sgn (x:Str):List V:=x.cps.toList.map fun c=>V.str ⟨#[c]⟩
theorem E3 (x:Str):x.cps.toList.length=x.length:=j3
def Its (x:Str):It:=⟨fun i _=>i<x.length,fun i H y H'=>H'=H/\(sgn x)[i]?=some y,fun i _=>x.length<=i⟩
theorem aU3 (h:i<x.length):x.cps[i]?=some (x.cps.toList.getD i 0)/\(sgn x)[i]?=some (.str ⟨#[x.cps.toList.getD i 0]⟩):=by
 have hl:i<x.cps.toList.length:=by rw[E3];exact h
 have e:x.cps.toList[i]?=some (x.cps.toList.getD i 0):=by rw[m6,g9 hl];rfl
 refine⟨by rw[<- b9];exact e,?_⟩
 unfold sgn
 rw[m9,e]
 rfl
theorem be0 {K:W.Frag}(x:Str)(t:Tok)(it:Addr):Turn P w K tg (Its x) [it] it (fun i h=>h.IsStrIter it "str_ascii_iterator" x t i) where
 mem:=by simp
 obj:=fun i h st b hb=>by
  have e:b=it:=by simpa using hb
  subst e
  obtain⟨o,e,c,d⟩:=st
  exact⟨o,e,fun v z=>by rw[d]at z;cases z⟩
 keep:=fun i h h' st k=>let ⟨o,ho,r⟩:=st;⟨o,k it (by simp) o ho,r⟩
 item:=by
  intro X hP hw hK hc i pins s σ H E I hf st hg
  subst hP hw hK
  obtain⟨f0,f1,f2,f3,f4,f5⟩:=hf it (by simp)
  obtain⟨e1,e2⟩:=aU3 (show i<x.length from hg)
  refine wpAny_pyNext_ascii_item st e1 fun h' st' sb=>?_
  have I1:Inv X pins σ H { s with heap:=h',toks:=s.toks+1 }:=I.turned (fun b o hb e=>sb.extBut b o hb e) f0 f1 f3 f4 f5
  obtain⟨o,e,c,d⟩:=id st'
  exact⟨_,rfl,aP9 (s:={ s with heap:=h',toks:=s.toks+1 }) e c d (by decide) ⟨.str ⟨#[x.cps.toList.getD i 0]⟩,H,I1,⟨_,rfl⟩,⟨rfl,e2⟩,st',fun b hb=>(hf b hb).1⟩⟩
 done:=by
  intro X hP hw hK hc i pins s σ H E I hf st hg
  subst hP hw hK
  obtain⟨f0,f1,f2,f3,f4,f5⟩:=hf it (by simp)
  have hg':x.cps.size<=i:=hg
  exact wpAny_pyNext_ascii_end (I.ok.hd hc) st (by simpa using hg') fun h' eb=>⟨rfl,I.turned (t':=s.toks) (fun b o hb e=>eb b o hb e) f0 f1 f3 f4 f5⟩
 self:=fun _ _ _ _ _ st h=>wpAny_pyIter_striter_ascii st h
theorem bd9 {K:W.Frag}(x:Str)(t:Tok)(it:Addr):Turn P w K tg (Its x) [it] it (fun i h=>h.IsStrIter it "str_iterator" x t i) where
 mem:=by simp
 obj:=fun i h st b hb=>by
  have e:b=it:=by simpa using hb
  subst e
  obtain⟨o,e,c,d⟩:=st
  exact⟨o,e,fun v z=>by rw[d]at z;cases z⟩
 keep:=fun i h h' st k=>let ⟨o,ho,r⟩:=st;⟨o,k it (by simp) o ho,r⟩
 item:=by
  intro X hP hw hK hc i pins s σ H E I hf st hg
  subst hP hw hK
  obtain⟨f0,f1,f2,f3,f4,f5⟩:=hf it (by simp)
  obtain⟨e1,e2⟩:=aU3 (show i<x.length from hg)
  refine wpAny_pyNext_wide_item st e1 fun h' st' sb=>?_
  have I1:Inv X pins σ H { s with heap:=h',toks:=s.toks+1 }:=I.turned (fun b o hb e=>sb.extBut b o hb e) f0 f1 f3 f4 f5
  obtain⟨o,e,c,d⟩:=id st'
  exact⟨_,rfl,aP9 (s:={ s with heap:=h',toks:=s.toks+1 }) e c d (by decide) ⟨.str ⟨#[x.cps.toList.getD i 0]⟩,H,I1,⟨_,rfl⟩,⟨rfl,e2⟩,st',fun b hb=>(hf b hb).1⟩⟩
 done:=by
  intro X hP hw hK hc i pins s σ H E I hf st hg
  subst hP hw hK
  obtain⟨f0,f1,f2,f3,f4,f5⟩:=hf it (by simp)
  have hg':x.cps.size<=i:=hg
  exact wpAny_pyNext_wide_end (I.ok.hd hc) st (by simpa using hg') fun h' eb=>⟨rfl,I.turned (t':=s.toks) (fun b o hb e=>eb b o hb e) f0 f1 f3 f4 f5⟩
 self:=fun _ _ _ _ _ st h=>wpAny_pyIter_striter_wide st h
def cd9 (tl:TE):TI:=fun σ H R=>tl σ H fun x H1=>∃ z,x=.str z/\R (Its z) H1
theorem bn2 {l:Expr}{tl:TE}(hl:PE X l tl):PI X tg l (cd9 tl):=by
 intro pins s σ H R I h
 refine thn (hl pins s σ H _ I h) fun v s1 ⟨x,H1,I1,r1,q1⟩=>?_
 obtain⟨z,rfl,q⟩:=q1
 obtain⟨t,rfl⟩:=r1
 have fp:∀ b∈[s1.heap.objs.size],M7 X pins H1 b:=fun b hb=>by
  have e:b=s1.heap.objs.size:=by simpa using hb
  subst e
  exact I1.fpOk (c6 _) (I1.hok.fresh (c6 _))
 cases ha:z.cps.all (·<128)
 ·exact wpAny_pyIter_wide ha ⟨s1.heap.objs.size,[s1.heap.objs.size],_,_,H1,rfl,I1.kept (t':=s1.toks) fun b o e=>a8 _ e,bd9 z t _,⟨_,j8 _ rfl,rfl,rfl⟩,fp,q⟩
 ·exact wpAny_pyIter_ascii ha ⟨s1.heap.objs.size,[s1.heap.objs.size],_,_,H1,rfl,I1.kept (t':=s1.toks) fun b o e=>a8 _ e,be0 z t _,⟨_,j8 _ rfl,rfl,rfl⟩,fp,q⟩
def cd0:V->Option Int->Option Int->Hp->VK->Prop:=fun v lo hi H Q=>∃ x,v=.str x/\x.length<=f6/\Q (.str (Txt.slice x lo hi)) H
theorem bL9:SlR X cd0:=by
 intro pins s σ H x v vl vu lo hi sl Q I rx hs pl pu h
 obtain⟨z,rfl,hz,q⟩:=h
 obtain⟨t,rfl⟩:=rx
 refine⟨"str",_,F.slot_str_getitem.lookup,aj6 _ _ _,?_⟩
 have fin:∀ t' k,EP X pins σ Q (.str (Txt.slice z lo hi) t') { s with toks:=k }:=fun t' k=>⟨.str _,H,I.tok _,⟨_,rfl⟩,q⟩
 have hl:(Txt.slice z lo hi).length<=f6:=p9 (Txt.slice_le z _ _) hz
 cases pl with
 | none =>
  cases pu with
  | none=>exact U4 (l:=none) (u:=none) (st:=none) hs rfl (at8 ⟨hl,fin⟩)
  | int j uj=>exact U4 (l:=none) (u:=some (j,uj)) (st:=none) hs rfl (at8 ⟨hl,fin⟩)
 | int i ui =>
  cases pu with
  | none=>exact U4 (l:=some (i,ui)) (u:=none) (st:=none) hs rfl (at8 ⟨hl,fin⟩)
  | int j uj=>exact U4 (l:=some (i,ui)) (u:=some (j,uj)) (st:=none) hs rfl (at8 ⟨hl,fin⟩)
def by8:V->List V->Hp->VK->Prop:=fun x vs H Q=>∃ a b,x=.str a/\vs=[.str b]/\Q (.bl (Txt.startswith a b)) H
theorem bf7:MtR X "str.startswith" by8:=by
 intro pins s σ H x vs v us Q I rx rv h
 obtain⟨a,b,rfl,rfl,q⟩:=h
 obtain⟨t,rfl⟩:=rx
 obtain⟨u,rfl,t',rfl⟩:=A8.one rv
 exact SC.startswith ⟨.bl _,H,I,rfl,q⟩
theorem aj0:R1 X (.type "int") (fun xs H Q=>∃ x n,xs=[.str x]/\PySem.intText? x=some n/\x.length<=640/\Q (.int n) H):=by
 intro pins s σ H xs us Q I r h
 obtain⟨x,n,rfl,hn,hl,q⟩:=h
 obtain⟨u,rfl,t,rfl⟩:=vals1 r
 exact PySem.W.KIN.call_text hn hl ⟨.int n,H,I.tok _,⟨_,rfl⟩,q⟩
theorem aR0 {D:Addr}{g:TG}{tt:TT}{σ0:St}{H0:Hp}(Pv:Nat->List V->St->Hp->Prop)(h0:Pv 0 [] σ0 H0)(hz:x.length<=f6)(hl:∀ i xs σ H,i<=x.length->Pv i xs σ H->H D=some (.lst xs)/\xs.length<=i)
  (hs:∀ i xs c σ H (N:List V->St->Hp->Prop),(∀ xs' σ' H',Pv (i+1) xs' σ' H'->N xs' σ' H')->x.cps.toList[i]?=some c->Pv i xs σ H->g (.str ⟨#[c]⟩) σ H fun σ2 H2=>tt σ2 H2 fun b H3=>if b=true then te σ2 H3 fun v H4=>H4 D=some (.lst xs)/\N (xs++[v]) σ2 (upd H4 D (.lst (xs++[v]))) else N xs σ2 H3)
  (hd:∀ xs σ H,Pv x.length xs σ H->Qd H) :
  ∃ W:Nat->Nat->List V->St->Hp->Prop,(∃ m,W 0 m [] σ0 H0)/\∀ i m xs σ' H',W i m xs σ' H'->H' D=some (.lst xs)/\(((Its x).stop i H'/\Qd H')\/((Its x).go i H'/\xs.length<f6/\∀ y H'',(Its x).yld i H' y H''->g y σ' H'' fun σ2 H2=>tt σ2 H2 fun b H3 =>
   if b=true then te σ2 H3 fun v H4=>H4 D=some (.lst xs)/\∃ m',m'<m/\W (i+1) m' (xs++[v]) σ2 (upd H4 D (.lst (xs++[v]))) else ∃ m',m'<m/\W (i+1) m' xs σ2 H3)):=by
 refine⟨fun i m xs σ H=>m=x.length - i/\i<=x.length/\Pv i xs σ H,⟨x.length,by simp,o6 _,h0⟩,?_⟩
 rintro i m xs σ H ⟨rfl,hi,p⟩
 obtain⟨hD,hx⟩:=hl i xs σ H hi p
 refine⟨hD,?_⟩
 by_cases hlt:i<x.length
 ·refine .inr ⟨hlt,by omega,fun y H'' hy=>?_⟩
  obtain⟨e,hy⟩:=hy
  subst e
  obtain⟨e1,e2⟩:=aU3 hlt
  rw[e2]at hy
  cases hy
  exact hs i xs _ σ _ (fun zs σ' H'=>∃ m',m'<x.length - i/\m'=x.length - (i+1)/\i+1<=x.length/\Pv (i+1) zs σ' H') (fun zs σ' H' r=>⟨_,by omega,rfl,hlt,r⟩) (by rw[b9];exact e1) p
 ·have e:i=x.length:=by omega
  subst e
  exact .inl ⟨c6 _,hd xs σ H p⟩
theorem aM0 (x:Str):(Txt.slice x (some 1) none).cps.toList=x.cps.toList.drop 1:=by
 by_cases h:1<=x.length
 ·rw[PyProof.Rows.slice_from_eq (x:=x) (i:=1) (b:=(x.length:Int)) (by decide) (by omega) rfl]
  show ((x.cps.toList.drop 1).take ((x.length:Int) - 1).toNat)=_
  rw[j5]
  rw[x6,E3]
  omega
 ·have e:x.cps.toList=[]:=N7 (by rw[E3];omega)
  have l:(Txt.slice x (some 1) none).length<=x.length:=Txt.slice_le x _ _
  rw[e]
  exact N7 (by rw[E3];omega)
theorem ak3 (a b:Str):a=b↔a.cps.toList=b.cps.toList:=⟨fun e=>by rw[e],PyProof.Rows.ext_toList⟩
theorem aT6 (x:Str)(c:Nat):Txt.startswith x ⟨#[c]⟩=decide (x.cps.toList.head?=some c):=by
 unfold Txt.startswith Builtin.Str.subAt
 have hb:(x.cps.extract 0 (0+(⟨#[c]⟩:Str).length) == (⟨#[c]⟩:Str).cps)=decide (x.cps.toList.take 1=[c]):=by
  rw[F3,beq_iff_eq,decide_eq_true_iff]
  have:(x.cps.extract 0 1).toList=x.cps.toList.take 1:=by simp
  show x.cps.extract 0 1=#[c]↔_
  rw[<- this]
  constructor
  ·intro e;rw[e]
  ·intro e;exact bS3.mp e
 rw[hb]
 have hl:(⟨#[c]⟩:Str).length=1:=rfl
 rw[hl]
 have e:=E3 x
 cases h:x.cps.toList with
 | nil =>
  rw[h]at e
  have:x.length=0:=e.symm
  rw[this];rfl
 | cons a l =>
  rw[h]at e
  have:0+1<=x.length:=by rw[<- e];simp
  rw[decide_eq_true this,P3]
  simp
def S3 (x:Str):Prop:=∀ c∈x.cps.toList,c<128
theorem aw1 {a b:Str}(ha:S3 a)(hb:S3 b):S3 (a++b):=by
 intro c hc
 rw[PySem.W.KT.app_list,u6]at hc
 exact hc.elim (ha c) (hb c)
theorem bc3 {n:Int}(h0:0<=n):S3 (Str.ofString (toString n)):=by
 obtain⟨m,rfl⟩:=bj1 h0
 intro c hc
 rw[PySem.W.KIN.signs_num]at hc
 obtain⟨ch,hch,e⟩:=m5.mp hc
 have r:=digit_range (aS7 (by decide) (by decide) hch)
 rw[<- e]
 omega
theorem bR2 (h:S3 x):PyData.strOk x=true:=by
 unfold PyData.strOk
 rw[Array.all_eq_true_iff_forall_mem]
 intro c hc
 have:=h c (by simpa using hc)
 exact decide_eq_true (by omega)
theorem len_app (a b:Str):(a++b).length=a.length+b.length:=by
 rw[<- E3,<- E3 a,<- E3 b,PySem.W.KT.app_list,i9]
def bQ6:List Nat:=[48,49,50,51,52,53,54,55,56,57]
theorem bQ5:("0123456789":Str).cps.toList=bQ6:=by decide +kernel
def isD (c:Nat):Bool:=decide (c∈bQ6)
theorem av3 (c:Nat):isD c=true↔48<=c/\c<=57:=by
 unfold isD bQ6
 rw[decide_eq_true_iff]
 simp only[d3,N8,or_false]
 omega
theorem br5 (c:Nat):(!(Builtin.Str.occurrences ("0123456789":Str) ⟨#[c]⟩ 0 ("0123456789":Str).length 1).isEmpty)=isD c:=by
 rw[PySem.StrLaws.found_one,bQ5]
 rfl
def fgL (L:List Nat):List Nat:=if L.head?=some 45 then L.drop 1 else L
def okW (m:Int)(L:List Nat):Bool:=(decide (1<=((fgL L).length:Int)) && decide (((fgL L).length:Int)<=m)) && (fgL L).all isD && (decide (L=[48]) || !decide ((fgL L).head?=some 48))
theorem bB4 {m:Int}(hm:m<=100)(h:okW m x.cps.toList=true):∃ n,PySem.intText? x=some n:=by
 unfold okW at h
 rw[m7,m7,m7,decide_eq_true_iff,decide_eq_true_iff]at h
 obtain⟨⟨⟨h1,h2⟩,h3⟩,_⟩:=h
 have hd:∀ cs:List Nat,cs.all isD=true->PySem.NumText.AllDigits cs:=fun cs h c hc=>(av3 c).mp (x9.mp h c hc)
 unfold fgL at h1 h2 h3
 by_cases hh:x.cps.toList.head?=some 45
 ·rw[if_pos hh]at h1 h2 h3
  obtain⟨cs,hx⟩:∃ cs,x.cps.toList=45::cs:=by
   cases e:x.cps.toList with
   | nil=>rw[e]at hh;cases hh
   | cons a l=>rw[e]at hh;cases hh;exact⟨l,rfl⟩
  have hl:=E3 x
  rw[hx]at h1 h2 h3 hl
  refine⟨_,PySem.intText_neg hx (hd _ h3) (fun z=>?_) ?_⟩
  ·rw[z]at h1;simp at h1
  ·have:(bu1 1 (45::cs)).length=cs.length:=rfl
   rw[this]at h2
   rw[k8]at hl
   omega
 ·rw[if_neg hh]at h1 h2 h3
  refine⟨_,PySem.intText_digits (hd _ h3) (fun z=>?_) ?_⟩
  ·rw[z]at h1;simp at h1
  ·rw[E3]at h2;omega
theorem fgS (x:Str):(if Txt.startswith x ⟨#[45]⟩=true then Txt.slice x (some 1) none else x).cps.toList=fgL x.cps.toList:=by
 rw[aT6]
 unfold fgL
 by_cases h:x.cps.toList.head?=some 45
 ·rw[if_pos h,if_pos (decide_eq_true h),aM0]
 ·rw[if_neg h,if_neg (by rw[decide_eq_false h];exact d4)]
theorem dtS {K:W.Frag}{cs:List Nat}(h:SqL K H a (cs.map fun c=>V.str ⟨#[c]⟩)):Dt K H (.list (cs.map fun c=>.str ⟨#[c]⟩)) (.ref a):=by
 refine Dt.mkL h ?_
 clear h
 induction cs with
 | nil=>exact .mkN
 | cons c cs ih=>unfold C1;exact⟨_,_,rfl,by unfold Dt;rfl,ih⟩
theorem cd5 {cs:List Nat}(h:∀ c∈cs,c<128):(PyData.list (cs.map fun c=>.str ⟨#[c]⟩)).canLay0=true:=by
 show PyData.canLayAll0 _=true
 induction cs with
 | nil=>rfl
 | cons c cs ih =>
  show (PyData.canLay0 (.str ⟨#[c]⟩) && PyData.canLayAll0 _)=true
  rw[ih fun d hd=>h d (b7 _ hd),Bool.and_true]
  exact bR2 (x:=⟨#[c]⟩) fun d hd=>by
   have:d∈[c]:=hd
   rw[n5.mp this]
   exact h c c5
theorem ce2 (cs:List Nat):PyData.eqv (.list (cs.map fun c=>.str ⟨#[c]⟩)) (.list [])=cs.isEmpty:=by
 cases cs with
 | nil=>simp[PyData.eqv,PyData.eqvAll]
 | cons c cs=>simp[PyData.eqv,PyData.eqvAll]
theorem ce3 (cs:List Nat):(PyData.list (cs.map fun c=>.str ⟨#[c]⟩)).depth<=1:=by
 show PyData.depthAll _+1<=1
 have:PyData.depthAll (cs.map fun c=>PyData.str ⟨#[c]⟩)=0:=by
  induction cs with
  | nil=>rfl
  | cons c cs ih=>show max 0 _=0;rw[ih];rfl
 rw[this]
 exact c6 _
end L2
set_option Elab.async false
set_option maxRecDepth 100000
namespace L2
open PySem PySem.Spec PyProof.Rows
section
variable (P:Program) (w:World)
end
section
variable {o:HO}
end
section
variable {x e:Addr} {o':HO}
end
section
variable {fs fs' ex ex':List Addr} {H1 H2:Hp} {h1 h2:Heap} {x e:Addr} {o:HO}
end
section
variable {σ:List (Option V)}
end
section
variable {a b:Expr} {tb:TE}
variable {tA tB':TT} {rest:List Expr}
end
section
variable {xs:List V}
end
section
variable {st:Stmt} {rest:List Stmt} {t u:TS}
end
section
variable {a b c:Expr} {tb tc:TE}
end
section
variable {a b c:Expr} {tb tc:TE}
end
section
variable {K:W.Frag} {x dx:Addr} {name:Str}
end
section
variable {dx:Addr} {fs fs':List (Str × V)}
end
section
variable {dx:Addr} {fs:List (Str × V)} {f:Str} {v:V}
end
section
variable {o value:Expr} {f:Str} {pos' tpos:Pos} {tv:TE}
end
section
variable {c:Value} {b:Bool}
end
section
variable {es:List Expr} {t:TA}
end
section
variable {s':Shared}
end
section
variable {CX:CXT} {k:Nat} {sp:Sp} {dvs:List V} {ds:List Value} {E:XK} {m:Str} {p apos:Pos} {o:Expr} {es:List Expr} {t:TA}
end
section
variable {CX:CXT} {k:Nat} {ks:List Str} {sp:Sp} {E:XK} {m:Str} {p apos kpos:Pos} {o:Expr} {es:List Expr} {kws:List aC0} {t tk:TA} {nm:Option Str}
variable {g:List Value->List Value->List Value}
end
section
variable {p:Pos} {es:List Expr} {t:TA} {id T:String} {r:List V->Hp->VK->Prop}
end
section
variable {κ:Type} [DecidableEq κ]
end
abbrev KT (H:Hp):List (List Key × V)->List (List Key × Addr × Value)->Prop:=Y0 fun p q=>p.1=q.1/\H q.2.1=some (.tup (p.1.map kV))/\RelV p.2 q.2.2
section
variable {y v:V} {r:Value} {o:Option V}
end
section
variable {kvs:List (Key × V)} {k:Key}
end
section
variable {o i value:Expr} {pos' tpos:Pos} {td ty tv:TE}
end
structure M1 (X:Cx) (o:Expr) (m:Str) (apos:Pos) (e:Expr) (cpos:Pos):Prop where
 base:bv9 o m X.env (eval o X.env)=eval o X.env
 few:((Y1 cpos (A4 [e] X.env)).all (fun x=>!x.1) && (bv8 cpos (aC1 [] X.env)).all (fun x=>x.1.isSome)
  && decide (([e]:List Expr).length+([]:List aC0).length+(if ([]:List aC0).isEmpty then 0 else 1)<30))=true
 line:(apos.endLine == cpos.line)=true
 trees:Y1 cpos (A4 [e] X.env)=[(false,eval e X.env)]
structure M2 (X:Cx) (o:Expr) (m:Str) (apos:Pos) (e f:Expr) (cpos:Pos):Prop where
 base:bv9 o m X.env (eval o X.env)=eval o X.env
 few:((Y1 cpos (A4 [e,f] X.env)).all (fun x=>!x.1) && (bv8 cpos (aC1 [] X.env)).all (fun x=>x.1.isSome)
  && decide (([e,f]:List Expr).length+([]:List aC0).length+(if ([]:List aC0).isEmpty then 0 else 1)<30))=true
 line:(apos.endLine == cpos.line)=true
 trees:Y1 cpos (A4 [e,f] X.env)=[(false,eval e X.env),(false,eval f X.env)]
section
variable {y d:V} {r:Value} {o:Option V}
end
section
variable {o f:Expr} {apos cpos:Pos} {td ty tx:TE}
end
section
variable {kvs:List (Key × V)}
end
section
variable {y:V}
end
end L2
namespace Att
open PySem PySem.W PySem.Calls PyProof.Rows
section
variable {K:Frag}
end
end Att
namespace L2
open PySem PySem.Spec PyProof.Rows
section
variable {K:W.Frag} {mg:Str->Option Value} {base:Heap}
end
section
variable {κ:Type} [DecidableEq κ]
end
end L2
namespace L2
open PySem PySem.Spec PyProof.Rows PySem.Builtin PySem.Builtin.Str
theorem aD5:∀ l:List (Str × Tok),A8 ((l.map (·.1)).map V.str) (bJ8 l)
 | []=>.nil
 | (x,t)::l=>.cons ⟨t,rfl⟩ (aD5 l)
theorem aD6:∀ {xs:List Str} {vs:List Value},A8 (xs.map V.str) vs->∃ l:List (Str × Tok),l.map (·.1)=xs/\bJ8 l=vs
 | [],_,.nil=>⟨[],rfl,rfl⟩
 | x::xs,_,.cons ⟨t,rfl⟩ r=>let ⟨l,h1,h2⟩:=aD6 r;⟨(x,t)::l,by rw[n9,h1],by rw[<- h2];rfl⟩
def bM7:V->List V->Hp->VK->Prop:=fun v vs H Q=>∃ a b,v=.str a/\vs=[.str b]/\(b.length == 0)=false/\a.length<=100000/\(Txt.split a b).length<=f6/\∀ l,H l=none->Q (.ref l) (upd H l (.lst ((Txt.split a b).map V.str)))
theorem ay9:MtR X "str.split" bM7:=by
 intro pins s σ H v vs u us Q I rx rv h
 obtain⟨x,y,rfl,rfl,hy,hx,hn,q⟩:=h
 obtain⟨t,rfl⟩:=rx
 obtain⟨_,rfl,t',rfl⟩:=A8.one rv
 have hsz:x.length<=f6:=by rw[r9];omega
 have fin:∀ (l:List (Str × Tok)) (k:Nat),l.map (·.1)=Txt.split x y->EP X pins σ Q (.ref s.heap.objs.size) { s with heap:=s.heap.push { cls:=.type "list",data:=.seq (bJ8 l).toArray },toks:=k }:=fun l k e=>by
  have hv:=aD5 l
  rw[e]at hv
  exact⟨.ref s.heap.objs.size,_,I.laid (t':=k) (fun b o e=>a8 _ e) (c6 _) (show M9 X.prog X.w _ _ _ (.lst ((Txt.split x y).map V.str)) from ⟨by rw[a5];exact hn,bJ8 l,0,hv,j8 _ rfl⟩),rfl,q _ (I.hok.fresh (c6 _))⟩
 cases h1:(decide (x.length<y.length) || decide (strKind x<strKind y))
 ·cases hf:(occurrences x y 0 x.length (x.length+1)).isEmpty
  ·have es:Txt.split x y=partsBetween x (occurrences x y 0 x.length (x.length+1)) y.length:=(if_neg (ne_true_of_eq_false h1)).trans (if_neg (ne_true_of_eq_false hf))
   refine ac2 F.slot_str_split (aj6 _ _ _) F.entry_str_split (F.args_str_split_2 _ _) (meets_str_split_sep x y t t' h1 hy hf hsz (by rw[<- es];exact hn)) ?_
   show wants _ X.xe _ { s with toks:=_,heap:=s.heap.push { cls:=.type "list",data:=.seq (strsFrom s.toks (partsBetween x (occurrences x y 0 x.length (x.length+1)) y.length)).toArray } }
   rw[strsFrom_eq]
   exact fin (numbered s.toks _) _ ((numbered_texts _ _).trans es.symm)
  ·exact ac2 F.slot_str_split (aj6 _ _ _) F.entry_str_split (F.args_str_split_2 _ _) (meets_str_split_not_found x y t t' h1 hy hf) (fin [(x,t)] s.toks ((if_neg (ne_true_of_eq_false h1)).trans (if_pos hf)).symm)
 ·exact ac2 F.slot_str_split (aj6 _ _ _) F.entry_str_split (F.args_str_split_2 _ _) (meets_str_split_cannot_occur x y t t' h1) (fin [(x,t)] s.toks (if_pos h1).symm)
def rJoin (K:W.Frag):V->List V->Hp->VK->Prop:=fun v vs H Q=>∃ (x:Str) (l:Addr) (xs:List Str),v=.str x/\vs=[.ref l]/\SqL K H l (xs.map V.str)/\JoinOk x xs=true/\Q (.str (Txt.join x xs)) H
theorem av1:MtR X "str.join" (rJoin X.K):=by
 intro pins s σ H v vs u us Q I rx rv h
 obtain⟨x,l,xs,rfl,rfl,hq,hok,q⟩:=h
 obtain⟨t,rfl⟩:=rx
 obtain⟨_,rfl,e⟩:=A8.one rv
 cases e
 obtain⟨its,r,pl,hz⟩:=I.list hq
 obtain⟨ls,e1,e2⟩:=aD6 r
 subst e2
 exact SC.join pl.isList e1 hok fun t' k=>⟨.str _,H,I.tok k,⟨_,rfl⟩,q⟩
theorem sub_len (x:Str)(i j:Nat):(strSub x i j).length<=x.length:=by
 show (x.cps.extract i j).size<=x.cps.size
 rw[C4]
 omega
theorem bx8 (h:S3 x)(i j:Nat):S3 (strSub x i j):=fun c hc=>h c (by
 have hc':c∈(x.cps.extract i j).toList:=hc
 rw[P8]at hc'
 exact L1 (L3 hc'))
theorem ah0 {y p:Str}(h:p∈Txt.split x y):p.length<=x.length/\(S3 x->S3 p):=by
 unfold Txt.split at h
 split at h
 ·rw[n5.mp h];exact⟨c6 _,id⟩
 ·split at h
  ·rw[n5.mp h];exact⟨c6 _,id⟩
  ·obtain⟨⟨i,j⟩,_,rfl⟩:=m5.mp h
   exact⟨sub_len x i j,fun a=>bx8 a i j⟩
theorem split_len (x y:Str):1<=(Txt.split x y).length/\(Txt.split x y).length<=x.length+2:=by
 unfold Txt.split
 split
 ·exact⟨c6 _,Nat.le_add_left _ _⟩
 ·split
  ·exact⟨c6 _,Nat.le_add_left _ _⟩
  ·rw[PyProof.Rows.len_partsBetween]
   have:=PySem.StrLaws.occ_length_le x y 0 x.length (x.length+1)
   omega
theorem bk4 {m:Nat}:∀ {xs:List Str},(∀ x∈xs,x.length<=m)->(xs.map (·.length)).sum<=xs.length*m
 | [],_=>o6 _
 | x::xs,h=>by
  have h1:=bk4 (xs:=xs) fun y hy=>h y (b7 _ hy)
  have h2:=h x c5
  rw[n9,P4,k8,Nat.succ_mul]
  omega
theorem ah7 {y:Str}{xs:List Str}{m:Nat}(h:∀ x∈xs,x.length<=m)(hn:xs.length<=n)(hb:n*m+n*y.length<=100000):JoinOk y xs=true/\(Txt.join y xs).length<=n*m+n*y.length:=by
 have h1:=bk4 h
 have h2:xs.length*m<=n*m:=bF1 _ hn
 have h3:xs.length*y.length<=n*y.length:=bF1 _ hn
 refine⟨?_,?_⟩
 ·unfold JoinOk
  rw[StrLaws.joinTotal]
  have:tooLong ((xs.map (·.length)).sum+xs.length*y.length)=false:=by
   unfold tooLong
   rw[decide_eq_false_iff_not,r9]
   omega
  rw[this];rfl
 ·show (glued y xs).length<=_
  rw[StrLaws.glued_eq_join]
  exact p9 (StrLaws.join_length_le y xs) (by omega)
theorem bq2 {y:Str}(hy:S3 y){xs:List Str}(h:∀ x∈xs,S3 x):S3 (Txt.join y xs):=by
 show S3 (glued y xs)
 rw[StrLaws.glued_eq_join]
 induction xs with
 | nil=>intro c hc;cases hc
 | cons x xs ih =>
  cases xs with
  | nil=>exact h x c5
  | cons z r=>exact aw1 (aw1 (h x c5) hy) (ih fun u hu=>h u (b7 _ hu))
theorem aG9 (a b:Str):(a++b).cps.toList=a.cps.toList++b.cps.toList:=PySem.W.KT.app_list a b
theorem an6 (c:Nat)(a:Str):∀ r:List Str,r≠[]->(Str.join ⟨#[c]⟩ (a::r)).cps.toList=a.cps.toList++c::(Str.join ⟨#[c]⟩ r).cps.toList
 | [],h=>absurd rfl h
 | b::r,_=>by
  show (a++⟨#[c]⟩++Str.join ⟨#[c]⟩ (b::r)).cps.toList=_
  rw[aG9,aG9,q8]
  rfl
def W5 (m:Nat)(L:List Nat):Bool:=(decide (1<=L.length) && decide (L.length<=m)) && L.all isD && (!decide (L.head?=some 48) || decide (L.length=1))
theorem br6 {L:List Nat}(h:45∉L):fgL L=L:=by
 unfold fgL
 refine if_neg fun z=>h ?_
 cases L with
 | nil=>cases z
 | cons a l=>cases z;exact c5
theorem bB5 {m:Nat}{L:List Nat}(h:45∉L):okW (m:Int) L=W5 m L:=by
 unfold okW W5
 rw[br6 h]
 have e1:decide ((1:Int)<=(L.length:Int))=decide (1<=L.length):=decide_eq_decide.mpr (by omega)
 have e2:decide ((L.length:Int)<=(m:Int))=decide (L.length<=m):=decide_eq_decide.mpr (by omega)
 rw[e1,e2]
 congr 1
 cases L with
 | nil=>rfl
 | cons a l =>
  cases l with
  | nil =>
   show (decide ([a]=[48]) || !decide (some a=some 48))=(!decide (some a=some 48) || true)
   rw[bu4]
   by_cases e:a=48
   ·subst e;rfl
   ·have h1:decide (some a=some 48)=false:=decide_eq_false (fun z=>e (Option.some.inj z))
    rw[h1,aX8,bu4]
  | cons b l =>
   have h1:decide (a::b::l=[48])=false:=decide_eq_false (fun z=>by cases z)
   have h2:decide ((a::b::l).length=1)=false:=decide_eq_false (fun z=>by simp at z)
   rw[h1,h2,Bool.false_or,Bool.or_false]
theorem av6 {m:Nat}{L:List Nat}(h:W5 m L=true):1<=L.length/\L.length<=m/\PySem.NumText.AllDigits L:=by
 unfold W5 at h
 rw[m7,m7,m7,decide_eq_true_iff,decide_eq_true_iff]at h
 exact⟨h.1.1.1,h.1.1.2,fun c hc=>(av3 c).mp (x9.mp h.1.2 c hc)⟩
def T8 (L:List Nat):Nat:=PySem.NumText.digitsVal L
theorem bb4 {m:Nat}(h:W5 m x.cps.toList=true)(hm:m<=100):PySem.intText? x=some (T8 x.cps.toList:Int):=by
 obtain⟨h1,h2,h3⟩:=av6 h
 exact PySem.intText_digits h3 (fun z=>by rw[z]at h1;exact absurd h1 (by decide)) (by rw[<- E3];omega)
theorem dash:("-":Str)=⟨#[45]⟩:=by decide +kernel
def W4 (x:Str):Option (Nat × Nat):=match Txt.split x "-" with
 | [a,b]=>if (W5 2 a.cps.toList && W5 2 b.cps.toList && decide (T8 a.cps.toList<T8 b.cps.toList))=true then some (T8 a.cps.toList,T8 b.cps.toList) else none
 | _=>none
theorem aR7 {c:Nat}:∀ {a b u v:List Nat},c∉a->c∉b->a++c::u=b++c::v->a=b/\u=v
 | [],[],u,v,_,_,h=>⟨rfl,by injection h⟩
 | [],y::b,u,v,_,hb,h=>by injection h with h1 _;exact absurd (by rw[h1];exact c5) hb
 | x::a,[],u,v,ha,_,h=>by injection h with h1 _;exact absurd (by rw[<- h1];exact c5) ha
 | x::a,y::b,u,v,ha,hb,h=>by
  injection h with h1 h2
  obtain⟨e1,e2⟩:=aR7 (fun z=>ha (b7 _ z)) (fun z=>hb (b7 _ z)) h2
  exact⟨by rw[h1,e1],e2⟩
theorem aP4 {c:Nat}:∀ (a b:Str) (r s:List Str),(∀ u∈a::r,c∉u.cps.toList)->(∀ u∈b::s,c∉u.cps.toList)->(Str.join ⟨#[c]⟩ (a::r)).cps.toList=(Str.join ⟨#[c]⟩ (b::s)).cps.toList->a::r=b::s
 | a,b,[],[],_,_,h=>by rw[(ak3 a b).mpr h]
 | a,b,[],y::s,ha,hb,h=>by
  rw[an6 c b (y::s) (by simp)]at h
  have h:a.cps.toList=b.cps.toList++c::(Str.join ⟨#[c]⟩ (y::s)).cps.toList:=h
  exact absurd (by rw[h];simp) (ha a c5)
 | a,b,x::r,[],ha,hb,h=>by
  rw[an6 c a (x::r) (by simp)]at h
  have h:a.cps.toList++c::(Str.join ⟨#[c]⟩ (x::r)).cps.toList=b.cps.toList:=h
  exact absurd (by rw[<- h];simp) (hb b c5)
 | a,b,x::r,y::s,ha,hb,h=>by
  rw[an6 c a (x::r) (by simp),an6 c b (y::s) (by simp)]at h
  obtain⟨e1,e2⟩:=aR7 (ha a c5) (hb b c5) h
  rw[(ak3 a b).mpr e1,aP4 x y r s (fun u hu=>ha u (b7 _ hu)) (fun u hu=>hb u (b7 _ hu)) e2]
theorem ak4 {c:Nat}(a:Str)(r:List Str)(h:∀ u∈a::r,c∉u.cps.toList):Txt.split (Str.join ⟨#[c]⟩ (a::r)) ⟨#[c]⟩=a::r:=by
 have hf:=StrLaws.split_free (Str.join ⟨#[c]⟩ (a::r)) c
 have hj:=StrLaws.join_split (Str.join ⟨#[c]⟩ (a::r)) ⟨#[c]⟩
 cases e:Txt.split (Str.join ⟨#[c]⟩ (a::r)) ⟨#[c]⟩ with
 | nil=>exact absurd (split_len (Str.join ⟨#[c]⟩ (a::r)) ⟨#[c]⟩).1 (by rw[e];decide)
 | cons b s =>
  rw[e]at hf hj
  exact aP4 b a s r hf h (by rw[hj])
theorem ah4 (m:Nat):(Str.ofString (toString (m:Int))).cps.toList=(N3 10 m).map Char.toNat:=PySem.W.KIN.signs_num m
theorem ay6 (m:Nat):PySem.NumText.AllDigits (Str.ofString (toString (m:Int))).cps.toList:=by
 intro c hc
 rw[ah4]at hc
 obtain⟨ch,hch,e⟩:=m5.mp hc
 have r:=digit_range (aS7 (by decide) (by decide) hch)
 omega
theorem av0 (m:Nat):T8 (Str.ofString (toString (m:Int))).cps.toList=m:=by
 unfold T8
 rw[ah4]
 exact PySem.W.KIN.val_back m
theorem bb6 (m:Nat):N3 10 m≠[]:=by
 by_cases h:m<10
 ·rw[aj4 h];simp
 ·have hm:m % 10<10:=aG0 m (by decide)
  have t:N3 10 (m / 10)++N3 10 (m % 10)=N3 10 (10*(m / 10)+m % 10):=aS3 (by decide) (by omega) hm
  rw[Nat.div_add_mod]at t
  rw[<- t,aj4 hm]
  simp
theorem bs2:∀ d:Nat,d<10->1<=d->(Nat.digitChar d).toNat≠48:=by decide
theorem aF1 (m:Nat)(h1:1<=m):((N3 10 m).map Char.toNat).head?≠some 48:=by
 induction m using Nat.strongRecOn with
 | _ m ih =>
  by_cases h:m<10
  ·rw[aj4 h]
   intro z
   exact bs2 m h h1 (Option.some.inj z)
  ·have hm:m % 10<10:=aG0 m (by decide)
   have t:N3 10 (m / 10)++N3 10 (m % 10)=N3 10 (10*(m / 10)+m % 10):=aS3 (by decide) (by omega) hm
   rw[Nat.div_add_mod]at t
   have ih':=ih (m / 10) (by omega) (by omega)
   have hne:=bb6 (m / 10)
   rw[<- t,c8]
   cases e:N3 10 (m / 10) with
   | nil=>exact absurd e hne
   | cons c l=>rw[e]at ih';exact ih'
theorem ah3 {m k:Nat}(hk:1<=k)(h:m<10 ^ k):W5 k (Str.ofString (toString (m:Int))).cps.toList=true:=by
 have hl:(Str.ofString (toString (m:Int))).length<=k:=PyProof.Rows.toString_length_le (by omega) hk (by exact_mod_cast h)
 have hl1:1<=(Str.ofString (toString (m:Int))).cps.toList.length:=by
  rw[ah4,a5]
  exact aa3.mpr (bb6 m)
 unfold W5
 rw[decide_eq_true hl1,decide_eq_true (by rw[E3];exact hl),P3,P3,m7]
 refine⟨x9.mpr fun c hc=>(av3 c).mpr (ay6 m c hc),?_⟩
 by_cases h0:m=0
 ·subst h0
  decide +kernel
 ·rw[ah4,decide_eq_false (aF1 m (by omega))]
  rfl
theorem ak8 (m:Nat):45∉(Str.ofString (toString (m:Int))).cps.toList:=fun h=>by
 have:=ay6 m 45 h
 omega
theorem bj8 (hij:i<j)(hj:j<100):W4 (Str.ofString (toString (i:Int))++"-"++Str.ofString (toString (j:Int)))=some (i,j):=by
 have e:Txt.split (Str.ofString (toString (i:Int))++"-"++Str.ofString (toString (j:Int))) "-"=[Str.ofString (toString (i:Int)),Str.ofString (toString (j:Int))]:=by
  rw[dash]
  exact ak4 (c:=45) _ [Str.ofString (toString (j:Int))] fun u hu=>by
   simp only[d3,N8,or_false]at hu
   rcases hu with rfl | rfl
   ·exact ak8 i
   ·exact ak8 j
 unfold W4
 rw[e]
 show (if _ then _ else _)=_
 rw[av0,av0,ah3 (k:=2) (by decide) (by omega),ah3 (k:=2) (by decide) (by omega),decide_eq_true hij]
 rfl
theorem aI4 (m:Nat):(Str.ofString (toString (-((m+1:Nat):Int)))).cps.toList=45::(Str.ofString (toString ((m+1:Nat):Int))).cps.toList:=by
 have e:toString (-((m+1:Nat):Int))="-"++toString (m+1:Nat):=rfl
 rw[ah4,e,PyProof.Rows.signs_ofString,String.toList_append,c8]
 show 45::_=_
 congr 1
 show ((Nat.repr (m+1)).toList).map Char.toNat=_
 rw[Nat.toList_repr]
theorem bO9 {z:Int}{k:Nat}(hk:1<=k)(hz:z.natAbs<10 ^ k)(hk2:k<=100):okW (k:Int) (Str.ofString (toString z)).cps.toList=true/\PySem.intText? (Str.ofString (toString z))=some z:=by
 cases z with
 | ofNat m =>
  have hf:=ah3 (m:=m) hk hz
  refine⟨?_,?_⟩
  ·show okW (k:Int) (Str.ofString (toString (m:Int))).cps.toList=true
   rw[bB5 (ak8 m)]
   exact hf
  ·show PySem.intText? (Str.ofString (toString (m:Int)))=some (m:Int)
   rw[bb4 hf hk2,av0]
 | negSucc m =>
  have hf:=ah3 (m:=m+1) hk hz
  have hc:=aI4 m
  have hc':(Str.ofString (toString (Int.negSucc m))).cps.toList=45::(Str.ofString (toString ((m+1:Nat):Int))).cps.toList:=hc
  obtain⟨f1,f2,f3⟩:=av6 hf
  refine⟨?_,?_⟩
  ·unfold okW
   have ef:fgL (Str.ofString (toString (Int.negSucc m))).cps.toList=(Str.ofString (toString ((m+1:Nat):Int))).cps.toList:=by
    rw[hc']
    rfl
   rw[ef,decide_eq_true (show (1:Int)<=_ by omega),decide_eq_true (show _<=(k:Int) by omega),P3,P3,m7,aS1]
   refine⟨x9.mpr fun c h=>(av3 c).mpr (f3 c h),.inr ?_⟩
   rw[ah4,decide_eq_false (aF1 (m+1) (by omega))]
   rfl
  ·have:=PySem.intText_neg hc' f3 (fun e=>by rw[e]at f1;exact absurd f1 (by decide)) (by rw[<- E3,hc',k8];omega)
   rw[this]
   have:=av0 (m+1)
   unfold T8 at this
   rw[this]
   rfl
def cc0 (c:Str)(ta tb:TE):TE:=fun σ H Q=>ta σ H fun x H1=>∃ i:Int,x=.int i/\i.natAbs.log2<1920/\(Str.ofString (toString i)).length<=1000/\tb σ H1 fun y H2=>∃ j:Int,y=.int j/\j.natAbs.log2<1920/\(Str.ofString (toString j)).length<=1000/\Q (.str (Str.ofString (toString i)++c++Str.ofString (toString j))) H2
theorem bD6 (x:Str):Str.empty++x=x:=PyProof.Rows.ext_toList (by rw[PySem.W.KT.app_list];rfl)
theorem bz5 {a b:Expr}{tb:TE}{c:Str}{k:Nat}{p1 p2 p3:Pos}(ha:PE X a ta)(hb:PE X b tb)(hc:c.length<=1000):PE X (.JoinedStr [.FormattedValue a (-1) none p1,.Constant (.str c) k p2,.FormattedValue b (-1) none p3] pos) (cc0 c ta tb):=by
 intro pins s σ H Q I h
 have hsl:f6=16777216:=r9
 refine JoinedStr_many (bj3 (bS9 (thn (ha pins s σ H _ I h) fun v s1 ⟨x,H1,I1,r1,q1⟩=>?_)))
 obtain⟨i,rfl,hd,hl,q1⟩:=q1
 obtain⟨t,rfl⟩:=r1
 refine bJ9 hd ?_
 show (Str.empty++Str.ofString (toString i)).length<=f6/\_
 rw[bD6]
 refine⟨by omega,bj3 (thn (D8 (X:=X) (x:=c) (j:=k) (pos:=p2) pins _ σ H1 (fun v H2=>v=.str c/\H2=H1) (I1.tok _) ⟨rfl,rfl⟩) fun v2 s2 ⟨x2,H2,I2,r2,e2,e3⟩=>?_)⟩
 subst e2 e3
 obtain⟨t2,rfl⟩:=r2
 refine⟨by rw[len_app];omega,?_⟩
 refine bj3 (bS9 (thn (hb pins s2 σ H2 _ I2 q1) fun v3 s3 ⟨y,H3,I3,r3,q3⟩=>?_))
 obtain⟨j,rfl,hd2,hl2,q3⟩:=q3
 obtain⟨t3,rfl⟩:=r3
 refine bJ9 hd2 ?_
 show (Str.ofString (toString i)++c++Str.ofString (toString j)).length<=f6/\_
 have hz:(Str.ofString (toString i)++c++Str.ofString (toString j)).length<=f6:=by rw[len_app,len_app];omega
 refine⟨hz,joinParts_nil ?_ hz⟩
 exact⟨.str _,H3,I3.tok _,⟨_,rfl⟩,q3⟩
end L2
namespace L2
open PySem PySem.Spec PyProof.Rows
end L2
namespace L2
open PySem PySem.Spec PyProof.Rows PySem.SeqAt
theorem bi0 {bs:List Bool}(h:(bs.map Value.bool)[i]?=some v):v=.bool (bs.getD i false):=by
 rw[m9]at h
 cases e:bs[i]? with
 | none=>rw[e]at h;cases h
 | some b=>rw[e]at h;cases h;rw[m6,e];rfl
theorem all_range (bs:List Bool):((x8 bs.length).all fun i=>bs.getD i false)=bs.all id:=by
 rw[F3,x9,x9]
 constructor
 ·intro h b hb
  obtain⟨i,hi,rfl⟩:=List.mem_iff_getElem.mp hb
  have:=h i (y9.mpr hi)
  rw[m6,g9 hi]at this
  exact this
 ·intro h i hi
  have hi:=y9.mp hi
  rw[m6,g9 hi]
  exact h _ (R4 hi)
theorem boot_all:K5 "all"=some (.builtin "all"):=by decide +kernel
theorem bh9 (hc:X.calm=true):R1 X (.builtin "all") (fun xs H Q=>∃ (l:Addr) (bs:List Bool),xs=[.ref l]/\H l=some (.lst (bs.map V.bl))/\Q (.bl (bs.all id)) H):=by
 intro pins s σ H xs us Q I r h
 obtain⟨l,bs,rfl,hH,q⟩:=h
 obtain⟨u,rfl,rx⟩:=vals1 r
 cases rx
 obtain⟨z,its,n,r,hl,e⟩:=I.lstM hH
 obtain rfl:=aY2 r
 have hl1:s.heap.IsList l (bs.map Value.bool).toArray:=⟨_,e,rfl,_,rfl⟩
 refine call_all_walkS (aK8 hl1 ?_)
 have hlt:l<s.heap.objs.size:=f9 e
 have hh:X.A.in1.handled=none:=by simp[I.ok.hd hc]
 refine⟨_,_,_,_,_,_,_,fun i=>bs.getD i false,rfl,(Walks.list hh _ l (k7 hlt) (bs.map Value.bool).toArray).toS,⟨⟨_,j8 _ rfl,rfl,rfl⟩,hl1.push _⟩,?_,fun s' hm=>?_⟩
 ·intro i v s Q E hv hq
  have:=bi0 (bs:=bs) (i:=i) (v:=v) (by simpa using hv)
  subst this
  exact i8 hq
 ·refine⟨.bl (bs.all id),H,?_,?_,q⟩
  ·rw[Moved.eq_with hm]
   exact I.kept (t':=s'.toks) fun b o eo=>hm.heap b o (fun hb=>absurd (f9 eo) (by rw[n5.mp hb];exact C2 _)) (a8 _ eo)
  ·show _=Value.bool (bs.all id)
   rw[<- all_range]
   simp
end L2
namespace L2
open PySem PySem.Spec PyProof.Rows
section
variable {K:W.Frag} {mg:Str->Option Value} {base:Heap} {scope0:Scope} {cd:Value} {s0:Shared} {H0:Hp} {E:XK}
theorem aW7 (eX:X=V0 (CXE P w) P w K mg base N qual scope0 f cd A outer s0 H0 E) {elt iter:Expr} {ipos:Pos} {wi:TI} {g:TG} {tt:TT} {R:Value->Shared->Prop} {Q:VK}
  (hc:X.calm=true) (hi:PI X tg iter wi) (hclos:aj9 scope X.env=pure cl) (hkind:scope.kind=.function)
  (hnames:∀ y∈scope.names,y.2=.local->scope.names.lookup y.1=some .local) (hcl:ar5 X.env cl) (hfr:al5 scope.names cl=true) (hlk:aX3 X N' lk scope cl)
  (hg:∀ pins σ s3 H3 fp,PG (A0 X scope cl N' s3 H3 fp (XeC X E pins σ s3.heap.objs.size)) tg g) (ht:∀ pins σ s3 H3 fp,PTs (A0 X scope cl N' s3 H3 fp (XeC X E pins σ s3.heap.objs.size)) ifs tt) (he:∀ pins σ s3 H3 fp,Inv X pins σ H3 s3->(∀ b∈fp,M7 X pins H3 b)->PE (A0 X scope cl N' s3 H3 fp (XeC X E pins σ s3.heap.objs.size)) elt te)
  (hs:∀ x,Q1 iter X.env x=pure x) (I:Inv X pins σ H s) (h:aL8 wi lk g tt te σ H Q)
  (hend : ∀ (C D : Addr) (s' : Shared) (H' : Hp), Inv X pins σ H' s' -> Q (.ref D) H' -> H' C = none -> C ≠ X.env.locals -> X.s₀.heap.objs.size <= C -> (∀ x c, X.env.cells.lookup x = some c -> c ≠ C) -> (∀ p ∈ X.pn ++ pins, p.1 ≠ C) -> (∃ m, s'.heap.Ns C m) ->
   am0 (o7 X.prog X.w) X.A X.xe use R (.ref D) C (.ok .next) s') :
  r6 (o7 X.prog X.w) X.A (aG4 (.ListComp elt [⟨tg,iter,ifs,0⟩] scope pos) scope X.env ipos (bU4 []) false (eval iter X.env) use) R X.xe s:=by
 have hcellN:∀ y∈scope.names,y.2≠.cell:=fun y hy=>by
  unfold al5 at hfr
  rw[x9]at hfr
  have:=hfr y hy
  rw[m7]at this
  simpa using this.1
 refine ak0 (use:=use) rfl hs hclos hkind hnames (thn (hi pins s σ H _ I h) fun v s1 h1=>thn h1 fun itv s2 h2=>?_)
 obtain⟨it,fp,tn,J,H2,e,I2,T,st2,f2,q⟩:=h2
 subst e
 refine Q2 ?_ (o6 _)
 have hD:H2 s2.heap.objs.size=none:=I2.hok.fresh (c6 _)
 have I3:=I2.lnew (ys:=[]) (its:=[]) (t':=s2.toks) .nil (o6 _)
 obtain⟨W,⟨m0,w0⟩,turn⟩:=q s2.heap.objs.size hD
 have fpl:∀ b∈fp,b<s2.heap.objs.size:=fun b hb=>by
  obtain⟨o,ho,_⟩:=T.obj 0 s2.heap st2 b hb
  exact f9 ho
 refine aa4 hcellN (by intro y hy;cases hy) (fun h1 hns1 hsb1=>?_) hkind
 dsimp only at hns1 hsb1 ⊢
 have e3:s2.heap.push { cls:=.type "list",dict:=none,data:=.seq ([]:List Value).toArray }=s2.heap.push { cls:=.type "list",data:=.seq ([]:List Value).toArray }:=rfl
 generalize hh3:s2.heap.push { cls:=.type "list",dict:=none,data:=.seq ([]:List Value).toArray }=h3 at *
 have I3':Inv X pins σ (upd H2 s2.heap.objs.size (.lst [])) { s2 with heap:=h3,toks:=s2.toks }:=I3
 have size3:h3.objs.size=s2.heap.objs.size+1:=by rw[<- hh3,K3]
 have f3:∀ b∈fp,M7 X pins (upd H2 s2.heap.objs.size (.lst [])) b:=fun b hb=>by
  obtain⟨f0,fr⟩:=f2 b hb
  exact⟨by rw[t8 (k7 (fpl b hb))];exact f0,fr⟩
 have up:∀ b u,h3.get? b=some u->h1.get? b=some u:=fun b u eb=>by
  rw[hsb1.2 b (k7 (f9 eb))]
  exact a8 _ eb
 have I4:Inv (A0 X scope cl N' { s2 with heap:=h3,toks:=s2.toks } (upd H2 s2.heap.objs.size (.lst [])) fp (XeC X E pins σ h3.objs.size)) [] (Y7 lk σ) (upd H2 s2.heap.objs.size (.lst [])) { s2 with heap:=h1,toks:=s2.toks+([]:List (Str × Value)).length }:=
  al2 (s3:={ s2 with heap:=h3,toks:=s2.toks }) I3' f3 hkind hcl hfr hlk hns1 up fun b hb=>by show b<h3.objs.size;rw[size3];exact C3 (fpl b hb)
 have st4:tn 0 h1:=T.keep 0 s2.heap h1 st2 fun b hb o eb=>up b o (by rw[<- hh3];exact a8 _ eb)
 have hCs:h3.objs.size=(K7 scope cl h3.objs.size X.env).locals:=rfl
 have stat:∀ {H':Hp},(∀ b∈fp,H' b=none)->∀ b∈fp,M7 (A0 X scope cl N' { s2 with heap:=h3,toks:=s2.toks } (upd H2 s2.heap.objs.size (.lst [])) fp (XeC X E pins σ h3.objs.size)) [] H' b:=fun {H'} hn b hb=>by
  obtain⟨f0,f1,f2',f3',f4,f5⟩:=f3 b hb
  refine⟨hn b hb,?_,fun z=>?_,.inl hb,fun x c ex=>f4 x c (hcl.get ex),fun p hp=>nomatch hp⟩
  ·show b≠h3.objs.size
   rw[size3]
   exact k7 (C3 (fpl b hb))
  ·rcases d3.mp (I3'.stkSub b z) with q | q
   ·exact f1 q
   ·exact f2' q
 have fin:∀ (s':Shared) (σ':St) (H':Hp),Inv (A0 X scope cl N' { s2 with heap:=h3,toks:=s2.toks } (upd H2 s2.heap.objs.size (.lst [])) fp (XeC X E pins σ h3.objs.size)) [] σ' H' s'->Q (.ref s2.heap.objs.size) H' ->
   am0 (o7 X.prog X.w) X.A X.xe use R (.ref s2.heap.objs.size) h3.objs.size (.ok .next) s':=fun s' σ' H' I' q'=>by
  obtain⟨m,hm,_⟩:=id I'.loc
  have I5:Inv X pins σ H' s':=I3'.call' (ch:=fp) I'.os I'.base I'.hok I'.bare fun b hb=>by
   obtain⟨f0,f1,f2',f3',f4,f5⟩:=f3 b hb
   exact⟨f3',f1,f4,f5⟩
  exact hend h3.objs.size s2.heap.objs.size s' H' I5 q' I'.free (S4 I3'.lt) I3'.sz (fun x c ex z=>by
   obtain⟨v',q2⟩:=I3'.cell x c ex
   exact absurd q2.lt (by rw[z];exact C2 _)) (fun p hp z=>absurd (f9 (I3'.pin p hp).1) (by rw[z];exact C2 _)) ⟨m,hm⟩
 have loop:∀ s5:Shared,s5={ s2 with heap:=h1,toks:=s2.toks+([]:List (Str × Value)).length } ->
   aB9 (o7 X.prog X.w) X.A (.compLoop (.ListComp elt [⟨tg,iter,ifs,0⟩] scope pos) 0 (.ref it) (.ref s2.heap.objs.size) (K7 scope cl h3.objs.size X.env)) (am0 (o7 X.prog X.w) X.A X.xe use R (.ref s2.heap.objs.size) h3.objs.size) s5:=by
  rintro s5 rfl
  refine bJ5 rfl (fun n s'=>∃ i xs σ' H',Inv (A0 X scope cl N' { s2 with heap:=h3,toks:=s2.toks } (upd H2 s2.heap.objs.size (.lst [])) fp (XeC X E pins σ h3.objs.size)) [] σ' H' s'/\tn i s'.heap/\(∀ b∈fp,H' b=none)/\W i n xs σ' H')
   (fun n s6 hI=>?_) m0 ⟨0,[],Y7 lk σ,_,I4,st4,fun b hb=>(f3 b hb).1,w0⟩
  obtain⟨i,xs,σ6,H6,I6,st6,fr6,w6⟩:=hI
  show r6 _ X.A ((compTurn (.ListComp elt [⟨tg,iter,ifs,0⟩] scope pos) 0 (.ref it) (.ref s2.heap.objs.size) (K7 scope cl h3.objs.size X.env)).onRaise (fun x=>do at7 x (K7 scope cl h3.objs.size X.env);bd6 x)) _ _ s6
  refine bU3 ?_
  rw[bw1]
  refine a7 (U2 (a7 ?_))
  obtain⟨hD6,hw⟩:=turn i n xs σ6 H6 w6
  rcases hw with⟨stop,qn⟩ | ⟨go,hlen,step⟩
  ·refine thn (T.done (A0 X scope cl N' { s2 with heap:=h3,toks:=s2.toks } (upd H2 s2.heap.objs.size (.lst [])) fp (XeC X E pins σ h3.objs.size)) rfl rfl rfl hc i [] s6 σ6 H6 _ I6 (stat fr6) st6 stop) fun r s7 ⟨hr,I7⟩=>?_
   subst hr
   exact i8 (fin s7 σ6 H6 I7 qn)
  ·refine thn (T.item (A0 X scope cl N' { s2 with heap:=h3,toks:=s2.toks } (upd H2 s2.heap.objs.size (.lst [])) fp (XeC X E pins σ h3.objs.size)) rfl rfl rfl hc i [] s6 σ6 H6 _ I6 (stat fr6) st6 go) fun r s7 ⟨u,hr,h7⟩=>?_
   subst hr
   refine a7 (thn h7 fun _ s8 ⟨x,H8,I8,r8,y8,st8,fr8⟩=>?_)
   have I8':=I8.pinned (stat fr8) (T.obj _ _ st8)
   refine a7 (B6 (hg pins σ _ _ _ _ s8 σ6 H8 x u _ I8' r8 (step x H8 y8)) (fun _ s9 ⟨σ9,H9,I9,q9⟩=>?_) (fun _ _ z=>an7 (Q:=R) (acc:=.none) eX rfl z))
   refine a7 (B6 (ht pins σ _ _ _ _ s9 σ9 H9 _ I9 q9) (fun ok s10 ⟨H10,I10,q10⟩=>?_) (fun _ _ z=>an7 (Q:=R) (acc:=.none) eX rfl z))
   have bc9:∀ {σ':St} {H':Hp} {ys:List V} {s':Shared},Inv (A0 X scope cl N' { s2 with heap:=h3,toks:=s2.toks } (upd H2 s2.heap.objs.size (.lst [])) fp (XeC X E pins σ h3.objs.size)) ([]++ae8 fp s8.heap) σ' H' s'->(∃ m',m'<n/\W (i+1) m' ys σ' H') ->
     ∃ m',m'<n/\∃ i xs σ' H',Inv (A0 X scope cl N' { s2 with heap:=h3,toks:=s2.toks } (upd H2 s2.heap.objs.size (.lst [])) fp (XeC X E pins σ h3.objs.size)) [] σ' H' s'/\tn i s'.heap/\(∀ b∈fp,H' b=none)/\W i m' xs σ' H':=fun {σ' H' ys s'} I' ⟨m',hm,w'⟩=>by
    refine⟨m',hm,i+1,ys,σ',H',I'.unpinned,T.keep _ _ _ st8 fun b hb o eb=>(I'.pin (b,o) (j2 _ (j2 _ (L0 hb eb)))).1,fun b hb=>?_,w'⟩
    obtain⟨o,eb,_⟩:=T.obj _ _ st8 b hb
    exact(I'.pin (b,o) (j2 _ (j2 _ (L0 hb eb)))).2.1
   cases ok with
   | false =>
    have q10':∃ m',m'<n/\W (i+1) m' xs σ9 H10:=by simpa using q10
    exact i8 ⟨rfl,bc9 I10 q10'⟩
   | true =>
    rw[if_pos rfl]at q10
    refine a7 (a7 (B6 (he pins σ _ _ _ I3' f3 _ s10 σ9 H10 _ I10 q10) (fun y s11 ⟨v11,H11,I11,r11,hD11,q11⟩=>?_) (fun _ _ z=>an7 (Q:=R) (acc:=.none) eX rfl z)))
    refine a7 (B6 (P6 (X:=A0 X scope cl N' { s2 with heap:=h3,toks:=s2.toks } (upd H2 s2.heap.objs.size (.lst [])) fp (XeC X E pins σ h3.objs.size)) _ s11 σ9 H11 (.ref s2.heap.objs.size) [v11] (.ref s2.heap.objs.size) [y] (fun _ H'=>∃ m',m'<n/\W (i+1) m' (xs++[v11]) σ9 H') I11 rfl (.cons r11 .nil) ⟨s2.heap.objs.size,xs,v11,rfl,rfl,hD11,hlen,q11⟩) (fun _ s12 ⟨_,H12,I12,_,q12⟩=>?_) (fun _ _ z=>an7 (Q:=R) (acc:=.none) eX rfl z))
    exact i8 (i8 ⟨rfl,bc9 I12 q12⟩)
 exact ap2 (loop _ rfl) (T.self X.A 0 _ _ _ st4 (loop _ rfl))
theorem bm9 (eX:X=V0 (CXE P w) P w K mg base N qual scope0 f cd A outer s0 H0 E){y:Str}{py:Pos}{elt iter:Expr}{spos:Pos}{wi:TI}{g:TG}{tt:TT}
  (hN:X.N.Nodup)(hy:X.N[i]?=some y)(hyl:X.env.scope.names.lookup y=some .local)
  (hsw:bI8 (.ListComp elt [⟨tg,iter,ifs,0⟩] scope pos) (some (.Name y py)) spos.line X.env=pure true)
  (hc:X.calm=true)(hi:PI X tg iter wi)(hclos:aj9 scope X.env=pure cl)(hkind:scope.kind=.function)
  (hnames:∀ y∈scope.names,y.2=.local->scope.names.lookup y.1=some .local)(hcl:ar5 X.env cl)(hfr:al5 scope.names cl=true)(hlk:aX3 X N' lk scope cl)
  (hg:∀ pins σ s3 H3 fp,PG (A0 X scope cl N' s3 H3 fp (XeC X E pins σ s3.heap.objs.size)) tg g)(ht:∀ pins σ s3 H3 fp,PTs (A0 X scope cl N' s3 H3 fp (XeC X E pins σ s3.heap.objs.size)) ifs tt)(he:∀ pins σ s3 H3 fp,Inv X pins σ H3 s3->(∀ b∈fp,M7 X pins H3 b)->PE (A0 X scope cl N' s3 H3 fp (XeC X E pins σ s3.heap.objs.size)) elt te)
  (hs:∀ x,Q1 iter X.env x=pure x:=by intro _;rfl):PS X (.Assign [.Name y py] (.ListComp elt [⟨tg,iter,ifs,0⟩] scope pos) spos) (bF9 i (aL8 wi lk g tt te)):=by
 intro pins s σ H D I h
 rw[bJ7 _ _ _ _ hsw]
 refine a7 (U2 (a7 ?_))
 show r6 _ X.A (do let _ <- aG4 (.ListComp elt [⟨tg,iter,ifs,0⟩] scope pos) scope X.env _ (bU4 []) false (eval iter X.env) (some (aS4 (.Name y py) X.env))) _ _ s
 refine a7 (thn (aW7 eX (use:=some (aS4 (.Name y py) X.env)) (R:=fun _ s'=>SP X pins D .next s') hc hi hclos hkind hnames hcl hfr hlk hg ht he hs I h
  fun C Dd s' H' I' q' hC hCL hCs hCc hCp ⟨m,hm⟩=>?_) fun _ s' hq=>i8 (i8 hq))
 show r6 _ X.A (aS4 (.Name y py) X.env (.ref Dd)) _ _ s'
 refine aK7 (ap3 (v:=.ref Dd) I' hN hy (.inl hyl) rfl (fun s2 I2 ⟨a,hsb,ha⟩=>?_) (.inr hyl))
 have hCa:C≠a:=by
  rcases ha with z | z
  ·rw[z];exact hCL
  ·exact(hCc y a z).symm
 refine⟨m,hm.sameBut hsb hCa,fun h' hs'=>?_⟩
 obtain⟨h0,g0,d0,t0,o0⟩:=s2
 exact⟨_,H',I2.turned (t':=t0) (it:=C) (fun b o hb eb=>(hs'.2 b hb).trans eb) hC hCL (.inr hCs) hCc hCp,q'⟩
end
end L2
namespace Web
open PySem L2
section
variable {K:W.Frag} {mg:Str->Option Value} {base:Heap}
def bG5:Sp:=fun vs H Q _=>∃ (x:Str) (m:Int),vs=[.str x,.int m]/\x.length<=5000/\∀ H',o8 H H'->Q (.bl (okW m x.cps.toList)) H'
theorem bH1:t9 ["word","most","figures"] ["word","most"] (i6 aM6):=.mk'
theorem zero_eq (x:Str):decide ((V.str x:V)=.str "0")=decide (x.cps.toList=[48]):=by
 rw[F3,decide_eq_true_iff,decide_eq_true_iff,V.str.injEq,ak3]
 rfl
theorem aN9 (c:Nat):decide ((V.str ⟨#[c]⟩:V)=.str "0")=decide (c=48):=by
 rw[zero_eq,F3,decide_eq_true_iff,decide_eq_true_iff]
 show [c]=[48]↔_
 simp
theorem bO4 {tF:Tok} (F:Fun K "is_number" "is_number" aM6 f fd) (B:Bn mg) (mF:mg "FIGURES"=some (.str "0123456789" tF)):x5 P w K mg base CX0 1 f fd ["word","most"] bG5:=by
 refine F.ok bH1 (fun cdv A outer s H vs Q E hr h=>?_)
 obtain⟨x,m,rfl,hx,q⟩:=h
 have hsl:=M5
 have nd1:(["sign"]:List Str).Nodup:=by decide +kernel
 refine⟨_,ah2 (u7 (i:=2) bH1.nd rfl (Or.inl rfl) (an0 (aq0 (X3 PySem.F.plainAttrs_str PySem.F.slot_str_startswith PySem.F.type_str_startswith bf7 (pv 0) (a6 D8 c7))) (L4 bL9 (pv 0) (N9 c9) Q5) (pv 0)))
  (d7 (E5 (PW.pt (as6 (T6 (ae7 af3 af3 c9 (p7 aA6 (by rfl) B.len PySem.boot_len (a6 (pv 2) c7)) (pv 1)))
    (ae6 (T6 (aq0 (p7 (bh9 rfl) (by rfl) B.all boot_all (a6
     (K8 (N' := ["sign"]) (lk := [none]) rfl (bn2 (pv 2)) (by rfl) rfl (by decide +kernel) (by exact trivial) (by rfl) (by exact LkL.ok trivial)
      (fun _ _ _=>A2 (i:=0) nd1 rfl (Or.inl rfl)) (fun _ _ _=>M8) (fun _ _ _=>aI1 bf1 (pv 0) (ab2 (v:=.str "0123456789") (by rfl) mF ⟨tF,rfl⟩) (by rfl))) c7))))))) (j7 (u4 bn8)) A6)
  (j7 (u4 (bX7 (aI1 V7 (pv 0) D8 (A1 _)) (bN1 (aI1 aE2 (as7 (pv 2) c9 (fun _ _=>rfl)) D8 (A1 _))))))),?_⟩
 have hF:=fgS x
 refine⟨fun σ H2=>∃ y:Str,σ=[some (.str x),some (.int m),some (.str y)]/\H=H2/\y.length<=x.length/\y.cps.toList=fgL x.cps.toList,?_,?_⟩
 ·refine⟨_,rfl,rfl,x,⟨#[45]⟩,rfl,rfl,_,rfl,?_⟩
  by_cases hs:Txt.startswith x ⟨#[45]⟩=true
  ·rw[if_pos hs]at hF
   rw[hs]
   exact F8 ⟨_,rfl,_,rfl,x,rfl,by omega,_,rfl,rfl,Txt.slice_le x _ _,hF⟩
  ·rw[if_neg hs]at hF
   rw[bT3]at hs
   rw[hs]
   exact F0 ⟨_,rfl,_,rfl,rfl,c6 _,hF⟩
 rintro σ H2 ⟨y,rfl,rfl,hy,eY⟩
 have lY:y.length=(fgL x.cps.toList).length:=by rw[<- E3,eY]
 have fin:∀ b:Bool,okW m x.cps.toList=b->∀ H',o8 H H'->Q (.bl b) H':=fun b e H' s'=>by
  rw[<- e]
  exact q H' s'
 refine⟨_,rfl,_,_,rfl,⟨by omega,rfl⟩,_,_,rfl,rfl,_,rfl,?_⟩
 by_cases h1:(1:Int)<=(y.length:Int)
 ·rw[decide_eq_true h1]
  refine F8 ⟨_,rfl,_,_,rfl,rfl,_,rfl,?_⟩
  by_cases h2:(y.length:Int)<=m
  ·rw[decide_eq_true h2]
   refine F0 ⟨_,rfl,y,rfl,fun D hD=>aR0 (x:=y) (D:=D) (fun i xs σ' H'=>(∃ v,σ'=[v])/\o8 H H'/\H' D=some (.lst xs)/\xs=((y.cps.toList.take i).map isD).map V.bl)
    ⟨⟨none,rfl⟩,d6 hD,a9,by rw[G2];rfl⟩ (by omega) (fun i xs σ' H' hi ⟨_,s2,g2,e2⟩=>⟨g2,by rw[e2,a5,a5,l6];omega⟩) ?_ ?_⟩
   ·rintro i xs c σ' H' N kN hc ⟨⟨v,rfl⟩,s2,g2,rfl⟩
    refine B2 (G7 ?_)
    refine⟨_,rfl,_,_,rfl,rfl,?_⟩
    refine⟨g2,kN _ _ _ ⟨⟨_,rfl⟩,s2.upd hD,a9,?_⟩⟩
    rw[br5,o5,hc,c8,c8]
    rfl
   ·rintro xs σ' H1 ⟨⟨v,rfl⟩,s1,g1,rfl⟩
    rw[<- E3,J5]at g1
    refine⟨D,_,rfl,g1,_,rfl,?_⟩
    have ea:((y.cps.toList.map isD).all id)=(fgL x.cps.toList).all isD:=by rw[List.all_map,eY];rfl
    rw[ea]
    cases e3:(fgL x.cps.toList).all isD with
    | false =>
     refine F8 (fin false ?_ H1 s1)
     unfold okW
     rw[e3,aX9,B9]
    | true =>
     refine F0 ⟨_,rfl,rfl,_,rfl,?_⟩
     rw[zero_eq]
     have e12:okW m x.cps.toList=(decide (x.cps.toList=[48]) || !decide ((fgL x.cps.toList).head?=some 48)):=by
      unfold okW
      rw[e3,<- lY,decide_eq_true h1,decide_eq_true h2]
      rfl
     cases e4:decide (x.cps.toList=[48]) with
     | true =>
      refine F8 (fin true ?_ H1 s1)
      rw[e12,e4,Bool.true_or]
     | false =>
      have hl:0<y.cps.toList.length:=by rw[E3];omega
      obtain⟨c,l,ec⟩:∃ c l,y.cps.toList=c::l:=by
       cases e:y.cps.toList with
       | nil=>rw[e]at hl;exact absurd hl (by decide)
       | cons c l=>exact⟨c,l,rfl⟩
      refine F0 ⟨_,rfl,y,0,c,rfl,rfl,by decide,by decide,(by show (0:Int)<(y.length:Int);omega),?_,rfl,?_⟩
      ·rw[<- b9,ec];rfl
      ·rw[aN9]
       refine fin _ ?_ H1 s1
       rw[e12,e4,Bool.false_or,<- eY,ec]
       show (!decide (some c=some 48))=_
       congr 1
       rw[F3,decide_eq_true_iff,decide_eq_true_iff,Option.some.injEq]
  ·rw[decide_eq_false h2]
   refine F8 (fin false ?_ H (o8.refl H))
   unfold okW
   rw[<- lY,decide_eq_false h2,aX9,B9,B9]
 ·rw[decide_eq_false h1]
  refine F0 ⟨_,rfl,F8 (fin false ?_ H (o8.refl H))⟩
  unfold okW
  rw[<- lY,decide_eq_false h1,B9,B9,B9]
def bL7 (CN:Addr):Sp:=fun vs H Q E=>∃ (x:Str) (m:Int),vs=[.str x,.int m]/\x.length<=5000/\m<=100/\(okW m x.cps.toList=true->∀ n H',o8 H H'->PySem.intText? x=some n->Q (.int n) H')/\(okW m x.cps.toList=false->∀ H',o8 H H'->E (.ref CN) none H')
theorem cc9:t9 ["word","most"] ["word","most"] (i6 sNW):=.mk'
theorem bf4 {m:Int}(hm:m<=100)(h:okW m x.cps.toList=true):x.length<=640:=by
 unfold okW at h
 rw[m7,m7,m7,decide_eq_true_iff,decide_eq_true_iff]at h
 obtain⟨⟨⟨h1,h2⟩,h3⟩,_⟩:=h
 rw[<- E3]
 unfold fgL at h2
 split at h2
 ·rw[x6]at h2;omega
 ·omega
theorem bY8 {fI CN:Addr}{tF:Tok}(F:Fun K "number_within" "number_within" sNW f fd)(B:Bn mg)(FI:Fun K "is_number" "is_number" aM6 fI fdI)(bI:Binds K fdI ["word","most"] [])(mI:mg "is_number"=some (.ref fI))(mF:mg "FIGURES"=some (.str "0123456789" tF))
  (mN:mg "NoText"=some (.ref CN))(cN:ar4 K CN):x5 P w K mg base (CXE P w) 2 f fd ["word","most"] (bL7 CN):=by
 have GI:x5 P w K mg base CX0 1 fI fdI ["word","most"] bG5:=bO4 FI B mF
 refine F.okX cc9 (fun cdv A outer s H vs Q E hr h=>?_)
 obtain⟨x,m,rfl,hx,hm,h1,h2⟩:=h
 refine⟨_,d7 (E5 (T6 (aq0 (u9 GI hr rfl mI FI.kp bI .nil F2 (a6 (pv 0) (a6 (pv 1) c7))))) (j7 (ax9 (by rfl) mN cN)) A6)
  (j7 (u4 (G5 aj0 (by rfl) B.int (by rfl) (a6 (pv 0) c7)))),?_⟩
 refine⟨_,rfl,_,rfl,x,m,rfl,hx,fun H1 s1=>⟨_,rfl,?_⟩⟩
 cases e:okW m x.cps.toList with
 | false=>exact F8 (h2 e H1 s1)
 | true =>
  obtain⟨n,hn⟩:=bB4 hm e
  exact F0 ⟨_,rfl,x,n,rfl,hn,bf4 hm e,h1 e n H1 s1 hn⟩
end
theorem p60:(0:Int)<10 ^ (J1 60):=bI7 (by decide)
section
variable {K:W.Frag} {mg:Str->Option Value} {base:Heap}
def bl7 (K:W.Frag):Sp:=fun vs H Q _=>∃ (a:Addr) (ns:List Int) (k:Nat),vs=[.ref a,.int k]/\SqL K H a (ns.map V.int)/\∀ r:Int,Q (.int r) H
theorem bM4:t9 ["script","k"] ["script","k"] (i6 ax4):=.mk'
theorem bB2 (F:Fun K "_law_cell_at" "_law_cell_at" ax4 f fd)(B:Bn mg):x5 P w K mg base CX0 1 f fd ["script","k"] (bl7 K):=by
 refine F.ok bM4 (fun cdv A outer s H vs Q E hr h=>?_)
 obtain⟨a,ns,k,rfl,hS,q⟩:=h
 refine⟨_,d7 (E5 (p6 af2 (pv 1) (p7 v9 (by rfl) B.len PySem.boot_len (a6 (pv 0) c7)) (A1 _)) (j7 (u4 (C6 D0 (pv 0) (pv 1) (fun _ _=>rfl)))) A6)
  (j7 (u4 c9)),?_⟩
 refine⟨_,rfl,_,rfl,a,_,rfl,.inl hS,_,_,rfl,rfl,_,rfl,?_⟩
 refine af5 (fun h=>?_) (fun h=>?_)
 ·have hl:k<ns.length:=by
   have:=of_decide_eq_true h
   rw[a5]at this
   omega
  refine⟨_,rfl,_,rfl,a,_,_,_,rfl,rfl,hS,t7 (j:=k) (v:=.int ns[k]) (by simp[hl]),?_⟩
  exact q _
 ·exact q _
def bG1 (K:W.Frag):Sp:=fun vs H Q _=>∃ (c:Int) (m z:Nat),vs=[.int c,.int m,.int z]/\m<=300/\1<=z/\z<=100000000/\∀ (l:Addr) (ts:List Int) (H':Hp),ts.length=m->o8 H H'->H l=none->H' l=some (.lst (ts.map V.int))->Q (.ref l) H'
theorem P5:t9 ["cell","many","size","rest","stir","row","k"] ["cell","many","size"] (i6 aC7):=.mk'
theorem bN9 (F:Fun K "_law_row" "_law_row" aC7 f fd) (B:Bn mg):x5 P w K mg base CX0 1 f fd ["cell","many","size"] (bG1 K):=by
 refine F.ok P5 (fun cdv A outer s H vs Q E hr h=>?_)
 obtain⟨c,m,z,rfl,hm,hz1,hz2,q⟩:=h
 have hsl:=M5
 have hz0:(0:Int)<(z:Int):=by omega
 refine⟨_,d7 (u7 (i:=0) P5.nd rfl (Or.inl rfl) (n8 C9 (pv 0) (n8 af1 c9 c9)))
  (d7 (u7 (i:=3) P5.nd rfl (Or.inl rfl) (n8 K9 (pv 0) c9))
  (d7 (u7 (i:=4) P5.nd rfl (Or.inl rfl) (pv 0))
  (d7 (u7 (i:=5) P5.nd rfl (Or.inl rfl) (Q7 c7))
  (d7 (V5 PassesOwn.never rfl (O0 rfl B.range (a6 (pv 1) c7)) (A2 (i := 6) P5.nd rfl (Or.inl rfl))
   (j7 (E5 (p6 V7 (n8 C9 (pv 0) c9) c9 (A1 _))
    (d7 (X1 (X3 PySem.F.plainAttrs_list PySem.F.slot_list_append PySem.F.type_list_append P6 (pv 5) (a6 (n8 C9 (pv 3) (pv 2)) c7)))
    (j7 (u7 (i:=3) P5.nd rfl (Or.inl rfl) (n8 K9 (pv 3) (pv 2)))))
    (d7 (u7 (i:=4) P5.nd rfl (Or.inl rfl) (n8 C9 (n8 O3 (n8 C9 (pv 4) c9) (n8 T7 c9 (n8 O3 (pv 6) c9))) c9))
    (d7 (u7 (i:=4) P5.nd rfl (Or.inl rfl) (n8 C9 (n8 T7 (pv 4) (pv 4)) c9))
    (d7 (u7 (i:=4) P5.nd rfl (Or.inl rfl) (n8 C9 (n8 T7 (pv 4) c9) c9))
    (j7 (X1 (X3 PySem.F.plainAttrs_list PySem.F.slot_list_append PySem.F.type_list_append P6 (pv 5) (a6 (n8 C9 (n8 K9 (pv 4) c9) (pv 2)) c7))))))))))
  (j7 (u4 (pv 5))))))),?_⟩
 refine⟨_,rfl,_,_,rfl,rfl,⟨by decide,by decide,by decide⟩,_,_,rfl,rfl,p60,?_⟩
 refine C7 fun c1 _=>?_
 refine⟨_,rfl,_,_,rfl,rfl,⟨by decide,by decide⟩,?_⟩
 refine C7 fun r0 _=>?_
 refine⟨_,rfl,?_⟩
 refine⟨by show 0<=f6;omega,fun l hl=>?_⟩
 have s0:=d6 (o:=.lst []) hl
 refine⟨_,rfl,m,rfl,by omega,by omega,O1 (lo:=0) (n:=m) (fun i σ H1=>∃ (ts:List Int) (r st:Int) (e6:Option V),σ=[some (.int c1),some (.int m),some (.int z),some (.int r),some (.int st),some (.ref l),e6]/\o8 H H1/\H1 l=some (.lst (ts.map V.int))/\ts.length=i)
  ⟨[],r0,c1,none,rfl,s0,a9,rfl⟩ ?_ ?_⟩
 ·rintro i σ H1 hi ⟨ts,r,st,e6,rfl,s1,g1,hl1⟩
  have e0:((0:Int)+(i:Int))=(i:Int):=by omega
  rw[e0]
  refine B2 ?_
  refine⟨_,rfl,_,_,rfl,rfl,(by show (0:Int)<2;decide),rfl,_,rfl,?_⟩
  refine af5 (fun h=>?_) (fun h=>?_)
  ·refine⟨_,rfl,.inl ⟨rfl,_,SqL.of g1⟩,_,rfl,_,rfl,_,_,rfl,rfl,hz0,l,_,_,rfl,rfl,g1,by rw[a5];omega,?_⟩
   refine⟨_,rfl,_,rfl,_,_,rfl,rfl,⟨hz0,by omega⟩,?_⟩
   exact⟨ts++[r % (z:Int)],_,_,_,rfl,s1.upd hl,by rw[a9,c8];rfl,by rw[i9,hl1];rfl⟩
  ·refine⟨_,rfl,_,_,rfl,rfl,(by show (0:Int)<998244353;decide),_,rfl,_,_,rfl,rfl,_,_,rfl,rfl,.inl ⟨by decide,by decide⟩,_,_,rfl,rfl,_,_,rfl,rfl,(by show (0:Int)<2147483647;decide),?_⟩
   refine C7 fun k1 hk1=>?_
   have k10:0<=k1:=by rw[hk1];exact J0 _ (by decide)
   have k11:k1<2147483647:=by rw[hk1];exact D7 _ (by decide)
   clear hk1
   refine⟨_,rfl,_,rfl,_,_,rfl,rfl,.inl ⟨by omega,by omega⟩,_,_,rfl,rfl,(by show (0:Int)<2147483629;decide),?_⟩
   refine C7 fun k2 _=>?_
   refine⟨_,rfl,_,_,rfl,rfl,.inr ⟨by decide,by decide⟩,_,_,rfl,rfl,(by show (0:Int)<2147483647;decide),?_⟩
   refine C7 fun k3 _=>?_
   refine⟨_,rfl,.inl ⟨rfl,_,SqL.of g1⟩,_,rfl,_,_,rfl,rfl,⟨by decide,by decide⟩,_,rfl,_,_,rfl,rfl,hz0,l,_,_,rfl,rfl,g1,by rw[a5];omega,?_⟩
   exact⟨ts++[k3 / 7 % (z:Int)],_,_,_,rfl,s1.upd hl,by rw[a9,c8];rfl,by rw[i9,hl1];rfl⟩
 ·rintro σ H1 ⟨ts,r,st,e6,rfl,s1,g1,hl1⟩
  exact⟨_,rfl,q l ts H1 hl1 s1 hl g1⟩
theorem ba6 {ts:List Int}{z:Int}(hz:0<z)(hb:∀ t∈ts,0<=t/\t<z)(x:Int):∀ t∈ts++[x % z],0<=t/\t<z:=fun t ht=>by
 rcases u6.mp ht with h | h
 ·exact hb t h
 ·rw[n5.mp h]
  exact⟨J0 _ (by omega),D7 _ hz⟩
def bk9 (K:W.Frag):Sp:=fun vs H Q _=>∃ (c:Int) (m z:Nat),vs=[.int c,.int m,.int z]/\m<=300/\1<=z/\z<=100000000/\∀ (l:Addr) (ts:List Int) (H':Hp),ts.length=m->(∀ t∈ts,0<=t/\t<(z:Int))->o8 H H'->H l=none->H' l=some (.lst (ts.map V.int))->Q (.ref l) H'
theorem bA4 (F:Fun K "_law_row" "_law_row" aC7 f fd) (B:Bn mg):x5 P w K mg base CX0 1 f fd ["cell","many","size"] (bk9 K):=by
 refine F.ok P5 (fun cdv A outer s H vs Q E hr h=>?_)
 obtain⟨c,m,z,rfl,hm,hz1,hz2,q⟩:=h
 have hsl:=M5
 have hz0:(0:Int)<(z:Int):=by omega
 refine⟨_,d7 (u7 (i:=0) P5.nd rfl (Or.inl rfl) (n8 C9 (pv 0) (n8 af1 c9 c9)))
  (d7 (u7 (i:=3) P5.nd rfl (Or.inl rfl) (n8 K9 (pv 0) c9))
  (d7 (u7 (i:=4) P5.nd rfl (Or.inl rfl) (pv 0))
  (d7 (u7 (i:=5) P5.nd rfl (Or.inl rfl) (Q7 c7))
  (d7 (V5 PassesOwn.never rfl (O0 rfl B.range (a6 (pv 1) c7)) (A2 (i := 6) P5.nd rfl (Or.inl rfl))
   (j7 (E5 (p6 V7 (n8 C9 (pv 0) c9) c9 (A1 _))
    (d7 (X1 (X3 PySem.F.plainAttrs_list PySem.F.slot_list_append PySem.F.type_list_append P6 (pv 5) (a6 (n8 C9 (pv 3) (pv 2)) c7)))
    (j7 (u7 (i:=3) P5.nd rfl (Or.inl rfl) (n8 K9 (pv 3) (pv 2)))))
    (d7 (u7 (i:=4) P5.nd rfl (Or.inl rfl) (n8 C9 (n8 O3 (n8 C9 (pv 4) c9) (n8 T7 c9 (n8 O3 (pv 6) c9))) c9))
    (d7 (u7 (i:=4) P5.nd rfl (Or.inl rfl) (n8 C9 (n8 T7 (pv 4) (pv 4)) c9))
    (d7 (u7 (i:=4) P5.nd rfl (Or.inl rfl) (n8 C9 (n8 T7 (pv 4) c9) c9))
    (j7 (X1 (X3 PySem.F.plainAttrs_list PySem.F.slot_list_append PySem.F.type_list_append P6 (pv 5) (a6 (n8 C9 (n8 K9 (pv 4) c9) (pv 2)) c7))))))))))
  (j7 (u4 (pv 5))))))),?_⟩
 refine⟨_,rfl,_,_,rfl,rfl,⟨by decide,by decide,by decide⟩,_,_,rfl,rfl,p60,?_⟩
 refine C7 fun c1 _=>?_
 refine⟨_,rfl,_,_,rfl,rfl,⟨by decide,by decide⟩,?_⟩
 refine C7 fun r0 _=>?_
 refine⟨_,rfl,?_⟩
 refine⟨by show 0<=f6;omega,fun l hl=>?_⟩
 have s0:=d6 (o:=.lst []) hl
 refine⟨_,rfl,m,rfl,by omega,by omega,O1 (lo:=0) (n:=m) (fun i σ H1=>∃ (ts:List Int) (r st:Int) (e6:Option V),σ=[some (.int c1),some (.int m),some (.int z),some (.int r),some (.int st),some (.ref l),e6]/\o8 H H1/\H1 l=some (.lst (ts.map V.int))/\ts.length=i/\∀ t∈ts,0<=t/\t<(z:Int))
  ⟨[],r0,c1,none,rfl,s0,a9,rfl,fun t h=>by cases h⟩ ?_ ?_⟩
 ·rintro i σ H1 hi ⟨ts,r,st,e6,rfl,s1,g1,hl1,hba⟩
  have e0:((0:Int)+(i:Int))=(i:Int):=by omega
  rw[e0]
  refine B2 ?_
  refine⟨_,rfl,_,_,rfl,rfl,(by show (0:Int)<2;decide),rfl,_,rfl,?_⟩
  refine af5 (fun h=>?_) (fun h=>?_)
  ·refine⟨_,rfl,.inl ⟨rfl,_,SqL.of g1⟩,_,rfl,_,rfl,_,_,rfl,rfl,hz0,l,_,_,rfl,rfl,g1,by rw[a5];omega,?_⟩
   refine⟨_,rfl,_,rfl,_,_,rfl,rfl,⟨hz0,by omega⟩,?_⟩
   exact⟨ts++[r % (z:Int)],_,_,_,rfl,s1.upd hl,by rw[a9,c8];rfl,by rw[i9,hl1];rfl,ba6 hz0 hba _⟩
  ·refine⟨_,rfl,_,_,rfl,rfl,(by show (0:Int)<998244353;decide),_,rfl,_,_,rfl,rfl,_,_,rfl,rfl,.inl ⟨by decide,by decide⟩,_,_,rfl,rfl,_,_,rfl,rfl,(by show (0:Int)<2147483647;decide),?_⟩
   refine C7 fun k1 hk1=>?_
   have k10:0<=k1:=by rw[hk1];exact J0 _ (by decide)
   have k11:k1<2147483647:=by rw[hk1];exact D7 _ (by decide)
   clear hk1
   refine⟨_,rfl,_,rfl,_,_,rfl,rfl,.inl ⟨by omega,by omega⟩,_,_,rfl,rfl,(by show (0:Int)<2147483629;decide),?_⟩
   refine C7 fun k2 _=>?_
   refine⟨_,rfl,_,_,rfl,rfl,.inr ⟨by decide,by decide⟩,_,_,rfl,rfl,(by show (0:Int)<2147483647;decide),?_⟩
   refine C7 fun k3 _=>?_
   refine⟨_,rfl,.inl ⟨rfl,_,SqL.of g1⟩,_,rfl,_,_,rfl,rfl,⟨by decide,by decide⟩,_,rfl,_,_,rfl,rfl,hz0,l,_,_,rfl,rfl,g1,by rw[a5];omega,?_⟩
   exact⟨ts++[k3 / 7 % (z:Int)],_,_,_,rfl,s1.upd hl,by rw[a9,c8];rfl,by rw[i9,hl1];rfl,ba6 hz0 hba _⟩
 ·rintro σ H1 ⟨ts,r,st,e6,rfl,s1,g1,hl1,hba⟩
  exact⟨_,rfl,q l ts H1 hl1 hba s1 hl g1⟩
end
theorem bx3 (z:Int)(h:0<=z/\z<4):∃ v:Nat,atI ([.int 2,.int 2,.int 3,.int 5]:List V) z=some (.int (v:Int))/\1<=v/\v<=5:=by
 have:z=0\/z=1\/z=2\/z=3:=by omega
 rcases this with h | h | h | h<;>rw[h]
 ·exact⟨2,t7 (j:=0) rfl,by decide,by decide⟩
 ·exact⟨2,t7 (j:=1) rfl,by decide,by decide⟩
 ·exact⟨3,t7 (j:=2) rfl,by decide,by decide⟩
 ·exact⟨5,t7 (j:=3) rfl,by decide,by decide⟩
theorem sub_snoc {α:Type}{l m:List α}{x:α}(h:l.Sublist (m.take i))(hx:m[i]?=some x):(l++[x]).Sublist (m.take (i+1)):=by
 rw[o5,hx]
 exact List.Sublist.append h (List.Sublist.refl _)
theorem bk5 {α:Type}{l m:List α}(h:l.Sublist (m.take i)):l.Sublist (m.take (i+1)):=by
 rw[o5]
 exact h.trans (List.sublist_append_left _ _)
section
variable {K:W.Frag} {mg:Str->Option Value} {base:Heap}
def bk8 (K:W.Frag):Sp:=fun vs H Q _=>∃ (c:Int) (n:Nat),vs=[.int c,.int n]/\n<=24/\∀ (l:Addr) (zs:List V) (ks:List (List Int)) (H':Hp),o8 H H'->H l=none->H' l=some (.tup zs)->B3 K H' zs ks->ks.Sublist (V6 n)->Q (.ref l) H'
theorem ak6:t9 ["cell","places","thin","pairs","one","other","row"] ["cell","places"] (i6 as3):=.mk'
set_option maxHeartbeats 1000000 in
theorem bA3 {fR:Addr} (F:Fun K "_law_ties" "_law_ties" as3 f fd) (B:Bn mg) (FR:Fun K "_law_row" "_law_row" aC7 fR fdR) (bR:Binds K fdR ["cell","many","size"] []) (mR:mg "_law_row"=some (.ref fR)):x5 P w K mg base CX0 2 f fd ["cell","places"] (bk8 K):=by
 have GR:x5 P w K mg base CX0 1 fR fdR ["cell","many","size"] (bG1 K):=bN9 FR B
 refine F.ok ak6 (fun cdv A outer s H vs Q E hr h=>?_)
 obtain⟨c,n,rfl,hn,q⟩:=h
 have hsl:=M5
 have hlen:=aE4 n hn
 have nd3:(["k","pairs","row"]:List Str).Nodup:=by decide +kernel
 refine⟨_,d7 (u7 (i:=0) ak6.nd rfl (Or.inl rfl) (n8 C9 (pv 0) (n8 af1 c9 c9)))
  (d7 (u7 (i:=2) ak6.nd rfl (Or.inl rfl) (C6 D0 (Q7 (a6 c9 (a6 c9 (a6 c9 (a6 c9 c7))))) (n8 C9 (pv 0) c9) (fun _ _=>rfl)))
  (d7 (u7 (i:=3) ak6.nd rfl (Or.inr rfl) (Q7 c7))
  (d7 (V5 PassesOwn.never rfl (O0 rfl B.range (a6 (pv 1) c7)) (A2 (i := 4) ak6.nd rfl (Or.inl rfl))
   (j7 (V5 PassesOwn.never rfl (aq2 rfl B.range (a6 (n8 O3 (pv 4) c9) (a6 (pv 1) c7))) (A2 (i := 5) ak6.nd rfl (Or.inl rfl))
    (j7 (X1 (X3 PySem.F.plainAttrs_list PySem.F.slot_list_append PySem.F.type_list_append P6 (pv 3) (a6 (O9 (a6 (pv 4) (a6 (pv 5) c7))) c7)))))))
  (d7 (u7 (i:=6) ak6.nd rfl (Or.inr rfl) (u9 GR hr (by rfl) mR FR.kp bR .nil F2 (a6 (n8 K9 (pv 0) c9) (a6 (p7 v9 (by rfl) B.len PySem.boot_len (a6 (pv 3) c7)) (a6 (pv 2) c7)))))
  (j7 (u4 (G5 S9 (by rfl) B.tuple (by rfl) (a6 (K8 (N':=["k","pairs","row"]) (lk:=[none,some 3,some 6]) rfl (O0 rfl B.range (a6 (p7 v9 (by rfl) B.len PySem.boot_len (a6 (pv 3) c7)) c7)) (by rfl) rfl (by decide +kernel) (by exact⟨rfl,rfl,trivial⟩) (by rfl) (by exact LkL.ok ⟨⟨rfl,Or.inl rfl,rfl,Or.inl rfl⟩,⟨rfl,Or.inl rfl,rfl,Or.inl rfl⟩,trivial⟩)
    (fun _ _ _=>A2 (i:=0) nd3 rfl (Or.inl rfl)) (fun _ _ _=>ah1 (p6 V7 (X2 K rfl (pv 2) (pv 0) (fun _ _=>rfl)) c9 (A1 _))) (fun _ _ _=>X2 K rfl (pv 1) (pv 0) (fun _ _=>rfl))) c7)))))))),?_⟩
 refine⟨_,rfl,_,_,rfl,rfl,⟨by decide,by decide,by decide⟩,_,_,rfl,rfl,p60,?_⟩
 refine C7 fun c1 _=>?_
 obtain⟨v,hv,hv1,hv2⟩:=bx3 (c1 % 4) ⟨J0 _ (by decide),D7 _ (by decide)⟩
 refine⟨(by show 4<=f6;decide),fun l3 f3=>?_⟩
 have s3:=d6 (o:=.lst [.int 2,.int 2,.int 3,.int 5]) f3
 refine⟨_,rfl,_,_,rfl,rfl,(by show (0:Int)<4;decide),l3,_,_,_,rfl,rfl,SqL.of a9,hv,?_⟩
 refine⟨by show 0<=f6;omega,fun l hl'=>?_⟩
 have hl:H l=none:=s3.free hl'
 have s03:=s3.trans (d6 (o:=.lst []) hl')
 have gl0:(upd (upd H l3 (.lst [.int 2,.int 2,.int 3,.int 5])) l (.lst [])) l=some (.lst []):=a9
 generalize upd (upd H l3 (.lst [.int 2,.int 2,.int 3,.int 5])) l (.lst [])=H0 at s03 gl0
 refine⟨_,rfl,n,rfl,by omega,by omega,O1 (lo:=0) (n:=n) (fun i σ H1=>∃ a b zs,σ=[some (.int c1),some (.int n),some (.int v),some (.ref l),a,b,none]/\o8 H H1/\H1 l=some (.lst zs)/\B3 K H1 zs ((x8 i).flatMap fun j=>ai2 j (n - (j+1))))
  ⟨none,none,[],rfl,s03,gl0,.nil⟩ ?_ ?_⟩
 ·rintro i σ H1 hi ⟨a,b,zs,rfl,s1,h1,t1⟩
  refine⟨_,rfl,_,_,rfl,rfl,_,rfl,_,_,rfl,⟨by omega,by omega,by omega,by omega⟩,O1 (lo:=0+(i:Int)+1) (fun d σ H2=>∃ b zs,σ=[some (.int c1),some (.int n),some (.int v),some (.ref l),some (.int (0+i)),b,none]/\o8 H H2/\H2 l=some (.lst zs)/\B3 K H2 zs (((x8 i).flatMap fun j=>ai2 j (n - (j+1)))++ai2 i d))
   ⟨b,zs,rfl,s1,h1,by simpa [ai2] using t1⟩ ?_ ?_⟩
  ·rintro d σ H2 hd ⟨b,zs,rfl,s2,h2,t2⟩
   have hlz:=t2.len
   have hpart:=bp0 n (i+1) (by omega)
   rw[ay0,i9]at hpart
   have hrow:∀ m,(ai2 i m).length=m:=fun m=>by simp[ai2]
   rw[i9,hrow]at hlz
   rw[hrow]at hpart
   refine⟨_,rfl,.inl ⟨rfl,_,SqL.of h2⟩,_,rfl,_,rfl,(by show 2<=f6;decide),fun p hp=>?_⟩
   have hlp:l≠p:=u5 h2 hp
   have h2':(upd H2 p (.tup [.int (0+(i:Int)),.int (0+(i:Int)+1+(d:Int))])) l=some (.lst zs):=by rw[t8 hlp];exact h2
   refine⟨l,zs,_,rfl,rfl,h2',by omega,?_⟩
   refine⟨_,_,rfl,(s2.trans (d6 hp)).upd hl,a9,?_⟩
   rw[be6,<- q8]
   refine B3.updL h2' (B3.append (o8.tups (d6 hp) t2) (B3.one (SqT.of ?_)))
   rw[a9]
   simp
  ·rintro σ H2 ⟨b,zs,rfl,s2,h2,t2⟩
   refine⟨_,_,zs,rfl,s2,h2,?_⟩
   rw[ay0]
   have e:((n:Int) - (0+(i:Int)+1)).toNat=n - (i+1):=by omega
   rw[e]at t2
   exact t2
 ·rintro σ H1 ⟨a,b,zs,rfl,s1,h1,t1⟩
  replace t1:B3 K H1 zs (V6 n):=t1
  have hzl:=t1.len
  refine⟨_,rfl,_,_,rfl,rfl,⟨by decide,by decide⟩,_,rfl,l,_,rfl,.inl (SqL.of h1),_,rfl,c1 / 4,zs.length,v,rfl,by omega,hv1,by omega,fun rl ts H4 htl s4 fr g4=>?_⟩
  have t4:=s4.tups t1
  have g4l:=s4 _ _ h1
  have s04:=s1.trans s4
  refine⟨_,rfl,l,_,rfl,.inl (SqL.of g4l),(zs.length:Int),rfl,by omega,by omega,fun D hD=>?_⟩
  rw[p0]
  refine al3 (lo:=0) (n:=zs.length) (D:=D) (fun i xs σ' H'=>(∃ v,σ'=[v,some (.ref l),some (.ref rl)])/\o8 H4 H'/\H' D=some (.lst xs)/\xs.length<=i/\∃ ks,B3 K H' xs ks/\ks.Sublist ((V6 n).take i))
   ⟨⟨none,rfl⟩,d6 hD,a9,c6 _,[],.nil,List.nil_sublist _⟩ (by omega) (fun i xs σ' H' hi ⟨_,_,g,l',_⟩=>⟨g,l'⟩) ?_ ?_
  ·rintro i xs σ' H' N kN hi ⟨⟨v',rfl⟩,s6,h6,hxl,ks,t6,sb⟩
   have e0:((0:Int)+(i:Int))=(i:Int):=by omega
   rw[e0]
   refine B2 ?_
   have hti:i<ts.length:=by omega
   refine⟨_,rfl,_,rfl,.inl ⟨rl,_,_,_,rfl,rfl,SqL.of (s6 _ _ g4),al4 hti,rfl,_,rfl,?_⟩⟩
   refine af5 (fun h=>?_) (fun h=>?_)
   ·obtain⟨y,hy⟩:∃ y,zs[i]?=some y:=⟨_,g9 hi⟩
    obtain⟨pa,pk,rfl,hk',hq⟩:=t4.get hy
    refine⟨_,rfl,_,rfl,.inl ⟨l,_,_,_,rfl,rfl,SqL.of (s6 _ _ g4l),t7 hy,h6,kN _ _ _ ⟨⟨_,rfl⟩,s6.upd hD,a9,by rw[i9,ao3];omega,ks++[pk],B3.updL h6 (B3.append t6 (B3.one (s6.seqT hq))),sub_snoc sb hk'⟩⟩⟩
   ·exact kN _ _ _ ⟨⟨_,rfl⟩,s6,h6,by omega,ks,t6,bk5 sb⟩
  ·rintro xs σ' H5 ⟨⟨v',rfl⟩,s6,h6,hxl,ks,t6,sb⟩
   refine⟨D,_,rfl,.inl ⟨SqL.of h6,fun tl ft=>?_⟩⟩
   have s7:=d6 (o:=.tup xs) ft
   exact q tl xs ks _ ((s04.trans s6).trans s7) ((s04.trans s6).free ft) a9 (s7.tups t6) (sb.trans (G3 _ _))
end
structure Tld (n:Nat) (ks:List (List Int)):Prop where
 ups:∀ k∈ks,Up n k
 nd:ks.Nodup
 srt:ks.Pairwise (fun a b=>Tim.J3 b a=false)
structure Tl (z:Int) (n:Nat) (ks:List (List Int)):Prop where
 z:z=n
 n1:1<=n
 n2:n<=24
 t:Tld n ks
theorem aF2:((" ":Str).length == 0)=false:=by decide +kernel
theorem bs5:(("-":Str).length == 0)=false:=by decide +kernel
theorem aT1 (x y:Str):∃ v r,Txt.split x y=v::r:=by
 have:=(split_len x y).1
 cases e:Txt.split x y with
 | nil=>rw[e]at this;exact absurd this (by decide)
 | cons v r=>exact⟨v,r,rfl⟩
theorem bd8 {y v:Str}{r:List Str}(e:Txt.split x y=v::r)(hx:x.length<=5000):v.length<=5000/\(∀ u∈r,u.length<=5000)/\r.length<=5001:=by
 have h:∀ u∈v::r,u.length<=5000:=fun u hu=>p9 (ah0 (x:=x) (y:=y) (by rw[e];exact hu)).1 hx
 have h2:=(split_len x y).2
 rw[e,k8]at h2
 exact⟨h v c5,fun u hu=>h u (b7 _ hu),by omega⟩
theorem bk6 {ws:List Str}{x:V}(h:(ws.map V.str)[i]?=some x):∃ u∈ws,ws[i]?=some u/\x=.str u:=by
 rw[m9]at h
 cases e:ws[i]? with
 | none=>rw[e]at h;cases h
 | some u=>rw[e]at h;cases h;exact⟨u,b8 e,rfl,rfl⟩
theorem ca5 (v:Str)(r:List Str):al1 ((v::r).map V.str) (some 1) none=r.map V.str:=aq8 ((v::r).map V.str) 1
theorem bx9 {a b:Str}{c:Bool}(h:decide ((V.str a:V)=.str b)=c):(c=true↔a=b):=by
 rw[<- h,decide_eq_true_iff,V.str.injEq]
def be3 (q:Nat × Nat):List Int:=[(q.1:Int),(q.2:Int)]
def X9 (r:List Str)(ks:List (List Int)):Prop:=∃ qs:List (Nat × Nat),r.map W4=qs.map some/\ks=qs.map be3
theorem X9.len {r:List Str}(h:X9 r ks):ks.length=r.length:=by
 obtain⟨qs,h1,rfl⟩:=h
 have:=congrArg aa0 h1
 rw[a5,a5]at this
 rw[a5,this]
theorem X9.nil:X9 [] []:=⟨[],rfl,rfl⟩
theorem X9.uniq {r:List Str}{js:List (List Int)}(h:X9 r ks)(g:X9 r js):ks=js:=by
 obtain⟨qs,h1,rfl⟩:=h
 obtain⟨ps,g1,rfl⟩:=g
 rw[h1]at g1
 have:qs=ps:=by
  clear h1
  induction qs generalizing ps with
  | nil=>cases ps with
   | nil=>rfl
   | cons p ps=>cases g1
  | cons q qs ih=>cases ps with
   | nil=>cases g1
   | cons p ps =>
    rw[n9,n9]at g1
    injection g1 with e1 e2
    injection e1 with e1
    rw[e1,ih ps e2]
 rw[this]
theorem X9.none {r:List Str}{u:Str}(h:X9 r ks)(hu:u∈r)(e:W4 u=none):False:=by
 obtain⟨qs,h1,_⟩:=h
 have:W4 u∈r.map W4:=m5.mpr ⟨u,hu,rfl⟩
 rw[h1,e]at this
 obtain⟨q,_,z⟩:=m5.mp this
 cases z
def bE2 (x:Str)(n:Nat)(ks:List (List Int)):Prop:=∃ r,Txt.split x " "=("web":Str)::r/\X9 r ks/\Tl n n ks
def N1 (z:Int):Str:=Str.ofString (toString z)
def ak2:List Int->Str
 | [a,b]=>N1 a++"-"++N1 b
 | _=>Str.empty
def aN0 (ks:List (List Int)):Str:=Str.join " " (("web":Str)::ks.map ak2)
theorem ay7 {z:Int}(h:0<=z/\z<100):z.natAbs.log2<1920/\(N1 z).length<=2/\S3 (N1 z):=by
 refine⟨?_,PyProof.Rows.toString_length_le h.1 (by decide) (by show z<10 ^ 2;omega),bc3 h.1⟩
 by_cases h0:z.natAbs=0
 ·rw[h0];decide
 ·exact(Nat.log2_lt h0).mpr (n6 (m:=128) (by omega) (by decide +kernel))
theorem aP0:("-":Str).length=1:=by decide +kernel
theorem P7:(" ":Str).length=1:=by decide +kernel
theorem aI6:("web":Str).length=3:=by decide +kernel
theorem bt6 {s:Str}(h:(s.cps.toList.all fun c=>decide (c<128))=true):S3 s:=fun c hc=>of_decide_eq_true (x9.mp h c hc)
theorem bi3:S3 (" ":Str):=bt6 (by decide +kernel)
theorem bt5:S3 ("-":Str):=bt6 (by decide +kernel)
theorem bE0:S3 ("web":Str):=bt6 (by decide +kernel)
def SmK (ks:List (List Int)):Prop:=∀ k∈ks,∃ a b:Int,k=[a,b]/\(0<=a/\a<100)/\0<=b/\b<100
theorem aY4 (h:∃ a b:Int,k=[a,b]/\(0<=a/\a<100)/\0<=b/\b<100):(ak2 k).length<=5/\S3 (ak2 k):=by
 obtain⟨a,b,rfl,ha,hb⟩:=h
 obtain⟨_,a1,a2⟩:=ay7 ha
 obtain⟨_,b1,b2⟩:=ay7 hb
 refine⟨?_,aw1 (aw1 a2 bt5) b2⟩
 show (N1 a++"-"++N1 b).length<=5
 rw[len_app,len_app,aP0]
 omega
theorem bm4 (h:SmK ks)(hl:ks.length<=300):(aN0 ks).length<=2000/\S3 (aN0 ks):=by
 have hall:∀ u∈(("web":Str)::ks.map ak2),u.length<=5/\S3 u:=fun u hu=>by
  rcases d3.mp hu with e | e
  ·rw[e];exact⟨by rw[aI6];decide,bE0⟩
  ·obtain⟨k,hk,rfl⟩:=m5.mp e
   exact aY4 (h k hk)
 have h1:=ah7 (y:=" ") (xs:=("web":Str)::ks.map ak2) (m:=5) (n:=301) (fun u hu=>(hall u hu).1) (by rw[k8,a5];omega) (by rw[P7];decide)
 have e:Txt.join " " (("web":Str)::ks.map ak2)=aN0 ks:=PySem.StrLaws.glued_eq_join _ _
 rw[P7,e]at h1
 refine⟨by have:=h1.2;omega,?_⟩
 rw[<- e]
 exact bq2 bi3 fun u hu=>(hall u hu).2
seal L2.PE L2.PA L2.PS L2.PSs L2.PT
section
variable {K:W.Frag} {mg:Str->Option Value} {base:Heap}
def bV6 (K:W.Frag):Sp:=fun vs H Q _=>∃ (p t:Addr) (n:Int) (zs:List V) (ks:List (List Int)),vs=[.ref p]/\H p=some (.tup [.int n,.ref t])/\H t=some (.tup zs)/\B3 K H zs ks/\SmK ks/\ks.length<=300/\∀ H',o8 H H'->Q (.str (aN0 ks)) H'
theorem cc4:t9 ["web"] ["web"] (i6 as0):=.mk'
theorem bY1 (F:Fun K "web_text" "web_text" as0 f fd) (B:Bn mg):x5 P w K mg base CX0 1 f fd ["web"] (bV6 K):=by
 refine F.ok cc4 (fun cdv A outer s H vs Q E hr h=>?_)
 obtain⟨p,t,n,zs,ks,rfl,gp,gt,tt,hs,hl,q⟩:=h
 have hsl:f6=16777216:=r9
 have nd2:(["one","other"]:List Str).Nodup:=by decide +kernel
 have hzl:=tt.len
 refine⟨_,j7 (u4 (X3 PySem.F.plainAttrs_str PySem.F.slot_str_join PySem.F.type_str_join av1 D8 (a6 (n8 aV0 (Q7 (a6 D8 c7))
   (K8 (N' := ["one", "other"]) (lk := [none, none]) rfl (aH8 (C6 M6 (pv 0) c9 (fun _ _ => rfl))) (by rfl) rfl (by decide +kernel) (by exact trivial) (by rfl) (by exact LkL.ok trivial)
    (fun _ _ _=>aZ7 (n:=2) K rfl rfl (Z4 (A2 (i:=0) nd2 rfl (Or.inl rfl)) (Z4 (A2 (i:=1) nd2 rfl (Or.inl rfl)) aH9))) (fun _ _ _=>M8) (fun _ _ _=>bz5 (pv 0) (pv 1) (by rw[aP0];decide)))) c7))),?_⟩
 refine⟨rfl,(by show 1<=f6;decide),fun l2 f2=>?_⟩
 have s2:=d6 (o:=.lst [.str "web"]) f2
 have g2:(upd H l2 (.lst [.str "web"])) l2=some (.lst [.str "web"]):=a9
 generalize upd H l2 (.lst [.str "web"])=H2 at s2 g2
 have gt2:=s2 _ _ gt
 have tt2:=s2.tups tt
 refine⟨_,rfl,p,_,_,_,rfl,rfl,SqT.of (s2 _ _ gp),t7 (j:=1) rfl,t,rfl,⟨_,SqT.of gt2⟩,fun D hD=>aA2 (K:=K) (a:=t) (D:=D) (ys:=zs) (fun i xs σ' H'=>(∃ v u,σ'=[v,u])/\o8 H2 H'/\H' D=some (.lst xs)/\xs=((ks.take i).map ak2).map V.str) ⟨⟨none,none,rfl⟩,d6 hD,a9,by rw[G2];rfl⟩ (by omega)
  (fun i xs σ' H' hi ⟨_,s3,g3,e3⟩=>⟨SqT.of (s3 _ _ gt2),g3,by rw[e3,a5,a5,l6];omega⟩) ?_ ?_⟩
 ·rintro i xs y σ' H' N kN hy ⟨⟨_,_,rfl⟩,s3,g3,rfl⟩
  obtain⟨a,k,rfl,hk,hq⟩:=tt2.get hy
  obtain⟨u,v,rfl,hu,hv⟩:=hs k (b8 hk)
  obtain⟨u1,u2,_⟩:=ay7 hu
  obtain⟨v1,v2,_⟩:=ay7 hv
  have u3:(Str.ofString (toString u)).length<=2:=u2
  have v3:(Str.ofString (toString v)).length<=2:=v2
  refine⟨a,_,rfl,s3.seqT hq,rfl,_,_,rfl,_,_,rfl,rfl,G7 ?_⟩
  refine⟨_,rfl,u,rfl,u1,by omega,_,rfl,v,rfl,v1,by omega,g3,kN _ _ _ ⟨⟨_,_,rfl⟩,s3.upd hD,a9,?_⟩⟩
  rw[o5,hk,c8,c8]
  rfl
 ·rintro xs σ' H3 ⟨⟨_,_,rfl⟩,s3,g3,rfl⟩
  rw[j5 (by omega)]at g3
  refine⟨l2,D,_,_,rfl,rfl,s3 _ _ g2,g3,by rw[a5,a5];show 1+ks.length<=f6;omega,fun l4 f4=>?_⟩
  have s4:=d6 (o:=.lst ([.str "web"]++(ks.map ak2).map V.str)) f4
  have h1:=ah7 (y:=" ") (xs:=("web":Str)::ks.map ak2) (m:=5) (n:=301) (fun u hu=>by
   rcases d3.mp hu with e | e
   ·rw[e,aI6];decide
   ·obtain⟨k,hk,rfl⟩:=m5.mp e
    exact(aY4 (hs k hk)).1) (by rw[k8,a5];omega) (by rw[P7];decide)
  refine⟨" ",l4,("web":Str)::ks.map ak2,rfl,rfl,SqL.of (by rw[a9];rfl),h1.1,?_⟩
  rw[show Txt.join " " (("web":Str)::ks.map ak2)=aN0 ks from PySem.StrLaws.glued_eq_join _ _]
  exact q _ ((s2.trans s3).trans s4)
end
end Web
namespace Web
open PySem L2
theorem bC1 {a b c d:Int}(h:Tim.J3 [c,d] [a,b]=false)(hne:([a,b]:List Int)≠[c,d]):HT.lexLt [a,b] [c,d]=true:=by
 unfold Tim.J3 Tim.J3 at h
 rw[HT.ab4]
 by_cases e1:c=a
 ·rw[if_pos e1]at h
  rw[if_pos e1.symm,HT.ab4]
  by_cases e2:d=b
  ·exact absurd (by rw[e1,e2]) hne
  ·rw[if_neg e2]at h
   rw[if_neg (Ne.symm e2)]
   have:=of_decide_eq_false h
   exact decide_eq_true (by omega)
 ·rw[if_neg e1]at h
  rw[if_neg (Ne.symm e1)]
  have:=of_decide_eq_false h
  exact decide_eq_true (by omega)
theorem bg1 {c d:Int}(h:0<=c):HT.lexLt [-1,-1] [c,d]=true:=by
 rw[HT.ab4,if_neg (by omega)]
 exact decide_eq_true (by omega)
def aE6 (ks:List (List Int)):Nat->List Int
 | 0=>[-1,-1]
 | i+1=>ks.getD i []
theorem bC3 (T:Tld n ks)(h:ks[i]?=some k):HT.lexLt (aE6 ks i) k=true/\(aE6 ks i).length=2:=by
 obtain⟨u,v,_,_,rfl⟩:=T.ups k (b8 h)
 cases i with
 | zero=>exact⟨bg1 (by omega),rfl⟩
 | succ i =>
  have hil:i+1<ks.length:=(c4.mp h).1
  have e1:ks[i]?=some ks[i]:=g9 (by omega)
  have el:aE6 ks (i+1)=ks[i]:=by show ks.getD i []=_;rw[m6,e1];rfl
  have e2:ks[i+1]=[(u:Int),(v:Int)]:=by
   have:=g9 hil
   rw[h]at this
   exact(Option.some.inj this).symm
  have p1:=o4.mp T.srt i (i+1) (by omega) hil (by omega)
  have p2:=o4.mp T.nd i (i+1) (by omega) hil (by omega)
  obtain⟨a,b,_,_,e3⟩:=T.ups ks[i] (R4 _)
  rw[el]
  rw[e2]at p1 p2
  rw[e3]at p1 p2 ⊢
  exact⟨bC1 p1 p2,rfl⟩
theorem bZ2 (a b c d:Int):HT.lexLt [a,b] [c,d]=Tim.J3 [a,b] [c,d]:=by
 unfold HT.lexLt Tim.J3 HT.lexLt Tim.J3
 by_cases h:a=c
 ·rw[if_pos h,if_pos h]
  by_cases g:b=d
  ·rw[if_pos g,if_pos g]
   rfl
  ·rw[if_neg g,if_neg g]
 ·rw[if_neg h,if_neg h]
theorem bm7 {α:Type}{R:α->α->Prop}(tr:∀ a b c,R a b->R b c->R a c):∀ l:List α,(∀ (m:Nat) (a b:α),l[m]?=some a->l[m+1]?=some b->R a b)->l.Pairwise R
 | [],_=>.nil
 | x::l,h=>by
  have ih:=bm7 tr l fun m a b e1 e2=>h (m+1) a b (by simpa using e1) (by simpa using e2)
  refine D3.mpr ⟨?_,ih⟩
  cases l with
  | nil=>intro y hy;cases hy
  | cons y l =>
   have hxy:=h 0 x y rfl rfl
   intro z hz
   rcases d3.mp hz with e | e
   ·rw[e];exact hxy
   ·exact tr _ _ _ hxy ((D3.mp ih).1 z e)
theorem bx1 (hu:∀ k∈ks,Up n k)(h:∀ (m:Nat) (a b:List Int),ks[m]?=some a->ks[m+1]?=some b->HT.lexLt a b=true):Tld n ks:=by
 have hA:Asc ks:=bm7 (fun a b c=>Tim.an3 a b c) ks fun m a b e1 e2=>by
  have hl:=h m a b e1 e2
  obtain⟨i,j,_,_,rfl⟩:=hu a (b8 e1)
  obtain⟨u,v,_,_,rfl⟩:=hu b (b8 e2)
  rw[bZ2]at hl
  exact hl
 refine⟨hu,bi2 hA,List.Pairwise.imp (fun {a b} e=>?_) hA⟩
 cases g:Tim.J3 b a with
 | false=>rfl
 | true =>
  have:=Tim.an3 _ _ _ e g
  rw[Tim.an4]at this
  cases this
theorem bx2 {q:Nat × Nat}(h:W4 x=some q):q.1<q.2:=by
 unfold W4 at h
 split at h
 ·split at h
  ·next e =>
   cases h
   rw[m7,decide_eq_true_iff]at e
   exact e.2
  ·cases h
 ·cases h
theorem bj9 {a b:Str}(e:Txt.split x "-"=[a,b]):W4 x=if (W5 2 a.cps.toList && W5 2 b.cps.toList && decide (T8 a.cps.toList<T8 b.cps.toList))=true then some (T8 a.cps.toList,T8 b.cps.toList) else none:=by
 unfold W4
 rw[e]
theorem bk0 (e:(Txt.split x "-").length≠2):W4 x=none:=by
 unfold W4
 split
 ·next e'=>rw[e']at e;exact absurd rfl e
 ·rfl
theorem X9.lt {r:List Str}(h:X9 r ks):∀ k∈ks,∃ i j:Nat,i<j/\k=[(i:Int),(j:Int)]:=by
 obtain⟨qs,h1,rfl⟩:=h
 intro k hk
 obtain⟨q,hq,rfl⟩:=m5.mp hk
 have:some q∈r.map W4:=by rw[h1];exact m5.mpr ⟨q,hq,rfl⟩
 obtain⟨u,_,e⟩:=m5.mp this
 exact⟨q.1,q.2,bx2 e,rfl⟩
inductive OTs (K:W.Frag) (H:Hp):List V->List (Option (Nat × Nat))->Prop
 | nil:OTs K H [] []
 | no {zs os}:OTs K H zs os->OTs K H (zs++[.non]) (os++[none])
 | yes {zs os a q}:OTs K H zs os->SqT K H a ((be3 q).map V.int)->OTs K H (zs++[.ref a]) (os++[some q])
theorem OTs.same {K:W.Frag}{zs:List V}{os:List (Option (Nat × Nat))}(h:OTs K H zs os)(s:o8 H H'):OTs K H' zs os:=by
 induction h with
 | nil=>exact .nil
 | no _ ih=>exact .no ih
 | yes _ hq ih=>exact .yes ih (s.seqT hq)
theorem OTs.len {K:W.Frag}{zs:List V}{os:List (Option (Nat × Nat))}(h:OTs K H zs os):zs.length=os.length:=by
 induction h with
 | nil=>rfl
 | no _ ih=>rw[i9,i9,ih];rfl
 | yes _ _ ih=>rw[i9,i9,ih];rfl
def oD:Option (Nat × Nat)->ad1
 | none=>.none
 | some q=>.tuple [.int (q.1:Int),.int (q.2:Int)]
theorem aq7 {K:W.Frag}:∀ {ds es:List ad1} {zs ys:List V},C1 K H ds zs->C1 K H es ys->C1 K H (ds++es) (zs++ys)
 | [],es,zs,ys,h,g=>by
  have:zs=[]:=by simpa [C1] using h
  subst this
  exact g
 | d::ds,es,zs,ys,h,g=>by
  unfold C1 at h
  obtain⟨z,zs',rfl,hz,hr⟩:=h
  show C1 K H (d::(ds++es)) (z::(zs'++ys))
  exact .mkC hz (aq7 hr g)
theorem OTs.dt {K:W.Frag}{zs:List V}{os:List (Option (Nat × Nat))}(h:OTs K H zs os):C1 K H (os.map oD) zs:=by
 induction h with
 | nil=>exact .mkN
 | no _ ih=>rw[c8];exact aq7 ih (.mkC (by unfold Dt;rfl) .mkN)
 | yes _ hq ih=>rw[c8];exact aq7 ih (.mkC (Dt.mkT hq (.mkC .mkInt (.mkC .mkInt .mkN))) .mkN)
theorem aV1:∀ os:List (Option (Nat × Nat)),PyData.canLayAll0 (os.map oD)=true
 | []=>by simp[PyData.canLayAll0]
 | none::os=>by simp[PyData.canLayAll0,oD,PyData.canLay0,aV1 os]
 | some q::os=>by simp[PyData.canLayAll0,oD,PyData.canLay0,aV1 os]
theorem bO8 (os:List (Option (Nat × Nat))):((os.map oD).any fun d=>PyData.eqv d .none)=os.any aY0:=by
 rw[List.any_map]
 congr 1
 funext o
 cases o with
 | none=>simp[oD,PyData.eqv]
 | some q=>simp[oD,PyData.eqv]
theorem OTs.ties {K:W.Frag}{zs:List V}{os:List (Option (Nat × Nat))}(h:OTs K H zs os)(hn:os.any aY0=false):∃ qs:List (Nat × Nat),os=qs.map some/\B3 K H zs (qs.map be3):=by
 induction h with
 | nil=>exact⟨[],rfl,.nil⟩
 | no _ _=>rw[List.any_append]at hn;simp at hn
 | @yes zs os a q _ hq ih =>
  rw[List.any_append,bv1]at hn
  obtain⟨qs,rfl,ht⟩:=ih hn.1
  refine⟨qs++[q],by rw[c8];rfl,?_⟩
  rw[c8]
  exact B3.append ht (B3.one hq)
seal L2.PE L2.PA L2.PS L2.PSs L2.PT
section
variable {K:W.Frag} {mg:Str->Option Value} {base:Heap}
def bG6:Sp:=fun vs H Q _=>∃ (x:Str),vs=[.str x,.int 2]/\x.length<=5000/\S3 x/\(W5 2 x.cps.toList=true->∀ H',o8 H H'->Q (.int (T8 x.cps.toList:Int)) H')/\(W5 2 x.cps.toList=false->∀ H',o8 H H'->Q .non H')
theorem bW7:t9 ["word","most"] ["word","most"] (i6 aM7):=.mk'
set_option maxHeartbeats 1000000 in
theorem bO5 (F:Fun K "_law_figures" "_law_figures" aM7 f fd)(B:Bn mg):x5 P w K mg base CX0 1 f fd ["word","most"] bG6:=by
 refine F.ok bW7 (fun cdv A outer s H vs Q E hr h=>?_)
 obtain⟨y,rfl,hx,aY,q1,q2⟩:=h
 have hsl:f6=16777216:=r9
 have hun:=hr.units
 have nd1:(["sign"]:List Str).Nodup:=by decide +kernel
 refine⟨_,d7 (E5 (PW.pt (as6 (T6 (ae7 af3 af3 c9 (p7 aA6 (by rfl) B.len PySem.boot_len (a6 (pv 0) c7)) (pv 1)))
    (ae6 (p6 bo0 (K8 (N':=["sign"]) (lk:=[none]) rfl (bn2 (pv 0)) (by rfl) rfl (by decide +kernel) (by exact trivial) (by rfl) (by exact LkL.ok trivial)
      (fun _ _ _=>A2 (i:=0) nd1 rfl (Or.inl rfl)) (fun _ _ _=>ah1 (p6 aI2 (pv 0) D8 (by rfl))) (fun _ _ _=>pv 0)) (Q7 c7) (A1 _))))) (j7 (u4 Q6)) A6)
  (d7 (E5 (PW.pt (ax8 (p6 V7 (as7 (pv 0) c9 (fun _ _=>rfl)) D8 (A1 _)) (am9 (p6 bo2 (p7 aA6 (by rfl) B.len PySem.boot_len (a6 (pv 0) c7)) c9 (A1 _))))) (j7 (u4 Q6)) A6)
  (j7 (u4 (G5 aj0 (by rfl) B.int (by rfl) (a6 (pv 0) c7))))),?_⟩
 have lY:=E3 y
 refine⟨_,rfl,_,_,rfl,⟨by omega,rfl⟩,_,_,rfl,rfl,_,rfl,?_⟩
 by_cases h1:(1:Int)<=(y.length:Int)
 ·rw[decide_eq_true h1]
  refine F8 ⟨_,rfl,_,_,rfl,rfl,_,rfl,?_⟩
  by_cases h2:(y.length:Int)<=2
  ·rw[decide_eq_true h2]
   refine F0 ⟨_,rfl,y,rfl,fun D hD=>aR0 (x:=y) (D:=D) (fun i xs σ' H'=>(∃ v,σ'=[v])/\o8 H H'/\H' D=some (.lst xs)/\xs=((y.cps.toList.take i).filter fun c=>!isD c).map fun c=>V.str ⟨#[c]⟩)
    ⟨⟨none,rfl⟩,d6 hD,a9,by rw[G2];rfl⟩ (by omega) (fun i xs σ' H' hi ⟨_,s2,g2,e2⟩=>⟨g2,by rw[e2,a5];exact p9 (K1 ..) (by rw[l6];omega)⟩) ?_ ?_⟩
   ·rintro i xs c σ' H' N kN hc ⟨⟨v,rfl⟩,s2,g2,rfl⟩
    refine⟨_,rfl,_,_,rfl,rfl,_,rfl,?_⟩
    have e5:(y.cps.toList.take (i+1))=y.cps.toList.take i++[c]:=by rw[o5,hc];rfl
    have e6:(!(!(Builtin.Str.occurrences ("0123456789":Str) ⟨#[c]⟩ 0 ("0123456789":Str).length 1).isEmpty))=!isD c:=by rw[br5]
    rw[e6]
    cases e:isD c with
    | true =>
     refine F0 (kN _ _ _ ⟨⟨_,rfl⟩,s2,g2,?_⟩)
     rw[e5,J9,ai7 (by rw[e];decide),ao5,F4]
    | false =>
     refine F8 ⟨_,rfl,g2,kN _ _ _ ⟨⟨_,rfl⟩,s2.upd hD,a9,?_⟩⟩
     rw[e5,J9,ai6 (by rw[e];rfl),ao5,c8]
     rfl
   ·rintro xs σ' H1 ⟨⟨v,rfl⟩,s1,g1,rfl⟩
    rw[<- E3,J5]at g1
    refine⟨by show 0<=f6;omega,fun l4 f4=>?_⟩
    have s4:=d6 (o:=.lst []) f4
    refine⟨_,.list [],dtS (SqL.of (s4 _ _ g1)),Dt.mkL (SqL.of a9) .mkN,cd5 (fun c hc=>aY c ((O5.mp hc).1)),by simp[PyData.canLay0,PyData.canLayAll0],?_,_,rfl,?_⟩
    ·exact bF6 hun (p9 (Nat.min_le_left _ _) (p9 (ce3 _) (by decide)))
    have s14:=s1.trans s4
    show if (!PyData.eqv _ _)=true then _ else _
    rw[ce2]
    have e0:W5 2 y.cps.toList=(y.cps.toList.all isD && (!decide (y.cps.toList.head?=some 48) || decide (y.cps.toList.length=1))):=by
     unfold W5
     rw[decide_eq_true (show 1<=y.cps.toList.length by omega),decide_eq_true (show y.cps.toList.length<=2 by omega)]
     rfl
    by_cases e3:y.cps.toList.all isD=true
    ·have ef:(y.cps.toList.filter fun c=>!isD c)=[]:=by
      rw[al7]
      intro c hc
      rw[x9.mp e3 c hc]
      decide
     rw[ef]
     refine F0 ?_
     rw[e3,P3]at e0
     have hl:0<y.cps.toList.length:=by omega
     obtain⟨c,l',ec⟩:∃ c l,y.cps.toList=c::l:=by
      cases e:y.cps.toList with
      | nil=>rw[e]at hl;exact absurd hl (by decide)
      | cons c l=>exact⟨c,l,rfl⟩
     have fin:W5 2 y.cps.toList=true->∃ n,PySem.intText? y=some n/\y.length<=640/\Q (.int n) (upd H1 l4 (.lst [])):=fun e=>⟨_,bb4 e (by decide),by omega,q1 e _ s14⟩
     refine⟨_,rfl,y,0,c,rfl,rfl,by decide,by decide,(by show (0:Int)<(y.length:Int);omega),(by rw[<- b9,ec];rfl),rfl,_,rfl,?_⟩
     rw[aN9]
     have eh:decide (y.cps.toList.head?=some 48)=decide (c=48):=by
      rw[ec,F3,decide_eq_true_iff,decide_eq_true_iff]
      exact Option.some.injEq ..  |>.to_iff
     rw[eh]at e0
     by_cases h48:c=48
     ·rw[decide_eq_true h48]at e0 ⊢
      refine F8 ⟨_,rfl,_,_,rfl,⟨by omega,rfl⟩,_,_,rfl,rfl,_,rfl,?_⟩
      by_cases h3:(1:Int)<(y.length:Int)
      ·rw[decide_eq_true h3]
       refine F8 (q2 ?_ _ s14)
       rw[e0,decide_eq_false (show ¬ y.cps.toList.length=1 by omega)]
       rfl
      ·rw[decide_eq_false h3]
       obtain⟨n,hn,hl,hq⟩:=fin (by rw[e0,decide_eq_true (show y.cps.toList.length=1 by omega),bu4])
       exact F0 ⟨_,rfl,y,n,rfl,hn,hl,hq⟩
     ·rw[decide_eq_false h48]at e0 ⊢
      obtain⟨n,hn,hl,hq⟩:=fin (by rw[e0];rfl)
      exact F0 (F0 ⟨_,rfl,y,n,rfl,hn,hl,hq⟩)
    ·have ef:(y.cps.toList.filter fun c=>!isD c).isEmpty=false:=by
      rw[List.isEmpty_eq_false_iff]
      intro z
      refine e3 (x9.mpr fun c hc=>?_)
      rw[al7]at z
      have:=z c hc
      revert this
      cases isD c<;>simp
     rw[ef]
     refine F8 (q2 ?_ _ s14)
     rw[e0,Bool.eq_false_iff.mpr e3,B9]
  ·rw[decide_eq_false h2]
   refine F8 (q2 ?_ H (o8.refl H))
   unfold W5
   rw[decide_eq_false (show ¬ y.cps.toList.length<=2 by omega),aX9,B9,B9]
 ·rw[decide_eq_false h1]
  refine F0 ⟨_,rfl,F8 (q2 ?_ H (o8.refl H))⟩
  unfold W5
  rw[decide_eq_false (show ¬ 1<=y.cps.toList.length by omega),B9,B9,B9]
end
theorem aU9 (K:W.Frag)(hK:X.K=K):OpR X (B0 .In) (rIn K false):=by subst hK;exact bf2
section
variable {K:W.Frag} {mg:Str->Option Value} {base:Heap}
def aT8:Sp:=fun vs H Q _=>∃ (x:Str),vs=[.str x]/\x.length<=5000/\S3 x/\(∀ q,W4 x=some q->∀ (t:Addr) (H':Hp),o8 H H'->H' t=some (.tup ((be3 q).map V.int))->Q (.ref t) H')/\(W4 x=none->∀ H',o8 H H'->Q .non H')
theorem aU5:t9 ["word","parts","ends"] ["word"] (i6 aM4):=.mk'
theorem bA7 {fG:Addr}{fdG:FuncData}(F:Fun K "_law_tie" "_law_tie" aM4 f fd)(B:Bn mg)(FG:Fun K "_law_figures" "_law_figures" aM7 fG fdG)(bG:Binds K fdG ["word","most"] [])(mG:mg "_law_figures"=some (.ref fG)):x5 P w K mg base CX0 2 f fd ["word"] aT8:=by
 have GG:x5 P w K mg base CX0 1 fG fdG ["word","most"] bG6:=bO5 FG B
 refine F.ok aU5 (fun cdv A outer s H vs Q E hr h=>?_)
 obtain⟨x,rfl,hx,hA,q1,q2⟩:=h
 have hsl:f6=16777216:=r9
 refine⟨_,d7 (u7 (i:=1) aU5.nd rfl (Or.inl rfl) (X3 PySem.F.plainAttrs_str PySem.F.slot_str_split PySem.F.type_str_split ay9 (pv 0) (a6 D8 c7)))
  (d7 (E5 (p6 aE2 (p7 v9 (by rfl) B.len PySem.boot_len (a6 (pv 1) c7)) c9 (A1 _)) (j7 (u4 Q6)) A6)
  (d7 (u7 (i:=2) aU5.nd rfl (Or.inl rfl) (O9 (a6 (u9 GG hr (by rfl) mG FG.kp bG .nil F2 (a6 (C6 D0 (pv 1) c9 (fun _ _=>rfl)) (a6 c9 c7))) (a6 (u9 GG hr (by rfl) mG FG.kp bG .nil F2 (a6 (C6 D0 (pv 1) c9 (fun _ _=>rfl)) (a6 c9 c7))) c7))))
  (d7 (E5 (PW.pt (as6 (p6 (aU9 K rfl) Q6 (pv 2) (by rfl)) (ae6 (T6 (p6 af2 (C6 M6 (pv 2) c9 (fun _ _=>rfl)) (C6 M6 (pv 2) c9 (fun _ _=>rfl)) (A1 _)))))) (j7 (u4 Q6)) A6)
  (j7 (u4 (pv 2)))))),?_⟩
 have h2:=split_len x "-"
 refine⟨_,rfl,rfl,x,_,rfl,rfl,bs5,by omega,by omega,fun l fl=>?_⟩
 have s1:=d6 (o:=.lst ((Txt.split x "-").map V.str)) fl
 have g1:(upd H l (.lst ((Txt.split x "-").map V.str))) l=some (.lst ((Txt.split x "-").map V.str)):=a9
 generalize upd H l (.lst ((Txt.split x "-").map V.str))=H1 at s1 g1
 refine⟨_,rfl,l,_,rfl,.inl (SqL.of g1),rfl,_,rfl,?_⟩
 by_cases e2:(Txt.split x "-").length=2
 ·have hd:decide ((V.int (((Txt.split x "-").map V.str).length:Nat):V)=.int 2)=true:=by rw[decide_eq_true_iff,a5,e2];rfl
  rw[hd]
  refine F0 ?_
  obtain⟨a,b,eab⟩:∃ a b,Txt.split x "-"=[a,b]:=by
   match h:Txt.split x "-",e2 with
   | [a,b],_=>exact⟨a,b,rfl⟩
  have ha:=ah0 (x:=x) (y:="-") (p:=a) (by rw[eab];simp)
  have hb:=ah0 (x:=x) (y:="-") (p:=b) (by rw[eab];simp)
  have eW:=bj9 eab
  rw[eab]at g1
  have no:(W5 2 a.cps.toList && W5 2 b.cps.toList && decide (T8 a.cps.toList<T8 b.cps.toList))≠true->∀ H',o8 H1 H'->Q .non H':=fun h H' s'=>q2 (by rw[eW,if_neg h]) H' (s1.trans s')
  have n2:(2:Nat)<=f6:=by omega
  have no1:W5 2 a.cps.toList=false->∀ H',o8 H1 H'->Q .non H':=fun f H' s'=>no (by rw[f];simp) H' s'
  have no2:W5 2 b.cps.toList=false->∀ H',o8 H1 H'->Q .non H':=fun f H' s'=>no (by rw[f];simp) H' s'
  have hb':b.length<=5000:=by omega
  refine⟨_,rfl,l,_,_,_,rfl,rfl,SqL.of g1,t7 (j:=0) rfl,a,rfl,by omega,ha.2 hA,fun fa H2 s2=>?_,fun fa H2 s2=>?_⟩
  ·refine⟨_,rfl,l,_,_,_,rfl,rfl,SqL.of (s2 _ _ g1),t7 (j:=1) rfl,b,rfl,hb',hb.2 hA,fun fb H3 s3=>⟨n2,fun t ft=>?_⟩,fun fb H3 s3=>⟨n2,fun t ft=>?_⟩⟩
   ·have s4:=d6 (o:=.tup [.int (T8 a.cps.toList:Int),.int (T8 b.cps.toList:Int)]) ft
    have s14:=(s2.trans s3).trans s4
    refine⟨_,rfl,t,_,rfl,.inr (SqT.of a9),rfl,rfl,_,rfl,F0 ?_⟩
    refine⟨_,rfl,t,_,_,_,rfl,rfl,SqT.of a9,t7 (j:=0) rfl,_,rfl,t,_,_,_,rfl,rfl,SqT.of a9,t7 (j:=1) rfl,_,_,rfl,rfl,_,rfl,?_⟩
    by_cases hlt:T8 a.cps.toList<T8 b.cps.toList
    ·rw[decide_eq_true (show (T8 a.cps.toList:Int)<(T8 b.cps.toList:Int) by omega)]
     exact F0 ⟨_,rfl,q1 (T8 a.cps.toList,T8 b.cps.toList) (by rw[eW,if_pos (by rw[fa,fb,decide_eq_true hlt];rfl)]) t _ (s1.trans s14) a9⟩
    ·rw[decide_eq_false (show ¬ (T8 a.cps.toList:Int)<(T8 b.cps.toList:Int) by omega)]
     exact F8 (no (by rw[decide_eq_false hlt];simp) _ s14)
   ·exact⟨_,rfl,t,_,rfl,.inr (SqT.of a9),rfl,rfl,_,rfl,F8 (F8 (no2 fb _ ((s2.trans s3).trans (d6 ft))))⟩
  ·refine⟨_,rfl,l,_,_,_,rfl,rfl,SqL.of (s2 _ _ g1),t7 (j:=1) rfl,b,rfl,hb',hb.2 hA,fun fb H3 s3=>⟨n2,fun t ft=>?_⟩,fun fb H3 s3=>⟨n2,fun t ft=>?_⟩⟩
   ·exact⟨_,rfl,t,_,rfl,.inr (SqT.of a9),rfl,rfl,_,rfl,F8 (F8 (no1 fa _ ((s2.trans s3).trans (d6 ft))))⟩
   ·exact⟨_,rfl,t,_,rfl,.inr (SqT.of a9),rfl,rfl,_,rfl,F8 (F8 (no1 fa _ ((s2.trans s3).trans (d6 ft))))⟩
 ·have hd:decide ((V.int (((Txt.split x "-").map V.str).length:Nat):V)=.int 2)=false:=by
   rw[decide_eq_false_iff_not,a5]
   intro z
   rw[V.int.injEq]at z
   omega
  rw[hd]
  exact F8 (q2 (bk0 e2) _ s1)
end
theorem OTs.updL {K:W.Frag}{D:Addr}{ws zs:List V}{os:List (Option (Nat × Nat))}(h:OTs K H zs os)(g:H D=some (.lst ws)):OTs K (upd H D (.lst ys)) zs os:=by
 induction h with
 | nil=>exact .nil
 | no _ ih=>exact .no ih
 | yes _ hq ih=>exact .yes ih (hq.updL g)
section
variable {K:W.Frag} {mg:Str->Option Value} {base:Heap}
def bL3 (K:W.Frag):Sp:=fun vs H Q _=>∃ (x:Str) (n:Nat),vs=[.str x,.int n]/\1<=n/\n<=24/\x.length<=5000/\S3 x/\(∀ ks,bE2 x n ks->∀ (p t:Addr) (zs:List V) (H':Hp),o8 H H'->H' p=some (.tup [.int n,.ref t])->H' t=some (.tup zs)->B3 K H' zs ks->Q (.ref p) H')/\((¬ ∃ ks,bE2 x n ks)->∀ H',o8 H H'->Q .non H')
theorem by1:t9 ["row","places","words","ties","k"] ["row","places"] (i6 ae1):=.mk'
set_option maxHeartbeats 1000000 in
theorem bY3 (F:Fun K "_law_web_of" "_law_web_of" ae1 f fd) (B:Bn mg) (FT:Fun K "_law_tie" "_law_tie" aM4 fT fdT) (bT:Binds K fdT ["word"] []) (mT:mg "_law_tie"=some (.ref fT)) (GT:x5 P w K mg base CX0 2 fT fdT ["word"] aT8):x5 P w K mg base CX0 3 f fd ["row","places"] (bL3 K):=by
 refine F.ok by1 (fun cdv A outer s H vs Q E hr h=>?_)
 obtain⟨x,n,rfl,n1,n2,hx,hA,q,qn⟩:=h
 have hsl:f6=16777216:=r9
 have hun:=hr.units
 have hu8:=aB8 (al6 _ 64) hr.units
 have nd1:(["word"]:List Str).Nodup:=by decide +kernel
 refine⟨_,d7 (u7 (i:=2) by1.nd rfl (Or.inl rfl) (X3 PySem.F.plainAttrs_str PySem.F.slot_str_split PySem.F.type_str_split ay9 (pv 0) (a6 D8 c7)))
  (d7 (au9 (i := 3) by1.nd rfl rfl (by rfl) (N' := ["word"]) (lk := [none]) rfl (O8 (L4 Q4 (pv 2) (N9 c9) Q5)) (by rfl) rfl (by decide +kernel) (by exact trivial) (by rfl) (by exact LkL.ok trivial)
   (fun _ _ _=>A2 (i:=0) nd1 rfl (Or.inl rfl)) (fun _ _ _=>M8) (fun _ _ _=>u9 GT hr (by rfl) mT FT.kp bT .nil F2 (a6 (pv 0) c7)))
  (d7 (E5 (PW.pt (as6 (p6 aE2 (C6 D0 (pv 2) c9 (fun _ _=>rfl)) D8 (A1 _)) (ae6 (p6 (ba2 K hr.around rfl rfl) Q6 (pv 3) (by rfl))))) (j7 (u4 Q6)) A6)
  (d7 (V5 PassesOwn.never rfl (O0 rfl B.range (a6 (p7 v9 (by rfl) B.len PySem.boot_len (a6 (pv 3) c7)) c7)) (A2 (i := 4) by1.nd rfl (Or.inl rfl))
   (j7 (E5 (PW.pt (as6 (p6 bH6 (C6 M6 (C6 D0 (pv 3) (pv 4) (fun _ _=>rfl)) c9 (fun _ _=>rfl)) (pv 1) (A1 _)) (ae6 (PW.pt (ax8 (p6 bo2 (pv 4) c9 (A1 _)) (am9 (T6 (p6 (bN7 hu8) (C6 D0 (pv 3) (n8 af0 (pv 4) c9) (fun _ _=>rfl)) (C6 D0 (pv 3) (pv 4) (fun _ _=>rfl)) (A1 _))))))))) (j7 (u4 Q6)) A6)))
  (j7 (u4 (O9 (a6 (pv 1) (a6 (G5 S9 (by rfl) B.tuple (by rfl) (a6 (pv 3) c7)) c7)))))))),?_⟩
 obtain⟨v,r,ew⟩:=aT1 x " "
 obtain⟨hv,hr',hrl⟩:=bd8 ew hx
 have hrA:∀ u∈r,S3 u:=fun u hu=>(ah0 (x:=x) (y:=" ") (by rw[ew];exact b7 _ hu)).2 hA
 refine⟨_,rfl,rfl,x,_,rfl,rfl,aF2,by omega,by rw[ew,k8];omega,fun l fl=>?_⟩
 rw[ew]
 have s1:=d6 (o:=.lst ((v::r).map V.str)) fl
 have g1:(upd H l (.lst ((v::r).map V.str))) l=some (.lst ((v::r).map V.str)):=a9
 generalize upd H l (.lst ((v::r).map V.str))=H1 at s1 g1
 have a0:atI ((v::r).map V.str) 0=some (.str v):=t7 (j:=0) rfl
 refine⟨_,rfl,_,rfl,l,_,rfl,SqL.of g1,fun l2 f2=>?_⟩
 rw[ca5]
 have s2:=d6 (o:=.lst (r.map V.str)) f2
 have g2:(upd H1 l2 (.lst (r.map V.str))) l2=some (.lst (r.map V.str)):=a9
 generalize upd H1 l2 (.lst (r.map V.str))=H2 at s2 g2
 refine⟨l2,rfl,⟨_,SqL.of g2⟩,fun D hD=>J7 (K:=K) (a:=l2) (D:=D) (ys:=r.map V.str) (fun i xs σ' H'=>(∃ v,σ'=[v])/\o8 H2 H'/\H' D=some (.lst xs)/\OTs K H' xs ((r.take i).map W4)) ⟨⟨none,rfl⟩,d6 hD,a9,by rw[G2];exact .nil⟩ (by rw[a5];omega)
  (fun i xs σ' H' hi ⟨_,s3,g3,t3⟩=>⟨SqL.of (s3 _ _ g2),g3,by have:=t3.len;rw[a5,l6]at this;omega⟩) ?_ ?_⟩
 ·rintro i xs y σ' H' N kN hy ⟨⟨_,rfl⟩,s3,g3,t3⟩
  obtain⟨u,hu,eu,rfl⟩:=bk6 hy
  have htk:(r.take (i+1)).map W4=(r.take i).map W4++[W4 u]:=by rw[o5,eu,c8];rfl
  refine B2 (G7 ?_)
  refine⟨_,rfl,u,rfl,hr' u hu,hrA u hu,fun qq eq t H4 s4 gt=>?_,fun en H4 s4=>?_⟩
  ·have g4:=s4 _ _ g3
   refine⟨g4,kN _ _ _ ⟨⟨_,rfl⟩,(s3.trans s4).upd hD,a9,?_⟩⟩
   rw[htk,eq]
   have hDt:D≠t:=fun z=>by rw[z,gt]at g4;cases g4
   have t4:=t3.same s4
   exact .yes (t4.updL g4) (SqT.of (by rw[t8 (Ne.symm hDt)];exact gt))
  ·have g4:=s4 _ _ g3
   refine⟨g4,kN _ _ _ ⟨⟨_,rfl⟩,(s3.trans s4).upd hD,a9,?_⟩⟩
   rw[htk,en]
   exact .no ((t3.same s4).updL g4)
 ·rintro xs σ' H3 ⟨⟨_,rfl⟩,s3,g3,t3⟩
  rw[a5,J5]at t3
  have s13:=(s1.trans s2).trans s3
  have g1':=(s2.trans s3) _ _ g1
  refine⟨_,rfl,l,_,_,_,rfl,rfl,SqL.of g1',a0,rfl,_,rfl,af5 (fun hc=>?_) (fun hc=>?_)⟩
  ·refine F8 (qn (fun⟨ks,r',e',_⟩=>?_) _ s13)
   rw[ew]at e'
   cases e'
   exact absurd hc (by decide +kernel)
  have hvw:v="web":=by
   cases e:decide ((V.str v:V)=.str "web") with
   | true=>exact(bx9 e).mp rfl
   | false=>rw[e]at hc;exact absurd rfl hc
  subst hvw
  refine⟨_,rfl,D,_,.none,_,rfl,.inl (SqL.of g3),by unfold Dt;rfl,t3.dt,by simp[PyData.canLay0],aV1 _,aT2 hun (by simp[PyData.depth]),_,rfl,?_⟩
  show if (((r.map W4).map oD).any fun d=>PyData.eqv d .none)=true then _ else _
  rw[bO8]
  cases eN:(r.map W4).any aY0 with
  | true =>
   refine F8 (qn (fun⟨ks,r',e',hR,_⟩=>?_) _ s13)
   rw[ew]at e'
   cases e'
   obtain⟨o,ho,eo⟩:=List.any_eq_true.mp eN
   obtain⟨u,hu,rfl⟩:=m5.mp ho
   exact hR.none hu (Option.isNone_iff_eq_none.mp eo)
  | false =>
   obtain⟨qs,eqs,tt⟩:=t3.ties eN
   have hR:X9 r (qs.map be3):=⟨qs,eqs,rfl⟩
   generalize qs.map be3=ks at tt hR
   have hlt:=hR.lt
   have hkl:=tt.len
   have hno:(¬ Tl n n ks)->∀ H',o8 H3 H'->Q .non H':=fun hT H' s'=>qn (fun⟨ks',r',e',hR',hT'⟩=>by
    rw[ew]at e'
    cases e'
    rw[hR'.uniq hR]at hT'
    exact hT hT') H' (s13.trans s')
   refine F0 ⟨_,rfl,D,_,rfl,.inl (SqL.of g3),ks.length,by rw[hkl],by omega,by have:=hR.len;omega,O1 (lo:=0) (n:=ks.length) (fun i σ H2=>∃ e4,σ=[some (.str x),some (.int n),some (.ref l),some (.ref D),e4]/\H2=H3/\∀ (m:Nat) (k:List Int),m<i->ks[m]?=some k->Up n k/\(0<m->HT.lexLt (aE6 ks m) k=true)) ⟨none,rfl,rfl,fun m k h=>absurd h (by omega)⟩ ?_ ?_⟩
   ·rintro i σ H4 hi ⟨e4,rfl,rfl,hm⟩
    have e0:((0:Int)+(i:Int))=(i:Int):=by omega
    rw[e0]
    refine B2 ?_
    have ek:ks[i]?=some ks[i]:=g9 hi
    obtain⟨b,kk,hb1,hb2,hb3⟩:∃ b kk,xs[i]?=some (.ref b)/\ks[i]?=some kk/\SqT K H4 b (kk.map V.int):=by
     have hxi:xs[i]?=some xs[i]:=g9 (by omega)
     obtain⟨b,kk,e1,e2,e3⟩:=tt.get hxi
     exact⟨b,kk,by rw[hxi,e1],e2,e3⟩
    rw[ek]at hb2
    obtain⟨p,j,hpj,ekk⟩:=hlt _ (R4 hi)
    have hb2:kk=[(p:Int),(j:Int)]:=by rw[<- ekk];exact(Option.some.inj hb2).symm
    subst hb2
    have ek':ks[i]?=some [(p:Int),(j:Int)]:=by rw[ek,ekk]
    refine⟨_,rfl,_,rfl,D,_,_,_,rfl,rfl,SqL.of g3,t7 hb1,b,_,_,_,rfl,rfl,hb3,t7 (j:=1) rfl,_,rfl,_,_,rfl,rfl,_,rfl,?_⟩
    by_cases hjn:(n:Int)<=(j:Int)
    ·rw[decide_eq_true hjn]
     refine F8 (F8 (hno (fun hT=>?_) _ (o8.refl _)))
     obtain⟨i',j',_,hj',e⟩:=hT.t.ups _ (b8 ek')
     injection e with _ e
     injection e with e _
     omega
    ·rw[decide_eq_false hjn]
     have hUp:Up n [(p:Int),(j:Int)]:=⟨p,j,hpj,by omega,rfl⟩
     refine F0 ⟨_,rfl,_,_,rfl,rfl,_,rfl,?_⟩
     by_cases hi0:(0:Int)<(i:Int)
     ·rw[decide_eq_true hi0]
      obtain⟨c,mm,hc1,hc2,hc3⟩:∃ c mm,xs[i - 1]?=some (.ref c)/\ks[i - 1]?=some mm/\SqT K H4 c (mm.map V.int):=by
       have hxi:xs[i - 1]?=some xs[i - 1]:=g9 (by omega)
       obtain⟨b,kk,e1,e2,e3⟩:=tt.get hxi
       exact⟨b,kk,by rw[hxi,e1],e2,e3⟩
      have el:aE6 ks i=mm:=by
       obtain⟨i',rfl⟩:∃ i',i=i'+1:=⟨i - 1,by omega⟩
       show ks.getD i' []=mm
       rw[m6,show ks[i']?=some mm from hc2]
       rfl
      have e9:((i:Int) - 1)=((i - 1:Nat):Int):=by omega
      refine F8 ⟨_,rfl,_,rfl,_,_,rfl,rfl,D,_,_,_,rfl,rfl,SqL.of g3,by rw[e9];exact t7 hc1,_,rfl,_,rfl,D,_,_,_,rfl,rfl,SqL.of g3,t7 hb1,c,b,_,_,rfl,rfl,hc3,hb3,_,rfl,?_⟩
      cases hL:HT.lexLt mm [(p:Int),(j:Int)] with
      | true =>
       refine F0 ⟨_,rfl,rfl,fun m k hmi hk=>?_⟩
       rcases C0 m i with z | z
       ·exact hm m k z hk
       ·have:m=i:=by omega
        subst this
        rw[ek']at hk
        cases hk
        exact⟨hUp,fun _=>by rw[el];exact hL⟩
      | false =>
       refine F8 (hno (fun hT=>?_) _ (o8.refl _))
       have:=(bC3 hT.t ek').1
       rw[el,hL]at this
       cases this
     ·rw[decide_eq_false hi0]
      refine F0 (F0 ⟨_,rfl,rfl,fun m k hmi hk=>?_⟩)
      have hm0:m=0:=by omega
      have hii:i=0:=by omega
      subst hm0
      subst hii
      rw[ek']at hk
      cases hk
      exact⟨hUp,fun h=>absurd h (by omega)⟩
   ·rintro σ H4 ⟨e4,rfl,rfl,hm⟩
    have hUps:∀ k∈ks,Up n k:=fun k hk=>by
     obtain⟨m,hm',e⟩:=bF2 hk
     exact(hm m k hm' (by rw[g9 hm',e])).1
    have hT:Tl n n ks:=⟨rfl,n1,n2,bx1 hUps fun m a b ea eb=>by
     have h:=(hm (m+1) b (c4.mp eb).1 eb).2 (by omega)
     have:aE6 ks (m+1)=a:=by show ks.getD m []=a;rw[m6,ea];rfl
     rw[this]at h
     exact h⟩
    refine⟨_,rfl,_,rfl,D,_,rfl,.inl ⟨SqL.of g3,fun t ft=>⟨by show 2<=f6;omega,fun p fp=>?_⟩⟩⟩
    have s4:=d6 (o:=.tup xs) ft
    have s5:=d6 (o:=.tup [.int n,.ref t]) fp
    exact q ks ⟨r,ew,hR,hT⟩ p t xs _ ((s13.trans s4).trans s5) a9 (s5 _ _ a9) (s5.tups (s4.tups tt))
end
end Web
namespace L2
open PySem PySem.Spec PyProof.Rows PySem.Builtin PySem.Builtin.Str
theorem bh7:R1 X (.type "str") (fun xs H Q=>(∃ i,xs=[.int i]/\i.natAbs.log2<1920/\Q (.str (toString i)) H)\/∃ x,xs=[.str x]/\Q (.str x) H):=by
 intro pins s σ H xs us Q I r h
 rcases h with h | ⟨x,rfl,q⟩
 ·exact V1 pins s σ H xs us Q I r h
 ·obtain⟨u,rfl,t,rfl⟩:=vals1 r
  exact PySem.P.str_of_str ⟨.str x,H,I,⟨t,rfl⟩,q⟩
end L2
namespace Web
open PySem L2
def vT:V->Str
 | .str x=>x
 | .int i=>N1 i
 | _=>Str.empty
def bE4 (v:V):Prop:=(∃ x,v=.str x/\x.length<=100)\/∃ i:Int,v=.int i/\i.natAbs.log2<1920/\(N1 i).length<=100
theorem bm8 {v:V}(h:bE4 v):(vT v).length<=100:=by
 rcases h with⟨x,rfl,h⟩ | ⟨i,rfl,_,h⟩<;>exact h
seal L2.PE L2.PA L2.PS L2.PSs L2.PT
section
variable {K:W.Frag} {mg:Str->Option Value} {base:Heap}
def bV8 (K:W.Frag):Sp:=fun vs H Q _=>∃ (p:Addr) (xs:List V),vs=[.ref p]/\SqT K H p xs/\(∀ v∈xs,bE4 v)/\xs.length<=30/\∀ H',o8 H H'->Q (.str (Str.join " " (xs.map vT))) H'
theorem cc7:t9 ["parts"] ["parts"] (i6 as4):=.mk'
theorem bY6 (F:Fun K "row_text" "row_text" as4 f fd) (B:Bn mg):x5 P w K mg base CX0 1 f fd ["parts"] (bV8 K):=by
 refine F.ok cc7 (fun cdv A outer s H vs Q E hr h=>?_)
 obtain⟨p,ys,rfl,hS,hp,hl,q⟩:=h
 have hsl:f6=16777216:=r9
 have nd1:(["part"]:List Str).Nodup:=by decide +kernel
 refine⟨_,j7 (u4 (X3 PySem.F.plainAttrs_str PySem.F.slot_str_join PySem.F.type_str_join av1 D8 (a6
   (K8 (N' := ["part"]) (lk := [none]) rfl (aH8 (pv 0)) (by rfl) rfl (by decide +kernel) (by exact trivial) (by rfl) (by exact LkL.ok trivial)
    (fun _ _ _=>A2 (i:=0) nd1 rfl (Or.inl rfl)) (fun _ _ _=>M8) (fun _ _ _=>G5 bh7 (by rfl) B.str (by rfl) (a6 (pv 0) c7))) c7))),?_⟩
 refine⟨rfl,_,rfl,p,rfl,⟨_,hS⟩,fun D hD=>aA2 (K:=K) (a:=p) (D:=D) (ys:=ys) (fun i xs σ' H'=>(∃ v,σ'=[v])/\o8 H H'/\H' D=some (.lst xs)/\xs=((ys.take i).map vT).map V.str) ⟨⟨none,rfl⟩,d6 hD,a9,by rw[G2];rfl⟩ (by omega)
  (fun i xs σ' H' hi ⟨_,s3,g3,e3⟩=>⟨s3.seqT hS,g3,by rw[e3,a5,a5,l6];omega⟩) ?_ ?_⟩
 ·rintro i xs y σ' H' N kN hy ⟨⟨_,rfl⟩,s3,g3,rfl⟩
  have hm:=b8 hy
  have ek:(ys.take (i+1)).map vT=(ys.take i).map vT++[vT y]:=by rw[o5,hy,c8];rfl
  refine B2 (G7 ?_)
  rcases hp y hm with⟨x,rfl,_⟩ | ⟨z,rfl,hz,_⟩
  ·exact⟨_,rfl,.inr ⟨x,rfl,g3,kN _ _ _ ⟨⟨_,rfl⟩,s3.upd hD,a9,by rw[ek,c8];rfl⟩⟩⟩
  ·exact⟨_,rfl,.inl ⟨z,rfl,hz,g3,kN _ _ _ ⟨⟨_,rfl⟩,s3.upd hD,a9,by rw[ek,c8];rfl⟩⟩⟩
 ·rintro xs σ' H3 ⟨⟨_,rfl⟩,s3,g3,rfl⟩
  rw[J5]at g3
  have h1:=ah7 (y:=" ") (xs:=ys.map vT) (m:=100) (n:=30) (fun u hu=>by
   obtain⟨v,hv,rfl⟩:=m5.mp hu
   exact bm8 (hp v hv)) (by rw[a5];exact hl) (by rw[P7];decide)
  refine⟨" ",D,ys.map vT,rfl,rfl,SqL.of g3,h1.1,?_⟩
  rw[show Txt.join " " (ys.map vT)=Str.join " " (ys.map vT) from StrLaws.glued_eq_join _ _]
  exact q _ s3
end
end Web
namespace Web
open PySem L2
def qT (w:Str)(ns:List Int):Str:=Str.join " " (w::ns.map N1)
def Nm (z:Int):Prop:=z.natAbs<10 ^ 50
theorem ba4 {z:Int}(h:Nm z):z.natAbs.log2<1920/\(N1 z).length<=51/\S3 (N1 z)/\32∉(N1 z).cps.toList:=by
 refine⟨?_,?_,?_,fun hc=>(PyProof.Rows.intText_free_32 z).mp hc⟩
 ·by_cases h0:z.natAbs=0
  ·rw[h0];decide
  ·exact(Nat.log2_lt h0).mpr (n6 h (by decide +kernel))
 ·cases z with
  | ofNat m =>
   have:=ah3 (m:=m) (k:=50) (by decide) h
   have:=(av6 this).2.1
   show (Str.ofString (toString (m:Int))).length<=51
   rw[<- E3]
   omega
  | negSucc m =>
   have:=ah3 (m:=m+1) (k:=50) (by decide) h
   have:=(av6 this).2.1
   show (Str.ofString (toString (-((m+1:Nat):Int)))).length<=51
   rw[<- E3,aI4,k8]
   omega
 ·cases z with
  | ofNat m=>exact bc3 (by exact bS2 m)
  | negSucc m =>
   intro c hc
   have hc':c∈(Str.ofString (toString (-((m+1:Nat):Int)))).cps.toList:=hc
   rw[aI4]at hc'
   rcases d3.mp hc' with e | e
   ·omega
   ·have:=ay6 (m+1) c e
    omega
theorem bG0:(" ":Str)=⟨#[32]⟩:=by decide +kernel
theorem bz1 {w:Str}(hw:32∉w.cps.toList)(h:∀ z∈ns,Nm z):Txt.split (qT w ns) " "=w::ns.map N1:=by
 unfold qT
 rw[bG0]
 exact ak4 (c:=32) w (ns.map N1) fun u hu=>by
  rcases d3.mp hu with e | e
  ·rw[e];exact hw
  ·obtain⟨z,hz,rfl⟩:=m5.mp e
   exact(ba4 (h z hz)).2.2.2
theorem bH5 {w:Str}(hw:w.length<=51)(h:∀ z∈ns,Nm z)(hl:ns.length<=24):JoinOk " " (w::ns.map N1)=true/\(qT w ns).length<=2000:=by
 have h1:=ah7 (y:=" ") (xs:=w::ns.map N1) (m:=51) (n:=25) (fun u hu=>by
  rcases d3.mp hu with e | e
  ·rw[e];exact hw
  ·obtain⟨z,hz,rfl⟩:=m5.mp e
   exact(ba4 (h z hz)).2.1) (by rw[k8,a5];omega) (by rw[P7];decide)
 refine⟨h1.1,?_⟩
 have:=h1.2
 rw[P7,show Txt.join " " (w::ns.map N1)=qT w ns from StrLaws.glued_eq_join _ _]at this
 omega
seal L2.PE L2.PA L2.PS L2.PSs L2.PT
section
variable {K:W.Frag} {mg:Str->Option Value} {base:Heap}
def bl0 (K:W.Frag):Sp:=fun vs H Q _=>∃ (v:Str) (a:Addr) (ns:List Int),vs=[.str v,.ref a]/\v.length<=51/\SqL K H a (ns.map V.int)/\(∀ z∈ns,Nm z)/\ns.length<=24/\∀ H',o8 H H'->Q (.str (qT v ns)) H'
theorem bM1:t9 ["word","numbers"] ["word","numbers"] (i6 ax2):=.mk'
theorem bA5 (F:Fun K "_law_numbers" "_law_numbers" ax2 f fd) (B:Bn mg):x5 P w K mg base CX0 1 f fd ["word","numbers"] (bl0 K):=by
 refine F.ok bM1 (fun cdv A outer s H vs Q E hr h=>?_)
 obtain⟨v,a,ns,rfl,hv,hS,hn,hl,q⟩:=h
 have hsl:f6=16777216:=r9
 have nd1:(["number"]:List Str).Nodup:=by decide +kernel
 refine⟨_,j7 (u4 (X3 PySem.F.plainAttrs_str PySem.F.slot_str_join PySem.F.type_str_join av1 D8 (a6 (n8 aV0 (Q7 (a6 (pv 0) c7))
   (K8 (N' := ["number"]) (lk := [none]) rfl (O8 (pv 1)) (by rfl) rfl (by decide +kernel) (by exact trivial) (by rfl) (by exact LkL.ok trivial)
    (fun _ _ _=>A2 (i:=0) nd1 rfl (Or.inl rfl)) (fun _ _ _=>M8) (fun _ _ _=>G5 V1 (by rfl) B.str (by rfl) (a6 (pv 0) c7)))) c7))),?_⟩
 refine⟨rfl,_,rfl,(by show 1<=f6;decide),fun l2 f2=>?_⟩
 have s2:=d6 (o:=.lst [.str v]) f2
 have g2:(upd H l2 (.lst [.str v])) l2=some (.lst [.str v]):=a9
 have hS2:=s2.seq hS
 generalize upd H l2 (.lst [.str v])=H2 at s2 g2 hS2
 refine⟨_,rfl,a,rfl,⟨_,hS2⟩,fun D hD=>J7 (K:=K) (a:=a) (D:=D) (ys:=ns.map V.int) (fun i xs σ' H'=>(∃ v,σ'=[v])/\o8 H2 H'/\H' D=some (.lst xs)/\xs=((ns.take i).map N1).map V.str) ⟨⟨none,rfl⟩,d6 hD,a9,by rw[G2];rfl⟩ (by rw[a5];omega)
  (fun i xs σ' H' hi ⟨_,s3,g3,e3⟩=>⟨s3.seq hS2,g3,by rw[e3,a5,a5,l6];omega⟩) ?_ ?_⟩
 ·rintro i xs y σ' H' N kN hy ⟨⟨_,rfl⟩,s3,g3,rfl⟩
  obtain⟨z,ez,rfl⟩:=U7 hy
  refine B2 (G7 ?_)
  refine⟨_,rfl,_,rfl,(ba4 (hn z (b8 ez))).1,g3,kN _ _ _ ⟨⟨_,rfl⟩,s3.upd hD,a9,?_⟩⟩
  rw[o5,ez,c8,c8]
  rfl
 ·rintro xs σ' H3 ⟨⟨_,rfl⟩,s3,g3,rfl⟩
  rw[a5,J5]at g3
  refine⟨l2,D,_,_,rfl,rfl,s3 _ _ g2,g3,by rw[a5,a5];show 1+ns.length<=f6;omega,fun l4 f4=>?_⟩
  have s4:=d6 (o:=.lst ([.str v]++(ns.map N1).map V.str)) f4
  have hq:=bH5 hv hn hl
  refine⟨" ",l4,v::ns.map N1,rfl,rfl,SqL.of (by rw[a9];rfl),hq.1,?_⟩
  rw[show Txt.join " " (v::ns.map N1)=qT v ns from StrLaws.glued_eq_join _ _]
  exact q _ ((s2.trans s3).trans s4)
end
end Web
namespace Web
open PySem L2
abbrev kinds:List Str:=["web","pair","pieces","off"]
def KdT (K:W.Frag)(kA:Addr):Prop:=∀ H:Hp,SqT K H kA (kinds.map V.str)
theorem aC8 (K:W.Frag)(hK:X.K=K):OpR X (B0 .NotIn) (rIn K true):=by subst hK;exact aI3
theorem aL3:32∉("web":Str).cps.toList:=by decide +kernel
theorem bZ6:inV (.str "web") (kinds.map V.str)=true:=by decide +kernel
seal L2.PE L2.PA L2.PS L2.PSs L2.PT
section
variable {K:W.Frag} {mg:Str->Option Value} {base:Heap}
def aT9:Sp:=fun vs H Q _=>∃ (ns:List Int),vs=[.str (qT "web" ns)]/\(∀ z∈ns,Nm z)/\ns.length<=24/\∀ (t p q:Addr) (H':Hp),o8 H H'->H' t=some (.tup [.str "web",.ref p,.ref q])->H' q=some (.lst (ns.map V.int))->Q (.ref t) H'
theorem aZ0:t9 ["question","words","numbers","ahead"] ["question"] (i6 ae4):=.mk'
set_option maxHeartbeats 1000000 in
theorem bB3 {fW CN kA:Addr} {fdW:FuncData} {tA:Tok} (F:Fun K "asked" "asked" ae4 f fd) (B:Bn mg) (FW:Fun K "number_within" "number_within" sNW fW fdW) (bW:Binds K fdW ["word","most"] []) (mW:mg "number_within"=some (.ref fW)) (GW:x5 P w K mg base (CXE P w) 2 fW fdW ["word","most"] (bL7 CN))
  (mA:mg "MOST_FIGURES_ASKED"=some (.int 50 tA)) (mK:mg "KINDS"=some (.ref kA)) (hK:KdT K kA) (mN:mg "NoText"=some (.ref CN)) (cN:ar4 K CN):x5 P w K mg base (CXE P w) 3 f fd ["question"] aT9:=by
 refine F.okX aZ0 (fun cdv A outer s H vs Q E hr h=>?_)
 obtain⟨ns,rfl,hn,hnl,q⟩:=h
 have hsl:f6=16777216:=r9
 have nd1:(["word"]:List Str).Nodup:=by decide +kernel
 refine⟨_,d7 (u7 (i:=1) aZ0.nd rfl (Or.inl rfl) (X3 PySem.F.plainAttrs_str PySem.F.slot_str_split PySem.F.type_str_split ay9 (pv 0) (a6 D8 c7)))
  (d7 (bm9 (E := E) rfl (i := 2) (N' := ["word"]) (lk := [none]) aZ0.nd rfl rfl (by rfl) rfl (O8 (L4 Q4 (pv 1) (N9 c9) Q5)) (by rfl) rfl (by decide +kernel) (by exact trivial) (by rfl) (by exact LkL.ok trivial)
   (fun _ _ _ _ _=>A2 (i:=0) nd1 rfl (Or.inl rfl)) (fun _ _ _ _ _=>M8) (fun _ _ _ _ _ I3 f3=>u9 GW hr (by rfl) mW FW.kp bW .nil (bX8 I3 f3) (a6 (pv 0) (a6 (ab2 (v:=.int 50) (by rfl) mA ⟨tA,rfl⟩) c7))))
  (d7 (u7 (i:=3) aZ0.nd rfl (Or.inl rfl) (an0 (p6 V7 (C6 D0 (pv 1) c9 (fun _ _=>rfl)) D8 (A1 _)) c9 c9))
  (d7 (E5 (PW.pt (as6 (p6 (aC8 K rfl) (C6 D0 (pv 1) c9 (fun _ _=>rfl)) (ab2 (v:=.ref kA) (by rfl) mK rfl) (by rfl)) (ae6 (p6 af2 (p7 v9 (by rfl) B.len PySem.boot_len (a6 (pv 2) c7)) (pv 3) (A1 _))))) (j7 (ax9 (by rfl) mN cN)) A6)
  (j7 (u4 (O9 (a6 (C6 D0 (pv 1) c9 (fun _ _=>rfl)) (a6 (L4 Q4 (pv 2) Q5 (N9 (pv 3))) (a6 (L4 Q4 (pv 2) (N9 (pv 3)) Q5) c7))))))))),?_⟩
 have ew:=bz1 aL3 hn
 have hql:=(bH5 (w:="web") (by rw[aI6];decide) hn hnl).2
 refine⟨_,rfl,rfl,_,_,rfl,rfl,aF2,by omega,by rw[ew,k8,a5];omega,fun l fl=>?_⟩
 rw[ew]
 have s1:=d6 (o:=.lst ((("web":Str)::ns.map N1).map V.str)) fl
 have g1:(upd H l (.lst ((("web":Str)::ns.map N1).map V.str))) l=some (.lst ((("web":Str)::ns.map N1).map V.str)):=a9
 generalize upd H l (.lst ((("web":Str)::ns.map N1).map V.str))=H1 at s1 g1
 have a0:atI ((("web":Str)::ns.map N1).map V.str) 0=some (.str "web"):=t7 (j:=0) rfl
 refine⟨_,rfl,_,rfl,l,_,rfl,SqL.of g1,fun l2 f2=>?_⟩
 rw[ca5]
 have s2:=d6 (o:=.lst ((ns.map N1).map V.str)) f2
 have g2:(upd H1 l2 (.lst ((ns.map N1).map V.str))) l2=some (.lst ((ns.map N1).map V.str)):=a9
 generalize upd H1 l2 (.lst ((ns.map N1).map V.str))=H2 at s2 g2
 refine⟨l2,rfl,⟨_,SqL.of g2⟩,fun D hD=>J7 (K:=K) (a:=l2) (D:=D) (ys:=(ns.map N1).map V.str) (fun i xs σ' H'=>(∃ v,σ'=[v])/\o8 H2 H'/\H' D=some (.lst xs)/\xs=(ns.take i).map V.int) ⟨⟨none,rfl⟩,d6 hD,a9,by rw[G2];rfl⟩ (by rw[a5,a5];omega)
  (fun i xs σ' H' hi ⟨_,s3,g3,e3⟩=>⟨SqL.of (s3 _ _ g2),g3,by rw[e3,a5,l6];omega⟩) ?_ ?_⟩
 ·rintro i xs y σ' H' N kN hy ⟨⟨_,rfl⟩,s3,g3,rfl⟩
  obtain⟨u,hu,eu,rfl⟩:=bk6 hy
  rw[m9]at eu
  obtain⟨z,ez,rfl⟩:∃ z,ns[i]?=some z/\u=N1 z:=by
   cases e:ns[i]? with
   | none=>rw[e]at eu;cases eu
   | some z=>rw[e]at eu;cases eu;exact⟨z,rfl,rfl⟩
  have hz:=hn z (b8 ez)
  obtain⟨k1,k2⟩:=bO9 (z:=z) (k:=50) (by decide) hz (by decide)
  have hzl:=(ba4 hz).2.1
  refine B2 (G7 ?_)
  refine⟨_,rfl,N1 z,50,rfl,by omega,by decide,fun _ v H4 s4 hv=>?_,fun e=>absurd (k1.symm.trans e) (by decide)⟩
  have:v=z:=by
   have h:=hv.symm.trans k2
   exact Option.some.inj h
  subst this
  refine⟨s4 _ _ g3,kN _ _ _ ⟨⟨_,rfl⟩,(s3.trans s4).upd hD,a9,?_⟩⟩
  rw[o5,ez,c8]
  rfl
 ·rintro xs σ' H3 ⟨⟨_,rfl⟩,s3,g3,rfl⟩
  rw[a5,a5,J5]at g3
  have s13:=(s1.trans s2).trans s3
  have g1':=(s2.trans s3) _ _ g1
  have hd:decide ((V.str "web":V)=.str "pair")=false:=by decide +kernel
  refine⟨_,rfl,l,_,_,_,rfl,rfl,SqL.of g1',a0,rfl,_,rfl,?_⟩
  rw[hd]
  refine F0 ?_
  refine⟨_,rfl,l,_,_,_,rfl,rfl,SqL.of g1',a0,kA,_,rfl,.inr (hK _),rfl,rfl,_,rfl,af5 (fun hk=>absurd (show (!inV (.str "web") (kinds.map V.str))=true from hk) (by rw[bZ6];decide)) (fun _=>?_)⟩
  refine⟨_,rfl,D,_,rfl,.inl (SqL.of g3),_,rfl,_,_,rfl,rfl,_,rfl,af5 (fun hl=>?_) (fun _=>?_)⟩
  ·have:=of_decide_eq_true hl
   rw[a5]at this
   omega
  refine⟨_,rfl,l,_,_,_,rfl,rfl,SqL.of g1',a0,_,rfl,_,rfl,_,rfl,D,_,rfl,SqL.of g3,fun p fp=>?_⟩
  refine⟨_,rfl,_,rfl,_,rfl,D,_,rfl,SqL.of (d6 fp _ _ g3),fun q' fq=>?_⟩
  refine⟨by show 3<=f6;omega,fun t ft=>?_⟩
  have e9:al1 (ns.map V.int) (some 0) none=ns.map V.int:=aq8 (ns.map V.int) 0
  have st:=d6 (o:=.tup [.str "web",.ref p,.ref q']) ft
  refine q t p q' _ (s13.trans ((d6 fp).trans ((d6 fq).trans st))) a9 (st _ _ ?_)
  rw[a9,e9]
end
end Web
namespace Web
open PySem L2
def AnT (ns:List Int)(y:Str):Prop:=(∃ x:Wl,x≠.free/\aB0 ns x/\y=Str.join " " ((wlT x).map vT))\/(Gr ns/\∃ ks,Tld ns.length ks/\tal ns.length ks=ns/\y=aN0 ks)
theorem bF5 (hl:ns.length<=24){x:Wl}(h:aB0 ns x):∀ v∈wlT x,bE4 v:=by
 have nat:∀ p:Nat,p<=24->bE4 (.int (p:Int)):=fun p hp=>by
  obtain⟨a,b,_⟩:=ay7 (z:=(p:Int)) ⟨by omega,by omega⟩
  exact .inr ⟨_,rfl,a,by omega⟩
 cases x with
 | below p =>
  intro v hv
  have hp:p<ns.length:=by
   obtain⟨⟨z,hz,_⟩,_⟩:=h
   exact(c4.mp hz).1
  rcases d3.mp hv with e | e
  ·rw[e];exact .inl ⟨_,rfl,by decide +kernel⟩
  ·rw[n5.mp e];exact nat p (by omega)
 | odd =>
  intro v hv
  rw[n5.mp hv];exact .inl ⟨_,rfl,by decide +kernel⟩
 | wall r =>
  intro v hv
  have hr:r<=ns.length:=h.2.2.2.1
  rcases d3.mp hv with e | e
  ·rw[e];exact .inl ⟨_,rfl,by decide +kernel⟩
  ·rw[n5.mp e];exact nat r (by omega)
 | free=>intro v hv;cases hv
theorem bj5 (x:Wl):(wlT x).length<=30:=by cases x<;>simp[wlT]
theorem bl9 (hn:n<=24)(h:∀ k∈ks,Up n k):SmK ks:=fun k hk=>by
 obtain⟨i,j,h1,h2,rfl⟩:=h k hk
 exact⟨_,_,rfl,⟨by omega,by omega⟩,by omega,by omega⟩
seal L2.PE L2.PA L2.PS L2.PSs L2.PT
section
variable {K:W.Frag} {mg:Str->Option Value} {base:Heap}
def bL4 (K:W.Frag):Sp:=fun vs H Q _=>∃ (r:Addr) (ns:List Int),vs=[.ref r]/\af6 ns/\bI1 K H r ns/\∀ (y:Str) (H':Hp),o8 H H'->AnT ns y->Q (.str y) H'
theorem cc5:t9 ["told"] ["told"] (i6 as2):=.mk'
theorem bY2 {fR:Addr}(F:Fun K "web_row" "web_row" as2 f fd)(FT:Fun K "web_text" "web_text" as0 fT fdT)(bT:Binds K fdT ["web"] [])(mT:mg "web_text"=some (.ref fT))(GT:x5 P w K mg base CX0 1 fT fdT ["web"] (bV6 K))
  (FR:Fun K "row_text" "row_text" as4 fR fdR)(bR:Binds K fdR ["parts"] [])(mR:mg "row_text"=some (.ref fR))(GR:x5 P w K mg base CX0 1 fR fdR ["parts"] (bV8 K)):x5 P w K mg base CX0 2 f fd ["told"] (bL4 K):=by
 refine F.ok cc5 (fun cdv A outer s H vs Q E hr h=>?_)
 obtain⟨r,ns,rfl,ht,hA,q⟩:=h
 refine⟨_,j7 (u4 (an0 (p6 V7 (C6 M6 (pv 0) c9 (fun _ _=>rfl)) D8 (A1 _)) (u9 GT hr (by rfl) mT FT.kp bT .nil F2 (a6 (C6 M6 (pv 0) c9 (fun _ _=>rfl)) c7)) (u9 GR hr (by rfl) mR FR.kp bR .nil F2 (a6 (C6 M6 (pv 0) c9 (fun _ _=>rfl)) c7)))),?_⟩
 rcases hA with⟨x,b,hx,hW,gr,gb⟩ | ⟨hG,b,ks,gr,hW⟩
 ·have hd:decide ((V.str "wall":V)=.str "web")=false:=by decide +kernel
  refine⟨_,rfl,r,_,_,_,rfl,rfl,SqT.of gr,t7 (j:=0) rfl,rfl,_,rfl,?_⟩
  rw[hd]
  refine F0 ⟨_,rfl,r,_,_,_,rfl,rfl,SqT.of gr,t7 (j:=1) rfl,b,wlT x,rfl,SqT.of gb,bF5 ht.2 hW,bj5 x,fun H' s'=>q _ H' s' (.inl ⟨x,hx,hW,rfl⟩)⟩
 ·have hd:decide ((V.str "web":V)=.str "web")=true:=by decide +kernel
  refine⟨_,rfl,r,_,_,_,rfl,rfl,SqT.of gr,t7 (j:=0) rfl,rfl,_,rfl,?_⟩
  rw[hd]
  obtain⟨t,zs,gb,gt,tt⟩:=hW.at_
  have hl:=aG7 ht.2 hW.nd hW.ups
  exact F8 ⟨_,rfl,r,_,_,_,rfl,rfl,SqT.of gr,t7 (j:=1) rfl,b,t,_,zs,ks,rfl,gb,gt,tt,bl9 ht.2 hW.ups,by omega,fun H' s'=>q _ H' s' (.inr ⟨hG,ks,⟨hW.ups,hW.nd,hW.srt⟩,hW.tal_,rfl⟩)⟩
def bL6 (K:W.Frag)(PT:Addr):Sp:=fun vs H Q _=>∃ (pr ta:Addr) (ns:List Int),vs=[.str "web",.ref pr,.ref ta]/\Sq K H ta ns/\af6 ns/\Tb PT H/\∀ (l:Addr) (y:Str) (H':Hp),O4 PT H H'->Tb PT H'->AnT ns y->H' l=some (.lst [.str y])->Q (.ref l) H'
theorem cc8:t9 ["kind","pair","tally","told"] ["kind","pair","tally"] (i6 ae2):=.mk'
theorem bY7 {fA fR CB PT:Addr}{k:Nat}(hk:2<=k)(F:Fun K "rows_for" "rows_for" ae2 f fd)(FA:Fun K "answered" "answered" aM8 fA fdA)(bA:Binds K fdA ["tally"] [])(mA:mg "answered"=some (.ref fA))(GA:x5 P w K mg base (CXE P w) k fA fdA ["tally"] (bl8 K CB PT))
  (FR:Fun K "web_row" "web_row" as2 fR fdR)(bR:Binds K fdR ["told"] [])(mR:mg "web_row"=some (.ref fR))(GR:x5 P w K mg base CX0 2 fR fdR ["told"] (bL4 K)):x5 P w K mg base (CXE P w) (k+1) f fd ["kind","pair","tally"] (bL6 K PT):=by
 refine F.okX cc8 (fun cdv A outer s H vs Q E hr h=>?_)
 obtain⟨pr,ta,ns,rfl,hS,ht,tb,q⟩:=h
 refine⟨_,d7 (E5 (p6 V7 (pv 0) D8 (A1 _)) (j7 (u4 (Q7 (a6 (u9 (GR.mono hk) hr (by rfl) mR FR.kp bR .nil F2 (a6 (u9 GA hr (by rfl) mA FA.kp bA .nil aN8 (a6 (pv 2) c7)) c7)) c7)))) A6) M4,?_⟩
 have hd:decide ((V.str "web":V)=.str "web")=true:=by decide +kernel
 refine⟨_,rfl,rfl,_,rfl,?_⟩
 rw[hd]
 refine F8 ⟨_,rfl,ta,ns,rfl,hS,fun _=>⟨tb,fun r H1 g1 t1 hA=>?_⟩,fun hn=>absurd ht hn⟩
 refine⟨r,ns,rfl,ht,hA,fun y H2 s2 hy=>⟨by show 1<=f6;decide,fun l fl=>?_⟩⟩
 have s3:=s2.trans (d6 (o:=.lst [.str y]) fl)
 exact q l y _ (g1.trans (s3.grow PT)) (t1.same s3) hy a9
end
end Web
namespace Web
open PySem L2
theorem bo8 (K:W.Frag)(hK:X.K=K):MtR X "str.join" (rJoin K):=by subst hK;exact av1
theorem bR4 (ht:af6 ns){y:Str}(h:AnT ns y):y.length<=4000:=by
 rcases h with⟨x,_,hW,rfl⟩ | ⟨_,ks,hT,_,rfl⟩
 ·have h1:=ah7 (y:=" ") (xs:=(wlT x).map vT) (m:=100) (n:=30) (fun u hu=>by
   obtain⟨v,hv,rfl⟩:=m5.mp hu
   exact bm8 (bF5 ht.2 hW v hv)) (by rw[a5];exact bj5 x) (by rw[P7];decide)
  have:=h1.2
  rw[P7,show Txt.join " " ((wlT x).map vT)=Str.join " " ((wlT x).map vT) from StrLaws.glued_eq_join _ _]at this
  omega
 ·have:=(bm4 (bl9 ht.2 hT.ups) (by have:=aG7 ht.2 hT.nd hT.ups;omega)).1
  omega
seal L2.PE L2.PA L2.PS L2.PSs L2.PT
section
variable {K:W.Frag} {mg:Str->Option Value} {base:Heap}
def bG7 (PT:Addr):Sp:=fun vs H Q _=>∃ (ns:List Int),vs=[.str (qT "web" ns)]/\(∀ z∈ns,Nm z)/\af6 ns/\Tb PT H/\∀ (y:Str) (H':Hp),O4 PT H H'->Tb PT H'->AnT ns y->Q (.str y) H'
theorem bH2:t9 ["question","parts"] ["question"] (i6 ab1):=.mk'
theorem bO6 {fA fR CT PT:Addr}{k:Nat}{tR:Tok}(F:Fun K "answer" "answer" ab1 f fd)
  (FA:Fun K "asked" "asked" ae4 fA fdA)(bA:Binds K fdA ["question"] [])(mA:mg "asked"=some (.ref fA))(GA:x5 P w K mg base (CXE P w) k fA fdA ["question"] aT9)
  (FR:Fun K "rows_for" "rows_for" ae2 fR fdR)(bR:Binds K fdR ["kind","pair","tally"] [])(mR:mg "rows_for"=some (.ref fR))(GR:x5 P w K mg base (CXE P w) k fR fdR ["kind","pair","tally"] (bL6 K PT))
  (mF:mg "REFUSED"=some (.str "refused" tR))(mT:mg "TallyError"=some (.ref CT)):x5 P w K mg base CX0 (k+1) f fd ["question"] (bG7 PT):=by
 refine F.ok bH2 (fun cdv A outer s H vs Q E hr h=>?_)
 obtain⟨ns,rfl,hn,ht,tb,q⟩:=h
 refine⟨_,j7 (bz2 (by rfl) mT rfl rfl (fun _ _=>d7 (u7 (i:=1) bH2.nd rfl (Or.inl rfl) (aN7 GA hr (by rfl) mA FA.kp bA aZ8 (a6 (pv 0) c7)))
   (j7 (u4 (bN4 (te:=tC .non) K rfl (X3 PySem.F.plainAttrs_str PySem.F.slot_str_join PySem.F.type_str_join (bo8 K rfl) D8 (a6 (aN7 GR hr (by rfl) mR FR.kp bR aZ8 (a6 (aI0 K rfl (pv 1) c9 (fun _ _=>rfl)) (a6 (aI0 K rfl (pv 1) c9 (fun _ _=>rfl)) (a6 (aI0 K rfl (pv 1) c9 (fun _ _=>rfl)) c7)))) c7))))))
  (fun _=>j7 (u4 (ab2 (v:=.str "refused") (by rfl) mF ⟨tR,rfl⟩)))),?_⟩
 refine⟨fun _ _ _ _=>False,?_,fun _ _ _ h=>h.elim⟩
 refine⟨_,rfl,ns,rfl,hn,ht.2,fun t p q' H1 s1 gt gq=>?_⟩
 refine⟨rfl,_,rfl,t,_,_,_,rfl,rfl,SqT.of gt,t7 (j:=0) rfl,_,rfl,t,_,_,_,rfl,rfl,SqT.of gt,t7 (j:=1) rfl,_,rfl,t,_,_,_,rfl,rfl,SqT.of gt,t7 (j:=2) rfl,?_⟩
 refine⟨p,q',ns,rfl,.inl (SqL.of gq),ht,tb.same s1,fun l y H2 g2 t2 hy gl=>?_⟩
 have hyl:=bR4 ht hy
 have hj:=ah7 (y:="\n") (xs:=[y]) (m:=4000) (n:=1) (fun u hu=>by rw[n5.mp hu];exact hyl) (by show 1<=1;decide) (by decide +kernel)
 refine⟨"\n",l,[y],rfl,rfl,SqL.of gl,hj.1,?_⟩
 rw[show Txt.join "\n" [y]=y from StrLaws.glued_eq_join _ _]
 exact q y H2 ((s1.grow PT).trans g2) t2 hy
end
end Web
namespace Web
open PySem L2
theorem aO2 {z:Int}:32∉(N1 z).cps.toList:=fun hc=>(PyProof.Rows.intText_free_32 z).mp hc
theorem aQ3 {a b:Str}(ha:32∉a.cps.toList)(hb:32∉b.cps.toList):32∉(a++b).cps.toList:=by
 rw[aG9]
 exact fun h=>(u6.mp h).elim ha hb
theorem bh1:32∉("-":Str).cps.toList:=by decide +kernel
theorem aL5 (hn:n<=24):∀ {ks:List (List Int)},(∀ k∈ks,Up n k)->X9 (ks.map ak2) ks
 | [],_=>.nil
 | k::ks,h=>by
  obtain⟨qs,h1,h2⟩:=aL5 hn (ks:=ks) fun k' hk=>h k' (b7 _ hk)
  obtain⟨i,j,hij,hj,rfl⟩:=h k c5
  refine⟨(i,j)::qs,?_,?_⟩
  ·rw[n9,n9,n9,h1]
   have:W4 (ak2 [(i:Int),(j:Int)])=some (i,j):=bj8 hij (by omega)
   rw[this]
  ·rw[n9,<- h2]
   rfl
theorem by6 (n1:1<=n)(n2:n<=24)(hT:Tld n ks):bE2 (aN0 ks) n ks:=by
 refine⟨ks.map ak2,?_,aL5 n2 hT.ups,⟨rfl,n1,n2,hT⟩⟩
 unfold aN0
 rw[bG0]
 refine ak4 (c:=32) "web" (ks.map ak2) fun u hu=>?_
 rcases d3.mp hu with e | e
 ·rw[e];exact aL3
 ·obtain⟨k,hk,rfl⟩:=m5.mp e
  obtain⟨i,j,_,_,rfl⟩:=hT.ups k hk
  exact aQ3 (aQ3 aO2 bh1) aO2
seal L2.PE L2.PA L2.PS L2.PSs L2.PT
section
variable {K:W.Frag} {mg:Str->Option Value} {base:Heap}
def aT7 (K:W.Frag):Sp:=fun vs H Q _=>∃ (n:Nat) (a:Addr) (ys:List V) (ks:List (List Int)),vs=[.int n,.ref a]/\n<=24/\SqT K H a ys/\B3 K H ys ks/\(∀ k∈ks,aj2 n k)/\∀ (l:Addr) (H':Hp),o8 H H'->H l=none->H' l=some (.lst ((tal n ks).map V.int))->Q (.ref l) H'
theorem aH4:t9 ["places","ties","counts","one","other"] ["places","ties"] (i6 U5):=.mk'
theorem ba3 (F:Fun K "_law_counts" "_law_counts" U5 f fd):x5 P w K mg base CX0 1 f fd ["places","ties"] (aT7 K):=by
 refine F.ok aH4 (fun cdv A outer s H vs Q E hr h=>?_)
 obtain⟨n,a,ys,ks,rfl,hn,h2,h3,hE,q⟩:=h
 have hsl:=M5
 refine⟨_,d7 (u7 (i:=2) aH4.nd rfl (Or.inl rfl) (n8 bN6 (Q7 (a6 c9 c7)) (pv 0)))
  (d7 (V5 PassesOwn.never rfl (aH8 (pv 1)) (bn4 rfl (Z4 (A2 (i := 3) aH4.nd rfl (Or.inl rfl)) (Z4 (A2 (i := 4) aH4.nd rfl (Or.inl rfl)) aH9)))
   (d7 (aq1 (n8 O3 (C6 D0 (pv 2) (pv 3) (fun _ _=>rfl)) c9) (aq3 (pv 2) (pv 3) set_list)) (j7 (aq1 (n8 O3 (C6 D0 (pv 2) (pv 4) (fun _ _=>rfl)) c9) (aq3 (pv 2) (pv 4) set_list)))))
  (j7 (u4 (pv 2)))),?_⟩
 refine⟨(by show 1<=f6;decide),fun l0 f0=>?_⟩
 have s0:=d6 (o:=.lst [.int 0]) f0
 refine⟨_,rfl,l0,n,[.int 0],rfl,rfl,a9,by omega,by omega,?_,fun l hl=>?_⟩
 ·show 1*(n:Int).toNat<=f6
  omega
 rw[p0,rep0]
 have s1:=s0.trans (d6 (o:=.lst ((tal n []).map V.int)) hl)
 have g1:(upd (upd H l0 (.lst [.int 0])) l (.lst ((tal n []).map V.int))) l=some (.lst ((tal n []).map V.int)):=a9
 have fl:H l=none:=s0.free hl
 generalize upd (upd H l0 (.lst [.int 0])) l (.lst ((tal n []).map V.int))=H1 at s1 g1 ⊢
 have hz:=h3.len
 refine⟨_,rfl,a,rfl,⟨_,s1.seqT h2⟩,?_⟩
 refine bD4 (K:=K) (a:=a) (xs:=ys) (fun i σ H2=>∃ ea eb,σ=[some (.int n),some (.ref a),some (.ref l),ea,eb]/\o8 H H2/\H2 l=some (.lst ((tal n (ks.take i)).map V.int))) ⟨none,none,rfl,s1,by rw[G2];exact g1⟩ (fun i σ H2 _ ⟨_,_,_,s2,_⟩=>s2.seqT h2) ?_ ?_
 ·rintro i x σ H2 hx ⟨ea,eb,rfl,s2,g2⟩
  obtain⟨pa,pk,rfl,hk,hq⟩:=h3.get hx
  obtain⟨i1,j1,u1,u2,u3,epk⟩:=hE pk (b8 hk)
  have hq2:=s2.seqT hq
  rw[epk]at hq2
  refine⟨pa,_,rfl,hq2,rfl,_,_,rfl,_,_,rfl,rfl,?_⟩
  have t1:((tal n (ks.take i)).map V.int)[i1]?=some (.int (V9 (ks.take i) i1)):=by rw[m9,ag9 u1];rfl
  have t2:(((tal n (ks.take i)).map V.int).set i1 (.int ((V9 (ks.take i) i1:Int)+1)))[j1]?=some (.int (V9 (ks.take i) j1)):=by
   rw[ar7 u3,m9,ag9 u2];rfl
  have lt:((tal n (ks.take i)).map V.int).length=n:=by rw[a5,X0]
  refine⟨_,rfl,_,rfl,l,_,_,_,rfl,rfl,SqL.of g2,t7 t1,_,_,rfl,rfl,_,rfl,_,rfl,l,_,_,i1,rfl,rfl,g2,by rw[lt];exact ah8 u1,?_⟩
  refine⟨_,rfl,_,rfl,l,_,_,_,rfl,rfl,SqL.of a9,t7 t2,_,_,rfl,rfl,_,rfl,_,rfl,l,_,_,j1,rfl,rfl,a9,by rw[O6,lt];exact ah8 u2,?_⟩
  refine⟨_,_,rfl,?_,?_⟩
  ·rw[bw8]
   exact s2.upd fl
  ·rw[a9,o5,hk,bv5,epk,<- bx4 u1 u2 u3 (ks.take i) _ _ rfl rfl,ac6,ac6]
 ·rintro σ H2 ⟨ea,eb,rfl,s2,g2⟩
  rw[j5 (by omega)]at g2
  exact⟨_,rfl,q l H2 s2 fl g2⟩
def bW0:Sp:=fun vs H Q _=>∃ (x:Str) (n:Nat) (ks:List (List Int)),vs=[.str x,.int n]/\x.length<=5000/\S3 x/\bE2 x n ks/\∀ (l:Addr) (H':Hp),o8 H H'->H' l=some (.lst ((tal n ks).map V.int))->Q (.ref l) H'
theorem bW9:t9 ["row","places","web"] ["row","places"] (i6 ab0):=.mk'
theorem bZ0 {fO fC:Addr}{fdC:FuncData}(F:Fun K "_law_counted" "_law_counted" ab0 f fd)(FO:Fun K "_law_web_of" "_law_web_of" ae1 fO fdO)(bO:Binds K fdO ["row","places"] [])(mO:mg "_law_web_of"=some (.ref fO))(GO:x5 P w K mg base CX0 3 fO fdO ["row","places"] (bL3 K))
  (FC:Fun K "_law_counts" "_law_counts" U5 fC fdC)(bC:Binds K fdC ["places","ties"] [])(mC:mg "_law_counts"=some (.ref fC)):x5 P w K mg base CX0 4 f fd ["row","places"] bW0:=by
 have GC:x5 P w K mg base CX0 3 fC fdC ["places","ties"] (aT7 K):=(ba3 FC).mono (by decide)
 refine F.ok bW9 (fun cdv A outer s H vs Q E hr h=>?_)
 obtain⟨x,n,ks,rfl,hx,hA,hW,q⟩:=h
 have hT:=hW.choose_spec.2.2
 refine⟨_,d7 (u7 (i:=2) bW9.nd rfl (Or.inl rfl) (u9 GO hr (by rfl) mO FO.kp bO .nil F2 (a6 (pv 0) (a6 (pv 1) c7))))
  (d7 (E5 (p6 bo1 (pv 2) Q6 (A1 _)) M4 A6)
  (j7 (u4 (u9 GC hr (by rfl) mC FC.kp bC .nil F2 (a6 (pv 1) (a6 (C6 M6 (pv 2) c9 (fun _ _=>rfl)) c7)))))),?_⟩
 refine⟨_,rfl,_,rfl,x,n,rfl,hT.n1,hT.n2,hx,hA,fun ks' hW' p t zs H1 s1 gp gt tt=>?_,fun h=>absurd ⟨ks,hW⟩ h⟩
 obtain⟨r,e,hR,_⟩:=hW
 obtain⟨r',e',hR',_⟩:=hW'
 rw[e]at e'
 cases e'
 have ek:=hR'.uniq hR
 subst ek
 refine⟨_,rfl,rfl,_,rfl,F0 ?_⟩
 refine⟨_,rfl,_,rfl,p,_,_,_,rfl,rfl,SqT.of gp,t7 (j:=1) rfl,n,t,zs,ks',rfl,hT.n2,SqT.of gt,tt,fun k hk=>(hT.t.ups k hk).ends,fun l H2 s2 _ gl=>q l H2 (s1.trans s2) gl⟩
end
end Web
namespace Web
open PySem L2
theorem bm5 (n:Nat):rng (n+1)=rng n++[(n:Int)]:=by
 unfold rng
 rw[List.range'_1_concat,c8]
 simp
theorem ins_map (zs:List Int)(k:Nat)(z:Int):(zs.map V.int).take k++[.int z]++(zs.map V.int).drop k=(zs.take k++[z]++zs.drop k).map V.int:=by
 rw[c8,c8,aB2,aB1]
 rfl
section
variable {K:W.Frag} {mg:Str->Option Value} {base:Heap}
def bl4 (K:W.Frag):Sp:=fun vs H Q _=>∃ (a:Addr) (ns:List Int),vs=[.ref a]/\SqL K H a (ns.map V.int)/\ns.length<=24 /\
 ∀ (l:Addr) (zs:List Int) (H':Hp),o8 H H'->H l=none->H' l=some (.lst (zs.map V.int))->zs.Perm (rng ns.length)->zs.Pairwise (ole ns)->Q (.ref l) H'
theorem ax0:t9 ["tally","order","place","at"] ["tally"] (i6 am7):=.mk'
theorem bA8 (F:Fun K "_law_order" "_law_order" am7 f fd) (B:Bn mg):x5 P w K mg base CX0 1 f fd ["tally"] (bl4 K):=by
 refine F.ok ax0 (fun cdv A outer s H vs Q E hr h=>?_)
 obtain⟨a,ns,rfl,hS,hn,q⟩:=h
 have hsl:=M5
 refine⟨_,d7 (u7 (i:=1) ax0.nd rfl (Or.inl rfl) (Q7 c7))
  (d7 (V5 PassesOwn.never rfl (O0 rfl B.range (a6 (p7 v9 (by rfl) B.len PySem.boot_len (a6 (pv 0) c7)) c7)) (A2 (i := 2) ax0.nd rfl (Or.inl rfl))
   (d7 (u7 (i:=3) ax0.nd rfl (Or.inl rfl) c9)
   (d7 (aN5 PassesOwn.never (PW.pt (ax8 (p6 af2 (pv 3) (p7 v9 (by rfl) B.len PySem.boot_len (a6 (pv 1) c7)) (A1 _))
     (am9 (p6 bH6 (C6 D0 (pv 0) (C6 D0 (pv 1) (pv 3) (fun _ _=>rfl)) (fun _ _=>rfl)) (C6 D0 (pv 0) (pv 2) (fun _ _=>rfl)) (A1 _)))))
    (j7 (u7 (i:=3) ax0.nd rfl (Or.inl rfl) (n8 O3 (pv 3) c9))))
   (j7 (X1 (X3 PySem.F.plainAttrs_list PySem.F.slot_list_insert PySem.F.type_list_insert bf8 (pv 1) (a6 (pv 3) (a6 (pv 2) c7))))))))
  (j7 (u4 (pv 1)))),?_⟩
 refine⟨by show 0<=f6;omega,fun l hl=>?_⟩
 have s0:=d6 (o:=.lst []) hl
 refine⟨_,rfl,a,_,rfl,.inl (s0.seq hS),(ns.length:Int),congrArg (fun z:Nat=>[V.int (z:Int)]) (a5 ..),by omega,by omega,?_⟩
 rw[p0]
 refine O1 (lo:=0) (n:=ns.length) (fun i σ H1=>∃ (zs:List Int) (b c:Option V),σ=[some (.ref a),some (.ref l),b,c]/\o8 H H1/\H1 l=some (.lst (zs.map V.int))/\zs.Perm (rng i)/\zs.Pairwise (ole ns)) ⟨[],none,none,rfl,s0,a9,.refl _,.nil⟩ ?_ ?_
 ·rintro i σ H1 hi ⟨zs,b,c,rfl,s1,g1,hp,hs⟩
  have e0:((0:Int)+(i:Int))=(i:Int):=by omega
  rw[e0]
  have hzl:zs.length=i:=by rw[hp.length_eq,S7]
  have hmem:∀ x∈zs,0<=x/\x<i:=fun x hx=>S6.mp (hp.mem_iff.mp hx)
  have hSa:=s1.seq hS
  have atP:atI (ns.map V.int) (i:Int)=some (.int (ns.getD i 0)):=t7 (j:=i) (by simp[hi])
  refine B2 ⟨fun m σ H2=>∃ k:Nat,m=zs.length - k/\σ=[some (.ref a),some (.ref l),some (.int i),some (.int k)]/\H2=H1/\k<=zs.length/\∀ j x,j<k->zs[j]?=some x->ns.getD i 0<=ns.getD x.toNat 0,⟨_,0,rfl,rfl,rfl,o6 _,fun j x h=>absurd h (aS6 j)⟩,?_⟩
  rintro m σ H2 ⟨k,rfl,rfl,rfl,hk,hge⟩
  have last:(∀ x,zs[k]?=some x->ns.getD x.toNat 0<ns.getD i 0)->∃ (zs':List Int) (b c:Option V),[some (.ref a),some (.ref l),some (.int i),some (.int k)]=[some (V.ref a),some (.ref l),b,c]/\o8 H (upd H2 l (.lst ((zs.map V.int).take k++[.int i]++(zs.map V.int).drop k))) /\
    (upd H2 l (.lst ((zs.map V.int).take k++[.int i]++(zs.map V.int).drop k))) l=some (.lst (zs'.map V.int))/\zs'.Perm (rng (i+1))/\zs'.Pairwise (ole ns):=fun hst =>
   ⟨zs.take k++[(i:Int)]++zs.drop k,_,_,rfl,s1.upd hl,by rw[a9,ins_map],by rw[bm5];exact bq6 hp,bA0 hs hmem hk hge hst⟩
  refine⟨_,rfl,_,rfl,l,_,rfl,.inl (SqL.of g1),_,_,rfl,rfl,_,rfl,?_⟩
  rw[a5]
  by_cases hkl:(k:Int)<(zs.length:Int)
  ·rw[decide_eq_true hkl]
   refine F8 ?_
   have hkl':k<zs.length:=by omega
   obtain⟨x,hx⟩:∃ x,zs[k]?=some x:=⟨_,g9 hkl'⟩
   obtain⟨hx0,hxi⟩:=hmem x (b8 hx)
   have hxc:((x.toNat:Nat):Int)=x:=by omega
   have atK:atI (zs.map V.int) (k:Int)=some (.int x):=t7 (j:=k) (by rw[m9,hx];rfl)
   have atX:atI (ns.map V.int) x=some (.int (ns.getD x.toNat 0)):=by
    have hb:x.toNat<ns.length:=by omega
    have:=t7 (xs:=ns.map V.int) (j:=x.toNat) (v:=.int (ns.getD x.toNat 0)) (by simp[hb])
    rw[hxc]at this
    exact this
   refine⟨_,rfl,_,rfl,_,rfl,l,_,_,_,rfl,rfl,SqL.of g1,atK,a,_,_,_,rfl,rfl,hSa,atX,_,rfl,_,rfl,a,_,_,_,rfl,rfl,hSa,atP,_,_,rfl,rfl,_,rfl,?_⟩
   by_cases hg:ns.getD i 0<=ns.getD x.toNat 0
   ·rw[decide_eq_true hg]
    refine F8 ⟨fun σ' H'=>σ'=[some (.ref a),some (.ref l),some (.int i),some (.int ((k:Int)+1))]/\H'=H2,fun σ' H' h=>⟨zs.length - (k+1),by omega,k+1,rfl,by rw[h.1];rfl,h.2,hkl',fun j y hj hy=>?_⟩,?_⟩
    ·by_cases hjk:j=k
     ·subst hjk
      rw[hx]at hy
      cases hy
      exact hg
     ·exact hge j y (by omega) hy
    ·exact⟨_,rfl,_,_,rfl,rfl,rfl,rfl⟩
   ·rw[decide_eq_false hg]
    refine F0 ?_
    refine⟨_,rfl,.inl ⟨rfl,_,SqL.of g1⟩,_,rfl,_,rfl,l,_,_,k,rfl,rfl,g1,by rw[a5];exact hk,by rw[a5];omega,last fun y hy=>?_⟩
    rw[hx]at hy
    cases hy
    omega
  ·rw[decide_eq_false hkl]
   refine F0 (F0 ?_)
   refine⟨_,rfl,.inl ⟨rfl,_,SqL.of g1⟩,_,rfl,_,rfl,l,_,_,k,rfl,rfl,g1,by rw[a5];exact hk,by rw[a5];omega,last fun y hy=>?_⟩
   have:=(c4.mp hy).1
   omega
 ·rintro σ H1 ⟨zs,b,c,rfl,s1,g1,hp,hs⟩
  exact⟨_,rfl,q l zs H1 s1 hl g1 hp hs⟩
end
seal L2.PE L2.PA L2.PS L2.PSs L2.PT
section
variable {K:W.Frag} {mg:Str->Option Value} {base:Heap}
def bG3 (K:W.Frag):Sp:=fun vs H Q _=>∃ (a:Addr) (ns:List Int) (r:Nat),vs=[.ref a,.int r]/\SqL K H a (ns.map V.int)/\ns.length<=24/\r<=100/\∀ H',o8 H H'->Q (.int (ae5 ns r)) H'
theorem bH0:t9 ["tally","r","numbers"] ["tally","r"] (i6 ae3):=.mk'
theorem bO1 {fO:Addr} (F:Fun K "_law_room" "_law_room" ae3 f fd) (B:Bn mg) (FO:Fun K "_law_order" "_law_order" am7 fO fdO) (bO:Binds K fdO ["tally"] []) (mO:mg "_law_order"=some (.ref fO)):x5 P w K mg base CX0 2 f fd ["tally","r"] (bG3 K):=by
 have GO:x5 P w K mg base CX0 1 fO fdO ["tally"] (bl4 K):=bA8 FO B
 refine F.ok bH0 (fun cdv A outer s H vs Q E hr h=>?_)
 obtain⟨a,ns,r,rfl,hS,hl,hr1,q⟩:=h
 have hsl:=M5
 have nd1:(["place","tally"]:List Str).Nodup:=by decide +kernel
 have nd2:(["number","r"]:List Str).Nodup:=by decide +kernel
 refine⟨_,d7 (au9 (i:=2) bH0.nd rfl rfl (by rfl) (N':=["place","tally"]) (lk:=[none,some 0]) rfl (O8 (u9 GO hr (by rfl) mO FO.kp bO .nil F2 (a6 (pv 0) c7))) (by rfl) rfl (by decide +kernel) (by exact⟨rfl,trivial⟩) (by rfl) (by exact LkL.ok ⟨⟨rfl,Or.inl rfl,rfl,Or.inl rfl⟩,trivial⟩)
   (fun _ _ _=>A2 (i:=0) nd1 rfl (Or.inl rfl)) (fun _ _ _=>M8) (fun _ _ _=>X2 K rfl (pv 1) (pv 0) (fun _ _=>rfl)))
  (j7 (u4 (n8 af0 (n8 O3 (n8 T7 (pv 1) (n8 af0 (pv 1) c9)) (p7 (Z7 rfl) (by rfl) B.sum (by rfl) (a6
   (K8 (N' := ["number", "r"]) (lk := [none, some 1]) rfl (O8 (L4 Q4 (pv 2) (N9 (pv 1)) Q5)) (by rfl) rfl (by decide +kernel) (by exact ⟨rfl, trivial⟩) (by rfl) (by exact LkL.ok ⟨⟨rfl, Or.inl rfl, rfl, Or.inl rfl⟩, trivial⟩)
    (fun _ _ _=>A2 (i:=0) nd2 rfl (Or.inl rfl)) (fun _ _ _=>M8) (fun _ _ _=>p7 (ar0 rfl) (by rfl) B.min (by rfl) (a6 (pv 0) (a6 (pv 1) c7)))) c7)))
   (p7 (Z7 rfl) (by rfl) B.sum (by rfl) (a6 (L4 Q4 (pv 2) Q5 (N9 (pv 1))) c7))))),?_⟩
 refine⟨_,rfl,a,ns,rfl,hS,hl,fun lo zo H1 s1 _ g1 hp hs=>⟨lo,rfl,⟨_,SqL.of g1⟩,fun D hD=>?_⟩⟩
 have hzl:zo.length=ns.length:=by rw[hp.length_eq,S7]
 refine J7 (K:=K) (a:=lo) (D:=D) (ys:=zo.map V.int) (fun i xs σ' H'=>∃ v,σ'=[v,some (.ref a)]/\o8 H1 H'/\H' D=some (.lst xs)/\xs=((zo.take i).map fun z=>ns.getD z.toNat 0).map V.int) ⟨none,rfl,d6 hD,a9,by rw[G2];rfl⟩ (by rw[a5];omega)
  (fun i xs σ' H' hi ⟨_,_,s3,g3,e3⟩=>⟨SqL.of (s3 _ _ g1),g3,by rw[e3,a5,a5,l6];omega⟩) ?_ ?_
 ·rintro i xs x σ' H' N kN hx ⟨v,rfl,s3,g3,rfl⟩
  obtain⟨z,hz',rfl⟩:=U7 hx
  obtain⟨h0,h1⟩:=S6.mp (hp.mem_iff.mp (b8 hz'))
  obtain⟨j,rfl⟩:=bj1 h0
  have hj:j<ns.length:=by omega
  refine B2 (G7 ?_)
  refine⟨_,rfl,_,rfl,.inl ⟨a,_,_,_,rfl,rfl,(s1.trans s3).seq hS,al4 hj,g3,kN _ _ _ ⟨_,rfl,s3.upd hD,a9,?_⟩⟩⟩
  rw[o5,hz',c8,c8]
  rfl
 ·rintro xs σ' H3 ⟨v,rfl,s3,g3,rfl⟩
  rw[a5,J5]at g3
  have hz:=ay2 hp hs
  generalize (zo.map fun z=>ns.getD z.toNat 0)=zs at g3 hz
  have hlen:zs.length=ns.length:=by rw[hz,au5,am2]
  have s13:=s1.trans s3
  refine⟨_,rfl,_,rfl,_,_,rfl,rfl,_,_,rfl,rfl,.inl ⟨by omega,by omega⟩,?_⟩
  refine⟨_,rfl,_,rfl,_,rfl,D,_,rfl,SqL.of g3,fun c hc=>?_⟩
  rw[Y6]
  have s4:=d6 (o:=.lst ((zs.drop r).map V.int)) hc
  have g4:(upd H3 c (.lst ((zs.drop r).map V.int))) c=some (.lst ((zs.drop r).map V.int)):=a9
  have g3':=s4 _ _ g3
  generalize upd H3 c (.lst ((zs.drop r).map V.int))=H4 at s4 g4 g3'
  refine⟨c,rfl,⟨_,SqL.of g4⟩,fun D2 hD2=>J7 (K:=K) (a:=c) (D:=D2) (ys:=(zs.drop r).map V.int) (fun i xs σ' H'=>∃ v,σ'=[v,some (.int r)]/\o8 H4 H'/\H' D2=some (.lst xs)/\xs=(((zs.drop r).take i).map (mn r)).map V.int) ⟨none,rfl,d6 hD2,a9,by rw[G2];rfl⟩ (by rw[a5,x6];omega)
   (fun i xs σ' H' hi ⟨_,_,s5,g5,e5⟩=>⟨SqL.of (s5 _ _ g4),g5,by rw[e5,a5,a5,l6,x6];omega⟩) ?_ ?_⟩
  ·rintro i xs x σ' H' N kN hx ⟨v,rfl,s5,g5,rfl⟩
   obtain⟨z,hz',rfl⟩:=U7 hx
   refine B2 (G7 ?_)
   refine⟨_,rfl,_,rfl,_,_,rfl,g5,kN _ _ _ ⟨_,rfl,s5.upd hD2,a9,?_⟩⟩
   rw[o5,hz',c8,c8]
   rfl
  ·rintro xs σ' H5 ⟨v,rfl,s5,g5,rfl⟩
   rw[a5,J5]at g5
   refine⟨D2,_,rfl,SqL.of g5,_,_,rfl,rfl,?_⟩
   refine⟨_,rfl,_,rfl,_,rfl,D,_,rfl,SqL.of (s5 _ _ g3'),fun c2 hc2=>?_⟩
   rw[af8]
   refine⟨c2,_,rfl,SqL.of a9,_,_,rfl,rfl,?_⟩
   have fin:=q _ (((s13.trans s4).trans s5).trans (d6 (o:=.lst ((zs.take r).map V.int)) hc2))
   rw[<- ax6 (r:=r) hz]at fin
   exact fin
end
end Web
namespace Web
open PySem L2
theorem bR1:("below ":Str)=("below":Str)++" ":=by decide +kernel
theorem bK0:("wall ":Str)=("wall":Str)++" ":=by decide +kernel
def wT (x:Wl):Str:=Str.join " " ((wlT x).map vT)
theorem bj6 (p:Nat):wT (.below p)="below "++N1 p:=by rw[bR1];rfl
theorem bw7 (r:Nat):wT (.wall r)="wall "++N1 r:=by rw[bK0];rfl
section
variable {K:W.Frag} {mg:Str->Option Value} {base:Heap}
def bV9 (K:W.Frag):Sp:=fun vs H Q _=>∃ (a:Addr) (ns:List Int),vs=[.ref a]/\SqL K H a (ns.map V.int)/\ns.length<=24/\(∀ x,aB0 ns x->x≠.free->∀ H',o8 H H'->Q (.str (wT x)) H')/\(aB0 ns .free->∀ H',o8 H H'->Q .non H')
theorem bM2:t9 ["tally","place","r"] ["tally"] (i6 ak7):=.mk'
theorem bY9 {fR fO:Addr} (F:Fun K "_law_fence" "_law_fence" ak7 f fd) (B:Bn mg) (FR:Fun K "_law_room" "_law_room" ae3 fR fdR) (bR:Binds K fdR ["tally","r"] []) (mR:mg "_law_room"=some (.ref fR)) (FO:Fun K "_law_order" "_law_order" am7 fO fdO) (bO:Binds K fdO ["tally"] []) (mO:mg "_law_order"=some (.ref fO)):x5 P w K mg base CX0 3 f fd ["tally"] (bV9 K):=by
 have GR:x5 P w K mg base CX0 2 fR fdR ["tally","r"] (bG3 K):=bO1 FR B FO bO mO
 refine F.ok bM2 (fun cdv A outer s H vs Q E hr h=>?_)
 obtain⟨a,ns,rfl,hS,hl,qw,qf⟩:=h
 have hsl:=M5
 refine⟨_,d7 (V5 PassesOwn.never rfl (O0 rfl B.range (a6 (p7 v9 (by rfl) B.len PySem.boot_len (a6 (pv 0) c7)) c7)) (A2 (i:=1) bM2.nd rfl (Or.inl rfl))
   (j7 (E5 (p6 af2 (C6 D0 (pv 0) (pv 1) (fun _ _=>rfl)) c9 (A1 _)) (j7 (u4 (n8 ay4 D8 (G5 V1 (by rfl) B.str (by rfl) (a6 (pv 1) c7))))) A6)))
  (d7 (E5 (p6 V7 (n8 C9 (p7 (Z7 rfl) (by rfl) B.sum (by rfl) (a6 (pv 0) c7)) c9) c9 (A1 _)) (j7 (u4 D8)) A6)
  (d7 (V5 PassesOwn.never rfl (aq2 rfl B.range (a6 c9 (a6 (n8 O3 (p7 v9 (by rfl) B.len PySem.boot_len (a6 (pv 0) c7)) c9) c7))) (A2 (i := 2) bM2.nd rfl (Or.inl rfl))
   (j7 (E5 (p6 af2 (u9 GR hr (by rfl) mR FR.kp bR .nil F2 (a6 (pv 0) (a6 (pv 2) c7))) c9 (A1 _)) (j7 (u4 (n8 ay4 D8 (G5 V1 (by rfl) B.str (by rfl) (a6 (pv 2) c7))))) A6)))
  (j7 (u4 Q6)))),?_⟩
 refine⟨_,rfl,a,_,rfl,.inl hS,ns.length,by rw[a5],by omega,by omega,O1 (lo:=0) (n:=ns.length) (fun i σ H2=>∃ e1,σ=[some (.ref a),e1,none]/\H2=H/\∀ (j:Nat) (x:Int),j<i->ns[j]?=some x->0<=x) ⟨none,rfl,rfl,fun j x h=>absurd h (by omega)⟩ ?_ ?_⟩
 ·rintro i σ H2 hi ⟨e1,rfl,rfl,hp⟩
  have e0:((0:Int)+(i:Int))=(i:Int):=by omega
  rw[e0]
  refine B2 ?_
  have ei:ns[i]?=some ns[i]:=g9 hi
  refine⟨_,rfl,_,rfl,a,_,_,_,rfl,rfl,hS,t7 (j:=i) (v:=.int ns[i]) (by rw[m9,ei];rfl),_,_,rfl,rfl,_,rfl,af5 (fun h=>?_) (fun h=>?_)⟩
  ·obtain⟨k1,k2,_⟩:=ay7 (z:=(i:Int)) ⟨by omega,by omega⟩
   have k2':(Str.ofString (toString (i:Int))).length<=2:=k2
   have hb:("below ":Str).length=6:=by decide +kernel
   refine⟨_,rfl,_,rfl,k1,_,_,rfl,rfl,(by rw[hb];omega),?_⟩
   have:=qw (.below i) ⟨⟨_,ei,of_decide_eq_true h⟩,hp⟩ (by simp) _ (o8.refl _)
   rw[bj6]at this
   exact this
  ·refine⟨_,rfl,rfl,fun j x hj hx=>?_⟩
   rcases C0 j i with z | z
   ·exact hp j x z hx
   ·have:j=i:=by omega
    subst this
    rw[ei]at hx
    cases hx
    have:¬ (ns[j]<0):=fun z=>h (decide_eq_true z)
    omega
 ·rintro σ H2 ⟨e1,rfl,rfl,hp⟩
  have hall:AllP ns:=fun j x hx=>hp j x (c4.mp hx).1 hx
  refine⟨_,rfl,a,ns,rfl,hS,_,_,rfl,rfl,(by show (0:Int)<2;decide),rfl,_,rfl,af5 (fun h=>?_) (fun h=>?_)⟩
  ·have:=of_decide_eq_true h
   rw[V.int.injEq]at this
   exact qw .odd ⟨hall,this⟩ (by simp) _ (o8.refl _)
  have hev:¬ ns.sum % 2=1:=fun z=>h (decide_eq_true (by show V.int (ns.sum % 2)=V.int 1;rw[z]))
  refine⟨_,rfl,a,_,rfl,.inl hS,_,_,rfl,rfl,1,((ns.length:Int)+1),by rw[a5],⟨by omega,by omega,by omega,by omega⟩,?_⟩
  rw[show ((ns.length:Int)+1 - 1).toNat=ns.length by omega]
  refine O1 (lo:=1) (n:=ns.length) (fun i σ H3=>∃ e2,σ=[some (.ref a),e1,e2]/\o8 H2 H3/\∀ k,1<=k->k<i+1->0<=ae5 ns k) ⟨none,rfl,o8.refl H2,fun k k1 k2=>absurd k1 (by omega)⟩ ?_ ?_
  ·rintro i σ H3 hi ⟨e2,rfl,s3,hrm⟩
   have e0:((1:Int)+(i:Int))=((i+1:Nat):Int):=by omega
   rw[e0]
   refine B2 ?_
   refine⟨_,rfl,_,rfl,a,ns,i+1,rfl,s3.seq hS,hl,by omega,fun H4 s4=>⟨_,_,rfl,rfl,_,rfl,af5 (fun h=>?_) (fun h=>?_)⟩⟩
   ·obtain⟨k1,k2,_⟩:=ay7 (z:=((i+1:Nat):Int)) ⟨by omega,by omega⟩
    have k2':(Str.ofString (toString ((i+1:Nat):Int))).length<=2:=k2
    have hb:("wall ":Str).length=5:=by decide +kernel
    refine⟨_,rfl,_,rfl,k1,_,_,rfl,rfl,(by rw[hb];omega),?_⟩
    have:=qw (.wall (i+1)) ⟨hall,hev,by omega,by omega,of_decide_eq_true h,hrm⟩ (by simp) _ (s3.trans s4)
    rw[bw7]at this
    exact this
   ·have h':¬ ae5 ns (i+1)<0:=fun z=>h (decide_eq_true z)
    refine⟨_,rfl,s3.trans s4,fun k k1 k2=>?_⟩
    rcases C0 k (i+1) with z | z
    ·exact hrm k k1 z
    ·have:k=i+1:=by omega
     subst this
     omega
  ·rintro σ H3 ⟨e2,rfl,s3,hrm⟩
   exact qf ⟨hall,hev,fun k k1 k2=>hrm k k1 (by omega)⟩ _ s3
end
theorem bK6:∀ z∈tal n ks,0<=z/\z<=ks.length:=fun z hz=>by
 obtain⟨p,hp,e⟩:=bF2 hz
 have hp':=hp
 rw[X0]at hp'
 have h:=ag9 (ks:=ks) hp'
 rw[g9 hp,e]at h
 rw[Option.some.inj h]
 refine⟨by omega,?_⟩
 unfold V9
 have:=List.countP_le_length (p:=fun k:List Int=>decide ((p:Int)∈k)) (l:=ks)
 omega
theorem be9:∀ n,n<25->(V6 n).length<=276:=by decide +kernel
seal L2.PE L2.PA L2.PS L2.PSs L2.PT
section
variable {K:W.Frag} {mg:Str->Option Value} {base:Heap}
def bL5 (K:W.Frag):Sp:=fun vs H Q _=>∃ (c:Int) (m:Nat),vs=[.int c,.int m]/\1<=m/\m<=24/\∀ (l:Addr) (ns:List Int) (H':Hp),o8 H H'->H l=none->H' l=some (.lst (ns.map V.int))->1<=ns.length->ns.length<=24->(∀ z∈ns,0<=z/\z<=1000)->Q (.ref l) H'
theorem by2:t9 ["cell","most","places","tally"] ["cell","most"] (i6 aM3):=.mk'
theorem bY5 {fR fC:Addr}{fdC:FuncData}(F:Fun K "_law_tally" "_law_tally" aM3 f fd)(B:Bn mg)(FR:Fun K "_law_row" "_law_row" aC7 fR fdR)(bR:Binds K fdR ["cell","many","size"] [])(mR:mg "_law_row"=some (.ref fR))(FT:Fun K "_law_ties" "_law_ties" as3 fT fdT)(bT:Binds K fdT ["cell","places"] [])(mT:mg "_law_ties"=some (.ref fT))(FC:Fun K "_law_counts" "_law_counts" U5 fC fdC)(bC:Binds K fdC ["places","ties"] [])(mC:mg "_law_counts"=some (.ref fC)):x5 P w K mg base CX0 3 f fd ["cell","most"] (bL5 K):=by
 have GR:x5 P w K mg base CX0 2 fR fdR ["cell","many","size"] (bk9 K):=(bA4 FR B).mono (by decide)
 have GT:x5 P w K mg base CX0 2 fT fdT ["cell","places"] (bk8 K):=bA3 FT B FR bR mR
 have GC:x5 P w K mg base CX0 2 fC fdC ["places","ties"] (aT7 K):=(ba3 FC).mono (by decide)
 refine F.ok by2 (fun cdv A outer s H vs Q E hr h=>?_)
 obtain⟨c,m,rfl,m1,m2,q⟩:=h
 refine⟨_,d7 (u7 (i:=0) by2.nd rfl (Or.inl rfl) (n8 C9 (pv 0) (n8 af1 c9 c9)))
  (d7 (u7 (i:=2) by2.nd rfl (Or.inl rfl) (n8 O3 c9 (n8 C9 (pv 0) (pv 1))))
  (d7 (E5 (p6 bo2 (n8 C9 (n8 K9 (pv 0) (pv 1)) c9) c9 (A1 _)) (d7 (u7 (i:=3) by2.nd rfl (Or.inl rfl) (u9 GC hr (by rfl) mC FC.kp bC .nil F2 (a6 (pv 2) (a6 (u9 GT hr (by rfl) mT FT.kp bT .nil F2 (a6 (n8 K9 (pv 0) (n8 T7 (pv 1) c9)) (a6 (pv 2) c7))) c7)))) (j7 (u4 (pv 3)))) A6)
  (j7 (u4 (u9 GR hr (by rfl) mR FR.kp bR .nil F2 (a6 (n8 K9 (pv 0) (n8 T7 (pv 1) c9)) (a6 (pv 2) (a6 (n8 O3 (pv 2) c9) c7)))))))),?_⟩
 refine⟨_,rfl,_,_,rfl,rfl,⟨by decide,by decide,by decide⟩,_,_,rfl,rfl,p60,?_⟩
 refine C7 fun c _=>?_
 obtain⟨j,ej,hj⟩:=ba5 c (n:=m) (by omega)
 refine⟨_,rfl,_,rfl,_,_,rfl,rfl,(by show (0:Int)<(m:Int);omega),_,_,rfl,rfl,?_⟩
 refine C7 fun pz hpz=>?_
 have hpz:pz=((j+1:Nat):Int):=by rw[hpz,ej];omega
 subst hpz
 refine⟨_,rfl,_,rfl,_,_,rfl,rfl,⟨by show (0:Int)<(m:Int);omega,by show (m:Int)<_;omega⟩,_,_,rfl,rfl,(by show (0:Int)<3;decide),_,_,rfl,rfl,_,rfl,af5 (fun _=>?_) (fun _=>?_)⟩
 ·refine⟨_,rfl,_,rfl,_,rfl,_,_,rfl,rfl,.inl ⟨by omega,by omega⟩,_,_,rfl,rfl,⟨by show (0:Int)<(m:Int)*3;omega,by show (m:Int)*3<_;omega⟩,_,rfl,_,j+1,rfl,by omega,fun lt zs ks H1 s1 _ g1 t1 hsub=>?_⟩
  refine⟨j+1,lt,zs,ks,rfl,by omega,SqT.of g1,t1,fun k hk=>(bf9 (hsub.subset hk)).ends,fun l H2 s2 fl gl=>?_⟩
  have hkl:ks.length<=276:=p9 hsub.length_le (be9 (j+1) (by omega))
  exact⟨_,rfl,q l _ H2 (s1.trans s2) (s1.free fl) gl (by rw[X0];omega) (by rw[X0];omega) fun z hz=>by have:=bK6 z hz;omega⟩
 ·refine⟨_,rfl,_,rfl,_,_,rfl,rfl,.inl ⟨by omega,by omega⟩,_,_,rfl,rfl,⟨by show (0:Int)<(m:Int)*3;omega,by show (m:Int)*3<_;omega⟩,_,rfl,_,rfl,_,_,rfl,rfl,?_⟩
  refine⟨_,j+1,j+2,by rfl,by omega,by omega,by omega,fun l ts H1 htl hb s1 fl g1=>?_⟩
  exact q l ts H1 s1 fl g1 (by omega) (by omega) fun z hz=>by have:=hb z hz;omega
end
end Web
namespace Web
open PySem L2
theorem bN5:(0:Int)<10 ^ (J1 40):=bI7 (by decide)
theorem p49:(0:Int)<10 ^ (J1 49):=bI7 (by decide)
def Ka (H:Hp)(l:Addr)(c:Int)(m n j:Nat)(wy:Int)(b:Nat)(σ:St)(H2:Hp):Prop:=∃ ns:List Int,σ=[some (.int c),some (.int (m:Int)),some (.ref l),some (.int wy),some (.int (j:Int))]/\o8 H H2/\H2 l=some (.lst (ns.map V.int))/\ns.length=n/\(∀ z∈ns,z.natAbs<=b)
theorem aH2 {b b':Nat}{v:Int}(h:∀ z∈ns,z.natAbs<=b)(hb:b<=b')(hv:v.natAbs<=b'):∀ z∈ns.set j v,z.natAbs<=b':=fun z hz=>by
 rcases List.mem_or_eq_of_mem_set hz with e | e
 ·exact p9 (h z e) hb
 ·rw[e];exact hv
theorem t40:(10:Int) ^ (J1 40)=((10 ^ 40:Nat):Int):=by decide +kernel
theorem t49:(10:Int) ^ (J1 49)=((10 ^ 49:Nat):Int):=by decide +kernel
theorem Ka.le {c:Int}{m:Nat}{wy:Int}{b b':Nat}{H2:Hp}(h:Ka H l c m n j wy b σ H2)(hb:b<=b'):Ka H l c m n j wy b' σ H2:=by
 obtain⟨ns,h1,h2,h3,h4,h5⟩:=h
 exact⟨ns,h1,h2,h3,h4,fun z hz=>p9 (h5 z hz) hb⟩
section
variable {K:W.Frag} {mg:Str->Option Value} {base:Heap}
def bW1 (K:W.Frag):Sp:=fun vs H Q _=>∃ (c:Int) (m:Nat),vs=[.int c,.int m]/\1<=m/\m<=24/\∀ (l:Addr) (ns:List Int) (H':Hp),o8 H H'->H' l=some (.lst (ns.map V.int))->1<=ns.length->ns.length<=24->(∀ z∈ns,Nm z)->Q (.ref l) H'
theorem bm3:t9 ["cell","most","tally","way","at"] ["cell","most"] (i6 ax5):=.mk'
theorem bZ1 (F:Fun K "_law_asked" "_law_asked" ax5 f fd)(B:Bn mg)(FT:Fun K "_law_tally" "_law_tally" aM3 fT fdT)(bT:Binds K fdT ["cell","most"] [])(mT:mg "_law_tally"=some (.ref fT))(GT:x5 P w K mg base CX0 3 fT fdT ["cell","most"] (bL5 K)):x5 P w K mg base CX0 4 f fd ["cell","most"] (bW1 K):=by
 refine F.ok bm3 (fun cdv A outer s H vs Q E hr h=>?_)
 obtain⟨c,m,rfl,m1,m2,q⟩:=h
 refine⟨_,d7 (u7 (i:=0) bm3.nd rfl (Or.inl rfl) (n8 C9 (pv 0) (n8 af1 c9 c9)))
  (d7 (u7 (i:=2) bm3.nd rfl (Or.inl rfl) (u9 GT hr (by rfl) mT FT.kp bT .nil F2 (a6 (n8 K9 (pv 0) c9) (a6 (pv 1) c7))))
  (d7 (u7 (i:=3) bm3.nd rfl (Or.inl rfl) (n8 C9 (pv 0) c9))
  (ah2 (u7 (i:=4) bm3.nd rfl (Or.inl rfl) (n8 C9 (n8 K9 (pv 0) c9) (p7 v9 (by rfl) B.len PySem.boot_len (a6 (pv 2) c7))))
  (ah2 (E5 (p6 V7 (pv 3) c9 (A1 _)) (j7 (aq1 (n8 O3 (C6 D0 (pv 2) (pv 4) (fun _ _=>rfl)) c9) (aq3 (pv 2) (pv 4) set_list))) A6)
  (ah2 (E5 (p6 V7 (pv 3) c9 (A1 _)) (j7 (aq1 (n8 O3 (C6 D0 (pv 2) (pv 4) (fun _ _=>rfl)) c9) (aq3 (pv 2) (pv 4) set_list))) A6)
  (ah2 (E5 (p6 V7 (pv 3) c9 (A1 _)) (j7 (aq1 (n8 af0 (n8 af0 c9 c9) (n8 C9 (n8 K9 (pv 0) c9) (n8 af1 c9 c9))) (aq3 (pv 2) (pv 4) set_list))) A6)
  (ah2 (E5 (p6 V7 (pv 3) c9 (A1 _)) (j7 (aq1 (n8 C9 (n8 K9 (pv 0) c9) (n8 af1 c9 c9)) (aq3 (pv 2) (pv 4) set_list))) A6)
  (j7 (u4 (pv 2)))))))))),?_⟩
 refine⟨_,rfl,_,_,rfl,rfl,⟨by decide,by decide,by decide⟩,_,_,rfl,rfl,p60,?_⟩
 refine C7 fun c _=>?_
 refine⟨_,rfl,_,_,rfl,rfl,⟨by decide,by decide⟩,_,rfl,_,m,rfl,m1,m2,fun l ns H1 s1 fl g1 l1 l2 hb=>?_⟩
 refine⟨_,rfl,_,_,rfl,rfl,(by show (0:Int)<_;decide),?_⟩
 refine C7 fun wy _=>?_
 obtain⟨j,ej,hj⟩:=ba5 (c / 16) (n:=ns.length) l1
 refine⟨Ka H l c m ns.length j wy 1000,?_,?_⟩
 ·refine⟨_,rfl,_,_,rfl,rfl,⟨by decide,by decide⟩,_,rfl,l,_,rfl,.inl (SqL.of g1),_,_,rfl,rfl,(by rw[a5];show (0:Int)<(ns.length:Int);omega),?_⟩
  refine C7 fun av hav=>?_
  rw[a5]at hav
  have hav:av=(j:Int):=hav.trans ej
  subst hav
  exact⟨ns,rfl,s1,g1,rfl,fun z hz=>by have:=hb z hz;omega⟩
 generalize ns.length=n at hj l1 l2
 clear g1 s1 hb ej
 rintro σ H2 hJ
 refine⟨Ka H l c m n j wy (1001),?_,?_⟩
 ·obtain⟨ns,rfl,s2,g2,e2,h2⟩:=id hJ
  refine⟨_,rfl,rfl,_,rfl,af5 (fun _=>?_) (fun _=>hJ.le (by decide +kernel))⟩
  have hjn:j<ns.length:=by omega
  have hz:=h2 (ns.getD j 0) (by rw[m6,g9 hjn];exact R4 hjn)
  refine⟨_,rfl,_,rfl,l,_,_,_,rfl,rfl,SqL.of g2,al4 hjn,_,_,rfl,rfl,_,rfl,_,rfl,l,_,_,j,rfl,rfl,g2,ah8 (by rw[a5];exact hjn),?_⟩
  exact⟨ns.set j (ns.getD j 0+1),rfl,s2.upd fl,by rw[a9,ac6],by rw[O6];exact e2,aH2 h2 (by decide +kernel) (by omega)⟩
 clear hJ
 rintro σ H2 hJ
 refine⟨Ka H l c m n j wy (1003),?_,?_⟩
 ·obtain⟨ns,rfl,s2,g2,e2,h2⟩:=id hJ
  refine⟨_,rfl,rfl,_,rfl,af5 (fun _=>?_) (fun _=>hJ.le (by decide +kernel))⟩
  have hjn:j<ns.length:=by omega
  have hz:=h2 (ns.getD j 0) (by rw[m6,g9 hjn];exact R4 hjn)
  refine⟨_,rfl,_,rfl,l,_,_,_,rfl,rfl,SqL.of g2,al4 hjn,_,_,rfl,rfl,_,rfl,_,rfl,l,_,_,j,rfl,rfl,g2,ah8 (by rw[a5];exact hjn),?_⟩
  exact⟨ns.set j (ns.getD j 0+2),rfl,s2.upd fl,by rw[a9,ac6],by rw[O6];exact e2,aH2 h2 (by decide +kernel) (by omega)⟩
 clear hJ
 rintro σ H2 hJ
 refine⟨Ka H l c m n j wy (10 ^ 45),?_,?_⟩
 ·obtain⟨ns,rfl,s2,g2,e2,h2⟩:=id hJ
  refine⟨_,rfl,rfl,_,rfl,af5 (fun _=>?_) (fun _=>hJ.le (by decide +kernel))⟩
  have hjn:j<ns.length:=by omega
  obtain⟨x0,x1⟩:0<=c / 99 % 10 ^ (J1 40)/\c / 99 % 10 ^ (J1 40)<10 ^ (J1 40):=⟨J0 _ (by have:=bN5;omega),D7 _ bN5⟩
  have x2:(c / 99 % 10 ^ (J1 40)).natAbs<10 ^ 40:=by
   generalize c / 99 % 10 ^ (J1 40)=X at x0 x1 ⊢
   rw[t40]at x1
   omega
  refine⟨_,_,rfl,rfl,_,rfl,_,_,rfl,rfl,⟨by decide,by decide⟩,_,_,rfl,rfl,⟨by decide,by decide,by decide⟩,_,_,rfl,rfl,bN5,_,_,rfl,rfl,_,rfl,_,rfl,l,_,_,j,rfl,rfl,g2,ah8 (by rw[a5];exact hjn),?_⟩
  exact⟨ns.set j ((0:Int) - 1 - c / 99 % 10 ^ (J1 40)),rfl,s2.upd fl,by rw[a9,ac6],by rw[O6];exact e2,aH2 h2 (by decide +kernel) (by omega)⟩
 clear hJ
 rintro σ H2 hJ
 refine⟨Ka H l c m n j wy (10 ^ 49),?_,?_⟩
 ·obtain⟨ns,rfl,s2,g2,e2,h2⟩:=id hJ
  refine⟨_,rfl,rfl,_,rfl,af5 (fun _=>?_) (fun _=>hJ.le (by decide +kernel))⟩
  have hjn:j<ns.length:=by omega
  obtain⟨x0,x1⟩:0<=c / 99 % 10 ^ (J1 49)/\c / 99 % 10 ^ (J1 49)<10 ^ (J1 49):=⟨J0 _ (by have:=p49;omega),D7 _ p49⟩
  have x2:(c / 99 % 10 ^ (J1 49)).natAbs<10 ^ 49:=by
   generalize c / 99 % 10 ^ (J1 49)=X at x0 x1 ⊢
   rw[t49]at x1
   omega
  refine⟨_,rfl,_,_,rfl,rfl,⟨by decide,by decide⟩,_,_,rfl,rfl,⟨by decide,by decide,by decide⟩,_,_,rfl,rfl,p49,_,rfl,_,rfl,l,_,_,j,rfl,rfl,g2,ah8 (by rw[a5];exact hjn),?_⟩
  exact⟨ns.set j (c / 99 % 10 ^ (J1 49)),rfl,s2.upd fl,by rw[a9,ac6],by rw[O6];exact e2,aH2 h2 (by decide +kernel) (by omega)⟩
 clear hJ
 rintro σ H2 ⟨ns,rfl,s2,g2,e2,h2⟩
 exact⟨_,rfl,q l ns H2 s2 g2 (by omega) (by omega) fun z hz=>by
  unfold Nm
  have:=h2 z hz
  exact aB8 this (by decide +kernel)⟩
end
theorem bC7 {K:W.Frag}{Q:VK}{u:Addr}(hun:A.units+64<al9)(gl:SqL K H l (ns.map V.int))(gu:SqL K H u (ns.map V.int))(q:Q (.bl false) H):bX4 K A true (.ref l) (.ref u) H Q:=by
 refine⟨.list (ns.map .int),.list (ns.map .int),Dt.mkLi gl,Dt.mkLi gu,bp1 _,bp1 _,?_,?_⟩
 ·refine bF6 hun (p9 (Nat.min_le_left _ _) ?_)
  have:=bR0 ns
  omega
 ·show Q (.bl (!PyData.eqv _ _)) _
  rw[bQ8,decide_eq_true rfl]
  exact q
theorem bP4 {K:W.Frag}{kA:Addr}{kod:Option Addr}{kn:Nat}{ksl:Array (Option Value)}{t1 t2 t3 t4:Tok}(h:K.lookup kA=some ⟨.type "tuple",kod,.seq #[.str "web" t1,.str "pair" t2,.str "pieces" t3,.str "off" t4] kn,ksl⟩):KdT K kA:=fun _ =>
 .inr ⟨_,_,_,h,rfl,rfl,by show 4<=f6;decide,.cons ⟨_,rfl⟩ (.cons ⟨_,rfl⟩ (.cons ⟨_,rfl⟩ (.cons ⟨_,rfl⟩ .nil)))⟩
theorem bB7 (z:Int)(h:0<=z/\z<8):∃ v:Nat,atI ([.int 8,.int 8,.int 8,.int 8,.int 8,.int 8,.int 24,.int 24]:List V) z=some (.int (v:Int))/\1<=v/\v<=24:=by
 have:z=0\/z=1\/z=2\/z=3\/z=4\/z=5\/z=6\/z=7:=by omega
 rcases this with h | h | h | h | h | h | h | h<;>rw[h]
 ·exact⟨8,t7 (j:=0) rfl,by decide,by decide⟩
 ·exact⟨8,t7 (j:=1) rfl,by decide,by decide⟩
 ·exact⟨8,t7 (j:=2) rfl,by decide,by decide⟩
 ·exact⟨8,t7 (j:=3) rfl,by decide,by decide⟩
 ·exact⟨8,t7 (j:=4) rfl,by decide,by decide⟩
 ·exact⟨8,t7 (j:=5) rfl,by decide,by decide⟩
 ·exact⟨24,t7 (j:=6) rfl,by decide,by decide⟩
 ·exact⟨24,t7 (j:=7) rfl,by decide,by decide⟩
seal L2.PE L2.PA L2.PS L2.PSs L2.PT
section
variable {K:W.Frag} {mg:Str->Option Value} {base:Heap}
def aY7 (K:W.Frag)(PT:Addr):Sp:=fun vs H Q _=>∃ (a:Addr) (ns:List Int),vs=[.ref a]/\SqL K H a (ns.map V.int)/\ns.length<=63/\Tb PT H/\∀ H',Q (.bl true) H'
theorem aD8:t9 ["script","cell","tally","told","wall"] ["script"] (i6 aH5):=.mk'
set_option maxHeartbeats 4000000 in
theorem bO2 {fI fU fV fO fG fA fβ fω fW fF fL fY fX fN fν fτ fρ fK fδ fR fζ fC fE fD fH fM fφ fP fQ fS fJ fη fμ fκ fB CT CB CN kA c PT:Addr}{fdU fdV fdG fdβ fdω fdW fdF fdL fdY fdX fdN fdν fdτ fdρ fdK fdδ fdζ fdC fdE fdD fdH fdM fdφ fdP fdQ fdS fdJ fdη fdμ fdκ fdB:FuncData}{tk tF tA tR:Tok}(F:Fun K "law" "law" aH5 f fd)(B:Bn mg)
  (mo:mg "MOST_PLACES"=some (.int 24 tk))(mFg:mg "FIGURES"=some (.str "0123456789" tF))(mA':mg "MOST_FIGURES_ASKED"=some (.int 50 tA))(mRf:mg "REFUSED"=some (.str "refused" tR))(mK:mg "KINDS"=some (.ref kA))
  (FI:Fun K "is_place" "is_place" ax3 fI fdI)(bI:Binds K fdI ["places","number"] [])(mI:mg "is_place"=some (.ref fI))
  (FU:Fun K "turned_up" "turned_up" sUp fU fdU)(bU:Binds K fdU ["places","tie"] [])(mU:mg "turned_up"=some (.ref fU))
  (FV:Fun K "made" "made" am5 fV fdV)(bV:Binds K fdV ["places","ties"] [])(mV:mg "made"=some (.ref fV))
  (FT:Fun K "check_tally" "check_tally" ap6 fT fdT)(bT:Binds K fdT ["tally"] [])(mT:mg "check_tally"=some (.ref fT))
  (FO:Fun K "order_of" "order_of" ax1 fO fdO)(bO:Binds K fdO ["tally"] [])(mO:mg "order_of"=some (.ref fO))
  (FG:Fun K "falling" "falling" ai8 fG fdG)(bG:Binds K fdG ["tally"] [])(mG:mg "falling"=some (.ref fG))
  (FA:Fun K "room_among" "room_among" Y3 fA fdA)(bA:Binds K fdA ["numbers","most","r"] [])(mA:mg "room_among"=some (.ref fA))
  (Fβ:Fun K "places_below" "places_below" Y2 fβ fdβ)(bβ:Binds K fdβ ["numbers"] [])(mβ:mg "places_below"=some (.ref fβ))
  (Fω:Fun K "wall_with" "wall_with" aa8 fω fdω)(bω:Binds K fdω ["tally","most"] [])(mω:mg "wall_with"=some (.ref fω))
  (FW:Fun K "wall_of" "wall_of" as1 fW fdW)(bW:Binds K fdW ["tally"] [])(mW:mg "wall_of"=some (.ref fW))
  (FF:Fun K "first_of_order" "first_of_order" aa9 fF fdF)(bF:Binds K fdF ["tally","many","passed_over"] [])(mF:mg "first_of_order"=some (.ref fF))
  (FL:Fun K "left_of_others" "left_of_others" am6 fL fdL)(bL:Binds K fdL ["tally","place","ends"] [])(mL:mg "left_of_others"=some (.ref fL))
  (FY:Fun K "laid_around" "laid_around" as5 fY fdY)(bY:Binds K fdY ["tally","place","ends"] [])(mY:mg "laid_around"=some (.ref fY))
  (FX:Fun K "answered" "answered" aM8 fX fdX)(bX:Binds K fdX ["tally"] [])(mX:mg "answered"=some (.ref fX))
  (FN:Fun K "is_number" "is_number" aM6 fN fdN)(bN:Binds K fdN ["word","most"] [])(mN:mg "is_number"=some (.ref fN))
  (Fν:Fun K "number_within" "number_within" sNW fν fdν)(bν:Binds K fdν ["word","most"] [])(mν:mg "number_within"=some (.ref fν))
  (Fτ:Fun K "web_text" "web_text" as0 fτ fdτ)(bτ:Binds K fdτ ["web"] [])(mτ:mg "web_text"=some (.ref fτ))
  (Fρ:Fun K "row_text" "row_text" as4 fρ fdρ)(bρ:Binds K fdρ ["parts"] [])(mρ:mg "row_text"=some (.ref fρ))
  (FK:Fun K "asked" "asked" ae4 fK fdK)(bK:Binds K fdK ["question"] [])(mKq:mg "asked"=some (.ref fK))
  (Fδ:Fun K "web_row" "web_row" as2 fδ fdδ)(bδ:Binds K fdδ ["told"] [])(mδ:mg "web_row"=some (.ref fδ))
  (FR:Fun K "rows_for" "rows_for" ae2 fR fdR)(bR:Binds K fdR ["kind","pair","tally"] [])(mR:mg "rows_for"=some (.ref fR))
  (Fζ:Fun K "answer" "answer" ab1 fζ fdζ)(bζ:Binds K fdζ ["question"] [])(mζ:mg "answer"=some (.ref fζ))
  (FC:Fun K "_law_cell_at" "_law_cell_at" ax4 fC fdC)(bC:Binds K fdC ["script","k"] [])(mC:mg "_law_cell_at"=some (.ref fC))
  (FE:Fun K "_law_row" "_law_row" aC7 fE fdE)(bE:Binds K fdE ["cell","many","size"] [])(mE:mg "_law_row"=some (.ref fE))
  (FD:Fun K "_law_ties" "_law_ties" as3 fD fdD)(bD:Binds K fdD ["cell","places"] [])(mD:mg "_law_ties"=some (.ref fD))
  (FH:Fun K "_law_counts" "_law_counts" U5 fH fdH)(bH:Binds K fdH ["places","ties"] [])(mH:mg "_law_counts"=some (.ref fH))
  (FM:Fun K "_law_tally" "_law_tally" aM3 fM fdM)(bM:Binds K fdM ["cell","most"] [])(mM:mg "_law_tally"=some (.ref fM))
  (Fφ:Fun K "_law_figures" "_law_figures" aM7 fφ fdφ)(bφ:Binds K fdφ ["word","most"] [])(mφ:mg "_law_figures"=some (.ref fφ))
  (FP:Fun K "_law_tie" "_law_tie" aM4 fP fdP)(bP:Binds K fdP ["word"] [])(mP:mg "_law_tie"=some (.ref fP))
  (FQ:Fun K "_law_web_of" "_law_web_of" ae1 fQ fdQ)(bQ:Binds K fdQ ["row","places"] [])(mQ:mg "_law_web_of"=some (.ref fQ))
  (FS:Fun K "_law_order" "_law_order" am7 fS fdS)(bS:Binds K fdS ["tally"] [])(mS:mg "_law_order"=some (.ref fS))
  (FJ:Fun K "_law_room" "_law_room" ae3 fJ fdJ)(bJ:Binds K fdJ ["tally","r"] [])(mJ:mg "_law_room"=some (.ref fJ))
  (Fη:Fun K "_law_fence" "_law_fence" ak7 fη fdη)(bη:Binds K fdη ["tally"] [])(mη:mg "_law_fence"=some (.ref fη))
  (Fμ:Fun K "_law_numbers" "_law_numbers" ax2 fμ fdμ)(bμ:Binds K fdμ ["word","numbers"] [])(mμ:mg "_law_numbers"=some (.ref fμ))
  (Fκ:Fun K "_law_counted" "_law_counted" ab0 fκ fdκ)(bκ:Binds K fdκ ["row","places"] [])(mκ:mg "_law_counted"=some (.ref fκ))
  (FB:Fun K "_law_asked" "_law_asked" ax5 fB fdB)(bB:Binds K fdB ["cell","most"] [])(mB:mg "_law_asked"=some (.ref fB))
  (hK:KdT K kA)(mCT:mg "TallyError"=some (.ref CT))(mCB:mg "BadTally"=some (.ref CB))(cCB:ar4 K CB)(mCN:mg "NoText"=some (.ref CN))(cCN:ar4 K CN)(hc:fdO.code=.ref c)(LB:au4 base mg c PT):x5 P w K mg base CX0 8 f fd ["script"] (aY7 K PT):=by
 have GX:x5 P w K mg base (CXE P w) 5 fX fdX ["tally"] (bl8 K CB PT):=bO7 FX B FI bI mI FU bU mU FV bV mV FO bO mO hc LB FT bT mT FF bF mF FL bL mL FY bY mY FW bW mW FG bG mG FA bA mA Fβ bβ mβ Fω bω mω mo mCB cCB
 have Gν:x5 P w K mg base (CXE P w) 2 fν fdν ["word","most"] (bL7 CN):=bY8 Fν B FN bN mN mFg mCN cCN
 have GK:x5 P w K mg base (CXE P w) 3 fK fdK ["question"] aT9:=bB3 FK B Fν bν mν Gν mA' mK hK mCN cCN
 have Gδ:x5 P w K mg base CX0 2 fδ fdδ ["told"] (bL4 K):=bY2 Fδ Fτ bτ mτ (bY1 Fτ B) Fρ bρ mρ (bY6 Fρ B)
 have GR:x5 P w K mg base (CXE P w) 6 fR fdR ["kind","pair","tally"] (bL6 K PT):=bY7 (by decide) FR FX bX mX GX Fδ bδ mδ Gδ
 have Gζ:x5 P w K mg base CX0 7 fζ fdζ ["question"] (bG7 PT):=bO6 Fζ FK bK mKq (GK.mono (by decide)) FR bR mR GR mRf mCT
 have GP:x5 P w K mg base CX0 2 fP fdP ["word"] aT8:=bA7 FP B Fφ bφ mφ
 have GQ:x5 P w K mg base CX0 3 fQ fdQ ["row","places"] (bL3 K):=bY3 FQ B FP bP mP GP
 have Gκ:x5 P w K mg base CX0 7 fκ fdκ ["row","places"] bW0:=(bZ0 Fκ FQ bQ mQ GQ FH bH mH).mono (by decide)
 have Gη:x5 P w K mg base CX0 7 fη fdη ["tally"] (bV9 K):=(bY9 Fη B FJ bJ mJ FS bS mS).mono (by decide)
 have GM:x5 P w K mg base CX0 3 fM fdM ["cell","most"] (bL5 K):=bY5 FM B FE bE mE FD bD mD FH bH mH
 have GB:x5 P w K mg base CX0 7 fB fdB ["cell","most"] (bW1 K):=(bZ1 FB B FM bM mM GM).mono (by decide)
 have Gμ:x5 P w K mg base CX0 7 fμ fdμ ["word","numbers"] (bl0 K):=(bA5 Fμ B).mono (by decide)
 have GC:x5 P w K mg base CX0 7 fC fdC ["script","k"] (bl7 K):=(bB2 FC B).mono (by decide)
 clear GX Gν GK Gδ GR GP GQ GM
 refine F.ok aD8 (fun cdv A outer s H vs Q E hr h=>?_)
 obtain⟨sc,ns,rfl,hS,hlen,tb,q⟩:=h
 have hsl:f6=16777216:=r9
 have hun:=hr.units
 refine⟨_,d7 (V5 PassesOwn.never rfl (O8 (n8 aV0 (Q7 (a6 (u9 GC hr (by rfl) mC FC.kp bC .nil F2 (a6 (pv 0) (a6 c9 c7))) c7)) (L4 Q4 (pv 0) (N9 c9) (N9 c9)))) (A2 (i:=1) aD8.nd rfl (Or.inl rfl))
   (d7 (u7 (i:=1) aD8.nd rfl (Or.inl rfl) (n8 C9 (pv 1) (n8 af1 c9 c9)))
   (d7 (u7 (i:=2) aD8.nd rfl (Or.inl rfl) (u9 GB hr (by rfl) mB FB.kp bB .nil F2 (a6 (n8 K9 (pv 1) c9) (a6 (C6 D0 (Q7 (a6 c9 (a6 c9 (a6 c9 (a6 c9 (a6 c9 (a6 c9 (a6 c9 (a6 c9 c7))))))))) (n8 C9 (pv 1) c9) (fun _ _=>rfl)) c7))))
   (d7 (u7 (i:=3) aD8.nd rfl (Or.inl rfl) (u9 Gζ hr (by rfl) mζ Fζ.kp bζ .nil F2 (a6 (u9 Gμ hr (by rfl) mμ Fμ.kp bμ .nil F2 (a6 D8 (a6 (pv 2) c7))) c7)))
   (d7 (u7 (i:=4) aD8.nd rfl (Or.inl rfl) (u9 Gη hr (by rfl) mη Fη.kp bη .nil F2 (a6 (pv 2) c7)))
   (d7 (E5 (PW.pt (as6 (T6 (aq0 (p7 (aJ6 K rfl) (by rfl) B.isin (by rfl) (a6 (pv 3) (a6 (bz6 (v:=.ty "str") (by rfl) B.str (by rfl) rfl) c7))))) (ae6 (PW.pt (ax8 (p6 ba1 (pv 4) Q6 (A1 _)) (am9 (p6 aE2 (pv 3) (pv 4) (A1 _)))))))) M4 A6)
   (j7 (E5 (PW.pt (ax8 (p6 bo1 (pv 4) Q6 (A1 _)) (am9 (p6 bo0 (u9 Gκ hr (by rfl) mκ Fκ.kp bκ .nil F2 (a6 (pv 3) (a6 (p7 v9 (by rfl) B.len PySem.boot_len (a6 (pv 2) c7)) c7))) (pv 2) (A1 _))))) M4 A6))))))))
  (j7 (u4 bn8)),?_⟩
 refine⟨_,rfl,sc,ns,0,rfl,hS,fun c0=>?_⟩
 refine⟨(by show 1<=f6;decide),fun l0 f0=>?_⟩
 have sl0:=d6 (o:=.lst [.int c0]) f0
 obtain⟨ms,hms,hml⟩:=bh2 ns (some 1) (some 13)
 refine⟨_,rfl,_,rfl,_,rfl,sc,ns.map V.int,rfl,sl0.seq hS,fun l1 f1=>?_⟩
 rw[hms]
 have sl1:=d6 (o:=.lst (ms.map V.int)) f1
 refine⟨l0,l1,_,_,rfl,rfl,sl1 _ _ a9,a9,by rw[a5];show 1+ms.length<=f6;omega,fun lc fc=>⟨lc,rfl,⟨_,SqL.of a9⟩,?_⟩⟩
 have slc:=d6 (o:=.lst ([.int c0]++ms.map V.int)) fc
 have tbB:=tb.same ((sl0.trans sl1).trans slc)
 have glc:(upd (upd (upd H l0 (.lst [.int c0])) l1 (.lst (ms.map V.int))) lc (.lst ([.int c0]++ms.map V.int))) lc=some (.lst (([c0]++ms:List Int).map V.int)):=by rw[a9,c8];rfl
 clear sl0 sl1 slc
 generalize upd (upd (upd H l0 (.lst [.int c0])) l1 (.lst (ms.map V.int))) lc (.lst ([.int c0]++ms.map V.int))=HB at glc tbB
 refine br3 (K:=K) (a:=lc) (xs:=([c0]++ms:List Int).map V.int) (fun _ σ H2=>∃ e1 e2 e3 e4,σ=[some (.ref sc),e1,e2,e3,e4]/\O4 PT HB H2/\Tb PT H2) ⟨_,_,_,_,rfl,O4.refl PT HB,tbB⟩ (fun i σ H2 _ ⟨_,_,_,_,_,g,_⟩=>SqL.of (af7 g tbB glc)) ?_ ?_
 ·rintro i x σ Ha hx ⟨e1,e2,e3,e4,rfl,ga,tba⟩
  obtain⟨z,rfl⟩:=int_at hx
  refine⟨_,rfl,_,_,rfl,rfl,⟨by decide,by decide,by decide⟩,_,_,rfl,rfl,p60,?_⟩
  refine C7 fun c _=>?_
  obtain⟨m,hm,m1,m2⟩:=bB7 (c % 8) ⟨J0 _ (by decide),D7 _ (by decide)⟩
  refine⟨_,rfl,_,_,rfl,rfl,⟨by decide,by decide⟩,(by show 8<=f6;decide),fun l3 f3=>?_⟩
  have s3:=d6 (o:=.lst [.int 8,.int 8,.int 8,.int 8,.int 8,.int 8,.int 24,.int 24]) f3
  refine⟨_,rfl,_,_,rfl,rfl,(by show (0:Int)<8;decide),l3,_,_,_,rfl,rfl,SqL.of a9,hm,?_⟩
  refine⟨_,m,rfl,m1,m2,fun l ns' H4 s4 g4 n1 n2 hN=>?_⟩
  have s34:=s3.trans s4
  clear s3 s4
  have ht:af6 ns':=⟨n1,n2⟩
  refine⟨_,rfl,"web",l,ns',rfl,(by decide +kernel),SqL.of g4,hN,n2,fun H5 s5=>?_⟩
  have s35:=s34.trans s5
  have g5:=s5 _ _ g4
  have tb5:=tba.same s35
  refine⟨ns',rfl,hN,ht,tb5,fun y H6 g6 tb6 hy=>?_⟩
  have g6l:=af7 g6 tb5 g5
  have gB6:=(ga.trans (s35.grow PT)).trans g6
  refine⟨_,rfl,l,ns',rfl,SqL.of g6l,n2,fun x hX hF H7 s7=>?_,fun hX H7 s7=>?_⟩
  ·rcases hy with⟨x',hF',hX',rfl⟩ | ⟨hG,_⟩
   ·have e:=aG6 hX' hX
    subst e
    refine⟨_,rfl,_,_,_,true,rfl,.str _,rfl,_,rfl,F0 ?_⟩
    refine⟨_,rfl,rfl,_,rfl,F8 ?_⟩
    refine⟨_,rfl,_,rfl,rfl,_,rfl,bq4 rfl ?_⟩
    refine⟨_,rfl,rfl,_,rfl,F0 (F0 ?_)⟩
    exact⟨_,_,_,_,rfl,gB6.trans (s7.grow PT),tb6.same s7⟩
   ·exact absurd (aG6 hX (bD2 hG)) hF
  ·rcases hy with⟨x',hF',hX',rfl⟩ | ⟨hG,ks,hT,hk,rfl⟩
   ·exact absurd (aG6 hX' hX) hF'
   ·have hrow:=bm4 (bl9 n2 hT.ups) (by have:=aG7 n2 hT.nd hT.ups;omega)
    refine⟨_,rfl,_,_,_,true,rfl,.str _,rfl,_,rfl,F0 ?_⟩
    refine⟨_,rfl,rfl,_,rfl,F0 (F0 ?_)⟩
    refine⟨_,rfl,rfl,_,rfl,F8 ?_⟩
    have g7:=s7 _ _ g6l
    refine⟨_,rfl,_,rfl,l,_,rfl,.inl (SqL.of g7),_,(ns'.map V.int).length,ks,rfl,by omega,hrow.2,by rw[a5];exact by6 n1 n2 hT,fun lr H8 s8 g8=>?_⟩
    rw[a5,hk]at g8
    refine⟨_,rfl,bC7 hun (SqL.of g8) (SqL.of (s8 _ _ g7)) ⟨_,rfl,F0 ?_⟩⟩
    exact⟨_,_,_,_,rfl,gB6.trans ((s7.trans s8).grow PT),tb6.same (s7.trans s8)⟩
 ·rintro σ Ha ⟨e1,e2,e3,e4,rfl,ga,tba⟩
  exact q _
end
end Web
namespace Web
open PySem L2
def aw6 (K:W.Frag):List (Addr × Addr):=match PySem.W.tabIn K "order_of" with
 | some q=>[q]
 | none=>[]
def aU7 (K:W.Frag):Addr:=((PySem.W.tabIn K "order_of").getD (0,0)).2
theorem ls1 {p:List Value->Prop}(h:∀ x0,p [x0]):∀ us,us.length=1->p us
 | [x0],_=>h x0
theorem ls2 {p:List Value->Prop}(h:∀ x0 x1,p [x0,x1]):∀ us,us.length=2->p us
 | [x0,x1],_=>h x0 x1
theorem ls3 {p:List Value->Prop}(h:∀ x0 x1 x2,p [x0,x1,x2]):∀ us,us.length=3->p us
 | [x0,x1,x2],_=>h x0 x1 x2
set_option maxHeartbeats 0 in
theorem all_mk {l:PySem.W.OpenLaw}{K:W.Frag}{mg:Str->Option Value}{fa fI fU fV fO fG fA fβ fω fW fF fL fY fX fN fν fτ fρ fK fδ fR fζ fC fE fD fH fM fφ fP fQ fS fJ fη fμ fκ fB fZ CTallyError CBadTally CNoText:Addr}{tk:Tok}{tF:Tok}{tA tR:Tok}{kdA:Addr}{kod:Option Addr}{kn:Nat}{ksl:Array (Option Value)}{kt1 kt2 kt3 kt4:Tok}(X:K.In h)(G:h.Ns d5 mg)(hfa:mg "law"=some (.ref fa))
  {odI anI odU anU odV anV odT anT odO anO odG anG odA anA odβ anβ odω anω odW anW odF anF odL anL odY anY odX anX odN anN odν anν odτ anτ odρ anρ odK anK odδ anδ odR anR odζ anζ odC anC odE anE odD anD odH anH odM anM odφ anφ odP anP odQ anQ odS anS odJ anJ odη anη odμ anμ odκ anκ odB anB odZ anZ:Option Addr}{slI slU slV slT slO slG slA slβ slω slW slF slL slY slX slN slν slτ slρ slK slδ slR slζ slC slE slD slH slM slφ slP slQ slS slJ slη slμ slκ slB slZ:Array (Option Value)}
  {ocI kVI dcI pmI cdI ctI ocU kVU dcU pmU cdU ctU ocV kVV dcV pmV cdV ctV ocT kVT dcT pmT cdT ctT ocO kVO dcO pmO cdO ctO ocG kVG dcG pmG cdG ctG ocA kVA dcA pmA cdA ctA ocβ kVβ dcβ pmβ cdβ ctβ ocω kVω dcω pmω cdω ctω ocW kVW dcW pmW cdW ctW ocF kVF dcF pmF cdF ctF ocL kVL dcL pmL cdL ctL ocY kVY dcY pmY cdY ctY ocX kVX dcX pmX cdX ctX ocN kVN dcN pmN cdN ctN ocν kVν dcν pmν cdν ctν ocτ kVτ dcτ pmτ cdτ ctτ ocρ kVρ dcρ pmρ cdρ ctρ ocK kVK dcK pmK cdK ctK ocδ kVδ dcδ pmδ cdδ ctδ ocR kVR dcR pmR cdR ctR ocζ kVζ dcζ pmζ cdζ ctζ ocC kVC dcC pmC cdC ctC ocE kVE dcE pmE cdE ctE ocD kVD dcD pmD cdD ctD ocH kVH dcH pmH cdH ctH ocM kVM dcM pmM cdM ctM ocφ kVφ dcφ pmφ cdφ ctφ ocP kVP dcP pmP cdP ctP ocQ kVQ dcQ pmQ cdQ ctQ ocS kVS dcS pmS cdS ctS ocJ kVJ dcJ pmJ cdJ ctJ ocη kVη dcη pmη cdη ctη ocμ kVμ dcμ pmμ cdμ ctμ ocκ kVκ dcκ pmκ cdκ ctκ ocB kVB dcB pmB cdB ctB ocZ kVZ dcZ pmZ cdZ ctZ:Value}
  (aI:d8 K d5 "is_place"=some (some (.ref fI)))(lI:K.lookup fI=some ⟨ocI,odI,.func (k9 "is_place" "is_place" (v7 ax3) (q0 ax3) (i6 ax3) .none kVI dcI pmI anI cdI ctI),slI⟩)(cI:j6 K cdI "is_place"=true)(kI:j0 K (.ref fI)=true)
  (aU:d8 K d5 "turned_up"=some (some (.ref fU)))(lU:K.lookup fU=some ⟨ocU,odU,.func (k9 "turned_up" "turned_up" (v7 sUp) (q0 sUp) (i6 sUp) .none kVU dcU pmU anU cdU ctU),slU⟩)(cU:j6 K cdU "turned_up"=true)(kU:j0 K (.ref fU)=true)
  (aV:d8 K d5 "made"=some (some (.ref fV)))(lV:K.lookup fV=some ⟨ocV,odV,.func (k9 "made" "made" (v7 am5) (q0 am5) (i6 am5) .none kVV dcV pmV anV cdV ctV),slV⟩)(cV:j6 K cdV "made"=true)(kV:j0 K (.ref fV)=true)
  (aT:d8 K d5 "check_tally"=some (some (.ref fT)))(lT:K.lookup fT=some ⟨ocT,odT,.func (k9 "check_tally" "check_tally" (v7 ap6) (q0 ap6) (i6 ap6) .none kVT dcT pmT anT cdT ctT),slT⟩)(cT:j6 K cdT "check_tally"=true)(kT:j0 K (.ref fT)=true)
  (aO:d8 K d5 "order_of"=some (some (.ref fO)))(lO:K.lookup fO=some ⟨ocO,odO,.func (k9 "order_of" "order_of" (v7 ax1) (q0 ax1) (i6 ax1) .none kVO dcO pmO anO cdO ctO),slO⟩)(cO:j6 K cdO "order_of"=true)(kO:j0 K (.ref fO)=true)
  (aG:d8 K d5 "falling"=some (some (.ref fG)))(lG:K.lookup fG=some ⟨ocG,odG,.func (k9 "falling" "falling" (v7 ai8) (q0 ai8) (i6 ai8) .none kVG dcG pmG anG cdG ctG),slG⟩)(cG:j6 K cdG "falling"=true)(kG:j0 K (.ref fG)=true)
  (aA:d8 K d5 "room_among"=some (some (.ref fA)))(lA:K.lookup fA=some ⟨ocA,odA,.func (k9 "room_among" "room_among" (v7 Y3) (q0 Y3) (i6 Y3) .none kVA dcA pmA anA cdA ctA),slA⟩)(cA:j6 K cdA "room_among"=true)(kA:j0 K (.ref fA)=true)
  (aβ:d8 K d5 "places_below"=some (some (.ref fβ)))(lβ:K.lookup fβ=some ⟨ocβ,odβ,.func (k9 "places_below" "places_below" (v7 Y2) (q0 Y2) (i6 Y2) .none kVβ dcβ pmβ anβ cdβ ctβ),slβ⟩)(cβ:j6 K cdβ "places_below"=true)(kβ:j0 K (.ref fβ)=true)
  (aω:d8 K d5 "wall_with"=some (some (.ref fω)))(lω:K.lookup fω=some ⟨ocω,odω,.func (k9 "wall_with" "wall_with" (v7 aa8) (q0 aa8) (i6 aa8) .none kVω dcω pmω anω cdω ctω),slω⟩)(cω:j6 K cdω "wall_with"=true)(kω:j0 K (.ref fω)=true)
  (aW:d8 K d5 "wall_of"=some (some (.ref fW)))(lW:K.lookup fW=some ⟨ocW,odW,.func (k9 "wall_of" "wall_of" (v7 as1) (q0 as1) (i6 as1) .none kVW dcW pmW anW cdW ctW),slW⟩)(cW:j6 K cdW "wall_of"=true)(kW:j0 K (.ref fW)=true)
  (aF:d8 K d5 "first_of_order"=some (some (.ref fF)))(lF:K.lookup fF=some ⟨ocF,odF,.func (k9 "first_of_order" "first_of_order" (v7 aa9) (q0 aa9) (i6 aa9) .none kVF dcF pmF anF cdF ctF),slF⟩)(cF:j6 K cdF "first_of_order"=true)(kF:j0 K (.ref fF)=true)
  (aL:d8 K d5 "left_of_others"=some (some (.ref fL)))(lL:K.lookup fL=some ⟨ocL,odL,.func (k9 "left_of_others" "left_of_others" (v7 am6) (q0 am6) (i6 am6) .none kVL dcL pmL anL cdL ctL),slL⟩)(cL:j6 K cdL "left_of_others"=true)(kL:j0 K (.ref fL)=true)
  (aY:d8 K d5 "laid_around"=some (some (.ref fY)))(lY:K.lookup fY=some ⟨ocY,odY,.func (k9 "laid_around" "laid_around" (v7 as5) (q0 as5) (i6 as5) .none kVY dcY pmY anY cdY ctY),slY⟩)(cY:j6 K cdY "laid_around"=true)(kY:j0 K (.ref fY)=true)
  (aX:d8 K d5 "answered"=some (some (.ref fX)))(lX:K.lookup fX=some ⟨ocX,odX,.func (k9 "answered" "answered" (v7 aM8) (q0 aM8) (i6 aM8) .none kVX dcX pmX anX cdX ctX),slX⟩)(cX:j6 K cdX "answered"=true)(kX:j0 K (.ref fX)=true)
  (aN:d8 K d5 "is_number"=some (some (.ref fN)))(lN:K.lookup fN=some ⟨ocN,odN,.func (k9 "is_number" "is_number" (v7 aM6) (q0 aM6) (i6 aM6) .none kVN dcN pmN anN cdN ctN),slN⟩)(cN:j6 K cdN "is_number"=true)(kN:j0 K (.ref fN)=true)
  (aν:d8 K d5 "number_within"=some (some (.ref fν)))(lν:K.lookup fν=some ⟨ocν,odν,.func (k9 "number_within" "number_within" (v7 sNW) (q0 sNW) (i6 sNW) .none kVν dcν pmν anν cdν ctν),slν⟩)(cν:j6 K cdν "number_within"=true)(kν:j0 K (.ref fν)=true)
  (aτ:d8 K d5 "web_text"=some (some (.ref fτ)))(lτ:K.lookup fτ=some ⟨ocτ,odτ,.func (k9 "web_text" "web_text" (v7 as0) (q0 as0) (i6 as0) .none kVτ dcτ pmτ anτ cdτ ctτ),slτ⟩)(cτ:j6 K cdτ "web_text"=true)(kτ:j0 K (.ref fτ)=true)
  (aρ:d8 K d5 "row_text"=some (some (.ref fρ)))(lρ:K.lookup fρ=some ⟨ocρ,odρ,.func (k9 "row_text" "row_text" (v7 as4) (q0 as4) (i6 as4) .none kVρ dcρ pmρ anρ cdρ ctρ),slρ⟩)(cρ:j6 K cdρ "row_text"=true)(kρ:j0 K (.ref fρ)=true)
  (aK:d8 K d5 "asked"=some (some (.ref fK)))(lK:K.lookup fK=some ⟨ocK,odK,.func (k9 "asked" "asked" (v7 ae4) (q0 ae4) (i6 ae4) .none kVK dcK pmK anK cdK ctK),slK⟩)(cK:j6 K cdK "asked"=true)(kK:j0 K (.ref fK)=true)
  (aδ:d8 K d5 "web_row"=some (some (.ref fδ)))(lδ:K.lookup fδ=some ⟨ocδ,odδ,.func (k9 "web_row" "web_row" (v7 as2) (q0 as2) (i6 as2) .none kVδ dcδ pmδ anδ cdδ ctδ),slδ⟩)(cδ:j6 K cdδ "web_row"=true)(kδ:j0 K (.ref fδ)=true)
  (aR:d8 K d5 "rows_for"=some (some (.ref fR)))(lR:K.lookup fR=some ⟨ocR,odR,.func (k9 "rows_for" "rows_for" (v7 ae2) (q0 ae2) (i6 ae2) .none kVR dcR pmR anR cdR ctR),slR⟩)(cR:j6 K cdR "rows_for"=true)(kR:j0 K (.ref fR)=true)
  (aζ:d8 K d5 "answer"=some (some (.ref fζ)))(lζ:K.lookup fζ=some ⟨ocζ,odζ,.func (k9 "answer" "answer" (v7 ab1) (q0 ab1) (i6 ab1) .none kVζ dcζ pmζ anζ cdζ ctζ),slζ⟩)(cζ:j6 K cdζ "answer"=true)(kζ:j0 K (.ref fζ)=true)
  (aC:d8 K d5 "_law_cell_at"=some (some (.ref fC)))(lC:K.lookup fC=some ⟨ocC,odC,.func (k9 "_law_cell_at" "_law_cell_at" (v7 ax4) (q0 ax4) (i6 ax4) .none kVC dcC pmC anC cdC ctC),slC⟩)(cC:j6 K cdC "_law_cell_at"=true)(kC:j0 K (.ref fC)=true)
  (aE:d8 K d5 "_law_row"=some (some (.ref fE)))(lE:K.lookup fE=some ⟨ocE,odE,.func (k9 "_law_row" "_law_row" (v7 aC7) (q0 aC7) (i6 aC7) .none kVE dcE pmE anE cdE ctE),slE⟩)(cE:j6 K cdE "_law_row"=true)(kE:j0 K (.ref fE)=true)
  (aD:d8 K d5 "_law_ties"=some (some (.ref fD)))(lD:K.lookup fD=some ⟨ocD,odD,.func (k9 "_law_ties" "_law_ties" (v7 as3) (q0 as3) (i6 as3) .none kVD dcD pmD anD cdD ctD),slD⟩)(cD:j6 K cdD "_law_ties"=true)(kD:j0 K (.ref fD)=true)
  (aH:d8 K d5 "_law_counts"=some (some (.ref fH)))(lH:K.lookup fH=some ⟨ocH,odH,.func (k9 "_law_counts" "_law_counts" (v7 U5) (q0 U5) (i6 U5) .none kVH dcH pmH anH cdH ctH),slH⟩)(cH:j6 K cdH "_law_counts"=true)(kH:j0 K (.ref fH)=true)
  (aM:d8 K d5 "_law_tally"=some (some (.ref fM)))(lM:K.lookup fM=some ⟨ocM,odM,.func (k9 "_law_tally" "_law_tally" (v7 aM3) (q0 aM3) (i6 aM3) .none kVM dcM pmM anM cdM ctM),slM⟩)(cM:j6 K cdM "_law_tally"=true)(kM:j0 K (.ref fM)=true)
  (aφ:d8 K d5 "_law_figures"=some (some (.ref fφ)))(lφ:K.lookup fφ=some ⟨ocφ,odφ,.func (k9 "_law_figures" "_law_figures" (v7 aM7) (q0 aM7) (i6 aM7) .none kVφ dcφ pmφ anφ cdφ ctφ),slφ⟩)(cφ:j6 K cdφ "_law_figures"=true)(kφ:j0 K (.ref fφ)=true)
  (aP:d8 K d5 "_law_tie"=some (some (.ref fP)))(lP:K.lookup fP=some ⟨ocP,odP,.func (k9 "_law_tie" "_law_tie" (v7 aM4) (q0 aM4) (i6 aM4) .none kVP dcP pmP anP cdP ctP),slP⟩)(cP:j6 K cdP "_law_tie"=true)(kP:j0 K (.ref fP)=true)
  (aQ:d8 K d5 "_law_web_of"=some (some (.ref fQ)))(lQ:K.lookup fQ=some ⟨ocQ,odQ,.func (k9 "_law_web_of" "_law_web_of" (v7 ae1) (q0 ae1) (i6 ae1) .none kVQ dcQ pmQ anQ cdQ ctQ),slQ⟩)(cQ:j6 K cdQ "_law_web_of"=true)(kQ:j0 K (.ref fQ)=true)
  (aS:d8 K d5 "_law_order"=some (some (.ref fS)))(lS:K.lookup fS=some ⟨ocS,odS,.func (k9 "_law_order" "_law_order" (v7 am7) (q0 am7) (i6 am7) .none kVS dcS pmS anS cdS ctS),slS⟩)(cS:j6 K cdS "_law_order"=true)(kS:j0 K (.ref fS)=true)
  (aJ:d8 K d5 "_law_room"=some (some (.ref fJ)))(lJ:K.lookup fJ=some ⟨ocJ,odJ,.func (k9 "_law_room" "_law_room" (v7 ae3) (q0 ae3) (i6 ae3) .none kVJ dcJ pmJ anJ cdJ ctJ),slJ⟩)(cJ:j6 K cdJ "_law_room"=true)(kJ:j0 K (.ref fJ)=true)
  (aη:d8 K d5 "_law_fence"=some (some (.ref fη)))(lη:K.lookup fη=some ⟨ocη,odη,.func (k9 "_law_fence" "_law_fence" (v7 ak7) (q0 ak7) (i6 ak7) .none kVη dcη pmη anη cdη ctη),slη⟩)(cη:j6 K cdη "_law_fence"=true)(kη:j0 K (.ref fη)=true)
  (aμ:d8 K d5 "_law_numbers"=some (some (.ref fμ)))(lμ:K.lookup fμ=some ⟨ocμ,odμ,.func (k9 "_law_numbers" "_law_numbers" (v7 ax2) (q0 ax2) (i6 ax2) .none kVμ dcμ pmμ anμ cdμ ctμ),slμ⟩)(cμ:j6 K cdμ "_law_numbers"=true)(kμ:j0 K (.ref fμ)=true)
  (aκ:d8 K d5 "_law_counted"=some (some (.ref fκ)))(lκ:K.lookup fκ=some ⟨ocκ,odκ,.func (k9 "_law_counted" "_law_counted" (v7 ab0) (q0 ab0) (i6 ab0) .none kVκ dcκ pmκ anκ cdκ ctκ),slκ⟩)(cκ:j6 K cdκ "_law_counted"=true)(kκ:j0 K (.ref fκ)=true)
  (aB:d8 K d5 "_law_asked"=some (some (.ref fB)))(lB:K.lookup fB=some ⟨ocB,odB,.func (k9 "_law_asked" "_law_asked" (v7 ax5) (q0 ax5) (i6 ax5) .none kVB dcB pmB anB cdB ctB),slB⟩)(cB:j6 K cdB "_law_asked"=true)(kB:j0 K (.ref fB)=true)
  (aZ:d8 K d5 "law"=some (some (.ref fZ)))(lZ:K.lookup fZ=some ⟨ocZ,odZ,.func (k9 "law" "law" (v7 aH5) (q0 aH5) (i6 aH5) .none kVZ dcZ pmZ anZ cdZ ctZ),slZ⟩)(cZ:j6 K cdZ "law"=true)(kZ:j0 K (.ref fZ)=true)
  (mo:d8 K d5 "MOST_PLACES"=some (some (.int 24 tk)))
  (fg:d8 K d5 "FIGURES"=some (some (.str "0123456789" tF)))
  (ma:d8 K d5 "MOST_FIGURES_ASKED"=some (some (.int 50 tA)))
  (rf:d8 K d5 "REFUSED"=some (some (.str "refused" tR)))
  (kd:d8 K d5 "KINDS"=some (some (.ref kdA)))(kl:K.lookup kdA=some ⟨.type "tuple",kod,.seq #[.str "web" kt1,.str "pair" kt2,.str "pieces" kt3,.str "off" kt4] kn,ksl⟩)
  (aTallyError:d8 K d5 "TallyError"=some (some (.ref CTallyError)))
  (aBadTally:d8 K d5 "BadTally"=some (some (.ref CBadTally)))
  (aNoText:d8 K d5 "NoText"=some (some (.ref CNoText)))
  (qBadTally:PySem.W.excIn K CBadTally [.type "ValueError",.type "Exception",.type "BaseException",.type "object"] "ValueError.__new__"=true)
  (xmBadTally:PySem.W.exmOne K (.ref CBadTally) (.ref CBadTally)=some true)
  (qNoText:PySem.W.excIn K CNoText [.type "ValueError",.type "Exception",.type "BaseException",.type "object"] "ValueError.__new__"=true)
  (xmNoText:PySem.W.exmOne K (.ref CNoText) (.ref CNoText)=some true)
  (tb:(PySem.W.tabIn K "order_of").isSome=true)
  (z1:d8 K d5 "len"=some none)
  (z2:d8 K d5 "range"=some none)
  (z3:d8 K d5 "enumerate"=some none)
  (z4:d8 K d5 "list"=some none)
  (z5:d8 K d5 "tuple"=some none)
  (z6:d8 K d5 "sorted"=some none)
  (z7:d8 K d5 "set"=some none)
  (z8:d8 K d5 "isinstance"=some none)
  (z9:d8 K d5 "int"=some none)
  (z10:d8 K d5 "bool"=some none)
  (z11:d8 K d5 "min"=some none)
  (z12:d8 K d5 "max"=some none)
  (z13:d8 K d5 "sum"=some none)
  (z14:d8 K d5 "str"=some none)
  (z15:d8 K d5 "ValueError"=some none)
  (z16:d8 K d5 "reversed"=some none)
  (z17:d8 K d5 "all"=some none) :
  ∃ fd:FuncData,(∀ (s:Shared) (v:Value),bd0 s fd ⟨[v],[]⟩ [("script",v)])/\∀ base:Heap,K.In base->base.Ns d5 mg->(∀ q∈aw6 K,au4 base mg q.1 q.2)->x5 l.prog w K mg base CX0 8 fa fd ["script"] (aY7 K (aU7 K)):=by
 have e:=hfa.symm.trans (j4 X G aZ)
 cases e
 have B:Bn mg:=⟨p8 X G z1,p8 X G z2,p8 X G z3,p8 X G z4,p8 X G z5,p8 X G z6,p8 X G z7,p8 X G z8,p8 X G z9,p8 X G z10,p8 X G z11,p8 X G z12,p8 X G z13,p8 X G z14,p8 X G z15,p8 X G z16,p8 X G z17⟩
 have FI:=B1 (st:=ax3) lI cI kI
 have bI:=FI.binds (ps:=["places","number"]) fun _ _ _ _ _ _=>ls2 fun _ _=>rfl
 have FU:=B1 (st:=sUp) lU cU kU
 have bU:=FU.binds (ps:=["places","tie"]) fun _ _ _ _ _ _=>ls2 fun _ _=>rfl
 have FV:=B1 (st:=am5) lV cV kV
 have bV:=FV.binds (ps:=["places","ties"]) fun _ _ _ _ _ _=>ls2 fun _ _=>rfl
 have FT:=B1 (st:=ap6) lT cT kT
 have bT:=FT.binds (ps:=["tally"]) fun _ _ _ _ _ _=>ls1 fun _=>rfl
 have FO:=B1 (st:=ax1) lO cO kO
 have bO:=FO.binds (ps:=["tally"]) fun _ _ _ _ _ _=>ls1 fun _=>rfl
 have FG:=B1 (st:=ai8) lG cG kG
 have bG:=FG.binds (ps:=["tally"]) fun _ _ _ _ _ _=>ls1 fun _=>rfl
 have FA:=B1 (st:=Y3) lA cA kA
 have bA:=FA.binds (ps:=["numbers","most","r"]) fun _ _ _ _ _ _=>ls3 fun _ _ _=>rfl
 have Fβ:=B1 (st:=Y2) lβ cβ kβ
 have bβ:=Fβ.binds (ps:=["numbers"]) fun _ _ _ _ _ _=>ls1 fun _=>rfl
 have Fω:=B1 (st:=aa8) lω cω kω
 have bω:=Fω.binds (ps:=["tally","most"]) fun _ _ _ _ _ _=>ls2 fun _ _=>rfl
 have FW:=B1 (st:=as1) lW cW kW
 have bW:=FW.binds (ps:=["tally"]) fun _ _ _ _ _ _=>ls1 fun _=>rfl
 have FF:=B1 (st:=aa9) lF cF kF
 have bF:=FF.binds (ps:=["tally","many","passed_over"]) fun _ _ _ _ _ _=>ls3 fun _ _ _=>rfl
 have FL:=B1 (st:=am6) lL cL kL
 have bL:=FL.binds (ps:=["tally","place","ends"]) fun _ _ _ _ _ _=>ls3 fun _ _ _=>rfl
 have FY:=B1 (st:=as5) lY cY kY
 have bY:=FY.binds (ps:=["tally","place","ends"]) fun _ _ _ _ _ _=>ls3 fun _ _ _=>rfl
 have FX:=B1 (st:=aM8) lX cX kX
 have bX:=FX.binds (ps:=["tally"]) fun _ _ _ _ _ _=>ls1 fun _=>rfl
 have FN:=B1 (st:=aM6) lN cN kN
 have bN:=FN.binds (ps:=["word","most"]) fun _ _ _ _ _ _=>ls2 fun _ _=>rfl
 have Fν:=B1 (st:=sNW) lν cν kν
 have bν:=Fν.binds (ps:=["word","most"]) fun _ _ _ _ _ _=>ls2 fun _ _=>rfl
 have Fτ:=B1 (st:=as0) lτ cτ kτ
 have bτ:=Fτ.binds (ps:=["web"]) fun _ _ _ _ _ _=>ls1 fun _=>rfl
 have Fρ:=B1 (st:=as4) lρ cρ kρ
 have bρ:=Fρ.binds (ps:=["parts"]) fun _ _ _ _ _ _=>ls1 fun _=>rfl
 have FK:=B1 (st:=ae4) lK cK kK
 have bK:=FK.binds (ps:=["question"]) fun _ _ _ _ _ _=>ls1 fun _=>rfl
 have Fδ:=B1 (st:=as2) lδ cδ kδ
 have bδ:=Fδ.binds (ps:=["told"]) fun _ _ _ _ _ _=>ls1 fun _=>rfl
 have FR:=B1 (st:=ae2) lR cR kR
 have bR:=FR.binds (ps:=["kind","pair","tally"]) fun _ _ _ _ _ _=>ls3 fun _ _ _=>rfl
 have Fζ:=B1 (st:=ab1) lζ cζ kζ
 have bζ:=Fζ.binds (ps:=["question"]) fun _ _ _ _ _ _=>ls1 fun _=>rfl
 have FC:=B1 (st:=ax4) lC cC kC
 have bC:=FC.binds (ps:=["script","k"]) fun _ _ _ _ _ _=>ls2 fun _ _=>rfl
 have FE:=B1 (st:=aC7) lE cE kE
 have bE:=FE.binds (ps:=["cell","many","size"]) fun _ _ _ _ _ _=>ls3 fun _ _ _=>rfl
 have FD:=B1 (st:=as3) lD cD kD
 have bD:=FD.binds (ps:=["cell","places"]) fun _ _ _ _ _ _=>ls2 fun _ _=>rfl
 have FH:=B1 (st:=U5) lH cH kH
 have bH:=FH.binds (ps:=["places","ties"]) fun _ _ _ _ _ _=>ls2 fun _ _=>rfl
 have FM:=B1 (st:=aM3) lM cM kM
 have bM:=FM.binds (ps:=["cell","most"]) fun _ _ _ _ _ _=>ls2 fun _ _=>rfl
 have Fφ:=B1 (st:=aM7) lφ cφ kφ
 have bφ:=Fφ.binds (ps:=["word","most"]) fun _ _ _ _ _ _=>ls2 fun _ _=>rfl
 have FP:=B1 (st:=aM4) lP cP kP
 have bP:=FP.binds (ps:=["word"]) fun _ _ _ _ _ _=>ls1 fun _=>rfl
 have FQ:=B1 (st:=ae1) lQ cQ kQ
 have bQ:=FQ.binds (ps:=["row","places"]) fun _ _ _ _ _ _=>ls2 fun _ _=>rfl
 have FS:=B1 (st:=am7) lS cS kS
 have bS:=FS.binds (ps:=["tally"]) fun _ _ _ _ _ _=>ls1 fun _=>rfl
 have FJ:=B1 (st:=ae3) lJ cJ kJ
 have bJ:=FJ.binds (ps:=["tally","r"]) fun _ _ _ _ _ _=>ls2 fun _ _=>rfl
 have Fη:=B1 (st:=ak7) lη cη kη
 have bη:=Fη.binds (ps:=["tally"]) fun _ _ _ _ _ _=>ls1 fun _=>rfl
 have Fμ:=B1 (st:=ax2) lμ cμ kμ
 have bμ:=Fμ.binds (ps:=["word","numbers"]) fun _ _ _ _ _ _=>ls2 fun _ _=>rfl
 have Fκ:=B1 (st:=ab0) lκ cκ kκ
 have bκ:=Fκ.binds (ps:=["row","places"]) fun _ _ _ _ _ _=>ls2 fun _ _=>rfl
 have FB:=B1 (st:=ax5) lB cB kB
 have bB:=FB.binds (ps:=["cell","most"]) fun _ _ _ _ _ _=>ls2 fun _ _=>rfl
 have FZ:=B1 (st:=aH5) lZ cZ kZ
 obtain⟨⟨c,PT⟩,hcp⟩:=A7.mp tb
 have hc:=bk2 hcp aO lO
 have ept:aU7 K=PT:=by unfold aU7;rw[hcp];rfl
 have ets:aw6 K=[(c,PT)]:=by unfold aw6;rw[hcp]
 rw[ept,ets]
 exact⟨k9 "law" "law" (v7 aH5) (q0 aH5) (i6 aH5) .none kVZ dcZ pmZ anZ cdZ ctZ,fun s v=>.of_eq rfl,fun base _ _ hL=>bO2 FZ B (j4 X G mo) (j4 X G fg) (j4 X G ma) (j4 X G rf) (j4 X G kd) FI bI (j4 X G aI) FU bU (j4 X G aU) FV bV (j4 X G aV) FT bT (j4 X G aT) FO bO (j4 X G aO) FG bG (j4 X G aG) FA bA (j4 X G aA) Fβ bβ (j4 X G aβ) Fω bω (j4 X G aω) FW bW (j4 X G aW) FF bF (j4 X G aF) FL bL (j4 X G aL) FY bY (j4 X G aY) FX bX (j4 X G aX) FN bN (j4 X G aN) Fν bν (j4 X G aν) Fτ bτ (j4 X G aτ) Fρ bρ (j4 X G aρ) FK bK (j4 X G aK) Fδ bδ (j4 X G aδ) FR bR (j4 X G aR) Fζ bζ (j4 X G aζ) FC bC (j4 X G aC) FE bE (j4 X G aE) FD bD (j4 X G aD) FH bH (j4 X G aH) FM bM (j4 X G aM) Fφ bφ (j4 X G aφ) FP bP (j4 X G aP) FQ bQ (j4 X G aQ) FS bS (j4 X G aS) FJ bJ (j4 X G aJ) Fη bη (j4 X G aη) Fμ bμ (j4 X G aμ) Fκ bκ (j4 X G aκ) FB bB (j4 X G aB) (bP4 kl) (j4 X G aTallyError) (j4 X G aBadTally) ⟨qBadTally⟩ (j4 X G aNoText) ⟨qNoText⟩ hc (hL (c,PT) c5)⟩
theorem walk {l:PySem.W.OpenLaw} {q:Program} {loose:List Str} {d:DefRec} {K:Params->PySem.W.Frag} (hn:l.most=some 63) (hdf:d.params.defaults=[])
  (hY:∀ (w:World) (h:Heap),YP w h->(K w.params).In h) (hK0:∀ w:World,PySem.W.noTabs (K w.params)=true) (hrec:((PyProof.Rows.recsOf q).find? (fun e=>e.name == ("order_of":Str))).isSome=true) (htb:∀ w:World,(PySem.W.tabIn (K w.params) "order_of").isSome=true)
  (F : ∀ (w : World) (mg : Str -> Option Value) (fa : Addr) (h : Heap), (K w.params).In h -> h.Ns d5 mg -> mg d.name = some (.ref fa) ->
   ∃ fd:FuncData,(∀ (s:Shared) (u:Value),bd0 s fd ⟨[u],[]⟩ [("script",u)])/\∀ base:Heap,(K w.params).In base->base.Ns d5 mg->(∀ q∈aw6 (K w.params),au4 base mg q.1 q.2)->x5 l.prog w (K w.params) mg base CX0 8 fa fd ["script"] (aY7 (K w.params) (aU7 (K w.params)))) :
  PySem.W.WalkO q loose XP YP l.row.toRowW d [] (fun f vs=>PySem.call f vs):=by
 refine L2.walk_ofT (n:=63) (k:=8) (x:="script") (CX:=fun _=>CX0) (sp:=fun w _=>aY7 (K w.params) (aU7 (K w.params))) (ts:=fun w=>aw6 (K w.params)) hn (by decide) hdf ⟨rfl,by decide,by decide⟩ hY hK0 (fun w loose mean mg mb h T X=>?_) F (fun w H a ns hl hT hS=>?_) fun _ _ _ _ _ z=>z
 ·obtain⟨⟨c,PT⟩,hcp⟩:=A7.mp (htb w)
  obtain⟨d',hd'⟩:=A7.mp hrec
  have ets:aw6 (K w.params)=[(c,PT)]:=by unfold aw6;rw[hcp]
  show PySem.W.TabsAt (aw6 (K w.params)) h
  rw[ets]
  intro r hr
  rw[n5.mp hr]
  exact PySem.W.tab_of T X hd' hcp
 ·obtain⟨⟨c,PT⟩,hcp⟩:=A7.mp (htb w)
  have ets:aw6 (K w.params)=[(c,PT)]:=by unfold aw6;rw[hcp]
  have ept:aU7 (K w.params)=PT:=by unfold aU7;rw[hcp];rfl
  refine⟨a,ns,rfl,hS,hl,?_,fun _=>rfl⟩
  rw[ept]
  exact⟨#[],hT (c,PT) (by show (c,PT)∈aw6 (K w.params);rw[ets];exact c5),trivial,.inl rfl⟩
end Web
set_option Elab.async false
namespace PySem.W.Fast
def tw3238114197273713712:=0
def tw2555033238120706196:=0
def tw668082442870648307:=0
def tw15584467061235144551:=0
def tw4768146315393944931:=0
def tw15708220078686554586:=0
def tw14966317188620070008:=0
def tw2885503217193586436:=0
def tw4519657861358726676:=0
def tw11761229810132151823:=0
def tw18394105013707736667:=0
def tw8510482883215655947:=0
def tw15952935821092664756:=0
def tw5474743896429204557:=0
def tw10732896359433202065:=0
def tw7616806001608057052:=0
def tw3370333397162955354:=0
def tw9205087183922166955:=0
def tw8034692438436480772:=0
def tw2962791186663137051:=0
def tw13249168827382408504:=0
def tw14836722971993341500:=0
def tw3836594819703255726:=0
def tw6165967605191644548:=0
def tw13897296002212412150:=0
def tw14544718087723586773:=0
def tw691857181998016062:=0
def tw7580522274641030743:=0
def tw17667665568012732548:=0
def tw5846331520240060872:=0
def tw317665472836557480:=0
def tw16321412918681532287:=0
def tw772870003356697693:=0
def tw12119935573484567277:=0
def tw6760609212586133075:=0
def tw11342389419347993323:=0
def tw8261114159990947149:=0
def tw14882883423709291405:=0
def tw9643023101491185402:=0
def tw5188853230462442864:=0
def tw8112332366984653655:=0
def tw4637059628515890485:=0
def tw5068089545583831584:=0
def tw7674210019812422527:=0
def tw11581696110066293133:=0
def tw693985727996064144:=0
def tw9979312216826216436:=0
def tw4628192603299897815:=0
def tw10576639603852653790:=0
def tw11710803102645935605:=0
def tw11428360486689341846:=0
def tw9789533994098850967:=0
def tw8652536810607046543:=0
def tw17458539424253449617:=0
def tw297409944034348908:=0
def tw1323969699253625945:=0
def tw11190503750729542841:=0
def tw1466996298567222821:=0
def tw232264619536193738:=0
def tw16725721373604436944:=0
def tw12807536496687503797:=0
def tw3800141134785510213:=0
def tw4433036918184558895:=0
def tw9411675439032251957:=0
def tw15759224360945831100:=0
def tw4298080912525812093:=0
def tw7348878320980174258:=0
def tw18127650507703411593:=0
def tw11057084150332427407:=0
def tw6443620523251778796:=0
def tw2035093213080457367:=0
def tw10279081843096085961:=0
def tw8894348624910193142:=0
def tw10203139913034220709:=0
def tw6164743360870792830:=0
def tw13254529435854862685:=0
def tw13013183727646838526:=0
def tw8530784702630615986:=0
def tw11671643366264459025:=0
def tw10140708292992470048:=0
def tw1285085245887101937:=0
def tw13910651360433172987:=0
def tw8858964465132757774:=0
def tw7061847648201640473:=0
def tw11080297349842406627:=0
def tw8675442041013713414:=0
def tw7611300005288435478:=0
def tw256618306314167846:=0
def tw3557671503917601450:=0
def tw4036874962969636093:=0
def tw5569258503293141963:=0
def tw12724811986930050134:=0
def tw16118726457817116036:=0
def tw15974251235265810223:=0
def tw12981669303569892177:=0
def tw7950608184902313847:=0
def tw2437675005163459511:=0
def tw5196174990797747434:=0
def tw18402313980825326430:=0
def tw801890039991278533:=0
def tw9917118453342119243:=0
def tw8133656152684534194:=0
def tw6482874169637187733:=0
def tw12199839483286820071:=0
def tw10697105210072936957:=0
def tw3914813338624780645:=0
def tw532417080483632401:=0
def tw3228925140093293185:=0
def tw4287355784859809671:=0
def tw10307730626520861535:=0
def tw12608606912270306382:=0
def tw7961992694180129536:=0
def tw552955904175206803:=0
def tw13353579569841700948:=0
def tw9616710182951297450:=0
def tw2566112131307560843:=0
def tw1973127847204079628:=0
def tw11329774872210236811:=0
def tw17757009411864309669:=0
def tw9658039826633695147:=0
def tw15354245451170566800:=0
def tw8961874815408509579:=0
def tw5945575122737068293:=0
def tw14570496215564940696:=0
def tw6277763093739157771:=0
def tw18062148090920043184:=0
def tw15574879139796514611:=0
def tw14094294174934991690:=0
def tw9756114145319302907:=0
def tw10474180665539009323:=0
def tw9230633165809143772:=0
def tw5315178773669584699:=0
def tw17568905758165659109:=0
def tw16016805973440902653:=0
def tw5025359229717487269:=0
def tw4496855752159271750:=0
def tw13664462887189098850:=0
def tw10709492398269951014:=0
def tw14347255891069790312:=0
def tw7932394130326635605:=0
def tw16330545588459365653:=0
def tw12815739320812409697:=0
def tw16135156652668679682:=0
def tw8256099101475081763:=0
def tw3738516179059178638:=0
def tw6061263966051461750:=0
def tw2670334552101143776:=0
def tw2923531123195922549:=0
def tw15544017529555204945:=0
def tw57377894095119265:=0
def tw4503391757521238427:=0
def tw17887283063465687966:=0
def tw4749187421059430968:=0
def tw4874761795127718533:=0
def tw5981893860916103213:=0
def tw4658928424936355579:=0
def tw16769137668535712994:=0
def tw12708398659911629807:=0
def tw8094000411270922147:=0
def tw11286572737536976197:=0
def tw7182155563201176935:=0
def tw9848247300103235227:=0
def tw14662937937940445156:=0
def tw1363707727309911838:=0
def tw18383156356147892232:=0
def tw3785927815099753826:=0
def tw2107647852273074491:=0
def tw2970698282600966705:=0
def tw15141923941616070552:=0
def tw15245045309642873134:=0
def tw16718904758755265231:=0
def tw16990313856966516698:=0
def tw16091341275356863225:=0
def tw1205837961559184221:=0
def tw1426812951740161426:=0
def tw7889023215581432125:=0
def tw11154413219960711384:=0
def tw12110764189682321528:=0
def tw11841571683131694237:=0
def tw4013663750262777528:=0
def tw7929631763252516840:=0
def tw3594670381246332815:=0
def tw1118261156594850465:=0
def tw5434637559681371999:=0
def tw14047472433357822156:=0
def tw8094050088188789484:=0
def tw5726230814492114429:=0
def tw1654018717529628051:=0
def tw4030635890815058182:=0
def tw48466688750631828:=0
def tw15855675333680020312:=0
def tw6816695007179497958:=0
def tw3432130960712108202:=0
def tw9630913213847087421:=0
def tw2729654167340817522:=0
def tw11771361104544672835:=0
def tw52166496990505768:=0
def tw7174852769412501059:=0
def tw7885451130887826031:=0
def tw17063474574143178522:=0
def tw15696766274215844279:=0
def tw12344603834854179912:=0
def tw1574415321075084107:=0
def tw11090492198431347932:=0
def tw15478541189603111695:=0
def tw12186494392655741155:=0
def tw15393666469232892851:=0
def tw6920048664885113498:=0
def tw8865052624833645620:=0
def tw2195496879605102377:=0
def tw15274905413743849509:=0
def tw8661748993970163620:=0
def tw1104331320382075474:=0
def tw18134067608347641461:=0
def tw16210359797880190704:=0
def tw2062456328742399526:=0
def tw13846226815236157580:=0
def tw4845335305005520707:=0
def tw4632899830754825877:=0
def tw5353385489120412838:=0
def tw1539861572142447663:=0
def tw9657004848890145336:=0
def tw2107563675348714367:=0
def tw1298545938567869012:=0
def tw13480987959957374421:=0
def tw15482587127104912751:=0
def tw13679617891679703851:=0
def tw13619697336132201015:=0
def tw2741261684894144172:=0
def tw7636575244917880349:=0
def tw3803906251554244764:=0
def tw8960951231440345723:=0
def tw14091644871604930577:=0
def tw2411236165084956197:=0
def tw8972892740396045212:=0
def tw9869997329370000742:=0
def tw11095343289492259714:=0
def tw17132197818942321826:=0
def tw12716558015598392006:=0
def tw1826058231872161106:=0
def tw10685846586845714961:=0
def tw10661555413378294039:=0
def tw9830698602802984252:=0
def tw6488742887292729275:=0
def tw14221429376319261105:=0
def tw8903738640156005177:=0
def tw12791688143893283840:=0
def tw15994591553283990076:=0
def tw18157554877189192268:=0
def tw1347615993730413375:=0
def tw383755150824689376:=0
def tw5284299317546103960:=0
def tw16608141448543673994:=0
def tw1965532290282468826:=0
def tw15059081721750462739:=0
def tw10315726142364453658:=0
def tw14580217818267843662:=0
def tw7242795673339522865:=0
def tw12161433934208954342:=0
def tw13597696012118910707:=0
def tw7138836095723820640:=0
def tw8865000303626716079:=0
def tw3234839995320547055:=0
def tw6586067173343207604:=0
def tw6972343638875669170:=0
def tw18135959561259001034:=0
def tw7942427788786682604:=0
def tw4825136715826177328:=0
def tw13479237680519614914:=0
def tw12225398036005998137:=0
def tw11927941562545852684:=0
def tw6623245439080986349:=0
def tw5424311722704642884:=0
def tw16053065700807439847:=0
def tw16734523855334376962:=0
def tw10662334354759048778:=0
def tw11639252608727522335:=0
def tw7478785226940147089:=0
def tw12332274359498755374:=0
def tw10800523175534710966:=0
def tw16035216672188960665:=0
def tw12854346767086155410:=0
def tw10105538487684992536:=0
def tw13866038238744259804:=0
def tw13376495603420744993:=0
def tw16548725716661142810:=0
def tw10509577323921219997:=0
def tw11337172519912161022:=0
def tw6260877513996065507:=0
def tw2407339956603636994:=0
def tw15475582623383947880:=0
def tw4250546386644754819:=0
def tw4237302324607499397:=0
def tw125775907147326104:=0
def tw6410628818047566693:=0
def tw13265511582449544960:=0
def tw7323211840321042725:=0
def tw11887383838031932635:=0
def tw15682602206411034607:=0
def tw18106330394400990:=0
def tw11583602484431827113:=0
def tw9352176271165942148:=0
def tw976430253353107667:=0
def tw17229944423254771444:=0
def tw3847110138851250327:=0
def tw13934590357154851309:=0
def tw14262566522443828740:=0
def tw5701980324924273338:=0
def tw711448850786448284:=0
def tw7807823094173462411:=0
def tw9512098610334993320:=0
def tw1349116369612061853:=0
def tw12690886801294708403:=0
def tw6389455495810788328:=0
def tw7030233720691282635:=0
end PySem.W.Fast
open PySem PySem.W PyProof.Rows
set_option maxRecDepth 100000 in
set_option maxHeartbeats 0 in
theorem PySem.Challenge.cw_tallyweb_k62_web_answers_holds : PySem.Challenge.rw_tallyweb_k62_web_answers.Holds := by
 w_on; o_law; k_head; (case hw => w_witness2)
 k_fill
 refine Web.walk (l := PySem.Challenge.rw_tallyweb_k62_web_answers) rfl rfl (fun w h Y => PySem.W.km_in_of Y) ?hN0 ?hR0 ?hT0 ?F
 case hN0 => intro w; kernel_rfl
 case hR0 => kernel_rfl
 case hT0 => intro w; kernel_rfl
 case F =>
  intro w mg fa h KX G hmg
  refine' Web.all_mk KX G hmg ?aI ?lI ?cI ?kI ?aU ?lU ?cU ?kU ?aV ?lV ?cV ?kV ?aT ?lT ?cT ?kT ?aO ?lO ?cO ?kO ?aG ?lG ?cG ?kG ?aA ?lA ?cA ?kA ?aβ ?lβ ?cβ ?kβ ?aω ?lω ?cω ?kω ?aW ?lW ?cW ?kW ?aF ?lF ?cF ?kF ?aL ?lL ?cL ?kL ?aY ?lY ?cY ?kY ?aX ?lX ?cX ?kX ?aN ?lN ?cN ?kN ?aν ?lν ?cν ?kν ?aτ ?lτ ?cτ ?kτ ?aρ ?lρ ?cρ ?kρ ?aK ?lK ?cK ?kK ?aδ ?lδ ?cδ ?kδ ?aR ?lR ?cR ?kR ?aζ ?lζ ?cζ ?kζ ?aC ?lC ?cC ?kC ?aE ?lE ?cE ?kE ?aD ?lD ?cD ?kD ?aH ?lH ?cH ?kH ?aM ?lM ?cM ?kM ?aφ ?lφ ?cφ ?kφ ?aP ?lP ?cP ?kP ?aQ ?lQ ?cQ ?kQ ?aS ?lS ?cS ?kS ?aJ ?lJ ?cJ ?kJ ?aη ?lη ?cη ?kη ?aμ ?lμ ?cμ ?kμ ?aκ ?lκ ?cκ ?kκ ?aB ?lB ?cB ?kB ?aZ ?lZ ?cZ ?kZ ?mo ?fg ?ma ?rf ?kd ?kl ?aTallyError ?aBadTally ?aNoText ?qBadTally ?xmBadTally ?qNoText ?xmNoText ?tb ?z1 ?z2 ?z3 ?z4 ?z5 ?z6 ?z7 ?z8 ?z9 ?z10 ?z11 ?z12 ?z13 ?z14 ?z15 ?z16 ?z17
  (case aI => k_is); (case lI => k_is); (case cI => k_is); (case kI => k_is)
  (case aU => k_is); (case lU => k_is); (case cU => k_is); (case kU => k_is)
  (case aV => k_is); (case lV => k_is); (case cV => k_is); (case kV => k_is)
  (case aT => k_is); (case lT => k_is); (case cT => k_is); (case kT => k_is)
  (case aO => k_is); (case lO => k_is); (case cO => k_is); (case kO => k_is)
  (case aG => k_is); (case lG => k_is); (case cG => k_is); (case kG => k_is)
  (case aA => k_is); (case lA => k_is); (case cA => k_is); (case kA => k_is)
  (case aβ => k_is); (case lβ => k_is); (case cβ => k_is); (case kβ => k_is)
  (case aω => k_is); (case lω => k_is); (case cω => k_is); (case kω => k_is)
  (case aW => k_is); (case lW => k_is); (case cW => k_is); (case kW => k_is)
  (case aF => k_is); (case lF => k_is); (case cF => k_is); (case kF => k_is)
  (case aL => k_is); (case lL => k_is); (case cL => k_is); (case kL => k_is)
  (case aY => k_is); (case lY => k_is); (case cY => k_is); (case kY => k_is)
  (case aX => k_is); (case lX => k_is); (case cX => k_is); (case kX => k_is)
  (case aN => k_is); (case lN => k_is); (case cN => k_is); (case kN => k_is)
  (case aν => k_is); (case lν => k_is); (case cν => k_is); (case kν => k_is)
  (case aτ => k_is); (case lτ => k_is); (case cτ => k_is); (case kτ => k_is)
  (case aρ => k_is); (case lρ => k_is); (case cρ => k_is); (case kρ => k_is)
  (case aK => k_is); (case lK => k_is); (case cK => k_is); (case kK => k_is)
  (case aδ => k_is); (case lδ => k_is); (case cδ => k_is); (case kδ => k_is)
  (case aR => k_is); (case lR => k_is); (case cR => k_is); (case kR => k_is)
  (case aζ => k_is); (case lζ => k_is); (case cζ => k_is); (case kζ => k_is)
  (case aC => k_is); (case lC => k_is); (case cC => k_is); (case kC => k_is)
  (case aE => k_is); (case lE => k_is); (case cE => k_is); (case kE => k_is)
  (case aD => k_is); (case lD => k_is); (case cD => k_is); (case kD => k_is)
  (case aH => k_is); (case lH => k_is); (case cH => k_is); (case kH => k_is)
  (case aM => k_is); (case lM => k_is); (case cM => k_is); (case kM => k_is)
  (case aφ => k_is); (case lφ => k_is); (case cφ => k_is); (case kφ => k_is)
  (case aP => k_is); (case lP => k_is); (case cP => k_is); (case kP => k_is)
  (case aQ => k_is); (case lQ => k_is); (case cQ => k_is); (case kQ => k_is)
  (case aS => k_is); (case lS => k_is); (case cS => k_is); (case kS => k_is)
  (case aJ => k_is); (case lJ => k_is); (case cJ => k_is); (case kJ => k_is)
  (case aη => k_is); (case lη => k_is); (case cη => k_is); (case kη => k_is)
  (case aμ => k_is); (case lμ => k_is); (case cμ => k_is); (case kμ => k_is)
  (case aκ => k_is); (case lκ => k_is); (case cκ => k_is); (case kκ => k_is)
  (case aB => k_is); (case lB => k_is); (case cB => k_is); (case kB => k_is)
  (case aZ => k_is); (case lZ => k_is); (case cZ => k_is); (case kZ => k_is)
  (case mo => k_is); (case fg => k_is); (case ma => k_is); (case rf => k_is)
  (case kd => k_is); (case kl => k_is); (case aTallyError => k_is); (case aBadTally => k_is)
  (case aNoText => k_is); (case qBadTally => k_exc); (case xmBadTally => kts_exm); (case qNoText => k_exc)
  (case xmNoText => kts_exm); (case tb => kernel_rfl); (case z1 => k_is); (case z2 => k_is)
  (case z3 => k_is); (case z4 => k_is); (case z5 => k_is); (case z6 => k_is)
  (case z7 => k_is); (case z8 => k_is); (case z9 => k_is); (case z10 => k_is)
  (case z11 => k_is); (case z12 => k_is); (case z13 => k_is); (case z14 => k_is)
  (case z15 => k_is); (case z16 => k_is); (case z17 => k_is)
#print axioms PySem.Challenge.cw_tallyweb_k62_web_answers_holds

